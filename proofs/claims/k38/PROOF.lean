import PyProof.Rows.All
import KE.KIntText
import KE.KTryMore
import KE.KDictLaws
import KE.KItem
import Open.Pieces
import KE.RegKTryMore
import OpenK.KOwn
import Lean
import PyProof.EqAt
import PyProof.EqKinds
import PyProof.TupleCall
import PySem.Challenge.RW_inkroot_k38_rows_behind_deeds
set_option Elab.async false
set_option linter.all false
set_option maxRecDepth 100000
set_option maxHeartbeats 4000000
abbrev gS:=List (List (List Int))
abbrev cR:=List (List Int)
abbrev iH:=List (List Nat)
abbrev gM:=List (Int × Nat)
abbrev Gq:List PySem.Str:=["self"]
abbrev Sj:List PySem.Str:=["self","sheet"]
abbrev Wq:List PySem.Str:=["_law_src_here","_law_base"]
abbrev zl3:List PySem.Str:=["_law_found","_law_due"]
abbrev zl4:List PySem.Str:=["row","start","stop"]
abbrev WU:List PySem.Str:=["rows","sheet"]
abbrev zl6:List PySem.Str:=["_law_rows","_law_sheet"]
abbrev zl7:List PySem.Str:=["_law_rows","_law_entry"]
abbrev zl8:List PySem.Str:=["_law_rows","_law_sheet","_law_place","_law_new"]
abbrev zl9:List PySem.Str:=["_law_rows","_law_sheet","_law_start","_law_stop"]
abbrev WV:List PySem.Str:=["_law_src_here","_law_world_here"]
abbrev Mq:List PySem.Str:=["_law_src_here","_law_world_here","_law_house"]
abbrev TQ:List PySem.Str:=["_law_world_here","_law_house"]
abbrev WW:List PySem.Str:=["_law_world_here","_law_house","_law_sheet"]
abbrev cG:=@List.length_map.{0,0}
abbrev dB:=@List.length_append.{0}
abbrev gJ:=@List.map_append.{0,0}
abbrev gh:=@Nat.le_refl
abbrev pW:=@PySem.F.plainAttrs_list
abbrev nQ:=@List.mem_cons_of_mem.{0}
abbrev om:=@List.mem_of_getElem?.{0}
abbrev mS:=@List.length_cons.{0}
abbrev qX:=@List.length_singleton.{0}
abbrev uz:=@List.getElem?_eq_getElem.{0}
abbrev gK:=@Bool.false_ne_true
abbrev gE:=@List.getElem?_map.{0,0}
abbrev jN:=@PySem.F.slot_list_append
abbrev jO:=@PySem.F.type_list_append
abbrev gF:=@List.length_take.{0}
abbrev gQ:=@List.size_toArray.{0}
abbrev gR:=@List.take_length.{0}
abbrev gT:=@List.append_nil.{0}
abbrev ji:=@List.flatMap_cons.{0,0}
abbrev mT:=@List.concat_eq_append.{0}
abbrev iz:=@Nat.le_of_lt
abbrev ou:=@List.mem_append_right.{0}
abbrev oz:=@List.eq_nil_or_concat.{0}
abbrev iI:=@Nat.le_trans
abbrev mU:=@List.append_assoc.{0}
abbrev jI:=@List.map_cons.{0,0}
abbrev lO:=@List.foldl_cons.{0,0}
abbrev xJ:=@PyProof.Rows.boot_isinstance
abbrev sN:=@PyProof.Rows.boot_list
abbrev rJ:=@List.getLast?_concat.{0}
abbrev uA:=@List.take_of_length_le.{0}
abbrev qh:=@Nat.lt_of_lt_of_le
abbrev kC:=@Nat.ne_of_lt
abbrev sO:=@List.mem_append_left.{0}
abbrev rK:=@List.length_drop.{0}
abbrev qj:=@Option.some.inj.{0}
abbrev yv:=@List.drop_of_length_le.{0}
abbrev rL:=@List.length_nil.{0}
abbrev yx:=@List.length_replicate.{0}
noncomputable section
namespace PySem.W.Fast
local macro_rules |`(universe $i*)=>do return Lean.mkNullNode (←i.mapM fun x=>`(theorem $(Lean.mkIdent (.mkSimple s!"tw{((x.getId.toString.drop 1).foldl (fun n c=>n*62+(c.toNat-(if c≤'9' then 48 else if c≤'Z' then 55 else 61))) 0)}")):ident :True:=⟨⟩))
universe a8NbJue18cLi aJxTH1zNFHx5 aDLZP5xXGoor aJCpMPu1eKYQ aGowAuNbx7Ig aGzkcKergiTS a95sHxbxwwdl aBtd2uPjLJ5A a2iCis8HlgJX aIxxLXuk8VDG a96sCJcm1jIS a9Feq6lhqw7m aFjwYAo1AV6B aDqqHEd08YRj aJXOWPZpwStO aLWYAF7qYad6 aLT59Z56DPii aJvlgZ1uaj2A a28Unpi1cd2a aFwnldkprqrm a2J3f0Dtsd3u aKQSHoddk0Xr aIiTM4HsdpcP aGiYdG50dMVQ aEFYyesG3ldg aAEGgVd5Up5D a40gIGelAf1d a3yq7bCrdG7x aEPF9xOf1rlr aGZy3YcgWnRr aHvSA83baDKV a8kDyRQ1E0oR aDDjw2ZGI9ij a8NXP8Vq2kBq aBm3bW9OF6K0 aFaFuOVnx7bL aB5iBBRyN125 aCVhWYN3oPxj a9WajwcDdv4i a1gRWCgk8h27 aBmo7LYkmmJp aCFEYvUX6dWz a1ufrrqoa3aI a4EacZV6Owg7 aKT1npNDze1H a6cK9AviZX72 aJGD3ng5zFpi aKbnx8PZmqd5 a3EpjHZZXm00 aEEVFcKkn0jS aD8YpGophd8N aAqZNrUODqpr a1nMaXatqoC9 a980XAEeWD8g a8vvyAgvWCyc aCDp0yyrtu0n a5WnKqHQFWuu aLGmywb2LCVW aKYhq8sqUfyd aHCXHE4TRBvH aFLbsCFAObh0 a3MVcZ3Yfbc awbMTo48QV7 aFDNfYNDCWke aJROXBggJvSZ a1WzNXRmshCc aGwJ3XsN3uEK aEMo48A3vW7Z aKEEgv8F6wWp aEMkOqLfLPXz aEumP50yRvWw a4RM4ZZX2uo3 aw6guYeFoUH aAuqzyscjKrK aFqCrX2MmTqX aK8SzJk1yhi3 aDuOkuQOhVoi a3gSu3dbcejY a4FSYiL7jyiy a6vKbioMCpCV a9jvmpLa2TUb aEbE85rU3L2F a4npLnAftZ3E a3vHD6FUyUpE aHuAdFrWPkHh aKpKXR1j8vm2 aD7vmisPkTGb aCzF69NxhcD5 aC2yJXM6NOcX a7603CUogeMz aARHzJvwzCEh aIXJDWJR96od a9HcBHMKZ7Qi aCFdCiq7Qa1X a3nuXTRE6vIM aL27Sfb5yYRP a6a2OdsQz8f6 a1emeCjvh3IE a98RSBXcjQ9t a1x6XIf7nAVS a8GRhtMK3RIH aBZD5B9ajClM aKKFPe1CdEXs a9z8jSsHfbI8 aLMGWfOY2I2b a8n5appZHFps a86UjYUbPPGm a98zR8lyxcQK aHTqIM8CilBy a6tqMbgU5pz2 a81tQQHVA3Ce aA8CSdFD69ti aKkka7SsQL8o a4cZl02XDBnn aFv9hXI5dN33 a7TjTt0f1T8z a2dTnfIEkS5d aCtuwDHUXcsI a2wt6YKWNtHK aI91Da5rYbus aAHf1PmyL4Do a1UZE9Pi0BFr aF8piZojiWLM aGm1ZdIQVgD1 aIluK4nJ3kSR aDBs3gTJ1ESH aLLdYmWi8Pm9 a4kq6WAvU0N3 aI5jy0rklAGd aKomHcrsiuIM aBnIDFlSTxSw a3GZudyeeOK7 aBBwh2TdRZOD aJPGB25HJuCU a4a0H62Uvenx aDKGMviBkVQf aI5zTM4BLtL4 a9Q8JGxp7ZvG aJrxiAovxFUf aLui2pLQcWQ4 a9U51K1vLeJu a9oFJ0ZABVQj aDBhMUp5MjpT a43JhADF7IWY aG09KxYSi8Se aHiE0kxDSQtC a2BTYO0LwGDF a2BainervmII a1uhhg37Fdld a1oox2iKOhq1 a2QKp3dgyHJK a9fInSJyurf7 a5SlICoSWJi0 a4Sb8Qc0sd2r adPtEtE9Mhp a7XdPE0oKTc1 a8o2wkoH8fcG aJGCNh9JOwxU aGMu0RSAXR68 aKAX1ja9p1Ki ak0SxWy85LS a3a4qsbvSUPZ a9mKAPAzHaCn aEtye34GY5GA a4xIkvV8uqft a7IUYYGEX3Ke a2mN8bY6UtIp a5sf8wywb8DV aGNkIa8JPb8x a9oH2Gm5Fz3b a3WtwrevEih9 aFHiH2OY7gwk a2BxdRyBWNfB a4nb0K5c7wJu aIf0Vp02ymSB aDRfjEzOMJJM aFzOpIVDEgDU a71cPjunrCO8 aFPaXc3rmORy a93Ow8B6qJ8m aLxNAGi0xIx4 a25Zsq1Ds2qA aLICDhebolb5 aG1vZ0pn5X7s a8jh03mhW5MA aEd5svnjjbdc aISQoskHZPOy aB9Aqh5C07LT a2Tj3ayU2tyK a62f9D34TVC9 a56ujHa3IhEJ a8lKV7bI02Qc aI0BOX4TLZks a6SBzu3kAHmx a9B9UvdCPUiT aFYOcKzExazb a1ANQgKeqNSv aL74FEbs4A8P a5d3qAf9NVLk aLYGlGt3S9U8 a2BWh7sA9VIh aKUbxYBQft86 aKXk3v5kaMNX aKS0DKMmYTVQ aAcQedFhu3Uy aGf6izwWugkf a9xsZGfYHJsE a8scujpDwQMp a1r1qex2eO4S aHfugFhTlwFO a2UDd5oWnEPK a6Kaud3qx5wN a9DhBCCFa48w a8IT78xCcLxQ a6jEC8DKTfy3 aKvZAz2dMUzP aGtEVzPtKqyw a5xwfVcEkfHt a1GsdG004Ova aLPwkQypRSXZ aEEnqZoZZTwV afaj3cMTaTh aKQUO8Jh51Tb a3t40OmHgyqN a3eSWQcU1D9W a1YGmseXqIMi aJCr1csJCYvk aCIQ14DVuhhA aGcH9cJR7es3 a87OKlvaiVfa a9bPItBVDoT8 a6hc2ehlj2f aLDUPIt6QQtH a6qhg9YdYdaq aH6XCgHVDhjd aIPWD7HdcLxR aLHEe6QDPuBw aDK2olbgwe4R aG6lziPs38oG aHU08BAbnfnW aqaQbYaWIdk aCzyRx3Avwjt a3vZe7sbB0cN a1yyRoQaNhcc aIRgBFizPntF a3xTKSy7bIoI a1tXYQY5KdM3 aLAapeu8dWVZ aJgy47n3WcPq a2a2CHZCJeFv a8o2h32Am8Ax aBqt4Bt6ncMV a1QQ3G7y9Lr a4JgMv36OrIg aCkuG7ZWy4LO aGLeUUeJdehS aLTjGf0SForU aFIDnKfGVsIu a7td4WPmUTXt aCsfo5uJfZsT a2VkOYKtuaqV a2TkRHUsPAXF aFNYn2YxCWPa aALRphpdwo99 aCjqVNGkQCWN a8Hj5zFnfv0X aKRoN4kArzmZ aJdc92ggj03v aLx12q25Qv3e aIZIQX5eecPU aKR5pJ7FTqXE a2haUu84zyPB aG37i32yUjxX a90qwiocpO7c a8L6wIBlTO6A a6AbYWaXR0iB aEZcKLiI9pyM aIP7yzTPzfEs a1C6tXwloAZF aBWvqn8eyAsy aDcLsVk5bExR aLNJL3Rv9HwL aLWtFNQh9jTR aBiELtaTyuUM a1JXkVe77XKt aA1QFFIH6sTj aGYtfkVoiAbG a20M9fB6x14C a5mGfHAhKeBS a31OHdGpCXBw a1U6lC4TOoyU aA8joF8sQ7nH a1ie5NJLkwls a5DwS8wrh1fY aDisGR5jWi4c aCeKupiuZXSc aJXsn2pAtjuv aBYK6BKZj3jk aItLeXYaN12g aeyWAhtrHFy aJsYQT0dp1tK aIc5rBLDyW8I a21pa0xSI88l aIRWssOiz6P0 a78iC9Kf0VXy aJDU2WDnCkqh aAwQW3BzQGm7 a8GRG5hkaKbz aI5RvJbkzQeg aCz2bUfjMa57 aAJ9FFMQ7enT a7WcC3GxFCqW a2g6OKQ6OEwI a1bmDsIIltPq a28EvJ39TdQ7 a3wMn0Q0HCgO aHUpXt3N0BNe aaNPCAo7Gvt aBsIEYRQAuLE a3KjZhPd1Ddh aDodWHrDp3mv a2ux5kydpnbb a7uh3BhGBBak a85He9FMeMKB a7SgJT6uzlv0 a9BjPi3qPULd aHoMcDSosuXG aCkka8iitJ9W aG3OU1dhIjWt aDdqiojQAuby aBqyMuV95bix aC8DEkoRKEEd aLdbGwkX0jcP aKjzMY7CNrdB aaxpc6tz7jl azwvX155tlw aLuSUNidphgd aB5mr53ulMW6 a5JivfWCCsYS a5MtPHdeF4Ld a65G6SOwwTCt a1P2HiEn1hjw a6f5Ld4fUgvu aFWaUBGZXcik aGMRpshCit7C a1ZYfARvpIIF a70AunVbbb2v aD9nViTAnvgi a803s4OYlWIL aEP7a30LPPZE aFx7zHb145wV aJepFWE34uH6 a5pqa8Fz7T0V a7U9vRFGJeoE aC6cu9lQTL26 aC4qSjKrpM49 a6f3SOORwwJ3 a6v75QPFDkmw a5efBxYRt6oj aFtUe8cYEQMV a1msveoScoY3 a4G0Xp1U5jxw a8GNShmkdsoV aE1mRai1OaPU aJrqLc2MJhvb aGcOJeWJD4IL aL5zhUh5zQBd a2mo7n0zzWJM a3xwc6eyPW9u aGJFgWRMZwYy aIhXScbFjPmH aK21mhVxLgXZ a12iQUwCJBKR aIhY1MDZGGLI aEPVFS7rMRCV a33hZG0IBUQ9 a7oRUIKxlsIe a3fZfKDKw8Ni aA4O2IfXzGdd a90gAd2LXjon a4ciHRV6bbBJ a6MgLX32EN1E a29bvxuYXwA9 a4SrVwJb70wm a5kPR9yRc3U8 a8L8duIqOb5l aJIPLEb9ihah aBFGc6sFR4bt aGVyv83eSJWC a1rjhNz0L5b5 aKRZUrSFBgcV aGMNQGGwLa1W aJ8AKbEUsXUW aGyju75ULb31 aZFuENBARkW aKLZtl5ekjyx aHnnRGSXIcPE aEVOypMmoYWN a4Cl7NRCrbhJ aHMG0os9HxpV aAWwkoDjFKpv aBub3MM500D6 aKpbZhib5Kcn a3hquI8tEO2o a1s68hFl13Qe a1ahMSEc57Kr a5Aw3j62jFge a23t5iNYm5RM a2zk3vdVpXQj a3Zi4Layi3FQ aEf90liD3Cwo aIgrMU6InDNV a4tKZbCKNjh8 aF6DZ3gP2DuS a8f5k9d1vmUc a1pdf1lbfHG0 a5CcE2hjQAKS aCyjG1OCzE0l aHZqQgmxklmL aJKfp2hwEMxS aHvpyWqE0LqZ a1eHTkI0Hrp4 a7ss2VCOpStX aEX1aktPZgKx aJH0bwkjFwqv a6U8yhJphqxa aAhMoeMcazxr a9uSnoTRMKER a1oQR1YF0S6h aChJCjbM31pi aHEszfY18wzc a2Z45Dm0PrqS a6p6TMNtrnUm a535uDMoC2D8 a9EHQ2Gxx8iG a7bW9tPeW8Pt a37Nsv847Xdx aJtFlysynnb7 aDOl5Wd4FR74 aFm9P1ZIxqDo aIIO5L6dK5qj aIAXrD2LkzCe aIAxNGbFT9MA a2PsTxijuU1L aIYNm5rrYS5S aJ99drkyGV3P aBzO066urFVG aEhyIxLNPXjy a8260WkmbQ7V aGQiWEhkLX4u a7A2eaSeSeHv a9TUxi5lpkZE aCIDP32Ys5dI aEsIA4gaxCxX aCvFO0POoTRJ aI4EEtl1gGrn a7QPZmm0om94 a79r8zNkFU9h a5I0KvHSclq2 a9lTmqOZ0jCe aLG2VVyxku7G a7eF4IqwD4cb aFwcrKBNULlP aD7tGOoFsCgz aCgEjcpzBTDr aDg6I9V6xY14 aB2vX51ENWQR a7ILMHAdDVex a2lhUBXDM92t aITEck3yZyDu aG4PK0Ju254z aC4vT2O21v9B aEwD5lUuuns5 aLsjKbOxibcF aCzC5zu7tjsl aDcQflPqoi7h aHxZ8piHTnFq aKbxIvZIkHBk aFjrhRcBHV5i aBYTr3AX67LA aA1y6TUv0U98 a9UJmfdkReVx aGkfL4HRbxbu a6A2lnY2Je0S aApgY1uZ6CWk aKdWli2tFKg6 aBWEgB8mR6zu aENany8OyBoo a9KLoOEhQ7rU aLeb3dBTw7Y5 aGwQTLfd9fP2 a3VCuJ21y2q3 aFpYqwQ3lSeV a1sfwEhOlKGH a6ORPj67Stak aA5mzptzfVLJ adnr5fPA8rh aB6gKvkbnpKj aE3s0jb6To7b a84lPJR2lYEe a8hATgzdsOwq a4pqptze5tNm aGd3kccBZ4O4 a2rh9PE3hFzC a83sxbC7P5b0 a53CZXJlzWcH aJCawD5I5lPj aEUS9fV5Ak7Y a7bc5tqdhRqR aFhIU7Kot4yc aDwuOB0n71gC a4H3YZwjQ9hE aGMV1aYOl0kM aHUs5jLNXWOr aLDFqY1nJ5Kz a4WPiO1ozwDl a3mR3q3C1bUa aFQ3ts7uholY aIx9lHopDdkz aBa816YZ0kTr a7QIORijZ5aw a15YK6F1zmou a94DUdpKuksC a5VhX7aOZO6A aEF8SvKbWpfQ a4imnykXptTv a2EdMOvLVulN a5z6O6PGeN00 a9E47REPEpN5 aLRqz5HsA5XJ aLlHQvklLY0e aDwBbzZDEz9e aLjNyBBNfsB9 aImjGnV90Qpe a7RNXFRxQRVM aJ9UVXsEai8U aC6ntWVCesQo aFpAJRSWj9b4 a1XwTpvjZh2H aAfiyuUzPDVc a4HMt9zWZuW0 aAkMfFothiJV a74bP8bCdeP5 aK0FynlTFBQi aFOEPdu7qfYy a6IXcsB3ihfr a8Oi9oqdeVod aEfYHrgZFA1U aoqNGfWR0nR aAV154DlOVDh a7voRosIVRjc aI4fZsiPgh26 aFExZQ95sCDc a8hnK5oWA2NJ aBkhfOx3ECWJ aCNTGtrculSd aCOJM6bikh5q aGJKhU9fF9KC aI5NMkjkmbg aApujExIHCyr aGoQAJ9cpJJh aAmqzVzoAat2 aGmyzBWeELjn aHqbyq3WAE15 aJUCC7J4Ics5 aBXA9b4vgpYE a8XApz9YWQsL aF1zYkOTPO9p a7epZmnGBDfx a7JyoT0viPjS aEYa6Ybcfrot a3TNUneBiTEm aCDULJULdxcT a1ykKLeysm3q a4WfYQLfG2eY aHGZbcIbKIth aG7X5zcPYQeM a1meq2L6yXQF aJYiFW2RO0Za a2oI6gnqpcQD a8WOHW4rnMAx aBcEBHxX0Rt6 aLKTV9QrzvPV a2GKGzjZpZms aD67otR4drXS aRhrQSc1imc aGO0TIrp2j1d aKPVJtUvIt3t aGKeTkye6yTQ aFrEhyYb0WZF a3PJss1JkZBx azPLHgrbTLf a55RjwHdmTJ4 aApHLDBAS7D0 a1JQhBXh2jAR aKj8BXrtjMTf aElmA9H2394L aJSVVHkjYuSP a9IjeHEdrYTM a5WVb9plzSPh aA8hiU9WIwUu aCaZtr2WN0cF aAKnIFrZkCAL aEZYRmhoQ8ic a429uIfNfuWj aGrYUQ9LN3Nl aBo2oCXmqEON a2VSsnq0OGrr aGR8wzqPDo1p aL443ssca6OP a9187fNmB8eU aDLRaYEznS1W aH0mJqnK7BBT a1S82kQSgkB0 a8uX82vlv8ca a7086h0fM5Hd a6s4RAcd13QR aH5ATz5MwGC5 aGJEtuyoTgYV aC9iQj8mTqlp a8BFccjRHnDd a70k7ezi4ooP aLntMKNmaXiZ auJSEI2Sygf a43Dcc2ILqmZ a4pETTPAfOd9 a63TGLGLuzQB a9RxG6IrybUR aA9SLQmydopa a2PxLE3FnZ9z a5V3yX9PEhS9 a3adUBDYKIsV a4meDBsUQgRx a1xQudfBIH3S aBg84RJjbIli aL1VznHCpiV1 a4KSVFWz5Tln aGUOp4V5zgZ3 a4XtPbblTvb6 a2iQCXGk9Wfl aJGxt9Hc4Auy aCGf2NRPezJp a3i4h8cPWalW aBP9nidqO0bM a7MyDGYl6tnZ a7hGphwgpW7P a3CCibc8coLR aELEyoxPqdrD aF2G6DguRwmW aKJmqgEoE5rP aFnxxhhX1HwC a2KsF6TqZcsz aBqMOTbB2ky3 a6hGlKztcxFs aBAhERbpLJWR aA3qi6dTF5aC aGB14ZmjNetb aHZlLu0kTefd aBOQGgtjPjBq aJdUFxOgUNBJ aHsfMYliItMX aKlL48umytjI aAfWaR47lzXK a9vbGpCoi3PV a1R2XOlu5SAM aEGnpndQ8UQi a9kwQ3O8WQ9Q a3AELJwBlA9v aFkUDyhWJc0U aIK5PUHjWR4w a3lT8izZyfE6 a49p7CgmADtf aB6XcYeTxZoT aK1KpmtGcUW8 aJG0KnuWWKwD a1ExVDR5NZrk aD1pvtPzfBgm aEqCq3rEzLOK a9vl6EonQxgF a2le34uFPeFD a1tHSjlkc40k a2CmRXP9gE6h aC8KDMKWcYKa aBZhwLYdH6DA a4ynPrP7o1UZ aDd6oP3k9DNj a8cf3fmxYIhq a4t7s21vGKpf a57rfuJtl8Ue aA5S7MYdBSfn aEm4ctMg9oPI aO1amJav4Bx a2icGMNqnDUK a90uZGLffAWh aH0jMlFlOOHl
end PySem.W.Fast
end
namespace InkHd
open PySem PySem.W PyProof.Rows
def fr(o:Obj):=match o.data with|.freed=>none|_=>some o
noncomputable def pk(s:List Obj):Nat→List Nat→List (Option Obj):=s.rec (fun _ _=>[]) fun o _ h i l=>l.rec [] fun a r _=>(i.beq a).rec (h (i+1) l) (fr o::h (i+1) r)
theorem ps:∀(s:List Obj)(i:Nat)(K:Frag),pk s i (K.map (·.1))=K.map (some ·.2)→∀ a b,K.lookup a=some b→∃ n u,a=i+n∧s[n]?=some u∧fr u=some b
|_,_,[],_,_,_=>nofun
|[],_,_::_,e,_,_=>nomatch (id e:[]=_::_)
|o::s,i,(c,d)::K,e,a,b=>by
 have f:((i.beq c).rec (pk s (i+1) (((c,d)::K).map (·.1))) (fr o::pk s (i+1) (K.map (·.1))):List _)=((c,d)::K).map (some ·.2):=e
 have g:(∃ n u,a=i+1+n∧s[n]?=some u∧fr u=some b)→∃ n u,a=i+n∧(o::s)[n]?=some u∧fr u=some b:=fun⟨n,u,h,k⟩=>⟨n+1,u,by rw[h,Nat.add_assoc,Nat.add_comm 1],k⟩
 cases z:i.beq c with
 |false=>rw[z] at f;exact g∘ps s _ _ f a b
 |true=>
  rw[z] at f;injection (id f:fr o::_=some d::_) with p q;intro h;rw[List.lookup_cons] at h;split at h
  next t=>cases h;exact⟨0,o,(eq_of_beq t).trans (Nat.eq_of_beq_eq_true z).symm,rfl,p⟩
  next=>exact g (ps s _ K q a b h)
noncomputable def kF(K:Params→Frag)(l:List Addr)(e:∀P,l=(K P).map (·.1)):Hook where
 α:=List (Option Obj)
 obs s:=pk s.heap.objs.toList 0 l
 val w:=(K w.params).map (some ·.2)
 says:=InK K
 of w s h a o k:=by
  obtain⟨n,⟨_,_,d,_⟩,p,q,r⟩:=ps _ 0 _ (e w.params▸h) a o k
  rw[p,Nat.zero_add];unfold Heap.get?;rw[←Array.getElem?_toList,q];cases d<;>first|exact r|cases r
 keeps:=(kHook K l e).keeps
theorem kIn_of{K:Params→Frag}{e:∀P,l=(K P).map (·.1)}(Y:(kF K l e).says w h):(K w.params).In h:=Y
local macro_rules |`(tactic|o_head ($_:ident $K $l $e))=>`(tactic|o_head (kF $K $l $e : Hook))
set_option maxRecDepth 100000 in
set_option maxHeartbeats 0 in
open_top hd_k38 for PySem.Challenge.rw_inkroot_k38_rows_behind_deeds
end InkHd
noncomputable section
local macro_rules |`(def $d:declId $s:optDeclSig $v:declVal)=>`(noncomputable def $d:declId $s:optDeclSig $v:declVal)
local macro_rules |`(abbrev $d:declId $s:optDeclSig $v:declVal)=>`(noncomputable abbrev $d:declId $s:optDeclSig $v:declVal)
open PySem
open PyProof
open PySem.W (Frag InstAt callWith_K callWith_K0 cellsFrom_some codeIn emptyDict findIn fnOf handedIn hasDictIn instObj isFn kIn_of keepIn kia_one kitOne kitx_dict kitx_list lookIn makesIn methodCall_KW methodObj mg_none_of mg_of mroIn nsIn plainGet plainGet_of plainOver takerIn typeIn)
local macro_rules
|`(⟨$a,*⟩)=>do
 let mut z:=#[]
 let mut c:=false
 for x in a.getElems do
  match x.raw.getId with
  |`Z=>c:=true;z:=z++#[<-`(_),<-`(_),<-`(rfl),<-`(rfl)]
  |`Y=>c:=true;z:=z++#[<-`(_),<-`(rfl)]
  |`V=>c:=true;z:=z++#[<-`(rfl),<-`(rfl)]
  |`K=>c:=true;z:=z++#[<-`(_),<-`(_),<-`(_)]
  |`P=>c:=true;z:=z++#[<-`(_),<-`(_)]
  |`Q=>c:=true;z:=z++#[<-`(by lia)]
  |`E=>c:=true;z:=z++#[<-`(by decide)]
  |_=>z:=z.push x
 if c then`(⟨$z,*⟩)else Lean.Macro.throwUnsupported
local macro_rules|`(tactic|exists $a,*)=>`(tactic|refine ⟨$a,*, ?_⟩)
set_option hygiene false in
local macro_rules|`(‹($a,$i,$p,$s)›)=>`(∀D:Ds K mg aY bf C CS CW CB CT CD,bw P w K mg zt cL $a (aY $i) (bf $i) $p $s)
set_option hygiene false in
local macro_rules|`(class inductive $n:declId $b:bracketedBinder* $c:ctor*)=>`(inductive $n $b* (vs:List V)(H:Hp)(Q:VK)(E:XK):Prop $c:ctor*)
set_option hygiene false in
local macro_rules|`(tactic|specialize $e)=>`(tactic|refine $e λcV A zn s H vs Q E hr h=>?_)
local macro_rules|`(nofun)=>`(by decide +kernel)
local macro_rules|`(∅)=>`(by lia)
namespace L2
open Spec Rows
abbrev fj:=Sum Int Str
def yz:fj->Value->Bool
 | .inl k,v=>Value.isInt k v
 | .inr x,v=>Value.isStrOf x v
def abd(w:World):fj->Int
 | .inl k=>hashInt k
 | .inr x=>hashStr w x
theorem fk:∀ {k:fj} {v:Value},yz k v=true->(∃ i t,k=Sum.inl i/\v=Value.int i t)\/(∃ x t,k=Sum.inr x/\v=Value.str x t)
 | .inl i,v,h=>by
  obtain⟨t,e⟩:=Value.isInt_shape (k:=i) (v:=v) h;exact .inl ⟨i,t,rfl,e⟩
 | .inr x,v,h=>by
  obtain⟨t,e⟩:=Value.isStrOf_shape (x:=x) (v:=v) h;exact .inr ⟨x,t,rfl,e⟩
theorem JZ(i:Int)(t:Tok):yz (.inl i) (.int i t)=true:=by simp[yz,Value.isInt]
theorem J1(x:Str)(t:Tok):yz (.inr x) (.str x t)=true:=by simp[yz,Value.isStrOf]
theorem TR(a b:Int):decide ((Sum.inl a:fj)=Sum.inl b)=(a == b):=by
 by_cases e:a=b
 ·subst e;simp
 ·have h:¬ (Sum.inl a:fj)=Sum.inl b:=λq=>e (Sum.inl.inj q);rw[decide_eq_false h];exact (beq_eq_false_iff_ne.mpr e).symm
theorem TU(a b:Str):decide ((Sum.inr a:fj)=Sum.inr b)=decide (a=b):=by
 by_cases e:a=b
 ·subst e;simp
 ·have h:¬ (Sum.inr a:fj)=Sum.inr b:=λq=>e (Sum.inr.inj q);rw[decide_eq_false h,decide_eq_false e]
theorem TV(a:Int)(b:Str):decide ((Sum.inl a:fj)=Sum.inr b)=false:=decide_eq_false (λq=>nomatch q)
theorem TX(a:Str)(b:Int):decide ((Sum.inr a:fj)=Sum.inl b)=false:=decide_eq_false (λq=>nomatch q)
def fY(prog:Program)(w:World):PySem.KeyKind prog w fj where
 is:=yz
 hash:=abd w
 inj:=λv a b ha hb=>by
  rcases fk ha with ⟨i,t,rfl,rfl⟩|⟨x,t,rfl,rfl⟩
  ·rcases fk hb with ⟨j,u,rfl,e⟩|⟨y,u,rfl,e⟩
   ·injection e with e1 _;rw[e1]
   ·exact nomatch e
  ·rcases fk hb with ⟨j,u,rfl,e⟩|⟨y,u,rfl,e⟩
   ·exact nomatch e
   ·injection e with e1 _;rw[e1]
 byValue:=λk v h=>by
  rcases fk h with ⟨i,t,rfl,rfl⟩|⟨x,t,rfl,rfl⟩ <;> rfl
 pyHash:=λhv h=>by
  rcases fk hv with ⟨i,t,rfl,rfl⟩|⟨x,t,rfl,rfl⟩
  ·exact wpAny_pyHash_int h
  ·exact wpAny_pyHash_str h
 eqBool:=λhu hv h=>by
  rcases fk hu with ⟨i,t,rfl,rfl⟩|⟨x,t,rfl,rfl⟩
  ·rcases fk hv with ⟨j,u,rfl,rfl⟩|⟨y,u,rfl,rfl⟩
   ·rw[TR]at h;exact wpAny_eqBool_int h
   ·rw[TV]at h;exact SeqAt.EqAt.int_str i t y u _ _ _ _ h
  ·rcases fk hv with ⟨j,u,rfl,rfl⟩|⟨y,u,rfl,rfl⟩
   ·rw[TX]at h;exact SeqAt.EqAt.str_int x t j u _ _ _ _ h
   ·rw[TU]at h;exact wpAny_eqBool_str h
 «strs»:=λk x t v h=>by
  rcases fk h with ⟨i,u,rfl,e⟩|⟨y,u,rfl,e⟩
  ·exact nomatch e
  ·injection e with e1 _;subst e1
   cases v <;> rfl
theorem D0(prog:Program)(w:World)(i:Int)(t:Tok):(fY prog w).is (.inl i) (.int i t)=true:=JZ i t
theorem D3(prog:Program)(w:World)(x:Str)(t:Tok):(fY prog w).is (.inr x) (.str x t)=true:=J1 x t
end L2
namespace L2
open Spec Rows
inductive V where
 | gm | bl (b:Bool) | int (i:Int) | str (x:Str) | Gy (b:Array UInt8) | Sk (b:UInt64) | ref (a:Addr) | ty (n:String)
 deriving DecidableEq
def RelV:V->Value->Prop
 | .gm,u=>u=Value.none
 | .bl b,u=>u=Value.bool b
 | .int i,u=>∃ t,u=Value.int i t
 | .str x,u=>∃ t,u=Value.str x t
 | .Gy b,u=>∃ t,u=Value.bytes b t
 | .Sk b,u=>∃ t,u=Value.float b t
 | .ref a,u=>u=Value.ref a
 | .ty n,u=>u=Value.type n
abbrev cu:List V->List Value->Prop:=Paired RelV
theorem cu.length{xs:List V}{us:List Value}(r:cu xs us):xs.length=us.length:=Paired.length r
theorem cu.get:∀ {xs:List V} {us:List Value} {i:Nat} {x:V},cu xs us->xs[i]?=some x->∃ u,us[i]?=some u/\RelV x u
 | _,_,_,_,.nil,e=>by simp at e
 | _,_,0,_,.cons r _,e=>by simp at e;subst e;exact⟨Y,r⟩
 | _,_,i+1,x,.cons _ t,e=>by
  obtain⟨u,h1,h2⟩:=cu.get (i:=i) (x:=x) t (by simpa using e);exact⟨u,by simpa using h1,h2⟩
theorem cu.set{x:V}{u:Value}(r:RelV x u):∀ {xs:List V} {us:List Value} (i:Nat),cu xs us->cu (xs.set i x) (us.set i u)
 | _,_,_,.nil=>.nil
 | _,_,0,.cons _ t=>.cons r t
 | _,_,i+1,.cons q t=>.cons q (cu.set r i t)
theorem cu.append{xs ys:List V}{us ws:List Value}(h:cu xs us)(s:cu ys ws):cu (xs++ys) (us++ws):=by
 induction h with
 | nil=>exact s
 | cons r _ ih=>exact .cons r ih
theorem cu.take:∀ {xs:List V} {us:List Value} (n:Nat),cu xs us->cu (xs.take n) (us.take n)
 | _,_,0,_=>.nil
 | _,_,_+1,.nil=>.nil
 | _,_,n+1,.cons r t=>.cons r (cu.take n t)
theorem cu.drop:∀ {xs:List V} {us:List Value} (n:Nat),cu xs us->cu (xs.drop n) (us.drop n)
 | _,_,0,r=>r
 | _,_,_+1,.nil=>.nil
 | _,_,n+1,.cons _ t=>cu.drop n t
def rM:Option V->Option Value->Prop
 | some v,some u=>RelV v u
 | none,none=>True
 | _,_=>False
def KV{κ:Type}:List (κ × V)->List (κ × Value)->Prop:=Paired λ(p:κ × V) (q:κ × Value)=>p.1=q.1/\RelV p.2 q.2
def kV:fj->V
 | .inl i=>.int i
 | .inr x=>.str x
inductive HO where
 | lst (xs:List V)
 | tup (xs:List V)
 | dK (kvs:List (fj × V)) | dT (kvs:List (List fj × V))
 | set (S:Int->Bool) (n:Nat)
 | ins (C dx:Addr) (fs:List (Str × V))
 | own (x:Addr)
 | xd (fs:List (Str × V))
 | met (f x:Addr)
 | D4 (lo hi:Int)
 | IK (o:Obj) (u:HO)
 | Sm (ps:Array Value)
 | ext (φ:Heap->Prop)
abbrev Hp:=Addr->Option HO
def aP(H:Hp)(a:Addr)(o:HO):Hp:=λb=>if b=a then some o else H b
theorem af{H:Hp}{a:Addr}{o:HO}:aP H a o a=some o:=by unfold aP;rw[if_pos rfl]
theorem aL{H:Hp}{a b:Addr}{o:HO}(h:b≠a):aP H a o b=H b:=by unfold aP;rw[if_neg h]
theorem dG{H:Hp}{a b:Addr}{o u:HO}(h:H a=some o)(h':H b=some u)(d:o≠u:=by intro z;cases z):a≠b:=by
 intro e;subst e;rw[h]at h';exact d (qj h')
theorem aA{H:Hp}{a b:Addr}{o:HO}(h:H a=some o)(h':H b=none):a≠b:=by
 intro e;subst e;rw[h]at h';cases h'
section
variable (P:Program) (w:World)
def gn(H:Hp)(h:Heap)(a:Addr):HO->Prop
 | .lst xs=>xs.length<=sizeLine/\∃ (aN:List Value) (n:Nat),cu xs aN/\h.get? a=some { cls:=.type "list",data:=.seq aN.toArray n }
 | .tup xs=>xs.length<=sizeLine/\∃ aN:List Value,cu xs aN/\IsTup h a aN.toArray
 | .dK kvs=>kvs.length<=sizeLine/\(a == sysModules)=false/\∃ vs,KV kvs vs/\h.DictOf (fY P w) a vs
 | .dT kvs=>kvs.length<=sizeLine/\(a == sysModules)=false/\∃ xs:List (List fj × Addr × Value),
   Paired (λ(p:List fj × V) (q:List fj × Addr × Value)=>p.1=q.1/\H q.2.1=some (.tup (p.1.map kV))/\RelV p.2 q.2.2) kvs xs/\
   ∃ o es ep,h.get? a=some o/\o.ExactDict/\o.data=.dict es ep/\es.toList=xs.map (entryOfKey (tupleKind (fY P w)))/\(xs.map (·.1)).Nodup
 | .set S n=>h.SetOf (intKind P w) a S n
 | .ins C dx fs=>H dx=some (.own a)/\fs.length<=1000/\dx≠a/\h.get? a=some (instObj C dx)/\
   ∃ mA,h.Ns1 dx mA/\(∀ f,rM (fs.lookup f) (mA f))/\PySem.Within mA (fs.map (·.1))
 | .own _=>∃ o,h.get? a=some o
 | .xd fs=>∃ mA,h.Ns1 a mA/\∀ f,rM (fs.lookup f) (mA f)
 | .D4 lo hi=>∃ t u v,h.get? a=some { cls:=.type "range",data:=.fields #[.int lo t,.int hi u,.int 1 v] }
 | .IK o u=>h.get? a=some o/\gn H h a u
 | .Sm ps=>h.get? a=some { cls:=.none,data:=.fields ps }
 | .met f x=>h.get? a=some (methodObj (.ref f) (.ref x))
 | .ext φ=>φ h/\(∃ o,h.get? a=some o)/\∀ h1 h2:Heap,φ h1->(∀ o,h1.get? a=some o->h2.get? a=some o)->φ h2
def ux(H:Hp)(h:Heap):Prop:=∀ a o,H a=some o->gn P w H h a o
end
section
variable {P:Program} {w:World} {H H':Hp} {h h':Heap} {a:Addr} {o:HO}
theorem gn.lt(x:gn P w H h a o):a<h.objs.size:=by
 cases o with
 | lst xs=>obtain⟨_,_,_,_,e⟩:=x;exact Heap.lt_size e
 | tup xs=>obtain⟨_,_,_,p⟩:=x;exact p.lt
 | dK kvs=>obtain⟨_,_,_,_,o,_,_,e,_⟩:=x;exact Heap.lt_size e
 | dT kvs=>obtain⟨_,_,_,_,o,_,_,e,_⟩:=x;exact Heap.lt_size e
 | set S n=>obtain⟨o,_,_,_,e,_⟩:=x;exact Heap.lt_size e
 | ins C dx fs=>obtain⟨_,_,_,e,_⟩:=x;exact Heap.lt_size e
 | own y=>obtain⟨_,e⟩:=x;exact Heap.lt_size e
 | xd fs=>obtain⟨_,⟨_,_,_,e,_⟩,_⟩:=x;exact Heap.lt_size e
 | D4 lo hi=>obtain⟨_,_,_,e⟩:=x;exact Heap.lt_size e
 | IK ob u=>obtain⟨e,_⟩:=x;exact Heap.lt_size e
 | Sm ps=>exact Heap.lt_size (show h.get? a=some _ from x)
 | met f y=>exact Heap.lt_size (show h.get? a=some _ from x)
 | ext φ=>obtain⟨_,⟨_,e⟩,_⟩:=x;exact Heap.lt_size e
theorem Paired.Gz{α β:Type}{F G:α->β->Prop}{l₁:List α}{l₂:List β}(h:Paired F l₁ l₂)(f:∀ a b,F a b->G a b):Paired G l₁ l₂:=by
 induction h with
 | nil=>exact .nil
 | cons r _ ih=>exact .cons (f _ _ r) ih
theorem gn.stay(x:gn P w H h a o)(k:∀ b u,(b=a\/H b=some (.own a))->h.get? b=some u->h'.get? b=some u)
  (ho:∀ b,H b=some (.own a)->H' b=some (.own a)) (ht:∀ b xs,H b=some (.tup xs)->H' b=some (.tup xs)):gn P w H' h' a o:=by
 induction o with
 | lst xs=>obtain⟨z,aN,n,r,e⟩:=x;exact⟨z,aN,n,r,k _ _ (.inl rfl) e⟩
 | tup xs=>obtain⟨z,aN,r,ob,e,c⟩:=x;exact⟨z,aN,r,ob,k _ _ (.inl rfl) e,c⟩
 | dK kvs=>obtain⟨z,y,vs,r,ob,es,ep,e,c⟩:=x;exact⟨z,y,vs,r,ob,es,ep,k _ _ (.inl rfl) e,c⟩
 | dT kvs =>
  obtain⟨z,y,xs,r,ob,es,ep,e,c⟩:=x;exact⟨z,y,xs,Paired.Gz r λp q z=>⟨z.1,ht _ _ z.2.1,z.2.2⟩,ob,es,ep,k _ _ (.inl rfl) e,c⟩
 | set S n=>obtain⟨ob,es,ep,t,e,c⟩:=x;exact⟨ob,es,ep,t,k _ _ (.inl rfl) e,c⟩
 | ins C dx fs =>
  obtain⟨d,z,ne,e,mA,⟨od,es,ep,e2,c⟩,r⟩:=x;exact⟨ho _ d,z,ne,k _ _ (.inl rfl) e,mA,⟨od,es,ep,k _ _ (.inr d) e2,c⟩,r⟩
 | own y=>obtain⟨ob,e⟩:=x;exact⟨ob,k _ _ (.inl rfl) e⟩
 | xd fs=>obtain⟨mA,⟨od,es,ep,e,c⟩,r⟩:=x;exact⟨mA,⟨od,es,ep,k _ _ (.inl rfl) e,c⟩,r⟩
 | D4 lo hi=>obtain⟨t,u,v,e⟩:=x;exact⟨t,u,v,k _ _ (.inl rfl) e⟩
 | IK ob u ih=>obtain⟨e,q⟩:=x;exact⟨k _ _ (.inl rfl) e,ih q⟩
 | Sm ps =>
  have e:h.get? a=some { cls:=.none,data:=.fields ps }:=x;show h'.get? a=some { cls:=.none,data:=.fields ps };exact k a _ (.inl rfl) e
 | met f y =>
  have e:h.get? a=some (methodObj (.ref f) (.ref y)):=x;show h'.get? a=some (methodObj (.ref f) (.ref y));exact k a _ (.inl rfl) e
 | ext φ=>obtain⟨p,⟨o,e⟩,st⟩:=x;exact⟨st _ _ p λo q=>k _ _ (.inl rfl) q,⟨o,k _ _ (.inl rfl) e⟩,st⟩
theorem ux.lt(x:ux P w H h)(e:H a=some o):a<h.objs.size:=(x a o e).lt
theorem ux.fresh(x:ux P w H h)(e:h.objs.size<=a):H a=none:=by
 cases q:H a with
 | none=>rfl
 | some u=>exact absurd (qh (x.lt q) e) (Nat.lt_irrefl _)
theorem ux.kept(x:ux P w H h)(k:∀ b u,h.get? b=some u->h'.get? b=some u):ux P w H h':=λa o e =>
 (x a o e).stay (λb u _ q=>k b u q) (λ_ q=>q) λ_ _ q=>q
theorem ux.laid(x:ux P w H h)(k:∀ b u,h.get? b=some u->h'.get? b=some u)(hp:h.objs.size<=a)(new:gn P w (aP H a o) h' a o):ux P w (aP H a o) h':=λb u e=>by
 have hn:=x.fresh hp;by_cases hb:b=a
 ·subst hb;rw[af]at e;cases e;exact new
 ·rw[aL hb]at e;exact (x b u e).stay (λc v _ q=>k c v q) (λc q=>by rw[aL (aA q hn)];exact q) λc xs q=>by rw[aL (aA q hn)];exact q
end
def Rd(H:Hp)(a:Addr)(u:HO):Prop:=H a=some u\/∃ o,H a=some (.IK o u)
theorem Rd.ok{P:Program}{w:World}{H:Hp}{h:Heap}{a:Addr}{u:HO}(r:Rd H a u)(x:ux P w H h):gn P w H h a u:=by
 rcases r with r|⟨o,r⟩
 ·exact x a u r
 ·obtain⟨_,q⟩:=x a _ r;exact q
def WX:Option HO->Prop
 | some (.lst _)=>True
 | some (.dK _)=>True
 | some (.dT _)=>True
 | some (.set _ _)=>True
 | some (.ins _ _ _)=>True
 | some (.ext _)=>True
 | _=>False
section
variable {P:Program} {w:World} {H:Hp} {h h':Heap} {x e:Addr} {o':HO}
theorem ux.write(ok:ux P w H h)(mu:WX (H x))(he:e=x\/H e=some (.own x))(k:∀ b u,b≠e->h.get? b=some u->h'.get? b=some u)(Wr:∃ u,h'.get? e=some u)
  (new:gn P w (aP H x o') h' x o'):ux P w (aP H x o') h':=λb u q=>by
 have WY:∀ c y,H c=some (.own y)->c≠x:=λc y r z=>by subst z;rw[r]at mu;exact mu
 have abe:∀ c xs,H c=some (.tup xs)->c≠x:=λc xs r z=>by subst z;rw[r]at mu;exact mu
 by_cases hb:b=x
 ·subst hb;rw[af]at q;cases q;exact new
 ·rw[aL hb]at q;by_cases TY:b=e
  ·have q':H b=some (.own x):=by
    rcases he with z|z
    ·exact absurd (TY.trans z) hb
    ·rw[TY];exact z
   rw[q]at q';cases q';obtain⟨v,hv⟩:=Wr;exact⟨v,by rw[TY];exact hv⟩
  ·refine (ok b u q).stay (λc v hc r=>k c v ?_ r) (λc r=>by rw[aL (WY c b r)];exact r) λc xs r=>by rw[aL (abe c xs r)];exact r
   rcases hc with rfl|hc
   ·exact TY
   ·rintro rfl;rcases he with z|z
    ·exact WY c b hc z
    ·rw[hc]at z;cases z;exact hb rfl
end
structure Un(fs ex:List Addr)(H H':Hp)(h h':Heap):Prop where
 keep:∀ b o,h.get? b=some o->H b=none->b∉fs->b∉ex->h'.get? b=some o
 slot:∀ b o,h.get? b=some o->H b=none->b∈fs->b∉ex->∃ sl,h'.get? b=some { o with slots:=sl }
 free:∀ b o,h.get? b=some o->H b=none->b∉ex->H' b=none
 there:∀ b o,h.get? b=some o->b∉ex->∃ o',h'.get? b=some o'
 tups:∀ b xs,H b=some (.tup xs)->H' b=some (.tup xs)
 Cd:∀ b o u,H b=some (.IK o u)->H' b=some (.IK o u)
 D5:∀ b ps,H b=some (.Sm ps)->∃ xK,H' b=some (.Sm (ps++xK))
section
variable {fs Ws ex ex':List Addr} {H H1 H2:Hp} {h h1 h2 h':Heap} {a x e:Addr} {o:HO}
theorem Un.any(u:Un fs ex H H1 h h1){b:Addr}{ob:Obj}(q:h.get? b=some ob)(n:H b=none)(hx:b∉ex):∃ sl,h1.get? b=some { ob with slots:=sl }:=by
 by_cases hb:b∈fs
 ·exact u.slot b ob q n hb hx
 ·exact⟨ob.slots,u.keep b ob q n hb hx⟩
theorem Un.kept(k:∀ b u,h.get? b=some u->h'.get? b=some u):Un fs ex H H h h' :=
 ⟨λb ob q _ _ _=>k b ob q,λb ob q _ _ _=>⟨ob.slots,k b ob q⟩,λ_ _ _ n _=>n,λb ob q _=>⟨ob,k b ob q⟩,λ_ _ q=>q,λ_ _ _ q=>q,λ_ ps q=>⟨#[],by rw[q];simp⟩⟩
theorem Un.refl:Un fs ex H H h h:=Un.kept λ_ _ q=>q
theorem Un.laid(k:∀ b u,h.get? b=some u->h'.get? b=some u)(hp:h.objs.size<=a)(hn:H a=none):Un fs ex H (aP H a o) h h' where
 keep:=λb u q _ _ _=>k b u q
 slot:=λb u q _ _ _=>⟨u.slots,k b u q⟩
 free:=λb u q n _=>by rw[aL (kC (qh (Heap.lt_size q) hp))];exact n
 there:=λb u q _=>⟨u,k b u q⟩
 tups:=λb xs q=>by rw[aL (aA q hn)];exact q
 Cd:=λb u xs q=>by rw[aL (aA q hn)];exact q
 D5:=λb ps q=>⟨#[],by rw[aL (aA q hn),q];simp⟩
theorem Un.write(mu:WX (H x))(he:e=x\/H e=some (.own x))(k:∀ b u,b≠e->h.get? b=some u->h'.get? b=some u)(Wr:∃ u,h'.get? e=some u):Un fs ex H (aP H x o) h h':=by
 have hx:∀ b,H b=none->b≠x:=λb n z=>by subst z;rw[n]at mu;exact mu
 have hb:∀ b,H b=none->b≠e:=λb n z=>by
  subst z;rcases he with r|r
  ·exact hx b n r
  ·rw[n]at r;cases r
 have hm:∀ b u,H b=some u->¬ WX (some u)->b≠x:=λb u q nm z=>by subst z;rw[q]at mu;exact nm mu
 refine⟨λb u q n _ _=>k b u (hb b n) q,λb u q n _ _=>⟨u.slots,k b u (hb b n) q⟩,λb u q n _=>by rw[aL (hx b n)];exact n,λb u q _=>?_, λb xs q=>by rw[aL (hm b _ q λz=>z)];exact q,λb u xs q=>by rw[aL (hm b _ q λz=>z)];exact q,λb ps q=>⟨#[],by rw[aL (hm b _ q λz=>z),q];simp⟩⟩;by_cases TY:b=e
 ·subst TY;exact Wr
 ·exact⟨u,k b u TY q⟩
end
def trk(h:Heap)(H:Hp):List Addr:=(List.range h.objs.size).filter λa=>(H a).isSome
def Ce(h:Heap)(H:Hp):Heap:=PySem.W.hideAll h (trk h H)
theorem J2(h:Heap)(H:Hp):(Ce h H).objs.size=h.objs.size:=PySem.W.hideAll_size _ _
theorem Mr{h:Heap}{H:Hp}{b:Addr}{o:Obj}(e:h.get? b=some o)(n:H b=none):(Ce h H).get? b=some o :=
 PySem.W.hideAll_get _ e λhm=>by
  have q:(H b).isSome=true:=(List.mem_filter.mp hm).2;rw[n]at q;simp at q
theorem PL{h:Heap}{H:Hp}{b:Addr}{o:Obj}(e:(Ce h H).get? b=some o):h.get? b=some o/\H b=none:=by
 have e':h.get? b=some o:=PySem.W.of_hideAll (trk h H) e;exists e'
 cases q:H b with
 | none=>rfl
 | some x =>
  have hm:b∈trk h H:=List.mem_filter.mpr ⟨List.mem_range.mpr (Heap.lt_size e'),by simp[q]⟩;have z:(Ce h H).get? b=none:=PySem.W.hideAll_none (trk h H) hm;rw[z]at e;cases e
end L2
namespace L2
open Spec Rows
structure Mod(K:Frag)(mg:Str->Option Value)(zt:Heap):Prop where
 kin:K.In zt
 glob:zt.Ns mainGlobals mg
 blt:∃ mb,zt.Ns builtinsNs mb/\∀ x:Str,x≠"__name__"->mb x=bootBuiltins x
 nolimit:zt.NoLimit
structure Cx where
 prog:Program
 w:World
 K:Frag
 mg:Str->Option Value
 zt:Heap
 A:Around
 N:List Str
 s₀:Shared
 H₀:Hp
 env:Env
 zn:List Env
 stack:List Env
 ex:List Addr
 fn:Str->Bool
 calm:Bool
 pn:List (Addr × Obj)
 xe:Value->Shared->Prop
def Ms(l:List Env):List Addr:=l.filterMap (·.frame)
abbrev Cx.fs(X:Cx):List Addr:=Ms X.zn
def Vis(sc:Scope)(x:Str):Prop:=sc.names.lookup x=some .local\/sc.names.lookup x=some .cell\/sc.names.lookup x=some .free
def Loc(sc:Scope)(x:Str):Prop:=sc.names.lookup x=some .local\/sc.names.lookup x=some .cell
def Look(env:Env)(h:Heap)(m:Str->Option Value)(x:Str)(u:Value):Prop :=
 (env.kindOf x=some .local/\m x=some u)\/((env.kindOf x=some .cell\/env.kindOf x=some .free)/\∃ c,env.cells.lookup x=some c/\h.IsCell c (some u))
structure Cx.Ok(X:Cx):Prop where
 mod:Mod X.K X.mg X.zt
 kind:X.env.scope.kind=.function
 glob:X.env.globals=mainGlobals
 blt:X.env.builtins=builtinsNs
 above:X.s₀.heap.objs.size<=X.env.locals
 inj:∀ x y c,X.env.cells.lookup x=some c->X.env.cells.lookup y=some c->x=y
 has:∀ x,(X.env.kindOf x=some .cell\/X.env.kindOf x=some .free)->∃ c,X.env.cells.lookup x=some c
 WZ:∀ x c,X.fn x=true->X.env.cells.lookup x=some c->X.s₀.heap.objs.size<=c
 hd:X.calm=true->X.A.handled=none
 frames:X.A.frames=some X.stack
 stk:X.stack=X.zn\/(X.stack=X.env::X.zn/\X.env.frame=some X.env.locals)
 exf:∀ b∈X.ex,b≠X.env.locals/\∀ x c,X.env.cells.lookup x=some c->c≠b
 bs:∀ b o,X.zt.get? b=some o->X.s₀.heap.get? b=some o/\X.H₀ b=none
 Sn:X.zt.objs.size<=X.s₀.heap.objs.size
 Mt:∀ b o,X.zt.get? b=some o->b∉X.ex
 PM:∀ b∈X.ex,b∉X.fs
 xM:X.s₀.heap.FunFrames X.zt X.zn
 TZ:∀ b∈X.fs,X.H₀ b=none
structure Inv(X:Cx)(ao:List (Addr × Obj))(σ:List (Option V))(H:Hp)(s:Shared):Prop where
 ok:X.Ok
 os:s.os=X.s₀.os
 bare:AllBare s.gens
 zt:Un X.fs X.ex X.H₀ H X.s₀.heap s.heap
 loc:∃ m,s.heap.Ns X.env.locals m/\∀ (i:Nat) (x:Str) (v:V),X.N[i]?=some x->σ[i]?=some (some v)->Vis X.env.scope x->∃ u,RelV v u/\Look X.env s.heap m x u
 cell:∀ x c,X.env.cells.lookup x=some c->∃ v,s.heap.IsCell c v
 free:H X.env.locals=none
 rT:∀ x c,X.env.cells.lookup x=some c->H c=none
 pin:∀ p∈X.pn++ao,s.heap.get? p.1=some p.2/\H p.1=none/\p.1≠X.env.locals/\p.1∉X.fs/\∀ v,p.2.data≠.cell v
 hok:ux X.prog X.w H s.heap
 len:σ.length=X.N.length
section
variable {X:Cx} {ao:List (Addr × Obj)} {σ:List (Option V)} {H H':Hp} {s:Shared} {h':Heap}
theorem Cx.Ok.abf(ok:X.Ok){b:Addr}{o:Obj}(e:X.zt.get? b=some o):b∉X.fs:=λhb=>by
 have:=(ok.xM.mem hb).1;rw[e]at this;cases this
theorem Inv.bs(I:Inv X ao σ H s):∀ b o,X.zt.get? b=some o->s.heap.get? b=some o/\H b=none:=λb o e =>
 ⟨I.zt.keep b o (I.ok.bs b o e).1 (I.ok.bs b o e).2 (I.ok.abf e) (I.ok.Mt b o e),I.zt.free b o (I.ok.bs b o e).1 (I.ok.bs b o e).2 (I.ok.Mt b o e)⟩
theorem Inv.bk(I:Inv X ao σ H s):∀ b o,X.zt.get? b=some o->s.heap.get? b=some o:=λb o e=>(I.bs b o e).1
theorem Inv.mod(I:Inv X ao σ H s):Mod X.K X.mg X.zt:=I.ok.mod
theorem Inv.wR(I:Inv X ao σ H s):X.K.In s.heap:=I.ok.mod.kin.keeps I.bk
theorem Inv.lt(I:Inv X ao σ H s):X.env.locals<s.heap.objs.size:=let ⟨_,hn,_⟩:=I.loc;hn.lt
theorem Inv.sz(I:Inv X ao σ H s):X.s₀.heap.objs.size<=s.heap.objs.size:=iI I.ok.above (iz I.lt)
theorem Inv.abg(I:Inv X ao σ H s){a:Addr}(h:s.heap.objs.size<=a):a∉X.fs:=λhb=>by
 obtain⟨_,o,ho,_⟩:=I.ok.xM.mem hb;exact absurd (qh (Heap.lt_size ho) (iI I.sz h)) (Nat.lt_irrefl _)
theorem Inv.T3(I:Inv X ao σ H s):∀ x c,X.env.cells.lookup x=some c->c≠X.env.locals:=λx c e z=>by
 obtain⟨v,o,ho,hd⟩:=I.cell x c e;obtain⟨m,⟨o',es,ep,J3,hd',_⟩,_⟩:=I.loc;rw[z,J3]at ho;cases ho;rw[hd']at hd;cases hd
theorem Inv.xM(I:Inv X ao σ H s):s.heap.FunFrames X.zt X.zn:=by
 have all:∀ (l:List Env),(∀ b∈Ms l,b∈X.fs)->X.s₀.heap.FunFrames X.zt l->s.heap.FunFrames X.zt l:=by
  intro l
  induction l with
  | nil=>intro _ _;trivial
  | cons env r ih =>
   intro hs hl;obtain⟨hk,⟨L,o,hf,hn,ho,hd⟩,hr⟩:=hl;have hL:L∈X.fs:=hs L (by unfold Ms;rw[List.filterMap_cons,hf];exact List.mem_cons_self);obtain⟨sl,e⟩:=I.zt.slot L o ho (I.ok.TZ L hL) hL λz=>I.ok.PM L z hL;exact⟨hk,⟨L,_,hf,hn,e,hd⟩,ih (λb hb=>hs b (by unfold Ms;rw[List.filterMap_cons,hf];exact nQ _ hb)) hr⟩
 exact all X.zn (λ_ hb=>hb) I.ok.xM
theorem Inv.stack(I:Inv X ao σ H s):s.heap.FunFrames X.zt X.stack:=by
 rcases I.ok.stk with e|⟨e,hf⟩
 ·rw[e];exact I.xM
 ·rw[e];obtain⟨m,hn,_⟩:=I.loc;refine .cons (by rw[I.ok.kind];decide) hf hn ?_ I.xM;exact Heap.get?_none_of_le (iI I.ok.Sn I.ok.above)
theorem Inv.vB(I:Inv X ao σ H s):∀ b∈Ms X.stack,b∈X.env.locals::X.fs:=λb hb=>by
 rcases I.ok.stk with e|⟨e,hf⟩
 ·rw[e]at hb;exact nQ _ hb
 ·rw[e]at hb;unfold Ms at hb;rw[List.filterMap_cons,hf]at hb;exact hb
theorem Inv.IL(I:Inv X ao σ H s):∀ b∈Ms X.stack,H b=none:=λb hb=>by
 rcases List.mem_cons.mp (I.vB b hb) with e|hb
 ·rw[e];exact I.free
 ·obtain⟨_,o,ho,_⟩:=I.ok.xM.mem hb;exact I.zt.free b o ho (I.ok.TZ b hb) λz=>I.ok.PM b z hb
theorem Inv.step{g':Array GenState}{t':Nat}{d':Drawn}{ch:List Addr}(I:Inv X ao σ H s)
  (Pk:∀ b∈ch,(b∈X.ex\/X.s₀.heap.objs.size<=b)/\b≠X.env.locals/\(∀ x c,X.env.cells.lookup x=some c->c≠b)/\∀ p∈X.pn++ao,p.1≠b)
  (keep:∀ b o,b≠X.env.locals->b∉X.fs->b∉ch->s.heap.get? b=some o->H b=none->h'.get? b=some o)
  (slot:∀ b o,b≠X.env.locals->b∈X.fs->b∉ch->s.heap.get? b=some o->H b=none->∃ sl,h'.get? b=some { o with slots:=sl }) (free:∀ b o,b∉ch->s.heap.get? b=some o->H b=none->H' b=none)
  (there:∀ b o,b∉ch->s.heap.get? b=some o->∃ o',h'.get? b=some o')
  (tups:∀ b xs,H b=some (.tup xs)->H' b=some (.tup xs)) (Cd:∀ b o u,H b=some (.IK o u)->H' b=some (.IK o u)) (D5:∀ b ps,H b=some (.Sm ps)->∃ xK,H' b=some (.Sm (ps++xK)))
  (ns:∀ m,s.heap.Ns X.env.locals m->h'.Ns X.env.locals m) (hok:ux X.prog X.w H' h') (hg:AllBare g') :
  Inv X ao σ H' { s with heap:=h',gens:=g',drawn:=d',toks:=t' }:=by
 have neL:∀ b o,X.s₀.heap.get? b=some o->b≠X.env.locals:=λb o e=>kC (qh (Heap.lt_size e) I.ok.above)
 have neC:∀ b o,X.s₀.heap.get? b=some o->b∉X.ex->b∉ch:=λb o e hx hb=>by
  rcases (Pk b hb).1 with z|z
  ·exact hx z
  ·exact absurd (qh (Heap.lt_size e) z) (Nat.lt_irrefl _)
 have cellK:∀ x c,X.env.cells.lookup x=some c->∀ v,s.heap.IsCell c v->h'.IsCell c v:=λx c e v ⟨o,ho,hd⟩=>by
  have Xa:c∉ch:=λz=>(Pk c z).2.2.1 x c e rfl;by_cases hc:c∈X.fs
  ·obtain⟨sl,q⟩:=slot c o (I.T3 x c e) hc Xa ho (I.rT x c e);exact⟨_,q,hd⟩
  ·exact⟨o,keep c o (I.T3 x c e) hc Xa ho (I.rT x c e),hd⟩
 refine⟨I.ok,I.os,hg,⟨λb o e n hb hx=>?_,λb o e n hb hx=>?_,λb o e n hx=>?_,λb o e hx=>?_,λb xs e=>tups b xs (I.zt.tups b xs e),λb o xs e=>Cd b o xs (I.zt.Cd b o xs e),λb ps e=>?_⟩,?_,λx c e=>?_,?_,λx c e=>?_,λp hp=>?_,hok,I.len⟩
 ·exact keep b o (neL b o e) hb (neC b o e hx) (I.zt.keep b o e n hb hx) (I.zt.free b o e n hx)
 ·obtain⟨sl,e1⟩:=I.zt.slot b o e n hb hx;obtain⟨sl',e2⟩:=slot b _ (neL b o e) hb (neC b o e hx) e1 (I.zt.free b o e n hx);exact⟨sl',e2⟩
 ·obtain⟨o',e1⟩:=I.zt.there b o e hx;exact free b o' (neC b o e hx) e1 (I.zt.free b o e n hx)
 ·obtain⟨o',e1⟩:=I.zt.there b o e hx;exact there b o' (neC b o e hx) e1
 ·obtain⟨m1,e1⟩:=I.zt.D5 b ps e;obtain⟨m2,e2⟩:=D5 b _ e1;exact⟨m1++m2,by rw[e2,Array.append_assoc]⟩
 ·obtain⟨m,hn,hl⟩:=I.loc;refine⟨m,ns m hn,λi x v e1 e2 e3=>?_⟩;obtain⟨u,r,l⟩:=hl i x v e1 e2 e3;exists u,r;rcases l with l|⟨k,c,e,z⟩
  ·exact .inl l
  ·exact .inr ⟨k,c,e,cellK x c e _ z⟩
 ·obtain⟨v,z⟩:=I.cell x c e;exact⟨v,cellK x c e v z⟩
 ·obtain⟨m,⟨o,_,_,ho,_⟩,_⟩:=I.loc;exact free _ o (λz=>(Pk _ z).2.1 rfl) ho I.free
 ·obtain⟨v,o,ho,hd⟩:=I.cell x c e;exact free c o (λz=>(Pk c z).2.2.1 x c e rfl) ho (I.rT x c e)
 ·obtain⟨e,n,ne,nf,d⟩:=I.pin p hp;have Xa:p.1∉ch:=λz=>(Pk p.1 z).2.2.2 p hp rfl;exact⟨keep p.1 p.2 ne nf Xa e n,free p.1 p.2 Xa e n,ne,nf,d⟩
theorem Inv.un{t':Nat}(I:Inv X ao σ H s)(u:Un X.fs [] H H' s.heap h')(hok:ux X.prog X.w H' h'):Inv X ao σ H' { s with heap:=h',toks:=t' }:=by
 obtain⟨m,⟨o,es,ep,ho,r⟩,_⟩:=id I.loc;obtain⟨sl,hL⟩:=u.any ho I.free (by simp)
 exact I.step (g':=s.gens) (d':=s.drawn) (ch:=[]) (λ_ z=>nomatch z) (λb o _ hb _ e n=>u.keep b o e n hb (by simp)) (λb o _ hb _ e n=>u.slot b o e n hb (by simp)) (λb o _ e n=>u.free b o e n (by simp)) (λb o _ e=>u.there b o e (by simp)) u.tups u.Cd u.D5 (λm' hm=>by
  obtain⟨o',vt,ep',J3,r'⟩:=hm;rw[ho]at J3;cases J3
  exact⟨_,vt,ep',hL,r'⟩) hok I.bare
theorem Inv.call{g':Array GenState}{t':Nat}{d':Drawn}{ch:List Addr}(I:Inv X ao σ H s)(u:Un (Ms X.stack) ch H H' s.heap h')(hok:ux X.prog X.w H' h')(hg:AllBare g')
  (Pk:∀ b∈ch,(b∈X.ex\/X.s₀.heap.objs.size<=b)/\b≠X.env.locals/\(∀ x c,X.env.cells.lookup x=some c->c≠b)/\∀ p∈X.pn++ao,p.1≠b) :
  Inv X ao σ H' { s with heap:=h',gens:=g',drawn:=d',toks:=t' }:=by
 obtain⟨m,⟨o,es,ep,ho,r⟩,_⟩:=id I.loc;obtain⟨sl,hL⟩:=u.any ho I.free λz=>(Pk _ z).2.1 rfl
 exact I.step (ch:=ch) Pk (λb o hL hb hc e n=>u.keep b o e n (λz=>(List.mem_cons.mp (I.vB b z)).elim hL hb) hc) (λb o _ _ hc e n=>u.any e n hc) (λb o hc e n=>u.free b o e n hc) (λb o hc e=>u.there b o e hc) u.tups u.Cd u.D5 (λm' hm=>by
  obtain⟨o',vt,ep',J3,r'⟩:=hm;rw[ho]at J3;cases J3
  exact⟨_,vt,ep',hL,r'⟩) hok hg
theorem Inv.turned{t':Nat}{it:Addr}(I:Inv X ao σ H s)(k:∀ b o,b≠it->s.heap.get? b=some o->h'.get? b=some o)(hn:H it=none)(hL:it≠X.env.locals)
  (h1:it∈X.ex\/X.s₀.heap.objs.size<=it) (h2:∀ x c,X.env.cells.lookup x=some c->c≠it) (h3:∀ p∈X.pn++ao,p.1≠it):Inv X ao σ H { s with heap:=h',toks:=t' }:=by
 have So:∀ b u,H b=some u->b≠it:=λb u e z=>by rw[z,hn]at e;cases e
 refine I.step (g':=s.gens) (d':=s.drawn) (ch:=[it]) (λb hb=>?_) (λb o _ _ hc e _=>k b o (λz=>hc (by simp[z])) e) (λb o _ _ hc e _=>⟨o.slots,k b o (λz=>hc (by simp[z])) e⟩) (λ_ _ _ _ n=>n) (λb o hc e=>⟨o,k b o (λz=>hc (by simp[z])) e⟩) (λ_ _ e=>e) (λ_ _ _ e=>e) (λb ps e=>⟨#[],by rw[e];simp⟩) (λm hm=>?_) (λb u e=>?_) I.bare
 ·have e:b=it:=by simpa using hb
  subst e;exact⟨h1,hL,h2,h3⟩
 ·obtain⟨o,es,ep,ho,r⟩:=hm;exact⟨o,es,ep,k _ o (Ne.symm hL) ho,r⟩
 ·refine (I.hok b u e).stay (λc v hc q=>k c v ?_ q) (λ_ q=>q) λ_ _ q=>q;rcases hc with z|z
  ·rw[z];exact So b u e
  ·exact So c _ z
theorem Inv.tok(I:Inv X ao σ H s)(t:Nat):Inv X ao σ H { s with toks:=t }:=I.un (h':=s.heap) (t':=t) Un.refl I.hok
theorem Inv.kept{t':Nat}(I:Inv X ao σ H s)(k:∀ b u,s.heap.get? b=some u->h'.get? b=some u):Inv X ao σ H { s with heap:=h',toks:=t' }:=I.un (Un.kept k) (I.hok.kept k)
theorem Inv.laid{a:Addr}{o:HO}{t':Nat}(I:Inv X ao σ H s)(k:∀ b u,s.heap.get? b=some u->h'.get? b=some u)(hp:s.heap.objs.size<=a)(new:gn X.prog X.w (aP H a o) h' a o) :
  Inv X ao σ (aP H a o) { s with heap:=h',toks:=t' }:=I.un (Un.laid k hp (I.hok.fresh hp)) (I.hok.laid k hp new)
theorem Inv.write{x e:Addr}{o:HO}{t':Nat}(I:Inv X ao σ H s)(mu:WX (H x))(he:e=x\/H e=some (.own x))(k:∀ b u,b≠e->s.heap.get? b=some u->h'.get? b=some u)(Wr:∃ u,h'.get? e=some u)
  (new:gn X.prog X.w (aP H x o) h' x o):Inv X ao σ (aP H x o) { s with heap:=h',toks:=t' }:=I.un (Un.write mu he k Wr) (I.hok.write mu he k Wr new)
theorem Inv.IM(I:Inv X ao σ H s)(h:∀ p∈Sq,s.heap.get? p.1=some p.2/\H p.1=none/\p.1≠X.env.locals/\p.1∉X.fs/\∀ v,p.2.data≠.cell v):Inv X Sq σ H s :=
 ⟨I.ok,I.os,I.bare,I.zt,I.loc,I.cell,I.free,I.rT,λp hp=>(List.mem_append.mp hp).elim (λz=>I.pin p (sO _ z)) (h p),I.hok,I.len⟩
theorem D6{N:List Str}(hN:N.Nodup){i j:Nat}{x:Str}(a:N[i]?=some x)(b:N[j]?=some x):i=j:=by
 obtain⟨h1,e1⟩:=List.getElem?_eq_some_iff.mp a;obtain⟨h2,e2⟩:=List.getElem?_eq_some_iff.mp b;exact (List.getElem_inj hN).mp (e1.trans e2.symm)
theorem Bb{M:Model}{A:Around}{E:Value->Shared->Prop}{i:Nat}{x:Str}{v:V}{u:Value}{Q:Unit->Shared->Prop}(I:Inv X ao σ H s)(hN:X.N.Nodup)(hi:X.N[i]?=some x)(hx:Loc X.env.scope x)(r:RelV v u)
  (h:∀ s',Inv X ao (σ.set i (some v)) H s'->(∃ a,Heap.SameBut a s.heap s'.heap/\(a=X.env.locals\/X.env.cells.lookup x=some a))->Q () s') (hf:X.fn x=true\/X.env.scope.names.lookup x=some .local:=by first|exact .inl rfl|exact .inr rfl|assumption):wpAny M A (storeName X.env x u) Q E s:=by
 obtain⟨m,hn,hl⟩:=id I.loc;have hcls:(X.env.scope.kind == .class || (X.env.scope.kind == .module&&X.env.locals != X.env.globals))=false:=by rw[I.ok.kind];rfl
 have hiσ:i<σ.length:=by rw[I.len];exact (List.getElem?_eq_some_iff.mp hi).1
 have T3:=I.T3
 have tracked:∀ {a:Addr} {h':Heap},(∃ o,s.heap.get? a=some o/\H a=none)->Heap.SameBut a s.heap h'->ux X.prog X.w H h':=λ{a h'} ha hs b ob e=>by
  obtain⟨_,_,IP⟩:=ha;refine (I.hok b ob e).stay (λc w' hc q=>(hs.2 c ?_).trans q) (λ_ q=>q) λ_ _ q=>q;rintro rfl;rcases hc with rfl|hc
  ·rw[IP]at e;cases e
  ·rw[IP]at hc;cases hc
 rcases hx with hk|hk
 ·refine wpAny_storeName_local hk hn (λh' hn' hs=>?_) hcls;obtain⟨oL,_,_,hoL,_⟩:=id hn;refine h _ ⟨I.ok,I.os,I.bare,⟨λb o e n hb hx=>?_,λb o e n hb hx=>?_,I.zt.free,λb o e hx=>?_,I.zt.tups,I.zt.Cd,I.zt.D5⟩,⟨_,hn',λj y v' e1 e2 e3=>?_⟩,λy c e=>?_,I.free,I.rT,λp hp=>?_,tracked ⟨oL,hoL,I.free⟩ hs,by simpa using I.len⟩ ⟨_,hs,.inl rfl⟩
  ·exact (hs.2 b (kC (qh (Heap.lt_size e) I.ok.above))).trans (I.zt.keep b o e n hb hx)
  ·obtain⟨sl,e1⟩:=I.zt.slot b o e n hb hx;exact⟨sl,(hs.2 b (kC (qh (Heap.lt_size e) I.ok.above))).trans e1⟩
  ·obtain⟨o',e1⟩:=I.zt.there b o e hx;exact⟨o',(hs.2 b (kC (qh (Heap.lt_size e) I.ok.above))).trans e1⟩
  ·by_cases hj:j=i
   ·subst hj;rw[hi]at e1;cases e1;rw[List.getElem?_set_self hiσ]at e2;cases e2;exact⟨u,r,.inl ⟨hk,by simp⟩⟩
   ·rw[List.getElem?_set_ne (Ne.symm hj)]at e2;obtain⟨u',r',q⟩:=hl j y v' e1 e2 e3;exists u',r';rcases q with ⟨k,e⟩|⟨k,c,e,z⟩
    ·refine .inl ⟨k,?_⟩;have:y≠x:=λe=>hj (D6 hN e1 (e ▸ hi));simp[this,e]
    ·exact .inr ⟨k,c,e,z.sameBut hs (T3 y c e)⟩
  ·obtain⟨w',z⟩:=I.cell y c e;exact⟨w',z.sameBut hs (T3 y c e)⟩
  ·obtain⟨e,n,ne,nf,d⟩:=I.pin p hp;exact⟨(hs.2 p.1 ne).trans e,n,ne,nf,d⟩
 ·have hfn:X.fn x=true:=by
   rcases hf with z|z
   ·exact z
   ·rw[z]at hk;cases hk
  obtain⟨c,hc⟩:=I.ok.has x (.inl hk);obtain⟨w',z⟩:=I.cell x c hc;refine wpAny_storeName_cell I.ok.kind hk hc z (λh' Xb hs=>?_);obtain⟨oc,hoc,abj⟩:=id z;refine h { s with heap:=h' } ⟨I.ok,I.os,I.bare,⟨λb o e n hb hx=>?_,λb o e n hb hx=>?_,I.zt.free,λb o e hx=>?_,I.zt.tups,I.zt.Cd,I.zt.D5⟩,⟨m,hn.sameBut hs (Ne.symm (T3 x c hc)),λj y v' e1 e2 e3=>?_⟩,λy c' e=>?_,I.free,I.rT,λp hp=>?_,tracked ⟨oc,hoc,I.rT x c hc⟩ hs,by simpa using I.len⟩ ⟨c,hs,.inr hc⟩
  ·exact (hs.2 b (kC (qh (Heap.lt_size e) (I.ok.WZ x c hfn hc)))).trans (I.zt.keep b o e n hb hx)
  ·obtain⟨sl,e1⟩:=I.zt.slot b o e n hb hx;exact⟨sl,(hs.2 b (kC (qh (Heap.lt_size e) (I.ok.WZ x c hfn hc)))).trans e1⟩
  ·obtain⟨o',e1⟩:=I.zt.there b o e hx;exact⟨o',(hs.2 b (kC (qh (Heap.lt_size e) (I.ok.WZ x c hfn hc)))).trans e1⟩
  ·by_cases hj:j=i
   ·subst hj;rw[hi]at e1;cases e1;rw[List.getElem?_set_self hiσ]at e2;cases e2;exact⟨u,r,.inr ⟨.inl hk,c,hc,Xb⟩⟩
   ·rw[List.getElem?_set_ne (Ne.symm hj)]at e2;obtain⟨u',r',q⟩:=hl j y v' e1 e2 e3;exists u',r';rcases q with q|⟨k,c',e,z'⟩
    ·exact .inl q
    ·refine .inr ⟨k,c',e,z'.sameBut hs ?_⟩;rintro rfl;exact hj (D6 hN e1 (I.ok.inj _ _ _ e hc ▸ hi))
  ·by_cases hcc:c'=c
   ·subst hcc;exact⟨_,Xb⟩
   ·obtain⟨w2,z2⟩:=I.cell y c' e;exact⟨w2,z2.sameBut hs hcc⟩
  ·obtain⟨e,n,ne,nf,d⟩:=I.pin p hp;refine⟨(hs.2 p.1 ?_).trans e,n,ne,nf,d⟩;intro q;rw[q,hoc]at e;have q':oc=p.2:=qj e;exact d w' (by rw[← q'];exact abj)
theorem yC{M:Model}{A:Around}{E:Value->Shared->Prop}{i:Nat}{x:Str}{v:V}{u:Value}{Q:Unit->Shared->Prop}(I:Inv X ao σ H s)(hN:X.N.Nodup)(hi:X.N[i]?=some x)(hx:Loc X.env.scope x)(r:RelV v u)
  (h:∀ s',Inv X ao (σ.set i (some v)) H s'->Q () s') (hf:X.fn x=true\/X.env.scope.names.lookup x=some .local:=by first|exact .inl rfl|exact .inr rfl|assumption):wpAny M A (storeName X.env x u) Q E s :=
 Bb I hN hi hx r (λs' I' _=>h s' I') hf
theorem Inv.Xc{s':Shared}{ch:List Addr}(I:Inv X ao σ H s)(ho:s'.os=s.os)(u:Un (Ms X.stack) ch H H' s.heap s'.heap)(hok:ux X.prog X.w H' s'.heap)(hg:AllBare s'.gens)
  (Pk:∀ b∈ch,(b∈X.ex\/X.s₀.heap.objs.size<=b)/\b≠X.env.locals/\(∀ x c,X.env.cells.lookup x=some c->c≠b)/\∀ p∈X.pn++ao,p.1≠b):Inv X ao σ H' s':=by
 obtain⟨h',g',d',t',o'⟩:=s';have e:o'=s.os:=ho;subst e;exact I.call (g':=g') (t':=t') (d':=d') u hok hg Pk
end
abbrev XK:=Value->Option Addr->Hp->Prop
abbrev St:=List (Option V)
abbrev VK:=V->Hp->Prop
abbrev TE:=St->Hp->VK->Prop
abbrev TT:=St->Hp->(Bool->Hp->Prop)->Prop
abbrev TA:=St->Hp->(List V->Hp->Prop)->Prop
structure Ends where
 nx:St->Hp->Prop
 rt:VK
 bk:St->Hp->Prop:=λ_ _=>False
 ct:St->Hp->Prop:=λ_ _=>False
abbrev TS:=Ends->St->Hp->Prop
inductive EP(X:Cx)(ao:List (Addr × Obj))(σ:St)(Q:VK)(u:Value)(s':Shared):Prop
 | mk (v:V) (H':Hp) (_:Inv X ao σ H' s') (_:RelV v u) (_:Q v H')
def TP(X:Cx)(ao:List (Addr × Obj))(σ:St)(Q:Bool->Hp->Prop)(b:Bool)(s':Shared):Prop:=∃ H',Inv X ao σ H' s'/\Q b H'
inductive AP(X:Cx)(ao:List (Addr × Obj))(σ:St)(Q:List V->Hp->Prop)(us:List Value)(s':Shared):Prop
 | mk (vs:List V) (H':Hp) (_:Inv X ao σ H' s') (_:cu vs us) (_:Q vs H')
def SP(X:Cx)(ao:List (Addr × Obj))(D:Ends)(f:Flow)(s':Shared):Prop :=
 match f with
 | .next=>∃ σ' H',Inv X ao σ' H' s'/\D.nx σ' H'
 | .brk=>∃ σ' H',Inv X ao σ' H' s'/\D.bk σ' H'
 | .cont=>∃ σ' H',Inv X ao σ' H' s'/\D.ct σ' H'
 | .ret u=>∃ v σ' H',Inv X ao σ' H' s'/\RelV v u/\D.rt v H'
def PE(X:Cx)(e:Expr)(t:TE):Prop :=
 ∀ (ao:List (Addr × Obj)) (s:Shared) (σ:St) (H:Hp) (Q:VK),Inv X ao σ H s->t σ H Q->wpAny (model X.prog X.w) X.A (eval e X.env) (EP X ao σ Q) X.xe s
def PT(X:Cx)(e:Expr)(t:TT):Prop :=
 ∀ (ao:List (Addr × Obj)) (s:Shared) (σ:St) (H:Hp) (Q:Bool->Hp->Prop),Inv X ao σ H s->t σ H Q->wpAny (model X.prog X.w) X.A (isTrue e X.env (eval e X.env)) (TP X ao σ Q) X.xe s
def PW(X:Cx)(e:Expr)(t:TT):Prop :=
 ∀ (yD:Sem Value) (ao:List (Addr × Obj)) (s:Shared) (σ:St) (H:Hp) (Q:Bool->Hp->Prop),Inv X ao σ H s->t σ H Q->wpAny (model X.prog X.w) X.A (isTrue e X.env yD) (TP X ao σ Q) X.xe s
theorem PW.pt{X:Cx}{e:Expr}{t:TT}(h:PW X e t):PT X e t:=h _
def PA(X:Cx)(es:List Expr)(t:TA):Prop :=
 ∀ (pos:Pos) (ao:List (Addr × Obj)) (s:Shared) (σ:St) (H:Hp) (Q:List V->Hp->Prop),Inv X ao σ H s->t σ H Q->wpAny (model X.prog X.w) X.A (spliced (backTo pos (starEach es X.env))) (AP X ao σ Q) X.xe s
def PS(X:Cx)(st:Stmt)(t:TS):Prop :=
 ∀ (ao:List (Addr × Obj)) (s:Shared) (σ:St) (H:Hp) (D:Ends),Inv X ao σ H s->t D σ H->wpAny (model X.prog X.w) X.A (exec st X.env) (SP X ao D) X.xe s
def IQ(X:Cx)(st:List Stmt)(t:TS):Prop :=
 ∀ (ao:List (Addr × Obj)) (s:Shared) (σ:St) (H:Hp) (D:Ends),Inv X ao σ H s->t D σ H->wpAny (model X.prog X.w) X.A (execs st X.env) (SP X ao D) X.xe s
theorem dc{α:Type}{t:Sem α}{Q Q':α->Shared->Prop}{M:Model}{A:Around}{E:Value->Shared->Prop}{s:Shared}(h:wpAny M A t Q E s)(hQ:∀ a s,Q a s->Q' a s):wpAny M A t Q' E s:=wpAny_mono h hQ λ_ _ x=>x
end L2
namespace L2
open Spec Rows
section
variable {X:Cx}
inductive T4(i:Nat)(σ:St)(H:Hp)(Q:VK):Prop
 | mk (v:V) (_:σ[i]?=some (some v)) (_:Q v H)
inductive isB(x:V)(H:Hp)(Q:Bool->Hp->Prop):Prop
 | mk (c:Bool) (_:x=.bl c) (_:Q c H)
inductive isI(x:V)(H:Hp)(Q:Option Int->Hp->Prop):Prop
 | mk (i:Int) (_:x=.int i) (_:Q (some i) H)
def tC(v:V):TE:=λ_ H Q=>Q v H
theorem T5{i:Nat}{x:Str}(hN:X.N[i]?=some x)(hv:Vis X.env.scope x)(hd:(x == ("__debug__":Str))=false:=by decide)(Mu:(x == ("__classdict__":Str))=false:=by decide):PE X (.Name x pos) (T4 i):=by
 intro ao s σ H Q I h;obtain⟨v,e,h⟩:=h;obtain⟨m,hn,hl⟩:=I.loc;obtain⟨u,r,l⟩:=hl i x v hN e hv;have kq:EP X ao σ Q u s:=⟨v,H,I,r,h⟩;rcases l with ⟨hk,hm⟩|⟨hk,c,hc,hcell⟩
 ·exact wpAny_Name (wpAny_loadName_local I.ok.kind hk hn hm kq) hd
 ·rcases hk with hk|hk
  ·exact wpAny_Name (wpAny_loadName_cell I.ok.kind hk hc hcell kq) hd
  ·exact wpAny_Name (wpAny_loadName_free I.ok.kind hk hc hcell kq Mu) hd
theorem ay{i j pos}:PE X (.Constant (.int i) j pos) (tC (.int i)):=λ_ _ _ H _ I h=>wpAny_Constant_int ⟨.int i,H,I.tok _,⟨Y⟩,h⟩
theorem jL{b j pos}:PE X (.Constant (.bool b) j pos) (tC (.bl b)):=λ_ _ _ H _ I h=>Constant_bool ⟨.bl b,H,I,rfl,h⟩
theorem T6{j pos}:PE X (.Constant .none j pos) (tC .gm):=λ_ _ _ H _ I h=>Constant_none ⟨.gm,H,I,rfl,h⟩
theorem bC{x j pos}:PE X (.Constant (.str x) j pos) (tC (.str x)):=λ_ _ _ H _ I h=>Calls.Constant_str ⟨.str x,H,I.tok _,⟨Y⟩,h⟩
def Gl(X:Cx)(x:Str):Prop:=X.env.kindOf x=some .globalImplicit
theorem yi{E:Value->Shared->Prop}{s:Shared}{σ:St}{H:Hp}{x:Str}{u:Value}{Q:Value->Shared->Prop}(I:Inv X ao σ H s)(hg:Gl X x)(hm:X.mg x=some u)(h:Q u s)
  (hd:(x == ("__debug__":Str))=false:=by decide):wpAny (model X.prog X.w) X.A (eval (.Name x pos) X.env) Q E s :=
 Calls.Name_function_global I.ok.kind hg (Calls.loadGlobal_global (by rw[I.ok.glob];exact I.mod.glob.keeps I.bk) hm h) hd
theorem vC{E:Value->Shared->Prop}{s:Shared}{σ:St}{H:Hp}{x:Str}{u:Value}{Q:Value->Shared->Prop}(I:Inv X ao σ H s)(hg:Gl X x)(hm:X.mg x=none)(hv:bootBuiltins x=some u)(h:Q u s)
  (hn:x≠"__name__":=by decide) (hd:(x == ("__debug__":Str))=false:=by decide):wpAny (model X.prog X.w) X.A (eval (.Name x pos) X.env) Q E s:=by
 obtain⟨mb,h1,h2⟩:=I.mod.blt;exact Calls.Name_function_global I.ok.kind hg (Calls.loadGlobal_builtin (by rw[I.ok.glob];exact I.mod.glob.keeps I.bk) hm (by rw[I.ok.blt];exact h1.keeps I.bk) ((h2 x hn).trans hv) h) hd
theorem Cf{x:Str}{v:V}{u:Value}(hg:Gl X x)(hm:X.mg x=some u)(r:RelV v u)(hd:(x == ("__debug__":Str))=false:=by decide):PE X (.Name x pos) (tC v) :=
 λ_ _ _ H _ I h=>yi I hg hm ⟨v,H,I,r,h⟩ hd
theorem PN{x:Str}{v:V}{u:Value}(hg:Gl X x)(hm:X.mg x=none)(hv:bootBuiltins x=some u)(r:RelV v u)(hn:x≠"__name__":=by decide)(hd:(x == ("__debug__":Str))=false:=by decide):PE X (.Name x pos) (tC v) :=
 λ_ _ _ H _ I h=>vC I hg hm hv ⟨v,H,I,r,h⟩ hn hd
variable {a b:Expr} {ta tb:TE} {pos:Pos}
def PC(X:Cx)(op:CmpOp)(a b:Expr)(t:TE):Prop :=
 ∀ (ao:List (Addr × Obj)) (s:Shared) (σ:St) (H:Hp) (Q:VK),Inv X ao σ H s->t σ H Q->
  wpAny (model X.prog X.w) X.A (eval a X.env) (λv s₁=>wpAny (model X.prog X.w) X.A (eval b X.env) (λu s₂=>wpAny (model X.prog X.w) X.A (compareOp op v u) (EP X ao σ Q) X.xe s₂) X.xe s₁) X.xe s
theorem D7(b:Expr){op:CmpOp}(h:op≠.In)(h2:op≠.NotIn):behindInMarks op b=false:=by
 have e1:(op == CmpOp.In)=false:=by cases op <;> first|rfl|exact absurd rfl h
 have e2:(op == CmpOp.NotIn)=false:=by cases op <;> first|rfl|exact absurd rfl h2
 cases b <;> simp[behindInMarks,e1,e2]
def abk(ta:TE):TE:=fun σ H Q=>ta σ H λx H1=>Q (.bl (decide (x=.gm))) H1
def Xd(ta:TE):TE:=fun σ H Q=>ta σ H λx H1=>Q (.bl (!decide (x=.gm))) H1
theorem RelV.D8{x:V}{v:Value}(r:RelV x v):(v == Value.none)=decide (x=.gm):=by
 cases x with
 | gm=>cases r;rfl
 | bl _=>cases r;rfl
 | int _=>obtain⟨t,rfl⟩:=r;rfl
 | str _=>obtain⟨t,rfl⟩:=r;rfl
 | Gy _=>obtain⟨t,rfl⟩:=r;rfl
 | Sk _=>obtain⟨t,rfl⟩:=r;rfl
 | ref _=>cases r;rfl
 | ty _=>cases r;rfl
theorem GA{j iQ}(ha:PE X a ta):PC X .Is a (.Constant .none j iQ) (abk ta):=by
 intro ao s σ H Q I h;refine dc (ha ao s σ H _ I h) λv s1 Am=>?_;obtain⟨x,H1,I1,r1,q1⟩:=Am;exact Constant_none (is_none_gen ⟨.bl _,H1,I1,by rw[r1.D8];rfl,q1⟩)
theorem PR{j iQ}(ha:PE X a ta):PC X .IsNot a (.Constant .none j iQ) (Xd ta):=by
 intro ao s σ H Q I h;refine dc (ha ao s σ H _ I h) λv s1 D9=>?_;obtain⟨x,H1,I1,r1,q1⟩:=D9;exact Constant_none (isnot_none_gen ⟨.bl _,H1,I1,by rw[r1.D8];rfl,q1⟩)
def tB(t:TE):TT:=fun σ H Q=>t σ H λx H1=>isB x H1 Q
theorem Mw{op:CmpOp}{t:TE}(h:PC X op a b t)(h1:behindInMarks op b=false:=by first|exact D7 _ (by decide) (by decide)|rfl):PE X (.Compare a [op] [b] pos) t:=λao s σ H Q I hw=>wpAny_Compare1 (h ao s σ H Q I hw) h1
theorem Cg{op:CmpOp}{t:TE}(h:PC X op a b t)(h1:behindInMarks op b=false:=by first|exact D7 _ (by decide) (by decide)|rfl):PT X (.Compare a [op] [b] pos) (tB t):=by
 intro ao s σ H Q I hw;refine wpAny_isTrue_Compare1 (dc (h ao s σ H _ I hw) λv s1 h1=>dc h1 λu s2 h2=>dc h2 λc s3 ⟨x,H1,I1,r1,q1⟩=>?_) h1;obtain⟨d,rfl,q⟩:=q1;cases r1;exact wpAny_truthy_bool ⟨H1,I1,q⟩
theorem gw{e:Expr}{t:TE}(h:PE X e t)(he:∀ yD,isTrue e X.env yD=(do let v ← yD;standAt e.pos;holding [v] (truthy v)):=by intro _;rfl):PT X e (tB t):=by
 intro ao s σ H Q I hw;refine isTrue_plain (dc (h ao s σ H _ I hw) λv s1 ⟨x,H1,I1,r1,q1⟩=>?_) (he _);obtain⟨d,rfl,q⟩:=q1;cases r1;exact wpAny_truthy_bool ⟨H1,I1,q⟩
variable {tA tB':TT} {uB:List Expr}
def abl(t u:TT):TT:=fun σ H Q=>t σ H λc H1=>if c=true then u σ H1 Q else Q false H1
def tOr(t u:TT):TT:=fun σ H Q=>t σ H λc H1=>if c=true then Q true H1 else u σ H1 Q
def abm(t:TT):TT:=fun σ H Q=>t σ H λc H1=>Q (!c) H1
theorem oA(ha:PT X a tA):PW X (.BoolOp .And [a] pos) tA:=by
 intro wh ao s σ H Q I h;refine isTrue_and (dc (ha ao s σ H Q I h) λc s1 e=>?_)
 cases c with
 | true=>exact isTrue_and_nil e
 | false=>exact e
theorem Ci(ha:PT X a tA):PW X (.BoolOp .Or [a] pos) tA:=by
 intro wh ao s σ H Q I h;refine isTrue_or (dc (ha ao s σ H Q I h) λc s1 e=>?_)
 cases c with
 | false=>exact isTrue_or_nil e
 | true=>exact e
theorem qm(ha:PT X a tA)(hb:PW X (.BoolOp .And (b::uB) pos) tB'):PW X (.BoolOp .And (a::b::uB) pos) (abl tA tB'):=by
 intro wh ao s σ H Q I h;refine isTrue_and (dc (ha ao s σ H _ I h) λc s1 Cj=>?_);obtain⟨H1,I1,q1⟩:=Cj
 cases c with
 | true=>exact hb wh ao s1 σ H1 Q I1 q1
 | false=>exact⟨H1,I1,q1⟩
theorem Ea(ha:PT X a tA)(hb:PW X (.BoolOp .Or (b::uB) pos) tB'):PW X (.BoolOp .Or (a::b::uB) pos) (tOr tA tB'):=by
 intro wh ao s σ H Q I h;refine isTrue_or (dc (ha ao s σ H _ I h) λc s1 GB=>?_);obtain⟨H1,I1,q1⟩:=GB
 cases c with
 | true=>exact⟨H1,I1,q1⟩
 | false=>exact hb wh ao s1 σ H1 Q I1 q1
theorem gi(ha:PT X a tA):PT X (.UnaryOp .Not a pos) (abm tA):=by
 intro ao s σ H Q I h;exact isTrue_not (ha ao s σ H (λc H1=>Q (!c) H1) I h)
def Xe(ta tb:TE):TE:=fun σ H Q=>ta σ H λx H1=>isB x H1 λc H1=>if c=true then tb σ H1 Q else Q (.bl false) H1
def Xf(ta:TE):TE:=fun σ H Q=>ta σ H λx H1=>isB x H1 λc H1=>Q (.bl (!c)) H1
theorem oB{op}{t:TE}(h:PE X a t):PE X (.BoolOp op [a] pos) t:=λao s σ H Q I hw=>BoolOp_one (h ao s σ H Q I hw)
theorem ni(ha:PE X a ta)(hb:PE X (.BoolOp .And (b::uB) pos) tb):PE X (.BoolOp .And (a::b::uB) pos) (Xe ta tb):=by
 intro ao s σ H Q I h;refine BoolOp_and (dc (ha ao s σ H _ I h) λv s1 GC=>?_);obtain⟨x,H1,I1,r1,q1⟩:=GC;obtain⟨c,rfl,q1⟩:=q1;cases r1;refine wpAny_truthy_bool ?_
 cases c with
 | true=>exact hb ao s1 σ H1 Q I1 q1
 | false=>exact⟨.bl false,H1,I1,rfl,q1⟩
theorem T7(ha:PE X a ta):PE X (.UnaryOp .Not a pos) (Xf ta):=by
 intro ao s σ H Q I h;refine UnaryOp_ (dc (ha ao s σ H _ I h) λv s1 GD=>?_);obtain⟨x,H1,I1,r1,q1⟩:=GD;obtain⟨c,rfl,q1⟩:=q1;cases r1;exact not_of (wpAny_truthy_bool ⟨.bl (!c),H1,I1,rfl,q1⟩)
def tIf(t:TT)(ta tb:TE):TE:=fun σ H Q=>t σ H λc H1=>if c=true then ta σ H1 Q else tb σ H1 Q
theorem Eb{c:Expr}(hc:PT X c tA)(ha:PE X a ta)(hb:PE X b tb):PE X (.IfExp c a b pos) (tIf tA ta tb):=by
 intro ao s σ H Q I h;refine wpAny_IfExp (dc (hc ao s σ H _ I h) λd s1 Am=>?_);obtain⟨H1,I1,q1⟩:=Am
 cases d with
 | true=>exact ha ao s1 σ H1 Q I1 q1
 | false=>exact hb ao s1 σ H1 Q I1 q1
end
end L2
namespace L2
open Spec Rows
def bI(K:Frag)(H:Hp)(a:Addr)(xs:List V):Prop :=
 Rd H a (.lst xs)\/
  ∃ (o:Obj) (aN:Array Value) (n:Nat),K.lookup a=some o/\o.cls=.type "list"/\o.dict=none/\o.data=.seq aN n/\aN.size<=sizeLine/\cu xs aN.toList
def dH(K:Frag)(H:Hp)(a:Addr)(xs:List V):Prop :=
 Rd H a (.tup xs)\/
  ∃ (o:Obj) (aN:Array Value) (n:Nat),K.lookup a=some o/\o.cls=.type "tuple"/\o.data=.seq aN n/\aN.size<=sizeLine/\cu xs aN.toList
def abn:Value->Option V
 | .none=>some .gm
 | .bool b=>some (.bl b)
 | .int i _=>some (.int i)
 | .str x _=>some (.str x)
 | .bytes b _=>some (.Gy b)
 | .float b _=>some (.Sk b)
 | .ref a=>some (.ref a)
 | .type n=>some (.ty n)
 | _=>none
theorem RelV.abs{x:V}{u:Value}(r:RelV x u):abn u=some x:=by
 cases x with
 | gm=>cases r;rfl
 | bl _=>cases r;rfl
 | int _=>obtain⟨t,rfl⟩:=r;rfl
 | str _=>obtain⟨t,rfl⟩:=r;rfl
 | Gy _=>obtain⟨t,rfl⟩:=r;rfl
 | Sk _=>obtain⟨t,rfl⟩:=r;rfl
 | ref _=>cases r;rfl
 | ty _=>cases r;rfl
theorem RelV.inj{x y:V}{u:Value}(r:RelV x u)(q:RelV y u):x=y:=qj (r.abs.symm.trans q.abs)
theorem cu.inj:∀ {xs ys:List V} {us:List Value},cu xs us->cu ys us->xs=ys
 | _,_,_,.nil,.nil=>rfl
 | _,_,_,.cons r t,.cons r' t'=>by rw[r.inj r',cu.inj t t']
section
variable {X:Cx} {ao:List (Addr × Obj)} {σ:St} {H:Hp} {s:Shared} {a:Addr} {xs ys:List V}
theorem bI.of{K:Frag}(h:H a=some (.lst xs)):bI K H a xs:=.inl (.inl h)
theorem dH.of{K:Frag}(h:H a=some (.tup xs)):dH K H a xs:=.inl (.inl h)
theorem Inv.list(I:Inv X ao σ H s)(h:bI X.K H a xs):∃ aN:List Value,cu xs aN/\PlainL s.heap a aN.toArray/\xs.length<=sizeLine:=by
 rcases h with h|⟨o,aN,n,hk,hc,hd,hs,hz,r⟩
 ·obtain⟨z,aN,n,r,e⟩:=h.ok I.hok;exact⟨aN,r,⟨_,n,e,V,rfl⟩,z⟩
 ·refine⟨aN.toList,r,⟨o,n,I.wR a o hk,hc,hd,by simpa using hs⟩,?_⟩;have e:=r.length;simp only[Array.length_toList]at e;lia
theorem Inv.tuple(I:Inv X ao σ H s)(h:dH X.K H a xs):∃ aN:List Value,cu xs aN/\IsTup s.heap a aN.toArray/\xs.length<=sizeLine:=by
 rcases h with h|⟨o,aN,n,hk,hc,hs,hz,r⟩
 ·obtain⟨z,aN,r,p⟩:=h.ok I.hok;exact⟨aN,r,p,z⟩
 ·refine⟨aN.toList,r,⟨o,I.wR a o hk,hc,n,by simpa using hs⟩,?_⟩;have e:=r.length;simp only[Array.length_toList]at e;lia
theorem Inv.Ec(I:Inv X ao σ H s)(h:bI X.K H a xs)(h':bI X.K H a ys):xs=ys:=by
 obtain⟨aN,r,⟨o,n,e,_,_,d⟩,_⟩:=I.list h;obtain⟨its',r',⟨o',n',e',_,_,d'⟩,_⟩:=I.list h';rw[e]at e';cases e';rw[d]at d';injection d' with d1 _;have:aN=its':=by simpa using congrArg Array.toList d1
 subst this;exact r.inj r'
theorem Inv.Bc(I:Inv X ao σ H s)(h:dH X.K H a xs)(h':dH X.K H a ys):xs=ys:=by
 obtain⟨aN,r,⟨o,e,_,n,d⟩,_⟩:=I.tuple h;obtain⟨its',r',⟨o',e',_,n',d'⟩,_⟩:=I.tuple h';rw[e]at e';cases e';rw[d]at d';injection d' with d1 _;have:aN=its':=by simpa using congrArg Array.toList d1
 subst this;exact r.inj r'
end
abbrev Cx.An(X:Cx)(E:Value->Shared->Prop):Cx:={ X with xe:=E }
abbrev Cx.J4(X:Cx):Cx:=X.An λ_ _=>False
theorem Cx.Ok.An{X:Cx}(ok:X.Ok)(E:Value->Shared->Prop):(X.An E).Ok :=
 ⟨ok.mod,ok.kind,ok.glob,ok.blt,ok.above,ok.inj,ok.has,ok.WZ,ok.hd,ok.frames,ok.stk,ok.exf,ok.bs,ok.Sn,ok.Mt,ok.PM,ok.xM,ok.TZ⟩
theorem Cx.Ok.qo{X:Cx}{E:Value->Shared->Prop}(ok:(X.An E).Ok):X.Ok :=
 ⟨ok.mod,ok.kind,ok.glob,ok.blt,ok.above,ok.inj,ok.has,ok.WZ,ok.hd,ok.frames,ok.stk,ok.exf,ok.bs,ok.Sn,ok.Mt,ok.PM,ok.xM,ok.TZ⟩
section
variable {X:Cx} {ao:List (Addr × Obj)} {σ:St} {H:Hp} {s:Shared} {E:Value->Shared->Prop}
theorem Inv.An(I:Inv X ao σ H s)(E:Value->Shared->Prop):Inv (X.An E) ao σ H s:=⟨I.ok.An E,I.os,I.bare,I.zt,I.loc,I.cell,I.free,I.rT,I.pin,I.hok,I.len⟩
theorem Inv.qo(I:Inv (X.An E) ao σ H s):Inv X ao σ H s:=⟨I.ok.qo,I.os,I.bare,I.zt,I.loc,I.cell,I.free,I.rT,I.pin,I.hok,I.len⟩
theorem SP.qo{D:Ends}{f:Flow}{s':Shared}(h:SP (X.An E) ao D f s'):SP X ao D f s':=by
 cases f with
 | next=>obtain⟨σ',H',I,q⟩:=h;exact⟨σ',H',I.qo,q⟩
 | brk=>obtain⟨σ',H',I,q⟩:=h;exact⟨σ',H',I.qo,q⟩
 | cont=>obtain⟨σ',H',I,q⟩:=h;exact⟨σ',H',I.qo,q⟩
 | ret u=>obtain⟨v,σ',H',I,r,q⟩:=h;exact⟨v,σ',H',I.qo,r,q⟩
theorem IQ.J4{st:List Stmt}{t:TS}(h:IQ X.J4 st t):IQ X st t:=λao s σ H D I hw =>
 wpAny_mono (h ao s σ H D (I.An _) hw) (λ_ _ q=>q.qo) λ_ _ z=>False.elim z
end
section
variable {X:Cx} {st:Stmt} {uB:List Stmt} {t u:TS} {e:Expr} {te:TE} {pos:Pos}
def Xg:TS:=λD σ H=>D.nx σ H
def abo(t u:TS):TS:=λD σ H=>t { D with nx:=u D } σ H
theorem aZ:IQ X [] Xg:=λ_ _ σ H _ I h=>wpAny_execs_nil ⟨σ,H,I,h⟩
theorem aj(h1:PS X st t)(h2:IQ X uB u):IQ X (st::uB) (abo t u):=by
 intro ao s σ H D I h;refine wpAny_execs_cons (dc (h1 ao s σ H { D with nx:=u D } I h) λf s1 q=>?_)
 cases f with
 | next =>
  obtain⟨σ',H',I',q⟩:=q;exact h2 ao s1 σ' H' D I' q
 | ret v=>exact q
 | brk=>exact q
 | cont=>exact q
theorem au(h1:PS X st t):IQ X [st] t:=by
 intro ao s σ H D I h;refine wpAny_execs_cons (dc (h1 ao s σ H D I h) λf s1 q=>?_)
 cases f with
 | next=>exact wpAny_execs_nil q
 | ret v=>exact q
 | brk=>exact q
 | cont=>exact q
def Xh:TS:=λD σ H=>D.ct σ H
theorem Ed:PS X (.Continue pos) Xh:=λ_ _ σ H _ I h=>wpAny_Continue ⟨σ,H,I,h⟩
theorem Inv.quiet{σ:St}{H:Hp}{s:Shared}(I:Inv X ao σ H s):interactive X.env=false:=by simp[interactive,I.ok.kind]
def Xi(te:TE):TS:=λD σ H=>te σ H λ_ H1=>D.nx σ H1
theorem bg(he:PE X e te)(hs:swapsWith e none pos.line X.env=pure false:=by rfl):PS X (.Expr e pos) (Xi te):=by
 intro ao s σ H D I h;exact wpAny_Expr_any (dc (he ao s σ H _ I h) λv s1 ⟨x,H1,I1,r1,q1⟩=>⟨σ,H1,I1,q1⟩) I.quiet hs
def abp(te:TE):TS:=λD σ H=>te σ H D.rt
theorem aG(he:PE X e te):PS X (.Return (some e) pos) (abp te):=by
 intro ao s σ H D I h;exact wpAny_Return_some (dc (he ao s σ H _ I h) λv s1 ⟨x,H1,I1,r1,q1⟩=>⟨x,σ,H1,I1,r1,q1⟩)
def abq(c:TT)(t u:TS):TS:=λD σ H=>c σ H λb H1=>if b=true then t D σ H1 else u D σ H1
theorem bN{c:Expr}{a b:List Stmt}{tc:TT}(hc:PT X c tc)(ha:IQ X a t)(hb:IQ X b u):PS X (.If c a b pos) (abq tc t u):=by
 intro ao s σ H D I h;refine wpAny_If (dc (hc ao s σ H _ I h) λd s1 D9=>?_);obtain⟨H1,I1,q1⟩:=D9
 cases d with
 | true=>exact ha ao s1 σ H1 D I1 q1
 | false=>exact hb ao s1 σ H1 D I1 q1
def T8:TS:=λ_ _ _=>False
theorem iR:PS X st T8:=λ_ _ _ _ _ _ h=>h.elim
end
abbrev TG:=V->St->Hp->(St->Hp->Prop)->Prop
abbrev T9:=List V->St->Hp->(St->Hp->Prop)->Prop
def PG(X:Cx)(vD:Expr)(t:TG):Prop :=
 ∀ (ao:List (Addr × Obj)) (s:Shared) (σ:St) (H:Hp) (v:V) (u:Value) (Q:St->Hp->Prop),Inv X ao σ H s->RelV v u->t v σ H Q->
  wpAny (model X.prog X.w) X.A (assign vD X.env u) (λ_ s'=>∃ σ' H',Inv X ao σ' H' s'/\Q σ' H') X.xe s
def Xj(X:Cx)(ts:List Expr)(t:T9):Prop :=
 ∀ (ao:List (Addr × Obj)) (s:Shared) (σ:St) (H:Hp) (vs:List V) (us:List Value) (Q:St->Hp->Prop),Inv X ao σ H s->cu vs us->t vs σ H Q->
  wpAny (model X.prog X.w) X.A (assignInOrder ((assignEach ts X.env).map (·.2)) us) (λ_ s'=>∃ σ' H',Inv X ao σ' H' s'/\Q σ' H') X.xe s
abbrev Ua:=V->V->V->Hp->(Hp->Prop)->Prop
def Xk(X:Cx)(t:Ua):Prop :=
 ∀ (ao:List (Addr × Obj)) (s:Shared) (σ:St) (H:Hp) (o i v:V) (ov iv u:Value) (Q:Hp->Prop),Inv X ao σ H s->RelV o ov->RelV i iv->RelV v u->t o i v H Q->
  wpAny (model X.prog X.w) X.A (setItem ov iv u) (λ_ s'=>∃ H',Inv X ao σ H' s'/\Q H') X.xe s
abbrev TIp:=V->V->Hp->VK->Prop
def PIp(X:Cx)(op:Operator)(t:TIp):Prop :=
 ∀ (ao:List (Addr × Obj)) (s:Shared) (σ:St) (H:Hp) (x y:V) (v u:Value) (Q:VK),Inv X ao σ H s->RelV x v->RelV y u->t x y H Q->
  wpAny (model X.prog X.w) X.A (inplaceOp op v u) (EP X ao σ Q) X.xe s
section
variable {X:Cx} {pos:Pos}
def rV(i:Nat):TG:=λv σ H Q=>Q (σ.set i (some v)) H
theorem PU{i:Nat}{x:Str}(hN:X.N.Nodup)(hi:X.N[i]?=some x)(hx:Loc X.env.scope x)(hf:X.fn x=true\/X.env.scope.names.lookup x=some .local:=by first|exact .inl rfl|exact .inr rfl|assumption):PG X (.Name x pos) (rV i):=by
 intro ao s σ H v u Q I r h;exact wpAny_assign_Name (yC I hN hi hx r (λs' I'=>⟨_,H,I',h⟩) hf)
def abt:T9:=λvs σ H Q=>vs=[]/\Q σ H
inductive Xl(t:TG)(u:T9)(vs:List V)(σ:St)(H:Hp)(Q:St->Hp->Prop):Prop
 | mk (v:V) (r:List V) (_:vs=v::r) (_:t v σ H fun σ' H'=>u r σ' H' Q)
theorem gO:Xj X [] abt:=by
 intro ao s σ H vs us Q I r h;obtain⟨e,h⟩:=h;subst e;cases r;exact assignInOrder_nil ⟨σ,H,I,h⟩
theorem b8{e:Expr}{es:List Expr}{t:TG}{u:T9}(h1:PG X e t)(h2:Xj X es u)
  (hs:(assignEach (e::es) X.env).map (·.2)=assign e X.env::(assignEach es X.env).map (·.2):=by rfl):Xj X (e::es) (Xl t u):=by
 intro ao s σ H vs us Q I r h;obtain⟨v,vr,e1,h⟩:=h;subst e1
 cases r with
 | cons r rr =>
  rw[hs];refine assignInOrder_cons (dc (h1 ao s σ H _ _ _ I r h) λ_ s1 Cj=>?_);obtain⟨σ1,H1,I1,q1⟩:=Cj;exact h2 ao s1 σ1 H1 _ _ Q I1 rr q1
inductive Ub(K:Frag)(n:Nat)(t:T9)(v:V)(σ:St)(H:Hp)(Q:St->Hp->Prop):Prop
 | mk (a:Addr) (xs:List V) (_:v=.ref a) (_:dH K H a xs) (_:xs.length=n) (_:t xs σ H Q):Ub K n t v σ H Q
theorem nj{es:List Expr}{k:Nat}{t:T9}{n:Nat}(hc:X.calm=true)(h:Xj X es t)
  (hn:(assignEach es X.env).length=n:=by rfl) (Ck:(assignEach es X.env).findIdx? (·.1)=none:=by rfl):PG X (.Tuple es k pos) (Ub X.K n t):=by
 intro ao s σ H v u Q I r hw;obtain⟨a,xs,e1,hq,hl,hw⟩:=hw;subst e1;cases r;obtain⟨aN,rv,ht,hz⟩:=I.tuple hq;refine assign_Tuple_tuple (I.ok.hd hc) ht (by simp[hn,← hl,rv.length]) Ck λh' hx=>?_;have I1:Inv X ao σ H { s with heap:=h' }:=I.kept (t':=s.toks) λb o e=>hx b o (kC (Heap.lt_size e)) e;exact h ao _ σ H xs _ Q I1 (by simpa using rv) hw
def abu(to ti:TE)(t:Ua):TG:=λv σ H Q=>to σ H λo H1=>ti σ H1 λi H2=>t o i v H2 λH3=>Q σ H3
theorem oE{i:Expr}{to ti:TE}{t:Ua}(ho:PE X o to)(hi:PE X i ti)(hs:Xk X t)
  (ha:∀ v,assign (.Subscript o i pos) X.env v=(do
   let ov ← holding [v] (eval o X.env)
   let iv ← holding [v,ov] (eval i X.env)
   standAt pos
   holding [v,ov,iv] (setItem ov iv v)
   release [v,ov,iv] []):=by intro _;rfl):PG X (.Subscript o i pos) (abu to ti t):=by
 intro ao s σ H v u Q I r h;rw[ha];refine wpAny_bind (wpAny_holding (dc (ho ao s σ H _ I h) λov s1 GB=>?_));obtain⟨x,H1,I1,r1,q1⟩:=GB;refine wpAny_bind (wpAny_holding (dc (hi ao s1 σ H1 _ I1 q1) λiv s2 GC=>?_));obtain⟨y,H2,I2,r2,q2⟩:=GC;refine wpAny_bind (wpAny_standAt (wpAny_bind (wpAny_holding (dc (hs ao s2 σ H2 x y v ov iv u _ I2 r1 r2 r q2) λ_ s3 GF=>?_))));obtain⟨H3,I3,q3⟩:=GF;exact wpAny_release ⟨σ,H3,I3,q3⟩
def Mx(te:TE)(g:TG):TS:=λD σ H=>te σ H λx H1=>g x σ H1 D.nx
theorem lP{e:Expr}{te:TE}{g:TG}(he:PE X e te)(hg:PG X tg g)(hs:swapsWithSole [tg] e pos.line X.env=pure false:=by rfl)(hw:swappedStores [tg] e X.env=pure none:=by rfl)
  (h1:(assignEach [tg] X.env).map (·.2)=[assign tg X.env]:=by rfl):PS X (.Assign [tg] e pos) (Mx te g):=by
 intro ao s σ H D I h;refine wpAny_Assign_stores (dc (he ao s σ H _ I h) λv s1 ⟨x,H1,I1,r1,q1⟩=>?_) hs hw;rw[h1];exact dc (hg ao s1 σ H1 x v _ I1 r1 q1) λ_ s2 q=>q
theorem Uc{i:Nat}{x:Str}{e:Expr}{te:TE}(hN:X.N.Nodup)(hi:X.N[i]?=some x)(hx:Loc X.env.scope x)(he:PE X e te)(hs:swapsWith e (some (.Name x iQ)) pos.line X.env=pure false:=by rfl)(hf:X.fn x=true\/X.env.scope.names.lookup x=some .local:=by first|exact .inl rfl|exact .inr rfl|assumption) :
  PS X (.Assign [.Name x iQ] e pos) (Mx te (rV i)):=by
 intro ao s σ H D I h;refine wpAny_Assign_Name (dc (he ao s σ H _ I h) λv s1 ⟨y,H1,I1,r1,q1⟩=>?_) hs;exact yC I1 hN hi hx r1 (λs2 I2=>⟨_,H1,I2,q1⟩) hf
def abv(i:Nat)(te:TE)(ti:TIp):TS:=λD σ H=>∃ x,σ[i]?=some (some x)/\te σ H λy H1=>ti x y H1 λz H2=>D.nx (σ.set i (some z)) H2
theorem vE{i:Nat}{x:Str}{e:Expr}{te:TE}{op:Operator}{ti:TIp}{iQ:Pos}(hN:X.N.Nodup)(hi:X.N[i]?=some x)(hx:Loc X.env.scope x)(he:PE X e te)(ho:PIp X op ti)(hf:X.fn x=true\/X.env.scope.names.lookup x=some .local:=by first|exact .inl rfl|exact .inr rfl|assumption) :
  PS X (.AugAssign (.Name x iQ) op e pos) (abv i te ti):=by
 intro ao s σ H D I h;obtain⟨v,e1,h⟩:=h;obtain⟨m,hn,hl⟩:=I.loc;have vis:Vis X.env.scope x:=by rcases hx with k|k;exact .inl k;exact .inr (.inl k)
 obtain⟨u,r,l⟩:=hl i x v hi e1 vis;refine wpAny_AugAssign_Name ?_
 have go:wpAny (model X.prog X.w) X.A (eval e X.env) (λw s₂=>wpAny (model X.prog X.w) X.A (inplaceOp op u w) (λr s₃=>wpAny (model X.prog X.w) X.A (storeName X.env x r) (λ_=>SP X ao D .next) X.xe s₃) X.xe s₂) X.xe s:=by
  refine dc (he ao s σ H _ I h) λw s1 Am=>?_;obtain⟨y,H1,I1,r1,q1⟩:=Am;refine dc (ho ao s1 σ H1 v y u w _ I1 r r1 q1) λz s2 D9=>?_;obtain⟨zv,H2,I2,r2,q2⟩:=D9;exact yC I2 hN hi hx r2 (λs3 I3=>⟨_,H2,I3,q2⟩) hf
 rcases l with ⟨hk,hm⟩|⟨hk,c,hc,hcell⟩
 ·exact wpAny_loadName_local I.ok.kind hk hn hm go
 ·rcases hk with hk|hk
  ·exact wpAny_loadName_cell I.ok.kind hk hc hcell go
  ·rcases hx with k|k
   ·have:X.env.scope.names.lookup x=some .free:=hk;rw[k]at this;cases this
   ·have:X.env.scope.names.lookup x=some .free:=hk;rw[k]at this;cases this
def ipI(f:Int->Int->Int):TIp:=λx y H Q=>∃ i j,x=.int i/\y=.int j/\Q (.int (f i j)) H
theorem Ud:PIp X .Add (ipI λi j=>i+j):=by
 intro ao s σ H x y v u Q I r1 r2 h;obtain⟨i,j,e1,e2,q⟩:=h;subst e1;subst e2;obtain⟨t,rfl⟩:=r1;obtain⟨t',rfl⟩:=r2;exact iadd_int ⟨.int _,H,I.tok _,⟨Y⟩,q⟩
end
section
variable {X:Cx} {pos:Pos}
def Ue(c:TT)(tb:TS):TS:=λD σ H=>∃ W:Nat->St->Hp->Prop,(∃ m,W m σ H)/\∀ m σ H,W m σ H->
 c σ H λb H1=>if b=true then ∃ N:St->Hp->Prop,(∀ σ' H',N σ' H'->∃ m',m'<m/\W m' σ' H')/\tb { D with nx:=N,ct:=N,bk:=D.nx } σ H1 else D.nx σ H1
theorem uC{c:Expr}{tc:TT}{tb:TS}(hp:PassesOwn (model X.prog X.w) X.A X.env X.xe)(hc:PT X c tc)(hb:IQ X body tb):PS X (.While c body [] pos) (Ue tc tb):=by
 intro ao s σ H D I h;obtain⟨W,⟨m0,w0⟩,sP⟩:=h;refine wpAny_While (codeAny_whileLoop (λn s'=>∃ σ' H',Inv X ao σ' H' s'/\W n σ' H') ?_ m0 ⟨σ,H,I,w0⟩);rintro n s1 ⟨σ1,H1,I1,w1⟩;refine wpAny_passesOwn hp (dc (hc ao s1 σ1 H1 _ I1 (sP n σ1 H1 w1)) λb s2 GD=>?_);obtain⟨H2,I2,q2⟩:=GD
 cases b with
 | true =>
  obtain⟨N,hN,q2⟩:=q2;rw[if_pos rfl];refine wpAny_passesOwn hp (dc (hb ao s2 σ1 H2 _ I2 q2) λf s3 q3=>?_)
  cases f with
  | next =>
   obtain⟨σ3,H3,I3,n3⟩:=q3;obtain⟨m',hm,w3⟩:=hN σ3 H3 n3;exact⟨m',hm,σ3,H3,I3,w3⟩
  | cont =>
   obtain⟨σ3,H3,I3,n3⟩:=q3;obtain⟨m',hm,w3⟩:=hN σ3 H3 n3;exact⟨m',hm,σ3,H3,I3,w3⟩
  | brk=>exact q3
  | ret v=>exact q3
 | false =>
  rw[if_neg gK];exact wpAny_execs_nil ⟨σ1,H2,I2,q2⟩
end
structure It where
 go:Nat->Hp->Prop
 My:Nat->Hp->V->Hp->Prop
 stop:Nat->Hp->Prop
def oF(X:Cx)(ao:List (Addr × Obj))(H:Hp)(b:Addr):Prop :=
 H b=none/\b≠X.env.locals/\b∉X.fs/\(b∈X.ex\/X.s₀.heap.objs.size<=b)/\(∀ x c,X.env.cells.lookup x=some c->c≠b)/\∀ p∈X.pn++ao,p.1≠b
theorem Inv.J5{X:Cx}{σ:St}{H H':Hp}{s:Shared}{b:Addr}(I:Inv X ao σ H s)(hb:s.heap.objs.size<=b)(hn:H' b=none):oF X ao H' b:=by
 refine⟨hn,Nat.ne_of_gt (qh I.lt hb),I.abg hb,.inr (iI I.sz hb),λx c e z=>?_,λp hp z=>?_⟩
 ·obtain⟨v,q⟩:=I.cell x c e;exact absurd (qh q.lt (by rw[z];exact hb)) (Nat.lt_irrefl _)
 ·exact absurd (qh (Heap.lt_size (I.pin p hp).1) (by rw[z];exact hb)) (Nat.lt_irrefl _)
structure GG(P:Program)(w:World)(K:Frag)(tg:Expr)(J:It)(fp:List Addr)(it:Addr)(tn:Nat->Heap->Prop):Prop where
 mem:it∈fp
 obj:∀ i h,tn i h->∀ b∈fp,∃ o,h.get? b=some o/\∀ v,o.data≠.cell v
 keep:∀ i h h',tn i h->(∀ b∈fp,∀ o,h.get? b=some o->h'.get? b=some o)->tn i h'
 item:∀ (X:Cx),X.prog=P->X.w=w->X.K=K->X.calm=true->∀ (i:Nat) (ao:List (Addr × Obj)) (s:Shared) (σ:St) (H:Hp) (E:Value->Shared->Prop),Inv X ao σ H s->(∀ b∈fp,oF X ao H b)->tn i s.heap->J.go i H->
  wpAny (model P w) X.A (pyNext (.ref it)) (λr s1=>∃ u,r=some u/\
   wpAny (model P w) X.A (letOwnedTupleGo tg (.ref it) u) (λ_ s2=>∃ x H',Inv X ao σ H' s2/\RelV x u/\J.My i H x H'/\tn (i+1) s2.heap/\∀ b∈fp,H' b=none) E s1) E s
 done:∀ (X:Cx),X.prog=P->X.w=w->X.K=K->X.calm=true->∀ (i:Nat) (ao:List (Addr × Obj)) (s:Shared) (σ:St) (H:Hp) (E:Value->Shared->Prop),Inv X ao σ H s->(∀ b∈fp,oF X ao H b)->tn i s.heap->J.stop i H->
  wpAny (model P w) X.A (pyNext (.ref it)) (λr s1=>r=none/\Inv X ao σ H s1) E s
 self:∀ (A:Around) (i:Nat) (s:Shared) (Q:Value->Shared->Prop) (E:Value->Shared->Prop),tn i s.heap->Q (.ref it) s->wpAny (model P w) A (pyIter (.ref it)) Q E s
abbrev TI:=St->Hp->(It->Hp->Prop)->Prop
def PIE(X:Cx)(ao:List (Addr × Obj))(σ:St)(tg:Expr)(R:It->Hp->Prop)(Xm:Value)(s2:Shared):Prop :=
 ∃ (it:Addr) (fp:List Addr) (tn:Nat->Heap->Prop) (J:It) (H':Hp),Xm=.ref it/\Inv X ao σ H' s2/\GG X.prog X.w X.K tg J fp it tn/\tn 0 s2.heap/\(∀ b∈fp,oF X ao H' b)/\R J H'
def PI(X:Cx)(tg iter:Expr)(wi:TI):Prop :=
 ∀ (ao:List (Addr × Obj)) (s:Shared) (σ:St) (H:Hp) (R:It->Hp->Prop),Inv X ao σ H s->wi σ H R->
  wpAny (model X.prog X.w) X.A (eval iter X.env) (λv s1=>wpAny (model X.prog X.w) X.A (pyIter v) (PIE X ao σ tg R) X.xe s1) X.xe s
theorem Ef{M:Model}{A:Around}{E:Value->Shared->Prop}{s:Shared}{it:Addr}{u:Value}{o:Obj}{n:String}{vs:Array Value}{Q:Unit->Shared->Prop}(ho:s.heap.get? it=some o)(hc:o.cls=.type n)(hd:o.data=.fields vs)
  (hn:["enumerate","zip","dict_itemiterator","dict_reverseitemiterator","odict_iterator","itertools.zip_longest","itertools.pairwise"].contains n=false) (hQ:Q () s):wpAny M A (letOwnedTupleGo tg (.ref it) u) Q E s:=by
 unfold letOwnedTupleGo
 cases tg <;> first
  | exact wpAny_pure hQ
  | (cases u <;> first
    | exact wpAny_pure hQ
    | (refine wpAny_bind (wpAny_load ho ?_);rw[hc,hd];show wpAny M A (if (["enumerate","zip","dict_itemiterator","dict_reverseitemiterator","odict_iterator","itertools.zip_longest","itertools.pairwise"].contains n&&vs[0]? == some (rawInt _))=true then _ else _) Q E s;rw[if_neg (by intro h;rw[hn,Bool.false_and]at h;cases h)];exact wpAny_pure hQ))
def Pn(K:Frag)(a:Addr):It :=
 ⟨λi H=>∃ xs x,bI K H a xs/\xs[i]?=some x,λi H x H'=>H'=H/\∀ xs,bI K H a xs->xs[i]?=some x,λi H=>∃ xs,bI K H a xs/\xs.length<=i⟩
def Xn(K:Frag)(a:Addr):It :=
 ⟨λi H=>∃ xs x,dH K H a xs/\xs[i]?=some x,λi H x H'=>H'=H/\∀ xs,dH K H a xs->xs[i]?=some x,λi H=>∃ xs,dH K H a xs/\xs.length<=i⟩
def J6(lo:Int)(n:Nat):It:=⟨λi _=>i<n,λi H x H'=>H'=H/\x=.int (lo+i),λi _=>n<=i⟩
theorem J7{P:Program}{w:World}{K:Frag}(a it:Addr):GG P w K tg (Pn K a) [it] it (λi h=>h.IsListIter it a i) where
 mem:=by simp
 obj:=λi h st b hb=>by
  have e:b=it:=by simpa using hb
  subst e;obtain⟨o,e,c,d⟩:=st;exact⟨o,e,λv z=>by rw[d]at z;cases z⟩
 keep:=λi h h' st k=>st.at λo e=>k it (by simp) o e
 item:=by
  intro X hP hw hK hc i ao s σ H E I hf st hg;subst hP hw hK;obtain⟨xs,x,hq,hx⟩:=hg;obtain⟨aN,rv,p,hz⟩:=I.list hq;obtain⟨u,hu,ru⟩:=rv.get hx;obtain⟨f0,f1,f2,f3,f4,f5⟩:=hf it (by simp);refine wpAny_pyNext_list_item st p.isList (x:=u) (by simpa using hu) λh' Cm sb=>?_;have I1:Inv X ao σ H { s with heap:=h' }:=I.turned (t':=s.toks) (λb o hb e=>(sb.2 b hb).trans e) f0 f1 f3 f4 f5;obtain⟨o,e,c,d⟩:=id Cm;exact⟨u,rfl,Ef (s:={ s with heap:=h' }) e c d (by decide) ⟨x,H,I1,ru,⟨rfl,λys hy=>by rw[I.Ec hy hq];exact hx⟩,Cm,λb hb=>(hf b hb).1⟩⟩
 done:=by
  intro X hP hw hK hc i ao s σ H E I hf st hg;subst hP hw hK;obtain⟨xs,hq,hx⟩:=hg;obtain⟨aN,rv,p,hz⟩:=I.list hq;obtain⟨f0,f1,f2,f3,f4,f5⟩:=hf it (by simp);have hl:=rv.length;exact wpAny_pyNext_list_end (I.ok.hd hc) st p.isList (by simp;lia) λh' eb=>⟨rfl,I.turned (t':=s.toks) (λb o hb e=>eb b o hb e) f0 f1 f3 f4 f5⟩
 self:=λ_ _ _ _ _ st h=>wpAny_pyIter_listiter st h
theorem GH{P:Program}{w:World}{K:Frag}(a it:Addr):GG P w K tg (Xn K a) [it] it (λi h=>h.IsTupleIter it a i) where
 mem:=by simp
 obj:=λi h st b hb=>by
  have e:b=it:=by simpa using hb
  subst e;obtain⟨o,e,c,d⟩:=st;exact⟨o,e,λv z=>by rw[d]at z;cases z⟩
 keep:=λi h h' st k=>st.at λo e=>k it (by simp) o e
 item:=by
  intro X hP hw hK hc i ao s σ H E I hf st hg;subst hP hw hK;obtain⟨xs,x,hq,hx⟩:=hg;obtain⟨aN,rv,p,hz⟩:=I.tuple hq;obtain⟨u,hu,ru⟩:=rv.get hx;obtain⟨f0,f1,f2,f3,f4,f5⟩:=hf it (by simp);refine wpAny_pyNext_tuple_item st (show s.heap.IsTuple a aN.toArray from p) (x:=u) (by simpa using hu) λh' Cm sb=>?_;have I1:Inv X ao σ H { s with heap:=h' }:=I.turned (t':=s.toks) (λb o hb e=>(sb.2 b hb).trans e) f0 f1 f3 f4 f5;obtain⟨o,e,c,d⟩:=id Cm;exact⟨u,rfl,Ef (s:={ s with heap:=h' }) e c d (by decide) ⟨x,H,I1,ru,⟨rfl,λys hy=>by rw[I.Bc hy hq];exact hx⟩,Cm,λb hb=>(hf b hb).1⟩⟩
 done:=by
  intro X hP hw hK hc i ao s σ H E I hf st hg;subst hP hw hK;obtain⟨xs,hq,hx⟩:=hg;obtain⟨aN,rv,p,hz⟩:=I.tuple hq;obtain⟨f0,f1,f2,f3,f4,f5⟩:=hf it (by simp);have hl:=rv.length;exact wpAny_pyNext_tuple_end (I.ok.hd hc) st (show s.heap.IsTuple a aN.toArray from p) (by simp;lia) λh' eb=>⟨rfl,I.turned (t':=s.toks) (λb o hb e=>eb b o hb e) f0 f1 f3 f4 f5⟩
 self:=λ_ _ _ _ _ st h=>wpAny_pyIter_tupleiter st h
theorem yE{P:Program}{w:World}{K:Frag}(it:Addr)(lo:Int)(n:Nat):GG P w K tg (J6 lo n) [it] it (λi h=>IsRangeIter h it (lo+(i:Nat)*1) ((n:Int)-(i:Nat)) 1) where
 mem:=by simp
 obj:=λi h st b hb=>by
  have e:b=it:=by simpa using hb
  subst e
  exact⟨_,st,λv z=>by
   have z':Data.fields _=Data.cell v:=z
   cases z'⟩
 keep:=λi h h' st k=>k it (by simp) _ st
 item:=by
  intro X hP hw hK hc i ao s σ H E I hf st hg;subst hP hw hK;obtain⟨f0,f1,f2,f3,f4,f5⟩:=hf it (by simp);have W:=Walks.range (prog:=X.prog) (w:=X.w) (I.ok.hd hc) it lo 1 n;refine W.item i s _ _ hg st λv h' tk hv Cm kk=>?_;obtain⟨t,rfl⟩:=hv;have I1:Inv X ao σ H { s with heap:=h',toks:=tk }:=I.turned (λb o hb e=>kk b o (by simpa using hb) e) f0 f1 f3 f4 f5;refine⟨Y,Ef (s:={ s with heap:=h',toks:=tk }) (n:="range_iterator") Cm rfl rfl (by decide) ⟨.int (lo+i),H,I1,⟨t,?_⟩,⟨V⟩,Cm,λb hb=>(hf b hb).1⟩⟩;rw[Int.mul_one]
 done:=by
  intro X hP hw hK hc i ao s σ H E I hf st hg;subst hP hw hK;obtain⟨f0,f1,f2,f3,f4,f5⟩:=hf it (by simp);exact wpAny_pyNext_range_end (I.ok.hd hc) st (by have:n<=i:=hg;lia) λh' eb=>⟨rfl,I.turned (t':=s.toks) (λb o hb e=>eb b o hb e) f0 f1 f3 f4 f5⟩
 self:=λ_ _ _ _ _ st h=>wpAny_pyIter_rangeiter st h
end L2
namespace L2
open Spec Rows
section
variable {X:Cx} {tg:Expr}
inductive isL(K:Frag)(x:V)(H:Hp)(R:It->Hp->Prop):Prop
 | mk (a:Addr) (_:x=.ref a) (_:∃ xs,bI K H a xs) (_:R (Pn K a) H)
def Ss(K:Frag)(tl:TE):TI:=fun σ H R=>tl σ H λx H1=>isL K x H1 R
def abx(K:Frag)(tl:TE):TI:=fun σ H R=>tl σ H λx H1=>∃ a,x=.ref a/\(∃ xs,dH K H1 a xs)/\R (Xn K a) H1
theorem cJ{tl:TE}(hl:PE X l tl):PI X tg l (Ss X.K tl):=by
 intro ao s σ H R I h;refine dc (hl ao s σ H _ I h) λv s1 Am=>?_;obtain⟨x,H1,I1,r1,q1⟩:=Am;obtain⟨a,e,⟨xs,hq⟩,q⟩:=q1;subst e;cases r1;obtain⟨aN,rv,p,hz⟩:=I1.list hq;refine wpAny_pyIter_list p.isList ?_;refine⟨s1.heap.objs.size,[s1.heap.objs.size],P,H1,rfl,I1.kept (t':=s1.toks) λb o e=>Heap.get?_push_of_some _ e,J7 a _,⟨_,Heap.get?_push_size _ rfl,V⟩,λb hb=>?_,q⟩;have e:b=s1.heap.objs.size:=by simpa using hb
 subst e;exact I1.J5 (gh _) (I1.hok.fresh (gh _))
theorem Ug{tl:TE}(hl:PE X l tl):PI X tg l (abx X.K tl):=by
 intro ao s σ H R I h;refine dc (hl ao s σ H _ I h) λv s1 D9=>?_;obtain⟨x,H1,I1,r1,q1⟩:=D9;obtain⟨a,e,⟨xs,hq⟩,q⟩:=q1;subst e;cases r1;obtain⟨aN,rv,p,hz⟩:=I1.tuple hq;refine wpAny_pyIter_tuple (show s1.heap.IsTuple a aN.toArray from p) ?_;refine⟨s1.heap.objs.size,[s1.heap.objs.size],P,H1,rfl,I1.kept (t':=s1.toks) λb o e=>Heap.get?_push_of_some _ e,GH a _,⟨_,Heap.get?_push_size _ rfl,V⟩,λb hb=>?_,q⟩;have e:b=s1.heap.objs.size:=by simpa using hb
 subst e;exact I1.J5 (gh _) (I1.hok.fresh (gh _))
theorem Mz{σ:St}{H:Hp}{s:Shared}{R:It->Hp->Prop}{E:Value->Shared->Prop}{lo hi:Int}{t u v:Tok}{tk:Nat}(I:Inv X ao σ H s)(h1:-(2^62)<=lo)(h2:lo<2^62)(h3:-(2^62)<=hi)(h4:hi<2^62)
  (q:R (J6 lo (hi-lo).toNat) H):wpAny (model X.prog X.w) X.A (pyIter (.ref s.heap.objs.size)) (PIE X ao σ tg R) E { s with heap:=s.heap.push { cls:=.type "range",data:=.fields #[.int lo t,.int hi u,.int 1 v] },toks:=tk }:=by
 refine wpAny_pyIter_range (IsRange.new ..) (small_one h1 h2 h3 h4) ?_;have I1:Inv X ao σ H { s with heap:=s.heap.push { cls:=.type "range",data:=.fields #[.int lo t,.int hi u,.int 1 v] },toks:=tk }:=I.kept λb o e=>Heap.get?_push_of_some _ e;refine⟨(s.heap.push { cls:=.type "range",data:=.fields #[.int lo t,.int hi u,.int 1 v] }).objs.size,[(s.heap.push { cls:=.type "range",data:=.fields #[.int lo t,.int hi u,.int 1 v] }).objs.size],P,H,rfl, I1.kept (t':=tk) λb o e=>Heap.get?_push_of_some _ e,yE _ lo (hi-lo).toNat,?_,λb hb=>?_,q⟩
 ·have e1:lo+((0:Nat):Int)*1=lo:=by simp
  have e2:(((hi-lo).toNat:Nat):Int)-((0:Nat):Int)=Builtin.Range.rangeSize lo hi 1:=by rw[rangeSize_one];split <;> lia
  show IsRangeIter _ _ (lo+((0:Nat):Int)*1) ((((hi-lo).toNat:Nat):Int)-((0:Nat):Int)) 1;rw[e1,e2];exact Heap.get?_push_size _ rfl
 ·have e:b=(s.heap.push { cls:=.type "range",data:=.fields #[.int lo t,.int hi u,.int 1 v] }).objs.size:=by simpa using hb
  subst e;exact I1.J5 (gh _) (I1.hok.fresh (gh _))
inductive isR(vs:List V)(H:Hp)(R:It->Hp->Prop):Prop
 | mk (j:Int) (_:vs=[.int j]) (_:-(2^62)<=j) (_:j<2^62) (_:R (J6 0 j.toNat) H)
def Xo(ta:TA):TI:=fun σ H R=>ta σ H λvs H1=>isR vs H1 R
theorem iA{a:Expr}{ta:TA}{p:Pos}(hg:Gl X "range")(hm:X.mg "range"=none)(ha:PA X [a] ta)(hs:starEach [a] X.env=[(false,eval a X.env)]:=by rfl):PI X tg (.Call (.Name "range" p) [a] [] pos) (Xo ta):=by
 intro ao s σ H R I h;refine Call_ (vC I hg hm boot_range (PyProof.Rows.callWith_type1 (dc (ha pos ao s σ H _ I h) λus s1 ⟨vs,H1,I1,r1,q1⟩=>?_) hs rfl));obtain⟨j,e,q1,q2,q⟩:=q1;subst e
 cases r1 with
 | cons r rr =>
  cases rr;obtain⟨t,rfl⟩:=r;exact call_range_1 (Mz I1 ∅ ∅ q1 q2 (by simpa using q))
def aby(wi:TI)(g:TG)(tb:TS):TS:=λD σ H=>wi σ H λJ H1=>∃ W:Nat->Nat->St->Hp->Prop,(∃ m,W 0 m σ H1)/\∀ i m σ H,W i m σ H->
 (J.stop i H/\D.nx σ H)\/(J.go i H/\∃ N:St->Hp->Prop,(∀ σ' H',N σ' H'->∃ m',m'<m/\W (i+1) m' σ' H')/\∀ x H',J.My i H x H'->g x σ H' fun σ2 H2=>tb { D with nx:=N,ct:=N,bk:=D.nx } σ2 H2)
def sQ(fp:List Addr)(h:Heap):List (Addr × Obj):=fp.filterMap λb=>(h.get? b).map λo=>(b,o)
theorem gU{fp:List Addr}{h:Heap}{b:Addr}{o:Obj}(hb:b∈fp)(e:h.get? b=some o):(b,o)∈sQ fp h:=List.mem_filterMap.mpr ⟨b,hb,by rw[e];rfl⟩
theorem J8{fp:List Addr}{h:Heap}{p:Addr × Obj}(hp:p∈sQ fp h):p.1∈fp/\h.get? p.1=some p.2:=by
 obtain⟨b,hb,e⟩:=List.mem_filterMap.mp hp
 cases q:h.get? b with
 | none=>rw[q]at e;cases e
 | some o =>
  rw[q]at e;have e':(b,o)=p:=qj e;subst e';exact⟨hb,q⟩
theorem Inv.pinned{σ:St}{H:Hp}{s:Shared}{fp:List Addr}(I:Inv X ao σ H s)(hf:∀ b∈fp,oF X ao H b)(ho:∀ b∈fp,∃ o,s.heap.get? b=some o/\∀ v,o.data≠.cell v):Inv X (ao++sQ fp s.heap) σ H s :=
 I.IM λp hp=>(List.mem_append.mp hp).elim (λz=>I.pin p (ou _ z)) λz=>by
  obtain⟨hb,e⟩:=J8 z;obtain⟨f0,f1,f2,_⟩:=hf p.1 hb;obtain⟨o,e',d⟩:=ho p.1 hb;rw[e]at e';cases e';exact⟨e,f0,f1,f2,d⟩
theorem Inv.nR{pl:List (Addr × Obj)}{σ:St}{H:Hp}{s:Shared}(I:Inv X (ao++pl) σ H s):Inv X ao σ H s:=I.IM λp hp=>I.pin p (ou _ (sO _ hp))
theorem d9{iter:Expr}{wi:TI}{g:TG}{tb:TS}(hp:PassesOwn (model X.prog X.w) X.A X.env X.xe)(hc:X.calm=true)(hi:PI X tg iter wi)(hg:PG X tg g)(hb:IQ X body tb)
  (hs:∀ x,foldedSetIterable iter X.env x=pure x:=by intro _;rfl):PS X (.For tg iter body [] pos) (aby wi g tb):=by
 intro ao s σ H D I h;refine wpAny_For (dc (hi ao s σ H _ I h) λv s1 h1=>dc h1 λXm s2 h2=>?_) hs;obtain⟨it,fp,tn,J,H2,e,I2,T,st2,f2,W,⟨m0,w0⟩,sP⟩:=h2;subst e;have sR:∀ {H':Hp},(∀ b∈fp,H' b=none)->∀ b∈fp,oF X ao H' b:=λhn b hb=>⟨hn b hb,(f2 b hb).2⟩;refine codeAny_forLoop_any (λn s'=>∃ i σ' H',Inv X ao σ' H' s'/\tn i s'.heap/\(∀ b∈fp,H' b=none)/\W i n σ' H') ?_ m0 ⟨0,σ,H2,I2,st2,λb hb=>(f2 b hb).1,w0⟩;rintro n s3 ⟨i,σ3,H3,I3,st3,fr3,w3⟩;rcases sP i n σ3 H3 w3 with ⟨stop,qn⟩|⟨go,N,hN,step⟩
 ·refine wpAny_passesOwn hp (dc (T.done X rfl rfl rfl hc i ao s3 σ3 H3 X.xe I3 (sR fr3) st3 stop) λr s4 Cj=>?_);obtain⟨hr,I4⟩:=Cj;subst hr;exact wpAny_execs_nil ⟨σ3,H3,I4,qn⟩
 ·refine wpAny_passesOwn hp (dc (T.item X rfl rfl rfl hc i ao s3 σ3 H3 X.xe I3 (sR fr3) st3 go) λr s4 GB=>?_);obtain⟨u,hr,h4⟩:=GB;subst hr;refine wpAny_passesOwn hp (dc h4 λ_ s5 GC=>?_);obtain⟨x,H5,I5,r5,y5,Wu,Po⟩:=GC;have I5':=I5.pinned (sR Po) (T.obj _ _ Wu);refine wpAny_passesOwn hp (dc (hg _ s5 σ3 H5 x u _ I5' r5 (step x H5 y5)) λ_ s6 GF=>?_);obtain⟨σ6,H6,I6,q6⟩:=GF;refine wpAny_passesOwn hp (dc (hb _ s6 σ6 H6 _ I6 q6) λf s7 q7=>?_)
  have again:∀ {σ7:St} {H7:Hp},Inv X (ao++sQ fp s5.heap) σ7 H7 s7->N σ7 H7->∃ m,m<n/\∃ i σ' H',Inv X ao σ' H' s7/\tn i s7.heap/\(∀ b∈fp,H' b=none)/\W i m σ' H':=λ{σ7 H7} I7 n7=>by
   obtain⟨m',hm,w7⟩:=hN σ7 H7 n7;refine⟨m',hm,i+1,σ7,H7,I7.nR,T.keep _ _ _ Wu λb hb o e=>(I7.pin (b,o) (ou _ (ou _ (gU hb e)))).1,λb hb=>?_,w7⟩;obtain⟨o,e,d⟩:=T.obj _ _ Wu b hb;exact (I7.pin (b,o) (ou _ (ou _ (gU hb e)))).2.1
  cases f with
  | next=>obtain⟨σ7,H7,I7,n7⟩:=q7;exact again I7 n7
  | cont=>obtain⟨σ7,H7,I7,n7⟩:=q7;exact again I7 n7
  | brk=>obtain⟨σ7,H7,I7,q7⟩:=q7;exact⟨σ7,H7,I7.nR,q7⟩
  | ret v=>obtain⟨x7,σ7,H7,I7,r7,q7⟩:=q7;exact⟨x7,σ7,H7,I7.nR,r7,q7⟩
end
theorem dN{K:Frag}{a:Addr}{xs:List V}{g:TG}{tb:TS}{D:Ends}{σ:St}{H:Hp}(Pv:Nat->St->Hp->Prop)(h0:Pv 0 σ H)(hl:∀ i σ H,i<=xs.length->Pv i σ H->bI K H a xs)
  (hs:∀ i x σ H,xs[i]?=some x->Pv i σ H->g x σ H fun σ2 H2=>tb { D with nx:=Pv (i+1),ct:=Pv (i+1),bk:=D.nx } σ2 H2) (hd:∀ σ H,Pv xs.length σ H->D.nx σ H) :
  ∃ W:Nat->Nat->St->Hp->Prop,(∃ m,W 0 m σ H)/\∀ i m σ H,W i m σ H->
   ((Pn K a).stop i H/\D.nx σ H)\/((Pn K a).go i H/\∃ N:St->Hp->Prop,(∀ σ' H',N σ' H'->∃ m',m'<m/\W (i+1) m' σ' H')/\∀ x H',(Pn K a).My i H x H'->g x σ H' fun σ2 H2=>tb { D with nx:=N,ct:=N,bk:=D.nx } σ2 H2):=by
 refine⟨λi m σ H=>m=xs.length-i/\i<=xs.length/\Pv i σ H,⟨xs.length,by simp,Nat.zero_le _,h0⟩,?_⟩;rintro i m σ H ⟨rfl,hi,p⟩;have q:=hl i σ H hi p;by_cases qe:i<xs.length
 ·refine .inr ⟨⟨xs,xs[i],q,by simp[qe]⟩,Pv (i+1),fun σ' H' p'=>⟨xs.length-(i+1),Q,rfl,qe,p'⟩,λx H' y=>?_⟩;obtain⟨e,y⟩:=y;subst e;exact hs i x σ _ (y xs q) p
 ·have e:i=xs.length:=by lia
  subst e;exact .inl ⟨⟨xs,q,gh _⟩,hd σ H p⟩
theorem PV{K:Frag}{a:Addr}{xs:List V}{g:TG}{tb:TS}{D:Ends}{σ:St}{H:Hp}(Pv:Nat->St->Hp->Prop)(h0:Pv 0 σ H)(hl:∀ i σ H,i<=xs.length->Pv i σ H->dH K H a xs)
  (hs:∀ i x σ H,xs[i]?=some x->Pv i σ H->g x σ H fun σ2 H2=>tb { D with nx:=Pv (i+1),ct:=Pv (i+1),bk:=D.nx } σ2 H2) (hd:∀ σ H,Pv xs.length σ H->D.nx σ H) :
  ∃ W:Nat->Nat->St->Hp->Prop,(∃ m,W 0 m σ H)/\∀ i m σ H,W i m σ H->
   ((Xn K a).stop i H/\D.nx σ H)\/((Xn K a).go i H/\∃ N:St->Hp->Prop,(∀ σ' H',N σ' H'->∃ m',m'<m/\W (i+1) m' σ' H')/\∀ x H',(Xn K a).My i H x H'->g x σ H' fun σ2 H2=>tb { D with nx:=N,ct:=N,bk:=D.nx } σ2 H2):=by
 refine⟨λi m σ H=>m=xs.length-i/\i<=xs.length/\Pv i σ H,⟨xs.length,by simp,Nat.zero_le _,h0⟩,?_⟩;rintro i m σ H ⟨rfl,hi,p⟩;have q:=hl i σ H hi p;by_cases qe:i<xs.length
 ·refine .inr ⟨⟨xs,xs[i],q,by simp[qe]⟩,Pv (i+1),fun σ' H' p'=>⟨xs.length-(i+1),Q,rfl,qe,p'⟩,λx H' y=>?_⟩;obtain⟨e,y⟩:=y;subst e;exact hs i x σ _ (y xs q) p
 ·have e:i=xs.length:=by lia
  subst e;exact .inl ⟨⟨xs,q,gh _⟩,hd σ H p⟩
theorem lI{lo:Int}{n:Nat}{g:TG}{tb:TS}{D:Ends}{σ:St}{H:Hp}(Pv:Nat->St->Hp->Prop)(h0:Pv 0 σ H)
  (hs:∀ i σ H,i<n->Pv i σ H->g (.int (lo+i)) σ H fun σ2 H2=>tb { D with nx:=Pv (i+1),ct:=Pv (i+1),bk:=D.nx } σ2 H2) (hd:∀ σ H,Pv n σ H->D.nx σ H) :
  ∃ W:Nat->Nat->St->Hp->Prop,(∃ m,W 0 m σ H)/\∀ i m σ H,W i m σ H->
   ((J6 lo n).stop i H/\D.nx σ H)\/((J6 lo n).go i H/\∃ N:St->Hp->Prop,(∀ σ' H',N σ' H'->∃ m',m'<m/\W (i+1) m' σ' H')/\∀ x H',(J6 lo n).My i H x H'->g x σ H' fun σ2 H2=>tb { D with nx:=N,ct:=N,bk:=D.nx } σ2 H2):=by
 refine⟨λi m σ H=>m=n-i/\i<=n/\Pv i σ H,⟨n,by simp,Nat.zero_le _,h0⟩,?_⟩;rintro i m σ H ⟨rfl,hi,p⟩;by_cases qe:i<n
 ·refine .inr ⟨qe,Pv (i+1),fun σ' H' p'=>⟨n-(i+1),Q,rfl,qe,p'⟩,λx H' y=>?_⟩;obtain⟨e,y⟩:=y;subst e y;exact hs i σ _ qe p
 ·have e:i=n:=by lia
  subst e;exact .inl ⟨Nat.le_refl _,hd σ H p⟩
end L2
namespace L2
open Spec Rows
abbrev R2:=V->V->Hp->VK->Prop
def uy(X:Cx)(f:Value->Value->Sem Value)(r:R2):Prop :=
 ∀ (ao:List (Addr × Obj)) (s:Shared) (σ:St) (H:Hp) (x y:V) (v u:Value) (Q:VK),Inv X ao σ H s->RelV x v->RelV y u->r x y H Q->
  wpAny (model X.prog X.w) X.A (f v u) (EP X ao σ Q) X.xe s
def UnR(X:Cx)(f:Value->Sem Value)(r:V->Hp->VK->Prop):Prop :=
 ∀ (ao:List (Addr × Obj)) (s:Shared) (σ:St) (H:Hp) (x:V) (v:Value) (Q:VK),Inv X ao σ H s->RelV x v->r x H Q->
  wpAny (model X.prog X.w) X.A (f v) (EP X ao σ Q) X.xe s
def jZ(X:Cx)(f:Value)(r:List V->Hp->VK->Prop):Prop :=
 ∀ (ao:List (Addr × Obj)) (s:Shared) (σ:St) (H:Hp) (xs:List V) (us:List Value) (Q:VK),Inv X ao σ H s->cu xs us->r xs H Q->
  wpAny (model X.prog X.w) X.A (call f us) (EP X ao σ Q) X.xe s
def abA(X:Cx)(r:V->Hp->(Bool->Hp->Prop)->Prop):Prop :=
 ∀ (ao:List (Addr × Obj)) (s:Shared) (σ:St) (H:Hp) (x:V) (v:Value) (Q:Bool->Hp->Prop),Inv X ao σ H s->RelV x v->r x H Q->
  wpAny (model X.prog X.w) X.A (truthy v) (TP X ao σ Q) X.xe s
def Xp(r:R2)(ta tb:TE):TE:=fun σ H Q=>ta σ H λx H1=>tb σ H1 λy H2=>r x y H2 Q
def tUn(r:V->Hp->VK->Prop)(ta:TE):TE:=fun σ H Q=>ta σ H λx H1=>r x H1 Q
inductive rI(C:Int->Int->Prop)(g:Int->Int->V)(x y:V)(H:Hp)(Q:VK):Prop
 | mk (i j:Int) (_:x=.int i) (_:y=.int j) (_:C i j) (_:Q (g i j) H):rI C g x y H Q
inductive Su(g:Int->Int->V)(x y:V)(H:Hp)(Q:VK):Prop
 | mk (i j:Int) (_:x=.int i) (_:y=.int j) (_:Q (g i j) H)
def rU(g:Int->V):V->Hp->VK->Prop:=λx H Q=>∃ i,x=.int i/\Q (g i) H
section
variable {X:Cx} {a b c:Expr} {ta tb tc:TE} {pos:Pos}
theorem Uh(ha:PE X a ta)(hb:PE X b tb){ao:List (Addr × Obj)}{s:Shared}{σ:St}{H:Hp}{R:V->V->Hp->Prop}(I:Inv X ao σ H s)
  (h:ta σ H λx H1=>tb σ H1 λy H2=>R x y H2) {Q:Value->Shared->Prop} {f:Value->Value->Sem Value}
  (hf:∀ v u s2 x y H2,Inv X ao σ H2 s2->RelV x v->RelV y u->R x y H2->wpAny (model X.prog X.w) X.A (f v u) Q X.xe s2) :
  wpAny (model X.prog X.w) X.A (eval a X.env) (λv s₁=>wpAny (model X.prog X.w) X.A (eval b X.env) (λu s₂=>wpAny (model X.prog X.w) X.A (f v u) Q X.xe s₂) X.xe s₁) X.xe s:=by
 refine dc (ha ao s σ H _ I h) λv s1 GD=>?_;obtain⟨x,H1,I1,r1,q1⟩:=GD;refine dc (hb ao s1 σ H1 _ I1 q1) λu s2 Am=>?_;obtain⟨y,H2,I2,r2,q2⟩:=Am;exact hf v u s2 x y H2 I2 r1 r2 q2
theorem bG{op:Operator}{r:R2}(ho:uy X (binaryOp op) r)(ha:PE X a ta)(hb:PE X b tb):PE X (.BinOp a op b pos) (Xp r ta tb):=by
 intro ao s σ H Q I h;exact wpAny_BinOp (Uh ha hb I h λv u s2 x y H2 I2 rx ry q=>ho ao s2 σ H2 x y v u Q I2 rx ry q)
theorem gB{op:UnaryOp}{r:V->Hp->VK->Prop}(ho:UnR X (unaryOp op) r)(ha:PE X a ta):PE X (.UnaryOp op a pos) (tUn r ta):=by
 intro ao s σ H Q I h;exact UnaryOp_ (dc (ha ao s σ H _ I h) λv s1 ⟨x,H1,I1,r1,q1⟩=>ho ao s1 σ H1 x v Q I1 r1 q1)
theorem opI{f:Value->Value->Sem Value}{C:Int->Int->Prop}{g:Int->Int->Int}
  (rule:∀ (i j:Int) (t u:Tok) (s:Shared) (Q:Value->Shared->Prop) (E:Value->Shared->Prop),C i j->Q (.int (g i j) s.toks) { s with toks:=s.toks+1 }->wpAny (model X.prog X.w) X.A (f (.int i t) (.int j u)) Q E s) :
  uy X f (rI C λi j=>.int (g i j)):=by
 intro ao s σ H x y v u Q I rx ry h;obtain⟨i,j,rfl,rfl,hc,q⟩:=h;obtain⟨t,rfl⟩:=rx;obtain⟨t',rfl⟩:=ry;exact rule i j t t' s _ _ hc ⟨.int (g i j),H,I.tok _,⟨Y⟩,q⟩
theorem Xq{f:Value->Value->Sem Value}{g:Int->Int->Int}
  (rule:∀ (i j:Int) (t u:Tok) (s:Shared) (Q:Value->Shared->Prop) (E:Value->Shared->Prop),Q (.int (g i j) s.toks) { s with toks:=s.toks+1 }->wpAny (model X.prog X.w) X.A (f (.int i t) (.int j u)) Q E s) :
  uy X f (Su λi j=>.int (g i j)):=by
 intro ao s σ H x y v u Q I rx ry h;obtain⟨i,j,rfl,rfl,q⟩:=h;obtain⟨t,rfl⟩:=rx;obtain⟨t',rfl⟩:=ry;exact rule i j t t' s _ _ ⟨.int (g i j),H,I.tok _,⟨Y⟩,q⟩
theorem PX{f:Value->Value->Sem Value}{g:Int->Int->Bool}
  (rule:∀ (i j:Int) (t u:Tok) (s:Shared) (Q:Value->Shared->Prop) (E:Value->Shared->Prop),Q (.bool (g i j)) s->wpAny (model X.prog X.w) X.A (f (.int i t) (.int j u)) Q E s) :
  uy X f (Su λi j=>.bl (g i j)):=by
 intro ao s σ H x y v u Q I rx ry h;obtain⟨i,j,rfl,rfl,q⟩:=h;obtain⟨t,rfl⟩:=rx;obtain⟨t',rfl⟩:=ry;exact rule i j t t' s _ _ ⟨.bl (g i j),H,I,rfl,q⟩
def abB(i j:Int):Prop:=0<=j/\j<=1000000/\i.natAbs<2^64
def Ui(i j:Int):Prop:=(-(2^64)<i/\i<2^64)\/(-(2^64)<j/\j<2^64)
theorem Ui.ok{i j:Int}(h:Ui i j):IntMulOk i j:=by
 rcases h with ⟨h1,h2⟩|⟨h1,h2⟩
 ·exact .of_left (intBits_le_64 h1 h2)
 ·exact .of_right (intBits_le_64 h1 h2)
theorem dh:uy X (binaryOp .Add) (Su λi j=>.int (i+j)):=Xq λ_ _ _ _ _ _ _ q=>add_int q
theorem cN:uy X (binaryOp .Sub) (Su λi j=>.int (i-j)):=Xq λ_ _ _ _ _ _ _ q=>sub_int q
theorem GI:uy X (binaryOp .Mult) (rI Ui λi j=>.int (i*j)):=opI λ_ _ _ _ _ _ _ hc q=>mul_int q hc.ok
theorem yF:uy X (binaryOp .Mod) (rI (λ_ j=>0<j) λi j=>.int (i % j)):=opI λi j _ _ _ _ _ hc q=>by
 have h1:(0:Int)<j:=hc;exact mod_int' ∅ (by rw[Int.fmod_eq_emod_of_nonneg i ∅];exact q)
theorem MA:uy X (binaryOp .Pow) (rI abB λi j=>.int (i^j.toNat)):=opI λ_ _ _ _ _ _ _ hc q=>pow_int_small hc.1 hc.2.1 hc.2.2 q
theorem unI{f:Value->Sem Value}{g:Int->Int}
  (rule:∀ (i:Int) (t:Tok) (s:Shared) (Q:Value->Shared->Prop) (E:Value->Shared->Prop),Q (.int (g i) s.toks) { s with toks:=s.toks+1 }->wpAny (model X.prog X.w) X.A (f (.int i t)) Q E s) :
  UnR X f (rU λi=>.int (g i)):=by
 intro ao s σ H x v Q I rx h;obtain⟨i,rfl,q⟩:=h;obtain⟨t,rfl⟩:=rx;exact rule i t s _ _ ⟨.int (g i),H,I.tok _,⟨Y⟩,q⟩
theorem eL:UnR X (unaryOp .USub) (rU λi=>.int (-i)):=unI λ_ _ _ _ _ q=>neg_int q
end
def Xr:V->V->Bool
 | .gm,.gm=>true | .gm,.int _=>true | .int _,.gm=>true | .gm,.bl _=>true | .bl _,.gm=>true | .gm,.str _=>true | .str _,.gm=>true
 | .int _,.int _=>true | .bl _,.bl _=>true | .str _,.str _=>true | .Gy _,.Gy _=>true
 | .int _,.str _=>true | .str _,.int _=>true | .bl _,.str _=>true | .str _,.bl _=>true
 | _,_=>false
def rEq:R2:=λx y H Q=>Xr x y=true/\Q (.bl (decide (x=y))) H
def rNe:R2:=λx y H Q=>Xr x y=true/\Q (.bl (!decide (x=y))) H
theorem IS{i j:Int}:decide (V.int i=V.int j)=(i == j):=by
 rw[Bool.eq_iff_iff];simp
theorem MB{i j:Bool}:decide (V.bl i=V.bl j)=(i == j):=by
 rw[Bool.eq_iff_iff];simp
theorem IT{i j:Str}:decide (V.str i=V.str j)=(i == j):=by
 rw[Bool.eq_iff_iff];simp
theorem IU{i j:Array UInt8}:decide (V.Gy i=V.Gy j)=(i.toList == j.toList):=by
 rw[Bool.eq_iff_iff];cases i;cases j;simp
section
variable {X:Cx} {a b c:Expr} {ta tb tc:TE} {pos:Pos}
theorem dJ{σ:St}{H:Hp}{s:Shared}{Q:VK}{k k':Bool}(I:Inv X ao σ H s)(q:Q (.bl k) H)(e:k=k'):EP X ao σ Q (.bool k') s:=by
 subst e;exact⟨.bl k,H,I,rfl,q⟩
theorem dQ:uy X (compareOp .Eq) rEq:=by
 intro ao s σ H x y v u Q I rx ry h;obtain⟨hs,q⟩:=h
 cases x with
 | gm =>
  cases rx
  cases y with
  | gm=>cases ry;exact PySem.EqNone.eq_none_none (dJ I q (by simp))
  | bl j=>cases ry;exact PySem.EqNone.eq_none_bool (dJ I q (by simp))
  | int j=>obtain⟨t',rfl⟩:=ry;exact PySem.EqNone.eq_none_int (dJ I q (by simp))
  | str j=>obtain⟨t',rfl⟩:=ry;exact PySem.EqNone.eq_none_str (dJ I q (by simp))
  | _=>exact absurd (show false=true from hs) gK
 | bl i =>
  cases rx
  cases y with
  | gm=>cases ry;exact PySem.EqNone.eq_bool_none (dJ I q (by simp))
  | bl j=>cases ry;exact eq_bool (dJ I q MB)
  | str j=>obtain⟨t',rfl⟩:=ry;exact PySem.EqMixed.eq_bool_str (dJ I q (by simp))
  | _=>exact absurd (show false=true from hs) gK
 | int i =>
  obtain⟨t,rfl⟩:=rx
  cases y with
  | gm=>cases ry;exact PySem.EqNone.eq_int_none (dJ I q (by simp))
  | int j=>obtain⟨t',rfl⟩:=ry;exact eq_int (dJ I q IS)
  | str j=>obtain⟨t',rfl⟩:=ry;exact PySem.EqMixed.eq_int_str (dJ I q (by simp))
  | _=>exact absurd (show false=true from hs) gK
 | str i =>
  obtain⟨t,rfl⟩:=rx
  cases y with
  | gm=>cases ry;exact PySem.EqNone.eq_str_none (dJ I q (by simp))
  | bl j=>cases ry;exact PySem.EqMixed.eq_str_bool (dJ I q (by simp))
  | int j=>obtain⟨t',rfl⟩:=ry;exact PySem.EqMixed.eq_str_int (dJ I q (by simp))
  | str j=>obtain⟨t',rfl⟩:=ry;exact eq_str (dJ I q IT)
  | _=>exact absurd (show false=true from hs) gK
 | Gy i =>
  obtain⟨t,rfl⟩:=rx
  cases y with
  | Gy j=>obtain⟨t',rfl⟩:=ry;exact PySem.W.eq_bytes (dJ I q IU)
  | _=>exact absurd (show false=true from hs) gK
 | _=>cases y <;> exact absurd (show false=true from hs) gK
theorem MC:uy X (compareOp .NotEq) rNe:=by
 intro ao s σ H x y v u Q I rx ry h;obtain⟨hs,q⟩:=h
 cases x with
 | gm =>
  cases rx
  cases y with
  | gm=>cases ry;exact PySem.EqNone.ne_none_none (dJ I q (by simp))
  | bl j=>cases ry;exact PySem.EqNone.ne_none_bool (dJ I q (by simp))
  | int j=>obtain⟨t',rfl⟩:=ry;exact PySem.EqNone.ne_none_int (dJ I q (by simp))
  | str j=>obtain⟨t',rfl⟩:=ry;exact PySem.EqNone.ne_none_str (dJ I q (by simp))
  | _=>exact absurd (show false=true from hs) gK
 | bl i =>
  cases rx
  cases y with
  | gm=>cases ry;exact PySem.EqNone.ne_bool_none (dJ I q (by simp))
  | bl j=>cases ry;exact ne_bool (dJ I q (congrArg not MB))
  | str j=>obtain⟨t',rfl⟩:=ry;exact PySem.EqMixed.ne_bool_str (dJ I q (by simp))
  | _=>exact absurd (show false=true from hs) gK
 | int i =>
  obtain⟨t,rfl⟩:=rx
  cases y with
  | gm=>cases ry;exact PySem.EqNone.ne_int_none (dJ I q (by simp))
  | int j=>obtain⟨t',rfl⟩:=ry;exact ne_int (dJ I q (congrArg not IS))
  | str j=>obtain⟨t',rfl⟩:=ry;exact PySem.EqMixed.ne_int_str (dJ I q (by simp))
  | _=>exact absurd (show false=true from hs) gK
 | str i =>
  obtain⟨t,rfl⟩:=rx
  cases y with
  | gm=>cases ry;exact PySem.EqNone.ne_str_none (dJ I q (by simp))
  | bl j=>cases ry;exact PySem.EqMixed.ne_str_bool (dJ I q (by simp))
  | int j=>obtain⟨t',rfl⟩:=ry;exact PySem.EqMixed.ne_str_int (dJ I q (by simp))
  | str j=>obtain⟨t',rfl⟩:=ry;exact ne_str (dJ I q (congrArg not IT))
  | _=>exact absurd (show false=true from hs) gK
 | Gy i =>
  obtain⟨t,rfl⟩:=rx
  cases y with
  | Gy j=>obtain⟨t',rfl⟩:=ry;exact PySem.W.ne_bytes (dJ I q (congrArg not IU))
  | _=>exact absurd (show false=true from hs) gK
 | _=>cases y <;> exact absurd (show false=true from hs) gK
theorem kU:uy X (compareOp .Lt) (Su λi j=>.bl (decide (i<j))):=PX λ_ _ _ _ _ _ _ q=>lt_int q
theorem gp:uy X (compareOp .LtE) (Su λi j=>.bl (decide (i<=j))):=PX λ_ _ _ _ _ _ _ q=>le_int q
theorem Bd:uy X (compareOp .Gt) (Su λi j=>.bl (decide (j<i))):=PX λ_ _ _ _ _ _ _ q=>gt_int q
theorem Sv:uy X (compareOp .GtE) (Su λi j=>.bl (decide (j<=i))):=PX λ_ _ _ _ _ _ _ q=>ge_int q
theorem bx(b:Expr){op:CmpOp}(h:op≠.In:=by decide)(h2:op≠.NotIn:=by decide):behindInMarks op b=false:=by
 have e1:(op == CmpOp.In)=false:=by cases op <;> first|rfl|exact absurd rfl h
 have e2:(op == CmpOp.NotIn)=false:=by cases op <;> first|rfl|exact absurd rfl h2
 cases b <;> simp[behindInMarks,e1,e2]
theorem jk{op:CmpOp}{r:R2}(ho:uy X (compareOp op) r)(ha:PE X a ta)(hb:PE X b tb)(hm:behindInMarks op b=false):PE X (.Compare a [op] [b] pos) (Xp r ta tb):=by
 intro ao s σ H Q I h;exact wpAny_Compare1 (Uh ha hb I h λv u s2 x y H2 I2 rx ry q=>ho ao s2 σ H2 x y v u Q I2 rx ry q) hm
def Sw(t:TE):TT:=fun σ H Q=>t σ H λx H'=>isB x H' Q
theorem aT{op:CmpOp}{r:R2}(ho:uy X (compareOp op) r)(ha:PE X a ta)(hb:PE X b tb)(hm:behindInMarks op b=false):PT X (.Compare a [op] [b] pos) (Sw (Xp r ta tb)):=by
 intro ao s σ H Q I h
 refine wpAny_isTrue_Compare1 (dc (ha ao s σ H _ I h) λv s1 ⟨x,H1,I1,r1,q1⟩=>dc (hb ao s1 σ H1 _ I1 q1) λu s2 ⟨y,H2,I2,r2,q2⟩ =>
  dc (ho ao s2 σ H2 x y v u _ I2 r1 r2 q2) λc s3 ⟨z,H3,I3,r3,k,e,q3⟩=>?_) hm
 subst e;cases r3;exact wpAny_truthy_bool ⟨H3,I3,q3⟩
def Uj(r r':R2)(ta tb tc:TE):TE:=fun σ H Q=>ta σ H λx H1=>tb σ H1 λy H2=>r x y H2 λz H3=>∃ k,z=.bl k/\
 (if k=true then tc σ H3 λw' H4=>r' y w' H4 Q else Q (.bl false) H3)
theorem qp{op Gr:CmpOp}{r r':R2}(ho:uy X (compareOp op) r)(J3:uy X (compareOp Gr) r')(ha:PE X a ta)(hb:PE X b tb)(hc:PE X c tc)
  (hm:lastMarks [op,Gr] [b,c]=false:=by with_unfolding_all rfl):PT X (.Compare a [op,Gr] [b,c] pos) (Sw (Uj r r' ta tb tc)):=by
 intro ao s σ H Q I h
 refine isTrue_chain (dc (ha ao s σ H _ I h) λv s1 ⟨x,H1,I1,r1,q1⟩=>test_link (dc (hb ao s1 σ H1 _ I1 q1) λu s2 ⟨y,H2,I2,r2,q2⟩ =>
  dc (ho ao s2 σ H2 x y v u _ I2 r1 r2 q2) λd s3 ⟨z,H3,I3,r3,k,e,q3⟩=>?_)) hm
 subst e;cases r3;refine wpAny_truthy_bool ?_
 cases k with
 | false =>
  obtain⟨k',e',q'⟩:=q3;cases e';exact ite_ff ⟨H3,I3,q'⟩
 | true =>
  refine ite_tt (test_last (dc (hc ao s3 σ H3 _ I3 q3) λw' s4 ⟨z',H4,I4,r4,q4⟩=>dc (J3 ao s4 σ H4 y z' u w' _ I4 r2 r4 q4) λd' s5 D9=>?_));obtain⟨z2,H5,I5,r5,k2,e2,q5⟩:=D9;subst e2;cases r5;exact wpAny_truthy_bool ⟨H5,I5,q5⟩
def Xs(K:Frag)(x:V)(H:Hp)(k:Bool):Prop :=
 match x with
 | .gm=>k=false
 | .bl b=>k=b
 | .int i=>k=(i != 0)
 | .str y=>y.length<=sizeLine/\k=((y.length:Int) != 0)
 | .Gy y=>y.size<=sizeLine/\k=((y.size:Int) != 0)
 | .ref p=>(∃ xs,bI K H p xs/\k=!xs.isEmpty)\/(∃ xs,dH K H p xs/\k=!xs.isEmpty)\/∃ kvs,H p=some (.dK kvs)/\k=!kvs.isEmpty
 | _=>False
theorem GJ{κ:Type}{kvs:List (κ × V)}{vs:List (κ × Value)}(r:KV kvs vs):(!vs.isEmpty)=!kvs.isEmpty:=by
 cases r <;> rfl
theorem yG{xs:List V}{aN:List Value}(r:cu xs aN):(!aN.toArray.isEmpty)=!xs.isEmpty:=by
 cases r <;> simp
theorem sS:(sizeLine:Nat)<2^63:=by rw[sizeLine_eq];decide
theorem Uk:abA X (λx H Q=>∃ k,Xs X.K x H k/\Q k H):=by
 intro ao s σ H x v Q I rx h;obtain⟨k,e,q⟩:=h;have hl:=sS;have hs:sizeLine=16777216:=sizeLine_eq
 cases x with
 | gm =>
  cases rx;have e':k=false:=e;subst e';exact truthy_none ⟨H,I,q⟩
 | bl b =>
  cases rx;have e':k=b:=e;subst e';exact wpAny_truthy_bool ⟨H,I,q⟩
 | int i =>
  obtain⟨t,rfl⟩:=rx;have e':k=(i != 0):=e;subst e';exact PySem.P.truthy_int ⟨H,I,q⟩
 | str y =>
  obtain⟨t,rfl⟩:=rx;obtain⟨hy,e'⟩:y.length<=sizeLine/\k=((y.length:Int) != 0):=e;subst e';exact PySem.P.truthy_str ∅ ⟨H,I.tok _,q⟩
 | Gy y =>
  obtain⟨t,rfl⟩:=rx;obtain⟨hy,e'⟩:y.size<=sizeLine/\k=((y.size:Int) != 0):=e;subst e';exact PySem.W.truthy_bytes ∅ ⟨H,I.tok _,q⟩
 | ref p =>
  cases rx;have e':(∃ xs,bI X.K H p xs/\k=!xs.isEmpty)\/(∃ xs,dH X.K H p xs/\k=!xs.isEmpty)\/∃ kvs,H p=some (.dK kvs)/\k=!kvs.isEmpty:=e;rcases e' with ⟨xs,hx,e'⟩|⟨xs,hx,e'⟩|⟨kvs,hx,e'⟩
  ·subst e';obtain⟨aN,r,pl,hz⟩:=I.list hx;have dI:=r.length;exact wpAny_truthy_list pl.isList (by simp only[gQ];lia) ⟨H,I.tok _,by rw[yG r];exact q⟩
  ·subst e';obtain⟨aN,r,pl,hz⟩:=I.tuple hx;have dI:=r.length;exact truthy_tuple pl (by simp only[gQ];lia) ⟨H,I.tok _,by rw[yG r];exact q⟩
  ·subst e';obtain⟨hz,hS,vs,r,m⟩:kvs.length<=sizeLine/\(p == sysModules)=false/\∃ vs,KV kvs vs/\s.heap.DictOf (fY X.prog X.w) p vs:=I.hok p _ hx;have dI:kvs.length=vs.length:=Paired.length r;exact wpAny_truthy_dict hS m ∅ ⟨H,I.tok _,by rw[GJ r];exact q⟩
 | _=>exact (show False from e).elim
theorem lQ(ha:PE X a ta)(he:∀ yD,isTrue a X.env yD=(do let v ← yD;standAt a.pos;holding [v] (truthy v))) :
  PT X a (fun σ H Q=>ta σ H λx H'=>∃ k,Xs X.K x H' k/\Q k H'):=by
 intro ao s σ H Q I h;exact isTrue_plain (dc (ha ao s σ H _ I h) λv s1 ⟨x,H1,I1,r1,q1⟩=>Uk ao s1 σ H1 x v Q I1 r1 q1) (he _)
theorem vals1{x:V}{us:List Value}(r:cu [x] us):∃ u,us=[u]/\RelV x u:=by
 cases r with
 | cons r1 r2=>cases r2;exact⟨Y,r1⟩
theorem vals2{x y:V}{us:List Value}(r:cu [x,y] us):∃ u w',us=[u,w']/\RelV x u/\RelV y w':=by
 cases r with
 | cons r1 r2 =>
  cases r2 with
  | cons r3 r4=>cases r4;exact⟨P,rfl,r1,r3⟩
theorem qY(hc:X.calm=true):jZ X (.builtin "max") (λxs H Q=>∃ i j,xs=[.int i,.int j]/\Q (.int (if j > i then j else i)) H):=by
 intro ao s σ H xs us Q I r h;obtain⟨i,j,rfl,q⟩:=h;obtain⟨u,w',rfl,⟨t,rfl⟩,⟨t',rfl⟩⟩:=vals2 r;refine max_two_ints (I.ok.hd hc) λh' tk k=>⟨_,H,I.kept k,?_,q⟩;by_cases hj:j > i
 ·rw[if_pos hj,if_pos hj];exact⟨Y⟩
 ·rw[if_neg hj,if_neg hj];exact⟨Y⟩
theorem qZ(hc:X.calm=true):jZ X (.builtin "min") (λxs H Q=>∃ i j,xs=[.int i,.int j]/\Q (.int (if j<i then j else i)) H):=by
 intro ao s σ H xs us Q I r h;obtain⟨i,j,rfl,q⟩:=h;obtain⟨u,w',rfl,⟨t,rfl⟩,⟨t',rfl⟩⟩:=vals2 r;refine min_two_ints (I.ok.hd hc) λh' tk k=>⟨_,H,I.kept k,?_,q⟩;by_cases hj:j<i
 ·rw[if_pos hj,if_pos hj];exact⟨Y⟩
 ·rw[if_neg hj,if_neg hj];exact⟨Y⟩
end
end L2
namespace L2
open Spec Rows
structure GK(h:Heap)(x dx C:Addr)(mA:Str->Option Value):Prop where
 obj:h.get? x=some (instObj C dx)
 ns:h.Ns1 dx mA
 ne:dx≠x
theorem J9{h:Heap}{mA:Str->Option Value}(n:h.Ns1 dx mA):∃ od,h.get? dx=some od/\∀ name,lookIn name od=some (mA name):=by
 obtain⟨o,es,ep,ho,hd,hk,_,hm⟩:=n;refine⟨o,ho,λname=>?_⟩;have e:=hm name;unfold nsFind findBy at e;rw[← Array.find?_toList]at e;unfold lookIn;rw[hd];dsimp only;split
 ·rename_i y q;rw[q]at e;exact congrArg some e
 ·rename_i q;rw[q]at e
  have a:es.toList.any (·.refKey)=false:=by
   rw[List.any_eq_false];intro y hy;obtain⟨z,t,hkey⟩:=hk y (Array.mem_toList_iff.mp hy);simp[DictEntry.refKey,hkey]
  have a':¬ es.toList.any (·.refKey)=true:=by rw[a];exact gK
  rw[if_neg a'];exact congrArg some e
theorem GK.look{h:Heap}{x:Addr}{mA:Str->Option Value}(I:GK h x dx C mA):∃ od,InstAt h x (instObj C dx) C (some od)/\∀ name,lookIn name od=some (mA name) :=
 let ⟨od,ho,hl⟩:=J9 I.ns
 ⟨od,⟨I.obj,V,ho⟩,hl⟩
section
variable {prog:Program} {w:World} {A:Around} {E:Value->Shared->Prop} {s:Shared} {K:Frag} {x dx C f:Addr} {mA:Str->Option Value} {name:Str} {v:Value}
theorem PY{abC:Bool}{Q:Value->Shared->Prop}(X:K.In s.heap)(I:GK s.heap x dx C mA)(hg:plainGet K C name=true)(hh:hasDictIn K C=true)
  (ha:findIn K (.ref C) name=some none) (hv:mA name=some v) (hv':handedIn v=true) (h:Q v { s with toks:=s.toks+1 }) :
  wpAny (model prog w) A (getAttr (.ref x) name abC) Q E s:=by
 obtain⟨od,J,hl⟩:=I.look;exact PySem.W.get_value X J (plainGet_of hg).1 (PySem.W.findObj_own hh ha rfl (by rw[hl,hv])) hv' h
theorem MD{pl:Sem Bool}{Q:Value × List Value->Shared->Prop}(X:K.In s.heap)(I:GK s.heap x dx C mA)(hg:plainGet K C name=true)
  (hf:findIn K (.ref C) name=some (some (.ref f))) (ht:isFn K (.ref f)=true) (hv:mA name=none) (h:Q (.ref f,[.ref x]) s) :
  wpAny (model prog w) A (getMethod (.ref x) name pl) Q E s:=by
 obtain⟨od,J,hl⟩:=I.look;exact PySem.W.method_fn X J (plainGet_of hg).1 (plainGet_of hg).2 hf (beq_iff_eq.mp ht) (by show (lookIn name od).map (·.isSome)=some false;rw[hl,hv];rfl) h
theorem PZ{ns:List Str}{Q:Unit->Shared->Prop}(X:K.In s.heap)(I:GK s.heap x dx C mA)
  (hs:findIn K (.ref C) "__setattr__"=some (some (.builtin "object.__setattr__"))) (hp:plainOver K C=true) (ht:takerIn K C name=some none) (hh:hasDictIn K C=true)
  (hw:PySem.Within mA ns) (hsz:ns.length<=sizeLine)
  (h:∀ h',GK h' x dx C (λy=>if y=name then some v else mA y)->Heap.SameBut dx s.heap h'->Q () { s with heap:=h',toks:=s.toks+2 }) :
  wpAny (model prog w) A (setAttr (.ref x) name v) Q E s:=by
 obtain⟨od,J,hl⟩:=I.look;refine PySem.W.set_plain X J hs (PySem.W.osa_open (s:={ s with toks:=s.toks+1 }) (r:=none) X J hp ht λb=>?_);obtain⟨cd,hc,hd'⟩:=PySem.W.any_some hh;have hx:s.heap.get? x=some ⟨.ref C,some dx,.plain,#[]⟩:=I.obj;refine wpAny_bind (wpAny_pure (wpAny_bind (wpAny_bind (wpAny_loadPart hx (wpAny_bind (PySem.W.Looks.here (s:={ s with toks:=s.toks+1 }) (PySem.W.looks_clsIn X hc) ?_))))));rw[hd'];refine wpAny_pure (a:=some dx) (wpAny_bind (wpAny_pure (wpAny_bind ?_)));refine wpAny_nsSet1 (s:={ s with toks:=s.toks+1 }) I.ns λh' hn2 Gs=>?_;obtain⟨oD,esD,epD,hoD,hdD,hcD⟩:=hn2.count (PySem.Within.cons name v hw);refine wpAny_bind (wpAny_lookBehind hoD (by rw[hdD];exact pastItsLine_dict (iI hcD (by rw[mS];lia))) ?_);exact wpAny_pure (h _ ⟨(Gs.2 _ (Ne.symm I.ne)).trans I.obj,hn2,I.ne⟩ Gs)
theorem ME{R:Result->Shared->Prop}{vs:List Value}{kw:List (Str × Value)}(X:K.In s.heap)(hm:makesIn K C=true)
  (hi:findIn K (.ref C) "__init__"=some (some (.ref f))) (hf:typeIn K (.ref f)=some (.type "function"))
  (h:codeAny (model prog w) (A.under (.builtin "type.__call__" ⟨.ref C::vs,kw⟩)) (.call (.ref f) ⟨.ref (s.heap.objs.size+1)::vs,kw⟩) (PySem.W.InitBack (s.heap.objs.size+1) R)
   { s with heap:=(s.heap.push emptyDict).push (instObj C s.heap.objs.size) }) :
  codeAny (model prog w) A (.call (.ref C) ⟨vs,kw⟩) R s:=by
 obtain⟨hh,g,d,t,os⟩:=s;exact PySem.W.make_core (PySem.W.makes_of X hm) (PySem.W.looks_findIn X hi) (λself=>PySem.W.bind_fn X self hf) (.inl rfl) h
end
def dZ(f:Str)(v:V):List (Str × V)->List (Str × V)
 | []=>[(f,v)]
 | (g,x)::r=>if g=f then (g,v)::r else (g,x)::dZ f v r
theorem wU(f g:Str)(v:V):∀ fs:List (Str × V),(dZ f v fs).lookup g=if g=f then some v else fs.lookup g
 | []=>by
  show List.lookup g [(f,v)]=_;by_cases h:g=f
  ·have hb:(g == f)=true:=beq_iff_eq.mpr h;simp only[List.lookup,hb,if_pos h]
  ·have hb:(g == f)=false:=beq_eq_false_iff_ne.mpr h;simp only[List.lookup,hb,if_neg h]
 | (k,x)::r=>by
  have ih:=wU f g v r;rw[show dZ f v ((k,x)::r)=(if k=f then (k,v)::r else (k,x)::dZ f v r) from rfl];by_cases hk:k=f
  ·rw[if_pos hk];by_cases h:g=k
   ·have hb:(g == k)=true:=beq_iff_eq.mpr h;simp only[List.lookup,hb,if_pos (h.trans hk)]
   ·have hb:(g == k)=false:=beq_eq_false_iff_ne.mpr h;simp only[List.lookup,hb,if_neg (λe:g=f=>h (e.trans hk.symm))]
  ·rw[if_neg hk];by_cases h:g=k
   ·have hb:(g == k)=true:=beq_iff_eq.mpr h;simp only[List.lookup,hb,if_neg (λe:g=f=>hk (h.symm.trans e))]
   ·have hb:(g == k)=false:=beq_eq_false_iff_ne.mpr h;simp only[List.lookup,hb];exact ih
theorem vF(f:Str)(v:V):∀ fs:List (Str × V),f∈(dZ f v fs).map (·.1)/\∀ g,g∈fs.map (·.1)->g∈(dZ f v fs).map (·.1)
 | []=>⟨by simp[dZ],λg h=>by simp at h⟩
 | (k,x)::r=>by
  obtain⟨i1,i2⟩:=vF f v r;rw[show dZ f v ((k,x)::r)=(if k=f then (k,v)::r else (k,x)::dZ f v r) from rfl];by_cases hk:k=f
  ·rw[if_pos hk];subst hk;exact⟨by simp,λg h=>by simpa using h⟩
  ·rw[if_neg hk];refine⟨?_,λg h=>?_⟩
   ·rw[jI];exact nQ _ i1
   ·rw[jI]at h ⊢;rcases List.mem_cons.mp h with e|e
    ·exact List.mem_cons.mpr (.inl e)
    ·exact nQ _ (i2 g e)
theorem wV(f:Str)(v:V):∀ fs:List (Str × V),(dZ f v fs).length<=fs.length+1
 | []=>by simp[dZ]
 | (k,x)::r=>by
  have ih:=wV f v r;rw[show dZ f v ((k,x)::r)=(if k=f then (k,v)::r else (k,x)::dZ f v r) from rfl];by_cases hk:k=f
  ·rw[if_pos hk,mS,mS];lia
  ·rw[if_neg hk,mS,mS];lia
theorem rM.some_of{v:V}{o:Option Value}(r:rM (some v) o):∃ u,o=some u/\RelV v u:=by
 cases o with
 | none=>exact (show False from r).elim
 | some u=>exact⟨u,rfl,r⟩
theorem rM.none_of{o:Option Value}(r:rM none o):o=none:=by
 cases o with
 | none=>rfl
 | some u=>exact (show False from r).elim
theorem Ka{v:V}{u:Value}(r:RelV v u):handedIn u=true:=by
 cases v with
 | gm=>cases (show u=Value.none from r);rfl
 | bl b=>cases (show u=Value.bool b from r);rfl
 | int i=>obtain⟨t,e⟩:=(show ∃ t,u=Value.int i t from r);cases e;rfl
 | str x=>obtain⟨t,e⟩:=(show ∃ t,u=Value.str x t from r);cases e;rfl
 | Gy b=>obtain⟨t,e⟩:=(show ∃ t,u=Value.bytes b t from r);cases e;rfl
 | Sk b=>obtain⟨t,e⟩:=(show ∃ t,u=Value.float b t from r);cases e;rfl
 | ref a=>cases (show u=Value.ref a from r);rfl
 | ty n=>cases (show u=Value.type n from r);rfl
section
variable {P:Program} {w:World} {H H':Hp} {h h':Heap} {a C dx:Addr} {fs Ws:List (Str × V)}
theorem yj(hok:ux P w H h)(e:H a=some (.ins C dx fs)):∃ mA,GK h a dx C mA/\(∀ f,rM (fs.lookup f) (mA f))/\PySem.Within mA (fs.map (·.1))/\fs.length<=1000/\H dx=some (.own a):=by
 obtain⟨d,z,ne,ob,mA,n,r,q⟩:=(show gn P w H h a (.ins C dx fs) from hok a _ e);exact⟨mA,⟨ob,n,ne⟩,r,q,z,d⟩
end
structure LY(K:Frag)(C:Addr):Prop where
 pg:plainGet K C Str.empty=true
 hd:hasDictIn K C=true
 po:plainOver K C=true
 sa:findIn K (.ref C) "__setattr__"=some (some (.builtin "object.__setattr__"))
theorem LY.get{K:Frag}(c:LY K C)(f:Str):plainGet K C f=true:=c.pg
def fR(K:Frag)(C:Addr)(f:Str):Prop:=findIn K (.ref C) f=some none
theorem fR.Xu{K:Frag}{f:Str}(n:fR K C f):takerIn K C f=some none:=by
 unfold takerIn;rw[show findIn K (.ref C) f=some none from n];rfl
structure MF(K:Frag)(C:Addr)(m:Str)(f:Addr):Prop where
 at_:findIn K (.ref C) m=some (some (.ref f))
 fn:isFn K (.ref f)=true
 kp:keepIn K (.ref f)=true
section
variable {X:Cx} {ao:List (Addr × Obj)} {σ:St} {H:Hp} {s:Shared} {a C dx:Addr} {fs:List (Str × V)} {f:Str} {v:V} {A:Around} {E:Value->Shared->Prop}
theorem yH{b:Bool}{Q:Value->Shared->Prop}(I:Inv X ao σ H s)(e:H a=some (.ins C dx fs))(c:LY X.K C)(n:fR X.K C f)(l:fs.lookup f=some v)
  (h:∀ u s',Inv X ao σ H s'->RelV v u->Q u s'):wpAny (model X.prog X.w) A (getAttr (.ref a) f b) Q E s:=by
 obtain⟨mA,O,r,_,_,_⟩:=yj I.hok e;obtain⟨u,hu,ru⟩:=rM.some_of (v:=v) (o:=mA f) (by rw[← l];exact r f);exact PY I.wR O (c.get f) c.hd n hu (Ka ru) (h u _ (I.tok _) ru)
theorem yI{m:Str}{g:Addr}{pl:Sem Bool}{Q:Value × List Value->Shared->Prop}(I:Inv X ao σ H s)(e:H a=some (.ins C dx fs))(c:LY X.K C)(k:MF X.K C m g)(l:fs.lookup m=none)
  (h:Q (.ref g,[.ref a]) s):wpAny (model X.prog X.w) A (getMethod (.ref a) m pl) Q E s:=by
 obtain⟨mA,O,r,_,_,_⟩:=yj I.hok e;have hn:mA m=none:=rM.none_of (by rw[← l];exact r m);exact MD I.wR O (c.get m) k.at_ k.fn hn h
theorem yJ{y:V}{u:Value}{Q:Unit->Shared->Prop}(I:Inv X ao σ H s)(e:H a=some (.ins C dx fs))(c:LY X.K C)(n:fR X.K C f)(hl:fs.length<1000)(ry:RelV y u)
  (h:∀ s',Inv X ao σ (aP H a (.ins C dx (dZ f y fs))) s'->Q () s'):wpAny (model X.prog X.w) A (setAttr (.ref a) f u) Q E s:=by
 obtain⟨mA,O,r,wi,_,ho⟩:=yj I.hok e;have hz:(fs.map (·.1)).length<=sizeLine:=by rw[cG,sizeLine_eq];lia
 refine PZ I.wR O c.sa c.po n.Xu c.hd wi hz λh' O' sb=>h _ ?_;have hd:∃ o,h'.get? dx=some o:=let ⟨o,P,e',_⟩:=O'.ns;⟨o,e'⟩;refine I.write (x:=a) (e:=dx) (by rw[e];exact True.intro) (.inr ho) (λb q hb z=>(sb.2 b hb).trans z) hd ?_;refine⟨by rw[aL O.ne];exact ho,?_,O.ne,O'.obj,_,O'.ns,λg=>?_,λg hg=>?_⟩
 ·have:=wV f y fs;lia
 ·show rM ((dZ f y fs).lookup g) (if g=f then some u else mA g);rw[wU];by_cases q:g=f
  ·rw[if_pos q,if_pos q];exact ry
  ·rw[if_neg q,if_neg q];exact r g
 ·by_cases q:g=f
  ·rw[q];exact (vF f y fs).1
  ·refine (vF f y fs).2 g (wi g λz=>hg ?_);show (if g=f then some u else mA g)=none;rw[if_neg q];exact z
theorem Inv.made(I:Inv X ao σ H s):Inv X ao σ (aP (aP H s.heap.objs.size (.own (s.heap.objs.size+1))) (s.heap.objs.size+1) (.ins C s.heap.objs.size []))
  { s with heap:=(s.heap.push emptyDict).push (instObj C s.heap.objs.size) }:=by
 have e1:(s.heap.push emptyDict).get? s.heap.objs.size=some emptyDict:=Heap.get?_push_size s.heap rfl
 have e2:((s.heap.push emptyDict).push (instObj C s.heap.objs.size)).get? (s.heap.objs.size+1)=some (instObj C s.heap.objs.size):=by
  have:=Heap.get?_push_size (s.heap.push emptyDict) (o:=instObj C s.heap.objs.size) rfl;rwa [Heap.size_push]at this
 have e3:(s.heap.push emptyDict).Ns s.heap.objs.size (λ_=>none):=⟨emptyDict,#[],_,e1,rfl,(λe he=>absurd he (by simp)),λ_=>rfl⟩;have I1:=I.laid (a:=s.heap.objs.size) (o:=.own (s.heap.objs.size+1)) (h':=s.heap.push emptyDict) (t':=s.toks) (λb u q=>Heap.get?_push_of_some _ q) (gh _) ⟨_,e1⟩;refine I1.laid (a:=s.heap.objs.size+1) (o:=.ins C s.heap.objs.size []) (t':=s.toks) (λb u q=>Heap.get?_push_of_some _ q) (Nat.le_of_eq (Heap.size_push _ _)) ?_;have ne:s.heap.objs.size≠s.heap.objs.size+1:=kC (Nat.lt_succ_self _);refine⟨by rw[aL ne,af],Nat.zero_le _,ne,e2,λ_=>none,(Heap.Ns1.of_empty e3).at λo q=>Heap.get?_push_of_some _ q,λ_=>True.intro,λy hy=>absurd rfl hy⟩
theorem P0{prog:Program}{w:World}{env:Env}{e:Expr}{f:Str}{s:Shared}{Q:Value->Shared->Prop}(hb:attributeBase e f env (eval e env)=eval e env)
  (h:wpAny (model prog w) A (eval e env) (λo s₁=>wpAny (model prog w) A (getAttr o f true) Q E s₁) E s):wpAny (model prog w) A (eval (.Attribute e f pos) env) Q E s :=
 Attribute_any_ h (by rw[arm_eval_Attribute,hb])
end
inductive Xv(K:Frag)(f:Str)(x:V)(H:Hp)(Q:VK):Prop
 | mk (a C dx:Addr) (fs:List (Str × V)) (v:V) (_:x=.ref a) (_:H a=some (.ins C dx fs)) (_:LY K C) (_:fR K C f) (_:fs.lookup f=some v) (_:Q v H):Xv K f x H Q
def Xw(K:Frag)(ta:TE)(f:Str):TE:=fun σ H Q=>ta σ H λx H1=>Xv K f x H1 Q
def abD(K:Frag)(ta tv:TE)(f:Str):TS:=λD σ H=>tv σ H λy H1=>ta σ H1 λx H2=>∃ a C dx fs,x=.ref a/\H2 a=some (.ins C dx fs)/\LY K C/\fR K C f/\fs.length<1000/\
 D.nx σ (aP H2 a (.ins C dx (dZ f y fs)))
def Xx(X:Cx)(op:Operator)(rd:V->V->Hp->VK->Prop):Prop :=
 ∀ (ao:List (Addr × Obj)) (s:Shared) (σ:St) (H:Hp) (x y:V) (u v:Value) (Q:VK),Inv X ao σ H s->RelV x u->RelV y v->rd x y H Q->wpAny (model X.prog X.w) X.A (inplaceOp op u v) (EP X ao σ Q) X.xe s
def P1(K:Frag)(ta tv:TE)(rd:V->V->Hp->VK->Prop)(f:Str):TS:=λD σ H=>ta σ H λx H1=>∃ a C dx fs v,x=.ref a/\H1 a=some (.ins C dx fs)/\LY K C/\fR K C f/\fs.lookup f=some v/\
 tv σ H1 λy H2=>rd v y H2 λz H3=>∃ dx' Ws,H3 a=some (.ins C dx' Ws)/\Ws.length<1000/\D.nx σ (aP H3 a (.ins C dx' (dZ f z Ws)))
section
variable {X:Cx} {o e value:Expr} {f:Str} {pos iQ Kc:Pos} {ta tv:TE}
theorem cO(he:PE X e ta)(hb:attributeBase e f X.env (eval e X.env)=eval e X.env):PE X (.Attribute e f pos) (Xw X.K ta f):=by
 intro ao s σ H Q I h;refine P0 hb (dc (he ao s σ H _ I h) λu s1 Cj=>?_);obtain⟨x,H1,I1,rx,a,C,dx,fs,v,ex,ea,c,n,l,q⟩:=Cj;subst ex;obtain rfl:u=Value.ref a:=rx;exact yH I1 ea c n l λu' s2 I2 ru=>⟨v,H1,I2,ru,q⟩
theorem ja(ha:PE X o ta)(hv:PE X value tv)(hs:swapsWith value (some (.Attribute o f iQ)) pos.line X.env=pure false):PS X (.Assign [.Attribute o f iQ] value pos) (abD X.K ta tv f):=by
 intro ao s σ H D I h;refine plainObj_wpAny_Assign_Attribute (dc (hv ao s σ H _ I h) λu s1 h1=>?_) hs;obtain⟨y,H1,I1,ry,q⟩:=h1;refine dc (ha ao s1 σ H1 _ I1 q) λov s2 h2=>?_;obtain⟨x,H2,I2,rx,a,C,dx,fs,ex,ea,c,n,l,q2⟩:=h2;subst ex;obtain rfl:ov=Value.ref a:=rx;exact yJ I2 ea c n l ry λs3 I3=>⟨σ,_,I3,q2⟩
theorem vG{op:Operator}{rd:V->V->Hp->VK->Prop}(ha:PE X o ta)(hv:PE X value tv)(Pp:Xx X op rd):PS X (.AugAssign (.Attribute o f Kc) op value pos) (P1 X.K ta tv rd f):=by
 intro ao s σ H D I h;refine wpAny_AugAssign_AttributeAny (dc (ha ao s σ H _ I h) λov s1 h1=>?_);obtain⟨x,H1,I1,rx,a,C,dx,fs,v,ex,ea,c,n,l,q⟩:=h1;subst ex;obtain rfl:ov=Value.ref a:=rx;refine yH I1 ea c n l λu s2 I2 ru=>dc (hv ao s2 σ H1 _ I2 q) λw3 s3 ⟨y,H2,I3,ry,q3⟩=>dc (Pp ao s3 σ H2 v y u w3 _ I3 ru ry q3) λw4 s4 GC=>?_;obtain⟨z,H3,I4,rz,dx',Ws,ea',l',q4⟩:=GC;exact yJ I4 ea' c n l' rz λs5 I5=>⟨σ,_,I5,q4⟩
end
section
variable {X:Cx} {ao:List (Addr × Obj)} {σ:St} {H:Hp} {s:Shared} {A:Around} {E:Value->Shared->Prop} {Q:Value->Shared->Prop} {c:Value} {b:Bool}
inductive j0(K:Frag)(H:Hp):V->Value->Prop where
 | gm:j0 K H .gm (.type "NoneType")
 | bl (x:Bool):j0 K H (.bl x) (.type "bool")
 | int (i:Int):j0 K H (.int i) (.type "int")
 | str (x:Str):j0 K H (.str x) (.type "str")
 | Sk (x:UInt64):j0 K H (.Sk x) (.type "float")
 | lst {a:Addr} {xs:List V} (e:H a=some (.lst xs)):j0 K H (.ref a) (.type "list")
 | IK {a:Addr} {o:Obj} {xs:List V} (e:H a=some (.IK o (.lst xs))):j0 K H (.ref a) (.type "list")
 | tup {a:Addr} {xs:List V} (e:H a=some (.tup xs)):j0 K H (.ref a) (.type "tuple")
 | dK {a:Addr} {kvs:List (fj × V)} (e:H a=some (.dK kvs)):j0 K H (.ref a) (.type "dict")
 | dT {a:Addr} {kvs:List (List fj × V)} (e:H a=some (.dT kvs)):j0 K H (.ref a) (.type "dict")
 | ins {a C dx:Addr} {fs:List (Str × V)} (e:H a=some (.ins C dx fs)) (cl:LY K C) (ha:findIn K (.ref C) "__class__"=some (some (.builtin "object.__class__")))
   (hn:PySem.W.specialIn K (.builtin "object.__class__") "__get__"=some (some (.builtin "getset_descriptor.__get__"))) (htk:PySem.W.takesIn K (.builtin "object.__class__")=some true)
   (hm:mroIn K C (.type "object")=some true):j0 K H (.ref a) (.ref C)
theorem Kd{x:V}{u t:Value}(I:Inv X ao σ H s)(rx:RelV x u)(ty:j0 X.K H x t)(e:kitOne X.K t c=some b)(h:∀ tk,Q (.bool b) { s with toks:=tk }) :
  wpAny (model X.prog X.w) A (call (.builtin "isinstance") [u,c]) Q E s:=by
 cases ty with
 | gm=>cases (show u=Value.none from rx);exact kia_one PySem.W.kitx_none I.wR True.intro e (λz=>nomatch z) h
 | bl y=>cases (show u=Value.bool y from rx);exact kia_one PySem.W.kitx_bool I.wR True.intro e (λz=>nomatch z) h
 | int i=>obtain⟨t,q⟩:=(show ∃ t,u=Value.int i t from rx);cases q;exact kia_one PySem.W.kitx_int I.wR True.intro e (λz=>nomatch z) h
 | str y=>obtain⟨t,q⟩:=(show ∃ t,u=Value.str y t from rx);cases q;exact kia_one PySem.W.kitx_str I.wR True.intro e (λz=>nomatch z) h
 | Sk y=>obtain⟨t,q⟩:=(show ∃ t,u=Value.float y t from rx);cases q;exact kia_one PySem.W.kitx_float I.wR True.intro e (λz=>nomatch z) h
 | @lst a xs ea =>
  cases (show u=Value.ref a from rx);obtain⟨_,_,n,_,h1⟩:=(show gn X.prog X.w H s.heap a (.lst xs) from I.hok a _ ea);exact kia_one kitx_list I.wR ⟨_,h1,rfl⟩ e (λz=>nomatch z) h
 | @IK a ob xs ea =>
  cases (show u=Value.ref a from rx);obtain⟨_,_,_,n,_,h1⟩:=(show gn X.prog X.w H s.heap a (.IK ob (.lst xs)) from I.hok a _ ea);exact kia_one kitx_list I.wR ⟨_,h1,rfl⟩ e (λz=>nomatch z) h
 | @tup a xs ea =>
  cases (show u=Value.ref a from rx);obtain⟨_,_,_,p⟩:=(show gn X.prog X.w H s.heap a (.tup xs) from I.hok a _ ea);obtain⟨o,h1,h2,_⟩:=p;exact kia_one PySem.W.kitx_tuple I.wR ⟨o,h1,h2⟩ e (λz=>nomatch z) h
 | @dK a kvs ea =>
  cases (show u=Value.ref a from rx);obtain⟨_,_,vs,_,p⟩:=(show gn X.prog X.w H s.heap a (.dK kvs) from I.hok a _ ea);obtain⟨o,es,ep,h1,h2,_⟩:=p;exact kia_one kitx_dict I.wR ⟨o,h1,h2.1⟩ e (λz=>nomatch z) h
 | @dT a kvs ea =>
  cases (show u=Value.ref a from rx);obtain⟨_,_,xs,_,o,es,ep,h1,h2,_⟩:=(show gn X.prog X.w H s.heap a (.dT kvs) from I.hok a _ ea);exact kia_one kitx_dict I.wR ⟨o,h1,h2.1⟩ e (λz=>nomatch z) h
 | @ins a C dx fs ea cl ha hn htk hm =>
  cases (show u=Value.ref a from rx);obtain⟨mA,O,_⟩:=yj I.hok ea;obtain⟨od,J,_⟩:=O.look;exact kia_one (PySem.W.kitx_own (cl.get _) cl.hd ha hn htk hm) I.wR J e (λz=>nomatch z) h
end
end L2
namespace L2
open Spec Rows
structure jb(k:Nat)(A:Around):Prop where
 hd:A.handled=none
 dp:A.depth+3*k+5<recursionLimit
 un:A.units+16*k+200<cLine
theorem jb.mono{j k:Nat}{A:Around}(r:jb k A)(h:j<=k):jb j A:=⟨r.hd,by have:=r.dp;lia,by have:=r.un;lia⟩
theorem jb.deeper{k:Nat}{A:Around}(r:jb (k+1) A)(env:Env):jb k (A.deeper env) :=
 ⟨r.hd,by have:=r.dp;show A.depth+1+3*k+5<_;lia,by have:=r.un;show A.units+3+16*k+200<_;lia⟩
theorem GL{A:Around}{us:List Value}{kw:List (Str × Value)}:(A.under (.builtin "type.__call__" ⟨.ref C::us,kw⟩)).depth=A.depth+1:=by
 first|rfl|simp[Around.under,Code.weight,Code.isCreation,Code.isGuard,Code.isCaller,Code.frames,Code.isFrame,guardIds]
theorem GN{A:Around}{us:List Value}{kw:List (Str × Value)}:(A.under (.builtin "type.__call__" ⟨.ref C::us,kw⟩)).units=A.units+1:=by
 first|rfl|simp[Around.under,Code.cUnits,Code.frames,Code.isFrame]
theorem jb.make{k:Nat}{A:Around}(r:jb (k+1) A)(C:Addr)(us:List Value)(kw:List (Str × Value)):jb k (A.under (.builtin "type.__call__" ⟨.ref C::us,kw⟩)) :=
 ⟨r.hd,by have:=r.dp;rw[GL];lia,by have:=r.un;rw[GN];lia⟩
theorem jb.depth{k:Nat}{A:Around}(r:jb k A):A.depth<recursionLimit:=by have:=r.dp;lia
theorem jb.units{k:Nat}{A:Around}(r:jb k A):A.units+64<cLine:=by have:=r.un;lia
def yK:TA:=λ_ H Q=>Q [] H
def MG(ta:TE)(tr:TA):TA:=fun σ H Q=>ta σ H λx H1=>tr σ H1 λxs H2=>Q (x::xs) H2
section
variable {X:Cx} {e:Expr} {es:List Expr} {te:TE} {t:TA} {pos:Pos}
theorem ah:PA X [] yK:=λ_ _ _ _ H Q I h=>Calls.spliced_nil ⟨[],H,I,.nil,h⟩
theorem aa(ha:PE X e te)(hr:PA X es t)(hs:starEach (e::es) X.env=(false,eval e X.env)::starEach es X.env:=by rfl):PA X (e::es) (MG te t):=by
 intro pos ao s σ H Q I h;rw[hs];show wpAny _ _ (spliced ((false,eval e X.env)::backTo pos (starEach es X.env))) _ _ s;refine Calls.spliced_cons (dc (ha ao s σ H _ I h) λu s1 GF=>?_);obtain⟨x,H1,I1,r1,q1⟩:=GF;exact dc (hr pos ao s1 σ H1 _ I1 q1) λus s2 ⟨xs,H2,I2,r2,q2⟩=>⟨x::xs,H2,I2,.cons r1 r2,q2⟩
def abF(t:TA):TE:=fun σ H Q=>t σ H λxs H1=>xs.length<=sizeLine/\∀ p,H1 p=none->Q (.ref p) (aP H1 p (.tup xs))
def Ke(t:TA):TE:=fun σ H Q=>t σ H λxs H1=>xs.length<=sizeLine/\∀ p,H1 p=none->Q (.ref p) (aP H1 p (.lst xs))
theorem cW{x1}(h:PA X es t):PE X (.Tuple es x1 pos) (abF t):=by
 intro ao s σ H Q I hq;refine wpAny_Tuple_spliced (dc (h pos ao s σ H _ I hq) λus s1 ⟨xs,H1,I1,r,z,q⟩=>⟨by rw[← r.length];exact z,?_⟩);have hf:H1 s1.heap.objs.size=none:=I1.hok.fresh (gh _);refine⟨.ref s1.heap.objs.size,aP H1 s1.heap.objs.size (.tup xs),I1.laid (t':=s1.toks) (λb u e=>Heap.get?_push_of_some _ e) (gh _) ?_,rfl,q _ hf⟩;exact⟨z,us,r,⟨_,Heap.get?_push_size _ rfl,rfl,Y⟩⟩
theorem bM(h:PA X es t):PE X (.List es pos) (Ke t):=by
 intro ao s σ H Q I hq;refine wpAny_List_spliced (dc (h pos ao s σ H _ I hq) λus s1 ⟨xs,H1,I1,r,z,q⟩=>⟨by rw[← r.length];exact z,?_⟩);have hf:H1 s1.heap.objs.size=none:=I1.hok.fresh (gh _);refine⟨.ref s1.heap.objs.size,aP H1 s1.heap.objs.size (.lst xs),I1.laid (t':=s1.toks) (λb u e=>Heap.get?_push_of_some _ e) (gh _) ?_,rfl,q _ hf⟩;exact⟨z,us,0,r,Heap.get?_push_size _ rfl⟩
end
abbrev Sp:=List V->Hp->VK->XK->Prop
abbrev MH:=List Env->Hp->Shared->XK->Value->Shared->Prop
structure GO(P:Program)(w:World)(K:Frag)(mg:Str->Option Value)(zt:Heap)(A:Around)(zn:List Env)(s:Shared)(H:Hp):Prop where
 frames:A.frames=some zn
 mod:Mod K mg zt
 bs:∀ b o,zt.get? b=some o->s.heap.get? b=some o/\H b=none
 Sn:zt.objs.size<=s.heap.objs.size
 xM:s.heap.FunFrames zt zn
 TZ:∀ b∈Ms zn,H b=none
 hok:ux P w H s.heap
 bare:AllBare s.gens
def CE(zn:List Env)(P:Program)(w:World)(H:Hp)(s:Shared)(Q:VK)(u:Value)(s':Shared):Prop :=
 ∃ v H',s'.os=s.os/\AllBare s'.gens/\Un (Ms zn) [] H H' s.heap s'.heap/\ux P w H' s'.heap/\RelV v u/\Q v H'
def CR(CX:MH)(zn:List Env)(P:Program)(w:World)(H:Hp)(s:Shared)(Q:VK)(E:XK)(r:Result)(s':Shared):Prop :=
 match r with
 | .ok (.ret u)=>CE zn P w H s Q u s'
 | .ok _=>False
 | .error e=>CX zn H s E e s'
structure bw(P:Program)(w:World)(K:Frag)(mg:Str->Option Value)(zt:Heap)(CX:MH)(k:Nat)(f:Addr)(fd:FuncData)(ps:List Str)(sp:Sp):Prop where
 len:∀ vs H Q E,sp vs H Q E->vs.length=ps.length
 run:∀ (A:Around) (zn:List Env) (s:Shared) (H:Hp) (args:Args) (us:List Value) (vs:List V) (Q:VK) (E:XK),jb k A->GO P w K mg zt A zn s H->BindsTo s fd args (ps.zip us)->cu vs us->sp vs H Q E->
  codeAny (model P w) A (.call (.ref f) args) (CR CX zn P w H s Q E) s
theorem GO.make{P:Program}{w:World}{K:Frag}{mg:Str->Option Value}{zt:Heap}{A:Around}{zn:List Env}{s:Shared}{H:Hp}(e:GO P w K mg zt A zn s H)(C:Addr)(us:List Value)(kw:List (Str × Value)) :
  GO P w K mg zt (A.under (.builtin "type.__call__" ⟨.ref C::us,kw⟩)) zn s H:=⟨by first|exact e.frames|(simpa [Around.under,Code.envs,Code.isFrame,pushEnvs] using e.frames),e.mod,e.bs,e.Sn,e.xM,e.TZ,e.hok,e.bare⟩
section
variable {X:Cx} {ao:List (Addr × Obj)} {σ:St} {H:Hp} {s s':Shared}
theorem Inv.Xy(I:Inv X ao σ H s):GO X.prog X.w X.K X.mg X.zt X.A X.stack s H :=
 ⟨I.ok.frames,I.ok.mod,I.bs,iI I.ok.Sn I.sz,I.stack,I.IL,I.hok,I.bare⟩
theorem Inv.after{Q:VK}{u:Value}(I:Inv X ao σ H s)(h:CE X.stack X.prog X.w H s Q u s'):EP X ao σ Q u s':=by
 obtain⟨v,H',os,bare,un,hok,r,q⟩:=h;obtain⟨hh,g,d,t,os'⟩:=s';obtain rfl:os'=s.os:=os;exact⟨v,H',I.call (h':=hh) (g':=g) (d':=d) (t':=t) (ch:=[]) un hok bare (λb z=>absurd z (by simp)),r,q⟩
end
def IV(sp:Sp)(yL:List V)(E:XK)(t:TA):TE:=fun σ H Q=>t σ H λvs H1=>sp (vs++yL) H1 Q E
inductive Ul(C:Addr)(m:Str)(x:V)(H:Hp)(N:Prop):Prop
 | mk (a dx:Addr) (fs:List (Str × V)) (_:x=.ref a) (_:H a=some (.ins C dx fs)) (_:fs.lookup m=none) (_:N):Ul C m x H N
def IW(C:Addr)(m:Str)(sp:Sp)(yL:List V)(E:XK)(ta:TE)(t:TA):TE:=fun σ H Q=>ta σ H λx H1=>Ul C m x H1 (t σ H1 λvs H2=>sp (x::(vs++yL)) H2 Q E)
def Xz(C:Addr)(sp:Sp)(yL:List V)(E:XK)(t:TA):TE:=fun σ H Q=>t σ H λvs H1=>∀ x dx,H1 x=none->H1 dx=none->dx≠x->
 sp (.ref x::(vs++yL)) (aP (aP H1 dx (.own x)) x (.ins C dx [])) (λv H2=>v=.gm/\Q (.ref x) H2) E
def Binds(K:Frag)(fd:FuncData)(ps:List Str)(ds:List Value):Prop :=
 ∀ (s:Shared) (us:List Value),K.In s.heap->(us++ds).length=ps.length->BindsTo s fd ⟨us,[]⟩ (ps.zip (us++ds))
theorem Binds.all{K:Frag}{ps:List Str}(h:∀ us:List Value,us.length=ps.length->bindArgs fd ⟨us,[]⟩=pure (ps.zip us)):Binds K fd ps []:=λs us _ hl=>by
 rw[gT]at hl ⊢;exact .of_eq (h us hl)
def nk(CX:MH)(X:Cx)(E:XK):Prop:=∀ (ao:List (Addr × Obj)) (σ:St) (H:Hp) (s:Shared) (e:Value) (s':Shared),Inv X ao σ H s->CX X.stack H s E e s'->X.xe e s'
section
variable {X:Cx} {CX:MH} {k:Nat} {f C:Addr} {fd:FuncData} {ps:List Str} {sp:Sp} {yL:List V} {ds:List Value} {E:XK} {x m:Str} {p pos lu:Pos} {e o:Expr} {es:List Expr} {ta:TE} {t:TA}
theorem Cn{σ:St}{H:Hp}{s:Shared}{Q:VK}{us:List Value}{vs:List V}(F:bw X.prog X.w X.K X.mg X.zt CX k f fd ps sp)(hr:jb k X.A)(hb:Binds X.K fd ps ds)(hd:cu yL ds)(hx:nk CX X E)
  (I:Inv X ao σ H s) (r:cu vs us) (h:sp (vs++yL) H Q E):wpAny (model X.prog X.w) X.A (call (.ref f) us) (EP X ao σ Q) X.xe s:=by
 have r2:cu (vs++yL) (us++ds):=r.append hd;have hl:(us++ds).length=ps.length:=by rw[← r2.length];exact F.len _ _ _ _ h
 refine wpAny_call (codeAny_mono (F.run X.A X.stack s H ⟨us,[]⟩ (us++ds) (vs++yL) Q E hr I.Xy (hb s us I.wR hl) r2 h) λr s' hq=>?_)
 cases r with
 | error e=>exact hx ao σ H s e s' I hq
 | ok fl =>
  cases fl with
  | ret u=>exact I.after hq
  | next=>exact False.elim hq
  | brk=>exact False.elim hq
  | cont=>exact False.elim hq
theorem IX(F:bw X.prog X.w X.K X.mg X.zt CX k f fd ps sp)(hr:jb k X.A)(hg:Gl X x)(hm:X.mg x=some (.ref f))(hk:keepIn X.K (.ref f)=true)(hb:Binds X.K fd ps ds)(hd:cu yL ds)(hx:nk CX X E)
  (ha:PA X (e::es) t) (Kf:(x == ("__debug__":Str))=false:=by decide) (he:starEach (e::es) X.env=(false,eval e X.env)::starEach es X.env:=by rfl) (DT:(backTo pos (starEach es X.env)).any (·.1)=false:=by rfl) :
  PE X (.Call (.Name x p) (e::es) [] pos) (IV sp yL E t):=by
 intro ao s σ H Q I h;refine wpAny_Call_Name_kw (yi I hg hm ?_ Kf);refine callWith_K (h₀:=X.zt) I.ok.mod.kin hk (dc (ha pos ao s σ H _ I h) λus s1 ⟨vs,H1,I1,r,q⟩=>⟨I1.wR,?_⟩) he DT;exact Cn F hr hb hd hx I1 r q
theorem Eg(F:bw X.prog X.w X.K X.mg X.zt CX k f fd ps sp)(hr:jb k X.A)(hg:Gl X x)(hm:X.mg x=some (.ref f))(hk:keepIn X.K (.ref f)=true)(hb:Binds X.K fd ps ds)(hd:cu yL ds)(hx:nk CX X E)
  (Kf:(x == ("__debug__":Str))=false:=by decide):PE X (.Call (.Name x p) [] [] pos) (IV sp yL E yK):=by
 intro ao s σ H Q I h;refine wpAny_Call_Name_kw (yi I hg hm ?_ Kf);exact callWith_K0 I.wR hk (Cn (us:=[]) F hr hb hd hx I .nil h)
theorem P4{pl:Sem Bool}(he:PE X o ta)(c:LY X.K C)(hm:MF X.K C m f)(F:bw X.prog X.w X.K X.mg X.zt CX k f fd ps sp)(hr:jb k X.A)(hb:Binds X.K fd ps ds)(hd:cu yL ds)(hx:nk CX X E)(ha:PA X (e::es) t)
  (Ck:starEach (e::es) X.env=(false,eval e X.env)::starEach es X.env:=by rfl) (DT:(backTo pos (starEach es X.env)).any (·.1)=false:=by rfl)
  (ht:eval (.Call (.Attribute o m lu) (e::es) [] pos) X.env=(do
   let ov ← eval o X.env
   standAt lu.atName
   let (f,first) ← holding [ov] (getMethod ov m pl)
   callWith pos f first (backTo pos (starEach (e::es) X.env)) (backToKw pos (keywordEach [] X.env))):=by rfl) :
  PE X (.Call (.Attribute o m lu) (e::es) [] pos) (IW C m sp yL E ta t):=by
 intro ao s σ H Q I h;refine methodCall_KW (pl:=pl) (dc (he ao s σ H _ I h) λu s1 ⟨x,H1,I1,rx,a,dx,fs,ex,ea,l,q⟩=>?_) ht;subst ex;obtain rfl:u=Value.ref a:=rx;refine yI I1 ea c hm l ?_
 refine callWith_K (first:=[.ref a]) (h₀:=X.zt) I.ok.mod.kin hm.kp (dc (ha pos ao s1 σ H1 _ I1 q) λus s2 ⟨vs,H2,I2,r,q2⟩=>⟨I2.wR,?_⟩) Ck DT
 exact Cn (us:=.ref a::us) (vs:=.ref a::vs) F hr hb hd hx I2 (.cons rfl r) q2
theorem MJ{pl:Sem Bool}(he:PE X o ta)(c:LY X.K C)(hm:MF X.K C m f)(F:bw X.prog X.w X.K X.mg X.zt CX k f fd ps sp)(hr:jb k X.A)(hb:Binds X.K fd ps ds)(hd:cu yL ds)(hx:nk CX X E)
  (ht:eval (.Call (.Attribute o m lu) [] [] pos) X.env=(do
   let ov ← eval o X.env
   standAt lu.atName
   let (f,first) ← holding [ov] (getMethod ov m pl)
   callWith pos f first (backTo pos (starEach [] X.env)) (backToKw pos (keywordEach [] X.env))):=by rfl) :
  PE X (.Call (.Attribute o m lu) [] [] pos) (IW C m sp yL E ta yK):=by
 intro ao s σ H Q I h;refine methodCall_KW (pl:=pl) (dc (he ao s σ H _ I h) λu s1 ⟨x,H1,I1,rx,a,dx,fs,ex,ea,l,q⟩=>?_) ht;subst ex;obtain rfl:u=Value.ref a:=rx;refine yI I1 ea c hm l ?_
 exact callWith_K0 (first:=[.ref a]) I1.wR hm.kp (Cn (us:=[.ref a]) (vs:=[.ref a]) F hr hb hd hx I1 (.cons rfl .nil) q)
structure Mk(K:Frag)(C f:Addr):Prop where
 makes:makesIn K C=true
 init:findIn K (.ref C) "__init__"=some (some (.ref f))
 fn:isFn K (.ref f)=true
 kp:keepIn K (.ref C)=true
theorem MK{σ:St}{H:Hp}{s:Shared}{Q:VK}{us:List Value}{vs:List V}(M:Mk X.K C f)(F:bw X.prog X.w X.K X.mg X.zt CX k f fd ps sp)(hr:jb (k+1) X.A)(hb:Binds X.K fd ps ds)(hd:cu yL ds)
  (hx:nk CX X E) (I:Inv X ao σ H s) (r:cu vs us)
  (h:∀ x dx,H x=none->H dx=none->dx≠x->sp (.ref x::(vs++yL)) (aP (aP H dx (.own x)) x (.ins C dx [])) (λv H2=>v=.gm/\Q (.ref x) H2) E) :
  wpAny (model X.prog X.w) X.A (call (.ref C) us) (EP X ao σ Q) X.xe s:=by
 have hq:=h (s.heap.objs.size+1) s.heap.objs.size (I.hok.fresh (Nat.le_succ _)) (I.hok.fresh (gh _)) (kC (Nat.lt_succ_self _));have I2:=Inv.made (C:=C) I;have r2:cu (V.ref (s.heap.objs.size+1)::(vs++yL)) (Value.ref (s.heap.objs.size+1)::(us++ds)):=.cons rfl (r.append hd)
 have hl:(Value.ref (s.heap.objs.size+1)::us++ds).length=ps.length:=by
  have e:=r2.length;rw[F.len _ _ _ _ hq]at e;exact e.symm
 refine wpAny_call (ME (f:=f) I.wR M.makes M.init (beq_iff_eq.mp M.fn) (codeAny_mono (F.run _ X.stack _ _ ⟨Value.ref (s.heap.objs.size+1)::us,[]⟩ (Value.ref (s.heap.objs.size+1)::(us++ds)) _ _ E (hr.make C us []) (I2.Xy.make C us []) (hb _ (Value.ref (s.heap.objs.size+1)::us) I2.wR hl) r2 hq) λr s' Um=>?_))
 cases r with
 | error e=>exact hx ao σ _ _ e s' I2 Um
 | ok fl =>
  cases fl with
  | ret u =>
   obtain⟨v,H',I3,rv,ev,q3⟩:=I2.after Um;subst ev;exact⟨rv,⟨V.ref (s.heap.objs.size+1),H',I3,rfl,q3⟩⟩
  | next=>exact False.elim Um
  | brk=>exact False.elim Um
  | cont=>exact False.elim Um
theorem lR(M:Mk X.K C f)(F:bw X.prog X.w X.K X.mg X.zt CX k f fd ps sp)(hr:jb (k+1) X.A)(hg:Gl X x)(hm:X.mg x=some (.ref C))(hb:Binds X.K fd ps ds)(hd:cu yL ds)(hx:nk CX X E)
  (Kf:(x == ("__debug__":Str))=false:=by decide):PE X (.Call (.Name x p) [] [] pos) (Xz C sp yL E yK):=by
 intro ao s σ H Q I h;refine wpAny_Call_Name_kw (yi I hg hm ?_ Kf);exact callWith_K0 I.wR M.kp (MK (us:=[]) M F hr hb hd hx I .nil h)
end
structure aF(N P:List Str)(sc:Scope):Prop where
 kind:sc.kind=.function
 co:sc.isCoroutine=false
 gen:sc.isGenerator=false
 nd:N.Nodup
 pre:N.take P.length=P
 par:∀ x∈P,sc.names.lookup x=some .local\/sc.names.lookup x=some .cell
 Uo:∀ y∈sc.names,y.2≠.free
theorem Be{kindOf:Str->Option NameKind}{x:Str}:∀ {binds:List (Str × Value)} {m:Str->Option Value},(∀ v,(x,v)∉binds)->bindL kindOf binds m x=m x
 | [],_,_=>rfl
 | (n,v)::r,m,h=>by
  unfold bindL;rw[Be λw hw=>h w (nQ _ hw)];split
  ·have:x≠n:=by rintro rfl;exact h v List.mem_cons_self
   simp[this]
  ·rfl
theorem Bf{kindOf:Str->Option NameKind}{x:Str}:∀ {binds:List (Str × Value)} {m:Str->Option Value},(∀ v,(x,v)∉binds)->bindC kindOf binds m x=m x
 | [],_,_=>rfl
 | (n,v)::r,m,h=>by
  unfold bindC;rw[Bf λw hw=>h w (nQ _ hw)];split
  ·rfl
  ·have:x≠n:=by rintro rfl;exact h v List.mem_cons_self
   simp[this]
theorem Bg{kindOf:Str->Option NameKind}{x:Str}{v:Value}:∀ {P:List Str} {vs:List Value} {i:Nat} {m:Str->Option Value},P.Nodup->P[i]?=some x->vs[i]?=some v->kindOf x=some .local->
  bindL kindOf (P.zip vs) m x=some v
 | [],_,_,_,_,h,_,_=>by simp at h
 | _::_,[],_,_,_,_,h,_=>by simp at h
 | p::P,w::vs,0,m,nd,h1,h2,hk=>by
  simp at h1 h2;subst h1;subst h2;show bindL kindOf ((p,w)::P.zip vs) m p=_;unfold bindL;rw[Be λv hv=>(List.nodup_cons.mp nd).1 (List.of_mem_zip hv).1,if_pos hk];simp
 | p::P,w::vs,i+1,m,nd,h1,h2,hk=>by
  show bindL kindOf ((p,w)::P.zip vs) m x=_;unfold bindL;exact Bg (i:=i) (List.nodup_cons.mp nd).2 (by simpa using h1) (by simpa using h2) hk
theorem Bh{kindOf:Str->Option NameKind}{x:Str}{v:Value}:∀ {P:List Str} {vs:List Value} {i:Nat} {m:Str->Option Value},P.Nodup->P[i]?=some x->vs[i]?=some v->kindOf x≠some .local->
  bindC kindOf (P.zip vs) m x=some v
 | [],_,_,_,_,h,_,_=>by simp at h
 | _::_,[],_,_,_,_,h,_=>by simp at h
 | p::P,w::vs,0,m,nd,h1,h2,hk=>by
  simp at h1 h2;subst h1;subst h2;show bindC kindOf ((p,w)::P.zip vs) m p=_;unfold bindC;rw[Bf λv hv=>(List.nodup_cons.mp nd).1 (List.of_mem_zip hv).1,if_neg hk];simp
 | p::P,w::vs,i+1,m,nd,h1,h2,hk=>by
  show bindC kindOf ((p,w)::P.zip vs) m x=_;unfold bindC;exact Bh (i:=i) (List.nodup_cons.mp nd).2 (by simpa using h1) (by simpa using h2) hk
def start(N:List Str)(vs:List V):St:=vs.map some++List.replicate (N.length-vs.length) none
def GP(CX:MH)(P:Program)(w:World)(K:Frag)(mg:Str->Option Value)(zt:Heap)(N:List Str)(fP:Str)(scope:Scope)(f:Addr)(cd:Value)(A:Around)(zn:List Env)(s:Shared)(H:Hp)(E:XK):Cx where
 prog:=P
 w:=w
 K:=K
 mg:=mg
 zt:=zt
 A:=A.deeper (envOfC fP scope s.heap.objs.size f cd)
 N:=N
 s₀:=s
 H₀:=H
 env:=envOfC fP scope s.heap.objs.size f cd
 zn:=zn
 stack:=envOfC fP scope s.heap.objs.size f cd::zn
 ex:=[]
 calm:=true
 fn:=λ_=>true
 pn:=[]
 xe:=λe s'=>wpAny (model P w) (A.deeper (envOfC fP scope s.heap.objs.size f cd)) (leaving (envOfC fP scope s.heap.objs.size f cd) e) (λ_ s''=>CX zn H s E e s'') (λe' s''=>CX zn H s E e' s'') s'
theorem Eh{sc:Scope}{n:Nat}{x:Str}(h:sc.names.lookup x=some .cell):∃ c,(cellsFrom n sc.names []).lookup x=some c:=by
 have q:=cellsFrom_some sc.names n [] (.inl h);exact Option.isSome_iff_exists.mp q
theorem Kg{CX:MH}{P:Program}{w:World}{K:Frag}{mg:Str->Option Value}{zt:Heap}{N ps:List Str}{fP:Str}{scope:Scope}{f:Addr}{cd:Value}{A:Around}{zn:List Env}{s s1:Shared}{H:Hp}{E:XK}{us:List Value}{vs:List V}
  (S:aF N ps scope) (hd:A.handled=none) (e0:GO P w K mg zt A zn s H) (hl:vs.length=ps.length) (r:cu vs us)
  (x:InCallC s s.heap.objs.size (bindL (envOfC fP scope s.heap.objs.size f cd).kindOf (ps.zip us) λ_=>none) (cellsFrom (s.heap.objs.size+1) scope.names []) (bindC (envOfC fP scope s.heap.objs.size f cd).kindOf (ps.zip us) λ_=>none) s1) :
  Inv (GP CX P w K mg zt N fP scope f cd A zn s H E) [] (start N vs) H s1:=by
 have DT:ps.length<=N.length:=by have:=congrArg List.length S.pre;rw[gF]at this;lia
 obtain⟨h1,tk,rfl,hk⟩:=x.done;have XA:∀ b:Addr,b∉(GP CX P w K mg zt N fP scope f cd A zn s H E).ex:=λb z=>absurd (show b∈([]:List Addr) from z) (by simp)
 exists ⟨e0.mod,S.kind,V,gh _,λy z c h1 h2=>?_,λy hy=>?_,λy c _ h=>?_,λ_=>hd,Around.frames_deeper e0.frames,.inr ⟨V⟩,λb z=>absurd z (XA b),e0.bs,e0.Sn,λb _ _=>XA b,λb z=>absurd z (XA b),e0.xM,e0.TZ⟩,
  rfl,e0.bare,Un.kept hk,⟨_,x.toInCall.ns,λi y v h1 h2 h3=>?_⟩,λy c h=>⟨_,x.cell y c h⟩,e0.hok.fresh (gh _),λy c h=>?_,λp hp=>absurd (show p∈([]:List (Addr × Obj)) from hp) (by simp),e0.hok.kept hk
 ·exact name_of_addr x.apart (PySem.mem_of_lookup h1) (PySem.mem_of_lookup h2)
 ·have hy:scope.names.lookup y=some .cell\/scope.names.lookup y=some .free:=hy;rcases hy with hy|hy
  ·exact Eh hy
  ·exact absurd rfl (S.Uo _ (PySem.mem_of_lookup hy))
 ·exact iz (x.above y c (PySem.mem_of_lookup h))
 ·have hi:i<vs.length:=by
   unfold start at h2;by_cases hi:i<vs.length
   ·exact hi
   ·rw[List.getElem?_append_right (by simpa using hi)]at h2;rw[List.getElem?_replicate]at h2
    split at h2 <;> cases h2
  have ha:vs[i]?=some v:=by
   unfold start at h2;rw[List.getElem?_append_left (by simpa using hi),gE]at h2
   cases e:vs[i]? with
   | none=>rw[e]at h2;cases h2
   | some a=>rw[e]at h2;cases h2;rfl
  obtain⟨u,hu,rv⟩:=r.get ha
  have hp:ps[i]?=some y:=by
   rw[← S.pre,List.getElem?_take_of_lt ∅];exact h1
  have ndP:ps.Nodup:=by rw[← S.pre];exact S.nd.sublist (List.take_sublist _ _)
  exists u,rv;rcases S.par y (om hp) with k|k
  ·exact .inl ⟨k,Bg ndP hp hu k⟩
  ·obtain⟨c,e⟩:=Eh (n:=s.heap.objs.size+1) k;refine .inr ⟨.inl k,c,e,?_⟩;have q:=x.cell y c e;rw[Bh ndP hp hu (by show scope.names.lookup y≠_;rw[k];decide)]at q;exact q
 ·exact e0.hok.fresh (iz (x.above y c (PySem.mem_of_lookup h)))
 ·unfold start;show _=N.length;rw[dB,cG,yx];lia
theorem XC{CX:MH}{P:Program}{w:World}{K:Frag}{mg:Str->Option Value}{zt:Heap}{k:Nat}{f:Addr}{name fP:Str}{params:Arguments}{scope:Scope}{dV kV wW pm cV ct oc:Value}{an od:Option Addr}
  {LZ:Array (Option Value)} {N ps:List Str} {sp:Sp} (lk:K.lookup f=some ⟨oc,od,.func (fnOf name fP params body scope dV kV wW pm an cV ct),LZ⟩) (Mu:codeIn K cV fP=true) (S:aF N ps scope)
  (len:∀ vs H Q E,sp vs H Q E->vs.length=ps.length)
  (Ei:∀ (A:Around) (zn:List Env) (s:Shared) (H:Hp) (vs:List V) (Q:VK) (E:XK),jb k (A.deeper (envOfC fP scope s.heap.objs.size f cV))->sp vs H Q E->
   ∃ t,IQ (GP CX P w K mg zt N fP scope f cV A zn s H E) body t/\t { nx:=λ_ H'=>Q .gm H',rt:=Q } (start N vs) H) :
  bw P w K mg zt CX (k+1) f (fnOf name fP params body scope dV kV wW pm an cV ct) ps sp:=by
 refine⟨len,λA zn s H args us vs Q E hr e0 hb r Kh=>?_⟩;have hl:=len _ _ _ _ Kh;have KX:K.In s.heap:=e0.mod.kin.keeps λb o e=>(e0.bs b o e).1;have lim:s.heap.NoLimit:=e0.mod.nolimit.keeps λb o e=>(e0.bs b o e).1
 have hkind:∀ y∈ps.zip us,scope.names.lookup y.1=some .local\/(scope.names.lookup y.1=some .cell/\((cellsFrom (s.heap.objs.size+1) scope.names []).lookup y.1).isSome=true):=λ⟨n,v⟩ hy=>by
  rcases S.par n (List.of_mem_zip hy).1 with q|q
  ·exact .inl q
  ·exact .inr ⟨q,cellsFrom_some _ _ _ (.inl q)⟩
 refine codeAny_call_function hr.depth (KX _ _ lk) rfl S.co S.gen rfl (PySem.W.codeRec_of KX Mu) (hb _ _ _ _ ?_);refine wpAny_newFunctionEnv_cells S.kind hkind λenv he s1 x=>?_;subst he;refine⟨lim.keeps x.toInCall.keep,codeAny_func ?_⟩;obtain⟨t,ht,hq⟩:=Ei A zn s H vs Q E (hr.deeper _) Kh;have I:Inv (GP CX P w K mg zt N fP scope f cV A zn s H E) [] (start N vs) H s1:=Kg S hr.hd e0 hl r x;refine wpAny_mono (ht [] s1 (start N vs) H _ I hq) (λfl s' hs=>?_) λe s' hs=>hs;have kq:∀ {σ':St} {H':Hp} {v:V} {u:Value},Inv (GP CX P w K mg zt N fP scope f cV A zn s H E) [] σ' H' s'->RelV v u->Q v H'->CE zn P w H s Q u s' := λ{σ' H' v u} J rv q=>⟨v,H',J.os,J.bare,J.zt,J.hok,rv,q⟩
 cases fl with
 | ret u =>
  obtain⟨v,σ',H',J,rv,q⟩:=hs;exact kq J rv q
 | next =>
  obtain⟨σ',H',J,q⟩:=hs;exact kq (v:=V.gm) (u:=Value.none) J rfl q
 | brk =>
  obtain⟨_,_,_,q⟩:=hs;exact False.elim q
 | cont =>
  obtain⟨_,_,_,q⟩:=hs;exact False.elim q
end L2
namespace L2
open Spec Rows
section
variable {X:Cx} {x:Str} {p pos:Pos} {e:Expr} {es:List Expr} {t:TA} {id T:String} {r:List V->Hp->VK->Prop}
def tCB(r:List V->Hp->VK->Prop)(t:TA):TE:=fun σ H Q=>t σ H λvs H1=>r vs H1 Q
theorem cD(hc:jZ X (.builtin id) r)(hg:Gl X x)(hm:X.mg x=none)(hv:bootBuiltins x=some (.builtin id))(ha:PA X (e::es) t)(hn:x≠"__name__":=by decide)(Kf:(x == ("__debug__":Str))=false:=by decide)
  (he:starEach (e::es) X.env=(false,eval e X.env)::starEach es X.env:=by rfl) (DT:(backTo pos (starEach es X.env)).any (·.1)=false:=by rfl):PE X (.Call (.Name x p) (e::es) [] pos) (tCB r t):=by
 intro ao s σ H Q I h;refine wpAny_Call_Name_kw (vC I hg hm hv ?_ hn Kf);exact PyProof.Rows.callWith_builtin1 (dc (ha pos ao s σ H _ I h) λus s1 ⟨vs,H1,I1,r1,q1⟩=>hc ao s1 σ H1 vs us Q I1 r1 q1) he DT
theorem eT(hc:jZ X (.type T) r)(hg:Gl X x)(hm:X.mg x=none)(hv:bootBuiltins x=some (.type T))(ha:PA X (e::es) t)(hn:x≠"__name__":=by decide)(Kf:(x == ("__debug__":Str))=false:=by decide)
  (he:starEach (e::es) X.env=(false,eval e X.env)::starEach es X.env:=by rfl) (DT:(backTo pos (starEach es X.env)).any (·.1)=false:=by rfl):PE X (.Call (.Name x p) (e::es) [] pos) (tCB r t):=by
 intro ao s σ H Q I h;refine wpAny_Call_Name_kw (vC I hg hm hv ?_ hn Kf);exact PyProof.Rows.callWith_type1 (dc (ha pos ao s σ H _ I h) λus s1 ⟨vs,H1,I1,r1,q1⟩=>hc ao s1 σ H1 vs us Q I1 r1 q1) he DT
end
end L2
namespace HT
open Rows
section
variable {prog:Program} {w:World} {A:Around} {E:Value->Shared->Prop} {s:Shared}
def iX(n d:Nat):Option Int->Nat
 | none=>d
 | some v=>if v<0 then (v+(n:Int)).toNat else min v.toNat n
theorem IY(n d k:Nat):iX n d (some (k:Int))=min k n:=by
 show (if (k:Int)<0 then ((k:Int)+(n:Int)).toNat else min (k:Int).toNat n)=min k n;rw[if_neg ∅,Int.toNat_natCast]
theorem Up(n d:Nat)(hd:d<=n)(o:Option Int):iX n d o<=n:=by
 cases o with
 | none=>exact hd
 | some v =>
  show (if v<0 then (v+(n:Int)).toNat else min v.toNat n)<=n;by_cases hv:v<0
  ·rw[if_pos hv];lia
  ·rw[if_neg hv];exact Nat.min_le_right _ _
theorem IZ(v:Int)(n d:Nat):(if v<0 then max (v+(n:Int)) 0 else min v (n:Int))=((iX n d (some v):Nat):Int):=by
 show (if v<0 then max (v+(n:Int)) 0 else min v (n:Int))=(((if v<0 then (v+(n:Int)).toNat else min v.toNat n):Nat):Int);by_cases hv:v<0
 ·simp only[if_pos hv];lia
 ·simp only[if_neg hv];lia
theorem GQ(lo hi:Option Int)(n:Nat):Builtin.Slice.sliceAdjust lo hi 1 (n:Int)=(((iX n 0 lo:Nat):Int),((iX n n hi:Nat):Int)):=by
 have h1:¬ ((1:Int)<0):=by lia
 unfold Builtin.Slice.sliceAdjust;simp only[h1,if_false];refine Prod.ext ?_ ?_
 ·cases lo with
  | none=>rfl
  | some v=>exact IZ v n 0
 ·cases hi with
  | none=>rfl
  | some v=>exact IZ v n n
theorem GR(i j:Nat):Builtin.Slice.slicePlaces (i:Int) (j:Int) 1=j-i:=by
 unfold Builtin.Slice.slicePlaces;have h1:(1:Int) > 0:=by lia
 simp only[h1,if_true,Int.ediv_one]
 split <;> lia
theorem yM{v:Value}{o:Option Int}{Q:Option Int->Shared->Prop}(p:IsPart v o)(h:Q o s):wpAny (model prog w) A (Builtin.Slice.slicePartIndex v) Q E s:=by
 cases p with
 | none=>exact slicePart_none h
 | int i t=>exact slicePart_int h
theorem vH{sl:Addr}{vl vu:Value}{lo hi:Option Int}{n:Nat}{Q:Int × Int × Nat->Shared->Prop}(hs:s.heap.IsSliceOf sl vl vu .none)(pl:IsPart vl lo)(pu:IsPart vu hi)
  (h:Q (((iX n 0 lo:Nat):Int),1,iX n n hi-iX n 0 lo) s):wpAny (model prog w) A (Builtin.Slice.sliceApplied (.ref sl) (pure (n:Int))) Q E s:=by
 obtain⟨os,hos,P5,I0⟩:=id hs;unfold Builtin.Slice.sliceApplied Builtin.Slice.sliceFields;refine wpAny_bind (wpAny_bind (wpAny_field hos I0 (x:=vl) rfl (wpAny_bind (wpAny_field hos I0 (x:=vu) rfl (wpAny_bind (wpAny_field hos I0 (x:=.none) rfl (wpAny_pure ?_)))))));refine wpAny_bind (slicePart_none ?_);show wpAny _ _ (if ((1:Int) == 0)=true then _ else _) _ _ s;rw[if_neg (by decide)];refine wpAny_bind (yM pl (wpAny_bind (yM pu (wpAny_bind (wpAny_pure ?_)))));show wpAny _ _ (match Builtin.Slice.sliceAdjust lo hi 1 (n:Int) with|(lo,hi)=>pure (lo,(1:Int),Builtin.Slice.slicePlaces lo hi 1)) _ _ s;rw[GQ lo hi n];show wpAny _ _ (pure (((iX n 0 lo:Nat):Int),(1:Int),Builtin.Slice.slicePlaces ((iX n 0 lo:Nat):Int) ((iX n n hi:Nat):Int) 1)) _ _ s;rw[GR];exact wpAny_pure h
theorem ML(xs:Array Value)(i k:Nat):((List.range k).filterMap λ(m:Nat)=>xs[((i:Int)+(m:Int)*1).toNat]?).toArray=((xs.toList.drop i).take k).toArray:=by
 have e:(λ(m:Nat)=>xs[((i:Int)+(m:Int)*1).toNat]?)=λm=>xs[i+m]?:=by
  funext m;have:((i:Int)+(m:Int)*1).toNat=i+m:=by lia
  rw[this]
 rw[e];have:=pick_run xs i k;rw[List.filterMap_map]at this;have e2:((λx=>xs[x]?) ∘ λx=>i+x)=λm=>xs[i+m]?:=rfl;rw[e2]at this;rw[this]
theorem uD{t sl:Addr}{items:Array Value}{vl vu:Value}{lo hi:Option Int}{Q:Value->Shared->Prop}(ht:IsTup s.heap t items)(hs:s.heap.IsSliceOf sl vl vu .none)(pl:IsPart vl lo)(pu:IsPart vu hi)
  (hw:¬ (iX items.size 0 lo=0/\iX items.size items.size hi=items.size))
  (h:Q (.ref s.heap.objs.size) { s with heap:=s.heap.push { cls:=.type "tuple",data:=.seq ((items.toList.drop (iX items.size 0 lo)).take (iX items.size items.size hi-iX items.size 0 lo)).toArray } })
  (hsz:items.size<=sizeLine):wpAny (model prog w) A (getItem (.ref t) (.ref sl)) Q E s:=by
 have Ja:sizeOk (.seq ((items.toList.drop (iX items.size 0 lo)).take (iX items.size items.size hi-iX items.size 0 lo)).toArray):=by
  show ((items.toList.drop (iX items.size 0 lo)).take (iX items.size items.size hi-iX items.size 0 lo)).toArray.size<=sizeLine;rw[gQ,gF,rK,Array.length_toList];lia
 have hj:iX items.size items.size hi<=items.size:=Up _ _ (gh _) hi;obtain⟨os,hos,P5,I0⟩:=id hs;have hTs:s.TypeIs (.ref sl) "slice":=⟨os,hos,P5⟩;unfold getItem
 try with_reducible refine wpAny_holding ?_
 first|refine wpAny_bind (wpAny_pure ?_)|skip
 refine wpAny_bind (wpAny_sequenceKey ht.typeIs (by decide) ?_);refine wpAny_bind (wpAny_callSpecial?_slot (name:=Str.ofString "__getitem__") ht.typeIs PyProof.Rows.slot_tuple_getitem (wpAny_call_entry PyProof.Rows.slot_tuple_getitem ht.typeIs entry_tuple_getitem ?_ (args_tuple_getitem _ _)));show wpAny _ _ (Builtin.Tuple.tupleItemsOf (.ref t) >>= _) _ _ s;refine wpAny_bind (tupleItemsOf_ ht ?_);refine wpAny_bind (wpAny_typeOf hTs ?_);rw[if_pos (by decide)];refine wpAny_bind (vH hs pl pu ?_)
 have XD:¬ ((((iX items.size 0 lo:Nat):Int) == 0&&(1:Int) == 1&&(iX items.size items.size hi-iX items.size 0 lo) == items.size)=true):=by
  intro q;rw[Bool.and_eq_true,Bool.and_eq_true]at q;have q1:((iX items.size 0 lo:Nat):Int)=0:=eq_of_beq q.1.1;have q2:iX items.size items.size hi-iX items.size 0 lo=items.size:=eq_of_beq q.2;exact hw ⟨Q,Q⟩
 show wpAny _ _ (if (((iX items.size 0 lo:Nat):Int) == 0&&(1:Int) == 1&&(iX items.size items.size hi-iX items.size 0 lo) == items.size)=true then _ else _) _ _ s;rw[if_neg XD,ML]
 first
  | exact wpAny_bind (m:=Builtin.Tuple.tupleExact _) (wpAny_newObj_type (wpAny_pure ⟨Y,wpAny_pure h⟩) Ja)
  | exact wpAny_bind (m:=Builtin.Tuple.tupleExact _) (wpAny_newObj_type (wpAny_bind (wpAny_pure (wpAny_pure ⟨Y,wpAny_pure h⟩))) Ja)
  | exact wpAny_bind (wpAny_bind (m:=Builtin.Tuple.tupleExact _) (wpAny_newObj_type (wpAny_pure (wpAny_pure ⟨Y,wpAny_pure h⟩)) Ja))
  | exact wpAny_bind (wpAny_bind (m:=Builtin.Tuple.tupleExact _) (wpAny_newObj_type (wpAny_pure ⟨Y,wpAny_pure h⟩) Ja))
end
end HT
namespace L2
open Spec Rows
abbrev TO:=St->Hp->(Option Int->Hp->Prop)->Prop
def PO(X:Cx)(e:Option Expr)(t:TO):Prop :=
 ∀ (ao:List (Addr × Obj)) (s:Shared) (σ:St) (H:Hp) (Q:Option Int->Hp->Prop),Inv X ao σ H s->t σ H Q->
  wpAny (model X.prog X.w) X.A (evalPart e X.env) (λu s'=>∃ o H',Inv X ao σ H' s'/\IsPart u o/\Q o H') X.xe s
def P6:TO:=λ_ H Q=>Q none H
def XE(t:TE):TO:=fun σ H Q=>t σ H λx H1=>isI x H1 Q
theorem intsAre_of{ns:List Int}:∀ {us:List Value},cu (ns.map V.int) us->IntsAre us ns:=by
 induction ns with
 | nil=>intro us r;rw[List.map_nil]at r;cases r;exact .nil
 | cons n ns ih =>
  intro us r;rw[jI]at r
  cases r with
  | cons r1 r2 =>
   obtain⟨t,e⟩:=r1;subst e;exact .cons n t (ih r2)
section
variable {X:Cx} {e:Expr} {te:TE} {lo hi:Option Expr} {tl th:TO} {pos p2:Pos}
theorem mX:PO X none P6:=by
 intro ao s σ H Q I h;rw[evalPart_none];exact wpAny_pure ⟨none,H,I,.none,h⟩
theorem iY(h:PE X e te):PO X (some e) (XE te):=by
 intro ao s σ H Q I hw;rw[evalPart_some];refine dc (h ao s σ H _ I hw) λu s1 GD=>?_;obtain⟨x,H1,I1,r1,q1⟩:=GD;obtain⟨i,rfl,q⟩:=q1;obtain⟨t,rfl⟩:=r1;exact⟨some i,H1,I1,.int i t,q⟩
def SlR(X:Cx)(r:V->Option Int->Option Int->Hp->VK->Prop):Prop :=
 ∀ (ao:List (Addr × Obj)) (s:Shared) (σ:St) (H:Hp) (x:V) (v vl vu:Value) (lo hi:Option Int) (sl:Addr) (Q:VK),Inv X ao σ H s->RelV x v->s.heap.IsSliceOf sl vl vu .none->IsPart vl lo->IsPart vu hi->r x lo hi H Q->
  ∃ T id,typeLookup (.type T) "__getitem__"=pure (some (.builtin id))/\s.TypeIs v T/\wpAny (model X.prog X.w) X.A (getItem v (.ref sl)) (EP X ao σ Q) X.xe s
def tSl(r:V->Option Int->Option Int->Hp->VK->Prop)(te:TE)(tl th:TO):TE:=fun σ H Q=>te σ H λx H1=>tl σ H1 λl H2=>th σ H2 λu H3=>r x l u H3 Q
theorem iS{r:V->Option Int->Option Int->Hp->VK->Prop}(hr:SlR X r)(he:PE X e te)(hl:PO X lo tl)(hu:PO X hi th):PE X (.Subscript e (.Slice lo hi none p2) pos) (tSl r te tl th):=by
 intro ao s σ H Q I h;refine Subscript_ (dc (he ao s σ H _ I h) λv s1 Am=>?_);obtain⟨x,H1,I1,r1,q1⟩:=Am;refine wpAny_Slice (dc (hl ao s1 σ H1 _ I1 q1) λvl s2 ⟨l,H2,I2,pl,q2⟩=>dc (hu ao s2 σ H2 _ I2 q2) λvu s3 D9=>?_);obtain⟨u,H3,I3,pu,q3⟩:=D9;rw[evalPart_none];refine wpAny_pure ?_;have I4:Inv X ao σ H3 { s3 with heap:=s3.heap.push { cls:=.type "slice",data:=.fields #[vl,vu,.none] } }:=I3.kept (t':=s3.toks) λb ob q=>Heap.get?_push_of_some _ q;obtain⟨T,id,hT,ht,hg⟩:=hr ao { s3 with heap:=s3.heap.push { cls:=.type "slice",data:=.fields #[vl,vu,.none] } } σ H3 x v vl vu l u s3.heap.objs.size Q I4 r1 (Heap.IsSliceOf.new ..) pl pu q3;show wpAny (model X.prog X.w) X.A (subscriptTail e (.Slice lo hi none p2) v (.ref s3.heap.objs.size)) (EP X ao σ Q) X.xe { s3 with heap:=s3.heap.push { cls:=.type "slice",data:=.fields #[vl,vu,.none] } };exact tail_any (ops:=[.ref s3.heap.objs.size,v]) ht hT hg (by with_unfolding_all rfl)
def j3(xs:List V)(lo hi:Option Int):List V:=(xs.drop (HT.iX xs.length 0 lo)).take (HT.iX xs.length xs.length hi-HT.iX xs.length 0 lo)
theorem wX(xs:List V)(lo hi:Option Int):(j3 xs lo hi).length<=xs.length:=by
 unfold j3;rw[gF,rK];lia
def abK(K:Frag):V->Option Int->Option Int->Hp->VK->Prop:=λx lo hi H Q=>∃ a xs,x=.ref a/\dH K H a xs/\
 ¬ (HT.iX xs.length 0 lo=0/\HT.iX xs.length xs.length hi=xs.length)/\∀ p,H p=none->Q (.ref p) (aP H p (.tup (j3 xs lo hi)))
theorem Uq:SlR X (abK X.K):=by
 intro ao s σ H x v vl vu lo hi sl Q I rx hs pl pu h;obtain⟨a,xs,rfl,hx,hw,q⟩:=h;cases rx;obtain⟨aN,r,ht,hz⟩:=I.tuple hx;have dI:aN.toArray.size=xs.length:=by rw[gQ];exact r.length.symm
 exists "tuple",_,PyProof.Rows.slot_tuple_getitem.lookup,ht.typeIs;refine HT.uD ht hs pl pu (by rw[dI];exact hw) ?_ (by rw[dI];exact hz);rw[dI];refine⟨.ref s.heap.objs.size,_,I.laid (t':=s.toks) (o:=.tup (j3 xs lo hi)) (λb ob q=>Heap.get?_push_of_some _ q) (gh _) ?_,rfl,q _ (I.hok.fresh (gh _))⟩;exact⟨Nat.le_trans (wX xs lo hi) hz,_,(r.drop (HT.iX xs.length 0 lo)).take (HT.iX xs.length xs.length hi-HT.iX xs.length 0 lo),IsTup.new _ _⟩
end
end L2
namespace L2
open Spec Rows
def Jb(n:Nat)(i:Int):Option Nat:=if 0<=i then (if i<n then some i.toNat else none) else if -(n:Int)<=i then some (i+n).toNat else none
def pX{α:Type}(xs:List α)(i:Int):Option α:=(Jb xs.length i).bind λj=>xs[j]?
theorem Jc{n:Nat}{i:Int}{j:Nat}(h:Jb n i=some j):seqIndex? i n=some j/\j<n/\-(n:Int)<=i/\i<n:=by
 unfold Jb at h;by_cases h0:0<=i
 ·rw[if_pos h0]at h;by_cases h1:i<n
  ·rw[if_pos h1]at h;have e:i.toNat=j:=qj h;exact⟨by rw[seqIndex_of h0 h1,e],Q,Q,h1⟩
  ·rw[if_neg h1]at h;cases h
 ·rw[if_neg h0]at h;by_cases h1:-(n:Int)<=i
  ·rw[if_pos h1]at h;have e:(i+n).toNat=j:=qj h;exact⟨by rw[seqIndex_neg ∅ h1,e],Q,h1,Q⟩
  ·rw[if_neg h1]at h;cases h
theorem Co{α:Type}{xs:List α}{i:Int}{v:α}(h:pX xs i=some v):∃ j,seqIndex? i xs.length=some j/\xs[j]?=some v/\j<xs.length/\-(xs.length:Int)<=i/\i<xs.length:=by
 unfold pX at h
 cases e:Jb xs.length i with
 | none=>rw[e]at h;cases h
 | some j =>
  rw[e]at h;obtain⟨h1,h2,h3,h4⟩:=Jc e;exact⟨j,h1,h,h2,h3,h4⟩
theorem dD{α:Type}{xs:List α}{j:Nat}{v:α}(h:xs[j]?=some v):pX xs (j:Int)=some v:=by
 have hj:j<xs.length:=(List.getElem?_eq_some_iff.mp h).1
 have e:Jb xs.length (j:Int)=some j:=by
  unfold Jb;rw[if_pos ∅,if_pos ∅];simp
 unfold pX;rw[e];exact h
theorem MM{α:Type}(xs:List α)(v:α):pX (xs++[v]) (-1)=some v:=by
 have hl:(xs++[v]).length=xs.length+1:=by simp
 have e:Jb (xs++[v]).length (-1)=some xs.length:=by
  unfold Jb;rw[hl,if_neg (by decide),if_pos ∅];congr 1;lia
 unfold pX;rw[e];show (xs++[v])[xs.length]?=some v;simp
def Jd(b:Expr):Prop:=∀ o i,subscripted b false o i=operate [o,i] (getItem o i)
def Wv(X:Cx)(r:R2):Prop :=
 ∀ (value rW:Expr) (ao:List (Addr × Obj)) (s:Shared) (σ:St) (H:Hp) (x y:V) (v u:Value) (Q:VK),Inv X ao σ H s->RelV x v->RelV y u->r x y H Q->
  subscripted rW false v u=operate [v,u] (getItem v u)->wpAny (model X.prog X.w) X.A (subscriptTail value rW v u) (EP X ao σ Q) X.xe s
def MtR(X:Cx)(id:String)(r:V->List V->Hp->VK->Prop):Prop :=
 ∀ (ao:List (Addr × Obj)) (s:Shared) (σ:St) (H:Hp) (x:V) (xs:List V) (v:Value) (us:List Value) (Q:VK),Inv X ao σ H s->RelV x v->cu xs us->r x xs H Q->
  wpAny (model X.prog X.w) X.A (call (.builtin id) (v::us)) (EP X ao σ Q) X.xe s
section
variable {X:Cx} {a b:Expr} {ta tb:TE} {pos:Pos}
theorem XF{r:R2}(hr:Wv X r)(ha:PE X a ta)(hb:PE X b tb)(hs:Jd b):PE X (.Subscript a b pos) (Xp r ta tb):=by
 intro ao s σ H Q I h;exact Subscript_ (Uh ha hb I h λv u s2 x y H2 I2 rx ry q=>hr a b ao s2 σ H2 x y v u Q I2 rx ry q (hs _ _))
inductive abL(K:Frag)(x y:V)(H:Hp)(Q:VK):Prop
 | mk (p:Addr) (xs:List V) (i:Int) (v:V) (_:x=.ref p) (_:y=.int i) (_:bI K H p xs) (_:pX xs i=some v) (_:Q v H)
inductive XG(K:Frag)(x y:V)(H:Hp)(Q:VK):Prop
 | mk (p:Addr) (xs:List V) (i:Int) (v:V) (_:x=.ref p) (_:y=.int i) (_:dH K H p xs) (_:pX xs i=some v) (_:Q v H)
def abM:R2:=λx y H Q=>∃ z i c,x=.str z/\y=.int i/\z.length<=sizeLine/\pX z.cps.toList i=some c/\Q (.str ⟨#[c]⟩) H
theorem bu:Wv X (abL X.K):=by
 intro value rW ao s σ H x y v u Q I rx ry h hs;obtain⟨p,xs,i,z,rfl,rfl,hq,he,q⟩:=h;cases rx;obtain⟨t,rfl⟩:=ry;obtain⟨aN,r,pl,hz⟩:=I.list hq;obtain⟨j,h1,h2,h3,h4,h5⟩:=Co he;obtain⟨w,ew,jP⟩:=r.get h2;have hl:=r.length;have hn:=sS;have kq:EP X ao σ Q w s:=⟨z,H,I,jP,q⟩;by_cases h0:0<=i
 ·have hj:i.toNat=j:=by
   rw[seqIndex_of h0 h5]at h1;exact qj h1
  exact item_listR pl.isList h0 ∅ (by rw[hj];simpa using ew) kq hs
 ·have hj:(i+(aN.toArray.size:Int)).toNat=j:=by
   rw[seqIndex_neg ∅ h4]at h1;rw[gQ,← hl];exact qj h1
  exact subscriptTail_builtinR (x:=w) pl.isList.typeIs slot_list_getitem.lookup
   (wpAny_getItem_list_neg (Q:=λr s'=>r=w/\EP X ao σ Q r s') pl.isList ∅ (by rw[gQ] <;> lia) ∅ (by rw[hj];simpa using ew) ⟨rfl,kq⟩) hs
theorem br:Wv X (XG X.K):=by
 intro value rW ao s σ H x y v u Q I rx ry h hs;obtain⟨p,xs,i,z,rfl,rfl,hq,he,q⟩:=h;cases rx;obtain⟨t,rfl⟩:=ry;obtain⟨aN,r,pl,hz⟩:=I.tuple hq;obtain⟨j,h1,h2,h3,h4,h5⟩:=Co he;obtain⟨w,ew,jP⟩:=r.get h2;have hl:=r.length;have hn:=sS;have kq:EP X ao σ Q w s:=⟨z,H,I,jP,q⟩;exact subscriptTail_builtinR (x:=w) pl.typeIs slot_tuple_getitem.lookup (getItem_tuple (j:=j) (Q:=λr s'=>r=w/\EP X ao σ Q r s') pl ∅ ∅ (by rw[gQ,← hl];exact h1) (by simpa using ew) ⟨rfl,kq⟩) hs
theorem MN:Wv X abM:=by
 intro value rW ao s σ H x y v u Q I rx ry h hs;obtain⟨z,i,c,rfl,rfl,hz,he,q⟩:=h;obtain⟨t,rfl⟩:=rx;obtain⟨t',rfl⟩:=ry;obtain⟨j,h1,h2,h3,h4,h5⟩:=Co he;have hl:z.cps.toList.length=z.length:=by simp[Str.length]
 rw[hl]at h1 h4 h5;have hn:=sS
 exact tail_any (typeIs_str s z t) slot_str_getitem.lookup (getItem_str (c:=c) (by
  have e1:decide (i < -(2^63:Int))=false:=decide_eq_false ∅;have e2:decide (i>=2^63)=false:=decide_eq_false ∅
  rw[e1,e2,Bool.or_false]) (by rw[h1];simpa using h2) ⟨.str ⟨#[c]⟩,H,I.tok _,⟨Y⟩,q⟩) hs
theorem GS(aN:List Value)(n j:Nat)(u:Value):Obj.mapSeq (·.setIfInBounds j u) { cls:=.type "list",data:=.seq aN.toArray n }={ cls:=.type "list",data:=.seq (aN.set j u).toArray n }:=by
 simp[Obj.mapSeq]
theorem Inv.lst{ao:List (Addr × Obj)}{σ:St}{H:Hp}{s:Shared}{p:Addr}{xs:List V}(I:Inv X ao σ H s)(h:H p=some (.lst xs)) :
  ∃ (aN:List Value) (n:Nat),cu xs aN/\s.heap.get? p=some { cls:=.type "list",data:=.seq aN.toArray n }/\xs.length<=sizeLine:=by
 obtain⟨z,aN,n,r,e⟩:=I.hok p _ h;exact⟨aN,n,r,e,z⟩
theorem Inv.Ur{σ:St}{H:Hp}{s:Shared}{p:Addr}{xs ys:List V}{aN its':List Value}{n n':Nat}{f:Obj->Obj}(I:Inv X ao σ H s)(h:H p=some (.lst xs))
  (ho:s.heap.get? p=some { cls:=.type "list",data:=.seq aN.toArray n }) (hf:f { cls:=.type "list",data:=.seq aN.toArray n }={ cls:=.type "list",data:=.seq its'.toArray n' }) (r:cu ys its') (hz:ys.length<=sizeLine) (t:Nat) :
  Inv X ao σ (aP H p (.lst ys)) { s with heap:=s.heap.update p f,toks:=t }:=by
 have e:(s.heap.update p f).get? p=some { cls:=.type "list",data:=.seq its'.toArray n' }:=by
  rw[Heap.get?_update_self f ho (by rw[hf] <;> rfl),hf]
 refine I.write (x:=p) (e:=p) (by rw[h];trivial) (.inl rfl) (λb u hb q=>(Heap.get?_update_other _ _ (Ne.symm hb)).trans q) ⟨_,e⟩ ?_;exact⟨hz,its',n',r,e⟩
inductive XH(o i v:V)(H:Hp)(Q:Hp->Prop):Prop
 | mk (p:Addr) (xs:List V) (k:Int) (j:Nat) (_:o=.ref p) (_:i=.int k) (_:H p=some (.lst xs)) (_:Jb xs.length k=some j) (_:Q (aP H p (.lst (xs.set j v))))
theorem jm:Xk X XH:=by
 intro ao s σ H o i v ov iv u Q I ro ri rv h;obtain⟨p,xs,k,j,rfl,rfl,hp,hj,q⟩:=h;cases ro;obtain⟨t,rfl⟩:=ri;obtain⟨aN,n,r,ho,hz⟩:=I.lst hp;obtain⟨h1,h2,h3,h4⟩:=Jc hj;have hl:=r.length;have hn:=sS;have I':Inv X ao σ (aP H p (.lst (xs.set j v))) { s with heap:=s.heap.update p (Obj.mapSeq (·.setIfInBounds j u)) } := I.Ur hp ho (GS aN n j u) (r.set rv j) (by rw[List.length_set];exact hz) s.toks;by_cases h0:0<=k
 ·have hk:k.toNat=j:=by
   rw[seqIndex_of h0 h4]at h1;exact qj h1
  exact PySem.W.ki_setAt ho h0 ∅ (by rw[gQ,← hl];exact h4) (by rw[hk];exact⟨_,I',q⟩)
 ·have hk:(k+(aN.toArray.size:Int)).toNat=j:=by
   rw[seqIndex_neg ∅ h3]at h1;rw[gQ,← hl];exact qj h1
  exact PySem.W.ki_setBack ho ∅ (by rw[gQ,← hl];exact h3) ∅ (by rw[hk];exact⟨_,I',q⟩)
theorem Cp(lo hi:Option Int)(n:Nat):(sliceBounds lo hi none n).1=((HT.iX n 0 lo:Nat):Int)/\(sliceBounds lo hi none n).2.1=((HT.iX n n hi:Nat):Int)/\(sliceBounds lo hi none n).2.2=1:=by
 refine⟨?_,?_,rfl⟩
 ·cases lo with
  | none=>simp[sliceBounds,HT.iX]
  | some i =>
   simp only[sliceBounds,HT.iX,Option.getD_none,show (1:Int) > 0 by decide,if_true];by_cases h:i<0
   ·simp only[h,if_true] <;> lia
   ·simp only[h,if_false] <;> lia
 ·cases hi with
  | none=>simp[sliceBounds,HT.iX]
  | some i =>
   simp only[sliceBounds,HT.iX,Option.getD_none,show (1:Int) > 0 by decide,if_true];by_cases h:i<0
   ·simp only[h,if_true] <;> lia
   ·simp only[h,if_false] <;> lia
theorem Ao(aN:List Value)(lo hi:Option Int):slicePick aN.toArray lo hi none=((aN.drop (HT.iX aN.length 0 lo)).take (HT.iX aN.length aN.length hi-HT.iX aN.length 0 lo)).toArray:=by
 obtain⟨h1,h2,h3⟩:=Cp lo hi aN.toArray.size;unfold slicePick;rw[h1,h2,h3]
 simp only[sliceRange_one,pick_run,gQ] <;> rfl
inductive XI(K:Frag)(x:V)(lo hi:Option Int)(H:Hp)(Q:VK):Prop
 | mk (a:Addr) (xs:List V) (_:x=.ref a) (_:bI K H a xs) (_:∀ p,H p=none->Q (.ref p) (aP H p (.lst (j3 xs lo hi)))):XI K x lo hi H Q
theorem ly:SlR X (XI X.K):=by
 intro ao s σ H x v vl vu lo hi sl Q I rx hs pl pu h;obtain⟨a,xs,rfl,hx,q⟩:=h;cases rx;obtain⟨aN,r,ht,hz⟩:=I.list hx;have dI:=r.length;exists "list",_,slot_list_getitem.lookup,ht.isList.typeIs
 refine wpAny_getItem_list_slice ht.isList hs pl pu .none (by simp) ?_ (by rw[gQ] <;> lia)
 rw[Ao,← dI];refine⟨.ref s.heap.objs.size,_,I.laid (t':=s.toks) (o:=.lst (j3 xs lo hi)) (λb ob q=>Heap.get?_push_of_some _ q) (gh _) ?_,rfl,q _ (I.hok.fresh (gh _))⟩;exact⟨Nat.le_trans (wX xs lo hi) hz,_,0,(r.drop (HT.iX xs.length 0 lo)).take (HT.iX xs.length xs.length hi-HT.iX xs.length 0 lo),Heap.get?_push_size _ rfl⟩
def uE:V->Bool
 | .gm=>true
 | .bl _=>true
 | .int _=>true
 | .str _=>true
 | _=>false
def Sx:V->V->Bool
 | .gm,.gm=>true
 | .bl a,.bl b=>a == b
 | .bl a,.int b=>(if a then 1 else 0) == b
 | .int a,.bl b=>a == (if b then 1 else 0)
 | .int a,.int b=>a == b
 | .str a,.str b=>a == b
 | _,_=>false
theorem Us{A:Around}{s:Shared}{y x:V}{u v:Value}(ry:RelV y u)(rx:RelV x v)(fy:uE y=true)(fx:uE x=true):SeqAt.EqAt A s u v (Sx y x):=by
 cases y with
 | gm =>
  cases ry
  cases x with
  | gm=>cases rx;exact SeqAt.EqAt.same _
  | bl b=>cases rx;exact SeqAt.EqAt.none_bool b
  | int b=>obtain⟨t,rfl⟩:=rx;exact SeqAt.EqAt.none_int b t
  | str b=>obtain⟨t,rfl⟩:=rx;exact SeqAt.EqAt.none_str b t
  | _=>exact absurd (show false=true from fx) gK
 | bl a =>
  cases ry
  cases x with
  | gm=>cases rx;exact SeqAt.EqAt.bool_none a
  | bl b=>cases rx;exact SeqAt.EqAt.bool_bool a b
  | int b=>obtain⟨t,rfl⟩:=rx;exact SeqAt.EqAt.bool_int a b t
  | str b=>obtain⟨t,rfl⟩:=rx;exact SeqAt.EqAt.bool_str a b t
  | _=>exact absurd (show false=true from fx) gK
 | int a =>
  obtain⟨t',rfl⟩:=ry
  cases x with
  | gm=>cases rx;exact SeqAt.EqAt.int_none a t'
  | bl b=>cases rx;exact SeqAt.EqAt.int_bool a t' b
  | int b=>obtain⟨t,rfl⟩:=rx;exact SeqAt.EqAt.int_int a t' b t
  | str b=>obtain⟨t,rfl⟩:=rx;exact SeqAt.EqAt.int_str a t' b t
  | _=>exact absurd (show false=true from fx) gK
 | str a =>
  obtain⟨t',rfl⟩:=ry
  cases x with
  | gm=>cases rx;exact SeqAt.EqAt.str_none a t'
  | bl b=>cases rx;exact SeqAt.EqAt.str_bool a t' b
  | int b=>obtain⟨t,rfl⟩:=rx;exact SeqAt.EqAt.str_int a t' b t
  | str b=>obtain⟨t,rfl⟩:=rx;exact SeqAt.EqAt.str_str a t' b t
  | _=>exact absurd (show false=true from fx) gK
 | _=>exact absurd (show false=true from fy) gK
def GU(x:V)(u:Value):Bool:=match u with
 | .none=>Sx .gm x
 | .bool b=>Sx (.bl b) x
 | .int i _=>Sx (.int i) x
 | .str z _=>Sx (.str z) x
 | _=>false
theorem MO{x y:V}{u:Value}(r:RelV y u)(f:uE y=true):GU x u=Sx y x:=by
 cases y with
 | gm=>cases r;rfl
 | bl b=>cases r;rfl
 | int i=>obtain⟨t,rfl⟩:=r;rfl
 | str z=>obtain⟨t,rfl⟩:=r;rfl
 | _=>exact absurd (show false=true from f) gK
theorem uF{x:V}:∀ {xs:List V} {us:List Value},cu xs us->xs.all uE=true->us.any (GU x)=xs.any λy=>Sx y x
 | _,_,.nil,_=>rfl
 | y::xs,u::us,.cons r t,f=>by
  rw[List.all_cons,Bool.and_eq_true]at f;rw[List.any_cons,List.any_cons,MO r f.1,uF t f.2]
theorem qq{A:Around}{s:Shared}{x:V}{v:Value}(rx:RelV x v)(fx:uE x=true):∀ {xs:List V} {us:List Value},cu xs us->xs.all uE=true->∀ u∈us,SeqAt.EqAt A s u v (GU x u)
 | _,_,.nil,_=>λu hu=>by cases hu
 | y::xs,u::us,.cons r t,f=>λu' hu=>by
  rw[List.all_cons,Bool.and_eq_true]at f;rcases List.mem_cons.mp hu with rfl|hu
  ·rw[MO r f.1];exact Us r rx f.1 fx
  ·exact qq rx fx t f.2 u' hu
def inV(x:V)(xs:List V):Bool:=xs.any λy=>Sx y x
inductive Ut(K:Frag)(xs:List V)(H:Hp)(Q:VK):Prop
 | mk (p:Addr) (ys:List V) (_:xs=[.ref p]) (_:bI K H p ys\/dH K H p ys) (_:Q (.int ys.length) H):Ut K xs H Q
inductive XJ(K:Frag)(xs:List V)(H:Hp)(Q:VK):Prop
 | mk (p:Addr) (ys:List V) (_:xs=[.ref p]) (_:bI K H p ys\/dH K H p ys) (_:∀ l,H l=none->Q (.ref l) (aP H l (.lst ys)))
def rIn(K:Frag)(neg:Bool):R2:=λx y H Q=>∃ p xs,y=.ref p/\(bI K H p xs\/dH K H p xs)/\uE x=true/\xs.all uE=true/\Q (.bl (if neg then !inV x xs else inV x xs)) H
theorem Bj:uy X (compareOp .In) (rIn X.K false):=by
 intro ao s σ H x y v u Q I rx ry h;obtain⟨p,xs,rfl,hq,fx,fs,q⟩:=h;cases ry;rcases hq with hq|hq
 ·obtain⟨aN,r,pl,hz⟩:=I.list hq;refine SeqAt.in_listAt (GU x) pl.isList (λw hw=>qq rx fx r fs w (by simpa using hw)) ⟨.bl _,H,I,rfl,?_⟩;rw[show aN.toArray.any (GU x)=aN.any (GU x) by simp,uF r fs];exact q
 ·obtain⟨aN,r,pl,hz⟩:=I.tuple hq;refine SeqAt.in_tupleAt (GU x) pl (λw hw=>qq rx fx r fs w (by simpa using hw)) ⟨.bl _,H,I,rfl,?_⟩;rw[show aN.toArray.any (GU x)=aN.any (GU x) by simp,uF r fs];exact q
theorem Cq:uy X (compareOp .NotIn) (rIn X.K true):=by
 intro ao s σ H x y v u Q I rx ry h;obtain⟨p,xs,rfl,hq,fx,fs,q⟩:=h;cases ry;rcases hq with hq|hq
 ·obtain⟨aN,r,pl,hz⟩:=I.list hq;refine SeqAt.notIn_listAt (GU x) pl.isList (λw hw=>qq rx fx r fs w (by simpa using hw)) ⟨.bl _,H,I,rfl,?_⟩;rw[show aN.toArray.any (GU x)=aN.any (GU x) by simp,uF r fs];exact q
 ·obtain⟨aN,r,pl,hz⟩:=I.tuple hq;refine SeqAt.notIn_tupleAt (GU x) pl (λw hw=>qq rx fx r fs w (by simpa using hw)) ⟨.bl _,H,I,rfl,?_⟩;rw[show aN.toArray.any (GU x)=aN.any (GU x) by simp,uF r fs];exact q
theorem Cr:jZ X (.builtin "len") (Ut X.K):=by
 intro ao s σ H xs us Q I r h;obtain⟨p,ys,rfl,hq,q⟩:=h;obtain⟨u,rfl,rx⟩:=vals1 r;cases rx;have hn:=sS;rcases hq with hq|hq
 ·obtain⟨aN,r',pl,hz⟩:=I.list hq;have dI:=r'.length
  exact Calls.call_len_list pl.isList (by simp only[gQ] <;> lia) ⟨.int ys.length,H,I.tok _,⟨s.toks+1,by rw[gQ,dI]⟩,q⟩
 ·obtain⟨aN,r',pl,hz⟩:=I.tuple hq;have dI:=r'.length
  exact len_tuple pl (by simp only[gQ] <;> lia) ⟨.int ys.length,H,I.tok _,⟨s.toks+1,by rw[gQ,dI]⟩,q⟩
theorem uG:jZ X (.builtin "len") (λxs H Q=>∃ z,xs=[.str z]/\z.length<=sizeLine/\Q (.int z.length) H):=by
 intro ao s σ H xs us Q I r h;obtain⟨z,rfl,hz,q⟩:=h;obtain⟨u,rfl,t,rfl⟩:=vals1 r;have hn:=sS;exact len_str ∅ ⟨.int z.length,H,I.tok _,⟨Y⟩,q⟩
theorem fZ:jZ X (.type "list") (XJ X.K):=by
 intro ao s σ H xs us Q I r h;obtain⟨p,ys,rfl,hq,q⟩:=h;obtain⟨u,rfl,rx⟩:=vals1 r;cases rx
 have kq:∀ (aN:List Value),cu ys aN->ys.length<=sizeLine->∀ (h':Heap) (c':Nat),(∀ b o',s.heap.get? b=some o'->h'.get? b=some o')->
   h'.get? s.heap.objs.size=some { cls:=.type "list",dict:=none,data:=.seq aN.toArray c',slots:=#[] }->EP X ao σ Q (.ref s.heap.objs.size) { s with heap:=h' }:=λaN r' hz h' c' kp e =>
  ⟨.ref s.heap.objs.size,_,I.laid (t':=s.toks) kp (gh _) (show gn X.prog X.w _ h' _ (.lst ys) from ⟨hz,aN,c',r',e⟩),rfl,q _ (I.hok.fresh (gh _))⟩
 rcases hq with hq|hq
 ·obtain⟨aN,r',pl,hz⟩:=I.list hq;have dI:=r'.length;obtain⟨o,ho,hc,n,hd⟩:=pl.isList
  exact call_list_seq p (.inl rfl) ho hc hd (λh' c' kp e=>kq aN r' hz h' c' kp e) (by simp only[gQ] <;> lia)
 ·obtain⟨aN,r',pl,hz⟩:=I.tuple hq;have dI:=r'.length;obtain⟨o,ho,hc,n,hd⟩:=pl
  exact call_list_seq p (.inr rfl) ho hc hd (λh' c' kp e=>kq aN r' hz h' c' kp e) (by simp only[gQ] <;> lia)
def tyV(K:Frag)(T:String)(x:V)(H:Hp):Prop:=match x with
 | .str _=>T="str"
 | .int _=>T="int"
 | .ref p=>(T="list"/\∃ xs,bI K H p xs)\/(T="tuple"/\∃ o,K.lookup p=some o/\o.cls=.type "tuple"/\o.dict=none)\/
   (T="dict"/\((∃ kvs,H p=some (.dK kvs))\/∃ kvs,H p=some (.dT kvs)))\/(T="set"/\∃ S n,H p=some (.set S n))
 | _=>False
theorem MP{σ:St}{H:Hp}{s:Shared}{T:String}{x:V}{v:Value}(I:Inv X ao σ H s)(r:RelV x v)(ty:tyV X.K T x H) :
  s.TypeIs v T/\∀ a,v=.ref a->∃ ob,s.heap.get? a=some ob/\ob.dict=none:=by
 cases x with
 | str z =>
  obtain⟨t,rfl⟩:=r;cases (show T="str" from ty);exact⟨typeIs_str s z t,λ_ e=>nomatch e⟩
 | int i =>
  obtain⟨t,rfl⟩:=r;cases (show T="int" from ty);exact⟨typeIs_int s i t,λ_ e=>nomatch e⟩
 | ref p =>
  cases r;rcases ty with ⟨rfl,xs,hq⟩|⟨rfl,o,hk,hc,hd⟩|⟨rfl,hk⟩|⟨rfl,S,n,hk⟩
  ·obtain⟨aN,_,pl,_⟩:=I.list hq;refine⟨pl.isList.typeIs,λa e=>?_⟩;cases e;obtain⟨o,n,e,c,hd,_⟩:=pl;exact⟨o,e,hd⟩
  ·refine⟨⟨o,I.wR p o hk,hc⟩,λa e=>?_⟩;cases e;exact⟨o,I.wR _ o hk,hd⟩
  ·have z:∃ o,s.heap.get? p=some o/\o.ExactDict:=by
    rcases hk with ⟨kvs,hk⟩|⟨kvs,hk⟩
    ·obtain⟨_,_,_,_,o,_,_,e,ex,_⟩:=I.hok p _ hk;exact⟨o,e,ex⟩
    ·obtain⟨_,_,_,_,o,_,_,e,ex,_⟩:=I.hok p _ hk;exact⟨o,e,ex⟩
   obtain⟨o,e,ex⟩:=z;refine⟨⟨o,e,ex.1⟩,λa e2=>?_⟩;cases e2;exact⟨o,e,ex.2.1⟩
  ·obtain⟨o,_,_,_,e,ex,_⟩:=I.hok p _ hk;refine⟨⟨o,e,ex.1⟩,λa e2=>?_⟩;cases e2;exact⟨o,e,ex.2.1⟩
 | _=>exact False.elim ty
def abO(K:Frag)(T:String)(r:V->List V->Hp->VK->Prop)(to:TE):TE:=fun σ H Q=>to σ H λx H1=>tyV K T x H1/\r x [] H1 Q
def tBM(K:Frag)(T:String)(r:V->List V->Hp->VK->Prop)(to:TE)(t:TA):TE:=fun σ H Q=>to σ H λx H1=>tyV K T x H1/\t σ H1 λxs H2=>r x xs H2 Q
variable {o e:Expr} {es:List Expr} {to:TE} {t:TA} {name:Str} {lu qt:Pos} {T id:String} {r:V->List V->Hp->VK->Prop}
theorem MQ(pa:PlainAttrs T)(slot:Slot T name id)(hty:typeOf (.builtin id)=pure (.type "method_descriptor"))(hm:MtR X id r)(ho:PE X o to)
  (MR:attributeBase o name X.env (eval o X.env)=eval o X.env:=by rfl) (MS:(lu.endLine == qt.line)=true:=by rfl):PE X (.Call (.Attribute o name lu) [] [] qt) (abO X.K T r to):=by
 intro ao s σ H Q I h;refine wpAny_Call_method0_late MR MS (dc (ho ao s σ H _ I h) λv s1 Cj=>?_);obtain⟨x,H1,I1,r1,ty,q1⟩:=Cj;obtain⟨h1,h2⟩:=MP I1 r1 ty;exact⟨T,id,pa,slot,hty,h1,h2,Calls.callWith_builtin rfl (PySem.evalArgs_none (hm ao s1 σ H1 x [] v [] Q I1 r1 .nil q1))⟩
theorem dM(pa:PlainAttrs T)(slot:Slot T name id)(hty:typeOf (.builtin id)=pure (.type "method_descriptor"))(hm:MtR X id r)(ho:PE X o to)(ha:PA X (e::es) t)
  (MR:attributeBase o name X.env (eval o X.env)=eval o X.env:=by rfl)
  (abQ:((backTo qt (starEach (e::es) X.env)).all (λx=>!x.1)&&(backToKw qt (keywordEach [] X.env)).all (λx=>x.1.isSome)
   && decide ((e::es).length+([]:List Keyword).length+(if ([]:List Keyword).isEmpty then 0 else 1)<30))=true:=by rfl)
  (MS:(lu.endLine == qt.line)=true:=by rfl) (hs:starEach (e::es) X.env=(false,eval e X.env)::starEach es X.env:=by rfl) (Uu:(backTo qt (starEach es X.env)).any (·.1)=false:=by rfl) :
  PE X (.Call (.Attribute o name lu) (e::es) [] qt) (tBM X.K T r to t):=by
 intro ao s σ H Q I h;refine wpAny_Call_method_late MR abQ MS rfl (dc (ho ao s σ H _ I h) λv s1 GB=>?_);obtain⟨x,H1,I1,r1,ty,q1⟩:=GB;obtain⟨h1,h2⟩:=MP I1 r1 ty;exists T,id,pa,slot,hty,h1,h2;have hA:=ha qt ao s1 σ H1 _ I1 q1;rw[hs]at hA ⊢
 refine Calls.callWith_builtin (by show (false || (backTo qt (starEach es X.env)).any (·.1))=false;rw[Uu] <;> rfl) (Calls.evalArgs_plain ?_)
 exact dc hA λus s2 ⟨vs,H2,I2,r2,q2⟩=>hm ao s2 σ H2 x vs v us Q I2 r1 r2 q2
end
end L2
namespace L2
open Spec Rows
def Ww(X:Cx)(id:String)(r:V->List V->Hp->VK->Prop):Prop :=
 ∀ (ao:List (Addr × Obj)) (s:Shared) (σ:St) (H:Hp) (x:V) (xs:List V) (v:Value) (us:List Value) (Q:VK),Inv X ao σ H s->RelV x v->cu xs us->r x xs H Q->
  wpAny (model X.prog X.w) X.A (call (.builtin id) (v::us)) (EP X ao σ Q) X.xe s
theorem cu.one{x:V}{us:List Value}(h:cu [x] us):∃ u,us=[u]/\RelV x u:=by
 cases h with
 | cons r t=>cases t;exact⟨Y,r⟩
theorem cu.two{x y:V}{us:List Value}(h:cu [x,y] us):∃ u v,us=[u,v]/\RelV x u/\RelV y v:=by
 cases h with
 | cons r t =>
  obtain⟨_,rfl,q⟩:=cu.one t;exact⟨P,rfl,r,q⟩
theorem cu.zero:∀ {us:List Value},cu [] us->us=[]
 | _,.nil=>rfl
theorem cu.dropLast{xs:List V}{us:List Value}(h:cu xs us):cu xs.dropLast us.dropLast:=by
 induction h with
 | nil=>exact .nil
 | cons r t ih =>
  cases t with
  | nil=>exact .nil
  | cons q t'=>exact .cons r ih
theorem cu.eraseIdx:∀ {xs:List V} {us:List Value} (i:Nat),cu xs us->cu (xs.eraseIdx i) (us.eraseIdx i)
 | _,_,_,.nil=>.nil
 | _,_,0,.cons _ t=>t
 | _,_,i+1,.cons r t=>.cons r (cu.eraseIdx i t)
theorem cu.rep{xs:List V}{us:List Value}(h:cu xs us):∀ k:Nat,cu (List.replicate k xs).flatten (List.replicate k us).flatten
 | 0=>.nil
 | k+1=>by
  rw[List.replicate_succ,List.replicate_succ,List.flatten_cons,List.flatten_cons];exact cu.append h (cu.rep h k)
theorem GV{α:Type}(l:List α):l.eraseIdx (l.length-1)=l.dropLast:=by
 induction l with
 | nil=>rfl
 | cons a r ih =>
  cases r with
  | nil=>rfl
  | cons b r =>
   have e:(a::b::r).length-1=((b::r).length-1)+1:=by
    have h1:(a::b::r).length=r.length+2:=rfl;have h2:(b::r).length=r.length+1:=rfl;lia
   rw[e,List.eraseIdx_cons_succ,ih]
   all_goals rfl
theorem Bk{α:Type}:∀ (l:List α) (i:Nat),(l.eraseIdx i).length<=l.length
 | [],_=>gh _
 | _::_,0=>Nat.le_succ _
 | _::r,i+1=>Nat.succ_le_succ (Bk r i)
theorem foldl_rep(aN:List Value):∀ (k:Nat) (acc:List Value),
  List.foldl (λx1 x2=>x1++x2) acc.toArray (List.replicate k aN.toArray)=(acc++(List.replicate k aN).flatten).toArray
 | 0,acc=>by simp
 | k+1,acc=>by
  have e:acc.toArray++aN.toArray=(acc++aN).toArray:=by simp
  have e2:(acc++aN)++(List.replicate k aN).flatten=acc++(List.replicate (k+1) aN).flatten:=by
   rw[List.replicate_succ,List.flatten_cons,mU]
  rw[← e2,← foldl_rep aN k (acc++aN),← e,List.replicate_succ,lO]
section
variable {X:Cx} {ao:List (Addr × Obj)} {σ:St} {H:Hp} {s:Shared} {l b:Addr} {xs ys zs:List V}
theorem Inv.MT{aN its':List Value}{n:Nat}{f:Array Value->Array Value}{t':Nat}(I:Inv X ao σ H s)(hH:H l=some (.lst xs))
  (e:s.heap.get? l=some { cls:=.type "list",data:=.seq aN.toArray n }) (hf:f aN.toArray=its'.toArray) (hv:cu ys its') (hz:ys.length<=sizeLine) :
  Inv X ao σ (aP H l (.lst ys)) { s with heap:=s.heap.update l (Obj.mapSeq f),toks:=t' }:=by
 have q:=PySem.IsL.update e f;rw[hf]at q;refine I.write (x:=l) (e:=l) (by rw[hH];exact trivial) (.inl rfl) (λb' u hb hu=>(Heap.get?_update_other s.heap (Obj.mapSeq f) (Ne.symm hb)).trans hu) ⟨_,q⟩ ?_;exact⟨hz,its',_,hv,q⟩
theorem Inv.P7{aN:List Value}{t':Nat}(I:Inv X ao σ H s)(hv:cu ys aN)(hz:ys.length<=sizeLine) :
  Inv X ao σ (aP H s.heap.objs.size (.lst ys)) { s with heap:=s.heap.push { cls:=.type "list",data:=.seq aN.toArray },toks:=t' } :=
 I.laid (λ_ _ q=>Heap.get?_push_of_some _ q) (gh _) ⟨hz,aN,0,hv,Heap.get?_push_size _ rfl⟩
theorem Inv.fresh(I:Inv X ao σ H s):H s.heap.objs.size=none:=I.hok.fresh (gh _)
theorem Inv.Aq(I:Inv X ao σ H s)(hH:H l=some (.lst xs)):xs.length<=sizeLine/\∃ (aN:List Value) (n:Nat),cu xs aN/\xs.length=aN.length/\s.heap.get? l=some { cls:=.type "list",data:=.seq aN.toArray n }:=by
 obtain⟨z,aN,n,r,e⟩:=I.hok l _ hH;exact⟨z,aN,n,r,r.length,e⟩
theorem yN{n:Nat}(h:n<=sizeLine):Builtin.List.listTooLong n=false:=by
 unfold Builtin.List.listTooLong;exact decide_eq_false ∅
end
section
variable {X:Cx}
inductive P8(x:V)(vs:List V)(H:Hp)(Q:VK):Prop
 | mk (l:Addr) (xs:List V) (y:V) (_:x=.ref l) (_:vs=[y]) (_:H l=some (.lst xs)) (_:xs.length<sizeLine) (_:Q .gm (aP H l (.lst (xs++[y]))))
theorem bS:Ww X "list.append" P8:=by
 intro ao s σ H x vs v us Q I rx rv h;obtain⟨l,xs,y,rfl,rfl,hH,hz,q⟩:=h;cases rx;obtain⟨u,rfl,ru⟩:=rv.one;obtain⟨z,aN,n,r,hl,e⟩:=I.Aq hH;refine call_meets F.slot_list_append ⟨_,e,rfl⟩ F.entry_list_append (F.args_list_append_2 _ _) (PySem.list_append l aN.toArray n u (by rw[gQ];lia)) ⟨e,?_⟩;refine⟨.gm,_,I.MT (its':=aN++[u]) hH e (by simp) (r.append (.cons ru .nil)) ?_,rfl,q⟩;rw[dB,qX];lia
inductive P9(x:V)(vs:List V)(H:Hp)(Q:VK):Prop
 | mk (l b:Addr) (xs zs:List V) (_:x=.ref l) (_:vs=[.ref b]) (_:H l=some (.lst xs)) (_:H b=some (.lst zs)) (_:xs.length+zs.length<=sizeLine) (_:Q .gm (aP H l (.lst (xs++zs))))
theorem jQ:Ww X "list.extend" P9:=by
 intro ao s σ H x vs v us Q I rx rv h;obtain⟨l,b,xs,zs,rfl,rfl,hH,hB,hz,q⟩:=h;cases rx;obtain⟨u,rfl,ru⟩:=rv.one;cases ru;obtain⟨z,aN,n,r,hl,e⟩:=I.Aq hH;obtain⟨z2,its2,n2,r2,Bm,e2⟩:=I.Aq hB;have hsz:aN.toArray.size+its2.toArray.size<=sizeLine:=by rw[gQ,gQ];lia
 have Ej:¬ (!aN.toArray.isEmpty&&Builtin.List.listTooLong (aN.toArray.size+its2.toArray.size))=true:=by
  rw[yN hsz,Bool.and_false];exact gK
 refine call_meets F.slot_list_extend ⟨_,e,rfl⟩ F.entry_list_extend (F.args_list_extend_2 _ _) (AutoSeq1.list_extend_list_list_0 l aN.toArray n b its2.toArray n2 Ej (by rw[gQ];lia) ∅) ⟨e,e2,?_⟩;refine⟨.gm,_,I.MT (its':=aN++its2) hH e (by simp) (r.append r2) ?_,rfl,q⟩;rw[dB];lia
def abR:V->List V->Hp->VK->Prop:=λx vs H Q=>∃ l xs y,x=.ref l/\vs=[]/\H l=some (.lst xs)/\xs[xs.length-1]?=some y/\Q y (aP H l (.lst xs.dropLast))
theorem MU:Ww X "list.pop" abR:=by
 intro ao s σ H x vs v us Q I rx rv h;obtain⟨l,xs,y,rfl,rfl,hH,hy,q⟩:=h;cases rx;have hus:=rv.zero;subst hus;obtain⟨z,aN,n,r,hl,e⟩:=I.Aq hH;obtain⟨u,hu,ru⟩:=r.get hy
 have hy':aN.toArray[aN.toArray.size-1]?=some u:=by
  show aN.toArray[aN.length-1]?=some u;rw[← Array.getElem?_toList,← hl];exact hu
 refine call_meets F.slot_list_pop ⟨_,e,rfl⟩ F.entry_list_pop (F.args_list_pop_1 _) (MeetsSeq.list_pop_last l aN.toArray n u hy' (by rw[gQ];lia)) ⟨e,?_⟩;refine⟨y,_,I.MT (its':=aN.dropLast) hH e ?_ r.dropLast ?_,ru,q⟩
 ·show aN.toArray.eraseIdxIfInBounds (aN.toArray.size-1)=aN.dropLast.toArray;rw[gQ,List.eraseIdxIfInBounds_toArray,GV]
 ·rw[List.length_dropLast];lia
def Uv:V->List V->Hp->VK->Prop:=λx vs H Q=>∃ l xs i k y,x=.ref l/\vs=[.int i]/\H l=some (.lst xs)/\-(2^63)<=i/\i<2^63/\seqIndex? i xs.length=some k/\xs[k]?=some y/\Q y (aP H l (.lst (xs.eraseIdx k)))
theorem MV:Ww X "list.pop" Uv:=by
 intro ao s σ H x vs v us Q I rx rv h;obtain⟨l,xs,i,k,y,rfl,rfl,hH,h1,h2,hk,hy,q⟩:=h;cases rx;obtain⟨u,rfl,ru⟩:=rv.one;obtain⟨t,rfl⟩:=ru;obtain⟨z,aN,n,r,hl,e⟩:=I.Aq hH;obtain⟨w,hw,jP⟩:=r.get hy;refine call_meets F.slot_list_pop ⟨_,e,rfl⟩ F.entry_list_pop (F.args_list_pop_2 _ _) (MeetsSeq.list_pop_at l aN.toArray n i t k w (fitsIndex_both h1 h2) (by rw[gQ,← hl];exact hk) (by rw[← Array.getElem?_toList];exact hw) (by rw[gQ];lia)) ⟨e,?_⟩;refine⟨y,_,I.MT (its':=aN.eraseIdx k) hH e ?_ (r.eraseIdx k) ?_,jP,q⟩
 ·show aN.toArray.eraseIdxIfInBounds k=(aN.eraseIdx k).toArray;rw[List.eraseIdxIfInBounds_toArray]
 ·have:=Bk xs k;lia
inductive XM(x y:V)(H:Hp)(Q:VK):Prop
 | mk (l b:Addr) (xs zs:List V) (_:x=.ref l) (_:y=.ref b) (_:H l=some (.lst xs)) (_:H b=some (.lst zs)) (_:xs.length+zs.length<=sizeLine) (_:∀ p,H p=none->Q (.ref p) (aP H p (.lst (xs++zs))))
theorem jo:uy X (binaryOp .Add) XM:=by
 intro ao s σ H x y v u Q I rx ry h;obtain⟨l,b,xs,zs,rfl,rfl,hH,hB,hz,q⟩:=h;cases rx;cases ry;obtain⟨z,aN,n,r,hl,e⟩:=I.Aq hH;obtain⟨z2,its2,n2,r2,Bm,e2⟩:=I.Aq hB;refine PySem.P.add_list e e2 ?_ (by rw[gQ,gQ];lia);have ea:aN.toArray++its2.toArray=(aN++its2).toArray:=by simp
 rw[ea];exact⟨.ref _,_,I.P7 (t':=s.toks) (r.append r2) (by rw[dB];lia),rfl,q _ I.fresh⟩
def XN:R2:=λx y H Q=>∃ l k xs,x=.ref l/\y=.int k/\H l=some (.lst xs)/\-(2^63)<=k/\k<2^63/\xs.length*k.toNat<=sizeLine/\
 ∀ p,H p=none->Q (.ref p) (aP H p (.lst (List.replicate k.toNat xs).flatten))
theorem Qa{α:Type}(xs:List α)(k:Nat):(List.replicate k xs).flatten.length=k*xs.length:=by
 induction k with
 | zero=>simp
 | succ k ih=>rw[List.replicate_succ,List.flatten_cons,dB,ih,Nat.succ_mul,Nat.add_comm]
theorem MW:uy X (binaryOp .Mult) XN:=by
 intro ao s σ H x y v u Q I rx ry h;obtain⟨l,k,xs,rfl,rfl,hH,h1,h2,hz,q⟩:=h;cases rx;obtain⟨t,rfl⟩:=ry;obtain⟨z,aN,n,r,hl,e⟩:=I.Aq hH;have dI:aN.toArray.size*k.toNat<=sizeLine:=by rw[gQ,← hl];exact hz
 have hcap:¬ aN.toArray.size*k.toNat > (2^63-1) / 8:=by
  have:(sizeLine:Nat)<=(2^63-1) / 8:=by decide
  lia
 have hfit:¬ (!Builtin.List.listFitsIndex k)=true:=by
  rw[fitsIndex_both h1 h2];exact gK
 have Ej:¬ Builtin.List.listTooLong (aN.toArray.size*k.toNat)=true:=by
  rw[yN dI];exact gK
 have hnew:List.foldl (λx1 x2=>x1++x2) #[] (List.replicate (if aN.toArray.isEmpty=true then 0 else k.toNat) aN.toArray)=(List.replicate k.toNat aN).flatten.toArray:=by
  have f0:∀ m:Nat,List.foldl (λx1 x2=>x1++x2) #[] (List.replicate m aN.toArray)=(List.replicate m aN).flatten.toArray:=λm=>by
   have:=foldl_rep aN m [];rw[List.nil_append]at this;exact this
  rw[f0]
  cases aN with
  | nil=>simp
  | cons a r'=>rw[if_neg (by simp)]
 refine wpAny_binaryOp_repeat_ref (T:="list") (U:="int") (by decide) ⟨_,e,rfl⟩ (λs'=>typeIs_int s' k t) noFill_list_mul F.fills_int_mul F.slot_int_rmul repeat_list F.slot_int_index.lookup (call_meets F.slot_int_rmul (typeIs_int s k t) F.entry_int_rmul (F.args_int_rmul_2 _ _) (int___rmul___int_list k t l aN.toArray n) ⟨e,rfl,⟨_,e,rfl⟩,call_meets F.slot_list_mul ⟨_,e,rfl⟩ F.entry_list_mul (F.args_list_mul_2 _ _) (AutoListH.list___mul___list_int_3 l aN.toArray n k t hfit hcap Ej) ⟨e,?_⟩⟩);rw[hnew];exact⟨.ref _,_,I.P7 (t':=s.toks) (r.rep k.toNat) (by rw[Qa,Nat.mul_comm];exact hz),rfl,q _ I.fresh⟩
end
end L2
namespace Att
open PySem.W Calls Rows
theorem xN{P:Params}{h:Heap}:∀ (ns:List Int) (vs:List Value),WellAll P h vs (ns.map WData.int)->IntsAre vs ns:=by
 intro ns
 induction ns with
 | nil =>
  intro vs w;rw[List.map_nil]at w;cases w;exact .nil
 | cons n ns ih =>
  intro vs w;rw[jI]at w
  cases w with
  | cons a b =>
   cases a;exact .cons _ _ (ih _ b)
theorem Kl{l:OpenLaw}{n:Nat}(hn:l.most=some n){P:Params}{h:Heap}{args:List WData}{Uw:List Value}
  (Qc:l.row.toRowW.claim.pre args=true) (hwl:WellAll P h Uw args) :
  ∃ a vs ns,Uw=[Value.ref a]/\args=[WData.list (ns.map WData.int)]/\h.get? a=some { cls:=.type "list",data:=.seq vs.toArray }/\IntsAre vs ns/\ns.length<=n:=by
 have wY:WShape.hasAll [] args [.list .int]=true:=(pre_splitW Qc).1;have hc:l.pre.holds [] { args:=args }=true:=(pre_splitW Qc).2;obtain⟨d,r,rfl,h1,h2⟩:=hasAllW_cons wY;obtain rfl:=hasAllW_nil h2;obtain⟨xs,rfl,h3⟩:=hasW_list h1;obtain⟨ns,rfl⟩:=items_int h3
 have dI:ns.length<=n:=by
  unfold OpenLaw.pre at hc
  have h4:(WTm.not (.lt (.lit (.int (n:Int))) (.len (.arg 0)))).holds [] { args:=[.list (ns.map .int)] }=true:=by
   have h4:=(holds_andW hc).1;rw[hn]at h4;exact h4
  have h5:=condW_of h4 (w_not (w_lt w_lit (w_len_list (w_arg rfl))));rw[cG]at h5;refine Nat.le_of_not_lt λq=>?_;have q':(n:Int)<((ns.length:Nat):Int):=by lia
  first
   | (rw[decide_eq_true q']at h5;exact absurd h5 (by decide))
   | (simp at h5;lia)
 cases hwl with
 | cons w1 w2 =>
  cases w2
  cases w1 with
  | list ho MX=>exact⟨P,ns,V,ho,xN ns _ MX,dI⟩
theorem Km(l:OpenLaw)(args:List WData):l.row.toRowW.claim.post args (.bool true) args=true :=
 postW_of (r:=l.row.toRowW) (X:=(true == true))
  (show WShape.has [] (.bool true) .bool=true by first|rfl|decide|simp[WShape.has,WShape.arms,WShape.armsAll])
  (show (WTm.eq .res (.lit (.bool true))).value [] { args:=args,res:=some (.bool true),after:=args }=some (.bool (true == true)) from w_eq_bool (w_res rfl) w_lit) rfl
theorem Ek{l:OpenLaw}{n:Nat}{q:Program}{Bo:List Str}{XP:(Str->Option Value)->Heap->Prop}{YP:World->Heap->Prop}{d:DefRec}
  (hn:l.most=some n) (XO:d.params.defaults=[])
  (call:∀ (w:World) (s₀ s₁:Shared) (mg mb:Str->Option Value) (fa:Addr) (o:Obj) (pm cd wW:Value) (a:Addr) (vs:List Value) (ns:List Int),
   Ground q Bo [] XP w s₀ mg mb s₁.heap->YP w s₁.heap->
   s₁.heap.get? fa=some o->o.data=.func (docDef d.name d.params d.body d.scope pm cd wW)->s₁.heap.CodeRec cd d.name->mg d.name=some (.ref fa)->
   s₁.heap.get? a=some { cls:=.type "list",data:=.seq vs.toArray }->IntsAre vs ns->ns.length<=n->s₁.gens=#[]->
   codeAny (model l.prog w) callerA (.call (.ref fa) ⟨[.ref a],[]⟩) (λr s'=>r=.ok (.ret (.bool true))/\OldK s₁.heap s'.heap/\s'.os=s₁.os/\AllBare s'.gens) s₁) :
  WalkO q Bo XP YP l.row.toRowW d [] (λf vs=>PySem.call f vs):=by
 intro w s₀ s₁ mg mb G Y fa o pm cd wW dV kV ho hd Mu hD XQ hg args Uw as Qc ahR hrd hwl hlo;obtain rfl:dV=.none:=Dflts.none hD XO;obtain rfl:kV=.none:=Dflts.noKw hD;obtain⟨a,vs,ns,rfl,rfl,Ux,MY,dI⟩:=Kl hn Qc hwl;refine enter_call (codeAny_mono (call w s₀ s₁ mg mb fa o pm cd wW a vs ns G Y ho (fd_plain hd) Mu XQ Ux MY dI hg) λr s' hq=>?_);obtain⟨rfl,h2,h3,h4⟩:=hq;exact⟨.inl ⟨.bool true,.bool true,[],rfl,λ_=>rfl,.bool true,Km l _,λ_=>⟨List.Pairwise.nil,λ_ hm=>(nomatch hm)⟩⟩,h2,h3,h4⟩
end Att
namespace L2
open Spec Rows
theorem Bp:∀ {vs:List Value} {ns:List Int},IntsAre vs ns->cu (ns.map V.int) vs
 | _,_,.nil=>.nil
 | _,_,.cons n t h=>.cons ⟨t,rfl⟩ (Bp h)
def Uy(H:Hp):Prop:=∀ b,H b=none\/∃ o xs,H b=some (.IK o (.lst xs))
theorem MZ{P:Program}{w:World}{K:Frag}{mg mb:Str->Option Value}{CX:MH}{k:Nat}{fa a:Addr}{fd:FuncData}{x:Str}{sp:Sp}{s₁:Shared}{vs:List Value}{ns:List Int}
  (KX:K.In s₁.heap) (L0:s₁.heap.Ns mainGlobals mg) (hb:s₁.heap.Ns builtinsNs mb) (hbb:∀ x:Str,x≠"__name__"->mb x=bootBuiltins x) (abT:s₁.heap.NoLimit) (hg:s₁.gens=#[])
  (ha:s₁.heap.get? a=some { cls:=.type "list",data:=.seq vs.toArray }) (hi:IntsAre vs ns) (hl:ns.length<=sizeLine) (hr:jb k callerA)
  (F:∀ zt:Heap,K.In zt->zt.Ns mainGlobals mg->bw P w K mg zt CX k fa fd [x] sp) (XR:∀ (s:Shared) (u:Value),BindsTo s fd ⟨[u],[]⟩ [(x,u)])
  (Kh:∀ H:Hp,Uy H->bI K H a (ns.map V.int)->sp [.ref a] H (λv _=>v=.bl true) λ_ _ _=>False)
  (hCX:∀ H e s',CX [] H s₁ (λ_ _ _=>False) e s'->False) :
  codeAny (model P w) callerA (.call (.ref fa) ⟨[.ref a],[]⟩) (λr s'=>r=.ok (.ret (.bool true))/\OldK s₁.heap s'.heap/\s'.os=s₁.os/\AllBare s'.gens) s₁:=by
 have rv:=Bp hi;have abV:=hi.length
 have core:∀ H:Hp,Uy H->bI K H a (ns.map V.int)->ux P w H s₁.heap->(∀ b,H b≠none->b=a)->(H a≠none->K.lookup a=none)->
   codeAny (model P w) callerA (.call (.ref fa) ⟨[.ref a],[]⟩) (λr s'=>r=.ok (.ret (.bool true))/\OldK s₁.heap s'.heap/\s'.os=s₁.os/\AllBare s'.gens) s₁:=by
  intro H hO hS hok hA hK;have Je:∀ {b:Addr} {o:Obj},s₁.heap.get? b=some o->H b=none->(Ce s₁.heap H).get? b=some o:=λe n=>Mr e n
  have XA:∀ {b:Addr} {o:Obj} {es:Array DictEntry} {ep:Nat},s₁.heap.get? b=some o->o.data=.dict es ep->H b=none:=λ{b o es ep} e d=>by
   cases q:H b with
   | none=>rfl
   | some u =>
    have e':b=a:=hA b (by rw[q];simp);subst e';rw[ha]at e;cases e;have d':Data.seq vs.toArray _=Data.dict es ep:=d;cases d'
  have nsK:∀ {b:Addr} {m:Str->Option Value},s₁.heap.Ns b m->(Ce s₁.heap H).Ns b m:=λ{b m} ⟨o,es,ep,e,d,r⟩=>⟨o,es,ep,Je e (XA e d),d,r⟩
  have hKb:K.In (Ce s₁.heap H):=λb o e=>Je (KX b o e) (by
   cases q:H b with
   | none=>rfl
   | some u =>
    have e':b=a:=hA b (by rw[q];simp);subst e'
    rw[hK (by rw[q];simp)]at e;cases e)
  have hM:Mod K mg (Ce s₁.heap H):=⟨hKb,nsK L0,⟨mb,nsK hb,hbb⟩,let ⟨mc,h1,h2⟩:=abT;⟨mc,nsK h1,h2⟩⟩;have e0:GO P w K mg (Ce s₁.heap H) callerA [] s₁ H:=⟨rfl,hM,λb o e=>PL e,Nat.le_of_eq (J2 _ _),trivial,λb hb=>absurd (show b∈([]:List Addr) from hb) (by simp),hok,.of_eq hg⟩;refine codeAny_mono ((F _ hKb (nsK L0)).run callerA [] s₁ H ⟨[.ref a],[]⟩ [.ref a] [.ref a] _ _ hr e0 (XR s₁ (.ref a)) (.cons rfl .nil) (Kh H hO hS)) λr s' h=>?_
  cases r with
  | error e=>exact (hCX H e s' h).elim
  | ok fl =>
   cases fl with
   | next=>exact False.elim h
   | brk=>exact False.elim h
   | cont=>exact False.elim h
   | ret u =>
    obtain⟨v,H',os,bare,un,abW,r',q⟩:=h;have q':v=.bl true:=q;subst q';obtain rfl:u=Value.bool true:=r';refine⟨rfl,OldK.of_keep λb o e=>?_,os,bare⟩
    cases q:H b with
    | none=>exact un.keep b o e q (by intro z;exact absurd (show b∈([]:List Addr) from z) (by simp)) (by simp)
    | some u =>
     rcases hO b with z|⟨ob,xs,z⟩
     ·rw[q]at z;cases z
     ·have z2:=un.Cd b ob _ z;obtain⟨e1,_⟩:=hok b _ z;obtain⟨e2,_⟩:=abW b _ z2;rw[e]at e1;cases e1;exact e2
 cases hk:K.lookup a with
 | some o =>
  have e:=KX a o hk;rw[ha]at e;cases e;refine core (λ_=>none) (λ_=>.inl rfl) (.inr ⟨_,vs.toArray,_,hk,V,rfl,by rw[gQ,abV];exact hl,by simpa using rv⟩) (λb u z=>by have z':(none:Option HO)=some u:=z;cases z') (λb z=>absurd rfl z) λz=>absurd rfl z
 | none =>
  refine core (λb=>if b=a then some (.IK { cls:=.type "list",data:=.seq vs.toArray } (.lst (ns.map V.int))) else none) (λb=>?_) (.inl (.inr ⟨{ cls:=.type "list",data:=.seq vs.toArray },if_pos rfl⟩)) (λb u z=>?_) (λb z=>?_) λ_=>hk
  ·by_cases hb:b=a
   ·exact .inr ⟨P,if_pos hb⟩
   ·exact .inl (if_neg hb)
  ·by_cases hb:b=a
   ·have z':=(if_pos hb).symm.trans z;cases z';subst hb;exact⟨ha,by rw[cG];exact hl,vs,_,rv,ha⟩
   ·have z':=(if_neg hb).symm.trans z;cases z'
  ·by_cases hb:b=a
   ·exact hb
   ·exact absurd (if_neg hb) z
end L2
namespace L2
open Spec Rows
theorem Qd{l:PySem.W.OpenLaw}{n k:Nat}{q:Program}{Bo:List Str}{XP:(Str->Option Value)->Heap->Prop}{YP:World->Heap->Prop}{d:DefRec}{K:Params->Frag}{CX:World->MH}{sp:World->Sp}{x:Str}
  (hn:l.most=some n) (hn2:n<=sizeLine) (XO:d.params.defaults=[]) (hr:jb k callerA)
  (hY:∀ (w:World) (h:Heap),YP w h->(K w.params).In h)
  (F:∀ (w:World) (mg:Str->Option Value) (fa:Addr) (h:Heap),(K w.params).In h->h.Ns mainGlobals mg->mg d.name=some (.ref fa)->
   ∃ fd:FuncData,(∀ (s:Shared) (u:Value),BindsTo s fd ⟨[u],[]⟩ [(x,u)])/\
    ∀ zt:Heap,(K w.params).In zt->zt.Ns mainGlobals mg->bw l.prog w (K w.params) mg zt (CX w) k fa fd [x] (sp w))
  (Kh:∀ (w:World) (H:Hp) (a:Addr) (ns:List Int),ns.length<=n->Uy H->bI (K w.params) H a (ns.map V.int)->sp w [.ref a] H (λv _=>v=.bl true) λ_ _ _=>False)
  (hCX:∀ (w:World) (H:Hp) (s:Shared) (e:Value) (s':Shared),CX w [] H s (λ_ _ _=>False) e s'->False) :
  PySem.W.WalkO q Bo XP YP l.row.toRowW d [] (λf vs=>PySem.call f vs):=by
 refine Att.Ek hn XO λw s₀ s₁ mg mb fa o pm cd wW a vs ns G Y ho hd Mu XQ Ux MY dI hg=>?_;have KX:=hY w _ Y;obtain⟨fd,hb,hF⟩:=F w mg fa _ KX G.T.g XQ;exact MZ KX G.T.g G.T.b G.T.builtins G.T.nolimit hg Ux MY (iI dI hn2) hr hF hb (λH hO hS=>Kh w H a ns dI hO hS) λH e s'=>hCX w H s₁ e s'
end L2
namespace L2
open Spec Rows
def mY(s:Stmt):Arguments:=match s with
 | .FunctionDef _ a _ _ _ _ _ _ _ _=>a
 | _=>{ posonlyargs:=[],args:=[],vararg:=none,kwonlyargs:=[],kw_defaults:=[],kwarg:=none,defaults:=[] }
def jq(s:Stmt):List Stmt:=match s with
 | .FunctionDef _ _ b _ _ _ _ _ _ _=>b
 | _=>[]
def az(s:Stmt):Scope:=match s with
 | .FunctionDef _ _ _ _ _ _ sc _ _ _=>sc
 | _=>{ kind:=.function,names:=[],isGenerator:=false,isCoroutine:=false }
abbrev cL:MH:=λ_ _ _ _ _ _=>False
abbrev E0:XK:=λ_ _ _=>False
theorem bL{X:Cx}:nk cL X E0:=λ_ _ _ _ _ _ _ h=>h.elim
structure Qe(K:Frag)(x fP:Str)(st:Stmt)(f:Addr)(fd:FuncData):Prop where
 ex:∃ (oc:Value) (od:Option Addr) (kV wW pm:Value) (an:Option Addr) (cV ct:Value) (LZ:Array (Option Value)),
  fd=fnOf x fP (mY st) (jq st) (az st) .none kV wW pm an cV ct/\K.lookup f=some ⟨oc,od,.func fd,LZ⟩/\codeIn K cV fP=true
 kp:keepIn K (.ref f)=true
section
variable {P:Program} {w:World} {K:Frag} {mg:Str->Option Value} {zt:Heap}
theorem Qe.ok{x fP:Str}{st:Stmt}{f:Addr}{N ps:List Str}{k:Nat}{sp:Sp}(F:Qe K x fP st f fd)(S:aF N ps (az st))(len:∀ vs H Q E,sp vs H Q E->vs.length=ps.length)
  (Ei:∀ (cV:Value) (A:Around) (zn:List Env) (s:Shared) (H:Hp) (vs:List V) (Q:VK) (E:XK),jb k (A.deeper (envOfC fP (az st) s.heap.objs.size f cV))->sp vs H Q E->
   ∃ t,IQ (GP cL P w K mg zt N fP (az st) f cV A zn s H E).J4 (jq st) t/\t { nx:=λ_ H'=>Q .gm H',rt:=Q } (start N vs) H):bw P w K mg zt cL (k+1) f fd ps sp:=by
 obtain⟨oc,od,kV,wW,pm,an,cV,ct,LZ,rfl,lk,Mu⟩:=F.ex;refine XC lk Mu S len λA zn s H vs Q E hr Kh=>?_;obtain⟨t,h,q⟩:=Ei cV A zn s H vs Q E hr Kh;exact⟨t,h.J4,q⟩
theorem Qe.binds{x fP:Str}{st:Stmt}{f:Addr}{ps:List Str}(F:Qe K x fP st f fd)
  (h:∀ (kV wW pm:Value) (an:Option Addr) (cV ct:Value) (us:List Value),us.length=ps.length->bindArgs (fnOf x fP (mY st) (jq st) (az st) .none kV wW pm an cV ct) ⟨us,[]⟩=pure (ps.zip us)):Binds K fd ps []:=by
 obtain⟨oc,od,kV,wW,pm,an,cV,ct,LZ,rfl,lk,Mu⟩:=F.ex;exact .all (h kV wW pm an cV ct)
theorem GW{x fP:Str}{st:Stmt}{f:Addr}{oc:Value}{od an:Option Addr}{LZ:Array (Option Value)}{kV wW pm cV ct:Value}(l:K.lookup f=some ⟨oc,od,.func (fnOf x fP (mY st) (jq st) (az st) .none kV wW pm an cV ct),LZ⟩)
  (c:codeIn K cV fP=true) (k:keepIn K (.ref f)=true):Qe K x fP st f (fnOf x fP (mY st) (jq st) (az st) .none kV wW pm an cV ct):=⟨⟨oc,od,kV,wW,pm,an,cV,ct,LZ,rfl,l,c⟩,k⟩
end
theorem gC{A:Around}{k:Nat}(hr:jb k A):A.units+1<cLine:=Nat.lt_of_le_of_lt (Nat.add_le_add_left (by decide:1<=64) _) hr.units
section
variable {X:Cx}
theorem pv(i:Nat){x:Str}{pos:Pos}(hN:X.N[i]?=some x:=by rfl)(hv:Vis X.env.scope x:=by first|exact Or.inl rfl|exact Or.inr (Or.inl rfl)|exact Or.inr (Or.inr rfl))(hd:(x == ("__debug__":Str))=false:=by decide)
  (Mu:(x == ("__classdict__":Str))=false:=by decide):PE X (.Name x pos) (T4 i):=T5 hN hv hd Mu
end
theorem d7{A B:Prop}(h:B):if false=true then A else B:=by
 rw[if_neg gK];exact h
theorem jr{A B:Prop}(h:A):if true=true then A else B:=by
 rw[if_pos rfl];exact h
theorem cX{c A B:Prop} [Decidable c] (h1:c->A) (h2:¬ c->B):if c then A else B:=by
 by_cases h:c
 ·rw[if_pos h];exact h1 h
 ·rw[if_neg h];exact h2 h
theorem M0{c A B:Prop} [Decidable c] (hc:c) (h:B):if (!decide c)=true then A else B:=by
 rw[decide_eq_true hc];exact d7 h
def aI(H H':Hp):Prop:=∀ b o,H b=some o->H' b=some o
theorem aI.refl(H:Hp):aI H H:=λ_ _ h=>h
theorem aI.trans{H H1 H2:Hp}(a:aI H H1)(b:aI H1 H2):aI H H2:=λc o h=>b c o (a c o h)
theorem aI.free{H H':Hp}(e:aI H H'){l:Addr}(h:H' l=Option.none):H l=Option.none:=by
 cases q:H l with
 | none=>rfl
 | some o =>
  rw[e l o q]at h;cases h
end L2
namespace gA
open L2
def top(i:Nat):Stmt:=PySem.Challenge.pw_inkroot_k38_rows_behind_deeds.main.body.getD i (.Pass ⟨0,0,0,0⟩)
def Qf:Stmt->List Stmt
 | .ClassDef (body:=b) ..=>b
 | _=>[]
def gv(i j:Nat):Stmt:=(Qf (top i)).getD j (.Pass ⟨0,0,0,0⟩)
inductive DI(K:Frag)(x:Str)(st:Stmt)(f:Addr):Prop
 | mk {oc:Value} {od an:Option Addr} {LZ:Array (Option Value)} {kV wW pm cV ct:Value} (_:nsIn K mainGlobals x=some (some (.ref f))) (_:K.lookup f=some ⟨oc,od,.func (fnOf x x (mY st) (jq st) (az st) .none kV wW pm an cV ct),LZ⟩) (_:codeIn K cV x=true) (_:keepIn K (.ref f)=true)
inductive MI(K:Frag)(C:Addr)(x fP:Str)(st:Stmt)(f:Addr):Prop
 | mk {oc:Value} {od an:Option Addr} {LZ:Array (Option Value)} {kV wW pm cV ct:Value} (_:findIn K (.ref C) x=some (some (.ref f))) (_:isFn K (.ref f)=true) (_:K.lookup f=some ⟨oc,od,.func (fnOf x fP (mY st) (jq st) (az st) .none kV wW pm an cV ct),LZ⟩) (_:codeIn K cV fP=true) (_:keepIn K (.ref f)=true)
inductive CI(K:Frag)(x:Str)(C:Addr):Prop
 | mk (_:nsIn K mainGlobals x=some (some (.ref C))) (_:plainGet K C Str.empty=true) (_:hasDictIn K C=true) (_:plainOver K C=true) (_:findIn K (.ref C) "__setattr__"=some (some (.builtin "object.__setattr__"))) (_:makesIn K C=true) (_:keepIn K (.ref C)=true)
class inductive M4(K:Frag)
 | mk (a:Addr) (ns:List Int) (_:vs=[.ref a]) (_:bI K H a (ns.map V.int)) (_:ns.length<=63) (_: ∀ H',Q (.bl true) H')
abbrev vI:Stmt:=top 71
abbrev sU:Stmt:=top 72
abbrev qu:Stmt:=top 73
abbrev sV:Stmt:=top 74
abbrev GX:Stmt:=top 11
abbrev Jf:Stmt:=top 12
abbrev nu:Stmt:=top 14
abbrev Cs:Stmt:=top 15
abbrev M5:Stmt:=top 16
abbrev kF:Stmt:=gv 27 0
abbrev oG:Stmt:=top 17
abbrev uH:Stmt:=top 31
abbrev Ct:Stmt:=top 32
abbrev oH:Stmt:=top 41
abbrev M6:Stmt:=top 42
abbrev oJ:Stmt:=top 37
abbrev jt:Stmt:=top 38
abbrev Cu:Stmt:=top 39
abbrev vJ:Stmt:=top 33
abbrev lC:Stmt:=top 34
abbrev GY:Stmt:=top 35
abbrev yO:Stmt:=top 44
abbrev oK:Stmt:=top 45
abbrev Cv:Stmt:=top 46
abbrev GZ:Stmt:=top 47
abbrev sW:Stmt:=top 48
abbrev sX:Stmt:=top 50
abbrev Cw:Stmt:=top 49
abbrev sY:Stmt:=top 51
abbrev oM:Stmt:=top 52
abbrev oN:Stmt:=top 53
abbrev oO:Stmt:=top 55
abbrev qv:Stmt:=top 56
abbrev yP:Stmt:=top 58
abbrev kG:Stmt:=gv 59 0
abbrev sZ:Stmt:=gv 59 3
abbrev qw:Stmt:=gv 59 2
abbrev qx:Stmt:=gv 59 1
abbrev jc:Stmt:=gv 59 4
abbrev iJ:Stmt:=gv 59 5
abbrev tF:Stmt:=gv 59 7
abbrev iB:Stmt:=gv 59 10
abbrev qy:Stmt:=gv 59 9
abbrev lS:Stmt:=gv 61 0
abbrev lT:Stmt:=gv 29 0
abbrev lU:Stmt:=gv 63 0
abbrev tG:Stmt:=gv 63 2
abbrev tH:Stmt:=gv 63 1
abbrev mZ:Stmt:=gv 63 6
abbrev oQ:Stmt:=top 68
abbrev lV:Stmt:=gv 69 1
abbrev ny:Stmt:=gv 69 26
abbrev oR:Stmt:=gv 69 25
abbrev kH:Stmt:=gv 69 2
abbrev lW:Stmt:=gv 69 3
abbrev lX:Stmt:=gv 69 7
abbrev lY:Stmt:=gv 69 30
abbrev nA:Stmt:=gv 69 6
abbrev oS:Stmt:=gv 69 27
abbrev iK:Stmt:=gv 69 4
abbrev oU:Stmt:=gv 69 8
abbrev ju:Stmt:=gv 69 0
abbrev oV:Stmt:=gv 69 9
abbrev lZ:Stmt:=gv 69 11
abbrev oW:Stmt:=gv 69 28
abbrev kJ:Stmt:=gv 69 12
abbrev oX:Stmt:=gv 69 13
abbrev nB:Stmt:=gv 69 10
abbrev kK:Stmt:=gv 69 35
abbrev kL:Stmt:=top 22
abbrev Cy:Stmt:=top 23
abbrev oY:Stmt:=gv 27 3
abbrev iL:Stmt:=gv 63 5
abbrev tK:Stmt:=gv 63 3
abbrev iZ:Stmt:=gv 69 23
abbrev nC:Stmt:=gv 69 32
abbrev nE:Stmt:=gv 69 34
abbrev tL:Stmt:=top 77
abbrev oZ:Stmt:=top 78
abbrev m6:Stmt:=top 85
abbrev tM:Stmt:=top 86
abbrev tN:Stmt:=top 87
abbrev qz:Stmt:=top 75
abbrev tO:Stmt:=top 80
abbrev nF:Stmt:=top 81
abbrev o6:Stmt:=top 82
abbrev vK:Stmt:=top 83
abbrev vL:Stmt:=top 84
abbrev nG:Stmt:=top 88
abbrev o7:Stmt:=top 76
abbrev l5:Stmt:=top 79
abbrev pA:Stmt:=top 89
abbrev qA:Stmt:=top 90
abbrev rX:Stmt:=gv 69 14
abbrev tP:Stmt:=top 91
abbrev nH:Stmt:=top 92
abbrev nI:Stmt:=top 96
abbrev tQ:Stmt:=top 97
abbrev tR:Stmt:=top 98
abbrev pB:Stmt:=top 93
abbrev qB:Stmt:=top 94
abbrev qC:Stmt:=top 95
abbrev tS:Stmt:=top 99
abbrev jv:Stmt:=top 100
abbrev pC:Stmt:=top 101
abbrev Qg:Stmt:=top 102
end gA
namespace gA
open L2
inductive Pm(K:Frag)(mg:Str->Option Value)(fa:Addr):Prop
 | mk {h:Heap} {Ar As M7:Tok} (dm fQ eZ Bq El bz:Addr) (X:K.In h) (G:h.Ns mainGlobals mg) (hfa:mg "law"=some (.ref fa))
  (Jg:CI K "Shelf" dm)
  (jV:findIn K (.ref dm) "states"=some none)
  (nT:findIn K (.ref dm) "openings"=some none)
  (M8:CI K "Well" fQ)
  (tT:findIn K (.ref fQ) "signs"=some none)
  (uI:findIn K (.ref fQ) "owners"=some none)
  (nU:findIn K (.ref fQ) "pourings"=some none)
  (Jh:CI K "Blots" eZ)
  (uJ:findIn K (.ref eZ) "stains"=some none)
  (M9:CI K "Ties" Bq)
  (Cz:findIn K (.ref Bq) "given"=some none)
  (CA:findIn K (.ref Bq) "pairs"=some none)
  (Na:CI K "Dues" El)
  (Ji:findIn K (.ref El) "sums"=some none)
  (Br:CI K "Library" bz)
  (wZ:findIn K (.ref bz) "well"=some none)
  (eX:findIn K (.ref bz) "shelf"=some none)
  (yQ:findIn K (.ref bz) "blots"=some none)
  (CC:findIn K (.ref bz) "knots"=some none)
  (Jj:findIn K (.ref bz) "dues"=some none)
  (Em:findIn K (.ref bz) "book"=some none)
  (q0:DI K "_law_src" vI f0)
  (q1:DI K "_law_next" sU f1)
  (q2:DI K "_law_whole" qu f2)
  (q3:DI K "_law_same" sV f3)
  (q4:DI K "plain" GX f4)
  (q5:DI K "size" Jf f5)
  (q6:DI K "check_places" nu f6)
  (q7:DI K "pieces" Cs f7)
  (q8:DI K "part" M5 f8)
  (q9:MI K eZ "__init__" "Blots.__init__" kF f9)
  (Bs:DI K "addresses" oG f10)
  (q11:DI K "windows" uH f11)
  (q12:DI K "below" Ct f12)
  (q13:DI K "way_between" oH f13)
  (q14:DI K "ring" M6 f14)
  (q15:DI K "item_weight" oJ f15)
  (q16:DI K "weights_below" jt f16)
  (q17:DI K "weight" Cu f17)
  (q18:DI K "item_row" vJ f18)
  (q19:DI K "views_below" lC f19)
  (q20:DI K "shown" GY f20)
  (q21:DI K "goes_on" yO f21)
  (q22:DI K "plain_items" oK f22)
  (q23:DI K "inked" Cv f23)
  (q24:DI K "dealt" GZ f24)
  (q25:DI K "put_among" sW f25)
  (q26:DI K "put_items" sX f26)
  (q27:DI K "parted" Cw f27)
  (q28:DI K "cut_items" sY f28)
  (q29:DI K "moved_items" oM f29)
  (q30:DI K "fixed_items" oN f30)
  (q31:DI K "ink_words" oO f31)
  (q32:DI K "shown_deed" qv f32)
  (q33:DI K "changed" yP f33)
  (q34:MI K dm "__init__" "Shelf.__init__" kG f34)
  (q35:MI K dm "now" "Shelf.now" sZ f35)
  (q36:MI K dm "many" "Shelf.many" qw f36)
  (q37:MI K dm "step" "Shelf.step" qx f37)
  (q38:MI K dm "check_sheet" "Shelf.check_sheet" jc f38)
  (q39:MI K dm "check_moment" "Shelf.check_moment" iJ f39)
  (q40:MI K dm "rows_then" "Shelf.rows_then" iB f40)
  (q41:MI K dm "rows" "Shelf.rows" qy f41)
  (q42:MI K dm "row" "Shelf.row" tF f42)
  (q43:MI K Bq "__init__" "Ties.__init__" lS f43)
  (q44:MI K El "__init__" "Dues.__init__" lT f44)
  (q45:MI K fQ "__init__" "Well.__init__" lU f45)
  (q46:MI K fQ "size" "Well.size" tG f46)
  (q47:MI K fQ "pour" "Well.pour" tH f47)
  (q48:MI K fQ "holds" "Well.holds" mZ f48)
  (q49:DI K "check_weave" oQ f49)
  (q50:MI K bz "__init__" "Library.__init__" ju f50)
  (q51:MI K bz "enter" "Library.enter" lV f51)
  (q52:MI K bz "change" "Library.change" kH f52)
  (q53:MI K bz "many" "Library.many" ny f53)
  (q54:MI K bz "now" "Library.now" oR f54)
  (q55:MI K bz "begin" "Library.begin" lW f55)
  (q56:MI K bz "fresh" "Library.fresh" lX f56)
  (q57:MI K bz "ink" "Library.ink" oS f57)
  (q58:MI K bz "check_held" "Library.check_held" iK f58)
  (q59:MI K bz "pour" "Library.pour" nA f59)
  (q60:MI K bz "put" "Library.put" oU f60)
  (q61:MI K bz "shown" "Library.shown" lY f61)
  (q62:MI K bz "cut" "Library.cut" oV f62)
  (q63:MI K bz "quote" "Library.quote" lZ f63)
  (q64:MI K bz "row" "Library.row" oW f64)
  (q65:MI K bz "window" "Library.window" kJ f65)
  (q66:MI K bz "fix" "Library.fix" oX f66)
  (q67:MI K bz "move" "Library.move" nB f67)
  (q68:MI K bz "weight" "Library.weight" kK f68)
  (q69:DI K "first_reaching" kL f69)
  (q70:DI K "within" Cy f70)
  (q71:MI K eZ "hides" "Blots.hides" oY f71)
  (q72:MI K fQ "check_address" "Well.check_address" iL f72)
  (q73:MI K fQ "sign" "Well.sign" tK f73)
  (q74:MI K bz "veiled" "Library.veiled" iZ f74)
  (q75:MI K bz "text" "Library.text" nC f75)
  (q76:MI K bz "size" "Library.size" nE f76)
  (q77:DI K "_law_sign" tL f77)
  (q78:DI K "_law_text" oZ f78)
  (q79:DI K "_law_world" m6 f79)
  (q80:DI K "_law_keep" tM f80)
  (q81:DI K "_law_swap" tN f81)
  (q82:DI K "_law_spell" qz f82)
  (q83:DI K "_law_show" tO f83)
  (q84:DI K "_law_reached" nF f84)
  (q85:DI K "_law_pieces" o6 f85)
  (q86:DI K "_law_put" vK f86)
  (q87:DI K "_law_cut" vL f87)
  (q88:DI K "_law_weighed" nG f88)
  (q89:DI K "_law_row_of" o7 f89)
  (q90:DI K "_law_items_of" l5 f90)
  (q91:DI K "_law_fits" pA f91)
  (q92:DI K "_law_after" qA f92)
  (q93:MI K bz "back" "Library.back" rX f93)
  (q94:DI K "_law_done" tP f94)
  (q95:DI K "_law_ink_row" nH f95)
  (q96:DI K "_law_move_by" nI f96)
  (q97:DI K "_law_draw" tQ f97)
  (q98:DI K "_law_deed" tR f98)
  (q99:DI K "_law_pour" pB f99)
  (XS:DI K "_law_fresh" qB ahV)
  (XT:DI K "_law_begin" qC ahW)
  (XU:DI K "_law_read" tS ahX)
  (XW:DI K "_law_sheet_right" jv ahY)
  (XX:DI K "_law_seen" pC ahZ)
  (XY:DI K "law" Qg ah0)
  (z0:nsIn K mainGlobals "len"=some none)
  (z1:nsIn K mainGlobals "list"=some none)
  (z2:nsIn K mainGlobals "tuple"=some none)
  (z3:nsIn K mainGlobals "int"=some none)
  (z4:nsIn K mainGlobals "bool"=some none)
  (z5:nsIn K mainGlobals "str"=some none)
  (z6:nsIn K mainGlobals "range"=some none)
  (z7:nsIn K mainGlobals "zip"=some none)
  (z8:nsIn K mainGlobals "isinstance"=some none)
  (z9:nsIn K mainGlobals "sum"=some none)
  (z10:nsIn K mainGlobals "min"=some none)
  (z11:nsIn K mainGlobals "max"=some none)
  (z12:nsIn K mainGlobals "all"=some none)
  (rY:nsIn K mainGlobals "MOST_SHEETS"=some (some (.int 40 Ar)))
  (rZ:nsIn K mainGlobals "MOST_WEIGHT"=some (some (.int 200 As)))
  (En:nsIn K mainGlobals "HIDDEN"=some (some (.str "#" M7)))
  (uK:nsIn K mainGlobals "size_spans"=some (some (.ref f5)))
  (r9:nsIn K mainGlobals "shown_weave"=some (some (.ref f20)))
  (qD:nsIn K mainGlobals "weight_weave"=some (some (.ref f17)))
def Sy:Prop:=∀ {P:Program} {w:World} {K:Frag} {mg:Str->Option Value} {fa:Addr},Pm K mg fa->∃ fd:FuncData,(∀ (s:Shared) (v:Value),BindsTo s fd ⟨[v],[]⟩ [("_law_script",v)])/\∀ zt:Heap,K.In zt->zt.Ns mainGlobals mg->bw P w K mg zt cL 47 fa fd ["_law_script"] (M4 K)
theorem walk{l:PySem.W.OpenLaw}{q:Program}{Bo:List Str}{XP:(Str->Option Value)->Heap->Prop}{YP:World->Heap->Prop}{d:DefRec}{K:Params->Frag}(hn:l.most=some 63)(XO:d.params.defaults=[])
  (hY:∀ (w:World) (h:Heap),YP w h->(K w.params).In h)
  (F:∀ (w:World) (mg:Str->Option Value) (fa:Addr) (h:Heap),(K w.params).In h->h.Ns mainGlobals mg->mg d.name=some (.ref fa)->
   ∃ fd:FuncData,(∀ (s:Shared) (u:Value),BindsTo s fd ⟨[u],[]⟩ [("_law_script",u)])/\∀ zt:Heap,(K w.params).In zt->zt.Ns mainGlobals mg->bw l.prog w (K w.params) mg zt cL 47 fa fd ["_law_script"] (M4 (K w.params))) :
  PySem.W.WalkO q Bo XP YP l.row.toRowW d [] (λf vs=>PySem.call f vs) :=
 L2.Qd (n:=63) (k:=47) (x:="_law_script") (CX:=λ_=>cL) (sp:=λw=>M4 (K w.params)) hn (by decide) XO ⟨rfl,E,E⟩ hY F (λ_ _ a ns hl _ hS=>⟨a,ns,rfl,hS,hl,λ_=>rfl⟩) λ_ _ _ _ _ z=>z
end gA
namespace InkHd
open PySem.W Rows
set_option maxRecDepth 100000 in
set_option maxHeartbeats 0 in
theorem hd2(A:gA.Sy):PySem.Challenge.rw_inkroot_k38_rows_behind_deeds.Holds:=by
 refine hd_k38 ?_
 k_fill
 refine gA.walk (l:=PySem.Challenge.rw_inkroot_k38_rows_behind_deeds) rfl rfl (λw h Y=>kIn_of Y) ?F
 case F =>
  intro w mg fa h KX G XQ
  refine' A (.mk _ _ _ _ _ _ KX G XQ (.mk ..) _ _ (.mk ..) _ _ _ (.mk ..) _ (.mk ..) _ _ (.mk ..) _ (.mk ..) _ _ _ _ _ _ (.mk ..) (.mk ..) (.mk ..) (.mk ..) (.mk ..) (.mk ..) (.mk ..) (.mk ..) (.mk ..) (.mk ..) (.mk ..) (.mk ..) (.mk ..) (.mk ..) (.mk ..) (.mk ..) (.mk ..) (.mk ..) (.mk ..) (.mk ..) (.mk ..) (.mk ..) (.mk ..) (.mk ..) (.mk ..) (.mk ..) (.mk ..) (.mk ..) (.mk ..) (.mk ..) (.mk ..) (.mk ..) (.mk ..) (.mk ..) (.mk ..) (.mk ..) (.mk ..) (.mk ..) (.mk ..) (.mk ..) (.mk ..) (.mk ..) (.mk ..) (.mk ..) (.mk ..) (.mk ..) (.mk ..) (.mk ..) (.mk ..) (.mk ..) (.mk ..) (.mk ..) (.mk ..) (.mk ..) (.mk ..) (.mk ..) (.mk ..) (.mk ..) (.mk ..) (.mk ..) (.mk ..) (.mk ..) (.mk ..) (.mk ..) (.mk ..) (.mk ..) (.mk ..) (.mk ..) (.mk ..) (.mk ..) (.mk ..) (.mk ..) (.mk ..) (.mk ..) (.mk ..) (.mk ..) (.mk ..) (.mk ..) (.mk ..) (.mk ..) (.mk ..) (.mk ..) (.mk ..) (.mk ..) (.mk ..) (.mk ..) (.mk ..) (.mk ..) (.mk ..) (.mk ..) (.mk ..) (.mk ..) (.mk ..) (.mk ..) (.mk ..) (.mk ..) (.mk ..) (.mk ..) (.mk ..) (.mk ..) (.mk ..) (.mk ..) (.mk ..) (.mk ..) (.mk ..) (.mk ..) _ _ _ _ _ _ _ _ _ _ _ _ _ _ _ _ _ _ _)
  all_goals try first|k_is|k_exc|kts_exm
end InkHd
namespace cZ
open Spec Rows L2
section
variable {X:Cx}
theorem dR:jZ X (.builtin "isinstance") (λxs H Q=>∃ x T t b,xs=[x,.ty T]/\j0 X.K H x t/\kitOne X.K t (.type T)=some b/\Q (.bl b) H):=by
 intro ao s σ H xs us Q I r h;obtain⟨x,T,t,b,rfl,ty,e,q⟩:=h;obtain⟨u,v,rfl,rx,rv⟩:=r.two;cases (show v=Value.type T from rv);exact Kd I rx ty e λtk=>⟨.bl b,H,I.tok tk,rfl,q⟩
theorem pP{x:Str}{T:String}(hg:Gl X x)(hm:X.mg x=none)(hv:bootBuiltins x=some (.type T))(hn:x≠"__name__":=by decide)(hd:(x == ("__debug__":Str))=false:=by decide):PE X (.Name x pos) (tC (.ty T)) :=
 PN hg hm hv rfl hn hd
end
theorem Qh{X:Cx}{σ:L2.St}{H:Hp}{s:Shared}{h':Heap}{t':Nat}{ch:List Addr}(I:Inv X ao σ H s)(k:∀ b o,b∉ch->s.heap.get? b=some o->h'.get? b=some o)
  (hf:∀ b∈ch,oF X ao H b):Inv X ao σ H { s with heap:=h',toks:=t' }:=by
 have So:∀ b u,H b=some u->b∉ch:=λb u e z=>by rw[(hf b z).1]at e;cases e
 refine I.step (g':=s.gens) (d':=s.drawn) (ch:=ch) (λb hb=>?_) (λb o _ _ hc e _=>k b o hc e) (λb o _ _ hc e _=>⟨o.slots,k b o hc e⟩) (λ_ _ _ _ n=>n) (λb o hc e=>⟨o,k b o hc e⟩) (λ_ _ e=>e) (λ_ _ _ e=>e) (λb ps e=>⟨#[],by rw[e];simp⟩) (λm hm=>?_) (λb u e=>?_) I.bare
 ·obtain⟨_,f1,_,f3,f4,f5⟩:=hf b hb;exact⟨f3,f1,f4,f5⟩
 ·obtain⟨o,es,ep,ho,r⟩:=hm;exact⟨o,es,ep,k _ o (λz=>(hf _ z).2.1 rfl) ho,r⟩
 ·refine (I.hok b u e).stay (λc v hc q=>k c v ?_ q) (λ_ q=>q) λ_ _ q=>q;rcases hc with z|z
  ·rw[z];exact So b u e
  ·exact So c _ z
theorem XZ{X:Cx}{σ:L2.St}{H:Hp}{s:Shared}{h':Heap}{t':Nat}{ch:List Addr}{p:Addr}{xs:List V}{us:List Value}(I:Inv X ao σ H s)(k:∀ b o,b∉ch->s.heap.get? b=some o->h'.get? b=some o)
  (hf:∀ b∈ch,oF X ao H b) (hp:s.heap.objs.size<=p) (hz:xs.length<=sizeLine) (rv:cu xs us) (ht:IsTup h' p us.toArray):Inv X ao σ (aP H p (.tup xs)) { s with heap:=h',toks:=t' }:=by
 have hn:H p=none:=I.hok.fresh hp;have So:∀ b u,H b=some u->b∉ch:=λb u e z=>by rw[(hf b z).1]at e;cases e
 have nep:∀ b o,s.heap.get? b=some o->b≠p:=λb o e z=>by subst z;exact absurd (qh (Heap.lt_size e) hp) (Nat.lt_irrefl _)
 refine I.step (g':=s.gens) (d':=s.drawn) (ch:=ch) (λb hb=>?_) (λb o _ _ hc e _=>k b o hc e) (λb o _ _ hc e _=>⟨o.slots,k b o hc e⟩) (λb o _ e n=>by rw[aL (nep b o e)];exact n) (λb o hc e=>⟨o,k b o hc e⟩) (λb ys e=>by rw[aL (aA e hn)];exact e) (λb _ _ e=>by rw[aL (aA e hn)];exact e) (λb ps e=>⟨#[],by rw[aL (aA e hn),e];simp⟩) (λm hm=>?_) (λb u e=>?_) I.bare
 ·obtain⟨_,f1,_,f3,f4,f5⟩:=hf b hb;exact⟨f3,f1,f4,f5⟩
 ·obtain⟨o,es,ep,ho,r⟩:=hm;exact⟨o,es,ep,k _ o (λz=>(hf _ z).2.1 rfl) ho,r⟩
 ·by_cases hb:b=p
  ·subst hb;rw[af]at e;cases e;exact⟨hz,us,rv,ht⟩
  ·rw[aL hb]at e;refine (I.hok b u e).stay (λc v hc q=>k c v ?_ q) (λc q=>by rw[aL (aA q hn)];exact q) λc ys q=>by rw[aL (aA q hn)];exact q
   rcases hc with z|z
   ·rw[z];exact So b u e
   ·exact So c _ z
def Gu(k:Bool)(h:Heap)(i a:Addr)(n:Nat):Prop:=match k with
 | true=>h.IsListIter i a n
 | false=>h.IsTupleIter i a n
def Ak(k:Bool)(h:Heap)(a:Addr)(xs:Array Value):Prop:=match k with
 | true=>h.IsList a xs
 | false=>h.IsTuple a xs
theorem Gu.at{k:Bool}{h h':Heap}{i a:Addr}{n:Nat}(x:Gu k h i a n)(e:∀ o,h.get? i=some o->h'.get? i=some o):Gu k h' i a n:=by
 cases k
 ·obtain⟨o,ho,r⟩:=x;exact⟨o,e o ho,r⟩
 ·obtain⟨o,ho,r⟩:=x;exact⟨o,e o ho,r⟩
theorem Ak.at{k:Bool}{h h':Heap}{a:Addr}{xs:Array Value}(x:Ak k h a xs)(e:∀ o,h.get? a=some o->h'.get? a=some o):Ak k h' a xs:=by
 cases k
 ·obtain⟨o,ho,r⟩:=x;exact⟨o,e o ho,r⟩
 ·obtain⟨o,ho,r⟩:=x;exact⟨o,e o ho,r⟩
theorem Gu.obj{k:Bool}{h:Heap}{i a:Addr}{n:Nat}(x:Gu k h i a n):∃ o,h.get? i=some o/\∀ v,o.data≠.cell v:=by
 cases k
 ·obtain⟨o,ho,_,d⟩:=x;exact⟨o,ho,λv z=>by rw[d]at z;cases z⟩
 ·obtain⟨o,ho,_,d⟩:=x;exact⟨o,ho,λv z=>by rw[d]at z;cases z⟩
section
variable {prog:Program} {w:World} {A:Around} {E:Value->Shared->Prop} {s:Shared}
theorem G0{it t:Addr}{i:Nat}{items:Array Value}{x:Value}{Q:Value->Shared->Prop}(tU:s.heap.IsTupleIter it t i)(ht:s.heap.IsTuple t items)(hx:items[i]?=some x)
  (hQ:∀ h',h'.IsTupleIter it t (i+1)->Heap.SameBut it s.heap h'->Q x { s with heap:=h' }):wpAny (model prog w) A (Builtin.SmallTypes.nextOf (.ref it)) Q E s:=by
 obtain⟨o,ho,hc,hd⟩:=id tU;obtain⟨ol,hol,_,nl,Qi⟩:=ht;unfold Builtin.SmallTypes.nextOf;refine wpAny_bind (wpAny_callSpecial?_slot (name:=Str.ofString "__next__") tU.typeIs F.slot_tuple_iterator_next (wpAny_call_entry F.slot_tuple_iterator_next tU.typeIs F.entry_tuple_iterator_next ?_ (F.args_tuple_iterator_next_1 _)));show wpAny _ _ (field (.ref it) 0 >>= _) _ _ s;refine wpAny_bind (wpAny_field ho hd (x:=.ref t) rfl ?_);show wpAny _ _ (if (Value.ref t == Value.none)=true then _ else _) _ _ s;rw[if_neg (show ¬ ((Value.ref t == Value.none)=true) from gK)];show wpAny _ _ (field (.ref it) 1 >>= _) _ _ s;refine wpAny_bind (wpAny_field ho hd (x:=.int i 0) rfl ?_);show wpAny _ _ (seqItems? (.ref t) >>= _) _ _ s;refine wpAny_bind (wpAny_seqItems hol Qi ?_);simp only[Int.toNat_natCast,hx];refine wpAny_bind (wpAny_setField ho hd (by simp) (wpAny_pure ⟨x,rfl,wpAny_pure (hQ _ ?_ (Heap.SameBut.update ..))⟩));exists _,Heap.get?_update_self _ ho (Obj.isFreed_of_fields (Obj.data_mapFields hd _)),(Obj.cls_mapFields ..).trans hc;rw[Obj.data_mapFields hd];simp[rawInt]
theorem Kn{it t:Addr}{i:Nat}{items:Array Value}{Q:Value->Shared->Prop}(hh:A.handled=none)(tU:s.heap.IsTupleIter it t i)(ht:s.heap.IsTuple t items)(hx:items[i]?=none)
  (hE:∀ h' e,Heap.ExtBut it s.heap h'->(∃ o,h'.get? e=some o/\o.cls=.type "StopIteration")->E (.ref e) { s with heap:=h' }):wpAny (model prog w) A (Builtin.SmallTypes.nextOf (.ref it)) Q E s:=by
 obtain⟨o,ho,hc,hd⟩:=id tU;obtain⟨ol,hol,_,nl,Qi⟩:=ht;unfold Builtin.SmallTypes.nextOf;refine wpAny_bind (wpAny_callSpecial?_slot (name:=Str.ofString "__next__") tU.typeIs F.slot_tuple_iterator_next (wpAny_call_entry F.slot_tuple_iterator_next tU.typeIs F.entry_tuple_iterator_next ?_ (F.args_tuple_iterator_next_1 _)));show wpAny _ _ (field (.ref it) 0 >>= _) _ _ s;refine wpAny_bind (wpAny_field ho hd (x:=.ref t) rfl ?_);show wpAny _ _ (if (Value.ref t == Value.none)=true then _ else _) _ _ s;rw[if_neg (show ¬ ((Value.ref t == Value.none)=true) from gK)];show wpAny _ _ (field (.ref it) 1 >>= _) _ _ s;refine wpAny_bind (wpAny_field ho hd (x:=.int i 0) rfl ?_);show wpAny _ _ (seqItems? (.ref t) >>= _) _ _ s;refine wpAny_bind (wpAny_seqItems hol Qi ?_);simp only[Int.toNat_natCast,hx];refine wpAny_bind (wpAny_rule (wpAny_bind (wpAny_setField ho hd (by simp) ?_)));show wpAny _ _ (newExc (.type "StopIteration") [] >>= _) _ _ _;refine wpAny_bind ?_;simp only[newExc,newTuple];refine wpAny_bind (wpAny_newObj_type ?_ (by size_fits))
 refine wpAny_bind (m:=firstArgMember _ _) (wpAny_of_eq (a:=Value.none) (by first|rfl|(simp only[firstArgMember];rfl)) ?_)
 refine wpAny_newObj_type ?_ (by size_fits);simp only[raiseNew];refine wpAny_bind (wpAny_handled ?_)
 first|rw[show A.in1.handled=none from hh]|rw[hh]
 refine wpAny_bind (wpAny_pure (wpAny_throw ?_));exact hE _ _ (((Heap.SameBut.update ..).extBut.push _).push _) ⟨_,Heap.get?_push_size _ rfl,rfl⟩
theorem tV{k:Bool}{it t:Addr}{i:Nat}{items:Array Value}{x:Value}{Q:Value->Shared->Prop}(tU:Gu k s.heap it t i)(ht:Ak k s.heap t items)(hx:items[i]?=some x)
  (hQ:∀ h',Gu k h' it t (i+1)->Heap.SameBut it s.heap h'->Q x { s with heap:=h' }):wpAny (model prog w) A (Builtin.SmallTypes.nextOf (.ref it)) Q E s:=by
 cases k
 ·exact G0 tU ht hx hQ
 ·exact wpAny_nextOf_list_item tU ht hx hQ
theorem Bt{k:Bool}{it t:Addr}{i:Nat}{items:Array Value}{Q:Value->Shared->Prop}(hh:A.handled=none)(tU:Gu k s.heap it t i)(ht:Ak k s.heap t items)(hx:items[i]?=none)
  (hE:∀ h' e,Heap.ExtBut it s.heap h'->(∃ o,h'.get? e=some o/\o.cls=.type "StopIteration")->E (.ref e) { s with heap:=h' }):wpAny (model prog w) A (Builtin.SmallTypes.nextOf (.ref it)) Q E s:=by
 cases k
 ·exact Kn hh tU ht hx hE
 ·exact wpAny_nextOf_list_end hh tU ht hx hE
abbrev Bu(k:Bool)(l:Addr):Obj:={ cls:=.type (if k then "list_iterator" else "tuple_iterator"),data:=.fields #[.ref l,.int 0 0] }
theorem Sz{k:Bool}{xs:Array Value}{Q:Value->Shared->Prop}(h:Ak k s.heap l xs)(hQ:Q (.ref s.heap.objs.size) { s with heap:=s.heap.push (Bu k l) }):wpAny (model prog w) A (pyIter (.ref l)) Q E s:=by
 cases k
 ·exact wpAny_pyIter_tuple h hQ
 ·exact wpAny_pyIter_list h hQ
structure Bv(k:Bool)(h:Heap)(z TI TO i1 i2 l1 l2:Addr)(n:Nat):Prop where
 z:IsZip h z TI TO .none
 ti:IsPair h TI (.ref i1) (.ref i2)
 to:∃ a b,IsPair h TO a b
 i1:Gu k h i1 l1 n
 i2:Gu k h i2 l2 n
theorem Ko{k:Bool}{z TI TO i1 i2 l1 l2:Addr}{n:Nat}{xs ys:Array Value}{x y:Value}{Q:Value->Shared->Prop}(D:ZipApart z TI TO i1 i2 l1 l2)(st:Bv k s.heap z TI TO i1 i2 l1 l2 n)
  (Eo:Ak k s.heap l1 xs) (Bm:Ak k s.heap l2 ys) (hx:xs[n]?=some x) (hy:ys[n]?=some y)
  (hQ:∀ h',IsZip h' z TI TO (rawInt s.heap.objs.size)->IsPair h' TO x y->Gu k h' i1 l1 (n+1)->Gu k h' i2 l2 (n+1)->IsPair h' s.heap.objs.size x y->
   (∀ c o,c≠z->c≠TO->c≠i1->c≠i2->s.heap.get? c=some o->h'.get? c=some o)->Q (.ref s.heap.objs.size) { s with heap:=h' }) :
  wpAny (model prog w) A (Builtin.«zip.__next__» ⟨[.ref z],[]⟩) (λkq s'=>∃ v,kq=.done (.ret v)/\Q v s') E s:=by
 obtain⟨hz,hTI,⟨a,b,hTO⟩,h1,h2⟩:=st;show wpAny _ _ (field (.ref z) 2 >>= _) _ _ _;refine wpAny_bind (wpAny_field hz rfl (x:=.bool false) rfl ?_);show wpAny _ _ (field (.ref z) 3 >>= _) _ _ _;refine wpAny_bind (wpAny_field hz rfl (x:=.ref TI) rfl (wpAny_bind (wpAny_seqItems hTI rfl ?_)));show wpAny _ _ (Builtin.SmallTypes.ownedTupleIsFree (.ref z) >>= _) _ _ _;refine wpAny_bind ?_;unfold Builtin.SmallTypes.ownedTupleIsFree;refine wpAny_bind (wpAny_field hz rfl (x:=.none) rfl (wpAny_pure ?_));simp only[if_true];refine wpAny_bind (wpAny_rule (wpAny_bind (wpAny_field hz rfl (x:=.ref TO) rfl (wpAny_bind (wpAny_setField_rec hz (by simp) λg1 z1 c1=>?_)))))
 replace z1:IsZip g1 z TI TO .ellipsis:=z1
 refine wpAny_bind ?_;simp only[List.zipIdx_cons,List.zipIdx_nil,List.forIn_cons,List.forIn_nil];refine wpAny_bind (wpAny_bind (wpAny_onRaise ?_));show wpAny _ _ (Builtin.SmallTypes.nextOf (.ref i1) >>= _) _ _ _;refine wpAny_bind (tV (h1.at λo e=>c1.extBut _ _ D.i1z e) (Eo.at λo e=>c1.extBut _ _ D.l1z e) hx λg2 h12 c2=>wpAny_pure ?_);have o2:IsPair g2 TO a b:=c2.extBut _ _ D.TOi1 (c1.extBut _ _ D.TOz hTO);refine wpAny_bind (wpAny_seqItems o2 rfl (wpAny_bind (wpAny_updateSeq_pair o2 λg3 o3 c3=>?_)))
 replace o3:IsPair g3 TO x b:=o3
 refine wpAny_bind (wpAny_letGo (wpAny_pure (wpAny_bind (wpAny_bind (wpAny_onRaise ?_)))));show wpAny _ _ (Builtin.SmallTypes.nextOf (.ref i2) >>= _) _ _ _;refine wpAny_bind (tV (((h2.at λo e=>c1.extBut _ _ D.i2z e).at λo e=>c2.extBut _ _ D.i12.symm e).at λo e=>c3.extBut _ _ D.TOi2.symm e) (((Bm.at λo e=>c1.extBut _ _ D.l2z e).at λo e=>c2.extBut _ _ D.l2i1 e).at λo e=>c3.extBut _ _ D.l2TO e) hy λg4 h24 c4=>wpAny_pure ?_);have o4:IsPair g4 TO x b:=c4.extBut _ _ D.TOi2 o3;refine wpAny_bind (wpAny_seqItems o4 rfl (wpAny_bind (wpAny_updateSeq_pair o4 λg5 o5 c5=>?_)))
 replace o5:IsPair g5 TO x y:=o5
 refine wpAny_bind (wpAny_letGo (wpAny_pure (wpAny_pure (wpAny_bind (wpAny_seqItems o5 rfl (wpAny_bind (wpAny_newTuple ?_)))))));have sz:g5.objs.size=s.heap.objs.size:=by rw[c5.1,c4.1,c3.1,c2.1,c1.1]
 have z5:IsZip g5 z TI TO .ellipsis:=c5.extBut _ _ D.TOz.symm (c4.extBut _ _ D.i2z.symm (c3.extBut _ _ D.TOz.symm (c2.extBut _ _ D.i1z.symm z1)));have k5:∀ c o,c≠z->c≠TO->c≠i1->c≠i2->s.heap.get? c=some o->g5.get? c=some o:=λc o n1 n2 n3 n4 e=>c5.extBut _ _ n2 (c4.extBut _ _ n4 (c3.extBut _ _ n2 (c2.extBut _ _ n3 (c1.extBut _ _ n1 e))));have h15:Gu k g5 i1 l1 (n+1):=((h12.at λo e=>c3.extBut _ _ D.TOi1.symm e).at λo e=>c4.extBut _ _ D.i12 e).at λo e=>c5.extBut _ _ D.TOi1.symm e;have h25:Gu k g5 i2 l2 (n+1):=h24.at λo e=>c5.extBut _ _ D.TOi2.symm e;have zlt:z<g5.objs.size:=Heap.lt_size z5;show wpAny _ _ (Builtin.SmallTypes.ownedTupleHandOut (.ref z) (.ref g5.objs.size) >>= _) _ _ _;refine wpAny_bind ?_;unfold Builtin.SmallTypes.ownedTupleHandOut;have z6:IsZip (g5.push { cls:=.type "tuple",data:=.seq #[x,y] }) z TI TO .ellipsis:=Heap.get?_push_of_some _ z5;refine wpAny_bind (wpAny_setField_rec z6 (by simp) λg7 z7 c7=>?_)
 replace z7:IsZip g7 z TI TO (rawInt g5.objs.size):=z7
 refine wpAny_setField_rec z7 (by simp) λg8 z8 c8=>?_
 replace z8:IsZip g8 z TI TO (rawInt g5.objs.size):=z8
 have up:∀ c o,c≠z->g5.get? c=some o->g8.get? c=some o:=λc o n1 e=>c8.extBut _ _ n1 (c7.extBut _ _ n1 (Heap.get?_push_of_some _ e));have t8:IsPair g8 g5.objs.size x y:=c8.extBut _ _ (Nat.ne_of_gt zlt) (c7.extBut _ _ (Nat.ne_of_gt zlt) (Heap.get?_push_size _ rfl));rw[sz]at z8 t8;refine wpAny_pure ⟨Y,?_⟩;show Q (.ref g5.objs.size) _;rw[sz];exact hQ g8 z8 (up _ _ D.TOz o5) (h15.at λo e=>up _ o D.i1z e) (h25.at λo e=>up _ o D.i2z e) t8 λc o n1 n2 n3 n4 e=>up c o n1 (k5 c o n1 n2 n3 n4 e)
theorem Nb{k:Bool}{z TI TO i1 i2 l1 l2:Addr}{n:Nat}{xs ys:Array Value}{Q:Fin->Shared->Prop}(hh:A.handled=none)(D:ZipApart z TI TO i1 i2 l1 l2)(st:Bv k s.heap z TI TO i1 i2 l1 l2 n)
  (Eo:Ak k s.heap l1 xs) (Bm:Ak k s.heap l2 ys) (Uz:xs[n]?=none\/ys[n]?=none)
  (hE:∀ h' e,(∀ c o,c≠z->c≠TO->c≠i1->c≠i2->s.heap.get? c=some o->h'.get? c=some o)->(∃ o,h'.get? e=some o/\o.cls=.type "StopIteration")->E (.ref e) { s with heap:=h' }) :
  wpAny (model prog w) A (Builtin.«zip.__next__» ⟨[.ref z],[]⟩) Q E s:=by
 obtain⟨hz,hTI,⟨a,b,hTO⟩,h1,h2⟩:=st;show wpAny _ _ (field (.ref z) 2 >>= _) _ _ _;refine wpAny_bind (wpAny_field hz rfl (x:=.bool false) rfl ?_);show wpAny _ _ (field (.ref z) 3 >>= _) _ _ _;refine wpAny_bind (wpAny_field hz rfl (x:=.ref TI) rfl (wpAny_bind (wpAny_seqItems hTI rfl ?_)));show wpAny _ _ (Builtin.SmallTypes.ownedTupleIsFree (.ref z) >>= _) _ _ _;refine wpAny_bind ?_;unfold Builtin.SmallTypes.ownedTupleIsFree;refine wpAny_bind (wpAny_field hz rfl (x:=.none) rfl (wpAny_pure ?_));simp only[if_true];refine wpAny_bind (wpAny_rule (wpAny_bind (wpAny_field hz rfl (x:=.ref TO) rfl (wpAny_bind (wpAny_setField_rec hz (by simp) λg1 z1 c1=>?_)))))
 replace z1:IsZip g1 z TI TO .ellipsis:=z1
 refine wpAny_bind ?_;simp only[List.zipIdx_cons,List.zipIdx_nil,List.forIn_cons,List.forIn_nil];refine wpAny_bind (wpAny_bind (wpAny_onRaise ?_));show wpAny _ _ (Builtin.SmallTypes.nextOf (.ref i1) >>= _) _ _ _
 cases hx:xs[n]? with
 | none =>
  refine wpAny_bind (Bt hh (h1.at λo e=>c1.extBut _ _ D.i1z e) (Eo.at λo e=>c1.extBut _ _ D.l1z e) hx λg2 e c2 he=>?_);obtain⟨oe,UA,hce⟩:=he;have z2:IsZip g2 z TI TO .ellipsis:=c2 _ _ D.i1z.symm z1;have hez:e≠z:=λx=>by subst x;rw[z2]at UA;cases UA;simp at hce
  exact wpAny_setField_rec z2 (by simp) λg3 _ c3=>hE g3 e (λc o n1 _ n3 _ x=>c3.extBut _ _ n1 (c2 _ _ n3 (c1.extBut _ _ n1 x))) ⟨oe,c3.extBut _ _ hez UA,hce⟩
 | some x =>
  have hy:ys[n]?=none:=by rcases Uz with h|h;(rw[hx]at h;cases h);exact h
  refine wpAny_bind (tV (h1.at λo e=>c1.extBut _ _ D.i1z e) (Eo.at λo e=>c1.extBut _ _ D.l1z e) hx λg2 h12 c2=>wpAny_pure ?_);have o2:IsPair g2 TO a b:=c2.extBut _ _ D.TOi1 (c1.extBut _ _ D.TOz hTO);refine wpAny_bind (wpAny_seqItems o2 rfl (wpAny_bind (wpAny_updateSeq_pair o2 λg3 o3 c3=>?_)));refine wpAny_bind (wpAny_letGo (wpAny_pure (wpAny_bind (wpAny_bind (wpAny_onRaise ?_)))));show wpAny _ _ (Builtin.SmallTypes.nextOf (.ref i2) >>= _) _ _ _;refine wpAny_bind (Bt hh (((h2.at λo e=>c1.extBut _ _ D.i2z e).at λo e=>c2.extBut _ _ D.i12.symm e).at λo e=>c3.extBut _ _ D.TOi2.symm e) (((Bm.at λo e=>c1.extBut _ _ D.l2z e).at λo e=>c2.extBut _ _ D.l2i1 e).at λo e=>c3.extBut _ _ D.l2TO e) hy λg4 e c4 he=>?_);obtain⟨oe,UA,hce⟩:=he;have z4:IsZip g4 z TI TO .ellipsis:=c4 _ _ D.i2z.symm (c3.extBut _ _ D.TOz.symm (c2.extBut _ _ D.i1z.symm z1));have hez:e≠z:=λx=>by subst x;rw[z4]at UA;cases UA;simp at hce
  exact wpAny_setField_rec z4 (by simp) λg5 _ c5=>hE g5 e (λc o n1 n2 n3 n4 x=>c5.extBut _ _ n1 (c4 _ _ n4 (c3.extBut _ _ n2 (c2.extBut _ _ n3 (c1.extBut _ _ n1 x))))) ⟨oe,c5.extBut _ _ hez UA,hce⟩
theorem G1{k:Bool}{z TI TO i1 i2 l1 l2:Addr}{n:Nat}{xs ys:Array Value}{x y:Value}{Q:Option Value->Shared->Prop}(D:ZipApart z TI TO i1 i2 l1 l2)(st:Bv k s.heap z TI TO i1 i2 l1 l2 n)
  (Eo:Ak k s.heap l1 xs) (Bm:Ak k s.heap l2 ys) (hx:xs[n]?=some x) (hy:ys[n]?=some y)
  (hQ:∀ h',IsZip h' z TI TO (rawInt s.heap.objs.size)->IsPair h' TO x y->Gu k h' i1 l1 (n+1)->Gu k h' i2 l2 (n+1)->IsPair h' s.heap.objs.size x y->
   (∀ c o,c≠z->c≠TO->c≠i1->c≠i2->s.heap.get? c=some o->h'.get? c=some o)->Q (some (.ref s.heap.objs.size)) { s with heap:=h' }):wpAny (model prog w) A (pyNext (.ref z)) Q E s:=by
 have hT:s.TypeIs (.ref z) "zip":=⟨_,st.z,rfl⟩;unfold pyNext;exact wpAny_bind (wpAny_attempt (wpAny_callSpecial?_slot (name:=Str.ofString "__next__") hT F.slot_zip_next (wpAny_call_entry F.slot_zip_next hT F.entry_zip_next (Ko D st Eo Bm hx hy λh' a1 a2 a3 a4 a5 a7=>wpAny_pure (hQ h' a1 a2 a3 a4 a5 a7)) (F.args_zip_next_1 _))))
theorem Kp{k:Bool}{z TI TO i1 i2 l1 l2:Addr}{n:Nat}{xs ys:Array Value}{Q:Option Value->Shared->Prop}(hh:A.handled=none)(D:ZipApart z TI TO i1 i2 l1 l2)(st:Bv k s.heap z TI TO i1 i2 l1 l2 n)
  (Eo:Ak k s.heap l1 xs) (Bm:Ak k s.heap l2 ys) (Uz:xs[n]?=none\/ys[n]?=none)
  (hQ:∀ h',(∀ c o,c≠z->c≠TO->c≠i1->c≠i2->s.heap.get? c=some o->h'.get? c=some o)->Q none { s with heap:=h' }):wpAny (model prog w) A (pyNext (.ref z)) Q E s:=by
 have hT:s.TypeIs (.ref z) "zip":=⟨_,st.z,rfl⟩;unfold pyNext;refine wpAny_bind (wpAny_attempt (wpAny_callSpecial?_slot (name:=Str.ofString "__next__") hT F.slot_zip_next (wpAny_call_entry F.slot_zip_next hT F.entry_zip_next (Nb hh D st Eo Bm Uz λh' e hk he=>?_) (F.args_zip_next_1 _))));obtain⟨o,ho,hc⟩:=he;exact wpAny_bind (wpAny_isInstance (T:="StopIteration") (b:=true) ⟨o,ho,hc⟩ isSubtype_stop (wpAny_pure (hQ _ hk)))
end
abbrev zH1(k:Bool)(h:Heap)(l1:Addr):Heap:=h.push (Bu k l1)
abbrev zH2(k:Bool)(h:Heap)(l1 l2:Addr):Heap:=(zH1 k h l1).push (Bu k l2)
abbrev zH3(k:Bool)(h:Heap)(l1 l2:Addr):Heap:=(zH2 k h l1 l2).push { cls:=.type "tuple",data:=.seq #[.ref h.objs.size,.ref (zH1 k h l1).objs.size] }
abbrev zH4(k:Bool)(h:Heap)(l1 l2:Addr):Heap:=(zH3 k h l1 l2).push { cls:=.type "tuple",data:=.seq #[.none,.none] }
abbrev Wx(k:Bool)(h:Heap)(l1 l2:Addr):Heap:=(zH4 k h l1 l2).push { cls:=.type "zip",data:=.fields #[.none,.bool false,.bool false,.ref (zH2 k h l1 l2).objs.size,.ref (zH3 k h l1 l2).objs.size] }
theorem G2(k:Bool)(l1 l2:Addr)(xs ys:Array Value) :
  Meets (Builtin.«zip.__new__» ⟨[.type "zip",.ref l1,.ref l2],[]⟩) (λ_ R s=>Ak k s.heap l1 xs/\Ak k s.heap l2 ys/\R (.ok (.ret (.ref (zH4 k s.heap l1 l2).objs.size))) { s with heap:=Wx k s.heap l1 l2 }) :=
 .of_wp λprog w A R s h=>by
  obtain⟨hp,g,d,tk,os⟩:=s;obtain⟨Eo,Bm,h⟩:=h;have hsub:=sub_zip;have hL1:Ak k (Shared.heap ⟨hp,g,d,tk,os⟩) l1 xs:=Eo;have hL2:Ak k (Shared.heap ⟨hp.push (Bu k l1),g,d,tk,os⟩) l2 ys:=Bm.at λo e=>Heap.get?_push_of_some _ e
  wp_walk using Sz hL1,Sz hL2
  exact⟨Y,h⟩
section
variable {prog:Program} {w:World} {A:Around} {E:Value->Shared->Prop} {s:Shared}
theorem Kq{k:Bool}{l1 l2:Addr}{xs ys:Array Value}{Q:Value->Shared->Prop}(Eo:Ak k s.heap l1 xs)(Bm:Ak k s.heap l2 ys)
  (h:∀ h',Bv k h' (s.heap.objs.size+4) (s.heap.objs.size+2) (s.heap.objs.size+3) s.heap.objs.size (s.heap.objs.size+1) l1 l2 0->(∀ c o,s.heap.get? c=some o->h'.get? c=some o)->Q (.ref (s.heap.objs.size+4)) { s with heap:=h' }) :
  wpAny (model prog w) A (call (.type "zip") [.ref l1,.ref l2]) Q E s:=by
 refine callType_new F.called_zip (by decide) (F.typeCall_zip_2 _ _) (F.newCall_zip_2 _ _) (λobj=>F.args_object_init_3 obj _ _) F.entry_zip_new (G2 k l1 l2 xs ys) ⟨Eo,Bm,?_⟩;have z1:(zH1 k s.heap l1).objs.size=s.heap.objs.size+1:=Heap.size_push ..;have z2:(zH2 k s.heap l1 l2).objs.size=s.heap.objs.size+2:=by rw[Heap.size_push,z1]
 have z3:(zH3 k s.heap l1 l2).objs.size=s.heap.objs.size+3:=by rw[Heap.size_push,z2]
 have z4:(zH4 k s.heap l1 l2).objs.size=s.heap.objs.size+4:=by rw[Heap.size_push,z3]
 have g5:(Wx k s.heap l1 l2).get? (zH4 k s.heap l1 l2).objs.size=some _:=Heap.get?_push_size _ rfl;have g4:(Wx k s.heap l1 l2).get? (zH3 k s.heap l1 l2).objs.size=some _:=Heap.get?_push_of_some _ (Heap.get?_push_size _ rfl);have g3:(Wx k s.heap l1 l2).get? (zH2 k s.heap l1 l2).objs.size=some _:=Heap.get?_push_of_some _ (Heap.get?_push_of_some _ (Heap.get?_push_size _ rfl));have g2:(Wx k s.heap l1 l2).get? (zH1 k s.heap l1).objs.size=some (Bu k l2):=Heap.get?_push_of_some _ (Heap.get?_push_of_some _ (Heap.get?_push_of_some _ (Heap.get?_push_size _ rfl)));have g1:(Wx k s.heap l1 l2).get? s.heap.objs.size=some (Bu k l1):=Heap.get?_push_of_some _ (Heap.get?_push_of_some _ (Heap.get?_push_of_some _ (Heap.get?_push_of_some _ (Heap.get?_push_size _ rfl))));show _/\_;rw[z2,z3,z4]at g5;rw[z1,z2]at g3;rw[z3]at g4;rw[z1]at g2;rw[z4];refine⟨⟨_,g5,rfl⟩,h _ ⟨g5,g3,⟨P,g4⟩,?_,?_⟩ λc o x=>Heap.get?_push_of_some _ (Heap.get?_push_of_some _ (Heap.get?_push_of_some _ (Heap.get?_push_of_some _ (Heap.get?_push_of_some _ x))))⟩
 ·cases k
  ·exact⟨_,g1,V⟩
  ·exact⟨_,g1,V⟩
 ·cases k
  ·exact⟨_,g2,V⟩
  ·exact⟨_,g2,V⟩
end
def Jk(K:Frag)(k:Bool)(H:Hp)(a:Addr)(xs:List V):Prop:=match k with
 | true=>bI K H a xs
 | false=>dH K H a xs
theorem vM{X:Cx}{σ:L2.St}{H:Hp}{s:Shared}{k:Bool}{a:Addr}{xs:List V}(I:Inv X ao σ H s)(h:Jk X.K k H a xs):∃ aN:List Value,cu xs aN/\Ak k s.heap a aN.toArray/\xs.length<=sizeLine:=by
 cases k
 ·obtain⟨aN,r,p,z⟩:=I.tuple h;exact⟨aN,r,p,z⟩
 ·obtain⟨aN,r,p,z⟩:=I.list h;exact⟨aN,r,p.isList,z⟩
theorem Jl{X:Cx}{σ:L2.St}{H:Hp}{s:Shared}{k:Bool}{a:Addr}{xs ys:List V}(I:Inv X ao σ H s)(h:Jk X.K k H a xs)(h':Jk X.K k H a ys):xs=ys:=by
 cases k
 ·exact I.Bc h h'
 ·exact I.Ec h h'
theorem Nc{k:Bool}{h:Heap}{a:Addr}{xs:Array Value}(x:Ak k h a xs):a<h.objs.size:=by
 cases k
 ·obtain⟨o,ho,_⟩:=x;exact Heap.lt_size ho
 ·obtain⟨o,ho,_⟩:=x;exact Heap.lt_size ho
def X0(K:Frag)(k:Bool)(a1 a2:Addr):It :=
 ⟨λi H=>∃ xs ys x y,Jk K k H a1 xs/\Jk K k H a2 ys/\xs[i]?=some x/\ys[i]?=some y,λi H v H'=>∃ p x y,H p=none/\v=.ref p/\H'=aP H p (.tup [x,y])/\(∀ xs,Jk K k H a1 xs->xs[i]?=some x)/\∀ ys,Jk K k H a2 ys->ys[i]?=some y,λi H=>∃ xs ys,Jk K k H a1 xs/\Jk K k H a2 ys/\(xs.length<=i\/ys.length<=i)⟩
theorem Nd{P:Program}{w:World}{K:Frag}{x1:Nat}{k:Bool}{z TI TO i1 i2 l1 l2:Addr}(D:ZipApart z TI TO i1 i2 l1 l2) :
  GG P w K (.Tuple UB x1 Kc) (X0 K k l1 l2) [z,TI,TO,i1,i2] z (λi h=>Bv k h z TI TO i1 i2 l1 l2 i) where
 mem:=by simp
 obj:=λi h st b hb=>by
  obtain⟨hz,hTI,⟨a,c,hTO⟩,h1,h2⟩:=st;simp only[List.mem_cons,List.not_mem_nil,or_false]at hb;rcases hb with rfl|rfl|rfl|rfl|rfl
  ·exact⟨_,hz,λv e=>by cases e⟩
  ·exact⟨_,hTI,λv e=>by cases e⟩
  ·exact⟨_,hTO,λv e=>by cases e⟩
  ·exact h1.obj
  ·exact h2.obj
 keep:=λi h h' st kk=>by
  obtain⟨hz,hTI,⟨a,c,hTO⟩,h1,h2⟩:=st;exact⟨kk z (by simp) _ hz,kk TI (by simp) _ hTI,⟨a,c,kk TO (by simp) _ hTO⟩,h1.at λo e=>kk i1 (by simp) o e,h2.at λo e=>kk i2 (by simp) o e⟩
 item:=by
  intro X hP hw hK hc i ao s σ H E I hf st hg;subst hP hw hK;obtain⟨xs,ys,x,y,q1,q2,e1,e2⟩:=hg;obtain⟨us,r1,p1,_⟩:=vM I q1;obtain⟨vs,r2,p2,_⟩:=vM I q2;obtain⟨u,eu,ru⟩:=r1.get e1;obtain⟨v,ev,rv⟩:=r2.get e2;refine G1 (x:=u) (y:=v) D st p1 p2 (by simpa using eu) (by simpa using ev) λh' g1 g2 g3 g4 g5 g7=>?_;refine⟨Y,wpAny_letOwnedTupleGo_zip g1 λh2 hz2 c2=>?_⟩;have ne:∀ {b o},s.heap.get? b=some o->s.heap.objs.size≠b:=λe=>Nat.ne_of_gt (Heap.lt_size e)
  have k2:∀ b o,b∉[z,TI,TO,i1,i2]->s.heap.get? b=some o->h2.get? b=some o:=λb o hb e=>by
   simp only[List.mem_cons,List.not_mem_nil,or_false,not_or]at hb;exact c2.extBut _ _ hb.1 (g7 b o hb.1 hb.2.2.1 hb.2.2.2.1 hb.2.2.2.2 e)
  have I2:Inv X ao σ (aP H s.heap.objs.size (.tup [x,y])) { s with heap:=h2,toks:=s.toks } := XZ I k2 hf (gh _) (by show 2<=sizeLine;decide) (.cons ru (.cons rv .nil)) ⟨_,c2.extBut _ _ (ne st.z) g5,rfl,Y⟩;refine⟨.ref s.heap.objs.size,_,I2,rfl,⟨_,x,y,I.hok.fresh (gh _),V,λxs' q=>?_,λys' q=>?_⟩,?_,λb hb=>?_⟩
  ·rw[Jl I q q1];exact e1
  ·rw[Jl I q q2];exact e2
  ·exact⟨hz2,c2.extBut _ _ D.TIz (g7 _ _ D.TIz D.TITO D.TIi1 D.TIi2 st.ti),⟨u,v,c2.extBut _ _ D.TOz g2⟩,g3.at λo e=>c2.extBut _ _ D.i1z e,g4.at λo e=>c2.extBut _ _ D.i2z e⟩
  ·have qe:∃ o,s.heap.get? b=some o:=by
    obtain⟨hz,hTI,⟨a,c,hTO⟩,h1,h2⟩:=st;simp only[List.mem_cons,List.not_mem_nil,or_false]at hb;rcases hb with rfl|rfl|rfl|rfl|rfl
    ·exact⟨_,hz⟩
    ·exact⟨_,hTI⟩
    ·exact⟨_,hTO⟩
    ·exact h1.obj.imp λ_ e=>e.1
    ·exact h2.obj.imp λ_ e=>e.1
   obtain⟨o,e⟩:=qe;rw[aL (ne e).symm];exact (hf b hb).1
 done:=by
  intro X hP hw hK hc i ao s σ H E I hf st hg;subst hP hw hK;obtain⟨xs,ys,q1,q2,e⟩:=hg;obtain⟨us,r1,p1,_⟩:=vM I q1;obtain⟨vs,r2,p2,_⟩:=vM I q2;have l1:=r1.length;have l2:=r2.length;refine Kp (I.ok.hd hc) D st p1 p2 (e.imp (λe=>by simp;lia) (λe=>by simp;lia)) λh' kk=>⟨rfl,Qh (t':=s.toks) (ch:=[z,TI,TO,i1,i2]) I (λb o hb e=>?_) hf⟩;simp only[List.mem_cons,List.not_mem_nil,or_false,not_or]at hb;exact kk b o hb.1 hb.2.2.1 hb.2.2.2.1 hb.2.2.2.2 e
 self:=λ_ _ _ _ _ st h=>wpAny_pyIter_zip st.z h
def ab1(K:Frag)(ta:TA):TI:=fun σ H R=>ta σ H λvs H1=>∃ k a1 a2 xs ys,vs=[.ref a1,.ref a2]/\Jk K k H1 a1 xs/\Jk K k H1 a2 ys/\R (X0 K k a1 a2) H1
theorem UC{X:Cx}{x1:Nat}{a b:Expr}{ta:TA}{p:Pos}(hg:Gl X "zip")(hm:X.mg "zip"=none)(ha:PA X [a,b] ta)
  (hs:starEach [a,b] X.env=[(false,eval a X.env),(false,eval b X.env)]:=by rfl) (Gs:starEach [b] X.env=[(false,eval b X.env)]:=by rfl):PI X (.Tuple UB x1 Kc) (.Call (.Name "zip" p) [a,b] [] pos) (ab1 X.K ta):=by
 intro ao s σ H R I h;refine Call_ (vC I hg hm boot_zip (PyProof.Rows.callWith_type1 (dc (ha pos ao s σ H _ I h) λus s1 ⟨vs,H1,I1,r1,q1⟩=>?_) (by rw[hs,Gs]) (by rw[Gs];rfl)));obtain⟨k,a1,a2,xs,ys,e,q1,q2,q⟩:=q1;subst e;obtain⟨u1,u2,rfl,e1,e2⟩:=r1.two;cases (show u1=Value.ref a1 from e1);cases (show u2=Value.ref a2 from e2);obtain⟨us,rr1,p1,_⟩:=vM I1 q1;obtain⟨ws,rr2,p2,_⟩:=vM I1 q2;have b1:=Nc p1;have b2:=Nc p2;refine Kq p1 p2 λh' st kk=>wpAny_pyIter_zip st.z ?_;have I2:Inv X ao σ H1 { s1 with heap:=h',toks:=s1.toks }:=I1.kept kk;refine⟨K,_,H1,rfl,I2,Nd (zipApart_new b1 b2),st,λb hb=>?_,q⟩
 have hb':s1.heap.objs.size<=b:=by
  simp only[List.mem_cons,List.not_mem_nil,or_false]at hb;rcases hb with rfl|rfl|rfl|rfl|rfl
  ·exact Nat.le_add_right _ _
  ·exact Nat.le_add_right _ _
  ·exact Nat.le_add_right _ _
  ·exact gh _
  ·exact Nat.le_add_right _ _
 exact I1.J5 hb' (I1.hok.fresh hb')
theorem Qj{K:Frag}{k:Bool}{a1:Addr}{xs ys:List V}{g:TG}{tb:TS}{D:Ends}{σ:L2.St}{H:Hp}(Pv:Nat->L2.St->Hp->Prop)(hn:xs.length=ys.length)(h0:Pv 0 σ H)
  (hl:∀ i σ H,i<=xs.length->Pv i σ H->Jk K k H a1 xs/\Jk K k H a2 ys)
  (hs:∀ i x y p σ H,xs[i]?=some x->ys[i]?=some y->H p=none->Pv i σ H->g (.ref p) σ (aP H p (.tup [x,y])) fun σ2 H2=>tb { D with nx:=Pv (i+1),ct:=Pv (i+1),bk:=D.nx } σ2 H2) (hd:∀ σ H,Pv xs.length σ H->D.nx σ H) :
  ∃ W:Nat->Nat->L2.St->Hp->Prop,(∃ m,W 0 m σ H)/\∀ i m σ H,W i m σ H->
   ((X0 K k a1 a2).stop i H/\D.nx σ H)\/((X0 K k a1 a2).go i H/\∃ N:L2.St->Hp->Prop,(∀ σ' H',N σ' H'->∃ m',m'<m/\W (i+1) m' σ' H')/\∀ x H',(X0 K k a1 a2).My i H x H'->g x σ H' fun σ2 H2=>tb { D with nx:=N,ct:=N,bk:=D.nx } σ2 H2):=by
 refine⟨λi m σ H=>m=xs.length-i/\i<=xs.length/\Pv i σ H,⟨xs.length,by simp,Nat.zero_le _,h0⟩,?_⟩;rintro i m σ H ⟨rfl,hi,p⟩;obtain⟨q1,q2⟩:=hl i σ H hi p;by_cases qe:i<xs.length
 ·have ab2:i<ys.length:=by lia
  refine .inr ⟨⟨xs,ys,xs[i],ys[i],q1,q2,by simp[qe],by simp[ab2]⟩,Pv (i+1),fun σ' H' p'=>⟨xs.length-(i+1),Q,rfl,qe,p'⟩,λx H' y=>?_⟩;obtain⟨a,x',y',hn',rfl,rfl,e1,e2⟩:=y;exact hs i x' y' a σ _ (e1 xs q1) (e2 ys q2) hn' p
 ·have e:i=xs.length:=by lia
  subst e;exact .inl ⟨⟨xs,ys,q1,q2,.inl (gh _)⟩,hd σ H p⟩
def Bw(lo:Int)(n:Nat):List V:=(List.range n).map λi:Nat=>V.int (lo+i)
section
variable {X:Cx}
theorem Ep:jZ X (.type "range") (λxs H Q=>∃ i j:Int,xs=[.int i,.int j]/\∀ p,H p=none->Q (.ref p) (aP H p (.D4 i j))):=by
 intro ao s σ H xs us Q I r h;obtain⟨i,j,rfl,q⟩:=h;obtain⟨u1,u2,rfl,⟨t,rfl⟩,⟨t',rfl⟩⟩:=r.two;refine call_range_2 ⟨.ref s.heap.objs.size,_,I.laid (o:=.D4 i j) (λb o e=>Heap.get?_push_of_some _ e) (gh _) ⟨t,t',s.toks,Heap.get?_push_size _ rfl⟩,rfl,q _ (I.hok.fresh (gh _))⟩
theorem sf(hc:X.calm=true):jZ X (.type "list") (λxs H Q=>∃ p i j,xs=[.ref p]/\H p=some (.D4 i j)/\(-(2^62)<=i/\i<2^62/\-(2^62)<=j/\j<2^62)/\(j-i).toNat<=sizeLine/\
  ∀ l,H l=none->Q (.ref l) (aP H l (.lst (Bw i (j-i).toNat)))):=by
 intro ao s σ H xs us Q I r h;obtain⟨p,i,j,rfl,hp,⟨b1,b2,b3,b4⟩,hz,q⟩:=h;obtain⟨u,rfl,rx⟩:=r.one;cases (show u=Value.ref p from rx);obtain⟨t,u,v,e⟩:=(show gn X.prog X.w H s.heap p (.D4 i j) from I.hok p _ hp)
 have e2:Builtin.Range.rangeSize i j 1=(((j-i).toNat:Nat):Int):=by rw[rangeSize_one];split <;> lia
 have hz':(j-i).toNat<=2^24:=by have:=sizeLine_eq;lia
 refine call_list_range (I.ok.hd hc) e (small_one b1 b2 b3 b4) e2 hz' λh' tk pY c' hk hS cS=>?_;refine⟨.ref s.heap.objs.size,_,I.laid (o:=.lst (Bw i (j-i).toNat)) (t':=tk) hk (gh _) ⟨?_,pY.toList,c',?_,by simpa using hS⟩,rfl,q _ (I.hok.fresh (gh _))⟩
 ·unfold Bw;simpa using hz
 ·have hl:pY.toList.length=(j-i).toNat:=by simpa using cS.1
  have key:∀ (n:Nat) (us:List Value) (lo:Int),us.length=n->(∀ k v,us[k]?=some v->∃ t,v=Value.int (lo+(k:Nat)*1) t)->cu ((List.range n).map λi:Nat=>V.int (lo+i)) us:=by
   intro n
   induction n with
   | zero=>intro us lo hl _;cases us with
    | nil=>exact .nil
    | cons=>simp at hl
   | succ n ih =>
    intro us lo hl hv
    cases us with
    | nil=>simp at hl
    | cons u us =>
     rw[List.range_succ_eq_map,jI,List.map_map];refine .cons ?_ ?_
     ·obtain⟨t,e⟩:=hv 0 u rfl;exact⟨t,by rw[e];simp⟩
     ·have:=ih us (lo+1) (by simpa using hl) λk v e=>by
       obtain⟨t,e'⟩:=hv (k+1) v (by simpa using e);exists t;rw[e'];have:lo+((k+1:Nat):Int)*1=lo+1+(k:Int)*1:=by lia
       rw[this]
      have e3:((λi:Nat=>V.int (lo+i)) ∘ Nat.succ)=λi:Nat=>V.int (lo+1+i):=by
       funext i;simp only[Function.comp,Nat.succ_eq_add_one];have:lo+((i+1:Nat):Int)=lo+1+(i:Int):=by lia
       rw[this]
      rw[e3];exact this
  exact key _ _ i hl λk v e=>cS.2 k v (by simpa using e)
end
section
variable {X:Cx}
theorem Nf{j:Int}(h0:0<j)(h1:j<10^70):j.natAbs.log2<9000:=by
 have h:j.natAbs<2^9000:=Nat.lt_trans (show j.natAbs<10^70 by lia) nofun;exact (Nat.log2_lt ∅).mpr h
theorem uL:uy X (binaryOp .FloorDiv) (rI (λ_ j=>0<j/\j<10^70) λi j=>.int (i / j)):=opI λi j _ _ _ _ _ hc q=>by
 have h1:(0:Int)<j:=hc.1;exact floordiv_int ∅ (by rw[Int.fdiv_eq_ediv_of_nonneg i ∅];exact q) (.inl (PyProof.noPylong_of_log2 (Nf hc.1 hc.2)))
theorem Er(hc:X.calm=true):jZ X (.builtin "sum") (λxs H Q=>∃ (p:Addr) (ns:List Int),xs=[.ref p]/\bI X.K H p (ns.map V.int)/\Q (.int ns.sum) H):=by
 intro ao s σ H xs us Q I r h;obtain⟨p,ns,rfl,hq,q⟩:=h;obtain⟨u,rfl,rx⟩:=r.one;cases (show u=Value.ref p from rx);obtain⟨aN,rv,pl,hz⟩:=I.list hq;have hi:IntsAre aN ns:=intsAre_of rv;have MX:AllInts aN.toArray:=hi.allInts;obtain⟨zs,ez⟩:=MX.items;have hl:=pl.isList;have es:(numsOf aN.toArray.toList).sum=ns.sum:=by rw[show aN.toArray.toList=aN from rfl,hi.numsOf]
 rw[ez]at hl es;rw[nums_intItems]at es;refine PySem.sum_intListG (I.ok.hd hc) hl λh' tk t' hk=>⟨.int ns.sum,H,I.kept hk,⟨t',?_⟩,q⟩;rw[preSum_eq,uA (by simp),es]
end
end cZ
namespace gA
abbrev Row:=List (Int × Int)
def iM(t:Row)(s e:Int):Row :=
 match t.getLast? with
 | some p=>if p.2=s then t.dropLast++[(p.1,e)] else t++[(s,e)]
 | none=>t++[(s,e)]
def ef(t:Row)(p:Int × Int):Row:=if p.1=p.2 then t else iM t p.1 p.2
def cA(r:Row):Row:=r.foldl ef []
def run(s:Int):Nat->List Int
 | 0=>[]
 | n+1=>s::run (s+1) n
def jw(p:Int × Int):List Int:=run p.1 (p.2-p.1).toNat
def bO(r:Row):List Int:=r.flatMap jw
def cM(ns:List Int):Row:=ns.foldl (λt n=>iM t n (n+1)) []
theorem fF(s:Int)(n:Nat):(run s n).length=n:=by
 induction n generalizing s with
 | zero=>rfl
 | succ n ih=>simp[run,ih]
theorem l6(s e:Int):iM [] s e=[(s,e)]:=rfl
theorem l9(t:Row){q:Int × Int}{s:Int}{e:Int}(h:q.2=s):iM (t++[q]) s e=t++[(q.1,e)]:=by
 simp[iM,h]
theorem mh(t:Row){q:Int × Int}{s:Int}{e:Int}(h:¬ q.2=s):iM (t++[q]) s e=t++[q]++[(s,e)]:=by
 simp[iM,h]
theorem Kr(t:Row)(a s e:Int):iM (t++[(a,s)]) s e=t++[(a,e)]:=by
 simp[iM]
theorem yR(t:Row)(a s:Int)(n:Nat):(run s n).foldl (λt n=>iM t n (n+1)) (t++[(a,s)])=t++[(a,s+n)]:=by
 induction n generalizing s with
 | zero=>simp[run]
 | succ n ih =>
  rw[run,lO,Kr,ih];have:s+1+(n:Int)=s+((n+1:Nat):Int):=by lia
  rw[this]
theorem Ng(t:Row)(p:Int × Int)(h:p.1<=p.2):ef t p=(jw p).foldl (λt n=>iM t n (n+1)) t:=by
 obtain⟨s,e⟩:=p;simp only at h;unfold ef jw;by_cases he:s=e
 ·subst he;simp[run]
 ·obtain⟨n,hn⟩:∃ n:Nat,e=s+1+n:=⟨(e-s-1).toNat,Q⟩;subst hn;rw[if_neg he];have h2:((s,s+1+(n:Int)).2-(s,s+1+(n:Int)).1).toNat=n+1:=by simp only;lia
  rw[h2,run,lO];simp only;rcases oz t with rfl|⟨u,q,rfl⟩
  ·rw[l6,l6];exact (yR [] s (s+1) n).symm
  ·by_cases hq:q.2=s
   ·rw[mT,l9 u hq,l9 u hq,yR]
   ·rw[mT,mh u hq,mh u hq,yR]
theorem mj{α β γ:Type}(f:γ->β->γ)(g:α->List β):∀ (l:List α) (c:γ),(l.flatMap g).foldl f c=l.foldl (λc a=>(g a).foldl f c) c
 | [],_=>rfl
 | a::l,c=>by rw[ji,List.foldl_append,lO,mj f g l]
theorem yS(r:Row)(h:∀ p∈r,p.1<=p.2):cA r=cM (bO r):=by
 unfold cA cM bO;rw[mj]
 have key:∀ (r:Row),(∀ p∈r,p.1<=p.2)->∀ t:Row,r.foldl ef t=r.foldl (λc a=>(jw a).foldl (λt n=>iM t n (n+1)) c) t:=by
  intro r
  induction r with
  | nil=>intro _ t;rfl
  | cons p r ih =>
   intro h t;rw[lO,lO,Ng t p (h p (List.mem_cons_self ..))];exact ih (λq hq=>h q (nQ _ hq)) _
 exact key r h []
theorem w9(t:Row)(s e:Int):(iM t s e).length<=t.length+1:=by
 rcases oz t with rfl|⟨u,q,rfl⟩
 ·rw[l6];simp
 ·by_cases hq:q.2=s
  ·rw[mT,l9 u hq];simp
  ·rw[mT,mh u hq];simp
theorem foldl_take_succ{α β:Type}(f:β->α->β)(l:List α)(b:β)(i:Nat)(x:α)(h:l[i]?=some x):(l.take (i+1)).foldl f b=f ((l.take i).foldl f b) x:=by
 rw[List.take_add_one,h,List.foldl_append];rfl
end gA
namespace gA
def i6(r:Row):Int:=(r.map λp=>p.2-p.1).sum
theorem Qk:i6 []=0:=rfl
theorem Es(p:Int × Int)(r:Row):i6 (p::r)=(p.2-p.1)+i6 r:=by simp[i6]
theorem Nh(r:Row)(p:Int × Int):i6 (r++[p])=i6 r+(p.2-p.1):=by simp[i6]
theorem yT(r q:Row):i6 (r++q)=i6 r+i6 q:=by simp[i6]
theorem take_snoc{α:Type}{l:List α}{i:Nat}{x:α}(h:l[i]?=some x):l.take (i+1)=l.take i++[x]:=by rw[List.take_add_one,h];rfl
end gA
namespace gA
theorem uM(s:Int)(n:Nat):run s (n+1)=run s n++[s+n]:=by
 induction n generalizing s with
 | zero=>simp[run]
 | succ n ih =>
  rw[run,ih,run];have:s+1+(n:Int)=s+((n+1:Nat):Int):=by lia
  rw[this];rfl
theorem Bx{a n:Int}(h:a<=n):jw (a,n+1)=jw (a,n)++[n]:=by
 unfold jw;have e:((a,n+1).2-(a,n+1).1).toNat=((a,n).2-(a,n).1).toNat+1:=by simp only;lia
 rw[e,uM];have:a+((((a,n).2-(a,n).1).toNat:Nat):Int)=n:=by simp only;lia
 simp only at this ⊢;rw[this]
theorem Et(n:Int):jw (n,n+1)=[n]:=by
 have:=Bx (a:=n) (n:=n) (Int.le_refl _);rw[this];have e:jw (n,n)=[]:=by unfold jw;simp[run]
 rw[e];rfl
theorem cY(r q:Row):bO (r++q)=bO r++bO q:=by unfold bO;rw[List.flatMap_append]
theorem gx(p:Int × Int):bO [p]=jw p:=by simp[bO]
theorem G3(t:Row)(n:Int)(h:∀ p∈t,p.1<=p.2):bO (iM t n (n+1))=bO t++[n]:=by
 rcases oz t with rfl|⟨u,q,rfl⟩
 ·rw[l6,gx,Et];rfl
 ·rw[mT]at h ⊢;by_cases hq:q.2=n
  ·obtain⟨a,b⟩:=q;simp only at hq;subst hq;have hb:a<=b:=h (a,b) (by simp);rw[l9 u rfl,cY,cY,gx,gx,Bx hb,mU]
  ·rw[mh u hq,cY,gx,Et]
theorem Jm(t:Row)(n:Int)(h:∀ p∈t,p.1<=p.2):∀ p∈iM t n (n+1),p.1<=p.2:=by
 rcases oz t with rfl|⟨u,q,rfl⟩
 ·rw[l6];intro p hp;simp at hp;subst hp;show n<=n+1;lia
 ·rw[mT]at h ⊢;by_cases hq:q.2=n
  ·rw[l9 u hq];intro p hp;rcases List.mem_append.mp hp with z|z
   ·exact h p (sO _ z)
   ·simp at z;subst z;have:=h q (by simp);show q.1<=n+1;lia
  ·rw[mh u hq];intro p hp;rcases List.mem_append.mp hp with z|z
   ·exact h p z
   ·simp at z;subst z;show n<=n+1;lia
theorem eN(ns:List Int):bO (cM ns)=ns:=by
 have key:∀ (ns:List Int) (t:Row),(∀ p∈t,p.1<=p.2)->bO (ns.foldl (λt n=>iM t n (n+1)) t)=bO t++ns:=by
  intro ns
  induction ns with
  | nil=>intro t _;simp
  | cons n ns ih =>
   intro t h;rw[lO,ih _ (Jm t n h),G3 t n h,mU];rfl
 have:=key ns [] (λp hp=>by cases hp);simpa [cM,bO] using this
theorem mq(ns:List Int):∀ p∈cM ns,p.1<=p.2:=by
 have key:∀ (ns:List Int) (t:Row),(∀ p∈t,p.1<=p.2)->∀ p∈ns.foldl (λt n=>iM t n (n+1)) t,p.1<=p.2:=by
  intro ns
  induction ns with
  | nil=>intro t h;exact h
  | cons n ns ih=>intro t h;exact ih _ (Jm t n h)
 exact key ns [] (λp hp=>by cases hp)
end gA
namespace gA
theorem xg(p:Int × Int)(h:p.1<=p.2):((jw p).length:Int)=p.2-p.1:=by
 unfold jw;rw[fF];lia
theorem rf:∀ (r:Row),(∀ p∈r,p.1<=p.2)->((bO r).length:Int)=i6 r
 | [],_=>rfl
 | p::r,h=>by
  have ih:=rf r λq hq=>h q (nQ _ hq);have hp:=xg p (h p (List.mem_cons_self ..));have e:bO (p::r)=jw p++bO r:=rfl;rw[e,dB,Es];lia
end gA
namespace gA
open L2 cZ
structure bY(K:Frag)(mg:Str->Option Value)(x:Str)(st:Stmt)(ps:List Str)(a:Addr)(d:FuncData):Prop where
 F:Qe K x x st a d
 b:Binds K d ps []
 m:mg x=some (.ref a)
section
variable {X:Cx}
theorem aC{x:Str}{st:Stmt}{ps:List Str}{f:Addr}{j k:Nat}{sp:Sp}{e:Expr}{es:List Expr}{t:TA}{p pos:Pos}(d:bY X.K X.mg x st ps f fd)(G:bw X.prog X.w X.K X.mg X.zt cL k f fd ps sp)(hr:jb j X.A)
  (ha:PA X (e::es) t) (UD:k<=j:=by first|decide|lia) (hg:Gl X x:=by rfl) (Kf:(x == ("__debug__":Str))=false:=by decide) (he:starEach (e::es) X.env=(false,eval e X.env)::starEach es X.env:=by rfl)
  (DT:(backTo pos (starEach es X.env)).any (·.1)=false:=by rfl):PE X (.Call (.Name x p) (e::es) [] pos) (IV sp [] E0 t) :=
 IX G (hr.mono UD) hg d.m d.F.kp d.b .nil bL ha Kf he DT
theorem G4{st:Stmt}{t t':TS}(h:PS X st t)(hi:∀ D σ H,t' D σ H->t D σ H):PS X st t':=λao s σ H D I q=>h ao s σ H D I (hi D σ H q)
end
def cH(l:Addr)(H H':Hp):Prop:=∀ a o,H a=some o->a≠l->H' a=some o
theorem aI.keep{H H':Hp}(s:aI H H'):cH l H H':=λa o e _=>s a o e
theorem cH.trans{H H1 H2:Hp}(a:cH l H H1)(b:cH l H1 H2):cH l H H2:=λc o e n=>b c o (a c o e n) n
theorem aJ(l:Addr)(H:Hp)(o:HO):cH l H (aP H l o):=λa u e n=>by rw[aL n];exact e
theorem bP{H H1 H2:Hp}(h:H l=none)(a:aI H H1)(b:cH l H1 H2):aI H H2:=λc o e=>b c o (a c o e) (aA e h)
theorem ak{H:Hp}{p:Addr}(h:H p=none)(o:HO):aI H (aP H p o):=λb u q=>by rw[aL (aA q h)];exact q
theorem iC{a:Addr}{H H':Hp}(k:cH l H H')(n:a≠l)(h:H' a=none):H a=none:=by
 cases q:H a with
 | none=>rfl
 | some o=>rw[k a o q n]at h;cases h
def cT(H:Hp)(l c:Addr):Prop:=c≠l/\∃ (ns:List Int) (i d r:Int),H l=some (.lst [.ref c,.int i,.int d,.int r])/\H c=some (.lst (ns.map V.int))/\0<=i/\0<=r/\r<2147483647
theorem cT.same{H H':Hp}{c:Addr}(s:cT H l c)(k:aI H H'):cT H' l c:=by
 obtain⟨n,ns,i,d,r,h1,h2,h3⟩:=s;exact⟨n,ns,i,d,r,k _ _ h1,k _ _ h2,h3⟩
theorem cT.keep{H H':Hp}{c m:Addr}(s:cT H l c)(k:cH m H H')(h1:l≠m)(h2:c≠m):cT H' l c:=by
 obtain⟨n,ns,i,d,r,e1,e2,h3⟩:=s;exact⟨n,ns,i,d,r,k _ _ e1 h1,k _ _ e2 h2,h3⟩
theorem cT.ne{H:Hp}{c a:Addr}(s:cT H l c)(h:H a=none):l≠a/\c≠a:=by
 obtain⟨n,ns,i,d,r,e1,e2,h3⟩:=s;exact⟨aA e1 h,aA e2 h⟩
theorem X3{a b c d:V}:pX [a,b,c,d] 0=some a:=rfl
theorem UE{a b c d:V}:pX [a,b,c,d] 1=some b:=rfl
theorem Ql{a b c d:V}:pX [a,b,c,d] 2=some c:=rfl
theorem X4{a b c d:V}:pX [a,b,c,d] 3=some d:=rfl
theorem X5{a b:V}:pX [a,b] 0=some a:=rfl
theorem UG{a b:V}:pX [a,b] 1=some b:=rfl
class inductive tW
 | mk (l c:Addr) (b:Int) (_:vs=[.ref l,.int b]) (_:cT H l c) (_:0<b) (_:b<10^70) (_ :
 ∀ (v:Int) (H':Hp),0<=v->v<b->cT H' l c->(∀ a,a≠l->H' a=H a)->Q (.int v) H'):tW vs H Q E
class inductive SD(K:Frag)
 | mk (a:Addr) (ns:List Int) (_:vs=[.ref a]) (_:bI K H a (ns.map V.int)) (_ :
 ∀ (l c:Addr) (H':Hp),cT H' l c->aI H H'->H l=none->H c=none->Q (.ref l) H')
def ab3:V->Bool
 | .int _ | .bl _ | .str _ | .gm=>true
 | _=>false
def Ni(k:Bool)(H:Hp)(a:Addr)(xs:List V):Prop:=match k with
 | true=>H a=some (.lst xs)
 | false=>H a=some (.tup xs)
theorem Ni.same{k:Bool}{H H':Hp}{a:Addr}{xs:List V}(h:Ni k H a xs)(s:aI H H'):Ni k H' a xs:=by
 cases k
 ·exact s _ _ h
 ·exact s _ _ h
theorem Ni.sq{K:Frag}{k:Bool}{H:Hp}{a:Addr}{xs:List V}(h:Ni k H a xs):Jk K k H a xs:=by
 cases k
 ·exact dH.of h
 ·exact bI.of h
def Eqv(H:Hp):Nat->V->V->Prop
 | 0,_,_=>False
 | n+1,x,y=>(ab3 x=true/\x=y)\/∃ (k:Bool) (a b:Addr) (xs ys:List V),x=.ref a/\y=.ref b/\Ni k H a xs/\Ni k H b ys/\xs.length=ys.length/\
   ∀ (i:Nat) (u v:V),xs[i]?=some u->ys[i]?=some v->Eqv H n u v
theorem Eqv.same{H H':Hp}(s:aI H H'):∀ {n:Nat} {x y:V},Eqv H n x y->Eqv H' n x y
 | 0,_,_,h=>h
 | n+1,x,y,h=>by
  rcases h with h|⟨k,a,b,xs,ys,e1,e2,h1,h2,hl,hi⟩
  ·exact .inl h
  ·exact .inr ⟨k,a,b,xs,ys,e1,e2,h1.same s,h2.same s,hl,λi u v eu ev=>Eqv.same s (hi i u v eu ev)⟩
theorem Eqv.int{H:Hp}{n:Nat}(i:Int):Eqv H (n+1) (.int i) (.int i):=.inl ⟨V⟩
def vN(n:Nat):Sp:=λvs H Q _=>∃ x y,vs=[x,y]/\Eqv H n x y/\∀ H',aI H H'->Q (.bl true) H'
class inductive Jo
 | mk (i:Int) (_:vs=[.int i]) (_:Q (.bl true) H)
section
variable (K:Frag)
theorem X6:kitOne K (.type "bool") (.type "bool")=some true:=by rfl
theorem X7:kitOne K (.type "int") (.type "bool")=some false:=by kernel_rfl
theorem X8:kitOne K (.type "int") (.type "int")=some true:=by rfl
theorem ab4:kitOne K (.type "str") (.type "bool")=some false:=by kernel_rfl
theorem ab5:kitOne K (.type "str") (.type "int")=some false:=by kernel_rfl
theorem X9:kitOne K (.type "str") (.type "str")=some true:=by rfl
theorem ab6:kitOne K (.type "list") (.type "bool")=some false:=by kernel_rfl
theorem ab7:kitOne K (.type "list") (.type "int")=some false:=by kernel_rfl
theorem ab8:kitOne K (.type "list") (.type "str")=some false:=by kernel_rfl
theorem Yb:kitOne K (.type "list") (.type "list")=some true:=by rfl
theorem k_lt:kitOne K (.type "list") (.type "tuple")=some false:=by kernel_rfl
theorem ab9:kitOne K (.type "tuple") (.type "bool")=some false:=by kernel_rfl
theorem acd:kitOne K (.type "tuple") (.type "int")=some false:=by kernel_rfl
theorem ace:kitOne K (.type "tuple") (.type "str")=some false:=by kernel_rfl
theorem acf:kitOne K (.type "tuple") (.type "list")=some false:=by kernel_rfl
theorem acg:kitOne K (.type "tuple") (.type "tuple")=some true:=by rfl
end
def Wy(k:Bool):Value:=.type (if k then "list" else "tuple")
theorem Ni.ty{K:Frag}{k:Bool}{H:Hp}{a:Addr}{xs:List V}(h:Ni k H a xs):j0 K H (.ref a) (Wy k):=by
 cases k
 ·exact j0.tup h
 ·exact j0.lst h
theorem ach(K:Frag)(k:Bool):kitOne K (Wy k) (.type "bool")=some false:=by cases k;exact ab9 K;exact ab6 K
theorem aci(K:Frag)(k:Bool):kitOne K (Wy k) (.type "int")=some false:=by cases k;exact acd K;exact ab7 K
theorem acj(K:Frag)(k:Bool):kitOne K (Wy k) (.type "str")=some false:=by cases k;exact ace K;exact ab8 K
theorem Yc(K:Frag)(k:Bool):kitOne K (Wy k) (.type "list")=some k:=by cases k;exact acf K;exact Yb K
theorem Yd(K:Frag)(k:Bool):kitOne K (Wy k) (.type "tuple")=some (!k):=by cases k;exact acg K;exact k_lt K
def vO(H:Hp)(a:Addr)(p:Int × Int):Prop:=H a=some (.tup [.int p.1,.int p.2])
abbrev bQ(H:Hp):List Addr->Row->Prop:=Paired (vO H)
inductive cE(H:Hp)(r:Addr)(row:Row):Prop
 | mk (as:List Addr) (_:H r=some (.lst (as.map V.ref))) (_:bQ H as row)
theorem bQ.tups{H H':Hp}{as:List Addr}{row:Row}(h:bQ H as row)(t:∀ a xs,H a=some (.tup xs)->H' a=some (.tup xs)):bQ H' as row:=Paired.Gz h λa p e=>t a _ e
theorem bQ.same{H H':Hp}{as:List Addr}{row:Row}(h:bQ H as row)(s:aI H H'):bQ H' as row:=h.tups λa xs e=>s a _ e
theorem cE.same{H H':Hp}{r:Addr}{row:Row}(h:cE H r row)(s:aI H H'):cE H' r row:=by
 obtain⟨as,h1,h2⟩:=h;exact⟨as,s _ _ h1,h2.same s⟩
theorem bQ.keep{H H':Hp}{as:List Addr}{row:Row}{xs:List V}(h:bQ H as row)(hl:H l=some (.lst xs))(s:cH l H H'):bQ H' as row :=
 h.tups λa ys e=>s a _ e (dG e hl)
theorem cE.keep{H H':Hp}{r:Addr}{row:Row}{xs:List V}(h:cE H r row)(hl:H l=some (.lst xs))(n:r≠l)(s:cH l H H'):cE H' r row:=by
 obtain⟨as,h1,h2⟩:=h;exact⟨as,s _ _ h1 n,h2.keep hl s⟩
theorem bQ.get{H:Hp}:∀ {as:List Addr} {row:Row} {i:Nat} {a:Addr},bQ H as row->as[i]?=some a->∃ p,row[i]?=some p/\vO H a p
 | _,_,_,_,.nil,e=>by simp at e
 | _,_,0,_,.cons r _,e=>by simp at e;subst e;exact⟨Y,r⟩
 | _,_,i+1,a,.cons _ t,e=>by
  obtain⟨p,h1,h2⟩:=bQ.get (i:=i) (a:=a) t (by simpa using e);exact⟨p,by simpa using h1,h2⟩
theorem bQ.snoc{H:Hp}{as:List Addr}{row:Row}{a:Addr}{p:Int × Int}(h:bQ H as row)(e:vO H a p):bQ H (as++[a]) (row++[p]):=by
 induction h with
 | nil=>exact .cons e .nil
 | cons r _ ih=>exact .cons r ih
theorem bQ.split{H:Hp}:∀ {as:List Addr} {row:Row} {p:Int × Int},bQ H as (row++[p])->∃ bs a,as=bs++[a]/\bQ H bs row/\vO H a p
 | as,[],p,h=>by
  cases h with
  | cons r t=>cases t;exact⟨[],Y,.nil,r⟩
 | as,q::row,p,h=>by
  cases h with
  | cons r t =>
   obtain⟨bs,a,rfl,h1,h2⟩:=bQ.split (row:=row) (p:=p) t;exact⟨_::bs,a,rfl,.cons r h1,h2⟩
theorem bQ.len{H:Hp}{as:List Addr}{row:Row}(h:bQ H as row):as.length=row.length:=Paired.length h
theorem cE.eqv{H:Hp}{r q:Addr}{row:Row}(h:cE H r row)(g:cE H q row)(n:Nat):Eqv H (n+3) (.ref r) (.ref q):=by
 obtain⟨as,h1,h2⟩:=h;obtain⟨bs,g1,g2⟩:=g;refine .inr ⟨true,r,q,Z,h1,g1,by rw[cG,cG,h2.len,g2.len],λi u v eu ev=>?_⟩;rw[gE]at eu ev;obtain⟨a,ea,rfl⟩:=Option.map_eq_some_iff.mp eu;obtain⟨b,eb,rfl⟩:=Option.map_eq_some_iff.mp ev;obtain⟨p,e1,k1⟩:=h2.get ea;obtain⟨p',e2,k2⟩:=g2.get eb;rw[e1]at e2;cases e2;refine .inr ⟨false,a,b,Z,k1,k2,rfl,λj u v eu ev=>?_⟩;rw[eu]at ev;cases ev
 match j,eu with
 | 0,eu=>cases eu;exact Eqv.int _
 | 1,eu=>cases eu;exact Eqv.int _
theorem fG{α:Type}(xs:List α)(v:α):pX (xs++[v]) (-1)=some v:=MM xs v
theorem yU(n:Nat):Jb (n+1) (-1)=some n:=by
 unfold Jb;rw[if_neg (by decide),if_pos ∅];congr 1;lia
theorem yV{α:Type}(xs:List α)(a b:α):(xs++[a]).set xs.length b=xs++[b]:=by
 simp
theorem yW(lo:Int)(n:Nat):Bw lo n=(run lo n).map V.int:=by
 unfold Bw
 induction n generalizing lo with
 | zero=>rfl
 | succ n ih =>
  rw[List.range_succ_eq_map,jI,List.map_map,run,jI,← ih (lo+1)];congr 1
  ·simp
  ·apply List.map_congr_left;intro i _;simp only[Function.comp,Nat.succ_eq_add_one];congr 1;lia
class inductive Qm(lim:Nat)
 | mk (r:Addr) (row:Row) (_:vs=[.ref r]) (_:cE H r row) (_:(∀ p∈row,0<=p.1/\p.1<=p.2/\p.2<2^62)) (_:(bO row).length<=1000000) (_:row.length<=lim) (_ :
 ∀ (n:Addr) (H':Hp),H' n=some (.lst ((bO row).map V.int))->aI H H'->H n=none->Q (.ref n) H')
class inductive Qn
 | mk (n:Addr) (ns:List Int) (_:vs=[.ref n]) (_:H n=some (.lst (ns.map V.int))) (_:ns.length<=1000000) (_ :
 ∀ (r:Addr) (H':Hp),cE H' r (cM ns)->aI H H'->H r=none->Q (.ref r) H')
class inductive Qo
 | mk (r:Addr) (row:Row) (_:vs=[.ref r]) (_:cE H r row) (_:row.length<=1000000) (_ :
 ∀ (q:Addr) (H':Hp),cE H' q (cA row)->aI H H'->H q=none->Q (.ref q) H')
theorem aS{n:Nat}(h:n<=1000001):n<sizeLine:=Nat.lt_of_le_of_lt h (by decide)
end gA
namespace gA
open L2 cZ
def UH:TS:=λD σ H=>∃ (l c:Addr) (b:Int),σ=[some (.ref l),some (.int b),none,none]/\cT H l c/\
 ∀ (cell:Option V) (H':Hp),cT H' l c->(∀ a,a≠l->H' a=H a)->D.nx [some (.ref l),some (.int b),cell,none] H'
def UI:TS:=λD σ H=>∃ (l c:Addr) (b:Int),σ=[some (.ref l),some (.int b),some (.int 7),none]/\cT H l c/\
 ∀ (cell:Int) (H':Hp),cT H' l c->(∀ a,a≠l->H' a=H a)->D.nx [some (.ref l),some (.int b),some (.int cell),none] H'
theorem Qp{ns:List Int}{i:Int}(h0:0<=i)(h1:i<(ns.length:Int)):∃ v:Int,pX (ns.map V.int) i=some (.int v):=by
 have hk:i.toNat<ns.length:=by lia
 exists ns[i.toNat]
 have q:pX (ns.map V.int) ((i.toNat:Nat):Int)=some (.int ns[i.toNat]):=dD (by rw[gE,uz hk] <;> rfl)
 have ei:((i.toNat:Nat):Int)=i:=by lia
 rw[ei]at q;exact q
theorem Nj(ns:List Int)(lo hi:Option Int):∃ ms:List Int,j3 (ns.map V.int) lo hi=ms.map V.int:=by
 unfold j3;exists (ns.drop (HT.iX (ns.map V.int).length 0 lo)).take (HT.iX (ns.map V.int).length (ns.map V.int).length hi-HT.iX (ns.map V.int).length 0 lo);rw[List.map_take,List.map_drop]
theorem tt{p:Prop} [Decidable p] {Q:V->Hp->Prop} {H:Hp} (hp:p) (h:Q (.bl true) H):Q (.bl (decide p)) H:=by
 rw[decide_eq_true hp];exact h
theorem Ni.or{K:Frag}{k:Bool}{H:Hp}{a:Addr}{xs:List V}(h:Ni k H a xs):bI K H a xs\/dH K H a xs:=by
 cases k
 ·exact .inr (dH.of h)
 ·exact .inl (bI.of h)
theorem ck{H H':Hp}(k:∀ a,a≠l->H' a=H a):cH l H H':=λa o e n=>by rw[k a n];exact e
end gA
namespace gA
open L2 cZ
theorem cT.lst{H:Hp}{l c:Addr}(s:cT H l c):∃ xs,H l=some (.lst xs):=by
 obtain⟨n,ns,i,d,r,e1,_⟩:=s;exact⟨_,e1⟩
end gA
namespace cZ
open Spec Rows L2
section
variable {prog:Program} {w:World} {A:Around} {R:Result->Shared->Prop} {s:Shared}
def rj(jJ:List Expr)(env:Env):Sem Bool:=forIn jJ true λc r=>if r=true then do let ok ← isTrue c env (eval c env);pure (ForInStep.yield ok) else pure (ForInStep.yield r)
theorem Ks{iter:Expr}{scope:Scope}{it acc:Value}{env:Env}(I:Nat->Shared->Prop)
  (sP:∀ n s,I n s->wpAny (model prog w) A (pyNext it) (λr s₁=>match r with
   | none=>R (.ok .next) s₁
   | some v=>wpAny (model prog w) A (letOwnedTupleGo vD it v) (λ_ s₂=>wpAny (model prog w) A (assign vD env v) (λ_ s₃ =>
     wpAny (model prog w) A (rj jJ env) (λok s₄ =>
      if ok=true then wpAny (model prog w) A (eval jW env) (λx s₅=>wpAny (model prog w) A (call (.builtin "list.append") [acc,x]) (λ_ s₆=>∃ m,m<n/\I m s₆) (λ_ _=>False) s₅) (λ_ _=>False) s₄
      else ∃ m,m<n/\I m s₄) (λ_ _=>False) s₃) (λ_ _=>False) s₂) (λ_ _=>False) s₁) (λ_ _=>False) s)
  (n:Nat) (h:I n s):codeAny (model prog w) A (.compLoop (.ListComp jW [⟨vD,iter,jJ,0⟩] scope pos) 0 it acc env) R s:=by
 refine codeAny_loop rfl I (λn s hI=>?_) n h;show wpAny _ A ((compTurn (.ListComp jW [⟨vD,iter,jJ,0⟩] scope pos) 0 it acc env).onRaise (λx=>do noteFrame x env;theTreesLotGoes x)) _ _ s;refine wpAny_noted ?_;rw[compTurn_list];refine wpAny_bind (wpAny_standAt (wpAny_bind (wpAny_mono (sP n s hI) (λr s₁ h₁=>?_) λ_ _ h'=>h'.elim)))
 cases r with
 | none=>exact wpAny_pure h₁
 | some v =>
  refine wpAny_bind (wpAny_mono h₁ (λ_ s₂ h₂=>wpAny_bind (wpAny_mono h₂ (λ_ s₃ h₃=>wpAny_bind (wpAny_mono h₃ (λok s₄ h₄=>?_) λ_ _ h'=>h'.elim)) λ_ _ h'=>h'.elim)) λ_ _ h'=>h'.elim)
  cases ok with
  | false=>exact wpAny_pure ⟨rfl,h₄⟩
  | true=>exact wpAny_bind (wpAny_bind (wpAny_mono h₄ (λx s₅ h₅=>wpAny_bind (wpAny_mono h₅ (λ_ s₆ h₆=>wpAny_pure (wpAny_pure ⟨rfl,h₆⟩)) λ_ _ h'=>h'.elim)) λ_ _ h'=>h'.elim))
end
section
variable {X:Cx} {N:List Str} {scope:Scope}
def Ku(X:Cx)(jJ:List Expr)(t:TT):Prop :=
 ∀ (ao:List (Addr × Obj)) (s:Shared) (σ:L2.St) (H:Hp) (Q:Bool->Hp->Prop),Inv X ao σ H s->t σ H Q->wpAny (model X.prog X.w) X.A (rj jJ X.env) (TP X ao σ Q) X.xe s
def Nk:TT:=λ_ H Q=>Q true H
theorem gP:Ku X [] Nk:=λao s σ H Q I h=>wpAny_tests_nil ⟨H,I,h⟩
theorem CF{c:Expr}{t:TT}(h:PT X c t):Ku X [c] t:=λao s σ H Q I q=>wpAny_tests_one (h ao s σ H Q I q)
end
end cZ
namespace cZ
open Spec Rows L2
theorem Kv{P:Program}{w:World}{K:Frag}(it:Addr)(lo:Int)(n:Nat):GG P w K tg (J6 lo n) [it] it (λi h=>IsLongIter h it (lo+(i:Nat)*1) ((n:Int)-(i:Nat)) 1) where
 mem:=by simp
 obj:=λi h st b hb=>by
  have e:b=it:=by simpa using hb
  subst e
  exact⟨_,st,λv z=>by
   have z':Data.fields _=Data.cell v:=z
   cases z'⟩
 keep:=λi h h' st k=>k it (by simp) _ st
 item:=by
  intro X hP hw hK hc i ao s σ H E I hf st hg;subst hP hw hK;obtain⟨f0,f1,f2,f3,f4,f5⟩:=hf it (by simp);have W:=Walks.longrange (prog:=X.prog) (w:=X.w) (I.ok.hd hc) it lo 1 n;refine W.item i s _ _ hg st λv h' tk hv Cm kk=>?_;obtain⟨t,rfl⟩:=hv;have I1:Inv X ao σ H { s with heap:=h',toks:=tk }:=I.turned (λb o hb e=>kk b o (by simpa using hb) e) f0 f1 f3 f4 f5;refine⟨Y,Ef (s:={ s with heap:=h',toks:=tk }) (n:="longrange_iterator") Cm rfl rfl (by decide) ⟨.int (lo+i),H,I1,⟨t,?_⟩,⟨V⟩,Cm,λb hb=>(hf b hb).1⟩⟩;rw[Int.mul_one]
 done:=by
  intro X hP hw hK hc i ao s σ H E I hf st hg;subst hP hw hK;obtain⟨f0,f1,f2,f3,f4,f5⟩:=hf it (by simp);exact wpAny_pyNext_long_end (I.ok.hd hc) st (by have:n<=i:=hg;lia) λh' eb=>⟨rfl,I.turned (t':=s.toks) (λb o hb e=>eb b o hb e) f0 f1 f3 f4 f5⟩
 self:=λ_ _ _ _ _ st h=>wpAny_pyIter_longiter st h
section
variable {X:Cx} {tg:Expr}
theorem Kw{σ:L2.St}{H:Hp}{s:Shared}{R:It->Hp->Prop}{E:Value->Shared->Prop}{lo hi:Int}{t u v:Tok}{tk:Nat}(I:Inv X ao σ H s)
  (q:R (J6 lo (hi-lo).toNat) H):wpAny (model X.prog X.w) X.A (pyIter (.ref s.heap.objs.size)) (PIE X ao σ tg R) E { s with heap:=s.heap.push { cls:=.type "range",data:=.fields #[.int lo t,.int hi u,.int 1 v] },toks:=tk }:=by
 have I1:Inv X ao σ H { s with heap:=s.heap.push { cls:=.type "range",data:=.fields #[.int lo t,.int hi u,.int 1 v] },toks:=tk }:=I.kept λb o e=>Heap.get?_push_of_some _ e;have e1:lo+((0:Nat):Int)*1=lo:=by simp
 have e2:(((hi-lo).toNat:Nat):Int)-((0:Nat):Int)=Builtin.Range.rangeSize lo hi 1:=by rw[rangeSize_one];split <;> lia
 have fp:∀ b∈[(s.heap.push { cls:=.type "range",data:=.fields #[.int lo t,.int hi u,.int 1 v] }).objs.size],oF X ao H b:=λb hb=>by
  have e:b=(s.heap.push { cls:=.type "range",data:=.fields #[.int lo t,.int hi u,.int 1 v] }).objs.size:=by simpa using hb
  subst e;exact I1.J5 (gh _) (I1.hok.fresh (gh _))
 cases hb:Builtin.Range.small lo hi 1 with
 | true =>
  refine wpAny_pyIter_range (IsRange.new ..) hb ?_;refine⟨_,[(s.heap.push { cls:=.type "range",data:=.fields #[.int lo t,.int hi u,.int 1 v] }).objs.size],P,H,rfl,I1.kept (t':=tk) λb o e=>Heap.get?_push_of_some _ e,yE _ lo (hi-lo).toNat,?_,fp,q⟩;show IsRangeIter _ _ (lo+((0:Nat):Int)*1) ((((hi-lo).toNat:Nat):Int)-((0:Nat):Int)) 1;rw[e1,e2];exact Heap.get?_push_size _ rfl
 | false =>
  refine wpAny_pyIter_longrange (IsRange.new ..) hb ?_;refine⟨_,[(s.heap.push { cls:=.type "range",data:=.fields #[.int lo t,.int hi u,.int 1 v] }).objs.size],P,H,rfl,I1.kept (t':=tk) λb o e=>Heap.get?_push_of_some _ e,Kv _ lo (hi-lo).toNat,?_,fp,q⟩;show IsLongIter _ _ (lo+((0:Nat):Int)*1) ((((hi-lo).toNat:Nat):Int)-((0:Nat):Int)) 1;rw[e1,e2];exact Heap.get?_push_size _ rfl
def Ye(ta:TA):TI:=fun σ H R=>ta σ H λvs H1=>∃ i j:Int,vs=[.int i,.int j]/\R (J6 i (j-i).toNat) H1
theorem Kx{a b:Expr}{ta:TA}{p pos:Pos}(hg:Gl X "range")(hm:X.mg "range"=none)(ha:PA X [a,b] ta)(hs:starEach [a,b] X.env=[(false,eval a X.env),(false,eval b X.env)]:=by rfl)(Gs:starEach [b] X.env=[(false,eval b X.env)]:=by rfl) :
  PI X tg (.Call (.Name "range" p) [a,b] [] pos) (Ye ta):=by
 intro ao s σ H R I h;refine Call_ (vC I hg hm boot_range (PyProof.Rows.callWith_type1 (dc (ha pos ao s σ H _ I h) λus s1 ⟨vs,H1,I1,r1,q1⟩=>?_) (by rw[hs,Gs]) (by rw[Gs];rfl)));obtain⟨i,j,e,q⟩:=q1;subst e;obtain⟨u1,u2,rfl,⟨t,rfl⟩,⟨t',rfl⟩⟩:=r1.two;exact call_range_2 (Kw I1 q)
end
end cZ
namespace cZ
open Spec Rows L2
section
variable {prog:Program} {w:World} {A:Around} {R:Result->Shared->Prop} {s:Shared}
theorem Qq(jW tg iter qf dO:Expr)(jJ jd:List Expr)(scope:Scope)(pos:Pos)(it acc:Value)(env:Env) :
  compTurn (.ListComp jW [⟨tg,iter,jJ,0⟩,⟨qf,dO,jd,0⟩] scope pos) 1 it acc env=(do
   standAt dO.pos
   match ← pyNext it with
   | none=>pure (.done .next)
   | some v =>
    letOwnedTupleGo qf it v
    assign qf env v
    let ok ← rj jd env
    if ok then (do let _ ← call (.builtin "list.append") [acc,← eval jW env])
    again (.compLoop (.ListComp jW [⟨tg,iter,jJ,0⟩,⟨qf,dO,jd,0⟩] scope pos) 1 it acc env)):=by rfl
theorem Nl(jW tg iter qf dO:Expr)(jJ jd:List Expr)(scope:Scope)(pos:Pos)(it acc:Value)(env:Env) :
  compTurn (.ListComp jW [⟨tg,iter,jJ,0⟩,⟨qf,dO,jd,0⟩] scope pos) 0 it acc env=(do
   standAt iter.pos
   match ← pyNext it with
   | none=>pure (.done .next)
   | some v =>
    letOwnedTupleGo tg it v
    assign tg env v
    let ok ← rj jJ env
    if ok then
     let x ← eval dO env
     standAt dO.pos
     let x ← foldedSetIterable dO env x
     let _ ← runOwn (.compStart (.ListComp jW [⟨tg,iter,jJ,0⟩,⟨qf,dO,jd,0⟩] scope pos) 1 (← holding [x] (pyIter x)) acc env) env
    again (.compLoop (.ListComp jW [⟨tg,iter,jJ,0⟩,⟨qf,dO,jd,0⟩] scope pos) 0 it acc env)):=by rfl
theorem UJ{iter:Expr}{scope:Scope}{it acc:Value}{env:Env}(I:Nat->Shared->Prop)
  (sP:∀ n s,I n s->wpAny (model prog w) A (pyNext it) (λr s₁=>match r with
   | none=>R (.ok .next) s₁
   | some v=>wpAny (model prog w) A (letOwnedTupleGo qf it v) (λ_ s₂=>wpAny (model prog w) A (assign qf env v) (λ_ s₃ =>
     wpAny (model prog w) A (rj jd env) (λok s₄ =>
      if ok=true then wpAny (model prog w) A (eval jW env) (λx s₅=>wpAny (model prog w) A (call (.builtin "list.append") [acc,x]) (λ_ s₆=>∃ m,m<n/\I m s₆) (λ_ _=>False) s₅) (λ_ _=>False) s₄
      else ∃ m,m<n/\I m s₄) (λ_ _=>False) s₃) (λ_ _=>False) s₂) (λ_ _=>False) s₁) (λ_ _=>False) s)
  (n:Nat) (h:I n s):codeAny (model prog w) A (.compLoop (.ListComp jW [⟨tg,iter,jJ,0⟩,⟨qf,dO,jd,0⟩] scope pos) 1 it acc env) R s:=by
 refine codeAny_loop rfl I (λn s hI=>?_) n h;show wpAny _ A ((compTurn (.ListComp jW [⟨tg,iter,jJ,0⟩,⟨qf,dO,jd,0⟩] scope pos) 1 it acc env).onRaise (λx=>do noteFrame x env;theTreesLotGoes x)) _ _ s;refine wpAny_noted ?_;rw[Qq];refine wpAny_bind (wpAny_standAt (wpAny_bind (wpAny_mono (sP n s hI) (λr s₁ h₁=>?_) λ_ _ h'=>h'.elim)))
 cases r with
 | none=>exact wpAny_pure h₁
 | some v =>
  refine wpAny_bind (wpAny_mono h₁ (λ_ s₂ h₂=>wpAny_bind (wpAny_mono h₂ (λ_ s₃ h₃=>wpAny_bind (wpAny_mono h₃ (λok s₄ h₄=>?_) λ_ _ h'=>h'.elim)) λ_ _ h'=>h'.elim)) λ_ _ h'=>h'.elim)
  cases ok with
  | false=>exact wpAny_pure ⟨rfl,h₄⟩
  | true=>exact wpAny_bind (wpAny_bind (wpAny_mono h₄ (λx s₅ h₅=>wpAny_bind (wpAny_mono h₅ (λ_ s₆ h₆=>wpAny_pure (wpAny_pure ⟨rfl,h₆⟩)) λ_ _ h'=>h'.elim)) λ_ _ h'=>h'.elim))
theorem Qs{iter:Expr}{scope:Scope}{it acc:Value}{env:Env}
  (h0:codeAny (model prog w) A (.compLoop (.ListComp jW [⟨tg,iter,jJ,0⟩,⟨qf,dO,jd,0⟩] scope pos) 1 it acc env) R s)
  (h:wpAny (model prog w) A (pyIter it) (λQt s'=>codeAny (model prog w) A (.compLoop (.ListComp jW [⟨tg,iter,jJ,0⟩,⟨qf,dO,jd,0⟩] scope pos) 1 Qt acc env) R s') (λ_ _=>False) s) :
  codeAny (model prog w) A (.compStart (.ListComp jW [⟨tg,iter,jJ,0⟩,⟨qf,dO,jd,0⟩] scope pos) 1 it acc env) R s:=by
 refine codeAny_of_tree ?_;show wpAny _ _ ((compStart (.ListComp jW [⟨tg,iter,jJ,0⟩,⟨qf,dO,jd,0⟩] scope pos) 1 it acc env).onRaise (λx=>do noteFrame x env;standAt theWindowsPlace)) _ _ s;refine wpAny_notedAt ?_;unfold compStart;show wpAny _ _ (ask >>= _) _ _ s;refine wpAny_bind (wpAny_askSetting (wpAny_ite ?_));split
 ·first
   | exact wpAny_bind (wpAny_pure (wpAny_pure (And.intro rfl h0)))
   | exact wpAny_pure (And.intro rfl h0)
 ·first
   | exact wpAny_bind (wpAny_rule (wpAny_bind (wpAny_standAt (wpAny_bind (wpAny_mono h (λQt s' h'=>wpAny_pure (And.intro rfl h')) λ_ _ x=>x.elim)))))
   | (refine wpAny_bind (wpAny_rule ?_);show wpAny _ _ (standAt dO.pos >>= _) _ _ s;exact wpAny_bind (wpAny_standAt (wpAny_bind (wpAny_mono h (λQt s' h'=>wpAny_pure (And.intro rfl h')) λ_ _ x=>x.elim))))
theorem Qu{iter:Expr}{scope:Scope}{it acc:Value}{env:Env}(I:Nat->Shared->Prop)
  (Gs:∀ x,foldedSetIterable dO env x=pure x)
  (sP:∀ n s,I n s->wpAny (model prog w) A (pyNext it) (λr s₁=>match r with
   | none=>R (.ok .next) s₁
   | some v=>wpAny (model prog w) A (letOwnedTupleGo tg it v) (λ_ s₂=>wpAny (model prog w) A (assign tg env v) (λ_ s₃ =>
     wpAny (model prog w) A (rj jJ env) (λok s₄ =>
      if ok=true then wpAny (model prog w) A (eval dO env) (λx s₅=>wpAny (model prog w) A (pyIter x) (λYg s₆ =>
       codeAny (model prog w) A (.compStart (.ListComp jW [⟨tg,iter,jJ,0⟩,⟨qf,dO,jd,0⟩] scope pos) 1 Yg acc env) (λr s₇=>(∃ f,r=.ok f)/\∃ m,m<n/\I m s₇) s₆) (λ_ _=>False) s₅) (λ_ _=>False) s₄
      else ∃ m,m<n/\I m s₄) (λ_ _=>False) s₃) (λ_ _=>False) s₂) (λ_ _=>False) s₁) (λ_ _=>False) s)
  (n:Nat) (h:I n s):codeAny (model prog w) A (.compLoop (.ListComp jW [⟨tg,iter,jJ,0⟩,⟨qf,dO,jd,0⟩] scope pos) 0 it acc env) R s:=by
 refine codeAny_loop rfl I (λn s hI=>?_) n h;show wpAny _ A ((compTurn (.ListComp jW [⟨tg,iter,jJ,0⟩,⟨qf,dO,jd,0⟩] scope pos) 0 it acc env).onRaise (λx=>do noteFrame x env;theTreesLotGoes x)) _ _ s;refine wpAny_noted ?_;rw[Nl];refine wpAny_bind (wpAny_standAt (wpAny_bind (wpAny_mono (sP n s hI) (λr s₁ h₁=>?_) λ_ _ h'=>h'.elim)))
 cases r with
 | none=>exact wpAny_pure h₁
 | some v =>
  refine wpAny_bind (wpAny_mono h₁ (λ_ s₂ h₂=>wpAny_bind (wpAny_mono h₂ (λ_ s₃ h₃=>wpAny_bind (wpAny_mono h₃ (λok s₄ h₄=>?_) λ_ _ h'=>h'.elim)) λ_ _ h'=>h'.elim)) λ_ _ h'=>h'.elim)
  cases ok with
  | false=>exact wpAny_pure ⟨rfl,h₄⟩
  | true =>
   refine wpAny_bind (wpAny_mono h₄ (λx s₅ h₅=>wpAny_bind (wpAny_standAt (wpAny_bind (wpAny_of_eq (Gs x) (wpAny_bind (wpAny_holding (wpAny_mono h₅ (λYg s₆ h₆=>?_) λ_ _ h'=>h'.elim))))))) λ_ _ h'=>h'.elim);refine wpAny_bind (wpAny_runOwn (codeAny_mono h₆ λr s₇ GC=>?_));obtain⟨⟨f,hf⟩,hm⟩:=GC;subst hf;exact wpAny_pure ⟨rfl,hm⟩
end
section
variable {X:Cx} {N:List Str} {scope:Scope}
def G5(wi:TI)(acc:Addr)(g:TG)(tt:TT)(te:TE):L2.St->Hp->(L2.St->Hp->Prop)->Prop:=fun σ H Nx=>wi σ H λJ H1 =>
 ∃ W:Nat->Nat->L2.St->Hp->Prop,(∃ m,W 0 m σ H1)/\∀ i m σ H,W i m σ H->
  (J.stop i H/\Nx σ H)\/(J.go i H/\∃ N2:L2.St->Hp->Prop,(∀ σ' H',N2 σ' H'->∃ m',m'<m/\W (i+1) m' σ' H')/\∀ x H',J.My i H x H'->g x σ H' fun σ2 H2=>tt σ2 H2 λb H3 =>
   if b=true then te σ2 H3 λv H4=>∃ xs,H4 acc=some (.lst xs)/\xs.length<sizeLine/\N2 σ2 (aP H4 acc (.lst (xs++[v]))) else N2 σ2 H3)
theorem Ky{Y:Cx}{iter:Expr}{G6:TI}{g2:TG}{G7:TT}{te:TE}(hc:Y.calm=true)(hxe:Y.xe=λ_ _=>False)(hi:PI Y qf dO G6)(hg:PG Y qf g2)(ht:Ku Y jd G7)(he:PE Y jW te)
  {ao:List (Addr × Obj)} {s:Shared} {σ:L2.St} {H:Hp} {Nx:L2.St->Hp->Prop} (I:Inv Y ao σ H s) (h:G5 G6 acc g2 G7 te σ H Nx) :
  wpAny (model Y.prog Y.w) Y.A (eval dO Y.env) (λx s₅=>wpAny (model Y.prog Y.w) Y.A (pyIter x) (λYg s₆ =>
   codeAny (model Y.prog Y.w) Y.A (.compStart (.ListComp jW [⟨tg,iter,jJ,0⟩,⟨qf,dO,jd,0⟩] scope pos) 1 Yg (.ref acc) Y.env) (λr s₇=>(∃ f,r=.ok f)/\∃ σ' H',Inv Y ao σ' H' s₇/\Nx σ' H') s₆) (λ_ _=>False) s₅) (λ_ _=>False) s:=by
 have hi':=hi ao s σ H _ I h;have hg':=hg;have ht':=ht;have Jp:=he;unfold PG at hg';unfold Ku at ht';unfold PE at Jp;rw[hxe]at hi' hg' ht' Jp;refine dc hi' λv s1 h1=>dc h1 λXm s2 h2=>?_;obtain⟨it,fp,tn,J,H2,e,I2,T,st2,f2,W,⟨m0,w0⟩,sP⟩:=h2;subst e;have sR:∀ {H':Hp},(∀ b∈fp,H' b=none)->∀ b∈fp,oF Y ao H' b:=λhn b hb=>⟨hn b hb,(f2 b hb).2⟩
 have loop:codeAny (model Y.prog Y.w) Y.A (.compLoop (.ListComp jW [⟨tg,iter,jJ,0⟩,⟨qf,dO,jd,0⟩] scope pos) 1 (.ref it) (.ref acc) Y.env) (λr s₇=>(∃ f,r=.ok f)/\∃ σ' H',Inv Y ao σ' H' s₇/\Nx σ' H') s2:=by
  refine UJ (λn s'=>∃ i σ' H',Inv Y ao σ' H' s'/\tn i s'.heap/\(∀ b∈fp,H' b=none)/\W i n σ' H') ?_ m0 ⟨0,σ,H2,I2,st2,λb hb=>(f2 b hb).1,w0⟩;rintro n s6 ⟨i,σ6,H6,I6,SE,G8,w6⟩;rcases sP i n σ6 H6 w6 with ⟨stop,qn⟩|⟨go,N2,hN,step⟩
  ·refine dc (T.done Y rfl rfl rfl hc i ao s6 σ6 H6 _ I6 (sR G8) SE stop) λr s7 GF=>?_;obtain⟨hr,I7⟩:=GF;subst hr;exact⟨⟨Y⟩,σ6,H6,I7,qn⟩
  ·refine dc (T.item Y rfl rfl rfl hc i ao s6 σ6 H6 _ I6 (sR G8) SE go) λr s7 GD=>?_;obtain⟨u,hr,h7⟩:=GD;subst hr;refine dc h7 λ_ s8 Am=>?_;obtain⟨x,H8,I8,r8,y8,Nm,Eu⟩:=Am;have Yh:=I8.pinned (sR Eu) (T.obj _ _ Nm);refine dc (hg' _ s8 σ6 H8 x u _ Yh r8 (step x H8 y8)) λ_ s9 D9=>?_;obtain⟨σ9,H9,I9,q9⟩:=D9;refine dc (ht' _ s9 σ9 H9 _ I9 q9) λok s10 Cj=>?_;obtain⟨L7,SG,Bs⟩:=Cj
   have again:∀ {σ7:L2.St} {H7:Hp} {vv:Shared},Inv Y (ao++sQ fp s8.heap) σ7 H7 vv->N2 σ7 H7->∃ m,m<n/\∃ i σ' H',Inv Y ao σ' H' vv/\tn i vv.heap/\(∀ b∈fp,H' b=none)/\W i m σ' H':=λ{σ7 H7 vv} I7 n7=>by
    obtain⟨m',hm,w7⟩:=hN σ7 H7 n7;refine⟨m',hm,i+1,σ7,H7,I7.nR,T.keep _ _ _ Nm λb hb o e=>(I7.pin (b,o) (ou _ (ou _ (gU hb e)))).1,λb hb=>?_,w7⟩;obtain⟨o,e,d⟩:=T.obj _ _ Nm b hb;exact (I7.pin (b,o) (ou _ (ou _ (gU hb e)))).2.1
   cases ok with
   | false =>
    rw[if_neg gK]at Bs;exact again SG Bs
   | true =>
    rw[if_pos rfl]at Bs;refine dc (Jp _ s10 σ9 L7 _ SG Bs) λv vv GB=>?_;obtain⟨y,H11,I11,r11,xs,hx,hz,n11⟩:=GB;have ap:=bS _ vv σ9 H11 (.ref acc) [y] (.ref acc) [v] (λ_ H'=>N2 σ9 H') I11 rfl (.cons r11 .nil) ⟨_,xs,y,V,hx,hz,n11⟩;rw[hxe]at ap;exact dc ap λ_ jH ⟨_,Yi,I12,_,UK⟩=>again I12 UK
 exact Qs loop (T.self _ _ _ _ _ st2 loop)
theorem Ew{lo:Int}{k:Nat}{g:TG}{tt:TT}{te:TE}{σ:L2.St}{H:Hp}{Nx:L2.St->Hp->Prop}(Pv:Nat->L2.St->Hp->Prop)(h0:Pv 0 σ H)
  (hs:∀ i σ H,i<k->Pv i σ H->g (.int (lo+i)) σ H fun σ2 H2=>tt σ2 H2 λb H3=>if b=true then te σ2 H3 λv H4=>∃ ys,H4 acc=some (.lst ys)/\ys.length<sizeLine/\Pv (i+1) σ2 (aP H4 acc (.lst (ys++[v]))) else Pv (i+1) σ2 H3)
  (hd:∀ σ H,Pv k σ H->Nx σ H):∃ W:Nat->Nat->L2.St->Hp->Prop,(∃ m,W 0 m σ H)/\∀ i m σ H,W i m σ H->
  ((J6 lo k).stop i H/\Nx σ H)\/((J6 lo k).go i H/\∃ N2:L2.St->Hp->Prop,(∀ σ' H',N2 σ' H'->∃ m',m'<m/\W (i+1) m' σ' H')/\∀ x H',(J6 lo k).My i H x H'->g x σ H' fun σ2 H2=>tt σ2 H2 λb H3 =>
   if b=true then te σ2 H3 λv H4=>∃ xs,H4 acc=some (.lst xs)/\xs.length<sizeLine/\N2 σ2 (aP H4 acc (.lst (xs++[v]))) else N2 σ2 H3):=by
 refine⟨λi m σ H=>m=k-i/\i<=k/\Pv i σ H,⟨k,by simp,Nat.zero_le _,h0⟩,?_⟩;rintro i m σ H ⟨rfl,hi,p⟩;by_cases qe:i<k
 ·refine .inr ⟨qe,Pv (i+1),fun σ' H' p'=>⟨k-(i+1),Q,rfl,qe,p'⟩,λx H' y=>?_⟩;obtain⟨e,y⟩:=y;subst e y;exact hs i σ _ qe p
 ·have e:i=k:=by lia
  subst e;exact .inl ⟨Nat.le_refl _,hd σ H p⟩
end
theorem UL{i:Nat}{v:V}{σ:L2.St}{H:Hp}{Q:L2.St->Bool->Hp->Prop}(h:Q (σ.set i (some v)) true H):rV i v σ H (fun σ2 H2=>Nk σ2 H2 (Q σ2)):=h
theorem yes{σ:L2.St}{H:Hp}{Q:Bool->Hp->Prop}(h:Q true H):Nk σ H Q:=h
end cZ
namespace gA
open L2 cZ
class inductive Qv
 | mk (r:Addr) (row:Row) (_:vs=[.ref r]) (_:cE H r row) (_:(∀ p∈row,p.1<=p.2)) (_:(bO row).length<=1000000) (_ :
 ∀ (n:Addr) (H':Hp),H' n=some (.lst ((bO row).map V.int))->aI H H'->H n=none->Q (.ref n) H')
theorem yX{row:Row}{i:Nat}{p:Int × Int}(h:row[i]?=some p):bO (row.take (i+1))=bO (row.take i)++jw p:=by
 rw[take_snoc h,cY,gx]
theorem sj(row:Row)(i:Nat):(bO (row.take i)).length<=(bO row).length:=by
 conv=>rhs;rw[← List.take_append_drop i row,cY,dB]
 lia
theorem Ex{H0 H2:Hp}{q t:Addr}{bs:List Addr}{row:Row}{st en:Int}(Yj:H0 q=none)(s:aI H0 H2)(d8:H2 q=some (.lst (bs.map V.ref)))(hb:bQ H2 bs row)(ht:H2 t=none) :
  (aP (aP H2 t (.tup [.int st,.int en])) q (.lst (bs.map V.ref++[.ref t]))) q=some (.lst ((bs++[t]).map V.ref))/\
  bQ (aP (aP H2 t (.tup [.int st,.int en])) q (.lst (bs.map V.ref++[.ref t]))) (bs++[t]) (row++[(st,en)])/\aI H0 (aP (aP H2 t (.tup [.int st,.int en])) q (.lst (bs.map V.ref++[.ref t]))):=by
 have UM:q≠t:=aA d8 ht;have s1:aI H2 (aP H2 t (.tup [.int st,.int en])):=ak ht _;refine⟨by rw[af,gJ];rfl,?_,bP Yj (s.trans s1) (aJ q _ _)⟩;refine bQ.snoc ((hb.same s1).keep (s1 _ _ d8) (aJ q _ _)) ?_;show aP _ q _ t=_;rw[aL UM.symm,af]
theorem turned{H0 H2:Hp}{q t a:Addr}{bs:List Addr}{row:Row}{st en:Int}(Yj:H0 q=none)(s:aI H0 H2)(d8:H2 q=some (.lst (bs.map V.ref++[.ref a])))(hb:bQ H2 bs row)(ht:H2 t=none) :
  (aP (aP H2 t (.tup [.int st,.int en])) q (.lst ((bs.map V.ref++[V.ref a]).set bs.length (V.ref t)))) q=some (.lst ((bs++[t]).map V.ref))/\
  bQ (aP (aP H2 t (.tup [.int st,.int en])) q (.lst ((bs.map V.ref++[V.ref a]).set bs.length (V.ref t)))) (bs++[t]) (row++[(st,en)])/\aI H0 (aP (aP H2 t (.tup [.int st,.int en])) q (.lst ((bs.map V.ref++[V.ref a]).set bs.length (V.ref t)))):=by
 have UM:q≠t:=aA d8 ht;have s1:aI H2 (aP H2 t (.tup [.int st,.int en])):=ak ht _
 have e:(bs.map V.ref++[V.ref a]).set bs.length (V.ref t)=(bs++[t]).map V.ref:=by
  have z:=yV (bs.map V.ref) (V.ref a) (V.ref t);rw[cG]at z;rw[z,gJ];rfl
 rw[e];refine⟨af,?_,bP Yj (s.trans s1) (aJ q _ _)⟩;refine bQ.snoc ((hb.same s1).keep (s1 _ _ d8) (aJ q _ _)) ?_;show aP _ q _ t=_;rw[aL UM.symm,af]
theorem Nn(bs:List Addr)(a:Addr):Jb (bs.map V.ref++[V.ref a]).length (-1)=some bs.length:=by
 rw[dB,cG,qX];exact yU _
theorem Kz{f:Row->Int × Int->Row}{row:Row}{i:Nat}{p:Int × Int}(h:row[i]?=some p):(row.take (i+1)).foldl f []=f ((row.take i).foldl f []) p:=foldl_take_succ f row [] i p h
theorem Ey(row:Row):∀ t:Row,(row.foldl ef t).length<=t.length+row.length:=by
 induction row with
 | nil=>intro t;simp
 | cons p row ih =>
  intro t;have h1:=ih (ef t p)
  have h2:(ef t p).length<=t.length+1:=by
   unfold ef;split
   ·lia
   ·exact w9 _ _ _
  rw[lO,mS];lia
theorem yY(ns:List Int):∀ t:Row,(ns.foldl (λt n=>iM t n (n+1)) t).length<=t.length+ns.length:=by
 induction ns with
 | nil=>intro t;simp
 | cons n ns ih =>
  intro t;have h1:=ih (iM t n (n+1));have h2:=w9 t n (n+1);rw[lO,mS];lia
end gA
namespace gA
open Spec Rows L2 cZ
class inductive UN
 | mk (r:Addr) (row:Row) (_:vs=[.ref r]) (_:cE H r row) (_:row.length<=1000000) (_: ∀ H',aI H H'->Q (.int (i6 row)) H')
end gA
namespace fH
open Spec Rows PySem.W L2
end fH
namespace fH
open Spec Rows L2
section
variable {X:Cx}
theorem Jq{xO y:Str}{m n:Nat}(h:xO.length+(n+m)<=1000000)(hy:y.length<=n):(xO++y).length<=sizeLine/\(xO++y).length+m<=1000000:=by
 rw[PySem.strLen_append];refine⟨Nat.le_of_lt (Nat.lt_of_le_of_lt (show xO.length+y.length<=1000000 by lia) (by decide)),Q⟩
def Qw(r r' r2:R2)(ta tb tc td:TE):TT:=fun σ H Q=>ta σ H λx H1=>tb σ H1 λy H2=>r x y H2 λz H3=>∃ k,z=.bl k/\
 (if k=true then tc σ H3 λu H4=>r' y u H4 λz' H5=>∃ k',z'=.bl k'/\(if k'=true then td σ H5 λv H6=>r2 u v H6 λz2 H7=>∃ k2,z2=.bl k2/\Q k2 H7 else Q false H5) else Q false H3)
theorem KA{op Gr UO:CmpOp}{r r' r2:R2}{a b c d:Expr}{ta tb tc td:TE}(ho:uy X (compareOp op) r)(J3:uy X (compareOp Gr) r')(ho2:uy X (compareOp UO) r2)(ha:PE X a ta)(hb:PE X b tb)(hc:PE X c tc)(hd:PE X d td)
  (hm:lastMarks [op,Gr,UO] [b,c,d]=false:=by with_unfolding_all rfl):PT X (.Compare a [op,Gr,UO] [b,c,d] pos) (Qw r r' r2 ta tb tc td):=by
 intro ao s σ H Q I h
 refine isTrue_chain (dc (ha ao s σ H _ I h) λv s1 ⟨x,H1,I1,r1,q1⟩=>test_link (dc (hb ao s1 σ H1 _ I1 q1) λu s2 ⟨y,H2,I2,r2',q2⟩ =>
  dc (ho ao s2 σ H2 x y v u _ I2 r1 r2' q2) λz s3 ⟨z',H3,I3,r3,k,e,q3⟩=>?_)) hm
 subst e;cases r3;refine wpAny_truthy_bool ?_
 cases k with
 | false=>exact ite_ff ⟨H3,I3,q3⟩
 | true =>
  refine ite_tt (test_link (dc (hc ao s3 σ H3 _ I3 q3) λv4 s4 ⟨x4,H4,I4,r4,q4⟩=>dc (J3 ao s4 σ H4 y x4 u v4 _ I4 r2' r4 q4) λz5 s5 GF=>?_));obtain⟨x5,H5,I5,r5,k5,e5,q5⟩:=GF;subst e5;cases r5;refine wpAny_truthy_bool ?_
  cases k5 with
  | false=>exact ite_ff ⟨H5,I5,q5⟩
  | true =>
   refine ite_tt (test_last (dc (hd ao s5 σ H5 _ I5 q5) λv6 s6 ⟨x6,H6,I6,r6,q6⟩=>dc (ho2 ao s6 σ H6 x4 x6 v4 v6 _ I6 r4 r6 q6) λz7 s7 GD=>?_));obtain⟨x7,H7,I7,r7,k7,e7,q7⟩:=GD;subst e7;cases r7;exact wpAny_truthy_bool ⟨H7,I7,q7⟩
end
end fH
namespace gA
open L2 cZ fH
theorem bh{H H':Hp}{a:Addr}(s:aI H H')(h:H' a=none):H a=none:=by
 cases q:H a with
 | none=>rfl
 | some o=>rw[s a o q]at h;cases h
def vz(i:Int):Prop:=-(10^60)<i/\i<10^60
def Np(a b h:Int)(p:Int × Int):Row:=if max (a-h) 0<min (b-h) (p.2-p.1) then [(p.1+max (a-h) 0,p.1+min (b-h) (p.2-p.1))] else []
def ku(a b:Int):Int->Row->Row
 | _,[]=>[]
 | h,p::r=>Np a b h p++ku a b (h+(p.2-p.1)) r
theorem Ez(a b:Int)(p:Int × Int):∀ (r:Row) (c:Int),ku a b c (r++[p])=ku a b c r++Np a b (c+i6 r) p
 | [],c=>by simp[ku,Qk]
 | q::r,c=>by
  have e:c+(q.2-q.1)+i6 r=c+i6 (q::r):=by rw[Es];lia
  rw[List.cons_append,ku,Ez a b p r,ku,e,mU]
theorem UP(a b h:Int)(p:Int × Int):(Np a b h p).length<=1:=by
 unfold Np
 split <;> simp
theorem jR(a b:Int):∀ (r:Row) (c:Int),(ku a b c r).length<=r.length
 | [],_=>gh _
 | q::r,c=>by
  have ih:=jR a b r (c+(q.2-q.1));have z:=UP a b c q;rw[ku,dB,mS];lia
theorem Nq(a b h:Int)(p:Int × Int):∀ q∈Np a b h p,q.1<=q.2:=by
 unfold Np;split
 ·intro q hq;simp only[List.mem_singleton]at hq;subst hq;simp only;lia
 ·intro q hq;cases hq
theorem CG(a b:Int):∀ (r:Row) (c:Int),∀ q∈ku a b c r,q.1<=q.2
 | [],_=>λq hq=>by cases hq
 | p::r,c=>λq hq=>by
  rw[ku]at hq;rcases List.mem_append.mp hq with z|z
  ·exact Nq a b c p q z
  ·exact CG a b r _ q z
theorem EA(s:Int):∀ (n k:Nat),(run s n).drop k=run (s+k) (n-k)
 | n,0=>by simp
 | 0,k+1=>by simp[run]
 | n+1,k+1=>by
  rw[run,List.drop_succ_cons,EA (s+1) n k];have e1:s+1+(k:Int)=s+((k+1:Nat):Int):=by lia
  have e2:n+1-(k+1)=n-k:=by lia
  rw[e1,e2]
theorem EB(s:Int):∀ (n k:Nat),(run s n).take k=run s (min k n)
 | n,0=>by simp[run]
 | 0,k+1=>by simp[run]
 | n+1,k+1=>by
  rw[run,List.take_succ_cons,EB (s+1) n k];have e2:min (k+1) (n+1)=min k n+1:=by lia
  rw[e2,run]
theorem KC(a b h:Int)(p:Int × Int)(hp:p.1<=p.2):bO (Np a b h p)=((jw p).take (b-h).toNat).drop (a-h).toNat:=by
 obtain⟨s,e⟩:=p;simp only at hp;unfold Np jw;simp only;rw[EB,EA,← Int.ofNat_toNat (a-h)];generalize (a-h).toNat=n;generalize b-h=x;have y0:0<=e-s:=by lia
 generalize e-s=y at y0
 have em:min x.toNat y.toNat=(min x y).toNat:=by
  rcases Int.le_total x y with c|c
  ·rw[Int.min_eq_left c,Nat.min_eq_left (Int.toNat_le_toNat c)]
  ·rw[Int.min_eq_right c,Nat.min_eq_right (Int.toNat_le_toNat c)]
 rw[em];generalize min x y=m;clear em y0 hp;by_cases c:(n:Int)<m
 ·rw[if_pos c,gx,jw];simp only;rw[Int.add_sub_add_left,Int.toNat_sub']
 ·rw[if_neg c,Nat.sub_eq_zero_of_le (Int.toNat_le.mpr (Int.not_lt.mp c))];rfl
theorem yZ(b h:Int)(L:Nat):(b-(h+L)).toNat=(b-h).toNat-L:=by rw[← Int.sub_sub,Int.toNat_sub']
theorem rm(a b:Int):∀ (r:Row) (h:Int),(∀ p∈r,p.1<=p.2)->bO (ku a b h r)=((bO r).take (b-h).toNat).drop (a-h).toNat
 | [],h,_=>by simp[ku,bO]
 | p::r,h,ok=>by
  have hp:=ok p (List.mem_cons_self ..);have ih:=rm a b r (h+(p.2-p.1)) λq hq=>ok q (nQ _ hq);have e:bO (p::r)=jw p++bO r:=rfl;have hl:=xg p hp;rw[ku,cY,KC a b h p hp,ih,e,List.take_append,List.drop_append,gF];congr 1;rw[← hl,yZ,yZ];by_cases hb:(jw p).length<=(b-h).toNat
  ·rw[Nat.min_eq_right hb]
  ·rw[Nat.sub_eq_zero_of_le (Nat.le_of_not_le hb)];simp
def Ma(a b t:Int):Prop:=0<=a/\a<=b/\b<=t
class inductive EC
 | mk (r:Addr) (row:Row) (a b:Int) (_:vs=[.ref r,.int a,.int b]) (_:cE H r row) (_:row.length<=1000000) (_ :
 ∀ (q:Addr) (H':Hp),cE H' q (ku a b 0 row)->aI H H'->H q=none->Q (.ref q) H')
end gA
namespace gA
open L2 cZ fH
end gA
namespace gA
open L2 cZ fH
theorem m7(r:Row)(ok:∀ p∈r,p.1<=p.2):bO (cA r)=bO r:=by rw[yS r ok,eN]
theorem pD(a b:Int)(row:Row)(ok:∀ p∈row,p.1<=p.2):bO (cA (ku a b 0 row))=((bO row).take b.toNat).drop a.toNat:=by
 rw[m7 _ (CG a b row 0),rm a b row 0 ok,Int.sub_zero,Int.sub_zero]
theorem Jr(s:Int):∀ (n k:Nat),k<n->(run s n)[k]?=some (s+k)
 | 0,k,h=>by lia
 | n+1,0,_=>by simp[run]
 | n+1,k+1,h=>by
  rw[run,List.getElem?_cons_succ,Jr (s+1) n k ∅];congr 1;lia
theorem lJ(r:Row):(cA r).length<=r.length:=by
 have z:=Ey r [];simpa [cA] using z
end gA
namespace gA
open Spec Rows L2 cZ fH
theorem bQ.append{H:Hp}{as bs:List Addr}{r q:Row}(h:bQ H as r)(t:bQ H bs q):bQ H (as++bs) (r++q):=by
 induction h with
 | nil=>exact t
 | cons e _ ih=>exact .cons e ih
theorem UQ{r q:Row}(h:∀ p∈r,p.1<=p.2)(g:∀ p∈q,p.1<=p.2):∀ p∈r++q,p.1<=p.2:=λp hp=>(List.mem_append.mp hp).elim (h p) (g p)
end gA
namespace L2
open Spec Rows
section
variable {κ:Type} [DecidableEq κ]
def cI(kvs:List (κ × V))(k:κ):Option V:=(kvs.find? λkv=>decide (kv.1=k)).map (·.2)
def eY(kvs:List (κ × V))(k:κ)(v:V):List (κ × V) :=
 if (kvs.any λkv=>decide (kv.1=k))=true then kvs.map (λkv=>if kv.1=k then (kv.1,v) else kv) else kvs++[(k,v)]
theorem gV{p:κ × V}{r:List (κ × V)}{k:κ}(e:p.1=k):cI (p::r) k=some p.2:=by simp[cI,List.find?_cons,e]
theorem gW{p:κ × V}{r:List (κ × V)}{k:κ}(e:¬ p.1=k):cI (p::r) k=cI r k:=by simp[cI,List.find?_cons,e]
theorem mw(k:κ):∀ kvs:List (κ × V),(kvs.any λkv=>decide (kv.1=k))=(cI kvs k).isSome
 | []=>rfl
 | p::r=>by
  rw[List.any_cons];by_cases e:p.1=k
  ·simp only[gV e,decide_eq_true e,Bool.true_or,Option.isSome_some]
  ·rw[gW e,decide_eq_false e,Bool.false_or];exact mw k r
theorem ED(k j:κ)(y:V):∀ kvs:List (κ × V),cI (kvs.map λkv=>if kv.1=k then (kv.1,y) else kv) j=(cI kvs j).map λx=>if j=k then y else x
 | []=>rfl
 | p::r=>by
  have ih:=ED k j y r;rw[jI];by_cases h:p.1=k
  ·rw[if_pos h];by_cases e:p.1=j
   ·rw[gV (p:=(p.1,y)) e,gV e,Option.map_some,if_pos (e.symm.trans h)]
   ·rw[gW (p:=(p.1,y)) e,gW e,ih]
  ·rw[if_neg h];by_cases e:p.1=j
   ·rw[gV (p:=p) e,gV e,Option.map_some,if_neg (λz=>h (e.trans z))]
   ·rw[gW (p:=p) e,gW e,ih]
theorem By(k j:κ)(y:V):∀ kvs:List (κ × V),cI kvs k=none->cI (kvs++[(k,y)]) j=if j=k then some y else cI kvs j
 | [],_=>by
  by_cases e:k=j
  ·rw[if_pos e.symm];exact gV (p:=(k,y)) e
  ·rw[if_neg (λz=>e z.symm)];exact gW (p:=(k,y)) e
 | p::r,hn=>by
  rw[List.cons_append];have hk:¬ p.1=k:=λz=>by rw[gV z]at hn;cases hn
  rw[gW hk]at hn;have ih:=By k j y r hn;by_cases e:p.1=j
  ·rw[gV e,gV e,if_neg (λz=>hk (e.trans z))]
  ·rw[gW e,gW e,ih]
theorem j4(kvs:List (κ × V))(k j:κ)(y:V):cI (eY kvs k y) j=if j=k then some y else cI kvs j:=by
 unfold eY;by_cases a:(kvs.any λkv=>decide (kv.1=k))=true
 ·rw[if_pos a,ED];rw[mw]at a;by_cases e:j=k
  ·obtain⟨x,hx⟩:=Option.isSome_iff_exists.mp a;rw[if_pos e,e,hx,Option.map_some,if_pos rfl]
  ·rw[if_neg e]
   cases cI kvs j with
   | none=>rfl
   | some x=>rw[Option.map_some,if_neg e]
 ·rw[if_neg a];refine By k j y kvs ?_;rw[mw]at a
  cases q:cI kvs k with
  | none=>rfl
  | some x=>rw[q]at a;exact (a rfl).elim
theorem gX(kvs:List (κ × V))(k:κ)(v:V):(eY kvs k v).length<=kvs.length+1:=by
 unfold eY;split
 ·rw[cG];lia
 ·rw[dB,mS,rL];lia
theorem y9{kvs:List (κ × V)}{k:κ}(v:V)(h:cI kvs k=none):eY kvs k v=kvs++[(k,v)]:=by
 unfold eY;rw[mw,h];exact if_neg (by decide)
theorem rM.vP{o:Option V}{u:Option Value}(r:rM o u):o.isSome=u.isSome:=by
 cases o with
 | none=>cases u with
  | none=>rfl
  | some _=>exact (show False from r).elim
 | some _=>cases u with
  | none=>exact (show False from r).elim
  | some _=>rfl
theorem KV.val{kvs:List (κ × V)}{vs:List (κ × Value)}(r:KV kvs vs)(k:κ):rM (cI kvs k) (valueAt vs k):=by
 unfold KV at r
 induction r with
 | nil=>exact True.intro
 | @cons p q ps qs h t ih =>
  obtain⟨h1,h2⟩:=h;by_cases e:p.1=k
  ·have e':q.1=k:=h1.symm.trans e;have b:valueAt (q::qs) k=some q.2:=by simp[valueAt,List.find?_cons,e']
   rw[gV e,b];exact h2
  ·have e':¬ q.1=k:=λz=>e (h1.trans z);have b:valueAt (q::qs) k=valueAt qs k:=by simp[valueAt,List.find?_cons,e']
   rw[gW e,b];exact ih
theorem KV.any{kvs:List (κ × V)}{vs:List (κ × Value)}(r:KV kvs vs)(k:κ):(kvs.any λkv=>decide (kv.1=k))=vs.any λkv=>decide (kv.1=k):=by
 unfold KV at r
 induction r with
 | nil=>rfl
 | cons h t ih=>rw[List.any_cons,List.any_cons,ih,h.1]
theorem KV.repl{kvs:List (κ × V)}{vs:List (κ × Value)}(r:KV kvs vs)(k:κ){y:V}{u:Value}(ry:RelV y u) :
  KV (kvs.map λkv=>if kv.1=k then (kv.1,y) else kv) (vs.map λkv=>if kv.1=k then (kv.1,u) else kv):=by
 unfold KV at r ⊢
 induction r with
 | nil=>exact .nil
 | @cons p q ps qs h t ih =>
  rw[jI,jI];refine .cons ?_ ih;obtain⟨h1,h2⟩:=h;by_cases e:p.1=k
  ·rw[if_pos e,if_pos (h1.symm.trans e)];exact⟨h1,ry⟩
  ·rw[if_neg e,if_neg (λz=>e (h1.trans z))];exact⟨h1,h2⟩
theorem KV.put{kvs:List (κ × V)}{vs:List (κ × Value)}(r:KV kvs vs)(k:κ){y:V}{u:Value}(ry:RelV y u):KV (eY kvs k y) (stored vs k u):=by
 unfold eY stored;rw[r.any k];by_cases e:(vs.any λkv=>decide (kv.1=k))=true
 ·rw[if_pos e,if_pos e];exact r.repl k ry
 ·rw[if_neg e,if_neg e];exact Paired.snoc r ⟨rfl,ry⟩
theorem KV.length{kvs:List (κ × V)}{vs:List (κ × Value)}(r:KV kvs vs):kvs.length=vs.length:=Paired.length r
end
theorem BA{P:Program}{w:World}{k:fj}{u:Value}(r:RelV (kV k) u):(fY P w).is k u=true:=by
 cases k with
 | inl i=>obtain⟨t,e⟩:=(show ∃ t,u=Value.int i t from r);subst e;exact D0 P w i t
 | inr x=>obtain⟨t,e⟩:=(show ∃ t,u=Value.str x t from r);subst e;exact D3 P w x t
theorem BB{P:Program}{w:World}:∀ {ks:List fj} {us:List Value},cu (ks.map kV) us->ItemsAre (fY P w) ks us
 | [],_,r=>by rw[List.map_nil]at r;cases r;exact .nil
 | k::ks,_,r=>by
  rw[jI]at r
  cases r with
  | cons h t=>exact .cons (BA h) (BB t)
abbrev KT(H:Hp):List (List fj × V)->List (List fj × Addr × Value)->Prop:=Paired λp q=>p.1=q.1/\H q.2.1=some (.tup (p.1.map kV))/\RelV p.2 q.2.2
theorem KT.val{H:Hp}{kvs:List (List fj × V)}{xs:List (List fj × Addr × Value)}(r:KT H kvs xs)(k:List fj):rM (cI kvs k) ((atKey xs k).map (·.2)):=by
 induction r with
 | nil=>exact True.intro
 | @cons p q ps qs h t ih =>
  obtain⟨h1,_,h2⟩:=h;by_cases e:p.1=k
  ·have e':q.1=k:=h1.symm.trans e;have b:atKey (q::qs) k=some q.2:=by simp[atKey,List.find?_cons,e']
   rw[gV e,b];exact h2
  ·have e':¬ q.1=k:=λz=>e (h1.trans z);have b:atKey (q::qs) k=atKey qs k:=by simp[atKey,List.find?_cons,e']
   rw[gW e,b];exact ih
theorem KT.repl{H:Hp}{kvs:List (List fj × V)}{xs:List (List fj × Addr × Value)}(r:KT H kvs xs)(k:List fj){y:V}{u:Value}(ry:RelV y u) :
  KT H (kvs.map λkv=>if kv.1=k then (kv.1,y) else kv) (xs.map (putAt k u)):=by
 induction r with
 | nil=>exact .nil
 | @cons p q ps qs h t ih =>
  rw[jI,jI];refine .cons ?_ ih;obtain⟨h1,h2,h3⟩:=h;unfold putAt;by_cases e:p.1=k
  ·rw[if_pos e,if_pos (h1.symm.trans e)];exact⟨h1,h2,ry⟩
  ·rw[if_neg e,if_neg (λz=>e (h1.trans z))];exact⟨h1,h2,h3⟩
theorem KT.put{H:Hp}{kvs:List (List fj × V)}{xs:List (List fj × Addr × Value)}(r:KT H kvs xs)(k:List fj){b:Addr}{y:V}{u:Value}(hb:H b=some (.tup (k.map kV)))(ry:RelV y u) :
  KT H (eY kvs k y) (storedH xs k b u):=by
 have e:(kvs.any λkv=>decide (kv.1=k))=(atKey xs k).isSome:=by
  rw[mw,(r.val k).vP,Option.isSome_map]
 unfold eY storedH;rw[e];by_cases q:(atKey xs k).isSome=true
 ·rw[if_pos q,if_pos q];exact r.repl k ry
 ·rw[if_neg q,if_neg q];exact Paired.snoc r ⟨rfl,hb,ry⟩
theorem KT.keeps{H H':Hp}{kvs:List (List fj × V)}{xs:List (List fj × Addr × Value)}(r:KT H kvs xs)(ht:∀ b ys,H b=some (.tup ys)->H' b=some (.tup ys)):KT H' kvs xs :=
 Paired.Gz r λ_ _ z=>⟨z.1,ht _ _ z.2.1,z.2.2⟩
section
variable {P:Program} {w:World} {H:Hp} {h:Heap} {a:Addr}
theorem SH{u:HO}(ok:ux P w H h)(e:Rd H a u):gn P w H h a u:=e.ok ok
theorem EE{kvs:List (fj × V)}(ok:ux P w H h)(e:Rd H a (.dK kvs)):kvs.length<=sizeLine/\(a == sysModules)=false/\∃ vs,KV kvs vs/\h.DictOf (fY P w) a vs :=
 show gn P w H h a (.dK kvs) from SH ok e
theorem Nr{kvs:List (fj × V)}(ok:ux P w H h)(e:H a=some (.dK kvs)):kvs.length<=sizeLine/\(a == sysModules)=false/\∃ vs,KV kvs vs/\h.DictOf (fY P w) a vs:=EE ok (.inl e)
theorem CH{ks:List fj}(ok:ux P w H h)(e:H a=some (.tup (ks.map kV))):(tupleKind (fY P w)).is h ks a:=by
 obtain⟨_,aN,r,o,h1,h2,n,h3⟩:=(show gn P w H h a (.tup (ks.map kV)) from ok a _ e);exact⟨o,aN.toArray,n,h1,h2,h3,by simpa using BB r⟩
theorem EF{kvs:List (List fj × V)}(ok:ux P w H h)(e:Rd H a (.dT kvs)):kvs.length<=sizeLine/\(a == sysModules)=false/\
  ∃ xs,KT H kvs xs/\h.DictOfH (tupleKind (fY P w)) a xs:=by
 obtain⟨z,y,xs,r,o,es,ep,h1,h2,h3,h4,h5⟩:=(show gn P w H h a (.dT kvs) from SH ok e);refine⟨z,y,xs,r,o,es,ep,h1,h2,h3,h4,λx hx=>?_,h5⟩
 have all:∀ {l:List (List fj × V)} {m:List (List fj × Addr × Value)},KT H l m->∀ x∈m,(tupleKind (fY P w)).is h x.1 x.2.1:=by
  intro l m q
  induction q with
  | nil=>intro x hx;exact nomatch hx
  | @cons p q ps qs hq t ih =>
   intro x hx;rcases List.mem_cons.mp hx with e|hx
   ·subst e;exact CH ok (by rw[← hq.1];exact hq.2.1)
   ·exact ih x hx
 exact all r x hx
theorem Yk{kvs:List (List fj × V)}(ok:ux P w H h)(e:H a=some (.dT kvs)):kvs.length<=sizeLine/\(a == sysModules)=false/\
  ∃ xs,KT H kvs xs/\h.DictOfH (tupleKind (fY P w)) a xs:=EF ok (.inl e)
end
def iN(H:Hp)(a:Addr)(y:V)(r:Option V):Prop :=
 (∃ kvs k,Rd H a (.dK kvs)/\y=kV k/\r=cI kvs k)\/∃ kvs k b,Rd H a (.dT kvs)/\y=.ref b/\H b=some (.tup (k.map kV))/\r=cI kvs k
def CJ(H:Hp)(a:Addr)(y v:V)(H':Hp):Prop :=
 (∃ kvs k,H a=some (.dK kvs)/\y=kV k/\kvs.length<sizeLine/\H'=aP H a (.dK (eY kvs k v)))\/
 ∃ kvs k b,H a=some (.dT kvs)/\y=.ref b/\H b=some (.tup (k.map kV))/\kvs.length<sizeLine/\H'=aP H a (.dT (eY kvs k v))
theorem iN.k{H:Hp}{a:Addr}{kvs:List (fj × V)}{k:fj}(e:H a=some (.dK kvs)):iN H a (kV k) (cI kvs k):=.inl ⟨kvs,k,.inl e,V⟩
theorem CJ.k{H:Hp}{a:Addr}{kvs:List (fj × V)}{k:fj}{v:V}(e:H a=some (.dK kvs))(hl:kvs.length<sizeLine):CJ H a (kV k) v (aP H a (.dK (eY kvs k v))):=.inl ⟨kvs,k,e,rfl,hl,rfl⟩
section
variable {X:Cx} {ao:List (Addr × Obj)} {σ:St} {H:Hp} {s:Shared} {a:Addr} {y v:V} {u r:Value} {o:Option V} {A:Around} {E:Value->Shared->Prop}
theorem Inv.big(I:Inv X ao σ H s):sysModules<s.heap.objs.size:=by
 have h:mainGlobals<s.heap.objs.size:=(I.mod.glob.keeps I.bk).lt;exact Nat.lt_trans (by decide) h
theorem KD{Q:Value->Shared->Prop}(hu:A.units+1<cLine)(I:Inv X ao σ H s)(g:iN H a y (some v))(ry:RelV y u)(h:∀ w' s',Inv X ao σ H s'->RelV v w'->Q w' s') :
  wpAny (model X.prog X.w) A (getItem (.ref a) u) Q E s:=by
 rcases g with ⟨kvs,k,e,ey,l⟩|⟨kvs,k,b,e,ey,eb,l⟩
 ·subst ey;obtain⟨z,hd,vs,xh,dd⟩:=EE I.hok e;obtain⟨w',hw,jP⟩:=rM.some_of (v:=v) (o:=valueAt vs k) (by rw[l];exact xh.val k);exact wpAny_getItem_of (BA ry) dd.mapOf hw (h w' _ (I.tok _) jP)
 ·subst ey;cases (show u=Value.ref b from ry);obtain⟨z,hd,xs,xh,dd⟩:=EF I.hok e;obtain⟨w',hw,jP⟩:=rM.some_of (v:=v) (o:=(atKey xs k).map (·.2)) (by rw[l];exact xh.val k);obtain⟨p,hp,SI⟩:=Option.map_eq_some_iff.mp hw;refine wpAny_getItem_heap (tupleKind_room_in1 hu) (CH I.hok eb) dd hp ?_;rw[SI];exact h w' _ (I.tok _) jP
theorem Qx{Q:Value->Shared->Prop}(hu:A.units+1<cLine)(I:Inv X ao σ H s)(g:iN H a y o)(ry:RelV y u)(h:∀ s',Inv X ao σ H s'->Q (.bool (!o.isSome)) s') :
  wpAny (model X.prog X.w) A (compareOp .NotIn u (.ref a)) Q E s:=by
 rcases g with ⟨kvs,k,e,ey,l⟩|⟨kvs,k,b,e,ey,eb,l⟩
 ·subst ey;obtain⟨z,hd,vs,xh,dd⟩:=EE I.hok e;refine wpAny_notIn_of (BA ry) hd dd.mapOf ?_;rw[← (xh.val k).vP,← l];exact h _ (I.tok _)
 ·subst ey;cases (show u=Value.ref b from ry);obtain⟨z,hd,xs,xh,dd⟩:=EF I.hok e;refine wpAny_notIn_heap (tupleKind_room_in1 hu) (CH I.hok eb) hd dd ?_;have q:=(xh.val k).vP;rw[Option.isSome_map]at q;rw[← q,← l];exact h _ (I.tok _)
theorem yk{h':Heap}{t':Nat}{ob:HO}(I:Inv X ao σ H s)(mu:WX (H a))(hs:Heap.SameBut a s.heap h')(he:∃ q,h'.get? a=some q)(new:gn X.prog X.w (aP H a ob) h' a ob) :
  Inv X ao σ (aP H a ob) { s with heap:=h',toks:=t' } :=
 I.write (x:=a) (e:=a) mu (.inl rfl) (λb q hb z=>(hs.2 b hb).trans z) he new
theorem G9{P:Program}{w:World}{H':Hp}{h':Heap}{kvs:List (fj × V)}{vs:List (fj × Value)}(z:kvs.length<=sizeLine)(hd:(a == sysModules)=false)(xh:KV kvs vs)(dd:h'.DictOf (fY P w) a vs) :
  gn P w H' h' a (.dK kvs):=⟨z,hd,vs,xh,dd⟩
theorem KG{H':Hp}{Q:Unit->Shared->Prop}(hu:A.units+1<cLine)(I:Inv X ao σ H s)(g:CJ H a y v H')(ry:RelV y u)(rv:RelV v r)(h:∀ s',Inv X ao σ H' s'->Q () s') :
  wpAny (model X.prog X.w) A (setItem (.ref a) u r) Q E s:=by
 rcases g with ⟨kvs,k,e,ey,l,eH⟩|⟨kvs,k,b,e,ey,eb,l,eH⟩
 ·subst ey eH;obtain⟨z,hd,vs,xh,dd⟩:=Nr I.hok e;have hz:vs.length<=sizeLine:=by rw[← xh.length];exact z
  have hl:(eY kvs k v).length<=sizeLine:=by have:=gX kvs k v;lia
  refine wpAny_setItem_pairs (hsz:=hz) (BA ry) dd λh' Pq hs=>h _ ?_;have he:∃ q,h'.get? a=some q:=let ⟨q,P,hq,_⟩:=Pq;⟨q,hq⟩;exact yk I (by rw[e];exact True.intro) hs he (G9 hl hd (xh.put k rv) Pq)
 ·subst ey eH;cases (show u=Value.ref b from ry);obtain⟨z,hd,xs,xh,dd⟩:=Yk I.hok e;have hz:xs.length<=sizeLine:=by rw[← Paired.length xh];exact z
  have hl:(eY kvs k v).length<=sizeLine:=by have:=gX kvs k v;lia
  refine wpAny_setItem_heap (hsz:=hz) (tupleKind_room_in1 hu) (CH I.hok eb) dd λh' Pq hs=>h _ ?_;obtain⟨q,es,ep,hq,h2,h3,h4,_,h5⟩:=Pq;refine yk I (by rw[e];exact True.intro) hs ⟨q,hq⟩ ⟨hl,hd,_,(xh.put k eb rv).keeps λc ys ec=>?_,q,es,ep,hq,h2,h3,h4,h5⟩;rw[aL (dG ec e (λz=>nomatch z))];exact ec
end
def UR(i:Expr):Prop:=∀ ov iv,subscripted i false ov iv=operate [ov,iv] (getItem ov iv)
theorem Qy{prog:Program}{w:World}{A:Around}{E:Value->Shared->Prop}{s:Shared}{env:Env}{T id:String}{Q:Value->Shared->Prop}
  (hl:typeLookup (.type T) "__getitem__"=pure (some (.builtin id))) (hs:UR rW)
  (h:wpAny (model prog w) A (eval value env) (λo s₁=>wpAny (model prog w) A (eval rW env) (λi s₂=>s₂.TypeIs o T/\wpAny (model prog w) A (getItem o i) Q E s₂) E s₁) E s) :
  wpAny (model prog w) A (eval (.Subscript value rW pos) env) Q E s:=by
 refine Subscript_ (wpAny_mono h (λo s₁ h₁=>wpAny_mono h₁ (λi s₂ h₂=>?_) λ_ _ x=>x) λ_ _ x=>x);obtain⟨hT,h₂⟩:=h₂;unfold subscriptTail;refine wpAny_bind ?_;rw[getitemInPython_of_ne hT.not_modules];refine wpAny_bind (wpAny_specialOf hT hl ?_)
 have kq:wpAny (model prog w) A (subscripted rW false o i) (λr s₃=>wpAny (model prog w) A (letTemporaryGo value o r >>= λ_=>pure r) Q E s₃) E s₂:=by
  rw[hs o i];exact wpAny_operating (wpAny_mono h₂ (λr s₃ h₃=>wpAny_bind (wpAny_letTemporaryGo (wpAny_pure h₃))) λ_ _ x=>x)
 first
  | exact wpAny_pure (wpAny_bind kq)
  | exact wpAny_bind (wpAny_pure (wpAny_bind kq))
  | exact wpAny_bind kq
theorem EG{X:Cx}{σ:St}{H:Hp}{s:Shared}{a:Addr}{y:V}{o:Option V}(I:Inv X ao σ H s)(g:iN H a y o):s.TypeIs (.ref a) "dict":=by
 rcases g with ⟨kvs,k,e,_,_⟩|⟨kvs,k,b,e,_,_,_⟩
 ·obtain⟨_,_,vs,_,dd⟩:=EE I.hok e;exact dd.typeIs
 ·obtain⟨_,_,xs,_,dd⟩:=EF I.hok e;exact dd.typeIs
inductive Yl(x y:V)(H:Hp)(Q:VK):Prop
 | mk (a:Addr) (v:V) (_:x=.ref a) (_:iN H a y (some v)) (_:Q v H):Yl x y H Q
def SJ(td ty:TE):TE:=fun σ H Q=>td σ H λx H1=>ty σ H1 λy H2=>Yl x y H2 Q
def Qz(ty td:TE):TE:=fun σ H Q=>ty σ H λy H1=>td σ H1 λx H2=>∃ a o,x=.ref a/\iN H2 a y o/\Q (.bl (!o.isSome)) H2
def Ym(td ty tv:TE):TS:=λD σ H=>tv σ H λv H1=>td σ H1 λx H2=>ty σ H2 λy H3=>∃ a H4,x=.ref a/\CJ H3 a y v H4/\D.nx σ H4
section
variable {X:Cx} {o i e value:Expr} {pos iQ Kc:Pos} {td ty tv:TE}
theorem QA(hu:X.A.units+1<cLine)(ho:PE X o td)(hi:PE X i ty)(hs:UR i):PE X (.Subscript o i pos) (SJ td ty):=by
 intro ao s σ H Q I h;refine Qy PySem.F.slot_dict_getitem.lookup hs (dc (ho ao s σ H _ I h) λu s1 ⟨x,H1,I1,rx,q1⟩=>dc (hi ao s1 σ H1 _ I1 q1) λiv s2 Am=>?_);obtain⟨y,H2,I2,ry,a,v,ex,g,q2⟩:=Am;subst ex;obtain rfl:u=Value.ref a:=rx;exact⟨EG I2 g,KD hu I2 g ry λw' s3 I3 jP=>⟨v,H2,I3,jP,q2⟩⟩
theorem BC(hu:X.A.units+1<cLine)(hi:PE X i ty)(ho:PE X o td):PC X .NotIn i o (Qz ty td):=by
 intro ao s σ H Q I h;refine dc (hi ao s σ H _ I h) λiv s1 ⟨y,H1,I1,ry,q1⟩=>dc (ho ao s1 σ H1 _ I1 q1) λu s2 Cj=>?_;obtain⟨x,H2,I2,rx,a,ov,ex,g,q2⟩:=Cj;subst ex;obtain rfl:u=Value.ref a:=rx;exact Qx hu I2 g ry λs3 I3=>⟨.bl (!ov.isSome),H2,I3,rfl,q2⟩
theorem uN(hu:X.A.units+1<cLine)(ho:PE X o td)(hi:PE X i ty)(hv:PE X value tv)(hs:swapsWith value (some (.Subscript o i iQ)) pos.line X.env=pure false) :
  PS X (.Assign [.Subscript o i iQ] value pos) (Ym td ty tv):=by
 intro ao s σ H D I h;refine wpAny_Assign_Subscript (dc (hv ao s σ H _ I h) λr s1 ⟨v,H1,I1,rv,q1⟩=>dc (ho ao s1 σ H1 _ I1 q1) λu s2 ⟨x,H2,I2,rx,q2⟩=>dc (hi ao s2 σ H2 _ I2 q2) λiv s3 ⟨y,H3,I3,ry,a,H4,ex,g,q3⟩=>?_) hs;subst ex;obtain rfl:u=Value.ref a:=rx;exact KG hu I3 g ry rv λs4 I4=>⟨σ,H4,I4,q3⟩
end
theorem EH{P:Program}{w:World}{H:Hp}(h:Heap)(hb:sysModules<h.objs.size):gn P w H (h.push { cls:=.type "dict",data:=.dict #[] }) h.objs.size (.dK []) :=
 ⟨Nat.zero_le _,beq_eq_false_iff_ne.mpr (Ne.symm (kC hb)),[],.nil,Heap.DictOf.new h⟩
def US:TE:=λ_ H Q=>∀ p,H p=none->Q (.ref p) (aP H p (.dK []))
section
variable {X:Cx} {pos:Pos}
theorem mz:PE X (.Dict [] [] pos) US:=λao s σ H Q I h =>
 wpAny_Dict_empty ⟨.ref s.heap.objs.size,_,I.laid (a:=s.heap.objs.size) (o:=.dK []) (t':=s.toks) (λ_ _ q=>Heap.get?_push_of_some _ q) (gh _) (EH s.heap I.big),rfl,h _ (I.hok.fresh (gh _))⟩
end
def Hf:List (TE × TE)->St->Hp->(List (V × V)->Hp->Prop)->Prop
 | [],_,H,Q=>Q [] H
 | (tk,tv)::r,σ,H,Q=>tk σ H λx H1=>tv σ H1 λy H2=>Hf r σ H2 λps H3=>Q ((x,y)::ps) H3
abbrev VV:List (V × V)->List (Value × Value)->Prop:=Paired λp q=>RelV p.1 q.1/\RelV p.2 q.2
def PPs(X:Cx)(pos:Pos)(EI:List (Option Expr))(za:List Expr)(QB:List (TE × TE)):Prop :=
 ∀ (ao:List (Addr × Obj)) (s:Shared) (σ:St) (H:Hp) (Q:List (V × V)->Hp->Prop),Inv X ao σ H s->Hf QB σ H Q->
  wpAny (model X.prog X.w) X.A (evalPairs (pairTrees EI za X.env pos)) (λvs s'=>∃ ps H',Inv X ao σ H' s'/\VV ps vs/\Q ps H') X.xe s
theorem QC{X:Cx}:PPs X pos [] [] []:=λao s σ H Q I h=>pairTrees_nil_walk ⟨[],H,I,.nil,h⟩
theorem uO{X:Cx}{k v:Expr}{ks:List (Option Expr)}{tk tv:TE}{QB:List (TE × TE)}(hk:PE X k tk)(hv:PE X v tv)(hr:PPs X pos ks vs QB) :
  PPs X pos (some k::ks) (v::vs) ((tk,tv)::QB):=λao s σ H Q I h =>
 pairTrees_cons_walk (dc (hk ao s σ H _ I h) λu s1 ⟨x,H1,I1,rx,q1⟩=>dc (hv ao s1 σ H1 _ I1 q1) λw2 s2 ⟨y,H2,I2,ry,q2⟩ =>
  dc (hr ao s2 σ H2 _ I2 q2) λws s3 ⟨ps,H3,I3,xh,q3⟩=>⟨(x,y)::ps,H3,I3,.cons ⟨rx,ry⟩ xh,q3⟩)
def vQ(kvs xK:List (fj × V)):List (fj × V):=xK.foldl (λacc kv=>eY acc kv.1 kv.2) kvs
theorem KV.merge:∀ {xK:List (fj × V)} {rs:List (fj × Value)} {kvs:List (fj × V)} {vs:List (fj × Value)},KV xK rs->KV kvs vs->KV (vQ kvs xK) (merged vs rs):=by
 intro xK rs kvs vs r;unfold KV at r
 induction r generalizing kvs vs with
 | nil=>intro q;exact q
 | @cons p q ps qs h t ih =>
  intro r0
  have e:KV (eY kvs p.1 p.2) (stored vs q.1 q.2):=by
   have:=r0.put p.1 h.2;rw[← h.1];exact this
  exact ih e
theorem su:∀ (xK kvs:List (fj × V)),(vQ kvs xK).length<=kvs.length+xK.length
 | [],kvs=>by show kvs.length<=kvs.length+0;lia
 | p::r,kvs=>by
  have h1:=su r (eY kvs p.1 p.2);have h2:=gX kvs p.1 p.2;show (vQ (eY kvs p.1 p.2) r).length<=_;rw[mS];lia
theorem zb{P:Program}{w:World}:∀ {kvs:List (fj × V)} {ws:List (Value × Value)},VV (kvs.map λkv=>(kV kv.1,kv.2)) ws->∃ rs,Carries (fY P w) ws rs/\KV kvs rs
 | [],_,r=>by rw[List.map_nil]at r;cases r;exact⟨[],True.intro,.nil⟩
 | p::kvs,_,r=>by
  rw[jI]at r
  cases r with
  | @cons a b as bs h t =>
   obtain⟨rs,c,q⟩:=zb (P:=P) (w:=w) t;obtain⟨b1,b2⟩:=b;exact⟨(p.1,b2)::rs,⟨BA h.1,rfl,c⟩,.cons ⟨rfl,h.2⟩ q⟩
def Nt(QB:List (TE × TE)):TE:=fun σ H Q=>∀ p,H p=none->Hf QB σ (aP H p (.dK [])) λps H2=>H2 p=some (.dK [])/\∃ kvs:List (fj × V),ps=kvs.map (λkv=>(kV kv.1,kv.2))/\kvs.length<=15/\Q (.ref p) (aP H2 p (.dK (vQ [] kvs)))
theorem QD{X:Cx}{EI:List (Option Expr)}{za:List Expr}{QB:List (TE × TE)}(h:PPs X pos EI za QB)(MX:EI.all (·.isSome)=true)(hl:EI.length=za.length)(h0:EI≠[])
  (h15:EI.length<=15):PE X (.Dict EI za pos) (Nt QB):=by
 intro ao s σ H Q I q;have hn:=I.hok.fresh (gh s.heap.objs.size);have I1:=I.laid (a:=s.heap.objs.size) (o:=.dK []) (h':=s.heap.push { cls:=.type "dict",data:=.dict #[] }) (t':=s.toks) (λ_ _ q=>Heap.get?_push_of_some _ q) (gh _) (EH s.heap I.big);refine wpAny_Dict_walk (knd:=fY X.prog X.w) MX hl h0 h15 (dc (h ao _ σ _ _ I1 (q _ hn)) λws s2 GF=>?_);obtain⟨ps,H2,I2,xh,e,kvs,ep,lk,q2⟩:=GF;subst ep;obtain⟨rs,c,rk⟩:=zb (P:=X.prog) (w:=X.w) xh;obtain⟨z,hd,vs0,r0,dd⟩:=Nr I2.hok e;cases r0;refine⟨rs,c,dd,λh' Pq hs=>⟨.ref s.heap.objs.size,_,?_,rfl,q2⟩⟩
 have hz:(vQ [] kvs).length<=sizeLine:=by
  have h1:=su kvs [];rw[rL]at h1;rw[sizeLine_eq];lia
 have he:∃ q,h'.get? s.heap.objs.size=some q:=let ⟨q,P,hq,_⟩:=Pq;⟨q,hq⟩;exact yk I2 (by rw[e];exact True.intro) hs he (G9 hz hd (rk.merge .nil) Pq)
structure M2(X:Cx)(o:Expr)(m:Str)(lu:Pos)(e f:Expr)(qt:Pos):Prop where
 zt:attributeBase o m X.env (eval o X.env)=eval o X.env
 few:((backTo qt (starEach [e,f] X.env)).all (λx=>!x.1)&&(backToKw qt (keywordEach [] X.env)).all (λx=>x.1.isSome)
  && decide (([e,f]:List Expr).length+([]:List Keyword).length+(if ([]:List Keyword).isEmpty then 0 else 1)<30))=true
 line:(lu.endLine == qt.line)=true
 trees:backTo qt (starEach [e,f] X.env)=[(false,eval e X.env),(false,eval f X.env)]
def IsD(H:Hp)(a:Addr):Prop:=(∃ kvs,Rd H a (.dK kvs))\/∃ kvs,Rd H a (.dT kvs)
theorem UT{X:Cx}{σ:St}{H:Hp}{s:Shared}{a:Addr}(I:Inv X ao σ H s)(d:IsD H a) :
  s.TypeIs (.ref a) "dict"/\(∀ b,Value.ref a=.ref b->∃ ob,s.heap.get? b=some ob/\ob.dict=none)/\(a == sysModules)=false:=by
 rcases d with ⟨kvs,e⟩|⟨kvs,e⟩
 ·obtain⟨_,hd,vs,_,dd⟩:=EE I.hok e;refine⟨dd.typeIs,λb q=>?_,hd⟩;cases q;obtain⟨ob,_,_,h1,h2,_⟩:=dd;exact⟨ob,h1,h2.2.1⟩
 ·obtain⟨_,hd,xs,_,dd⟩:=EF I.hok e;refine⟨dd.typeIs,λb q=>?_,hd⟩;cases q;obtain⟨ob,_,_,h1,h2,_⟩:=dd;exact⟨ob,h1,h2.2.1⟩
end L2
namespace cZ
open Spec Rows L2
def je(X:Cx)(N:List Str)(scope:Scope)(cl:List (Str × Addr))(C:Addr)(s₀:Shared)(H₀:Hp)(ex:List Addr)(pn:List (Addr × Obj)):Cx where
 prog:=X.prog
 w:=X.w
 K:=X.K
 mg:=X.mg
 zt:=X.zt
 A:=X.A
 N:=N
 s₀:=s₀
 H₀:=H₀
 env:=compEnvC scope cl C X.env
 zn:=X.stack
 stack:=X.stack
 ex:=ex
 fn:=λ_=>false
 calm:=X.calm
 pn:=pn
 xe:=λ_ _=>False
structure BD(X:Cx)(N:List Str)(scope:Scope)(cl:List (Str × Addr))(jx:List (Option Nat)):Prop where
 kind:scope.kind=.function
 cell:∀ x∈scope.names,x.2≠.cell
 names:∀ x∈scope.names,x.2=.local->scope.names.lookup x.1=some .local
 clos:closureFor scope X.env=pure cl
 sub:∀ x c,cl.lookup x=some c->X.env.cells.lookup x=some c
 has:∀ x,((relabel scope X.env).names.lookup x=some .cell\/(relabel scope X.env).names.lookup x=some .free)->∃ c,cl.lookup x=some c
 len:jx.length=N.length
 free:∀ (i j:Nat) (x:Str),jx[i]?=some (some j)->N[i]?=some x->X.N[j]?=some x/\X.env.scope.names.lookup x=some .cell/\(relabel scope X.env).names.lookup x=some .cell
def tX(jx:List (Option Nat))(σ:L2.St):L2.St:=jx.map λo=>o.bind λj=>(σ[j]?).join
section
variable {X:Cx} {N:List Str} {scope:Scope} {cl:List (Str × Addr)} {jx:List (Option Nat)}
theorem xj{σ:L2.St}{H:Hp}{s:Shared}{fp:List Addr}{h₁:Heap}{t:Nat}(cs:BD X N scope cl jx)(I:Inv X ao σ H s)(hf:∀ b∈fp,oF X ao H b)(qe:∀ b∈fp,b<s.heap.objs.size)
  (L0:h₁.Ns s.heap.objs.size λ_=>none) (hk:∀ b o,s.heap.get? b=some o->h₁.get? b=some o) :
  Inv (je X N scope cl s.heap.objs.size s H fp (X.pn++ao)) [] (tX jx σ) H { s with heap:=h₁,toks:=t }:=by
 have sub:∀ {x c},(je X N scope cl s.heap.objs.size s H fp (X.pn++ao)).env.cells.lookup x=some c->X.env.cells.lookup x=some c:=λ{x c} e=>cs.sub x c e
 refine⟨⟨I.ok.mod,cs.kind,I.ok.glob,I.ok.blt,gh _,λx y c e e'=>I.ok.inj x y c (sub e) (sub e'),λx hx=>cs.has x hx,λx c z _=>(by cases z),I.ok.hd,I.ok.frames,.inl rfl,λb hb=>⟨Nat.ne_of_lt (qe b hb),λx c e=>(hf b hb).2.2.2.2.1 x c (sub e)⟩,I.bs,iI I.ok.Sn I.sz,λb o e hb=>?_,λb hb z=>?_,I.stack,I.IL⟩,
  rfl,I.bare,Un.kept hk,⟨_,L0,λi x v e1 e2 _=>?_⟩,λx c e=>?_,I.hok.fresh (gh _),λx c e=>I.rT x c (sub e),λp hp=>?_,I.hok.kept hk,by unfold tX;rw[cG];exact cs.len⟩
 ·rcases (hf b hb).2.2.2.1 with z|z
  ·exact I.ok.Mt b o e z
  ·exact absurd (qh (Heap.lt_size (I.ok.bs b o e).1) z) (Nat.lt_irrefl _)
 ·rcases List.mem_cons.mp (I.vB b z) with e|e
  ·exact (hf b hb).2.1 e
  ·exact (hf b hb).2.2.1 e
 ·unfold tX at e2;rw[gE]at e2
  cases ej:jx[i]? with
  | none=>rw[ej]at e2;cases e2
  | some o =>
   rw[ej]at e2
   cases o with
   | none=>cases e2
   | some j =>
    have e3:σ[j]?=some (some v):=by
     have z:((σ[j]?).join)=some v:=qj e2
     cases hs:σ[j]? with
     | none=>rw[hs]at z;cases z
     | some q=>rw[hs]at z;exact congrArg some z
    obtain⟨f1,f2,f3⟩:=cs.free i j x ej e1;obtain⟨m,hn,hl⟩:=I.loc;obtain⟨u,ru,look⟩:=hl j x v f1 e3 (.inr (.inl f2));exists u,ru;rcases look with ⟨k,_⟩|⟨_,c,hc,o,ho,hd⟩
    ·have k':X.env.scope.names.lookup x=some .local:=k;rw[f2]at k';cases k'
    ·obtain⟨c',Xb⟩:=cs.has x (.inl f3);have z:=cs.sub x c' Xb;rw[hc]at z;cases z;exact .inr ⟨.inl f3,c,Xb,o,hk _ _ ho,hd⟩
 ·obtain⟨v,o,ho,hd⟩:=I.cell x c (sub e);exact⟨v,o,hk _ _ ho,hd⟩
 ·have SK:p∈X.pn++ao:=by
   have z:p∈(X.pn++ao)++[]:=hp;simpa using z
  obtain⟨e,n,nl,nf,d⟩:=I.pin p SK;refine⟨hk _ _ e,n,kC (Heap.lt_size e),λz=>?_,d⟩;rcases List.mem_cons.mp (I.vB p.1 z) with e|e
  ·exact nl e
  ·exact nf e
theorem vR{σ σ':L2.St}{H H':Hp}{s s':Shared}{fp:List Addr}(I:Inv X ao σ H s)(hf:∀ b∈fp,oF X ao H b)(J:Inv (je X N scope cl s.heap.objs.size s H fp (X.pn++ao)) [] σ' H' s'):Inv X ao σ H' s' :=
 I.Xc (ch:=fp) J.os J.zt J.hok J.bare λb hb=>⟨(hf b hb).2.2.2.1,(hf b hb).2.1,(hf b hb).2.2.2.2.1,(hf b hb).2.2.2.2.2⟩
theorem vS{σ σ2:L2.St}{H H':Hp}{s s':Shared}{h':Heap}(I:Inv X ao σ H s)(I4:Inv X ao σ2 H' s')(IP:H' s.heap.objs.size=none)(hs:Heap.SameBut s.heap.objs.size s'.heap h'):Inv X ao σ2 H' { s' with heap:=h' }:=by
 refine I4.turned (t':=s'.toks) (it:=s.heap.objs.size) (λb o hb e=>hs.extBut _ _ hb e) IP (Nat.ne_of_gt I.lt) (.inr I.sz) (λx c e z=>?_) λp hp z=>?_
 ·obtain⟨v,o,ho,_⟩:=I.cell x c e;exact absurd (Heap.lt_size ho) (by rw[z];exact Nat.lt_irrefl _)
 ·exact absurd (Heap.lt_size (I.pin p hp).1) (by rw[z];exact Nat.lt_irrefl _)
def yl(J:It)(acc:Addr)(g:TG)(tt:TT)(te:TE)(σ0:L2.St)(H:Hp)(Q:VK):Prop :=
 ∃ W:Nat->Nat->L2.St->Hp->Prop,(∃ m,W 0 m σ0 H)/\∀ i m σ H,W i m σ H->
  (J.stop i H/\Q (.ref acc) H)\/(J.go i H/\∃ Nx:L2.St->Hp->Prop,(∀ σ' H',Nx σ' H'->∃ m',m'<m/\W (i+1) m' σ' H')/\∀ x H',J.My i H x H'->g x σ H' fun σ2 H2=>tt σ2 H2 λb H3 =>
   if b=true then te σ2 H3 λv H4=>∃ xs,H4 acc=some (.lst xs)/\xs.length<sizeLine/\Nx σ2 (aP H4 acc (.lst (xs++[v]))) else Nx σ2 H3)
def vU(jx:List (Option Nat))(wi:TI)(g:TG)(tt:TT)(te:TE):TE:=fun σ H Q=>wi σ H λJ H1=>∀ acc,H1 acc=none->yl J acc g tt te (tX jx σ) (aP H1 acc (.lst [])) Q
theorem BE{iter:Expr}{wi:TI}{g:TG}{tt:TT}{te:TE}(cs:BD X N scope cl jx)(hc:X.calm=true)(hi:PI X tg iter wi)
  (hg:∀ C s₀ H₀ ex pn,PG (je X N scope cl C s₀ H₀ ex pn) tg g) (ht:∀ C s₀ H₀ ex pn,Ku (je X N scope cl C s₀ H₀ ex pn) jJ tt) (he:∀ C s₀ H₀ ex pn,PE (je X N scope cl C s₀ H₀ ex pn) jW te)
  (hs:∀ x,foldedSetIterable iter X.env x=pure x) {use:Option (Value->Sem Unit)} {Q':Value->Shared->Prop} {Q:VK} {ao:List (Addr × Obj)} {s:Shared} {σ:L2.St} {H:Hp} (I:Inv X ao σ H s) (h:vU jx wi g tt te σ H Q)
  (kq:∀ (s3:Shared) (H3:Hp) (fp:List Addr) (acc:Addr) (σ6:L2.St) (H6:Hp) (s7:Shared),Inv X ao σ H3 s3->(∀ b∈fp,oF X ao H3 b)->Inv (je X N scope cl s3.heap.objs.size s3 H3 fp (X.pn++ao)) [] σ6 H6 s7->Q (.ref acc) H6->
   compPost (model X.prog X.w) X.A X.xe use Q' (.ref acc) s3.heap.objs.size (.ok .next) s7) :
  wpAny (model X.prog X.w) X.A (comprehension (.ListComp jW [⟨tg,iter,jJ,0⟩] scope pos) scope X.env iQ (newList []) false (eval iter X.env) use) Q' X.xe s:=by
 refine wpAny_comprehension_free (use:=use) rfl hs cs.clos cs.kind cs.names (dc (hi ao s σ H _ I h) λv s1 h1=>dc h1 λXm s2 h2=>?_);obtain⟨it,fp,tn,J,H2,e,I2,T,st2,f2,q⟩:=h2;subst e;refine wpAny_newObj_type (hd:=by size_fits) ?_;have cS:H2 s2.heap.objs.size=none:=I2.hok.fresh (gh _);have I3:Inv X ao σ (aP H2 s2.heap.objs.size (.lst [])) { s2 with heap:=s2.heap.push { cls:=.type "list",data:=.seq ([]:List Value).toArray },toks:=s2.toks }:=I2.P7 (ys:=[]) .nil (Nat.zero_le _)
 have Yn:∀ b∈fp,b<s2.heap.objs.size:=λb hb=>by
  obtain⟨o,ho,_⟩:=T.obj _ _ st2 b hb;exact Heap.lt_size ho
 have f3:∀ b∈fp,oF X ao (aP H2 s2.heap.objs.size (.lst [])) b:=λb hb=>⟨by rw[aL (kC (Yn b hb))];exact (f2 b hb).1,(f2 b hb).2⟩;have k3:∀ b o,s2.heap.get? b=some o->(s2.heap.push { cls:=.type "list",data:=.seq ([]:List Value).toArray }).get? b=some o:=λb o e=>Heap.get?_push_of_some _ e;have q3:=q _ cS;generalize hs3:({ s2 with heap:=s2.heap.push { cls:=.type "list",data:=.seq ([]:List Value).toArray },toks:=s2.toks }:Shared)=s3 at I3;generalize hH3:aP H2 s2.heap.objs.size (.lst [])=H3 at I3 f3 q3;have Yo:s3.heap=s2.heap.push { cls:=.type "list",data:=.seq ([]:List Value).toArray }:=by rw[← hs3]
 have Js:∀ b∈fp,b<s3.heap.objs.size:=λb hb=>by rw[Yo,Heap.size_push];exact Nat.lt_succ_of_lt (Yn b hb)
 have st3:tn 0 s3.heap:=T.keep _ _ _ st2 λb _ o e=>by rw[Yo];exact k3 b o e
 show wpAny _ _ _ _ _ s3;refine wpAny_newFunctionEnv cs.cell (λy hy=>by simp at hy) (λh₁ L0 QE=>?_) cs.kind;have kh:∀ b o,s3.heap.get? b=some o->h₁.get? b=some o:=λb o e=>QE.extBut _ _ (kC (Heap.lt_size e)) (Heap.get?_push_of_some _ e);have J0:Inv (je X N scope cl s3.heap.objs.size s3 H3 fp (X.pn++ao)) [] (tX jx σ) H3 { s3 with heap:=h₁,toks:=s3.toks+([]:List (Str × Value)).length }:=xj cs I3 f3 Js L0 kh;have Yp:tn 0 h₁:=T.keep _ _ _ st3 λb _ o e=>kh b o e;obtain⟨W,⟨m0,w0⟩,sP⟩:=q3
 have sR:∀ {H':Hp},(∀ b∈fp,H' b=none)->∀ b∈fp,oF (je X N scope cl s3.heap.objs.size s3 H3 fp (X.pn++ao)) [] H' b:=λhn b hb=>by
  refine⟨hn b hb,kC (Js b hb),λz=>?_,.inl hb,λx c e=>(f3 b hb).2.2.2.2.1 x c (cs.sub x c e),λp hp=>?_⟩
  ·rcases List.mem_cons.mp (I3.vB b z) with e|e
   ·exact (f3 b hb).2.1 e
   ·exact (f3 b hb).2.2.1 e
  ·have SK:p∈X.pn++ao:=by
    have z:p∈(X.pn++ao)++[]:=hp;simpa using z
   exact (f3 b hb).2.2.2.2.2 p SK
 have loop:∀ s5:Shared,s5={ s3 with heap:=h₁,toks:=s3.toks+([]:List (Str × Value)).length }->codeAny (model X.prog X.w) X.A (.compLoop (.ListComp jW [⟨tg,iter,jJ,0⟩] scope pos) 0 (.ref it) (.ref s2.heap.objs.size) (je X N scope cl s3.heap.objs.size s3 H3 fp (X.pn++ao)).env)
   (compPost (model X.prog X.w) X.A X.xe use Q' (.ref s2.heap.objs.size) s3.heap.objs.size) s5:=by
  rintro s5 rfl;refine Ks (λn s'=>∃ i σ' H',Inv (je X N scope cl s3.heap.objs.size s3 H3 fp (X.pn++ao)) [] σ' H' s'/\tn i s'.heap/\(∀ b∈fp,H' b=none)/\W i n σ' H') ?_ m0 ⟨0,_,H3,J0,Yp,λb hb=>(f3 b hb).1,w0⟩;rintro n s6 ⟨i,σ6,H6,I6,SE,G8,w6⟩;rcases sP i n σ6 H6 w6 with ⟨stop,qn⟩|⟨go,Nx,hN,step⟩
  ·refine dc (T.done (je X N scope cl s3.heap.objs.size s3 H3 fp (X.pn++ao)) rfl rfl rfl hc i [] s6 σ6 H6 _ I6 (sR G8) SE stop) λr s7 GB=>?_;obtain⟨hr,I7⟩:=GB;subst hr;exact kq s3 H3 fp _ σ6 H6 s7 I3 f3 I7 qn
  ·refine dc (T.item (je X N scope cl s3.heap.objs.size s3 H3 fp (X.pn++ao)) rfl rfl rfl hc i [] s6 σ6 H6 _ I6 (sR G8) SE go) λr s7 GC=>?_;obtain⟨u,hr,h7⟩:=GC;subst hr;refine dc h7 λ_ s8 GF=>?_;obtain⟨x,H8,I8,r8,y8,Nm,Eu⟩:=GF;have Yh:=I8.pinned (sR Eu) (T.obj _ _ Nm);refine dc (hg _ _ _ _ _ _ s8 σ6 H8 x u _ Yh r8 (step x H8 y8)) λ_ s9 GD=>?_;obtain⟨σ9,H9,I9,q9⟩:=GD;refine dc (ht _ _ _ _ _ _ s9 σ9 H9 _ I9 q9) λok s10 Am=>?_;obtain⟨L7,SG,Bs⟩:=Am
   have again:∀ {σ7:L2.St} {H7:Hp} {vv:Shared},Inv (je X N scope cl s3.heap.objs.size s3 H3 fp (X.pn++ao)) ([]++sQ fp s8.heap) σ7 H7 vv->Nx σ7 H7->∃ m,m<n/\∃ i σ' H',Inv (je X N scope cl s3.heap.objs.size s3 H3 fp (X.pn++ao)) [] σ' H' vv/\tn i vv.heap/\(∀ b∈fp,H' b=none)/\W i m σ' H':=λ{σ7 H7 vv} I7 n7=>by
    obtain⟨m',hm,w7⟩:=hN σ7 H7 n7;refine⟨m',hm,i+1,σ7,H7,I7.nR,T.keep _ _ _ Nm λb hb o e=>(I7.pin (b,o) (ou _ (ou _ (gU hb e)))).1,λb hb=>?_,w7⟩;obtain⟨o,e,d⟩:=T.obj _ _ Nm b hb;exact (I7.pin (b,o) (ou _ (ou _ (gU hb e)))).2.1
   cases ok with
   | false =>
    rw[if_neg gK]at Bs;exact again SG Bs
   | true =>
    rw[if_pos rfl]at Bs;refine dc (he _ _ _ _ _ _ s10 σ9 L7 _ SG Bs) λv vv D9=>?_;obtain⟨y,H11,I11,r11,xs,hx,hz,n11⟩:=D9;refine dc (bS _ vv σ9 H11 (.ref s2.heap.objs.size) [y] (.ref s2.heap.objs.size) [v] (λ_ H'=>Nx σ9 H') I11 rfl (.cons r11 .nil) ⟨_,xs,y,V,hx,hz,n11⟩) λ_ jH Cj=>?_;obtain⟨_,Yi,I12,_,UK⟩:=Cj;exact again I12 UK
 exact codeAny_compStart_list (loop _ rfl) (T.self _ _ _ _ _ Yp (loop _ rfl))
theorem Nu{iter:Expr}{wi:TI}{g:TG}{tt:TT}{te:TE}(cs:BD X N scope cl jx)(hc:X.calm=true)(hi:PI X tg iter wi)
  (hg:∀ C s₀ H₀ ex pn,PG (je X N scope cl C s₀ H₀ ex pn) tg g) (ht:∀ C s₀ H₀ ex pn,Ku (je X N scope cl C s₀ H₀ ex pn) jJ tt) (he:∀ C s₀ H₀ ex pn,PE (je X N scope cl C s₀ H₀ ex pn) jW te)
  (hs:∀ x,foldedSetIterable iter X.env x=pure x:=by intro _;rfl):PE X (.ListComp jW [⟨tg,iter,jJ,0⟩] scope pos) (vU jx wi g tt te):=by
 intro ao s σ H Q I h;rw[eval_ListComp];refine BE (use:=none) cs hc hi hg ht he hs I h λs3 H3 fp acc σ6 H6 s7 I3 f3 I7 qn=>?_;obtain⟨m,hm,_⟩:=I7.loc;exact⟨m,hm,λh' QE=>⟨.ref acc,H6,vS I3 (vR I3 f3 I7) I7.free QE,rfl,qn⟩⟩
theorem QF{iter:Expr}{Nv:Pos}{wi:TI}{g:TG}{tt:TT}{te:TE}{i:Nat}{x:Str}(cs:BD X N scope cl jx)(hc:X.calm=true)(hN:X.N.Nodup)(hix:X.N[i]?=some x)(hx:X.env.scope.names.lookup x=some .local)(hi:PI X tg iter wi)
  (hg:∀ C s₀ H₀ ex pn,PG (je X N scope cl C s₀ H₀ ex pn) tg g) (ht:∀ C s₀ H₀ ex pn,Ku (je X N scope cl C s₀ H₀ ex pn) jJ tt) (he:∀ C s₀ H₀ ex pn,PE (je X N scope cl C s₀ H₀ ex pn) jW te)
  (hsw:swapsWith (.ListComp jW [⟨tg,iter,jJ,0⟩] scope pos) (some (.Name x iQ)) Nv.line X.env=pure true:=by rfl)
  (hs:∀ x,foldedSetIterable iter X.env x=pure x:=by intro _;rfl):PS X (.Assign [.Name x iQ] (.ListComp jW [⟨tg,iter,jJ,0⟩] scope pos) Nv) (Mx (vU jx wi g tt te) (rV i)):=by
 intro ao s σ H D I h;rw[exec_Assign_Name_used _ _ _ _ hsw];refine wpAny_bind (wpAny_standAt (wpAny_bind ?_));show wpAny _ X.A (do let _ ← comprehension (.ListComp jW [⟨tg,iter,jJ,0⟩] scope pos) scope X.env _ (newList []) false (eval iter X.env) (some (assign (.Name x iQ) X.env))) _ _ s;have h':vU jx wi g tt te σ H (λv H'=>rV i v σ H' D.nx):=h;refine wpAny_bind (dc (BE (use:=some (assign (.Name x iQ) X.env)) (Q':=λ_ s'=>∃ σ' H',Inv X ao σ' H' s'/\D.nx σ' H') cs hc hi hg ht he hs I h' λs3 H3 fp acc σ6 H6 s7 I3 f3 I7 qn=>?_) λ_ s' q=>?_)
 ·have I4:=vR I3 f3 I7;obtain⟨m,hm,_⟩:=I7.loc;refine wpAny_assign_Name (Bb I4 hN hix (.inl hx) (v:=.ref acc) rfl (λs8 I8 ⟨a,QE,ha⟩=>?_) (.inr hx))
  have na:s3.heap.objs.size≠a:=by
   rcases ha with rfl|ha
   ·exact Nat.ne_of_gt I3.lt
   ·intro z;obtain⟨v,o,ho,_⟩:=I3.cell x a ha;exact absurd (Heap.lt_size ho) (by rw[z];exact Nat.lt_irrefl _)
  refine⟨m,hm.at' λo e=>QE.extBut _ o na e,λh' hs'=>⟨_,H6,vS I3 I8 I7.free hs',qn⟩⟩
 ·exact wpAny_pure (wpAny_pure q)
theorem gG{K:Frag}{a:Addr}{xs:List V}{g:TG}{tt:TT}{te:TE}{σ0:L2.St}{H:Hp}{Q:VK}(Pv:Nat->L2.St->Hp->Prop)(h0:Pv 0 σ0 H)(hl:∀ i σ H,i<=xs.length->Pv i σ H->bI K H a xs)
  (hs:∀ i x σ H,xs[i]?=some x->Pv i σ H->g x σ H fun σ2 H2=>tt σ2 H2 λb H3=>if b=true then te σ2 H3 λv H4=>∃ ys,H4 acc=some (.lst ys)/\ys.length<sizeLine/\Pv (i+1) σ2 (aP H4 acc (.lst (ys++[v]))) else Pv (i+1) σ2 H3)
  (hd:∀ σ H,Pv xs.length σ H->Q (.ref acc) H):yl (Pn K a) acc g tt te σ0 H Q:=by
 refine⟨λi m σ H=>m=xs.length-i/\i<=xs.length/\Pv i σ H,⟨xs.length,by simp,Nat.zero_le _,h0⟩,?_⟩;rintro i m σ H ⟨rfl,hi,p⟩;have q:=hl i σ H hi p;by_cases qe:i<xs.length
 ·refine .inr ⟨⟨xs,xs[i],q,by simp[qe]⟩,Pv (i+1),fun σ' H' p'=>⟨xs.length-(i+1),Q,rfl,qe,p'⟩,λx H' y=>?_⟩;obtain⟨e,y⟩:=y;subst e;exact hs i x σ _ (y xs q) p
 ·have e:i=xs.length:=by lia
  subst e;exact .inl ⟨⟨xs,q,gh _⟩,hd σ H p⟩
theorem qE{lo:Int}{k:Nat}{g:TG}{tt:TT}{te:TE}{σ0:L2.St}{H:Hp}{Q:VK}(Pv:Nat->L2.St->Hp->Prop)(h0:Pv 0 σ0 H)
  (hs:∀ i σ H,i<k->Pv i σ H->g (.int (lo+i)) σ H fun σ2 H2=>tt σ2 H2 λb H3=>if b=true then te σ2 H3 λv H4=>∃ ys,H4 acc=some (.lst ys)/\ys.length<sizeLine/\Pv (i+1) σ2 (aP H4 acc (.lst (ys++[v]))) else Pv (i+1) σ2 H3)
  (hd:∀ σ H,Pv k σ H->Q (.ref acc) H):yl (J6 lo k) acc g tt te σ0 H Q:=by
 refine⟨λi m σ H=>m=k-i/\i<=k/\Pv i σ H,⟨k,by simp,Nat.zero_le _,h0⟩,?_⟩;rintro i m σ H ⟨rfl,hi,p⟩;by_cases qe:i<k
 ·refine .inr ⟨qe,Pv (i+1),fun σ' H' p'=>⟨k-(i+1),Q,rfl,qe,p'⟩,λx H' y=>?_⟩;obtain⟨e,y⟩:=y;subst e y;exact hs i σ _ qe p
 ·have e:i=k:=by lia
  subst e;exact .inl ⟨Nat.le_refl _,hd σ H p⟩
end
section
variable {X:Cx} {N:List Str} {scope:Scope} {cl:List (Str × Addr)} {C:Addr} {s₀:Shared} {H₀:Hp} {ex:List Addr} {pn:List (Addr × Obj)}
theorem uP{es:List Expr}{k:Nat}{t:T9}{n:Nat}(hc:X.calm=true)(h:Xj (je X N scope cl C s₀ H₀ ex pn) es t)
  (hn:(assignEach es (je X N scope cl C s₀ H₀ ex pn).env).length=n:=by rfl) (Ck:(assignEach es (je X N scope cl C s₀ H₀ ex pn).env).findIdx? (·.1)=none:=by rfl):PG (je X N scope cl C s₀ H₀ ex pn) (.Tuple es k pos) (Ub X.K n t):=nj (X:=je X N scope cl C s₀ H₀ ex pn) hc h hn Ck
theorem Ny{tl:TE}(hl:PE (je X N scope cl C s₀ H₀ ex pn) l tl):PI (je X N scope cl C s₀ H₀ ex pn) tg l (Ss X.K tl):=cJ hl
theorem Jt:Wv (je X N scope cl C s₀ H₀ ex pn) (XG X.K):=br
end
theorem CK{X:Cx}:jZ X (.type "range") (λxs H Q=>∃ j:Int,xs=[.int j]/\∀ p,H p=none->Q (.ref p) (aP H p (.D4 0 j))):=by
 intro ao s σ H xs us Q I r h;obtain⟨j,rfl,q⟩:=h;obtain⟨u1,rfl,⟨t,rfl⟩⟩:=r.one;refine call_range_1 ⟨.ref s.heap.objs.size,_,I.laid (o:=.D4 0 j) (λb o e=>Heap.get?_push_of_some _ e) (gh _) ⟨K,Heap.get?_push_size _ rfl⟩,rfl,q _ (I.hok.fresh (gh _))⟩
theorem vV{scope:Scope}{env:Env}(h:∀ p∈scope.names,p.2=.free->∃ c,env.cells.lookup p.1=some c) :
  ∃ cl,closureFor scope env=pure cl/\(∀ x c,cl.lookup x=some c->env.cells.lookup x=some c)/\(∀ p∈scope.names,p.2=.free->∃ c,cl.lookup p.1=some c):=by
 unfold closureFor
 have key:∀ (l:List (Str × NameKind)) (cs:List (Str × Addr)),(∀ p∈l,p.2=.free->∃ c,env.cells.lookup p.1=some c)->(∀ x c,cs.lookup x=some c->env.cells.lookup x=some c)->
   ∃ cl,(forIn l cs (λp r=>if (p.2 == NameKind.free)=true then do let c ← cellOf env p.1;pure (ForInStep.yield ((p.1,c)::r)) else pure (ForInStep.yield r)):Sem (List (Str × Addr)))=pure cl/\(∀ x c,cl.lookup x=some c->env.cells.lookup x=some c)/\(∀ p∈l,p.2=.free->∃ c,cl.lookup p.1=some c)/\(∀ x c,cs.lookup x=some c->∃ c,cl.lookup x=some c):=by
  intro l
  induction l with
  | nil=>intro cs _ P5;exact⟨cs,rfl,P5,(λp hp=>by cases hp),λx c e=>⟨c,e⟩⟩
  | cons p l ih =>
   intro cs hl P5;rw[List.forIn_cons];by_cases hp:p.2=.free
   ·obtain⟨c,hc⟩:=hl p List.mem_cons_self hp;have e1:(p.2 == NameKind.free)=true:=by rw[hp];rfl
    have e2:cellOf env p.1=pure c:=by
     unfold cellOf;rw[hc]
    rw[if_pos e1,e2];simp only[pure_bind]
    obtain⟨cl,h1,h2,h3,h4⟩:=ih ((p.1,c)::cs) (λq hq=>hl q (nQ _ hq)) (λx d e=>by
     rw[List.lookup_cons]at e
     cases hx:x == p.1 with
     | true =>
      rw[hx]at e;cases e;rw[eq_of_beq hx];exact hc
     | false =>
      rw[hx]at e
      exact P5 x d e)
    refine⟨cl,h1,h2,λq hq hf=>?_,λx d e=>?_⟩
    ·rcases List.mem_cons.mp hq with rfl|hq
     ·exact h4 q.1 c (by rw[List.lookup_cons];simp)
     ·exact h3 q hq hf
    ·cases hx:x == p.1 with
     | true=>exact h4 x c (by rw[List.lookup_cons,hx])
     | false=>exact h4 x d (by rw[List.lookup_cons,hx];exact e)
   ·have e1:¬ (p.2 == NameKind.free)=true:=λz=>hp (eq_of_beq z);rw[if_neg e1];simp only[pure_bind];obtain⟨cl,h1,h2,h3,h4⟩:=ih cs (λq hq=>hl q (nQ _ hq)) P5;refine⟨cl,h1,h2,λq hq hf=>?_,h4⟩;rcases List.mem_cons.mp hq with rfl|hq
    ·exact absurd hf hp
    ·exact h3 q hq hf
 obtain⟨cl,h1,h2,h3,_⟩:=key scope.names [] h (λx c e=>by cases e);refine⟨cl,?_,h2,h3⟩;rw[← h1];simp only[bind_pure]
theorem mC{env:Env}:∀ {names:List (Str × NameKind)} {x:Str} {k:NameKind},names.lookup x=some k->
  (names.map λ(n,k)=>if (k == NameKind.free&&env.scope.kind == .function&&env.kindOf n == some .cell) then (n,NameKind.cell) else (n,k)).lookup x=some (if (k == NameKind.free&&env.scope.kind == .function&&env.kindOf x == some .cell) then NameKind.cell else k)
 | [],_,_,h=>by cases h
 | (n,k')::r,x,k,h=>by
  rw[jI];by_cases hx:(x == n)=true
  ·have e:x=n:=eq_of_beq hx;subst e;rw[List.lookup_cons,hx]at h;cases h;by_cases hc:(k' == NameKind.free&&env.scope.kind == .function&&env.kindOf x == some .cell)=true
   ·show List.lookup x ((if (k' == NameKind.free&&env.scope.kind == .function&&env.kindOf x == some .cell)=true then (x,NameKind.cell) else (x,k'))::_)=_;rw[if_pos hc,if_pos hc,List.lookup_cons,hx]
   ·show List.lookup x ((if (k' == NameKind.free&&env.scope.kind == .function&&env.kindOf x == some .cell)=true then (x,NameKind.cell) else (x,k'))::_)=_;rw[if_neg hc,if_neg hc,List.lookup_cons,hx]
  ·have hf:(x == n)=false:=by simpa using hx
   rw[List.lookup_cons,hf]at h;have ih:=mC (env:=env) h;show List.lookup x ((if (k' == NameKind.free&&env.scope.kind == .function&&env.kindOf n == some .cell)=true then (n,NameKind.cell) else (n,k'))::_)=_;by_cases hc:(k' == NameKind.free&&env.scope.kind == .function&&env.kindOf n == some .cell)=true
   ·rw[if_pos hc,List.lookup_cons,hf];exact ih
   ·rw[if_neg hc,List.lookup_cons,hf];exact ih
theorem kW{env:Env}:∀ {names:List (Str × NameKind)} {x:Str},names.lookup x=none->
  (names.map λ(n,k)=>if (k == NameKind.free&&env.scope.kind == .function&&env.kindOf n == some .cell) then (n,NameKind.cell) else (n,k)).lookup x=none
 | [],_,_=>rfl
 | (n,k')::r,x,h=>by
  rw[jI]
  have hf:(x == n)=false:=by
   cases hx:x == n with
   | false=>rfl
   | true=>rw[List.lookup_cons,hx]at h;cases h
  rw[List.lookup_cons,hf]at h;have ih:=kW (env:=env) h;show List.lookup x ((if (k' == NameKind.free&&env.scope.kind == .function&&env.kindOf n == some .cell)=true then (n,NameKind.cell) else (n,k'))::_)=_;by_cases hc:(k' == NameKind.free&&env.scope.kind == .function&&env.kindOf n == some .cell)=true
  ·rw[if_pos hc,List.lookup_cons,hf];exact ih
  ·rw[if_neg hc,List.lookup_cons,hf];exact ih
structure BF(X:Cx)(N:List Str)(scope:Scope)(jx:List (Option Nat)):Prop where
 kind:scope.kind=.function
 cell:∀ x∈scope.names,x.2≠.cell
 names:∀ x∈scope.names,x.2=.local->scope.names.lookup x.1=some .local
 xk:X.env.scope.kind=.function
 fr:∀ x∈scope.names,x.2=.free->X.env.scope.names.lookup x.1=some .cell
 len:jx.length=N.length
 free:∀ (i j:Nat) (x:Str),jx[i]?=some (some j)->N[i]?=some x->X.N[j]?=some x/\scope.names.lookup x=some .free
def Nz(NX N:List Str)(scope:Scope)(jx:List (Option Nat)):Bool:=(jx.zip N).all λp=>match p.1 with
 | none=>true
 | some j=>decide (NX[j]?=some p.2)&&decide (scope.names.lookup p.2=some .free)
theorem mD{X:Cx}{N NX:List Str}{scope sc:Scope}{jx:List (Option Nat)}(e1:X.env.scope=sc)(e2:X.N=NX)(k:scope.kind=.function)(h1:∀ x∈scope.names,x.2≠.cell)(h2:∀ x∈scope.names,x.2=.local->scope.names.lookup x.1=some .local)
  (h3:sc.kind=.function) (h4:∀ x∈scope.names,x.2=.free->sc.names.lookup x.1=some .cell) (h5:jx.length=N.length) (h6:Nz NX N scope jx=true):BF X N scope jx:=by
 refine⟨k,h1,h2,by rw[e1];exact h3,by rw[e1];exact h4,h5,λi j x a b=>?_⟩;rw[e2];unfold Nz at h6;rw[List.all_eq_true]at h6;have z:=h6 (some j,x) (om (i:=i) (by rw[List.getElem?_zip_eq_some];exact⟨a,b⟩));simp only[Bool.and_eq_true,decide_eq_true_eq]at z;exact z
section
variable {X:Cx} {N:List Str} {scope:Scope} {jx:List (Option Nat)}
theorem BF.toF{σ:L2.St}{H:Hp}{s:Shared}(cg:BF X N scope jx)(I:Inv X ao σ H s):∃ cl,BD X N scope cl jx:=by
 obtain⟨cl,h1,h2,h3⟩:=vV (scope:=scope) (env:=X.env) λp hp hf=>I.ok.has p.1 (.inl (cg.fr p hp hf))
 have xh:∀ x,scope.names.lookup x=some .free->(relabel scope X.env).names.lookup x=some .cell:=λx hx=>by
  have z:=mC (env:=X.env) hx
  have c:(NameKind.free == NameKind.free&&X.env.scope.kind == .function&&X.env.kindOf x == some .cell)=true:=by
   have q:X.env.kindOf x=some .cell:=cg.fr (x,.free) (PySem.mem_of_lookup hx) rfl;rw[cg.xk,q];rfl
  rw[if_pos c]at z;exact z
 refine⟨cl,cg.kind,cg.cell,cg.names,h1,h2,λx hx=>?_,cg.len,λi j x a b=>?_⟩
 ·cases e:scope.names.lookup x with
  | none =>
   have z:(relabel scope X.env).names.lookup x=none:=kW (env:=X.env) e;rw[z]at hx
   rcases hx with q|q <;> cases q
  | some k =>
   by_cases hk:k=.free
   ·subst hk;exact h3 (x,.free) (PySem.mem_of_lookup e) rfl
   ·have z:(relabel scope X.env).names.lookup x=some (if (k == NameKind.free&&X.env.scope.kind == .function&&X.env.kindOf x == some .cell) then NameKind.cell else k):=mC (env:=X.env) e
    have c:(k == NameKind.free)=false:=by
     cases q:k == NameKind.free with
     | false=>rfl
     | true=>exact absurd (eq_of_beq q) hk
    rw[c]at z;simp only[Bool.false_and,Bool.false_eq_true,if_false]at z;rw[z]at hx;rcases hx with q|q
    ·cases q;exact absurd rfl (cg.cell (x,.cell) (PySem.mem_of_lookup e))
    ·cases q;exact absurd rfl hk
 ·obtain⟨f1,f2⟩:=cg.free i j x a b;exact⟨f1,cg.fr (x,.free) (PySem.mem_of_lookup f2) rfl,xh x f2⟩
theorem gH{iter:Expr}{wi:TI}{g:TG}{tt:TT}{te:TE}(cg:BF X N scope jx)(hc:X.calm=true)(hi:PI X tg iter wi)
  (hg:∀ cl C s₀ H₀ ex pn,PG (je X N scope cl C s₀ H₀ ex pn) tg g) (ht:∀ cl C s₀ H₀ ex pn,Ku (je X N scope cl C s₀ H₀ ex pn) jJ tt) (he:∀ cl C s₀ H₀ ex pn,PE (je X N scope cl C s₀ H₀ ex pn) jW te)
  (hs:∀ x,foldedSetIterable iter X.env x=pure x:=by intro _;rfl):PE X (.ListComp jW [⟨tg,iter,jJ,0⟩] scope pos) (vU jx wi g tt te):=by
 intro ao s σ H Q I h;obtain⟨cl,cs⟩:=cg.toF I;exact Nu cs hc hi (hg cl) (ht cl) (he cl) hs ao s σ H Q I h
theorem QG{iter:Expr}{Nv:Pos}{wi:TI}{g:TG}{tt:TT}{te:TE}{i:Nat}{x:Str}(cg:BF X N scope jx)(hc:X.calm=true)(hN:X.N.Nodup)(hix:X.N[i]?=some x)(hx:X.env.scope.names.lookup x=some .local)(hi:PI X tg iter wi)
  (hg:∀ cl C s₀ H₀ ex pn,PG (je X N scope cl C s₀ H₀ ex pn) tg g) (ht:∀ cl C s₀ H₀ ex pn,Ku (je X N scope cl C s₀ H₀ ex pn) jJ tt) (he:∀ cl C s₀ H₀ ex pn,PE (je X N scope cl C s₀ H₀ ex pn) jW te)
  (hsw:swapsWith (.ListComp jW [⟨tg,iter,jJ,0⟩] scope pos) (some (.Name x iQ)) Nv.line X.env=pure true:=by rfl)
  (hs:∀ x,foldedSetIterable iter X.env x=pure x:=by intro _;rfl):PS X (.Assign [.Name x iQ] (.ListComp jW [⟨tg,iter,jJ,0⟩] scope pos) Nv) (Mx (vU jx wi g tt te) (rV i)):=by
 intro ao s σ H D I h;obtain⟨cl,cs⟩:=cg.toF I;exact QF cs hc hN hix hx hi (hg cl) (ht cl) (he cl) hsw hs ao s σ H D I h
end
end cZ
namespace cZ
open Spec Rows L2
section
variable {X:Cx} {N:List Str} {scope:Scope} {cl:List (Str × Addr)} {jx:List (Option Nat)}
def EJ(J:It)(acc:Addr)(g:TG)(tt:TT)(G6:TI)(g2:TG)(G7:TT)(te:TE)(σ0:L2.St)(H:Hp)(Q:VK):Prop :=
 ∃ W:Nat->Nat->L2.St->Hp->Prop,(∃ m,W 0 m σ0 H)/\∀ i m σ H,W i m σ H->
  (J.stop i H/\Q (.ref acc) H)\/(J.go i H/\∃ Nx:L2.St->Hp->Prop,(∀ σ' H',Nx σ' H'->∃ m',m'<m/\W (i+1) m' σ' H')/\∀ x H',J.My i H x H'->g x σ H' fun σ2 H2=>tt σ2 H2 λb H3 =>
   if b=true then G5 G6 acc g2 G7 te σ2 H3 Nx else Nx σ2 H3)
def Ju(jx:List (Option Nat))(wi:TI)(g:TG)(tt:TT)(G6:TI)(g2:TG)(G7:TT)(te:TE):TE:=fun σ H Q=>wi σ H λJ H1=>∀ acc,H1 acc=none->EJ J acc g tt G6 g2 G7 te (tX jx σ) (aP H1 acc (.lst [])) Q
theorem Hg{iter:Expr}{wi G6:TI}{g g2:TG}{tt G7:TT}{te:TE}(cs:BD X N scope cl jx)(hc:X.calm=true)(hi:PI X tg iter wi)
  (hg:∀ C s₀ H₀ ex pn,PG (je X N scope cl C s₀ H₀ ex pn) tg g) (ht:∀ C s₀ H₀ ex pn,Ku (je X N scope cl C s₀ H₀ ex pn) jJ tt) (hi2:∀ C s₀ H₀ ex pn,PI (je X N scope cl C s₀ H₀ ex pn) qf dO G6) (hg2:∀ C s₀ H₀ ex pn,PG (je X N scope cl C s₀ H₀ ex pn) qf g2) (Hh:∀ C s₀ H₀ ex pn,Ku (je X N scope cl C s₀ H₀ ex pn) jd G7) (he:∀ C s₀ H₀ ex pn,PE (je X N scope cl C s₀ H₀ ex pn) jW te)
  (hs:∀ x,foldedSetIterable iter X.env x=pure x) (Gs:∀ (env:Env) x,foldedSetIterable dO env x=pure x) {use:Option (Value->Sem Unit)} {Q':Value->Shared->Prop} {Q:VK} {ao:List (Addr × Obj)} {s:Shared} {σ:L2.St} {H:Hp} (I:Inv X ao σ H s) (h:Ju jx wi g tt G6 g2 G7 te σ H Q)
  (kq:∀ (s3:Shared) (H3:Hp) (fp:List Addr) (acc:Addr) (σ6:L2.St) (H6:Hp) (s7:Shared),Inv X ao σ H3 s3->(∀ b∈fp,oF X ao H3 b)->Inv (je X N scope cl s3.heap.objs.size s3 H3 fp (X.pn++ao)) [] σ6 H6 s7->Q (.ref acc) H6->
   compPost (model X.prog X.w) X.A X.xe use Q' (.ref acc) s3.heap.objs.size (.ok .next) s7) :
  wpAny (model X.prog X.w) X.A (comprehension (.ListComp jW [⟨tg,iter,jJ,0⟩,⟨qf,dO,jd,0⟩] scope pos) scope X.env iQ (newList []) false (eval iter X.env) use) Q' X.xe s:=by
 refine wpAny_comprehension_free (use:=use) rfl hs cs.clos cs.kind cs.names (dc (hi ao s σ H _ I h) λv s1 h1=>dc h1 λXm s2 h2=>?_);obtain⟨it,fp,tn,J,H2,e,I2,T,st2,f2,q⟩:=h2;subst e;refine wpAny_newObj_type (hd:=by size_fits) ?_;have cS:H2 s2.heap.objs.size=none:=I2.hok.fresh (gh _);have I3:Inv X ao σ (aP H2 s2.heap.objs.size (.lst [])) { s2 with heap:=s2.heap.push { cls:=.type "list",data:=.seq ([]:List Value).toArray },toks:=s2.toks }:=I2.P7 (ys:=[]) .nil (Nat.zero_le _)
 have Yn:∀ b∈fp,b<s2.heap.objs.size:=λb hb=>by
  obtain⟨o,ho,_⟩:=T.obj _ _ st2 b hb;exact Heap.lt_size ho
 have f3:∀ b∈fp,oF X ao (aP H2 s2.heap.objs.size (.lst [])) b:=λb hb=>⟨by rw[aL (kC (Yn b hb))];exact (f2 b hb).1,(f2 b hb).2⟩;have k3:∀ b o,s2.heap.get? b=some o->(s2.heap.push { cls:=.type "list",data:=.seq ([]:List Value).toArray }).get? b=some o:=λb o e=>Heap.get?_push_of_some _ e;have q3:=q _ cS;generalize hs3:({ s2 with heap:=s2.heap.push { cls:=.type "list",data:=.seq ([]:List Value).toArray },toks:=s2.toks }:Shared)=s3 at I3;generalize hH3:aP H2 s2.heap.objs.size (.lst [])=H3 at I3 f3 q3;have Yo:s3.heap=s2.heap.push { cls:=.type "list",data:=.seq ([]:List Value).toArray }:=by rw[← hs3]
 have Js:∀ b∈fp,b<s3.heap.objs.size:=λb hb=>by rw[Yo,Heap.size_push];exact Nat.lt_succ_of_lt (Yn b hb)
 have st3:tn 0 s3.heap:=T.keep _ _ _ st2 λb _ o e=>by rw[Yo];exact k3 b o e
 show wpAny _ _ _ _ _ s3;refine wpAny_newFunctionEnv cs.cell (λy hy=>by simp at hy) (λh₁ L0 QE=>?_) cs.kind;have kh:∀ b o,s3.heap.get? b=some o->h₁.get? b=some o:=λb o e=>QE.extBut _ _ (kC (Heap.lt_size e)) (Heap.get?_push_of_some _ e);have J0:Inv (je X N scope cl s3.heap.objs.size s3 H3 fp (X.pn++ao)) [] (tX jx σ) H3 { s3 with heap:=h₁,toks:=s3.toks+([]:List (Str × Value)).length }:=xj cs I3 f3 Js L0 kh;have Yp:tn 0 h₁:=T.keep _ _ _ st3 λb _ o e=>kh b o e;obtain⟨W,⟨m0,w0⟩,sP⟩:=q3
 have sR:∀ {H':Hp},(∀ b∈fp,H' b=none)->∀ b∈fp,oF (je X N scope cl s3.heap.objs.size s3 H3 fp (X.pn++ao)) [] H' b:=λhn b hb=>by
  refine⟨hn b hb,kC (Js b hb),λz=>?_,.inl hb,λx c e=>(f3 b hb).2.2.2.2.1 x c (cs.sub x c e),λp hp=>?_⟩
  ·rcases List.mem_cons.mp (I3.vB b z) with e|e
   ·exact (f3 b hb).2.1 e
   ·exact (f3 b hb).2.2.1 e
  ·have SK:p∈X.pn++ao:=by
    have z:p∈(X.pn++ao)++[]:=hp;simpa using z
   exact (f3 b hb).2.2.2.2.2 p SK
 have loop:∀ s5:Shared,s5={ s3 with heap:=h₁,toks:=s3.toks+([]:List (Str × Value)).length }->codeAny (model X.prog X.w) X.A (.compLoop (.ListComp jW [⟨tg,iter,jJ,0⟩,⟨qf,dO,jd,0⟩] scope pos) 0 (.ref it) (.ref s2.heap.objs.size) (je X N scope cl s3.heap.objs.size s3 H3 fp (X.pn++ao)).env)
   (compPost (model X.prog X.w) X.A X.xe use Q' (.ref s2.heap.objs.size) s3.heap.objs.size) s5:=by
  rintro s5 rfl;refine Qu (λn s'=>∃ i σ' H',Inv (je X N scope cl s3.heap.objs.size s3 H3 fp (X.pn++ao)) [] σ' H' s'/\tn i s'.heap/\(∀ b∈fp,H' b=none)/\W i n σ' H') (Gs _) ?_ m0 ⟨0,_,H3,J0,Yp,λb hb=>(f3 b hb).1,w0⟩;rintro n s6 ⟨i,σ6,H6,I6,SE,G8,w6⟩;rcases sP i n σ6 H6 w6 with ⟨stop,qn⟩|⟨go,Nx,hN,step⟩
  ·refine dc (T.done (je X N scope cl s3.heap.objs.size s3 H3 fp (X.pn++ao)) rfl rfl rfl hc i [] s6 σ6 H6 _ I6 (sR G8) SE stop) λr s7 GB=>?_;obtain⟨hr,I7⟩:=GB;subst hr;exact kq s3 H3 fp _ σ6 H6 s7 I3 f3 I7 qn
  ·refine dc (T.item (je X N scope cl s3.heap.objs.size s3 H3 fp (X.pn++ao)) rfl rfl rfl hc i [] s6 σ6 H6 _ I6 (sR G8) SE go) λr s7 GC=>?_;obtain⟨u,hr,h7⟩:=GC;subst hr;refine dc h7 λ_ s8 GF=>?_;obtain⟨x,H8,I8,r8,y8,Nm,Eu⟩:=GF;have Yh:=I8.pinned (sR Eu) (T.obj _ _ Nm);refine dc (hg _ _ _ _ _ _ s8 σ6 H8 x u _ Yh r8 (step x H8 y8)) λ_ s9 GD=>?_;obtain⟨σ9,H9,I9,q9⟩:=GD;refine dc (ht _ _ _ _ _ _ s9 σ9 H9 _ I9 q9) λok s10 Am=>?_;obtain⟨L7,SG,Bs⟩:=Am
   have again:∀ {σ7:L2.St} {H7:Hp} {vv:Shared},Inv (je X N scope cl s3.heap.objs.size s3 H3 fp (X.pn++ao)) ([]++sQ fp s8.heap) σ7 H7 vv->Nx σ7 H7->∃ m,m<n/\∃ i σ' H',Inv (je X N scope cl s3.heap.objs.size s3 H3 fp (X.pn++ao)) [] σ' H' vv/\tn i vv.heap/\(∀ b∈fp,H' b=none)/\W i m σ' H':=λ{σ7 H7 vv} I7 n7=>by
    obtain⟨m',hm,w7⟩:=hN σ7 H7 n7;refine⟨m',hm,i+1,σ7,H7,I7.nR,T.keep _ _ _ Nm λb hb o e=>(I7.pin (b,o) (ou _ (ou _ (gU hb e)))).1,λb hb=>?_,w7⟩;obtain⟨o,e,d⟩:=T.obj _ _ Nm b hb;exact (I7.pin (b,o) (ou _ (ou _ (gU hb e)))).2.1
   cases ok with
   | false =>
    rw[if_neg gK]at Bs;exact again SG Bs
   | true =>
    rw[if_pos rfl]at Bs;refine dc (Ky (Y:=je X N scope cl s3.heap.objs.size s3 H3 fp (X.pn++ao)) hc rfl (hi2 _ _ _ _ _) (hg2 _ _ _ _ _) (Hh _ _ _ _ _) (he _ _ _ _ _) SG Bs) λx vv h11=>dc h11 λYg jH h12=>codeAny_mono h12 λr xP ⟨hr,σ',H',I13,n13⟩=>⟨hr,again I13 n13⟩
 exact codeAny_compStart_list (loop _ rfl) (T.self _ _ _ _ _ Yp (loop _ rfl))
theorem BG{iter:Expr}{pos:Pos}{wi G6:TI}{g g2:TG}{tt G7:TT}{te:TE}(cg:BF X N scope jx)(hc:X.calm=true)(hi:PI X tg iter wi)
  (hg:∀ cl C s₀ H₀ ex pn,PG (je X N scope cl C s₀ H₀ ex pn) tg g) (ht:∀ cl C s₀ H₀ ex pn,Ku (je X N scope cl C s₀ H₀ ex pn) jJ tt)
  (hi2:∀ cl C s₀ H₀ ex pn,PI (je X N scope cl C s₀ H₀ ex pn) qf dO G6) (hg2:∀ cl C s₀ H₀ ex pn,PG (je X N scope cl C s₀ H₀ ex pn) qf g2) (Hh:∀ cl C s₀ H₀ ex pn,Ku (je X N scope cl C s₀ H₀ ex pn) jd G7) (he:∀ cl C s₀ H₀ ex pn,PE (je X N scope cl C s₀ H₀ ex pn) jW te)
  (hs:∀ x,foldedSetIterable iter X.env x=pure x:=by intro _;rfl) (Gs:∀ (env:Env) x,foldedSetIterable dO env x=pure x:=by intro _ _;rfl) :
  PE X (.ListComp jW [⟨tg,iter,jJ,0⟩,⟨qf,dO,jd,0⟩] scope pos) (Ju jx wi g tt G6 g2 G7 te):=by
 intro ao s σ H Q I h;obtain⟨cl,cs⟩:=cg.toF I;rw[eval_ListComp];refine Hg (use:=none) cs hc hi (hg cl) (ht cl) (hi2 cl) (hg2 cl) (Hh cl) (he cl) hs Gs I h λs3 H3 fp acc σ6 H6 s7 I3 f3 I7 qn=>?_;obtain⟨m,hm,_⟩:=I7.loc;exact⟨m,hm,λh' QE=>⟨.ref acc,H6,vS I3 (vR I3 f3 I7) I7.free QE,rfl,qn⟩⟩
theorem xm{K:Frag}{a:Addr}{xs:List V}{g:TG}{tt:TT}{G6:TI}{g2:TG}{G7:TT}{te:TE}{σ0:L2.St}{H:Hp}{Q:VK}(Pv:Nat->L2.St->Hp->Prop)(h0:Pv 0 σ0 H)(hl:∀ i σ H,i<=xs.length->Pv i σ H->bI K H a xs)
  (hs:∀ i x σ H,xs[i]?=some x->Pv i σ H->g x σ H fun σ2 H2=>tt σ2 H2 λb H3=>if b=true then G5 G6 acc g2 G7 te σ2 H3 (Pv (i+1)) else Pv (i+1) σ2 H3)
  (hd:∀ σ H,Pv xs.length σ H->Q (.ref acc) H):EJ (Pn K a) acc g tt G6 g2 G7 te σ0 H Q:=by
 refine⟨λi m σ H=>m=xs.length-i/\i<=xs.length/\Pv i σ H,⟨xs.length,by simp,Nat.zero_le _,h0⟩,?_⟩;rintro i m σ H ⟨rfl,hi,p⟩;have q:=hl i σ H hi p;by_cases qe:i<xs.length
 ·refine .inr ⟨⟨xs,xs[i],q,by simp[qe]⟩,Pv (i+1),fun σ' H' p'=>⟨xs.length-(i+1),Q,rfl,qe,p'⟩,λx H' y=>?_⟩;obtain⟨e,y⟩:=y;subst e;exact hs i x σ _ (y xs q) p
 ·have e:i=xs.length:=by lia
  subst e;exact .inl ⟨⟨xs,q,gh _⟩,hd σ H p⟩
theorem Hi{K:Frag}{a:Addr}{xs:List V}{g:TG}{tt:TT}{te:TE}{σ:L2.St}{H:Hp}{Nx:L2.St->Hp->Prop}(Pv:Nat->L2.St->Hp->Prop)(h0:Pv 0 σ H)(hl:∀ i σ H,i<=xs.length->Pv i σ H->bI K H a xs)
  (hs:∀ i x σ H,xs[i]?=some x->Pv i σ H->g x σ H fun σ2 H2=>tt σ2 H2 λb H3=>if b=true then te σ2 H3 λv H4=>∃ ys,H4 acc=some (.lst ys)/\ys.length<sizeLine/\Pv (i+1) σ2 (aP H4 acc (.lst (ys++[v]))) else Pv (i+1) σ2 H3)
  (hd:∀ σ H,Pv xs.length σ H->Nx σ H):∃ W:Nat->Nat->L2.St->Hp->Prop,(∃ m,W 0 m σ H)/\∀ i m σ H,W i m σ H->
  ((Pn K a).stop i H/\Nx σ H)\/((Pn K a).go i H/\∃ N2:L2.St->Hp->Prop,(∀ σ' H',N2 σ' H'->∃ m',m'<m/\W (i+1) m' σ' H')/\∀ x H',(Pn K a).My i H x H'->g x σ H' fun σ2 H2=>tt σ2 H2 λb H3 =>
   if b=true then te σ2 H3 λv H4=>∃ xs,H4 acc=some (.lst xs)/\xs.length<sizeLine/\N2 σ2 (aP H4 acc (.lst (xs++[v]))) else N2 σ2 H3):=by
 refine⟨λi m σ H=>m=xs.length-i/\i<=xs.length/\Pv i σ H,⟨xs.length,by simp,Nat.zero_le _,h0⟩,?_⟩;rintro i m σ H ⟨rfl,hi,p⟩;have q:=hl i σ H hi p;by_cases qe:i<xs.length
 ·refine .inr ⟨⟨xs,xs[i],q,by simp[qe]⟩,Pv (i+1),fun σ' H' p'=>⟨xs.length-(i+1),Q,rfl,qe,p'⟩,λx H' y=>?_⟩;obtain⟨e,y⟩:=y;subst e;exact hs i x σ _ (y xs q) p
 ·have e:i=xs.length:=by lia
  subst e;exact .inl ⟨⟨xs,q,gh _⟩,hd σ H p⟩
end
end cZ
namespace cZ
open Spec Rows L2
open AutoSeq1 (wpAny_loadPart')
section
variable {prog:Program} {w:World} {A:Around} {E:Value->Shared->Prop} {s:Shared} {κ:Type} [DecidableEq κ] {knd:KeyKind prog w κ}
theorem KH{d:Addr}{Q:Bool->Shared->Prop}(hT:s.TypeIs (.ref d) "dict")(h:Q false s):wpAny (model prog w) A (Builtin.List.listLengthHint (.ref d)) Q E s:=by
 unfold Builtin.List.listLengthHint;refine wpAny_bind (wpAny_specialOf hT F.slot_dict_len.lookup ?_);generalize hid:("dict.__len__":String)=id0
 wp_delta
 rw[show splitId id0=some ("dict","__len__") by subst hid;decide +kernel];subst hid;refine wpAny_bind (wpAny_isInstance (T:="dict") (b:=true) hT (by rw[isSubtype_type];kernel_rfl) ?_);refine wpAny_ite_split (λq=>absurd q (by decide)) λ_=>?_;refine wpAny_ite_split (λ_=>?_) λq=>absurd nofun q;exact wpAny_bind (wpAny_typeOf hT (wpAny_pure h))
theorem EK{R:Result->Shared->Prop}{d:Addr}{kvs:List (κ × Value)}{ep:Nat}(hh:A.handled=none)(hs:(d == sysModules)=false)(hd:s.heap.DictAt knd d kvs ep)(dI:kvs.length<=sizeLine)(S:Addr)(res:Value)(c₀:Nat)(hS:s.heap.get? S=some { cls:=.type "list",data:=.seq #[] c₀ })
  (hR:∀ h' tk pY c',(∀ b o,b≠S->s.heap.get? b=some o->h'.get? b=some o)->h'.get? S=some { cls:=.type "list",dict:=none,data:=.seq pY c',slots:=#[] }->
   ItemsOf (λi v=>∃ k x,kvs[i]?=some (k,x)/\knd.is k v=true) pY kvs.length->R (.ok (.ret res)) { s with heap:=h',toks:=tk }) :
  wpAny (model prog w) A.in1 (Builtin.List.listExtendWith (.ref S) (.ref d) res)
   (λkq s'=>match kq with|.done f=>R (.ok f) s'|.again c'=>c'.quiet=true/\codeAny (model prog w) A c' R s') (λe s'=>R (.error e) s') s:=by
 have hT:s.TypeIs (.ref d) "dict":=by
  obtain⟨o,es,ho,hx,_⟩:=hd;exact⟨o,ho,hx.1⟩
 have hSd:S≠d:=λe=>by
  obtain⟨o,es,ho,hx,hda,_⟩:=hd;rw[← e,hS]at ho;cases ho;cases hda
 have acz:S<s.heap.objs.size:=Heap.lt_size hS
 have acA:d<s.heap.objs.size:=by
  obtain⟨o,es,ho,_⟩:=hd;exact Heap.lt_size ho
 have hSI:S≠s.heap.objs.size:=kC acz;have hdI:d≠s.heap.objs.size:=kC acA;have W:=(Walks.dictKeys (prog:=prog) (w:=w) (A:=A.in1) (knd:=knd) hh s.heap.objs.size d hdI kvs ep).toS;unfold Builtin.List.listExtendWith;refine wpAny_bind (wpAny_typeOf hT ?_);have h1:Builtin.List.listSameRef (.ref S) (.ref d)=false:=by simp[Builtin.List.listSameRef,hSd]
 have h2:(Value.type "dict" == Value.type "list")=false:=by decide
 have h3:(Value.type "dict" == Value.type "tuple")=false:=by decide
 simp only[h1,h2,h3,Bool.or_false,Bool.false_eq_true,if_false];refine wpAny_bind (wpAny_pyIter_dict hs hd ?_);have tU:(s.heap.push { cls:=.type "dict_keyiterator",data:=.fields #[.ref d,.int 0 0,.int kvs.length 0,.int ep 0] }).IsKeyIter s.heap.objs.size d 0 kvs.length ep:=⟨_,Heap.get?_push_size _ rfl,V⟩;have iM:∀ b o,s.heap.get? b=some o->(s.heap.push { cls:=.type "dict_keyiterator",data:=.fields #[.ref d,.int 0 0,.int kvs.length 0,.int ep 0] }).get? b=some o:=λb o e=>Heap.get?_push_of_some _ e;generalize s.heap.push { cls:=.type "dict_keyiterator",data:=.fields #[.ref d,.int 0 0,.int kvs.length 0,.int ep 0] }=g1 at tU iM
 have hT1:({ s with heap:=g1 }:Shared).TypeIs (.ref d) "dict":=by
  obtain⟨o,ho,hc⟩:=hT;exact⟨o,iM _ _ ho,hc⟩
 refine wpAny_bind (wpAny_holding (KH hT1 ?_));refine wpAny_ite_split (λ_=>?_) λq=>absurd nofun q;refine wpAny_bind (wpAny_rule (wpAny_bind ?_));show wpAny _ A.in1 (updateSeq S (λz=>z.push .none) >>= λ_=>updateSeq S λz=>z.pop) _ _ _;have g1S:=iM _ _ hS;refine wpAny_bind (wpAny_updateSeq g1S rfl ?_);have g2S:=Heap.get?_update_self (Obj.mapSeq λz=>z.push Value.none) g1S rfl;refine wpAny_updateSeq (hz:=by seq_fits) g2S rfl ?_;have g3S:=Heap.get?_update_self (Obj.mapSeq λz=>z.pop) g2S rfl
 have Mb:∀ b o,b≠S->g1.get? b=some o->((g1.update S (Obj.mapSeq λz=>z.push Value.none)).update S (Obj.mapSeq λz=>z.pop)).get? b=some o:=λb o nb e =>
  (Heap.get?_update_other _ _ nb.symm).trans ((Heap.get?_update_other _ _ nb.symm).trans e)
 refine wpAny_pure ⟨plainId_quiet F.plain_extend_loop _,codeAny_extend_loopS W dI S (λhm=>?_) res kvs.length 0 _ #[] _ rfl (Nat.zero_le _) ⟨tU.at λo e=>Mb _ o hSI.symm e,(hd.at' λo e=>Mb _ o hSd.symm (iM _ o e))⟩ g3S (ItemsOf.nil _) λs' pY c' hm hS' cS=>?_⟩
 ·rcases List.mem_cons.mp hm with e|e
  ·exact hSI e
  ·exact hSd (List.mem_singleton.mp e)
 ·rw[Moved.eq_with hm];refine hR s'.heap s'.toks pY c' (λb o nb e=>hm.heap b o (λq=>?_) (Mb b o nb (iM b o e))) hS' cS;rcases List.mem_cons.mp q with z|z
  ·exact nb z
  ·exact absurd (Heap.lt_size e) (by rw[List.mem_singleton.mp z];exact Nat.lt_irrefl _)
theorem zc{Q:Value->Shared->Prop}{d:Addr}{kvs:List (κ × Value)}{ep:Nat}(hh:A.handled=none)(hs:(d == sysModules)=false)(hd:s.heap.DictAt knd d kvs ep)(dI:kvs.length<=sizeLine)
  (hQ:∀ h' tk pY c',(∀ b o,s.heap.get? b=some o->h'.get? b=some o)->h'.get? s.heap.objs.size=some { cls:=.type "list",dict:=none,data:=.seq pY c',slots:=#[] }->
   ItemsOf (λi v=>∃ k x,kvs[i]?=some (k,x)/\knd.is k v=true) pY kvs.length->Q (.ref s.heap.objs.size) { s with heap:=h',toks:=tk }) :
  wpAny (model prog w) A (call (.type "list") [.ref d]) Q E s:=by
 refine callType_codes (Q₁:=λu s1=>u=.ref s.heap.objs.size/\s1={ s with heap:=s.heap.push { cls:=.type "list",data:=.seq #[] } }) F.called_list (F.typeCall_list_1 _) F.entry_list_init (code_list_new _ ⟨V⟩) λu s1 e1=>?_;obtain⟨rfl,rfl⟩:=e1;have hS:(s.heap.push { cls:=.type "list",data:=.seq #[] }).get? s.heap.objs.size=some { cls:=.type "list",data:=.seq #[] }:=Heap.get?_push_size _ rfl;have KI:(s.heap.push { cls:=.type "list",data:=.seq #[] }).DictAt knd d kvs ep:=hd.at' λo e=>Heap.get?_push_of_some _ e
 have SM:d≠s.heap.objs.size:=by
  obtain⟨o,es,ho,_⟩:=hd;exact kC (Heap.lt_size ho)
 exists ⟨_,hS,rfl⟩,F.args_list_init_2 _ _;show wpAny _ _ (do let old ← Builtin.List.listItems (.ref s.heap.objs.size);Builtin.List.listUpdate (.ref s.heap.objs.size) (λ_=>#[]);letGo old.toList.reverse;Builtin.List.listExtendWith (.ref s.heap.objs.size) (.ref d) .none) _ _ _;refine wpAny_bind ?_;unfold Builtin.List.listItems;refine wpAny_bind (wpAny_seqItems hS rfl (wpAny_pure ?_));show wpAny _ _ (updateSeq s.heap.objs.size (λ_=>#[]) >>= λ_=>letGo (#[]:Array Value).toList.reverse >>= λ_=>Builtin.List.listExtendWith (.ref s.heap.objs.size) (.ref d) .none) _ _ _;refine wpAny_bind (wpAny_updateSeq hS rfl ?_);have UU:=Heap.get?_update_self (Obj.mapSeq λ_=>(#[]:Array Value)) hS rfl;have Mb:∀ b o,b≠s.heap.objs.size->(s.heap.push { cls:=.type "list",data:=.seq #[] }).get? b=some o->((s.heap.push { cls:=.type "list",data:=.seq #[] }).update s.heap.objs.size (Obj.mapSeq λ_=>(#[]:Array Value))).get? b=some o:=λb o nb e=>(Heap.get?_update_other _ _ nb.symm).trans e;refine wpAny_bind (wpAny_letGo ?_);refine EK (A:=A.in1) (knd:=knd) hh hs (KI.at' λo e=>Mb _ o SM e) dI s.heap.objs.size .none _ UU λh' tk pY c' hk hS' cS=>?_;exact⟨rfl,hQ h' tk pY c' (λb o e=>hk b o (kC (Heap.lt_size e)) (Mb b o (kC (Heap.lt_size e)) (Heap.get?_push_of_some _ e))) hS' cS⟩
end
theorem Hj{X:Cx}(hc:X.calm=true):jZ X (.type "list") (λxs H Q=>∃ (d:Addr) (kvs:List (fj × V)),xs=[.ref d]/\H d=some (.dK kvs)/\∀ l,H l=none->Q (.ref l) (aP H l (.lst (kvs.map λp=>kV p.1)))):=by
 intro ao s σ H xs us Q I r h;obtain⟨d,kvs,rfl,hd,q⟩:=h;obtain⟨u,rfl,rx⟩:=r.one;cases (show u=Value.ref d from rx);obtain⟨hz,hs,vs,kv,o,es,ep,ho,hx⟩:=(show gn X.prog X.w H s.heap d (.dK kvs) from I.hok d _ hd);have len:=kv.length;refine zc (I.ok.hd hc) hs ⟨o,es,ho,hx⟩ ∅ λh' tk pY c' hk hS cS=>?_;refine⟨.ref s.heap.objs.size,_,I.laid (o:=.lst (kvs.map λp=>kV p.1)) (t':=tk) hk (gh _) ⟨by rw[cG];exact hz,pY.toList,c',?_,by simpa using hS⟩,rfl,q _ (I.hok.fresh (gh _))⟩
 have key:∀ (kvs:List (fj × V)) (vs:List (fj × Value)) (us:List Value),KV kvs vs->us.length=vs.length->(∀ (j:Nat) (v:Value),us[j]?=some v->∃ k x,vs[j]?=some (k,x)/\yz k v=true)->cu (kvs.map λp=>kV p.1) us:=by
  intro kvs
  induction kvs with
  | nil =>
   intro vs us kv hl _;cases kv
   cases us with
   | nil=>exact .nil
   | cons=>simp at hl
  | cons p r ih =>
   intro vs us kv hl hp
   cases kv with
   | @cons _ q _ CL h1 h2 =>
   cases us with
   | nil=>simp at hl
   | cons u us =>
    obtain⟨k,x,e1,e2⟩:=hp 0 u rfl;have e3:q=(k,x):=by simpa using e1
    subst e3;refine .cons ?_ (ih CL us h2 (by simpa using hl) λj v e=>?_)
    ·show L2.RelV (kV p.1) u;rw[show p.1=k from h1.1];rcases fk e2 with ⟨i,t,rfl,rfl⟩|⟨i,t,rfl,rfl⟩
     ·exact⟨t,rfl⟩
     ·exact⟨t,rfl⟩
    ·obtain⟨k',x',e4,e5⟩:=hp (j+1) v (by simpa using e);exact⟨k',x',by simpa using e4,e5⟩
 exact key kvs vs pY.toList kv (by simpa using cS.1) λj v e=>cS.2 j v (by simpa using e)
end cZ
namespace zd
open Spec Rows L2 cZ gA
end zd
namespace gA
open Spec Rows L2 cZ fH zd
inductive bX{α β:Type}(R:α->β->Prop):List α->List β->Prop
 | nil:bX R [] []
 | cons {a:α} {b:β} {as:List α} {bs:List β}:R a b->bX R as bs->bX R (a::as) (b::bs)
section
variable {α β:Type} {R R':α->β->Prop} {as:List α} {bs:List β} {a:α} {b:β}
theorem bX.len{as:List α}{bs:List β}(h:bX R as bs):as.length=bs.length:=by
 induction h with
 | nil=>rfl
 | cons _ _ ih=>rw[mS,mS,ih]
theorem bX.get:∀ {as:List α} {bs:List β} {i:Nat},bX R as bs->as[i]?=some a->∃ b,bs[i]?=some b/\R a b
 | _,_,_,.nil,h=>by simp at h
 | _,_,0,.cons r _,h=>by simp at h;subst h;exact⟨Y,r⟩
 | _,_,i+1,.cons _ t,h=>by simp at h;simpa using t.get h
theorem bX.get':∀ {as:List α} {bs:List β} {i:Nat},bX R as bs->bs[i]?=some b->∃ a,as[i]?=some a/\R a b
 | _,_,_,.nil,h=>by simp at h
 | _,_,0,.cons r _,h=>by simp at h;subst h;exact⟨Y,r⟩
 | _,_,i+1,.cons _ t,h=>by simp at h;simpa using t.get' h
theorem bX.snoc{as:List α}{bs:List β}(t:bX R as bs)(h:R a b):bX R (as++[a]) (bs++[b]):=by
 induction t with
 | nil=>exact .cons h .nil
 | cons r _ ih=>exact .cons r ih
theorem bX.mono{as:List α}{bs:List β}(h:∀ a b,R a b->R' a b)(t:bX R as bs):bX R' as bs:=by
 induction t with
 | nil=>exact .nil
 | cons r _ ih=>exact .cons (h _ _ r) ih
theorem bX.set:∀ {as:List α} {bs:List β} (i:Nat),bX R as bs->R a b->bX R (as.set i a) (bs.set i b)
 | _,_,_,.nil,_=>.nil
 | _,_,0,.cons _ t,h=>.cons h t
 | _,_,i+1,.cons r t,h=>.cons r (t.set i h)
theorem bX.split:∀ {as:List α} {bs:List β},bX R as (bs++[b])->∃ NB a,as=NB++[a]/\bX R NB bs/\R a b
 | _,[],.cons r .nil=>⟨[],Y,.nil,r⟩
 | _,c::bs,.cons r t=>by
  obtain⟨NB,a,rfl,t',r'⟩:=t.split;exact⟨_::NB,a,rfl,.cons r t',r'⟩
end
inductive aQ where
 | win (n:Int)
 | aK (a b:Int)
def ze:aQ->List V
 | .win n=>[.str "win",.int n]
 | .aK a b=>[.str "ink",.int a,.int b]
def cP(H:Hp)(v:V)(it:aQ):Prop:=∃ a,v=.ref a/\H a=some (.tup (ze it))
theorem cP.same{H H':Hp}{v:V}{it:aQ}(s:aI H H'):cP H v it->cP H' v it:=λ⟨a,e,h⟩=>⟨a,e,s _ _ h⟩
theorem cP.keep{H H':Hp}{v:V}{it:aQ}{q:Addr}{xs:List V}(hq:H q=some (.lst xs))(k:cH q H H'):cP H v it->cP H' v it:=λ⟨a,e,h⟩=>⟨a,e,k a _ h (by
 intro z;rw[z,hq]at h
 cases h)⟩
def bK(H:Hp)(v:V)(aN:List aQ):Prop:=∃ a vs,v=.ref a/\H a=some (.lst vs)/\bX (cP H) vs aN
theorem bK.same{H H':Hp}{v:V}{aN:List aQ}(s:aI H H'):bK H v aN->bK H' v aN:=λ⟨a,vs,e,h,t⟩=>⟨a,vs,e,s _ _ h,t.mono λ_ _=>cP.same s⟩
def gb(H:Hp)(r:Addr)(rows:List (List aQ)):Prop:=∃ vs,H r=some (.lst vs)/\bX (bK H) vs rows
theorem gb.same{H H':Hp}{r:Addr}{rows:List (List aQ)}(s:aI H H'):gb H r rows->gb H' r rows:=λ⟨vs,h,t⟩=>⟨vs,s _ _ h,t.mono λ_ _=>bK.same s⟩
theorem cP.eqv{H:Hp}{x y:V}{it:aQ}(n:Nat)(h1:cP H x it)(h2:cP H y it):Eqv H (n+2) x y:=by
 obtain⟨a,rfl,e1⟩:=h1;obtain⟨b,rfl,e2⟩:=h2;refine .inr ⟨false,a,b,Z,e1,e2,rfl,λi u v eu ev=>?_⟩;rw[eu]at ev;cases ev
 cases it with
 | win n =>
  match i,eu with
  | 0,e=>cases e;exact .inl ⟨V⟩
  | 1,e=>cases e;exact .inl ⟨V⟩
  | k+2,e=>simp[ze]at e
 | aK p q =>
  match i,eu with
  | 0,e=>cases e;exact .inl ⟨V⟩
  | 1,e=>cases e;exact .inl ⟨V⟩
  | 2,e=>cases e;exact .inl ⟨V⟩
  | k+3,e=>simp[ze]at e
theorem bK.eqv{H:Hp}{x y:V}{aN:List aQ}(n:Nat)(h1:bK H x aN)(h2:bK H y aN):Eqv H (n+3) x y:=by
 obtain⟨a,vs,rfl,e1,t1⟩:=h1;obtain⟨b,us,rfl,e2,t2⟩:=h2;refine .inr ⟨true,a,b,Z,e1,e2,by rw[t1.len,t2.len],λi u v eu ev=>?_⟩;obtain⟨z,ez,r1⟩:=t1.get eu;obtain⟨z',ez',r2⟩:=t2.get ev;rw[ez]at ez';cases ez';exact r1.eqv n r2
def bq(t:List aQ)(e:Int):List aQ :=
 if e<0 then t++[.win (-1-e)] else
 match t.getLast? with
 | some (.aK a b)=>if b=e then t.dropLast++[.aK a (e+1)] else t++[.aK e (e+1)]
 | _=>t++[.aK e (e+1)]
def aH(es:List Int):List aQ:=es.foldl bq []
def fc(aN:List aQ):List Int:=aN.filterMap λit=>match it with|.win n=>some n|.aK _ _=>none
def dX(es:List Int):List Int:=es.filterMap λe=>if e<0 then some (-1-e) else none
theorem gj(a b:List aQ):fc (a++b)=fc a++fc b:=by unfold fc;rw[List.filterMap_append]
theorem KJ(t:List aQ)(e:Int):fc (bq t e)=fc t++(if e<0 then [-1-e] else []):=by
 unfold bq;by_cases h:e<0
 ·rw[if_pos h,if_pos h,gj];rfl
 ·rw[if_neg h,if_neg h,gT];rcases oz t with rfl|⟨t',l,rfl⟩
  ·rfl
  ·rw[mT,rJ]
   cases l with
   | win n=>simp[gj,fc]
   | aK a b =>
    show fc (if b=e then (t'++[aQ.aK a b]).dropLast++[.aK a (e+1)] else (t'++[aQ.aK a b])++[.aK e (e+1)])=_;by_cases hb:b=e
    ·rw[if_pos hb,List.dropLast_concat,gj,gj];rfl
    ·rw[if_neg hb,gj,gj];simp[fc]
theorem KL(es:List Int):∀ t:List aQ,fc (es.foldl bq t)=fc t++dX es:=by
 induction es with
 | nil=>intro t;simp[dX]
 | cons e es ih =>
  intro t;rw[lO,ih,KJ,mU];unfold dX;rw[List.filterMap_cons];by_cases h:e<0
  ·simp[h]
  ·simp[h]
theorem iD(es:List Int):fc (aH es)=dX es:=by
 unfold aH;rw[KL];rfl
theorem cB{es:List Int}{y:Int}:y∈dX es↔0<=y/\-1-y∈es:=by
 unfold dX;rw[List.mem_filterMap];constructor
 ·rintro⟨e,he,h⟩;by_cases h0:e<0
  ·rw[if_pos h0]at h;cases h;exact⟨Q,by rw[show -1-(-1-e)=e by lia];exact he⟩
  ·rw[if_neg h0]at h;cases h
 ·rintro⟨h0,h1⟩;exists -1-y,h1;rw[if_pos ∅];congr 1;lia
theorem nV(es:List Int):∀ t:List aQ,(es.foldl bq t).length<=t.length+es.length:=by
 induction es with
 | nil=>intro t;simp
 | cons e es ih =>
  intro t;rw[lO];have z:=ih (bq t e)
  have z2:(bq t e).length<=t.length+1:=by
   unfold bq;split
   ·simp
   ·split
    ·split
     ·rw[dB,List.length_dropLast,qX];lia
     ·simp
    ·simp
  rw[mS];lia
def jM(rows:cR)(x y:Int):Prop:=0<=x/\∃ es,rows[x.toNat]?=some es/\y∈dX es
inductive Reach(E:Int->Int->Prop)(s:Int):Int->Prop
 | one {y:Int}:E s y->Reach E s y
 | step {y z:Int}:Reach E s y->E y z->Reach E s z
theorem Reach.closed{E:Int->Int->Prop}{s:Int}{S:Int->Prop}(h0:∀ y,E s y->S y)(h1:∀ x y,S x->E x y->S y):∀ {g:Int},Reach E s g->S g
 | _,.one h=>h0 _ h
 | _,.step r h=>h1 _ _ (Reach.closed h0 h1 r) h
def gr(rows:cR):Prop:=∀ es∈rows,∀ y∈dX es,y<rows.length
theorem gr.DU{rows:cR}(h:gr rows){x y:Int}(e:jM rows x y):0<=y/\y<rows.length:=by
 obtain⟨_,es,he,hy⟩:=e;exact⟨(cB.mp hy).1,h es (om he) y hy⟩
def cnt(n:Nat)(p:Nat->Bool):Nat:=((List.range n).filter p).length
theorem NC(n:Nat){p q:Nat->Bool}(h:∀ i,i<n->p i=q i):cnt n p=cnt n q:=by
 unfold cnt;rw[List.filter_congr λi hi=>h i (List.mem_range.mp hi)]
theorem uQ(n:Nat)(p:Nat->Bool):cnt (n+1) p=cnt n p+(if p n=true then 1 else 0):=by
 unfold cnt;rw[List.range_succ,List.filter_append,dB];congr 1;by_cases h:p n=true
 ·rw[if_pos h];simp[h]
 ·rw[if_neg h];simp[h]
theorem uR(j:Nat):∀ (n:Nat) {p q:Nat->Bool},j<n->p j=true->(∀ i,q i=(p i&&decide (i≠j)))->cnt n q+1=cnt n p
 | 0,_,_,h,_,_=>by lia
 | n+1,p,q,h,hj,hq=>by
  rw[uQ,uQ];by_cases e:j=n
  ·subst e
   have z:cnt j q=cnt j p:=NC j λi hi=>by
    rw[hq i];have:decide (i≠j)=true:=by simp;lia
    rw[this,Bool.and_true]
   have z2:q j=false:=by rw[hq j];simp
   rw[z,z2,if_pos hj];simp
  ·have ih:=uR j n (p:=p) (q:=q) ∅ hj hq
   have z:q n=p n:=by
    rw[hq n];have:decide (n≠j)=true:=by simp;lia
    rw[this,Bool.and_true]
   rw[z];lia
theorem zf(n:Nat)(p:Nat->Bool):cnt n p<=n:=by
 unfold cnt;have:=List.length_filter_le p (List.range n);rw[List.length_range]at this;exact this
def fJ(av:Addr->Prop)(H:Hp)(v:V)(es:List Int):Prop:=∃ a,v=.ref a/\¬ av a/\H a=some (.lst (es.map V.int))
def gY(av:Addr->Prop)(H:Hp)(r:Addr)(rows:cR):Prop:=∃ vs,H r=some (.lst vs)/\bX (fJ av H) vs rows
theorem fJ.keep{av:Addr->Prop}{H H':Hp}{v:V}{es:List Int}(k:∀ a o,¬ av a->H a=some o->H' a=some o):fJ av H v es->fJ av H' v es:=λ⟨a,e,n,h⟩=>⟨a,e,n,k a _ n h⟩
theorem gY.same{av:Addr->Prop}{H H':Hp}{r:Addr}{rows:cR}(s:aI H H'):gY av H r rows->gY av H' r rows:=λ⟨vs,h,t⟩=>⟨vs,s _ _ h,t.mono λ_ _=>fJ.keep λa o _ e=>s a o e⟩
theorem gY.get{av:Addr->Prop}{H:Hp}{r:Addr}{rows:cR}{i:Nat}{es:List Int}(h:gY av H r rows)(e:rows[i]?=some es):∃ vs a,H r=some (.lst vs)/\vs[i]?=some (.ref a)/\H a=some (.lst (es.map V.int))/\vs.length=rows.length:=by
 obtain⟨vs,hr,t⟩:=h;obtain⟨v,ev,a,rfl,_,ha⟩:=t.get' e;exact⟨vs,a,hr,ev,ha,t.len⟩
theorem Jv(x:Int)(xs:List Int):inV (.int x) (xs.map V.int)=decide (x∈xs):=by
 unfold inV
 induction xs with
 | nil=>rfl
 | cons y ys ih =>
  rw[jI,List.any_cons,ih];show ((y == x) || decide (x∈ys))=_;by_cases h:y=x
  ·simp[h]
  ·have h2:¬ x=y:=λz=>h z.symm;simp[h,h2]
theorem BH(xs:List Int):(xs.map V.int).all uE=true:=by
 rw[List.all_eq_true];intro v hv;obtain⟨i,_,rfl⟩:=List.mem_map.mp hv;rfl
def BI(rows:cR):Prop:=∃ rk:Int->Nat,(∀ x,rk x<=40)/\∀ x y,jM rows x y->rk y<rk x
theorem fJ.at{av:Addr->Prop}{H:Hp}{v:V}{es:List Int}{q:Addr}(o:HO)(hq:av q):fJ av H v es->fJ av (aP H q o) v es:=fJ.keep λa u n e=>by
 rw[aL (λz=>n (by rw[z];exact hq))];exact e
theorem fJ.same{av:Addr->Prop}{H H':Hp}{v:V}{es:List Int}(s:aI H H'):fJ av H v es->fJ av H' v es:=fJ.keep λa u _ e=>s a u e
def seen(kvs:List (fj × V))(x:Int):Prop:=(cI kvs (Sum.inl x)).isSome=true
def nJ(n:Nat)(kvs:List (fj × V)):Nat:=cnt n λi=>(cI kvs (Sum.inl (i:Int))).isNone
theorem EL{kvs:List (fj × V)}{y x:Int}(v:V):seen (eY kvs (Sum.inl y) v) x↔x=y\/seen kvs x:=by
 unfold seen;rw[j4];by_cases h:x=y
 ·rw[if_pos (by rw[h]),h];simp
 ·rw[if_neg (λz=>h (Sum.inl.inj z))];simp[h]
theorem EM{n:Nat}{kvs:List (fj × V)}{y:Int}(v:V)(h0:0<=y)(h1:y<n)(hn:cI kvs (Sum.inl y)=none):nJ n (eY kvs (Sum.inl y) v)+1=nJ n kvs:=by
 refine uR y.toNat n ∅ ?_ λi=>?_
 ·show (cI kvs (Sum.inl (y.toNat:Int))).isNone=true;rw[show ((y.toNat:Nat):Int)=y by lia,hn];rfl
 ·show (cI (eY kvs (Sum.inl y) v) (Sum.inl (i:Int))).isNone=((cI kvs (Sum.inl (i:Int))).isNone&&decide (i≠y.toNat));rw[j4];by_cases h:(i:Int)=y
  ·rw[if_pos (by rw[h])];have:decide (i≠y.toNat)=false:=by simp;lia
   rw[this,Bool.and_false];rfl
  ·rw[if_neg (λz=>h (Sum.inl.inj z))];have:decide (i≠y.toNat)=true:=by simp;lia
   rw[this,Bool.and_true]
theorem Jw(lo:Int)(n:Nat):(run lo n).length=n:=by
 induction n generalizing lo with
 | zero=>rfl
 | succ n ih=>rw[run,mS,ih]
theorem ND:∀ {n:Nat} {lo y:Int},y∈run lo n->lo<=y/\y<lo+n
 | 0,_,_,h=>by cases h
 | n+1,lo,y,h=>by
  rcases List.mem_cons.mp h with rfl|z
  ·lia
  ·have:=ND z;lia
theorem bX.new{H2:Hp}{q t:Addr}{vs:List V}{aN:List aQ}{it:aQ}{ys:List V}(d8:H2 q=some (.lst ys))(hb:bX (cP H2) vs aN)(ht:H2 t=none)(zs:List V) :
  bX (cP (aP (aP H2 t (.tup (ze it))) q (.lst zs))) (vs++[.ref t]) (aN++[it]):=by
 have UM:q≠t:=aA d8 ht;have s1:aI H2 (aP H2 t (.tup (ze it))):=ak ht _;refine bX.snoc (hb.mono λv i h=>(h.same s1).keep (s1 _ _ d8) (aJ q _ _)) ⟨t,rfl,?_⟩;rw[aL UM.symm,af]
end gA
namespace UW
open Spec Rows L2 cZ
section
variable {M:Model} {A:Around} {E:Value->Shared->Prop} {s:Shared}
theorem CM{a b:Value}{Q:Value->Shared->Prop}(ha:s.TypeIs a "list")(hb:s.TypeIs b "list")(hc:wpAny M A (call (.builtin "list.__iadd__") [a,b]) Q E s):wpAny M A (inplaceOp .Add a b) Q E s:=by
 unfold inplaceOp;refine wpAny_holding ?_;have hq:isSeqSlot (some (.builtin "list.__iadd__"))=true:=by decide +kernel
 have hfi:fillsInplaceSlot (.type "list") "add" (Operator.Add == .Add)=pure false:=by
  unfold fillsInplaceSlot;show (typeLookup (.type "list") (dunderI "add") >>= λfi=>pure (fi.isSome&&!isSeqSlot fi))=pure false;rw[PySem.F.slot_list_iadd.lookup,pure_bind,hq];rfl
 have hsi:seqSlot? (.type "list") (dunderI "add")=pure (some (.builtin "list.__iadd__")):=PySem.seqSlot_of PySem.F.slot_list_iadd.lookup hq;refine wpAny_bind (wpAny_typeOf ha (wpAny_bind (wpAny_of_eq hfi ?_)));show wpAny M A (if false=true then _ else _) Q E s;rw[if_neg gK];refine wpAny_bind (binaryOp1_none (nm:="add") ha hb PySem.noFill_list_add ?_);refine wpAny_bind (wpAny_of_eq hsi ?_);exact wpAny_bind (wpAny_rule hc)
end
section
variable {X:Cx}
def SN:V->V->Hp->VK->Prop:=λx y H Q=>∃ l b xs zs,x=.ref l/\y=.ref b/\H l=some (.lst xs)/\H b=some (.lst zs)/\xs.length+zs.length<=sizeLine/\Q (.ref l) (aP H l (.lst (xs++zs)))
theorem vW:PIp X .Add SN:=by
 intro ao s σ H x y v u Q I rx ry h;obtain⟨l,b,xs,zs,rfl,rfl,hH,hB,hz,q⟩:=h;cases rx;cases ry;obtain⟨z,aN,n,r,hl,e⟩:=I.Aq hH;obtain⟨z2,its2,n2,r2,Bm,e2⟩:=I.Aq hB;have hsz:aN.toArray.size+its2.toArray.size<=sizeLine:=by rw[gQ,gQ];lia
 have Ej:¬ (!aN.toArray.isEmpty&&Builtin.List.listTooLong (aN.toArray.size+its2.toArray.size))=true:=by
  rw[yN hsz,Bool.and_false];exact gK
 refine CM ⟨_,e,rfl⟩ ⟨_,e2,rfl⟩ ?_;refine call_meets PySem.F.slot_list_iadd ⟨_,e,rfl⟩ PySem.F.entry_list_iadd (PySem.F.args_list_iadd_2 _ _) (AutoSeq1.list___iadd___list_list_0 l aN.toArray n b its2.toArray n2 Ej (by rw[gQ];lia) ∅) ⟨e,e2,?_⟩;refine⟨.ref l,_,I.MT (its':=aN++its2) hH e (by simp) (r.append r2) ?_,rfl,q⟩;rw[dB];lia
section
variable {N:List Str} {scope:Scope} {cl:List (Str × Addr)} {C:Addr} {s₀:Shared} {H₀:Hp} {ex:List Addr} {pn:List (Addr × Obj)}
theorem Hl:jZ (je X N scope cl C s₀ H₀ ex pn) (.type "list") (XJ X.K):=fZ
end
theorem Ho:Xx X .Add SN:=λao s σ H x y u v Q I rx ry h=>vW ao s σ H x y u v Q I rx ry h
end
theorem QH{p q A B T:Prop} [Decidable p] [Decidable q] (w:p->(if decide q=true then A else B)->T) (h1:p/\q->A) (h2:¬ (p/\q)->B):if decide p=true then T else (if false=true then A else B):=by
 by_cases a:p
 ·rw[if_pos (decide_eq_true a)];by_cases b:q
  ·exact w a (by rw[if_pos (decide_eq_true b)];exact h1 ⟨a,b⟩)
  ·exact w a (by rw[decide_eq_false b,if_neg gK];exact h2 λz=>b z.2)
 ·rw[decide_eq_false a,if_neg gK,if_neg gK];exact h2 λz=>a z.1
theorem NF{p q A B T:Prop} [Decidable p] [Decidable q] (w:(if decide q=true then A else B)->T) (h1:p/\q->A) (h2:¬ (p/\q)->B):if decide p=true then T else (if false=true then A else B):=QH (λ_=>w) h1 h2
end UW
namespace gA
open Spec Rows L2 cZ fH zd
def kX(r:Row):Prop:=∀ p∈r,0<=p.1/\p.1<=p.2
def jy(r:Row):Prop:=∀ p∈r,0<=p.1/\p.1<p.2
theorem BJ{t:Row}{s e:Int}(h:jy t)(h0:0<=s)(h1:s<e):jy (iM t s e):=by
 have add:jy (t++[(s,e)]):=λp hp=>by
  rcases List.mem_append.mp hp with z|z
  ·exact h p z
  ·rw[List.mem_singleton.mp z];exact⟨h0,h1⟩
 unfold iM;rcases oz t with rfl|⟨t',l,rfl⟩
 ·exact add
 ·rw[mT]at h add ⊢;rw[rJ];show jy (if l.2=s then (t'++[l]).dropLast++[(l.1,e)] else t'++[l]++[(s,e)]);by_cases c:l.2=s
  ·rw[if_pos c,List.dropLast_concat];intro p hp;rcases List.mem_append.mp hp with z|z
   ·exact h p (sO _ z)
   ·have:=h l (by simp);rw[List.mem_singleton.mp z];exact⟨this.1,by show l.1<e;lia⟩
  ·rw[if_neg c];exact add
theorem nX{r:Row}(h:kX r):jy (cA r):=by
 have z:∀ (r t:Row),kX r->jy t->jy (r.foldl ef t):=by
  intro r
  induction r with
  | nil=>intro t _ g;exact g
  | cons p r ih =>
   intro t h g;rw[lO];refine ih _ (λq hq=>h q (nQ _ hq)) ?_;unfold ef;have hp:=h p (by simp);by_cases c:p.1=p.2
   ·rw[if_pos c];exact g
   ·rw[if_neg c];exact BJ g hp.1 ∅
 exact z r [] h λp hp=>by cases hp
theorem BK{ns:List Int}(h:∀ x∈ns,0<=x):jy (cM ns):=by
 have z:∀ (ns:List Int) (t:Row),(∀ x∈ns,0<=x)->jy t->jy (ns.foldl (λt n=>iM t n (n+1)) t):=by
  intro ns
  induction ns with
  | nil=>intro t _ g;exact g
  | cons n ns ih =>
   intro t h g;rw[lO];exact ih _ (λx hx=>h x (nQ _ hx)) (BJ g (h n (by simp)) ∅)
 exact z ns [] h λp hp=>by cases hp
theorem jy.nn{r:Row}(h:jy r):kX r:=λp hp=>⟨(h p hp).1,by have:=(h p hp).2;lia⟩
theorem zg(a b:Int):∀ (r:Row) (h:Int),kX r->kX (ku a b h r)
 | [],_,_=>λp hp=>by cases hp
 | q::r,h,g=>by
  intro p hp;rw[ku]at hp;rcases List.mem_append.mp hp with z|z
  ·have gq:=g q (by simp);refine⟨?_,Nq a b h q p z⟩;unfold Np at z;split at z
   ·rw[List.mem_singleton.mp z];show 0<=q.1+max (a-h) 0;lia
   ·cases z
  ·exact zg a b r _ (λx hx=>g x (nQ _ hx)) p z
end gA
namespace QI
open Spec Rows L2 cZ
end QI
namespace gA
open Spec Rows L2 cZ fH zd QI
end gA
namespace gA
open Spec Rows L2 cZ fH zd QI
theorem Jx:∀ {n:Nat} {s x:Int},x∈run s n↔s<=x/\x<s+n
 | 0,s,x=>by simp[run]
 | n+1,s,x=>by
  rw[run,List.mem_cons,Jx];lia
def Ris(r:Row):Prop:=r.Pairwise (λp q=>p.2<q.1)/\∀ p∈r,p.1<p.2
end gA
namespace gA
open Spec Rows L2 cZ fH zd QI
end gA
namespace gA
open Spec Rows L2 cZ fH zd UW
structure c9(K:Frag)(C:Addr)(m fP:Str)(st:Stmt)(ps:List Str)(a:Addr)(d:FuncData):Prop where
 F:Qe K m fP st a d
 b:Binds K d ps []
 mt:MF K C m a
structure ClsAt(K:Frag)(mg:Str->Option Value)(x:Str)(C fi:Addr):Prop where
 cl:LY K C
 m:mg x=some (.ref C)
 UX:Mk K C fi
end gA
namespace gA
open L2 cZ fH
section
variable {p:List Value->Prop}
theorem us0(h:p []):∀ us:List Value,us.length=0->p us:=λus e=>by rw[List.length_eq_zero_iff.mp e];exact h
theorem Wz{n:Nat}(h:∀ a (us:List Value),us.length=n->p (a::us)):∀ us:List Value,us.length=n+1->p us:=by
 intro us e
 cases us with
 | nil=>cases e
 | cons a us=>exact h a us (Nat.succ.inj e)
theorem us1(h:∀ a,p [a]):∀ us:List Value,us.length=1->p us:=Wz λa=>us0 (p:=λus=>p (a::us)) (h a)
theorem us2(h:∀ a b,p [a,b]):∀ us:List Value,us.length=2->p us:=Wz λa=>us1 (p:=λus=>p (a::us)) (h a)
theorem us3(h:∀ a b c,p [a,b,c]):∀ us:List Value,us.length=3->p us:=Wz λa=>us2 (p:=λus=>p (a::us)) (h a)
theorem us4(h:∀ a b c d,p [a,b,c,d]):∀ us:List Value,us.length=4->p us:=Wz λa=>us3 (p:=λus=>p (a::us)) (h a)
theorem us5(h:∀ a b c d e,p [a,b,c,d,e]):∀ us:List Value,us.length=5->p us:=Wz λa=>us4 (p:=λus=>p (a::us)) (h a)
theorem us6(h:∀ a b c d e f,p [a,b,c,d,e,f]):∀ us:List Value,us.length=6->p us:=Wz λa=>us5 (p:=λus=>p (a::us)) (h a)
end
section
variable {K:Frag} {mg:Str->Option Value} {h:Heap} {x fP:Str} {st:Stmt} {f C:Addr} {ps:List Str}
theorem DI.d(q:DI K x st f)(X:K.In h)(G:h.Ns mainGlobals mg)(b:∀ (kV wW pm:Value) (an:Option Addr) (cV ct:Value) (us:List Value),us.length=ps.length->bindArgs (fnOf x x (mY st) (jq st) (az st) .none kV wW pm an cV ct) ⟨us,[]⟩=pure (ps.zip us):=by intro _ _ _ _ _ _;first|exact us1 λ_=>rfl|exact us2 λ_ _=>rfl|exact us3 λ_ _ _=>rfl|exact us4 λ_ _ _ _=>rfl|exact us5 λ_ _ _ _ _=>rfl|exact us6 λ_ _ _ _ _ _=>rfl|exact us0 rfl):∃ fd,bY K mg x st ps f fd:=by
 obtain⟨a,l,c,k⟩:=q;have F:=GW l c k;exact⟨_,F,F.binds b,mg_of X G a⟩
theorem MI.d(q:MI K C x fP st f)(b:∀ (kV wW pm:Value) (an:Option Addr) (cV ct:Value) (us:List Value),us.length=ps.length->bindArgs (fnOf x fP (mY st) (jq st) (az st) .none kV wW pm an cV ct) ⟨us,[]⟩=pure (ps.zip us):=by intro _ _ _ _ _ _;first|exact us1 λ_=>rfl|exact us2 λ_ _=>rfl|exact us3 λ_ _ _=>rfl|exact us4 λ_ _ _ _=>rfl|exact us5 λ_ _ _ _ _=>rfl|exact us6 λ_ _ _ _ _ _=>rfl|exact us0 rfl):∃ fd,c9 K C x fP st ps f fd:=by
 obtain⟨a,i,l,c,k⟩:=q;have F:=GW l c k;exact⟨_,F,F.binds b,⟨a,i,k⟩⟩
theorem CI.d(q:CI K x C)(X:K.In h)(G:h.Ns mainGlobals mg)(m:MF K C "__init__" fi):ClsAt K mg x C fi:=by
 obtain⟨a,pg,hd,po,sa,mk,kc⟩:=q;obtain⟨a1,i1,k1⟩:=m;exact⟨⟨pg,hd,po,sa⟩,mg_of X G a,⟨mk,a1,i1,kc⟩⟩
end
end gA
namespace cZ
open Spec Rows L2
theorem tY{α β:Type}{F:α->β->Prop}:∀ {xs:List α} {ys:List β} {i:Nat} {x:α},Paired F xs ys->xs[i]?=some x->∃ y,ys[i]?=some y/\F x y
 | _,_,_,_,.nil,e=>by simp at e
 | _,_,0,_,.cons r _,e=>by simp at e;subst e;exact⟨Y,r⟩
 | _,_,i+1,x,.cons _ t,e=>by
  obtain⟨y,h1,h2⟩:=tY (i:=i) (x:=x) t (by simpa using e);exact⟨y,by simpa using h1,h2⟩
theorem xo{α β:Type}{F:α->β->Prop}:∀ {xs:List α} {ys:List β} {i:Nat} {y:β},Paired F xs ys->ys[i]?=some y->∃ x,xs[i]?=some x/\F x y
 | _,_,_,_,.nil,e=>by simp at e
 | _,_,0,_,.cons r _,e=>by simp at e;subst e;exact⟨Y,r⟩
 | _,_,i+1,y,.cons _ t,e=>by
  obtain⟨x,h1,h2⟩:=xo (i:=i) (y:=y) t (by simpa using e);exact⟨x,by simpa using h1,h2⟩
section
variable {X:Cx} {N:List Str} {scope:Scope} {cl:List (Str × Addr)} {C:Addr} {s₀:Shared} {H₀:Hp} {ex:List Addr} {pn:List (Addr × Obj)} {e:Expr} {ta:TE} {f:Str} {pos:Pos}
theorem Jy(he:PE (je X N scope cl C s₀ H₀ ex pn) e ta)(hb:attributeBase e f (je X N scope cl C s₀ H₀ ex pn).env (eval e (je X N scope cl C s₀ H₀ ex pn).env)=eval e (je X N scope cl C s₀ H₀ ex pn).env):PE (je X N scope cl C s₀ H₀ ex pn) (.Attribute e f pos) (Xw X.K ta f):=cO he hb
end
end cZ
namespace cZ
open Spec Rows L2 gA zd
def UY(td ty tx:TE):TE:=fun σ H Q=>td σ H λx H1=>∃ a,x=.ref a/\IsD H1 a/\ty σ H1 λy H2=>tx σ H2 λz H3=>∃ kvs k,H3 a=some (.dK kvs)/\y=kV k/\kvs.length<sizeLine/\
 (∀ v,cI kvs k=some v->Q v H3)/\(cI kvs k=none->Q z (aP H3 a (.dK (eY kvs k z))))
theorem NG{X:Cx}{e f:Expr}{td ty tx:TE}(ho:PE X o td)(he:PE X e ty)(hf:PE X f tx)(m:M2 X o "setdefault" lu e f qt):PE X (.Call (.Attribute o "setdefault" lu) [e,f] [] qt) (UY td ty tx):=by
 intro ao s σ H Q I h;refine wpAny_Call_method m.zt m.few m.line PySem.F.plainAttrs_dict PySem.F.slot_dict_setdefault PySem.F.type_dict_setdefault (dc (ho ao s σ H _ I h) λu s1 Cj=>?_);obtain⟨x,H1,I1,rx,a,ex,d,q1⟩:=Cj;subst ex;obtain rfl:u=Value.ref a:=rx;obtain⟨t1,t2,_⟩:=UT I1 d;exists t1,t2;rw[m.trees]
 refine Calls.callWith_builtin rfl (Calls.evalArgs_plain (Calls.spliced_cons (dc (he ao s1 σ H1 _ I1 q1) λiv s2 ⟨y,H2,I2,ry,q2⟩ =>
  Calls.spliced_cons (dc (hf ao s2 σ H2 _ I2 q2) λfv s3 ⟨z,H3,I3,rz,kvs,k,ea,ey,dI,g1,g2⟩=>Calls.spliced_nil ?_))))
 subst ey;obtain⟨hz,hd,vs,xh,dd⟩:=Nr I3.hok ea;have len:=xh.length;refine call_meetsIn PySem.F.slot_dict_setdefault dd.typeIs PySem.F.entry_dict_setdefault (PySem.F.args_dict_setdefault_3 _ _ _) (kt_meets_setdefault (fY X.prog X.w) a (BA ry) hd fv) ⟨vs,dd,Q,λv hv=>?_,λhn h' Pq hs=>?_⟩
 ·have r:=xh.val k;rw[hv]at r
  cases ev:cI kvs k with
  | none=>rw[ev]at r;exact (show False from r).elim
  | some w =>
   rw[ev]at r;exact⟨w,H3,I3.tok _,r,g1 w ev⟩
 ·have r:=xh.val k;rw[hn]at r
  cases ev:cI kvs k with
  | some w=>rw[ev]at r;exact (show False from r).elim
  | none =>
   have hl:(eY kvs k z).length<=sizeLine:=by have:=gX kvs k z;lia
   have Jp:∃ q,h'.get? a=some q:=let ⟨q,P,hq,_⟩:=Pq;⟨q,hq⟩;exact⟨z,_,yk I3 (by rw[ea];exact True.intro) hs Jp (G9 hl hd (xh.put k rz) Pq),rz,g2 ev⟩
end cZ
namespace cZ
open Spec Rows L2
end cZ
namespace cZ
open Spec Rows L2 gA zd
end cZ
namespace fH
open Spec Rows PySem.W L2
end fH
namespace cZ
open Spec Rows L2 fH
def yo(c:Nat):V:=.str ⟨#[c]⟩
def fD(cs:List Nat):Str:=⟨cs.toArray⟩
theorem tZ(x:Str):fD x.cps.toList=x:=by cases x;rfl
theorem pF(cs:List Nat):(fD cs).length=cs.length:=by show (cs.toArray).size=_;simp
theorem QJ{a b:List Nat}(h:fD a=fD b):a=b:=by
 have e:=congrArg (λx:Str=>x.cps.toList) h;simpa [fD] using e
theorem Jz:∀ {cs:List Nat} {us:List Value},cu (cs.map yo) us->StrsAre us (cs.map λc=>(⟨#[c]⟩:Str))
 | [],_,.nil=>.nil
 | c::cs,_,.cons ⟨t,e⟩ r=>by
  subst e;exact .cons _ t (Jz r)
theorem Hq(cs:List Nat):Txt.join (Str.ofString "") (cs.map λc=>(⟨#[c]⟩:Str))=fD cs:=by
 have e:Txt.join (Str.ofString "") (cs.map λc=>(⟨#[c]⟩:Str))=Str.join (Str.ofString "") (cs.map λc=>(⟨#[c]⟩:Str)):=by
  have z:=join_plain_closes (Str.ofString "") (cs.map λc=>(⟨#[c]⟩:Str));exact beq_iff_eq.mp z
 rw[e];have em:(Str.ofString "")=(⟨#[]⟩:Str):=by decide +kernel
 rw[em];clear e em
 induction cs with
 | nil=>rfl
 | cons c cs ih =>
  cases cs with
  | nil=>rfl
  | cons d cs =>
   rw[jI]at ih;have s:Str.join ⟨#[]⟩ ((c::d::cs).map λc=>(⟨#[c]⟩:Str))=Str.append (Str.append ⟨#[c]⟩ ⟨#[]⟩) (Str.join ⟨#[]⟩ ((⟨#[d]⟩:Str)::cs.map λc=>(⟨#[c]⟩:Str))):=rfl;rw[s,ih];show (⟨(#[c]++#[])++(d::cs).toArray⟩:Str)=⟨(c::d::cs).toArray⟩;simp
theorem BL:∀ cs:List Nat,(cs.map ((λx:Str=>x.length) ∘ λc=>(⟨#[c]⟩:Str))).sum=cs.length
 | []=>rfl
 | c::cs=>by rw[jI,List.sum_cons,BL cs,mS];show 1+_=_;lia
theorem all_range:∀ bs:List Bool,(List.range bs.length).all (λi=>bs.getD i false)=bs.all id
 | []=>rfl
 | b::bs=>by
  rw[mS,List.range_succ_eq_map,List.all_cons,List.all_map,List.all_cons,← all_range bs];rfl
section
variable {X:Cx}
theorem Au(hc:X.calm=true):jZ X (.type "list") (λxs H Q=>∃ cs:List Nat,xs=[.str (fD cs)]/\cs.length<=sizeLine/\∀ l,H l=none->Q (.ref l) (aP H l (.lst (cs.map yo)))):=by
 intro ao s σ H xs us Q I r h;obtain⟨cs,rfl,hz,q⟩:=h;obtain⟨u,rfl,t,rfl⟩:=r.one;refine call_list_str (I.ok.hd hc) (fD cs) t (hn:=by show cs.toArray.size<=_;simpa using hz) λh' tk pY c' hk hS cS=>?_;refine⟨.ref s.heap.objs.size,_,I.laid (o:=.lst (cs.map yo)) (t':=tk) hk (gh _) ⟨by rw[cG];exact hz,pY.toList,c',?_,by simpa using hS⟩,rfl,q _ (I.hok.fresh (gh _))⟩
 have key:∀ (cs:List Nat) (us:List Value),us.length=cs.length->(∀ (j:Nat) (v:Value),us[j]?=some v->∃ c u,cs[j]?=some c/\v=Value.str ⟨#[c]⟩ u)->cu (cs.map yo) us:=by
  intro cs
  induction cs with
  | nil=>intro us hl _;cases us with
   | nil=>exact .nil
   | cons=>simp at hl
  | cons c cs ih=>intro us hl hp;cases us with
   | nil=>simp at hl
   | cons u us =>
    obtain⟨c',t',e1,e2⟩:=hp 0 u rfl;refine .cons ?_ (ih us (by simpa using hl) λj v e=>by simpa using hp (j+1) v (by simpa using e));have:c=c':=by simpa using e1
    subst this;exact⟨t',e2⟩
 refine key cs pY.toList (by have:=cS.1;simpa [fD] using this) λj v e=>?_;obtain⟨c,u,e1,e2⟩:=cS.2 j v (by simpa using e);exact⟨c,u,by simpa [fD] using e1,e2⟩
theorem zh:Ww X "str.join" (λx xs H Q=>∃ (l:Addr) (cs:List Nat),x=.str ""/\xs=[.ref l]/\H l=some (.lst (cs.map yo))/\cs.length<=1000000/\Q (.str (fD cs)) H):=by
 intro ao s σ H x xs v us Q I rx rs h;obtain⟨l,cs,rfl,rfl,hl,hz,q⟩:=h;obtain⟨t,rfl⟩:=rx;obtain⟨u,rfl,ru⟩:=rs.one;cases (show u=Value.ref l from ru);obtain⟨aN,rv,pl,_⟩:=I.list (bI.of (K:=X.K) hl);refine join_list pl.isList (Jz rv) ?_ λt' k=>?_
 ·rw[List.map_map];have e1:(Str.ofString "").length=0:=by decide +kernel
  have e2:=BL cs;rw[e1,e2];lia
 ·rw[Hq];exact⟨.str (fD cs),H,I.tok _,⟨t',rfl⟩,q⟩
theorem KN(hc:X.calm=true):jZ X (.builtin "all") (λxs H Q=>∃ (p:Addr) (bs:List Bool),xs=[.ref p]/\bI X.K H p (bs.map V.bl)/\Q (.bl (bs.all id)) H):=by
 intro ao s σ H xs us Q I r h;obtain⟨p,bs,rfl,hq,q⟩:=h;obtain⟨u,rfl,rx⟩:=r.one;cases (show u=Value.ref p from rx);obtain⟨aN,rv,pl,hz⟩:=I.list hq;have len:=rv.length;rw[cG]at len;have DT:=pl.isList
 have plt:p<s.heap.objs.size:=by
  obtain⟨o,ho,_⟩:=DT;exact Heap.lt_size ho
 refine call_all_walk (wpAny_pyIter_list DT ?_);refine⟨s.heap.objs.size,[s.heap.objs.size,p],[s.heap.objs.size],aN.toArray.size,P,λi=>bs.getD i false,rfl,Walks.list (A:=X.A.in1) (I.ok.hd hc) s.heap.objs.size p (kC plt) aN.toArray,⟨⟨_,Heap.get?_push_size _ rfl,V⟩,DT.at λo e=>Heap.get?_push_of_some _ e⟩,λi v s' Q' E' hP hQ=>?_,λh' tk hk=>?_⟩
 ·have hv:aN[i]?=some v:=by simpa using hP
  obtain⟨x,ex,er⟩:=xo rv hv;rw[gE]at ex;obtain⟨b,eb,rfl⟩:=Option.map_eq_some_iff.mp ex;cases (show v=Value.bool b from er);refine wpAny_truthy_bool ?_;have e:bs.getD i false=b:=by rw[List.getD_eq_getElem?_getD,eb];rfl
  have hQ':Q' (bs.getD i false) s':=hQ;rw[e]at hQ';exact hQ'
 ·have e:(List.range aN.toArray.size).all (λi=>bs.getD i false)=bs.all id:=by
   rw[gQ,← len];exact all_range bs
  rw[e];exact⟨.bl (bs.all id),H,I.kept λb o e=>hk b o (λz=>by rw[List.mem_singleton.mp z]at e;exact absurd (Heap.lt_size e) (Nat.lt_irrefl _)) (Heap.get?_push_of_some _ e),rfl,q⟩
def NH(r r' r2:R2)(ta tb tc td:TE):TE:=fun σ H Q=>ta σ H λx H1=>tb σ H1 λy H2=>r x y H2 λz H3=>∃ k,z=.bl k/\
 (if k=true then tc σ H3 λu H4=>r' y u H4 λz' H5=>∃ k',z'=.bl k'/\(if k'=true then td σ H5 λv H6=>r2 u v H6 Q else Q (.bl false) H5) else Q (.bl false) H3)
theorem KO{op Gr UO:CmpOp}{r r' r2:R2}{a b c d:Expr}{ta tb tc td:TE}(ho:uy X (compareOp op) r)(J3:uy X (compareOp Gr) r')(ho2:uy X (compareOp UO) r2)(ha:PE X a ta)(hb:PE X b tb)(hc:PE X c tc)(hd:PE X d td)
  (hm:lastMarks [op,Gr,UO] [b,c,d]=false:=by with_unfolding_all rfl):PE X (.Compare a [op,Gr,UO] [b,c,d] pos) (NH r r' r2 ta tb tc td):=by
 intro ao s σ H Q I h
 refine Compare_chain (dc (ha ao s σ H _ I h) λv s1 ⟨x,H1,I1,r1,q1⟩=>chain_link (dc (hb ao s1 σ H1 _ I1 q1) λu s2 ⟨y,H2,I2,r2',q2⟩ =>
  dc (ho ao s2 σ H2 x y v u _ I2 r1 r2' q2) λz s3 ⟨z',H3,I3,r3,k,e,q3⟩=>?_)) hm
 subst e;cases r3;refine wpAny_truthy_bool ?_
 cases k with
 | false=>exact ite_ff ⟨.bl false,H3,I3,rfl,q3⟩
 | true =>
  refine ite_tt (chain_link (dc (hc ao s3 σ H3 _ I3 q3) λv4 s4 ⟨x4,H4,I4,r4,q4⟩=>dc (J3 ao s4 σ H4 y x4 u v4 _ I4 r2' r4 q4) λz5 s5 GB=>?_));obtain⟨x5,H5,I5,r5,k5,e5,q5⟩:=GB;subst e5;cases r5;refine wpAny_truthy_bool ?_
  cases k5 with
  | false=>exact ite_ff ⟨.bl false,H5,I5,rfl,q5⟩
  | true=>exact ite_tt (chain_last (dc (hd ao s5 σ H5 _ I5 q5) λv6 s6 ⟨x6,H6,I6,r6,q6⟩=>ho2 ao s6 σ H6 x4 x6 v4 v6 Q I6 r4 r6 q6))
end
def Its(cs:List Nat):It:=⟨λi _=>i<cs.length,λi H x H'=>H'=H/\∃ c,cs[i]?=some c/\x=yo c,λi _=>i=cs.length⟩
theorem EN{P:Program}{w:World}{K:Frag}{it:Addr}{cs:List Nat}{t:Tok}{ty:String}(W:∀ A':Around,A'.handled=none->Walks P w A' it [it] [it] (fD cs).cps.size (SignAt (fD cs)) (λi h=>h.IsStrIter it ty (fD cs) t i))
  (hs:∀ (A:Around) (i:Nat) (s:Shared) (Q:Value->Shared->Prop) (E:Value->Shared->Prop),s.heap.IsStrIter it ty (fD cs) t i->Q (.ref it) s->wpAny (model P w) A (pyIter (.ref it)) Q E s)
  (hn:["enumerate","zip","dict_itemiterator","dict_reverseitemiterator","odict_iterator","itertools.zip_longest","itertools.pairwise"].contains ty=false):GG P w K tg (Its cs) [it] it (λi h=>h.IsStrIter it ty (fD cs) t i) where
 mem:=by simp
 obj:=λi h st b hb=>by
  have e:b=it:=by simpa using hb
  subst e;obtain⟨o,e,c,d⟩:=st;exact⟨o,e,λv z=>by rw[d]at z;cases z⟩
 keep:=λi h h' st k=>by
  obtain⟨o,e,r⟩:=st;exact⟨o,k it (by simp) o e,r⟩
 item:=by
  intro X hP hw hK hc i ao s σ H E I hf st hg;subst hP hw hK;obtain⟨f0,f1,f2,f3,f4,f5⟩:=hf it (by simp)
  have hi:i<(fD cs).cps.size:=by
   show i<cs.toArray.size;rw[gQ];exact hg
  refine (W X.A (I.ok.hd hc)).item i s _ _ hi st λv h' tk hv Cm kk=>?_;obtain⟨c,u,ec,rfl⟩:=hv;have I1:Inv X ao σ H { s with heap:=h',toks:=tk }:=I.turned (λb o hb e=>kk b o (by simpa using hb) e) f0 f1 f3 f4 f5;obtain⟨oi,ei,ci,di⟩:=id Cm;exact⟨Y,Ef (s:={ s with heap:=h',toks:=tk }) ei ci di hn ⟨yo c,H,I1,⟨u,rfl⟩,⟨rfl,c,by simpa [fD] using ec,rfl⟩,Cm,λb hb=>(hf b hb).1⟩⟩
 done:=by
  intro X hP hw hK hc i ao s σ H E I hf st hg;subst hP hw hK;obtain⟨f0,f1,f2,f3,f4,f5⟩:=hf it (by simp)
  have e:i=(fD cs).cps.size:=by
   show i=cs.toArray.size;rw[gQ];exact hg
  rw[e]at st;exact (W X.A (I.ok.hd hc)).done s _ _ st λh' tk kk=>⟨rfl,I.turned (λb o hb e=>kk b o (by simpa using hb) e) f0 f1 f3 f4 f5⟩
 self:=hs
def acJ(tl:TE):TI:=fun σ H R=>tl σ H λx H1=>∃ cs,x=.str (fD cs)/\R (Its cs) H1
theorem UZ{X:Cx}{tl:TE}(hl:PE X l tl):PI X tg l (acJ tl):=by
 intro ao s σ H R I h;refine dc (hl ao s σ H _ I h) λv s1 GC=>?_;obtain⟨x,H1,I1,r1,q1⟩:=GC;obtain⟨cs,e,q⟩:=q1;subst e;obtain⟨t,rfl⟩:=r1
 have fp:∀ b∈[s1.heap.objs.size],oF X ao H1 b:=λb hb=>by
  have e:b=s1.heap.objs.size:=by simpa using hb
  subst e;exact I1.J5 (gh _) (I1.hok.fresh (gh _))
 cases ha:(fD cs).cps.all (·<128) with
 | true=>exact wpAny_pyIter_ascii ha ⟨s1.heap.objs.size,[s1.heap.objs.size],P,H1,rfl,I1.kept (t':=s1.toks) λb o e=>Heap.get?_push_of_some _ e,EN (t:=t) (λA' hA=>Walks.strAscii hA _ _ t) (λ_ _ _ _ _ st h=>wpAny_pyIter_striter_ascii st h) (by decide),⟨_,Heap.get?_push_size _ rfl,V⟩,fp,q⟩
 | false=>exact wpAny_pyIter_wide ha ⟨s1.heap.objs.size,[s1.heap.objs.size],P,H1,rfl,I1.kept (t':=s1.toks) λb o e=>Heap.get?_push_of_some _ e,EN (t:=t) (λA' hA=>Walks.strWide hA _ _ t) (λ_ _ _ _ _ st h=>wpAny_pyIter_striter_wide st h) (by decide),⟨_,Heap.get?_push_size _ rfl,V⟩,fp,q⟩
theorem KP{cs:List Nat}{g:TG}{tt:TT}{te:TE}{σ0:L2.St}{H:Hp}{Q:VK}(Pv:Nat->L2.St->Hp->Prop)(h0:Pv 0 σ0 H)
  (hs:∀ (i:Nat) c σ H,cs[i]?=some c->Pv i σ H->g (yo c) σ H fun σ2 H2=>tt σ2 H2 λb H3=>if b=true then te σ2 H3 λv H4=>∃ ys,H4 acc=some (.lst ys)/\ys.length<sizeLine/\Pv (i+1) σ2 (aP H4 acc (.lst (ys++[v]))) else Pv (i+1) σ2 H3)
  (hd:∀ σ H,Pv cs.length σ H->Q (.ref acc) H):yl (Its cs) acc g tt te σ0 H Q:=by
 refine⟨λi m σ H=>m=cs.length-i/\i<=cs.length/\Pv i σ H,⟨cs.length,by simp,Nat.zero_le _,h0⟩,?_⟩;rintro i m σ H ⟨rfl,hi,p⟩;by_cases qe:i<cs.length
 ·refine .inr ⟨qe,Pv (i+1),fun σ' H' p'=>⟨cs.length-(i+1),Q,rfl,qe,p'⟩,λx H' y=>?_⟩;obtain⟨e,c,y,ex⟩:=y;subst e ex;exact hs i c σ _ y p
 ·have e:i=cs.length:=by lia
  subst e;exact .inl ⟨rfl,hd σ H p⟩
end cZ
namespace cZ
open Spec Rows L2 fH gA
section
variable {X:Cx}
theorem CN(a b:List Nat):fD a++fD b=fD (a++b):=by
 show (⟨a.toArray++b.toArray⟩:Str)=⟨(a++b).toArray⟩;simp
end
end cZ
namespace t6
end t6
namespace t6
open Spec Rows
end t6
namespace t6
open Spec Rows
end t6
namespace t6
open Spec Rows
end t6
namespace t6
open Spec Rows
end t6
namespace t6
open Spec Rows
end t6
namespace t6
open Spec Rows
end t6
namespace t6
open Spec Rows L2
end t6
namespace iO
open Spec Rows L2 cZ Builtin Builtin.Str
theorem uS(cs:List Nat):(fD cs).cps.toList=cs:=by simp[fD]
def jn(c:Nat):iH->List Nat
 | []=>[]
 | [x]=>x
 | x::y::r=>x++c::jn c (y::r)
theorem NI(c:Nat):∀ ps:iH,Str.join ⟨#[c]⟩ (ps.map fD)=fD (jn c ps)
 | []=>rfl
 | [x]=>rfl
 | x::y::r=>by
  show fD x++⟨#[c]⟩++Str.join ⟨#[c]⟩ ((y::r).map fD)=_;rw[NI c (y::r)];refine ext_toList ?_;rw[uS];show ((fD x).cps++#[c]++(fD (jn c (y::r))).cps).toList=_;rw[Array.toList_append,Array.toList_append,uS,uS];simp[jn]
end iO
namespace iO
open Spec Rows L2 cZ Builtin Builtin.Str
section
variable {X:Cx}
theorem BN:∀ {ys:List Str} {us:List Value},cu (ys.map V.str) us->StrsAre us ys
 | [],_,.nil=>.nil
 | _::_,_,.cons r t=>by
  obtain⟨t',rfl⟩:=r;exact .cons _ t' (BN t)
theorem EO:Ww X "str.join" (λx xs H Q=>∃ (l:Addr) (c:Nat) (ps:iH),x=.str ⟨#[c]⟩/\xs=[.ref l]/\H l=some (.lst (ps.map λw=>V.str (fD w)))/\(ps.map List.length).sum+ps.length<=1000000/\Q (.str (fD (jn c ps))) H):=by
 intro ao s σ H x xs v us Q I rx rs h;obtain⟨l,c,ps,rfl,rfl,hl,hz,q⟩:=h;obtain⟨t,rfl⟩:=rx;obtain⟨u,rfl,ru⟩:=rs.one;cases (show u=Value.ref l from ru);obtain⟨aN,rv,pl,_⟩:=I.list (bI.of (K:=X.K) hl);have rv':cu ((ps.map fD).map V.str) aN:=by rw[List.map_map];exact rv
 refine join_list pl.isList (BN rv') ?_ λt' k=>?_
 ·rw[List.map_map,cG];have e1:(⟨#[c]⟩:Str).length=1:=rfl;have e2:ps.map ((λx:Str=>x.length) ∘ fD)=ps.map List.length:=List.map_congr_left λp _=>pF p;rw[e1,e2];lia
 ·have e:Txt.join ⟨#[c]⟩ (ps.map fD)=fD (jn c ps):=by
   show glued _ _=_;rw[StrLaws.glued_eq_join,NI]
  rw[e];exact⟨.str (fD (jn c ps)),H,I.tok _,⟨t',rfl⟩,q⟩
abbrev TJV:=L2.St->Hp->Str->(Str->Hp->Prop)->Prop
def WA(X:Cx)(es:List Expr)(m:Nat)(t:TJV):Prop:=∀ (ao:List (Addr × Obj)) (s:Shared) (σ:L2.St) (H:Hp) (xO:Str) (Q:Str->Hp->Prop),L2.Inv X ao σ H s->t σ H xO Q->xO.length+m<=1000000->
 wpAny (model X.prog X.w) X.A (joinParts xO (evalEach es X.env)) (λu s'=>∃ x tk H',u=.str x tk/\L2.Inv X ao σ H' s'/\Q x H') X.xe s
theorem QK:WA X [] 0 (λ_ H xO Q=>Q xO H):=λao s σ H xO Q I h hl =>
 joinParts_nil ⟨xO,_,H,rfl,I.tok _,h⟩ (iz (Nat.lt_of_le_of_lt hl (by decide)))
theorem QL{x:Str}{j:Nat}{es:List Expr}{m:Nat}{t:TJV}(h:WA X es m t):WA X (.Constant (.str x) j pos::es) (x.length+m) (fun σ H xO Q=>t σ H (xO++x) Q):=by
 intro ao s σ H xO Q I q hl;refine joinParts_consE (joinParts_cons (Calls.Constant_str ?_));have z:=fH.Jq (y:=x) hl (gh _);exact⟨z.1,h ao _ σ H _ Q (I.tok _) q z.2⟩
theorem JA{e:Expr}{te:TE}{es:List Expr}{m:Nat}{t:TJV}(he:PE X e te)(h:WA X es m t):WA X (.FormattedValue e (-1) none pos::es) (1921+m) (fun σ H xO Q=>te σ H λv H1=>∃ i:Int,v=.int i/\i.natAbs.log2<1920/\t σ H1 (xO++Str.ofString (toString i)) Q):=by
 intro ao s σ H xO Q I q hl;refine joinParts_consE (joinParts_cons (FormattedValue_plain (dc (he ao s σ H _ I q) λv s1 Am=>?_)));obtain⟨x,H1,I1,r1,i,e1,hi,q1⟩:=Am;subst e1;obtain⟨tk,rfl⟩:=r1;refine formatField_int_small hi ?_;have z:=fH.Jq (y:=Str.ofString (toString i)) hl (int_text_len_1921 hi);exact⟨z.1,h ao _ σ H1 _ Q (I1.tok _) q1 z.2⟩
theorem NJ{uB:List Expr}{m:Nat}{t:TJV}(h:WA X (v1::v2::uB) m t)(hm:m<=1000000:=by decide +kernel):PE X (.JoinedStr (v1::v2::uB) pos) (fun σ H Q=>t σ H Str.empty λx H1=>Q (.str x) H1):=by
 intro ao s σ H Q I q;refine JoinedStr_many (dc (h ao s σ H Str.empty _ I q (by show 0+m<=_;lia)) λu s1 D9=>?_);obtain⟨x,tk,H1,e,I1,q1⟩:=D9;subst e;exact⟨.str x,H1,I1,⟨Y⟩,q1⟩
end
end iO
namespace iO
open Spec Rows L2 cZ Builtin Builtin.Str
end iO
namespace iO
open Spec Rows L2 cZ Builtin Builtin.Str gA
def dg(n:Int):List Nat:=(Nat.toDigits 10 n.toNat).map Char.toNat
theorem yp{n:Int}(h:0<=n):Str.ofString (toString n)=fD (dg n):=by
 refine ext_toList ?_;rw[uS];obtain⟨m,rfl⟩:∃ m:Nat,n=(m:Int):=⟨n.toNat,Q⟩;exact PySem.W.KIN.signs_num m
theorem Hr{n:Int}(h0:0<=n)(h1:n<10^60):(dg n).length<=60:=by
 have:=toString_length_le h0 (k:=60) (by decide) h1;rw[yp h0,pF]at this;exact this
end iO
namespace NK
open Spec Rows PySem.W L2 cZ fH
end NK
namespace NK
open Spec Rows PySem.W L2 cZ fH
end NK
namespace iO
open Spec Rows L2 cZ Builtin Builtin.Str gA
end iO
namespace NK
open Spec Rows PySem.W L2 cZ fH
end NK
namespace ER
open Spec Rows L2 cZ fH gA
end ER
namespace ER
open Spec Rows L2 cZ fH gA PySem.W
section
variable {X:Cx}
theorem Yq{e:Expr}{te:TE}(he:PE X e te):PE X (.JoinedStr [.FormattedValue e (-1) none pos] iQ) (fun σ H Q=>te σ H λv H1=>(∃ i:Int,v=.int i/\i.natAbs.log2<1920/\Q (.str (Str.ofString (toString i))) H1)\/∃ cs:List Nat,v=.str (fD cs)/\cs.length<=100000/\Q (.str (fD cs)) H1):=by
 intro ao s σ H Q I q;refine JoinedStr_one (FormattedValue_plain (dc (he ao s σ H _ I q) λv s1 Cj=>?_));obtain⟨x,H1,I1,r1,h1⟩:=Cj;rcases h1 with ⟨i,rfl,hi,q1⟩|⟨cs,rfl,hc,q1⟩
 ·obtain⟨tk,rfl⟩:=r1;exact formatField_int_small hi ⟨.str _,H1,I1.tok _,⟨Y⟩,q1⟩
 ·obtain⟨tk,rfl⟩:=r1;exact formatField_str (λt' k=>⟨.str _,H1,I1.tok _,⟨Y⟩,q1⟩) (by rw[pF];exact iI hc (by decide))
end
end ER
namespace ER
open Spec Rows L2 cZ fH gA iO Builtin Builtin.Str
end ER
namespace ER
open Spec Rows L2 cZ Builtin Builtin.Str gA
end ER
namespace fH
open Spec Rows PySem.W L2
section
variable {X:Cx} {ao:List (Addr × Obj)} {σ:L2.St} {H:Hp} {s:Shared} {a:Addr}
variable {x m:Str} {st:Stmt} {ps:List Str} {f C:Addr} {fd:FuncData} {j k:Nat} {sp:Sp} {e o:Expr} {es:List Expr} {ta:TE} {t:TA} {p lu pos:Pos} {pl:Sem Bool}
variable {te:TEx} {i:Nat} {z:Str} {iQ:Pos} {c:Expr} {tc:TT} {tx ty:TSx} {a b:Stmt} {hs:List Hd}
theorem pG{y:Str}(d:gA.bY X.K X.mg x st ps f fd)(hm:X.mg y=some (.ref f))(G:bw X.prog X.w X.K X.mg X.zt cL k f fd ps sp)(hr:jb j X.A)
  (ha:PA X (e::es) t) (UD:k<=j:=by first|decide|lia) (hg:Gl X y:=by rfl) (Kf:(y == ("__debug__":Str))=false:=by decide) (he:starEach (e::es) X.env=(false,eval e X.env)::starEach es X.env:=by rfl)
  (DT:(backTo pos (starEach es X.env)).any (·.1)=false:=by rfl):PE X (.Call (.Name y p) (e::es) [] pos) (IV sp [] E0 t) :=
 IX G (hr.mono UD) hg hm d.F.kp d.b .nil bL ha Kf he DT
end
end fH
namespace pH
open Spec Rows PySem.W L2 cZ fH
end pH
namespace pH
open Spec Rows PySem.W L2 cZ fH
open Builtin Builtin.ObjectAttr
end pH
namespace pH
open Spec Rows PySem.W L2 cZ fH
open Builtin Builtin.ObjectAttr
end pH
namespace pH
open Spec Rows PySem.W L2 cZ fH
end pH
namespace pH
open Spec Rows PySem.W L2 cZ fH
open Builtin Builtin.ObjectAttr
end pH
namespace pH
open Spec Rows PySem.W L2 cZ fH
end pH
namespace pH
open Spec Rows PySem.W L2 cZ fH
end pH
namespace pH
open Spec Rows PySem.W L2 cZ fH
end pH
namespace pH
open Spec Rows PySem.W L2 cZ fH
end pH
namespace pH
open Spec Rows PySem.W L2 cZ fH
end pH
namespace gA
open Spec Rows L2 cZ fH zd
theorem eS{N P:List Str}{sc:Scope}(a:sc.kind=.function:=by rfl)(b:sc.isCoroutine=false:=by rfl)(c:sc.isGenerator=false:=by rfl)(d:N.Nodup:=by decide +kernel)(e:N.take P.length=P:=by rfl)(f:∀ x∈P,sc.names.lookup x=some .local\/sc.names.lookup x=some .cell:=by decide +kernel)(g:∀ y∈sc.names,y.2≠.free:=by decide +kernel):aF N P sc:=⟨a,b,c,d,e,f,g⟩
section
variable {P:Program} {w:World} {K:Frag} {mg:Str->Option Value} {zt:Heap}
theorem eU{x fP:Str}{st:Stmt}{f:Addr}{N ps:List Str}{k:Nat}{sp:Sp}(F:Qe K x fP st f fd)(S:aF N ps (az st))
  (Ei:∀ (cV:Value) (A:Around) (zn:List Env) (s:Shared) (H:Hp) (vs:List V) (Q:VK) (E:XK),jb k (A.deeper (envOfC fP (az st) s.heap.objs.size f cV))->sp vs H Q E->
   ∃ t,IQ (GP cL P w K mg zt N fP (az st) f cV A zn s H E).J4 (jq st) t/\t { nx:=λ_ H'=>Q .gm H',rt:=Q } (L2.start N vs) H) (len:∀ vs H Q E,sp vs H Q E->vs.length=ps.length:=by intro _ _ _ _ h;cases h;subst_vars;rfl):bw P w K mg zt cL (k+1) f fd ps sp:=F.ok S len Ei
end
section
variable {X:Cx}
theorem aX{i:Nat}{x:Str}{e:Expr}{te:TE}{pos:Pos}(hN:X.N.Nodup)(he:PE X e te)(hi:X.N[i]?=some x:=by rfl)(hx:Loc X.env.scope x:=by first|exact Or.inl rfl|exact Or.inr rfl)(hs:swapsWith e (some (.Name x iQ)) pos.line X.env=pure false:=by rfl)(hf:X.fn x=true\/X.env.scope.names.lookup x=some .local:=by first|exact .inl rfl|exact .inr rfl|assumption) :
  PS X (.Assign [.Name x iQ] e pos) (Mx te (rV i)):=Uc hN hi hx he hs hf
theorem b9{i:Nat}{x:Str}(hN:X.N.Nodup)(hi:X.N[i]?=some x:=by rfl)(hx:Loc X.env.scope x:=by first|exact Or.inl rfl|exact Or.inr rfl)(hf:X.fn x=true\/X.env.scope.names.lookup x=some .local:=by first|exact .inl rfl|exact .inr rfl|assumption):PG X (.Name x pos) (rV i):=PU hN hi hx hf
theorem aO{r:R2}{a b:Expr}{ta tb:TE}(hr:Wv X r)(ha:PE X a ta)(hb:PE X b tb)(hs:Jd b:=by exact λ_ _=>rfl):PE X (.Subscript a b pos) (Xp r ta tb):=XF hr ha hb hs
theorem gu{i:Expr}{td ty:TE}(hu:X.A.units+1<cLine)(ho:PE X o td)(hi:PE X i ty)(hs:UR i:=by exact λ_ _=>rfl):PE X (.Subscript o i pos) (SJ td ty):=QA hu ho hi hs
theorem fm{e:Expr}{te:TE}{p:Pos}(hm:X.mg "len"=none)(he:PE X e te)(hg:Gl X "len":=by rfl)(Ck:starEach [e] X.env=(false,eval e X.env)::starEach [] X.env:=by rfl):PE X (.Call (.Name "len" p) [e] [] pos) (tCB (Ut X.K) (MG te yK)):=cD Cr hg hm PySem.boot_len (aa he ah (hs:=Ck)) (by decide) (by decide) Ck rfl
variable {CX:MH} {j k:Nat} {f C fi:Addr} {fd:FuncData} {ps:List Str} {sp:Sp} {E:XK} {m cn q:Str} {st:Stmt} {pos lu:Pos} {e o:Expr} {es:List Expr} {ta:TE} {t:TA} {pl:Sem Bool}
theorem cQ(he:PE X o ta)(c:ClsAt X.K X.mg cn C fi)(d:c9 X.K C m q st ps f fd)(F:bw X.prog X.w X.K X.mg X.zt CX k f fd ps sp)(hr:jb j X.A)(hx:nk CX X E)(ha:PA X (e::es) t)(UD:k<=j:=by first|decide|lia)
  (Ck:starEach (e::es) X.env=(false,eval e X.env)::starEach es X.env:=by rfl) (DT:(backTo pos (starEach es X.env)).any (·.1)=false:=by rfl)
  (ht:eval (.Call (.Attribute o m lu) (e::es) [] pos) X.env=(do
   let ov ← eval o X.env
   standAt lu.atName
   let (f,first) ← holding [ov] (getMethod ov m pl)
   callWith pos f first (backTo pos (starEach (e::es) X.env)) (backToKw pos (keywordEach [] X.env))):=by rfl) :
  PE X (.Call (.Attribute o m lu) (e::es) [] pos) (IW C m sp [] E ta t):=P4 he c.cl d.mt F (hr.mono UD) d.b .nil hx ha Ck DT ht
theorem eO(he:PE X o ta)(c:ClsAt X.K X.mg cn C fi)(d:c9 X.K C m q st ps f fd)(F:bw X.prog X.w X.K X.mg X.zt CX k f fd ps sp)(hr:jb j X.A)(hx:nk CX X E)(UD:k<=j:=by first|decide|lia)
  (ht:eval (.Call (.Attribute o m lu) [] [] pos) X.env=(do
   let ov ← eval o X.env
   standAt lu.atName
   let (f,first) ← holding [ov] (getMethod ov m pl)
   callWith pos f first (backTo pos (starEach [] X.env)) (backToKw pos (keywordEach [] X.env))):=by rfl) :
  PE X (.Call (.Attribute o m lu) [] [] pos) (IW C m sp [] E ta yK):=MJ he c.cl d.mt F (hr.mono UD) d.b .nil hx ht
end
theorem iP:0<=sizeLine:=by decide
theorem lD:1<=sizeLine:=by decide
theorem nK:2<=sizeLine:=by decide
theorem Hs:3<=sizeLine:=by decide
theorem CO:4<=sizeLine:=by decide
theorem U6:5<=sizeLine:=by decide
theorem Yr:6<=sizeLine:=by decide
theorem t7{x:V}{r:List V}:pX (x::r) 0=some x:=dD (j:=0) rfl
theorem uT{x y:V}{r:List V}:pX (x::y::r) 1=some y:=dD (j:=1) rfl
theorem Av{x y z:V}{r:List V}:pX (x::y::z::r) 2=some z:=dD (j:=2) rfl
theorem Aw{x y z u:V}{r:List V}:pX (x::y::z::u::r) 3=some u:=dD (j:=3) rfl
theorem QM{x y z u v:V}{r:List V}:pX (x::y::z::u::v::r) 4=some v:=dD (j:=4) rfl
theorem Ys{x y z u v w:V}{r:List V}:pX (x::y::z::u::v::w::r) 5=some w:=dD (j:=5) rfl
end gA
set_option Elab.async false
set_option linter.all false
set_option maxRecDepth 100000
namespace gA
open L2 cZ fH zd UW
structure Nms(mg:Str->Option Value):Prop where
 eV:mg "len"=none
 jf:mg "list"=none
 JB:mg "tuple"=none
 SO:mg "int"=none
 Ht:mg "bool"=none
 SQ:mg "str"=none
 i7:mg "range"=none
 Yt:mg "zip"=none
 dF:mg "isinstance"=none
 SR:mg "sum"=none
 JC:mg "min"=none
 ES:mg "max"=none
 Yu:mg "all"=none
 jX:∀ f,mg "size"=some (.ref f)->mg "size_spans"=some (.ref f)
 qF:∀ f,mg "shown"=some (.ref f)->mg "shown_weave"=some (.ref f)
 xQ:∀ f,mg "weight"=some (.ref f)->mg "weight_weave"=some (.ref f)
section
variable {P:Program} {w:World} {K:Frag} {mg:Str->Option Value} {zt:Heap}
theorem Hu:aF ["_law_script"] ["_law_script"] (az vI):=eS
structure Gbs(mg:Str->Option Value):Prop where
 s:∃ t,mg "MOST_SHEETS"=some (.int 40 t)
 w:∃ t,mg "MOST_WEIGHT"=some (.int 200 t)
 h:∃ t,mg "HIDDEN"=some (.str "#" t)
structure Ds(K:Frag)(mg:Str->Option Value)(aY:Nat->Addr)(bf:Nat->FuncData)(C CS CW CB CT CD:Addr):Prop where
 T:Nms mg
 G:Gbs mg
 aM:ClsAt K mg "Library" C (aY 50)
 cF:ClsAt K mg "Shelf" CS (aY 34)
 iT:ClsAt K mg "Well" CW (aY 45)
 t9:ClsAt K mg "Blots" CB (aY 9)
 BO:ClsAt K mg "Ties" CT (aY 43)
 ET:ClsAt K mg "Dues" CD (aY 44)
 jV:fR K CS "states"
 nT:fR K CS "openings"
 tT:fR K CW "signs"
 uI:fR K CW "owners"
 nU:fR K CW "pourings"
 uJ:fR K CB "stains"
 Cz:fR K CT "given"
 CA:fR K CT "pairs"
 Ji:fR K CD "sums"
 wZ:fR K C "well"
 eX:fR K C "shelf"
 yQ:fR K C "blots"
 CC:fR K C "knots"
 Jj:fR K C "dues"
 Em:fR K C "book"
 dq0:bY K mg "_law_src" vI ["_law_script"] (aY 0) (bf 0)
 xq:bY K mg "_law_next" sU Wq (aY 1) (bf 1)
 dq2:bY K mg "_law_whole" qu ["_law_found"] (aY 2) (bf 2)
 Mc:bY K mg "_law_same" sV zl3 (aY 3) (bf 3)
 dq4:bY K mg "plain" GX ["row"] (aY 4) (bf 4)
 QN:bY K mg "size" Jf ["row"] (aY 5) (bf 5)
 WB:bY K mg "check_places" nu zl4 (aY 6) (bf 6)
 U7:bY K mg "pieces" Cs zl4 (aY 7) (bf 7)
 dq8:bY K mg "part" M5 zl4 (aY 8) (bf 8)
 dq9:c9 K CB "__init__" "Blots.__init__" kF Gq (aY 9) (bf 9)
 Yv:bY K mg "addresses" oG ["row"] (aY 10) (bf 10)
 U8:bY K mg "windows" uH ["items"] (aY 11) (bf 11)
 U9:bY K mg "below" Ct ["rows","sheets"] (aY 12) (bf 12)
 Yw:bY K mg "way_between" oH ["rows","start","goal"] (aY 13) (bf 13)
 Yx:bY K mg "ring" M6 WU (aY 14) (bf 14)
 Yy:bY K mg "item_weight" oJ ["item","weights"] (aY 15) (bf 15)
 Va:bY K mg "weights_below" jt ["rows","sheets"] (aY 16) (bf 16)
 Vb:bY K mg "weight" Cu WU (aY 17) (bf 17)
 Vc:bY K mg "item_row" vJ ["item","views"] (aY 18) (bf 18)
 NL:bY K mg "views_below" lC ["rows","sheets"] (aY 19) (bf 19)
 NN:bY K mg "shown" GY WU (aY 20) (bf 20)
 Yz:bY K mg "goes_on" yO ["one","other"] (aY 21) (bf 21)
 KQ:bY K mg "plain_items" oK ["items"] (aY 22) (bf 22)
 EU:bY K mg "inked" Cv ["row"] (aY 23) (bf 23)
 Vd:bY K mg "dealt" GZ ["items","views"] (aY 24) (bf 24)
 Ve:bY K mg "put_among" sW ["items","views","place","others"] (aY 25) (bf 25)
 QO:bY K mg "put_items" sX ["rows","sheet","place","items"] (aY 26) (bf 26)
 Vf:bY K mg "parted" Cw ["items","views","start","stop"] (aY 27) (bf 27)
 YA:bY K mg "cut_items" sY ["rows","sheet","start","stop"] (aY 28) (bf 28)
 YB:bY K mg "moved_items" oM ["rows","sheet","start","stop","to"] (aY 29) (bf 29)
 YC:bY K mg "fixed_items" oN WU (aY 30) (bf 30)
 QS:bY K mg "ink_words" oO ["row"] (aY 31) (bf 31)
 YD:bY K mg "shown_deed" qv ["deed"] (aY 32) (bf 32)
 Vg:bY K mg "changed" yP ["state","sheet","items"] (aY 33) (bf 33)
 YE:c9 K CS "__init__" "Shelf.__init__" kG Gq (aY 34) (bf 34)
 NO:c9 K CS "now" "Shelf.now" sZ Gq (aY 35) (bf 35)
 Vh:c9 K CS "many" "Shelf.many" qw Gq (aY 36) (bf 36)
 YF:c9 K CS "step" "Shelf.step" qx ["self","changes"] (aY 37) (bf 37)
 Ax:c9 K CS "check_sheet" "Shelf.check_sheet" jc Sj (aY 38) (bf 38)
 YG:c9 K CS "check_moment" "Shelf.check_moment" iJ ["self","moment"] (aY 39) (bf 39)
 YH:c9 K CS "rows_then" "Shelf.rows_then" iB ["self","moment"] (aY 40) (bf 40)
 Ay:c9 K CS "rows" "Shelf.rows" qy Gq (aY 41) (bf 41)
 YI:c9 K CS "row" "Shelf.row" tF Sj (aY 42) (bf 42)
 YJ:c9 K CT "__init__" "Ties.__init__" lS Gq (aY 43) (bf 43)
 YK:c9 K CD "__init__" "Dues.__init__" lT Gq (aY 44) (bf 44)
 YL:c9 K CW "__init__" "Well.__init__" lU Gq (aY 45) (bf 45)
 KR:c9 K CW "size" "Well.size" tG Gq (aY 46) (bf 46)
 YM:c9 K CW "pour" "Well.pour" tH ["self","hand","text"] (aY 47) (bf 47)
 YN:c9 K CW "holds" "Well.holds" mZ ["self","row"] (aY 48) (bf 48)
 YO:bY K mg "check_weave" oQ WU (aY 49) (bf 49)
 Vi:c9 K C "__init__" "Library.__init__" ju Gq (aY 50) (bf 50)
 Vj:c9 K C "enter" "Library.enter" lV ["self","deed","changes"] (aY 51) (bf 51)
 EV:c9 K C "change" "Library.change" kH ["self","deed","sheet","items"] (aY 52) (bf 52)
 Vk:c9 K C "many" "Library.many" ny Gq (aY 53) (bf 53)
 YQ:c9 K C "now" "Library.now" oR Gq (aY 54) (bf 54)
 YR:c9 K C "begin" "Library.begin" lW ["self","deed","items"] (aY 55) (bf 55)
 Vl:c9 K C "fresh" "Library.fresh" lX Gq (aY 56) (bf 56)
 YS:c9 K C "ink" "Library.ink" oS Gq (aY 57) (bf 57)
 YT:c9 K C "check_held" "Library.check_held" iK ["self","row"] (aY 58) (bf 58)
 Vm:c9 K C "pour" "Library.pour" nA ["self","hand","text"] (aY 59) (bf 59)
 YU:c9 K C "put" "Library.put" oU ["self","sheet","place","row"] (aY 60) (bf 60)
 KS:c9 K C "shown" "Library.shown" lY Sj (aY 61) (bf 61)
 YV:c9 K C "cut" "Library.cut" oV ["self","sheet","start","stop"] (aY 62) (bf 62)
 YW:c9 K C "quote" "Library.quote" lZ ["self","target","place","source","start","stop"] (aY 63) (bf 63)
 YX:c9 K C "row" "Library.row" oW Sj (aY 64) (bf 64)
 YY:c9 K C "window" "Library.window" kJ ["self","target","place","source"] (aY 65) (bf 65)
 YZ:c9 K C "fix" "Library.fix" oX Sj (aY 66) (bf 66)
 Y0:c9 K C "move" "Library.move" nB ["self","sheet","start","stop","to"] (aY 67) (bf 67)
 Y3:c9 K C "weight" "Library.weight" kK Sj (aY 68) (bf 68)
 Y4:bY K mg "first_reaching" kL ["holes","start"] (aY 69) (bf 69)
 Y5:bY K mg "within" Cy ["holes","address"] (aY 70) (bf 70)
 Y6:c9 K CB "hides" "Blots.hides" oY ["self","address"] (aY 71) (bf 71)
 Y7:c9 K CW "check_address" "Well.check_address" iL ["self","address"] (aY 72) (bf 72)
 Y8:c9 K CW "sign" "Well.sign" tK ["self","address"] (aY 73) (bf 73)
 Y9:c9 K C "veiled" "Library.veiled" iZ ["self","row","veil"] (aY 74) (bf 74)
 Za:c9 K C "text" "Library.text" nC Sj (aY 75) (bf 75)
 Zb:c9 K C "size" "Library.size" nE Sj (aY 76) (bf 76)
 Zc:bY K mg "_law_sign" tL ["_law_src_here","_law_few"] (aY 77) (bf 77)
 Zd:bY K mg "_law_text" oZ ["_law_src_here","_law_many"] (aY 78) (bf 78)
 Hv:bY K mg "_law_world" m6 [] (aY 79) (bf 79)
 QT:bY K mg "_law_keep" tM ["_law_world_here","_law_rows"] (aY 80) (bf 80)
 Vn:bY K mg "_law_swap" tN ["_law_rows","_law_sheet","_law_entries"] (aY 81) (bf 81)
 Ze:bY K mg "_law_spell" qz ["_law_row"] (aY 82) (bf 82)
 EW:bY K mg "_law_show" tO zl6 (aY 83) (bf 83)
 Zf:bY K mg "_law_reached" nF zl6 (aY 84) (bf 84)
 Vo:bY K mg "_law_pieces" o6 zl7 (aY 85) (bf 85)
 NP:bY K mg "_law_put" vK zl8 (aY 86) (bf 86)
 Vp:bY K mg "_law_cut" vL zl9 (aY 87) (bf 87)
 QU:bY K mg "_law_weighed" nG zl6 (aY 88) (bf 88)
 Zg:bY K mg "_law_row_of" o7 ["_law_numbers"] (aY 89) (bf 89)
 Zh:bY K mg "_law_items_of" l5 ["_law_entries"] (aY 90) (bf 90)
 Zi:bY K mg "_law_fits" pA zl6 (aY 91) (bf 91)
 Zj:bY K mg "_law_after" qA ["_law_world_here","_law_deed_here"] (aY 92) (bf 92)
 acK:c9 K C "back" "Library.back" rX ["self","sheet","moment"] (aY 93) (bf 93)
 Zk:bY K mg "_law_done" tP ["_law_house","_law_deed_here"] (aY 94) (bf 94)
 Zl:bY K mg "_law_ink_row" nH WV (aY 95) (bf 95)
 Zm:bY K mg "_law_move_by" nI ["_law_src_here","_law_sheet","_law_room"] (aY 96) (bf 96)
 Zn:bY K mg "_law_draw" tQ WV (aY 97) (bf 97)
 Zo:bY K mg "_law_deed" tR Mq (aY 98) (bf 98)
 Zp:bY K mg "_law_pour" pB Mq (aY 99) (bf 99)
 SS:bY K mg "_law_fresh" qB TQ (aY 100) (bf 100)
 SV:bY K mg "_law_begin" qC Mq (aY 101) (bf 101)
 SX:bY K mg "_law_read" tS ["_law_world_here","_law_numbers"] (aY 102) (bf 102)
 SY:bY K mg "_law_sheet_right" jv WW (aY 103) (bf 103)
 JD:bY K mg "_law_seen" pC TQ (aY 104) (bf 104)
def nth{α:Type}:List α->α->Nat->α
 | [],d,_=>d
 | a::_,_,0=>a
 | _::l,d,n+1=>nth l d n
theorem Hw:‹(1,0,["_law_script"],(SD K))›:=λD=>by
 specialize eU D.dq0.F Hu;obtain⟨a,ns,rfl,hS,k⟩:=h;exists _,(au (aG (bM (aa (eT fZ rfl D.T.jf sN (aa (iS ly (pv 0) mX (iY ay)) ah)) (aa ay (aa ay (aa ay ah)))))));refine⟨Y,Y,a,Y,hS,λp hp=>?_⟩;refine⟨p,Y,.inl (bI.of af),λc hc=>?_⟩;refine⟨CO,λl hl=>?_⟩;obtain⟨ms,em⟩:=Nj ns none (some 63);have Gv:c≠l:=aA (H:=aP (aP H p _) c _) af hl;have s1:aI H (aP H p (.lst (j3 (ns.map V.int) none (some 63)))):=ak hp _;have s2:=s1.trans (ak hc (.lst (j3 (ns.map V.int) none (some 63))));refine k l c _ ⟨Gv,ms,0,0,1,af,?_,E,E,E⟩ (s2.trans (ak hl _)) (s2.free hl) (s1.free hc);rw[aL Gv,af,em]
theorem m8:aF ["_law_src_here","_law_base","_law_cell","_law_digit"] ["_law_src_here","_law_base"] (az sU):=eS
theorem gc:‹(1,1,["_law_src_here","_law_base"],tW)›:=λD=>by
 specialize eU D.xq.F m8;obtain⟨l,c,b,rfl,S,hb0,JE,k⟩:=h;exists _,(aj (G4 (t':=UH) (bN (aT gp (aO bu (pv 0) ay) ay (bx _)) (aj (aX (i:=2) m8.nd ay) (aj (G4 (t':=UI) (bN (aT kU (aO bu (pv 0) ay) (fm D.T.eV (aO bu (pv 0) ay)) (bx _)) (aj (aX (i:=2) m8.nd (aO bu (aO bu (pv 0) ay) (aO bu (pv 0) ay))) (au (lP (bG dh (aO bu (pv 0) ay) ay) (oE (pv 0) ay jm)))) aZ) ?b2) (aj (lP (bG yF (bG dh (bG dh (bG GI (aO bu (pv 0) ay) ay) (bG yF (pv 2) ay)) ay) ay) (oE (pv 0) ay jm)) (au (bN (aT Sv (pv 2) (bG MA ay ay) (bx _)) (au (lP (pv 2) (oE (pv 0) ay jm))) aZ))))) aZ) ?b1) (aj (bN (aT Bd (aO bu (pv 0) ay) ay (bx _)) (aj (aX (i:=3) m8.nd (bG yF (aO bu (pv 0) ay) (pv 1))) (aj (lP (bG uL (aO bu (pv 0) ay) (pv 1)) (oE (pv 0) ay jm)) (au (aG (pv 3))))) aZ) (au (aG (bG yF (bG uL (bG yF (bG GI (aO bu (pv 0) ay) ay) ay) ay) (pv 1))))))
 case b2 =>
  rintro D σ H ⟨l,c,b,rfl,⟨Gv,ns,i,d,r,hl,hc,hi,xr,hr1⟩,k⟩;exists Y,l,K,V,bI.of hl,UE,Y,l,K,V,bI.of hl,X3,c,Y,.inl (bI.of hc),Z,Y;refine cX (λc2=>?_) (λc2=>?_)
  ·have c3:i<(ns.length:Int):=by
    have z:=of_decide_eq_true c2;rwa [cG]at z
   obtain⟨v,hv⟩:=Qp hi c3;exists Y,l,K,V,bI.of hl,X3,Y,l,K,V,bI.of hl,UE,c,K,V,bI.of hc,hv;exists Y,l,K,V,bI.of hl,UE,Z,Y,l,P,1,V,hl,rfl;exact k v _ ⟨Gv,ns,i+1,d,r,af,by rw[aL Gv];exact hc,Q,xr,hr1⟩ λa ha=>aL ha
  ·exact k 7 H ⟨Gv,ns,i,d,r,hl,hc,hi,xr,hr1⟩ λa _=>rfl
 case b1 =>
  rintro D σ H ⟨l,c,b,rfl,S,k⟩;obtain⟨Gv,ns,i,d,r,hl,hc,hi,xr,hr1⟩:=id S;exists Y,l,K,V,bI.of hl,Ql,Z,Y;refine cX (λc1=>?_) (λc1=>?_)
  ·refine⟨l,c,b,rfl,S,λcell H1 S1 k1=>?_⟩;obtain⟨_,ns1,i1,d1,r1,Eo,WC,hi1,JF,KU⟩:=id S1;exists Y,l,K,V,bI.of Eo,X4,Z,.inl ⟨Q,Q⟩,Y,Z,(by show (0:Int)<998244353;decide),Z,Z,Z,(by show (0:Int)<2147483647;decide),Y,l,P,3,V,Eo,rfl;exists Y,Z,⟨E,E,E⟩,Z,Y;have b0:0<=(r1*48271+cell % 998244353+1) % 2147483647:=Int.emod_nonneg _ (by decide);have b1:(r1*48271+cell % 998244353+1) % 2147483647<2147483647:=Int.emod_lt_of_pos _ (by decide);refine cX (λc2=>?_) (λc2=>?_)
   ·exists Y,Y,l,P,2,V,af,rfl;refine k _ _ ⟨Gv,ns1,i1,cell,_,af,?_,hi1,b0,b1⟩ λa ha=>?_
    ·rw[aL Gv,aL Gv];exact WC
    ·rw[aL ha,aL ha];exact k1 a ha
   ·refine k _ _ ⟨Gv,ns1,i1,d1,_,af,?_,hi1,b0,b1⟩ λa ha=>?_
    ·rw[aL Gv];exact WC
    ·rw[aL ha];exact k1 a ha
  ·exact k none H S λa _=>rfl
 refine⟨l,c,b,rfl,S,λcell H1 S1 k1=>?_⟩;obtain⟨Gv,ns,i,d,r,hl,hc,hi,xr,hr1⟩:=S1;exists Y,l,K,V,bI.of hl,Ql,Z,Y;refine cX (λc1=>?_) (λc1=>?_)
 ·exists Y,l,K,V,bI.of hl,Ql,Y,Z,hb0;exists Y,l,K,V,bI.of hl,Ql,Y,Z,⟨hb0,JE⟩,Y,l,P,2,V,hl,rfl;exists Y;refine k (d % b) _ (Int.emod_nonneg _ ∅) (Int.emod_lt_of_pos _ hb0) ⟨Gv,ns,i,d / b,r,af,?_,hi,xr,hr1⟩ λa ha=>?_
  ·rw[aL Gv];exact hc
  ·rw[aL ha];exact k1 a ha
 ·exists Y,l,K,V,bI.of hl,X4,Z,.inl ⟨Q,Q⟩,Z,(by show (0:Int)<2147483399;decide),Z,⟨E,E⟩,Y,Z,hb0;exact k _ _ (Int.emod_nonneg _ ∅) (Int.emod_lt_of_pos _ hb0) ⟨Gv,ns,i,d,r,hl,hc,hi,xr,hr1⟩ k1
theorem CP:aF ["_law_found"] ["_law_found"] (az qu):=eS
theorem qG:aF ["_law_found","_law_due","_law_one","_law_other"] ["_law_found","_law_due"] (az sV):=eS
theorem CQ:‹(1,2,["_law_found"],Jo)›:=λD=>by
 specialize eU D.dq2.F CP;obtain⟨i,rfl,k⟩:=h;exists _,(au (aG (ni (cD dR rfl D.T.dF xJ (aa (pv 0) (aa (pP rfl D.T.SO PyProof.Rows.boot_int) ah))) (oB (T7 (cD dR rfl D.T.dF xJ (aa (pv 0) (aa (pP rfl D.T.Ht PyProof.Rows.boot_bool) ah))))))));exact⟨Y,K,Y,j0.int i,X8 K,Y,jr ⟨Y,K,Y,j0.int i,X7 K,Y,k⟩⟩
theorem Az(D:Ds K mg aY bf C CS CW CB CT CD){n:Nat}(EX:bw P w K mg zt cL 1 (aY 2) (bf 2) ["_law_found"] Jo)(fK:bw P w K mg zt cL (n+1) (aY 3) (bf 3) ["_law_found","_law_due"] (vN n)):bw P w K mg zt cL (n+2) (aY 3) (bf 3) ["_law_found","_law_due"] (vN (n+1)):=by
 refine D.Mc.F.ok qG (λvs H Q E h=>?_) (λcV A zn s H vs Q E hr h=>?_)
 ·obtain⟨x,y,rfl,_⟩:=h;rfl
 obtain⟨x,y,rfl,h,k⟩:=h;exists _,(aj (bN (Cg (GA (pv 1))) (au (aG (Mw (GA (pv 0))))) aZ) (aj (bN (gw (cD dR rfl D.T.dF xJ (aa (pv 1) (aa (pP rfl D.T.Ht PyProof.Rows.boot_bool) ah)))) (au (aG (ni (cD dR rfl D.T.dF xJ (aa (pv 0) (aa (pP rfl D.T.Ht PyProof.Rows.boot_bool) ah))) (oB (jk dQ (pv 0) (pv 1) (bx _)))))) aZ) (aj (bN (gw (cD dR rfl D.T.dF xJ (aa (pv 1) (aa (pP rfl D.T.SO PyProof.Rows.boot_int) ah)))) (au (aG (ni (aC D.dq2 EX hr (aa (pv 0) ah)) (oB (jk dQ (pv 0) (pv 1) (bx _)))))) aZ) (aj (bN (gw (cD dR rfl D.T.dF xJ (aa (pv 1) (aa (pP rfl D.T.SQ PyProof.Rows.boot_str) ah)))) (au (aG (ni (cD dR rfl D.T.dF xJ (aa (pv 0) (aa (pP rfl D.T.SQ PyProof.Rows.boot_str) ah))) (oB (jk dQ (pv 0) (pv 1) (bx _)))))) aZ) (aj (bN (PW.pt (Ea (aT MC (cD dR rfl D.T.dF xJ (aa (pv 1) (aa (pP rfl D.T.jf sN) ah))) (cD dR rfl D.T.dF xJ (aa (pv 0) (aa (pP rfl D.T.jf sN) ah))) (bx _)) (Ci (aT MC (cD dR rfl D.T.dF xJ (aa (pv 1) (aa (pP rfl D.T.JB PyProof.Rows.boot_tuple) ah))) (cD dR rfl D.T.dF xJ (aa (pv 0) (aa (pP rfl D.T.JB PyProof.Rows.boot_tuple) ah))) (bx _))))) (au (aG jL)) aZ) (aj (bN (aT MC (fm D.T.eV (pv 0)) (fm D.T.eV (pv 1)) (bx _)) (au (aG jL)) aZ) (aj (d9 PassesOwn.never rfl (UC rfl D.T.Yt (aa (pv 0) (aa (pv 1) ah))) (nj (n:=2) rfl (b8 (b9 (i:=2) qG.nd) (b8 (b9 (i:=3) qG.nd) gO))) (au (bN (gi (gw (aC D.Mc fK hr (aa (pv 2) (aa (pv 3) ah))))) (au (aG jL)) aZ))) (au (aG jL)))))))));have kk:=k H (aI.refl H);rcases h with ⟨hf,rfl⟩|⟨kd,a,b,xs,ys,rfl,rfl,h1,h2,hl,hi⟩
 ·cases x with
  | gm =>
   refine⟨Y,Y,cX (λ_=>?_) (λc=>absurd (decide_eq_true rfl) c)⟩;exact⟨Y,tt rfl kk⟩
  | bl v =>
   refine⟨Y,Y,cX (λc=>absurd (of_decide_eq_true c) (λz=>nomatch z)) (λ_=>?_)⟩;refine⟨Y,K,Y,j0.bl v,X6 K,Y,jr ?_⟩;exact⟨Y,K,Y,j0.bl v,X6 K,Y,jr ⟨Y,Y,rfl,tt rfl kk⟩⟩
  | int i =>
   refine⟨Y,Y,cX (λc=>absurd (of_decide_eq_true c) (λz=>nomatch z)) (λ_=>?_)⟩;refine⟨Y,K,Y,j0.int i,X7 K,Y,d7 ?_⟩;refine⟨Y,K,Y,j0.int i,X8 K,Y,jr ?_⟩;exact⟨Y,i,rfl,Y,jr ⟨Y,Y,rfl,tt rfl kk⟩⟩
  | str v =>
   refine⟨Y,Y,cX (λc=>absurd (of_decide_eq_true c) (λz=>nomatch z)) (λ_=>?_)⟩;refine⟨Y,K,Y,j0.str v,ab4 K,Y,d7 ?_⟩;refine⟨Y,K,Y,j0.str v,ab5 K,Y,d7 ?_⟩;refine⟨Y,K,Y,j0.str v,X9 K,Y,jr ?_⟩;exact⟨Y,K,Y,j0.str v,X9 K,Y,jr ⟨Y,Y,rfl,tt rfl kk⟩⟩
  | _=>cases hf
 ·refine⟨Y,Y,cX (λc=>absurd (of_decide_eq_true c) (λz=>nomatch z)) (λ_=>?_)⟩;refine⟨Y,K,Y,h2.ty,ach K kd,Y,d7 ?_⟩;refine⟨Y,K,Y,h2.ty,aci K kd,Y,d7 ?_⟩;refine⟨Y,K,Y,h2.ty,acj K kd,Y,d7 ?_⟩;refine⟨Y,K,Y,h2.ty,Yc K kd,Y,K,Y,h1.ty,Yc K kd,rfl,Y,M0 rfl ?_⟩;refine⟨Y,K,Y,h2.ty,Yd K kd,Y,K,Y,h1.ty,Yd K kd,rfl,Y,M0 rfl ?_⟩;refine⟨Y,a,Y,h1.or,Y,b,Y,h2.or,rfl,Y,M0 (by rw[hl]) ?_⟩;refine⟨Y,Y,kd,a,b,xs,ys,rfl,h1.sq,h2.sq,Qj (λi σ H2=>∃ u v,σ=[some (.ref a),some (.ref b),u,v]/\aI H H2) hl ⟨none,none,rfl,aI.refl H⟩ (by rintro i σ H2 _ ⟨_,_,_,s⟩;exact⟨(h1.same s).sq,(h2.same s).sq⟩) ?_ ?_⟩
  ·rintro i u v p σ H2 eu ev hp ⟨_,_,rfl,s⟩;exists p,Y,dH.of af,rfl,u,[v],rfl,v,[],V;have s2:=s.trans (ak hp (.tup [u,v]));refine⟨Y,Y,u,v,rfl,Eqv.same s2 (hi i u v eu ev),λH4 s4=>⟨Y,d7 ?_⟩⟩;exact⟨P,rfl,s2.trans s4⟩
  ·rintro σ H2 ⟨_,_,rfl,s⟩;exact k H2 s
theorem j5(D:Ds K mg aY bf C CS CW CB CT CD):∀ n:Nat,bw P w K mg zt cL (n+1) (aY 3) (bf 3) ["_law_found","_law_due"] (vN n)
 | 0=>by
  have no:∀ vs H Q E,¬ vN 0 vs H Q E:=λvs H Q E h=>by
   obtain⟨x,y,_,h,_⟩:=h;exact h
  exact⟨λvs H Q E h=>absurd h (no vs H Q E),λA zn s H args us vs Q E _ _ _ _ h=>absurd h (no vs H Q E)⟩
 | n+1=>Az D (CQ D) (j5 D n)
theorem yq:aF ["row","told","start","stop"] ["row"] (az GX):=eS
theorem zj:‹(1,4,["row"],Qo)›:=λD=>by
 specialize eU D.dq4.F yq;obtain⟨r,row,rfl,⟨as,hr1,hp⟩,dI,k⟩:=h;refine⟨_,(aj (aX (i:=1) yq.nd (bM ah)) (aj (d9 PassesOwn.never rfl (cJ (pv 0)) (nj (n:=2) rfl (b8 (b9 (i:=2) yq.nd) (b8 (b9 (i:=3) yq.nd) gO))) (aj (bN (aT dQ (pv 2) (pv 3) (bx _)) (au Ed) aZ) (au (bN (PW.pt (qm (lQ (pv 1) (λ_=>rfl)) (oA (aT dQ (aO br (aO bu (pv 1) (gB eL ay)) ay) (pv 2) (bx _))))) (au (lP (cW (aa (aO br (aO bu (pv 1) (gB eL ay)) ay) (aa (pv 3) ah))) (oE (pv 1) (gB eL ay) jm))) (au (bg (dM pW jN jO bS (pv 1) (aa (cW (aa (pv 2) (aa (pv 3) ah))) ah)))))))) (au (aG (pv 1))))),?_⟩;refine⟨iP,λq hq=>?_⟩;have s0:aI H (aP H q (.lst [])):=ak hq _;refine⟨Y,r,rfl,⟨_,bI.of (s0 _ _ hr1)⟩,dN (K:=K) (a:=r) (xs:=as.map V.ref) (λi σ H2=>∃ (bs:List Addr) (u v:Option V),σ=[some (.ref r),some (.ref q),u,v]/\H2 q=some (.lst (bs.map V.ref))/\bQ H2 bs ((row.take i).foldl ef [])/\aI H H2) ⟨[],none,none,rfl,af,.nil,s0⟩ (by rintro i σ H2 _ ⟨_,_,_,_,_,_,s⟩;exact bI.of (s _ _ hr1)) ?_ ?_⟩
 ·rintro i x σ H2 hi ⟨bs,u,v,rfl,d8,hb,s⟩;rw[gE]at hi;obtain⟨a,ea,rfl⟩:=Option.map_eq_some_iff.mp hi;obtain⟨⟨st,en⟩,ep,ha⟩:=hp.get ea;have step:=Kz (f:=ef) ep
  have bl:bs.length<sizeLine:=by
   have z:=hb.len;have z2:=Ey (row.take i) [];rw[gF]at z2;exact aS (by simp only[rL]at z2;lia)
  exists a,Y,dH.of (s _ _ ha),rfl,P,rfl,Z;refine⟨Y,Y,rfl,Y,cX (λc=>?_) (λc=>?_)⟩
  ·have e:st=en:=V.int.inj (of_decide_eq_true c);refine⟨bs,P,rfl,d8,?_,s⟩;rw[step,ef,if_pos e];exact hb
  ·have e:¬ st=en:=λz=>c (decide_eq_true (congrArg V.int z));rw[ef,if_neg e]at step;rcases oz ((row.take i).foldl ef []) with hn|⟨rw0,q0,hn⟩
   ·rw[hn]at hb step;have hbs:bs=[]:=List.eq_nil_of_length_eq_zero hb.len;subst hbs;refine⟨Y,false,.inl ⟨_,bI.of d8,rfl⟩,d7 (d7 ?_)⟩;refine⟨Y,.inl ⟨rfl,_,bI.of d8⟩,Y,Y,nK,λt ht=>⟨q,Z,ak ht _ _ _ d8,(by show 0<sizeLine;decide),?_⟩⟩;obtain⟨g1,g2,g3⟩:=Ex (st:=st) (en:=en) hq s d8 hb ht;refine⟨[]++[t],P,rfl,g1,?_,g3⟩;rw[step,l6];exact g2
   ·rw[mT]at hn;rw[hn]at hb step;obtain⟨cs,a0,rfl,hc,JG⟩:=hb.split;have DV:H2 q=some (.lst (cs.map V.ref++[.ref a0])):=by rw[d8,gJ];rfl
    refine⟨Y,true,.inl ⟨_,bI.of DV,by simp⟩,jr ?_⟩;refine⟨Y,Y,q,K,V,bI.of DV,fG _ _,a0,K,V,dH.of JG,UG,Y,rfl,Y,cX (λc2=>?_) (λc2=>?_)⟩
    ·have e2:q0.2=st:=V.int.inj (of_decide_eq_true c2);refine⟨Y,Y,q,K,V,bI.of DV,fG _ _,a0,K,V,dH.of JG,X5,Y,nK,λt ht=>?_⟩;exists Y,Y,q,P,cs.length,V,ak ht _ _ _ DV,Nn cs a0;obtain⟨g1,g2,g3⟩:=turned (st:=q0.1) (en:=en) hq s DV hc ht;refine⟨cs++[t],P,rfl,g1,?_,g3⟩;rw[step,l9 _ e2];exact g2
    ·have e2:¬ q0.2=st:=λz=>c2 (decide_eq_true (congrArg V.int z));refine⟨Y,.inl ⟨rfl,_,bI.of d8⟩,Y,Y,nK,λt ht=>⟨q,Z,ak ht _ _ _ d8,(by rw[cG];exact bl),?_⟩⟩;obtain⟨g1,g2,g3⟩:=Ex (st:=st) (en:=en) hq s d8 hb ht;refine⟨cs++[a0]++[t],P,rfl,g1,?_,g3⟩;rw[step,mh _ e2];exact g2
 ·rintro σ H2 ⟨bs,u,v,rfl,d8,hb,s⟩;refine⟨Y,k q H2 ⟨bs,d8,?_⟩ s hq⟩;rw[cG,hp.len,gR]at hb;exact hb
theorem Vq:aF ["row"] ["row"] (az Jf):=eS
theorem yr:‹(1,5,["row"],UN)›:=λD=>by
 specialize eU D.QN.F Vq;obtain⟨r,row,rfl,⟨as,hr1,hp⟩,dI,k⟩:=h;refine⟨_,(au (aG (cD (Er rfl) rfl D.T.SR PyProof.Rows.boot_sum (aa (gH (N:=["start","stop"]) (mD (sc:=az Jf) (NX:=["row"]) (jx:=[none,none]) rfl rfl rfl nofun nofun rfl nofun rfl nofun) rfl (cJ (pv 0)) (λ_ _ _ _ _ _=>(uP (n:=2) rfl (b8 (b9 (i:=0) (show List.Nodup (["start","stop"]:List Str) by decide +kernel)) (b8 (b9 (i:=1) (show List.Nodup (["start","stop"]:List Str) by decide +kernel)) gO)))) (λ_ _ _ _ _ _=>gP) (λ_ _ _ _ _ _=>(bG cN (pv 1) (pv 0)))) ah)))),?_⟩;refine⟨Y,r,rfl,⟨_,bI.of hr1⟩,λacc cS=>gG (K:=K) (a:=r) (xs:=as.map V.ref) (λi σ H2=>∃ u v:Option V,σ=[u,v]/\H2 acc=some (.lst (((row.take i).map λp=>p.2-p.1).map V.int))/\aI H H2) ⟨none,none,rfl,af,ak cS _⟩ (by rintro i σ H2 _ ⟨_,_,_,_,s⟩;exact bI.of (s _ _ hr1)) ?_ ?_⟩
 ·rintro i x σ H2 hi ⟨u,v,rfl,ha,s⟩;rw[gE]at hi;obtain⟨a,ea,rfl⟩:=Option.map_eq_some_iff.mp hi;obtain⟨⟨st,en⟩,ep,hpa⟩:=hp.get ea;refine⟨a,Y,dH.of (s _ _ hpa),rfl,P,rfl,Z,yes (jr ?_)⟩;refine⟨Y,Y,Z,_,ha,?_,P,rfl,?_,bP cS s (aJ acc _ _)⟩
  ·rw[cG,cG,gF];exact aS ∅
  ·rw[af,take_snoc ep,gJ,gJ];rfl
 ·rintro σ H2 ⟨u,v,rfl,ha,s⟩;rw[cG,hp.len,gR]at ha;exact⟨acc,Y,bI.of ha,k H2 s⟩
class inductive NQ
 | mk (r:Addr) (row:Row) (a b:Int) (_:vs=[.ref r,.int a,.int b]) (_:cE H r row) (_:row.length<=1000000) (_:Ma a b (i6 row)) (_:∀ H',aI H H'->Q .gm H')
theorem zk:aF ["row","start","stop"] ["row","start","stop"] (az nu):=eS
theorem gI:‹(2,6,["row","start","stop"],NQ)›:=λD=>by
 specialize eU D.WB.F zk;obtain⟨r,row,a,b,rfl,R,hl,z,k⟩:=h;exists _,(au (bN (gi (KA gp gp gp ay (pv 1) (pv 2) (fH.pG D.QN (D.T.jX _ D.QN.m) (yr D) hr (aa (pv 0) ah)))) (au iR) aZ));exists Y,Z,Y;rw[decide_eq_true z.1];refine cX (λ_=>?_) (λc=>absurd rfl c);exists Y,Z,Y;rw[decide_eq_true z.2.1];refine cX (λ_=>?_) (λc=>absurd rfl c);refine⟨Y,r,row,rfl,R,hl,λH1 s1=>⟨Z,Y,?_⟩⟩;rw[decide_eq_true z.2.2];exact d7 (k H1 s1)
theorem j6:aF ["row","start","stop","told","ahead","first","last","low","high"] ["row","start","stop"] (az Cs):=eS
theorem rA:‹(1,7,["row","start","stop"],EC)›:=λD=>by
 specialize eU D.U7.F j6;obtain⟨r,row,a,b,rfl,⟨as,hr1,hp⟩,dI,k⟩:=h;exists _,(aj (aX (i:=3) j6.nd (bM ah)) (aj (aX (i:=4) j6.nd ay) (aj (d9 PassesOwn.never rfl (cJ (pv 0)) (nj (n:=2) rfl (b8 (b9 (i:=5) j6.nd) (b8 (b9 (i:=6) j6.nd) gO))) (aj (aX (i:=7) j6.nd (cD (qY rfl) rfl D.T.ES PyProof.Rows.boot_max (aa (bG cN (pv 1) (pv 4)) (aa ay ah)))) (aj (aX (i:=8) j6.nd (cD (qZ rfl) rfl D.T.JC PyProof.Rows.boot_min (aa (bG cN (pv 2) (pv 4)) (aa (bG cN (pv 6) (pv 5)) ah)))) (aj (bN (aT kU (pv 7) (pv 8) (bx _)) (au (bg (dM pW jN jO bS (pv 3) (aa (cW (aa (bG dh (pv 5) (pv 7)) (aa (bG dh (pv 5) (pv 8)) ah))) ah)))) aZ) (au (vE (i:=4) j6.nd rfl (Or.inl rfl) (bG cN (pv 6) (pv 5)) Ud)))))) (au (aG (pv 3))))));refine⟨iP,λq hq=>?_⟩;have s0:aI H (aP H q (.lst [])):=ak hq _;refine⟨Y,r,rfl,⟨_,bI.of (s0 _ _ hr1)⟩,dN (K:=K) (a:=r) (xs:=as.map V.ref) (λi σ H2=>∃ (bs:List Addr) (t:Int) (u v x y:Option V),σ=[some (.ref r),some (.int a),some (.int b),some (.ref q),some (.int t),u,v,x,y]/\t=i6 (row.take i)/\H2 q=some (.lst (bs.map V.ref))/\bQ H2 bs (ku a b 0 (row.take i))/\aI H H2) ⟨[],0,none,none,none,none,V,af,.nil,s0⟩ (by rintro i σ H2 _ ⟨_,_,_,_,_,_,_,_,_,_,s⟩;exact bI.of (s _ _ hr1)) ?_ ?_⟩
 ·rintro i x σ H2 hi ⟨bs,t,u,v,x1,y1,rfl,et,d8,hb,s⟩;rw[gE]at hi;obtain⟨ad,ea,rfl⟩:=Option.map_eq_some_iff.mp hi;obtain⟨⟨st,en⟩,ep,ha⟩:=hp.get ea;have step:=Ez a b (st,en) (row.take i) 0;rw[← take_snoc ep,Int.zero_add,← et]at step;have et2:t+(en-st)=i6 (row.take (i+1)):=by rw[take_snoc ep,Nh,et]
  have bl:bs.length<sizeLine:=by
   have z:=hb.len;have z2:=jR a b (row.take i) 0;rw[gF]at z2;exact aS ∅
  have e1:(if (0:Int) > a-t then (0:Int) else a-t)=max (a-t) 0:=by split <;> lia
  have e2:(if en-st<b-t then en-st else b-t)=min (b-t) (en-st):=by split <;> lia
  exists ad,Y,dH.of (s _ _ ha),rfl,P,rfl,Z;exists Y,Y,Z,P,rfl;exists Y,Y,Z,Y,Y,Z,P,rfl;rw[e1,e2];refine⟨Y,Y,Z,Y,cX (λc=>?_) (λc=>?_)⟩
  ·have c':max (a-t) 0<min (b-t) (en-st):=of_decide_eq_true c;unfold Np at step;rw[if_pos c']at step;refine⟨Y,.inl ⟨rfl,_,bI.of d8⟩,Y,Y,Z,Y,Y,Z,nK,λtu htu=>⟨q,Z,ak htu _ _ _ d8,(by rw[cG];exact bl),?_⟩⟩;obtain⟨g1,g2,g3⟩:=Ex (st:=st+max (a-t) 0) (en:=st+min (b-t) (en-st)) hq s d8 hb htu;exists Y,Y,Y,Z,Z;refine⟨bs++[tu],K,P,rfl,et2,g1,?_,g3⟩;rw[step];exact g2
  ·have c':¬ max (a-t) 0<min (b-t) (en-st):=λz=>c (decide_eq_true z);unfold Np at step;rw[if_neg c',gT]at step;exists Y,Y,Y,Z,Z;refine⟨bs,K,P,rfl,et2,d8,?_,s⟩;rw[step];exact hb
 ·rintro σ H2 ⟨bs,t,u,v,x1,y1,rfl,et,d8,hb,s⟩;rw[cG,hp.len,gR]at hb;exact⟨Y,k q H2 ⟨bs,d8,hb⟩ s hq⟩
class inductive QV
 | mk (r:Addr) (row:Row) (a b:Int) (_:vs=[.ref r,.int a,.int b]) (_:cE H r row) (_:row.length<=1000000) (_:Ma a b (i6 row)) (_:∀ (q:Addr) (H':Hp),cE H' q (cA (ku a b 0 row))->aI H H'->H q=none->Q (.ref q) H')
theorem Vr:aF ["row","start","stop"] ["row","start","stop"] (az M5):=eS
theorem QW:‹(3,8,["row","start","stop"],QV)›:=λD=>by
 specialize eU D.dq8.F Vr;obtain⟨r,row,a,b,rfl,R,hl,z,k⟩:=h;exists _,(aj (bg (aC D.WB (gI D) hr (aa (pv 0) (aa (pv 1) (aa (pv 2) ah))))) (au (aG (aC D.dq4 (zj D) hr (aa (aC D.U7 (rA D) hr (aa (pv 0) (aa (pv 1) (aa (pv 2) ah)))) ah)))));refine⟨Y,Y,Y,r,row,a,b,rfl,R,hl,z,λH1 s1=>?_⟩;refine⟨Y,Y,Y,r,row,a,b,rfl,R.same s1,hl,λq H2 R2 s2 hq=>?_⟩;refine⟨q,Y,R2,iI (jR a b row 0) hl,λq3 H3 R3 s3 DV=>?_⟩;exact k q3 H3 R3 (s1.trans (s2.trans s3)) (bh (s1.trans s2) DV)
def Bl(CB:Addr)(H:Hp)(x d t:Addr):Prop:=H x=some (.ins CB d [("stains",.ref t)])
class inductive QX(CB:Addr)
 | mk (x d:Addr) (_:vs=[.ref x]) (_:H x=some (.ins CB d [])) (_: ∀ (t:Addr) (H':Hp),Bl CB H' x d t->cE H' t []->cH x H H'->H t=none->Q .gm H')
theorem vX:aF ["self"] ["self"] (az kF):=eS
theorem uU:‹(1,9,["self"],(QX CB))›:=λD=>by
 specialize eU D.dq9.F vX;obtain⟨x,d,rfl,hx,k⟩:=h;exists _,(au (ja (pv 0) (bM ah) rfl));refine⟨iP,λt ht=>?_⟩;have nt:t≠x:=(aA hx ht).symm;exists Y,x,CB,d,Y,ak ht _ _ _ hx,D.t9.cl,D.uJ,E;exact k t _ af ⟨[],by rw[aL nt,af];rfl,.nil⟩ (λa o e n=>by rw[aL n];exact ak ht _ a o e) ht
theorem EY:aF ["row"] ["row"] (az oG):=eS
theorem CU:‹(1,10,["row"],Qv)›:=λD=>by
 specialize eU D.Yv.F EY;obtain⟨r,row,rfl,⟨as,hr1,hp⟩,hok,dI,k⟩:=h;refine⟨_,(au (aG (BG (N:=["start","stop","address"]) (mD (sc:=az oG) (NX:=["row"]) (jx:=[none,none,none]) rfl rfl rfl nofun nofun rfl nofun rfl nofun) rfl (cJ (pv 0)) (λ_ _ _ _ _ _=>(uP (n:=2) rfl (b8 (b9 (i:=0) (show List.Nodup (["start","stop","address"]:List Str) by decide +kernel)) (b8 (b9 (i:=1) (show List.Nodup (["start","stop","address"]:List Str) by decide +kernel)) gO)))) (λ_ _ _ _ _ _=>gP) (λ_ _ _ _ _ _=>(Kx rfl D.T.i7 (aa (pv 0) (aa (pv 1) ah)))) (λ_ _ _ _ _ _=>(b9 (i:=2) (show List.Nodup (["start","stop","address"]:List Str) by decide +kernel))) (λ_ _ _ _ _ _=>gP) (λ_ _ _ _ _ _=>(pv 2))))),?_⟩;refine⟨Y,r,rfl,⟨_,bI.of hr1⟩,λacc cS=>xm (K:=K) (a:=r) (xs:=as.map V.ref) (λi σ H2=>∃ u v z:Option V,σ=[u,v,z]/\H2 acc=some (.lst ((bO (row.take i)).map V.int))/\aI H H2) ⟨none,none,none,rfl,af,ak cS _⟩ (by rintro i σ H2 _ ⟨_,_,_,_,_,s⟩;exact bI.of (s _ _ hr1)) ?_ ?_⟩
 ·rintro i x σ H2 hi ⟨u,v,z,rfl,ha,s⟩;rw[gE]at hi;obtain⟨a,ea,rfl⟩:=Option.map_eq_some_iff.mp hi;obtain⟨⟨st,en⟩,ep,hpa⟩:=hp.get ea;have b2:st<=en:=hok _ (om ep);have step:=yX ep
  have lz:(bO (row.take i)).length+(en-st).toNat<=1000000:=by
   have z:=sj row (i+1);rw[step,dB,jw,fF]at z;exact iI z dI
  refine⟨a,Y,dH.of (s _ _ hpa),rfl,P,rfl,Z,yes (jr ?_)⟩;refine⟨Y,Y,st,en,rfl,Ew (lo:=st) (k:=(en-st).toNat) (λj σ H3=>∃ z:Option V,σ=[some (.int st),some (.int en),z]/\H3 acc=some (.lst ((bO (row.take i)++run st j).map V.int))/\aI H H3) ⟨z,rfl,?_,s⟩ ?_ ?_⟩
  ·rw[run,gT];exact ha
  ·rintro j σ H3 hj ⟨z,rfl,h3,s3⟩;refine UL ?_;refine jr ?_;refine⟨Y,_,h3,?_,Y,?_,bP cS s3 (aJ acc _ _)⟩
   ·rw[cG,dB,fF];exact aS ∅
   ·rw[af,uM,← mU];simp
  ·rintro σ H3 ⟨z,rfl,h3,s3⟩;refine⟨K,rfl,?_,s3⟩;rw[step];exact h3
 ·rintro σ H2 ⟨u,v,z,rfl,ha,s⟩;rw[cG,hp.len,gR]at ha;exact k acc H2 ha s cS
theorem KW(aN:List aQ):(fc aN).length<=aN.length:=List.length_filterMap_le _ aN
class inductive Vs
 | mk (r:Addr) (aN:List aQ) (_:vs=[.ref r]) (_:bK H (.ref r) aN) (_:aN.length<=100000) (_ :
 ∀ (o:Addr) (H':Hp),H' o=some (.lst ((fc aN).map V.int))->aI H H'->H o=none->Q (.ref o) H')
theorem KY:aF ["items"] ["items"] (az uH):=eS
theorem zl:‹(1,11,["items"],Vs)›:=λD=>by
 specialize eU D.U8.F KY;obtain⟨r,aN,rfl,⟨a,vs,e,hr1,hp⟩,dI,k⟩:=h;cases e;refine⟨_,(au (aG (gH (N:=["item"]) (mD (sc:=az uH) (NX:=["items"]) (jx:=[none]) rfl rfl rfl nofun nofun rfl nofun rfl nofun) rfl (cJ (pv 0)) (λ_ _ _ _ _ _=>(b9 (i:=0) (show List.Nodup (["item"]:List Str) by decide +kernel))) (λ_ _ _ _ _ _=>CF (aT dQ (aO Jt (pv 0) ay) bC (bx _))) (λ_ _ _ _ _ _=>(aO Jt (pv 0) ay))))),?_⟩;refine⟨Y,r,rfl,⟨_,bI.of hr1⟩,λacc cS=>gG (K:=K) (a:=r) (xs:=vs) (λi σ H2=>∃ u:Option V,σ=[u]/\H2 acc=some (.lst ((fc (aN.take i)).map V.int))/\aI H H2) ⟨none,rfl,af,ak cS _⟩ (by rintro i σ H2 _ ⟨_,_,_,s⟩;exact bI.of (s _ _ hr1)) ?_ ?_⟩
 ·rintro i x σ H2 hi ⟨u,rfl,ha,s⟩;obtain⟨it,ei,b,rfl,hb⟩:=hp.get hi;have step:fc (aN.take (i+1))=fc (aN.take i)++fc [it]:=by rw[take_snoc ei,gj]
  have bl:(fc (aN.take i)).length<=100000:=by
   have z:=KW (aN.take i);rw[gF]at z;lia
  cases it with
  | win n =>
   refine⟨Y,b,K,V,dH.of (s _ _ hb),V,Y,cX (λ_=>?_) (λz=>absurd (by decide) z)⟩;refine⟨Y,b,K,V,dH.of (s _ _ hb),rfl,_,ha,(by rw[cG];exact aS ∅),Y,?_,bP cS s (aJ acc _ _)⟩;rw[af,step,gJ];rfl
  | aK p q =>
   refine⟨Y,b,K,V,dH.of (s _ _ hb),V,Y,cX (λz=>absurd z (by decide)) (λ_=>?_)⟩;refine⟨Y,?_,s⟩;rw[ha,step];show _=some (HO.lst ((fc (aN.take i)++[]).map V.int));rw[gT]
 ·rintro σ H2 ⟨u,rfl,ha,s⟩;rw[hp.len,gR]at ha;exact k acc H2 ha s cS
structure KZ(rows:cR)(ks:List Int):Prop where
 D4:∀ x∈ks,0<=x/\x<rows.length
 dn:∀ (i:Nat) (x:Int),ks[i]?=some x->∀ y,jM rows x y->y∈ks.take i
class inductive QY
 | mk (r L:Addr) (rows:cR) (ss:List Int) (_:vs=[.ref r,.ref L]) (_:gb H r (rows.map aH)) (_:H L=some (.lst (ss.map V.int))) (_:ss.length<=1000) (_:rows.length<=1000) (_:(∀ es∈rows,es.length<=1000)) (_:gr rows) (_:BI rows) (_:(∀ s∈ss,0<=s/\s<rows.length)) (_ :
 ∀ (ks:List Int) (o:Addr) (H':Hp),H' o=some (.lst (ks.map V.int))->aI H H'->KZ rows ks->(∀ s∈ss,s∈ks)->ks.length<=1000->H o=none->Q (.ref o) H')
theorem KZ.snoc{rows:cR}{ks:List Int}{x:Int}(h:KZ rows ks)(h0:0<=x)(h1:x<rows.length)(hx:∀ y,jM rows x y->y∈ks):KZ rows (ks++[x]):=by
 refine⟨λy hy=>?_,λi y hi z hz=>?_⟩
 ·rcases List.mem_append.mp hy with q|q
  ·exact h.D4 y q
  ·have:y=x:=by simpa using q
   lia
 ·by_cases c:i<ks.length
  ·rw[List.getElem?_append_left c]at hi;rw[List.take_append_of_le_length ∅];exact h.dn i y hi z hz
  ·have c2:i=ks.length:=by
    rcases Nat.lt_or_ge i (ks++[x]).length with q|q
    ·rw[dB,qX]at q;lia
    ·rw[List.getElem?_eq_none q]at hi;cases hi
   subst c2;rw[List.getElem?_append_right (gh _),Nat.sub_self]at hi;cases hi;rw[List.take_append_of_le_length (gh _),gR];exact hx z hz
theorem BP{kvs:List (fj × V)}{ks:List Int}(h:kvs.map (·.1)=ks.map Sum.inl)(x:Int):seen kvs x↔x∈ks:=by
 unfold seen;rw[← mw,List.any_eq_true];constructor
 ·rintro⟨p,hp,e⟩;have e':p.1=Sum.inl x:=of_decide_eq_true e;have:p.1∈ks.map (Sum.inl:Int->fj):=by rw[← h];exact List.mem_map_of_mem hp
  rw[e',List.mem_map]at this;obtain⟨y,hy,ey⟩:=this;rw[Sum.inl.inj ey]at hy;exact hy
 ·intro hx;have:(Sum.inl x:fj)∈kvs.map (·.1):=by rw[h];exact List.mem_map_of_mem hx
  obtain⟨p,hp,e⟩:=List.mem_map.mp this;exact⟨p,hp,decide_eq_true e⟩
structure Bel(rows:cR)(rk:Int->Nat)(H:Hp)(W S:Addr)(ss:List Int)(H2:Hp)(bs ps ks:List Int)(kvs:List (fj × V)):Prop where
 hW:H2 W=some (.lst ((bs++ps).map V.int))
 hS:H2 S=some (.dK kvs)
 sm:aI H H2
 ky:kvs.map (·.1)=ks.map Sum.inl
 tp:KZ rows ks
 rg:∀ x∈bs++ps,0<=x/\x<rows.length
 ns:∀ x∈ps,¬ seen kvs x
 pw:ps.Pairwise λa b=>rk b<rk a
 rb:∀ (i:Nat) (x:Int),ps[i]?=some x->rk x+i<=40
 st:∀ s∈ss,s∈bs\/s∈ks
 kl:kvs.length+nJ rows.length kvs<=rows.length
 bl:bs.length<=1000
theorem BQ{kvs:List (fj × V)}{k:fj}(v:V)(h:(cI kvs k).isSome=true):(eY kvs k v).map (·.1)=kvs.map (·.1):=by
 unfold eY;rw[if_pos (by rw[mw];exact h),List.map_map];refine List.map_congr_left λp _=>?_;show (if p.1=k then (p.1,v) else p).1=p.1
 split <;> rfl
theorem Hx{rk:Int->Nat}{ps:List Int}(rb:∀ (i:Nat) (x:Int),ps[i]?=some x->rk x+i<=40):ps.length<=41:=by
 rcases oz ps with rfl|⟨p',n,rfl⟩
 ·simp
 ·rw[mT]at rb ⊢;have:=rb p'.length n (by rw[List.getElem?_append_right (gh _),Nat.sub_self];rfl);rw[dB,qX];lia
structure Top(rk:Int->Nat)(ss bs ps ks:List Int)(kvs:List (fj × V))(AA vA:List Int)(n:Int):Prop where
 eq:bs++ps=AA++vA++[n]
 ns:∀ x∈vA,¬ seen kvs x/\x≠n
 pw:vA.Pairwise λa b=>rk b<rk a
 rb:∀ (i:Nat) (x:Int),vA[i]?=some x->rk x+i<=40
 st:∀ s∈ss,s∈AA\/s=n\/s∈ks
 old:seen kvs n->AA.length+50-vA.length<bs.length+50-ps.length
 le:AA.length+50-vA.length<=bs.length+51-ps.length
 bl:AA.length<=bs.length
 up:∀ y:Int,rk y<=40->rk y<rk n->(ps++[y]).Pairwise (λa b=>rk b<rk a)/\∀ (i:Nat) (x:Int),(ps++[y])[i]?=some x->rk x+i<=40
theorem Bel.top{rows:cR}{rk:Int->Nat}{H:Hp}{W S:Addr}{ss:List Int}{H2:Hp}{bs ps ks:List Int}{kvs:List (fj × V)}(B:Bel rows rk H W S ss H2 bs ps ks kvs):bs++ps=[]\/∃ AA vA n,Top rk ss bs ps ks kvs AA vA n:=by
 have NR:∀ (qs:List Int) (y:Int),(∀ (i:Nat) (x:Int),qs[i]?=some x->rk x+i<=40)->rk y+qs.length<=40->∀ (i:Nat) (x:Int),(qs++[y])[i]?=some x->rk x+i<=40:=by
  intro qs y h1 h2 i x hx;rcases Nat.lt_or_ge i qs.length with q|q
  ·rw[List.getElem?_append_left q]at hx;exact h1 i x hx
  ·have qi:i=qs.length:=by
    rcases Nat.lt_or_ge i (qs++[y]).length with w|w
    ·rw[dB,qX]at w;lia
    ·rw[List.getElem?_eq_none w]at hx;cases hx
   subst qi;rw[List.getElem?_append_right (gh _),Nat.sub_self]at hx;cases hx;exact h2
 rcases oz ps with rfl|⟨vA,n,rfl⟩
 ·rcases oz bs with rfl|⟨AA,n,rfl⟩
  ·exact .inl rfl
  ·rw[mT]at B ⊢;refine .inr ⟨AA,[],n,by simp,by simp,by simp,by simp,λs hs=>?_,λ_=>?_,?_,?_,λy h1 h2=>⟨by simp,NR [] y (by simp) (by simpa using h1)⟩⟩
   ·rcases B.st s hs with z|z
    ·rcases List.mem_append.mp z with z|z
     ·exact .inl z
     ·exact .inr (.inl (by simpa using z))
    ·exact .inr (.inr z)
   ·rw[dB,qX];simp only[rL];lia
   ·rw[dB,qX];simp only[rL];lia
   ·rw[dB,qX];lia
 ·rw[mT]at B ⊢;have pwd:=List.pairwise_append.mp B.pw;have rbn:=B.rb vA.length n (by rw[List.getElem?_append_right (gh _),Nat.sub_self];rfl);refine .inr ⟨bs,vA,n,by rw[mU],λx hx=>⟨B.ns x (sO _ hx),λe=>?_⟩,pwd.1,λi x hx=>?_,λs hs=>(B.st s hs).elim .inl λz=>.inr (.inr z),λz=>absurd z (B.ns n (by simp)),?_,gh _,λy h1 h2=>⟨?_,NR _ y B.rb ?_⟩⟩
  ·subst e;exact Nat.lt_irrefl _ (pwd.2.2 x hx x (by simp))
  ·refine B.rb i x ?_;rw[List.getElem?_append_left]
   ·exact hx
   ·rcases Nat.lt_or_ge i vA.length with q|q
    ·exact q
    ·rw[List.getElem?_eq_none q]at hx;cases hx
  ·rw[dB,qX];lia
  ·rw[List.pairwise_append];refine⟨B.pw,by simp,λa ha c hc=>?_⟩;have:c=y:=by simpa using hc
   subst this;rcases List.mem_append.mp ha with q|q
   ·have:=pwd.2.2 a q n (by simp);lia
   ·have:a=n:=by simpa using q
    subst this;exact h2
  ·rw[dB,qX];lia
def S0(rows:cR)(rk:Int->Nat)(H:Hp)(r L W S:Addr)(ss:List Int)(m:Nat)(σ:L2.St)(H2:Hp):Prop:=∃ (bs ps ks:List Int) (kvs:List (fj × V)) (u v:Option V),σ=[some (.ref r),some (.ref L),some (.ref S),some (.ref W),u,v]/\Bel rows rk H W S ss H2 bs ps ks kvs/\m=100*nJ rows.length kvs+(bs.length+50-ps.length)
theorem uV:aF ["rows","sheets","told","waiting","number","missing"] ["rows","sheets"] (az Ct):=eS
theorem EZ:‹(2,12,["rows","sheets"],QY)›:=λD=>by
 refine eU D.U9.F uV λcV A zn s0 H vs Q E hr h=>?_;obtain⟨r,L,rows,ss,rfl,hR,hL,hsl,dI,hes,oq,⟨rk,Zq,vY⟩,hin,k⟩:=h;have hu:=gC hr;refine⟨_,(aj (aX (i:=2) uV.nd mz) (aj (aX (i:=3) uV.nd (eT fZ rfl D.T.jf sN (aa (pv 1) ah))) (aj (uC PassesOwn.never (lQ (pv 3) (λ_=>rfl)) (aj (aX (i:=4) uV.nd (aO bu (pv 3) (gB eL ay))) (aj (QG (N:=["other","told"]) (i:=5) (mD (sc:=az Ct) (NX:=["rows","sheets","told","waiting","number","missing"]) (jx:=[none,some 2]) rfl rfl rfl nofun nofun rfl nofun rfl nofun) rfl uV.nd rfl rfl (cJ (aC D.U8 (zl D) hr (aa (aO bu (pv 0) (pv 4)) ah))) (λ_ _ _ _ _ _=>(b9 (i:=0) (show List.Nodup (["other","told"]:List Str) by decide +kernel))) (λ_ _ _ _ _ _=>CF (Cg (BC hu (pv 0) (pv 1)))) (λ_ _ _ _ _ _=>(pv 0))) (au (bN (lQ (pv 5) (λ_=>rfl)) (au (bg (dM pW jN jO bS (pv 3) (aa (aO bu (pv 5) ay) ah)))) (aj (uN hu (pv 2) (pv 4) jL rfl) (au (bg (MQ pW PySem.F.slot_list_pop PySem.F.type_list_pop MU (pv 3)))))))))) (au (aG (eT (Hj rfl) rfl D.T.jf sN (aa (pv 2) ah))))))),?_⟩;intro S hS;have s1:aI H (aP H S (.dK [])):=ak hS _;refine⟨Y,L,Y,.inl (bI.of (s1 _ _ hL)),λW hW=>?_⟩;have s2:=s1.trans (ak hW (.lst (ss.map V.int)))
 have QZ:H W=none:=by
  cases e:H W with
  | none=>rfl
  | some o=>exact absurd ((s1 _ _ e).symm.trans hW) (by simp)
 have Tc:W≠S:=(aA af hW).symm;refine⟨S0 rows rk H r L W S ss,⟨_,ss,[],[],[],none,none,rfl,⟨(by rw[af,gT]),ak hW _ _ _ af,s2,rfl,⟨(λx hx=>by cases hx),λi x hi=>by simp at hi⟩,(λx hx=>hin x (by simpa using hx)),by simp,by simp,by simp,(λs hs=>.inl hs),?_,hsl⟩,rfl⟩,?_⟩
 ·have:=zf rows.length (λi=>(cI ([]:List (fj × V)) (Sum.inl (i:Int))).isNone);show 0+cnt rows.length _<=_;lia
 rintro m σ H2 ⟨bs,ps,ks,kvs,u,v,rfl,B,rfl⟩;exists Y,!((bs++ps).map V.int).isEmpty,.inl ⟨_,bI.of B.hW,rfl⟩;rcases B.top with en|⟨AA,vA,n,t⟩
 ·have e2:(!((bs++ps).map V.int).isEmpty)=false:=by rw[en];rfl
  rw[e2];refine d7 ?_
  have ek:kvs.map (λp=>kV p.1)=ks.map V.int:=by
   have z:kvs.map (λp=>kV p.1)=(kvs.map (·.1)).map kV:=by rw[List.map_map];rfl
   rw[z,B.ky,List.map_map];rfl
  have kl:ks.length=kvs.length:=by
   have z:=congrArg List.length B.ky;rw[cG,cG]at z;exact z.symm
  have Zr:=B.kl;refine⟨Y,S,kvs,rfl,B.hS,λl hl=>?_⟩;refine k ks l _ (by rw[af,ek]) (B.sm.trans (ak hl _)) B.tp (λs hs=>(B.st s hs).elim (λz=>?_) id) ∅ ?_
  ·rw[(List.append_eq_nil_iff.mp en).1]at z;cases z
  cases e:H l with
  | none=>rfl
  | some o=>exact absurd ((B.sm _ _ e).symm.trans hl) (by simp)
 have eW:=B.hW;rw[t.eq]at eW;rw[t.eq];refine cX (λ_=>?_) (λz=>absurd (by simp) z);refine⟨fun σ' H'=>∃ m',m'<100*nJ rows.length kvs+(bs.length+50-ps.length)/\S0 rows rk H r L W S ss m' σ' H',fun σ' H' z=>z,?_⟩;have an:pX ((AA++vA++[n]).map V.int) (-1)=some (.int n):=by rw[gJ];exact fG _ _
 obtain⟨n0,n1⟩:=B.rg n (by rw[t.eq];simp);have tl:=t.le;have Sm:=t.bl;have pl:=Hx B.rb;have pl':=Hx t.rb;have bbl:=B.bl;obtain⟨es,ff⟩:∃ es,rows[n.toNat]?=some es:=⟨_,uz ∅⟩;have Vt:=hes es (om ff);obtain⟨xR,JF,uW⟩:=hR.same B.sm;obtain⟨vi,CV,hI⟩:=uW.get' (i:=n.toNat) (b:=aH es) (by rw[gE,ff];rfl);obtain⟨b,Pr,rfl,hb,tU⟩:=id hI;have hil:=nV es []
 have uX:pX xR n=some (.ref b):=by
  have z:=dD CV;rw[show ((n.toNat:Nat):Int)=n by lia]at z;exact z
 exists Y,Y,W,K,V,bI.of eW,an;refine⟨Y,Y,r,K,V,bI.of JF,uX,b,aH es,rfl,hI,?_,λz H4 hz s4 nz=>?_⟩
 ·show (es.foldl bq []).length<=_;simp only[rL]at hil;lia
 rw[iD]at hz;have acP:(dX es).length<=es.length:=List.length_filterMap_le _ es;have Zs:=s4 _ _ B.hS;have hW4:=s4 _ _ eW;refine⟨z,rfl,⟨_,bI.of hz⟩,λacc cS=>gG (K:=K) (a:=z) (xs:=(dX es).map V.int) (λi σ H5=>∃ u:Option V,σ=[u,some (.ref S)]/\H5 acc=some (.lst ((((dX es).take i).filter (λy=>(cI kvs (Sum.inl y)).isNone)).map V.int))/\aI H4 H5) ⟨none,rfl,af,ak cS _⟩ (by rintro i σ H5 _ ⟨_,_,_,s5⟩;exact bI.of (s5 _ _ hz)) ?_ ?_⟩
 ·rintro i x σ H5 hi ⟨u,rfl,h5,s5⟩;rw[gE]at hi;obtain⟨y,ey,rfl⟩:=Option.map_eq_some_iff.mp hi;have st:=take_snoc ey
  have bl:(((dX es).take i).filter (λy=>(cI kvs (Sum.inl y)).isNone)).length<=1000:=by
   have z:=List.length_filter_le (λy=>(cI kvs (Sum.inl y)).isNone) ((dX es).take i);rw[gF]at z;lia
  exists Y,Y,S,Y,iN.k (k:=Sum.inl y) (s5 _ _ Zs),Y
  cases ev:cI kvs (Sum.inl y) with
  | none =>
   refine jr ⟨Y,_,h5,(by rw[cG];exact aS ∅),Y,?_,bP cS s5 (aJ acc _ _)⟩;rw[af,st,List.filter_append,List.filter_cons_of_pos (p:=λy=>(cI kvs (Sum.inl y)).isNone) (by rw[ev];rfl),gJ];rfl
  | some o =>
   refine d7 ⟨Y,?_,s5⟩;rw[st,List.filter_append,List.filter_cons_of_neg (p:=λy=>(cI kvs (Sum.inl y)).isNone) (by rw[ev];exact gK),List.filter_nil,gT];exact h5
 rintro σ H5 ⟨u,rfl,h5,s5⟩;rw[cG,gR]at h5;have hS5:=s5 _ _ Zs;have hW5:=s5 _ _ hW4;have sm5:=B.sm.trans (s4.trans s5);have Zr:=B.kl;exists Y,_,.inl ⟨_,bI.of h5,rfl⟩
 cases em:(dX es).filter (λy=>(cI kvs (Sum.inl y)).isNone) with
 | nil =>
  refine d7 ?_
  have acS:∀ y,jM rows n y->y∈ks:=by
   rintro y ⟨_,vt,Jp,hy⟩;rw[ff]at Jp;cases Jp;rw[← BP B.ky];have z:=List.filter_eq_nil_iff.mp em y hy;unfold seen
   cases q:cI kvs (Sum.inl y) with
   | none=>rw[q]at z;exact absurd rfl z
   | some o=>rfl
  refine⟨Y,Y,S,Y,CJ.k (k:=Sum.inl n) hS5 (aS ∅),?_⟩;have Pu:(aP H5 S (.dK (eY kvs (Sum.inl n) (.bl true)))) W=some (.lst ((AA++vA++[n]).map V.int)):=by rw[aL Tc];exact hW5
  refine⟨Y,.inl ⟨rfl,_,bI.of Pu⟩,W,_,.int n,V,Pu,(by simp),?_⟩;have ee:((AA++vA++[n]).map V.int).dropLast=(AA++vA).map V.int:=by rw[gJ (l₁:=AA++vA),List.map_singleton,List.dropLast_concat]
  rw[ee];have rg':∀ x∈AA++vA,0<=x/\x<rows.length:=λx hx=>B.rg x (by rw[t.eq];exact sO _ hx)
  cases en:cI kvs (Sum.inl n) with
  | none =>
   have mp:=EM (n:=rows.length) (.bl true) n0 n1 en;refine⟨100*nJ rows.length (eY kvs (Sum.inl n) (.bl true))+(AA.length+50-vA.length),Q,AA,vA,ks++[n],eY kvs (Sum.inl n) (.bl true),P,rfl,⟨af,(by rw[aL Tc.symm,af]),bP QZ (bP hS sm5 (aJ S _ _)) (aJ W _ _),?_,B.tp.snoc n0 n1 acS,rg',λx hx=>?_,t.pw,t.rb,λs hs=>?_,?_,Q⟩,rfl⟩
   ·rw[y9 _ en,gJ,B.ky,gJ];rfl
   ·intro q;rcases (EL _).mp q with e|e
    ·exact (t.ns x hx).2 e
    ·exact (t.ns x hx).1 e
   ·rcases t.st s hs with q|q|q
    ·exact .inl q
    ·exact .inr (by rw[q];simp)
    ·exact .inr (sO _ q)
   ·rw[y9 _ en,dB,qX]at *;lia
  | some o =>
   have sn:seen kvs n:=by unfold seen;rw[en];rfl
   have so:=t.old sn
   have sp:∀ x,seen (eY kvs (Sum.inl n) (.bl true)) x↔seen kvs x:=λx=>by
    rw[EL];exact⟨λz=>z.elim (λe=>by rw[e];exact sn) id,.inr⟩
   have ms:nJ rows.length (eY kvs (Sum.inl n) (.bl true))=nJ rows.length kvs:=by
    refine NC _ λi _=>?_;have z:=sp (i:Int);unfold seen at z
    cases q1:cI (eY kvs (Sum.inl n) (.bl true)) (Sum.inl (i:Int)) with
    | none =>
     cases q2:cI kvs (Sum.inl (i:Int)) with
     | none=>rfl
     | some o2=>rw[q1,q2]at z;exact absurd (z.mpr rfl) gK
    | some o1 =>
     cases q2:cI kvs (Sum.inl (i:Int)) with
     | none=>rw[q1,q2]at z;exact absurd (z.mp rfl) gK
     | some o2=>rfl
   have kn:n∈ks:=(BP B.ky n).mp sn;refine⟨100*nJ rows.length (eY kvs (Sum.inl n) (.bl true))+(AA.length+50-vA.length),by rw[ms];lia,AA,vA,ks,eY kvs (Sum.inl n) (.bl true),P,rfl,⟨af,(by rw[aL Tc.symm,af]),bP QZ (bP hS sm5 (aJ S _ _)) (aJ W _ _),?_,B.tp,rg',λx hx q=>(t.ns x hx).1 ((sp x).mp q),t.pw,t.rb,λs hs=>?_,?_,Q⟩,rfl⟩
   ·rw[BQ _ (by rw[en];rfl),B.ky]
   ·rcases t.st s hs with q|q|q
    ·exact .inl q
    ·exact .inr (by rw[q];exact kn)
    ·exact .inr q
   ·have z:=congrArg List.length (BQ (kvs:=kvs) (k:=Sum.inl n) (.bl true) (by rw[en];rfl));rw[cG,cG]at z;rw[z,ms];exact Zr
 | cons y ts =>
  refine jr ?_;rw[em]at h5;have ym:y∈(dX es).filter (λy=>(cI kvs (Sum.inl y)).isNone):=by rw[em];simp
  obtain⟨yw,yn⟩:=List.mem_filter.mp ym;have Gw:jM rows n y:=⟨n0,es,ff,yw⟩;obtain⟨y0,y1⟩:=oq.DU Gw;obtain⟨up1,up2⟩:=t.up y (Zq y) (vY n y Gw);have wl:=congrArg List.length t.eq;rw[dB]at wl;refine⟨Y,.inl ⟨rfl,_,bI.of hW5⟩,Y,acc,K,V,bI.of h5,dD (xs:=V.int y::ts.map V.int) (j:=0) rfl,W,Z,hW5,(by rw[cG,← wl];exact aS ∅),?_⟩;have pl2:=Hx up2;rw[dB,qX]at pl2;refine⟨100*nJ rows.length kvs+(bs.length+50-(ps++[y]).length),?_,bs,ps++[y],ks,kvs,P,rfl,⟨(by rw[af,← mU,t.eq,gJ (l₁:=AA++vA++[n])];rfl),(by rw[aL Tc.symm];exact hS5),bP QZ sm5 (aJ W _ _),B.ky,B.tp,λx hx=>?_,λx hx=>?_,up1,up2,B.st,Zr,bbl⟩,rfl⟩
  ·rw[dB,qX];lia
  ·rw[← mU]at hx;rcases List.mem_append.mp hx with q|q
   ·exact B.rg x q
   ·have:x=y:=by simpa using q
    subst this;exact⟨y0,y1⟩
  ·rcases List.mem_append.mp hx with q|q
   ·exact B.ns x q
   ·have:x=y:=by simpa using q
    subst this;intro q;unfold seen at q
    cases w:cI kvs (Sum.inl x) with
    | none=>rw[w]at q;cases q
    | some o=>rw[w]at yn;cases yn
structure Bfs(rows:cR)(H:Hp)(W S:Addr)(s:Int)(H2:Hp)(vs:List V)(wl:cR)(kvs:List (fj × V)):Prop where
 hW:H2 W=some (.lst vs)
 hl:bX (fJ (λa=>a=W\/a=S) H2) vs wl
 hS:H2 S=some (.dK kvs)
 sm:aI H H2
 wk:∀ w∈wl,w.length<=kvs.length+1/\∃ e,w.getLast?=some e/\0<=e/\e<rows.length/\(e=s\/Reach (jM rows) s e)
 kl:kvs.length+nJ rows.length kvs<=rows.length
class inductive Td
 | mk (r:Addr) (rows:cR) (s g:Int) (_:vs=[.ref r,.int s,.int g]) (_:gb H r (rows.map aH)) (_:rows.length<=1000) (_:(∀ es∈rows,es.length<=1000)) (_:gr rows) (_:0<=s) (_:s<rows.length) (_:¬ Reach (jM rows) s g) (_:∀ H',aI H H'->Q .gm H')
theorem iU:aF ["rows","start","goal","ways","seen","way","number"] ["rows","start","goal"] (az oH):=eS
def muW(n:Nat)(W S:Addr):L2.St->Hp->Nat:=λ_ H=>match H W,H S with
 | some (.lst vs),some (.dK kvs)=>2*nJ n kvs+vs.length
 | _,_=>0
theorem NS{n:Nat}{W S:Addr}{σ:L2.St}{H:Hp}{vs:List V}{kvs:List (fj × V)}(h1:H W=some (.lst vs))(h2:H S=some (.dK kvs)):muW n W S σ H=2*nJ n kvs+vs.length:=by
 unfold muW;rw[h1,h2]
def Te(rows:cR)(H:Hp)(r W S:Addr)(s g:Int)(σ:L2.St)(H2:Hp):Prop:=∃ (vs:List V) (wl:cR) (kvs:List (fj × V)) (u v:Option V),σ=[some (.ref r),some (.int s),some (.int g),some (.ref W),some (.ref S),u,v]/\Bfs rows H W S s H2 vs wl kvs/\vs.length+2*nJ rows.length kvs<=2*rows.length+1
theorem zm:‹(2,13,["rows","start","goal"],Td)›:=λD=>by
 refine eU D.Yw.F iU λcV A zn s0 H vs Q E hr h=>?_;obtain⟨r,rows,s,g,rfl,hR,dI,hes,oq,h0,h1,nr,kN⟩:=h;have hu:=gC hr;refine⟨_,(aj (aX (i:=3) iU.nd (bM (aa (bM (aa (pv 1) ah)) ah))) (aj (aX (i:=4) iU.nd mz) (aj (uC PassesOwn.never (lQ (pv 3) (λ_=>rfl)) (aj (aX (i:=5) iU.nd (dM pW PySem.F.slot_list_pop PySem.F.type_list_pop MV (pv 3) (aa ay ah))) (au (d9 PassesOwn.never rfl (cJ (aC D.U8 (zl D) hr (aa (aO bu (pv 0) (aO bu (pv 5) (gB eL ay))) ah))) (b9 (i:=6) iU.nd) (aj (bN (aT dQ (pv 6) (pv 2) (bx _)) (au (aG (bG jo (pv 5) (bM (aa (pv 2) ah))))) aZ) (au (bN (Cg (BC hu (pv 6) (pv 4))) (aj (uN hu (pv 4) (pv 6) jL rfl) (au (bg (dM pW jN jO bS (pv 3) (aa (bG jo (pv 5) (bM (aa (pv 6) ah))) ah))))) aZ))))))) (au (aG T6))))),?_⟩;refine⟨Y,lD,λa0 JG=>⟨lD,λW hW=>?_⟩⟩;intro S hS;have s1:aI H (aP H a0 (.lst [.int s])):=ak JG _;have s2:=s1.trans (ak hW (.lst [.ref a0]));have s3:=s2.trans (ak hS (.dK []))
 have QZ:H W=none:=by
  cases e:H W with
  | none=>rfl
  | some o=>exact absurd ((s1 _ _ e).symm.trans hW) (by simp)
 have H0S:H S=none:=by
  cases e:H S with
  | none=>rfl
  | some o=>exact absurd ((s2 _ _ e).symm.trans hS) (by simp)
 have Tc:W≠S:=aA af hS;have n0W:a0≠W:=aA af hW;have n0S:a0≠S:=aA (ak hW _ _ _ af) hS;exists λm σ H2=>m=muW rows.length W S σ H2/\Te rows H r W S s g σ H2,⟨Y,?_⟩
 ·have cl:=zf rows.length (λi=>(cI ([]:List (fj × V)) (Sum.inl (i:Int))).isNone);refine⟨[.ref a0],[[s]],[],none,none,rfl,⟨ak hS _ _ _ af,.cons ⟨a0,rfl,(λz=>z.elim n0W n0S),ak hS _ _ _ (ak hW _ _ _ af)⟩ .nil,af,s3,?_,?_⟩,?_⟩
  ·intro w hw;have:w=[s]:=by simpa using hw
   subst this;exact⟨by simp,s,rfl,h0,h1,.inl rfl⟩
  ·show 0+nJ rows.length []<=rows.length;unfold nJ;lia
  ·show 1+2*nJ rows.length []<=_;unfold nJ;lia
 ·rintro m σ H2 ⟨rfl,vs,wl,kvs,u,v,rfl,B,hml⟩;rw[NS B.hW B.hS];exists Y,!vs.isEmpty,.inl ⟨vs,bI.of B.hW,rfl⟩
  cases vs with
  | nil =>
   exact d7 (kN H2 B.sm)
  | cons v0 CL =>
   refine jr ⟨fun σ' H'=>Te rows H r W S s g σ' H'/\muW rows.length W S σ' H'<2*nJ rows.length kvs+(v0::CL).length,fun σ' H' ⟨p,l⟩=>⟨_,l,rfl,p⟩,?_⟩;obtain⟨Zt,Bm,UU,sm2,wk2,kl2⟩:=id B
   cases Bm with
   | @cons _ w0 _ WD hv0 acV =>
   obtain⟨wa,rfl,nwa,hwa⟩:=id hv0;obtain⟨wlw,e,hle,e0,e1,es0⟩:=wk2 w0 (by simp)
   have wal:∃ w1,w0=w1++[e]:=by
    rw[List.getLast?_eq_some_iff]at hle;exact hle
   obtain⟨w1,rfl⟩:=wal;obtain⟨es,ff⟩:∃ es,rows[e.toNat]?=some es:=⟨_,uz ∅⟩;have acW:es∈rows:=om ff;have Vt:=hes es acW;exists Y,.inl ⟨rfl,_,bI.of Zt⟩,W,_,0,0,.ref wa,V,Zt,E,E,(by simp[seqIndex?]),rfl;have ee:(V.ref wa::CL).eraseIdx 0=CL:=rfl;rw[ee];have Zu:∀ {v:V} {ns:List Int},fJ (λa=>a=W\/a=S) H2 v ns->fJ (λa=>a=W\/a=S) (aP H2 W (.lst CL)) v ns:=λh=>h.at _ (.inl rfl);have NT:aI H (aP H2 W (.lst CL)):=bP QZ sm2 (aJ W _ _);obtain⟨xR,KU,uW⟩:=hR.same NT;obtain⟨vi,CV,hI⟩:=uW.get' (i:=e.toNat) (b:=aH es) (by rw[gE,ff];rfl);obtain⟨b,Pr,rfl,hb,tU⟩:=id hI
   have acX:(aP H2 W (.lst CL)) wa=some (.lst (w1.map V.int++[.int e])):=by
    rw[aL (λz=>nwa (.inl z)),hwa,gJ];rfl
   have hil:=nV es [];refine⟨Y,Y,Y,wa,K,V,bI.of acX,fG _ _,r,K,V,bI.of KU,?_,b,aH es,rfl,hI,?_,λz H4 hz s4 nz=>?_⟩
   ·have z:=dD CV;rw[show ((e.toNat:Nat):Int)=e by lia]at z;exact z
   ·show (es.foldl bq []).length<=_;simp only[rL]at hil;lia
   rw[iD]at hz;have hW3:(aP H2 W (.lst CL)) W=some (.lst CL):=af;have K0:(aP H2 W (.lst CL)) S=some (.dK kvs):=by rw[aL Tc.symm];exact UU
   have nzW:z≠W:=(aA hW3 nz).symm;have nzS:z≠S:=(aA K0 nz).symm;have acP:(dX es).length<=es.length:=List.length_filterMap_le _ es;refine⟨z,rfl,⟨_,bI.of hz⟩,dN (K:=K) (a:=z) (xs:=(dX es).map V.int) (λi σ H5=>∃ (Px:List V) (WE:cR) (pZ:List (fj × V)) (v:Option V),σ=[some (.ref r),some (.int s),some (.int g),some (.ref W),some (.ref S),some (.ref wa),v]/\ Bfs rows H W S s H5 Px WE pZ/\fJ (λa=>a=W\/a=S) H5 (.ref wa) (w1++[e])/\fJ (λa=>a=W\/a=S) H5 (.ref z) (dX es)/\Px.length+2*nJ rows.length pZ<=CL.length+2*nJ rows.length kvs/\kvs.length<=pZ.length) ?_ ?_ ?_ ?_⟩
   ·refine⟨CL,WD,kvs,Y,⟨s4 _ _ hW3,acV.mono λ_ _ h=>(Zu h).same s4,s4 _ _ K0,NT.trans s4,λw hw=>wk2 w (nQ _ hw),kl2⟩,(Zu hv0).same s4,⟨z,rfl,λq=>q.elim nzW nzS,hz⟩,gh _,gh _⟩
   ·rintro i σ H5 _ ⟨_,_,_,_,_,_,_,⟨a,ea,_,ha⟩,_⟩;cases ea;exact bI.of ha
   ·rintro i x σ H5 hi ⟨Px,WE,pZ,v,rfl,B5,Q0,hz5,WG,hk5⟩;rw[gE]at hi;obtain⟨y,ey,rfl⟩:=Option.map_eq_some_iff.mp hi;have Gw:jM rows e y:=⟨e0,es,ff,om ey⟩;obtain⟨y0,y1⟩:=oq.DU Gw
    have sy:Reach (jM rows) s y:=by
     rcases es0 with rfl|q
     ·exact .one Gw
     ·exact .step q Gw
    obtain⟨wa',ewa,acZ,Zv⟩:=id Q0;cases ewa;have wl0:(w1++[e]).length<=2000:=by have:=B5.kl;lia
    refine⟨Y,Y,rfl,Y,cX (λc=>?_) (λc=>?_)⟩
    ·have eg:y=g:=V.int.inj (of_decide_eq_true c);exact absurd (eg ▸ sy) nr
    ·exists Y,Y,S,Y,iN.k (k:=Sum.inl y) B5.hS,Y
     cases ev:cI pZ (Sum.inl y) with
     | some o1 =>
      refine d7 ?_;exact⟨Px,WE,pZ,Y,B5,Q0,hz5,WG,hk5⟩
     | none =>
      refine jr ?_;have Zr:=B5.kl;refine⟨Y,Y,S,Y,CJ.k (k:=Sum.inl y) B5.hS (aS ∅),?_⟩;have e6:∀ {v:V} {ns:List Int},fJ (λa=>a=W\/a=S) H5 v ns->fJ (λa=>a=W\/a=S) (aP H5 S (.dK (eY pZ (Sum.inl y) (.bl true)))) v ns:=λh=>h.at _ (.inr rfl);have s6:aI H (aP H5 S (.dK (eY pZ (Sum.inl y) (.bl true)))):=bP H0S B5.sm (aJ S _ _);have Pu:(aP H5 S (.dK (eY pZ (Sum.inl y) (.bl true)))) W=some (.lst Px):=by rw[aL Tc];exact B5.hW
      have Zw:(aP H5 S (.dK (eY pZ (Sum.inl y) (.bl true)))) wa=some (.lst ((w1++[e]).map V.int)):=by rw[aL (λq=>acZ (.inr q))];exact Zv
      have Vu:(aP H5 S (.dK (eY pZ (Sum.inl y) (.bl true)))) S=some (.dK (eY pZ (Sum.inl y) (.bl true))):=af;generalize aP H5 S (.dK (eY pZ (Sum.inl y) (.bl true)))=H6 at e6 s6 Pu Zw Vu;have vl:Px.length<sizeLine:=aS (by simp only[mS]at hml;lia);refine⟨Y,.inl ⟨rfl,_,bI.of Pu⟩,Y,Y,lD,λb1 JE=>⟨wa,b1,Z,ak JE _ _ _ Zw,af,iz (aS (by rw[cG];simp at wl0 ⊢;lia)),λo ho=>⟨W,Z,ak ho _ _ _ (ak JE _ _ _ Pu),vl,?_⟩⟩⟩;have s7:aI H6 (aP H6 b1 (.lst [.int y])):=ak JE _;have s8:=s7.trans (ak ho (.lst ((w1++[e]).map V.int++[.int y])));have noW:o≠W:=(aA (s7 _ _ Pu) ho).symm;have Zx:o≠S:=(aA (s7 _ _ Vu) ho).symm;have e9:∀ {v:V} {ns:List Int},fJ (λa=>a=W\/a=S) H5 v ns->fJ (λa=>a=W\/a=S) (aP (aP (aP H6 b1 (.lst [.int y])) o (.lst ((w1++[e]).map V.int++[.int y]))) W (.lst (Px++[.ref o]))) v ns:=λh=>((e6 h).same s8).at _ (.inl rfl);have mp:=EM (n:=rows.length) (.bl true) y0 y1 ev;have pl:(eY pZ (Sum.inl y) (.bl true)).length=pZ.length+1:=by rw[y9 _ ev];simp
      exists Px++[.ref o],WE++[w1++[e]++[y]],eY pZ (Sum.inl y) (.bl true),Y,⟨af,bX.snoc (B5.hl.mono λ_ _ h=>e9 h) ⟨o,rfl,λq=>q.elim noW Zx,?_⟩,?_,bP QZ (s6.trans s8) (aJ W _ _),?_,?_⟩,e9 Q0,e9 hz5,?_
      ·rw[aL noW,af,gJ (l₁:=w1++[e])];rfl
      ·rw[aL Tc.symm];exact s8 _ _ Vu
      ·intro w hw;rcases List.mem_append.mp hw with q|q
       ·obtain⟨q2,q3⟩:=B5.wk w q;exact⟨Q,q3⟩
       ·have:w=w1++[e]++[y]:=by simpa using q
        subst this;refine⟨?_,y,by simp,y0,y1,.inr sy⟩;rw[dB,qX,pl];lia
      ·lia
      ·rw[dB,qX];lia
      ·lia
   ·rintro σ H5 ⟨Px,WE,pZ,v,rfl,B5,Q0,hz5,WG,hk5⟩;simp only[mS]at hml;exists ⟨Px,WE,pZ,P,rfl,B5,Q⟩;rw[NS B5.hW B5.hS,mS];lia
class inductive Vv
 | mk (r:Addr) (s:Int) (_:vs=[.ref r,.int s]) (_:Td [.ref r,.int s,.int s] H Q E)
theorem Vw:aF ["rows","sheet"] ["rows","sheet"] (az M6):=eS
theorem Q2:‹(3,14,["rows","sheet"],Vv)›:=λD=>by
 specialize eU D.Yx.F Vw;obtain⟨r,s,rfl,h⟩:=h;exists _,(au (aG (aC D.Yw (zm D) hr (aa (pv 0) (aa (pv 1) (aa (pv 1) ah))))));exists Y,Y,Y;obtain⟨r',rows,s',g,e,h1,h2,h3,h4,h5,h6,nr,kN⟩:=h;cases e;exact⟨r,rows,s,s,rfl,h1,h2,h3,h4,h5,h6,nr,kN⟩
def j7(f:Int->Int)(es:List Int):Int:=(es.map λe=>if e<0 then 1+f (-1-e) else 1).sum
def CY(f:Int->Int):aQ->Int
 | .win n=>1+f n
 | .aK a b=>b-a
def E1(f:Int->Int)(aN:List aQ):Int:=(aN.map (CY f)).sum
theorem mE(f:Int->Int)(a b:List aQ):E1 f (a++b)=E1 f a+E1 f b:=by unfold E1;rw[gJ,List.sum_append]
theorem NU(f:Int->Int)(t:List aQ)(e:Int):E1 f (bq t e)=E1 f t+(if e<0 then 1+f (-1-e) else 1):=by
 unfold bq;by_cases h:e<0
 ·rw[if_pos h,if_pos h,mE];simp[E1,CY]
 ·rw[if_neg h,if_neg h];rcases oz t with rfl|⟨t',l,rfl⟩
  ·simp[E1,CY];lia
  ·rw[mT,rJ]
   cases l with
   | win n =>
    show E1 f (t'++[aQ.win n]++[.aK e (e+1)])=_;rw[mE];simp[E1,CY];lia
   | aK a b =>
    show E1 f (if b=e then (t'++[aQ.aK a b]).dropLast++[.aK a (e+1)] else (t'++[aQ.aK a b])++[.aK e (e+1)])=_;by_cases hb:b=e
    ·rw[if_pos hb,List.dropLast_concat,mE,mE];simp[E1,CY];lia
    ·rw[if_neg hb,mE];simp[E1,CY];lia
theorem K9(f:Int->Int)(es:List Int):E1 f (aH es)=j7 f es:=by
 have z:∀ t:List aQ,E1 f (es.foldl bq t)=E1 f t+j7 f es:=by
  induction es with
  | nil=>intro t;simp[j7]
  | cons e es ih =>
   intro t;rw[lO,ih,NU];unfold j7;rw[jI,List.sum_cons];lia
 have:=z [];unfold aH;rw[this];simp[E1]
def Weighs(rows:cR)(f:Int->Int):Prop:=∀ (x:Int) (es:List Int),0<=x->rows[x.toNat]?=some es->f x=j7 f es
def wF(rows:cR):Nat->Int->Int
 | 0,_=>0
 | k+1,x=>match rows[x.toNat]? with
  | some es=>j7 (wF rows k) es
  | none=>0
theorem Hy{f g:Int->Int}{es:List Int}(h:∀ y∈dX es,f y=g y):j7 f es=j7 g es:=by
 unfold j7;congr 1;refine List.map_congr_left λe he=>?_;by_cases c:e<0
 ·rw[if_pos c,if_pos c,h (-1-e) (cB.mpr ⟨Q,by rw[show -1-(-1-e)=e by lia];exact he⟩)]
 ·rw[if_neg c,if_neg c]
theorem La{rows:cR}(h:BI rows):∃ f,Weighs rows f:=by
 obtain⟨rk,hb,hd⟩:=h
 have key:∀ (k:Nat) (x:Int),0<=x->rk x<k->wF rows k x=wF rows (k+1) x:=by
  intro k
  induction k with
  | zero=>intro x _ h;lia
  | succ k ih =>
   intro x x0 hx
   cases e:rows[x.toNat]? with
   | none=>simp[wF,e]
   | some es =>
    have e1:wF rows (k+1) x=j7 (wF rows k) es:=by simp[wF,e]
    have e2:wF rows (k+1+1) x=j7 (wF rows (k+1)) es:=by
     show (match rows[x.toNat]? with|some es=>j7 (wF rows (k+1)) es|none=>0)=_;rw[e]
    rw[e1,e2];refine Hy λy hy=>ih y (cB.mp hy).1 ?_;have:=hd x y ⟨x0,es,e,hy⟩;lia
 refine⟨wF rows 41,λx es x0 he=>?_⟩;rw[key 41 x x0 (by have:=hb x;lia)];show (match rows[x.toNat]? with|some es=>j7 (wF rows 41) es|none=>0)=_;rw[he]
class inductive ac0
 | mk (v:V) (it:aQ) (S:Addr) (kvs:List (fj × V)) (f:Int->Int) (_:vs=[v,.ref S]) (_:cP H v it) (_:H S=some (.dK kvs)) (_:(∀ n,it=.win n->cI kvs (Sum.inl n)=some (.int (f n)))) (_:Q (.int (CY f it)) H)
theorem AB:aF ["item","weights"] ["item","weights"] (az oJ):=eS
theorem zo:‹(1,15,["item","weights"],ac0)›:=λD=>by
 specialize eU D.Yy.F AB;obtain⟨v,it,S,kvs,f,rfl,⟨a,rfl,ha⟩,hS,hw,k⟩:=h;have hu:=gC hr;exists _,(aj (bN (aT dQ (aO br (pv 0) ay) bC (bx _)) (au (aG (bG dh ay (gu hu (pv 1) (aO br (pv 0) ay))))) aZ) (au (aG (bG cN (aO br (pv 0) ay) (aO br (pv 0) ay)))))
 cases it with
 | win n =>
  refine⟨Y,a,K,V,dH.of ha,V,Y,cX (λ_=>?_) (λz=>absurd (by decide) z)⟩;have z:=iN.k (k:=Sum.inl n) hS;rw[hw n rfl]at z;exact⟨Y,Y,a,K,V,dH.of ha,rfl,S,Y,z,Z,k⟩
 | aK p q =>
  refine⟨Y,a,K,V,dH.of ha,V,Y,cX (λz=>absurd z (by decide)) (λ_=>?_)⟩;exact⟨Y,a,K,V,dH.of ha,rfl,Y,a,K,V,dH.of ha,rfl,Z,k⟩
class inductive Hz
 | mk (r L:Addr) (rows:cR) (ss:List Int) (f:Int->Int) (_:vs=[.ref r,.ref L]) (_:gb H r (rows.map aH)) (_:H L=some (.lst (ss.map V.int))) (_:ss.length<=1000) (_:rows.length<=1000) (_:(∀ es∈rows,es.length<=1000)) (_:gr rows) (_:BI rows) (_:(∀ s∈ss,0<=s/\s<rows.length)) (_:Weighs rows f) (_ :
 ∀ (S:Addr) (kvs:List (fj × V)) (H':Hp),H' S=some (.dK kvs)->(∀ s∈ss,cI kvs (Sum.inl s)=some (.int (f s)))->aI H H'->H S=none->Q (.ref S) H')
theorem kM:aF ["rows","sheets","weights","number"] ["rows","sheets"] (az jt):=eS
theorem nY:‹(3,16,["rows","sheets"],Hz)›:=λD=>by
 refine eU D.Va.F kM λcV A zn s0 H vs Q E hr h=>?_;obtain⟨r,L,rows,ss,f,rfl,hR,hL,hsl,dI,hes,oq,vY,hin,hf,k⟩:=h;have hu:=gC hr;refine⟨_,(aj (aX (i:=2) kM.nd mz) (aj (d9 PassesOwn.never rfl (cJ (aC D.U9 (EZ D) hr (aa (pv 0) (aa (pv 1) ah)))) (b9 (i:=3) kM.nd) (au (uN hu (pv 2) (pv 3) (cD (Er rfl) rfl D.T.SR PyProof.Rows.boot_sum (aa (gH (N:=["item","weights"]) (mD (sc:=az jt) (NX:=["rows","sheets","weights","number"]) (jx:=[none,some 2]) rfl rfl rfl nofun nofun rfl nofun rfl nofun) rfl (cJ (aO bu (pv 0) (pv 3))) (λ_ _ _ _ _ _=>(b9 (i:=0) (show List.Nodup (["item","weights"]:List Str) by decide +kernel))) (λ_ _ _ _ _ _=>gP) (λ_ _ _ _ _ _=>(aC D.Yy (zo D) hr (aa (pv 0) (aa (pv 1) ah))))) ah)) rfl))) (au (aG (pv 2))))),?_⟩;intro S hS;have s1:aI H (aP H S (.dK [])):=ak hS _;refine⟨Y,Y,r,L,rows,ss,rfl,hR.same s1,s1 _ _ hL,hsl,dI,hes,oq,vY,hin,λks o H2 ho s2 tp sk kl XD=>?_⟩;have UU:=s2 _ _ (af (H:=H) (a:=S) (o:=.dK []));have Zx:o≠S:=(aA af XD).symm;refine⟨o,rfl,⟨_,bI.of ho⟩,dN (K:=K) (a:=o) (xs:=ks.map V.int) (λi σ H3=>∃ (kvs:List (fj × V)) (u:Option V),σ=[some (.ref r),some (.ref L),some (.ref S),u]/\H3 S=some (.dK kvs)/\(∀ y∈ks.take i,cI kvs (Sum.inl y)=some (.int (f y)))/\kvs.length<=i/\(∀ a ob,a≠S->H2 a=some ob->H3 a=some ob)) ⟨[],none,rfl,UU,(λy hy=>by simp at hy),gh _,λ_ _ _ e=>e⟩ ?_ ?_ ?_⟩
 ·rintro i σ H3 _ ⟨_,_,_,_,_,_,k3⟩;exact bI.of (k3 o _ Zx ho)
 ·rintro i x σ H3 hi ⟨kvs,u,rfl,K0,Me,hk3,k3⟩;rw[gE]at hi;obtain⟨x,ex,rfl⟩:=Option.map_eq_some_iff.mp hi;obtain⟨x0,x1⟩:=tp.D4 x (om ex);obtain⟨es,ff⟩:∃ es,rows[x.toNat]?=some es:=⟨_,uz ∅⟩;have Vt:=hes es (om ff);have NT:aI H H3:=λa ob e=>k3 a ob (aA e hS) (s2 _ _ (s1 _ _ e));obtain⟨xR,KU,uW⟩:=hR.same NT;obtain⟨vi,CV,hI⟩:=uW.get' (i:=x.toNat) (b:=aH es) (by rw[gE,ff];rfl);obtain⟨b,Pr,rfl,hb,tU⟩:=id hI;have hil:=nV es []
  have aix:(aH es).length<=1000:=by
   show (es.foldl bq []).length<=_;simp only[rL]at hil;lia
  have uX:pX xR x=some (.ref b):=by
   have z:=dD CV;rw[show ((x.toNat:Nat):Int)=x by lia]at z;exact z
  refine⟨Y,Y,r,K,V,bI.of KU,uX,b,rfl,⟨_,bI.of hb⟩,λacc cS=>gG (K:=K) (a:=b) (xs:=Pr) (λj σ H5=>∃ u:Option V,σ=[u,some (.ref S)]/\H5 acc=some (.lst ((((aH es).take j).map (CY f)).map V.int))/\aI H3 H5) ⟨none,rfl,af,ak cS _⟩ (λj σ H5 _ ⟨K,s5⟩=>bI.of (s5 _ _ hb)) ?_ ?_⟩
  ·rintro j v σ H5 hj ⟨u,rfl,h5,s5⟩;obtain⟨it,ei,hiv⟩:=tU.get hj;have st:=take_snoc ei;unfold rV Nk;refine jr ⟨Y,Y,v,it,S,kvs,f,rfl,hiv.same s5,s5 _ _ K0,λn hn=>?_,?_⟩
   ·subst hn;refine Me n (tp.dn i x ex n ⟨x0,es,ff,?_⟩);rw[← iD];unfold fc;rw[List.mem_filterMap];exact⟨.win n,om ei,rfl⟩
   ·refine⟨_,h5,(by rw[cG,cG,gF];exact aS ∅),Y,?_,bP cS s5 (aJ acc _ _)⟩;rw[af,st,gJ,gJ];rfl
  ·rintro σ H5 ⟨u,rfl,h5,s5⟩;rw[tU.len,gR]at h5;have es1:((aH es).map (CY f)).sum=f x:=by rw[hf x es x0 ff];exact K9 f es
   have hS5:=s5 _ _ K0
   have kvl:i<ks.length:=by
    rcases Nat.lt_or_ge i ks.length with q|q
    ·exact q
    ·rw[List.getElem?_eq_none q]at ex;cases ex
   exists acc,Y,bI.of h5;rw[es1];refine⟨Y,Y,S,Y,CJ.k (k:=Sum.inl x) hS5 (aS ∅),?_⟩;refine⟨eY kvs (Sum.inl x) (.int (f x)),Y,af,λy hy=>?_,?_,λa ob n e=>?_⟩
   ·rw[j4];rw[take_snoc ex]at hy;by_cases c:y=x
    ·rw[if_pos (by rw[c]),c]
    ·rw[if_neg (λz=>c (Sum.inl.inj z))];rcases List.mem_append.mp hy with q|q
     ·exact Me y q
     ·exact absurd (by simpa using q) c
   ·have:=gX kvs (Sum.inl x) (V.int (f x));lia
   ·rw[aL n];exact s5 _ _ (k3 a ob n e)
 ·rintro σ H3 ⟨kvs,u,rfl,K0,Me,hk3,k3⟩;rw[cG,gR]at Me;exact⟨Y,k S kvs H3 K0 (λs hs=>Me s (sk s hs)) (λa ob e=>k3 a ob (aA e hS) (s2 _ _ (s1 _ _ e))) hS⟩
class inductive NV
 | mk (r:Addr) (rows:cR) (s:Int) (f:Int->Int) (_:vs=[.ref r,.int s]) (_:gb H r (rows.map aH)) (_:rows.length<=1000) (_:(∀ es∈rows,es.length<=1000)) (_:gr rows) (_:BI rows) (_:0<=s) (_:s<rows.length) (_:Weighs rows f) (_ :
 ∀ H':Hp,aI H H'->Q (.int (f s)) H')
theorem NW:aF ["rows","sheet"] ["rows","sheet"] (az Cu):=eS
theorem Lb:‹(4,17,["rows","sheet"],NV)›:=λD=>by
 refine eU D.Vb.F NW λcV A zn s0 H vs Q E hr h=>?_;obtain⟨r,rows,s,f,rfl,hR,dI,hes,oq,vY,h0,h1,hf,k⟩:=h;have hu:=gC hr;exists _,(au (aG (gu hu (aC D.Va (nY D) hr (aa (pv 0) (aa (bM (aa (pv 1) ah)) ah))) (pv 1))));refine⟨Y,Y,lD,λL hL=>?_⟩;have s1:aI H (aP H L (.lst [.int s])):=ak hL _;refine⟨r,L,rows,[s],f,rfl,hR.same s1,af,(by simp),dI,hes,oq,vY,(λx hx=>by rw[List.mem_singleton.mp hx];exact⟨h0,h1⟩),hf,λS kvs H' hS hv s' _=>?_⟩;have z:=iN.k (k:=Sum.inl s) hS;rw[hv s (by simp)]at z;exact⟨Y,S,Y,z,k H' (s1.trans s')⟩
def pQ(g:Int->Row):aQ->Row
 | .win n=>g n
 | .aK a b=>[(a,b)]
def aW(sh:Int->List Int)(e:Int):List Int:=if e<0 then sh (-1-e) else [e]
def aR(sh:Int->List Int)(es:List Int):List Int:=es.flatMap (aW sh)
def mF(rows:cR)(sh:Int->List Int):Prop:=∀ (x:Int) (es:List Int),0<=x->rows[x.toNat]?=some es->sh x=aR sh es
def bH(sh:Int->List Int)(aN:List aQ):Row:=aN.flatMap (pQ λn=>cM (sh n))
def sF(t:List aQ):Prop:=∀ a b,aQ.aK a b∈t->a<b
theorem eG(sh:Int->List Int)(a b:List aQ):bH sh (a++b)=bH sh a++bH sh b:=by unfold bH;rw[List.flatMap_append]
theorem jg(sh:Int->List Int)(it:aQ):bH sh [it]=pQ (λn=>cM (sh n)) it:=by simp[bH]
theorem Lc(sh:Int->List Int)(t:List aQ)(e:Int)(ok:sF t):bO (bH sh (bq t e))=bO (bH sh t)++aW sh e/\sF (bq t e):=by
 have add:∀ it:aQ,(∀ a b,it=.aK a b->a<b)->sF (t++[it]):=λit h a b hm=>by
  rcases List.mem_append.mp hm with z|z
  ·exact ok a b z
  ·exact h a b (List.mem_singleton.mp z).symm
 unfold bq;by_cases h:e<0
 ·rw[if_pos h];refine⟨?_,add _ λa b z=>by cases z⟩;rw[eG,cY,jg];show _++bO (cM (sh (-1-e)))=_;rw[eN];unfold aW;rw[if_pos h]
 ·rw[if_neg h]
  have one:bO [(e,e+1)]=[e]:=by
   rw[gx];unfold jw;have:(e+1-e).toNat=1:=by lia
   show run e (e+1-e).toNat=_;rw[this];rfl
  have es1:aW sh e=[e]:=by unfold aW;rw[if_neg h]
  have uY:bO (bH sh (t++[.aK e (e+1)]))=bO (bH sh t)++aW sh e/\sF (t++[.aK e (e+1)]):=by
   refine⟨?_,add _ λa b z=>by cases z;lia⟩;rw[eG,cY,jg,es1];show _++bO [(e,e+1)]=_;rw[one]
  rcases oz t with rfl|⟨t',l,rfl⟩
  ·exact uY
  ·rw[mT]at ok add uY ⊢;rw[rJ]
   cases l with
   | win n=>exact uY
   | aK a b =>
    show bO (bH sh (if b=e then (t'++[aQ.aK a b]).dropLast++[.aK a (e+1)] else (t'++[aQ.aK a b])++[.aK e (e+1)]))=_/\sF (if b=e then (t'++[aQ.aK a b]).dropLast++[.aK a (e+1)] else (t'++[aQ.aK a b])++[.aK e (e+1)]);by_cases hb:b=e
    ·subst hb;have ab:=ok a b (by simp);rw[if_pos rfl,List.dropLast_concat];refine⟨?_,λp q hm=>?_⟩
     ·rw[eG,eG,cY,cY,jg,jg,es1,mU];congr 1;show bO [(a,b+1)]=bO [(a,b)]++[b];rw[gx,gx];unfold jw;show run a (b+1-a).toNat=run a (b-a).toNat++[b];have:(b+1-a).toNat=(b-a).toNat+1:=by lia
      rw[this,uM];congr 2;lia
     ·rcases List.mem_append.mp hm with z|z
      ·exact ok p q (sO _ z)
      ·have z':aQ.aK p q=aQ.aK a (b+1):=by simpa using z
       cases z';lia
    ·rw[if_neg hb];exact uY
theorem zq(sh:Int->List Int)(es:List Int):bO (bH sh (aH es))=aR sh es/\sF (aH es):=by
 have z:∀ t:List aQ,sF t->bO (bH sh (es.foldl bq t))=bO (bH sh t)++aR sh es/\sF (es.foldl bq t):=by
  induction es with
  | nil=>intro t ok;exact⟨by simp[aR],ok⟩
  | cons e es ih =>
   intro t ok;obtain⟨h1,h2⟩:=Lc sh t e ok;obtain⟨h3,h4⟩:=ih _ h2;refine⟨?_,h4⟩;rw[lO,h3,h1,mU];unfold aR;rw[ji]
 have q:=z [] (λa b h=>by cases h);refine⟨?_,q.2⟩;unfold aH;rw[q.1];rfl
theorem Ld(sh:Int->List Int)(it:aQ)(h:∀ a b,it=.aK a b->a<b):(pQ (λn=>cM (sh n)) it).length<=(bO (pQ (λn=>cM (sh n)) it)).length:=by
 cases it with
 | win n =>
  show (cM (sh n)).length<=(bO (cM (sh n))).length;rw[eN];have z:=yY (sh n) [];simpa [cM] using z
 | aK a b =>
  have ab:=h a b rfl;show 1<=(bO [(a,b)]).length;rw[gx];unfold jw;show 1<=(run a (b-a).toNat).length;rw[Jw];lia
theorem ua(sh:Int->List Int):∀ aN:List aQ,sF aN->(bH sh aN).length<=(bO (bH sh aN)).length
 | [],_=>by simp[bH]
 | it::aN,h=>by
  have e:bH sh (it::aN)=pQ (λn=>cM (sh n)) it++bH sh aN:=by unfold bH;rw[ji]
  rw[e,cY,dB,dB];have a:=Ld sh it (λa b z=>h a b (by rw[← z];simp));have b:=ua sh aN (λa b z=>h a b (nQ _ z));lia
theorem Le(sh:Int->List Int)(aN:List aQ)(h:sF aN):∀ p∈bH sh aN,p.1<=p.2:=by
 intro p hp;unfold bH at hp;obtain⟨it,hi,hm⟩:=List.mem_flatMap.mp hp
 cases it with
 | win n=>exact mq _ p hm
 | aK a b =>
  have:p=(a,b):=by simpa [pQ] using hm
  subst this;have:=h a b hi;show a<=b;lia
class inductive Lf
 | mk (v:V) (it:aQ) (S:Addr) (kvs:List (fj × V)) (g:Int->Row) (_:vs=[v,.ref S]) (_:cP H v it) (_:H S=some (.dK kvs)) (_:(∀ n,it=.win n->∃ a,cI kvs (Sum.inl n)=some (.ref a)/\cE H a (g n))) (_ :
 ∀ (a:Addr) (H':Hp),cE H' a (pQ g it)->aI H H'->((∃ n,it=.win n/\cI kvs (Sum.inl n)=some (.ref a))\/H a=none)->Q (.ref a) H')
theorem HF:aF ["item","views"] ["item","views"] (az vJ):=eS
theorem xu:‹(1,18,["item","views"],Lf)›:=λD=>by
 specialize eU D.Vc.F HF;obtain⟨v,it,S,kvs,g,rfl,⟨a,rfl,ha⟩,hS,hw,k⟩:=h;have hu:=gC hr;exists _,(aj (bN (aT dQ (aO br (pv 0) ay) bC (bx _)) (au (aG (gu hu (pv 1) (aO br (pv 0) ay)))) aZ) (au (aG (bM (aa (cW (aa (aO br (pv 0) ay) (aa (aO br (pv 0) ay) ah))) ah)))))
 cases it with
 | win n =>
  refine⟨Y,a,K,V,dH.of ha,V,Y,cX (λ_=>?_) (λz=>absurd (by decide) z)⟩;obtain⟨b,hb,Rb⟩:=hw n rfl;have z:=iN.k (k:=Sum.inl n) hS;rw[hb]at z;exact⟨Y,Y,a,K,V,dH.of ha,rfl,S,Y,z,k b H Rb (aI.refl H) (.inl ⟨n,rfl,hb⟩)⟩
 | aK p q =>
  refine⟨Y,a,K,V,dH.of ha,V,Y,cX (λz=>absurd z (by decide)) (λ_=>?_)⟩;refine⟨Y,a,K,V,dH.of ha,rfl,Y,a,K,V,dH.of ha,rfl,nK,λt ht=>⟨lD,λl hl=>?_⟩⟩;have s1:aI H (aP H t (.tup [.int p,.int q])):=ak ht _;have s2:=s1.trans (ak hl (.lst [.ref t]));refine k l _ ⟨[t],af,.cons ?_ .nil⟩ s2 (.inr ?_)
  ·exact ak hl _ _ _ af
  ·cases e:H l with
   | none=>rfl
   | some o=>exact absurd ((s1 _ _ e).symm.trans hl) (by simp)
theorem bQ.E2{H H':Hp}{S:Addr}{kvs:List (fj × V)}(hS:H S=some (.dK kvs))(k:∀ a ob,a≠S->H a=some ob->H' a=some ob):∀ {as:List Addr} {r:Row},bQ H as r->bQ H' as r
 | _,_,.nil=>.nil
 | _,_,.cons r t=>.cons (k _ _ (λz=>by
   have r':=r;unfold vO at r';rw[z,hS]at r'
   cases r') r) (bQ.E2 hS k t)
theorem cE.E2{H H':Hp}{S a:Addr}{kvs:List (fj × V)}{row:Row}(hS:H S=some (.dK kvs))(n:a≠S)(k:∀ a ob,a≠S->H a=some ob->H' a=some ob)(R:cE H a row):cE H' a row:=by
 obtain⟨as,h,p⟩:=R;exact⟨as,k _ _ n h,p.E2 hS k⟩
def JH(H:Hp)(kvs:List (fj × V))(sh:Int->List Int)(xs:List Int):Prop:=∀ x∈xs,∃ a,cI kvs (Sum.inl x)=some (.ref a)/\cE H a (cM (sh x))
class inductive Q3
 | mk (r L:Addr) (rows:cR) (ss:List Int) (sh:Int->List Int) (_:vs=[.ref r,.ref L]) (_:gb H r (rows.map aH)) (_:H L=some (.lst (ss.map V.int))) (_:ss.length<=1000) (_:rows.length<=1000) (_:(∀ es∈rows,es.length<=1000)) (_:gr rows) (_:BI rows) (_:(∀ s∈ss,0<=s/\s<rows.length)) (_:mF rows sh) (_:(∀ x:Int,0<=x->x<rows.length->(sh x).length<=10000)) (_ :
 ∀ (S:Addr) (kvs:List (fj × V)) (ks:List Int) (H':Hp),H' S=some (.dK kvs)->JH H' kvs sh ks->KZ rows ks->(∀ s∈ss,s∈ks)->(∀ x∈ks,∀ a,cI kvs (Sum.inl x)=some (.ref a)->H a=none)->aI H H'->H S=none->Q (.ref S) H')
theorem nL:aF ["rows","sheets","views","number"] ["rows","sheets"] (az lC):=eS
theorem jz:‹(3,19,["rows","sheets"],Q3)›:=λD=>by
 refine eU D.NL.F nL λcV A zn s0 H vs Q E hr h=>?_;obtain⟨r,L,rows,ss,sh,rfl,hR,hL,hsl,dI,hes,oq,vY,hin,wY,DW,k⟩:=h;have hu:=gC hr;refine⟨_,(aj (aX (i:=2) nL.nd mz) (aj (d9 PassesOwn.never rfl (cJ (aC D.U9 (EZ D) hr (aa (pv 0) (aa (pv 1) ah)))) (b9 (i:=3) nL.nd) (au (uN hu (pv 2) (pv 3) (aC D.dq4 (zj D) hr (aa (BG (N:=["item","stretch","views"]) (mD (sc:=az lC) (NX:=["rows","sheets","views","number"]) (jx:=[none,none,some 2]) rfl rfl rfl nofun nofun rfl nofun rfl nofun) rfl (cJ (aO bu (pv 0) (pv 3))) (λ_ _ _ _ _ _=>(b9 (i:=0) (show List.Nodup (["item","stretch","views"]:List Str) by decide +kernel))) (λ_ _ _ _ _ _=>gP) (λ_ _ _ _ _ _=>(Ny (aC D.Vc (xu D) hr (aa (pv 0) (aa (pv 2) ah))))) (λ_ _ _ _ _ _=>(b9 (i:=1) (show List.Nodup (["item","stretch","views"]:List Str) by decide +kernel))) (λ_ _ _ _ _ _=>gP) (λ_ _ _ _ _ _=>(pv 1))) ah)) rfl))) (au (aG (pv 2))))),?_⟩;intro S hS;have s1:aI H (aP H S (.dK [])):=ak hS _;refine⟨Y,Y,r,L,rows,ss,rfl,hR.same s1,s1 _ _ hL,hsl,dI,hes,oq,vY,hin,λks o H2 ho s2 tp sk kl XD=>?_⟩;have UU:=s2 _ _ (af (H:=H) (a:=S) (o:=.dK []));have Zx:o≠S:=(aA af XD).symm;refine⟨o,rfl,⟨_,bI.of ho⟩,dN (K:=K) (a:=o) (xs:=ks.map V.int) (λi σ H3=>∃ (kvs:List (fj × V)) (u:Option V),σ=[some (.ref r),some (.ref L),some (.ref S),u]/\H3 S=some (.dK kvs)/\JH H3 kvs sh (ks.take i)/\kvs.length<=i/\(∀ x a,cI kvs (Sum.inl x)=some (.ref a)->H a=none/\a≠S)/\(∀ a ob,a≠S->H2 a=some ob->H3 a=some ob)) ⟨[],none,rfl,UU,(λy hy=>by simp at hy),gh _,(λx a e=>by cases e),λ_ _ _ e=>e⟩ ?_ ?_ ?_⟩
 ·rintro i σ H3 _ ⟨_,_,_,_,_,_,_,k3⟩;exact bI.of (k3 o _ Zx ho)
 ·rintro i x σ H3 hi ⟨kvs,u,rfl,K0,Me,hk3,hn3,k3⟩;rw[gE]at hi;obtain⟨x,ex,rfl⟩:=Option.map_eq_some_iff.mp hi;obtain⟨x0,x1⟩:=tp.D4 x (om ex);obtain⟨es,ff⟩:∃ es,rows[x.toNat]?=some es:=⟨_,uz ∅⟩;have NT:aI H H3:=λa ob e=>k3 a ob (aA e hS) (s2 _ _ (s1 _ _ e));obtain⟨xR,KU,uW⟩:=hR.same NT;obtain⟨vi,CV,hI⟩:=uW.get' (i:=x.toNat) (b:=aH es) (by rw[gE,ff];rfl);obtain⟨b,Pr,rfl,hb,tU⟩:=id hI;obtain⟨Kh,hok⟩:=zq sh es;have Zy:=wY x es x0 ff
  have i6:(bH sh (aH es)).length<=10000:=by
   have z:=ua sh (aH es) hok;rw[Kh,← Zy]at z;have:=DW x x0 x1;lia
  have part:∀ j,(bH sh ((aH es).take j)).length<=10000:=λj=>by
   have e:bH sh (aH es)=bH sh ((aH es).take j)++bH sh ((aH es).drop j):=by rw[← eG,List.take_append_drop]
   rw[e,dB]at i6;lia
  have uX:pX xR x=some (.ref b):=by
   have z:=dD CV;rw[show ((x.toNat:Nat):Int)=x by lia]at z;exact z
  refine⟨Y,Y,r,K,V,bI.of KU,uX,b,rfl,⟨_,bI.of hb⟩,λacc cS=>xm (K:=K) (a:=b) (xs:=Pr) (λj σ H5=>∃ (u v:Option V) (as:List Addr),σ=[u,v,some (.ref S)]/\H5 acc=some (.lst (as.map V.ref))/\bQ H5 as (bH sh ((aH es).take j))/\aI H3 H5) ⟨none,none,[],rfl,af,.nil,ak cS _⟩ (λj σ H5 _ ⟨K,K,s5⟩=>bI.of (s5 _ _ hb)) ?_ ?_⟩
  ·rintro j v σ H5 hj ⟨u,u2,as,rfl,h5,p5,s5⟩;obtain⟨it,ei,hiv⟩:=tU.get hj;have st:bH sh ((aH es).take (j+1))=bH sh ((aH es).take j)++pQ (λn=>cM (sh n)) it:=by rw[take_snoc ei,eG,jg]
   refine UL ?_;refine jr ?_;refine⟨Y,Y,v,it,S,kvs,(λn=>cM (sh n)),rfl,hiv.same s5,s5 _ _ K0,λn hn=>?_,λa2 H6 R6 s6 hor=>?_⟩
   ·subst hn
    obtain⟨a,ha,Ra⟩:=Me n (tp.dn i x ex n ⟨x0,es,ff,by
     rw[← iD];unfold fc;rw[List.mem_filterMap]
     exact⟨.win n,om ei,rfl⟩⟩)
    exact⟨a,ha,Ra.same s5⟩
   obtain⟨Vx,h6a,p6⟩:=id R6
   have na2:a2≠acc:=by
    rcases hor with ⟨n,hn,hv⟩|hn
    ·subst hn
     obtain⟨a,ha,as0,h0',_⟩:=Me n (tp.dn i x ex n ⟨x0,es,ff,by
      rw[← iD];unfold fc;rw[List.mem_filterMap]
      exact⟨.win n,om ei,rfl⟩⟩)
     rw[hv]at ha;cases ha;exact aA h0' cS
    ·exact (aA h5 hn).symm
   have h6:=s6 _ _ h5;have pl:=part (j+1);rw[st,dB]at pl;have al:=p5.len;have al2:=p6.len;refine⟨a2,rfl,⟨_,bI.of h6a⟩,Hi (K:=K) (a:=a2) (acc:=acc) (g:=rV 1) (tt:=Nk) (te:=T4 1) (xs:=Vx.map V.ref) (λl σ H7=>∃ v2:Option V,σ=[some v,v2,some (.ref S)]/\H7 acc=some (.lst ((as++Vx.take l).map V.ref))/\bQ H7 (as++Vx.take l) (bH sh ((aH es).take j)++(pQ (λn=>cM (sh n)) it).take l)/\cH acc H6 H7/\aI H3 H7) ?_ ?_ ?_ ?_⟩
   ·exact⟨u2,rfl,(by simpa using h6),(by simpa using p5.same s6),(λ_ _ e _=>e),s5.trans s6⟩
   ·rintro l σ H7 _ ⟨_,_,_,_,K7,_⟩;exact bI.of (K7 a2 _ h6a na2)
   ·rintro l y σ H7 hl ⟨v2,rfl,h7,p7,K7,s7⟩;rw[gE]at hl;obtain⟨t,et,rfl⟩:=Option.map_eq_some_iff.mp hl;obtain⟨pr,epr,hpr⟩:=p6.get et
    have ll:l<Vx.length:=by
     rcases Nat.lt_or_ge l Vx.length with q|q
     ·exact q
     ·rw[List.getElem?_eq_none q]at et;cases et
    have Zz:vO H7 t pr:=K7 t _ hpr (λz=>by
     have q:H6 acc=some (.tup [.int pr.1,.int pr.2]):=by rw[← z];exact hpr
     rw[h6]at q
     cases q)
    have K8:cH acc H7 (aP H7 acc (.lst ((as++Vx.take l).map V.ref++[.ref t]))):=aJ acc _ _;refine UL ?_;refine jr ?_;refine⟨Y,_,h7,?_,Y,?_,?_,?_,bP cS s7 K8⟩
    ·rw[cG,dB,gF];exact aS ∅
    ·rw[af,take_snoc et,← mU,gJ (l₁:=as++Vx.take l)];rfl
    ·rw[take_snoc et,take_snoc epr,← mU,← mU]
     exact bQ.snoc (p7.keep h7 K8) (K8 t _ Zz (λz=>by
      have q:H7 acc=some (.tup [.int pr.1,.int pr.2]):=by rw[← z];exact Zz
      rw[h7]at q
      cases q))
    ·exact λa ob e n=>K8 a ob (K7 a ob e n) n
   ·rintro σ H7 ⟨v2,rfl,h7,p7,K7,s7⟩;rw[cG,gR]at h7 p7;rw[al2,gR]at p7;exact⟨K,rfl,h7,(by rw[st];exact p7),s7⟩
  ·rintro σ H5 ⟨u,u2,as,rfl,h5,p5,s5⟩;rw[tU.len,gR]at p5
   have kvl:i<ks.length:=by
    rcases Nat.lt_or_ge i ks.length with q|q
    ·exact q
    ·rw[List.getElem?_eq_none q]at ex;cases ex
   refine⟨acc,Y,⟨as,h5,p5⟩,Q,λq H6 R6 s6 hq=>?_⟩;have Vu:=s6 _ _ (s5 _ _ K0);have nqS:q≠S:=(aA (s5 _ _ K0) hq).symm;have er:cA (bH sh (aH es))=cM (sh x):=by rw[yS _ (Le sh _ hok),Kh,Zy]
   rw[er]at R6;have k7:∀ a ob,a≠S->H6 a=some ob->aP H6 S (.dK (eY kvs (Sum.inl x) (.ref q))) a=some ob:=λa ob n e=>by rw[aL n];exact e
   refine⟨Y,Y,S,Y,CJ.k (k:=Sum.inl x) Vu (aS ∅),?_⟩;refine⟨eY kvs (Sum.inl x) (.ref q),Y,af,λy hy=>?_,?_,λy a e=>?_,λa ob n e=>k7 a ob n (s6 _ _ (s5 _ _ (k3 a ob n e)))⟩
   ·rw[j4];by_cases c:y=x
    ·rw[if_pos (by rw[c]),c];exact⟨q,rfl,R6.E2 Vu nqS k7⟩
    ·rw[if_neg (λz=>c (Sum.inl.inj z))];rw[take_snoc ex]at hy;rcases List.mem_append.mp hy with z|z
     ·obtain⟨a,ha,Ra⟩:=Me y z;exact⟨a,ha,((Ra.same s5).same s6).E2 Vu (hn3 y a ha).2 k7⟩
     ·exact absurd (by simpa using z) c
   ·have:=gX kvs (Sum.inl x) (V.ref q);lia
   ·rw[j4]at e;by_cases c:y=x
    ·rw[if_pos (by rw[c])]at e;cases e;refine⟨?_,nqS⟩
     cases z:H q with
     | none=>rfl
     | some ob=>exact absurd ((s5 _ _ (NT _ _ z)).symm.trans hq) (by simp)
    ·rw[if_neg (λz=>c (Sum.inl.inj z))]at e;exact hn3 y a e
 ·rintro σ H3 ⟨kvs,u,rfl,K0,Me,hk3,hn3,k3⟩;rw[cG,gR]at Me;exact⟨Y,k S kvs ks H3 K0 Me tp sk (λx _ a e=>(hn3 x a e).1) (λa ob e=>k3 a ob (aA e hS) (s2 _ _ (s1 _ _ e))) hS⟩
class inductive Q4
 | mk (r:Addr) (rows:cR) (s:Int) (sh:Int->List Int) (_:vs=[.ref r,.int s]) (_:gb H r (rows.map aH)) (_:rows.length<=1000) (_:(∀ es∈rows,es.length<=1000)) (_:gr rows) (_:BI rows) (_:0<=s) (_:s<rows.length) (_:mF rows sh) (_:(∀ x:Int,0<=x->x<rows.length->(sh x).length<=10000)) (_ :
 ∀ (o:Addr) (H':Hp),cE H' o (cM (sh s))->aI H H'->H o=none->Q (.ref o) H')
theorem Q5:aF ["rows","sheet"] ["rows","sheet"] (az GY):=eS
theorem E3:‹(4,20,["rows","sheet"],Q4)›:=λD=>by
 refine eU D.NN.F Q5 λcV A zn s0 H vs Q E hr h=>?_;obtain⟨r,rows,s,sh,rfl,hR,dI,hes,oq,vY,h0,h1,wY,DW,k⟩:=h;have hu:=gC hr;exists _,(au (aG (gu hu (aC D.NL (jz D) hr (aa (pv 0) (aa (bM (aa (pv 1) ah)) ah))) (pv 1))));refine⟨Y,Y,lD,λL hL=>?_⟩;have s1:aI H (aP H L (.lst [.int s])):=ak hL _;refine⟨r,L,rows,[s],sh,rfl,hR.same s1,af,(by simp),dI,hes,oq,vY,(λx hx=>by rw[List.mem_singleton.mp hx];exact⟨h0,h1⟩),wY,DW,λS kvs ks H' hS hv tp sk hn s' _=>?_⟩;have sk:=sk s (by simp);obtain⟨a,ha,Ra⟩:=hv s sk;have z:=iN.k (k:=Sum.inl s) hS;rw[ha]at z;exact⟨Y,S,Y,z,k a H' Ra (s1.trans s') (bh s1 (hn s sk a ha))⟩
def Vy:aQ->aQ->Bool
 | .aK _ b,.aK c _=>decide (b=c)
 | _,_=>false
class inductive Vz
 | mk (x y:V) (i j:aQ) (_:vs=[x,y]) (_:cP H x i) (_:cP H y j) (_:Q (.bl (Vy i j)) H)
theorem Lg:aF ["one","other"] ["one","other"] (az yO):=eS
theorem HG:‹(1,21,["one","other"],Vz)›:=λD=>by
 specialize eU D.Yz.F Lg;obtain⟨x,y,i,j,rfl,⟨a,rfl,ha⟩,⟨b,rfl,hb⟩,k⟩:=h;exists _,(au (aG (ni (jk dQ (aO br (pv 0) ay) bC (bx _)) (ni (jk dQ (aO br (pv 1) ay) bC (bx _)) (oB (jk dQ (aO br (pv 0) ay) (aO br (pv 1) ay) (bx _)))))))
 cases i with
 | win n=>exact⟨Y,a,K,V,dH.of ha,V,Y,cX (λz=>absurd z (by decide)) (λ_=>k)⟩
 | aK p q =>
  refine⟨Y,a,K,V,dH.of ha,V,Y,cX (λ_=>?_) (λz=>absurd (by decide) z)⟩
  cases j with
  | win n=>exact⟨Y,b,K,V,dH.of hb,V,Y,cX (λz=>absurd z (by decide)) (λ_=>k)⟩
  | aK u v =>
   refine⟨Y,b,K,V,dH.of hb,V,Y,cX (λ_=>?_) (λz=>absurd (by decide) z)⟩;exists Y,a,K,V,dH.of ha,rfl,Y,b,K,V,dH.of hb,V
   have e:decide (V.int q=V.int u)=decide (q=u):=by
    by_cases c:q=u
    ·rw[c];simp
    ·have c2:¬ V.int q=V.int u:=λz=>c (V.int.inj z);rw[decide_eq_false c,decide_eq_false c2]
   rw[e];exact k
def bT(t:List aQ)(it:aQ):List aQ :=
 match t.getLast?,it with
 | some (.aK a b),.aK c d=>if b=c then t.dropLast++[.aK a d] else t++[it]
 | _,_=>t++[it]
def HH(aN:List aQ):List aQ:=aN.foldl bT []
theorem HJ(aN:List aQ):∀ t:List aQ,(aN.foldl bT t).length<=t.length+aN.length:=by
 induction aN with
 | nil=>intro t;simp
 | cons e aN ih =>
  intro t;rw[lO];have z:=ih (bT t e)
  have z2:(bT t e).length<=t.length+1:=by
   unfold bT;split
   ·split
    ·rw[dB,List.length_dropLast,qX];lia
    ·simp
   ·simp
  rw[mS];lia
class inductive CZ
 | mk (r:Addr) (aN:List aQ) (_:vs=[.ref r]) (_:bK H (.ref r) aN) (_:aN.length<=1000000) (_ :
 ∀ (o:Addr) (H':Hp),bK H' (.ref o) (HH aN)->aI H H'->H o=none->Q (.ref o) H')
theorem nM:aF ["items","told","item"] ["items"] (az oK):=eS
theorem gZ:‹(2,22,["items"],CZ)›:=λD=>by
 specialize eU D.KQ.F nM;obtain⟨r,aN,rfl,⟨a,Pr,e,hr1,tU⟩,dI,k⟩:=h;cases e;refine⟨_,(aj (aX (i:=1) nM.nd (bM ah)) (aj (d9 PassesOwn.never rfl (cJ (pv 0)) (b9 (i:=2) nM.nd) (au (bN (PW.pt (qm (lQ (pv 1) (λ_=>rfl)) (oA (gw (aC D.Yz (HG D) hr (aa (aO bu (pv 1) (gB eL ay)) (aa (pv 2) ah))))))) (au (lP (cW (aa bC (aa (aO br (aO bu (pv 1) (gB eL ay)) ay) (aa (aO br (pv 2) ay) ah)))) (oE (pv 1) (gB eL ay) jm))) (au (bg (dM pW jN jO bS (pv 1) (aa (pv 2) ah))))))) (au (aG (pv 1))))),?_⟩;refine⟨iP,λq hq=>?_⟩;have s0:aI H (aP H q (.lst [])):=ak hq _;refine⟨Y,r,rfl,⟨_,bI.of (s0 _ _ hr1)⟩,dN (K:=K) (a:=r) (xs:=Pr) (λi σ H2=>∃ (vs:List V) (u:Option V),σ=[some (.ref r),some (.ref q),u]/\H2 q=some (.lst vs)/\bX (cP H2) vs ((aN.take i).foldl bT [])/\aI H H2) ⟨[],none,rfl,af,.nil,s0⟩ (by rintro i σ H2 _ ⟨_,_,_,_,_,s⟩;exact bI.of (s _ _ hr1)) ?_ ?_⟩
 ·rintro i x σ H2 hi ⟨vs,u,rfl,d8,hb,s⟩;obtain⟨it,ei,hiv⟩:=tU.get hi;have hx2:=hiv.same s;have step:(aN.take (i+1)).foldl bT []=bT ((aN.take i).foldl bT []) it:=by rw[take_snoc ei,List.foldl_append];rfl
  have bl:vs.length<sizeLine:=by
   have z:=hb.len;have z2:=HJ (aN.take i) [];rw[gF,rL]at z2;exact aS ∅
  have app:bT ((aN.take i).foldl bT []) it=(aN.take i).foldl bT []++[it]->∃ (CL:List V) (u':Option V),[some (V.ref r),some (.ref q),some x]=[some (.ref r),some (.ref q),u']/\(aP H2 q (.lst (vs++[x]))) q=some (.lst CL)/\bX (cP (aP H2 q (.lst (vs++[x])))) CL ((aN.take (i+1)).foldl bT [])/\aI H (aP H2 q (.lst (vs++[x]))):=λe=>by
   refine⟨P,rfl,af,?_,bP hq s (aJ q _ _)⟩;rw[step,e];exact bX.snoc (hb.mono λv i h=>h.keep d8 (aJ q _ _)) (hx2.keep d8 (aJ q _ _))
  rcases oz ((aN.take i).foldl bT []) with hn|⟨t0,l0,hn⟩
  ·have hvs:vs=[]:=by
    rw[hn]at hb;exact List.eq_nil_of_length_eq_zero hb.len
   subst hvs;refine⟨Y,false,.inl ⟨_,bI.of d8,rfl⟩,d7 (d7 ?_)⟩;refine⟨Y,.inl ⟨rfl,_,bI.of d8⟩,Y,q,Z,d8,bl,app ?_⟩;rw[hn];rfl
  ·rw[mT]at hn;have hb':=hb;rw[hn]at hb';obtain⟨us,v0,rfl,hb0,hv0⟩:=hb'.split;obtain⟨a0,rfl,JG⟩:=id hv0;refine⟨Y,true,.inl ⟨_,bI.of d8,by simp⟩,jr ?_⟩;exists Y,Y,q,K,V,bI.of d8,fG _ _,Y,P,l0,it,rfl,hv0,hx2,Y
   cases l0 with
   | win n =>
    refine d7 ?_;refine⟨Y,.inl ⟨rfl,_,bI.of d8⟩,Y,q,Z,d8,bl,app ?_⟩;rw[hn];unfold bT;rw[rJ]
   | aK p1 p2 =>
    cases it with
    | win n =>
     refine d7 ?_;refine⟨Y,.inl ⟨rfl,_,bI.of d8⟩,Y,q,Z,d8,bl,app ?_⟩;rw[hn];unfold bT;rw[rJ]
    | aK c d =>
     refine cX (λz=>?_) (λz=>?_)
     ·have e2:p2=c:=of_decide_eq_true z;obtain⟨ax,rfl,hax⟩:=id hx2;refine⟨Y,Y,q,K,V,bI.of d8,fG _ _,a0,K,V,dH.of JG,rfl,Y,ax,K,V,dH.of hax,rfl,Hs,λt ht=>?_⟩;refine⟨Y,Y,q,P,us.length,V,ak ht _ _ _ d8,(by rw[dB];exact yU _),?_⟩;rw[yV];refine⟨P,rfl,af,?_,bP hq (s.trans (ak ht _)) (aJ q _ _)⟩
      have e3:(aN.take (i+1)).foldl bT []=t0++[.aK p1 d]:=by
       rw[step,hn];unfold bT;rw[rJ,List.dropLast_concat];show (if p2=c then t0++[aQ.aK p1 d] else _)=_;rw[if_pos e2]
      rw[e3];exact bX.new (it:=.aK p1 d) d8 hb0 ht _
     ·have e2:¬ p2=c:=λw=>z (decide_eq_true w);refine⟨Y,.inl ⟨rfl,_,bI.of d8⟩,Y,q,Z,d8,bl,app ?_⟩;rw[hn];unfold bT;rw[rJ];show (if p2=c then _ else t0++[aQ.aK p1 p2]++[aQ.aK c d])=_;rw[if_neg e2]
 ·rintro σ H2 ⟨vs,u,rfl,d8,hb,s⟩;rw[tU.len,gR]at hb;exact⟨Y,k q H2 ⟨q,vs,rfl,d8,hb⟩ s hq⟩
def cK(r:Row):List aQ:=r.map λp=>.aK p.1 p.2
class inductive Q6
 | mk (r:Addr) (row:Row) (_:vs=[.ref r]) (_:cE H r row) (_:row.length<=100000) (_ :
 ∀ (o:Addr) (H':Hp),bK H' (.ref o) (cK (cA row))->aI H H'->H o=none->Q (.ref o) H')
theorem Q7:aF ["row"] ["row"] (az Cv):=eS
theorem mG:‹(2,23,["row"],Q6)›:=λD=>by
 specialize eU D.EU.F Q7;obtain⟨r,row,rfl,R,dI,k⟩:=h;refine⟨_,(au (aG (gH (N:=["start","stop"]) (mD (sc:=az Cv) (NX:=["row"]) (jx:=[none,none]) rfl rfl rfl nofun nofun rfl nofun rfl nofun) rfl (cJ (aC D.dq4 (zj D) hr (aa (pv 0) ah))) (λ_ _ _ _ _ _=>(uP (n:=2) rfl (b8 (b9 (i:=0) (show List.Nodup (["start","stop"]:List Str) by decide +kernel)) (b8 (b9 (i:=1) (show List.Nodup (["start","stop"]:List Str) by decide +kernel)) gO)))) (λ_ _ _ _ _ _=>gP) (λ_ _ _ _ _ _=>(cW (aa bC (aa (pv 0) (aa (pv 1) ah)))))))),?_⟩;refine⟨Y,r,row,rfl,R,Q,λq H1 R1 s1 hq=>?_⟩;obtain⟨as,h1,p1⟩:=id R1;have pl:=lJ row;refine⟨q,rfl,⟨_,bI.of h1⟩,λacc cS=>gG (K:=K) (a:=q) (xs:=as.map V.ref) (λi σ H2=>∃ (u v:Option V) (vs:List V),σ=[u,v]/\H2 acc=some (.lst vs)/\bX (cP H2) vs (cK ((cA row).take i))/\aI H1 H2) ⟨none,none,[],rfl,af,.nil,ak cS _⟩ (by rintro i σ H2 _ ⟨_,_,_,_,_,_,s⟩;exact bI.of (s _ _ h1)) ?_ ?_⟩
 ·rintro i x σ H2 hi ⟨u,v,vs,rfl,ha,t2,s⟩;rw[gE]at hi;obtain⟨a,ea,rfl⟩:=Option.map_eq_some_iff.mp hi;obtain⟨⟨st,en⟩,ep,hpa⟩:=p1.get ea;have bl:=t2.len;unfold cK at bl;rw[cG,gF]at bl;refine⟨a,Y,dH.of (s _ _ hpa),rfl,P,rfl,Z,yes (jr ?_)⟩;refine⟨Y,Y,Hs,λt ht=>?_⟩;refine⟨vs,ak ht _ _ _ ha,aS ∅,K,rfl,af,?_,bP cS (s.trans (ak ht _)) (aJ acc _ _)⟩
  have e:cK ((cA row).take (i+1))=cK ((cA row).take i)++[.aK st en]:=by
   rw[take_snoc ep];unfold cK;rw[gJ];rfl
  rw[e];exact bX.new (it:=.aK st en) ha t2 ht _
 ·rintro σ H2 ⟨u,v,vs,rfl,ha,t2,s⟩;rw[cG,p1.len,gR]at t2;refine k acc H2 ⟨acc,vs,rfl,ha,t2⟩ (s1.trans s) ?_
  cases e:H acc with
  | none=>rfl
  | some o=>exact absurd ((s1 _ _ e).symm.trans cS) (by simp)
def fN:aQ->List Int
 | .win n=>[-1-n]
 | .aK a b=>run a (b-a).toNat
def dz(aN:List aQ):List Int:=aN.flatMap fN
def kY:aQ->Prop
 | .win n=>0<=n
 | .aK a b=>0<=a/\a<b
def fT(aN:List aQ):Prop:=∀ it∈aN,kY it
theorem fC(a b:List aQ):dz (a++b)=dz a++dz b:=by unfold dz;rw[List.flatMap_append]
theorem j8(a:aQ):dz [a]=fN a:=by simp[dz]
theorem fT.append{a b:List aQ}(h:fT a)(g:fT b):fT (a++b):=λit hm=>(List.mem_append.mp hm).elim (h it) (g it)
theorem fT.one{a:aQ}(h:kY a):fT [a]:=λit hm=>by rw[List.mem_singleton.mp hm];exact h
theorem NY(t:List aQ){n:Int}(h:0<=n):bq t (-1-n)=t++[.win n]:=by
 unfold bq;rw[if_pos ∅];congr 3;lia
theorem Lh(t:List aQ)(p s:Int)(h:0<=s):bq (t++[.aK p s]) s=t++[.aK p (s+1)]:=by
 unfold bq;rw[if_neg ∅,rJ];show (if s=s then (t++[aQ.aK p s]).dropLast++[.aK p (s+1)] else _)=_;rw[if_pos rfl,List.dropLast_concat]
theorem BR(t:List aQ)(p:Int):∀ (n:Nat) (s:Int),0<=s->(run s n).foldl bq (t++[.aK p s])=t++[.aK p (s+n)]
 | 0,s,_=>by simp[run]
 | n+1,s,h=>by
  rw[run,lO,Lh t p s h,BR t p n (s+1) ∅];congr 3;lia
theorem HK(t:List aQ)(it:aQ)(h:kY it):bT t it=(fN it).foldl bq t:=by
 cases it with
 | win n =>
  show bT t (.win n)=bq t (-1-n);rw[NY t h];unfold bT
  cases t.getLast? with
  | none=>rfl
  | some l=>cases l <;> rfl
 | aK a b =>
  obtain⟨a0,ab⟩:=h;have e:(b-a).toNat=(b-(a+1)).toNat+1:=by lia
  show bT t (.aK a b)=(run a (b-a).toNat).foldl bq t;rw[e,run,lO]
  have kq:∀ (u:List aQ) (p:Int),(run (a+1) (b-(a+1)).toNat).foldl bq (u++[.aK p (a+1)])=u++[.aK p b]:=λu p=>by
   rw[BR u p _ _ ∅];congr 3;lia
  unfold bT bq;rw[if_neg ∅]
  cases t.getLast? with
  | none=>exact (kq t a).symm
  | some l =>
   cases l with
   | win n=>exact (kq t a).symm
   | aK p q =>
    show (if q=a then t.dropLast++[aQ.aK p b] else t++[aQ.aK a b])=List.foldl bq (if q=a then t.dropLast++[aQ.aK p (a+1)] else t++[aQ.aK a (a+1)]) _;by_cases c:q=a
    ·rw[if_pos c,if_pos c,kq]
    ·rw[if_neg c,if_neg c,kq]
theorem kg(aN:List aQ)(h:fT aN):HH aN=aH (dz aN):=by
 unfold HH aH dz;rw[mj]
 have z:∀ (aN:List aQ) (t:List aQ),fT aN->aN.foldl bT t=aN.foldl (λc a=>(fN a).foldl bq c) t:=by
  intro aN
  induction aN with
  | nil=>intro t _;rfl
  | cons it aN ih =>
   intro t h;rw[lO,lO,HK t it (h it (by simp))];exact ih _ λi hi=>h i (nQ _ hi)
 exact z aN [] h
theorem Li(t:List aQ)(e:Int)(h:fT t):dz (bq t e)=dz t++[e]/\fT (bq t e):=by
 unfold bq;by_cases c:e<0
 ·rw[if_pos c,fC,j8];refine⟨?_,h.append (fT.one (by show 0<=-1-e;lia))⟩;show dz t++[-1-(-1-e)]=_;rw[show -1-(-1-e)=e by lia]
 ·rw[if_neg c]
  have pl:dz (t++[.aK e (e+1)])=dz t++[e]/\fT (t++[.aK e (e+1)]):=by
   refine⟨?_,h.append (fT.one ⟨Q,Q⟩)⟩;rw[fC,j8];show _++run e (e+1-e).toNat=_;rw[show (e+1-e).toNat=1 by lia];rfl
  rcases oz t with rfl|⟨t',l,rfl⟩
  ·exact pl
  ·rw[mT]at h pl ⊢;rw[rJ]
   cases l with
   | win n=>exact pl
   | aK a b =>
    show dz (if b=e then (t'++[aQ.aK a b]).dropLast++[.aK a (e+1)] else (t'++[aQ.aK a b])++[.aK e (e+1)])=_/\fT (if b=e then (t'++[aQ.aK a b]).dropLast++[.aK a (e+1)] else (t'++[aQ.aK a b])++[.aK e (e+1)]);by_cases hb:b=e
    ·subst hb;obtain⟨a0,ab⟩:0<=a/\a<b:=h (.aK a b) (by simp);rw[if_pos rfl,List.dropLast_concat];refine⟨?_,fT.append (λi hi=>h i (sO _ hi)) (fT.one ⟨a0,Q⟩)⟩;rw[fC,fC,j8,j8,mU];congr 1;show run a (b+1-a).toNat=run a (b-a).toNat++[b];rw[show (b+1-a).toNat=(b-a).toNat+1 by lia,uM];congr 2;lia
    ·rw[if_neg hb];exact pl
theorem mH(es:List Int):dz (aH es)=es/\fT (aH es):=by
 have z:∀ (es:List Int) (t:List aQ),fT t->dz (es.foldl bq t)=dz t++es/\fT (es.foldl bq t):=by
  intro es
  induction es with
  | nil=>intro t h;exact⟨by simp,h⟩
  | cons e es ih =>
   intro t h;obtain⟨h1,h2⟩:=Li t e h;obtain⟨h3,h4⟩:=ih _ h2;exact⟨by rw[lO,h3,h1,mU];rfl,h4⟩
 obtain⟨h1,h2⟩:=z es [] (λi hi=>by cases hi);exact⟨by unfold aH;rw[h1];rfl,h2⟩
theorem nZ(r:Row):dz (cK r)=bO r:=by
 unfold dz cK bO;rw[List.flatMap_map];rfl
theorem uZ{r:Row}(h:jy r):fT (cK r):=by
 intro it hm;unfold cK at hm;obtain⟨p,hp,rfl⟩:=List.mem_map.mp hm;exact h p hp
theorem Lj{ns:List Int}(h:∀ x∈ns,0<=x):cK (cM ns)=aH ns:=by
 have z:∀ (ns:List Int) (t:Row),(∀ x∈ns,0<=x)->cK (ns.foldl (λt n=>iM t n (n+1)) t)=ns.foldl bq (cK t):=by
  intro ns
  induction ns with
  | nil=>intro t _;rfl
  | cons n ns ih =>
   intro t h;rw[lO,lO,ih _ λx hx=>h x (nQ _ hx)];congr 1;have n0:=h n (by simp);unfold iM bq;rw[if_neg ∅];rcases oz t with rfl|⟨t',l,rfl⟩
   ·rfl
   ·rw[mT,rJ];have e:(cK (t'++[l])).getLast?=some (.aK l.1 l.2):=by unfold cK;rw[gJ];exact rJ
    rw[e];show cK (if l.2=n then (t'++[l]).dropLast++[(l.1,n+1)] else t'++[l]++[(n,n+1)])=if l.2=n then (cK (t'++[l])).dropLast++[.aK l.1 (n+1)] else cK (t'++[l])++[.aK n (n+1)];by_cases c:l.2=n
    ·rw[if_pos c,if_pos c,List.dropLast_concat];unfold cK;rw[gJ,gJ];simp
    ·rw[if_neg c,if_neg c];unfold cK;rw[gJ];rfl
 exact z ns [] h
abbrev mW:=aQ × Row × Int × Int
def cU(sh:Int->List Int)(it:aQ):Row:=pQ (λn=>cM (sh n)) it
def bW(sh:Int->List Int):Int->List aQ->List mW
 | _,[]=>[]
 | f,it::r=>(it,cU sh it,f,f+i6 (cU sh it))::bW sh (f+i6 (cU sh it)) r
theorem u7(sh:Int->List Int)(b:List aQ):∀ (a:List aQ) (f:Int),bW sh f (a++b)=bW sh f a++bW sh (f+i6 (bH sh a)) b
 | [],f=>by simp[bW,bH,i6]
 | it::a,f=>by
  rw[List.cons_append,bW,bW,u7 sh b a,List.cons_append];have e:bH sh (it::a)=cU sh it++bH sh a:=by unfold bH;rw[ji];rfl
  rw[e,yT,Int.add_assoc]
theorem BS(sh:Int->List Int):∀ (a:List aQ) (f:Int),(bW sh f a).length=a.length
 | [],_=>rfl
 | _::a,f=>by rw[bW,mS,mS,BS sh a]
def mJ(N:Addr->Prop)(H:Hp)(v:V)(d:mW):Prop:=∃ (a ra:Addr) (x:V),v=.ref a/\H a=some (.tup [x,.ref ra,.int d.2.2.1,.int d.2.2.2])/\cP H x d.1/\cE H ra d.2.1/\N ra
theorem mJ.same{N:Addr->Prop}{H H':Hp}{v:V}{d:mW}(s:aI H H'):mJ N H v d->mJ N H' v d:=λ⟨a,ra,x,e,h,i,r,n⟩=>⟨a,ra,x,e,s _ _ h,i.same s,r.same s,n⟩
theorem mJ.keep{N:Addr->Prop}{H H':Hp}{v:V}{d:mW}{q:Addr}{xs:List V}(hq:H q=some (.lst xs))(nq:∀ a,N a->a≠q)(k:cH q H H'):mJ N H v d->mJ N H' v d:=λ⟨a,ra,x,e,h,i,r,n⟩=>⟨a,ra,x,e,k a _ h (by
 intro z;rw[z,hq]at h
 cases h),i.keep hq k,r.keep hq (nq ra n) k,n⟩
def vZ(H:Hp)(kvs:List (fj × V))(sh:Int->List Int)(aN:List aQ):Prop:=∀ n,aQ.win n∈aN->∃ a,cI kvs (Sum.inl n)=some (.ref a)/\cE H a (cM (sh n))
theorem vZ.same{H H':Hp}{kvs:List (fj × V)}{sh:Int->List Int}{aN:List aQ}(s:aI H H')(h:vZ H kvs sh aN):vZ H' kvs sh aN:=λn hn=>by
 obtain⟨a,e,r⟩:=h n hn;exact⟨a,e,r.same s⟩
def aD(p:Int)(d:mW):List aQ:=if d.2.2.2<=p then [d.1] else if p<=d.2.2.1 then [] else cK (cA (ku 0 (p-d.2.2.1) 0 d.2.1))
def bD(p:Int)(d:mW):List aQ:=if d.2.2.2<=p then [] else if p<=d.2.2.1 then [d.1] else cK (cA (ku (p-d.2.2.1) (d.2.2.2-d.2.2.1) 0 d.2.1))
def aE(sh:Int->List Int)(p:Int):Int->List Int->List Int
 | _,[]=>[]
 | f,e::r=>(if f+(aW sh e).length<=p then [e] else if p<=f then [] else (aW sh e).take (p-f).toNat)++aE sh p (f+(aW sh e).length) r
def bE(sh:Int->List Int)(p:Int):Int->List Int->List Int
 | _,[]=>[]
 | f,e::r=>(if f+(aW sh e).length<=p then [] else if p<=f then [e] else (aW sh e).drop (p-f).toNat)++bE sh p (f+(aW sh e).length) r
theorem bZ(sh:Int->List Int)(e:Int)(r:List Int):aR sh (e::r)=aW sh e++aR sh r:=by unfold aR;rw[ji]
theorem jA(sh:Int->List Int)(a b:List Int):aR sh (a++b)=aR sh a++aR sh b:=by unfold aR;rw[List.flatMap_append]
theorem v7(sh:Int->List Int)(p:Int)(y:List Int):∀ (x:List Int) (f:Int),aE sh p f (x++y)=aE sh p f x++aE sh p (f+(aR sh x).length) y
 | [],f=>by simp[aE,aR]
 | e::x,f=>by
  rw[List.cons_append,aE,aE,v7 sh p y x,mU,bZ,dB,Int.add_assoc]
  push_cast
  rfl
theorem v8(sh:Int->List Int)(p:Int)(y:List Int):∀ (x:List Int) (f:Int),bE sh p f (x++y)=bE sh p f x++bE sh p (f+(aR sh x).length) y
 | [],f=>by simp[bE,aR]
 | e::x,f=>by
  rw[List.cons_append,bE,bE,v8 sh p y x,mU,bZ,dB,Int.add_assoc]
  push_cast
  rfl
theorem rB(sh:Int->List Int){e:Int}(h:0<=e):aW sh e=[e]:=by unfold aW;rw[if_neg ∅]
theorem lK(sh:Int->List Int):∀ (n:Nat) (a:Int),0<=a->aR sh (run a n)=run a n
 | 0,_,_=>rfl
 | n+1,a,h=>by rw[run,bZ,rB sh h,lK sh n (a+1) ∅];rfl
theorem NZ(sh:Int->List Int)(p:Int):∀ (n:Nat) (a f:Int),0<=a->aE sh p f (run a n)=(run a n).take (p-f).toNat
 | 0,_,_,_=>by simp[run,aE]
 | n+1,a,f,h=>by
  rw[run,aE,NZ sh p n (a+1) _ ∅,rB sh h];show (if f+1<=p then [a] else if p<=f then [] else _)++(run (a+1) n).take (p-(f+1)).toNat=_;by_cases c:f+1<=p
  ·rw[if_pos c,show (p-f).toNat=(p-(f+1)).toNat+1 by lia];rfl
  ·rw[if_neg c,if_pos ∅,show (p-f).toNat=0 by lia,show (p-(f+1)).toNat=0 by lia];rfl
theorem N1(sh:Int->List Int)(p:Int):∀ (n:Nat) (a f:Int),0<=a->bE sh p f (run a n)=(run a n).drop (p-f).toNat
 | 0,_,_,_=>by simp[run,bE]
 | n+1,a,f,h=>by
  rw[run,bE,N1 sh p n (a+1) _ ∅,rB sh h];show (if f+1<=p then [] else if p<=f then [a] else _)++(run (a+1) n).drop (p-(f+1)).toNat=_;by_cases c:f+1<=p
  ·rw[if_pos c,show (p-f).toNat=(p-(f+1)).toNat+1 by lia];rfl
  ·rw[if_neg c,if_pos ∅,show (p-f).toNat=0 by lia,show (p-(f+1)).toNat=0 by lia];rfl
theorem N3(sh:Int->List Int){n:Int}(h:0<=n):aW sh (-1-n)=sh n:=by
 unfold aW;rw[if_pos ∅,show -1-(-1-n)=n by lia]
theorem u9(sh:Int->List Int)(it:aQ)(h:kY it):∀ q∈cU sh it,q.1<=q.2:=by
 cases it with
 | win n=>exact mq _
 | aK a b =>
  intro q hq;have:q=(a,b):=by simpa [cU,pQ] using hq
  subst this;have:=h.2;show a<=b;lia
theorem jS(sh:Int->List Int)(it:aQ)(h:kY it):bO (cU sh it)=aR sh (fN it):=by
 cases it with
 | win n =>
  show bO (cM (sh n))=aR sh [-1-n];rw[eN,bZ,N3 sh h];simp[aR]
 | aK a b =>
  show bO [(a,b)]=aR sh (run a (b-a).toNat);rw[gx,lK sh _ _ h.1];rfl
theorem ki(sh:Int->List Int)(it:aQ)(h:kY it):i6 (cU sh it)=(aR sh (fN it)).length:=by
 rw[← jS sh it h,rf _ (u9 sh it h)]
theorem ZA(sh:Int->List Int)(p f:Int)(it:aQ)(h:kY it):dz (aD p (it,cU sh it,f,f+i6 (cU sh it)))=aE sh p f (fN it):=by
 have tt:=ki sh it h
 have sp:dz (cK (cA (ku 0 (p-f) 0 (cU sh it))))=(aR sh (fN it)).take (p-f).toNat:=by
  rw[nZ,pD _ _ _ (u9 sh it h),jS sh it h];rfl
 unfold aD;show dz (if f+i6 (cU sh it)<=p then [it] else if p<=f then [] else cK (cA (ku 0 (p-f) 0 (cU sh it))))=_;rw[tt]
 cases it with
 | win n =>
  have e1:aR sh (fN (.win n))=aW sh (-1-n):=by show aR sh [-1-n]=_;rw[bZ];simp[aR]
  rw[e1]at sp ⊢;show _=aE sh p f [-1-n];rw[aE,aE,gT];split
  ·rfl
  ·split
   ·rfl
   ·exact sp
 | aK a b =>
  have e1:aR sh (fN (.aK a b))=run a (b-a).toNat:=lK sh _ _ h.1;rw[e1]at sp ⊢;show _=aE sh p f (run a (b-a).toNat);rw[NZ sh p _ _ _ h.1];have rl:=fF a (b-a).toNat;split
  ·rename_i c;rw[j8,uA ∅];rfl
  ·split
   ·rename_i c;rw[show (p-f).toNat=0 by lia];rfl
   ·exact sp
theorem ZC(sh:Int->List Int)(p f:Int)(it:aQ)(h:kY it):dz (bD p (it,cU sh it,f,f+i6 (cU sh it)))=bE sh p f (fN it):=by
 have tt:=ki sh it h
 have sp:dz (cK (cA (ku (p-f) (f+i6 (cU sh it)-f) 0 (cU sh it))))=(aR sh (fN it)).drop (p-f).toNat:=by
  rw[nZ,pD _ _ _ (u9 sh it h),jS sh it h,uA (by rw[tt];lia)]
 unfold bD;show dz (if f+i6 (cU sh it)<=p then [] else if p<=f then [it] else cK (cA (ku (p-f) (f+i6 (cU sh it)-f) 0 (cU sh it))))=_;have c1:(f+i6 (cU sh it)<=p)=(f+(aR sh (fN it)).length<=p):=by rw[tt]
 simp only[c1]
 cases it with
 | win n =>
  have e1:aR sh (fN (.win n))=aW sh (-1-n):=by show aR sh [-1-n]=_;rw[bZ];simp[aR]
  rw[e1]at sp ⊢;show _=bE sh p f [-1-n];rw[bE,bE,gT];split
  ·rfl
  ·split
   ·rfl
   ·exact sp
 | aK a b =>
  have e1:aR sh (fN (.aK a b))=run a (b-a).toNat:=lK sh _ _ h.1;rw[e1]at sp ⊢;show _=bE sh p f (run a (b-a).toNat);rw[N1 sh p _ _ _ h.1];have rl:=fF a (b-a).toNat;split
  ·rename_i c;rw[yv ∅];rfl
  ·split
   ·rename_i c;rw[j8,show (p-f).toNat=0 by lia];rfl
   ·exact sp
theorem E4(sh:Int->List Int)(p:Int):∀ (aN:List aQ) (f:Int),fT aN->dz ((bW sh f aN).flatMap (aD p))=aE sh p f (dz aN)
 | [],f,_=>rfl
 | it::r,f,h=>by
  have h1:=h it (by simp);rw[bW,ji,fC,ZA sh p f it h1,E4 sh p r _ λi hi=>h i (nQ _ hi)];have e:dz (it::r)=fN it++dz r:=by unfold dz;rw[ji]
  rw[e,v7,ki sh it h1]
theorem BU(sh:Int->List Int)(p:Int):∀ (aN:List aQ) (f:Int),fT aN->dz ((bW sh f aN).flatMap (bD p))=bE sh p f (dz aN)
 | [],f,_=>rfl
 | it::r,f,h=>by
  have h1:=h it (by simp);rw[bW,ji,fC,ZC sh p f it h1,BU sh p r _ λi hi=>h i (nQ _ hi)];have e:dz (it::r)=fN it++dz r:=by unfold dz;rw[ji]
  rw[e,v8,ki sh it h1]
def Q8(sh:Int->List Int)(aN:List aQ):Prop:=∀ n,aQ.win n∈aN->∀ x∈sh n,0<=x
theorem Q9(sh:Int->List Int)(it:aQ)(h:kY it)(g:∀ n,it=.win n->∀ x∈sh n,0<=x):kX (cU sh it):=by
 cases it with
 | win n=>exact (BK (g n rfl)).nn
 | aK a b =>
  intro q hq;have:q=(a,b):=by simpa [cU,pQ] using hq
  subst this;exact⟨h.1,by have:=h.2;show a<=b;lia⟩
theorem yt(sh:Int->List Int):∀ (aN:List aQ) (f:Int),fT aN->Q8 sh aN->∀ d∈bW sh f aN,kY d.1/\kX d.2.1
 | [],_,_,_=>λd hd=>by cases hd
 | it::r,f,h,g=>by
  intro d hd;rw[bW]at hd;rcases List.mem_cons.mp hd with rfl|z
  ·exact⟨h it (by simp),Q9 sh it (h it (by simp)) λn e=>g n (by rw[e];simp)⟩
  ·exact yt sh r _ (λi hi=>h i (nQ _ hi)) (λn hn=>g n (nQ _ hn)) d z
theorem zu{a b:Int}{r:Row}(h:kX r):fT (cK (cA (ku a b 0 r))):=uZ (nX (zg a b r 0 h))
theorem ZD{p:Int}{d:mW}(h:kY d.1)(g:kX d.2.1):fT (aD p d):=by
 unfold aD;split
 ·exact fT.one h
 ·split
  ·exact λi hi=>by cases hi
  ·exact zu g
theorem ZE{p:Int}{d:mW}(h:kY d.1)(g:kX d.2.1):fT (bD p d):=by
 unfold bD;split
 ·exact λi hi=>by cases hi
 ·split
  ·exact fT.one h
  ·exact zu g
theorem vc{g:mW->List aQ}{l:List mW}(h:∀ d∈l,fT (g d)):fT (l.flatMap g):=λit hm=>by
 obtain⟨d,hd,hm⟩:=List.mem_flatMap.mp hm;exact h d hd it hm
theorem yu(r:Row):(cK r).length=r.length:=by unfold cK;rw[cG]
theorem rC(a b:Int)(r:Row):(cK (cA (ku a b 0 r))).length<=r.length:=by
 rw[yu];exact iI (lJ _) (jR a b r 0)
theorem zw(sh:Int->List Int){g:mW->List aQ}(hg:∀ d,(g d).length<=d.2.1.length+1):∀ (aN:List aQ) (f:Int),((bW sh f aN).flatMap g).length<=(bH sh aN).length+aN.length
 | [],_=>by simp[bW]
 | it::r,f=>by
  rw[bW,ji,dB];have a:=hg (it,cU sh it,f,f+i6 (cU sh it));have b:=zw sh hg r (f+i6 (cU sh it));have e:bH sh (it::r)=cU sh it++bH sh r:=by unfold bH;rw[ji];rfl
  rw[e,dB,mS];simp only at a;lia
theorem VA(p:Int)(d:mW):(aD p d).length<=d.2.1.length+1:=by
 unfold aD;split
 ·simp
 ·split
  ·simp
  ·exact iI (rC _ _ _) ∅
theorem VB(p:Int)(d:mW):(bD p d).length<=d.2.1.length+1:=by
 unfold bD;split
 ·simp
 ·split
  ·simp
  ·exact iI (rC _ _ _) ∅
theorem iE{α β:Type}(g:α->List β)(l:List α)(i:Nat):((l.take i).flatMap g).length<=(l.flatMap g).length:=by
 have e:l.flatMap g=(l.take i).flatMap g++(l.drop i).flatMap g:=by rw[← List.flatMap_append,List.take_append_drop]
 rw[e,dB];lia
theorem rD{α β:Type}(g:α->List β){l:List α}{i:Nat}{a:α}(h:l[i]?=some a):(l.take (i+1)).flatMap g=(l.take i).flatMap g++g a:=by
 rw[take_snoc h,List.flatMap_append];simp
theorem vd(sh:Int->List Int){aN:List aQ}{it:aQ}(h:it∈aN):(cU sh it).length<=(bH sh aN).length:=by
 obtain⟨a,b,rfl⟩:=List.append_of_mem h;rw[eG];have e:bH sh (it::b)=cU sh it++bH sh b:=by unfold bH;rw[ji];rfl
 rw[e,dB,dB];lia
def JI(A B:Addr)(H H':Hp):Prop:=∀ a o,H a=some o->a≠A->a≠B->H' a=some o
theorem JI.tup{A B:Addr}{H H':Hp}{xs ys:List V}(k:JI A B H H')(hA:H A=some (.lst xs))(hB:H B=some (.lst ys)):∀ a zs,H a=some (.tup zs)->H' a=some (.tup zs):=λa zs h=>k a _ h (λz=>by
 rw[z,hA]at h;cases h) (λz=>by
 rw[z,hB]at h
 cases h)
theorem cP.tups{H H':Hp}{v:V}{it:aQ}(t:∀ a xs,H a=some (.tup xs)->H' a=some (.tup xs)):cP H v it->cP H' v it:=λ⟨a,e,h⟩=>⟨a,e,t a _ h⟩
theorem mJ.Tf{N:Addr->Prop}{A B:Addr}{H H':Hp}{v:V}{d:mW}{xs ys:List V}(hA:H A=some (.lst xs))(hB:H B=some (.lst ys))(n:∀ a,N a->a≠A/\a≠B)(k:JI A B H H'):mJ N H v d->mJ N H' v d:=λ⟨a,ra,x,e,h,i,⟨as,hr,hp⟩,hn⟩ =>
 ⟨a,ra,x,e,k.tup hA hB _ _ h,i.tups (k.tup hA hB),⟨as,k _ _ hr (n ra hn).1 (n ra hn).2,hp.tups (k.tup hA hB)⟩,hn⟩
theorem bX.app{α β:Type}{R:α->β->Prop}{as cs:List α}{bs ds:List β}(h:bX R as bs)(t:bX R cs ds):bX R (as++cs) (bs++ds):=by
 induction h with
 | nil=>exact t
 | cons e _ ih=>exact .cons e ih
structure kZ(H1:Hp)(A B:Addr)(l1 l2:List aQ)(H2:Hp):Prop where
 a:∃ vs,H2 A=some (.lst vs)/\bX (cP H2) vs l1
 b:∃ vs,H2 B=some (.lst vs)/\bX (cP H2) vs l2
 k:JI A B H1 H2
theorem kZ.same{H1 H2 H3:Hp}{A B:Addr}{l1 l2:List aQ}(p:kZ H1 A B l1 l2 H2)(s:aI H2 H3):kZ H1 A B l1 l2 H3:=by
 obtain⟨⟨v1,h1,t1⟩,⟨v2,h2,t2⟩,k⟩:=p;exact⟨⟨v1,s _ _ h1,t1.mono λ_ _ h=>h.same s⟩,⟨v2,s _ _ h2,t2.mono λ_ _ h=>h.same s⟩,λa o e n m=>s _ _ (k a o e n m)⟩
theorem kZ.JJ{H1 H2:Hp}{A B:Addr}{l1 l2 l3:List aQ}{v1 v3:List V}(p:kZ H1 A B l1 l2 H2)(n:A≠B)(h1:H2 A=some (.lst v1))(t3:bX (cP H2) v3 l3):kZ H1 A B (l1++l3) l2 (aP H2 A (.lst (v1++v3))):=by
 obtain⟨⟨v1',h1',t1⟩,⟨v2,h2,t2⟩,k⟩:=p;rw[h1]at h1';cases h1';have kp:∀ v i,cP H2 v i->cP (aP H2 A (.lst (v1++v3))) v i:=λv i h=>h.keep h1 (aJ A _ _);refine⟨⟨_,af,(t1.mono kp).app (t3.mono kp)⟩,⟨v2,by rw[aL n.symm];exact h2,t2.mono kp⟩,λa o e m1 m2=>?_⟩;rw[aL m1];exact k a o e m1 m2
theorem kZ.JK{H1 H2:Hp}{A B:Addr}{l1 l2 l3:List aQ}{v2 v3:List V}(p:kZ H1 A B l1 l2 H2)(n:A≠B)(h2:H2 B=some (.lst v2))(t3:bX (cP H2) v3 l3):kZ H1 A B l1 (l2++l3) (aP H2 B (.lst (v2++v3))):=by
 obtain⟨⟨v1,h1,t1⟩,⟨v2',h2',t2⟩,k⟩:=p;rw[h2]at h2';cases h2';have kp:∀ v i,cP H2 v i->cP (aP H2 B (.lst (v2++v3))) v i:=λv i h=>h.keep h2 (aJ B _ _);refine⟨⟨v1,by rw[aL n];exact h1,t1.mono kp⟩,⟨_,af,(t2.mono kp).app (t3.mono kp)⟩,λa o e m1 m2=>?_⟩;rw[aL m2];exact k a o e m1 m2
theorem n8{rows:cR}{sh:Int->List Int}(oq:gr rows)(vY:BI rows)(wY:mF rows sh):∀ x:Int,0<=x->x<rows.length->∀ y∈sh x,0<=y:=by
 obtain⟨rk,hb,hd⟩:=vY
 have key:∀ (k:Nat) (x:Int),rk x<k->0<=x->x<rows.length->∀ y∈sh x,0<=y:=by
  intro k
  induction k with
  | zero=>intro x h;lia
  | succ k ih =>
   intro x hx x0 x1 y hy;have he:rows[x.toNat]?=some rows[x.toNat]:=uz ∅;rw[wY x _ x0 he]at hy;unfold aR at hy;obtain⟨e,hm,hy⟩:=List.mem_flatMap.mp hy;unfold aW at hy;by_cases c:e<0
   ·rw[if_pos c]at hy;have nx:jM rows x (-1-e):=⟨x0,_,he,cB.mpr ⟨Q,by rw[show -1-(-1-e)=e by lia];exact hm⟩⟩;obtain⟨a,b⟩:=oq.DU nx;have:=hd _ _ nx;exact ih _ ∅ a b y hy
   ·rw[if_neg c]at hy;rw[List.mem_singleton.mp hy];lia
 exact λx=>key (rk x+1) x (Nat.lt_succ_self _)
theorem rE{rows:cR}{s n:Int}{es:List Int}(h0:0<=s)(he:rows[s.toNat]?=some es)(h:aQ.win n∈aH es):jM rows s n:=by
 exists h0,es,he;rw[← iD];unfold fc;rw[List.mem_filterMap];exact⟨.win n,h,rfl⟩
structure pI(H:Hp)(r:Addr)(rows:cR)(sh:Int->List Int):Prop where
 at_:gb H r (rows.map aH)
 len:rows.length<=1000
 ents:∀ es∈rows,es.length<=1000
 snd:gr rows
 rk:BI rows
 N4:mF rows sh
 bd:∀ x:Int,0<=x->x<rows.length->(sh x).length<=10000
theorem pI.same{H H':Hp}{r:Addr}{rows:cR}{sh:Int->List Int}(s:aI H H')(h:pI H r rows sh):pI H' r rows sh:={ h with at_:=h.at_.same s }
structure ZF(H:Hp)(r:Addr)(rows:cR)(sh:Int->List Int)(s:Int)(es:List Int)(xR:List V)(b:Addr):Prop where
 he:rows[s.toNat]?=some es
 hr:H r=some (.lst xR)
 ix:pX xR s=some (.ref b)
 it:bK H (.ref b) (aH es)
 il:(aH es).length<=1000
 rl:(bH sh (aH es)).length<=10000
 tt:i6 (cM (sh s))=(sh s).length
 se:sh s=aR sh es
theorem pI.one{H:Hp}{r:Addr}{rows:cR}{sh:Int->List Int}{s:Int}(h:pI H r rows sh)(h0:0<=s)(h1:s<rows.length):∃ es xR b,ZF H r rows sh s es xR b:=by
 have ff:rows[s.toNat]?=some rows[s.toNat]:=uz ∅;obtain⟨xR,JF,uW⟩:=h.at_;obtain⟨vi,CV,hI⟩:=uW.get' (i:=s.toNat) (b:=aH rows[s.toNat]) (by rw[gE,ff];rfl);obtain⟨b,Pr,rfl,hb,tU⟩:=id hI;have z:=dD CV;rw[show ((s.toNat:Nat):Int)=s by lia]at z;have hil:=nV rows[s.toNat] [];have hel:=h.ents _ (om ff);obtain⟨Kh,hok⟩:=zq sh rows[s.toNat];have se:=h.N4 s _ h0 ff;refine⟨_,xR,b,ff,JF,z,hI,?_,?_,?_,se⟩
 ·show (rows[s.toNat].foldl bq []).length<=_;simp only[rL]at hil;lia
 ·have q:=ua sh (aH rows[s.toNat]) hok;rw[Kh,← se]at q;have:=h.bd s h0 h1;lia
 ·rw[← rf _ (mq _),eN]
theorem jT(ns:List Int):(cM ns).length<=ns.length:=by
 have z:=yY ns [];simpa [cM] using z
def fO(sh:Int->List Int)(p:Int)(es new:List Int):List Int:=if new=[] then es else aE sh p 0 es++new++bE sh p 0 es
class inductive Rc
 | mk (r S:Addr) (aN:List aQ) (kvs:List (fj × V)) (sh:Int->List Int) (N:Addr->Prop) (_:vs=[.ref r,.ref S]) (_:bK H (.ref r) aN) (_:H S=some (.dK kvs)) (_:vZ H kvs sh aN) (_:aN.length<=100000) (_:(∀ it∈aN,(cU sh it).length<=100000)) (_:(∀ n a,aQ.win n∈aN->cI kvs (Sum.inl n)=some (.ref a)->N a)) (_:(∀ a,H a=none->N a)) (_ :
 ∀ (o:Addr) (CL:List V) (H':Hp),H' o=some (.lst CL)->bX (mJ N H') CL (bW sh 0 aN)->aI H H'->H o=none->Q (.ref o) H')
theorem pJ:aF ["items","views","told","first","item","row","last"] ["items","views"] (az GZ):=eS
theorem E5:‹(2,24,["items","views"],Rc)›:=λD=>by
 specialize eU D.Vd.F pJ;obtain⟨r,S,aN,kvs,sh,N,rfl,⟨r',Pr,e,hr1,tU⟩,hS,hW,dI,hrl,nW,nN,k⟩:=h;cases e;exists _,(aj (aX (i:=2) pJ.nd (bM ah)) (aj (aX (i:=3) pJ.nd ay) (aj (d9 PassesOwn.never rfl (cJ (pv 0)) (b9 (i:=4) pJ.nd) (aj (aX (i:=5) pJ.nd (aC D.Vc (xu D) hr (aa (pv 4) (aa (pv 1) ah)))) (aj (aX (i:=6) pJ.nd (bG dh (pv 3) (fH.pG D.QN (D.T.jX _ D.QN.m) (yr D) hr (aa (pv 5) ah)))) (aj (bg (dM pW jN jO bS (pv 2) (aa (cW (aa (pv 4) (aa (pv 5) (aa (pv 3) (aa (pv 6) ah))))) ah))) (au (aX (i:=3) pJ.nd (pv 6))))))) (au (aG (pv 2))))));refine⟨iP,λq hq=>?_⟩;have s0:aI H (aP H q (.lst [])):=ak hq _;refine⟨Y,r,rfl,⟨_,bI.of (s0 _ _ hr1)⟩,dN (K:=K) (a:=r) (xs:=Pr) (λi σ H2=>∃ (vs:List V) (u1 u2 u3:Option V),σ=[some (.ref r),some (.ref S),some (.ref q),some (.int (0+i6 (bH sh (aN.take i)))),u1,u2,u3]/\H2 q=some (.lst vs)/\bX (mJ (λa=>N a/\a≠q) H2) vs (bW sh 0 (aN.take i))/\aI H H2) ⟨[],none,none,none,rfl,af,.nil,s0⟩ (by rintro i σ H2 _ ⟨_,_,_,_,_,_,_,s⟩;exact bI.of (s _ _ hr1)) ?_ ?_⟩
 ·rintro i x σ H2 hi ⟨vs,u1,u2,u3,rfl,d8,hb,s⟩;obtain⟨it,ei,hiv⟩:=tU.get hi;have im:=om ei;have bl:=hb.len;rw[BS,gF]at bl;refine⟨Y,Y,x,it,S,kvs,λn=>cM (sh n),rfl,hiv.same s,s _ _ hS,λn hn=>(hW.same s) n (by rw[← hn];exact im),λa H3 R3 s3 w3=>?_⟩
  have na:N a/\a≠q:=by
   rcases w3 with ⟨n,rfl,hv⟩|h0
   ·exists nW n a im hv;obtain⟨b,JE,⟨as,VC,_⟩⟩:=hW n im;rw[hv]at JE;cases JE;exact aA VC hq
   ·exact⟨nN a (bh s h0),(aA d8 h0).symm⟩
  refine⟨Y,Y,a,cU sh it,rfl,R3,iI (hrl it im) (by decide),λH4 s4=>⟨Z,?_⟩⟩;have Rf:=s4 _ _ (s3 _ _ d8);refine⟨Y,.inl ⟨rfl,_,bI.of Rf⟩,Y,Y,Y,Y,CO,λt ht=>?_⟩;have ZG:=ak ht (.tup [x,.ref a,.int (0+i6 (bH sh (aN.take i))),.int (0+i6 (bH sh (aN.take i))+i6 (cU sh it))]) _ _ Rf;refine⟨q,Z,ZG,aS ∅,?_⟩;refine⟨Y,_,some x,some (.ref a),some (.int (0+i6 (bH sh (aN.take i))+i6 (cU sh it))),?_,af,?_,bP hq (s.trans (s3.trans (s4.trans (ak ht _)))) (aJ q _ _)⟩
  ·have e:bH sh (aN.take (i+1))=bH sh (aN.take i)++cU sh it:=by rw[take_snoc ei,eG,jg];rfl
   rw[e,yT,← Int.add_assoc];rfl
  ·have e:bW sh 0 (aN.take (i+1))=bW sh 0 (aN.take i)++[(it,cU sh it,0+i6 (bH sh (aN.take i)),0+i6 (bH sh (aN.take i))+i6 (cU sh it))]:=by rw[take_snoc ei,u7];rfl
   rw[e];have UM:t≠q:=(aA Rf ht).symm;refine bX.snoc (hb.mono λv d h=>(((h.same s3).same s4).same (ak ht _)).keep ZG (λa h=>h.2) (aJ q _ _)) ⟨t,a,x,rfl,?_,?_,?_,na⟩
   ·rw[aL UM,af]
   ·exact ((((hiv.same s).same s3).same s4).same (ak ht _)).keep ZG (aJ q _ _)
   ·exact (((R3.same s4).same (ak ht _))).keep ZG na.2 (aJ q _ _)
 ·rintro σ H2 ⟨vs,u1,u2,u3,rfl,d8,hb,s⟩;rw[tU.len,gR]at hb;exact⟨Y,k q vs H2 d8 (hb.mono λv d ⟨a,ra,x,e,h,i,r,n⟩=>⟨a,ra,x,e,h,i,r,n.1⟩) s hq⟩
class inductive HL
 | mk (r S o:Addr) (p:Int) (aN Mb:List aQ) (kvs:List (fj × V)) (sh:Int->List Int) (_:vs=[.ref r,.ref S,.int p,.ref o]) (_:bK H (.ref r) aN) (_:H S=some (.dK kvs)) (_:vZ H kvs sh aN) (_:bK H (.ref o) Mb) (_:fT aN) (_:fT Mb) (_:Q8 sh aN) (_:aN.length<=50000) (_:(bH sh aN).length<=50000) (_:Mb.length<=50000) (_ :
 ∀ (q:Addr) (H':Hp),bK H' (.ref q) (aH (aE sh p 0 (dz aN)++dz Mb++bE sh p 0 (dz aN)))->aI H H'->H q=none->Q (.ref q) H')
theorem gf:aF ["items","views","place","others","ahead","behind","item","row","first","last"] ["items","views","place","others"] (az sW):=eS
theorem ve:‹(3,25,["items","views","place","others"],HL)›:=λD=>by
 specialize eU D.Ve.F gf;obtain⟨r,S,o,p,aN,Mb,kvs,sh,rfl,hI,hS,hW,hO,ok1,ok2,nn,l1,l2,l3,k⟩:=h;exists _,(aj (aX (i:=4) gf.nd (bM ah)) (aj (aX (i:=5) gf.nd (bM ah)) (aj (d9 PassesOwn.never rfl (cJ (aC D.Vd (E5 D) hr (aa (pv 0) (aa (pv 1) ah)))) (nj (n:=4) rfl (b8 (b9 (i:=6) gf.nd) (b8 (b9 (i:=7) gf.nd) (b8 (b9 (i:=8) gf.nd) (b8 (b9 (i:=9) gf.nd) gO))))) (au (bN (aT gp (pv 9) (pv 2) (bx _)) (au (bg (dM pW jN jO bS (pv 4) (aa (pv 6) ah)))) (au (bN (aT gp (pv 2) (pv 8) (bx _)) (au (bg (dM pW jN jO bS (pv 5) (aa (pv 6) ah)))) (aj (vE (i:=4) gf.nd rfl (Or.inl rfl) (aC D.EU (mG D) hr (aa (aC D.U7 (rA D) hr (aa (pv 7) (aa ay (aa (bG cN (pv 2) (pv 8)) ah)))) ah)) vW) (au (vE (i:=5) gf.nd rfl (Or.inl rfl) (aC D.EU (mG D) hr (aa (aC D.U7 (rA D) hr (aa (pv 7) (aa (bG cN (pv 2) (pv 8)) (aa (bG cN (pv 9) (pv 8)) ah)))) ah)) vW)))))))) (au (aG (aC D.KQ (gZ D) hr (aa (bG jo (bG jo (pv 4) (pv 3)) (pv 5)) ah)))))));refine⟨iP,λA hA=>⟨iP,λB hB=>?_⟩⟩;have sA:aI H (aP H A (.lst [])):=ak hA _;have sB:aI _ (aP (aP H A (.lst [])) B (.lst [])):=ak hB _;have s0:=sA.trans sB;have Al:A≠B:=aA af hB;have Mf:=bh sA hB;refine⟨Y,Y,r,S,aN,kvs,sh,λa=>a≠A/\a≠B,rfl,hI.same s0,s0 _ _ hS,hW.same s0,Q,(λit hi=>by have:=vd sh hi;lia),?_,?_,λD dv H1 hD Qi s1 _=>?_⟩
 ·intro n a hn hv;obtain⟨b,e,as,hb,_⟩:=hW n hn;rw[hv]at e;cases e;exact⟨aA hb hA,aA hb Mf⟩
 ·intro a ha;exact⟨(aA (sB _ _ af) ha).symm,(aA af ha).symm⟩
 have ZH:=s1 _ _ (sB _ _ (af (H:=H) (a:=A) (o:=.lst [])));have ZI:=s1 _ _ (af (H:=aP H A (.lst [])) (a:=B) (o:=.lst []))
 have nD:D≠A/\D≠B:=by
  rename_i ZJ;exact⟨(aA (sB _ _ af) ZJ).symm,(aA af ZJ).symm⟩
 have ac3:=zw sh (VA p) aN 0;have ac4:=zw sh (VB p) aN 0;have Mg:=yt sh aN 0 ok1 nn;refine⟨D,rfl,⟨_,bI.of hD⟩,dN (K:=K) (a:=D) (xs:=dv) (λi σ H2=>∃ u1 u2 u3 u4:Option V,σ=[some (.ref r),some (.ref S),some (.int p),some (.ref o),some (.ref A),some (.ref B),u1,u2,u3,u4]/\kZ H1 A B (((bW sh 0 aN).take i).flatMap (aD p)) (((bW sh 0 aN).take i).flatMap (bD p)) H2) ⟨none,none,none,none,rfl,⟨_,ZH,.nil⟩,⟨_,ZI,.nil⟩,λ_ _ e _ _=>e⟩ (by rintro i σ H2 _ ⟨_,_,_,_,_,pv⟩;exact bI.of (pv.k _ _ hD nD.1 nD.2)) ?_ ?_⟩
 ·rintro i x σ H2 hi ⟨u1,u2,u3,u4,rfl,pv⟩;obtain⟨d,ed,KI⟩:=Qi.get hi;have hd2:=KI.Tf ZH ZI (λa h=>h) pv.k;obtain⟨a,ra,xi,rfl,hta,hxi,WH,nra⟩:=hd2;have eA:=rD (aD p) ed;have eB:=rD (bD p) ed;have bA:=iE (aD p) (bW sh 0 aN) i;have bB:=iE (bD p) (bW sh 0 aN) i;have bA1:=iE (aD p) (bW sh 0 aN) (i+1);have bB1:=iE (bD p) (bW sh 0 aN) (i+1);obtain⟨v1,hv1,t1⟩:=pv.a;obtain⟨v2,hv2,t2⟩:=pv.b;have z1:=t1.len;have z2:=t2.len;obtain⟨it,row,fi,la⟩:=d
  have rl:row.length<=50000:=by
   have z:=om ed
   have:∃ Qt∈aN,row=cU sh Qt:=by
    have q:∀ (aN:List aQ) (f:Int),(it,row,fi,la)∈bW sh f aN->∃ Qt∈aN,row=cU sh Qt:=by
     intro aN
     induction aN with
     | nil=>intro f h;cases h
     | cons i0 r0 ih =>
      intro f h;rw[bW]at h;rcases List.mem_cons.mp h with e|e
      ·cases e;exact⟨it,by simp,rfl⟩
      ·obtain⟨i1,m1,e1⟩:=ih _ e;exact⟨i1,nQ _ m1,e1⟩
    exact q aN 0 z
   obtain⟨i1,m1,rfl⟩:=this;have:=vd sh m1;lia
  exists a,Y,dH.of hta,rfl,P,rfl,P,rfl,P,rfl,Z;refine⟨Y,Y,Z,Y,cX (λc=>?_) (λc=>?_)⟩
  ·have c':la<=p:=of_decide_eq_true c;refine⟨Y,.inl ⟨rfl,_,bI.of hv1⟩,Y,A,Z,hv1,aS ∅,?_⟩;exists K,Y;rw[eA,eB];have e1:aD p (it,row,fi,la)=[it]:=by unfold aD;rw[if_pos c']
   have e2:bD p (it,row,fi,la)=[]:=by unfold bD;rw[if_pos c']
   rw[e1,e2,gT];exact pv.JJ Al hv1 (.cons hxi .nil)
  ·have c':¬ la<=p:=λz=>c (decide_eq_true z);refine⟨Y,Y,Z,Y,cX (λc2=>?_) (λc2=>?_)⟩
   ·have Lk:p<=fi:=of_decide_eq_true c2;refine⟨Y,.inl ⟨rfl,_,bI.of hv2⟩,Y,B,Z,hv2,aS ∅,?_⟩;exists K,Y;rw[eA,eB];have e1:aD p (it,row,fi,la)=[]:=by unfold aD;rw[if_neg c',if_pos Lk]
    have e2:bD p (it,row,fi,la)=[it]:=by unfold bD;rw[if_neg c',if_pos Lk]
    rw[e1,e2,gT];exact pv.JK Al hv2 (.cons hxi .nil)
   ·have Lk:¬ p<=fi:=λz=>c2 (decide_eq_true z);have e1:aD p (it,row,fi,la)=cK (cA (ku 0 (p-fi) 0 row)):=by unfold aD;rw[if_neg c',if_neg Lk]
    have e2:bD p (it,row,fi,la)=cK (cA (ku (p-fi) (la-fi) 0 row)):=by unfold bD;rw[if_neg c',if_neg Lk]
    rw[eA,e1,dB]at bA1;rw[eB,e2,dB]at bB1;refine⟨Y,Y,Y,Y,Z,ra,row,0,p-fi,rfl,WH,Q,λq1 H3 R3 s3 Rg=>⟨q1,Y,R3,iI (jR _ _ _ _) ∅,λq2 H4 I4 s4 d8=>?_⟩⟩;obtain⟨q2',v3,e3,h3,t3⟩:=I4;cases e3;have z3:=t3.len;have Ll:=s4 _ _ (s3 _ _ hv1);refine⟨A,q2,Z,Ll,h3,iz (aS ∅),?_⟩;have pv5:=((pv.same s3).same s4).JJ Al Ll t3;have ada:cE (aP H4 A (.lst (v1++v3))) ra row:=((WH.same s3).same s4).keep Ll nra.1 (aJ A _ _);have adb:(aP H4 A (.lst (v1++v3))) B=some (.lst v2):=by rw[aL Al.symm];exact s4 _ _ (s3 _ _ hv2)
    refine⟨Y,Y,Y,Y,Z,Y,Y,Z,ra,row,p-fi,la-fi,rfl,ada,Q,λq3 H6 R6 s6 DV=>⟨q3,Y,R6,iI (jR _ _ _ _) ∅,λq4 H7 I7 s7 Rf=>?_⟩⟩;obtain⟨q4',v4,e4,h4,t4⟩:=I7;cases e4;have z4:=t4.len;have Tg:=s7 _ _ (s6 _ _ adb);refine⟨B,q4,Z,Tg,h4,iz (aS ∅),?_⟩;exists K,Y;rw[eA,eB,e1,e2];exact ((pv5.same s6).same s7).JK Al Tg t4
 ·rintro σ H2 ⟨u1,u2,u3,u4,rfl,pv⟩;have dl:=Qi.len;rw[dl,gR]at pv;obtain⟨v1,hv1,t1⟩:=pv.a;obtain⟨v2,hv2,t2⟩:=pv.b;have z1:=t1.len;have z2:=t2.len;have sm:aI H H2:=λa ob e=>pv.k a ob (s1 _ _ (s0 _ _ e)) (aA e hA) (aA e Mf);obtain⟨o',v3,e3,h3,t3⟩:=hO.same sm;cases e3;have z3:=t3.len;refine⟨Y,Y,A,o,Z,hv1,h3,iz (aS ∅),λc1 WC=>?_⟩;have n1:aI H2 (aP H2 c1 (.lst (v1++v3))):=ak WC _;refine⟨Y,c1,B,Z,af,n1 _ _ hv2,iz (aS (by rw[dB];lia)),λc2 VD=>?_⟩;have n2:aI _ (aP (aP H2 c1 (.lst (v1++v3))) c2 (.lst (v1++v3++v2))):=ak VD _;have UK:=n1.trans n2;refine⟨c2,Y,⟨c2,Y,af,((t1.app t3).app t2).mono λv i h=>h.same UK⟩,by rw[dB,dB];lia,λq H9 I9 s9 hq9=>?_⟩;have okA:fT ((bW sh 0 aN).flatMap (aD p)):=vc λd hd=>ZD (Mg d hd).1 (Mg d hd).2;have okB:fT ((bW sh 0 aN).flatMap (bD p)):=vc λd hd=>ZE (Mg d hd).1 (Mg d hd).2;rw[kg _ ((okA.append ok2).append okB),fC,fC,E4 sh p aN 0 ok1,BU sh p aN 0 ok1]at I9;exact k q H9 I9 (sm.trans (UK.trans s9)) (bh (sm.trans UK) hq9)
class inductive xx
 | mk (r o:Addr) (rows:cR) (s p:Int) (aN:List aQ) (sh:Int->List Int) (_:vs=[.ref r,.int s,.int p,.ref o]) (_:pI H r rows sh) (_:0<=s) (_:s<rows.length) (_:bK H (.ref o) aN) (_:fT aN) (_:aN.length<=10000) (_:0<=p/\p<=(sh s).length) (_:(∀ (es:List Int) (q:Addr) (H':Hp),rows[s.toNat]?=some es->bK H' (.ref q) (aH (fO sh p es (dz aN)))->aI H H'->H q=none->Q (.ref q) H'))
theorem N5{aN:List aQ}(h:fT aN):dz aN=[]↔aN=[]:=by
 refine⟨λe=>?_,λe=>by rw[e];rfl⟩
 cases aN with
 | nil=>rfl
 | cons it r =>
  have e1:dz (it::r)=fN it++dz r:=by unfold dz;rw[ji]
  rw[e1]at e;have e2:=(List.append_eq_nil_iff.mp e).1
  cases it with
  | win n=>cases e2
  | aK a b =>
   have ab:a<b:=(h (.aK a b) (by simp)).2;have:=fF a (b-a).toNat;have e3:run a (b-a).toNat=[]:=e2;rw[e3]at this;simp only[rL]at this;lia
theorem xy:aF ["rows","sheet","place","items","views"] ["rows","sheet","place","items"] (az sX):=eS
theorem pK:‹(4,26,["rows","sheet","place","items"],xx)›:=λD=>by
 refine eU D.QO.F xy λcV A zn s0 H vs Q E hr h=>?_;obtain⟨r,o,rows,s,p,aN,sh,rfl,R,h0,h1,hO,ok,ol,hp,k1⟩:=h;have hu:=gC hr;refine⟨_,(aj (aX (i:=4) xy.nd (aC D.NL (jz D) hr (aa (pv 0) (aa (bM (aa (pv 1) ah)) ah)))) (aj (bg (aC D.WB (gI D) hr (aa (gu hu (pv 4) (pv 1)) (aa (pv 2) (aa (pv 2) ah))))) (aj (bN (gi (lQ (pv 3) (λ_=>rfl))) (au (aG (aC D.KQ (gZ D) hr (aa (aO bu (pv 0) (pv 1)) ah)))) aZ) (au (aG (aC D.Ve (ve D) hr (aa (aO bu (pv 0) (pv 1)) (aa (pv 4) (aa (pv 2) (aa (pv 3) ah)))))))))),?_⟩;refine⟨Y,Y,lD,λL hL=>?_⟩;have s1:aI H (aP H L (.lst [.int s])):=ak hL _;refine⟨r,L,rows,[s],sh,rfl,R.at_.same s1,af,by simp,R.len,R.ents,R.snd,R.rk,(λx hx=>by rw[List.mem_singleton.mp hx];exact⟨h0,h1⟩),R.N4,R.bd,λS kvs ks H2 hS hv tp sk hn s2 hS0=>?_⟩;have Th:=sk s (by simp);obtain⟨a,ha,Ra⟩:=hv s Th;have z:=iN.k (k:=Sum.inl s) hS;rw[ha]at z;have jH:=s1.trans s2;have shl:=R.bd s h0 h1;have rol:=jT (sh s);obtain⟨es,xR,b,O⟩:=(R.same jH).one h0 h1;refine⟨Y,Y,S,Y,z,Y,Y,a,cM (sh s),p,p,rfl,Ra,Q,⟨hp.1,Int.le_refl _,by rw[O.tt];exact hp.2⟩,λH3 s3=>?_⟩
 ·obtain⟨vt,ZK,b',O3⟩:=(R.same (jH.trans s3)).one h0 h1;have ee:es=vt:=qj (O.he.symm.trans O3.he);subst ee;have hO3:=hO.same (jH.trans s3);obtain⟨o',ovs,eo,ho,to⟩:=id hO3;cases eo;exists Y,!ovs.isEmpty,.inl ⟨_,bI.of ho,rfl⟩;have el:=to.len
  cases aN with
  | nil =>
   have:ovs=[]:=List.eq_nil_of_length_eq_zero (by simpa using el);subst this;refine jr ?_;refine⟨Y,Y,r,K,V,bI.of O3.hr,O3.ix,b',aH es,rfl,O3.it,iI O3.il (by decide),λq H4 I4 s4 hq=>?_⟩;refine k1 es q H4 O.he ?_ (jH.trans (s3.trans s4)) (bh (jH.trans s3) hq);obtain⟨e1,e2⟩:=mH es;rw[kg _ e2,e1]at I4;exact I4
  | cons it r0 =>
   have:(!ovs.isEmpty)=true:=by
    cases ovs with
    | nil=>simp at el
    | cons _ _=>rfl
   rw[this];refine d7 ?_;refine⟨Y,Y,r,K,V,bI.of O3.hr,O3.ix,Y,Y,Y,b',S,o,p,aH es,it::r0,kvs,sh,rfl,O3.it,s3 _ _ hS,λn hn=>?_,hO3,(mH es).2,ok,λn hn=>?_,iI O3.il (by decide),iI O3.rl (by decide),iI ol (by decide),λq H4 I4 s4 hq=>?_⟩
   ·have nx:=rE h0 O.he hn;obtain⟨i,hi⟩:=List.getElem?_of_mem Th;obtain⟨a2,e2,R2⟩:=hv n (List.mem_of_mem_take (tp.dn i s hi n nx));exact⟨a2,e2,R2.same s3⟩
   ·have nx:=rE h0 O.he hn;obtain⟨n0,n1⟩:=R.snd.DU nx;exact n8 R.snd R.rk R.N4 n n0 n1
   ·refine k1 es q H4 O.he ?_ (jH.trans (s3.trans s4)) (bh (jH.trans s3) hq);rw[(mH es).1]at I4;unfold fO;rw[if_neg (λz=>by cases (N5 ok).mp z)];exact I4
def kD(a b:Int)(d:mW):List aQ:=if d.2.2.2<=a\/b<=d.2.2.1 then [d.1] else if a<=d.2.2.1/\d.2.2.2<=b then [] else cK (cA (ku 0 (a-d.2.2.1) 0 d.2.1++ku (b-d.2.2.1) (d.2.2.2-d.2.2.1) 0 d.2.1))
def tD(a b:Int)(d:mW):List aQ:=if d.2.2.2<=a\/b<=d.2.2.1 then [] else if a<=d.2.2.1/\d.2.2.2<=b then [d.1] else cK (cA (ku (a-d.2.2.1) (b-d.2.2.1) 0 d.2.1))
def JL(sh:Int->List Int)(a b f e:Int):List Int:=if f+(aW sh e).length<=a\/b<=f then [e] else if a<=f/\f+(aW sh e).length<=b then [] else (aW sh e).take (a-f).toNat++(aW sh e).drop (b-f).toNat
def Mh(sh:Int->List Int)(a b f e:Int):List Int:=if f+(aW sh e).length<=a\/b<=f then [] else if a<=f/\f+(aW sh e).length<=b then [e] else ((aW sh e).take (b-f).toNat).drop (a-f).toNat
def kE(sh:Int->List Int)(a b:Int):Int->List Int->List Int
 | _,[]=>[]
 | f,e::r=>JL sh a b f e++kE sh a b (f+(aW sh e).length) r
def tE(sh:Int->List Int)(a b:Int):Int->List Int->List Int
 | _,[]=>[]
 | f,e::r=>Mh sh a b f e++tE sh a b (f+(aW sh e).length) r
theorem v9(sh:Int->List Int)(a b:Int)(y:List Int):∀ (x:List Int) (f:Int),kE sh a b f (x++y)=kE sh a b f x++kE sh a b (f+(aR sh x).length) y
 | [],f=>by simp[kE,aR]
 | e::x,f=>by
  rw[List.cons_append,kE,kE,v9 sh a b y x,mU,bZ,dB,Int.add_assoc]
  push_cast
  rfl
theorem wc(sh:Int->List Int)(a b:Int)(y:List Int):∀ (x:List Int) (f:Int),tE sh a b f (x++y)=tE sh a b f x++tE sh a b (f+(aR sh x).length) y
 | [],f=>by simp[tE,aR]
 | e::x,f=>by
  rw[List.cons_append,tE,tE,wc sh a b y x,mU,bZ,dB,Int.add_assoc]
  push_cast
  rfl
theorem WI{a f:Int}(h:f<a):(a-f).toNat=(a-(f+1)).toNat+1:=by lia
theorem Mi{a f:Int}(h:a<=f):(a-f).toNat=0:=Int.toNat_of_nonpos (Int.sub_nonpos_of_le h)
theorem WJ{a f:Int}(h:a<=f):(a-(f+1)).toNat=0:=Mi (Int.le_trans h (Int.le_of_lt (Int.lt_succ f)))
theorem nS{a f:Int}(h:¬ f+1<=a):a<=f:=Int.not_lt.mp h
theorem N6(sh:Int->List Int){a b:Int}(ab:a<b):∀ (n:Nat) (x f:Int),0<=x->kE sh a b f (run x n)=(run x n).take (a-f).toNat++(run x n).drop (b-f).toNat
 | 0,_,_,_=>by simp[run,kE]
 | n+1,x,f,h=>by
  rw[run,kE,N6 sh ab n (x+1) _ ∅];unfold JL;rw[rB sh h];show (if f+1<=a\/b<=f then [x] else if a<=f/\f+1<=b then [] else _)++((run (x+1) n).take (a-(f+1)).toNat++(run (x+1) n).drop (b-(f+1)).toNat)=_;by_cases c1:f+1<=a
  ·rw[if_pos (.inl c1),WI c1,WI (Int.lt_trans c1 ab)];rfl
  ·by_cases c2:b<=f
   ·rw[if_pos (.inr c2),Mi (nS c1),Mi c2,WJ (nS c1),WJ c2];rfl
   ·rw[if_neg (λz=>z.elim c1 c2),if_pos ⟨nS c1,Int.not_le.mp c2⟩,Mi (nS c1),WI (Int.not_le.mp c2),WJ (nS c1)];rfl
theorem N7(sh:Int->List Int){a b:Int}(ab:a<b):∀ (n:Nat) (x f:Int),0<=x->tE sh a b f (run x n)=((run x n).take (b-f).toNat).drop (a-f).toNat
 | 0,_,_,_=>by simp[run,tE]
 | n+1,x,f,h=>by
  rw[run,tE,N7 sh ab n (x+1) _ ∅];unfold Mh;rw[rB sh h];show (if f+1<=a\/b<=f then [] else if a<=f/\f+1<=b then [x] else _)++((run (x+1) n).take (b-(f+1)).toNat).drop (a-(f+1)).toNat=_;by_cases c1:f+1<=a
  ·rw[if_pos (.inl c1),WI c1,WI (Int.lt_trans c1 ab)];rfl
  ·by_cases c2:b<=f
   ·rw[if_pos (.inr c2),Mi c2,WJ c2];simp
   ·rw[if_neg (λz=>z.elim c1 c2),if_pos ⟨nS c1,Int.not_le.mp c2⟩,Mi (nS c1),WI (Int.not_le.mp c2),WJ (nS c1)];rfl
theorem Lm{a b t:Int}{r:Row}(ok:∀ p∈r,p.1<=p.2)(h:(bO r).length<=t.toNat):bO (cA (ku 0 a 0 r++ku b t 0 r))=(bO r).take a.toNat++(bO r).drop b.toNat:=by
 rw[m7 _ (UQ (CG _ _ _ _) (CG _ _ _ _)),cY,rm _ _ _ _ ok,rm _ _ _ _ ok];show ((bO r).take (a-0).toNat).drop 0++((bO r).take (t-0).toNat).drop (b-0).toNat=_;rw[Int.sub_zero,Int.sub_zero,Int.sub_zero,uA h];rfl
theorem ZL(sh:Int->List Int){a b:Int}(ab:a<b)(f:Int)(it:aQ)(h:kY it):dz (kD a b (it,cU sh it,f,f+i6 (cU sh it)))=kE sh a b f (fN it):=by
 have tt:=ki sh it h
 have sp:dz (cK (cA (ku 0 (a-f) 0 (cU sh it)++ku (b-f) (f+i6 (cU sh it)-f) 0 (cU sh it))))=(aR sh (fN it)).take (a-f).toNat++(aR sh (fN it)).drop (b-f).toNat:=by
  rw[nZ,Lm (u9 sh it h) (by rw[jS sh it h,tt];lia),jS sh it h]
 unfold kD;show dz (if f+i6 (cU sh it)<=a\/b<=f then [it] else if a<=f/\f+i6 (cU sh it)<=b then [] else cK (cA (ku 0 (a-f) 0 (cU sh it)++ku (b-f) (f+i6 (cU sh it)-f) 0 (cU sh it))))=_;have c1:(f+i6 (cU sh it)<=a\/b<=f)=(f+(aR sh (fN it)).length<=a\/b<=f):=by rw[tt]
 have c2:(a<=f/\f+i6 (cU sh it)<=b)=(a<=f/\f+(aR sh (fN it)).length<=b):=by rw[tt]
 simp only[c1,c2]
 cases it with
 | win n =>
  have e1:aR sh (fN (.win n))=aW sh (-1-n):=by show aR sh [-1-n]=_;rw[bZ];simp[aR]
  rw[e1]at sp ⊢;show _=kE sh a b f [-1-n];rw[kE,kE,gT];unfold JL;split
  ·rfl
  ·split
   ·rfl
   ·exact sp
 | aK x y =>
  have e1:aR sh (fN (.aK x y))=run x (y-x).toNat:=lK sh _ _ h.1;rw[e1]at sp ⊢;show _=kE sh a b f (run x (y-x).toNat);rw[N6 sh ab _ _ _ h.1];have rl:=fF x (y-x).toNat;split
  ·rename_i c;rw[j8];rcases c with c|c
   ·rw[uA ∅,yv ∅,gT];rfl
   ·rw[Mi (Int.le_trans (Int.le_of_lt ab) c),Mi c];rfl
  ·split
   ·rename_i c;rw[Mi c.1,yv ∅];rfl
   ·exact sp
theorem ZM(sh:Int->List Int){a b:Int}(ab:a<b)(f:Int)(it:aQ)(h:kY it):dz (tD a b (it,cU sh it,f,f+i6 (cU sh it)))=tE sh a b f (fN it):=by
 have tt:=ki sh it h
 have sp:dz (cK (cA (ku (a-f) (b-f) 0 (cU sh it))))=((aR sh (fN it)).take (b-f).toNat).drop (a-f).toNat:=by
  rw[nZ,pD _ _ _ (u9 sh it h),jS sh it h]
 unfold tD;show dz (if f+i6 (cU sh it)<=a\/b<=f then [] else if a<=f/\f+i6 (cU sh it)<=b then [it] else cK (cA (ku (a-f) (b-f) 0 (cU sh it))))=_;rw[tt]
 cases it with
 | win n =>
  have e1:aR sh (fN (.win n))=aW sh (-1-n):=by show aR sh [-1-n]=_;rw[bZ];simp[aR]
  rw[e1]at sp ⊢;show _=tE sh a b f [-1-n];rw[tE,tE,gT];unfold Mh;split
  ·rfl
  ·split
   ·rfl
   ·exact sp
 | aK x y =>
  have e1:aR sh (fN (.aK x y))=run x (y-x).toNat:=lK sh _ _ h.1;rw[e1]at sp ⊢;show _=tE sh a b f (run x (y-x).toNat);rw[N7 sh ab _ _ _ h.1];have rl:=fF x (y-x).toNat;split
  ·rename_i c;rcases c with c|c
   ·rw[yv (by rw[gF];lia)];rfl
   ·rw[Mi c];simp[dz]
  ·split
   ·rename_i c;rw[j8,Mi c.1,uA ∅];rfl
   ·exact sp
theorem C0(sh:Int->List Int){a b:Int}(ab:a<b):∀ (aN:List aQ) (f:Int),fT aN->dz ((bW sh f aN).flatMap (kD a b))=kE sh a b f (dz aN)
 | [],f,_=>rfl
 | it::r,f,h=>by
  have h1:=h it (by simp);rw[bW,ji,fC,ZL sh ab f it h1,C0 sh ab r _ λi hi=>h i (nQ _ hi)];have e:dz (it::r)=fN it++dz r:=by unfold dz;rw[ji]
  rw[e,v9,ki sh it h1]
theorem E6(sh:Int->List Int){a b:Int}(ab:a<b):∀ (aN:List aQ) (f:Int),fT aN->dz ((bW sh f aN).flatMap (tD a b))=tE sh a b f (dz aN)
 | [],f,_=>rfl
 | it::r,f,h=>by
  have h1:=h it (by simp);rw[bW,ji,fC,ZM sh ab f it h1,E6 sh ab r _ λi hi=>h i (nQ _ hi)];have e:dz (it::r)=fN it++dz r:=by unfold dz;rw[ji]
  rw[e,wc,ki sh it h1]
theorem Ti{a b:Int}{d:mW}(h:kY d.1)(g:kX d.2.1):fT (kD a b d):=by
 unfold kD;split
 ·exact fT.one h
 ·split
  ·exact λi hi=>by cases hi
  ·exact uZ (nX λp hp=>(List.mem_append.mp hp).elim (zg _ _ _ _ g p) (zg _ _ _ _ g p))
theorem ZN{a b:Int}{d:mW}(h:kY d.1)(g:kX d.2.1):fT (tD a b d):=by
 unfold tD;split
 ·exact λi hi=>by cases hi
 ·split
  ·exact fT.one h
  ·exact zu g
theorem HM(a b:Int)(d:mW):(kD a b d).length<=d.2.1.length+d.2.1.length+1:=by
 unfold kD;split
 ·simp
 ·split
  ·simp
  ·rw[yu];refine iI (lJ _) ?_;rw[dB];have:=jR 0 (a-d.2.2.1) d.2.1 0;have:=jR (b-d.2.2.1) (d.2.2.2-d.2.2.1) d.2.1 0;lia
theorem N8(a b:Int)(d:mW):(tD a b d).length<=d.2.1.length+d.2.1.length+1:=by
 unfold tD;split
 ·simp
 ·split
  ·simp
  ·exact iI (rC _ _ _) ∅
theorem lM(sh:Int->List Int){g:mW->List aQ}(hg:∀ d,(g d).length<=d.2.1.length+d.2.1.length+1):∀ (aN:List aQ) (f:Int),((bW sh f aN).flatMap g).length<=(bH sh aN).length+(bH sh aN).length+aN.length
 | [],_=>by simp[bW]
 | it::r,f=>by
  rw[bW,ji,dB];have a:=hg (it,cU sh it,f,f+i6 (cU sh it));have b:=lM sh hg r (f+i6 (cU sh it));have e:bH sh (it::r)=cU sh it++bH sh r:=by unfold bH;rw[ji];rfl
  rw[e,dB,mS];simp only at a;lia
theorem E7(sh:Int->List Int)(it:aQ)(row:Row)(fi la:Int):∀ (aN:List aQ) (f:Int),(it,row,fi,la)∈bW sh f aN->∃ Qt∈aN,row=cU sh Qt
 | [],_,h=>by cases h
 | i0::r0,f,h=>by
  rw[bW]at h;rcases List.mem_cons.mp h with e|e
  ·cases e;exact⟨it,by simp,rfl⟩
  ·obtain⟨i1,m1,e1⟩:=E7 sh it row fi la r0 _ e;exact⟨i1,nQ _ m1,e1⟩
theorem BV(sh:Int->List Int):∀ (aN:List aQ) (f:Int) (d:mW),d∈bW sh f aN->d.1∈aN
 | [],_,_,h=>by cases h
 | i0::r0,f,d,h=>by
  rw[bW]at h;rcases List.mem_cons.mp h with e|e
  ·subst e;simp
  ·exact nQ _ (BV sh r0 _ d e)
theorem E8(sh:Int->List Int){a b n:Int}{aN:List aQ}(h:aQ.win n∈(bW sh 0 aN).flatMap (kD a b)):aQ.win n∈aN:=by
 obtain⟨d,hd,hm⟩:=List.mem_flatMap.mp h;unfold kD at hm;split at hm
 ·rw[List.mem_singleton.mp hm];exact BV sh aN 0 d hd
 ·split at hm
  ·cases hm
  ·unfold cK at hm;obtain⟨p,_,e⟩:=List.mem_map.mp hm;cases e
theorem BW{H:Hp}{A:Addr}{l:List aQ}{vs:List V}(h:H A=some (.lst vs))(t:bX (cP H) vs l):bK H (.ref A) l:=⟨A,vs,rfl,h,t⟩
def bR(sh:Int->List Int)(a b:Int)(es:List Int):List Int:=if a=b then es else kE sh a b 0 es
def ic(sh:Int->List Int)(a b:Int)(es:List Int):List Int:=if a=b then [] else tE sh a b 0 es
class inductive N9
 | mk (r S:Addr) (a b:Int) (aN:List aQ) (kvs:List (fj × V)) (sh:Int->List Int) (_:vs=[.ref r,.ref S,.int a,.int b]) (_:bK H (.ref r) aN) (_:H S=some (.dK kvs)) (_:vZ H kvs sh aN) (_:aN.length<=10000) (_:(bH sh aN).length<=20000) (_ :
 ∀ (t L M:Addr) (H':Hp),H' t=some (.tup [.ref L,.ref M])->bK H' (.ref L) ((bW sh 0 aN).flatMap (kD a b))->bK H' (.ref M) ((bW sh 0 aN).flatMap (tD a b))->aI H H'->Q (.ref t) H')
theorem jB:aF ["items","views","start","stop","left","taken","item","row","first","last"] ["items","views","start","stop"] (az Cw):=eS
theorem BX:‹(3,27,["items","views","start","stop"],N9)›:=λD=>by
 have C1:bw P w K mg zt cL 1 (aY 7) (bf 7) ["row","start","stop"] EC:=rA D;specialize eU D.Vf.F jB;obtain⟨r,S,p,q,aN,kvs,sh,rfl,hI,hS,hW,l1,l2,k⟩:=h;exists _,(aj (aX (i:=4) jB.nd (bM ah)) (aj (aX (i:=5) jB.nd (bM ah)) (aj (d9 PassesOwn.never rfl (cJ (aC D.Vd (E5 D) hr (aa (pv 0) (aa (pv 1) ah)))) (nj (n:=4) rfl (b8 (b9 (i:=6) jB.nd) (b8 (b9 (i:=7) jB.nd) (b8 (b9 (i:=8) jB.nd) (b8 (b9 (i:=9) jB.nd) gO))))) (au (bN (PW.pt (Ea (aT gp (pv 9) (pv 2) (bx _)) (Ci (aT gp (pv 3) (pv 8) (bx _))))) (au (bg (dM pW jN jO bS (pv 4) (aa (pv 6) ah)))) (au (bN (PW.pt (qm (aT gp (pv 2) (pv 8) (bx _)) (oA (aT gp (pv 9) (pv 3) (bx _))))) (au (bg (dM pW jN jO bS (pv 5) (aa (pv 6) ah)))) (aj (vE (i:=4) jB.nd rfl (Or.inl rfl) (aC D.EU (mG D) hr (aa (bG jo (aC D.U7 C1 hr (aa (pv 7) (aa ay (aa (bG cN (pv 2) (pv 8)) ah)))) (aC D.U7 C1 hr (aa (pv 7) (aa (bG cN (pv 3) (pv 8)) (aa (bG cN (pv 9) (pv 8)) ah))))) ah)) vW) (au (vE (i:=5) jB.nd rfl (Or.inl rfl) (aC D.EU (mG D) hr (aa (aC D.U7 C1 hr (aa (pv 7) (aa (bG cN (pv 2) (pv 8)) (aa (bG cN (pv 3) (pv 8)) ah)))) ah)) vW)))))))) (au (aG (cW (aa (pv 4) (aa (pv 5) ah))))))));refine⟨iP,λA hA=>⟨iP,λB hB=>?_⟩⟩;have sA:aI H (aP H A (.lst [])):=ak hA _;have sB:aI _ (aP (aP H A (.lst [])) B (.lst [])):=ak hB _;have s0:=sA.trans sB;have Al:A≠B:=aA af hB;have Mf:=bh sA hB;refine⟨Y,Y,r,S,aN,kvs,sh,λa=>a≠A/\a≠B,rfl,hI.same s0,s0 _ _ hS,hW.same s0,Q,(λit hi=>by have:=vd sh hi;lia),?_,?_,λD dv H1 hD Qi s1 _=>?_⟩
 ·intro n a hn hv;obtain⟨b,e,as,hb,_⟩:=hW n hn;rw[hv]at e;cases e;exact⟨aA hb hA,aA hb Mf⟩
 ·intro a ha;exact⟨(aA (sB _ _ af) ha).symm,(aA af ha).symm⟩
 have ZH:=s1 _ _ (sB _ _ (af (H:=H) (a:=A) (o:=.lst [])));have ZI:=s1 _ _ (af (H:=aP H A (.lst [])) (a:=B) (o:=.lst []))
 have nD:D≠A/\D≠B:=by
  rename_i ZJ;exact⟨(aA (sB _ _ af) ZJ).symm,(aA af ZJ).symm⟩
 have ac3:=lM sh (HM p q) aN 0;have ac4:=lM sh (N8 p q) aN 0;refine⟨D,rfl,⟨_,bI.of hD⟩,dN (K:=K) (a:=D) (xs:=dv) (λi σ H2=>∃ u1 u2 u3 u4:Option V,σ=[some (.ref r),some (.ref S),some (.int p),some (.int q),some (.ref A),some (.ref B),u1,u2,u3,u4]/\kZ H1 A B (((bW sh 0 aN).take i).flatMap (kD p q)) (((bW sh 0 aN).take i).flatMap (tD p q)) H2) ⟨none,none,none,none,rfl,⟨_,ZH,.nil⟩,⟨_,ZI,.nil⟩,λ_ _ e _ _=>e⟩ (by rintro i σ H2 _ ⟨_,_,_,_,_,pv⟩;exact bI.of (pv.k _ _ hD nD.1 nD.2)) ?_ ?_⟩
 ·rintro i x σ H2 hi ⟨u1,u2,u3,u4,rfl,pv⟩;obtain⟨d,ed,KI⟩:=Qi.get hi;have hd2:=KI.Tf ZH ZI (λa h=>h) pv.k;obtain⟨a,ra,xi,rfl,hta,hxi,WH,nra⟩:=hd2;have eA:=rD (kD p q) ed;have eB:=rD (tD p q) ed;have bA:=iE (kD p q) (bW sh 0 aN) i;have bB:=iE (tD p q) (bW sh 0 aN) i;have bA1:=iE (kD p q) (bW sh 0 aN) (i+1);have bB1:=iE (tD p q) (bW sh 0 aN) (i+1);obtain⟨v1,hv1,t1⟩:=pv.a;obtain⟨v2,hv2,t2⟩:=pv.b;have z1:=t1.len;have z2:=t2.len;obtain⟨it,row,fi,la⟩:=d
  have rl:row.length<=20000:=by
   obtain⟨i1,m1,rfl⟩:=E7 sh it row fi la aN 0 (om ed);have:=vd sh m1;lia
  have mV:v1.length<sizeLine:=aS ∅
  have zx:(la<=p\/q<=fi)->kZ H1 A B (((bW sh 0 aN).take (i+1)).flatMap (kD p q)) (((bW sh 0 aN).take (i+1)).flatMap (tD p q)) (aP H2 A (.lst (v1++[xi]))):=λc=>by
   rw[eA,eB];have e1:kD p q (it,row,fi,la)=[it]:=by unfold kD;rw[if_pos c]
   have e2:tD p q (it,row,fi,la)=[]:=by unfold tD;rw[if_pos c]
   rw[e1,e2,gT];exact pv.JJ Al hv1 (.cons hxi .nil)
  exists a,Y,dH.of hta,rfl,P,rfl,P,rfl,P,rfl,Z;refine⟨Y,Y,Z,Y,cX (λc=>jr ?_) (λc=>?_)⟩
  ·exact⟨Y,.inl ⟨rfl,_,bI.of hv1⟩,Y,A,Z,hv1,mV,K,Y,zx (.inl (of_decide_eq_true c))⟩
  have c':¬ la<=p:=λz=>c (decide_eq_true z);refine⟨Y,Y,Z,Y,cX (λc2=>?_) (λc2=>?_)⟩
  ·exact⟨Y,.inl ⟨rfl,_,bI.of hv1⟩,Y,A,Z,hv1,mV,K,Y,zx (.inr (of_decide_eq_true c2))⟩
  have Lk:¬ q<=fi:=λz=>c2 (decide_eq_true z);have n1:¬ (la<=p\/q<=fi):=λz=>z.elim c' Lk
  have part:¬ (p<=fi/\la<=q)->kZ H1 A B (((bW sh 0 aN).take i).flatMap (kD p q)) (((bW sh 0 aN).take i).flatMap (tD p q)) H2->kD p q (it,row,fi,la)=cK (cA (ku 0 (p-fi) 0 row++ku (q-fi) (la-fi) 0 row))/\tD p q (it,row,fi,la)=cK (cA (ku (p-fi) (q-fi) 0 row)):=λc3 _=>by
   exists ?_
   ·unfold kD;rw[if_neg n1,if_neg c3]
   ·unfold tD;rw[if_neg n1,if_neg c3]
  have go:¬ (p<=fi/\la<=q)->∀ (q1 q2:Addr) (v3:List V) (H4:Hp),H4 q2=some (.lst v3)->bX (cP H4) v3 (cK (cA (ku 0 (p-fi) 0 row++ku (q-fi) (la-fi) 0 row)))->aI H2 H4->v1.length+v3.length<=sizeLine/\kZ H1 A B (((bW sh 0 aN).take (i+1)).flatMap (kD p q)) (((bW sh 0 aN).take i).flatMap (tD p q)) (aP H4 A (.lst (v1++v3)))/\cE (aP H4 A (.lst (v1++v3))) ra row/\(aP H4 A (.lst (v1++v3))) B=some (.lst v2):=λc3 q1 q2 v3 H4 h3 t3 s4=>by
   obtain⟨e1,e2⟩:=part c3 pv;have z3:=t3.len;rw[eA,e1,dB]at bA1;have Ll:=s4 _ _ hv1;refine⟨Nat.le_of_lt (aS ∅),?_,(WH.same s4).keep Ll nra.1 (aJ A _ _),by rw[aL Al.symm];exact s4 _ _ hv2⟩;rw[eA,e1];exact (pv.same s4).JJ Al Ll t3
  have go2:¬ (p<=fi/\la<=q)->∀ (v4:List V) (H5 H7:Hp),kZ H1 A B (((bW sh 0 aN).take (i+1)).flatMap (kD p q)) (((bW sh 0 aN).take i).flatMap (tD p q)) H5->H5 B=some (.lst v2)->bX (cP H7) v4 (cK (cA (ku (p-fi) (q-fi) 0 row)))->aI H5 H7->v2.length+v4.length<=sizeLine/\kZ H1 A B (((bW sh 0 aN).take (i+1)).flatMap (kD p q)) (((bW sh 0 aN).take (i+1)).flatMap (tD p q)) (aP H7 B (.lst (v2++v4))):=λc3 v4 H5 H7 pv5 h5 t4 s7=>by
   obtain⟨e1,e2⟩:=part c3 pv;have z4:=t4.len;rw[eB,e2,dB]at bB1;refine⟨Nat.le_of_lt (aS ∅),?_⟩;rw[eB,e2];exact (pv5.same s7).JK Al (s7 _ _ h5) t4
  have pl1:=jR 0 (p-fi) row 0;have pl2:=jR (q-fi) (la-fi) row 0;have pl3:=jR (p-fi) (q-fi) row 0;refine⟨Y,Y,Z,Y,NF (λz=>⟨Y,Y,Z,Y,z⟩) (λc5=>?_) (λc5=>?_)⟩
  ·exists Y,.inl ⟨rfl,_,bI.of hv2⟩,Y,B,Z,hv2,aS ∅,K,Y;rw[eA,eB];have e1:kD p q (it,row,fi,la)=[]:=by unfold kD;rw[if_neg n1,if_pos c5]
   have e2:tD p q (it,row,fi,la)=[it]:=by unfold tD;rw[if_neg n1,if_pos c5]
   rw[e1,e2,gT];exact pv.JK Al hv2 (.cons hxi .nil)
  ·refine⟨Y,Y,Y,Y,Z,ra,row,0,p-fi,rfl,WH,Q,λq1 H3 R3 s3 Rg=>?_⟩;obtain⟨as3,ha3,pa3⟩:=id R3;have n3:=pa3.len;refine⟨Y,Y,Y,Z,Y,Y,Z,ra,row,q-fi,la-fi,rfl,WH.same s3,Q,λq2 H4 R4 s4 d8=>?_⟩;obtain⟨as4,ha4,pa4⟩:=id R4;have n4:=pa4.len;refine⟨q1,q2,Z,s4 _ _ ha3,ha4,(by rw[cG,cG];exact iz (aS ∅)),λm hm=>?_⟩;have s5:aI H4 (aP H4 m (.lst (as3.map V.ref++as4.map V.ref))):=ak hm _;refine⟨m,ku 0 (p-fi) 0 row++ku (q-fi) (la-fi) 0 row,rfl,⟨as3++as4,by rw[af,gJ],bQ.append ((pa3.same s4).same s5) (pa4.same s5)⟩,by rw[dB];lia,λq3 H6 I6 s6 DV=>?_⟩;obtain⟨q3',v3,e3,h3,t3⟩:=I6;cases e3;have s26:=s3.trans (s4.trans (s5.trans s6));obtain⟨g1,g2,g3,g4⟩:=go c5 q1 q3 v3 H6 h3 t3 s26;exists A,q3,Z,s26 _ _ hv1,h3,g1;refine⟨Y,Y,Y,Y,Z,Y,Y,Z,ra,row,p-fi,q-fi,rfl,g3,Q,λq4 H7 R7 s7 Rf=>⟨q4,Y,R7,Q,λq5 H8 I8 s8 ZG=>?_⟩⟩;obtain⟨q5',v4,e4,h4,t4⟩:=I8;cases e4;obtain⟨f1,f2⟩:=go2 c5 v4 _ H8 g2 g4 t4 (s7.trans s8);exact⟨B,q5,Z,(s7.trans s8) _ _ g4,h4,f1,K,Y,f2⟩
 ·rintro σ H2 ⟨u1,u2,u3,u4,rfl,pv⟩;have dl:=Qi.len;rw[dl,gR]at pv;obtain⟨v1,hv1,t1⟩:=pv.a;obtain⟨v2,hv2,t2⟩:=pv.b;have sm:aI H H2:=λa ob e=>pv.k a ob (s1 _ _ (s0 _ _ e)) (aA e hA) (aA e Mf);refine⟨Y,Y,nK,λt ht=>k t A B _ af ?_ ?_ (sm.trans (ak ht _))⟩
  ·exact (BW hv1 t1).same (ak ht _)
  ·exact (BW hv2 t2).same (ak ht _)
class inductive E9
 | mk (r:Addr) (rows:cR) (s a b:Int) (sh:Int->List Int) (_:vs=[.ref r,.int s,.int a,.int b]) (_:pI H r rows sh) (_:0<=s) (_:s<rows.length) (_:Ma a b (sh s).length) (_:(∀ (es:List Int) (q:Addr) (H':Hp),rows[s.toNat]?=some es->bK H' (.ref q) (aH (bR sh a b es))->aI H H'->H q=none->Q (.ref q) H'))
theorem xA:aF ["rows","sheet","start","stop","views"] ["rows","sheet","start","stop"] (az sY):=eS
theorem C2:‹(4,28,["rows","sheet","start","stop"],E9)›:=λD=>by
 refine eU D.YA.F xA λcV A zn s0 H vs Q E hr h=>?_;obtain⟨r,rows,s,p,q,sh,rfl,R,h0,h1,hp,k1⟩:=h;have hu:=gC hr;exists _,(aj (aX (i:=4) xA.nd (aC D.NL (jz D) hr (aa (pv 0) (aa (bM (aa (pv 1) ah)) ah)))) (aj (bg (aC D.WB (gI D) hr (aa (gu hu (pv 4) (pv 1)) (aa (pv 2) (aa (pv 3) ah))))) (aj (bN (aT dQ (pv 2) (pv 3) (bx _)) (au (aG (aC D.KQ (gZ D) hr (aa (aO bu (pv 0) (pv 1)) ah)))) aZ) (au (aG (aC D.KQ (gZ D) hr (aa (aO br (aC D.Vf (BX D) hr (aa (aO bu (pv 0) (pv 1)) (aa (pv 4) (aa (pv 2) (aa (pv 3) ah))))) ay) ah)))))));refine⟨Y,Y,lD,λL hL=>?_⟩;have s1:aI H (aP H L (.lst [.int s])):=ak hL _;refine⟨r,L,rows,[s],sh,rfl,R.at_.same s1,af,by simp,R.len,R.ents,R.snd,R.rk,(λx hx=>by rw[List.mem_singleton.mp hx];exact⟨h0,h1⟩),R.N4,R.bd,λS kvs ks H2 hS hv tp sk hn s2 hS0=>?_⟩;have Th:=sk s (by simp);obtain⟨a,ha,Ra⟩:=hv s Th;have z:=iN.k (k:=Sum.inl s) hS;rw[ha]at z;have jH:=s1.trans s2;have shl:=R.bd s h0 h1;have rol:=jT (sh s);obtain⟨es,xR,b,O⟩:=(R.same jH).one h0 h1;refine⟨Y,Y,S,Y,z,Y,Y,a,cM (sh s),p,q,rfl,Ra,Q,by rw[O.tt];exact hp,λH3 s3=>?_⟩
 ·obtain⟨vt,ZK,b',O3⟩:=(R.same (jH.trans s3)).one h0 h1;have ee:es=vt:=qj (O.he.symm.trans O3.he);subst ee;obtain⟨e1,e2⟩:=mH es;refine⟨Y,Y,rfl,Y,cX (λc=>?_) (λc=>?_)⟩
  ·have c':p=q:=V.int.inj (of_decide_eq_true c);refine⟨Y,Y,r,K,V,bI.of O3.hr,O3.ix,b',aH es,rfl,O3.it,iI O3.il (by decide),λo H4 I4 s4 ho=>?_⟩;refine k1 es o H4 O.he ?_ (jH.trans (s3.trans s4)) (bh (jH.trans s3) ho);rw[kg _ e2,e1]at I4;unfold bR;rw[if_pos c'];exact I4
  ·have c':¬ p=q:=λz=>c (by rw[z];exact decide_eq_true rfl);have pq:p<q:=by have:=hp.2.1;lia
   refine⟨Y,Y,r,K,V,bI.of O3.hr,O3.ix,Y,Y,Y,b',S,p,q,aH es,kvs,sh,rfl,O3.it,s3 _ _ hS,λn hn=>?_,iI O3.il (by decide),iI O3.rl (by decide),λt L M H4 ht hL4 hM4 s4=>?_⟩
   ·have nx:=rE h0 O.he hn;obtain⟨i,hi⟩:=List.getElem?_of_mem Th;obtain⟨a2,e2,R2⟩:=hv n (List.mem_of_mem_take (tp.dn i s hi n nx));exact⟨a2,e2,R2.same s3⟩
   have nn:Q8 sh (aH es):=λn hn=>by
    have nx:=rE h0 O.he hn;obtain⟨n0,n1⟩:=R.snd.DU nx;exact n8 R.snd R.rk R.N4 n n0 n1
   have Mg:=yt sh (aH es) 0 e2 nn;have lk:fT ((bW sh 0 (aH es)).flatMap (kD p q)):=vc λd hd=>Ti (Mg d hd).1 (Mg d hd).2;have ll:=lM sh (HM p q) (aH es) 0;have oil:=O3.il;have orl:=O3.rl;refine⟨t,K,V,dH.of ht,rfl,L,Y,hL4,Q,λo H5 I5 s5 ho=>?_⟩;refine k1 es o H5 O.he ?_ (jH.trans (s3.trans (s4.trans s5))) (bh (jH.trans (s3.trans s4)) ho);rw[kg _ lk,C0 sh pq _ _ e2,e1]at I5;unfold bR;rw[if_neg c'];exact I5
def lE(sh:Int->List Int)(a b to:Int)(es:List Int):List Int:=if a=b then es else aE sh to 0 (kE sh a b 0 es)++tE sh a b 0 es++bE sh to 0 (kE sh a b 0 es)
def Mv(a b to n:Int):Prop:=Ma a b n/\0<=to/\to<=n-(b-a)
theorem Oa(sh:Int->List Int)(r:Row):bH sh (cK r)=r:=by
 unfold bH cK;rw[List.flatMap_map]
 induction r with
 | nil=>rfl
 | cons p r ih=>rw[ji,ih];rfl
theorem BY(sh:Int->List Int)(a b:Int):∀ (aN:List aQ) (f:Int),(bH sh ((bW sh f aN).flatMap (kD a b))).length<=(bH sh aN).length+(bH sh aN).length
 | [],_=>by simp[bW,bH]
 | it::r,f=>by
  have ih:=BY sh a b r (f+i6 (cU sh it));have e:bH sh (it::r)=cU sh it++bH sh r:=by unfold bH;rw[ji];rfl
  have one:(bH sh (kD a b (it,cU sh it,f,f+i6 (cU sh it)))).length<=(cU sh it).length+(cU sh it).length:=by
   unfold kD;split
   ·rw[jg];show (cU sh it).length<=_;lia
   ·split
    ·simp[bH]
    ·rw[Oa];refine iI (lJ _) ?_;rw[dB];have:=jR 0 (a-f) (cU sh it) 0;have:=jR (b-f) (f+i6 (cU sh it)-f) (cU sh it) 0;simp only;lia
  rw[bW,ji,eG,dB,e,dB];lia
class inductive AD
 | mk (r:Addr) (rows:cR) (s a b to:Int) (sh:Int->List Int) (_:vs=[.ref r,.int s,.int a,.int b,.int to]) (_:pI H r rows sh) (_:0<=s) (_:s<rows.length) (_:Mv a b to (sh s).length) (_:(∀ (es:List Int) (q:Addr) (H':Hp),rows[s.toNat]?=some es->bK H' (.ref q) (aH (lE sh a b to es))->aI H H'->H q=none->Q (.ref q) H'))
theorem vz.mid{i:Int}(h0:-300000<i)(h1:i<300000):vz i:=by
 have a:(300000:Int)<10^60:=by decide
 exact⟨Q,Q⟩
theorem vz.VE{i:Int}(h:-100000<i/\i<100000):vz i:=vz.mid ∅ ∅
theorem iV:aF ["rows","sheet","start","stop","to","views","rest","left","taken"] ["rows","sheet","start","stop","to"] (az oM):=eS
theorem zy:‹(4,29,["rows","sheet","start","stop","to"],AD)›:=λD=>by
 refine eU D.YB.F iV λcV A zn s0 H vs Q E hr h=>?_;obtain⟨r,rows,s,p,q,to,sh,rfl,R,h0,h1,mv,k1⟩:=h;have hu:=gC hr;exists _,(aj (aX (i:=5) iV.nd (aC D.NL (jz D) hr (aa (pv 0) (aa (bM (aa (pv 1) ah)) ah)))) (aj (bg (aC D.WB (gI D) hr (aa (gu hu (pv 5) (pv 1)) (aa (pv 2) (aa (pv 3) ah))))) (aj (aX (i:=6) iV.nd (bG cN (fH.pG D.QN (D.T.jX _ D.QN.m) (yr D) hr (aa (gu hu (pv 5) (pv 1)) ah)) (bG cN (pv 3) (pv 2)))) (aj (bN (gi (qp gp gp ay (pv 4) (pv 6))) (au iR) aZ) (aj (bN (aT dQ (pv 2) (pv 3) (bx _)) (au (aG (aC D.KQ (gZ D) hr (aa (aO bu (pv 0) (pv 1)) ah)))) aZ) (aj (lP (aC D.Vf (BX D) hr (aa (aO bu (pv 0) (pv 1)) (aa (pv 5) (aa (pv 2) (aa (pv 3) ah))))) (nj (n:=2) rfl (b8 (b9 (i:=7) iV.nd) (b8 (b9 (i:=8) iV.nd) gO)))) (au (aG (aC D.Ve (ve D) hr (aa (pv 7) (aa (pv 5) (aa (pv 4) (aa (pv 8) ah)))))))))))));refine⟨Y,Y,lD,λL hL=>?_⟩;have s1:aI H (aP H L (.lst [.int s])):=ak hL _;refine⟨r,L,rows,[s],sh,rfl,R.at_.same s1,af,by simp,R.len,R.ents,R.snd,R.rk,(λx hx=>by rw[List.mem_singleton.mp hx];exact⟨h0,h1⟩),R.N4,R.bd,λS kvs ks H2 hS hv tp sk hn s2 hS0=>?_⟩;have Th:=sk s (by simp);obtain⟨a,ha,Ra⟩:=hv s Th;have z:=iN.k (k:=Sum.inl s) hS;rw[ha]at z;have jH:=s1.trans s2;have shl:=R.bd s h0 h1;have rol:=jT (sh s);obtain⟨es,xR,b,O⟩:=(R.same jH).one h0 h1;refine⟨Y,Y,S,Y,z,Y,Y,a,cM (sh s),p,q,rfl,Ra,Q,by rw[O.tt];exact mv.1,λH3 s3=>?_⟩
 ·have hp:=mv.1;obtain⟨vt,ZK,b',O3⟩:=(R.same (jH.trans s3)).one h0 h1;have ee:es=vt:=qj (O.he.symm.trans O3.he);subst ee;obtain⟨e1,e2⟩:=mH es;have z3:=iN.k (k:=Sum.inl s) (s3 _ _ hS);rw[ha]at z3;refine⟨Y,Y,S,Y,z3,a,cM (sh s),rfl,Ra.same s3,Q,λH4 s4=>?_⟩;rw[O.tt];exists Y,Y,Z,Z;exists Y,Z,Y;rw[decide_eq_true mv.2.1];refine cX (λ_=>?_) (λc=>absurd rfl c);exists Y,Z,Y;rw[decide_eq_true mv.2.2];refine d7 ?_;have O4:bK H4 (.ref b') (aH es):=O3.it.same s4;have hr4:=s4 _ _ O3.hr;refine⟨Y,Y,rfl,Y,cX (λc=>?_) (λc=>?_)⟩
  ·have c':p=q:=V.int.inj (of_decide_eq_true c);refine⟨Y,Y,r,K,V,bI.of hr4,O3.ix,b',aH es,rfl,O4,iI O3.il (by decide),λo H5 I5 s5 ho=>?_⟩;refine k1 es o H5 O.he ?_ (jH.trans (s3.trans (s4.trans s5))) (bh (jH.trans (s3.trans s4)) ho);rw[kg _ e2,e1]at I5;unfold lE;rw[if_pos c'];exact I5
  ·have c':¬ p=q:=λz=>c (by rw[z];exact decide_eq_true rfl);have pq:p<q:=by have:=hp.2.1;lia
   have ZO:∀ n,aQ.win n∈aH es->∃ a2,cI kvs (Sum.inl n)=some (.ref a2)/\cE H4 a2 (cM (sh n)):=λn hn=>by
    have nx:=rE h0 O.he hn;obtain⟨i,hi⟩:=List.getElem?_of_mem Th;obtain⟨a2,e2,R2⟩:=hv n (List.mem_of_mem_take (tp.dn i s hi n nx));exact⟨a2,e2,(R2.same s3).same s4⟩
   refine⟨Y,Y,r,K,V,bI.of hr4,O3.ix,Y,Y,Y,b',S,p,q,aH es,kvs,sh,rfl,O4,s4 _ _ (s3 _ _ hS),ZO,iI O3.il (by decide),iI O3.rl (by decide),λt L M H5 ht hL5 hM5 s5=>?_⟩
   have nn:Q8 sh (aH es):=λn hn=>by
    have nx:=rE h0 O.he hn;obtain⟨n0,n1⟩:=R.snd.DU nx;exact n8 R.snd R.rk R.N4 n n0 n1
   have Mg:=yt sh (aH es) 0 e2 nn;have lk:fT ((bW sh 0 (aH es)).flatMap (kD p q)):=vc λd hd=>Ti (Mg d hd).1 (Mg d hd).2;have tk:fT ((bW sh 0 (aH es)).flatMap (tD p q)):=vc λd hd=>ZN (Mg d hd).1 (Mg d hd).2;have ll:=lM sh (HM p q) (aH es) 0;have tl:=lM sh (N8 p q) (aH es) 0;have lr:=BY sh p q (aH es) 0;have oil:=O3.il;have orl:=O3.rl;exists t,Y,dH.of ht,rfl,P,rfl,Z;refine⟨Y,Y,Y,Y,L,S,M,to,P,kvs,sh,rfl,hL5,s5 _ _ (s4 _ _ (s3 _ _ hS)),(λn hn=>?_),hM5,lk,tk,(λn hn=>nn n (E8 sh hn)),Q,Q,Q,λo H6 I6 s6 ho=>?_⟩
   ·obtain⟨a2,e3,R2⟩:=ZO n (E8 sh hn);exact⟨a2,e3,R2.same s5⟩
   refine k1 es o H6 O.he ?_ (jH.trans (s3.trans (s4.trans (s5.trans s6)))) (bh (jH.trans (s3.trans (s4.trans s5))) ho);rw[C0 sh pq _ _ e2,E6 sh pq _ _ e2,e1]at I6;unfold lE;rw[if_neg c'];exact I6
class inductive Rh
 | mk (r:Addr) (rows:cR) (s:Int) (sh:Int->List Int) (_:vs=[.ref r,.int s]) (_:pI H r rows sh) (_:0<=s) (_:s<rows.length) (_ :
 ∀ (o:Addr) (H':Hp),bK H' (.ref o) (aH (sh s))->aI H H'->H o=none->Q (.ref o) H')
theorem AE:aF ["rows","sheet"] ["rows","sheet"] (az oN):=eS
theorem zz:‹(5,30,["rows","sheet"],Rh)›:=λD=>by
 refine eU D.YC.F AE λcV A zn s0 H vs Q E hr h=>?_;obtain⟨r,rows,s,sh,rfl,R,h0,h1,k⟩:=h;exists _,(au (aG (aC D.EU (mG D) hr (aa (fH.pG D.NN (D.T.qF _ D.NN.m) (E3 D) hr (aa (pv 0) (aa (pv 1) ah))) ah))));have shl:=R.bd s h0 h1;have rol:=jT (sh s);refine⟨Y,Y,r,rows,s,sh,rfl,R.at_,R.len,R.ents,R.snd,R.rk,h0,h1,R.N4,R.bd,λo H1 R1 s1 ho=>?_⟩;refine⟨o,cM (sh s),rfl,R1,Q,λq H2 I2 s2 hq=>k q H2 ?_ (s1.trans s2) (bh s1 hq)⟩;rw[yS _ (mq _),eN,Lj (n8 R.snd R.rk R.N4 s h0 h1)]at I2;exact I2
abbrev kO(ws:iH):HO:=.lst (ws.map λw=>V.str (fD w))
abbrev Ri:List (Str × Int):=[(Str.ofString "fresh",0),(Str.ofString "cut",3),(Str.ofString "move",4),(Str.ofString "quote",5),(Str.ofString "window",3),(Str.ofString "fix",1),(Str.ofString "back",2),(Str.ofString "fork",2),(Str.ofString "untie",1),(Str.ofString "read",1)]
abbrev ZP:List (Str × Int):=[(Str.ofString "put",2),(Str.ofString "strike",0),(Str.ofString "blot",1),(Str.ofString "lift",1)]
def mK(D:List (Str × Int))(n:List Nat):Option Int:=(D.find? λp=>decide (fD n=p.1)).map (·.2)
theorem zA{D:List (Str × Int)}{n:List Nat}{i:Int}(h:mK D n=some i):(D.find? λp=>decide (fD n=p.1))=some (fD n,i):=by
 unfold mK at h;obtain⟨⟨x,j⟩,e,rfl⟩:=Option.map_eq_some_iff.mp h;have z:=List.find?_some e;have:fD n=x:=of_decide_eq_true z;rw[e,this]
abbrev Fb:List Nat:=[116,105,101]
inductive jK where
 | AF (h:Int) (t:List Nat)
 | plain (n:List Nat) (ns:List Int)
 | sG (n:List Nat) (ns:List Int) (r:Row)
def jK.At(H:Hp)(p:Addr):jK->Prop
 | .AF h t=>H p=some (.tup [.str "pour",.int h,.str (fD t)])
 | .plain n ns=>H p=some (.tup (.str (fD n)::ns.map V.int))
 | .sG n ns r=>∃ q,H p=some (.tup (.str (fD n)::ns.map V.int++[.ref q]))/\cE H q r
def vf(n:Int):Prop:=0<=n/\n<10^60
def Ob(r:Row):Prop:=r.length<=29/\∀ p∈r,vf p.1/\vf p.2
def jK.Ok:jK->Prop
 | .AF h t=>vf h/\t.length<=200
 | .plain n ns=>mK Ri n=some (ns.length:Int)/\∀ x∈ns,vf x
 | .sG n ns r=>mK ZP n=some (ns.length:Int)/\(∀ x∈ns,vf x)/\Ob r
abbrev vg(p:Int × Int):List Nat:=iO.dg p.1++45::iO.dg p.2
theorem Ln{p:Int × Int}(h:vf p.1/\vf p.2):(vg p).length<=121:=by
 rw[dB,mS];have a:=iO.Hr h.1.1 h.1.2;have b:=iO.Hr h.2.1 h.2.2;lia
theorem C3{n:Int}(h:vf n):n.natAbs.log2<1920:=by
 obtain⟨h0,h1⟩:=h;by_cases z:n.natAbs=0
 ·rw[z];decide
 ·rw[Nat.log2_lt z];have a:n.natAbs<10^60:=by lia
  exact qh a (iI (show (10:Nat)^60<=2^200 by decide) (Nat.pow_le_pow_right (by decide) (by decide)))
inductive ie where
 | num (x:Int)
 | tx (t:List Nat)
 | row (r:Row)
def ie.At(H:Hp)(v:V):ie->Prop
 | .num x=>v=.int x
 | .tx t=>v=.str (fD t)
 | .row r=>∃ q,v=.ref q/\cE H q r
def ie.Ok:ie->Prop
 | .num x=>vf x
 | .tx t=>t.length<=200
 | .row r=>Ob r
abbrev Fc(r:Row):List Nat:=r.flatMap λp=>32::vg p
def ie.line:ie->List Nat
 | .num x=>32::iO.dg x
 | .tx t=>32::t
 | .row r=>Fc r
theorem Oc{r:Row}(h:Ob r):(Fc r).length<=4000:=by
 have key:∀ l:Row,(∀ p∈l,vf p.1/\vf p.2)->(Fc l).length<=122*l.length:=by
  intro l
  induction l with
  | nil=>intro _;exact gh _
  | cons p l ih =>
   intro g;have z:=ih λq hq=>g q (nQ _ hq);have z2:=Ln (g p List.mem_cons_self);show ((32::vg p)++Fc l).length<=_;rw[dB,mS,mS];lia
 have:=key r h.2;have:=h.1;lia
theorem ie.Fd{p:ie}(h:p.Ok):p.line.length<=4000:=by
 cases p with
 | num x=>have:=iO.Hr h.1 h.2;show (32::iO.dg x).length<=_;rw[mS];lia
 | tx t=>have h':t.length<=200:=h;show (32::t).length<=_;rw[mS];lia
 | row r=>exact Oc h
def jK.nm:jK->List Nat
 | .AF _ _=>[112,111,117,114]
 | .plain n _=>n
 | .sG n _ _=>n
def jK.parts:jK->List ie
 | .AF h t=>[.num h,.tx t]
 | .plain _ ns=>ns.map .num
 | .sG _ ns r=>ns.map .num++[.row r]
def jK.line:jK->List Nat
 | d=>d.nm++d.parts.flatMap ie.line
theorem Od{H:Hp}{p:Addr}{d:jK}(h:d.At H p):∃ vs,H p=some (.tup (.str (fD d.nm)::vs))/\bX (λv q=>ie.At H v q) vs d.parts:=by
 have nums:∀ ns:List Int,bX (λv q=>ie.At H v q) (ns.map V.int) (ns.map ie.num):=λns=>by
  induction ns with
  | nil=>exact .nil
  | cons x ns ih=>exact .cons rfl ih
 cases d with
 | AF x t=>exact⟨_,by rw[h,show Str.ofString "pour"=fD [112,111,117,114] by decide +kernel];rfl,.cons rfl (.cons rfl .nil)⟩
 | plain n ns=>exact⟨_,h,nums ns⟩
 | sG n ns r =>
  obtain⟨q,e,z⟩:=h;exact⟨ns.map V.int++[.ref q],by rw[e];rfl,(nums ns).snoc ⟨q,rfl,z⟩⟩
theorem Lo{d:jK}(h:d.Ok):∀ q∈d.parts,q.Ok:=by
 cases d with
 | AF x t =>
  intro q hq;rcases List.mem_cons.mp hq with z|z
  ·rw[z];exact h.1
  ·rw[List.mem_singleton.mp z];exact h.2
 | plain n ns =>
  intro q hq;obtain⟨x,hx,rfl⟩:=List.mem_map.mp hq;exact h.2 x hx
 | sG n ns r =>
  intro q hq;rcases List.mem_append.mp hq with z|z
  ·obtain⟨x,hx,rfl⟩:=List.mem_map.mp z;exact h.2.1 x hx
  ·rw[List.mem_singleton.mp z];exact h.2.2
theorem Fe{H:Hp}:∀ {vs:List V} {ps:List ie} {i:Nat} {v:V},bX (λv q=>ie.At H v q) vs ps->vs[i]?=some v->∃ q,ps[i]?=some q/\q.At H v
 | _,_,_,_,.nil,h=>by simp at h
 | _,_,0,_,.cons o t,h=>by
  have e:=qj h;subst e;exact⟨Y,o⟩
 | _,_,i+1,_,.cons o t,h=>by
  obtain⟨q,e,z⟩:=Fe (i:=i) t (by simpa using h);exact⟨q,by simpa using e,z⟩
theorem BZ{ps:List ie}(h:∀ q∈ps,q.Ok):(ps.flatMap ie.line).length<=4000*ps.length:=by
 induction ps with
 | nil=>exact Nat.zero_le _
 | cons p ps ih =>
  have z:=ih λq hq=>h q (nQ _ hq);have z2:=ie.Fd (h p List.mem_cons_self);rw[ji,dB,mS,Nat.mul_add,Nat.mul_one];lia
theorem Rj(n:List Nat):∀ ws:iH,iO.jn 32 (n::ws)=n++ws.flatMap (λw=>32::w):=by
 intro ws
 induction ws generalizing n with
 | nil=>show n=_;simp
 | cons w ws ih =>
  show n++32::iO.jn 32 (w::ws)=_;rw[ih w,ji];simp
theorem Ff{D:List (Str × Int)}{n:List Nat}{k:Int}(hD:∀ p∈D,32∉p.1.cps.toList/\p.1.cps.toList≠[112,111,117,114]/\p.1.cps.toList≠Fb/\p.1.cps.toList.length<=10)(h:mK D n=some k):32∉n/\n≠[112,111,117,114]/\n≠Fb/\n.length<=10:=by
 have z:=hD _ (List.mem_of_find?_eq_some (zA h));have e:(fD n).cps.toList=n:=iO.uS n;rw[show ((fD n,k):Str × Int).1=fD n from rfl,e]at z;exact z
theorem Oe{n:List Nat}{k:Int}(h:mK Ri n=some k):32∉n/\n≠[112,111,117,114]/\n≠Fb/\n.length<=10:=Ff nofun h
theorem Of{n:List Nat}{k:Int}(h:mK ZP n=some k):32∉n/\n≠[112,111,117,114]/\n≠Fb/\n.length<=10:=Ff nofun h
theorem Og(r:Row):Fc r=(r.map vg).flatMap λw=>32::w:=by
 induction r with
 | nil=>rfl
 | cons x r ih=>rw[jI,ji,← ih];rfl
theorem jK.At.same{H H':Hp}{p:Addr}{d:jK}(h:d.At H p)(s:aI H H'):d.At H' p:=by
 cases d with
 | AF x t=>exact s _ _ h
 | plain n ns=>exact s _ _ h
 | sG n ns r=>obtain⟨q,e,r1⟩:=h;exact⟨q,s _ _ e,r1.same s⟩
theorem Lp{n:List Nat}{k:Int}(h:mK Ri n=some k):k<=5:=by
 have z:∀ p∈Ri,p.2<=5:=by decide +kernel
 exact z _ (List.mem_of_find?_eq_some (zA h))
theorem Lq{n:List Nat}{k:Int}(h:mK ZP n=some k):k<=5:=by
 have z:∀ p∈ZP,p.2<=5:=by decide +kernel
 exact z _ (List.mem_of_find?_eq_some (zA h))
theorem HN{d:jK}(ok:d.Ok):d.nm≠Fb/\d.nm.length<=10/\d.parts.length<=10:=by
 cases d with
 | AF x t=>exact⟨by show [112,111,117,114]≠Fb;decide,by show 4<=10;decide,by show 2<=10;decide⟩
 | plain n ns =>
  obtain⟨_,_,f3,f4⟩:=Oe ok.1;have:=Lp ok.1;exact⟨f3,f4,by show (ns.map ie.num).length<=10;rw[cG];lia⟩
 | sG n ns r =>
  obtain⟨_,_,f3,f4⟩:=Of ok.1;have:=Lq ok.1;exact⟨f3,f4,by show (ns.map ie.num++[ie.row r]).length<=10;rw[dB,cG];show ns.length+1<=10;lia⟩
class inductive zB
 | mk (q:Addr) (r:Row) (_:vs=[.ref q]) (_:cE H q r) (_:Ob r) (_: ∀ (a:Addr) (H':Hp),H' a=some (kO (r.map vg))->aI H H'->H a=none->Q (.ref a) H')
theorem Fg:aF ["row"] ["row"] (az oO):=eS
theorem Oh{a b:Int}(ha:0<=a)(hb:0<=b):(Str.empty++Str.ofString (toString a)++Str.ofString "-"++Str.ofString (toString b))=fD (vg (a,b)):=by
 rw[iO.yp ha,iO.yp hb,show Str.ofString "-"=fD [45] by decide +kernel,show Str.empty=fD [] from rfl,CN,CN,CN];simp
theorem C4:‹(1,31,["row"],zB)›:=λD=>by
 specialize eU D.QS.F Fg;obtain⟨q,r,rfl,⟨as,hq,pa⟩,⟨lr,fr⟩,k⟩:=h;refine⟨_,(au (aG (gH (N:=["start","stop"]) (mD (sc:=az oO) (NX:=["row"]) (jx:=[none,none]) rfl rfl rfl nofun nofun rfl nofun rfl nofun) rfl (cJ (pv 0)) (λ_ _ _ _ _ _=>(uP (n:=2) rfl (b8 (b9 (i:=0) (show List.Nodup (["start","stop"]:List Str) by decide +kernel)) (b8 (b9 (i:=1) (show List.Nodup (["start","stop"]:List Str) by decide +kernel)) gO)))) (λ_ _ _ _ _ _=>gP) (λ_ _ _ _ _ _=>(iO.NJ (iO.JA (pv 0) (iO.QL (iO.JA (pv 1) iO.QK)))))))),?_⟩;have lp:=Paired.length pa;refine⟨Y,q,rfl,⟨_,bI.of hq⟩,λacc cS=>gG (K:=K) (a:=q) (xs:=as.map V.ref) (λi σ H2=>∃ u0 u1:Option V,σ=[u0,u1]/\H2 acc=some (kO ((r.take i).map vg))/\aI H H2) ⟨none,none,rfl,af,ak cS _⟩ (by rintro i σ H2 _ ⟨_,_,_,_,s2⟩;exact bI.of (s2 _ _ hq)) ?_ ?_⟩
 ·rintro i y σ H2 hi ⟨u0,u1,rfl,h2,s2⟩;rw[gE]at hi;obtain⟨a,ei,rfl⟩:=Option.map_eq_some_iff.mp hi;obtain⟨p,ep,hp⟩:=pa.get ei;have fp:=fr p (om ep);have il:=(List.getElem?_eq_some_iff.mp ep).1;exists a,Y,dH.of (s2 _ _ hp),rfl,P,rfl,Z;refine⟨Y,Y,C3 fp.1,Y,Y,C3 fp.2,_,h2,aS (by rw[cG,cG,gF];lia),P,rfl,?_,bP cS s2 (aJ acc _ _)⟩;rw[af,take_snoc ep,gJ,jI,List.map_nil,Oh fp.1.1 fp.2.1];show some (HO.lst _)=some (HO.lst _);rw[gJ];rfl
 ·rintro σ H2 ⟨u0,u1,rfl,h2,s2⟩;rw[cG,lp,gR]at h2;exact k acc H2 h2 s2 cS
def ie.words:ie->iH
 | .num x=>[iO.dg x]
 | .tx t=>[t]
 | .row r=>r.map vg
theorem uc(ps:List ie):(ps.flatMap ie.words).flatMap (λw=>32::w)=ps.flatMap ie.line:=by
 induction ps with
 | nil=>rfl
 | cons p ps ih =>
  rw[ji,ji,List.flatMap_append,ih];congr 1
  cases p with
  | num x=>show (32::iO.dg x)++[]=32::iO.dg x;rw[gT]
  | tx t=>show (32::t)++[]=32::t;rw[gT]
  | row r=>exact (Og r).symm
class inductive Oi
 | mk (p:Addr) (d:jK) (_:vs=[.ref p]) (_:d.At H p) (_:d.Ok) (_:d.nm≠Fb/\d.nm.length<=10/\d.parts.length<=10) (_: ∀ H',aI H H'->Q (.str (fD d.line)) H')
theorem lF:aF ["deed","words","thing"] ["deed"] (az qv):=eS
theorem Fi(W:iH):(W.map List.length).sum+W.length=(W.flatMap λw=>32::w).length:=by
 induction W with
 | nil=>rfl
 | cons x W ih =>
  rw[jI,List.sum_cons,mS,ji,dB,mS,← ih];lia
theorem Lr(a b:iH):(a.map λw=>V.str (fD w))++(b.map λw=>V.str (fD w))=(a++b).map λw=>V.str (fD w):=List.map_append.symm
theorem AG:‹(2,32,["deed"],Oi)›:=λD=>by
 have ud:bw P w K mg zt cL 1 _ _ ["row"] zB:=C4 D;specialize eU D.YD.F lF;obtain⟨p,d,rfl,hd,ok,nn,k⟩:=h;exists _,(aj (bN (aT dQ (aO br (pv 0) ay) bC (bx _)) (au (aG (dM PySem.F.plainAttrs_str PySem.F.slot_str_join PySem.F.type_str_join iO.EO bC (aa (bG jo (bG jo (bG jo (bM (aa bC ah)) (aC D.QS ud hr (aa (aO br (pv 0) ay) ah))) (bM (aa bC ah))) (aC D.QS ud hr (aa (aO br (pv 0) ay) ah))) ah)))) aZ) (aj (aX (i:=1) lF.nd (bM (aa (aO br (pv 0) ay) ah))) (aj (d9 PassesOwn.never rfl (Ug (iS Uq (pv 0) (iY ay) mX)) (b9 (i:=2) lF.nd) (au (vE (i:=1) lF.nd rfl (Or.inl rfl) (Eb (gw (cD dR rfl D.T.dF xJ (aa (pv 2) (aa (pP rfl D.T.jf sN) ah)))) (aC D.QS ud hr (aa (pv 2) ah)) (bM (aa (ER.Yq (pv 2)) ah))) vW))) (au (aG (dM PySem.F.plainAttrs_str PySem.F.slot_str_join PySem.F.type_str_join iO.EO bC (aa (pv 1) ah)))))));have tt:Str.ofString "tie"=fD Fb:=by decide +kernel
 have kil:kitOne K (.type "int") (.type "list")=some false:=by kernel_rfl
 have ksl:kitOne K (.type "str") (.type "list")=some false:=by kernel_rfl
 obtain⟨vs,hp,al⟩:=Od hd;obtain⟨n1,n2,n3⟩:=nn;have pk:=Lo ok;have lv:=al.len;have ln:d.line=d.nm++d.parts.flatMap ie.line:=rfl;exists Y,p,K,V,dH.of hp,t7;refine⟨rfl,Y,cX (λc=>absurd (of_decide_eq_true c) (by rw[tt];intro z;exact n1 (QJ (V.str.inj z)))) (λ_=>?_)⟩;refine⟨Y,p,K,V,dH.of hp,t7,lD,λwl fwl=>?_⟩;have s0:=ak fwl (.lst [.str (fD d.nm)]);have h0:(aP H wl (.lst [.str (fD d.nm)])) wl=some (kO [d.nm]):=af;refine⟨Y,Y,p,Y,dH.of (s0 _ _ hp),?_,λtp htp=>?_⟩
 ·rintro⟨z,_⟩;have e:HT.iX (V.str (fD d.nm)::vs).length 0 (some 1)=min 1 (V.str (fD d.nm)::vs).length:=HT.IY _ _ 1;have z':HT.iX (V.str (fD d.nm)::vs).length 0 (some 1)=0:=z;rw[e,mS]at z';lia
 have ec:j3 (V.str (fD d.nm)::vs) (some 1) none=vs:=by
  unfold j3;have e:HT.iX (V.str (fD d.nm)::vs).length 0 (some 1)=1:=(HT.IY _ _ 1).trans (by rw[mS];lia);have e2:HT.iX (V.str (fD d.nm)::vs).length (V.str (fD d.nm)::vs).length none=vs.length+1:=rfl;rw[e,e2];show vs.take (vs.length+1-1)=vs;exact uA ∅
 rw[ec];change (aP H wl (.lst [.str (fD d.nm)])) tp=none at htp;have s1':=ak htp (.tup vs);have h1:(aP (aP H wl (.lst [.str (fD d.nm)])) tp (.tup vs)) tp=some (.tup vs):=af;have h1w:=s1' _ _ h0;have s1:=s0.trans s1';have nwt:wl≠tp:=aA h0 htp;generalize aP (aP H wl (.lst [.str (fD d.nm)])) tp (.tup vs)=H1 at s1 h1 h1w;refine⟨tp,rfl,⟨_,dH.of h1⟩,PV (K:=K) (a:=tp) (xs:=vs) (λi σ H2=>∃ u:Option V,σ=[some (.ref p),some (.ref wl),u]/\H2 wl=some (kO (d.nm::(d.parts.take i).flatMap ie.words))/\H2 tp=some (.tup vs)/\aI H H2) ⟨none,rfl,by rw[List.take_zero,List.flatMap_nil];exact h1w,h1,s1⟩ (by rintro i σ H2 _ ⟨_,_,_,h2,_⟩;exact dH.of h2) ?_ ?_⟩
 ·rintro i v σ H2 hi ⟨u,rfl,h2,h2t,s2⟩;obtain⟨q,eq,hq⟩:=Fe al hi;have qk:=pk q (om eq);have ql:=ie.Fd qk;have fl:=BZ (ps:=d.parts.take i) λq hq=>pk q (List.mem_of_mem_take hq);have ft:(d.parts.take i).length<=10:=by rw[gF];lia
  have fs:=Fi ((d.parts.take i).flatMap ie.words);rw[uc]at fs
  have nx:d.nm::(d.parts.take (i+1)).flatMap ie.words=(d.nm::(d.parts.take i).flatMap ie.words)++q.words:=by
   rw[take_snoc eq,List.flatMap_append,ji,List.flatMap_nil,gT,List.cons_append]
  have lB:(d.nm::(d.parts.take i).flatMap ie.words).length<=50000:=by rw[mS];lia
  have lq:q.words.length<=29:=by
   cases q with
   | num x=>show 1<=29;decide
   | tx t=>show 1<=29;decide
   | row r=>show (r.map vg).length<=29;rw[cG];exact qk.1
  have kq:∀ (t:Addr) (H3:Hp) (v':V),aI H2 H3->H2 t=none->H3 t=some (kO q.words)->∃ (l b:Addr) (xs zs:List V),V.ref wl=.ref l/\V.ref t=.ref b/\H3 l=some (.lst xs)/\H3 b=some (.lst zs)/\xs.length+zs.length<=sizeLine/\∃ u:Option V,([some (.ref p),some (.ref wl),some v']:List (Option V)).set 1 (some (.ref l))=[some (.ref p),some (.ref wl),u]/\(aP H3 l (.lst (xs++zs))) wl=some (kO (d.nm::(d.parts.take (i+1)).flatMap ie.words))/\(aP H3 l (.lst (xs++zs))) tp=some (.tup vs)/\aI H (aP H3 l (.lst (xs++zs))):=by
   intro t H3 v' s3 Js h3;exists wl,t,Z,s3 _ _ h2,h3,iz (aS (by rw[cG,cG];lia)),Y,?_,?_
   ·rw[Lr,af,nx]
   ·rw[aL nwt.symm];exact s3 _ _ h2t
   ·exact bP fwl (s2.trans s3) (aJ wl _ _)
  cases q with
  | num x =>
   cases (show v=.int x from hq);refine⟨Y,Y,_,"list",P,rfl,.int x,kil,Y,d7 ⟨Y,.inl ⟨x,rfl,C3 qk,?_⟩⟩⟩;rw[iO.yp qk.1];exact⟨lD,λt Js=>kq t _ (.int x) (ak Js _) Js af⟩
  | tx t =>
   cases (show v=.str (fD t) from hq);have lt:t.length<=200:=qk;refine⟨Y,Y,_,"list",P,rfl,.str _,ksl,Y,d7 ⟨Y,.inr ⟨t,rfl,Q,?_⟩⟩⟩;exact⟨lD,λt' Js=>kq t' _ (.str (fD t)) (ak Js _) Js af⟩
  | row r =>
   obtain⟨qa,rfl,hr⟩:=hq;have JF:=hr.same s2;obtain⟨as,has,_⟩:=id JF;refine⟨Y,Y,_,"list",P,rfl,.lst has,Yb K,Y,jr ?_⟩;exact⟨Y,qa,r,rfl,JF,qk,λt H3 h3 s3 Js=>kq t H3 (.ref qa) s3 Js h3⟩
 ·rintro σ H2 ⟨u,rfl,h2,h2t,s2⟩;rw[lv,gR]at h2;have fs:=Fi (d.parts.flatMap ie.words);rw[uc]at fs;have fl:=BZ (ps:=d.parts) pk;exists rfl,Y,wl,32,_,by rw[show Str.ofString " "=⟨#[32]⟩ by decide +kernel],rfl,h2,?_
  ·rw[jI,List.sum_cons,mS];lia
  rw[Rj,uc,← ln];exact k H2 s2
structure ZQ(S:Addr->Prop)(H:Hp)(st op r:Addr)(aN:List aQ):Prop where
 own:S r
 ne:r≠st/\r≠op
 at':bK H (.ref r) aN
def HP(S:Addr->Prop)(H:Hp)(st op a:Addr)(rows:List (List aQ)):Prop:=S a/\a≠st/\a≠op/\∃ rs:List Addr,H a=some (.lst (rs.map V.ref))/\bX (ZQ S H st op) rs rows
abbrev kj:=List (List (List aQ))
structure Opn(bJ:kj)(ops:List Int):Prop where
 B0:∃ last,bJ.getLast?=some last/\ops.length=last.length
 fit:∀ (s:Nat) (o:Int),ops[s]?=some o->0<=o/\o<bJ.length/\∀ (m:Nat) (rows:List (List aQ)),bJ[m]?=some rows->(o<=m↔s<rows.length)
 less:∀ (m:Nat) (rows:List (List aQ)),bJ[m]?=some rows->rows.length<=ops.length
structure Sh(C:Addr)(S:Addr->Prop)(H:Hp)(x d st op:Addr)(bJ:kj)(ops:List Int):Prop where
 sx:S x
 ss:S st
 so:S op
 al:∀ a,S a->∃ ob,H a=some ob
 hx:H x=some (.ins C d [("states",.ref st),("openings",.ref op)])
 hs:∃ as:List Addr,H st=some (.lst (as.map V.ref))/\bX (HP S H st op) as bJ
 ho:H op=some (.lst (ops.map V.int))
 ne:st≠op
 Py:Opn bJ ops
theorem bK.fr{H H':Hp}{r:Addr}{aN:List aQ}(h:bK H (.ref r) aN)(k:∀ xs,H r=some (.lst xs)->H' r=some (.lst xs))(t:∀ a xs,H a=some (.tup xs)->H' a=some (.tup xs)):bK H' (.ref r) aN:=by
 obtain⟨a,vs,e,h1,h2⟩:=h;cases e;exact⟨r,vs,rfl,k _ h1,h2.mono λv it ⟨b,e,hb⟩=>⟨b,e,t _ _ hb⟩⟩
theorem HP.fr{S S':Addr->Prop}{H H':Hp}{st a:Addr}{rows:List (List aQ)}(h:HP S H st op a rows)(sub:∀ a,S a->S' a)(k:∀ a ob,H a=some ob->S a->a≠st->a≠op->H' a=some ob)(t:∀ a xs,H a=some (.tup xs)->H' a=some (.tup xs)):HP S' H' st op a rows:=by
 obtain⟨sa,n1,n2,rs,hr,al⟩:=h;exact⟨sub _ sa,n1,n2,rs,k _ _ hr sa n1 n2,al.mono λr aN q=>⟨sub _ q.own,q.ne,q.at'.fr (λxs e=>k _ _ e q.own q.ne.1 q.ne.2) t⟩⟩
theorem Sh.fr{S:Addr->Prop}{H H':Hp}{x d st:Addr}{bJ:kj}{ops:List Int}(h:Sh C S H x d st op bJ ops)(k:∀ a ob,H a=some ob->S a->H' a=some ob)(t:∀ a xs,H a=some (.tup xs)->H' a=some (.tup xs)):Sh C S H' x d st op bJ ops:=by
 obtain⟨sx,ss,so,al,hx,⟨as,hs,a2⟩,ho,ne,Py⟩:=h;refine⟨sx,ss,so,λa z=>?_,k _ _ hx sx,⟨as,k _ _ hs ss,a2.mono λa rows q=>q.fr (λ_ z=>z) (λa ob e z _ _=>k _ _ e z) t⟩,k _ _ ho so,ne,Py⟩;obtain⟨ob,e⟩:=al a z;exact⟨ob,k _ _ e z⟩
theorem Sh.same{S:Addr->Prop}{H H':Hp}{x d st:Addr}{bJ:kj}{ops:List Int}(h:Sh C S H x d st op bJ ops)(k:aI H H'):Sh C S H' x d st op bJ ops:=h.fr (λa ob e _=>k a ob e) (λa xs e=>k _ _ e)
theorem Sh.keep{S:Addr->Prop}{H H':Hp}{x d st:Addr}{bJ:kj}{ops:List Int}{ls:List V}(h:Sh C S H x d st op bJ ops)(hl:H l=some (.lst ls))(nl:¬ S l)(k:cH l H H'):Sh C S H' x d st op bJ ops :=
 h.fr (λa ob e z=>k a ob e (λq=>nl (by rw[← q];exact z))) (λa xs e=>k _ _ e (dG e hl))
theorem zC:∀ {as bs:List Addr},as.map V.ref=bs.map V.ref->as=bs
 | [],[],_=>rfl
 | [],_::_,h=>by cases h
 | _::_,[],h=>by cases h
 | a::as,b::bs,h=>by
  rw[jI,jI]at h;injection h with h1 h2;cases h1;rw[zC h2]
theorem Sh.last{S:Addr->Prop}{H:Hp}{x d st:Addr}{bJ:kj}{ops:List Int}(h:Sh C S H x d st op bJ ops){as:List Addr}(ha:H st=some (.lst (as.map V.ref))):∃ NB a,as=NB++[a]/\∀ last,bJ.getLast?=some last->HP S H st op a last:=by
 obtain⟨bs,hb,a2⟩:=h.hs
 have e:as=bs:=by
  rw[ha]at hb;have:=HO.lst.inj (qj hb);exact zC this
 subst e;obtain⟨last,hl,_⟩:=h.Py.B0
 obtain⟨p',rfl⟩:∃ p',bJ=p'++[last]:=by
  rcases oz bJ with rfl|⟨p',l,rfl⟩
  ·cases hl
  ·rw[mT,rJ]at hl;cases hl;exact⟨p',mT⟩
 obtain⟨NB,a,rfl,_,r⟩:=a2.split;refine⟨NB,a,rfl,λl e=>?_⟩;rw[hl]at e;cases e;exact r
theorem ue(xs:List V){p:Int}(h:0<=p):j3 xs none (some p)=xs.take p.toNat:=by
 unfold j3;have e1:HT.iX xs.length 0 none=0:=rfl
 have e2:HT.iX xs.length xs.length (some p)=min p.toNat xs.length:=by
  show (if p<0 then (p+(xs.length:Int)).toNat else min p.toNat xs.length)=_;rw[if_neg ∅]
 rw[e1,e2,List.drop_zero,Nat.sub_zero];rcases Nat.le_total p.toNat xs.length with z|z
 ·rw[Nat.min_eq_left z]
 ·rw[Nat.min_eq_right z,uA (gh _),uA z]
theorem we(xs:List V){p:Int}(h:0<=p):j3 xs (some p) none=xs.drop p.toNat:=by
 unfold j3;have e1:HT.iX xs.length xs.length none=xs.length:=rfl
 have e2:HT.iX xs.length 0 (some p)=min p.toNat xs.length:=by
  show (if p<0 then (p+(xs.length:Int)).toNat else min p.toNat xs.length)=_;rw[if_neg ∅]
 rw[e1,e2];rcases Nat.le_total p.toNat xs.length with z|z
 ·rw[Nat.min_eq_left z,uA (by rw[rK];lia)]
 ·rw[Nat.min_eq_right z,yv (gh _),yv z];simp
class inductive Ls
 | mk (a r:Addr) (rs:List V) (s:Nat) (_:vs=[.ref a,.int (s:Nat),.ref r]) (_:H a=some (.lst rs)) (_:s<=rs.length) (_:rs.length<=1000) (_: ∀ (p:Addr) (H':Hp),H' p=some (.lst (rs.take s++[.ref r]++rs.drop (s+1)))->aI H H'->H p=none->Q (.ref p) H')
class inductive Rk(C:Addr)
 | mk (x d:Addr) (_:vs=[.ref x]) (_:H x=some (.ins C d [])) (_: ∀ (st op z:Addr) (H':Hp),Sh C (λa=>a=x\/a=st\/a=op\/a=z) H' x d st op [[]] []->cH x H H'->H st=none->H op=none->H z=none->Q .gm H')
class inductive ZR(C:Addr)
 | mk (x d st op:Addr) (as:List V) (_:vs=[.ref x]) (_:H x=some (.ins C d [("states",.ref st),("openings",.ref op)])) (_:H st=some (.lst as)) (_:Q (.int ((as.length:Nat)-1)) H)
class inductive VF(C:Addr)
 | mk (S:Addr->Prop) (x d st op:Addr) (bJ:kj) (ops:List Int) (_:vs=[.ref x]) (_:Sh C S H x d st op bJ ops) (_:Q (.int (ops.length:Nat)) H)
theorem Lu:aF ["state","sheet","items"] ["state","sheet","items"] (az yP):=eS
theorem wg:aF ["self"] ["self"] (az kG):=eS
theorem Fj:aF ["self"] ["self"] (az sZ):=eS
theorem C5:aF ["self"] ["self"] (az qw):=eS
theorem zD:‹(1,33,["state","sheet","items"],Ls)›:=λD=>by
 specialize eU D.Vg.F Lu;obtain⟨a,r,rs,s,rfl,ha,sl,l1,k⟩:=h;exists _,(aj (bN (gi (qp gp gp ay (pv 1) (fm D.T.eV (pv 0)))) (au iR) aZ) (au (aG (bG jo (bG jo (iS ly (pv 0) mX (iY (pv 1))) (bM (aa (pv 2) ah))) (iS ly (pv 0) (iY (bG dh (pv 1) ay)) mX)))));refine⟨Y,Z,Y,cX (λc0=>?_) (λc0=>absurd (decide_eq_true ∅) c0)⟩;exists Y,a,Y,.inl (bI.of ha),Z,Y;rw[decide_eq_true (show ((s:Nat):Int)<=((rs.length:Nat):Int) by lia)];refine d7 ?_;refine⟨Y,Y,Y,a,Y,bI.of ha,λp1 WK=>?_⟩;rw[ue _ ∅,Int.toNat_natCast];have s1:aI H (aP H p1 (.lst (rs.take s))):=ak WK _;have h1:(aP H p1 (.lst (rs.take s))) p1=some (.lst (rs.take s)):=af;generalize aP H p1 (.lst (rs.take s))=H1 at s1 h1;refine⟨Y,lD,λp2 SI=>?_⟩;have s2:aI H1 (aP H1 p2 (.lst [.ref r])):=ak SI _;have h2:(aP H1 p2 (.lst [.ref r])) p2=some (.lst [.ref r]):=af;generalize aP H1 p2 (.lst [.ref r])=H2 at s2 h2;refine⟨p1,p2,Z,s2 _ _ h1,h2,(by rw[gF];exact iz (aS (by simp only[qX];lia))),λp3 hp3=>?_⟩;have s3:aI H2 (aP H2 p3 (.lst (rs.take s++[.ref r]))):=ak hp3 _;have h3:(aP H2 p3 (.lst (rs.take s++[.ref r]))) p3=some (.lst (rs.take s++[.ref r])):=af;generalize aP H2 p3 (.lst (rs.take s++[.ref r]))=H3 at s3 h3;have Oj:=s1.trans (s2.trans s3);refine⟨Y,Y,Z,Y,a,Y,bI.of (Oj _ _ ha),λp4 hp4=>?_⟩;rw[we _ ∅,show (((s:Nat):Int)+1).toNat=s+1 by lia];have s4:aI H3 (aP H3 p4 (.lst (rs.drop (s+1)))):=ak hp4 _;have h4:(aP H3 p4 (.lst (rs.drop (s+1)))) p4=some (.lst (rs.drop (s+1))):=af;generalize aP H3 p4 (.lst (rs.drop (s+1)))=H4 at s4 h4;refine⟨p3,p4,Z,s4 _ _ h3,h4,(by rw[dB,gF,rK];exact iz (aS (by simp only[qX];lia))),λp5 hp5=>?_⟩;have s04:=Oj.trans s4;exact k p5 _ af (s04.trans (ak hp5 _)) (bh s04 hp5)
theorem vh:‹(1,34,["self"],(Rk CS))›:=λD=>by
 specialize eU D.YE.F wg;obtain⟨x,d,rfl,hx,k⟩:=h;exists _,(aj (ja (pv 0) (bM (aa (bM ah) ah)) rfl) (au (ja (pv 0) (bM ah) rfl)));refine⟨iP,λz hz=>?_⟩;have a0:aI H (aP H z (.lst [])):=ak hz _;have z0:(aP H z (.lst [])) z=some (.lst []):=af;generalize aP H z (.lst [])=H0 at a0 z0;refine⟨lD,λst Ck=>?_⟩;have a1:aI H0 (aP H0 st (.lst [.ref z])):=ak Ck _;have b1:(aP H0 st (.lst [.ref z])) st=some (.lst [.ref z]):=af;generalize aP H0 st (.lst [.ref z])=H1 at a1 b1;have a01:=a0.trans a1;exists Y,x,CS,d,Y,a01 _ _ hx,D.cF.cl,D.jV,E;have k2:cH x H1 (aP H1 x (.ins CS d (L2.dZ "states" (.ref st) []))):=aJ x _ _;have h2:(aP H1 x (.ins CS d (L2.dZ "states" (.ref st) []))) x=some (.ins CS d [("states",.ref st)]):=af;generalize aP H1 x (.ins CS d (L2.dZ "states" (.ref st) []))=H2 at k2 h2;have VG:st≠x:=(aA (a0 _ _ hx) Ck).symm;have nzx:z≠x:=(aA hx hz).symm;have nzs:z≠st:=aA z0 Ck;have b2:=k2 _ _ b1 VG;have z2:=k2 _ _ (a1 _ _ z0) nzx;refine⟨iP,λop Pp=>?_⟩;have J4:op≠x:=(aA h2 Pp).symm;have nso:st≠op:=aA b2 Pp;have nzo:z≠op:=aA z2 Pp;refine⟨Y,x,CS,d,Y,ak Pp _ _ _ h2,D.cF.cl,D.nT,(by show 1<1000;decide),?_⟩
 have k5:cH x H (aP (aP H2 op (.lst [])) x (.ins CS d (L2.dZ "openings" (.ref op) [("states",.ref st)]))):=λa ob e n=>by
  rw[aL n];exact ak Pp _ _ _ (k2 _ _ (a01 _ _ e) n)
 have z5:(aP (aP H2 op (.lst [])) x (.ins CS d (L2.dZ "openings" (.ref op) [("states",.ref st)]))) z=some (.lst []):=by rw[aL nzx];exact ak Pp _ _ _ z2
 have s5:(aP (aP H2 op (.lst [])) x (.ins CS d (L2.dZ "openings" (.ref op) [("states",.ref st)]))) st=some (.lst [.ref z]):=by rw[aL VG];exact ak Pp _ _ _ b2
 have o5:(aP (aP H2 op (.lst [])) x (.ins CS d (L2.dZ "openings" (.ref op) [("states",.ref st)]))) op=some (.lst []):=by rw[aL J4];exact af
 have x5:(aP (aP H2 op (.lst [])) x (.ins CS d (L2.dZ "openings" (.ref op) [("states",.ref st)]))) x=some (.ins CS d [("states",.ref st),("openings",.ref op)]):=af;generalize aP (aP H2 op (.lst [])) x (.ins CS d (L2.dZ "openings" (.ref op) [("states",.ref st)]))=H5 at k5 z5 s5 o5 x5
 refine k st op z _ ⟨.inl rfl,.inr (.inl rfl),.inr (.inr (.inl rfl)),λa w=>?_,x5,⟨[z],s5,.cons ⟨.inr (.inr (.inr rfl)),nzs,nzo,[],z5,.nil⟩ .nil⟩,o5,nso,⟨⟨[],V⟩,λs o e=>(by cases s <;> cases e),λm rows e=>?_⟩⟩ k5 (bh a0 Ck) ?_ hz
 ·rcases w with rfl|rfl|rfl|rfl
  ·exact⟨_,x5⟩
  ·exact⟨_,s5⟩
  ·exact⟨_,o5⟩
  ·exact⟨_,z5⟩
 ·match m,e with
  | 0,e=>cases e;exact gh _
  | m+1,e=>cases e
 ·exact bh a01 (iC k2 J4 Pp)
theorem lG:‹(1,35,["self"],(ZR CS))›:=λD=>by
 specialize eU D.NO.F Fj;obtain⟨x,d,st,op,as,rfl,hx,hs,k⟩:=h;exists _,(au (aG (bG cN (fm D.T.eV (cO (pv 0) rfl)) ay)));exact⟨Y,x,CS,d,_,.ref st,rfl,hx,D.cF.cl,D.jV,rfl,st,Y,.inl (bI.of hs),Z,k⟩
theorem sH:‹(1,36,["self"],(VF CS))›:=λD=>by
 specialize eU D.Vh.F C5;obtain⟨S,x,d,st,op,bJ,ops,rfl,W,k⟩:=h;obtain⟨as,hs,a2⟩:=W.hs;obtain⟨last,hl,ol⟩:=W.Py.B0;exists _,(au (aG (fm D.T.eV (aO bu (cO (pv 0) rfl) (gB eL ay)))));obtain⟨NB,a,rfl,r⟩:=W.last hs;refine⟨Y,x,CS,d,_,.ref st,rfl,W.hx,D.cF.cl,D.jV,rfl,Y,st,P,.ref a,V,bI.of hs,(by rw[gJ];exact fG _ _),?_⟩;obtain⟨_,_,_,rs,ha,al⟩:=r last hl;exists a,Y,.inl (bI.of ha);rw[cG,al.len,← ol];exact k
def ZS(rows:List (List aQ))(ch:Nat × List aQ):List (List aQ):=rows.take ch.1++[ch.2]++rows.drop (ch.1+1)
def pL(rows:List (List aQ))(pR:List (Nat × List aQ)):List (List aQ):=pR.foldl ZS rows
def VH(rows:List (List aQ))(pR:List (Nat × List aQ)):Prop:=∀ (i:Nat) (ch:Nat × List aQ),pR[i]?=some ch->ch.1<=(pL rows (pR.take i)).length
theorem Rl{rows:List (List aQ)}{ch:Nat × List aQ}(h:ch.1<=rows.length):rows.length<=(ZS rows ch).length/\(ZS rows ch).length<=rows.length+1:=by
 unfold ZS;rw[dB,dB,gF,rK];simp only[qX];lia
theorem B3{rows:List (List aQ)}{pR:List (Nat × List aQ)}{i:Nat}{ch:Nat × List aQ}(h:pR[i]?=some ch):pL rows (pR.take (i+1))=ZS (pL rows (pR.take i)) ch:=by
 unfold pL;rw[take_snoc h,List.foldl_append];rfl
theorem zE{rows:List (List aQ)}{pR:List (Nat × List aQ)}(ok:VH rows pR):∀ i,i<=pR.length->rows.length<=(pL rows (pR.take i)).length/\(pL rows (pR.take i)).length<=rows.length+i
 | 0,_=>⟨Nat.le_refl _,gh _⟩
 | i+1,h=>by
  have e:pR[i]?=some pR[i]:=uz ∅;have a:=zE ok i ∅;have b:=Rl (ok i _ e);rw[B3 e];lia
theorem Opn.step{bJ:kj}{ops:List Int}{last rows:List (List aQ)}(h:Opn bJ ops)(hl:bJ.getLast?=some last)(le:last.length<=rows.length):Opn (bJ++[rows]) (ops++List.replicate (rows.length-last.length) ((bJ.length:Nat):Int)):=by
 obtain⟨⟨l',hl',ol⟩,fit,less⟩:=h;rw[hl]at hl';cases hl'
 have get:∀ (m:Nat) (r:List (List aQ)),(bJ++[rows])[m]?=some r->bJ[m]?=some r/\m<bJ.length\/m=bJ.length/\r=rows:=λm r e=>by
  by_cases c:m<bJ.length
  ·rw[List.getElem?_append_left c]at e;exact .inl ⟨e,c⟩
  ·rw[List.getElem?_append_right ∅]at e
   match hm:m-bJ.length,e with
   | 0,e=>cases e;exact .inr ⟨Q,rfl⟩
   | k+1,e=>cases e
 refine⟨⟨rows,rJ,by rw[dB,yx];lia⟩,λs o e=>?_,λm r e=>?_⟩
 ·by_cases c:s<ops.length
  ·rw[List.getElem?_append_left c]at e;obtain⟨f0,f1,f2⟩:=fit s o e;refine⟨f0,by rw[dB];simp only[qX];lia,λm r em=>?_⟩;rcases get m r em with ⟨q,_⟩|⟨rfl,rfl⟩
   ·exact f2 m r q
   ·constructor
    ·intro _;lia
    ·intro _;lia
  ·rw[List.getElem?_append_right ∅,List.getElem?_replicate]at e;split at e
   ·cases e;refine⟨Q,by rw[dB];simp only[qX];lia,λm r em=>?_⟩;rcases get m r em with ⟨q,lt⟩|⟨rfl,rfl⟩
    ·have:=less m r q;constructor
     ·intro z;lia
     ·intro z;lia
    ·constructor
     ·intro _;lia
     ·intro _;lia
   ·cases e
 ·rw[dB,yx];rcases get m r e with ⟨q,_⟩|⟨rfl,rfl⟩
  ·have:=less m r q;lia
  ·lia
theorem bX.take{α β:Type}{R:α->β->Prop}:∀ {as:List α} {bs:List β} (n:Nat),bX R as bs->bX R (as.take n) (bs.take n)
 | _,_,0,_=>by rw[List.take_zero,List.take_zero];exact .nil
 | _,_,n+1,.nil=>.nil
 | _,_,n+1,.cons e r=>.cons e (r.take n)
theorem bX.drop{α β:Type}{R:α->β->Prop}:∀ {as:List α} {bs:List β} (n:Nat),bX R as bs->bX R (as.drop n) (bs.drop n)
 | _,_,0,h=>h
 | _,_,n+1,.nil=>.nil
 | _,_,n+1,.cons _ r=>r.drop n
theorem Fl(v:V):∀ n:Nat,(List.replicate n [v]).flatten=List.replicate n v
 | 0=>rfl
 | n+1=>by rw[List.replicate_succ,List.flatten_cons,Fl v n,List.replicate_succ];rfl
theorem Rm{H:Hp}{a:Addr}{ob:HO}(h:H a=some ob):aP H a ob=H:=by
 funext b;by_cases e:b=a
 ·rw[e,af,h]
 ·rw[aL e]
def HQ(H:Hp)(a:Addr)(ch:Nat × List aQ):Prop:=∃ r:Addr,H a=some (.tup [.int (ch.1:Nat),.ref r])/\bK H (.ref r) ch.2
theorem HQ.same{H H':Hp}{a:Addr}{ch:Nat × List aQ}(s:aI H H'):HQ H a ch->HQ H' a ch:=λ⟨r,h1,h2⟩=>⟨r,s _ _ h1,h2.same s⟩
class inductive Ol(C:Addr)
 | mk (S:Addr->Prop) (x d st op c:Addr) (bJ:kj) (ops:List Int) (cs:List Addr) (pR:List (Nat × List aQ)) (last:List (List aQ)) (_:vs=[.ref x,.ref c]) (_:Sh C S H x d st op bJ ops) (_:H c=some (.lst (cs.map V.ref))) (_:bX (HQ H) cs pR) (_:bJ.getLast?=some last) (_:VH last pR) (_:pR.length<=200) (_:last.length<=500) (_:bJ.length<=1000) (_ :
 ∀ (S':Addr->Prop) (H':Hp),Sh C S' H' x d st op (bJ++[pL last pR]) (ops++List.replicate ((pL last pR).length-last.length) ((bJ.length:Nat):Int))->(∀ a,S' a->S a\/H a=none)->(∀ a ob,H a=some ob->¬ S a->H' a=some ob)->(∀ a xs,H a=some (.tup xs)->H' a=some (.tup xs))->Q .gm H')
theorem iF:aF ["self","changes","state","ahead","sheet","items"] ["self","changes"] (az qx):=eS
theorem AH:‹(2,37,["self","changes"],(Ol CS))›:=λD=>by
 specialize eU D.YF.F iF;obtain⟨S,x,d,st,op,c,bJ,ops,cs,pR,last,rfl,W,hc,a2,hl,okc,lc,ll,lp,k⟩:=h;exists _,(aj (aX (i:=2) iF.nd (aO bu (cO (pv 0) rfl) (gB eL ay))) (aj (aX (i:=3) iF.nd (fm D.T.eV (pv 2))) (aj (d9 PassesOwn.never rfl (cJ (pv 1)) (nj (n:=2) rfl (b8 (b9 (i:=4) iF.nd) (b8 (b9 (i:=5) iF.nd) gO))) (au (aX (i:=2) iF.nd (aC D.Vg (zD D) hr (aa (pv 2) (aa (pv 4) (aa (eT fZ rfl D.T.jf sN (aa (pv 5) ah)) ah))))))) (aj (bg (dM pW jN jO bS (cO (pv 0) rfl) (aa (pv 2) ah))) (au (vG (pv 0) (bG MW (bM (aa (eO (pv 0) D.cF D.NO (lG D) hr bL) ah)) (bG cN (fm D.T.eV (pv 2)) (pv 3))) Ho))))));obtain⟨as,hs,al⟩:=id W.hs;obtain⟨NB,a,ea,r⟩:=W.last hs;obtain⟨Sa,na1,na2,rs,ha,ar⟩:=r last hl;have lal:=al.len;refine⟨Y,x,CS,d,_,.ref st,rfl,W.hx,D.cF.cl,D.jV,rfl,Y,st,P,.ref a,V,bI.of hs,(by rw[ea,gJ];exact fG _ _),?_⟩;exists Y,a,Y,.inl (bI.of ha);rw[cG,ar.len];have Ck:∀ q,H q=none->q≠st/\q≠op:=λq hq=>⟨λz=>(by rw[z,hs]at hq;cases hq),λz=>(by rw[z,W.ho]at hq;cases hq)⟩;refine⟨Y,c,rfl,⟨_,bI.of hc⟩,dN (K:=K) (a:=c) (xs:=cs.map V.ref) (λi σ H1=>∃ (u4 u5:Option V) (S1:Addr->Prop) (ai:Addr),σ=[some (.ref x),some (.ref c),some (.ref ai),some (.int (last.length:Nat)),u4,u5]/\aI H H1/\(∀ q,S q->S1 q)/\(∀ q,S1 q->S q\/H q=none)/\(∀ q,S1 q->∃ ob,H1 q=some ob)/\HP S1 H1 st op ai (pL last (pR.take i))) ⟨none,none,S,a,rfl,aI.refl _,λ_ z=>z,λ_ z=>.inl z,W.al,r last hl⟩ (by rintro i σ H1 _ ⟨_,_,_,_,_,s,_⟩;exact bI.of (s _ _ hc)) ?_ ?_⟩
 ·rintro i y σ H1 hi ⟨u4,u5,S1,ai,rfl,s1,up,sub,al1,ZT⟩;rw[gE]at hi;obtain⟨t,et,rfl⟩:=Option.map_eq_some_iff.mp hi;obtain⟨ch,ech,q⟩:=a2.get et;have il:=(List.getElem?_eq_some_iff.mp ech).1;obtain⟨ri,ht,hri⟩:=q.same s1;obtain⟨b,vs,eb,hb,itb⟩:=id hri;cases eb;obtain⟨Sai,ZU,adk,rsi,hai,ari⟩:=id ZT;exists t,Y,dH.of ht,rfl,P,rfl,Z;refine⟨Y,Y,Y,ri,Y,.inl (bI.of hb),λz hz=>?_⟩;have s2:aI H1 (aP H1 z (.lst vs)):=ak hz _;have z2:(aP H1 z (.lst vs)) z=some (.lst vs):=af;generalize aP H1 z (.lst vs)=H2 at s2 z2;have lens:=zE okc i ∅;have adl:=okc i ch ech;have lri:=ari.len;refine⟨ai,z,_,ch.1,rfl,s2 _ _ hai,by rw[cG,lri];exact adl,by rw[cG,lri];lia,λp H3 hp3 s3 fp=>?_⟩;have s23:=s2.trans s3;have fz:H z=none:=bh s1 hz;have fp':H p=none:=bh (s1.trans s2) fp;exists P,λq=>S1 q\/q=z\/q=p,p,rfl,s1.trans s23,λq z=>.inl (up q z),λq w=>?_,λq w=>?_,.inr (.inr rfl),(Ck p fp').1,(Ck p fp').2,rsi.take ch.1++[z]++rsi.drop (ch.1+1),?_
  ·rcases w with w|rfl|rfl
   ·exact sub q w
   ·exact .inr fz
   ·exact .inr fp'
  ·rcases w with w|rfl|rfl
   ·obtain⟨ob,e⟩:=al1 q w;exact⟨ob,s23 _ _ e⟩
   ·exact⟨_,s3 _ _ z2⟩
   ·exact⟨_,hp3⟩
  ·rw[hp3];simp only[gJ,List.map_take,List.map_drop,jI,List.map_nil]
  ·rw[B3 ech];have mv:bX (ZQ (λq=>S1 q\/q=z\/q=p) H3 st op) rsi (pL last (pR.take i)):=ari.mono λr aN q=>⟨.inl q.own,q.ne,q.at'.same s23⟩;refine ((mv.take ch.1).app (.cons ⟨.inr (.inl rfl),Ck z fz,⟨z,vs,rfl,s3 _ _ z2,itb.mono λv it q=>q.same s23⟩⟩ .nil)).app (mv.drop (ch.1+1))
 ·rintro σ H1 ⟨u4,u5,S1,ai,rfl,s1,up,sub,al1,ZT⟩;have lcs:(cs.map V.ref).length=pR.length:=by rw[cG,a2.len]
  rw[lcs,gR]at ZT;have lens:=zE okc pR.length (gh _);rw[gR]at lens;obtain⟨Sai,ZU,adk,rsi,hai,ari⟩:=id ZT;have lri:=ari.len;have W1:=W.same s1;have VI:=s1 _ _ hs;refine⟨Y,x,CS,d,_,.ref st,rfl,W1.hx,D.cF.cl,D.jV,rfl,.inl ⟨rfl,_,bI.of VI⟩,Y,st,Z,VI,(by rw[cG];exact aS ∅),?_⟩;rw[show as.map V.ref++[.ref ai]=(as++[ai]).map V.ref by rw[gJ];rfl];have k2:cH st H1 (aP H1 st (.lst ((as++[ai]).map V.ref))):=aJ st _ _;have st2:(aP H1 st (.lst ((as++[ai]).map V.ref))) st=some (.lst ((as++[ai]).map V.ref)):=af;generalize aP H1 st (.lst ((as++[ai]).map V.ref))=H2 at k2 st2;have nxs:x≠st:=dG W1.hx VI;have nxo:x≠op:=dG W1.hx W1.ho;have x2:=k2 _ _ W1.hx nxs;have o2:=k2 _ _ W1.ho W.ne.symm;have ai2:=k2 _ _ hai ZU
  have lmn:(((as++[ai]).map V.ref).length:Int)-1=((bJ.length:Nat):Int):=by
   rw[cG,dB,lal];simp only[qX];lia
  exists Y,x,CS,d,_,.ref op,rfl,x2,D.cF.cl,D.nT,rfl,Y,x,d,Y,x2,rfl,x,d,st,op,Y,x2,st2;rw[lmn];refine⟨lD,λt2 Hh=>?_⟩;have s3:aI H2 (aP H2 t2 (.lst [.int (bJ.length:Nat)])):=ak Hh _;have b3:(aP H2 t2 (.lst [.int (bJ.length:Nat)])) t2=some (.lst [.int (bJ.length:Nat)]):=af;generalize aP H2 t2 (.lst [.int (bJ.length:Nat)])=H3 at s3 b3;exists Y,ai,Y,.inl (bI.of (s3 _ _ ai2)),Y,Z;rw[cG,lri];have ek:(((pL last pR).length:Nat):Int)-((last.length:Nat):Int)=(((pL last pR).length-last.length:Nat):Int):=by lia
  show XN _ (V.int ((((pL last pR).length:Nat):Int)-((last.length:Nat):Int))) _ _;rw[ek];refine⟨t2,Z,b3,Q,Q,(by simp only[qX];exact iz (aS ∅)),λt3 Rn=>?_⟩;rw[Int.toNat_natCast,Fl];generalize hk:(pL last pR).length-last.length=kk;have s4:aI H3 (aP H3 t3 (.lst (List.replicate kk (V.int (bJ.length:Nat))))):=ak Rn _;have b4:(aP H3 t3 (.lst (List.replicate kk (V.int (bJ.length:Nat))))) t3=some (.lst (List.replicate kk (V.int (bJ.length:Nat)))):=af;generalize aP H3 t3 (.lst (List.replicate kk (V.int (bJ.length:Nat))))=H4 at s4 b4;have s24:=s3.trans s4
  have lo:ops.length<=700:=by
   obtain⟨l',hl',ol⟩:=W.Py.B0;rw[hl]at hl';cases hl';lia
  refine⟨op,t3,Z,s24 _ _ o2,b4,(by rw[cG,yx];exact iz (aS ∅)),?_⟩;rw[show ops.map V.int++List.replicate kk (V.int (bJ.length:Nat))=(ops++List.replicate kk ((bJ.length:Nat):Int)).map V.int by rw[gJ,List.map_replicate]];have k5:cH op H4 (aP H4 op (.lst ((ops++List.replicate kk ((bJ.length:Nat):Int)).map V.int))):=aJ op _ _;have o5:(aP H4 op (.lst ((ops++List.replicate kk ((bJ.length:Nat):Int)).map V.int))) op=some (.lst ((ops++List.replicate kk ((bJ.length:Nat):Int)).map V.int)):=af;generalize aP H4 op (.lst ((ops++List.replicate kk ((bJ.length:Nat):Int)).map V.int))=H5 at k5 o5;have x5:=k5 _ _ (s24 _ _ x2) nxo;refine⟨d,_,x5,(by show 2<1000;decide),?_⟩;have e5:aP H5 x (.ins CS d (L2.dZ "openings" (.ref op) ([("states",.ref st),("openings",.ref op)]:List (Str × V))))=H5:=Rm x5;rw[e5];have ZV:∀ q ob,H1 q=some ob->q≠st->q≠op->H5 q=some ob:=λq ob e m1 m2=>k5 _ _ (s24 _ _ (k2 _ _ e m1)) m2;have t15:∀ q xs,H1 q=some (.tup xs)->H5 q=some (.tup xs):=λq xs e=>ZV _ _ e (dG e VI) (dG e W1.ho);have Wu:=k5 _ _ (s24 _ _ st2) W.ne;refine k S1 H5 ⟨up _ W.sx,up _ W.ss,up _ W.so,λq w=>?_,x5,⟨as++[ai],Wu,?_⟩,by rw[hk];exact o5,W.ne,W.Py.step hl lens.1⟩ sub (λq ob e n=>?_) (λq xs e=>t15 _ _ (s1 _ _ e))
  ·by_cases z1:q=st
   ·rw[z1];exact⟨_,Wu⟩
   by_cases z2:q=op
   ·rw[z2];exact⟨_,o5⟩
   obtain⟨ob,e⟩:=al1 q w;exact⟨ob,ZV _ _ e z1 z2⟩
  ·refine (bX.mono (λa rows q=>?_) al).app (.cons (ZT.fr (λ_ z=>z) (λq ob e _ m1 m2=>ZV _ _ e m1 m2) t15) .nil);exact q.fr up (λq ob e _ m1 m2=>ZV _ _ (s1 _ _ e) m1 m2) (λq xs e=>t15 _ _ (s1 _ _ e))
  ·exact ZV _ _ (s1 _ _ e) (λz=>n (by rw[z];exact W.ss)) (λz=>n (by rw[z];exact W.so))
def qH(n:Nat)(a:Int):Prop:=0<=a/\a<(n:Nat)
theorem qH.get{n:Nat}{a:Int}(h:qH n a):∃ j:Nat,a=j/\j<n:=by
 obtain⟨h0,h1⟩:=h;exact⟨a.toNat,Q,Q⟩
def HR(bJ:kj)(ops:List Int):Prop:=bJ.length<=1000/\ops.length<=1000
class inductive Lv(C:Addr)
 | mk (S:Addr->Prop) (x d st op:Addr) (bJ:kj) (ops:List Int) (s:Int) (_:vs=[.ref x,.int s]) (_:Sh C S H x d st op bJ ops) (_:qH ops.length s) (_:Q .gm H)
class inductive Lw(C:Addr)
 | mk (S:Addr->Prop) (x d st op:Addr) (bJ:kj) (ops:List Int) (m:Int) (_:vs=[.ref x,.int m]) (_:Sh C S H x d st op bJ ops) (_:qH bJ.length m) (_:Q .gm H)
def Told(H:Hp)(aN:List aQ)(Q:V->Hp->Prop):Prop:=∀ (q:Addr) (H':Hp),bK H' (.ref q) aN->aI H H'->H q=none->Q (.ref q) H'
class inductive VJ(C:Addr)
 | mk (S:Addr->Prop) (x d st op:Addr) (bJ:kj) (ops:List Int) (s:Int) (_:vs=[.ref x,.int s]) (_:Sh C S H x d st op bJ ops) (_:qH ops.length s) (_:(∀ (si:Nat) (last:List (List aQ)) (aN:List aQ),s=si->bJ.getLast?=some last->last[si]?=some aN->Told H aN Q))
def Ro(H H':Hp)(q:Addr)(rows:List (List aQ)):Prop:=H q=none/\∃ rs:List Addr,H' q=some (.lst (rs.map V.ref))/\bX (λr aN=>H r=none/\r≠q/\bK H' (.ref r) aN) rs rows
class inductive Fo(C:Addr)
 | mk (S:Addr->Prop) (x d st op:Addr) (bJ:kj) (ops:List Int) (m:Int) (_:vs=[.ref x,.int m]) (_:Sh C S H x d st op bJ ops) (_:HR bJ ops) (_:qH bJ.length m) (_:(∀ (mi:Nat) (rows:List (List aQ)),m=mi->bJ[mi]?=some rows->∀ (q:Addr) (H':Hp),Ro H H' q rows->aI H H'->Q (.ref q) H'))
class inductive VL(C:Addr)
 | mk (S:Addr->Prop) (x d st op:Addr) (bJ:kj) (ops:List Int) (_:vs=[.ref x]) (_:Sh C S H x d st op bJ ops) (_:HR bJ ops) (_:(∀ (rows:List (List aQ)),bJ.getLast?=some rows->∀ (q:Addr) (H':Hp),Ro H H' q rows->aI H H'->Q (.ref q) H'))
theorem rN:aF ["self","sheet"] ["self","sheet"] (az jc):=eS
theorem qI:aF ["self","moment"] ["self","moment"] (az iJ):=eS
theorem Fp:aF ["self","sheet"] ["self","sheet"] (az tF):=eS
theorem vj:aF ["self","moment"] ["self","moment"] (az iB):=eS
theorem C6:aF ["self"] ["self"] (az qy):=eS
theorem cy:‹(2,38,["self","sheet"],(Lv CS))›:=λD=>by
 specialize eU D.Ax.F rN;obtain⟨S,x,d,st,op,bJ,ops,a,rfl,W,iw,k1⟩:=h;exists _,(au (bN (gi (qp gp kU ay (pv 1) (eO (pv 0) D.cF D.Vh (sH D) hr bL))) (au iR) aZ));exists Y,Z,Y;rw[decide_eq_true iw.1];refine cX (λ_=>?_) (λc=>absurd rfl c);exists Y,x,d,Y,W.hx,rfl,S,x,d,st,op,bJ,ops,rfl,W,Z,Y;rw[decide_eq_true iw.2];exact d7 k1
theorem qb:‹(2,39,["self","moment"],(Lw CS))›:=λD=>by
 specialize eU D.YG.F qI;obtain⟨S,x,d,st,op,bJ,ops,a,rfl,W,iw,k1⟩:=h;obtain⟨as,hs,al⟩:=W.hs;exists _,(au (bN (gi (qp gp gp ay (pv 1) (eO (pv 0) D.cF D.NO (lG D) hr bL))) (au iR) aZ));exists Y,Z,Y;rw[decide_eq_true iw.1];refine cX (λ_=>?_) (λc=>absurd rfl c);exists Y,x,d,Y,W.hx,rfl,x,d,st,op,Y,W.hx,hs,Z,Y;rw[decide_eq_true (show a<=((as.map V.ref).length:Int)-1 by rw[cG,al.len];exact Int.le_sub_one_of_lt iw.2)];exact d7 k1
theorem Sh.at'{S:Addr->Prop}{H:Hp}{x d st:Addr}{bJ:kj}{ops:List Int}(h:Sh C S H x d st op bJ ops){as:List Addr}(ha:H st=some (.lst (as.map V.ref))){i:Nat}{rows:List (List aQ)}(e:bJ[i]?=some rows):∃ a,as[i]?=some a/\HP S H st op a rows:=by
 obtain⟨bs,hb,a2⟩:=h.hs
 have e':as=bs:=by
  rw[ha]at hb;exact zC (HO.lst.inj (qj hb))
 subst e';exact a2.get' e
theorem Sh.Tj{S:Addr->Prop}{H:Hp}{x d st:Addr}{bJ:kj}{ops:List Int}(h:Sh C S H x d st op bJ ops):∃ last,bJ.getLast?=some last/\bJ[bJ.length-1]?=some last/\ops.length=last.length:=by
 obtain⟨last,hl,ol⟩:=h.Py.B0;refine⟨last,hl,?_,ol⟩;rw[List.getLast?_eq_getElem?]at hl;exact hl
theorem C7:‹(3,42,["self","sheet"],(VJ CS))›:=λD=>by
 specialize eU D.YI.F Fp;obtain⟨S,x,d,st,op,bJ,ops,a,rfl,W,ia,k1⟩:=h;exists _,(aj (bg (cQ (pv 0) D.cF D.Ax (cy D) hr bL (aa (pv 1) ah))) (au (aG (eT fZ rfl D.T.jf sN (aa (aO bu (aO bu (cO (pv 0) rfl) (gB eL ay)) (pv 1)) ah)))));exists Y,x,d,Y,W.hx,rfl,Y,S,x,d,st,op,bJ,ops,a,rfl,W,ia;obtain⟨j,rfl,jl⟩:=ia.get;obtain⟨as,hs,al⟩:=id W.hs;obtain⟨NB,b,ea,r⟩:=W.last hs;obtain⟨last,hl,_,ol⟩:=W.Tj;obtain⟨_,_,_,rs,hb,ar⟩:=r last hl;have el:last[j]?=some last[j]:=uz ∅;obtain⟨ri,eri,jP⟩:=ar.get' el;obtain⟨c,vs,ec,hc,it⟩:=jP.at';cases ec;refine⟨Y,x,CS,d,_,.ref st,rfl,W.hx,D.cF.cl,D.jV,rfl,Y,st,P,.ref b,V,bI.of hs,(by rw[ea,gJ];exact fG _ _),Y,b,P,.ref ri,V,bI.of hb,dD (by rw[gE,eri];rfl),ri,Y,.inl (bI.of hc),λq hq=>?_⟩;exact k1 j last _ rfl hl el q _ ⟨q,vs,rfl,af,it.mono λv i z=>z.same (ak hq _)⟩ (ak hq _) hq
theorem uf:‹(3,40,["self","moment"],(Fo CS))›:=λD=>by
 specialize eU D.YH.F vj;obtain⟨S,x,d,st,op,bJ,ops,m,rfl,W,ok,im,k1⟩:=h;obtain⟨as,hs,al⟩:=id W.hs;refine⟨_,(aj (bg (cQ (pv 0) D.cF D.YG (qb D) hr bL (aa (pv 1) ah))) (au (aG (gH (N:=["items"]) (mD (sc:=az iB) (NX:=["self","moment"]) (jx:=[none]) rfl rfl rfl nofun nofun rfl nofun rfl nofun) rfl (cJ (aO bu (cO (pv 0) rfl) (pv 1))) (λ_ _ _ _ _ _=>(b9 (i:=0) (show List.Nodup (["items"]:List Str) by decide +kernel))) (λ_ _ _ _ _ _=>gP) (λ_ _ _ _ _ _=>(eT Hl rfl D.T.jf sN (aa (pv 0) ah))))))),?_⟩;exists Y,x,d,Y,W.hx,rfl,Y,S,x,d,st,op,bJ,ops,m,rfl,W,im;obtain⟨i,rfl,il⟩:=im.get;have er:bJ[i]?=some bJ[i]:=uz il;generalize bJ[i]=rows at er;obtain⟨b,eb,_,_,_,rs,hb,ar⟩:=W.at' hs er;have lr:=ar.len;have lo:=W.Py.less i rows er;have ok2:=ok.2;refine⟨Y,x,CS,d,_,.ref st,rfl,W.hx,D.cF.cl,D.jV,rfl,Y,st,P,.ref b,V,bI.of hs,dD (by rw[gE,eb];rfl),?_⟩;refine⟨b,rfl,⟨_,bI.of hb⟩,λacc cS=>gG (K:=K) (a:=b) (xs:=rs.map V.ref) (λj σ H1=>∃ (u:Option V) (qs:List Addr),σ=[u]/\H1 acc=some (.lst (qs.map V.ref))/\aI H H1/\bX (λr aN=>H r=none/\r≠acc/\bK H1 (.ref r) aN) qs (rows.take j)) ⟨none,[],rfl,af,ak cS _,by rw[List.take_zero];exact .nil⟩ (λj σ H1 _ ⟨K,_,s,_⟩=>bI.of (s _ _ hb)) ?_ ?_⟩
 ·rintro j y σ H1 hj ⟨u,qs,rfl,ha,s1,aq⟩;rw[gE]at hj;obtain⟨ri,eri,rfl⟩:=Option.map_eq_some_iff.mp hj;obtain⟨aN,adp,jP⟩:=ar.get eri;obtain⟨c,vs,ec,hc,it⟩:=jP.at';cases ec;refine⟨Y,ri,Y,.inl (bI.of (s1 _ _ hc)),λz hz=>⟨_,ak hz _ _ _ ha,?_,_,qs++[z],rfl,?_,?_,?_⟩⟩
  ·have:=aq.len;rw[gF]at this;rw[cG];exact aS ∅
  ·rw[af,gJ];rfl
  ·intro q ob e;rw[aL (aA e cS)];exact ak hz _ _ _ (s1 _ _ e)
  ·have nza:z≠acc:=(aA ha hz).symm
   have fr:∀ q ob,H1 q=some ob->q≠acc->(aP (aP H1 z (.lst vs)) acc (.lst (qs.map V.ref++[.ref z]))) q=some ob:=λq ob e n=>by
    rw[aL n];exact ak hz _ _ _ e
   have tu:∀ q xs,H1 q=some (.tup xs)->(aP (aP H1 z (.lst vs)) acc (.lst (qs.map V.ref++[.ref z]))) q=some (.tup xs):=λq xs e=>fr _ _ e (dG e ha (by intro w;cases w));rw[take_snoc adp];refine bX.snoc (aq.mono λr aN ⟨h1,h2,h3⟩=>⟨h1,h2,h3.fr (λxs e=>fr _ _ e h2) tu⟩) ⟨bh s1 hz,nza,z,vs,rfl,?_,it.mono λv i ⟨q,e,hq⟩=>⟨q,e,tu _ _ (s1 _ _ hq)⟩⟩;rw[aL nza];exact af
 ·rintro σ H1 ⟨u,qs,rfl,ha,s1,aq⟩;rw[cG,lr,gR]at aq;exact k1 i rows rfl er acc H1 ⟨cS,qs,ha,aq⟩ s1
theorem eK:‹(4,41,["self"],(VL CS))›:=λD=>by
 specialize eU D.Ay.F C6;obtain⟨S,x,d,st,op,bJ,ops,rfl,W,ok,k⟩:=h;obtain⟨as,hs,al⟩:=id W.hs;obtain⟨last,hl,Bm,_⟩:=W.Tj;have lp:bJ.length-1<bJ.length:=(List.getElem?_eq_some_iff.mp Bm).1;have ok1:=ok.1;have la:(((as.map V.ref).length:Nat):Int)-1=((bJ.length-1:Nat):Int):=by rw[cG,al.len];lia
 exists _,(au (aG (cQ (pv 0) D.cF D.YH (uf D) hr bL (aa (eO (pv 0) D.cF D.NO (lG D) hr bL) ah))));exists Y,x,d,Y,W.hx,rfl,Y,x,d,Y,W.hx,rfl,x,d,st,op,Y,W.hx,hs;rw[la];refine⟨S,x,d,st,op,bJ,ops,Y,W,ok,⟨Q,Q⟩,λmi rows em er q H1 fs s1=>?_⟩;have:mi=bJ.length-1:=by lia
 subst this;rw[Bm]at er;cases er;exact k last hl q H1 fs s1
class inductive JM(C:Addr)
 | mk (x d:Addr) (_:vs=[.ref x]) (_:H x=some (.ins C d [])) (_: ∀ (fs:List (Str × V)) (H':Hp),H' x=some (.ins C d fs)->cH x H H'->Q .gm H')
theorem xS:aF ["self"] ["self"] (az lS):=eS
theorem xT:aF ["self"] ["self"] (az lT):=eS
theorem Fq{x z:Addr}{H:Hp}{o o':HO}(hz:H z=none):cH x H (aP (aP H z o) x o'):=λa ob e n=>by
 rw[aL n];exact ak hz o a ob e
theorem wj:‹(1,44,["self"],(JM CD))›:=λD=>by
 specialize eU D.YK.F xT;obtain⟨x,d,rfl,hx,k⟩:=h;exists _,(au (ja (pv 0) mz rfl));intro z hz;exact⟨Y,x,CD,d,Y,ak hz _ _ _ hx,D.ET.cl,D.Ji,E,k _ _ af (Fq hz)⟩
theorem wm:‹(1,43,["self"],(JM CT))›:=λD=>by
 specialize eU D.YJ.F xS;obtain⟨x,d,rfl,hx,k⟩:=h;exists _,(aj (ja (pv 0) ay rfl) (au (ja (pv 0) mz rfl)));exists Y,x,CT,d,Y,hx,D.BO.cl,D.Cz,E;have k1:cH x H (aP H x (.ins CT d (L2.dZ "given" (.int 0) []))):=aJ x _ _;have h1:(aP H x (.ins CT d (L2.dZ "given" (.int 0) []))) x=some (.ins CT d (L2.dZ "given" (.int 0) [])):=af;generalize aP H x (.ins CT d (L2.dZ "given" (.int 0) []))=H1 at k1 h1;intro z hz;exact⟨Y,x,CT,d,Y,ak hz _ _ _ h1,D.BO.cl,D.CA,(by show 1<1000;decide),k _ _ af (k1.trans (Fq hz))⟩
def Om(aK:gM):List V:=aK.map λp=>yo p.2
def I0(aK:gM):List V:=aK.map λp=>V.int p.1
def pM(h:Int)(cs:List Nat):gM:=cs.map λc=>(h,c)
theorem rF(h:Int)(cs:List Nat):(pM h cs).length=cs.length:=cG ..
theorem Rp(aK:gM)(h:Int)(cs:List Nat):Om (aK++pM h cs)=Om aK++cs.map yo:=by
 unfold Om pM;rw[gJ,List.map_map];rfl
theorem C8(v:V):∀ n:Nat,(List.replicate n [v]).flatten=List.replicate n v
 | 0=>rfl
 | n+1=>by rw[List.replicate_succ,List.flatten_cons,C8 v n,List.replicate_succ];rfl
theorem Rq(aK:gM)(h:Int)(cs:List Nat):I0 (aK++pM h cs)=I0 aK++(List.replicate cs.length [V.int h]).flatten:=by
 rw[C8];unfold I0 pM;rw[gJ,List.map_map];congr 1;exact List.map_eq_replicate_iff.mpr λc _=>rfl
def ug(h:Int):Nat->gM->List Int
 | _,[]=>[]
 | i,p::r=>if p.1=h then (i:Int)::ug h (i+1) r else ug h (i+1) r
theorem mL(h:Int):∀ (a b:gM) (i:Nat),ug h i (a++b)=ug h i a++ug h (i+a.length) b
 | [],b,i=>rfl
 | p::a,b,i=>by
  rw[List.cons_append,ug,ug,mS,mL h a b (i+1),show i+1+a.length=i+(a.length+1) by lia]
  split <;> rfl
theorem wA(h:Int):∀ (cs:List Nat) (i:Nat),ug h i (pM h cs)=run (i:Int) cs.length
 | [],i=>rfl
 | c::cs,i=>by
  show ug h i ((h,c)::pM h cs)=_;rw[ug,if_pos rfl,wA h cs (i+1),mS,run,show ((i+1:Nat):Int)=(i:Int)+1 by lia]
theorem mO{h g:Int}(n:g≠h):∀ (cs:List Nat) (i:Nat),ug h i (pM g cs)=[]
 | [],i=>rfl
 | c::cs,i=>by
  show ug h i ((g,c)::pM g cs)=_;rw[ug,if_neg n,mO n cs (i+1)]
theorem zF(a b:Int)(k:Nat)(e:b=a+k):bO [(a,b)]=run a k:=by
 show jw (a,b)++[]=_;rw[gT];show run a (b-a).toNat=_;rw[show (b-a).toNat=k by lia]
structure Pw(S:Addr->Prop)(H:Hp)(s o:Addr)(n:Nat)(kvs:List (fj × V))(aK:gM):Prop where
 got:∀ h v,cI kvs (Sum.inl h)=some v->∃ (l:Addr) (row:Row),v=.ref l/\S l/\l≠s/\l≠o/\cE H l row/\(∀ p∈row,p.1<=p.2)/\bO row=ug h 0 aK/\row.length<=n
 gm:∀ h,cI kvs (Sum.inl h)=none->ug h 0 aK=[]
 one:∀ h g v,cI kvs (Sum.inl h)=some v->cI kvs (Sum.inl g)=some v->h=g
 len:kvs.length<=n
structure We(C:Addr)(S:Addr->Prop)(H:Hp)(x d s o p:Addr)(n:Nat)(aK:gM):Prop where
 sx:S x
 ss:S s
 so:S o
 sp:S p
 al:∀ a,S a->∃ ob,H a=some ob
 hx:H x=some (.ins C d [("signs",.ref s),("owners",.ref o),("pourings",.ref p)])
 hs:H s=some (.lst (Om aK))
 ho:H o=some (.lst (I0 aK))
 ne:s≠o
 dk:∃ kvs,H p=some (.dK kvs)/\Pw S H s o n kvs aK
theorem cE.two{H H':Hp}{r:Addr}{row:Row}(h:cE H r row)(k:∀ xs,H r=some (.lst xs)->H' r=some (.lst xs))(t:∀ a xs,H a=some (.tup xs)->H' a=some (.tup xs)):cE H' r row:=by
 obtain⟨as,h1,h2⟩:=h;exact⟨as,k _ h1,h2.tups t⟩
theorem We.fr{S:Addr->Prop}{H H':Hp}{x d s p:Addr}{n:Nat}{aK:gM}(h:We C S H x d s o p n aK)(k:∀ a ob,H a=some ob->S a->H' a=some ob)(t:∀ a xs,H a=some (.tup xs)->H' a=some (.tup xs)):We C S H' x d s o p n aK:=by
 obtain⟨sx,ss,so,sp,al,hx,hs,ho,ne,kvs,hp,pw⟩:=h;refine⟨sx,ss,so,sp,λa z=>?_,k _ _ hx sx,k _ _ hs ss,k _ _ ho so,ne,kvs,k _ _ hp sp,λh v e=>?_,pw.gm,pw.one,pw.len⟩
 ·obtain⟨ob,e⟩:=al a z;exact⟨ob,k _ _ e z⟩
 ·obtain⟨l,row,e1,e2,e3,e4,e5,r⟩:=pw.got h v e;exact⟨l,row,e1,e2,e3,e4,e5.two (λxs q=>k _ _ q e2) t,r⟩
theorem We.same{S:Addr->Prop}{H H':Hp}{x d s p:Addr}{n:Nat}{aK:gM}(h:We C S H x d s o p n aK)(k:aI H H'):We C S H' x d s o p n aK:=h.fr (λa ob e _=>k a ob e) (λa xs e=>k _ _ e)
theorem JN(aK:gM):(Om aK).length=aK.length:=cG ..
theorem Rt(aK:gM):(I0 aK).length=aK.length:=cG ..
theorem Oo{H:Hp}{a:Addr}{ob:HO}(h:H a=some ob):aP H a ob=H:=by
 funext b;by_cases e:b=a
 ·rw[e,af,h]
 ·rw[aL e]
class inductive Ru(C:Addr)
 | mk (x d:Addr) (_:vs=[.ref x]) (_:H x=some (.ins C d [])) (_: ∀ (s o p:Addr) (H':Hp),We C (λa=>a=x\/a=s\/a=o\/a=p) H' x d s o p 0 []->cH x H H'->H s=none->H o=none->H p=none->Q .gm H')
class inductive Rv(C:Addr)
 | mk (x d s o p:Addr) (aK:gM) (_:vs=[.ref x]) (_:H x=some (.ins C d [("signs",.ref s),("owners",.ref o),("pourings",.ref p)])) (_:H s=some (.lst (Om aK))) (_:Q (.int (aK.length:Nat)) H)
class inductive VM(C:Addr)
 | mk (S:Addr->Prop) (x d s o p:Addr) (n:Nat) (aK:gM) (h:Int) (cs:List Nat) (_:vs=[.ref x,.int h,.str (fD cs)]) (_:We C S H x d s o p n aK) (_:aK.length+cs.length<=100000) (_:n<=1000) (_ :
 ∀ (S':Addr->Prop) (q:Addr) (H':Hp),We C S' H' x d s o p (n+1) (aK++pM h cs)->H' q=some (.tup [.int (aK.length:Nat),.int ((aK++pM h cs).length:Nat)])->(∀ a,S' a->S a\/H a=none)->(∀ a ob,H a=some ob->¬ S a->H' a=some ob)->(∀ a xs,H a=some (.tup xs)->H' a=some (.tup xs))->Q (.ref q) H')
theorem xU:aF ["self"] ["self"] (az lU):=eS
theorem Ft:aF ["self"] ["self"] (az tG):=eS
theorem qJ:aF ["self","hand","text","start","stretch"] ["self","hand","text"] (az tH):=eS
theorem wB:‹(1,45,["self"],(Ru CW))›:=λD=>by
 specialize eU D.YL.F xU;obtain⟨x,d,rfl,hx,k⟩:=h;exists _,(aj (ja (pv 0) (bM ah) rfl) (aj (ja (pv 0) (bM ah) rfl) (au (ja (pv 0) mz rfl))));refine⟨iP,λs hs=>?_⟩;have a1:aI H (aP H s (.lst [])):=ak hs _;have b1:(aP H s (.lst [])) s=some (.lst []):=af;generalize aP H s (.lst [])=H1 at a1 b1;exists Y,x,CW,d,Y,a1 _ _ hx,D.iT.cl,D.tT,E;have k2:cH x H1 (aP H1 x (.ins CW d (L2.dZ "signs" (.ref s) []))):=aJ x _ _;have h2:(aP H1 x (.ins CW d (L2.dZ "signs" (.ref s) []))) x=some (.ins CW d [("signs",.ref s)]):=af;generalize aP H1 x (.ins CW d (L2.dZ "signs" (.ref s) []))=H2 at k2 h2;have VG:s≠x:=(aA hx hs).symm;have b2:=k2 _ _ b1 VG;refine⟨iP,λo ho=>?_⟩;have a3:aI H2 (aP H2 o (.lst [])):=ak ho _;have c3:(aP H2 o (.lst [])) o=some (.lst []):=af;generalize aP H2 o (.lst [])=H3 at a3 c3;refine⟨Y,x,CW,d,Y,a3 _ _ h2,D.iT.cl,D.uI,(by show 1<1000;decide),?_⟩;have k4:cH x H3 (aP H3 x (.ins CW d (L2.dZ "owners" (.ref o) [("signs",.ref s)]))):=aJ x _ _;have h4:(aP H3 x (.ins CW d (L2.dZ "owners" (.ref o) [("signs",.ref s)]))) x=some (.ins CW d [("signs",.ref s),("owners",.ref o)]):=af;generalize aP H3 x (.ins CW d (L2.dZ "owners" (.ref o) [("signs",.ref s)]))=H4 at k4 h4;have J4:o≠x:=(aA h2 ho).symm;have c4:=k4 _ _ c3 J4;have b4:=k4 _ _ (a3 _ _ b2) VG;intro p hp;have npx:p≠x:=(aA h4 hp).symm;refine⟨Y,x,CW,d,Y,ak hp _ _ _ h4,D.iT.cl,D.nU,(by show 2<1000;decide),?_⟩
 have k5:cH x H (aP (aP H4 p (.dK [])) x (.ins CW d (L2.dZ "pourings" (.ref p) [("signs",.ref s),("owners",.ref o)]))):=λa ob e n=>by
  rw[aL n];exact ak hp _ _ _ (k4 _ _ (a3 _ _ (k2 _ _ (a1 _ _ e) n)) n)
 refine k s o p _ ⟨.inl rfl,.inr (.inl rfl),.inr (.inr (.inl rfl)),.inr (.inr (.inr rfl)),λa z=>?_,af,?_,?_,aA b2 ho,[],?_,?_⟩ k5 hs ?_ ?_
 ·rcases z with rfl|rfl|rfl|rfl
  ·exact⟨_,af⟩
  ·exact⟨_,by rw[aL VG];exact ak hp _ _ _ b4⟩
  ·exact⟨_,by rw[aL J4];exact ak hp _ _ _ c4⟩
  ·exact⟨_,by rw[aL npx];exact af⟩
 ·rw[aL VG];exact ak hp _ _ _ b4
 ·rw[aL J4];exact ak hp _ _ _ c4
 ·rw[aL npx];exact af
 ·exact⟨λh v e=>(by cases e),λh e=>rfl,λh g v e=>(by cases e),gh _⟩
 ·exact bh a1 (iC k2 J4 ho)
 ·exact bh a1 (iC k2 npx (bh a3 (iC k4 npx hp)))
theorem jC:‹(1,46,["self"],(Rv CW))›:=λD=>by
 specialize eU D.KR.F Ft;obtain⟨x,d,s,o,p,aK,rfl,hx,hs,k⟩:=h;exists _,(au (aG (fm D.T.eV (cO (pv 0) rfl))));exists Y,x,CW,d,_,.ref s,rfl,hx,D.iT.cl,D.tT,rfl,s,Y,.inl (bI.of hs);rw[JN];exact k
theorem C9:‹(2,47,["self","hand","text"],(VM CW))›:=λD=>by
 specialize eU D.YM.F qJ;obtain⟨S,x,d,s,o,p,n,aK,h,cs,rfl,W,len,nn,k⟩:=h;have hu:=gC hr;exists _,(aj (aX (i:=3) qJ.nd (eO (pv 0) D.iT D.KR (jC D) hr bL)) (aj (vG (pv 0) (eT (Au rfl) rfl D.T.jf sN (aa (pv 2) ah)) Ho) (aj (vG (pv 0) (bG MW (bM (aa (pv 1) ah)) (cD uG rfl D.T.eV PySem.boot_len (aa (pv 2) ah))) Ho) (aj (aX (i:=4) qJ.nd (cW (aa (pv 3) (aa (eO (pv 0) D.iT D.KR (jC D) hr bL) ah)))) (aj (bg (dM pW jN jO bS (NG (cO (pv 0) rfl) (pv 1) (bM ah) ⟨V,V⟩) (aa (pv 4) ah))) (au (aG (pv 4))))))));exists Y,x,d,Y,W.hx,rfl,x,d,s,o,p,aK,rfl,W.hx,W.hs;obtain⟨sx,ss,so,sp,al,hx,hs,ho,ne,kvs,hp,pw⟩:=id W;have nxs:x≠s:=dG hx hs;have nxo:x≠o:=dG hx ho;have nxp:x≠p:=dG hx hp;have nps:p≠s:=dG hp hs;have npo:p≠o:=dG hp ho;refine⟨Y,x,CW,d,_,.ref s,rfl,hx,D.iT.cl,D.tT,rfl,Y,cs,rfl,iz (aS ∅),λt ht=>?_⟩;have a1:aI H (aP H t (.lst (cs.map yo))):=ak ht _;have b1:(aP H t (.lst (cs.map yo))) t=some (.lst (cs.map yo)):=af;generalize aP H t (.lst (cs.map yo))=H1 at a1 b1;refine⟨s,t,Z,a1 _ _ hs,b1,(by rw[JN,cG];exact iz (aS ∅)),?_⟩;rw[← Rp aK h cs];have k2:cH s H1 (aP H1 s (.lst (Om (aK++pM h cs)))):=aJ s _ _;have s2:(aP H1 s (.lst (Om (aK++pM h cs)))) s=some (.lst (Om (aK++pM h cs))):=af;generalize aP H1 s (.lst (Om (aK++pM h cs)))=H2 at k2 s2;have k02:cH s H H2:=λa ob e m=>k2 _ _ (a1 _ _ e) m;have x2:=k02 _ _ hx nxs;refine⟨d,_,x2,(by show 3<1000;decide),?_⟩;have e3:aP H2 x (.ins CW d (L2.dZ "signs" (.ref s) ([("signs",.ref s),("owners",.ref o),("pourings",.ref p)]:List (Str × V))))=H2:=Oo x2;rw[e3];refine⟨Y,x,CW,d,_,.ref o,rfl,x2,D.iT.cl,D.uI,rfl,Y,lD,λt2 Hh=>?_⟩;have a3:aI H2 (aP H2 t2 (.lst [.int h])):=ak Hh _;have b3:(aP H2 t2 (.lst [.int h])) t2=some (.lst [.int h]):=af;generalize aP H2 t2 (.lst [.int h])=H3 at a3 b3;refine⟨Y,fD cs,rfl,(by rw[pF];exact iz (aS ∅)),?_⟩;rw[pF];refine⟨t2,Z,b3,Q,Q,(by simp only[qX];exact iz (aS ∅)),λt3 Rn=>?_⟩;rw[Int.toNat_natCast];have a4:aI H3 (aP H3 t3 (.lst (List.replicate cs.length [V.int h]).flatten)):=ak Rn _;have b4:(aP H3 t3 (.lst (List.replicate cs.length [V.int h]).flatten)) t3=some (.lst (List.replicate cs.length [V.int h]).flatten):=af;generalize aP H3 t3 (.lst (List.replicate cs.length [V.int h]).flatten)=H4 at a4 b4;have Tn:cH s H H4:=λa ob e m=>a4 _ _ (a3 _ _ (k02 _ _ e m));refine⟨o,t3,Z,Tn _ _ ho ne.symm,b4,(by rw[Rt,C8,yx];exact iz (aS ∅)),?_⟩;rw[← Rq aK h cs];have k5:cH o H4 (aP H4 o (.lst (I0 (aK++pM h cs)))):=aJ o _ _;have o5:(aP H4 o (.lst (I0 (aK++pM h cs)))) o=some (.lst (I0 (aK++pM h cs))):=af;generalize aP H4 o (.lst (I0 (aK++pM h cs)))=H5 at k5 o5;have ZW:∀ a ob,H a=some ob->a≠s->a≠o->H5 a=some ob:=λa ob e m m2=>k5 _ _ (Tn _ _ e m) m2;have x5:=ZW _ _ hx nxs nxo;have s5:=k5 _ _ (a4 _ _ (a3 _ _ s2)) ne;refine⟨d,_,x5,(by show 3<1000;decide),?_⟩;have e5:aP H5 x (.ins CW d (L2.dZ "owners" (.ref o) ([("signs",.ref s),("owners",.ref o),("pourings",.ref p)]:List (Str × V))))=H5:=Oo x5;rw[e5]
 have Po:∀ q,H5 q=none->H q=none:=λq hq=>by
  cases e:H q with
  | none=>rfl
  | some ob =>
   by_cases z1:q=s
   ·rw[z1,s5]at hq;cases hq
   by_cases z2:q=o
   ·rw[z2,o5]at hq;cases hq
   rw[ZW _ _ e z1 z2]at hq;cases hq
 exists Y,Y,x,d,Y,x5,rfl,x,d,s,o,p,Y,x5,s5;refine⟨nK,λq hq=>?_⟩;have a6:aI H5 (aP H5 q (.tup [.int (aK.length:Nat),.int ((aK++pM h cs).length:Nat)])):=ak hq _;have b6:(aP H5 q (.tup [.int (aK.length:Nat),.int ((aK++pM h cs).length:Nat)])) q=some (.tup [.int (aK.length:Nat),.int ((aK++pM h cs).length:Nat)]):=af;generalize aP H5 q (.tup [.int (aK.length:Nat),.int ((aK++pM h cs).length:Nat)])=H6 at a6 b6;have p6:=a6 _ _ (ZW _ _ hp nps npo);have G8:∀ q,H6 q=none->H q=none:=λq hq=>Po q (bh a6 hq);refine⟨Y,x,CW,d,_,.ref p,rfl,a6 _ _ x5,D.iT.cl,D.nU,rfl,p,rfl,.inl ⟨_,.inl p6⟩,Y,iP,λz hz=>?_⟩;have a7:aI H6 (aP H6 z (.lst [])):=ak hz _;have b7:(aP H6 z (.lst [])) z=some (.lst []):=af;generalize aP H6 z (.lst [])=H7 at a7 b7;have lp:=pw.len;refine⟨kvs,Sum.inl h,a7 _ _ p6,rfl,aS ∅,λv hv=>?_,λhv=>?_⟩
 ·obtain⟨l,row,rfl,Sl,ls,lo,⟨as,hl,pa⟩,ok,sp1,rl⟩:=pw.got h v hv;have ZX:∀ a ob,H a=some ob->a≠s->a≠o->H7 a=some ob:=λa ob e m m2=>a7 _ _ (a6 _ _ (ZW _ _ e m m2));have l7:=ZX _ _ hl ls lo;have nxl:x≠l:=dG hx hl;have npl:p≠l:=dG hp hl;have la:=pa.len;refine⟨.inl ⟨rfl,_,bI.of l7⟩,Y,l,Z,l7,(by rw[cG];exact aS ∅),?_⟩;have k8:cH l H7 (aP H7 l (.lst (as.map V.ref++[.ref q]))):=aJ l _ _;have l8:(aP H7 l (.lst (as.map V.ref++[.ref q]))) l=some (.lst (as.map V.ref++[.ref q])):=af;generalize aP H7 l (.lst (as.map V.ref++[.ref q]))=H8 at k8 l8;have t07:∀ a xs,H a=some (.tup xs)->H7 a=some (.tup xs):=λa xs e=>ZX _ _ e (dG e hs) (dG e ho);have VN:∀ a xs,H7 a=some (.tup xs)->H8 a=some (.tup xs):=λa xs e=>k8 _ _ e (dG e l7);have s8:=k8 _ _ (a7 _ _ (a6 _ _ s5)) ls.symm;have o8:=k8 _ _ (a7 _ _ (a6 _ _ o5)) lo.symm;refine⟨Y,k S q H8 ⟨sx,ss,so,sp,λa z=>?_,k8 _ _ (a7 _ _ (a6 _ _ x5)) nxl,s8,o8,ne,kvs,k8 _ _ (a7 _ _ p6) npl,λg v e=>?_,λg e=>?_,pw.one,Q⟩ (VN _ _ (a7 _ _ b6)) (λa z=>.inl z) (λa ob e m=>?_) (λa xs e=>VN _ _ (t07 _ _ e))⟩
  ·by_cases z1:a=s
   ·rw[z1];exact⟨_,s8⟩
   by_cases z2:a=o
   ·rw[z2];exact⟨_,o8⟩
   by_cases z3:a=l
   ·rw[z3];exact⟨_,l8⟩
   obtain⟨ob,e⟩:=al a z;exact⟨ob,k8 _ _ (ZX _ _ e z1 z2) z3⟩
  ·by_cases c:g=h
   ·subst c;rw[hv]at e;cases e;exists l,row++([(((aK.length:Nat):Int),(((aK++pM g cs).length:Nat):Int))]:Row),rfl,Sl,ls,lo,⟨as++[q],by rw[gJ];exact l8,?_⟩,?_,?_
    ·exact bQ.append (pa.tups λa xs e=>VN _ _ (t07 _ _ e)) (.cons (b:=(((aK.length:Nat):Int),(((aK++pM g cs).length:Nat):Int))) (VN _ _ (a7 _ _ b6)) .nil)
    ·intro r hr;rcases List.mem_append.mp hr with z|z
     ·exact ok r z
     ·rw[List.mem_singleton.mp z];show ((aK.length:Nat):Int)<=((aK++pM g cs).length:Nat);rw[dB];lia
    ·rw[cY,sp1,mL,wA,Nat.zero_add];congr 1;refine zF _ _ _ ?_;rw[dB,rF];lia
    ·rw[dB];simp only[qX];lia
   ·obtain⟨l',Rw,e1,e2,e3,e4,e5,e6,e7,e8⟩:=pw.got g v e;subst e1;have nl:l'≠l:=λz=>c (pw.one g h _ e (by rw[z];exact hv));refine⟨l',Rw,rfl,e2,e3,e4,e5.two (λxs q=>k8 _ _ (ZX _ _ q e3 e4) nl) (λa xs e=>VN _ _ (t07 _ _ e)),e6,?_,Q⟩;rw[e7,mL,mO (λz=>c z.symm),gT]
  ·have c:g≠h:=λz=>by rw[z,hv]at e;cases e
   rw[mL,pw.gm g e,mO (λz=>c z.symm),gT]
  ·have z1:a≠s:=λz=>m (by rw[z];exact ss);have z2:a≠o:=λz=>m (by rw[z];exact so);have z3:a≠l:=λz=>m (by rw[z];exact Sl);exact k8 _ _ (ZX _ _ e z1 z2) z3
 ·have fz:H z=none:=G8 z hz;have p7:=a7 _ _ p6;have k8:cH p H7 (aP H7 p (.dK (eY kvs (Sum.inl h) (.ref z)))):=aJ p _ _;have p8:(aP H7 p (.dK (eY kvs (Sum.inl h) (.ref z)))) p=some (.dK (eY kvs (Sum.inl h) (.ref z))):=af;generalize aP H7 p (.dK (eY kvs (Sum.inl h) (.ref z)))=H8 at k8 p8;have z8:=k8 _ _ b7 (dG b7 p7);refine⟨.inl ⟨rfl,_,bI.of z8⟩,Y,z,Z,z8,(by show 0<sizeLine;decide),?_⟩;have k9:cH z H8 (aP H8 z (.lst ([]++[.ref q]))):=aJ z _ _;have z9:(aP H8 z (.lst ([]++[.ref q]))) z=some (.lst ([]++[.ref q])):=af;generalize aP H8 z (.lst ([]++[.ref q]))=H9 at k9 z9;have ZY:∀ a ob,H6 a=some ob->a≠p->H9 a=some ob:=λa ob e m=>k9 _ _ (k8 _ _ (a7 _ _ e) m) (aA e hz);have VO:∀ a ob,H a=some ob->a≠s->a≠o->a≠p->H9 a=some ob:=λa ob e m m2 m3=>ZY _ _ (a6 _ _ (ZW _ _ e m m2)) m3;have t69:∀ a xs,H6 a=some (.tup xs)->H9 a=some (.tup xs):=λa xs e=>ZY _ _ e (dG e p6);have t09:∀ a xs,H a=some (.tup xs)->H9 a=some (.tup xs):=λa xs e=>VO _ _ e (dG e hs) (dG e ho) (dG e hp);have s9:=ZY _ _ (a6 _ _ s5) nps.symm;have o9:=ZY _ _ (a6 _ _ o5) npo.symm;have p9:=k9 _ _ p8 (dG p7 b7)
  have nz:∀ a,S a->a≠z:=λa sa=>by
   obtain⟨ob,e⟩:=al a sa;exact aA e fz
  refine⟨Y,k (λa=>S a\/a=z) q H9 ⟨.inl sx,.inl ss,.inl so,.inl sp,λa w=>?_,ZY _ _ (a6 _ _ x5) nxp,s9,o9,ne,_,p9,λg v e=>?_,λg e=>?_,λg g' v e e'=>?_,(by have:=gX kvs (Sum.inl h:fj) (V.ref z);lia)⟩ (t69 _ _ b6) (λa w=>w.imp id λy=>by rw[y];exact fz) (λa ob e m=>?_) (λa xs e=>t09 _ _ e)⟩
  ·rcases w with w|w
   ·by_cases z1:a=s
    ·rw[z1];exact⟨_,s9⟩
    by_cases z2:a=o
    ·rw[z2];exact⟨_,o9⟩
    by_cases z3:a=p
    ·rw[z3];exact⟨_,p9⟩
    obtain⟨ob,e⟩:=al a w;exact⟨ob,VO _ _ e z1 z2 z3⟩
   ·rw[w];exact⟨_,z9⟩
  ·rw[j4]at e;by_cases c:g=h
   ·subst c;rw[if_pos rfl]at e;cases e;exists z,([(((aK.length:Nat):Int),(((aK++pM g cs).length:Nat):Int))]:Row),rfl,.inr rfl,(nz _ ss).symm,(nz _ so).symm,⟨[q],z9,.cons (t69 _ _ b6) .nil⟩,?_,?_
    ·intro r hr;rw[List.mem_singleton.mp hr];show ((aK.length:Nat):Int)<=((aK++pM g cs).length:Nat);rw[dB];lia
    ·rw[mL,pw.gm g hv,wA,Nat.zero_add,List.nil_append];refine zF _ _ _ ?_;rw[dB,rF];lia
    ·simp only[qX];lia
   ·rw[if_neg (λz=>c (Sum.inl.inj z))]at e;obtain⟨l',Rw,e1,e2,e3,e4,e5,e6,e7,e8⟩:=pw.got g v e;subst e1;refine⟨l',Rw,rfl,.inl e2,e3,e4,e5.two (λxs q=>VO _ _ q e3 e4 (dG q hp)) (λa xs e=>t09 _ _ e),e6,?_,Q⟩;rw[e7,mL,mO (λz=>c z.symm),gT]
  ·rw[j4]at e;have c:g≠h:=λz=>by rw[z,if_pos rfl]at e;cases e
   rw[if_neg (λz=>c (Sum.inl.inj z))]at e;rw[mL,pw.gm g e,mO (λz=>c z.symm),gT]
  ·have other:∀ g v,g≠h->cI kvs (Sum.inl g)=some v->v≠.ref z:=λg v c e y=>by
    obtain⟨l',Rw,e1,e2,_⟩:=pw.got g v e;rw[e1]at y;cases y;exact nz _ e2 rfl
   rw[j4]at e e';by_cases c:g=h
   ·by_cases c':g'=h
    ·rw[c,c']
    ·rw[c,if_pos rfl]at e;rw[if_neg (λz=>c' (Sum.inl.inj z))]at e';cases e;exact absurd rfl (other _ _ c' e')
   ·rw[if_neg (λz=>c (Sum.inl.inj z))]at e;by_cases c':g'=h
    ·rw[c',if_pos rfl]at e';cases e';exact absurd rfl (other _ _ c e)
    ·rw[if_neg (λz=>c' (Sum.inl.inj z))]at e';exact pw.one _ _ _ e e'
  ·have z1:a≠s:=λz=>m (by rw[z];exact ss);have z2:a≠o:=λz=>m (by rw[z];exact so);have z3:a≠p:=λz=>m (by rw[z];exact sp);exact VO _ _ e z1 z2 z3
theorem Fv(xs:List V){p q:Int}(h:0<=p)(g:0<=q):j3 xs (some p) (some q)=(xs.take q.toNat).drop p.toNat:=by
 unfold j3
 have e:∀ r:Int,0<=r->∀ d,HT.iX xs.length d (some r)=min r.toNat xs.length:=λr hr d=>by
  show (if r<0 then (r+(xs.length:Int)).toNat else min r.toNat xs.length)=_;rw[if_neg ∅]
 rw[e p h,e q g,List.drop_take];rcases Nat.le_total p.toNat xs.length with z|z
 ·rw[Nat.min_eq_left z];rcases Nat.le_total q.toNat xs.length with y|y
  ·rw[Nat.min_eq_left y]
  ·rw[Nat.min_eq_right y,uA (by rw[rK];lia),uA (by rw[rK];lia)]
 ·rw[Nat.min_eq_right z,yv (gh _),yv z];simp
def Pz(n:Nat)(p:Int × Int):Bool:=decide (0<=p.1)&&decide (p.1<p.2)&&decide (p.2<=(n:Int))
def uh(n:Nat)(row:Row):Bool:=row.all (Pz n)
class inductive Rx(C:Addr)
 | mk (S:Addr->Prop) (x d s o p r:Addr) (n:Nat) (aK:gM) (row:Row) (_:vs=[.ref x,.ref r]) (_:We C S H x d s o p n aK) (_:cE H r row) (_:row.length<=1000) (_: ∀ H',aI H H'->Q (.bl (uh aK.length row)) H')
theorem Dc:aF ["self","row"] ["self","row"] (az mZ):=eS
theorem AI:‹(2,48,["self","row"],(Rx CW))›:=λD=>by
 specialize eU D.YN.F Dc;obtain⟨S,x,d,s,o,p,r,n,aK,row,rfl,W,R,len,k⟩:=h;refine⟨_,(au (aG (cD (KN rfl) rfl D.T.Yu PyProof.Rows.boot_all (aa (gH (N:=["start","stop","self"]) (mD (sc:=az mZ) (NX:=["self","row"]) (jx:=[none,none,some 0]) rfl rfl rfl nofun nofun rfl nofun rfl nofun) rfl (cJ (pv 1)) (λ_ _ _ _ _ _=>(uP (n:=2) rfl (b8 (b9 (i:=0) (show List.Nodup (["start","stop","self"]:List Str) by decide +kernel)) (b8 (b9 (i:=1) (show List.Nodup (["start","stop","self"]:List Str) by decide +kernel)) gO)))) (λ_ _ _ _ _ _=>gP) (λ_ _ _ _ _ _=>(KO gp kU gp ay (pv 0) (pv 1) (eO (pv 2) D.iT D.KR (jC D) hr bL)))) ah)))),?_⟩;obtain⟨as,hr1,pa⟩:=id R;have la:=pa.len;refine⟨Y,r,rfl,⟨_,bI.of hr1⟩,λacc cS=>gG (K:=K) (a:=r) (xs:=as.map V.ref) (λi σ H1=>∃ u w:Option V,σ=[u,w,some (.ref x)]/\H1 acc=some (.lst (((row.take i).map (Pz aK.length)).map V.bl))/\aI H H1) ⟨none,none,rfl,af,ak cS _⟩ (by rintro i σ H1 _ ⟨_,_,_,_,s⟩;exact bI.of (s _ _ hr1)) ?_ ?_⟩
 ·rintro i y σ H1 hi ⟨u,w,rfl,ha,s1⟩;rw[gE]at hi;obtain⟨t,et,rfl⟩:=Option.map_eq_some_iff.mp hi;obtain⟨q,eq,ht⟩:=tY pa et;have W1:=W.same s1;exists t,Y,dH.of (s1 _ _ ht),rfl,P,rfl,Z
  have kq:∀ v:Bool,Pz aK.length q=v->∃ ys,H1 acc=some (.lst ys)/\ys.length<sizeLine/\∃ u w:Option V,[some (V.int q.1),some (V.int q.2),some (.ref x)]=[u,w,some (.ref x)]/\(aP H1 acc (.lst (ys++[.bl v]))) acc=some (.lst (((row.take (i+1)).map (Pz aK.length)).map V.bl))/\aI H (aP H1 acc (.lst (ys++[.bl v]))):=λv hv=>by
   exists _,ha,?_,P,rfl,?_
   ·rw[cG,cG,gF];exact aS ∅
   ·rw[af,take_snoc eq,gJ,gJ,← hv];rfl
   ·intro b ob e;rw[aL (aA e cS)];exact s1 _ _ e
  refine⟨Y,Z,Y,cX (λc1=>?_) (λc1=>kq false ?_)⟩
  ·refine⟨Y,Z,Y,cX (λc2=>?_) (λc2=>kq false ?_)⟩
   ·refine⟨Y,x,d,Y,W1.hx,rfl,x,d,s,o,p,aK,rfl,W1.hx,W1.hs,Z,kq _ ?_⟩;unfold Pz;rw[c1,c2];rfl
   ·unfold Pz;rw[c1,Bool.eq_false_iff.mpr c2];rfl
  ·unfold Pz;rw[Bool.eq_false_iff.mpr c1];rfl
 ·rintro σ H1 ⟨u,w,rfl,ha,s1⟩;rw[cG,la,gR]at ha;exists acc,Y,bI.of ha
  have e:(row.map (Pz aK.length)).all id=uh aK.length row:=by
   unfold uh;rw[List.all_map];rfl
  rw[e];exact k H1 s1
theorem BI.irr{rows:cR}(h:BI rows){s:Int}:¬ Reach (jM rows) s s:=by
 obtain⟨rk,_,hr⟩:=h
 have key:∀ g,Reach (jM rows) s g->rk g<rk s:=by
  intro g r
  induction r with
  | one e=>exact hr _ _ e
  | step _ e ih=>exact Nat.lt_trans (hr _ _ e) ih
 exact λz=>Nat.lt_irrefl _ (key s z)
structure lg(rows:cR)(f:Int->Int):Prop where
 len:rows.length<=100
 es:∀ es∈rows,es.length<=1000
 sd:gr rows
 rk:BI rows
 wt:Weighs rows f
 most:∀ x:Int,0<=x->x<rows.length->f x<=200
class inductive Oq
 | mk (r:Addr) (rows:cR) (s:Int) (f:Int->Int) (_:vs=[.ref r,.int s]) (_:gb H r (rows.map aH)) (_:lg rows f) (_:0<=s) (_:s<rows.length) (_: ∀ H',aI H H'->Q .gm H')
theorem jY:aF ["rows","sheet","way","weights","number"] ["rows","sheet"] (az oQ):=eS
theorem zG:‹(4,49,["rows","sheet"],Oq)›:=λD=>by
 refine eU D.YO.F jY λcV A zn s0 H vs Q E hr h=>?_;obtain⟨r,rows,s,f,rfl,hR,B,h0,h1,k⟩:=h;have hu:=gC hr;obtain⟨Dd,De⟩:=D.G.w;have bl:=B.len;exists _,(aj (aX (i:=2) jY.nd (aC D.Yx (Q2 D) hr (aa (pv 0) (aa (pv 1) ah)))) (aj (bN (Cg (PR (pv 2))) (au iR) aZ) (aj (aX (i:=3) jY.nd (aC D.Va (nY D) hr (aa (pv 0) (aa (eT (sf rfl) rfl D.T.jf sN (aa (eT CK rfl D.T.i7 PyProof.Rows.boot_range (aa (fm D.T.eV (pv 0)) ah)) ah)) ah)))) (au (d9 PassesOwn.never rfl (iA rfl D.T.i7 (aa (fm D.T.eV (pv 0)) ah)) (b9 (i:=4) jY.nd) (au (bN (aT Bd (gu hu (pv 3) (pv 4)) (Cf (v:=.int 200) rfl De ⟨Dd,rfl⟩) (bx _)) (au iR) aZ)))))));refine⟨Y,Y,r,s,rfl,r,rows,s,s,rfl,hR,Q,B.es,B.sd,h0,h1,B.rk.irr,λH1 s1=>?_⟩;refine⟨Y,false,rfl,d7 ?_⟩;have hR1:=hR.same s1;obtain⟨vs,hr1,al⟩:=id hR1;have lv:vs.length=rows.length:=by rw[al.len,cG]
 refine⟨Y,Y,r,Y,.inl (bI.of hr1),Y,λp1 WK=>⟨p1,P,rfl,af,⟨Q,Q,Q,Q⟩,iz (aS ∅),λL hL=>?_⟩⟩;rw[yW,lv,show ((rows.length:Int)-0).toNat=rows.length by lia];rw[lv]at hL;have s2:=s1.trans ((ak WK (.D4 0 ((rows.length:Nat):Int))).trans (ak hL (.lst ((run 0 rows.length).map V.int))));have hL2:(aP (aP H1 p1 (.D4 0 ((rows.length:Nat):Int))) L (.lst ((run 0 rows.length).map V.int))) L=some (.lst ((run 0 rows.length).map V.int)):=af;generalize aP (aP H1 p1 (.D4 0 ((rows.length:Nat):Int))) L (.lst ((run 0 rows.length).map V.int))=H2 at s2 hL2;refine⟨r,L,rows,run 0 rows.length,f,rfl,hR.same s2,hL2,by rw[Jw];lia,Q,B.es,B.sd,B.rk,(λx hx=>by have:=ND hx;lia),B.wt,λS kvs H3 hS hv s3 _=>?_⟩;have Oj:=s2.trans s3;obtain⟨vs3,KU,al3⟩:=hR.same Oj;have lv3:vs3.length=rows.length:=by rw[al3.len,cG]
 exists Y,r,Y,.inl (bI.of KU),Y,Q,Q;refine lI (lo:=0) (n:=((vs3.length:Nat):Int).toNat) (λi σ H4=>∃ u:Option V,σ=[some (.ref r),some (.int s),some .gm,some (.ref S),u]/\aI H H4/\H4 S=some (.dK kvs)) ⟨none,rfl,Oj,hS⟩ ?_ ?_
 ·rintro i σ H4 hi ⟨u,rfl,s4,Zs⟩;have il:i<rows.length:=by lia
  have z:=iN.k (k:=Sum.inl (0+(i:Int))) Zs;rw[hv (0+(i:Int)) (by rw[show (0:Int)+(i:Int)=0+i from rfl];exact om (Jr 0 rows.length i il))]at z;exists Y,Y,S,Y,z,Z,Y;rw[decide_eq_false (show ¬ f (0+(i:Int)) > 200 from λy=>by have:=B.most (0+(i:Int)) ∅ ∅;lia)];exact d7 ⟨Y,s4,Zs⟩
 ·rintro σ H4 ⟨u,rfl,s4,_⟩;exact k H4 s4
structure gD(C CS:Addr)(S:Addr->Prop)(H:Hp)(x d wl sh bl kn du bk dS st op:Addr)(bJ:kj)(ops:List Int)(aB:iH):Prop where
 hx:H x=some (.ins C d [("well",.ref wl),("shelf",.ref sh),("blots",.ref bl),("knots",.ref kn),("dues",.ref du),("book",.ref bk)])
 W:Sh CS S H sh dS st op bJ ops
 hb:H bk=some (kO aB)
 nx:¬ S x
 nb:¬ S bk
def Fr(S S':Addr->Prop)(bk:Addr)(H H':Hp):Prop:=(∀ a,S' a->S a\/H a=none)/\(∀ a ob,H a=some ob->¬ S a->a≠bk->H' a=some ob)/\∀ a xs,H a=some (.tup xs)->H' a=some (.tup xs)
theorem Fr.same{S S':Addr->Prop}{bk:Addr}{H0 H H':Hp}(s:aI H0 H)(f:Fr S S' bk H H'):Fr S S' bk H0 H' :=
 ⟨λa z=>(f.1 a z).imp id λy=>bh s y,λa ob e n1 n2=>f.2.1 a ob (s _ _ e) n1 n2,λa xs e=>f.2.2 a xs (s _ _ e)⟩
theorem gD.same{S:Addr->Prop}{H H':Hp}{x d wl sh bl du bk st:Addr}{bJ:kj}{ops:List Int}{aB:iH}(L:gD C CS S H x d wl sh bl kn du bk dS st op bJ ops aB)(s:aI H H'):gD C CS S H' x d wl sh bl kn du bk dS st op bJ ops aB :=
 ⟨s _ _ L.hx,L.W.same s,s _ _ L.hb,L.nx,L.nb⟩
theorem gD.neb{S:Addr->Prop}{H:Hp}{x d wl sh bl du bk st:Addr}{bJ:kj}{ops:List Int}{aB:iH}(L:gD C CS S H x d wl sh bl kn du bk dS st op bJ ops aB):x≠bk:=λe=>by
 have z:=L.hx;rw[e,L.hb]at z;cases z
class inductive Ry(C CS:Addr)
 | mk (S:Addr->Prop) (x d wl sh bl kn du bk dS st op:Addr) (bJ:kj) (ops:List Int) (aB:iH) (_:vs=[.ref x]) (_:gD C CS S H x d wl sh bl kn du bk dS st op bJ ops aB) (_:Q (.int (ops.length:Nat)) H)
class inductive VP(C CS:Addr)
 | mk (S:Addr->Prop) (x d wl sh bl kn du bk dS st op:Addr) (bJ:kj) (ops:List Int) (aB:iH) (_:vs=[.ref x]) (_:gD C CS S H x d wl sh bl kn du bk dS st op bJ ops aB) (_:Q (.int ((bJ.length:Nat)-1)) H)
class inductive Rz(C CS:Addr)
 | mk (S:Addr->Prop) (x d wl sh bl kn du bk dS st op:Addr) (bJ:kj) (ops:List Int) (aB:iH) (dd c:Addr) (e:jK) (cs:List Addr) (pR:List (Nat × List aQ)) (last:List (List aQ)) (_:vs=[.ref x,.ref dd,.ref c]) (_:gD C CS S H x d wl sh bl kn du bk dS st op bJ ops aB) (_:e.At H dd) (_:e.Ok) (_:H c=some (.lst (cs.map V.ref))) (_:c≠bk) (_:bX (HQ H) cs pR) (_:(∀ a∈cs,∀ (s:Int) (r:Addr),H a=some (.tup [.int s,.ref r])->r≠bk)) (_:bJ.getLast?=some last) (_:VH last pR) (_:pR.length<=200) (_:last.length<=500) (_:bJ.length<=1000) (_:aB.length<=1000) (_ :
 ∀ (S':Addr->Prop) (H':Hp),gD C CS S' H' x d wl sh bl kn du bk dS st op (bJ++[pL last pR]) (ops++List.replicate ((pL last pR).length-last.length) ((bJ.length:Nat):Int)) (aB++[e.line])->Fr S S' bk H H'->Q .gm H')
theorem xV:aF ["self","deed","changes"] ["self","deed","changes"] (az lV):=eS
theorem zH:aF ["self"] ["self"] (az ny):=eS
theorem AJ:aF ["self"] ["self"] (az oR):=eS
theorem pS:‹(2,53,["self"],(Ry C CS))›:=λD=>by
 specialize eU D.Vk.F zH;obtain⟨S,x,d,wl,sh,bl,kn,du,bk,dS,st,op,bJ,ops,aB,rfl,L,k⟩:=h;exists _,(au (aG (eO (cO (pv 0) rfl) D.cF D.Vh (sH D) hr bL)));exact⟨Y,x,C,d,_,.ref sh,rfl,L.hx,D.aM.cl,D.eX,rfl,sh,dS,Y,L.W.hx,rfl,S,sh,dS,st,op,bJ,ops,rfl,L.W,k⟩
theorem zI:‹(2,54,["self"],(VP C CS))›:=λD=>by
 specialize eU D.YQ.F AJ;obtain⟨S,x,d,wl,sh,bl,kn,du,bk,dS,st,op,bJ,ops,aB,rfl,L,k⟩:=h;obtain⟨as,hs,al⟩:=L.W.hs;exists _,(au (aG (eO (cO (pv 0) rfl) D.cF D.NO (lG D) hr bL)));exists Y,x,C,d,_,.ref sh,rfl,L.hx,D.aM.cl,D.eX,rfl,sh,dS,Y,L.W.hx,rfl,sh,dS,st,op,Y,L.W.hx,hs;rw[cG,al.len];exact k
theorem n9:‹(3,51,["self","deed","changes"],(Rz C CS))›:=λD=>by
 specialize eU D.Vj.F xV;obtain⟨S,x,d,wl,sh,bl,kn,du,bk,dS,st,op,bJ,ops,aB,dd,c,e,cs,pR,last,rfl,L,de,ok,hc,ncb,al,nr,hl,oc,l1,l2,l3,l4,k⟩:=h;exists _,(aj (bg (dM pW jN jO bS (cO (pv 0) rfl) (aa (aC D.YD (AG D) hr (aa (pv 1) ah)) ah))) (au (bg (cQ (cO (pv 0) rfl) D.cF D.YF (AH D) hr bL (aa (pv 2) ah)))));refine⟨Y,x,C,d,_,.ref bk,rfl,L.hx,D.aM.cl,D.Em,rfl,.inl ⟨rfl,_,bI.of L.hb⟩,Y,dd,e,rfl,de,ok,HN ok,λH1 s1=>?_⟩;refine⟨bk,Z,s1 _ _ L.hb,aS (by rw[cG];lia),?_⟩;have e2:(aB.map λw=>V.str (fD w))++[V.str (fD e.line)]=(aB++[e.line]).map λw=>V.str (fD w):=by rw[gJ];rfl
 rw[e2]
 have k2:cH bk H (aP H1 bk (kO (aB++[e.line]))):=λa o q n=>by
  rw[aL n];exact s1 _ _ q
 have VC:(aP H1 bk (kO (aB++[e.line]))) bk=some (kO (aB++[e.line])):=af
 have fr2:∀ a,(aP H1 bk (kO (aB++[e.line]))) a=none->H a=none:=λa q=>by
  by_cases z:a=bk
  ·rw[z,af]at q;cases q
  ·rw[aL z]at q;exact bh s1 q
 generalize aP H1 bk (kO (aB++[e.line]))=H2 at k2 VC fr2;have t2:∀ a xs,H a=some (.tup xs)->H2 a=some (.tup xs):=λa xs q=>k2 _ _ q (dG q L.hb);have W2:Sh CS S H2 sh dS st op bJ ops:=L.W.keep L.hb L.nb k2;have x2:=k2 _ _ L.hx L.neb;refine⟨Y,x,C,d,_,.ref sh,rfl,x2,D.aM.cl,D.eX,rfl,sh,dS,Y,W2.hx,rfl,Y,S,sh,dS,st,op,c,bJ,ops,cs,pR,last,rfl,W2,k2 _ _ hc ncb,?_,hl,oc,l1,l2,l3,λS' H3 W3 sub fr tp=>?_⟩
 ·have key:∀ {as:List Addr} {ds:List (Nat × List aQ)},bX (HQ H) as ds->(∀ a∈as,a∈cs)->bX (HQ H2) as ds:=by
   intro as ds q
   induction q with
   | nil=>intro _;exact .nil
   | cons o t ih =>
    intro sub;refine .cons ?_ (ih λa ha=>sub a (nQ _ ha));obtain⟨r,ha,it⟩:=o;have ZZ:=nr _ (sub _ List.mem_cons_self) _ r ha;exact⟨r,t2 _ _ ha,it.fr (λxs q=>k2 _ _ q ZZ) t2⟩
  exact key al λ_ z=>z
 ·refine k S' H3 ⟨fr _ _ x2 L.nx,W3,fr _ _ VC L.nb,λz=>?_,λz=>?_⟩ ⟨λa z=>(sub a z).imp id λq=>fr2 a q,λa ob q n n'=>fr _ _ (k2 _ _ q n') n,λa xs q=>tp _ _ (t2 _ _ q)⟩
  ·rcases sub _ z with q|q
   ·exact L.nx q
   ·rw[x2]at q;cases q
  ·rcases sub _ z with q|q
   ·exact L.nb q
   ·rw[VC]at q;cases q
abbrev jj(pe:gS):kj:=pe.map λrows=>rows.map aH
def iW(rows:cR)(s:Nat)(es:List Int):cR:=rows.take s++[es]++rows.drop (s+1)
theorem RA(rows:cR)(s:Nat)(es:List Int):pL (rows.map aH) [(s,aH es)]=(iW rows s es).map aH:=by
 show (rows.map aH).take s++[aH es]++(rows.map aH).drop (s+1)=_;unfold iW;rw[gJ,gJ,List.map_take,List.map_drop];rfl
theorem Fw{rows:cR}{s:Nat}{es:List Int}(h:s<=rows.length):(iW rows s es).length=if s=rows.length then rows.length+1 else rows.length:=by
 unfold iW;rw[dB,dB,gF,rK];show min s rows.length+1+_=_
 split <;> lia
def Ot(ops:List Int)(n s m:Nat):List Int:=ops++if s=n then [(m:Int)] else []
theorem VQ{rows:cR}{s:Nat}{es:List Int}{ops:List Int}{m:Nat}(h:s<=rows.length):ops++List.replicate (((iW rows s es).map aH).length-(rows.map aH).length) (m:Int)=Ot ops rows.length s m:=by
 rw[cG,cG,Fw h];unfold Ot;by_cases c:s=rows.length
 ·rw[if_pos c,if_pos c,show rows.length+1-rows.length=1 by lia];rfl
 ·rw[if_neg c,if_neg c,Nat.sub_self];rfl
class inductive Ou(C CS:Addr)
 | mk (S:Addr->Prop) (x d wl sh bl kn du bk dS st op:Addr) (pe:gS) (ops:List Int) (aB:iH) (dd r:Addr) (e:jK) (s:Nat) (es:List Int) (rows:cR) (f:Int->Int) (_:vs=[.ref x,.ref dd,.int (s:Nat),.ref r]) (_:gD C CS S H x d wl sh bl kn du bk dS st op (jj pe) ops aB) (_:e.At H dd) (_:e.Ok) (_:bK H (.ref r) (aH es)) (_:r≠bk) (_:pe.getLast?=some rows) (_:s<=rows.length) (_:rows.length<=50) (_:pe.length<=900) (_:aB.length<=900) (_:lg (iW rows s es) f) (_ :
 ∀ (S':Addr->Prop) (H':Hp),gD C CS S' H' x d wl sh bl kn du bk dS st op (jj (pe++[iW rows s es])) (Ot ops rows.length s pe.length) (aB++[e.line])->Fr S S' bk H H'->Q .gm H')
theorem wC:aF ["self","deed","sheet","items"] ["self","deed","sheet","items"] (az kH):=eS
theorem dY{pe:gS}{rows:cR}(h:pe.getLast?=some rows):(jj pe).getLast?=some (rows.map aH):=by
 rw[List.getLast?_map,h];rfl
theorem Ov{H H':Hp}{rs:List Addr}{rows:List (List aQ)}{r:Addr}{aN:List aQ}{s:Nat}(al:bX (λq i=>bK H' (.ref q) i) rs rows)(it:bK H' (.ref r) aN):bX (bK H') ((rs.map V.ref).take s++[.ref r]++(rs.map V.ref).drop (s+1)) (rows.take s++[aN]++rows.drop (s+1)):=by
 have key:bX (bK H') (rs.map V.ref) rows:=by
  induction al with
  | nil=>exact .nil
  | cons o t ih=>exact .cons o ih
 exact ((key.take s).app (.cons it .nil)).app (key.drop (s+1))
theorem dP:‹(5,52,["self","deed","sheet","items"],(Ou C CS))›:=λD=>by
 specialize eU D.EV.F wC;obtain⟨S,x,d,wl,sh,bl,kn,du,bk,dS,st,op,pe,ops,aB,dd,r,e,s,es,rows,f,rfl,L,de,ok,hi,ZZ,hl,sl,l1,l2,l3,B,k⟩:=h;have hl':=dY hl;have lp:(jj pe).length=pe.length:=cG _
 have lo:ops.length=rows.length:=by
  obtain⟨last,z1,z2⟩:=L.W.Py.B0;rw[hl']at z1;cases z1;rw[z2,cG]
 exists _,(aj (bg (aC D.YO (zG D) hr (aa (aC D.Vg (zD D) hr (aa (eO (cO (pv 0) rfl) D.cF D.Ay (eK D) hr bL) (aa (pv 2) (aa (pv 3) ah)))) (aa (pv 2) ah)))) (au (bg (cQ (pv 0) D.aM D.Vj (n9 D) hr bL (aa (pv 1) (aa (bM (aa (cW (aa (pv 2) (aa (pv 3) ah))) ah)) ah))))));refine⟨Y,x,C,d,_,.ref sh,rfl,L.hx,D.aM.cl,D.eX,rfl,sh,dS,Y,L.W.hx,rfl,S,sh,dS,st,op,jj pe,ops,rfl,L.W,⟨Q,Q⟩,λTo el q H1 fs s1=>?_⟩;rw[hl']at el;cases el;obtain⟨fq,rs,hq,al⟩:=fs;have lr:rs.length=rows.length:=by rw[al.len,cG]
 have hi1:=hi.same s1;have L1:=L.same s1;refine⟨Y,Y,q,r,_,s,rfl,hq,by rw[cG,lr];exact sl,by rw[cG,lr];lia,λp2 H2 SI s2 f2=>?_⟩
 refine⟨Y,p2,iW rows s es,(s:Int),f,rfl,⟨_,SI,?_⟩,B,Q,by rw[Fw sl];split <;> lia,λH3 s3=>?_⟩
 ·have z:=Ov (H:=H) (H':=H2) (s:=s) (al.mono λq' i' w'=>(w'.2.2).same s2) (hi1.same s2)
  have e':(rows.map aH).take s++[aH es]++(rows.map aH).drop (s+1)=(iW rows s es).map aH:=by
   unfold iW;rw[gJ,gJ,List.map_take,List.map_drop];rfl
  rw[e']at z;exact z
 have xP:=s1.trans (s2.trans s3);have L3:=L.same xP;refine⟨Y,x,d,Y,L3.hx,rfl,Y,Y,Y,nK,λt ht=>⟨lD,λc hc=>?_⟩⟩;have s4:aI H3 (aP (aP H3 t (.tup [.int (s:Nat),.ref r])) c (.lst [.ref t])):=(ak ht _).trans (ak hc _);have ht4:(aP (aP H3 t (.tup [.int (s:Nat),.ref r])) c (.lst [.ref t])) t=some (.tup [.int (s:Nat),.ref r]):=ak hc _ _ _ af;have hc4:(aP (aP H3 t (.tup [.int (s:Nat),.ref r])) c (.lst [.ref t])) c=some (.lst ([t].map V.ref)):=af
 have nc:c≠bk:=λz=>by
  have:=ak ht (.tup [.int (s:Nat),.ref r]) _ _ L3.hb;rw[← z,hc]at this;cases this
 generalize aP (aP H3 t (.tup [.int (s:Nat),.ref r])) c (.lst [.ref t])=H4 at s4 ht4 hc4;have AK:=xP.trans s4;refine⟨S,x,d,wl,sh,bl,kn,du,bk,dS,st,op,jj pe,ops,aB,dd,c,e,[t],[(s,aH es)],rows.map aH,rfl,L.same AK,de.same AK,ok,hc4,nc,.cons ⟨r,ht4,hi.same AK⟩ .nil,?_,hl',?_,(by show 1<=200;decide),by rw[cG];lia,Q,Q,λS' H' L' fr=>?_⟩
 ·intro a ha s' r' e';rw[List.mem_singleton.mp ha,ht4]at e';cases e';exact ZZ
 ·intro i ch ei
  match i,ei with
  | 0,ei =>
   cases ei;show s<=(rows.map aH).length;rw[cG];exact sl
  | i+1,ei=>cases ei
 ·rw[RA,VQ sl,lp]at L';refine k S' H' ?_ (fr.same AK)
  have ep:jj (pe++[iW rows s es])=jj pe++[(iW rows s es).map aH]:=by
   show (pe++[iW rows s es]).map _=_;rw[gJ];rfl
  rw[ep];exact L'
class inductive RB(C CS:Addr)
 | mk (S:Addr->Prop) (x d wl sh bl kn du bk dS st op:Addr) (pe:gS) (ops:List Int) (aB:iH) (dd r:Addr) (e:jK) (es:List Int) (rows:cR) (_:vs=[.ref x,.ref dd,.ref r]) (_:gD C CS S H x d wl sh bl kn du bk dS st op (jj pe) ops aB) (_:e.At H dd) (_:e.Ok) (_:bK H (.ref r) (aH es)) (_:r≠bk) (_:pe.getLast?=some rows) (_:rows.length<=50) (_:pe.length<=900) (_:aB.length<=900) (_:rows.length<40) (_:((∃ f,lg (rows++[es]) f)/\∀ (S':Addr->Prop) (H':Hp),gD C CS S' H' x d wl sh bl kn du bk dS st op (jj (pe++[rows++[es]])) (ops++[((pe.length:Nat):Int)]) (aB++[e.line])->Fr S S' bk H H'->Q (.int (rows.length:Nat)) H'))
theorem pT:aF ["self","deed","items","sheet"] ["self","deed","items"] (az lW):=eS
theorem Fx(rows:cR)(es:List Int):iW rows rows.length es=rows++[es]:=by
 unfold iW;rw[gR,yv ∅,gT]
theorem jD{S:Addr->Prop}{H:Hp}{x d wl sh bl du bk st:Addr}{pe:gS}{ops:List Int}{aB:iH}{rows:cR}(L:gD C CS S H x d wl sh bl kn du bk dS st op (jj pe) ops aB)(hl:pe.getLast?=some rows):ops.length=rows.length:=by
 obtain⟨last,z1,z2⟩:=L.W.Py.B0;rw[dY hl]at z1;cases z1;rw[z2,cG]
theorem wD:‹(6,55,["self","deed","items"],(RB C CS))›:=λD=>by
 obtain⟨Df,Dg⟩:=D.G.s;specialize eU D.YR.F pT;obtain⟨S,x,d,wl,sh,bl,kn,du,bk,dS,st,op,pe,ops,aB,dd,r,e,es,rows,rfl,L,de,ok,hi,ZZ,hl,l1,l2,l3,lt,k2⟩:=h;have lo:=jD L hl;exists _,(aj (aX (i:=3) pT.nd (eO (pv 0) D.aM D.Vk (pS D) hr bL)) (aj (bN (aT Sv (pv 3) (Cf (v:=.int 40) rfl Dg ⟨Df,rfl⟩) (bx _)) (au iR) aZ) (aj (bg (cQ (pv 0) D.aM D.EV (dP D) hr bL (aa (pv 1) (aa (pv 3) (aa (pv 2) ah))))) (au (aG (pv 3))))));exists Y,x,d,Y,L.hx,rfl,S,x,d,wl,sh,bl,kn,du,bk,dS,st,op,jj pe,ops,aB,rfl,L;rw[lo];refine⟨Y,Z,Y,cX (λc=>?_) (λc=>?_)⟩
 ·exact absurd (of_decide_eq_true c) ∅
 ·obtain⟨⟨f,B⟩,k3⟩:=k2;refine⟨Y,x,d,Y,L.hx,rfl,Y,Y,Y,S,x,d,wl,sh,bl,kn,du,bk,dS,st,op,pe,ops,aB,dd,r,e,rows.length,es,rows,f,rfl,L,de,ok,hi,ZZ,hl,gh _,l1,l2,l3,by rw[Fx];exact B,λS' H' L' fr=>?_⟩;rw[Fx]at L';have eo:Ot ops rows.length rows.length pe.length=ops++[((pe.length:Nat):Int)]:=by unfold Ot;rw[if_pos rfl]
  rw[eo]at L';exact⟨Y,k3 S' H' L' fr⟩
abbrev frW:List Nat:=(Str.ofString "fresh").cps.toList
theorem Ow:(jK.plain frW []).Ok:=⟨by decide +kernel,λ_ z=>by cases z⟩
class inductive RC(C CS:Addr)
 | mk (S:Addr->Prop) (x d wl sh bl kn du bk dS st op:Addr) (pe:gS) (ops:List Int) (aB:iH) (rows:cR) (_:vs=[.ref x]) (_:gD C CS S H x d wl sh bl kn du bk dS st op (jj pe) ops aB) (_:pe.getLast?=some rows) (_:rows.length<=50) (_:pe.length<=900) (_:aB.length<=900) (_:rows.length<40) (_:((∃ f,lg (rows++[[]]) f)/\∀ (S':Addr->Prop) (H':Hp),gD C CS S' H' x d wl sh bl kn du bk dS st op (jj (pe++[rows++[[]]])) (ops++[((pe.length:Nat):Int)]) (aB++[(jK.plain frW []).line])->Fr S S' bk H H'->Q (.int (rows.length:Nat)) H'))
theorem xW:aF ["self"] ["self"] (az lX):=eS
theorem wG:‹(7,56,["self"],(RC C CS))›:=λD=>by
 specialize eU D.Vl.F xW;obtain⟨S,x,d,wl,sh,bl,kn,du,bk,dS,st,op,pe,ops,aB,rows,rfl,L,hl,l1,l2,l3,lt,k2⟩:=h;exists _,(au (aG (cQ (pv 0) D.aM D.YR (wD D) hr bL (aa (cW (aa bC ah)) (aa (bM ah) ah)))));refine⟨Y,x,d,Y,L.hx,rfl,lD,λt ht=>⟨iP,λr xr=>?_⟩⟩;have s1:aI H (aP (aP H t (.tup [.str "fresh"])) r (.lst [])):=(ak ht _).trans (ak xr _);have ht1:(aP (aP H t (.tup [.str "fresh"])) r (.lst [])) t=some (.tup [.str "fresh"]):=ak xr _ _ _ af;have hr1:(aP (aP H t (.tup [.str "fresh"])) r (.lst [])) r=some (.lst []):=af
 have nr:r≠bk:=λz=>by
  have:=ak ht (.tup [.str "fresh"]) _ _ L.hb;rw[← z,xr]at this;cases this
 generalize aP (aP H t (.tup [.str "fresh"])) r (.lst [])=H1 at s1 ht1 hr1;exists S,x,d,wl,sh,bl,kn,du,bk,dS,st,op,pe,ops,aB,t,r,.plain frW [],[],rows,rfl,L.same s1,by show H1 t=_;rw[ht1,tZ];rfl,Ow,⟨r,[],rfl,hr1,.nil⟩,nr,hl,l1,l2,l3,lt;obtain⟨B,k3⟩:=k2;exact⟨B,λS' H' L' fr=>k3 S' H' L' (fr.same s1)⟩
theorem jU{H H1:Hp}{dw:Addr}{o:HO}(h1:H xw=none)(h2:H dw=none)(k:cH xw (aP (aP H dw (.own xw)) xw o) H1):aI H H1:=λa ob e=>k a ob (by rw[aL (aA e h1),aL (aA e h2)];exact e) (aA e h1)
theorem Sh.ko{S:Addr->Prop}{H H':Hp}{x d st:Addr}{bJ:kj}{ops:List Int}{fs:List (Str × V)}(h:Sh C S H x d st op bJ ops)(hl:H l=some (.ins C' d' fs))(nl:¬ S l)(k:cH l H H'):Sh C S H' x d st op bJ ops :=
 h.fr (λa ob e z=>k a ob e (λq=>nl (by rw[← q];exact z))) (λa xs e=>k _ _ e (dG e hl))
structure Seen(rows:cR)(sh:Int->List Int):Prop where
 es:∀ es∈rows,es.length<=1000
 sd:gr rows
 rk:BI rows
 ss:mF rows sh
 ln:∀ x:Int,0<=x->x<rows.length->(sh x).length<=10000
class inductive Ox(C CS:Addr)
 | mk (S:Addr->Prop) (x d wl sh bl kn du bk dS st op:Addr) (pe:gS) (ops:List Int) (aB:iH) (rows:cR) (s:Int) (_:vs=[.ref x,.int s]) (_:gD C CS S H x d wl sh bl kn du bk dS st op (jj pe) ops aB) (_:pe.getLast?=some rows) (_:rows.length<=50) (_:pe.length<=900) (_:qH rows.length s) (_:(∃ f,Seen rows f/\∀ (o:Addr) (H':Hp),cE H' o (cM (f s))->aI H H'->H o=none->Q (.ref o) H'))
theorem xX:aF ["self","sheet"] ["self","sheet"] (az lY):=eS
theorem gy:‹(5,61,["self","sheet"],(Ox C CS))›:=λD=>by
 specialize eU D.KS.F xX;obtain⟨S,x,d,wl,sh,bl,kn,du,bk,dS,st,op,pe,ops,aB,rows,s,rfl,L,hl,l1,l2,ia,k2⟩:=h;have lo:=jD L hl;have lp:(jj pe).length=pe.length:=cG _;have hl':=dY hl;exists _,(aj (bg (cQ (cO (pv 0) rfl) D.cF D.Ax (cy D) hr bL (aa (pv 1) ah))) (au (aG (fH.pG D.NN (D.T.qF _ D.NN.m) (E3 D) hr (aa (eO (cO (pv 0) rfl) D.cF D.Ay (eK D) hr bL) (aa (pv 1) ah))))));refine⟨Y,x,C,d,_,.ref sh,rfl,L.hx,D.aM.cl,D.eX,rfl,sh,dS,Y,L.W.hx,rfl,Y,S,sh,dS,st,op,jj pe,ops,s,rfl,L.W,by rw[lo];exact ia,?_⟩;obtain⟨f0,sn,k3⟩:=k2;refine⟨Y,x,C,d,_,.ref sh,rfl,L.hx,D.aM.cl,D.eX,rfl,sh,dS,Y,L.W.hx,rfl,S,sh,dS,st,op,jj pe,ops,rfl,L.W,⟨Q,Q⟩,λTo el q H1 Oz s1=>?_⟩;rw[hl']at el;cases el;obtain⟨fq,rs,hq,al⟩:=Oz
 have hR:gb H1 q (rows.map aH):=by
  exists rs.map V.ref,hq
  have key:∀ {as:List Addr} {ds:List (List aQ)},bX (λr aN=>H r=none/\r≠q/\bK H1 (.ref r) aN) as ds->bX (bK H1) (as.map V.ref) ds:=by
   intro as ds z
   induction z with
   | nil=>exact .nil
   | cons o t ih=>exact .cons o.2.2 ih
  exact key al
 exact⟨Y,q,rows,s,f0,rfl,hR,Q,sn.es,sn.sd,sn.rk,ia.1,ia.2,sn.ss,sn.ln,λo H2 ho s2 fo=>k3 o H2 ho (s1.trans s2) (bh s1 fo)⟩
theorem gD.fr{S:Addr->Prop}{H H':Hp}{x d wl sh bl du bk st:Addr}{bJ:kj}{ops:List Int}{aB:iH}(L:gD C CS S H x d wl sh bl kn du bk dS st op bJ ops aB)(k:∀ a ob,H a=some ob->(S a\/a=bk\/a=x)->H' a=some ob)(t:∀ a xs,H a=some (.tup xs)->H' a=some (.tup xs)):gD C CS S H' x d wl sh bl kn du bk dS st op bJ ops aB :=
 ⟨k _ _ L.hx (.inr (.inr rfl)),L.W.fr (λa ob e z=>k a ob e (.inl z)) t,k _ _ L.hb (.inr (.inl rfl)),L.nx,L.nb⟩
structure AL(C CS CW CB:Addr)(U S SW:Addr->Prop)(H:Hp)(x d wl sh bl kn du bk dS st op dw sg ow pw db tb:Addr)(pe:gS)(ops:List Int)(aB:iH)(aK:gM)(nW:Nat)(bU:Row):Prop where
 L:gD C CS S H x d wl sh bl kn du bk dS st op (jj pe) ops aB
 W:We CW SW H wl dw sg ow pw nW aK
 B:Bl CB H bl db tb
 R:cE H tb bU
 VR:Ris bU
 dj:∀ a,SW a->¬ S a/\a≠bk/\a≠x
 db:¬ S bl/\¬ SW bl/\bl≠bk
 dt:¬ S tb/\¬ SW tb/\tb≠bk
 u:∀ a,U a↔S a\/SW a\/a=bk\/a=x\/a=bl\/a=tb
inductive qg(C CS CW CB:Addr)(U:Addr->Prop)(H:Hp)(x:Addr)(pe:gS)(aB:iH)(aK:gM)(nW:Nat)(bU:Row):Prop
 | mk (S SW:Addr->Prop) (d wl sh bl kn du bk dS st op dw sg ow pw db tb:Addr) (ops:List Int) (_:AL C CS CW CB U S SW H x d wl sh bl kn du bk dS st op dw sg ow pw db tb pe ops aB aK nW bU)
def JO(U U':Addr->Prop)(H H':Hp):Prop:=(∀ a,U' a->U a\/H a=none)/\(∀ a ob,H a=some ob->¬ U a->H' a=some ob)/\∀ a xs,H a=some (.tup xs)->H' a=some (.tup xs)
theorem JO.pre{U U':Addr->Prop}{H0 H H':Hp}(s:aI H0 H)(f:JO U U' H H'):JO U U' H0 H':=⟨λa z=>(f.1 a z).imp id λy=>bh s y,λa ob e n=>f.2.1 a ob (s _ _ e) n,λa xs e=>f.2.2 a xs (s _ _ e)⟩
theorem AL.fr{U S SW:Addr->Prop}{H H':Hp}{x d wl sh bl du bk st dw pw db:Addr}{pe:gS}{ops:List Int}{aB:iH}{aK:gM}{nW:Nat}{bU:Row}(h:AL C CS CW CB U S SW H x d wl sh bl kn du bk dS st op dw sg ow pw db tb pe ops aB aK nW bU)(k:∀ a ob,H a=some ob->U a->H' a=some ob)(t:∀ a xs,H a=some (.tup xs)->H' a=some (.tup xs)):AL C CS CW CB U S SW H' x d wl sh bl kn du bk dS st op dw sg ow pw db tb pe ops aB aK nW bU:=by
 obtain⟨L,W,B,R,VR,dj,db',dt,u⟩:=h;refine⟨L.fr (λa ob e z=>k a ob e ((u a).mpr ?_)) t,W.fr (λa ob e z=>k a ob e ((u a).mpr (.inr (.inl z)))) t,k _ _ B ((u _).mpr (.inr (.inr (.inr (.inr (.inl rfl)))))),R.two (λxs e=>k _ _ e ((u _).mpr (.inr (.inr (.inr (.inr (.inr rfl))))))) t,VR,dj,db',dt,u⟩;rcases z with z|z|z
 ·exact .inl z
 ·exact .inr (.inr (.inl z))
 ·exact .inr (.inr (.inr (.inl z)))
theorem AL.same{U S SW:Addr->Prop}{H H':Hp}{x d wl sh bl du bk st dw pw db:Addr}{pe:gS}{ops:List Int}{aB:iH}{aK:gM}{nW:Nat}{bU:Row}(h:AL C CS CW CB U S SW H x d wl sh bl kn du bk dS st op dw sg ow pw db tb pe ops aB aK nW bU)(s:aI H H'):AL C CS CW CB U S SW H' x d wl sh bl kn du bk dS st op dw sg ow pw db tb pe ops aB aK nW bU:=h.fr (λa ob e _=>s a ob e) λa xs e=>s _ _ e
theorem qg.fr{U:Addr->Prop}{H H':Hp}{x:Addr}{pe:gS}{aB:iH}{aK:gM}{nW:Nat}{bU:Row}(h:qg C CS CW CB U H x pe aB aK nW bU)(k:∀ a ob,H a=some ob->U a->H' a=some ob)(t:∀ a xs,H a=some (.tup xs)->H' a=some (.tup xs)):qg C CS CW CB U H' x pe aB aK nW bU:=by
 obtain⟨S,SW,d,wl,sh,bl,kn,du,bk,dS,st,op,dw,sg,ow,pw,db,tb,ops,z⟩:=h;exact⟨S,SW,d,wl,sh,bl,kn,du,bk,dS,st,op,dw,sg,ow,pw,db,tb,ops,z.fr k t⟩
theorem qg.same{U:Addr->Prop}{H H':Hp}{x:Addr}{pe:gS}{aB:iH}{aK:gM}{nW:Nat}{bU:Row}(h:qg C CS CW CB U H x pe aB aK nW bU)(s:aI H H'):qg C CS CW CB U H' x pe aB aK nW bU:=h.fr (λa ob e _=>s a ob e) λa xs e=>s _ _ e
theorem AL.m9{U S S' SW:Addr->Prop}{H H':Hp}{x d wl sh bl du bk st dw pw db:Addr}{pe Mj:gS}{ops HS:List Int}{aB eE:iH}{aK:gM}{nW:Nat}{bU:Row}(h:AL C CS CW CB U S SW H x d wl sh bl kn du bk dS st op dw sg ow pw db tb pe ops aB aK nW bU)(L':gD C CS S' H' x d wl sh bl kn du bk dS st op (jj Mj) HS eE)(fr:Fr S S' bk H H'):∃ U',qg C CS CW CB U' H' x Mj eE aK nW bU/\JO U U' H H':=by
 obtain⟨L,W,B,R,VR,dj,db',dt,u⟩:=h;obtain⟨as,hR,_⟩:=id R
 have nS':∀ a ob,H a=some ob->¬ S a->¬ S' a:=λa ob e n z=>by
  rcases fr.1 a z with y|y
  ·exact n y
  ·rw[e]at y;cases y
 refine⟨λa=>S' a\/SW a\/a=bk\/a=x\/a=bl\/a=tb,⟨S',SW,d,wl,sh,bl,kn,du,bk,dS,st,op,dw,sg,ow,pw,db,tb,HS,L',W.fr (λa ob e z=>fr.2.1 _ _ e (dj a z).1 (dj a z).2.1) fr.2.2,fr.2.1 _ _ B db'.1 db'.2.2,R.two (λxs e=>fr.2.1 _ _ e dt.1 dt.2.2) fr.2.2,VR,λa z=>?_,⟨nS' _ _ B db'.1,db'.2⟩,⟨nS' _ _ hR dt.1,dt.2⟩,λa=>Iff.rfl⟩,λa z=>?_,λa ob e n=>?_,fr.2.2⟩
 ·obtain⟨ob,e⟩:=W.al a z;exact⟨nS' _ _ e (dj a z).1,(dj a z).2⟩
 ·rcases z with z|z
  ·exact (fr.1 a z).imp (λy=>(u a).mpr (.inl y)) id
  ·exact .inl ((u a).mpr (.inr z))
 ·exact fr.2.1 a ob e (λz=>n ((u a).mpr (.inl z))) (λz=>n ((u a).mpr (.inr (.inr (.inl z)))))
class inductive RD(C CS CW CB:Addr)
 | mk (U:Addr->Prop) (x:Addr) (pe:gS) (aB:iH) (aK:gM) (nW:Nat) (bU:Row) (h:Int) (cs:List Nat) (rows:cR) (_:vs=[.ref x,.int h,.str (fD cs)]) (_:qg C CS CW CB U H x pe aB aK nW bU) (_:vf h) (_:cs.length<=200) (_:aK.length<=90000) (_:nW<=900) (_:pe.getLast?=some rows) (_:rows.length<=50) (_:pe.length<=900) (_:aB.length<=900) (_ :
 ∀ (U':Addr->Prop) (q:Addr) (H':Hp),qg C CS CW CB U' H' x (pe++[rows]) (aB++[(jK.AF h cs).line]) (aK++pM h cs) (nW+1) bU->JO U U' H H'->H' q=some (.tup [.int (aK.length:Nat),.int ((aK++pM h cs).length:Nat)])->Q (.ref q) H')
theorem qK:aF ["self","hand","text","stretch"] ["self","hand","text"] (az nA):=eS
theorem xY:‹(4,59,["self","hand","text"],(RD C CS CW CB))›:=λD=>by
 specialize eU D.Vm.F qK;obtain⟨U,x,pe,aB,aK,nW,bU,h,cs,rows,rfl,⟨S,SW,d,wl,sh,bl,kn,du,bk,dS,st,op,dw,sg,ow,pw,db,tb,ops,LU⟩,fh,lc,li,ln,hl,l1,l2,l3,k⟩:=h;obtain⟨L,W,B,R,VR,dj,db',dt,u⟩:=id LU;exists _,(aj (aX (i:=3) qK.nd (cQ (cO (pv 0) rfl) D.iT D.YM (C9 D) hr bL (aa (pv 1) (aa (pv 2) ah)))) (aj (bg (cQ (pv 0) D.aM D.Vj (n9 D) hr bL (aa (cW (aa bC (aa (pv 1) (aa (pv 2) ah)))) (aa (bM ah) ah)))) (au (aG (pv 3)))));refine⟨Y,x,C,d,_,.ref wl,rfl,L.hx,D.aM.cl,D.wZ,rfl,wl,dw,Y,W.hx,rfl,Y,Y,SW,wl,dw,sg,ow,pw,nW,aK,h,cs,rfl,W,Q,Q,λVS q H1 W1 hq sub fr tp=>?_⟩
 have nSW:∀ a ob,H a=some ob->¬ SW a->¬ VS a:=λa ob e n z=>by
  rcases sub a z with y|y
  ·exact n y
  ·rw[e]at y;cases y
 have nk1:∀ a ob,H a=some ob->(S a\/a=bk\/a=x)->¬ SW a:=λa ob e z y=>by
  obtain⟨y1,y2,y3⟩:=dj a y;rcases z with z|z|z
  ·exact y1 z
  ·exact y2 z
  ·exact y3 z
 have L1:gD C CS S H1 x d wl sh bl kn du bk dS st op (jj pe) ops aB:=L.fr (λa ob e z=>fr _ _ e (nk1 a ob e z)) tp;obtain⟨as,hR,_⟩:=id R
 have LU1:AL C CS CW CB (λa=>S a\/VS a\/a=bk\/a=x\/a=bl\/a=tb) S VS H1 x d wl sh bl kn du bk dS st op dw sg ow pw db tb pe ops aB (aK++pM h cs) (nW+1) bU:=by
  refine⟨L1,W1,fr _ _ B db'.2.1,R.two (λxs e=>fr _ _ e dt.2.1) tp,VR,λa z=>?_,⟨db'.1,nSW _ _ B db'.2.1,db'.2.2⟩,⟨dt.1,nSW _ _ hR dt.2.1,dt.2.2⟩,λa=>Iff.rfl⟩;rcases sub a z with y|y
  ·exact dj a y
  ·refine⟨λq'=>?_,λq'=>?_,λq'=>?_⟩
   ·obtain⟨ob,e⟩:=L.W.al a q';rw[y]at e;cases e
   ·rw[q',L.hb]at y;cases y
   ·rw[q',L.hx]at y;cases y
 refine⟨Y,x,d,Y,L1.hx,rfl,Y,Y,Hs,λt ht=>⟨iP,λc hc=>?_⟩⟩;have s2:aI H1 (aP (aP H1 t (.tup [.str "pour",.int h,.str (fD cs)])) c (.lst [])):=(ak ht _).trans (ak hc _);have Hh:(aP (aP H1 t (.tup [.str "pour",.int h,.str (fD cs)])) c (.lst [])) t=some (.tup [.str "pour",.int h,.str (fD cs)]):=ak hc _ _ _ af;have VD:(aP (aP H1 t (.tup [.str "pour",.int h,.str (fD cs)])) c (.lst [])) c=some (.lst (([]:List Addr).map V.ref)):=af
 have nc:c≠bk:=λz=>by
  have:=ak ht (.tup [.str "pour",.int h,.str (fD cs)]) _ _ L1.hb;rw[← z,hc]at this;cases this
 generalize aP (aP H1 t (.tup [.str "pour",.int h,.str (fD cs)])) c (.lst [])=H2 at s2 Hh VD;have lp:(jj pe).length=pe.length:=cG _;have B4:=LU1.same s2;refine⟨S,x,d,wl,sh,bl,kn,du,bk,dS,st,op,jj pe,ops,aB,t,c,.AF h cs,[],[],rows.map aH,rfl,B4.L,Hh,⟨fh,lc⟩,VD,nc,.nil,(λ_ z=>by cases z),dY hl,(λi ch e=>by cases e),(by show 0<=200;decide),by rw[cG];lia,Q,Q,λS' H3 L3 fr3=>?_⟩
 have ep:jj pe++[pL (rows.map aH) []]=jj (pe++[rows]):=by
  show _=(pe++[rows]).map _;rw[gJ];rfl
 have eo:ops++List.replicate ((pL (rows.map aH) []).length-(rows.map aH).length) (((jj pe).length:Nat):Int)=ops:=by
  show ops++List.replicate ((rows.map aH).length-(rows.map aH).length) _=ops;rw[Nat.sub_self];exact gT _
 rw[ep,eo]at L3;obtain⟨U',hL',f'⟩:=B4.m9 L3 fr3;refine⟨Y,k U' q H3 hL' ⟨λa z=>?_,λa ob e n=>?_,λa xs e=>f'.2.2 _ _ (s2 _ _ (tp _ _ e))⟩ (f'.2.2 _ _ (s2 _ _ hq))⟩
 ·rcases f'.1 a z with y|y
  ·rcases y with y|y|y
   ·exact .inl ((u a).mpr (.inl y))
   ·exact (sub a y).imp (λw=>(u a).mpr (.inr (.inl w))) id
   ·exact .inl ((u a).mpr (.inr (.inr y)))
  ·have y1:=bh s2 y
   cases e:H a with
   | none=>exact .inr rfl
   | some ob =>
    by_cases z2:SW a
    ·exact .inl ((u a).mpr (.inr (.inl z2)))
    ·rw[fr _ _ e z2]at y1;cases y1
 ·have n1:¬ SW a:=λz=>n ((u a).mpr (.inr (.inl z)));refine f'.2.1 a ob (s2 _ _ (fr _ _ e n1)) λz=>?_;rcases z with z|z|z
  ·exact n ((u a).mpr (.inl z))
  ·exact nSW _ _ e n1 z
  ·exact n ((u a).mpr (.inr (.inr z)))
class inductive Fy(C CS CW CB:Addr)
 | mk (U:Addr->Prop) (x:Addr) (pe:gS) (aB:iH) (aK:gM) (nW:Nat) (bU:Row) (_:vs=[.ref x]) (_:qg C CS CW CB U H x pe aB aK nW bU) (_:Q (.int (aK.length:Nat)) H)
class inductive Fz(C CS CW CB:Addr)
 | mk (U:Addr->Prop) (x r:Addr) (pe:gS) (aB:iH) (aK:gM) (nW:Nat) (bU row:Row) (_:vs=[.ref x,.ref r]) (_:qg C CS CW CB U H x pe aB aK nW bU) (_:cE H r row) (_:row.length<=1000) (_:uh aK.length row=true) (_:∀ H',aI H H'->Q .gm H')
theorem AM:aF ["self"] ["self"] (az oS):=eS
theorem qL:aF ["self","row"] ["self","row"] (az iK):=eS
theorem qM:‹(2,57,["self"],(Fy C CS CW CB))›:=λD=>by
 specialize eU D.YS.F AM;obtain⟨U,x,pe,aB,aK,nW,bU,rfl,⟨S,SW,d,wl,sh,bl,kn,du,bk,dS,st,op,dw,sg,ow,pw,db,tb,ops,LU⟩,k⟩:=h;exists _,(au (aG (eO (cO (pv 0) rfl) D.iT D.KR (jC D) hr bL)));exact⟨Y,x,C,d,_,.ref wl,rfl,LU.L.hx,D.aM.cl,D.wZ,rfl,wl,dw,Y,LU.W.hx,rfl,wl,dw,sg,ow,pw,aK,rfl,LU.W.hx,LU.W.hs,k⟩
theorem qc:‹(3,58,["self","row"],(Fz C CS CW CB))›:=λD=>by
 have RE:bw P w K mg zt cL 2 _ _ Gq (Fy C CS CW CB):=qM D;specialize eU D.YT.F qL;obtain⟨U,x,r,pe,aB,aK,nW,bU,row,rfl,LB,hr1,lr,g,k1⟩:=h;obtain⟨S,SW,d,wl,sh,bl,kn,du,bk,dS,st,op,dw,sg,ow,pw,db,tb,ops,LU⟩:=id LB;exists _,(au (bN (gi (gw (cQ (cO (pv 0) rfl) D.iT D.YN (AI D) hr bL (aa (pv 1) ah)))) (au iR) aZ));refine⟨Y,x,C,d,_,.ref wl,rfl,LU.L.hx,D.aM.cl,D.wZ,rfl,wl,dw,Y,LU.W.hx,rfl,Y,SW,wl,dw,sg,ow,pw,r,nW,aK,row,rfl,LU.W,hr1,lr,λH1 s1=>⟨Y,?_⟩⟩;rw[g];exact d7 (k1 H1 s1)
abbrev ptW:List Nat:=(Str.ofString "put").cps.toList
class inductive RG(C CS CW CB:Addr)
 | mk (U:Addr->Prop) (x r:Addr) (pe:gS) (aB:iH) (aK:gM) (nW:Nat) (bU row:Row) (s p:Int) (rows:cR) (_:vs=[.ref x,.int s,.int p,.ref r]) (_:qg C CS CW CB U H x pe aB aK nW bU) (_:cE H r row) (_:Ob row) (_:aK.length<=100000) (_:pe.getLast?=some rows) (_:rows.length<=50) (_:pe.length<=900) (_:aB.length<=900) (_:vz s) (_:vz p) (_:qH rows.length s) (_:uh aK.length row=true) (_:(∃ sh,Seen rows sh/\(0<=p/\p<=(sh s).length)/\((∀ es,rows[s.toNat]?=some es->(∃ f,lg (iW rows s.toNat (fO sh p es (dz (cK (cA row))))) f)/\
  ∀ (U':Addr->Prop) (H':Hp),qg C CS CW CB U' H' x (pe++[iW rows s.toNat (fO sh p es (dz (cK (cA row))))]) (aB++[(jK.sG ptW [s,p] row).line]) aK nW bU->JO U U' H H'->Q .gm H'))))
theorem sI:aF ["self","sheet","place","row","items"] ["self","sheet","place","row"] (az oU):=eS
theorem wH(ns:List Int):i6 (cM ns)=(ns.length:Int):=by rw[← rf _ (mq _),eN]
theorem Lx{n:Nat}{row:Row}(h:uh n row=true):∀ p∈row,0<=p.1/\p.1<p.2/\p.2<=n:=λp hp=>by
 have z:=List.all_eq_true.mp h p hp;unfold Pz at z;simpa [and_assoc] using z
theorem vz.big{s:Int}(h:vz s):s<10^60:=by
 obtain⟨_,h1⟩:=h;lia
theorem zJ:‹(6,60,["self","sheet","place","row"],(RG C CS CW CB))›:=λD=>by
 refine eU D.YU.F sI λcV A zn s0 H vs Q E hr h=>?_;obtain⟨U,x,r,pe,aB,aK,nW,bU,row,s,p,rows,rfl,LB,hr1,fr,li,hl,l1,l2,l3,fs,fp,ia,g,k2⟩:=h;obtain⟨S,SW,d,wl,sh,bl,kn,du,bk,dS,st,op,dw,sg,ow,pw,db,tb,ops,LU⟩:=id LB;have lo:=jD LU.L hl;have hl':=dY hl;have lp:(jj pe).length=pe.length:=cG _;exists _,(aj (bg (aC D.WB (gI D) hr (aa (cQ (pv 0) D.aM D.KS (gy D) hr bL (aa (pv 1) ah)) (aa (pv 2) (aa (pv 2) ah))))) (aj (bg (cQ (pv 0) D.aM D.YT (qc D) hr bL (aa (pv 3) ah))) (aj (aX (i:=4) sI.nd (aC D.QO (pK D) hr (aa (eO (cO (pv 0) rfl) D.cF D.Ay (eK D) hr bL) (aa (pv 1) (aa (pv 2) (aa (aC D.EU (mG D) hr (aa (pv 3) ah)) ah)))))) (au (bg (cQ (pv 0) D.aM D.EV (dP D) hr bL (aa (cW (aa bC (aa (pv 1) (aa (pv 2) (aa (pv 3) ah))))) (aa (pv 1) (aa (pv 4) ah)))))))));exists Y,x,d,Y,LU.L.hx,rfl,Y,S,x,d,wl,sh,bl,kn,du,bk,dS,st,op,pe,ops,aB,rows,s,rfl,LU.L,hl,l1,l2,ia;obtain⟨f0,sn,hpp,k6⟩:=k2;have ls:(f0 s).length<=10000:=sn.ln s ia.1 ia.2;have lr0:=jT (f0 s);refine⟨f0,sn,λo H1 ho s1 fo=>?_⟩;have z:Ma p p (i6 (cM (f0 s))):=by rw[wH];exact⟨hpp.1,Int.le_refl _,hpp.2⟩
 refine⟨Y,Y,o,cM (f0 s),p,p,rfl,ho,Q,z,λH2 s2=>?_⟩;have jH:=s1.trans s2;have B4:=LU.same jH;have JF:=hr1.same jH;refine⟨Y,x,d,Y,B4.L.hx,rfl,Y,U,x,r,pe,aB,aK,nW,bU,row,rfl,LB.same jH,JF,by have:=fr.1;lia,g,λH3 s3=>?_⟩;have xP:=jH.trans s3;have RH:=LU.same xP;have KU:=hr1.same xP;have hp:=Lx g;have sl:s.toNat<rows.length:=by have:=ia.1;have:=ia.2;lia
 obtain⟨es,es1⟩:∃ es,rows[s.toNat]?=some es:=⟨_,uz sl⟩;obtain⟨⟨fB,B⟩,k7⟩:=k6 _ es1;refine⟨Y,x,C,d,_,.ref sh,rfl,RH.L.hx,D.aM.cl,D.eX,rfl,sh,dS,Y,RH.L.W.hx,rfl,S,sh,dS,st,op,jj pe,ops,rfl,RH.L.W,⟨Q,Q⟩,λTo el q H4 fs4 s4=>?_⟩;rw[hl']at el;cases el;obtain⟨fq,rs,hq,al⟩:=fs4
 have hR:gb H4 q (rows.map aH):=by
  exists rs.map V.ref,hq
  have key:∀ {as:List Addr} {ds:List (List aQ)},bX (λr aN=>H3 r=none/\r≠q/\bK H4 (.ref r) aN) as ds->bX (bK H4) (as.map V.ref) ds:=by
   intro as ds z
   induction z with
   | nil=>exact .nil
   | cons o t ih=>exact .cons o.2.2 ih
  exact key al
 have hr4:=KU.same s4;refine⟨Y,Y,Y,r,row,rfl,hr4,by have:=fr.1;lia,λoi H5 Z0 s5 foi=>?_⟩;have nn:kX row:=λp' SK=>⟨(hp p' SK).1,by have:=(hp p' SK).2.1;lia⟩;refine⟨q,oi,rows,s,p,_,f0,rfl,⟨hR.same s5,Q,sn.es,sn.sd,sn.rk,sn.ss,sn.ln⟩,ia.1,ia.2,Z0,uZ (nX nn),?_,hpp,λes q2 H6 nP d8 s6 Ml=>?_⟩
 ·unfold cK;rw[cG];have:=lJ row;have:=fr.1;lia
 rw[es1]at nP;cases nP;have Tp:aI H H6:=xP.trans (s4.trans (s5.trans s6));have OA:=LU.same Tp
 have OB:q2≠bk:=λe=>by
  have y:=(LU.same (xP.trans (s4.trans s5))).L.hb;rw[← e,Ml]at y;cases y
 refine⟨Y,x,d,Y,OA.L.hx,rfl,Y,Y,Y,CO,λt ht=>?_⟩;have s7:=ak ht (.tup [.str "put",.int s,.int p,.ref r]);have ht7:(aP H6 t (.tup [.str "put",.int s,.int p,.ref r])) t=some (.tup [.str "put",.int s,.int p,.ref r]):=af;generalize aP H6 t (.tup [.str "put",.int s,.int p,.ref r])=H7 at s7 ht7;have Tq:=Tp.trans s7;have LU7:=LU.same Tq;have ss:((s.toNat:Nat):Int)=s:=by have:=ia.1;lia
 refine⟨Y,Y,S,x,d,wl,sh,bl,kn,du,bk,dS,st,op,pe,ops,aB,t,q2,.sG ptW [s,p] row,s.toNat,_,rows,fB,by rw[ss];rfl,LU7.L,⟨r,by rw[ht7,tZ];rfl,hr1.same Tq⟩,⟨(by show mK ZP ptW=some 2;decide +kernel),?_,fr⟩,d8.same s7,OB,hl,by have:=ia.2;have:=ia.1;lia,l1,l2,l3,B,λS' H8 L8 Eu=>?_⟩
 ·intro y hy;have b1:=ia.1;have b2:=hpp.1;rcases List.mem_cons.mp hy with e|e
  ·rw[e];exact⟨b1,fs.big⟩
  ·rw[List.mem_singleton.mp e];exact⟨b2,fp.big⟩
 ·obtain⟨U',hL',f'⟩:=LU7.m9 L8 Eu;exact k7 U' H8 hL' (f'.pre Tq)
theorem We.ko{S:Addr->Prop}{H H':Hp}{x d s p:Addr}{n:Nat}{aK:gM}{fs:List (Str × V)}(h:We C S H x d s o p n aK)(hl:H l=some (.ins C' d' fs))(nl:¬ S l)(k:cH l H H'):We C S H' x d s o p n aK :=
 h.fr (λa ob e z=>k a ob e (λq=>nl (by rw[← q];exact z))) (λa xs e=>k _ _ e (dG e hl))
theorem cE.ko{H H':Hp}{r:Addr}{row:Row}{fs:List (Str × V)}(h:cE H r row)(hl:H l=some (.ins C' d' fs))(k:cH l H H'):cE H' r row :=
 h.two (λxs e=>k _ _ e (dG e hl)) (λa xs e=>k _ _ e (dG e hl))
theorem lN{H:Hp}{dw a:Addr}{o:HO}(e:(aP (aP H dw (.own xw)) xw o) a=none):H a=none:=by
 by_cases z1:a=xw
 ·rw[z1,af]at e;cases e
 rw[aL z1]at e;by_cases z2:a=dw
 ·rw[z2,af]at e;cases e
 rw[aL z2]at e;exact e
class inductive Ca(C CS CW CB:Addr)
 | mk (x d:Addr) (_:vs=[.ref x]) (_:H x=some (.ins C d [])) (_: ∀ (U:Addr->Prop) (H':Hp),qg C CS CW CB U H' x [[]] [] [] 0 []->(∀ a,U a->a=x\/H a=none)->cH x H H'->Q .gm H')
theorem um:aF ["self"] ["self"] (az ju):=eS
theorem rO:‹(3,50,["self"],(Ca C CS CW CB))›:=λD=>by
 specialize eU D.Vi.F um;obtain⟨x,d,rfl,hx,k⟩:=h;refine⟨_,(aj (ja (pv 0) (lR D.iT.UX (wB D) (hr.mono (by decide)) rfl D.iT.m D.YL.b .nil bL) rfl) (aj (ja (pv 0) (lR D.cF.UX (vh D) (hr.mono (by decide)) rfl D.cF.m D.YE.b .nil bL) rfl) (aj (ja (pv 0) (lR D.t9.UX (uU D) (hr.mono (by decide)) rfl D.t9.m D.dq9.b .nil bL) rfl) (aj (ja (pv 0) (lR D.BO.UX (wm D) (hr.mono (by decide)) rfl D.BO.m D.YJ.b .nil bL) rfl) (aj (ja (pv 0) (lR D.ET.UX (wj D) (hr.mono (by decide)) rfl D.ET.m D.YK.b .nil bL) rfl) (au (ja (pv 0) (bM ah) rfl))))))),?_⟩;intro wl dw hw1 hw2 _;refine⟨wl,dw,rfl,af,λsg ow pw H1 V1 k1 fsg fow fpw=>⟨rfl,?_⟩⟩;have s1:=jU hw1 hw2 k1
 have fW:∀ a,(a=wl\/a=sg\/a=ow\/a=pw)->H a=none:=λa e=>by
  rcases e with rfl|rfl|rfl|rfl
  ·exact hw1
  ·exact lN fsg
  ·exact lN fow
  ·exact lN fpw
 have VT:¬ (x=wl\/x=sg\/x=ow\/x=pw):=λe=>by
  have:=fW x e;rw[hx]at this;cases this
 exists Y,x,C,d,Y,s1 _ _ hx,D.aM.cl,D.wZ,E;have q2:cH x H (aP H1 x (.ins C d (L2.dZ "well" (.ref wl) []))):=cH.trans (gA.aI.keep s1) (aJ x _ _);have x2:(aP H1 x (.ins C d (L2.dZ "well" (.ref wl) []))) x=some (.ins C d [("well",.ref wl)]):=af;have kx2:cH x H1 (aP H1 x (.ins C d (L2.dZ "well" (.ref wl) []))):=aJ x _ _;generalize aP H1 x (.ins C d (L2.dZ "well" (.ref wl) []))=H2 at q2 x2 kx2;have V2:=V1.ko (s1 _ _ hx) VT kx2;intro sh dS VI Gs _;refine⟨sh,dS,rfl,af,λst op z H3 W3 k3 fst fop fz=>⟨rfl,?_⟩⟩;have s3:=jU VI Gs k3
 have up:∀ a,(aP (aP H2 dS (.own sh)) sh (.ins CS dS [])) a=none->H2 a=none:=λa e=>by
  by_cases z1:a=sh
  ·rw[z1,af]at e;cases e
  rw[aL z1]at e;by_cases z2:a=dS
  ·rw[z2,af]at e;cases e
  rw[aL z2]at e;exact e
 have fS:∀ a,(a=sh\/a=st\/a=op\/a=z)->H2 a=none:=λa e=>by
  rcases e with rfl|rfl|rfl|rfl
  ·exact VI
  ·exact up _ fst
  ·exact up _ fop
  ·exact up _ fz
 have VU:¬ (x=sh\/x=st\/x=op\/x=z):=λe=>by
  have:=fS x e;rw[x2]at this;cases this
 have x3:=s3 _ _ x2;have V3:=V2.same s3;refine⟨Y,x,C,d,Y,x3,D.aM.cl,D.eX,(by show 1<1000;decide),?_⟩;have k4:cH x H3 (aP H3 x (.ins C d (L2.dZ "shelf" (.ref sh) [("well",.ref wl)]))):=aJ x _ _;have x4:(aP H3 x (.ins C d (L2.dZ "shelf" (.ref sh) [("well",.ref wl)]))) x=some (.ins C d [("well",.ref wl),("shelf",.ref sh)]):=af;generalize aP H3 x (.ins C d (L2.dZ "shelf" (.ref sh) [("well",.ref wl)]))=H4 at k4 x4;have W4:=W3.ko x3 VU k4;have V4:=V3.ko x3 VT k4;have q4:cH x H H4:=(q2.trans (gA.aI.keep s3)).trans k4;intro bl db JE VC _;refine⟨bl,db,rfl,af,λtb H5 B5 R5 k5 ftb=>⟨rfl,?_⟩⟩;have s5:=jU JE VC k5;have VW:=lN ftb;have x5:=s5 _ _ x4;have W5:=W4.same s5;have V5:=V4.same s5;have OC:bl≠x:=(aA x4 JE).symm;refine⟨Y,x,C,d,Y,x5,D.aM.cl,D.yQ,(by show 2<1000;decide),?_⟩;have k6:cH x H5 (aP H5 x (.ins C d (L2.dZ "blots" (.ref bl) [("well",.ref wl),("shelf",.ref sh)]))):=aJ x _ _;have x6:(aP H5 x (.ins C d (L2.dZ "blots" (.ref bl) [("well",.ref wl),("shelf",.ref sh)]))) x=some (.ins C d [("well",.ref wl),("shelf",.ref sh),("blots",.ref bl)]):=af;generalize aP H5 x (.ins C d (L2.dZ "blots" (.ref bl) [("well",.ref wl),("shelf",.ref sh)]))=H6 at k6 x6;have W6:=W5.ko x5 VU k6;have V6:=V5.ko x5 VT k6;have B6:Bl CB H6 bl db tb:=k6 _ _ B5 OC;have R6:=R5.ko x5 k6;have q6:cH x H H6:=(q4.trans (gA.aI.keep s5)).trans k6;intro kn dk hk1 hk2 _;refine⟨kn,dk,rfl,af,λfs7 H7 _ k7=>⟨rfl,?_⟩⟩;have s7:=jU hk1 hk2 k7;have x7:=s7 _ _ x6;have W7:=W6.same s7;have V7:=V6.same s7;have B7:Bl CB H7 bl db tb:=s7 _ _ B6;have R7:=R6.same s7;refine⟨Y,x,C,d,Y,x7,D.aM.cl,D.CC,(by show 3<1000;decide),?_⟩;have k8:cH x H7 (aP H7 x (.ins C d (L2.dZ "knots" (.ref kn) [("well",.ref wl),("shelf",.ref sh),("blots",.ref bl)]))):=aJ x _ _;have x8:(aP H7 x (.ins C d (L2.dZ "knots" (.ref kn) [("well",.ref wl),("shelf",.ref sh),("blots",.ref bl)]))) x=some (.ins C d [("well",.ref wl),("shelf",.ref sh),("blots",.ref bl),("knots",.ref kn)]):=af;generalize aP H7 x (.ins C d (L2.dZ "knots" (.ref kn) [("well",.ref wl),("shelf",.ref sh),("blots",.ref bl)]))=H8 at k8 x8;have W8:=W7.ko x7 VU k8;have V8:=V7.ko x7 VT k8;have B8:Bl CB H8 bl db tb:=k8 _ _ B7 OC;have R8:=R7.ko x7 k8;have q8:cH x H H8:=(q6.trans (gA.aI.keep s7)).trans k8;intro du dd KI hd2 _;refine⟨du,dd,rfl,af,λfs9 H9 _ k9=>⟨rfl,?_⟩⟩;have s9:=jU KI hd2 k9;have x9:=s9 _ _ x8;have W9:=W8.same s9;have V9:=V8.same s9;have B9:Bl CB H9 bl db tb:=s9 _ _ B8;have R9:=R8.same s9;refine⟨Y,x,C,d,Y,x9,D.aM.cl,D.Jj,(by show 4<1000;decide),?_⟩;have WL:cH x H9 (aP H9 x (.ins C d (L2.dZ "dues" (.ref du) [("well",.ref wl),("shelf",.ref sh),("blots",.ref bl),("knots",.ref kn)]))):=aJ x _ _;have WM:(aP H9 x (.ins C d (L2.dZ "dues" (.ref du) [("well",.ref wl),("shelf",.ref sh),("blots",.ref bl),("knots",.ref kn)]))) x=some (.ins C d [("well",.ref wl),("shelf",.ref sh),("blots",.ref bl),("knots",.ref kn),("dues",.ref du)]):=af;generalize aP H9 x (.ins C d (L2.dZ "dues" (.ref du) [("well",.ref wl),("shelf",.ref sh),("blots",.ref bl),("knots",.ref kn)]))=L7 at WL WM;have W10:=W9.ko x9 VU WL;have V10:=V9.ko x9 VT WL;have B10:Bl CB L7 bl db tb:=WL _ _ B9 OC;have R10:=R9.ko x9 WL;have Bs:cH x H L7:=(q8.trans (gA.aI.keep s9)).trans WL;refine⟨iP,λbk Tr=>⟨Y,x,C,d,Y,ak Tr _ _ _ WM,D.aM.cl,D.Em,(by show 5<1000;decide),?_⟩⟩;have nbx:bk≠x:=(aA WM Tr).symm
 have nSb:¬ (bk=sh\/bk=st\/bk=op\/bk=z):=λe=>by
  obtain⟨ob,w⟩:=W10.al bk e;rw[Tr]at w;cases w
 have vv:=ak Tr (.lst []);have Z1:cH x (aP L7 bk (.lst [])) (aP (aP L7 bk (.lst [])) x (.ins C d (L2.dZ "book" (.ref bk) [("well",.ref wl),("shelf",.ref sh),("blots",.ref bl),("knots",.ref kn),("dues",.ref du)]))):=aJ x _ _;have W12:=(W10.same vv).ko (vv _ _ WM) VU Z1;have V12:=(V10.same vv).ko (vv _ _ WM) VT Z1;have B12:=Z1 _ _ (vv _ _ B10) OC;have R12:=(R10.same vv).ko (vv _ _ WM) Z1;obtain⟨as5,hR5,_⟩:=id R5;have Z2:∀ a,(a=sh\/a=st\/a=op\/a=z)->a=x\/H a=none:=λa e=>.inr (iC q2 (λe'=>by rw[e']at e;exact VU e) (fS a e));refine k (λa=>(a=sh\/a=st\/a=op\/a=z)\/(a=wl\/a=sg\/a=ow\/a=pw)\/a=bk\/a=x\/a=bl\/a=tb) _ ⟨P,d,wl,sh,bl,kn,du,bk,dS,st,op,dw,sg,ow,pw,db,tb,[],⟨af,W12,?_,VU,nSb⟩,V12,B12,R12,?_,?_,?_,?_,λa=>Iff.rfl⟩ ?_ ((Bs.trans (gA.aI.keep vv)).trans Z1)
 ·rw[aL nbx];exact af
 ·exact⟨.nil,λ_ z=>by cases z⟩
 ·intro a ea;obtain⟨ob,hob⟩:=V2.al a ea;refine⟨λes=>?_,λeb=>?_,λex=>?_⟩
  ·rw[fS a es]at hob;cases hob
  ·obtain⟨ob',w⟩:=V10.al a ea;rw[eb,Tr]at w;cases w
  ·rw[ex]at ea;exact VT ea
 ·refine⟨λes=>?_,λew=>?_,λeb=>?_⟩
  ·obtain⟨ob,w⟩:=W4.al bl es;rw[JE]at w;cases w
  ·obtain⟨ob,w⟩:=V4.al bl ew;rw[JE]at w;cases w
  ·rw[eb]at B10;have Z3:L7 bk=some _:=B10;rw[Tr]at Z3;cases Z3
 ·refine⟨λes=>?_,λew=>?_,λeb=>?_⟩
  ·obtain⟨ob,w⟩:=W4.al tb es;rw[VW]at w;cases w
  ·obtain⟨ob,w⟩:=V4.al tb ew;rw[VW]at w;cases w
  ·obtain⟨as,hR,_⟩:=id R10;rw[eb,Tr]at hR;cases hR
 ·intro a ea;rcases ea with ea|ea|ea|ea|ea|ea
  ·exact Z2 a ea
  ·exact .inr (fW a ea)
  ·rw[ea];exact .inr (iC Bs nbx Tr)
  ·exact .inl ea
  ·rw[ea];exact .inr (iC q4 OC JE)
  ·by_cases ex:a=x
   ·exact .inl ex
   ·rw[ea]at ex ⊢;exact .inr (iC q4 ex VW)
theorem Ro.at_{H H':Hp}{q:Addr}{rows:List (List aQ)}(h:Ro H H' q rows):gb H' q rows:=by
 obtain⟨_,rs,hq,al⟩:=h;exists rs.map V.ref,hq
 have key:∀ {as:List Addr} {ds:List (List aQ)},bX (λr aN=>H r=none/\r≠q/\bK H' (.ref r) aN) as ds->bX (bK H') (as.map V.ref) ds:=by
  intro as ds z
  induction z with
  | nil=>exact .nil
  | cons o t ih=>exact .cons o.2.2 ih
 exact key al
abbrev ctW:List Nat:=(Str.ofString "cut").cps.toList
abbrev qtW:List Nat:=(Str.ofString "quote").cps.toList
class inductive RI(C CS CW CB:Addr)
 | mk (U:Addr->Prop) (x:Addr) (pe:gS) (aB:iH) (aK:gM) (nW:Nat) (bU:Row) (s a b:Int) (rows:cR) (_:vs=[.ref x,.int s,.int a,.int b]) (_:qg C CS CW CB U H x pe aB aK nW bU) (_:pe.getLast?=some rows) (_:rows.length<=50) (_:pe.length<=900) (_:aB.length<=900) (_:vz s) (_:vz a) (_:vz b)
  (_:qH rows.length s) (_:∃ sh,Seen rows sh/\Ma a b (sh s).length/\(∀ es,rows[s.toNat]?=some es->(∃ f,lg (iW rows s.toNat (bR sh a b es)) f)/\
  ∀ (U':Addr->Prop) (H':Hp),qg C CS CW CB U' H' x (pe++[iW rows s.toNat (bR sh a b es)]) (aB++[(jK.plain ctW [s,a,b]).line]) aK nW bU->JO U U' H H'->Q .gm H'))
class inductive Ly(C CS CW CB:Addr)
 | mk (U:Addr->Prop) (x:Addr) (pe:gS) (aB:iH) (aK:gM) (nW:Nat) (bU:Row) (t p s a b:Int) (rows:cR) (_:vs=[.ref x,.int t,.int p,.int s,.int a,.int b]) (_:qg C CS CW CB U H x pe aB aK nW bU) (_:pe.getLast?=some rows) (_:rows.length<=50) (_:pe.length<=900) (_:aB.length<=900) (_:vz t) (_:vz p) (_:vz s) (_:vz a) (_:vz b)
  (_:qH rows.length t) (_:qH rows.length s) (_:(∃ sh,Seen rows sh/\Ma a b (sh s).length/\((0<=p/\p<=(sh t).length)/\(∀ es,rows[t.toNat]?=some es->(∃ f,lg (iW rows t.toNat (fO sh p es (((sh s).take b.toNat).drop a.toNat))) f)/\
  ∀ (U':Addr->Prop) (H':Hp),qg C CS CW CB U' H' x (pe++[iW rows t.toNat (fO sh p es (((sh s).take b.toNat).drop a.toNat))]) (aB++[(jK.plain qtW [t,p,s,a,b]).line]) aK nW bU->JO U U' H H'->Q .gm H'))))
class inductive VX(C CS:Addr)
 | mk (S:Addr->Prop) (x d wl sh bl kn du bk dS st op:Addr) (pe:gS) (ops:List Int) (aB:iH) (rows:cR) (s:Int) (_:vs=[.ref x,.int s]) (_:gD C CS S H x d wl sh bl kn du bk dS st op (jj pe) ops aB) (_:pe.getLast?=some rows) (_:rows.length<=50) (_:pe.length<=900)
  (_:qH rows.length s) (_:∀ es,rows[s.toNat]?=some es->∀ (q:Addr) (H':Hp),bK H' (.ref q) (aH es)->aI H H'->H q=none->Q (.ref q) H')
theorem sJ:aF ["self","sheet","start","stop","items"] ["self","sheet","start","stop"] (az oV):=eS
theorem zK:‹(6,62,["self","sheet","start","stop"],(RI C CS CW CB))›:=λD=>by
 refine eU D.YV.F sJ λcV A zn s0 H vs Q E hr h=>?_;obtain⟨U,x,pe,aB,aK,nW,bU,s,a,b,rows,rfl,LB,hl,l1,l2,l3,fs,fa,fb,ia,k2⟩:=h;obtain⟨S,SW,d,wl,sh,bl,kn,du,bk,dS,st,op,dw,sg,ow,pw,db,tb,ops,LU⟩:=id LB;have lo:=jD LU.L hl;have hl':=dY hl;have lp:(jj pe).length=pe.length:=cG _;have ok:HR (jj pe) ops:=⟨Q,Q⟩;exists _,(aj (bg (cQ (cO (pv 0) rfl) D.cF D.Ax (cy D) hr bL (aa (pv 1) ah))) (aj (aX (i:=4) sJ.nd (aC D.YA (C2 D) hr (aa (eO (cO (pv 0) rfl) D.cF D.Ay (eK D) hr bL) (aa (pv 1) (aa (pv 2) (aa (pv 3) ah)))))) (au (bg (cQ (pv 0) D.aM D.EV (dP D) hr bL (aa (cW (aa bC (aa (pv 1) (aa (pv 2) (aa (pv 3) ah))))) (aa (pv 1) (aa (pv 4) ah))))))));refine⟨Y,x,C,d,_,.ref sh,rfl,LU.L.hx,D.aM.cl,D.eX,rfl,sh,dS,Y,LU.L.W.hx,rfl,Y,S,sh,dS,st,op,jj pe,ops,s,rfl,LU.L.W,by rw[lo];exact ia,?_⟩;obtain⟨f0,sn,i3,k4⟩:=k2;refine⟨Y,x,C,d,_,.ref sh,rfl,LU.L.hx,D.aM.cl,D.eX,rfl,sh,dS,Y,LU.L.W.hx,rfl,S,sh,dS,st,op,jj pe,ops,rfl,LU.L.W,ok,λTo el q H1 Oz s1=>?_⟩;rw[hl']at el;cases el;have sl:s.toNat<rows.length:=by have:=ia.1;have:=ia.2;lia
 obtain⟨es,es1⟩:∃ es,rows[s.toNat]?=some es:=⟨_,uz sl⟩;refine⟨Y,Y,Y,q,rows,s,a,b,f0,rfl,⟨Oz.at_,Q,sn.es,sn.sd,sn.rk,sn.ss,sn.ln⟩,ia.1,ia.2,i3,λvt q2 H2 nP d8 s2 Ml=>?_⟩;rw[es1]at nP;cases nP;obtain⟨⟨fB,B⟩,k5⟩:=k4 es es1;have jH:=s1.trans s2;have B4:=LU.same jH
 have OB:q2≠bk:=λe=>by
  have y:=(LU.same s1).L.hb;rw[← e,Ml]at y;cases y
 refine⟨Y,x,d,Y,B4.L.hx,rfl,Y,Y,Y,CO,λt ht=>?_⟩;have s3:=ak ht (.tup [.str "cut",.int s,.int a,.int b]);have Rn:(aP H2 t (.tup [.str "cut",.int s,.int a,.int b])) t=some (.tup [.str "cut",.int s,.int a,.int b]):=af;generalize aP H2 t (.tup [.str "cut",.int s,.int a,.int b])=H3 at s3 Rn;have xP:=jH.trans s3;have RH:=LU.same xP;have ss:((s.toNat:Nat):Int)=s:=by have:=ia.1;lia
 refine⟨Y,Y,S,x,d,wl,sh,bl,kn,du,bk,dS,st,op,pe,ops,aB,t,q2,.plain ctW [s,a,b],s.toNat,_,rows,fB,by rw[ss];rfl,RH.L,(by show H3 t=_;rw[Rn,tZ];rfl),⟨(by show mK Ri ctW=some 3;decide +kernel),?_⟩,d8.same s3,OB,hl,Q,l1,l2,l3,B,λS' H8 L8 Eu=>?_⟩
 ·intro y hy;have b1:=ia.1;unfold Ma at i3;rcases List.mem_cons.mp hy with e|hy
  ·rw[e];exact⟨b1,fs.big⟩
  rcases List.mem_cons.mp hy with e|hy
  ·rw[e];exact⟨Q,fa.big⟩
  ·rw[List.mem_singleton.mp hy];exact⟨Q,fb.big⟩
 ·obtain⟨U',hL',f'⟩:=RH.m9 L8 Eu;exact k5 U' H8 hL' (f'.pre xP)
theorem kQ:aF ["self","target","place","source","start","stop","row","items"] ["self","target","place","source","start","stop"] (az lZ):=eS
theorem wI:‹(6,63,["self","target","place","source","start","stop"],(Ly C CS CW CB))›:=λD=>by
 refine eU D.YW.F kQ λcV A zn s0 H vs Q E hr h=>?_;obtain⟨U,x,pe,aB,aK,nW,bU,t,p,s,a,b,rows,rfl,LB,hl,l1,l2,l3,ft,fp,fs,fa,fb,it,ia,k4⟩:=h;obtain⟨S,SW,d,wl,sh,bl,kn,du,bk,dS,st,op,dw,sg,ow,pw,db,tb,ops,LU⟩:=id LB;have lo:=jD LU.L hl;have hl':=dY hl;have lp:(jj pe).length=pe.length:=cG _;have ok:HR (jj pe) ops:=⟨Q,Q⟩;exists _,(aj (bg (cQ (cO (pv 0) rfl) D.cF D.Ax (cy D) hr bL (aa (pv 1) ah))) (aj (aX (i:=6) kQ.nd (aC D.dq8 (QW D) hr (aa (cQ (pv 0) D.aM D.KS (gy D) hr bL (aa (pv 3) ah)) (aa (pv 4) (aa (pv 5) ah))))) (aj (aX (i:=7) kQ.nd (aC D.QO (pK D) hr (aa (eO (cO (pv 0) rfl) D.cF D.Ay (eK D) hr bL) (aa (pv 1) (aa (pv 2) (aa (aC D.EU (mG D) hr (aa (pv 6) ah)) ah)))))) (au (bg (cQ (pv 0) D.aM D.EV (dP D) hr bL (aa (cW (aa bC (aa (pv 1) (aa (pv 2) (aa (pv 3) (aa (pv 4) (aa (pv 5) ah))))))) (aa (pv 1) (aa (pv 7) ah)))))))));refine⟨Y,x,C,d,_,.ref sh,rfl,LU.L.hx,D.aM.cl,D.eX,rfl,sh,dS,Y,LU.L.W.hx,rfl,Y,S,sh,dS,st,op,jj pe,ops,t,rfl,LU.L.W,by rw[lo];exact it,?_⟩;exists Y,x,d,Y,LU.L.hx,rfl,Y,S,x,d,wl,sh,bl,kn,du,bk,dS,st,op,pe,ops,aB,rows,s,rfl,LU.L,hl,l1,l2,ia;obtain⟨f0,sn,i3,ip,k8⟩:=k4;refine⟨f0,sn,λo H1 ho s1 fo=>?_⟩;have ls:(f0 s).length<=10000:=sn.ln s ia.1 ia.2;have lr0:=jT (f0 s);have tt:i6 (cM (f0 s))=(f0 s).length:=wH _;refine⟨Y,Y,o,cM (f0 s),a,b,rfl,ho,Q,by rw[tt];exact i3,λq0 H2 Yj s2 fq0=>?_⟩;have jH:=s1.trans s2;have B4:=LU.same jH;refine⟨Y,x,C,d,_,.ref sh,rfl,B4.L.hx,D.aM.cl,D.eX,rfl,sh,dS,Y,B4.L.W.hx,rfl,S,sh,dS,st,op,jj pe,ops,rfl,B4.L.W,ok,λTo el q H3 fs3 s3=>?_⟩;rw[hl']at el;cases el;have xP:=jH.trans s3;have tl:t.toNat<rows.length:=by have:=it.1;have:=it.2;lia
 obtain⟨es,es1⟩:∃ es,rows[t.toNat]?=some es:=⟨_,uz tl⟩;have nnp:∀ {r:Row},jy r->kX r:=λh p hp=>⟨(h p hp).1,by have:=(h p hp).2;lia⟩;have nn0:kX (cM (f0 s)):=nnp (BK (n8 sn.sd sn.rk sn.ss s ia.1 ia.2));have nn1:kX (cA (ku a b 0 (cM (f0 s)))):=nnp (nX (zg a b _ 0 nn0))
 have lpl:(cA (ku a b 0 (cM (f0 s)))).length<=10000:=by
  have:=rC a b (cM (f0 s));rw[yu]at this;lia
 have epl:dz (cK (cA (cA (ku a b 0 (cM (f0 s))))))=((f0 s).take b.toNat).drop a.toNat:=by
  rw[nZ,m7 _ λq hq=>(nn1 q hq).2,pD _ _ _ (mq _),eN]
 refine⟨Y,Y,Y,q0,Y,Yj.same s3,Q,λoi H4 Z0 s4 foi=>?_⟩;have AK:=xP.trans s4;refine⟨q,oi,rows,t,p,_,f0,rfl,⟨fs3.at_.same s4,Q,sn.es,sn.sd,sn.rk,sn.ss,sn.ln⟩,it.1,it.2,Z0,uZ (nX nn1),?_,ip,λvt q2 H5 nP d8 s5 Ml=>?_⟩
 ·rw[yu];have:=lJ (cA (ku a b 0 (cM (f0 s))));lia
 rw[es1]at nP;cases nP;rw[epl]at d8;obtain⟨⟨fB,B⟩,k9⟩:=k8 es es1;have Lz:=AK.trans s5;have WN:=LU.same Lz
 have OB:q2≠bk:=λe=>by
  have y:=(LU.same AK).L.hb;rw[← e,Ml]at y;cases y
 refine⟨Y,x,d,Y,WN.L.hx,rfl,Y,Y,Y,Y,Y,Yr,λt' ht=>?_⟩;have s6:=ak ht (.tup [.str "quote",.int t,.int p,.int s,.int a,.int b]);have Tt:(aP H5 t' (.tup [.str "quote",.int t,.int p,.int s,.int a,.int b])) t'=some (.tup [.str "quote",.int t,.int p,.int s,.int a,.int b]):=af;generalize aP H5 t' (.tup [.str "quote",.int t,.int p,.int s,.int a,.int b])=H6 at s6 Tt;have Tp:=Lz.trans s6;have OA:=LU.same Tp;have ss:((t.toNat:Nat):Int)=t:=by have:=it.1;lia
 refine⟨Y,Y,S,x,d,wl,sh,bl,kn,du,bk,dS,st,op,pe,ops,aB,t',q2,.plain qtW [t,p,s,a,b],t.toNat,_,rows,fB,by rw[ss];rfl,OA.L,(by show H6 t'=_;rw[Tt,tZ];rfl),⟨(by show mK Ri qtW=some 5;decide +kernel),?_⟩,d8.same s6,OB,hl,Q,l1,l2,l3,B,λS' H8 L8 Eu=>?_⟩
 ·intro y hy;have b1:=ia.1;have b2:=it.1;unfold Ma at i3;rcases List.mem_cons.mp hy with e|hy
  ·rw[e];exact⟨b2,ft.big⟩
  rcases List.mem_cons.mp hy with e|hy
  ·rw[e];exact⟨ip.1,fp.big⟩
  rcases List.mem_cons.mp hy with e|hy
  ·rw[e];exact⟨b1,fs.big⟩
  rcases List.mem_cons.mp hy with e|hy
  ·rw[e];exact⟨Q,fa.big⟩
  ·rw[List.mem_singleton.mp hy];exact⟨Q,fb.big⟩
 ·obtain⟨U',hL',f'⟩:=OA.m9 L8 Eu;exact k9 U' H8 hL' (f'.pre Tp)
theorem AN:aF ["self","sheet"] ["self","sheet"] (az oW):=eS
theorem zL:‹(4,64,["self","sheet"],(VX C CS))›:=λD=>by
 refine eU D.YX.F AN λcV A zn s0 H vs Q E hr h=>?_;obtain⟨S,x,d,wl,sh,bl,kn,du,bk,dS,st,op,pe,ops,aB,rows,s,rfl,L,hl,l1,l2,ia,k2⟩:=h;have lo:=jD L hl;have hl':=dY hl;have lp:(jj pe).length=pe.length:=cG _;exists _,(au (aG (cQ (cO (pv 0) rfl) D.cF D.YI (C7 D) hr bL (aa (pv 1) ah))));refine⟨Y,x,C,d,_,.ref sh,rfl,L.hx,D.aM.cl,D.eX,rfl,sh,dS,Y,L.W.hx,rfl,Y,S,sh,dS,st,op,jj pe,ops,s,rfl,L.W,by rw[lo];exact ia,λsi last aN e1 e2 e3=>?_⟩;rw[hl']at e2;cases e2;rw[gE]at e3;obtain⟨es,e4,rfl⟩:=Option.map_eq_some_iff.mp e3;have il:=(List.getElem?_eq_some_iff.mp e4).1;exact λq H' hq s1 fq=>k2 es (by rw[e1,Int.toNat_natCast];exact e4) q H' hq s1 fq
abbrev wnW:List Nat:=(Str.ofString "window").cps.toList
class inductive OD(C CS CW CB:Addr)
 | mk (U:Addr->Prop) (x:Addr) (pe:gS) (aB:iH) (aK:gM) (nW:Nat) (bU:Row) (t p s:Int) (rows:cR) (_:vs=[.ref x,.int t,.int p,.int s]) (_:qg C CS CW CB U H x pe aB aK nW bU) (_:pe.getLast?=some rows) (_:rows.length<=50) (_:pe.length<=900) (_:aB.length<=900) (_:vz t) (_:vz p) (_:vz s)
  (_:qH rows.length t) (_:qH rows.length s) (_:(∃ sh,Seen rows sh/\(0<=p/\p<=(sh t).length)/\(∀ es,rows[t.toNat]?=some es->(∃ f,lg (iW rows t.toNat (fO sh p es [-1-s])) f)/\
  ∀ (U':Addr->Prop) (H':Hp),qg C CS CW CB U' H' x (pe++[iW rows t.toNat (fO sh p es [-1-s])]) (aB++[(jK.plain wnW [t,p,s]).line]) aK nW bU->JO U U' H H'->Q .gm H')))
theorem oh:aF ["self","target","place","source","items"] ["self","target","place","source"] (az kJ):=eS
theorem vm:‹(6,65,["self","target","place","source"],(OD C CS CW CB))›:=λD=>by
 refine eU D.YY.F oh λcV A zn s0 H vs Q E hr h=>?_;obtain⟨U,x,pe,aB,aK,nW,bU,t,p,s,rows,rfl,LB,hl,l1,l2,l3,ft,fp,fs,it,ia,k4⟩:=h;obtain⟨S,SW,d,wl,sh,bl,kn,du,bk,dS,st,op,dw,sg,ow,pw,db,tb,ops,LU⟩:=id LB;have lo:=jD LU.L hl;have hl':=dY hl;have lp:(jj pe).length=pe.length:=cG _;have ok:HR (jj pe) ops:=⟨Q,Q⟩;exists _,(aj (bg (cQ (cO (pv 0) rfl) D.cF D.Ax (cy D) hr bL (aa (pv 1) ah))) (aj (bg (cQ (cO (pv 0) rfl) D.cF D.Ax (cy D) hr bL (aa (pv 3) ah))) (aj (aX (i:=4) oh.nd (aC D.QO (pK D) hr (aa (eO (cO (pv 0) rfl) D.cF D.Ay (eK D) hr bL) (aa (pv 1) (aa (pv 2) (aa (bM (aa (cW (aa bC (aa (pv 3) ah))) ah)) ah)))))) (au (bg (cQ (pv 0) D.aM D.EV (dP D) hr bL (aa (cW (aa bC (aa (pv 1) (aa (pv 2) (aa (pv 3) ah))))) (aa (pv 1) (aa (pv 4) ah)))))))));refine⟨Y,x,C,d,_,.ref sh,rfl,LU.L.hx,D.aM.cl,D.eX,rfl,sh,dS,Y,LU.L.W.hx,rfl,Y,S,sh,dS,st,op,jj pe,ops,t,rfl,LU.L.W,by rw[lo];exact it,?_⟩;refine⟨Y,x,C,d,_,.ref sh,rfl,LU.L.hx,D.aM.cl,D.eX,rfl,sh,dS,Y,LU.L.W.hx,rfl,Y,S,sh,dS,st,op,jj pe,ops,s,rfl,LU.L.W,by rw[lo];exact ia,?_⟩;obtain⟨f0,sn,ip,k8⟩:=k4;refine⟨Y,x,C,d,_,.ref sh,rfl,LU.L.hx,D.aM.cl,D.eX,rfl,sh,dS,Y,LU.L.W.hx,rfl,S,sh,dS,st,op,jj pe,ops,rfl,LU.L.W,ok,λTo el q H1 Oz s1=>?_⟩;rw[hl']at el;cases el;have tl:t.toNat<rows.length:=by have:=it.1;have:=it.2;lia
 obtain⟨es,es1⟩:∃ es,rows[t.toNat]?=some es:=⟨_,uz tl⟩;refine⟨Y,Y,Y,nK,λt2 Hh=>⟨lD,λo ho=>?_⟩⟩;have s2:=ak Hh (.tup [.str "win",.int s]);have t2':(aP H1 t2 (.tup [.str "win",.int s])) t2=some (.tup [.str "win",.int s]):=af;generalize aP H1 t2 (.tup [.str "win",.int s])=H2 at s2 t2' ho;have s3:=ak ho (.lst [.ref t2]);have o3:(aP H2 o (.lst [.ref t2])) o=some (.lst [.ref t2]):=af;show xx _ (aP H2 o (.lst [.ref t2])) _ _;generalize aP H2 o (.lst [.ref t2])=H3 at s3 o3;have xP:=s1.trans (s2.trans s3);have Z0:bK H3 (.ref o) [.win s]:=⟨o,Y,o3,.cons ⟨t2,rfl,s3 _ _ t2'⟩ .nil⟩;refine⟨q,o,rows,t,p,[.win s],f0,rfl,⟨Oz.at_.same (s2.trans s3),Q,sn.es,sn.sd,sn.rk,sn.ss,sn.ln⟩,it.1,it.2,Z0,.one ia.1,(by show 1<=10000;decide),ip,λvt q2 H5 nP d8 s5 Ml=>?_⟩;rw[es1]at nP;cases nP;rw[show dz [aQ.win s]=[-1-s] from rfl]at d8;obtain⟨⟨fB,B⟩,k9⟩:=k8 es es1;have Lz:=xP.trans s5;have WN:=LU.same Lz
 have OB:q2≠bk:=λe=>by
  have y:=(LU.same xP).L.hb;rw[← e,Ml]at y;cases y
 refine⟨Y,x,d,Y,WN.L.hx,rfl,Y,Y,Y,CO,λt' ht=>?_⟩;have s6:=ak ht (.tup [.str "window",.int t,.int p,.int s]);have Tt:(aP H5 t' (.tup [.str "window",.int t,.int p,.int s])) t'=some (.tup [.str "window",.int t,.int p,.int s]):=af;generalize aP H5 t' (.tup [.str "window",.int t,.int p,.int s])=H6 at s6 Tt;have Tp:=Lz.trans s6;have OA:=LU.same Tp;have ss:((t.toNat:Nat):Int)=t:=by have:=it.1;lia
 refine⟨Y,Y,S,x,d,wl,sh,bl,kn,du,bk,dS,st,op,pe,ops,aB,t',q2,.plain wnW [t,p,s],t.toNat,_,rows,fB,by rw[ss];rfl,OA.L,(by show H6 t'=_;rw[Tt,tZ];rfl),⟨(by show mK Ri wnW=some 3;decide +kernel),?_⟩,d8.same s6,OB,hl,Q,l1,l2,l3,B,λS' H8 L8 Eu=>?_⟩
 ·intro y hy;have b1:=ia.1;have b2:=it.1;rcases List.mem_cons.mp hy with e|hy
  ·rw[e];exact⟨b2,ft.big⟩
  rcases List.mem_cons.mp hy with e|hy
  ·rw[e];exact⟨ip.1,fp.big⟩
  ·rw[List.mem_singleton.mp hy];exact⟨b1,fs.big⟩
 ·obtain⟨U',hL',f'⟩:=OA.m9 L8 Eu;exact k9 U' H8 hL' (f'.pre Tp)
abbrev fxW:List Nat:=(Str.ofString "fix").cps.toList
class inductive Z4(C CS CW CB:Addr)
 | mk (U:Addr->Prop) (x:Addr) (pe:gS) (aB:iH) (aK:gM) (nW:Nat) (bU:Row) (t:Int) (rows:cR) (_:vs=[.ref x,.int t]) (_:qg C CS CW CB U H x pe aB aK nW bU) (_:pe.getLast?=some rows) (_:rows.length<=50) (_:pe.length<=900) (_:aB.length<=900) (_:vz t)
  (_:qH rows.length t) (_:∃ sh,Seen rows sh/\(∃ f,lg (iW rows t.toNat (sh t)) f)/\
  ∀ (U':Addr->Prop) (H':Hp),qg C CS CW CB U' H' x (pe++[iW rows t.toNat (sh t)]) (aB++[(jK.plain fxW [t]).line]) aK nW bU->JO U U' H H'->Q .gm H')
theorem AO:aF ["self","sheet"] ["self","sheet"] (az oX):=eS
theorem zM:‹(6,66,["self","sheet"],(Z4 C CS CW CB))›:=λD=>by
 refine eU D.YZ.F AO λcV A zn s0 H vs Q E hr h=>?_;obtain⟨U,x,pe,aB,aK,nW,bU,t,rows,rfl,LB,hl,l1,l2,l3,ft,it,k2⟩:=h;obtain⟨S,SW,d,wl,sh,bl,kn,du,bk,dS,st,op,dw,sg,ow,pw,db,tb,ops,LU⟩:=id LB;have lo:=jD LU.L hl;have hl':=dY hl;have lp:(jj pe).length=pe.length:=cG _;have ok:HR (jj pe) ops:=⟨Q,Q⟩;exists _,(aj (bg (cQ (cO (pv 0) rfl) D.cF D.Ax (cy D) hr bL (aa (pv 1) ah))) (au (bg (cQ (pv 0) D.aM D.EV (dP D) hr bL (aa (cW (aa bC (aa (pv 1) ah))) (aa (pv 1) (aa (aC D.YC (zz D) hr (aa (eO (cO (pv 0) rfl) D.cF D.Ay (eK D) hr bL) (aa (pv 1) ah))) ah)))))));refine⟨Y,x,C,d,_,.ref sh,rfl,LU.L.hx,D.aM.cl,D.eX,rfl,sh,dS,Y,LU.L.W.hx,rfl,Y,S,sh,dS,st,op,jj pe,ops,t,rfl,LU.L.W,by rw[lo];exact it,?_⟩;obtain⟨f0,sn,⟨fB,B⟩,k9⟩:=k2;refine⟨Y,x,d,Y,LU.L.hx,rfl,Y,nK,λt' ht=>?_⟩;have s6:=ak ht (.tup [.str "fix",.int t]);have Tt:(aP H t' (.tup [.str "fix",.int t])) t'=some (.tup [.str "fix",.int t]):=af;generalize aP H t' (.tup [.str "fix",.int t])=H6 at s6 Tt;have OA:=LU.same s6;refine⟨Y,Y,x,C,d,_,.ref sh,rfl,OA.L.hx,D.aM.cl,D.eX,rfl,sh,dS,Y,OA.L.W.hx,rfl,S,sh,dS,st,op,jj pe,ops,rfl,OA.L.W,ok,λTo el q H1 Oz s1=>?_⟩;rw[hl']at el;cases el;refine⟨Y,q,rows,t,f0,rfl,⟨Oz.at_,Q,sn.es,sn.sd,sn.rk,sn.ss,sn.ln⟩,it.1,it.2,λq2 H5 d8 s5 Ml=>?_⟩;have Lz:=s6.trans (s1.trans s5);have WN:=LU.same Lz
 have OB:q2≠bk:=λe=>by
  have y:=(LU.same (s6.trans s1)).L.hb;rw[← e,Ml]at y;cases y
 have ss:((t.toNat:Nat):Int)=t:=by have:=it.1;lia
 have tl:t.toNat<rows.length:=by have:=it.1;have:=it.2;lia
 refine⟨S,x,d,wl,sh,bl,kn,du,bk,dS,st,op,pe,ops,aB,t',q2,.plain fxW [t],t.toNat,_,rows,fB,by rw[ss];rfl,WN.L,(by show H5 t'=_;rw[s5 _ _ (s1 _ _ Tt),tZ];rfl),⟨(by show mK Ri fxW=some 1;decide +kernel),?_⟩,d8,OB,hl,Q,l1,l2,l3,B,λS' H8 L8 Eu=>?_⟩
 ·intro y hy;rw[List.mem_singleton.mp hy];exact⟨it.1,ft.big⟩
 ·obtain⟨U',hL',f'⟩:=WN.m9 L8 Eu;exact k9 U' H8 hL' (f'.pre Lz)
abbrev mvW:List Nat:=(Str.ofString "move").cps.toList
class inductive VY(C CS CW CB:Addr)
 | mk (U:Addr->Prop) (x:Addr) (pe:gS) (aB:iH) (aK:gM) (nW:Nat) (bU:Row) (s a b to:Int) (rows:cR) (_:vs=[.ref x,.int s,.int a,.int b,.int to]) (_:qg C CS CW CB U H x pe aB aK nW bU) (_:pe.getLast?=some rows) (_:rows.length<=50) (_:pe.length<=900) (_:aB.length<=900) (_:vz s) (_:(-100000<a/\a<100000)) (_:(-100000<b/\b<100000)) (_:(-100000<to/\to<100000))
  (_:qH rows.length s) (_:∃ sh,Seen rows sh/\Mv a b to (sh s).length/\(∀ es,rows[s.toNat]?=some es->(∃ f,lg (iW rows s.toNat (lE sh a b to es)) f)/\
  ∀ (U':Addr->Prop) (H':Hp),qg C CS CW CB U' H' x (pe++[iW rows s.toNat (lE sh a b to es)]) (aB++[(jK.plain mvW [s,a,b,to]).line]) aK nW bU->JO U U' H H'->Q .gm H'))
theorem qN:aF ["self","sheet","start","stop","to","items"] ["self","sheet","start","stop","to"] (az nB):=eS
theorem xZ:‹(6,67,["self","sheet","start","stop","to"],(VY C CS CW CB))›:=λD=>by
 refine eU D.Y0.F qN λcV A zn s0 H vs Q E hr h=>?_;obtain⟨U,x,pe,aB,aK,nW,bU,s,a,b,to,rows,rfl,LB,hl,l1,l2,l3,fs,fa,fb,fo,ia,k2⟩:=h;obtain⟨S,SW,d,wl,sh,bl,kn,du,bk,dS,st,op,dw,sg,ow,pw,db,tb,ops,LU⟩:=id LB;have lo:=jD LU.L hl;have hl':=dY hl;have lp:(jj pe).length=pe.length:=cG _;have ok:HR (jj pe) ops:=⟨Q,Q⟩;exists _,(aj (bg (cQ (cO (pv 0) rfl) D.cF D.Ax (cy D) hr bL (aa (pv 1) ah))) (aj (aX (i:=5) qN.nd (aC D.YB (zy D) hr (aa (eO (cO (pv 0) rfl) D.cF D.Ay (eK D) hr bL) (aa (pv 1) (aa (pv 2) (aa (pv 3) (aa (pv 4) ah))))))) (au (bg (cQ (pv 0) D.aM D.EV (dP D) hr bL (aa (cW (aa bC (aa (pv 1) (aa (pv 2) (aa (pv 3) (aa (pv 4) ah)))))) (aa (pv 1) (aa (pv 5) ah))))))));refine⟨Y,x,C,d,_,.ref sh,rfl,LU.L.hx,D.aM.cl,D.eX,rfl,sh,dS,Y,LU.L.W.hx,rfl,Y,S,sh,dS,st,op,jj pe,ops,s,rfl,LU.L.W,by rw[lo];exact ia,?_⟩;obtain⟨f0,sn,i3,k4⟩:=k2;refine⟨Y,x,C,d,_,.ref sh,rfl,LU.L.hx,D.aM.cl,D.eX,rfl,sh,dS,Y,LU.L.W.hx,rfl,S,sh,dS,st,op,jj pe,ops,rfl,LU.L.W,ok,λTo el q H1 Oz s1=>?_⟩;rw[hl']at el;cases el;have sl:s.toNat<rows.length:=by have:=ia.1;have:=ia.2;lia
 obtain⟨es,es1⟩:∃ es,rows[s.toNat]?=some es:=⟨_,uz sl⟩;refine⟨Y,Y,Y,Y,q,rows,s,a,b,to,f0,rfl,⟨Oz.at_,Q,sn.es,sn.sd,sn.rk,sn.ss,sn.ln⟩,ia.1,ia.2,i3,λvt q2 H2 nP d8 s2 Ml=>?_⟩;rw[es1]at nP;cases nP;obtain⟨⟨fB,B⟩,k5⟩:=k4 es es1;have jH:=s1.trans s2;have B4:=LU.same jH
 have OB:q2≠bk:=λe=>by
  have y:=(LU.same s1).L.hb;rw[← e,Ml]at y;cases y
 refine⟨Y,x,d,Y,B4.L.hx,rfl,Y,Y,Y,Y,U6,λt ht=>?_⟩;have s3:=ak ht (.tup [.str "move",.int s,.int a,.int b,.int to]);have Rn:(aP H2 t (.tup [.str "move",.int s,.int a,.int b,.int to])) t=some (.tup [.str "move",.int s,.int a,.int b,.int to]):=af;generalize aP H2 t (.tup [.str "move",.int s,.int a,.int b,.int to])=H3 at s3 Rn;have xP:=jH.trans s3;have RH:=LU.same xP;have ss:((s.toNat:Nat):Int)=s:=by have:=ia.1;lia
 refine⟨Y,Y,S,x,d,wl,sh,bl,kn,du,bk,dS,st,op,pe,ops,aB,t,q2,.plain mvW [s,a,b,to],s.toNat,_,rows,fB,by rw[ss];rfl,RH.L,(by show H3 t=_;rw[Rn,tZ];rfl),⟨(by show mK Ri mvW=some 4;decide +kernel),?_⟩,d8.same s3,OB,hl,Q,l1,l2,l3,B,λS' H8 L8 Eu=>?_⟩
 ·intro y hy;have b1:=ia.1;have i4:=i3.1;have i5:=i3.2;unfold Ma at i4;rcases List.mem_cons.mp hy with e|hy
  ·rw[e];exact⟨b1,fs.big⟩
  rcases List.mem_cons.mp hy with e|hy
  ·rw[e];exact⟨Q,(vz.VE fa).big⟩
  rcases List.mem_cons.mp hy with e|hy
  ·rw[e];exact⟨Q,(vz.VE fb).big⟩
  ·rw[List.mem_singleton.mp hy];exact⟨Q,(vz.VE fo).big⟩
 ·obtain⟨U',hL',f'⟩:=RH.m9 L8 Eu;exact k5 U' H8 hL' (f'.pre xP)
class inductive LF(C CS:Addr)
 | mk (S:Addr->Prop) (x d wl sh bl kn du bk dS st op:Addr) (pe:gS) (ops:List Int) (aB:iH) (rows:cR) (si:Nat) (f:Int->Int) (_:vs=[.ref x,.int (si:Nat)]) (_:gD C CS S H x d wl sh bl kn du bk dS st op (jj pe) ops aB) (_:pe.getLast?=some rows) (_:rows.length<=50) (_:pe.length<=900) (_:si<rows.length) (_:lg rows f) (_:∀ H',aI H H'->Q (.int (f (si:Nat))) H')
theorem wJ:aF ["self","sheet"] ["self","sheet"] (az kK):=eS
theorem vn:‹(5,68,["self","sheet"],(LF C CS))›:=λD=>by
 specialize eU D.Y3.F wJ;obtain⟨S,x,d,wl,sh,bl,kn,du,bk,dS,st,op,pe,ops,aB,rows,si,f,rfl,L,hl,l1,l2,sl,B,k⟩:=h;have lo:=jD L hl;have lp:(jj pe).length=pe.length:=cG _;have hl':=dY hl;exists _,(aj (bg (cQ (cO (pv 0) rfl) D.cF D.Ax (cy D) hr bL (aa (pv 1) ah))) (au (aG (fH.pG D.Vb (D.T.xQ _ D.Vb.m) (Lb D) hr (aa (eO (cO (pv 0) rfl) D.cF D.Ay (eK D) hr bL) (aa (pv 1) ah))))));exists Y,x,C,d,_,.ref sh,rfl,L.hx,D.aM.cl,D.eX,rfl,sh,dS,Y,L.W.hx,rfl,Y,S,sh,dS,st,op,jj pe,ops,(si:Int),rfl,L.W,⟨Q,Q⟩;refine⟨Y,x,C,d,_,.ref sh,rfl,L.hx,D.aM.cl,D.eX,rfl,sh,dS,Y,L.W.hx,rfl,S,sh,dS,st,op,jj pe,ops,rfl,L.W,⟨Q,Q⟩,λTo el q H1 Oz s1=>?_⟩;rw[hl']at el;cases el;exact⟨Y,q,rows,(si:Int),f,rfl,Oz.at_,Q,B.es,B.sd,B.rk,Q,Q,B.wt,λH2 s2=>k H2 (s1.trans s2)⟩
class inductive OE
 | mk (r:Addr) (x:Int) (_:vs=[.ref r,.int x]) (_:H r=some (.lst [])) (_:Q (.int 0) H)
theorem fE:aF ["holes","start","low","high","middle"] ["holes","start"] (az kL):=eS
theorem vo:‹(1,69,["holes","start"],OE)›:=λD=>by
 specialize eU D.Y4.F fE;obtain⟨r,x,rfl,h1,k⟩:=h;exists _,(aj (aX (i:=2) fE.nd ay) (aj (aX (i:=3) fE.nd (fm D.T.eV (pv 0))) (aj (uC PassesOwn.never (aT kU (pv 2) (pv 3) (bx _)) (aj (aX (i:=4) fE.nd (bG uL (bG dh (pv 2) (pv 3)) ay)) (au (bN (aT Bd (aO br (aO bu (pv 0) (pv 4)) ay) (pv 1) (bx _)) (au (aX (i:=3) fE.nd (pv 4))) (au (aX (i:=2) fE.nd (bG dh (pv 4) ay))))))) (au (aG (pv 2))))));exists Y,r,Y,.inl (bI.of h1);exists λm σ H2=>σ=[some (.ref r),some (.int x),some (.int 0),some (.int 0),none]/\H2=H,⟨0,V⟩;rintro m σ H2 ⟨rfl,rfl⟩;exact⟨Y,Y,Z,Y,cX (λc=>absurd c (by decide)) (λ_=>⟨Y,k⟩)⟩
class inductive LG
 | mk (r:Addr) (x:Int) (_:vs=[.ref r,.int x]) (_:H r=some (.lst [])) (_:Q (.bl false) H)
theorem FA:aF ["holes","address","hole"] ["holes","address"] (az Cy):=eS
theorem LH:‹(2,70,["holes","address"],LG)›:=λD=>by
 specialize eU D.Y5.F FA;obtain⟨r,x,rfl,h1,k⟩:=h;exists _,(aj (aX (i:=2) FA.nd (aC D.Y4 (vo D) hr (aa (pv 0) (aa (pv 1) ah)))) (au (aG (ni (jk kU (pv 2) (fm D.T.eV (pv 0)) (bx _)) (oB (jk gp (aO br (aO bu (pv 0) (pv 2)) ay) (pv 1) (bx _)))))));exact⟨Y,Y,r,x,rfl,h1,Y,Y,r,Y,.inl (bI.of h1),Z,Y,cX (λc=>absurd c (by decide)) (λ_=>k)⟩
class inductive OF(CB:Addr)
 | mk (x d t:Addr) (a:Int) (_:vs=[.ref x,.int a]) (_:Bl CB H x d t) (_:H t=some (.lst [])) (_:Q (.bl false) H)
theorem AQ:aF ["self","address"] ["self","address"] (az oY):=eS
theorem zN:‹(3,71,["self","address"],(OF CB))›:=λD=>by
 specialize eU D.Y6.F AQ;obtain⟨x,d,t,a,rfl,hx,h1,k⟩:=h;exists _,(au (aG (aC D.Y5 (LH D) hr (aa (cO (pv 0) rfl) (aa (pv 1) ah)))));exact⟨Y,x,CB,d,_,.ref t,rfl,hx,D.t9.cl,D.uJ,rfl,Y,t,a,rfl,h1,k⟩
class inductive LI(C:Addr)
 | mk (S:Addr->Prop) (x d s o p:Addr) (n:Nat) (aK:gM) (a:Int) (_:vs=[.ref x,.int a]) (_:We C S H x d s o p n aK) (_:0<=a) (_:a<(aK.length:Nat)) (_:Q .gm H)
class inductive OG(C:Addr)
 | mk (S:Addr->Prop) (x d s o p:Addr) (n:Nat) (aK:gM) (j:Nat) (q:Int × Nat) (_:vs=[.ref x,.int (j:Nat)]) (_:We C S H x d s o p n aK) (_:aK[j]?=some q) (_:Q (yo q.2) H)
theorem qO:aF ["self","address"] ["self","address"] (az iL):=eS
theorem FD:aF ["self","address"] ["self","address"] (az tK):=eS
theorem qd:‹(2,72,["self","address"],(LI CW))›:=λD=>by
 specialize eU D.Y7.F qO;obtain⟨S,x,d,s,o,p,n,aK,a,rfl,W,a0,a1,k⟩:=h;exists _,(au (bN (gi (qp gp kU ay (pv 1) (eO (pv 0) D.iT D.KR (jC D) hr bL))) (au iR) aZ));refine⟨Y,Z,Y,cX (λc0=>?_) (λc0=>absurd (decide_eq_true a0) c0)⟩;exists Y,x,d,Y,W.hx,rfl,x,d,s,o,p,aK,rfl,W.hx,W.hs,Z,Y;rw[decide_eq_true a1];exact d7 k
theorem Dh:‹(3,73,["self","address"],(OG CW))›:=λD=>by
 specialize eU D.Y8.F FD;obtain⟨S,x,d,s,o,p,n,aK,j,q,rfl,W,eq,k⟩:=h;have jl:=(List.getElem?_eq_some_iff.mp eq).1;exists _,(aj (bg (cQ (pv 0) D.iT D.Y7 (qd D) hr bL (aa (pv 1) ah))) (au (aG (aO bu (cO (pv 0) rfl) (pv 1)))));exists Y,x,d,Y,W.hx,rfl,Y,S,x,d,s,o,p,n,aK,(j:Nat),rfl,W,Q,Q;exact⟨Y,x,CW,d,_,.ref s,rfl,W.hx,D.iT.cl,D.tT,rfl,Y,s,K,V,bI.of W.hs,(dD (by unfold Om;rw[gE,eq];rfl):_=some (yo q.2)),k⟩
def Di(aK:gM)(a:Int):Nat:=((aK[a.toNat]?).map Prod.snd).getD 0
class inductive OH(C CS CW CB:Addr)
 | mk (U:Addr->Prop) (x r:Addr) (pe:gS) (aB:iH) (aK:gM) (nW:Nat) (row:Row) (v:V) (_:vs=[.ref x,.ref r,v]) (_:qg C CS CW CB U H x pe aB aK nW []) (_:cE H r row) (_:(∀ p∈row,p.1<=p.2)) (_:(bO row).length<=100000) (_:(∀ a∈bO row,0<=a/\a<(aK.length:Nat))) (_:∀ H',aI H H'->Q (.str (fD ((bO row).map (Di aK)))) H')
class inductive OI(C CS CW CB:Addr)
 | mk (U:Addr->Prop) (x:Addr) (pe:gS) (aB:iH) (aK:gM) (nW:Nat) (rows:cR) (s:Int) (sh:Int->List Int) (_:vs=[.ref x,.int s]) (_:qg C CS CW CB U H x pe aB aK nW []) (_:pe.getLast?=some rows) (_:pe.length<=900) (_:rows.length<=50) (_:qH rows.length s) (_:Seen rows sh) (_:(sh s).length<=200) (_:∀ a∈sh s,0<=a/\a<(aK.length:Nat)) (_:∀ H',aI H H'->Q (.str (fD ((sh s).map (Di aK)))) H')
theorem wK:aF ["self","row","veil"] ["self","row","veil"] (az iZ):=eS
theorem zO:aF ["self","sheet"] ["self","sheet"] (az nC):=eS
theorem vp:‹(4,74,["self","row","veil"],(OH C CS CW CB))›:=λD=>by
 refine eU D.Y9.F wK λcV A zn s0 H vs Q E hr h=>?_;obtain⟨U,x,r,pe,aB,aK,nW,row,v,rfl,LB,hr1,ok,ls,ia,k⟩:=h;obtain⟨S,SW,d,wl,sh,bl,kn,du,bk,dS,st,op,dw,sg,ow,pw,db,tb,ops,LU⟩:=id LB;refine⟨_,(au (aG (dM PySem.F.plainAttrs_str PySem.F.slot_str_join PySem.F.type_str_join zh bC (aa (gH (N:=["address","self","veil"]) (mD (sc:=az iZ) (NX:=["self","row","veil"]) (jx:=[none,some 0,some 2]) rfl rfl rfl nofun nofun rfl nofun rfl nofun) rfl (cJ (aC D.Yv (CU D) hr (aa (pv 1) ah))) (λ_ _ _ _ _ _=>(b9 (i:=0) (show List.Nodup (["address","self","veil"]:List Str) by decide +kernel))) (λ_ _ _ _ _ _=>gP) (λ_ _ _ _ _ _=>(Eb (gw (cQ (Jy (pv 1) rfl) D.t9 D.Y6 (zN D) hr bL (aa (pv 0) ah))) (pv 2) (cQ (Jy (pv 1) rfl) D.iT D.Y8 (Dh D) hr bL (aa (pv 0) ah))))) ah)))),?_⟩;refine⟨rfl,Y,r,row,rfl,hr1,ok,Q,λn H1 hn s1 fn=>?_⟩;refine⟨n,rfl,⟨_,bI.of hn⟩,λacc cS=>gG (K:=K) (a:=n) (xs:=(bO row).map V.int) (λi σ H2=>∃ u:Option V,σ=[u,some (.ref x),some v]/\H2 acc=some (.lst ((((bO row).take i).map (Di aK)).map yo))/\aI H1 H2) ⟨none,rfl,af,ak cS _⟩ (by rintro i σ H2 _ ⟨_,_,_,s2⟩;exact bI.of (s2 _ _ hn)) ?_ ?_⟩
 ·rintro i y σ H2 hi ⟨u,rfl,h2,s2⟩;rw[gE]at hi;obtain⟨a,ei,rfl⟩:=Option.map_eq_some_iff.mp hi;have il:=(List.getElem?_eq_some_iff.mp ei).1;obtain⟨a0,a1⟩:=ia a (om ei);have B4:=LU.same (s1.trans s2);obtain⟨q,eq⟩:∃ q,aK[a.toNat]?=some q:=⟨_,uz ∅⟩;obtain⟨ts,ht,pt⟩:=id B4.R;cases pt;have ea:Di aK a=q.2:=by unfold Di;rw[eq];rfl
  exists Y,x,C,d,_,.ref bl,rfl,B4.L.hx,D.aM.cl,D.yQ,rfl,bl,db,Y,B4.B,rfl,Y,bl,db,tb,a,rfl,B4.B,ht;refine⟨Y,d7 ⟨Y,x,C,d,_,.ref wl,rfl,B4.L.hx,D.aM.cl,D.wZ,rfl,wl,dw,Y,B4.W.hx,rfl,Y,SW,wl,dw,sg,ow,pw,nW,aK,a.toNat,q,by rw[show ((a.toNat:Nat):Int)=a by lia];rfl,B4.W,eq,?_⟩⟩;refine⟨_,h2,aS (by rw[cG,cG,gF];lia),Y,?_,bP cS s2 (aJ acc _ _)⟩;rw[af,take_snoc ei,gJ,gJ,← ea];rfl
 ·rintro σ H2 ⟨u,rfl,h2,s2⟩;rw[cG,gR]at h2;exact⟨acc,Y,rfl,h2,by rw[cG];lia,k H2 (s1.trans s2)⟩
theorem ya:‹(6,75,["self","sheet"],(OI C CS CW CB))›:=λD=>by
 obtain⟨RJ,RK⟩:=D.G.h;refine eU D.Za.F zO λcV A zn s0 H vs Q E hr h=>?_;obtain⟨U,x,pe,aB,aK,nW,rows,s,f0,rfl,LB,hl,l2,l1,ia,sn,ls,hin,k⟩:=h;obtain⟨S,SW,d,wl,sh,bl,kn,du,bk,dS,st,op,dw,sg,ow,pw,db,tb,ops,LU⟩:=id LB;exists _,(au (aG (cQ (pv 0) D.aM D.Y9 (vp D) hr bL (aa (cQ (pv 0) D.aM D.KS (gy D) hr bL (aa (pv 1) ah)) (aa (Cf (v:=.str "#") rfl RK ⟨RJ,rfl⟩) ah)))));refine⟨Y,x,d,Y,LU.L.hx,rfl,Y,x,d,Y,LU.L.hx,rfl,Y,S,x,d,wl,sh,bl,kn,du,bk,dS,st,op,pe,ops,aB,rows,s,rfl,LU.L,hl,l1,l2,ia,⟨f0,sn,λo H1 ho s1 fo=>?_⟩⟩;exact⟨U,x,o,pe,aB,aK,nW,cM (f0 s),Y,LB.same s1,ho,mq _,by rw[eN];lia,by rw[eN];exact hin,by rw[eN];exact λH2 s2=>k H2 (s1.trans s2)⟩
class inductive LJ(C CS:Addr)
 | mk (S:Addr->Prop) (x d wl sh bl kn du bk dS st op:Addr) (pe:gS) (ops:List Int) (aB:iH) (rows:cR) (s:Int) (f:Int->List Int) (_:vs=[.ref x,.int s]) (_:gD C CS S H x d wl sh bl kn du bk dS st op (jj pe) ops aB) (_:pe.getLast?=some rows) (_:rows.length<=50) (_:pe.length<=900) (_:qH rows.length s) (_:Seen rows f) (_:(f s).length<=200) (_:∀ H',aI H H'->Q (.int ((f s).length:Nat)) H')
theorem zP:aF ["self","sheet"] ["self","sheet"] (az nE):=eS
theorem yb:‹(6,76,["self","sheet"],(LJ C CS))›:=λD=>by
 specialize eU D.Zb.F zP;obtain⟨S,x,d,wl,sh,bl,kn,du,bk,dS,st,op,pe,ops,aB,rows,s,f0,rfl,L,hl,l1,l2,ia,sn,lf,k⟩:=h;exists _,(au (aG (fH.pG D.QN (D.T.jX _ D.QN.m) (yr D) hr (aa (cQ (pv 0) D.aM D.KS (gy D) hr bL (aa (pv 1) ah)) ah))));refine⟨Y,x,d,Y,L.hx,rfl,Y,S,x,d,wl,sh,bl,kn,du,bk,dS,st,op,pe,ops,aB,rows,s,rfl,L,hl,l1,l2,ia,⟨f0,sn,λo H1 ho s1 _=>⟨o,Y,ho,?_,λH2 s2=>?_⟩⟩⟩
 ·have:=jT (f0 s);lia
 ·rw[wH];exact k H2 (s1.trans s2)
theorem OJ{z:Str}{i:Int}{n:Nat}(hn:z.length=n)(h0:0<=i)(h1:i<n):∃ c,pX z.cps.toList i=some c:=by
 have hl:i.toNat<z.cps.toList.length:=by
  have:z.cps.toList.length=z.length:=by show _=z.cps.size;simp
  lia
 exists z.cps.toList[i.toNat];have e:pX z.cps.toList ((i.toNat:Nat):Int)=some z.cps.toList[i.toNat]:=dD (by simp);rw[Int.toNat_of_nonneg h0]at e;exact e
class inductive RL
 | mk (l c:Addr) (b:Bool) (_:vs=[.ref l,.bl b]) (_:cT H l c) (_: ∀ (ch:Nat) (H':Hp),cT H' l c->(∀ a,a≠l->H' a=H a)->Q (yo ch) H')
class inductive RM
 | mk (l c:Addr) (m:Nat) (_:vs=[.ref l,.int (m:Nat)]) (_:cT H l c) (_:m<=1000) (_: ∀ (cs:List Nat) (H':Hp),cs.length=m->cT H' l c->cH l H H'->Q (.str (fD cs)) H')
theorem xB:aF ["_law_src_here","_law_few","_law_some"] ["_law_src_here","_law_few"] (az tL):=eS
theorem xC:aF ["_law_src_here","_law_many","_law_few"] ["_law_src_here","_law_many"] (az oZ):=eS
theorem FE:‹(2,77,["_law_src_here","_law_few"],RL)›:=λD=>by
 specialize eU D.Zc.F xB;obtain⟨l,c,b,rfl,S,k⟩:=h;refine⟨_,(aj (aX (i:=2) xB.nd bC) (aj (bN (lQ (pv 1) (λ_=>rfl)) (au (aG (aO MN bC (aC D.xq (gc D) hr (aa (pv 0) (aa ay ah)))))) aZ) (au (aG (aO MN (pv 2) (aC D.xq (gc D) hr (aa (pv 0) (aa ay ah)))))))),?_⟩;refine⟨Y,b,rfl,cX (λ_=>?_) (λ_=>?_)⟩
 ·refine⟨Y,l,c,4,rfl,S,E,E,λv H1 a0 a1 S1 k1=>?_⟩;obtain⟨ch,e⟩:=OJ (z:=Str.ofString "a# b") (n:=4) nofun a0 a1;exact⟨P,ch,V,nofun,e,k ch H1 S1 k1⟩
 ·refine⟨Y,Y,l,c,94,rfl,S,E,E,λv H1 a0 a1 S1 k1=>?_⟩;obtain⟨ch,e⟩:=OJ (z:=Str.ofString " !\"#$&'()*+,-./0123456789:;<=>?@ABCDEFGHIJKLMNOPQRSTUVWXYZ[\\]^_`abcdefghijklmnopqrstuvwxyz{|}~") (n:=94) nofun a0 a1;exact⟨P,ch,V,nofun,e,k ch H1 S1 k1⟩
theorem FF:‹(3,78,["_law_src_here","_law_many"],RM)›:=λD=>by
 specialize eU D.Zd.F xC;obtain⟨l,c,m,rfl,S,hm,k⟩:=h;refine⟨_,(aj (aX (i:=2) xC.nd (jk dQ (aC D.xq (gc D) hr (aa (pv 0) (aa ay ah))) ay (bx _))) (au (aG (dM PySem.F.plainAttrs_str PySem.F.slot_str_join PySem.F.type_str_join zh bC (aa (gH (N:=["_law_k","_law_src_here","_law_few"]) (mD (sc:=az oZ) (NX:=["_law_src_here","_law_many","_law_few"]) (jx:=[none,some 0,some 2]) rfl rfl rfl nofun nofun rfl nofun rfl nofun) rfl (iA rfl D.T.i7 (aa (pv 1) ah)) (λ_ _ _ _ _ _=>(b9 (i:=0) (show List.Nodup (["_law_k","_law_src_here","_law_few"]:List Str) by decide +kernel))) (λ_ _ _ _ _ _=>gP) (λ_ _ _ _ _ _=>(aC D.Zc (FE D) hr (aa (pv 1) (aa (pv 2) ah))))) ah))))),?_⟩;refine⟨Y,l,c,2,rfl,S,E,E,λv H1 _ _ S1 k1=>⟨rfl,?_⟩⟩;have K1:cH l H H1:=λb o e m=>(k1 b m).trans e;refine⟨rfl,Y,(m:Nat),rfl,Q,Q,λacc cS=>qE (lo:=0) (k:=((m:Nat):Int).toNat) (λi σ H2=>∃ (u:Option V) (cs:List Nat),σ=[u,some (.ref l),some (.bl (decide (V.int v=V.int 0)))]/\H2 acc=some (.lst (cs.map yo))/\cs.length=i/\cT H2 l c/\cH l H H2) ⟨none,[],rfl,af,rfl,S1.same (ak cS _),λb o e m=>ak cS _ _ _ (K1 _ _ e m)⟩ ?_ ?_⟩
 ·rintro i σ H2 hi ⟨u,cs,rfl,ha,hl,S2,K2⟩;have na:acc≠l:=(S1.ne cS).1.symm;have nc:acc≠c:=(S1.ne cS).2.symm;refine⟨Y,Y,l,c,Y,S2,λch H3 S3 k3=>⟨_,by rw[k3 acc na];exact ha,(by rw[cG];exact aS ∅),_,cs++[ch],rfl,?_,?_,?_,?_⟩⟩
  ·rw[af,gJ];rfl
  ·rw[dB,hl];rfl
  ·exact S3.keep (aJ acc _ _) na.symm nc.symm
  ·intro b o e m;by_cases z:b=acc
   ·rw[z]at e;have:=iC K1 na cS;rw[this]at e;cases e
   rw[aL z,k3 b m];exact K2 _ _ e m
 ·rintro σ H2 ⟨u,cs,rfl,ha,hl,S2,K2⟩;have hl':cs.length=m:=by lia
  exact⟨acc,cs,V,ha,Q,k cs H2 hl' S2 K2⟩
theorem Dj{α β:Type}{F:α->β->Prop}{xs:List α}{ys:List β}{x:α}{y:β}(h:Paired F xs ys)(e:F x y):Paired F (xs++[x]) (ys++[y]):=by
 induction h with
 | nil=>exact .cons e .nil
 | cons r _ ih=>exact .cons r ih
theorem AR{α β:Type}{F:α->β->Prop}{xs xs':List α}{ys ys':List β}(h:Paired F xs ys)(t:Paired F xs' ys'):Paired F (xs++xs') (ys++ys'):=by
 induction h with
 | nil=>exact t
 | cons e _ ih=>exact .cons e ih
def JP(H:Hp)(a:Addr)(q:Int × Nat):Prop:=H a=some (.tup [.int q.1,yo q.2])
inductive Dk(H:Hp)(v:Addr)(aK:gM):Prop
 | mk (as:List Addr) (_:H v=some (.lst (as.map V.ref))) (_:Paired (JP H) as aK)
abbrev kI:fj:=.inr (Str.ofString "ink")
abbrev kR:fj:=.inr (Str.ofString "rows")
abbrev kP:fj:=.inr (Str.ofString "past")
abbrev kVl:fj:=.inr (Str.ofString "veil")
abbrev rP(ik rw ps vl:Addr):List (fj × V):=[(kI,.ref ik),(kR,.ref rw),(kP,.ref ps),(kVl,.ref vl)]
def Tu(W:Addr->Prop)(ik ps:Addr)(H:Hp)(v:V)(es:List Int):Prop:=∃ b,v=.ref b/\W b/\b≠ik/\b≠ps/\H b=some (.lst (es.map V.int))
def Mm(W:Addr->Prop)(ik ps:Addr)(H:Hp)(a:Addr)(rows:cR):Prop:=W a/\a≠ik/\a≠ps/\∃ vs,H a=some (.lst vs)/\bX (Tu W ik ps H) vs rows
structure LK(W:Addr->Prop)(H:Hp)(w ik rw ps vl:Addr)(aK:gM)(pe:gS)(rows:cR):Prop where
 ww:W w
 wi:W ik
 wp:W ps
 wv:W vl
 al:∀ a,W a->∃ ob,H a=some ob
 hw:H w=some (.dK (rP ik rw ps vl))
 hi:Dk H ik aK
 hr:Mm W ik ps H rw rows
 hp:∃ vs,H ps=some (.lst vs)/\bX (λv rs=>∃ a,v=.ref a/\Mm W ik ps H a rs) vs pe
 ne:ik≠ps
 lst:pe.getLast?=some rows
 hv:H vl=some (.lst [])
 nv:vl≠ik/\vl≠ps
def Wo(W:Addr->Prop)(H:Hp)(w:Addr)(aK:gM)(pe:gS)(rows:cR):Prop:=∃ ik rw ps vl,LK W H w ik rw ps vl aK pe rows
theorem Tu.fr{W W':Addr->Prop}{H H':Hp}{v:V}{es:List Int}(s:∀ a,W a->W' a)(k:∀ a xs,H a=some (.lst xs)->W a->a≠ik->a≠ps->H' a=some (.lst xs)):Tu W ik ps H v es->Tu W' ik ps H' v es:=λ⟨b,e,w,n1,n2,h⟩=>⟨b,e,s _ w,n1,n2,k _ _ h w n1 n2⟩
theorem Mm.fr{W W':Addr->Prop}{H H':Hp}{a:Addr}{rows:cR}(s:∀ a,W a->W' a)(k:∀ a xs,H a=some (.lst xs)->W a->a≠ik->a≠ps->H' a=some (.lst xs)):Mm W ik ps H a rows->Mm W' ik ps H' a rows:=λ⟨w,n1,n2,vs,h,al⟩=>⟨s _ w,n1,n2,vs,k _ _ h w n1 n2,al.mono λ_ _=>Tu.fr s k⟩
theorem Dk.two{H H':Hp}{v:Addr}{aK:gM}(h:Dk H v aK)(k:∀ xs,H v=some (.lst xs)->H' v=some (.lst xs))(t:∀ a xs,H a=some (.tup xs)->H' a=some (.tup xs)):Dk H' v aK:=by
 obtain⟨as,hv,pa⟩:=h;exact⟨as,k _ hv,Paired.Gz pa λa q e=>t _ _ e⟩
theorem LK.fr{W:Addr->Prop}{H H':Hp}{w rw:Addr}{aK:gM}{pe:gS}{rows:cR}(h:LK W H w ik rw ps vl aK pe rows)(k:∀ a ob,H a=some ob->W a->H' a=some ob)(t:∀ a xs,H a=some (.tup xs)->H' a=some (.tup xs)):LK W H' w ik rw ps vl aK pe rows:=by
 obtain⟨ww,wi,wp,wv,al,hw,hi,hr,⟨vs,hp,a2⟩,ne,lst,hv,nv⟩:=h;refine⟨ww,wi,wp,wv,λa z=>?_,k _ _ hw ww,hi.two (λxs e=>k _ _ e wi) t,hr.fr (λ_ z=>z) (λa xs e z _ _=>k _ _ e z),⟨vs,k _ _ hp wp,a2.mono λv rs ⟨a,e,z⟩=>⟨a,e,z.fr (λ_ y=>y) (λa xs e y _ _=>k _ _ e y)⟩⟩,ne,lst,k _ _ hv wv,nv⟩;obtain⟨ob,e⟩:=al a z;exact⟨ob,k _ _ e z⟩
theorem Wo.fr{W:Addr->Prop}{H H':Hp}{w:Addr}{aK:gM}{pe:gS}{rows:cR}(h:Wo W H w aK pe rows)(k:∀ a ob,H a=some ob->W a->H' a=some ob)(t:∀ a xs,H a=some (.tup xs)->H' a=some (.tup xs)):Wo W H' w aK pe rows:=by
 obtain⟨ik,rw,ps,vl,z⟩:=h;exact⟨ik,rw,ps,vl,z.fr k t⟩
theorem Wo.same{W:Addr->Prop}{H H':Hp}{w:Addr}{aK:gM}{pe:gS}{rows:cR}(h:Wo W H w aK pe rows)(s:aI H H'):Wo W H' w aK pe rows:=h.fr (λa ob e _=>s a ob e) λa xs e=>s _ _ e
def JQ:Sp:=λvs H Q _=>vs=[]/\∀ (W:Addr->Prop) (w:Addr) (H':Hp),Wo W H' w [] [[]] []->(∀ a,W a->H a=none)->aI H H'->Q (.ref w) H'
theorem Dl:aF [] [] (az m6):=eS
theorem Z5{X:Cx}{s1 s2 s3 s4:Str}{a1 a2 a3 a4:Nat}{p1 p2 p3 p4 pos:Pos}{v1 v2 v3 v4:Expr}{t1 t2 t3 t4:TE}(h1:PE X v1 t1)(h2:PE X v2 t2)(h3:PE X v3 t3)(h4:PE X v4 t4) :
  PE X (.Dict [some (.Constant (.str s1) a1 p1),some (.Constant (.str s2) a2 p2),some (.Constant (.str s3) a3 p3),some (.Constant (.str s4) a4 p4)] [v1,v2,v3,v4] pos) (Nt [(tC (.str s1),t1),(tC (.str s2),t2),(tC (.str s3),t3),(tC (.str s4),t4)]) :=
 QD (uO bC h1 (uO bC h2 (uO bC h3 (uO bC h4 QC)))) rfl rfl (by simp) (by show 4<=15;decide)
abbrev tWo:TE:=Nt [(tC (.str "ink"),Ke yK),(tC (.str "rows"),Ke yK),(tC (.str "past"),Ke (MG (Ke yK) yK)),(tC (.str "veil"),Ke yK)]
theorem OL:∃ (e:Expr) (p:Pos),jq m6=[.Return (some e) p]/\∀ X:Cx,PE X e tWo :=
 ⟨P,rfl,λX=>@Z5 X _ _ _ _ _ _ _ _ _ _ _ _ _ _ _ _ _ _ _ _ _ (bM ah) (bM ah) (bM (aa (bM ah) ah)) (bM ah)⟩
theorem Dm:‹(1,79,[],JQ)›:=λD=>by
 specialize eU D.Hv.F Dl;obtain⟨rfl,k⟩:=h;obtain⟨e,p,he,pw⟩:=OL;rw[he];exists _,au (aG (pw _));intro w hw;refine⟨iP,λik DX=>⟨iP,λrw Z6=>⟨iP,λz hz=>⟨lD,λps JR=>⟨iP,λvl RN=>?_⟩⟩⟩⟩⟩;have s0:=ak hw (.dK []);have w0:(aP H w (.dK [])) w=some (.dK []):=af;generalize aP H w (.dK [])=H0 at s0 w0 DX Z6 hz JR RN;have s1:=ak DX (.lst []);have i1:(aP H0 ik (.lst [])) ik=some (.lst []):=af;generalize aP H0 ik (.lst [])=H1 at s1 i1 Z6 hz JR RN;have s2:=ak Z6 (.lst []);have r2:(aP H1 rw (.lst [])) rw=some (.lst []):=af;generalize aP H1 rw (.lst [])=H2 at s2 r2 hz JR RN;have s3:=ak hz (.lst []);have z3:(aP H2 z (.lst [])) z=some (.lst []):=af;generalize aP H2 z (.lst [])=H3 at s3 z3 JR RN;have s4:=ak JR (.lst [.ref z]);have p4:(aP H3 ps (.lst [.ref z])) ps=some (.lst [.ref z]):=af;generalize aP H3 ps (.lst [.ref z])=H4 at s4 p4 RN;have s5:=ak RN (.lst []);have v5:(aP H4 vl (.lst [])) vl=some (.lst []):=af;generalize aP H4 vl (.lst [])=H5 at s5 v5;have Lz:aI H1 H5:=s2.trans (s3.trans (s4.trans s5));have s05:aI H0 H5:=s1.trans Lz;have w5:=s05 _ _ w0;have i5:=Lz _ _ i1;have r5:=(s3.trans (s4.trans s5)) _ _ r2;have z5:=(s4.trans s5) _ _ z3;have p5:=s5 _ _ p4;have nl:∀ {a:Addr} {xs:List V},H5 a=some (.lst xs)->a≠w:=λ{a xs} e q=>by rw[q,w5]at e;cases e
 have n1:rw≠ik:=(aA i1 Z6).symm;have n2:rw≠ps:=aA (s3 _ _ r2) JR;have n3:z≠ik:=(aA (s2 _ _ i1) hz).symm;have n4:z≠ps:=aA z3 JR;have n5:ik≠ps:=aA ((s2.trans s3) _ _ i1) JR;refine⟨w5,rP ik rw ps vl,rfl,(by show 4<=15;decide),?_⟩;rw[show vQ [] (rP ik rw ps vl)=rP ik rw ps vl by kernel_rfl];have up:∀ {a:Addr} {xs:List V},H5 a=some (.lst xs)->(aP H5 w (.dK (rP ik rw ps vl))) a=some (.lst xs):=λ{a xs} e=>by rw[aL (nl e)];exact e
 have f0:∀ a,H0 a=none->H a=none:=λa e=>bh s0 e;refine k (λa=>a=w\/a=ik\/a=rw\/a=z\/a=ps\/a=vl) w _ ⟨ik,rw,ps,vl,.inl rfl,.inr (.inl rfl),.inr (.inr (.inr (.inr (.inl rfl)))),.inr (.inr (.inr (.inr (.inr rfl)))),λa e=>?_,af,⟨[],up i5,.nil⟩,⟨.inr (.inr (.inl rfl)),n1,n2,[],up r5,.nil⟩,⟨[.ref z],up p5,.cons ⟨z,rfl,.inr (.inr (.inr (.inl rfl))),n3,n4,[],up z5,.nil⟩ .nil⟩,n5,rfl,up v5,(aA ((s2.trans (s3.trans s4)) _ _ i1) RN).symm,(aA p4 RN).symm⟩ (λa e=>?_) (bP hw (s0.trans s05) (aJ w _ _))
 ·rcases e with rfl|rfl|rfl|rfl|rfl|rfl
  ·exact⟨_,af⟩
  ·exact⟨_,up i5⟩
  ·exact⟨_,up r5⟩
  ·exact⟨_,up z5⟩
  ·exact⟨_,up p5⟩
  ·exact⟨_,up v5⟩
 ·rcases e with rfl|rfl|rfl|rfl|rfl|rfl
  ·exact hw
  ·exact f0 _ DX
  ·exact f0 _ (bh s1 Z6)
  ·exact f0 _ (bh s1 (bh s2 hz))
  ·exact f0 _ (bh s1 (bh s2 (bh s3 JR)))
  ·exact f0 _ (bh s1 (bh s2 (bh s3 (bh s4 RN))))
class inductive VZ
 | mk (W:Addr->Prop) (w r:Addr) (aK:gM) (pe:gS) (rows rows':cR) (_:vs=[.ref w,.ref r]) (_:Wo W H w aK pe rows) (_:pe.length<=1000) (_:(∀ ik ps,(∃ rw vl,H w=some (.dK (rP ik rw ps vl)))->Mm W ik ps H r rows')) (_: ∀ (H':Hp),Wo W H' w aK (pe++[rows']) rows'->(∀ a ob,H a=some ob->¬ W a->H' a=some ob)->(∀ a xs,H a=some (.tup xs)->H' a=some (.tup xs))->(∀ ik rw ps vl,H w=some (.dK (rP ik rw ps vl))->∀ a xs,H a=some (.lst xs)->a≠ps->H' a=some (.lst xs))->Q .gm H')
theorem FG:aF ["_law_world_here","_law_rows"] ["_law_world_here","_law_rows"] (az tM):=eS
theorem qP:‹(1,80,["_law_world_here","_law_rows"],VZ)›:=λD=>by
 specialize eU D.QT.F FG;obtain⟨W,w,r,aK,pe,rows,rows',rfl,⟨ik,rw,ps,vl,h⟩,lp,hr',k⟩:=h;have hu:=gC hr;exists _,(aj (uN hu (pv 0) bC (pv 1) rfl) (au (bg (dM pW jN jO bS (gu hu (pv 0) bC) (aa (pv 1) ah)))));have JF:=hr' ik ps ⟨rw,vl,h.hw⟩;refine⟨Y,Y,w,Y,CJ.k (k:=kR) h.hw (by show 4<sizeLine;decide),?_⟩;rw[show eY (rP ik rw ps vl) kR (.ref r)=rP ik r ps vl by kernel_rfl];obtain⟨Tv,hp,al⟩:=h.hp;have k1:=aJ w H (.dK (rP ik r ps vl));have w1:(aP H w (.dK (rP ik r ps vl))) w=some (.dK (rP ik r ps vl)):=af;have nw:∀ {a:Addr} {o:HO},H a=some o->(∀ kvs,o≠.dK kvs)->a≠w:=λ{a o} e n q=>by rw[q,h.hw]at e;cases e;exact n _ rfl
 generalize aP H w (.dK (rP ik r ps vl))=H1 at k1 w1;have WK:=k1 _ _ hp (nw hp (λ_ z=>by cases z));have z:=iN.k (k:=kP) w1;rw[show cI (rP ik r ps vl) kP=some (.ref ps) by kernel_rfl]at z;have lpv:Tv.length=pe.length:=al.len;refine⟨Y,w,Y,z,.inl ⟨rfl,_,bI.of WK⟩,Y,ps,Z,WK,aS ∅,?_⟩;have nps:w≠ps:=(nw hp (λ_ z=>by cases z)).symm
 have ls:∀ a xs,H a=some (.lst xs)->a≠ps->(aP H1 ps (.lst (Tv++[.ref r]))) a=some (.lst xs):=λa xs e n=>by
  rw[aL n];exact k1 _ _ e (nw e (λ_ z=>by cases z))
 have tp:∀ a xs,H a=some (.tup xs)->(aP H1 ps (.lst (Tv++[.ref r]))) a=some (.tup xs):=λa xs e=>by
  rw[aL (dG e hp)];exact k1 _ _ e (nw e (λ_ z=>by cases z))
 have rwf:∀ {a:Addr} {rs:cR},Mm W ik ps H a rs->Mm W ik ps (aP H1 ps (.lst (Tv++[.ref r]))) a rs:=λ{a rs} q=>q.fr (λ_ y=>y) λa xs e _ _ n=>ls a xs e n;have KU:=rwf JF
 refine k _ ⟨ik,r,ps,vl,h.ww,h.wi,h.wp,h.wv,λa wa=>?_,?_,h.hi.two (λxs e=>ls _ _ e h.ne) tp,KU,⟨_,af,(al.mono λv rs ⟨a,e,q⟩=>⟨a,e,rwf q⟩).app (.cons ⟨r,rfl,KU⟩ .nil)⟩,h.ne,rJ,ls _ _ h.hv h.nv.2,h.nv⟩ (λa ob e n=>?_) tp λik' rw2 vA vl' ee a xs e n=>ls a xs e (by
  rw[h.hw]at ee;simp only[Option.some.injEq,HO.dK.injEq,rP,List.cons.injEq,Prod.mk.injEq,V.ref.injEq,true_and,and_true]at ee;rw[ee.2.2.1]
  exact n)
 ·by_cases e1:a=ps
  ·rw[e1];exact⟨_,af⟩
  rw[aL e1];by_cases e2:a=w
  ·rw[e2];exact⟨_,w1⟩
  ·obtain⟨ob,e⟩:=h.al a wa;exact⟨ob,k1 _ _ e e2⟩
 ·rw[aL nps];exact w1
 ·rw[aL (λq=>n (by rw[q];exact h.wp))];exact k1 _ _ e (λq=>n (by rw[q];exact h.ww))
theorem qg.al{U:Addr->Prop}{H:Hp}{x:Addr}{pe:gS}{aB:iH}{aK:gM}{nW:Nat}{bU:Row}(h:qg C CS CW CB U H x pe aB aK nW bU){a:Addr}(z:U a):∃ ob,H a=some ob:=by
 obtain⟨S,SW,d,wl,sh,bl,kn,du,bk,dS,st,op,dw,sg,ow,pw,db,tb,ops,L,W,B,R,VR,dj,db',dt,u⟩:=h;obtain⟨as,hR,_⟩:=R;rcases (u a).mp z with y|y|y|y|y|y
 ·exact L.W.al a y
 ·exact W.al a y
 ·rw[y];exact⟨_,L.hb⟩
 ·rw[y];exact⟨_,L.hx⟩
 ·rw[y];exact⟨_,B⟩
 ·rw[y];exact⟨_,hR⟩
theorem Wo.al{W:Addr->Prop}{H:Hp}{w:Addr}{aK:gM}{pe:gS}{rows:cR}(h:Wo W H w aK pe rows){a:Addr}(z:W a):∃ ob,H a=some ob:=by
 obtain⟨ik,rw,ps,vl,y⟩:=h;exact y.al a z
structure oj(C CS CW CB:Addr)(H:Hp)(l c w x:Addr)(U W:Addr->Prop)(pe:gS)(rows:cR)(pq:gS)(rq:cR)(aB:iH)(aK:gM)(nW:Nat)(bU:Row):Prop where
 src:cT H l c
 PB:qg C CS CW CB U H x pe aB aK nW bU
 lst:pe.getLast?=some rows
 wo:Wo W H w aK pq rq
 du:∀ a,U a->¬ W a/\a≠l/\a≠c
 dw:∀ a,W a->a≠l/\a≠c
def DY(l:Addr)(U W U' W':Addr->Prop)(H H':Hp):Prop:=(∀ a,U' a\/W' a->U a\/W a\/H a=none)/\(∀ a ob,H a=some ob->a≠l->¬ U a->¬ W a->H' a=some ob)/\∀ a xs,H a=some (.tup xs)->H' a=some (.tup xs)
theorem DY.trans{U W U1 W1 U2 W2:Addr->Prop}{H H1 H2:Hp}(f:DY l U W U1 W1 H H1)(hl:∃ ls,H1 l=some ls)(g:DY l U1 W1 U2 W2 H1 H2):DY l U W U2 W2 H H2:=by
 have key:∀ a,U1 a\/W1 a\/H1 a=none->U a\/W a\/H a=none:=by
  intro a z;rcases z with z|z|z
  ·exact f.1 a (.inl z)
  ·exact f.1 a (.inr z)
  by_cases u:U a
  ·exact .inl u
  by_cases v:W a
  ·exact .inr (.inl v)
  refine .inr (.inr ?_)
  cases ea:H a with
  | none=>rfl
  | some ob =>
   exfalso;by_cases n:a=l
   ·obtain⟨ls,hl⟩:=hl;rw[n,hl]at z;cases z
   rw[f.2.1 _ _ ea n u v]at z;cases z
 have xO:∀ a ob,H a=some ob->¬ U a->¬ W a->¬ U1 a/\¬ W1 a:=by
  intro a ob e u v;refine⟨λz=>?_,λz=>?_⟩
  ·rcases f.1 a (.inl z) with y|y|y
   ·exact u y
   ·exact v y
   ·rw[y]at e;cases e
  ·rcases f.1 a (.inr z) with y|y|y
   ·exact u y
   ·exact v y
   ·rw[y]at e;cases e
 exact⟨λa z=>key a (g.1 a z),λa ob e n u v=>g.2.1 _ _ (f.2.1 _ _ e n u v) n (xO a ob e u v).1 (xO a ob e u v).2,λa xs e=>g.2.2 _ _ (f.2.2 _ _ e)⟩
theorem oj.mv{H H':Hp}{c w x:Addr}{U W:Addr->Prop}{pe:gS}{rows:cR}{pq:gS}{rq:cR}{aB:iH}{aK:gM}{nW:Nat}{bU:Row}(h:oj C CS CW CB H l c w x U W pe rows pq rq aB aK nW bU)(k:cH l H H')(s:cT H' l c):oj C CS CW CB H' l c w x U W pe rows pq rq aB aK nW bU:=by
 obtain⟨ls,hl⟩:=h.src.lst;have t:∀ a xs,H a=some (.tup xs)->H' a=some (.tup xs):=λa xs e=>k _ _ e (dG e hl);exact⟨s,h.PB.fr (λa ob e z=>k _ _ e (h.du a z).2.1) t,h.lst,h.wo.fr (λa ob e z=>k _ _ e (h.dw a z).1) t,h.du,h.dw⟩
theorem oj.same{H H':Hp}{c w x:Addr}{U W:Addr->Prop}{pe:gS}{rows:cR}{pq:gS}{rq:cR}{aB:iH}{aK:gM}{nW:Nat}{bU:Row}(h:oj C CS CW CB H l c w x U W pe rows pq rq aB aK nW bU)(s:aI H H'):oj C CS CW CB H' l c w x U W pe rows pq rq aB aK nW bU:=h.mv (λa o e _=>s a o e) (h.src.same s)
theorem FH{α:Type}{xs:List α}{v:Int}(v0:0<=v)(v1:v<xs.length):∃ x∈xs,pX xs v=some x:=by
 obtain⟨j,rfl⟩:∃ j:Nat,v=j:=⟨v.toNat,Q⟩;have hj:j<xs.length:=by lia
 exact⟨xs[j],List.getElem_mem hj,dD (uz hj)⟩
theorem oj.Tw{W W':Addr->Prop}{H:Hp}{w rw:Addr}{aK:gM}{pe:gS}{rows:cR}(h:LK W H w ik rw ps vl aK pe rows)(s:∀ a,W a->W' a)(al:∀ a,W' a->∃ ob,H a=some ob):LK W' H w ik rw ps vl aK pe rows:=by
 obtain⟨ww,wi,wp,wv,_,hw,hi,hr,⟨vs,hp,a2⟩,ne,lst,hv,nv⟩:=h;exact⟨s _ ww,s _ wi,s _ wp,s _ wv,al,hw,hi,hr.fr s (λa xs e _ _ _=>e),⟨vs,hp,a2.mono λv rs ⟨a,e,z⟩=>⟨a,e,z.fr s (λa xs e _ _ _=>e)⟩⟩,ne,lst,hv,nv⟩
theorem cT.fru{U U':Addr->Prop}{H H':Hp}{c:Addr}(S:cT H l c)(fr:JO U U' H H')(nl:¬ U l)(nc:¬ U c):cT H' l c:=by
 obtain⟨n,ns,i,d,r,e1,e2,h3⟩:=S;exact⟨n,ns,i,d,r,fr.2.1 _ _ e1 nl,fr.2.1 _ _ e2 nc,h3⟩
theorem oj.adH{H H':Hp}{c w x:Addr}{U U' W:Addr->Prop}{pe Mj:gS}{rows rows':cR}{pq:gS}{rq:cR}{aB eE:iH}{aK:gM}{nW Z7:Nat}{bU Tz:Row}(St:oj C CS CW CB H l c w x U W pe rows pq rq aB aK nW bU)(L':qg C CS CW CB U' H' x Mj eE aK Z7 Tz)(hl:Mj.getLast?=some rows')(fr:JO U U' H H'):oj C CS CW CB H' l c w x U' W Mj rows' pq rq eE aK Z7 Tz/\DY l U W U' W H H':=by
 refine⟨⟨St.src.fru fr (λz=>(St.du l z).2.1 rfl) (λz=>(St.du c z).2.2 rfl),L',hl,St.wo.fr (λa ob e z=>fr.2.1 _ _ e (λy=>(St.du a y).1 z)) fr.2.2,λa z=>?_,St.dw⟩,λa z=>z.elim (λz=>(fr.1 a z).elim .inl λy=>.inr (.inr y)) (λz=>.inr (.inl z)),λa ob e _ u _=>fr.2.1 a ob e u,fr.2.2⟩;rcases fr.1 a z with y|y
 ·exact St.du a y
 ·have n:=St.src.ne y;refine⟨λz=>?_,n.1.symm,n.2.symm⟩;obtain⟨ob,e⟩:=St.wo.al z;rw[y]at e;cases e
theorem oj.kept{H H':Hp}{c w x:Addr}{U W W':Addr->Prop}{pe:gS}{rows:cR}{pq pq':gS}{rq rq':cR}{aB:iH}{aK:gM}{nW:Nat}{bU:Row}(St:oj C CS CW CB H l c w x U W pe rows pq rq aB aK nW bU)(wo:Wo W' H' w aK pq' rq')(dU:∀ a,U a->¬ W' a)(dW:∀ a,W' a->a≠l/\a≠c)(fr:∀ a ob,H a=some ob->¬ W' a->H' a=some ob)(tp:∀ a xs,H a=some (.tup xs)->H' a=some (.tup xs)):oj C CS CW CB H' l c w x U W' pe rows pq' rq' aB aK nW bU:=by
 refine⟨?_,St.PB.fr (λa ob e z=>fr _ _ e (dU a z)) tp,St.lst,wo,λa z=>⟨dU a z,(St.du a z).2⟩,dW⟩;obtain⟨n,ns,i,d,r,e1,e2,h3⟩:=St.src;exact⟨n,ns,i,d,r,fr _ _ e1 (λz=>(dW l z).1 rfl),fr _ _ e2 (λz=>(dW c z).2 rfl),h3⟩
theorem oj.new{H:Hp}{c w x a:Addr}{U W:Addr->Prop}{pe:gS}{rows:cR}{pq:gS}{rq:cR}{aB:iH}{aK:gM}{nW:Nat}{bU:Row}(St:oj C CS CW CB H l c w x U W pe rows pq rq aB aK nW bU)(h:H a=none):¬ U a/\¬ W a/\a≠l/\a≠c:=by
 have n:=St.src.ne h;refine⟨λz=>?_,λz=>?_,n.1.symm,n.2.symm⟩
 ·obtain⟨ob,e⟩:=St.PB.al z;rw[h]at e;cases e
 ·obtain⟨ob,e⟩:=St.wo.al z;rw[h]at e;cases e
def own(rows:cR)(x:Int):List Int:=(rows[x.toNat]?).getD []
theorem FI{rows:cR}{s:Nat}(es:List Int)(h:s<rows.length):iW rows s es=rows.set s es:=by
 unfold iW;rw[List.set_eq_take_append_cons_drop,if_pos h,mU];rfl
theorem FJ{k:Nat}:∀ {row:Row},(∀ p∈row,p.2<=p.1+(k:Nat))->(bO row).length<=k*row.length
 | [],_=>Nat.zero_le _
 | p::r,h=>by
  have ih:=FJ (row:=r) λq hq=>h q (nQ _ hq);have hp:=h p (List.mem_cons_self ..);have e:bO (p::r)=jw p++bO r:=by unfold bO;rw[ji]
  rw[e,dB,mS,Nat.mul_add,Nat.mul_one];have:(jw p).length<=k:=by unfold jw;rw[fF];lia
  lia
theorem OM{n:Nat}{row:Row}(h:∀ p∈row,0<=p.1/\p.1<p.2/\p.2<=(n:Nat)){e:Int}(he:e∈bO row):0<=e/\e<(n:Nat):=by
 unfold bO at he;obtain⟨p,hp,hm⟩:=List.mem_flatMap.mp he;have b:=h p hp;have m:=Jx.mp hm;lia
class inductive V0
 | mk (r e:Addr) (s:Nat) (xs:List V) (_:vs=[.ref r,.int (s:Nat),.ref e]) (_:H r=some (.lst xs)) (_:s<xs.length) (_:xs.length<=1000) (_:∀ (q:Addr) (H':Hp),H' q=some (.lst (xs.set s (.ref e)))->aI H H'->H q=none->Q (.ref q) H')
theorem xD:aF ["_law_rows","_law_sheet","_law_entries","_law_found"] ["_law_rows","_law_sheet","_law_entries"] (az tN):=eS
theorem RO{n:Nat}{i:Nat}(h1:i<n):Jb n ((i:Nat):Int)=some i:=by
 unfold Jb;rw[if_pos ∅,Int.toNat_natCast,if_pos ∅]
theorem xE:‹(1,81,["_law_rows","_law_sheet","_law_entries"],V0)›:=λD=>by
 refine eU D.Vn.F xD λcV A zn s0 H vs Q E hr h=>?_;obtain⟨r,e,s,xs,rfl,hr1,hs,lx,k⟩:=h;exists _,(aj (aX (i:=3) xD.nd (eT fZ rfl D.T.jf sN (aa (pv 0) ah))) (aj (lP (pv 2) (oE (pv 3) (pv 1) jm)) (au (aG (pv 3)))));refine⟨Y,r,Y,.inl (bI.of hr1),λq hq=>?_⟩;refine⟨Y,Y,Y,q,P,s,V,af,RO hs,Y,k q _ af (bP hq (ak hq _) (aJ q _ _)) hq⟩
theorem Wo.swap{W:Addr->Prop}{H:Hp}{w rw q e:Addr}{aK:gM}{pq:gS}{rq:cR}{xs:List V}{s:Nat}{es:List Int}(wu:LK W H w ik rw ps vl aK pq rq)(hx:H rw=some (.lst xs))(hq:H q=some (.lst (xs.set s (.ref e))))(he:H e=some (.lst (es.map V.int)))(nq:¬ W q)(ne:¬ W e):LK (λa=>W a\/a=e\/a=q) H w ik rw ps vl aK pq rq/\Mm (λa=>W a\/a=e\/a=q) ik ps H q (rq.set s es):=by
 have WO:LK (λa=>W a\/a=e\/a=q) H w ik rw ps vl aK pq rq:=oj.Tw wu (λa z=>.inl z) (by
  rintro a (z|z|z)
  ·exact wu.al a z
  ·rw[z];exact⟨_,he⟩
  ·rw[z];exact⟨_,hq⟩)
 obtain⟨_,_,_,vs,hvs,al⟩:=id WO.hr;rw[hx]at hvs;cases hvs;have ne':∀ {a b:Addr},W a->¬ W b->b≠a:=λwa nb z=>nb (by rw[z];exact wa);exists WO,.inr (.inr rfl),ne' wu.wi nq,ne' wu.wp nq,_,hq
 have key:∀ {vs:List V} {rs:cR} (s:Nat),bX (Tu (λa=>W a\/a=e\/a=q) ik ps H) vs rs->bX (Tu (λa=>W a\/a=e\/a=q) ik ps H) (vs.set s (.ref e)) (rs.set s es):=by
  intro vs rs s z
  induction z generalizing s with
  | nil=>exact .nil
  | cons o t ih =>
   cases s with
   | zero=>exact .cons ⟨e,rfl,.inr (.inl rfl),ne' wu.wi ne,ne' wu.wp ne,he⟩ t
   | succ n=>exact .cons o (ih n)
 exact key s al
theorem lH:aF ["_law_row","_law_numbers","_law_start","_law_stop"] ["_law_row"] (az qz):=eS
theorem Dn:‹(1,82,["_law_row"],(Qm 1000000))›:=λD=>by
 specialize eU D.Ze.F lH;obtain⟨r,row,rfl,⟨as,hr1,hp⟩,DW,dI,hrl,k⟩:=h;exists _,(aj (aX (i:=1) lH.nd (bM ah)) (aj (d9 PassesOwn.never rfl (cJ (pv 0)) (nj (n:=2) rfl (b8 (b9 (i:=2) lH.nd) (b8 (b9 (i:=3) lH.nd) gO))) (au (bg (dM pW PySem.F.slot_list_extend PySem.F.type_list_extend jQ (pv 1) (aa (eT (sf rfl) rfl D.T.jf sN (aa (eT Ep rfl D.T.i7 PyProof.Rows.boot_range (aa (pv 2) (aa (pv 3) ah))) ah)) ah))))) (au (aG (pv 1)))));refine⟨iP,λq hq=>?_⟩;have s0:aI H (aP H q (.lst [])):=ak hq _;refine⟨Y,r,rfl,⟨_,bI.of (s0 _ _ hr1)⟩,dN (K:=K) (a:=r) (xs:=as.map V.ref) (λi σ H2=>∃ (u v:Option V),σ=[some (.ref r),some (.ref q),u,v]/\H2 q=some (.lst ((bO (row.take i)).map V.int))/\aI H H2) ⟨none,none,rfl,af,s0⟩ (by rintro i σ H2 _ ⟨_,_,_,_,s⟩;exact bI.of (s _ _ hr1)) ?_ ?_⟩
 ·rintro i x σ H2 hi ⟨u,v,rfl,d8,s⟩;rw[gE]at hi;obtain⟨a,ea,rfl⟩:=Option.map_eq_some_iff.mp hi;obtain⟨⟨st,en⟩,ep,ha⟩:=hp.get ea;obtain⟨b1,b2,b3⟩:=DW _ (om ep);simp only at b1 b2 b3;have step:=yX ep
  have lz:(bO (row.take i)).length+(en-st).toNat<=1000000:=by
   have z:=sj row (i+1);rw[step,dB,jw,fF]at z;exact iI z dI
  exists a,Y,dH.of (s _ _ ha),rfl,P,rfl,Z;refine⟨Y,.inl ⟨rfl,_,bI.of d8⟩,Y,Y,P,rfl,λp hp=>⟨p,P,rfl,af,⟨Q,Q,Q,Q⟩,iz (aS ∅),λm hm=>?_⟩⟩;have s1:aI H2 (aP H2 p (.D4 st en)):=ak hp _;have s2:=s1.trans (ak hm (.lst (Bw st (en-st).toNat)));exists q,m,Z,s2 _ _ d8,af,?_
  ·rw[cG,yW,cG,fF];exact iz (aS ∅)
  ·refine⟨P,rfl,?_,bP hq (s.trans s2) (aJ q _ _)⟩;rw[af,step,gJ,yW];rfl
 ·rintro σ H2 ⟨u,v,rfl,d8,s⟩;refine⟨Y,k q H2 ?_ s hq⟩;rw[cG,hp.len,gR]at d8;exact d8
class inductive Dp(d:Nat)
 | mk (av:Addr->Prop) (r:Addr) (rows:cR) (x:Int) (sh:Int->List Int) (rk:Int->Nat) (_:vs=[.ref r,.int x]) (_:gY av H r rows) (_:rows.length<=1000) (_:gr rows) (_:0<=x) (_:x<rows.length) (_:mF rows sh) (_:(∀ x:Int,0<=x->x<rows.length->(sh x).length<=10000)) (_:(∀ x y,jM rows x y->rk y<rk x)) (_:rk x<d) (_ :
 ∀ (o:Addr) (H':Hp),H' o=some (.lst ((sh x).map V.int))->aI H H'->H o=none->Q (.ref o) H')
theorem qQ:aF ["_law_rows","_law_sheet","_law_numbers","_law_entry"] ["_law_rows","_law_sheet"] (az tO):=eS
theorem AS(D:Ds K mg aY bf C CS CW CB CT CD){n:Nat}(HU:bw P w K mg zt cL (n+1) (aY 83) (bf 83) ["_law_rows","_law_sheet"] (Dp n)):bw P w K mg zt cL (n+2) (aY 83) (bf 83) ["_law_rows","_law_sheet"] (Dp (n+1)):=by
 specialize eU D.EW.F qQ;obtain⟨av,r,rows,x,sh,rk,rfl,R,dI,oq,x0,x1,wY,DW,vY,hd,k⟩:=h;obtain⟨es,ff⟩:∃ es,rows[x.toNat]?=some es:=⟨_,uz ∅⟩;obtain⟨xR,b,xr,CV,hb0,hrl⟩:=R.get ff
 have uX:pX xR x=some (.ref b):=by
  have z:=dD CV;rw[show ((x.toNat:Nat):Int)=x by lia]at z;exact z
 have Zy:=wY x es x0 ff
 have part:∀ i,(aR sh (es.take i)).length<=10000:=λi=>by
  have z:=DW x x0 x1
  have e:aR sh es=aR sh (es.take i)++aR sh (es.drop i):=by
   unfold aR;rw[← List.flatMap_append,List.take_append_drop]
  rw[Zy,e,dB]at z;lia
 exists _,(aj (aX (i:=2) qQ.nd (bM ah)) (aj (d9 PassesOwn.never rfl (cJ (aO bu (pv 0) (pv 1))) (b9 (i:=3) qQ.nd) (au (bN (aT kU (pv 3) ay (bx _)) (au (bg (dM pW PySem.F.slot_list_extend PySem.F.type_list_extend jQ (pv 2) (aa (aC D.EW HU hr (aa (pv 0) (aa (bG cN (gB eL ay) (pv 3)) ah))) ah)))) (au (bg (dM pW jN jO bS (pv 2) (aa (pv 3) ah))))))) (au (aG (pv 2)))));refine⟨iP,λq hq=>?_⟩;have s0:aI H (aP H q (.lst [])):=ak hq _;refine⟨Y,Y,r,K,V,bI.of (s0 _ _ xr),uX,b,rfl,⟨_,bI.of (s0 _ _ hb0)⟩,dN (K:=K) (a:=b) (xs:=es.map V.int) (λi σ H2=>∃ u:Option V,σ=[some (.ref r),some (.int x),some (.ref q),u]/\H2 q=some (.lst ((aR sh (es.take i)).map V.int))/\aI H H2) ⟨none,rfl,af,s0⟩ (by rintro i σ H2 _ ⟨_,_,_,s2⟩;exact bI.of (s2 _ _ hb0)) ?_ ?_⟩
 ·rintro i e σ H2 hi ⟨u,rfl,h2,s2⟩;rw[gE]at hi;obtain⟨e,ex,rfl⟩:=Option.map_eq_some_iff.mp hi
  have st:aR sh (es.take (i+1))=aR sh (es.take i)++aW sh e:=by
   rw[take_snoc ex];unfold aR;rw[List.flatMap_append];simp
  have pl:=part (i+1);rw[st,dB]at pl;refine⟨Y,Z,Y,cX (λc=>?_) (λc=>?_)⟩
  ·have c':e<0:=of_decide_eq_true c;have ee:aW sh e=sh (-1-e):=by unfold aW;rw[if_pos c']
   rw[ee]at st pl;have Gw:jM rows x (-1-e):=⟨x0,es,ff,cB.mpr ⟨Q,by rw[show -1-(-1-e)=e by lia];exact om ex⟩⟩;obtain⟨y0,y1⟩:=oq.DU Gw;have rky:=vY _ _ Gw;refine⟨Y,.inl ⟨rfl,_,bI.of h2⟩,Y,Y,Y,Z,av,r,rows,-1-e,sh,rk,rfl,R.same s2,dI,oq,y0,y1,wY,DW,vY,Q,λo H3 h3 s3 ho=>?_⟩;refine⟨q,o,Z,s3 _ _ h2,h3,iz (aS (by rw[cG,cG];lia)),?_⟩;refine⟨Y,?_,bP hq (s2.trans s3) (aJ q _ _)⟩;rw[af,st,gJ]
  ·have c':¬ e<0:=λz=>c (decide_eq_true z);have ee:aW sh e=[e]:=by unfold aW;rw[if_neg c']
   rw[ee]at st pl;refine⟨Y,.inl ⟨rfl,_,bI.of h2⟩,Y,q,Z,h2,(by rw[cG];exact aS ∅),?_⟩;refine⟨Y,?_,bP hq s2 (aJ q _ _)⟩;rw[af,st,gJ];rfl
 ·rintro σ H2 ⟨u,rfl,h2,s2⟩;rw[cG,gR,← Zy]at h2;exact⟨Y,k q H2 h2 s2 hq⟩
theorem ig(D:Ds K mg aY bf C CS CW CB CT CD):∀ n:Nat,bw P w K mg zt cL (n+1) (aY 83) (bf 83) ["_law_rows","_law_sheet"] (Dp n)
 | 0=>by
  have no:∀ vs H Q E,¬ Dp 0 vs H Q E:=λvs H Q E h=>by
   obtain⟨_,_,_,_,_,_,_,_,_,_,_,_,_,_,_,h,_⟩:=h;exact Nat.not_lt_zero _ h
  exact⟨λvs H Q E h=>absurd h (no vs H Q E),λA zn s H args us vs Q E _ _ _ _ h=>absurd h (no vs H Q E)⟩
 | n+1=>AS D (ig D n)
def Mn(rows:cR):Nat->Int->List Int
 | 0,_=>[]
 | k+1,x=>match rows[x.toNat]? with
  | some es=>aR (Mn rows k) es
  | none=>[]
theorem qR{f g:Int->List Int}{es:List Int}(h:∀ y∈dX es,f y=g y):aR f es=aR g es:=by
 unfold aR;rw[List.flatMap_def,List.flatMap_def];congr 1;refine List.map_congr_left λe he=>?_;unfold aW;by_cases c:e<0
 ·rw[if_pos c,if_pos c,h (-1-e) (cB.mpr ⟨Q,by rw[show -1-(-1-e)=e by lia];exact he⟩)]
 ·rw[if_neg c,if_neg c]
theorem zQ{rows:cR}(h:BI rows):∃ sh,mF rows sh:=by
 obtain⟨rk,hb,hd⟩:=h
 have key:∀ (k:Nat) (x:Int),0<=x->rk x<k->Mn rows k x=Mn rows (k+1) x:=by
  intro k
  induction k with
  | zero=>intro x _ h;lia
  | succ k ih =>
   intro x x0 hx
   cases e:rows[x.toNat]? with
   | none=>simp[Mn,e]
   | some es =>
    have e1:Mn rows (k+1) x=aR (Mn rows k) es:=by simp[Mn,e]
    have e2:Mn rows (k+1+1) x=aR (Mn rows (k+1)) es:=by
     show (match rows[x.toNat]? with|some es=>aR (Mn rows (k+1)) es|none=>[])=_;rw[e]
    rw[e1,e2];refine qR λy hy=>ih y (cB.mp hy).1 ?_;have:=hd x y ⟨x0,es,e,hy⟩;lia
 refine⟨Mn rows 41,λx es x0 he=>?_⟩;rw[key 41 x x0 (by have:=hb x;lia)];show (match rows[x.toNat]? with|some es=>aR (Mn rows 41) es|none=>[])=_;rw[he]
def zR(n:Nat)(L:List Int):Nat:=cnt n λi=>decide ((i:Int)∉L)
theorem LL{n:Nat}{L:List Int}{y:Int}(h0:0<=y)(h1:y<n)(hn:y∉L):zR n (L++[y])+1=zR n L:=by
 refine uR y.toNat n ∅ ?_ λi=>?_
 ·show decide (((y.toNat:Nat):Int)∉L)=true;rw[show ((y.toNat:Nat):Int)=y by lia];exact decide_eq_true hn
 ·show decide ((i:Int)∉L++[y])=(decide ((i:Int)∉L)&&decide (i≠y.toNat));rw[← Bool.decide_and];congr 1;rw[List.mem_append,List.mem_singleton];apply propext;constructor
  ·intro h;exact⟨λq=>h (.inl q),λq=>h (.inr ∅)⟩
  ·rintro⟨a,b⟩ (q|q)
   ·exact a q
   ·exact b ∅
theorem Dq(a b:List Int):dX (a++b)=dX a++dX b:=by unfold dX;rw[List.filterMap_append]
structure Dfs(rows:cR)(H:Hp)(Rr Wt:Addr)(s:Int)(Z8:Int->Prop)(H2:Hp)(L ws:List Int):Prop where
 hR:H2 Rr=some (.lst (L.map V.int))
 hW:H2 Wt=some (.lst (ws.map V.int))
 sm:aI H H2
 rc:∀ x∈L,Reach (jM rows) s x
 wr:∀ x∈ws,(x=s\/x∈L)/\0<=x/\x<rows.length
 kl:L.length+zR rows.length L<=rows.length
 cl:∀ x,(x=s\/x∈L)->x∈ws\/Z8 x\/∀ y,jM rows x y->y∈L
class inductive LM
 | mk (av:Addr->Prop) (r:Addr) (rows:cR) (s:Int) (_:vs=[.ref r,.int s]) (_:gY av H r rows) (_:rows.length<=1000) (_:(∀ es∈rows,es.length<=100000)) (_:gr rows) (_:0<=s) (_:s<rows.length) (_ :
 ∀ (L:List Int) (o:Addr) (H':Hp),H' o=some (.lst (L.map V.int))->aI H H'->(∀ x,x∈L↔Reach (jM rows) s x)->Q (.ref o) H')
theorem ir:aF ["_law_rows","_law_sheet","_law_reached_here","_law_waiting","_law_here","_law_entry"] ["_law_rows","_law_sheet"] (az nF):=eS
def muR(n:Nat)(L ws:List Int):Nat:=2*zR n L+ws.length
def TF(rows:cR)(H:Hp)(r Rr Wt:Addr)(s:Int)(m:Nat)(σ:L2.St)(H2:Hp):Prop:=∃ (L ws:List Int) (u v:Option V),σ=[some (.ref r),some (.int s),some (.ref Rr),some (.ref Wt),u,v]/\Dfs rows H Rr Wt s (λ_=>False) H2 L ws/\ws.length+2*zR rows.length L<=2*rows.length+1/\m=muR rows.length L ws
theorem zS:‹(1,84,["_law_rows","_law_sheet"],LM)›:=λD=>by
 refine eU D.Zf.F ir λcV A zn s0 H vs Q E hr h=>?_;obtain⟨av,r,rows,s,rfl,hRw,dI,hes,oq,h0,h1,k⟩:=h;have hu:=gC hr;exists _,(aj (aX (i:=2) ir.nd (bM ah)) (aj (aX (i:=3) ir.nd (bM (aa (pv 1) ah))) (aj (uC PassesOwn.never (aT Bd (fm D.T.eV (pv 3)) ay (bx _)) (aj (aX (i:=4) ir.nd (MQ pW PySem.F.slot_list_pop PySem.F.type_list_pop MU (pv 3))) (au (d9 PassesOwn.never rfl (cJ (aO bu (pv 0) (pv 4))) (b9 (i:=5) ir.nd) (au (bN (PW.pt (qm (aT kU (pv 5) ay (bx _)) (oA (aT Cq (bG cN (gB eL ay) (pv 5)) (pv 2) rfl)))) (aj (bg (dM pW jN jO bS (pv 2) (aa (bG cN (gB eL ay) (pv 5)) ah))) (au (bg (dM pW jN jO bS (pv 3) (aa (bG cN (gB eL ay) (pv 5)) ah))))) aZ)))))) (au (aG (pv 2))))));refine⟨iP,λRr hRr=>?_⟩;refine⟨Y,lD,λWt hWt=>?_⟩;have s1:aI H (aP H Rr (.lst [])):=ak hRr _;have s2:=s1.trans (ak hWt (.lst [.int s]))
 have QZ:H Wt=none:=by
  cases e:H Wt with
  | none=>rfl
  | some o=>exact absurd ((s1 _ _ e).symm.trans hWt) (by simp)
 have nRW:Rr≠Wt:=aA af hWt;exists TF rows H r Rr Wt s,⟨_,[],[s],none,none,rfl,⟨ak hWt _ _ _ af,af,s2,?_,?_,?_,?_⟩,?_,rfl⟩
 ·intro x hx;cases hx
 ·intro x hx;have:x=s:=by simpa using hx
  exact⟨.inl this,Q,Q⟩
 ·have:=zf rows.length (λi=>decide ((i:Int)∉([]:List Int)));show 0+cnt rows.length _<=_;lia
 ·rintro x (rfl|hx)
  ·exact .inl (by simp)
  ·cases hx
 ·have:=zf rows.length (λi=>decide ((i:Int)∉([]:List Int)));show 1+2*cnt rows.length _<=_;lia
 rintro m σ H2 ⟨L,ws,u,v,rfl,B,hml,rfl⟩;exists Y,Wt,Y,.inl (bI.of B.hW),Z,Y;rcases oz ws with rfl|⟨WQ,h,rfl⟩
 ·refine d7 ⟨Y,k L Rr H2 B.hR B.sm λx=>⟨λhx=>B.rc x hx,λhx=>?_⟩⟩
  have zt:∀ x,(x=s\/x∈L)->∀ y,jM rows x y->y∈L:=λx hx=>by
   rcases B.cl x hx with z|z|z
   ·cases z
   ·exact z.elim
   ·exact z
  exact Reach.closed (S:=λy=>y∈L) (zt s (.inl rfl)) (λx y hx=>zt x (.inr hx) y) hx
 rw[mT]at B hml ⊢;refine cX (λ_=>?_) (λz=>absurd (decide_eq_true (by simp)) z);obtain⟨hR2,Zt,sm2,rc2,wr2,kl2,cl2⟩:=id B;obtain⟨hh,e0,e1⟩:=wr2 h (by simp);obtain⟨es,ff⟩:∃ es,rows[h.toNat]?=some es:=⟨_,uz ∅⟩;have Vt:=hes es (om ff);refine⟨fun σ' H'=>∃ m',m'<muR rows.length L (WQ++[h])/\TF rows H r Rr Wt s m' σ' H',fun σ' H' z=>z,?_⟩;refine⟨Y,.inl ⟨rfl,_,bI.of Zt⟩,Wt,_,.int h,V,Zt,(by simp),?_⟩;have ee:((WQ++[h]).map V.int).dropLast=WQ.map V.int:=by simp
 rw[ee];have NT:aI H (aP H2 Wt (.lst (WQ.map V.int))):=bP QZ sm2 (aJ Wt _ _);obtain⟨xR,b,xr,CV,hb0,hrl⟩:=hRw.get ff;have hb3:=NT _ _ hb0;refine⟨Y,Y,r,K,V,bI.of (NT _ _ xr),?_,b,rfl,⟨_,bI.of hb3⟩,dN (K:=K) (a:=b) (xs:=es.map V.int) (λi σ H5=>∃ (L2 RP:List Int) (v:Option V),σ=[some (.ref r),some (.int s),some (.ref Rr),some (.ref Wt),some (.int h),v]/\ Dfs rows H Rr Wt s (λx=>x=h) H5 L2 RP/\(∀ y∈dX (es.take i),y∈L2)/\(∀ y∈L,y∈L2)/\RP.length+2*zR rows.length L2<=WQ.length+2*zR rows.length L) ?_ ?_ ?_ ?_⟩
 ·have z:=dD CV;rw[show ((h.toNat:Nat):Int)=h by lia]at z;exact z
 ·refine⟨L,WQ,Y,⟨(by rw[aL nRW];exact hR2),af,NT,rc2,λx hx=>wr2 x (sO _ hx),kl2,λx hx=>?_⟩,(λy hy=>by simp[dX]at hy),λ_ q=>q,gh _⟩;rcases cl2 x hx with z|z|z
  ·rcases List.mem_append.mp z with q|q
   ·exact .inl q
   ·exact .inr (.inl (by simpa using q))
  ·exact z.elim
  ·exact .inr (.inr z)
 ·rintro i σ H5 _ ⟨_,_,_,_,B5,_⟩;exact bI.of (B5.sm _ _ hb0)
 ·rintro i x σ H5 hi ⟨L2,RP,v,rfl,B5,Cb,hsub,WG⟩;rw[gE]at hi;obtain⟨x,ex,rfl⟩:=Option.map_eq_some_iff.mp hi;have step:dX (es.take (i+1))=dX (es.take i)++dX [x]:=by rw[take_snoc ex,Dq]
  refine⟨Y,Z,Y,cX (λc=>?_) (λc=>d7 ?_)⟩
  ·have c':x<0:=of_decide_eq_true c;have wx:dX [x]=[-1-x]:=by simp[dX,c']
   have Gw:jM rows h (-1-x):=⟨e0,es,ff,by
    rw[cB]
    exact⟨Q,by rw[show -1-(-1-x)=x by lia];exact om ex⟩⟩
   obtain⟨y0,y1⟩:=oq.DU Gw;exists Y,Y,Z,Y,Rr,Y,.inl (bI.of B5.hR),rfl,BH L2,Y;rw[Jv];by_cases hm:-1-x∈L2
   ·rw[decide_eq_true hm];refine d7 ?_;refine⟨L2,RP,Y,B5,(λy hy=>?_),hsub,WG⟩;rw[step,wx]at hy;rcases List.mem_append.mp hy with q|q
    ·exact Cb y q
    ·have:y=-1-x:=by simpa using q
     rw[this];exact hm
   ·rw[decide_eq_false hm];refine jr ?_;have Zr:=B5.kl;have mp:=LL y0 y1 hm;refine⟨Y,.inl ⟨rfl,_,bI.of B5.hR⟩,Y,Y,Z,Rr,Z,B5.hR,(by rw[cG];exact aS ∅),?_⟩;have Pu:(aP H5 Rr (.lst (L2.map V.int++[.int (-1-x)]))) Wt=some (.lst (RP.map V.int)):=by rw[aL nRW.symm];exact B5.hW
    refine⟨Y,.inl ⟨rfl,_,bI.of Pu⟩,Y,Y,Z,Wt,Z,Pu,(by rw[cG];rw[dB,qX]at hml;exact aS ∅),?_⟩;refine⟨L2++[-1-x],RP++[-1-x],Y,⟨?_,?_,bP QZ (bP hRr B5.sm (aJ Rr _ _)) (aJ Wt _ _),?_,?_,?_,?_⟩,?_,λy q=>sO _ (hsub y q),?_⟩
    ·rw[aL nRW,af,gJ];rfl
    ·rw[af,gJ];rfl
    ·intro y hy;rcases List.mem_append.mp hy with q|q
     ·exact B5.rc y q
     ·have:y=-1-x:=by simpa using q
      subst this;rcases hh with rfl|hh
      ·exact .one Gw
      ·exact .step (B.rc h hh) Gw
    ·intro y hy;rcases List.mem_append.mp hy with q|q
     ·obtain⟨q1,q2⟩:=B5.wr y q;exact⟨q1.imp id (sO _),q2⟩
     ·have:y=-1-x:=by simpa using q
      subst this;exact⟨.inr (by simp),y0,y1⟩
    ·rw[dB,qX];lia
    ·intro y hy;by_cases e:y=-1-x
     ·exact .inl (by rw[e];simp)
     ·have hy':y=s\/y∈L2:=hy.imp id λq=>by
       rcases List.mem_append.mp q with z|z
       ·exact z
       ·exact absurd (by simpa using z) e
      rcases B5.cl y hy' with q|q|q
      ·exact .inl (sO _ q)
      ·exact .inr (.inl q)
      ·exact .inr (.inr λz hz=>sO _ (q z hz))
    ·intro y hy;rw[step,wx]at hy;rcases List.mem_append.mp hy with q|q
     ·exact sO _ (Cb y q)
     ·exact ou _ q
    ·rw[dB,qX];lia
  ·have c':¬ x<0:=λz=>c (decide_eq_true z);have wx:dX [x]=[]:=by simp[dX,c']
   exact⟨L2,RP,Y,B5,(by rw[step,wx,gT];exact Cb),hsub,WG⟩
 ·rintro σ H5 ⟨L2,RP,v,rfl,B5,Cb,hsub,WG⟩;rw[cG,gR]at Cb;refine⟨_,?_,L2,RP,P,rfl,⟨B5.hR,B5.hW,B5.sm,B5.rc,B5.wr,B5.kl,λx hx=>?_⟩,?_,rfl⟩
  ·unfold muR;rw[dB,qX];lia
  ·rcases B5.cl x hx with q|rfl|q
   ·exact .inl q
   ·refine .inr (.inr λy hy=>Cb y ?_);obtain⟨_,vt,Jp,hy'⟩:=hy;rw[ff]at Jp;cases Jp;exact hy'
   ·exact .inr (.inr q)
  ·rw[dB,qX]at hml;lia
theorem pN(sh:Int->List Int)(es:List Int)(i:Nat):(aR sh (es.take i)).length<=(aR sh es).length:=iE (aW sh) es i
class inductive wL(d:Nat)
 | mk (av:Addr->Prop) (r:Addr) (rows:cR) (e:Int) (sh:Int->List Int) (rk:Int->Nat) (_:vs=[.ref r,.int e]) (_:gY av H r rows) (_:rows.length<=1000) (_:gr rows) (_:mF rows sh) (_:(∀ x:Int,0<=x->x<rows.length->(sh x).length<=10000)) (_:(∀ x y,jM rows x y->rk y<rk x)) (_:(e<0->-1-e<rows.length/\rk (-1-e)<d)) (_ :
 ∀ (o:Addr) (H':Hp),H' o=some (.lst ((aW sh e).map V.int))->aI H H'->H o=none->Q (.ref o) H')
theorem AU:aF ["_law_rows","_law_entry"] ["_law_rows","_law_entry"] (az o6):=eS
theorem sL(D:Ds K mg aY bf C CS CW CB CT CD){d:Nat}:bw P w K mg zt cL (d+2) (aY 85) (bf 85) ["_law_rows","_law_entry"] (wL d):=by
 specialize eU D.Vo.F AU;obtain⟨av,r,rows,e,sh,rk,rfl,R,dI,oq,wY,DW,vY,hd,k⟩:=h;exists _,(aj (bN (aT kU (pv 1) ay (bx _)) (au (aG (aC D.EW (ig D d) hr (aa (pv 0) (aa (bG cN (gB eL ay) (pv 1)) ah))))) aZ) (au (aG (bM (aa (pv 1) ah)))));refine⟨Y,Z,Y,cX (λc=>?_) (λc=>?_)⟩
 ·have c':e<0:=of_decide_eq_true c;obtain⟨d1,d2⟩:=hd c';refine⟨Y,Y,Y,Z,av,r,rows,-1-e,sh,rk,rfl,R,dI,oq,Q,d1,wY,DW,vY,d2,λo H' h s ho=>k o H' ?_ s ho⟩;unfold aW;rw[if_pos c'];exact h
 ·have c':¬ e<0:=λz=>c (decide_eq_true z);refine⟨Y,lD,λo ho=>k o _ ?_ (ak ho _) ho⟩;unfold aW;rw[if_neg c',af];rfl
theorem Dr(sh:Int->List Int)(p:Int):∀ (es:List Int) (f:Int),(aE sh p f es).length<=es.length+(aR sh es).length
 | [],_=>by simp[aE]
 | e::r,f=>by
  rw[aE,bZ,dB,dB,mS];have a:=Dr sh p r (f+(aW sh e).length)
  have b:(if f+(aW sh e).length<=p then [e] else if p<=f then [] else (aW sh e).take (p-f).toNat).length<=1+(aW sh e).length:=by
   split
   ·simp
   ·split
    ·simp
    ·rw[gF];lia
  lia
theorem Dt(sh:Int->List Int)(p:Int):∀ (es:List Int) (f:Int),(bE sh p f es).length<=es.length+(aR sh es).length
 | [],_=>by simp[bE]
 | e::r,f=>by
  rw[bE,bZ,dB,dB,mS];have a:=Dt sh p r (f+(aW sh e).length)
  have b:(if f+(aW sh e).length<=p then [] else if p<=f then [e] else (aW sh e).drop (p-f).toNat).length<=1+(aW sh e).length:=by
   split
   ·simp
   ·split
    ·simp
    ·rw[rK];lia
  lia
class inductive HV(d:Nat)
 | mk (av:Addr->Prop) (r n:Addr) (rows:cR) (s p:Int) (new:List Int) (sh:Int->List Int) (rk:Int->Nat) (_:vs=[.ref r,.int s,.int p,.ref n]) (_:gY av H r rows) (_:rows.length<=1000) (_:(∀ es∈rows,es.length<=25000)) (_:gr rows) (_:mF rows sh) (_:(∀ x:Int,0<=x->x<rows.length->(sh x).length<=10000)) (_:(∀ x y,jM rows x y->rk y<rk x)) (_:0<=s) (_:s<rows.length) (_:rk s<=d) (_:H n=some (.lst (new.map V.int))) (_:new.length<=25000) (_ :
 ∀ (es:List Int) (o:Addr) (H':Hp),rows[s.toNat]?=some es->H' o=some (.lst ((fO sh p es new).map V.int))->(fO sh p es new).length<=100000->aI H H'->H o=none->Q (.ref o) H')
theorem iu:aF ["_law_rows","_law_sheet","_law_place","_law_new","_law_ahead","_law_behind","_law_first","_law_entry","_law_pieces_here","_law_last"] ["_law_rows","_law_sheet","_law_place","_law_new"] (az vK):=eS
theorem HW(D:Ds K mg aY bf C CS CW CB CT CD){d:Nat}:bw P w K mg zt cL (d+3) (aY 86) (bf 86) ["_law_rows","_law_sheet","_law_place","_law_new"] (HV d):=by
 have pO:bw P w K mg zt cL (d+2) _ _ zl7 (wL d):=sL D;refine eU D.NP.F iu λcV A zn s0 H vs Q E hr h=>?_;obtain⟨av,r,n,rows,s,p,new,sh,rk,rfl,R,dI,hes,oq,wY,DW,vY,h0,h1,hd,hn,nl,k⟩:=h;obtain⟨es,ff⟩:∃ es,rows[s.toNat]?=some es:=⟨_,uz ∅⟩;have esl:=hes es (om ff);have shs:=wY s es h0 ff;have shl:=DW s h0 h1;rw[shs]at shl;obtain⟨xR,b,xr,CV,hb0,hrl⟩:=R.get ff
 have uX:pX xR s=some (.ref b):=by
  have z:=dD CV;rw[show ((s.toNat:Nat):Int)=s by lia]at z;exact z
 exists _,(aj (bN (aT dQ (fm D.T.eV (pv 3)) ay (bx _)) (au (aG (eT fZ rfl D.T.jf sN (aa (aO bu (pv 0) (pv 1)) ah)))) aZ) (aj (aX (i:=4) iu.nd (bM ah)) (aj (aX (i:=5) iu.nd (bM ah)) (aj (aX (i:=6) iu.nd ay) (aj (d9 PassesOwn.never rfl (cJ (aO bu (pv 0) (pv 1))) (b9 (i:=7) iu.nd) (aj (aX (i:=8) iu.nd (aC D.Vo pO hr (aa (pv 0) (aa (pv 7) ah)))) (aj (aX (i:=9) iu.nd (bG dh (pv 6) (fm D.T.eV (pv 8)))) (aj (bN (aT gp (pv 9) (pv 2) (bx _)) (au (bg (dM pW jN jO bS (pv 4) (aa (pv 7) ah)))) (au (bN (aT gp (pv 2) (pv 6) (bx _)) (au (bg (dM pW jN jO bS (pv 5) (aa (pv 7) ah)))) (aj (bg (dM pW PySem.F.slot_list_extend PySem.F.type_list_extend jQ (pv 4) (aa (iS ly (pv 8) mX (iY (bG cN (pv 2) (pv 6)))) ah))) (au (bg (dM pW PySem.F.slot_list_extend PySem.F.type_list_extend jQ (pv 5) (aa (iS ly (pv 8) (iY (bG cN (pv 2) (pv 6))) mX) ah)))))))) (au (aX (i:=6) iu.nd (pv 9))))))) (au (aG (bG jo (bG jo (pv 4) (pv 3)) (pv 5)))))))));refine⟨Y,n,Y,.inl (bI.of hn),rfl,Y,cX (λc=>?_) (λc=>?_)⟩
 ·have c':new=[]:=by
   have z:V.int ((new.map V.int).length:Int)=V.int 0:=of_decide_eq_true c;have z2:=V.int.inj z;rw[cG]at z2;exact List.eq_nil_of_length_eq_zero ∅
  refine⟨Y,Y,r,K,V,bI.of xr,uX,b,Y,.inl (bI.of hb0),λo ho=>k es o _ ff ?_ ?_ (ak ho _) ho⟩
  ·rw[af];unfold fO;rw[if_pos c']
  ·unfold fO;rw[if_pos c'];lia
 have c':¬ new=[]:=λz=>c (by rw[z];rfl);refine⟨iP,λA hA=>⟨iP,λB hB=>?_⟩⟩;have sA:aI H (aP H A (.lst [])):=ak hA _;have sB:aI _ (aP (aP H A (.lst [])) B (.lst [])):=ak hB _;have s1:=sA.trans sB;have Al:A≠B:=aA af hB;have Mf:=bh sA hB;refine⟨Y,Y,r,K,V,bI.of (s1 _ _ xr),uX,b,rfl,⟨_,bI.of (s1 _ _ hb0)⟩,dN (K:=K) (a:=b) (xs:=es.map V.int) (λi σ H2=>∃ u1 u2 u3:Option V,σ=[some (.ref r),some (.int s),some (.int p),some (.ref n),some (.ref A),some (.ref B),some (.int (0+((aR sh (es.take i)).length:Int))),u1,u2,u3]/\H2 A=some (.lst ((aE sh p 0 (es.take i)).map V.int))/\H2 B=some (.lst ((bE sh p 0 (es.take i)).map V.int))/\aI H H2) ⟨none,none,none,rfl,sB _ _ af,af,s1⟩ (by rintro i σ H2 _ ⟨_,_,_,_,_,_,s2⟩;exact bI.of (s2 _ _ hb0)) ?_ ?_⟩
 ·rintro i x σ H2 hi ⟨u1,u2,u3,rfl,ON,hB2,s2⟩;rw[gE]at hi;obtain⟨e,ex,rfl⟩:=Option.map_eq_some_iff.mp hi;have st:=take_snoc ex
  have eA:aE sh p 0 (es.take (i+1))=aE sh p 0 (es.take i)++(if 0+((aR sh (es.take i)).length:Int)+(aW sh e).length<=p then [e] else if p<=0+((aR sh (es.take i)).length:Int) then [] else (aW sh e).take (p-(0+((aR sh (es.take i)).length:Int))).toNat):=by
   rw[st,v7,aE,aE,gT]
  have eB:bE sh p 0 (es.take (i+1))=bE sh p 0 (es.take i)++(if 0+((aR sh (es.take i)).length:Int)+(aW sh e).length<=p then [] else if p<=0+((aR sh (es.take i)).length:Int) then [e] else (aW sh e).drop (p-(0+((aR sh (es.take i)).length:Int))).toNat):=by
   rw[st,v8,bE,bE,gT]
  have eF:(0+((aR sh (es.take (i+1))).length:Int))=0+((aR sh (es.take i)).length:Int)+(aW sh e).length:=by
   rw[st,jA,bZ,dB,dB];simp[aR]
  have lA:=Dr sh p (es.take (i+1)) 0;have lB:=Dt sh p (es.take (i+1)) 0;have lA0:=Dr sh p (es.take i) 0;have lB0:=Dt sh p (es.take i) 0;have l1:=pN sh es (i+1);have l0:=pN sh es i;have t1:(es.take (i+1)).length<=es.length:=by rw[gF];lia
  have t0:(es.take i).length<=es.length:=by rw[gF];lia
  refine⟨Y,Y,av,r,rows,e,sh,rk,rfl,R.same s2,dI,oq,wY,DW,vY,λadK=>?_,λo H3 h3 s3 ho=>?_⟩
  ·have nx:jM rows s (-1-e):=⟨h0,es,ff,cB.mpr ⟨Q,by rw[show -1-(-1-e)=e by lia];exact om ex⟩⟩;have:=vY _ _ nx;exact⟨(oq.DU nx).2,Q⟩
  have Gx:=s3 _ _ ON;have RQ:=s3 _ _ hB2;exists Y,Y,o,Y,.inl (bI.of h3),Z;rw[cG];refine⟨Y,Y,Z,Y,cX (λc1=>?_) (λc1=>?_)⟩
  ·have TH:0+((aR sh (es.take i)).length:Int)+((aW sh e).length:Int)<=p:=of_decide_eq_true c1;rw[if_pos TH]at eA eB;refine⟨Y,.inl ⟨rfl,_,bI.of Gx⟩,Y,A,Z,Gx,aS (by rw[cG];lia),?_⟩;refine⟨Y,some (.int e),some (.ref o),some (.int (0+((aR sh (es.take i)).length:Int)+((aW sh e).length:Int))),?_,?_,?_,bP hA (s2.trans s3) (aJ A _ _)⟩
   ·rw[eF];rfl
   ·rw[af,eA,gJ];rfl
   ·rw[aL Al.symm,eB,gT];exact RQ
  ·have TH:¬ 0+((aR sh (es.take i)).length:Int)+((aW sh e).length:Int)<=p:=λz=>c1 (decide_eq_true z);rw[if_neg TH]at eA eB;refine⟨Y,Y,Z,Y,cX (λc2=>?_) (λc2=>?_)⟩
   ·have Lk:p<=0+((aR sh (es.take i)).length:Int):=of_decide_eq_true c2;rw[if_pos Lk]at eA eB;refine⟨Y,.inl ⟨rfl,_,bI.of RQ⟩,Y,B,Z,RQ,aS (by rw[cG];lia),?_⟩;refine⟨Y,some (.int e),some (.ref o),some (.int (0+((aR sh (es.take i)).length:Int)+((aW sh e).length:Int))),?_,?_,?_,bP Mf (s2.trans s3) (aJ B _ _)⟩
    ·rw[eF];rfl
    ·rw[aL Al,eA,gT];exact Gx
    ·rw[af,eB,gJ];rfl
   ·have Lk:¬ p<=0+((aR sh (es.take i)).length:Int):=λz=>c2 (decide_eq_true z);rw[if_neg Lk]at eA eB;rw[eA,dB]at lA;rw[eB,dB]at lB;refine⟨Y,.inl ⟨rfl,_,bI.of Gx⟩,Y,Y,Y,Z,Y,o,Y,bI.of h3,λq1 Rg=>?_⟩;have n1:aI H3 (aP H3 q1 (.lst (j3 ((aW sh e).map V.int) none (some (p-(0+((aR sh (es.take i)).length:Int))))))):=ak Rg _;have e1:j3 ((aW sh e).map V.int) none (some (p-(0+((aR sh (es.take i)).length:Int))))=((aW sh e).take (p-(0+((aR sh (es.take i)).length:Int))).toNat).map V.int:=by rw[ue _ ∅,List.map_take]
    refine⟨A,q1,Z,n1 _ _ Gx,af,iz (aS (by rw[e1,cG,cG];lia)),?_⟩;have k4:cH A H3 (aP (aP H3 q1 (.lst (j3 ((aW sh e).map V.int) none (some (p-(0+((aR sh (es.take i)).length:Int))))))) A (.lst ((aE sh p 0 (es.take i)).map V.int++j3 ((aW sh e).map V.int) none (some (p-(0+((aR sh (es.take i)).length:Int))))))):=cH.trans (aI.keep n1) (aJ A _ _);have no:o≠A:=(aA ON ho).symm;have nqA:q1≠A:=(aA Gx Rg).symm;have hB4:=k4 _ _ RQ Al.symm;refine⟨Y,.inl ⟨rfl,_,bI.of hB4⟩,Y,Y,Y,Z,Y,o,Y,bI.of (k4 _ _ h3 no),λq2 d8=>?_⟩;have e2:j3 ((aW sh e).map V.int) (some (p-(0+((aR sh (es.take i)).length:Int)))) none=((aW sh e).drop (p-(0+((aR sh (es.take i)).length:Int))).toNat).map V.int:=by rw[we _ ∅,List.map_drop]
    refine⟨B,q2,Z,ak d8 _ _ _ hB4,af,iz (aS (by rw[e2,cG,cG];lia)),?_⟩;exists Y,some (.int e),some (.ref o),some (.int (0+((aR sh (es.take i)).length:Int)+((aW sh e).length:Int))),?_,?_,?_
    ·rw[eF];rfl
    ·rw[aL Al,ak d8 _ _ _ af,eA,gJ,e1]
    ·rw[af,eB,gJ,e2]
    ·exact bP Mf ((bP hA (s2.trans s3) k4).trans (ak d8 _)) (aJ B _ _)
 ·rintro σ H2 ⟨u1,u2,u3,rfl,ON,hB2,s2⟩;rw[cG,gR]at ON hB2;have lA:=Dr sh p es 0;have lB:=Dt sh p es 0;refine⟨Y,Y,A,n,Z,ON,s2 _ _ hn,iz (aS (by rw[cG,cG];lia)),λc1 WC=>?_⟩;have n1:aI H2 (aP H2 c1 (.lst ((aE sh p 0 es).map V.int++new.map V.int))):=ak WC _;refine⟨Y,c1,B,Z,af,n1 _ _ hB2,iz (aS (by rw[dB,cG,cG,cG];lia)),λc2 VD=>?_⟩;refine k es c2 _ ff ?_ ?_ (s2.trans (n1.trans (ak VD _))) (bh (s2.trans n1) VD)
  ·rw[af];unfold fO;rw[if_neg c',gJ,gJ]
  ·unfold fO;rw[if_neg c',dB,dB];lia
def PD(sh:Int->List Int)(a b f e:Int):List Int:=if a=b then [e] else JL sh a b f e
def PF(sh:Int->List Int)(a b f e:Int):List Int:=if a=b then [] else Mh sh a b f e
theorem FL(sh:Int->List Int)(a b:Int)(es:List Int)(e:Int):bR sh a b (es++[e])=bR sh a b es++PD sh a b (0+((aR sh es).length:Int)) e:=by
 unfold bR PD;split
 ·rfl
 ·rw[v9,kE,kE,gT]
theorem FN(sh:Int->List Int)(a b:Int)(es:List Int)(e:Int):ic sh a b (es++[e])=ic sh a b es++PF sh a b (0+((aR sh es).length:Int)) e:=by
 unfold ic PF;split
 ·rfl
 ·rw[wc,tE,tE,gT]
theorem RS(sh:Int->List Int)(a b f e:Int):(PD sh a b f e).length<=1+2*(aW sh e).length:=by
 unfold PD JL;split
 ·simp
 ·split
  ·simp
  ·split
   ·simp
   ·rw[dB,gF,rK];lia
theorem RT(sh:Int->List Int)(a b f e:Int):(PF sh a b f e).length<=1+2*(aW sh e).length:=by
 unfold PF Mh;split
 ·simp
 ·split
  ·simp
  ·split
   ·simp
   ·rw[rK,gF];lia
theorem OO(sh:Int->List Int)(a b:Int):∀ (es:List Int) (f:Int),(kE sh a b f es).length<=es.length+2*(aR sh es).length
 | [],_=>by simp[kE]
 | e::r,f=>by
  rw[kE,bZ,dB,dB,mS];have x:=OO sh a b r (f+(aW sh e).length)
  have y:(JL sh a b f e).length<=1+2*(aW sh e).length:=by
   unfold JL;split
   ·simp
   ·split
    ·simp
    ·rw[dB,gF,rK];lia
  lia
theorem OP(sh:Int->List Int)(a b:Int):∀ (es:List Int) (f:Int),(tE sh a b f es).length<=es.length+2*(aR sh es).length
 | [],_=>by simp[tE]
 | e::r,f=>by
  rw[tE,bZ,dB,dB,mS];have x:=OP sh a b r (f+(aW sh e).length)
  have y:(Mh sh a b f e).length<=1+2*(aW sh e).length:=by
   unfold Mh;split
   ·simp
   ·split
    ·simp
    ·rw[rK,gF];lia
  lia
theorem uo(sh:Int->List Int)(a b:Int)(es:List Int):(bR sh a b es).length<=es.length+2*(aR sh es).length:=by
 unfold bR;split
 ·lia
 ·exact OO sh a b es 0
theorem zT(sh:Int->List Int)(a b:Int)(es:List Int):(ic sh a b es).length<=es.length+2*(aR sh es).length:=by
 unfold ic;split
 ·simp
 ·exact OP sh a b es 0
class inductive OQ(d:Nat)
 | mk (av:Addr->Prop) (r:Addr) (rows:cR) (s a b:Int) (sh:Int->List Int) (rk:Int->Nat) (_:vs=[.ref r,.int s,.int a,.int b]) (_:gY av H r rows) (_:rows.length<=1000) (_:(∀ es∈rows,es.length<=1000)) (_:gr rows) (_:mF rows sh) (_:(∀ x:Int,0<=x->x<rows.length->(sh x).length<=10000)) (_:(∀ x y,jM rows x y->rk y<rk x)) (_:0<=s) (_:s<rows.length) (_:rk s<=d) (_:a<=b) (_ :
 ∀ (es:List Int) (t L M:Addr) (H':Hp),rows[s.toNat]?=some es->H' t=some (.tup [.ref L,.ref M])->H' L=some (.lst ((bR sh a b es).map V.int))->H' M=some (.lst ((ic sh a b es).map V.int))->aI H H'->H L=none->H M=none->L≠M->Q (.ref t) H')
theorem gk:aF ["_law_rows","_law_sheet","_law_start","_law_stop","_law_kept","_law_taken","_law_first","_law_entry","_law_pieces_here","_law_last","_law_low","_law_high"] ["_law_rows","_law_sheet","_law_start","_law_stop"] (az vL):=eS
theorem HX(D:Ds K mg aY bf C CS CW CB CT CD){d:Nat}:bw P w K mg zt cL (d+3) (aY 87) (bf 87) ["_law_rows","_law_sheet","_law_start","_law_stop"] (OQ d):=by
 have pO:bw P w K mg zt cL (d+2) _ _ zl7 (wL d):=sL D;refine eU D.Vp.F gk λcV A zn s0 H vs Q E hr h=>?_;obtain⟨av,r,rows,s,p,q,sh,rk,rfl,R,dI,hes,oq,wY,DW,vY,h0,h1,hd,hpq,k⟩:=h;obtain⟨es,ff⟩:∃ es,rows[s.toNat]?=some es:=⟨_,uz ∅⟩;have esl:=hes es (om ff);have shs:=wY s es h0 ff;have shl:=DW s h0 h1;rw[shs]at shl;obtain⟨xR,b,xr,CV,hb0,hrl⟩:=R.get ff
 have uX:pX xR s=some (.ref b):=by
  have z:=dD CV;rw[show ((s.toNat:Nat):Int)=s by lia]at z;exact z
 exists _,(aj (aX (i:=4) gk.nd (bM ah)) (aj (aX (i:=5) gk.nd (bM ah)) (aj (aX (i:=6) gk.nd ay) (aj (d9 PassesOwn.never rfl (cJ (aO bu (pv 0) (pv 1))) (b9 (i:=7) gk.nd) (aj (aX (i:=8) gk.nd (aC D.Vo pO hr (aa (pv 0) (aa (pv 7) ah)))) (aj (aX (i:=9) gk.nd (bG dh (pv 6) (fm D.T.eV (pv 8)))) (aj (aX (i:=10) gk.nd (cD (qY rfl) rfl D.T.ES PyProof.Rows.boot_max (aa ay (aa (bG cN (pv 2) (pv 6)) ah)))) (aj (aX (i:=11) gk.nd (bG cN (cD (qZ rfl) rfl D.T.JC PyProof.Rows.boot_min (aa (pv 9) (aa (pv 3) ah))) (pv 6))) (aj (bN (PW.pt (Ea (aT dQ (pv 2) (pv 3) (bx _)) (Ea (aT gp (pv 9) (pv 2) (bx _)) (Ci (aT gp (pv 3) (pv 6) (bx _)))))) (au (bg (dM pW jN jO bS (pv 4) (aa (pv 7) ah)))) (au (bN (PW.pt (qm (aT gp (pv 2) (pv 6) (bx _)) (oA (aT gp (pv 9) (pv 3) (bx _))))) (au (bg (dM pW jN jO bS (pv 5) (aa (pv 7) ah)))) (aj (bg (dM pW PySem.F.slot_list_extend PySem.F.type_list_extend jQ (pv 4) (aa (bG jo (iS ly (pv 8) mX (iY (pv 10))) (iS ly (pv 8) (iY (pv 11)) mX)) ah))) (au (bg (dM pW PySem.F.slot_list_extend PySem.F.type_list_extend jQ (pv 5) (aa (iS ly (pv 8) (iY (pv 10)) (iY (pv 11))) ah)))))))) (au (aX (i:=6) gk.nd (pv 9))))))))) (au (aG (cW (aa (pv 4) (aa (pv 5) ah)))))))));refine⟨iP,λA hA=>⟨iP,λB hB=>?_⟩⟩;have sA:aI H (aP H A (.lst [])):=ak hA _;have sB:aI _ (aP (aP H A (.lst [])) B (.lst [])):=ak hB _;have s1:=sA.trans sB;have Al:A≠B:=aA af hB;have Mf:=bh sA hB
 have z0:bR sh p q []=[]/\ic sh p q []=[]:=by
  unfold bR ic
  constructor <;> split <;> rfl
 refine⟨Y,Y,r,K,V,bI.of (s1 _ _ xr),uX,b,rfl,⟨_,bI.of (s1 _ _ hb0)⟩,dN (K:=K) (a:=b) (xs:=es.map V.int) (λi σ H2=>∃ u1 u2 u3 u4 u5:Option V,σ=[some (.ref r),some (.int s),some (.int p),some (.int q),some (.ref A),some (.ref B),some (.int (0+((aR sh (es.take i)).length:Int))),u1,u2,u3,u4,u5]/\H2 A=some (.lst ((bR sh p q (es.take i)).map V.int))/\H2 B=some (.lst ((ic sh p q (es.take i)).map V.int))/\aI H H2) ⟨none,none,none,none,none,rfl,(by rw[List.take_zero,z0.1];exact sB _ _ af),(by rw[List.take_zero,z0.2];exact af),s1⟩ (by rintro i σ H2 _ ⟨_,_,_,_,_,_,_,_,s2⟩;exact bI.of (s2 _ _ hb0)) ?_ ?_⟩
 ·rintro i x σ H2 hi ⟨u1,u2,u3,u4,u5,rfl,ON,hB2,s2⟩;rw[gE]at hi;obtain⟨e,ex,rfl⟩:=Option.map_eq_some_iff.mp hi;have st:=take_snoc ex;have eA:=FL sh p q (es.take i) e;have eB:=FN sh p q (es.take i) e;rw[← st]at eA eB
  have eF:(0+((aR sh (es.take (i+1))).length:Int))=0+((aR sh (es.take i)).length:Int)+(aW sh e).length:=by
   rw[st,jA,bZ,dB,dB];simp[aR]
  have lA0:=uo sh p q (es.take i);have lB0:=zT sh p q (es.take i);have l1:=pN sh es (i+1);have l0:=pN sh es i
  have le:(aW sh e).length<=(aR sh (es.take (i+1))).length:=by
   rw[st,jA,bZ,dB,dB];lia
  have lkk:=RS sh p q (0+((aR sh (es.take i)).length:Int)) e;have ltt:=RT sh p q (0+((aR sh (es.take i)).length:Int)) e;have t0:(es.take i).length<=es.length:=by rw[gF];lia
  generalize hf:0+((aR sh (es.take i)).length:Int)=fi at *;refine⟨Y,Y,av,r,rows,e,sh,rk,rfl,R.same s2,dI,oq,wY,DW,vY,λadK=>?_,λo H3 h3 s3 ho=>?_⟩
  ·have nx:jM rows s (-1-e):=⟨h0,es,ff,cB.mpr ⟨Q,by rw[show -1-(-1-e)=e by lia];exact om ex⟩⟩;have:=vY _ _ nx;exact⟨(oq.DU nx).2,Q⟩
  have Gx:=s3 _ _ ON;have RQ:=s3 _ _ hB2;exists Y,Y,o,Y,.inl (bI.of h3),Z;rw[cG];exists Y,Y,Z,P,rfl;exists Y,Y,P,rfl,Y,Z
  have lo0:(if p-fi > 0 then p-fi else 0).toNat=(p-fi).toNat/\0<=(if p-fi > 0 then p-fi else 0):=by
   split <;> lia
  have zx:(p=q\/(fi+((aW sh e).length:Int))<=p\/q<=fi)->(aP H3 A (.lst ((bR sh p q (es.take i)).map V.int++[.int e]))) A=some (.lst ((bR sh p q (es.take (i+1))).map V.int))/\(aP H3 A (.lst ((bR sh p q (es.take i)).map V.int++[.int e]))) B=some (.lst ((ic sh p q (es.take (i+1))).map V.int)):=λc=>by
   have e1:PD sh p q fi e=[e]:=by
    unfold PD JL;rcases c with c|c
    ·rw[if_pos c]
    ·rw[if_pos c];split <;> rfl
   have e2:PF sh p q fi e=[]:=by
    unfold PF Mh;rcases c with c|c
    ·rw[if_pos c]
    ·rw[if_pos c];split <;> rfl
   rw[af,aL Al.symm,eA,eB,e1,e2,gT,gJ];exact⟨rfl,RQ⟩
  have stf:∀ y:Option V,[some (V.ref r),some (.int s),some (.int p),some (.int q),some (.ref A),some (.ref B),some (.int (fi+((aW sh e).length:Int))),some (.int e),some (.ref o),some (.int (fi+((aW sh e).length:Int))),some (.int (if p-fi > 0 then p-fi else 0)),y]=[some (.ref r),some (.int s),some (.int p),some (.int q),some (.ref A),some (.ref B),some (.int (0+((aR sh (es.take (i+1))).length:Int))),some (.int e),some (.ref o),some (.int (fi+((aW sh e).length:Int))),some (.int (if p-fi > 0 then p-fi else 0)),y]:=λy=>by rw[eF]
  have keepR:∀ c:(p=q\/(fi+((aW sh e).length:Int))<=p\/q<=fi),∃ u1 u2 u3 u4 u5:Option V,[some (V.ref r),some (.int s),some (.int p),some (.int q),some (.ref A),some (.ref B),some (.int (fi+((aW sh e).length:Int))),some (.int e),some (.ref o),some (.int (fi+((aW sh e).length:Int))),some (.int (if p-fi > 0 then p-fi else 0)),some (.int ((if q<(fi+((aW sh e).length:Int)) then q else (fi+((aW sh e).length:Int)))-fi))]=[some (.ref r),some (.int s),some (.int p),some (.int q),some (.ref A),some (.ref B),some (.int (0+((aR sh (es.take (i+1))).length:Int))),u1,u2,u3,u4,u5]/\(aP H3 A (.lst ((bR sh p q (es.take i)).map V.int++[.int e]))) A=some (.lst ((bR sh p q (es.take (i+1))).map V.int))/\(aP H3 A (.lst ((bR sh p q (es.take i)).map V.int++[.int e]))) B=some (.lst ((ic sh p q (es.take (i+1))).map V.int))/\aI H (aP H3 A (.lst ((bR sh p q (es.take i)).map V.int++[.int e]))):=λc =>
   ⟨K,P,stf _,(zx c).1,(zx c).2,bP hA (s2.trans s3) (aJ A _ _)⟩
  have mA:((bR sh p q (es.take i)).map V.int).length<sizeLine:=aS (by rw[cG];lia);refine⟨Y,Y,rfl,Y,cX (λc1=>jr ?_) (λc1=>?_)⟩
  ·exact⟨Y,.inl ⟨rfl,_,bI.of Gx⟩,Y,A,Z,Gx,mA,Y,keepR (.inl (V.int.inj (of_decide_eq_true c1)))⟩
  have TH:¬ p=q:=λz=>c1 (by rw[z];exact decide_eq_true rfl);refine⟨Y,Y,Z,Y,cX (λc2=>jr ?_) (λc2=>?_)⟩
  ·exact⟨Y,.inl ⟨rfl,_,bI.of Gx⟩,Y,A,Z,Gx,mA,Y,keepR (.inr (.inl (of_decide_eq_true c2)))⟩
  have Lk:¬ (fi+((aW sh e).length:Int))<=p:=λz=>c2 (decide_eq_true z);refine⟨Y,Y,Z,Y,cX (λc3=>?_) (λc3=>?_)⟩
  ·exact⟨Y,.inl ⟨rfl,_,bI.of Gx⟩,Y,A,Z,Gx,mA,Y,keepR (.inr (.inr (of_decide_eq_true c3)))⟩
  have c3':¬ q<=fi:=λz=>c3 (decide_eq_true z);have n1:¬ ((fi+((aW sh e).length:Int))<=p\/q<=fi):=λz=>z.elim Lk c3'
  have hh:((if q<(fi+((aW sh e).length:Int)) then q else (fi+((aW sh e).length:Int)))-fi).toNat=min (aW sh e).length (q-fi).toNat/\0<=(if q<(fi+((aW sh e).length:Int)) then q else (fi+((aW sh e).length:Int)))-fi:=by
   split <;> lia
  have pq:p<q:=by lia
  have uB:¬ (p<=fi/\(fi+((aW sh e).length:Int))<=q)->PD sh p q fi e=(aW sh e).take (if p-fi > 0 then p-fi else 0).toNat++(aW sh e).drop ((if q<(fi+((aW sh e).length:Int)) then q else (fi+((aW sh e).length:Int)))-fi).toNat/\PF sh p q fi e=((aW sh e).take ((if q<(fi+((aW sh e).length:Int)) then q else (fi+((aW sh e).length:Int)))-fi).toNat).drop (if p-fi > 0 then p-fi else 0).toNat:=λc4=>by
   unfold PD PF JL Mh;rw[if_neg TH,if_neg TH,if_neg n1,if_neg n1,if_neg c4,if_neg c4,lo0.1,hh.1];rcases Nat.le_total (q-fi).toNat (aW sh e).length with z|z
   ·rw[Nat.min_eq_right z];exact⟨V⟩
   ·rw[Nat.min_eq_left z,yv z,yv (gh _),uA z,uA (gh _)];exact⟨V⟩
  refine⟨Y,Y,Z,Y,NF (λz=>⟨Y,Y,Z,Y,z⟩) (λc6=>?_) (λc6=>?_)⟩
  ·have e1:PD sh p q fi e=[]:=by unfold PD JL;rw[if_neg TH,if_neg n1,if_pos c6]
   have e2:PF sh p q fi e=[e]:=by unfold PF Mh;rw[if_neg TH,if_neg n1,if_pos c6]
   refine⟨Y,.inl ⟨rfl,_,bI.of RQ⟩,Y,B,Z,RQ,aS (by rw[cG];lia),Y,K,P,stf _,?_,?_,bP Mf (s2.trans s3) (aJ B _ _)⟩
   ·rw[aL Al,eA,e1,gT];exact Gx
   ·rw[af,eB,e2,gJ];rfl
  ·obtain⟨r1,r2⟩:=uB c6;rw[r1,dB]at lkk;rw[r2]at ltt;refine⟨Y,.inl ⟨rfl,_,bI.of Gx⟩,Y,Y,Y,o,Y,bI.of h3,λq1 Rg=>?_⟩;rw[ue _ lo0.2,← List.map_take];have n4:aI H3 (aP H3 q1 (.lst (((aW sh e).take (if p-fi > 0 then p-fi else 0).toNat).map V.int))):=ak Rg _;refine⟨Y,Y,Y,o,Y,bI.of (n4 _ _ h3),λq2 d8=>?_⟩;rw[we _ hh.2,← List.map_drop];have n5:aI _ (aP (aP H3 q1 (.lst (((aW sh e).take (if p-fi > 0 then p-fi else 0).toNat).map V.int))) q2 (.lst (((aW sh e).drop ((if q<(fi+((aW sh e).length:Int)) then q else (fi+((aW sh e).length:Int)))-fi).toNat).map V.int))):=ak d8 _;refine⟨q1,q2,Z,n5 _ _ af,af,(by rw[cG,cG];exact iz (aS ∅)),λq3 DV=>?_⟩;have n6:aI _ (aP (aP (aP H3 q1 (.lst (((aW sh e).take (if p-fi > 0 then p-fi else 0).toNat).map V.int))) q2 (.lst (((aW sh e).drop ((if q<(fi+((aW sh e).length:Int)) then q else (fi+((aW sh e).length:Int)))-fi).toNat).map V.int))) q3 (.lst (((aW sh e).take (if p-fi > 0 then p-fi else 0).toNat).map V.int++((aW sh e).drop ((if q<(fi+((aW sh e).length:Int)) then q else (fi+((aW sh e).length:Int)))-fi).toNat).map V.int))):=ak DV _;have Z9:=n4.trans (n5.trans n6);have h63:(aP (aP (aP H3 q1 (.lst (((aW sh e).take (if p-fi > 0 then p-fi else 0).toNat).map V.int))) q2 (.lst (((aW sh e).drop ((if q<(fi+((aW sh e).length:Int)) then q else (fi+((aW sh e).length:Int)))-fi).toNat).map V.int))) q3 (.lst (((aW sh e).take (if p-fi > 0 then p-fi else 0).toNat).map V.int++((aW sh e).drop ((if q<(fi+((aW sh e).length:Int)) then q else (fi+((aW sh e).length:Int)))-fi).toNat).map V.int))) q3=some (.lst (((aW sh e).take (if p-fi > 0 then p-fi else 0).toNat).map V.int++((aW sh e).drop ((if q<(fi+((aW sh e).length:Int)) then q else (fi+((aW sh e).length:Int)))-fi).toNat).map V.int)):=af;generalize aP (aP (aP H3 q1 (.lst (((aW sh e).take (if p-fi > 0 then p-fi else 0).toNat).map V.int))) q2 (.lst (((aW sh e).drop ((if q<(fi+((aW sh e).length:Int)) then q else (fi+((aW sh e).length:Int)))-fi).toNat).map V.int))) q3 (.lst (((aW sh e).take (if p-fi > 0 then p-fi else 0).toNat).map V.int++((aW sh e).drop ((if q<(fi+((aW sh e).length:Int)) then q else (fi+((aW sh e).length:Int)))-fi).toNat).map V.int))=H6 at Z9 h63;refine⟨A,q3,Z,Z9 _ _ Gx,h63,(by rw[dB,cG,cG,cG];exact iz (aS ∅)),?_⟩;have k7:cH A H6 (aP H6 A (.lst ((bR sh p q (es.take i)).map V.int++(((aW sh e).take (if p-fi > 0 then p-fi else 0).toNat).map V.int++((aW sh e).drop ((if q<(fi+((aW sh e).length:Int)) then q else (fi+((aW sh e).length:Int)))-fi).toNat).map V.int)))):=aJ A _ _;have hA7:(aP H6 A (.lst ((bR sh p q (es.take i)).map V.int++(((aW sh e).take (if p-fi > 0 then p-fi else 0).toNat).map V.int++((aW sh e).drop ((if q<(fi+((aW sh e).length:Int)) then q else (fi+((aW sh e).length:Int)))-fi).toNat).map V.int)))) A=some (.lst ((bR sh p q (es.take (i+1))).map V.int)):=by rw[af,eA,r1,gJ,gJ]
   have no:o≠A:=(aA ON ho).symm;have h37:=k7 _ _ (Z9 _ _ h3) no;have hB7:=k7 _ _ (Z9 _ _ RQ) Al.symm;have sm7:=bP hA (s2.trans (s3.trans Z9)) k7;generalize aP H6 A (.lst ((bR sh p q (es.take i)).map V.int++(((aW sh e).take (if p-fi > 0 then p-fi else 0).toNat).map V.int++((aW sh e).drop ((if q<(fi+((aW sh e).length:Int)) then q else (fi+((aW sh e).length:Int)))-fi).toNat).map V.int)))=H7 at k7 hA7 h37 hB7 sm7;refine⟨Y,.inl ⟨rfl,_,bI.of hB7⟩,Y,Y,Y,Y,Y,o,Y,bI.of h37,λq4 Rf=>?_⟩;rw[Fv _ lo0.2 hh.2,← List.map_take,← List.map_drop];refine⟨B,q4,Z,ak Rf _ _ _ hB7,af,(by rw[cG,cG];exact iz (aS ∅)),?_⟩;refine⟨Y,K,P,stf _,?_,?_,bP Mf (sm7.trans (ak Rf _)) (aJ B _ _)⟩
   ·rw[aL Al];exact ak Rf _ _ _ hA7
   ·rw[af,eB,r2,gJ]
 ·rintro σ H2 ⟨u1,u2,u3,u4,u5,rfl,ON,hB2,s2⟩;rw[cG,gR]at ON hB2;refine⟨Y,Y,nK,λt ht=>k es t A B _ ff af (ak ht _ _ _ ON) (ak ht _ _ _ hB2) (s2.trans (ak ht _)) hA Mf Al⟩
class inductive rG(d:Nat)
 | mk (av:Addr->Prop) (r:Addr) (rows:cR) (x:Int) (f:Int->Int) (rk:Int->Nat) (_:vs=[.ref r,.int x]) (_:gY av H r rows) (_:rows.length<=1000) (_:gr rows) (_:0<=x) (_:x<rows.length) (_:Weighs rows f) (_:(∀ x y,jM rows x y->rk y<rk x)) (_:rk x<d) (_:Q (.int (f x)) H)
theorem iy:aF ["_law_rows","_law_sheet","_law_total","_law_entry"] ["_law_rows","_law_sheet"] (az nG):=eS
theorem wM(D:Ds K mg aY bf C CS CW CB CT CD){n:Nat}(AV:bw P w K mg zt cL (n+1) (aY 88) (bf 88) ["_law_rows","_law_sheet"] (rG n)):bw P w K mg zt cL (n+2) (aY 88) (bf 88) ["_law_rows","_law_sheet"] (rG (n+1)):=by
 specialize eU D.QU.F iy;obtain⟨av,r,rows,x,f,rk,rfl,R,dI,oq,x0,x1,hf,vY,hd,k⟩:=h;obtain⟨es,ff⟩:∃ es,rows[x.toNat]?=some es:=⟨_,uz ∅⟩;obtain⟨xR,b,xr,CV,hb0,hrl⟩:=R.get ff
 have uX:pX xR x=some (.ref b):=by
  have z:=dD CV;rw[show ((x.toNat:Nat):Int)=x by lia]at z;exact z
 exists _,(aj (aX (i:=2) iy.nd ay) (aj (d9 PassesOwn.never rfl (cJ (aO bu (pv 0) (pv 1))) (b9 (i:=3) iy.nd) (aj (aX (i:=2) iy.nd (bG dh (pv 2) ay)) (au (bN (aT kU (pv 3) ay (bx _)) (au (aX (i:=2) iy.nd (bG dh (pv 2) (aC D.QU AV hr (aa (pv 0) (aa (bG cN (gB eL ay) (pv 3)) ah)))))) aZ)))) (au (aG (pv 2)))));refine⟨Y,Y,r,K,V,bI.of xr,uX,b,rfl,⟨_,bI.of hb0⟩,dN (K:=K) (a:=b) (xs:=es.map V.int) (λi σ H2=>∃ u:Option V,σ=[some (.ref r),some (.int x),some (.int (j7 f (es.take i))),u]/\H2=H) ⟨none,V⟩ (λi σ H2 _ ⟨P,e⟩=>by rw[e];exact bI.of hb0) ?_ ?_⟩
 ·rintro i e σ H2 hi ⟨u,rfl,rfl⟩;rw[gE]at hi;obtain⟨e,ex,rfl⟩:=Option.map_eq_some_iff.mp hi
  have st:j7 f (es.take (i+1))=j7 f (es.take i)+(if e<0 then 1+f (-1-e) else 1):=by
   rw[take_snoc ex];unfold j7;rw[gJ,List.sum_append];simp
  exists Y,Z;refine⟨Y,Z,Y,cX (λc=>?_) (λc=>?_)⟩
  ·have c':e<0:=of_decide_eq_true c;have Gw:jM rows x (-1-e):=⟨x0,es,ff,cB.mpr ⟨Q,by rw[show -1-(-1-e)=e by lia];exact om ex⟩⟩;obtain⟨y0,y1⟩:=oq.DU Gw;have rky:=vY _ _ Gw;exists Y,Y,Y,Y,Z,av,r,rows,-1-e,f,rk,rfl,R,dI,oq,y0,y1,hf,vY,Q,Z;refine⟨some (.int e),?_,rfl⟩;rw[st,if_pos c'];show [some (V.ref r),some (V.int x),some (V.int (j7 f (es.take i)+1+f (-1-e))),some (V.int e)]=_;rw[show j7 f (es.take i)+1+f (-1-e)=j7 f (es.take i)+(1+f (-1-e)) by lia]
  ·have c':¬ e<0:=λz=>c (decide_eq_true z);refine⟨some (.int e),?_,rfl⟩;rw[st,if_neg c'];rfl
 ·rintro σ H2 ⟨u,rfl,rfl⟩;rw[cG,gR,← hf x es x0 ff];exact⟨Y,k⟩
theorem mP(D:Ds K mg aY bf C CS CW CB CT CD):∀ n:Nat,bw P w K mg zt cL (n+1) (aY 88) (bf 88) ["_law_rows","_law_sheet"] (rG n)
 | 0=>by
  have no:∀ vs H Q E,¬ rG 0 vs H Q E:=λvs H Q E h=>by
   obtain⟨_,_,_,_,_,_,_,_,_,_,_,_,_,_,h,_⟩:=h;exact Nat.not_lt_zero _ h
  exact⟨λvs H Q E h=>absurd h (no vs H Q E),λA zn s H args us vs Q E _ _ _ _ h=>absurd h (no vs H Q E)⟩
 | n+1=>wM D (mP D n)
theorem nO:aF ["_law_numbers","_law_row","_law_number"] ["_law_numbers"] (az o7):=eS
theorem AW:‹(1,89,["_law_numbers"],Qn)›:=λD=>by
 specialize eU D.Zg.F nO;obtain⟨r,ns,rfl,hr1,dI,k⟩:=h;exists _,(aj (aX (i:=1) nO.nd (bM ah)) (aj (d9 PassesOwn.never rfl (cJ (pv 0)) (b9 (i:=2) nO.nd) (au (bN (PW.pt (qm (aT Bd (fm D.T.eV (pv 1)) ay (bx _)) (oA (aT dQ (aO br (aO bu (pv 1) (gB eL ay)) ay) (pv 2) (bx _))))) (au (lP (cW (aa (aO br (aO bu (pv 1) (gB eL ay)) ay) (aa (bG dh (pv 2) ay) ah))) (oE (pv 1) (gB eL ay) jm))) (au (bg (dM pW jN jO bS (pv 1) (aa (cW (aa (pv 2) (aa (bG dh (pv 2) ay) ah))) ah))))))) (au (aG (pv 1)))));refine⟨iP,λq hq=>?_⟩;have s0:aI H (aP H q (.lst [])):=ak hq _;refine⟨Y,r,rfl,⟨_,bI.of (s0 _ _ hr1)⟩,dN (K:=K) (a:=r) (xs:=ns.map V.int) (λi σ H2=>∃ (bs:List Addr) (u:Option V),σ=[some (.ref r),some (.ref q),u]/\H2 q=some (.lst (bs.map V.ref))/\bQ H2 bs ((ns.take i).foldl (λt n=>iM t n (n+1)) [])/\aI H H2) ⟨[],none,rfl,af,.nil,s0⟩ (by rintro i σ H2 _ ⟨_,_,_,_,_,s⟩;exact bI.of (s _ _ hr1)) ?_ ?_⟩
 ·rintro i x σ H2 hi ⟨bs,u,rfl,d8,hb,s⟩;rw[gE]at hi;obtain⟨m,em,rfl⟩:=Option.map_eq_some_iff.mp hi;have step:=foldl_take_succ (λt n=>iM t n (n+1)) ns [] i m em
  have bl:bs.length<sizeLine:=by
   have z:=hb.len;have z2:=yY (ns.take i) [];rw[gF]at z2;exact aS (by simp only[rL]at z2;lia)
  exists Y,q,Y,.inl (bI.of d8),Z,Y;rcases oz ((ns.take i).foldl (λt n=>iM t n (n+1)) []) with hn|⟨rw0,q0,hn⟩
  ·rw[hn]at hb step;have hbs:bs=[]:=List.eq_nil_of_length_eq_zero hb.len;subst hbs;refine d7 (d7 ?_);refine⟨Y,.inl ⟨rfl,_,bI.of d8⟩,Y,Y,Z,nK,λt ht=>⟨q,Z,ak ht _ _ _ d8,(by show 0<sizeLine;decide),?_⟩⟩;obtain⟨g1,g2,g3⟩:=Ex (st:=m) (en:=m+1) hq s d8 hb ht;refine⟨[]++[t],Y,g1,?_,g3⟩;rw[step,l6];exact g2
  ·rw[mT]at hn;rw[hn]at hb step;obtain⟨cs,a0,rfl,hc,JG⟩:=hb.split;have DV:H2 q=some (.lst (cs.map V.ref++[.ref a0])):=by rw[d8,gJ];rfl
   refine cX (λ_=>?_) (λc=>absurd (decide_eq_true (by rw[cG,dB,qX];lia)) c);refine⟨Y,Y,q,K,V,bI.of DV,fG _ _,a0,K,V,dH.of JG,UG,Y,rfl,Y,cX (λc2=>?_) (λc2=>?_)⟩
   ·have e2:q0.2=m:=V.int.inj (of_decide_eq_true c2);refine⟨Y,Y,q,K,V,bI.of DV,fG _ _,a0,K,V,dH.of JG,X5,Y,Z,nK,λt ht=>?_⟩;exists Y,Y,q,P,cs.length,V,ak ht _ _ _ DV,Nn cs a0;obtain⟨g1,g2,g3⟩:=turned (st:=q0.1) (en:=m+1) hq s DV hc ht;refine⟨cs++[t],Y,g1,?_,g3⟩;rw[step,l9 _ e2];exact g2
   ·have e2:¬ q0.2=m:=λz=>c2 (decide_eq_true (congrArg V.int z));refine⟨Y,.inl ⟨rfl,_,bI.of d8⟩,Y,Y,Z,nK,λt ht=>⟨q,Z,ak ht _ _ _ d8,(by rw[cG];exact bl),?_⟩⟩;obtain⟨g1,g2,g3⟩:=Ex (st:=m) (en:=m+1) hq s d8 hb ht;refine⟨cs++[a0]++[t],Y,g1,?_,g3⟩;rw[step,mh _ e2];exact g2
 ·rintro σ H2 ⟨bs,u,rfl,d8,hb,s⟩;refine⟨Y,k q H2 ⟨bs,d8,?_⟩ s hq⟩;rw[cG,gR]at hb;exact hb
class inductive RU
 | mk (e:Addr) (es:List Int) (_:vs=[.ref e]) (_:H e=some (.lst (es.map V.int))) (_:es.length<=100000) (_ :
 ∀ (o:Addr) (H':Hp),bK H' (.ref o) (aH es)->aI H H'->H o=none->Q (.ref o) H')
theorem kT:aF ["_law_entries","_law_items","_law_entry"] ["_law_entries"] (az l5):=eS
theorem yc:‹(1,90,["_law_entries"],RU)›:=λD=>by
 specialize eU D.Zh.F kT;obtain⟨e,es,rfl,he,dI,k⟩:=h;exists _,(aj (aX (i:=1) kT.nd (bM ah)) (aj (d9 PassesOwn.never rfl (cJ (pv 0)) (b9 (i:=2) kT.nd) (au (bN (aT kU (pv 2) ay (bx _)) (au (bg (dM pW jN jO bS (pv 1) (aa (cW (aa bC (aa (bG cN (gB eL ay) (pv 2)) ah))) ah)))) (au (bN (PW.pt (qm (aT Bd (fm D.T.eV (pv 1)) ay (bx _)) (qm (aT dQ (aO br (aO bu (pv 1) (gB eL ay)) ay) bC (bx _)) (oA (aT dQ (aO br (aO bu (pv 1) (gB eL ay)) ay) (pv 2) (bx _)))))) (au (lP (cW (aa bC (aa (aO br (aO bu (pv 1) (gB eL ay)) ay) (aa (bG dh (pv 2) ay) ah)))) (oE (pv 1) (gB eL ay) jm))) (au (bg (dM pW jN jO bS (pv 1) (aa (cW (aa bC (aa (pv 2) (aa (bG dh (pv 2) ay) ah)))) ah))))))))) (au (aG (pv 1)))));refine⟨iP,λq hq=>?_⟩;have s0:aI H (aP H q (.lst [])):=ak hq _;refine⟨Y,e,rfl,⟨_,bI.of (s0 _ _ he)⟩,dN (K:=K) (a:=e) (xs:=es.map V.int) (λi σ H2=>∃ (vs:List V) (u:Option V),σ=[some (.ref e),some (.ref q),u]/\H2 q=some (.lst vs)/\bX (cP H2) vs ((es.take i).foldl bq [])/\aI H H2) ⟨[],none,rfl,af,.nil,s0⟩ (by rintro i σ H2 _ ⟨_,_,_,_,_,s⟩;exact bI.of (s _ _ he)) ?_ ?_⟩
 ·rintro i x σ H2 hi ⟨vs,u,rfl,d8,hb,s⟩;rw[gE]at hi;obtain⟨x,ex,rfl⟩:=Option.map_eq_some_iff.mp hi;have step:(es.take (i+1)).foldl bq []=bq ((es.take i).foldl bq []) x:=by rw[take_snoc ex,List.foldl_append];rfl
  have bl:vs.length<sizeLine:=by
   have z:=hb.len;have z2:=nV (es.take i) [];rw[gF,rL]at z2;exact aS ∅
  refine⟨Y,Z,Y,cX (λc=>?_) (λc=>?_)⟩
  ·have c':x<0:=of_decide_eq_true c;rw[bq,if_pos c']at step;refine⟨Y,.inl ⟨rfl,_,bI.of d8⟩,Y,Y,Z,nK,λt ht=>⟨q,Z,ak ht _ _ _ d8,bl,?_⟩⟩;refine⟨vs++[.ref t],Y,af,?_,bP hq (s.trans (ak ht _)) (aJ q _ _)⟩;rw[step];exact bX.new (it:=.win (-1-x)) d8 hb ht _
  ·have c':¬ x<0:=λz=>c (decide_eq_true z);rw[bq,if_neg c']at step;rcases oz ((es.take i).foldl bq []) with hn|⟨t0,l0,hn⟩
   ·rw[hn]at hb step;have hvs:vs=[]:=List.eq_nil_of_length_eq_zero hb.len;subst hvs;refine⟨Y,q,Y,.inl (bI.of d8),Z,Y,d7 (d7 ?_)⟩;refine⟨Y,.inl ⟨rfl,_,bI.of d8⟩,Y,Y,Z,Hs,λt ht=>⟨q,Z,ak ht _ _ _ d8,bl,?_⟩⟩;refine⟨[]++[.ref t],Y,af,?_,bP hq (s.trans (ak ht _)) (aJ q _ _)⟩;rw[step];exact bX.new (it:=.aK x (x+1)) d8 hb ht _
   ·rw[mT]at hn;rw[hn,rJ,List.dropLast_concat]at step;rw[hn]at hb;obtain⟨us,v0,rfl,hb0,a0,rfl,JG⟩:=hb.split;refine⟨Y,q,Y,.inl (bI.of d8),Z,Y,cX (λ_=>?_) (λz=>absurd (decide_eq_true (by simp)) z)⟩
    cases l0 with
    | win n =>
     refine⟨Y,Y,q,K,V,bI.of d8,fG _ _,a0,K,V,dH.of JG,V,Y,cX (λz=>absurd z (by decide)) (λ_=>d7 ?_)⟩;refine⟨Y,.inl ⟨rfl,_,bI.of d8⟩,Y,Y,Z,Hs,λt ht=>⟨q,Z,ak ht _ _ _ d8,bl,?_⟩⟩;refine⟨P,rfl,af,?_,bP hq (s.trans (ak ht _)) (aJ q _ _)⟩;rw[step];exact bX.new (it:=.aK x (x+1)) d8 hb ht _
    | aK p1 p2 =>
     refine⟨Y,Y,q,K,V,bI.of d8,fG _ _,a0,K,V,dH.of JG,V,Y,cX (λ_=>?_) (λz=>absurd (by decide) z)⟩;refine⟨Y,Y,q,K,V,bI.of d8,fG _ _,a0,K,V,dH.of JG,rfl,Y,rfl,Y,cX (λc2=>?_) (λc2=>?_)⟩
     ·have e2:p2=x:=V.int.inj (of_decide_eq_true c2);refine⟨Y,Y,q,K,V,bI.of d8,fG _ _,a0,K,V,dH.of JG,rfl,Y,Z,Hs,λt ht=>?_⟩;refine⟨Y,Y,q,P,us.length,V,ak ht _ _ _ d8,(by rw[dB];exact yU _),?_⟩;rw[yV];refine⟨P,rfl,af,?_,bP hq (s.trans (ak ht _)) (aJ q _ _)⟩;rw[step];show bX _ _ (if p2=x then t0++[aQ.aK p1 (x+1)] else _);rw[if_pos e2];exact bX.new (it:=.aK p1 (x+1)) d8 hb0 ht _
     ·have e2:¬ p2=x:=λz=>c2 (decide_eq_true (congrArg V.int z));refine⟨Y,.inl ⟨rfl,_,bI.of d8⟩,Y,Y,Z,Hs,λt ht=>⟨q,Z,ak ht _ _ _ d8,bl,?_⟩⟩;refine⟨P,rfl,af,?_,bP hq (s.trans (ak ht _)) (aJ q _ _)⟩;rw[step];show bX _ _ (if p2=x then _ else t0++[aQ.aK p1 p2]++[aQ.aK x (x+1)]);rw[if_neg e2];exact bX.new (it:=.aK x (x+1)) d8 hb ht _
 ·rintro σ H2 ⟨vs,u,rfl,d8,hb,s⟩;rw[cG,gR]at hb;exact⟨Y,k q H2 ⟨q,vs,rfl,d8,hb⟩ s hq⟩
theorem Reach.trans{E:Int->Int->Prop}{a b c:Int}(h:Reach E a b)(g:Reach E b c):Reach E a c:=by
 induction g with
 | one e=>exact .step h e
 | step _ e ih=>exact .step ih e
theorem FO{p q:Nat->Bool}(h:∀ i,p i=true->q i=true):∀ n,cnt n p<=cnt n q
 | 0=>gh _
 | n+1=>by
  rw[uQ,uQ];have ih:=FO h n;by_cases c:p n=true
  ·rw[if_pos c,if_pos (h n c)];lia
  ·rw[if_neg c];lia
open Classical in
theorem Wa{rows:cR}(sd:gr rows)(l:rows.length<=40)(h:∀ x,¬ Reach (jM rows) x x):BI rows:=by
 refine⟨λx=>cnt rows.length λi=>decide (Reach (jM rows) x (i:Int)),λx=>iI (zf _ _) l,λx y n=>?_⟩;obtain⟨y0,y1⟩:=sd.DU n;have yy:((y.toNat:Nat):Int)=y:=by lia
 have a:=FO (p:=λi=>decide (Reach (jM rows) y (i:Int))) (q:=λi=>decide (Reach (jM rows) x (i:Int))&&decide (i≠y.toNat)) (λi hi=>by
  have r:=of_decide_eq_true hi;rw[Bool.and_eq_true];refine⟨decide_eq_true ((Reach.one n).trans r),decide_eq_true λz=>?_⟩;rw[z,yy]at r
  exact h _ r) rows.length
 have b:=uR y.toNat rows.length (p:=λi=>decide (Reach (jM rows) x (i:Int))) (q:=λi=>decide (Reach (jM rows) x (i:Int))&&decide (i≠y.toNat)) ∅ (decide_eq_true (by rw[yy];exact .one n)) (λ_=>rfl);show cnt _ _<cnt _ _;lia
theorem JS{rows:cR}{s:Nat}{es:List Int}{x y:Int}(h:jM (rows.set s es) x y)(ne:x.toNat≠s):jM rows x y:=by
 obtain⟨x0,vt,e,hy⟩:=h;rw[List.getElem?_set_ne (λz=>ne z.symm)]at e;exact⟨x0,vt,e,hy⟩
theorem OR{rows:cR}{s:Int}{es:List Int}(s0:0<=s)(R:BI rows)(n:¬ Reach (jM (rows.set s.toNat es)) s s):∀ x,¬ Reach (jM (rows.set s.toNat es)) x x:=by
 have key:∀ {a b:Int},Reach (jM (rows.set s.toNat es)) a b->Reach (jM rows) a b\/((a=s\/Reach (jM (rows.set s.toNat es)) a s)/\Reach (jM (rows.set s.toNat es)) s b):=by
  intro a b r
  induction r with
  | one e =>
   by_cases c:a.toNat=s.toNat
   ·have q:a=s:=by have:=e.1;lia
    rw[q]at e;exact .inr ⟨.inl q,.one e⟩
   ·exact .inl (.one (JS e c))
  | @step y z r e ih =>
   by_cases c:y.toNat=s.toNat
   ·have q:y=s:=by have:=e.1;lia
    rw[q]at r e;exact .inr ⟨.inr r,.one e⟩
   ·rcases ih with i|i
    ·exact .inl (.step i (JS e c))
    ·exact .inr ⟨i.1,.step i.2 e⟩
 intro x r;rcases key r with z|⟨z|z,y⟩
 ·exact R.irr z
 ·rw[z]at y;exact n y
 ·exact n (y.trans z)
theorem LN(f:Int->Int)(e:Int)(r:List Int):j7 f (e::r)=(if e<0 then 1+f (-1-e) else 1)+j7 f r:=by unfold j7;rw[jI,List.sum_cons]
theorem JT{sh:Int->List Int}{f:Int->Int}:∀ {es:List Int},(∀ y∈dX es,((sh y).length:Int)<=f y)->(es.length:Int)<=j7 f es/\((aR sh es).length:Int)<=j7 f es
 | [],_=>by simp[j7,aR]
 | e::r,h=>by
  have ih:=JT (es:=r) λy hy=>h y (cB.mpr ⟨(cB.mp hy).1,nQ _ (cB.mp hy).2⟩);rw[LN,bZ,dB,mS];unfold aW;by_cases c:e<0
  ·have z:=h (-1-e) (cB.mpr ⟨Q,by rw[show -1-(-1-e)=e by lia];simp⟩);rw[if_pos c,if_pos c];lia
  ·rw[if_neg c,if_neg c,qX];lia
theorem FP{rows:cR}{sh:Int->List Int}{f:Int->Int}(sd:gr rows)(R:BI rows)(hs:mF rows sh)(hw:Weighs rows f):∀ x:Int,0<=x->∀ es,rows[x.toNat]?=some es->(es.length:Int)<=f x/\((sh x).length:Int)<=f x:=by
 obtain⟨rk,_,hd⟩:=R
 have key:∀ (k:Nat) (x:Int),rk x<k->0<=x->∀ es,rows[x.toNat]?=some es->(es.length:Int)<=f x/\((sh x).length:Int)<=f x:=by
  intro k
  induction k with
  | zero=>intro x h;lia
  | succ k ih =>
   intro x hx x0 es he;rw[hw x es x0 he,hs x es x0 he];refine JT λy hy=>?_;have n:jM rows x y:=⟨x0,es,he,hy⟩;obtain⟨y0,y1⟩:=sd.DU n;have:=hd _ _ n;exact (ih y ∅ y0 _ (uz ∅)).2
 exact λx=>key (rk x+1) x (Nat.lt_succ_self _)
theorem OS{rows:cR}{sh:Int->List Int}{N:Int->Prop}(oq:gr rows)(vY:BI rows)(wY:mF rows sh)(hN:∀ es∈rows,∀ e∈es,0<=e->N e):∀ x:Int,0<=x->x<rows.length->∀ y∈sh x,N y:=by
 obtain⟨rk,hb,hd⟩:=vY
 have key:∀ (k:Nat) (x:Int),rk x<k->0<=x->x<rows.length->∀ y∈sh x,N y:=by
  intro k
  induction k with
  | zero=>intro x h;lia
  | succ k ih =>
   intro x hx x0 x1 y hy;have he:rows[x.toNat]?=some rows[x.toNat]:=uz ∅;rw[wY x _ x0 he]at hy;unfold aR at hy;obtain⟨e,hm,hy⟩:=List.mem_flatMap.mp hy;unfold aW at hy;by_cases c:e<0
   ·rw[if_pos c]at hy;have nx:jM rows x (-1-e):=⟨x0,_,he,cB.mpr ⟨Q,by rw[show -1-(-1-e)=e by lia];exact hm⟩⟩;obtain⟨a,b⟩:=oq.DU nx;have:=hd _ _ nx;exact ih _ ∅ a b y hy
   ·rw[if_neg c]at hy;rw[List.mem_singleton.mp hy];exact hN _ (om he) e hm ∅
 exact λx=>key (rk x+1) x (Nat.lt_succ_self _)
def sM(n m:Nat)(e:Int):Prop:=(0<=e/\e<(n:Nat))\/(e<0/\-1-e<(m:Nat))
structure Good(n:Nat)(rows:cR):Prop where
 en:∀ es∈rows,∀ e∈es,sM n rows.length e
 rk:BI rows
 ln:rows.length<=40
 wt:∃ f,Weighs rows f/\∀ x:Int,0<=x->x<rows.length->f x<=200
theorem Du{n:Nat}{rows:cR}(h:∀ es∈rows,∀ e∈es,sM n rows.length e):gr rows:=λes he y hy=>by
 obtain⟨y0,hm⟩:=cB.mp hy;rcases h es he _ hm with z|z
 ·lia
 ·have:=z.2;lia
structure Gd(n:Nat)(rows:cR)(sh:Int->List Int):Prop where
 sn:Seen rows sh
 Wb:∀ x:Int,0<=x->x<rows.length->∀ a∈sh x,0<=a/\a<(n:Nat)
 sl:∀ x:Int,0<=x->x<rows.length->(sh x).length<=200
 es:∀ es∈rows,es.length<=200
 en:∀ es∈rows,∀ e∈es,sM n rows.length e
 ln:rows.length<=40
theorem Good.es{n:Nat}{rows:cR}(h:Good n rows):∀ es∈rows,es.length<=200:=by
 obtain⟨en,rk,ln,f,hw,hm⟩:=h;obtain⟨sh,hs⟩:=zQ rk;intro es he;obtain⟨i,hi⟩:=List.mem_iff_getElem?.mp he;have il:=(List.getElem?_eq_some_iff.mp hi).1;have a:=FP (Du en) rk hs hw (i:Int) ∅ es (by rw[Int.toNat_natCast];exact hi);have:=hm (i:Int) ∅ ∅;lia
theorem Good.TJ{n:Nat}{rows:cR}(h:Good n rows):∃ sh,Gd n rows sh:=by
 have hes:=h.es;obtain⟨en,rk,ln,f,hw,hm⟩:=h;obtain⟨sh,hs⟩:=zQ rk;have sd:=Du en
 have sl:∀ x:Int,0<=x->x<rows.length->(sh x).length<=200:=λx x0 x1=>by
  have a:=FP sd rk hs hw x x0 _ (uz ∅);have:=hm x x0 x1;lia
 refine⟨sh,⟨λes he=>by have:=hes es he;lia,sd,rk,hs,λx x0 x1=>by have:=sl x x0 x1;lia⟩,OS sd rk hs (λes he e hm e0=>?_),sl,hes,en,ln⟩;rcases en es he e hm with z|z
 ·exact z
 ·lia
theorem Good.bears{n:Nat}{rows:cR}(h:Good n rows):∃ f,lg rows f:=by
 have hes:=h.es;obtain⟨en,rk,ln,f,hw,hm⟩:=h;exact⟨f,Q,λes he=>by have:=hes es he;lia,Du en,rk,hw,hm⟩
theorem OT{n:Nat}{rows:cR}{s:Nat}{es:List Int}(h:∀ es∈rows,∀ e∈es,sM n rows.length e)(g:∀ e∈es,sM n rows.length e):∀ vt∈rows.set s es,∀ e∈vt,sM n (rows.set s es).length e:=by
 intro vt hm;rw[List.length_set];rcases List.mem_or_eq_of_mem_set hm with z|z
 ·exact h vt z
 ·rw[z];exact g
theorem FQ{sh:Int->List Int}{N:Int->Prop}(hs:∀ e,N e->∀ x∈aW sh e,N x)(p:Int):∀ (es:List Int) (f:Int),(∀ e∈es,N e)->∀ x,x∈aE sh p f es\/x∈bE sh p f es->N x
 | [],_,_=>λx hx=>by rcases hx with z | z <;> cases z
 | e::r,f,h=>by
  intro x hx;rw[aE,bE,List.mem_append,List.mem_append]at hx;have he:=hs e (h e (by simp));have ih:=FQ hs p r (f+(aW sh e).length) (λy hy=>h y (nQ _ hy)) x;rcases hx with (z|z)|(z|z)
  ·split at z
   ·rw[List.mem_singleton.mp z];exact h e (by simp)
   ·split at z
    ·cases z
    ·exact he x (List.mem_of_mem_take z)
  ·exact ih (.inl z)
  ·split at z
   ·cases z
   ·split at z
    ·rw[List.mem_singleton.mp z];exact h e (by simp)
    ·exact he x (List.mem_of_mem_drop z)
  ·exact ih (.inr z)
theorem OU{sh:Int->List Int}{N:Int->Prop}(hs:∀ e,N e->∀ x∈aW sh e,N x)(a b:Int):∀ (es:List Int) (f:Int),(∀ e∈es,N e)->∀ x,x∈kE sh a b f es\/x∈tE sh a b f es->N x
 | [],_,_=>λx hx=>by rcases hx with z | z <;> cases z
 | e::r,f,h=>by
  intro x hx;rw[kE,tE,List.mem_append,List.mem_append]at hx;have he:=hs e (h e (by simp));have ih:=OU hs a b r (f+(aW sh e).length) (λy hy=>h y (nQ _ hy)) x;unfold JL Mh at hx;rcases hx with (z|z)|(z|z)
  ·split at z
   ·rw[List.mem_singleton.mp z];exact h e (by simp)
   ·split at z
    ·cases z
    ·rcases List.mem_append.mp z with z|z
     ·exact he x (List.mem_of_mem_take z)
     ·exact he x (List.mem_of_mem_drop z)
  ·exact ih (.inl z)
  ·split at z
   ·cases z
   ·split at z
    ·rw[List.mem_singleton.mp z];exact h e (by simp)
    ·exact he x (List.mem_of_mem_take (List.mem_of_mem_drop z))
  ·exact ih (.inr z)
theorem wN{sh:Int->List Int}{N:Int->Prop}(hs:∀ e,N e->∀ x∈aW sh e,N x){p:Int}{es new:List Int}(h:∀ e∈es,N e)(g:∀ e∈new,N e):∀ e∈fO sh p es new,N e:=by
 intro x hx;unfold fO at hx;split at hx
 ·exact h x hx
 ·rw[List.mem_append,List.mem_append]at hx;rcases hx with (z|z)|z
  ·exact FQ hs p es 0 h x (.inl z)
  ·exact g x z
  ·exact FQ hs p es 0 h x (.inr z)
theorem Gd.cl{n:Nat}{rows:cR}{sh:Int->List Int}(h:Gd n rows sh):∀ e,sM n rows.length e->∀ x∈aW sh e,sM n rows.length x:=by
 intro e he x hx;unfold aW at hx;rcases he with z|z
 ·rw[if_neg ∅]at hx;rw[List.mem_singleton.mp hx];exact .inl z
 ·rw[if_pos z.1]at hx;exact .inl (h.Wb _ ∅ z.2 x hx)
theorem Gd.own{n:Nat}{rows:cR}{sh:Int->List Int}(h:Gd n rows sh)(s:Int):∀ e∈gA.own rows s,sM n rows.length e:=by
 unfold gA.own
 cases e:rows[s.toNat]? with
 | none=>exact λ_ z=>nomatch z
 | some es=>exact h.en es (om e)
inductive LD
 | put (s p:Int) (r:Addr) (row:Row)
 | cut (s a b:Int)
 | RV (s a b t:Int)
 | TL (t p s a b:Int)
 | win (t p s:Int)
 | fix (s:Int)
def LD.sh:LD->Int
 | .put s _ _ _=>s
 | .cut s _ _=>s
 | .RV s _ _ _=>s
 | .TL t _ _ _ _=>t
 | .win t _ _=>t
 | .fix s=>s
def LD.At(H:Hp)(d:Addr):LD->Prop
 | .put s p r row=>H d=some (.tup [.str "put",.int s,.int p,.ref r])/\cE H r row
 | .cut s a b=>H d=some (.tup [.str "cut",.int s,.int a,.int b])
 | .RV s a b t=>H d=some (.tup [.str "move",.int s,.int a,.int b,.int t])
 | .TL t p s a b=>H d=some (.tup [.str "quote",.int t,.int p,.int s,.int a,.int b])
 | .win t p s=>H d=some (.tup [.str "window",.int t,.int p,.int s])
 | .fix s=>H d=some (.tup [.str "fix",.int s])
def LD.Ok(n m:Nat)(sh:Int->List Int):LD->Prop
 | .put s p _ row=>qH m s/\(0<=p/\p<=(sh s).length)/\row.length<=2/\∀ q∈row,0<=q.1/\q.1<q.2/\q.2<=(n:Nat)/\q.2<=q.1+40
 | .cut s a b=>qH m s/\Ma a b (sh s).length
 | .RV s a b t=>qH m s/\Mv a b t (sh s).length
 | .TL t p s a b=>qH m t/\(0<=p/\p<=(sh t).length)/\qH m s/\Ma a b (sh s).length
 | .win t p s=>qH m t/\(0<=p/\p<=(sh t).length)/\qH m s
 | .fix s=>qH m s
def LD.res(sh:Int->List Int)(rows:cR):LD->List Int
 | .put s p _ row=>fO sh p (own rows s) (bO row)
 | .cut s a b=>bR sh a b (own rows s)
 | .RV s a b t=>lE sh a b t (own rows s)
 | .TL t p s a b=>fO sh p (own rows t) (((sh s).take b.toNat).drop a.toNat)
 | .win t p s=>fO sh p (own rows t) [-1-s]
 | .fix s=>sh s
theorem LD.Wb{n m:Nat}{sh:Int->List Int}{dd:LD}(h:dd.Ok n m sh):qH m dd.sh:=by
 cases dd with
 | fix=>exact h
 | _=>exact h.1
theorem LD.Wc{n:Nat}{rows:cR}{sh:Int->List Int}(g:Gd n rows sh){dd:LD}(h:dd.Ok n rows.length sh):∀ e∈dd.res sh rows,sM n rows.length e:=by
 have cl:=g.cl
 cases dd with
 | put s p r row =>
  refine wN cl (g.own s) λe he=>.inl (OM (λq hq=>?_) he);have:=h.2.2.2 q hq;exact⟨this.1,this.2.1,this.2.2.1⟩
 | cut s a b =>
  intro e he;unfold LD.res bR at he;dsimp only at he;split at he
  ·exact g.own s e he
  ·exact OU cl a b _ 0 (g.own s) e (.inl he)
 | RV s a b t =>
  intro e he;unfold LD.res lE at he;dsimp only at he;split at he
  ·exact g.own s e he
  ·have kk:=OU cl a b (own rows s) 0 (g.own s);rw[List.mem_append,List.mem_append]at he;rcases he with (z|z)|z
   ·exact FQ cl t _ 0 (λy hy=>kk y (.inl hy)) e (.inl z)
   ·exact kk e (.inr z)
   ·exact FQ cl t _ 0 (λy hy=>kk y (.inl hy)) e (.inr z)
 | TL t p s a b =>
  refine wN cl (g.own t) λe he=>.inl (g.Wb s h.2.2.1.1 h.2.2.1.2 e (List.mem_of_mem_take (List.mem_of_mem_drop he)))
 | win t p s =>
  refine wN cl (g.own t) λe he=>.inr ?_;rw[List.mem_singleton.mp he];have:=h.2.2;unfold qH at this;lia
 | fix s=>exact λe he=>.inl (g.Wb s h.1 h.2 e he)
theorem LD.At.same{H H':Hp}{d:Addr}{dd:LD}(s:aI H H')(h:dd.At H d):dd.At H' d:=by
 cases dd with
 | put=>exact⟨s _ _ h.1,h.2.same s⟩
 | _=>exact s _ _ h
theorem OV(sh:Int->List Int){a b:Int}{N:Int->Prop}:∀ (es:List Int) (f:Int),(∀ e∈es,∀ x∈aW sh e,N x)->∀ x∈kE sh a b f es,x∈es\/N x
 | [],_,_=>λx hx=>by cases hx
 | e::r,f,h=>by
  intro x hx;rw[kE]at hx;rcases List.mem_append.mp hx with z|z
  ·unfold JL at z;split at z
   ·rw[List.mem_singleton.mp z];exact .inl (by simp)
   ·split at z
    ·cases z
    ·rcases List.mem_append.mp z with y|y
     ·exact .inr (h e (by simp) x (List.mem_of_mem_take y))
     ·exact .inr (h e (by simp) x (List.mem_of_mem_drop y))
  ·rcases OV sh r _ (λe he=>h e (nQ _ he)) x z with y|y
   ·exact .inl (nQ _ y)
   ·exact .inr y
theorem zU(sh:Int->List Int):∀ (xs:List Int),(∀ x∈xs,0<=x)->aR sh xs=xs
 | [],_=>rfl
 | x::xs,h=>by rw[bZ,rB sh (h x (by simp)),zU sh xs λy hy=>h y (nQ _ hy)];rfl
theorem JU(sh:Int->List Int){a b:Int}(ab:a<=b):∀ (es:List Int) (f:Int),(∀ e∈es,∀ x∈aW sh e,0<=x)->(aR sh (kE sh a b f es)).length<=(aR sh es).length
 | [],_,_=>by simp[kE]
 | e::r,f,h=>by
  rw[kE,jA,bZ,dB,dB];have ih:=JU sh ab r (f+(aW sh e).length) (λe he=>h e (nQ _ he))
  have one:(aR sh (JL sh a b f e)).length<=(aW sh e).length:=by
   unfold JL;split
   ·rw[bZ];simp[aR]
   ·split
    ·simp[aR]
    ·rename_i c1 c2;have h1:=h e (by simp);rw[jA,zU sh _ λx hx=>h1 x (List.mem_of_mem_take hx),zU sh _ λx hx=>h1 x (List.mem_of_mem_drop hx),dB,gF,rK];lia
  lia
theorem TM(sh:Int->List Int){a b:Int}(ab:a<b):∀ (es:List Int) (f:Int),f<=a->a<f+(aR sh es).length->tE sh a b f es≠[]
 | [],f,h,g=>by simp[aR]at g;lia
 | e::r,f,h,g=>by
  rw[bZ,dB]at g;rw[tE];intro z;obtain⟨z1,z2⟩:=List.append_eq_nil_iff.mp z;by_cases c1:f+(aW sh e).length<=a
  ·exact TM sh ab r (f+(aW sh e).length) c1 ∅ z2
  ·unfold Mh at z1;rw[if_neg (λy=>y.elim c1 ∅)]at z1;split at z1
   ·cases z1
   ·rename_i c2;have q:=congrArg List.length z1;rw[rK,gF,rL]at q;lia
theorem FT{sh sg:Int->List Int}(p:Int):∀ (es:List Int) (f:Int),(∀ e∈es,aW sh e=aW sg e)->aE sh p f es=aE sg p f es
 | [],_,_=>rfl
 | e::r,f,h=>by rw[aE,aE,h e (by simp),FT p r _ λx hx=>h x (nQ _ hx)]
theorem FU{sh sg:Int->List Int}(p:Int):∀ (es:List Int) (f:Int),(∀ e∈es,aW sh e=aW sg e)->bE sh p f es=bE sg p f es
 | [],_,_=>rfl
 | e::r,f,h=>by rw[bE,bE,h e (by simp),FU p r _ λx hx=>h x (nQ _ hx)]
theorem FW{sh sg:Int->List Int}:∀ (es:List Int),(∀ y∈dX es,(sg y).length<=(sh y).length)->(aR sg es).length<=(aR sh es).length
 | [],_=>by simp[aR]
 | e::r,h=>by
  rw[bZ,bZ,dB,dB]
  have ih:=FW (sh:=sh) (sg:=sg) r λy hy=>h y (by
   obtain⟨a,b⟩:=cB.mp hy
   exact cB.mpr ⟨a,nQ _ b⟩)
  have one:(aW sg e).length<=(aW sh e).length:=by
   unfold aW;by_cases c:e<0
   ·rw[if_pos c,if_pos c];exact h _ (cB.mpr ⟨Q,by rw[show -1-(-1-e)=e by lia];simp⟩)
   ·rw[if_neg c,if_neg c];exact gh _
  lia
structure aaa(rows:cR)(sh:Int->List Int)(rk:Int->Nat)(s a b:Int)(es:List Int)(rs:cR)(sg:Int->List Int):Prop where
 snd:gr rs
 nx:∀ x y,jM rs x y->jM rows x y
 N4:mF rs sg
 bd:∀ x:Int,0<=x->x<rs.length->(sg x).length<=10000
 eq:∀ n,rk n<rk s->0<=n->n<rows.length->sg n=sh n
theorem OW{rows:cR}{sh:Int->List Int}{rk:Int->Nat}{s a b:Int}{es:List Int}(oq:gr rows)(Zq:∀ x,rk x<=40)(SM:∀ x y,jM rows x y->rk y<rk x)(wY:mF rows sh)(DW:∀ x:Int,0<=x->x<rows.length->(sh x).length<=10000)(h0:0<=s)(h1:s<rows.length)(he:rows[s.toNat]?=some es)(ab:a<=b):∃ sg,aaa rows sh rk s a b es (rows.set s.toNat (bR sh a b es)) sg:=by
 have hnn:=n8 oq ⟨rk,Zq,SM⟩ wY
 have ent:∀ e∈es,∀ x∈aW sh e,0<=x:=λe hm x hx=>by
  unfold aW at hx;by_cases c:e<0
  ·rw[if_pos c]at hx;have nx:jM rows s (-1-e):=⟨h0,es,he,cB.mpr ⟨Q,by rw[show -1-(-1-e)=e by lia];exact hm⟩⟩;obtain⟨p,q⟩:=oq.DU nx;exact hnn _ p q x hx
  ·rw[if_neg c]at hx;rw[List.mem_singleton.mp hx];lia
 have win:∀ y∈dX (bR sh a b es),y∈dX es:=λy hy=>by
  obtain⟨y0,hm⟩:=cB.mp hy;refine cB.mpr ⟨y0,?_⟩;unfold bR at hm;split at hm
  ·exact hm
  ·rcases OV sh es 0 ent _ hm with z|z
   ·exact z
   ·lia
 have nx:∀ x y,jM (rows.set s.toNat (bR sh a b es)) x y->jM rows x y:=by
  rintro x y ⟨x0,vt,hx,hy⟩;by_cases c:x.toNat=s.toNat
  ·rw[c,List.getElem?_set,if_pos rfl]at hx;split at hx
   ·cases hx;exact⟨x0,es,by rw[c];exact he,win y hy⟩
   ·cases hx
  ·rw[List.getElem?_set_ne (λz=>c z.symm)]at hx;exact⟨x0,vt,hx,hy⟩
 have snd:gr (rows.set s.toNat (bR sh a b es)):=λvt hm y hy=>by
  rw[List.length_set];rcases List.mem_or_eq_of_mem_set hm with z|z
  ·exact oq vt z y hy
  ·subst z;exact oq es (om he) y (win y hy)
 obtain⟨sg,hsg⟩:=zQ (rows:=rows.set s.toNat (bR sh a b es)) ⟨rk,Zq,λx y h=>SM x y (nx x y h)⟩
 have RW:(rows.set s.toNat (bR sh a b es))[s.toNat]?=some (bR sh a b es):=by
  rw[List.getElem?_set,if_pos rfl,if_pos ∅]
 have key:∀ (k:Nat) (x:Int),rk x<k->0<=x->x<rows.length->(rk x<rk s->sg x=sh x)/\(sg x).length<=(sh x).length:=by
  intro k
  induction k with
  | zero=>intro x h;lia
  | succ k ih =>
   intro x hx x0 x1;by_cases c:x.toNat=s.toNat
   ·have xs:x=s:=by lia
    subst xs;refine⟨λz=>by lia,?_⟩;have e1:=hsg x _ x0 RW
    have e2:aR sg (bR sh a b es)=aR sh (bR sh a b es):=qR λy hy=>by
     have n:=SM x y ⟨x0,es,he,win y hy⟩;obtain⟨p,q⟩:=oq.DU ⟨x0,es,he,win y hy⟩;exact (ih y ∅ p q).1 n
    rw[e1,e2,wY x es x0 he];unfold bR;split
    ·exact gh _
    ·exact JU sh ab es 0 ent
   ·have hx1:rows[x.toNat]?=some rows[x.toNat]:=uz ∅;have e1:=hsg x _ x0 (by rw[List.getElem?_set_ne (λz=>c z.symm)];exact hx1);have e2:=wY x _ x0 hx1
    have low:∀ y∈dX rows[x.toNat],rk y<rk x/\0<=y/\y<rows.length:=λy hy=>by
     have n:jM rows x y:=⟨x0,_,hx1,hy⟩;exact⟨SM x y n,oq.DU n⟩
    refine⟨λz=>?_,?_⟩
    ·rw[e1,e2];exact qR λy hy=>(ih y (by have:=(low y hy).1;lia) (low y hy).2.1 (low y hy).2.2).1 (by have:=(low y hy).1;lia)
    ·rw[e1,e2];exact FW _ λy hy=>(ih y (by have:=(low y hy).1;lia) (low y hy).2.1 (low y hy).2.2).2
 refine⟨sg,snd,nx,hsg,λx x0 x1=>?_,λn h n0 n1=>(key (rk n+1) n (Nat.lt_succ_self _) n0 n1).1 h⟩;rw[List.length_set]at x1;have:=(key (rk x+1) x (Nat.lt_succ_self _) x0 x1).2;have:=DW x x0 x1;lia
theorem RX{rows:cR}{sh sg:Int->List Int}{rk:Int->Nat}{s a b to:Int}{es:List Int}(oq:gr rows)(Zq:∀ x,rk x<=40)(SM:∀ x y,jM rows x y->rk y<rk x)(wY:mF rows sh)(h0:0<=s)(he:rows[s.toNat]?=some es)(a0:0<=a)(ab:a<=b)(bn:b<=(sh s).length)(R:aaa rows sh rk s a b es (rows.set s.toNat (bR sh a b es)) sg)(hk:(rows.set s.toNat (bR sh a b es))[s.toNat]?=some (bR sh a b es)):fO sg to (bR sh a b es) (ic sh a b es)=lE sh a b to es:=by
 unfold lE;by_cases c:a=b
 ·have e1:ic sh a b es=[]:=by unfold ic;rw[if_pos c]
  have e2:bR sh a b es=es:=by unfold bR;rw[if_pos c]
  rw[if_pos c,e1,e2];rfl
 ·rw[if_neg c];have e1:ic sh a b es=tE sh a b 0 es:=by unfold ic;rw[if_neg c]
  have e2:bR sh a b es=kE sh a b 0 es:=by unfold bR;rw[if_neg c]
  have ne:tE sh a b 0 es≠[]:=TM sh ∅ es 0 a0 (by rw[← wY s es h0 he];lia)
  have ag:∀ e∈bR sh a b es,aW sg e=aW sh e:=λe hm=>by
   unfold aW;by_cases d:e<0
   ·rw[if_pos d,if_pos d];have n:jM (rows.set s.toNat (bR sh a b es)) s (-1-e):=⟨h0,_,hk,cB.mpr ⟨Q,by rw[show -1-(-1-e)=e by lia];exact hm⟩⟩;have n':=R.nx _ _ n;obtain⟨p,q⟩:=oq.DU n';exact R.eq _ (SM _ _ n') p q
   ·rw[if_neg d,if_neg d]
  unfold fO;rw[e1,if_neg ne,FT to _ 0 ag,FU to _ 0 ag,e2]
theorem LO{X:Cx}(hc:X.calm=true):jZ X (.builtin "max") (λxs H Q=>∃ (p:Addr) (ns:List Int),xs=[.ref p]/\bI X.K H p (ns.map V.int)/\0<ns.length/\∀ M,M∈ns->(∀ a∈ns,a<=M)->Q (.int M) H):=by
 intro ao s σ H xs us Q I r h;obtain⟨p,ns,rfl,hq,ne,q⟩:=h;obtain⟨u,rfl,rx⟩:=r.one;cases (show u=Value.ref p from rx);obtain⟨aN,rv,pl,hz⟩:=I.list hq;have hi:PyProof.Rows.IntsAre aN ns:=intsAre_of rv;obtain⟨xs,e⟩:=hi.allInts.items;have hl:=pl.isList
 have L0:ns=xs.toList.map (·.1):=by
  rw[← hi.numsOf,← PySem.nums_intItems,← e]
 have hsz:0<xs.size:=by
  have h3:=ne;rw[L0,cG,Array.length_toList]at h3;exact h3
 rw[e]at hl;refine PySem.max_intList (I.ok.hd hc) hl hsz λv h' tk hv hk=>?_;obtain⟨t,rfl⟩:=PySem.intItems_at hv;obtain⟨h1,h2⟩:=PySem.argBest_gt (PySem.numAt xs) (xs.size-1);refine⟨.int _,H,I.kept hk,⟨t,rfl⟩,q _ ?_ λa ha=>?_⟩
 ·rw[L0,PySem.numAt_eq];exact PySem.getD_mem (by rw[cG,Array.length_toList];lia)
 ·rw[L0]at ha;obtain⟨j,hj,rfl⟩:=PySem.mem_getD ha;rw[cG,Array.length_toList]at hj;rw[← PySem.numAt_eq];exact h2 j ∅
class inductive OX
 | mk (av:Addr->Prop) (r:Addr) (rows:cR) (s:Int) (_:vs=[.ref r,.int s]) (_:gY av H r rows) (_:rows.length<=40) (_:∀ es∈rows,es.length<=100000) (_:gr rows) (_:0<=s) (_:s<rows.length) (_:¬ Reach (jM rows) s s->∀ x,¬ Reach (jM rows) x x) (_:∀ (b:Bool) (H':Hp),aI H H'->(b=true->BI rows/\∃ f,Weighs rows f/\∀ x:Int,0<=x->x<rows.length->f x<=200)->Q (.bl b) H')
theorem FY:aF ["_law_rows","_law_sheet"] ["_law_rows","_law_sheet"] (az pA):=eS
theorem FZ:‹(43,91,["_law_rows","_law_sheet"],OX)›:=λD=>by
 refine eU D.Zi.F FY λcV A zn s0 H vs Q E hr h=>?_;obtain⟨av,r,rows,s,rfl,R,ln,he,sd,s0,s1,rg,k⟩:=h;refine⟨_,(aj (bN (aT Bj (pv 1) (aC D.Zf (zS D) hr (aa (pv 0) (aa (pv 1) ah))) rfl) (au (aG jL)) aZ) (au (aG (jk gp (cD (LO rfl) rfl D.T.ES PyProof.Rows.boot_max (aa (gH (N:=["_law_other","_law_rows"]) (mD (sc:=az pA) (NX:=["_law_rows","_law_sheet"]) (jx:=[none,some 0]) rfl rfl rfl nofun nofun rfl nofun rfl nofun) rfl (iA rfl D.T.i7 (aa (fm D.T.eV (pv 0)) ah)) (λ_ _ _ _ _ _=>(b9 (i:=0) (show List.Nodup (["_law_other","_law_rows"]:List Str) by decide +kernel))) (λ_ _ _ _ _ _=>gP) (λ_ _ _ _ _ _=>(aC D.QU (mP D 41) hr (aa (pv 1) (aa (pv 0) ah))))) ah)) ay (bx _))))),?_⟩;refine⟨Y,Y,Y,av,r,rows,s,rfl,R,Q,he,sd,s0,s1,λL o H1 ho sm iff=>?_⟩;exists o,Y,.inl (bI.of ho),rfl,BH L,Y;rw[Jv];by_cases hm:s∈L
 ·rw[decide_eq_true hm];exact jr (k false H1 sm λz=>nomatch z)
 rw[decide_eq_false hm];refine d7 ?_;have R1:=Wa sd ln (rg λz=>hm ((iff s).mpr z));obtain⟨f,hf⟩:=La R1;obtain⟨rk,rb,dn⟩:=id R1;have Rs:=R.same sm;obtain⟨vs,hr1,al⟩:=id Rs;have lv:=al.len;have gN:∀ i:Nat,((List.range i).map λj:Nat=>f (j:Int)).length=i:=λi=>by rw[cG,List.length_range]
 refine⟨Y,r,Y,.inl (bI.of hr1),Y,Q,Q,λacc cS=>qE (lo:=0) (k:=((vs.length:Nat):Int).toNat) (λi σ H2=>∃ u:Option V,σ=[u,some (.ref r)]/\H2 acc=some (.lst (((List.range i).map λj:Nat=>f (j:Int)).map V.int))/\aI H1 H2) ⟨none,rfl,af,ak cS _⟩ ?_ ?_⟩
 ·rintro i σ H2 hi ⟨u,rfl,ha,s2⟩;have il:i<rows.length:=by lia
  refine⟨Y,Y,av,r,rows,0+(i:Int),f,rk,rfl,Rs.same s2,Q,sd,Q,Q,hf,dn,by have:=rb (0+(i:Int));lia,_,ha,(by rw[cG,gN];exact aS ∅),Y,?_,bP cS s2 (aJ acc _ _)⟩;rw[af,List.range_succ,gJ,gJ,Int.zero_add];rfl
 ·rintro σ H2 ⟨u,rfl,ha,s2⟩;refine⟨acc,Y,bI.of ha,by rw[gN];lia,λM _ hM=>⟨Z,?_⟩⟩;refine k _ H2 (sm.trans s2) λz=>⟨R1,f,hf,λx x0 x1=>?_⟩;have y:=hM (f x) (List.mem_map.mpr ⟨x.toNat,List.mem_range.mpr ∅,by rw[show ((x.toNat:Nat):Int)=x by lia]⟩);have:=of_decide_eq_true z;lia
theorem cC{a b:Str}(h:a≠b){A B:Prop}(z:B):if decide (V.str a=V.str b)=true then A else B:=by
 rw[if_neg λy=>h (V.str.inj (of_decide_eq_true y))];exact z
theorem i9{a:Str}{A B:Prop}(z:A):if decide (V.str a=V.str a)=true then A else B:=by
 rw[if_pos (decide_eq_true rfl)];exact z
theorem Mm.at_{W:Addr->Prop}{H:Hp}{a:Addr}{rows:cR}(h:Mm W ik ps H a rows):gY (λ_=>False) H a rows:=by
 obtain⟨_,_,_,vs,hv,al⟩:=h;exact⟨vs,hv,al.mono λv es ⟨b,e,K,hb⟩=>⟨b,e,λz=>z,hb⟩⟩
theorem jE{rows:cR}{s:Int}(h:qH rows.length s):rows[s.toNat]?=some (own rows s):=by
 have:s.toNat<rows.length:=by have:=h.1;have:=h.2;lia
 unfold own;rw[uz this];rfl
class inductive JV
 | mk (W:Addr->Prop) (w d:Addr) (aK:gM) (pq:gS) (rows:cR) (n:Nat) (sh:Int->List Int) (dd:LD) (_:vs=[.ref w,.ref d]) (_:Wo W H w aK pq rows) (_:dd.At H d) (_:Gd n rows sh) (_:dd.Ok n rows.length sh) (_:n<=10000) (_:∀ (o:Addr) (H':Hp),H' o=some (.lst ((dd.res sh rows).map V.int))->(dd.res sh rows).length<=100000->aI H H'->H o=none->Q (.ref o) H')
theorem jF:aF ["_law_world_here","_law_deed_here","_law_rows","_law_name","_law_kept","_law_taken"] ["_law_world_here","_law_deed_here"] (az qA):=eS
theorem Dv:‹(45,92,["_law_world_here","_law_deed_here"],JV)›:=λD=>by
 have rH:bw P w K mg zt cL 44 _ _ zl8 (HV 41):=HW D;have Cc:bw P w K mg zt cL 44 _ _ zl9 (OQ 41):=HX D;refine eU D.Zj.F jF λcV A zn s0 H vs Q E hr h=>?_;obtain⟨W,w,d,aK,pq,rows,n,sh,dd,rfl,wo,hd,g,ok,n10,k⟩:=h;have hu:=gC hr;exists _,(aj (aX (i:=2) jF.nd (gu hu (pv 0) bC)) (aj (aX (i:=3) jF.nd (aO br (pv 1) ay)) (aj (bN (aT dQ (pv 3) bC (bx _)) (au (aG (aC D.NP rH hr (aa (pv 2) (aa (aO br (pv 1) ay) (aa (aO br (pv 1) ay) (aa (aC D.Ze (Dn D) hr (aa (aO br (pv 1) ay) ah)) ah))))))) aZ) (aj (bN (aT dQ (pv 3) bC (bx _)) (au (aG (aO br (aC D.Vp Cc hr (aa (pv 2) (aa (aO br (pv 1) ay) (aa (aO br (pv 1) ay) (aa (aO br (pv 1) ay) ah))))) ay))) aZ) (aj (bN (aT dQ (pv 3) bC (bx _)) (aj (lP (aC D.Vp Cc hr (aa (pv 2) (aa (aO br (pv 1) ay) (aa (aO br (pv 1) ay) (aa (aO br (pv 1) ay) ah))))) (nj (n:=2) rfl (b8 (b9 (i:=4) jF.nd) (b8 (b9 (i:=5) jF.nd) gO)))) (au (aG (aC D.NP rH hr (aa (aC D.Vn (xE D) hr (aa (pv 2) (aa (aO br (pv 1) ay) (aa (pv 4) ah)))) (aa (aO br (pv 1) ay) (aa (aO br (pv 1) ay) (aa (pv 5) ah)))))))) aZ) (aj (bN (aT dQ (pv 3) bC (bx _)) (au (aG (aC D.NP rH hr (aa (pv 2) (aa (aO br (pv 1) ay) (aa (aO br (pv 1) ay) (aa (iS ly (aC D.EW (ig D 41) hr (aa (pv 2) (aa (aO br (pv 1) ay) ah))) (iY (aO br (pv 1) ay)) (iY (aO br (pv 1) ay))) ah))))))) aZ) (aj (bN (aT dQ (pv 3) bC (bx _)) (au (aG (aC D.NP rH hr (aa (pv 2) (aa (aO br (pv 1) ay) (aa (aO br (pv 1) ay) (aa (bM (aa (bG cN (gB eL ay) (aO br (pv 1) ay)) ah)) ah))))))) aZ) (aj (bN (aT dQ (pv 3) bC (bx _)) (au (aG (aC D.EW (ig D 41) hr (aa (pv 2) (aa (aO br (pv 1) ay) ah))))) aZ) (au (aG (aO bu (aO bu (gu hu (pv 0) bC) (aO br (pv 1) ay)) (aO br (pv 1) ay))))))))))));obtain⟨ik,jP,ps,vl,wu⟩:=id wo;have zr:=iN.k (k:=kR) wu.hw;rw[show cI (rP ik jP ps vl) kR=some (.ref jP) by kernel_rfl]at zr;have R:=wu.hr.at_;obtain⟨rk,rb,dn⟩:=g.sn.rk;have l40:=g.ln;have lr:rows.length<=1000:=by lia
 have rb':∀ s,rk s<=41:=λs=>by have:=rb s;lia
 have e25:∀ es∈rows,es.length<=25000:=λes he=>by have:=g.es es he;lia
 exists Y,w,Y,zr
 have kq:∀ {s p:Int} {new:List Int} {q o:Addr} {H1:Hp} {Q:VK} {E:XK},qH rows.length s->gY (λ_=>False) H1 q rows->H1 o=some (.lst (new.map V.int))->new.length<=25000->aI H H1->(∀ (o:Addr) (H':Hp),H' o=some (.lst ((fO sh p (own rows s) new).map V.int))->(fO sh p (own rows s) new).length<=100000->aI H H'->H o=none->Q (.ref o) H')->HV 41 [.ref q,.int s,.int p,.ref o] H1 Q E:=by
  intro s p new q o H1 Q E is R1 ho ln s1 k1;refine⟨_,q,o,rows,s,p,new,sh,rk,rfl,R1,lr,e25,g.sn.sd,g.sn.ss,g.sn.ln,dn,is.1,is.2,rb' s,ho,ln,λes o2 H2 nP h2 l2 s2 f2=>?_⟩;rw[jE is]at nP;cases nP;exact k1 o2 H2 h2 l2 (s1.trans s2) (bh s1 f2)
 cases dd with
 | put s p r row =>
  obtain⟨hd,OY⟩:=hd;obtain⟨is,ip,l2,hq⟩:=ok;exists Y,d,K,V,dH.of hd,t7;refine⟨Y,rfl,Y,i9 ?_⟩;have bd:=FJ (k:=40) (row:=row) λq h=>by have:=hq q h;lia
  refine⟨Y,Y,d,K,V,dH.of hd,uT,Y,d,K,V,dH.of hd,Av,Y,d,K,V,dH.of hd,Aw,r,row,rfl,OY,λq h=>by have:=hq q h;lia,Q,Q,λo1 H1 h1 s1 f1=>?_⟩;exact kq is (R.same s1) h1 ∅ s1 k
 | cut s a b =>
  obtain⟨is,i3⟩:=ok;exists Y,d,K,V,dH.of hd,t7;refine⟨Y,rfl,Y,cC nofun ⟨Y,rfl,Y,i9 ?_⟩⟩;refine⟨Y,Y,d,K,V,dH.of hd,uT,Y,d,K,V,dH.of hd,Av,Y,d,K,V,dH.of hd,Aw,_,jP,rows,s,a,b,sh,rk,rfl,R,lr,(λes he=>by have:=g.es es he;lia),g.sn.sd,g.sn.ss,g.sn.ln,dn,is.1,is.2,rb' s,i3.2.1,λes tu L M H1 nP ht hL hM s1 fL fM nLM=>?_⟩;rw[jE is]at nP;cases nP;refine⟨tu,K,V,dH.of ht,t7,k L H1 hL ?_ s1 fL⟩;have cl:=uo sh a b (own rows s);have ls:=g.sl s is.1 is.2;rw[g.sn.ss s _ is.1 (jE is)]at ls;have:=g.es _ (om (jE is));show (bR sh a b (own rows s)).length<=_;lia
 | RV s a b t =>
  obtain⟨is,mv⟩:=ok;have i3:=mv.1;have lo:=g.es _ (om (jE is));have e:=g.sn.ss s _ is.1 (jE is);have ls:=g.sl s is.1 is.2;rw[e]at ls;have cl:=uo sh a b (own rows s);have tl:=zT sh a b (own rows s);exists Y,d,K,V,dH.of hd,t7;refine⟨Y,rfl,Y,cC nofun ⟨Y,rfl,Y,cC nofun ⟨Y,rfl,Y,i9 ?_⟩⟩⟩;refine⟨Y,Y,d,K,V,dH.of hd,uT,Y,d,K,V,dH.of hd,Av,Y,d,K,V,dH.of hd,Aw,_,jP,rows,s,a,b,sh,rk,rfl,R,lr,(λes he=>by have:=g.es es he;lia),g.sn.sd,g.sn.ss,g.sn.ln,dn,is.1,is.2,rb' s,i3.2.1,λes tu L M H1 nP ht hL hM s1 fL fM nLM=>?_⟩;rw[jE is]at nP;cases nP;obtain⟨vs,hr1,al⟩:=R.same s1;have lv:=al.len;have is1:=is.1;have is2:=is.2;have KI:=s1 _ _ hd;exists tu,Y,dH.of ht,rfl,P,rfl,Z;refine⟨Y,Y,d,K,V,dH.of KI,uT,Y,jP,L,s.toNat,vs,(by rw[show ((s.toNat:Nat):Int)=s by lia];rfl),hr1,Q,Q,λq H2 hq s2 fq=>?_⟩;have hd2:=s2 _ _ KI;obtain⟨sg,RR⟩:=OW (a:=a) (b:=b) g.sn.sd rb dn g.sn.ss g.sn.ln is.1 is.2 (jE is) i3.2.1
  have RW:(rows.set s.toNat (bR sh a b (own rows s)))[s.toNat]?=some (bR sh a b (own rows s)):=by
   rw[List.getElem?_set,if_pos rfl,if_pos ∅]
  have R2:gY (λ_=>False) H2 q (rows.set s.toNat (bR sh a b (own rows s))):=⟨_,hq,bX.set _ (al.mono λv es z=>fJ.same s2 z) ⟨L,rfl,λz=>z,s2 _ _ hL⟩⟩
  refine⟨Y,d,K,V,dH.of hd2,uT,Y,d,K,V,dH.of hd2,QM,Y,_,q,M,_,s,t,ic sh a b (own rows s),sg,rk,rfl,R2,by rw[List.length_set];lia,(λvt hm=>by
   rcases List.mem_or_eq_of_mem_set hm with z|z
   ·exact e25 vt z
   ·rw[z];lia),RR.snd,RR.N4,RR.bd,(λx y h=>dn x y (RR.nx x y h)),is.1,by rw[List.length_set];exact is.2,rb' s,s2 _ _ hM,Q,λvt o H3 Jp h3 l3 s3 f3=>?_⟩
  rw[RW]at Jp;cases Jp;rw[RX g.sn.sd rb dn g.sn.ss is.1 (jE is) i3.1 i3.2.1 i3.2.2 RR RW]at h3 l3;exact k o H3 h3 l3 (s1.trans (s2.trans s3)) (bh (s1.trans s2) f3)
 | TL t p s a b =>
  obtain⟨it,ip,is,i3⟩:=ok;exists Y,d,K,V,dH.of hd,t7;refine⟨Y,rfl,Y,cC nofun ⟨Y,rfl,Y,cC nofun ⟨Y,rfl,Y,cC nofun ⟨Y,rfl,Y,i9 ?_⟩⟩⟩⟩;have ls:=g.sl s is.1 is.2;refine⟨Y,Y,d,K,V,dH.of hd,uT,Y,d,K,V,dH.of hd,Av,Y,Y,d,K,V,dH.of hd,Aw,_,jP,rows,s,sh,rk,rfl,R,lr,g.sn.sd,is.1,is.2,g.sn.ss,g.sn.ln,dn,by have:=rb s;lia,λo1 H1 h1 s1 f1=>?_⟩;have KI:=s1 _ _ hd;refine⟨Y,d,K,V,dH.of KI,QM,Y,Y,d,K,V,dH.of KI,Ys,Y,o1,Y,bI.of h1,λq hq=>?_⟩;have s2:=ak hq (.lst (j3 ((sh s).map V.int) (some a) (some b)));have h2:(aP H1 q (.lst (j3 ((sh s).map V.int) (some a) (some b)))) q=some (.lst ((((sh s).take b.toNat).drop a.toNat).map V.int)):=by rw[af,Fv _ i3.1 (by have:=i3.1;have:=i3.2.1;lia),List.map_drop,List.map_take]
  generalize aP H1 q (.lst (j3 ((sh s).map V.int) (some a) (some b)))=H2 at s2 h2;exact kq it (R.same (s1.trans s2)) h2 (by rw[rK,gF];lia) (s1.trans s2) k
 | win t p s =>
  obtain⟨it,ip,is⟩:=ok;exists Y,d,K,V,dH.of hd,t7;refine⟨Y,rfl,Y,cC nofun ⟨Y,rfl,Y,cC nofun ⟨Y,rfl,Y,cC nofun ⟨Y,rfl,Y,cC nofun ⟨Y,rfl,Y,i9 ?_⟩⟩⟩⟩⟩;refine⟨Y,Y,d,K,V,dH.of hd,uT,Y,d,K,V,dH.of hd,Av,Y,Y,d,K,V,dH.of hd,Aw,Z,lD,λq hq=>?_⟩;exact kq it (R.same (ak hq _)) af (by show 1<=25000;decide) (ak hq _) k
 | fix s =>
  exists Y,d,K,V,dH.of hd,t7;refine⟨Y,rfl,Y,cC nofun ⟨Y,rfl,Y,cC nofun ⟨Y,rfl,Y,cC nofun ⟨Y,rfl,Y,cC nofun ⟨Y,rfl,Y,cC nofun ⟨Y,rfl,Y,i9 ?_⟩⟩⟩⟩⟩⟩;exact⟨Y,Y,d,K,V,dH.of hd,uT,_,jP,rows,s,sh,rk,rfl,R,lr,g.sn.sd,ok.1,ok.2,g.sn.ss,g.sn.ln,dn,by have:=rb s;lia,λo1 H1 h1 s1 f1=>k o1 H1 h1 (by have:=g.sl s ok.1 ok.2;show (sh s).length<=_;lia) s1 f1⟩
theorem OZ{n:Nat}{row:Row}(h:∀ z∈row,0<=z.1/\z.1<z.2/\z.2<=(n:Nat)):uh n row=true:=List.all_eq_true.mpr λq hq=>by
 have:=h q hq;unfold Pz;simp only[Bool.and_eq_true,decide_eq_true_eq];lia
def RY:Sp:=λ_ _ _ _=>False
theorem O0{k:Nat}{f:Addr}{ps:List Str}:bw P w K mg zt cL k f fd ps RY:=⟨λvs H Q E h=>h.elim,λA zn s H args us vs Q E _ _ _ _ h=>h.elim⟩
theorem aac{i:Int}(h0:0<=i)(h1:i<=20000):vz i:=by
 have a:(20000:Int)<10^60:=by decide
 exact⟨Q,Q⟩
class inductive O1(C CS CW CB:Addr)
 | mk (U:Addr->Prop) (x d:Addr) (pe:gS) (aB:iH) (aK:gM) (nW:Nat) (bU:Row) (rows:cR) (sh:Int->List Int) (dd:LD) (_:vs=[.ref x,.ref d]) (_:qg C CS CW CB U H x pe aB aK nW bU) (_:pe.getLast?=some rows) (_:pe.length<=900) (_:aB.length<=900) (_:aK.length<=10000) (_:dd.At H d) (_:Gd aK.length rows sh) (_:dd.Ok aK.length rows.length sh) (_:∃ f,lg (iW rows dd.sh.toNat (dd.res sh rows)) f) (_:∀ (U':Addr->Prop) (H':Hp) (eE:iH),eE.length=aB.length+1->qg C CS CW CB U' H' x (pe++[iW rows dd.sh.toNat (dd.res sh rows)]) eE aK nW bU->JO U U' H H'->Q .gm H')
theorem xF:aF ["_law_house","_law_deed_here","_law_name"] ["_law_house","_law_deed_here"] (az tP):=eS
theorem F0:‹(7,94,["_law_house","_law_deed_here"],(O1 C CS CW CB))›:=λD=>by
 have AX:bw P w K mg zt cL 4 (aY 59) (bf 59) ["self","hand","text"] RY:=O0;have zV:bw P w K mg zt cL 4 (aY 56) (bf 56) ["self"] RY:=O0;have AY:bw P w K mg zt cL 4 (aY 93) (bf 93) ["self","sheet","moment"] RY:=O0;refine eU D.Zk.F xF λcV A zn s0 H vs Q E hr h=>?_;obtain⟨U,x,d,pe,aB,aK,nW,bU,rows,sh,dd,rfl,LB,hl,l2,l3,l4,hd,g,ok,B,k⟩:=h;exists _,(aj (aX (i:=2) xF.nd (aO br (pv 1) ay)) (aj (bN (aT dQ (pv 2) bC (bx _)) (au (aG (cQ (pv 0) D.aM D.Vm AX hr bL (aa (aO br (pv 1) ay) (aa (aO br (pv 1) ay) ah))))) aZ) (aj (bN (aT dQ (pv 2) bC (bx _)) (au (aG (eO (pv 0) D.aM D.Vl zV hr bL))) aZ) (aj (bN (aT dQ (pv 2) bC (bx _)) (au (aG (cQ (pv 0) D.aM D.YU (zJ D) hr bL (aa (aO br (pv 1) ay) (aa (aO br (pv 1) ay) (aa (eT fZ rfl D.T.jf sN (aa (aO br (pv 1) ay) ah)) ah)))))) aZ) (aj (bN (aT dQ (pv 2) bC (bx _)) (au (aG (cQ (pv 0) D.aM D.YV (zK D) hr bL (aa (aO br (pv 1) ay) (aa (aO br (pv 1) ay) (aa (aO br (pv 1) ay) ah)))))) aZ) (aj (bN (aT dQ (pv 2) bC (bx _)) (au (aG (cQ (pv 0) D.aM D.Y0 (xZ D) hr bL (aa (aO br (pv 1) ay) (aa (aO br (pv 1) ay) (aa (aO br (pv 1) ay) (aa (aO br (pv 1) ay) ah))))))) aZ) (aj (bN (aT dQ (pv 2) bC (bx _)) (au (aG (cQ (pv 0) D.aM D.YW (wI D) hr bL (aa (aO br (pv 1) ay) (aa (aO br (pv 1) ay) (aa (aO br (pv 1) ay) (aa (aO br (pv 1) ay) (aa (aO br (pv 1) ay) ah)))))))) aZ) (aj (bN (aT dQ (pv 2) bC (bx _)) (au (aG (cQ (pv 0) D.aM D.YY (vm D) hr bL (aa (aO br (pv 1) ay) (aa (aO br (pv 1) ay) (aa (aO br (pv 1) ay) ah)))))) aZ) (aj (bN (aT dQ (pv 2) bC (bx _)) (au (aG (cQ (pv 0) D.aM D.YZ (zM D) hr bL (aa (aO br (pv 1) ay) ah)))) aZ) (au (aG (cQ (pv 0) D.aM D.acK AY hr bL (aa (aO br (pv 1) ay) (aa (aO br (pv 1) ay) ah))))))))))))));have l40:=g.ln;have l1:rows.length<=50:=by lia
 have sn:=g.sn;have one:∀ {l:List Nat},(aB++[l]).length=aB.length+1:=λ{l}=>by rw[dB];rfl
 have kq:∀ {s:Int},qH rows.length s->vz s:=λz=>aac z.1 (by have:=z.2;lia);have Wd:∀ {s p:Int},qH rows.length s->0<=p->p<=(sh s).length->vz p:=λz p0 p1=>aac p0 (by have:=g.sl _ z.1 z.2;lia);obtain⟨S',VS,d',WD,Mp,bl',kn',du',bk',dS',Cm,Gr,dw',sg',ow',pw',db',tb',HS,LU⟩:=id LB;have hx:=LU.L.hx
 cases dd with
 | put s p r row =>
  obtain⟨hd,OY⟩:=hd;obtain⟨is,ip,r2,hq⟩:=ok;have hh:=OZ (n:=aK.length) (row:=row) λz h=>by have:=hq z h;exact⟨this.1,this.2.1,this.2.2.1⟩
  obtain⟨as,ha,pa⟩:=id OY;exists Y,d,K,V,dH.of hd,t7;refine⟨Y,rfl,Y,cC nofun ⟨Y,rfl,Y,cC nofun ⟨Y,rfl,Y,i9 ?_⟩⟩⟩;refine⟨Y,x,d',Y,hx,rfl,Y,d,K,V,dH.of hd,uT,Y,d,K,V,dH.of hd,Av,Y,d,K,V,dH.of hd,Aw,r,Y,.inl (bI.of ha),λq Um=>?_⟩;have s1:=ak Um (.lst (as.map V.ref));have Rg:cE (aP H q (.lst (as.map V.ref))) q row:=⟨as,af,pa.same s1⟩;generalize aP H q (.lst (as.map V.ref))=H1 at s1 Rg;refine⟨U,x,q,pe,aB,aK,nW,bU,row,s,p,rows,rfl,LB.same s1,Rg,⟨Q,λz h=>by have:=hq z h;exact⟨⟨Q,Q⟩,⟨Q,Q⟩⟩⟩,Q,hl,l1,l2,l3,kq is,Wd is ip.1 ip.2,is,hh,⟨sh,sn,ip,λes nP=>?_⟩⟩;rw[jE is]at nP;cases nP
  have ee:dz (cK (cA row))=bO row:=by
   rw[nZ,m7 _ λq h=>by have:=hq q h;lia]
  rw[ee];exact⟨B,λU' H' L' fr=>k U' H' _ one L' (fr.pre s1)⟩
 | cut s a b =>
  obtain⟨is,i3⟩:=ok;exists Y,d,K,V,dH.of hd,t7;refine⟨Y,rfl,Y,cC nofun ⟨Y,rfl,Y,cC nofun ⟨Y,rfl,Y,cC nofun ⟨Y,rfl,Y,i9 ?_⟩⟩⟩⟩;refine⟨Y,x,d',Y,hx,rfl,Y,d,K,V,dH.of hd,uT,Y,d,K,V,dH.of hd,Av,Y,d,K,V,dH.of hd,Aw,U,x,pe,aB,aK,nW,bU,s,a,b,rows,rfl,LB,hl,l1,l2,l3,kq is,Wd is i3.1 (by have:=i3.2.1;have:=i3.2.2;lia),Wd is (by have:=i3.2.1;have:=i3.1;lia) i3.2.2,is,⟨sh,sn,i3,λes nP=>?_⟩⟩;rw[jE is]at nP;cases nP;exact⟨B,λU' H' L' fr=>k U' H' _ one L' fr⟩
 | RV s a b t =>
  obtain⟨is,mv⟩:=ok;have i3:=mv.1;have i1:=i3.1;have i2:=i3.2.1;have i4:=i3.2.2;have i5:=mv.2;have sl:=g.sl s is.1 is.2;exists Y,d,K,V,dH.of hd,t7;refine⟨Y,rfl,Y,cC nofun ⟨Y,rfl,Y,cC nofun ⟨Y,rfl,Y,cC nofun ⟨Y,rfl,Y,cC nofun ⟨Y,rfl,Y,i9 ?_⟩⟩⟩⟩⟩;refine⟨Y,x,d',Y,hx,rfl,Y,d,K,V,dH.of hd,uT,Y,d,K,V,dH.of hd,Av,Y,d,K,V,dH.of hd,Aw,Y,d,K,V,dH.of hd,QM,U,x,pe,aB,aK,nW,bU,s,a,b,t,rows,rfl,LB,hl,l1,l2,l3,kq is,⟨Q,Q⟩,⟨Q,Q⟩,⟨Q,Q⟩,is,⟨sh,sn,mv,λes nP=>?_⟩⟩;rw[jE is]at nP;cases nP;exact⟨B,λU' H' L' fr=>k U' H' _ one L' fr⟩
 | TL t p s a b =>
  obtain⟨it,ip,is,i3⟩:=ok;exists Y,d,K,V,dH.of hd,t7;refine⟨Y,rfl,Y,cC nofun ⟨Y,rfl,Y,cC nofun ⟨Y,rfl,Y,cC nofun ⟨Y,rfl,Y,cC nofun ⟨Y,rfl,Y,cC nofun ⟨Y,rfl,Y,i9 ?_⟩⟩⟩⟩⟩⟩;refine⟨Y,x,d',Y,hx,rfl,Y,d,K,V,dH.of hd,uT,Y,d,K,V,dH.of hd,Av,Y,d,K,V,dH.of hd,Aw,Y,d,K,V,dH.of hd,QM,Y,d,K,V,dH.of hd,Ys,U,x,pe,aB,aK,nW,bU,t,p,s,a,b,rows,rfl,LB,hl,l1,l2,l3,kq it,Wd it ip.1 ip.2,kq is,Wd is i3.1 (by have:=i3.2.1;have:=i3.2.2;lia),Wd is (by have:=i3.2.1;have:=i3.1;lia) i3.2.2,it,is,⟨sh,sn,i3,⟨ip,λes nP=>?_⟩⟩⟩;rw[jE it]at nP;cases nP;exact⟨B,λU' H' L' fr=>k U' H' _ one L' fr⟩
 | win t p s =>
  obtain⟨it,ip,is⟩:=ok;exists Y,d,K,V,dH.of hd,t7;refine⟨Y,rfl,Y,cC nofun ⟨Y,rfl,Y,cC nofun ⟨Y,rfl,Y,cC nofun ⟨Y,rfl,Y,cC nofun ⟨Y,rfl,Y,cC nofun ⟨Y,rfl,Y,cC nofun ⟨Y,rfl,Y,i9 ?_⟩⟩⟩⟩⟩⟩⟩;refine⟨Y,x,d',Y,hx,rfl,Y,d,K,V,dH.of hd,uT,Y,d,K,V,dH.of hd,Av,Y,d,K,V,dH.of hd,Aw,U,x,pe,aB,aK,nW,bU,t,p,s,rows,rfl,LB,hl,l1,l2,l3,kq it,Wd it ip.1 ip.2,kq is,it,is,⟨sh,sn,ip,λes nP=>?_⟩⟩;rw[jE it]at nP;cases nP;exact⟨B,λU' H' L' fr=>k U' H' _ one L' fr⟩
 | fix s =>
  exists Y,d,K,V,dH.of hd,t7;refine⟨Y,rfl,Y,cC nofun ⟨Y,rfl,Y,cC nofun ⟨Y,rfl,Y,cC nofun ⟨Y,rfl,Y,cC nofun ⟨Y,rfl,Y,cC nofun ⟨Y,rfl,Y,cC nofun ⟨Y,rfl,Y,cC nofun ⟨Y,rfl,Y,i9 ?_⟩⟩⟩⟩⟩⟩⟩⟩;refine⟨Y,x,d',Y,hx,rfl,Y,d,K,V,dH.of hd,uT,U,x,pe,aB,aK,nW,bU,s,rows,rfl,LB,hl,l1,l2,l3,kq ok,ok,⟨sh,sn,B,λU' H' L' fr=>k U' H' _ one L' fr⟩⟩
class inductive O2
 | mk (l c w:Addr) (W:Addr->Prop) (aK:gM) (pq:gS) (rq:cR) (_:vs=[.ref l,.ref w]) (_:cT H l c) (_:Wo W H w aK pq rq) (_:(∀ a,W a->a≠l/\a≠c)) (_:aK.length<=50000) (_ :
 ∀ (r:Addr) (row:Row) (H':Hp),row.length<=2->cE H' r row->(∀ p∈row,0<=p.1/\p.1<p.2/\p.2<=aK.length/\p.2<=p.1+40)->H r=none->cT H' l c->cH l H H'->Q (.ref r) H')
theorem gz:aF ["_law_src_here","_law_world_here","_law_many","_law_row","_law_k","_law_start","_law_span"] ["_law_src_here","_law_world_here"] (az nH):=eS
theorem zW:‹(2,95,["_law_src_here","_law_world_here"],O2)›:=λD=>by
 have bV:bw P w K mg zt cL 1 _ _ Wq tW:=gc D;specialize eU D.Zl.F gz;obtain⟨l,c,w,W,aK,pq,rq,rfl,S,wo,dw,b1,k⟩:=h;have hu:=gC hr;exists _,(aj (aX (i:=2) gz.nd (fm D.T.eV (gu hu (pv 1) bC))) (aj (aX (i:=3) gz.nd (bM ah)) (aj (d9 PassesOwn.never rfl (iA rfl D.T.i7 (aa (bG GI (aC D.xq bV hr (aa (pv 0) (aa ay ah))) (cD (qZ rfl) rfl D.T.JC PyProof.Rows.boot_min (aa ay (aa (pv 2) ah)))) ah)) (b9 (i:=4) gz.nd) (aj (aX (i:=5) gz.nd (aC D.xq bV hr (aa (pv 0) (aa (cD (qY rfl) rfl D.T.ES PyProof.Rows.boot_max (aa ay (aa (pv 2) ah))) ah)))) (aj (aX (i:=6) gz.nd (bG dh ay (aC D.xq bV hr (aa (pv 0) (aa (cD (qY rfl) rfl D.T.ES PyProof.Rows.boot_max (aa ay (aa (cD (qZ rfl) rfl D.T.JC PyProof.Rows.boot_min (aa (aO bu (bM (aa ay (aa ay (aa ay (aa ay ah))))) (aC D.xq bV hr (aa (pv 0) (aa ay ah)))) (aa (bG cN (pv 2) (pv 5)) ah))) ah))) ah))))) (au (bg (dM pW jN jO bS (pv 3) (aa (cW (aa (pv 5) (aa (bG dh (pv 5) (pv 6)) ah))) ah))))))) (au (aG (pv 3))))));obtain⟨ik,rw,ps,vl,wu⟩:=id wo;obtain⟨as,DX,pa⟩:=id wu.hi;have la:=Paired.length pa;have zi:=iN.k (k:=kI) wu.hw;rw[show cI (rP ik rw ps vl) kI=some (.ref ik) by kernel_rfl]at zi;exists Y,w,Y,zi,ik,Y,.inl (bI.of DX);refine⟨iP,λr xr=>?_⟩;have s1:=ak xr (.lst []);have r1:(aP H r (.lst [])) r=some (.lst []):=af;have nr:=S.ne xr;have S1:=S.same s1;generalize aP H r (.lst [])=H1 at s1 r1 S1;refine⟨Y,l,c,3,rfl,S1,E,E,λv H2 v0 v1 S2 k2=>?_⟩;rw[show (as.map V.ref).length=aK.length by rw[cG,la]];exists Y,P,rfl,Z,.inl ⟨Q,Q⟩
 have hm:∃ n:Nat,(v*(if (aK.length:Int)<1 then (aK.length:Int) else 1))=n/\n<=2/\(0<n->1<=aK.length):=by
  split
  ·rename_i z;refine⟨0,?_,Q,Q⟩;rw[show (aK.length:Int)=0 by lia];exact Int.mul_zero _
  ·exact⟨v.toNat,by rw[Int.mul_one];lia,Q,λ_=>by lia⟩
 obtain⟨n,en,n2,n1⟩:=hm
 have hM:(if (aK.length:Int) > 1 then (aK.length:Int) else 1)=if 1<=aK.length then (aK.length:Int) else 1:=by split <;> split <;> lia
 refine⟨n,congrArg (λz=>[V.int z]) en,Q,Q,lI (lo:=0) (n:=((n:Nat):Int).toNat) (λj σ H3=>∃ (u4 u5 u6:Option V) (row:Row),σ=[some (.ref l),some (.ref w),some (.int (aK.length:Nat)),some (.ref r),u4,u5,u6]/\cE H3 r row/\row.length=j/\(∀ p∈row,0<=p.1/\p.1<p.2/\p.2<=aK.length/\p.2<=p.1+40)/\cT H3 l c/\cH l H H3) ⟨none,none,none,[],rfl,⟨[],(k2 r nr.1.symm).trans r1,.nil⟩,rfl,(λp hp=>nomatch hp),S2,(gA.aI.keep s1).trans (ck k2)⟩ ?_ ?_⟩
 ·rintro j σ H3 hj ⟨u4,u5,u6,row,rfl,R3,lr,hp,S3,K3⟩;have hk:1<=aK.length:=n1 ∅;rw[if_pos hk]at hM;refine⟨Y,Y,P,rfl,l,c,Y,S3,(by rw[hM];lia),(by rw[hM];lia),λa H4 a0 a1 S4 k4=>?_⟩;rw[hM]at a1;refine⟨Y,CO,λt ht=>?_⟩;have s5:=ak ht (.lst [.int 4,.int 4,.int 4,.int 40]);have h5:(aP H4 t (.lst [.int 4,.int 4,.int 4,.int 40])) t=some (.lst [.int 4,.int 4,.int 4,.int 40]):=af;have nt:=S4.ne ht;have S5:=S4.same s5;generalize aP H4 t (.lst [.int 4,.int 4,.int 4,.int 40])=H5 at s5 h5 S5;refine⟨Y,l,c,4,rfl,S5,E,E,λi H6 i0 i1 S6 k6=>?_⟩;obtain⟨z,hz,ez⟩:=FH (xs:=[V.int 4,.int 4,.int 4,.int 40]) i0 (by show i<4;lia)
  obtain⟨q,rfl,q0,q1⟩:∃ q:Int,z=.int q/\4<=q/\q<=40:=by
   rcases List.mem_cons.mp hz with y|hz
   ·exact⟨4,y,E,E⟩
   rcases List.mem_cons.mp hz with y|hz
   ·exact⟨4,y,E,E⟩
   rcases List.mem_cons.mp hz with y|hz
   ·exact⟨4,y,E,E⟩
   ·exact⟨40,List.mem_singleton.mp hz,E,E⟩
  exists t,K,V,bI.of ((k6 t nt.1.symm).trans h5),ez
  have hX:∃ x:Int,(if (if (aK.length:Int)-a<q then (aK.length:Int)-a else q) > 1 then (if (aK.length:Int)-a<q then (aK.length:Int)-a else q) else 1)=x/\1<=x/\x<=aK.length-a/\x<=40:=⟨Y,by split <;> split <;> lia,by split <;> split <;> lia,by split <;> split <;> lia⟩
  obtain⟨M,eM,M1,M2,M3⟩:=hX;refine⟨Y,Y,Z,P,rfl,P,rfl,l,c,Y,S6,(by rw[eM];lia),(by rw[eM];lia),λb H7 b0 b1 S7 k7=>⟨Z,?_⟩⟩;rw[eM]at b1;have K7:cH l H3 H7:=(((ck k4).trans (gA.aI.keep s5)).trans (ck k6)).trans (ck k7);obtain⟨bs,hb,pb⟩:=R3;obtain⟨ls,hl⟩:=S3.lst;have hb7:=K7 _ _ hb nr.1.symm;have pb7:bQ H7 bs row:=pb.tups λa xs e=>K7 _ _ e (dG e hl);have lb:=Paired.length pb;refine⟨Y,.inl ⟨rfl,_,bI.of hb7⟩,Y,Y,Y,Z,nK,λp SI=>⟨r,Z,ak SI _ _ _ hb7,(by rw[cG];exact aS ∅),?_⟩⟩;have sp:=ak SI (.tup [.int a,.int (a+(1+b))]);have p8:(aP H7 p (.tup [.int a,.int (a+(1+b))])) p=some (.tup [.int a,.int (a+(1+b))]):=af;have hb8:=sp _ _ hb7;have S8:=S7.same sp;have K8:cH l H (aP H7 p (.tup [.int a,.int (a+(1+b))])):=(K3.trans K7).trans (gA.aI.keep sp);have pb8:=bQ.snoc (p:=(a,a+(1+b))) (pb7.same sp) p8;refine⟨K,row++[(a,a+(1+b))],rfl,⟨bs++[p],by rw[gJ];exact af,pb8.tups λy xs e=>?_⟩,by rw[dB,lr];rfl,λy hy=>?_,?_,λy ob e n=>?_⟩
  ·exact (aL (dG e hb8)).trans e
  ·rcases List.mem_append.mp hy with hy|hy
   ·exact hp y hy
   ·rw[List.mem_singleton.mp hy];exact⟨a0,by show a<a+(1+b);lia,by show a+(1+b)<=_;lia,by show a+(1+b)<=a+40;lia⟩
  ·obtain⟨n,ns,i,d,r',e1,e2,h3⟩:=S8;exact⟨n,ns,i,d,r',(aL nr.1).trans e1,(aL nr.2).trans e2,h3⟩
  ·exact (aL (aA e xr)).trans (K8 _ _ e n)
 rintro σ H3 ⟨u4,u5,u6,row,rfl,R3,lr,hp,S3,K3⟩;exact⟨Y,k r row H3 ∅ R3 hp xr S3 K3⟩
class inductive O5
 | mk (l c:Addr) (s m:Int) (_:vs=[.ref l,.int s,.int m]) (_:cT H l c) (_:0<=m) (_:m<=10000) (_:∀ (a b u:Int) (t:Addr) (dd:LD) (H':Hp),Mv a b u m->(dd=.cut s a b\/dd=.RV s a b u)->dd.At H' t->cT H' l c->cH l H H'->Q (.ref t) H')
theorem mQ:aF ["_law_src_here","_law_sheet","_law_room","_law_start","_law_stop"] ["_law_src_here","_law_sheet","_law_room"] (az nI):=eS
theorem zX:‹(2,96,["_law_src_here","_law_sheet","_law_room"],O5)›:=λD=>by
 have bV:bw P w K mg zt cL 1 _ _ Wq tW:=gc D;refine eU D.Zm.F mQ λcV A zn s0 H vs Q E hr h=>?_;obtain⟨l,c,s,m,rfl,S,m0,m1,k⟩:=h;exists _,(aj (aX (i:=3) mQ.nd (aC D.xq bV hr (aa (pv 0) (aa (bG dh (pv 2) ay) ah)))) (aj (aX (i:=4) mQ.nd (bG dh (pv 3) (aC D.xq bV hr (aa (pv 0) (aa (bG dh (bG cN (pv 2) (pv 3)) ay) ah))))) (aj (bN (aT dQ (aC D.xq bV hr (aa (pv 0) (aa ay ah))) ay (bx _)) (au (aG (cW (aa bC (aa (pv 1) (aa (pv 3) (aa (pv 4) ah))))))) aZ) (au (aG (cW (aa bC (aa (pv 1) (aa (pv 3) (aa (pv 4) (aa (aC D.xq bV hr (aa (pv 0) (aa (bG dh (bG dh (bG cN (pv 2) (pv 4)) (pv 3)) ay) ah))) ah)))))))))));refine⟨Y,Y,Z,l,c,Y,S,Q,Q,λa H1 a0 a1 S1 k1=>?_⟩;refine⟨Y,Y,Y,Y,Z,Z,l,c,Y,S1,Q,Q,λv H2 v0 v1 S2 k2=>⟨Z,?_⟩⟩;refine⟨Y,l,c,2,rfl,S2,E,E,λz H3 _ _ S3 k3=>⟨rfl,Y,?_⟩⟩;have K3:cH l H H3:=((ck k1).trans (ck k2)).trans (ck k3);refine cX (λ_=>?_) (λ_=>?_)
 ·refine⟨Y,Y,Y,CO,λt ht=>?_⟩;exact k a (a+v) 0 t (.cut s a (a+v)) _ ⟨⟨Q,Q,Q⟩,Q,Q⟩ (.inl rfl) af (S3.same (ak ht _)) (K3.trans (gA.aI.keep (ak ht _)))
 ·refine⟨Y,Y,Y,Y,Y,Y,Z,Y,Z,Z,l,c,Y,S3,Q,Q,λu H4 u0 u1 S4 k4=>⟨U6,λt ht=>?_⟩⟩;exact k a (a+v) u t (.RV s a (a+v) u) _ ⟨⟨Q,Q,Q⟩,Q,Q⟩ (.inr rfl) af (S4.same (ak ht _)) ((K3.trans (ck k4)).trans (gA.aI.keep (ak ht _)))
def LD.New(H:Hp):LD->Prop
 | .put _ _ r _=>H r=none
 | _=>True
class inductive O6
 | mk (W:Addr->Prop) (l c w:Addr) (aK:gM) (pq:gS) (rows:cR) (sh:Int->List Int) (_:vs=[.ref l,.ref w]) (_:cT H l c) (_:Wo W H w aK pq rows) (_:∀ a,W a->a≠l/\a≠c) (_:Gd aK.length rows sh) (_:1<=rows.length) (_:aK.length<=10000) (_:∀ (t:Addr) (dd:LD) (H':Hp),dd.At H' t->dd.Ok aK.length rows.length sh->dd.New H->cT H' l c->cH l H H'->Q (.ref t) H')
theorem gg:aF ["_law_src_here","_law_world_here","_law_rows","_law_way","_law_sheet","_law_other","_law_room","_law_place","_law_start"] ["_law_src_here","_law_world_here"] (az tQ):=eS
theorem F1:‹(43,97,["_law_src_here","_law_world_here"],O6)›:=λD=>by
 have bV:bw P w K mg zt cL 1 _ _ Wq tW:=gc D;refine eU D.Zn.F gg λcV A zn s0 H vs Q E hr h=>?_;obtain⟨W,l,c,w,aK,pq,rows,sh,rfl,S,wo,dw,g,r1,i1,k⟩:=h;have hu:=gC hr;exists _,(aj (aX (i:=2) gg.nd (gu hu (pv 1) bC)) (aj (aX (i:=3) gg.nd (aC D.xq bV hr (aa (pv 0) (aa ay ah)))) (aj (aX (i:=4) gg.nd (aC D.xq bV hr (aa (pv 0) (aa (fm D.T.eV (pv 2)) ah)))) (aj (aX (i:=5) gg.nd (aC D.xq bV hr (aa (pv 0) (aa (fm D.T.eV (pv 2)) ah)))) (aj (aX (i:=6) gg.nd (fm D.T.eV (aC D.EW (ig D 41) hr (aa (pv 2) (aa (pv 4) ah))))) (aj (aX (i:=7) gg.nd (aC D.xq bV hr (aa (pv 0) (aa (bG dh (pv 6) ay) ah)))) (aj (bN (aT kU (pv 3) ay (bx _)) (au (aG (cW (aa bC (aa (pv 4) (aa (pv 7) (aa (aC D.Zl (zW D) hr (aa (pv 0) (aa (pv 1) ah))) ah))))))) aZ) (aj (bN (aT kU (pv 3) ay (bx _)) (au (aG (aC D.Zm (zX D) hr (aa (pv 0) (aa (pv 4) (aa (pv 6) ah)))))) aZ) (aj (bN (aT kU (pv 3) ay (bx _)) (aj (aX (i:=6) gg.nd (fm D.T.eV (aC D.EW (ig D 41) hr (aa (pv 2) (aa (pv 5) ah))))) (aj (aX (i:=8) gg.nd (aC D.xq bV hr (aa (pv 0) (aa (bG dh (pv 6) ay) ah)))) (au (aG (cW (aa bC (aa (pv 4) (aa (pv 7) (aa (pv 5) (aa (pv 8) (aa (bG dh (pv 8) (aC D.xq bV hr (aa (pv 0) (aa (bG dh (bG cN (pv 6) (pv 8)) ay) ah)))) ah))))))))))) aZ) (aj (bN (aT kU (pv 3) ay (bx _)) (au (aG (cW (aa bC (aa (pv 4) (aa (pv 7) (aa (pv 5) ah))))))) aZ) (au (aG (cW (aa bC (aa (pv 4) ah)))))))))))))));obtain⟨ik,jP,ps,vl,wu⟩:=id wo;have zr:=iN.k (k:=kR) wu.hw;rw[show cI (rP ik jP ps vl) kR=some (.ref jP) by kernel_rfl]at zr;have l40:=g.ln;obtain⟨rk,rb,dn⟩:=id g.sn.rk;obtain⟨ls,hls⟩:=S.lst;have kp:∀ {H1:Hp},cH l H H1->gY (λ_=>False) H1 jP rows/\Wo W H1 w aK pq rows:=λ{H1} K1=>⟨(wu.hr.fr (λ_ z=>z) λa xs e wa _ _=>K1 _ _ e (dw a wa).1).at_,wo.fr (λa ob e z=>K1 _ _ e (dw a z).1) λa xs e=>K1 _ _ e (dG e hls)⟩
 have lv:∀ {H1:Hp},cH l H H1->∃ xs,H1 jP=some (.lst xs)/\xs.length=rows.length:=λ{H1} K1=>by
  obtain⟨xs,e,al⟩:=(kp K1).1;exact⟨xs,e,al.len⟩
 exists Y,w,Y,zr;refine⟨Y,l,c,13,rfl,S,E,E,λy H1 y0 y1 S1 k1=>?_⟩;have K1:cH l H H1:=ck k1;obtain⟨x1,e1,n1⟩:=lv K1;refine⟨Y,Y,jP,Y,.inl (bI.of e1),l,c,Y,S1,Q,Q,λs H2 a0 a1 S2 k2=>?_⟩;have K2:cH l H H2:=K1.trans (ck k2);obtain⟨x2,e2,n2⟩:=lv K2;refine⟨Y,Y,jP,Y,.inl (bI.of e2),l,c,Y,S2,Q,Q,λo H3 o0 o1 S3 k3=>?_⟩;have K3:cH l H H3:=K2.trans (ck k3);have is:qH rows.length s:=⟨a0,Q⟩;have io:qH rows.length o:=⟨o0,Q⟩;have ls:=g.sl s is.1 is.2;have lo:=g.sl o io.1 io.2;refine⟨Y,Y,_,jP,rows,s,sh,rk,rfl,(kp K3).1,Q,g.sn.sd,is.1,is.2,g.sn.ss,g.sn.ln,dn,by have:=rb s;lia,λq H4 hq s4 fq=>⟨q,Y,.inl (bI.of hq),?_⟩⟩;rw[cG];have K4:cH l H H4:=K3.trans (gA.aI.keep s4);refine⟨Y,Y,Z,l,c,Y,S3.same s4,Q,Q,λp H5 p0 p1 S5 k5=>?_⟩;have K5:cH l H H5:=K4.trans (ck k5);have ip:0<=p/\p<=(sh s).length:=⟨p0,Q⟩;refine⟨Y,Z,Y,cX (λ_=>?_) (λ_=>?_)⟩
 ·refine⟨Y,Y,Y,Y,l,c,w,W,aK,pq,rows,rfl,S5,(kp K5).2,dw,Q,λr row H6 r2 OY hq fr S6 K6=>⟨CO,λt ht=>?_⟩⟩;have st:=ak ht (.tup [.str "put",.int s,.int p,.ref r]);refine k t (.put s p r row) _ ⟨af,OY.same st⟩ ⟨is,ip,r2,hq⟩ ?_ (S6.same st) ((K5.trans K6).trans (gA.aI.keep st));show H r=none
  cases e:H r with
  | none=>rfl
  | some ob =>
   exfalso;by_cases n:r=l
   ·obtain⟨_,hl5⟩:=S5.lst;rw[n,hl5]at fr;cases fr
   ·rw[K5 _ _ e n]at fr;cases fr
 refine⟨Y,Z,Y,cX (λ_=>?_) (λ_=>?_)⟩
 ·refine⟨Y,Y,Y,l,c,s,Y,S5,Q,Q,λa b u t dd H6 mv hdd PJ S6 K6=>k t dd H6 PJ ?_ ?_ S6 (K5.trans K6)⟩
  ·rcases hdd with rfl|rfl
   ·exact⟨is,mv.1⟩
   ·exact⟨is,mv⟩
  ·rcases hdd with rfl|rfl <;> trivial
 refine⟨Y,Z,Y,cX (λ_=>?_) (λ_=>?_)⟩
 ·refine⟨Y,Y,_,jP,rows,o,sh,rk,rfl,(kp K5).1,Q,g.sn.sd,io.1,io.2,g.sn.ss,g.sn.ln,dn,by have:=rb o;lia,λq6 H6 hq6 s6 fq6=>⟨q6,Y,.inl (bI.of hq6),?_⟩⟩;rw[cG];refine⟨Y,Y,Z,l,c,Y,S5.same s6,Q,Q,λa H7 b0 b1 S7 k7=>?_⟩;refine⟨Y,Y,Y,Y,Y,Y,Y,Y,Z,Z,l,c,Y,S7,Q,Q,λv H8 v0 v1 S8 k8=>⟨Z,Yr,λt ht=>?_⟩⟩;have st:=ak ht (.tup [.str "quote",.int s,.int p,.int o,.int a,.int (a+v)]);exact k t (.TL s p o a (a+v)) _ af ⟨is,ip,io,Q,Q,Q⟩ trivial (S8.same st) ((((K5.trans (gA.aI.keep s6)).trans (ck k7)).trans (ck k8)).trans (gA.aI.keep st))
 refine⟨Y,Z,Y,cX (λ_=>?_) (λ_=>?_)⟩
 ·refine⟨Y,Y,Y,CO,λt ht=>?_⟩;have st:=ak ht (.tup [.str "window",.int s,.int p,.int o]);exact k t (.win s p o) _ af ⟨is,ip,io⟩ trivial (S5.same st) (K5.trans (gA.aI.keep st))
 ·refine⟨Y,nK,λt ht=>?_⟩;have st:=ak ht (.tup [.str "fix",.int s]);exact k t (.fix s) _ af is trivial (S5.same st) (K5.trans (gA.aI.keep st))
theorem LD.At.tup{H:Hp}{t:Addr}{dd:LD}(h:dd.At H t):∃ vs,H t=some (.tup vs)/\pX vs 1=some (.int dd.sh):=by
 cases dd with
 | put=>exact⟨_,h.1,rfl⟩
 | _=>exact⟨_,h,rfl⟩
theorem LD.At.kept{H H':Hp}{t:Addr}{dd:LD}(h:dd.At H t)(tp:∀ a xs,H a=some (.tup xs)->H' a=some (.tup xs))(kr:∀ s p r row,dd=.put s p r row->∀ xs,H r=some (.lst xs)->H' r=some (.lst xs)):dd.At H' t:=by
 cases dd with
 | put s p r row =>
  obtain⟨h1,as,ha,pa⟩:=h;exact⟨tp _ _ h1,as,kr _ _ _ _ rfl _ ha,pa.tups tp⟩
 | _=>exact tp _ _ h
class inductive zY(C CS CW CB:Addr)
 | mk (l c w x:Addr) (U W:Addr->Prop) (pe:gS) (rows:cR) (aB:iH) (aK:gM) (nW:Nat) (bU:Row) (_:vs=[.ref l,.ref w,.ref x]) (_:oj C CS CW CB H l c w x U W pe rows pe rows aB aK nW bU) (_:1<=rows.length) (_:pe.length<=800) (_:aB.length<=800) (_:aK.length<=10000) (_:Good aK.length rows) (_:∀ (U' W':Addr->Prop) (Mj:gS) (rows':cR) (eE:iH) (H':Hp),oj C CS CW CB H' l c w x U' W' Mj rows' Mj rows' eE aK nW bU->rows'.length=rows.length->Mj.length<=pe.length+1->eE.length<=aB.length+1->Good aK.length rows'->DY l U W U' W' H H'->Q (.bl true) H')
theorem qS:aF ["_law_src_here","_law_world_here","_law_house","_law_deed_here","_law_rows"] ["_law_src_here","_law_world_here","_law_house"] (az tR):=eS
theorem F2(D:Ds K mg aY bf C CS CW CB CT CD)(HY:bw P w K mg zt cL 43 (aY 97) (bf 97) ["_law_src_here","_law_world_here"] O6)(F3:bw P w K mg zt cL 45 (aY 92) (bf 92) ["_law_world_here","_law_deed_here"] JV)(HZ:bw P w K mg zt cL 43 (aY 91) (bf 91) ["_law_rows","_law_sheet"] OX)(Ia:bw P w K mg zt cL 7 (aY 94) (bf 94) ["_law_house","_law_deed_here"] (O1 C CS CW CB)):bw P w K mg zt cL 46 (aY 98) (bf 98) ["_law_src_here","_law_world_here","_law_house"] (zY C CS CW CB):=by
 refine eU D.Zo.F qS λcV A zn s0 H vs Q E hr h=>?_;obtain⟨l,c,w,x,U,W,pe,rows,aB,aK,nW,bU,rfl,St,r1,b1,b2,b3,gd,k⟩:=h;have hu:=gC hr;exists _,(aj (aX (i:=3) qS.nd (aC D.Zn HY hr (aa (pv 0) (aa (pv 1) ah)))) (aj (aX (i:=4) qS.nd (aC D.Vn (xE D) hr (aa (gu hu (pv 1) bC) (aa (aO br (pv 3) ay) (aa (aC D.Zj F3 hr (aa (pv 1) (aa (pv 3) ah))) ah))))) (aj (bN (gi (gw (aC D.Zi HZ hr (aa (pv 4) (aa (aO br (pv 3) ay) ah))))) (au (aG jL)) aZ) (aj (bg (aC D.QT (qP D) hr (aa (pv 1) (aa (pv 4) ah)))) (au (aG (Mw (GA (aC D.Zk Ia hr (aa (pv 2) (aa (pv 3) ah)))))))))));obtain⟨sh,g⟩:=gd.TJ;have l40:=g.ln;refine⟨Y,Y,W,l,c,w,aK,pe,rows,sh,rfl,St.src,St.wo,St.dw,g,r1,Q,λt dd H1 PJ ok nw S1 K1=>?_⟩;have AZ:=St.mv K1 S1;obtain⟨ls,hls⟩:=St.src.lst;have tl:∀ {a:Addr} {xs:List V},H a=some (.tup xs)->H1 a=some (.tup xs):=λe=>K1 _ _ e (dG e hls);obtain⟨ik,jP,ps,vl,wu⟩:=id AZ.wo;have zr:=iN.k (k:=kR) wu.hw;rw[show cI (rP ik jP ps vl) kR=some (.ref jP) by kernel_rfl]at zr;obtain⟨_,_,_,xs,hxs,al⟩:=id wu.hr;have lv:=bX.len al;obtain⟨tv,ht,ht1⟩:=PJ.tup;have is:=LD.Wb ok;have is1:=is.1;have is2:=is.2;have ss:((dd.sh.toNat:Nat):Int)=dd.sh:=by lia
 refine⟨Y,w,Y,zr,Y,t,K,V,dH.of ht,ht1,Y,Y,W,w,t,aK,pe,rows,aK.length,sh,dd,rfl,AZ.wo,PJ,g,ok,Q,λo H2 ho lo s2 fo=>?_⟩;refine⟨jP,o,dd.sh.toNat,xs,by rw[ss];rfl,s2 _ _ hxs,Q,Q,λq H3 hq s3 fq=>?_⟩;have xP:=s2.trans s3;have fq1:=bh s2 fq;have ne:=LD.Wc g ok;have en':=OT (s:=dd.sh.toNat) g.en ne;have R3:gY (λ_=>False) H3 q (rows.set dd.sh.toNat (dd.res sh rows)):=⟨_,hq,bX.set _ (al.mono λv es ⟨b,e,K,hb⟩=>⟨b,e,λz=>z,xP _ _ hb⟩) ⟨o,rfl,λz=>z,s3 _ _ ho⟩⟩;have hl3:(rows.set dd.sh.toNat (dd.res sh rows)).length=rows.length:=List.length_set
 refine⟨Y,Y,t,K,V,dH.of (xP _ _ ht),ht1,_,q,_,dd.sh,rfl,R3,Q,(λes he=>by
  rcases List.mem_or_eq_of_mem_set he with z|z
  ·have:=g.es es z;lia
  ·rw[z];exact lo),Du en',is1,Q,OR is1 g.sn.rk,λb H4 s4 hb=>⟨b,rfl,?_⟩⟩
 have AK:=xP.trans s4;have Wf:=AZ.same AK
 cases b with
 | false=>exact jr (k U W pe rows aB H4 Wf rfl ∅ ∅ gd ⟨λa z=>z.elim .inl λy=>.inr (.inl y),λa ob e n _ _=>AK _ _ (K1 _ _ e n),λa xs e=>AK _ _ (tl e)⟩)
 | true =>
  refine d7 ?_;obtain⟨R5,f5,w5,m5⟩:=hb rfl;have gd':Good aK.length (rows.set dd.sh.toNat (dd.res sh rows)):=⟨en',R5,Q,f5,w5,m5⟩;have wu4:LK W H4 w ik jP ps vl aK pe rows:=wu.fr (λa ob e _=>AK _ _ e) λa xs e=>AK _ _ e;have nq:=AZ.new fq1;have no:=AZ.new fo;obtain⟨WO,rv⟩:=Wo.swap wu4 (AK _ _ hxs) (s4 _ _ hq) (s4 _ _ (s3 _ _ ho)) nq.2.1 no.2.1;refine⟨Y,Y,_,w,q,aK,pe,rows,rows.set dd.sh.toNat (dd.res sh rows),rfl,⟨ik,jP,ps,vl,WO⟩,Q,λik' vA ⟨rw2,vl',ee⟩=>?_,λH5 RZ Po tp5 _=>?_⟩
  ·rw[wu4.hw]at ee;simp only[Option.some.injEq,HO.dK.injEq,rP,List.cons.injEq,Prod.mk.injEq,V.ref.injEq,true_and,and_true]at ee;obtain⟨rfl,rfl,rfl,rfl⟩:=ee;exact rv
  have St5:=Wf.kept RZ (λa z y=>by
   rcases y with y|y|y
   ·exact (St.du a z).1 y
   ·exact no.1 (by rw[← y];exact z)
   ·exact nq.1 (by rw[← y];exact z)) (λa y=>by
   rcases y with y|y|y
   ·exact St.dw a y
   ·rw[y];exact no.2.2
   ·rw[y];exact nq.2.2) Po tp5
  have adX:dd.At H5 t:=(PJ.same AK).kept tp5 λs p r row ed xs' hr'=>by
   rw[ed]at nw PJ;have nr:=St.new (show H r=none from nw);obtain⟨_,as,ha,_⟩:=PJ;refine Po _ _ hr' λy=>?_;rcases y with y|y|y
   ·exact nr.2.1 y
   ·rw[y,fo]at ha;cases ha
   ·rw[y,fq1]at ha;cases ha
  refine⟨Y,Y,U,x,t,pe,aB,aK,nW,bU,rows,sh,dd,rfl,St5.PB,St5.lst,Q,Q,b3,adX,g,ok,by rw[FI _ ∅];exact gd'.bears,λU' H6 eE ll L6 G8=>?_⟩;obtain⟨F4,_⟩:=St5.adH L6 (rows':=iW rows dd.sh.toNat (dd.res sh rows)) (by simp) G8;rw[FI _ ∅]at F4;show Q (.bl (decide (V.gm=V.gm))) H6;rw[decide_eq_true rfl]
  have fz:∀ {a:Addr},H1 a=none->H a=none:=λ{a} e=>by
   cases ea:H a with
   | none=>rfl
   | some ob =>
    by_cases n:a=l
    ·obtain⟨ls1,Eo⟩:=AZ.src.lst;rw[n,Eo]at e;cases e
    ·rw[K1 _ _ ea n]at e;cases e
  have wz:∀ a,W a\/a=o\/a=q->W a\/H a=none:=λa y=>by
   rcases y with y|y|y
   ·exact .inl y
   ·rw[y];exact .inr (fz fo)
   ·rw[y];exact .inr (fz fq1)
  refine k U' _ _ _ eE H6 F4 hl3 (by rw[dB];exact gh _) ∅ gd' ⟨λa z=>?_,λa ob e n u v=>?_,λa xs e=>G8.2.2 _ _ (tp5 _ _ (AK _ _ (tl e)))⟩
  ·rcases z with z|z
   ·rcases G8.1 a z with y|y
    ·exact .inl y
    ·by_cases v:W a\/a=o\/a=q
     ·exact .inr (wz a v)
     ·refine .inr (.inr (fz ?_))
      cases e1:H1 a with
      | none=>rfl
      | some ob=>rw[Po _ _ (AK _ _ e1) v]at y;cases y
   ·exact .inr (wz a z)
  ·refine G8.2.1 _ _ (Po _ _ (AK _ _ (K1 _ _ e n)) λy=>?_) u;rcases wz a y with y|y
   ·exact v y
   ·rw[y]at e;cases e
theorem R0{H3 H7:Hp}{t:Addr}{h:Int}{cs:List Nat}{i ch:Nat}{bs:List Addr}(cS:H3 acc=none)(hi:cs[i]?=some ch)(hb:H7 acc=some (.lst (bs.map V.ref)))(pb:Paired (JP H7) bs (pM h (cs.take i)))(s7:aI H3 H7)(ht:H7 t=none):(aP (aP H7 t (.tup [.int h,yo ch])) acc (.lst (bs.map V.ref++[.ref t]))) acc=some (.lst ((bs++[t]).map V.ref))/\Paired (JP (aP (aP H7 t (.tup [.int h,yo ch])) acc (.lst (bs.map V.ref++[.ref t])))) (bs++[t]) (pM h (cs.take (i+1)))/\aI H3 (aP (aP H7 t (.tup [.int h,yo ch])) acc (.lst (bs.map V.ref++[.ref t]))):=by
 refine⟨?_,?_,λb ob e=>?_⟩
 ·rw[af,gJ];rfl
 ·have nta:t≠acc:=(aA hb ht).symm;rw[take_snoc hi];unfold pM;rw[gJ];refine Dj (Paired.Gz pb λa q e=>?_) ?_
  ·show aP _ acc _ a=_;rw[aL (dG e hb)];exact ak ht _ _ _ e
  ·show aP _ acc _ t=_;rw[aL nta];exact af
 ·rw[aL (aA e cS)];exact ak ht _ _ _ (s7 _ _ e)
class inductive LP(C CS CW CB:Addr)
 | mk (l c w x:Addr) (U W:Addr->Prop) (pe:gS) (rows:cR) (pq:gS) (rq:cR) (aB:iH) (aK:gM) (nW:Nat) (bU:Row) (_:vs=[.ref l,.ref w,.ref x]) (_:oj C CS CW CB H l c w x U W pe rows pq rq aB aK nW bU) (_:pe.length<=800) (_:pq.length<=800) (_:rows.length<=50) (_:aB.length<=800) (_:aK.length<=50000) (_:nW<=800) (_ :
 ∀ (U':Addr->Prop) (H':Hp) (h:Int) (cs:List Nat) (eE:iH),cs.length<=60->eE.length=aB.length+1->oj C CS CW CB H' l c w x U' W (pe++[rows]) rows (pq++[rq]) rq eE (aK++pM h cs) (nW+1) bU->DY l U W U' W H H'->Q (.bl true) H')
def lpT:TS:=λD σ H=>∃ (l c:Addr) (s1 s2 s3 s4 s6:Option V) (h:Int),σ=[some (.ref l),s1,s2,s3,s4,some (.int h),s6]/\cT H l c/\vf h/\∀ (h':Int) (H':Hp),vf h'->cT H' l c->(∀ a,a≠l->H' a=H a)->D.nx [some (.ref l),s1,s2,s3,s4,some (.int h'),s6] H'
theorem jh:aF ["_law_src_here","_law_world_here","_law_house","_law_many","_law_text_here","_law_hand","_law_start"] ["_law_src_here","_law_world_here","_law_house"] (az pB):=eS
theorem F5:‹(5,99,["_law_src_here","_law_world_here","_law_house"],(LP C CS CW CB))›:=λD=>by
 have bV:bw P w K mg zt cL 1 _ _ Wq tW:=gc D;specialize eU D.Zp.F jh;obtain⟨l,c,w,x,U,W,pe,rows,pq,rq,aB,aK,nW,bU,rfl,St,b1,b1',b2,b3,b4,b5,k⟩:=h;have hu:=gC hr;refine⟨_,(aj (aX (i:=3) jh.nd (aO bu (bM (aa ay (aa ay (aa ay (aa ay (aa ay ah)))))) (aC D.xq bV hr (aa (pv 0) (aa ay ah))))) (aj (aX (i:=4) jh.nd (aC D.Zd (FF D) hr (aa (pv 0) (aa (aC D.xq bV hr (aa (pv 0) (aa (bG dh (pv 3) ay) ah))) ah)))) (aj (aX (i:=5) jh.nd (aC D.xq bV hr (aa (pv 0) (aa ay ah)))) (aj (G4 (t':=lpT) (bN (aT dQ (aC D.xq bV hr (aa (pv 0) (aa ay ah))) ay (bx _)) (au (aX (i:=5) jh.nd (aC D.xq bV hr (aa (pv 0) (aa (bG MA ay ay) ah))))) aZ) ?b3) (aj (aX (i:=6) jh.nd (fm D.T.eV (gu hu (pv 1) bC))) (aj (bg (dM pW PySem.F.slot_list_extend PySem.F.type_list_extend jQ (gu hu (pv 1) bC) (aa (gH (N:=["_law_sign_here","_law_hand"]) (mD (sc:=az pB) (NX:=["_law_src_here","_law_world_here","_law_house","_law_many","_law_text_here","_law_hand","_law_start"]) (jx:=[none,some 5]) rfl rfl rfl nofun nofun rfl nofun rfl nofun) rfl (UZ (pv 4)) (λ_ _ _ _ _ _=>(b9 (i:=0) (show List.Nodup (["_law_sign_here","_law_hand"]:List Str) by decide +kernel))) (λ_ _ _ _ _ _=>gP) (λ_ _ _ _ _ _=>(cW (aa (pv 1) (aa (pv 0) ah))))) ah))) (aj (bg (aC D.QT (qP D) hr (aa (pv 1) (aa (gu hu (pv 1) bC) ah)))) (au (aG (aC D.Mc (j5 D 2) hr (aa (cQ (pv 2) D.aM D.Vm (xY D) hr bL (aa (pv 5) (aa (pv 4) ah))) (aa (cW (aa (pv 6) (aa (bG dh (pv 6) (cD uG rfl D.T.eV PySem.boot_len (aa (pv 4) ah))) ah))) ah)))))))))))),?_⟩
 case b3 =>
  rintro D σ H ⟨l,c,s1,s2,s3,s4,s6,h,rfl,S,fh,k⟩;refine⟨Y,l,c,4,rfl,S,E,E,λv H1 v0 v1 S1 k1=>⟨rfl,Y,cX (λ_=>?_) (λ_=>k h H1 fh S1 k1)⟩⟩;refine⟨Y,Z,⟨E,E,E⟩,l,c,Y,S1,E,E,λv2 H2 q0 q1 S2 k2=>?_⟩;rw[show (10:Int)^(59:Int).toNat=10^59 from rfl]at q1;exact k v2 H2 ⟨q0,Int.lt_trans q1 (by decide)⟩ S2 λy hy=>(k2 y hy).trans (k1 y hy)
 refine⟨U6,λt ht=>?_⟩;have s1:=ak ht (.lst [.int 1,.int 3,.int 5,.int 8,.int 60]);have h1:(aP H t (.lst [.int 1,.int 3,.int 5,.int 8,.int 60])) t=some (.lst [.int 1,.int 3,.int 5,.int 8,.int 60]):=af;have nt:=St.src.ne ht;generalize aP H t (.lst [.int 1,.int 3,.int 5,.int 8,.int 60])=H1 at s1 h1;have AZ:=St.same s1;refine⟨Y,l,c,5,rfl,AZ.src,E,E,λi H2 i0 i1 S2 k2=>?_⟩;have WR:=AZ.mv (ck k2) S2;obtain⟨z,hz,ez⟩:=FH (xs:=[V.int 1,.int 3,.int 5,.int 8,.int 60]) i0 (by show i<5;lia)
 obtain⟨tn,rfl,Mi,WJ⟩:∃ j:Int,z=.int j/\0<=j/\j<=60:=by
  have key:∀ y∈[V.int 1,.int 3,.int 5,.int 8,.int 60],∃ j:Int,y=.int j/\0<=j/\j<=60:=by
   intro y hy;rcases List.mem_cons.mp hy with q|hy
   ·exact⟨1,q,E,E⟩
   rcases List.mem_cons.mp hy with q|hy
   ·exact⟨3,q,E,E⟩
   rcases List.mem_cons.mp hy with q|hy
   ·exact⟨5,q,E,E⟩
   rcases List.mem_cons.mp hy with q|hy
   ·exact⟨8,q,E,E⟩
   ·exact⟨60,List.mem_singleton.mp hy,E,E⟩
  exact key z hz
 exists t,K,V,bI.of ((k2 t nt.1.symm).trans h1),ez;refine⟨Y,Y,Y,Z,l,c,Y,S2,Q,Q,λm H3 m0 m1 S3 k3=>?_⟩;have WS:=WR.mv (ck k3) S3;refine⟨l,c,m.toNat,by rw[show ((m.toNat:Nat):Int)=m by lia];rfl,S3,Q,λcs H4 P5 S4 K4=>?_⟩;have Wf:=WS.mv K4 S4;refine⟨Y,l,c,3,rfl,S4,E,E,λh0 H5 p0 p1 S5 k5=>?_⟩;have St5:=Wf.mv (ck k5) S5;refine⟨l,c,K,P,h0,rfl,S5,⟨p0,Q⟩,λh H6 fh S6 k6=>?_⟩;have F4:=St5.mv (ck k6) S6;have K16:cH l H H6:=((((((gA.aI.keep s1).trans (ck k2)).trans (ck k3)).trans K4).trans (ck k5)).trans (ck k6));obtain⟨ik,rw,ps,vl,wu⟩:=id F4.wo;obtain⟨as,DX,pa⟩:=id wu.hi;have la:=Paired.length pa;have zi:=iN.k (k:=kI) wu.hw;rw[show cI (rP ik rw ps vl) kI=some (.ref ik) by kernel_rfl]at zi;exists Y,w,Y,zi,ik,Y,.inl (bI.of DX);refine⟨Y,w,Y,zi,.inl ⟨rfl,_,bI.of DX⟩,Y,cs,rfl,λacc cS=>KP (λj σ H7=>∃ (u:Option V) (bs:List Addr),σ=[u,some (.int h)]/\H7 acc=some (.lst (bs.map V.ref))/\Paired (JP H7) bs (pM h (cs.take j))/\aI H6 H7) ⟨none,[],rfl,af,.nil,ak cS _⟩ ?_ ?_⟩
 ·rintro j ch σ H7 hj ⟨u,bs,rfl,ha,pb,s7⟩;have lb:=Paired.length pb;rw[rF,gF]at lb;refine⟨Y,Y,nK,λt ht=>⟨_,ak ht _ _ _ ha,(by rw[cG];exact aS ∅),_,bs++[t],rfl,R0 cS hj ha pb s7 ht⟩⟩
 rintro σ H7 ⟨u,bs,rfl,ha,pb,s7⟩;rw[gR]at pb;have lb:=Paired.length pb;rw[rF]at lb;have aae:=s7 _ _ DX;refine⟨ik,acc,Z,aae,ha,(by rw[cG,cG];exact iz (aS ∅)),?_⟩;rw[← gJ];have k8:cH ik H7 (aP H7 ik (.lst ((as++bs).map V.ref))):=aJ ik _ _;have i8:(aP H7 ik (.lst ((as++bs).map V.ref))) ik=some (.lst ((as++bs).map V.ref)):=af;generalize aP H7 ik (.lst ((as++bs).map V.ref))=H8 at k8 i8;have O7:∀ a ob,H6 a=some ob->a≠ik->H8 a=some ob:=λa ob e n=>k8 _ _ (s7 _ _ e) n;have t68:∀ a xs,H6 a=some (.tup xs)->H8 a=some (.tup xs):=λa xs e=>O7 _ _ e (dG e DX);have VN:∀ a xs,H7 a=some (.tup xs)->H8 a=some (.tup xs):=λa xs e=>k8 _ _ e (dG e aae);have w8:H8 w=some (.dK (rP ik rw ps vl)):=O7 _ _ wu.hw (dG wu.hw DX);have hr8:Mm W ik ps H8 rw rq:=wu.hr.fr (λ_ z=>z) λa xs e _ n _=>O7 _ _ e n
 have wo8:LK W H8 w ik rw ps vl (aK++pM h cs) pq rq:=by
  obtain⟨Tv,hp,al⟩:=wu.hp;refine⟨wu.ww,wu.wi,wu.wp,wu.wv,λa z=>?_,w8,⟨as++bs,i8,AR (Paired.Gz pa λa q e=>t68 _ _ e) (Paired.Gz pb λa q e=>VN _ _ e)⟩,hr8,⟨Tv,O7 _ _ hp wu.ne.symm,al.mono λv rs ⟨a,e,q⟩=>⟨a,e,q.fr (λ_ y=>y) λa xs e _ n _=>O7 _ _ e n⟩⟩,wu.ne,wu.lst,O7 _ _ wu.hv wu.nv.1,wu.nv⟩;by_cases e:a=ik
  ·rw[e];exact⟨_,i8⟩
  ·obtain⟨ob,e2⟩:=wu.al a z;exact⟨ob,O7 _ _ e2 e⟩
 have adZ:=F4.PB.fr (λa ob e z=>O7 _ _ e (λq=>(F4.du a z).1 (by rw[q];exact wu.wi))) t68
 have ad0:cT H8 l c:=by
  obtain⟨n,ns,i,d,r,e1,e2,h3⟩:=S6;exact⟨n,ns,i,d,r,O7 _ _ e1 (λq=>(F4.dw ik wu.wi).1 q.symm),O7 _ _ e2 (λq=>(F4.dw ik wu.wi).2 q.symm),h3⟩
 have zr:=iN.k (k:=kR) w8;rw[show cI (rP ik rw ps vl) kR=some (.ref rw) by kernel_rfl]at zr;refine⟨Y,Y,w,Y,zr,W,w,rw,aK++pM h cs,pq,rq,rq,rfl,⟨ik,rw,ps,vl,wo8⟩,Q,λik' vA ⟨jP,vl',e⟩=>?_,λH9 wo9 fr9 tp9 _=>?_⟩
 ·rw[w8]at e;simp only[Option.some.injEq,HO.dK.injEq,rP,List.cons.injEq,Prod.mk.injEq,V.ref.injEq,true_and,and_true]at e;obtain⟨rfl,rfl,rfl,rfl⟩:=e;exact hr8
 have aaf:=adZ.fr (λa ob e z=>fr9 _ _ e (F4.du a z).1) tp9
 have Sb:cT H9 l c:=by
  obtain⟨n,ns,i,d,r,e1,e2,h3⟩:=ad0;exact⟨n,ns,i,d,r,fr9 _ _ e1 (λq=>(F4.dw l q).1 rfl),fr9 _ _ e2 (λq=>(F4.dw c q).2 rfl),h3⟩
 obtain⟨S',VS,d',WD,Mp,bl',kn',du',bk',dS',Cm,Gr,dw',sg',ow',pw',db',tb',HS,LU⟩:=id aaf;refine⟨Y,x,d',Y,LU.L.hx,rfl,Y,Y,U,x,pe,aB,aK,nW,bU,h,cs,rows,rfl,aaf,fh,Q,Q,Q,F4.lst,b2,Q,Q,λU' q L7 aag F6 hq=>?_⟩;refine⟨Y,Y,Y,fD cs,rfl,(by rw[pF];exact iz (aS ∅)),Z,nK,λt2 Hh=>?_⟩;refine⟨P,rfl,.inr ⟨false,q,t2,Z,ak Hh _ _ _ hq,af,rfl,λi u v eu ev=>?_⟩,λYi ad2=>?_⟩
 ·match i,eu,ev with
  | 0,eu,ev =>
   cases eu;cases ev;rw[show (as.map V.ref).length=aK.length by rw[cG,la]];exact Eqv.int _
  | 1,eu,ev =>
   cases eu;cases ev;rw[show ((aK++pM h cs).length:Int)=((as.map V.ref).length:Int)+((fD cs).length:Int) by rw[cG,la,pF,dB,rF];lia];exact Eqv.int _
 have jH:aI L7 Yi:=λa ob e=>ad2 _ _ (ak Hh _ _ _ e);have VO:∀ a ob,H a=some ob->a≠l->¬ W a->H9 a=some ob:=λa ob e n z=>fr9 _ _ (O7 _ _ (K16 _ _ e n) (λq=>z (by rw[q];exact wu.wi))) z
 have f09:∀ a,H9 a=none->H a=none:=by
  intro a e
  cases ea:H a with
  | none=>rfl
  | some ob =>
   exfalso;by_cases n:a=l
   ·obtain⟨_,ns,i,d,r,e1,_⟩:=Sb;rw[n,e1]at e;cases e
   by_cases z:W a
   ·obtain⟨ob,e2⟩:=wo9.al z;rw[e2]at e;cases e
   rw[VO _ _ ea n z]at e;cases e
 have aah:cT Yi l c:=by
  obtain⟨n,ns,i,d,r,e1,e2,h3⟩:=Sb;exact⟨n,ns,i,d,r,jH _ _ (F6.2.1 _ _ e1 (λq=>(F4.du l q).2.1 rfl)),jH _ _ (F6.2.1 _ _ e2 (λq=>(F4.du c q).2.2 rfl)),h3⟩
 refine k U' Yi h cs _ ∅ (by rw[dB];rfl) ⟨aah,aag.fr (λa ob e _=>jH _ _ e) (λa xs e=>jH _ _ e),(by simp),wo9.fr (λa ob e z=>jH _ _ (F6.2.1 _ _ e (λy=>(F4.du a y).1 z))) (λa xs e=>jH _ _ (F6.2.2 _ _ e)),λa z=>?_,F4.dw⟩ ⟨λa z=>z.elim (λz=>(F6.1 a z).elim .inl λy=>.inr (.inr (f09 a y))) (λz=>.inr (.inl z)),λa ob e n y z=>jH _ _ (F6.2.1 _ _ (VO _ _ e n z) y),λa xs e=>?_⟩
 ·rcases F6.1 a z with y|y
  ·exact F4.du a y
  ·refine⟨λz=>?_,λq=>?_,λq=>?_⟩
   ·obtain⟨ob,e2⟩:=wo9.al z;rw[e2]at y;cases y
   ·obtain⟨_,ns,i,d,r,e1,_⟩:=Sb;rw[q,e1]at y;cases y
   ·obtain⟨_,ns,i,d,r,_,e1,_⟩:=Sb;rw[q,e1]at y;cases y
 ·obtain⟨ls,hl⟩:=St.src.lst;exact jH _ _ (F6.2.2 _ _ (tp9 _ _ (t68 _ _ (K16 _ _ e (dG e hl)))))
class inductive Ib(C CS CW CB:Addr)
 | mk (l c w x:Addr) (U W:Addr->Prop) (pe:gS) (rows:cR) (pq:gS) (rq:cR) (aB:iH) (aK:gM) (nW:Nat) (bU:Row) (_:vs=[.ref w,.ref x]) (_:oj C CS CW CB H l c w x U W pe rows pq rq aB aK nW bU) (_:pe.length<=800) (_:pq.length<=800) (_:rows.length<40) (_:rq.length=rows.length) (_:aB.length<=800) (_:(∃ f,lg (rows++[[]]) f)) (_ :
 ∀ (U' W':Addr->Prop) (H':Hp) (eE:iH),eE.length=aB.length+1->oj C CS CW CB H' l c w x U' W' (pe++[rows++[[]]]) (rows++[[]]) (pq++[rq++[[]]]) (rq++[[]]) eE aK nW bU->DY l U W U' W' H H'->Q (.bl true) H')
theorem Dw:aF ["_law_world_here","_law_house"] ["_law_world_here","_law_house"] (az qB):=eS
theorem Dy:‹(8,100,["_law_world_here","_law_house"],(Ib C CS CW CB))›:=λD=>by
 specialize eU D.SS.F Dw;obtain⟨l,c,w,x,U,W,pe,rows,pq,rq,aB,aK,nW,bU,rfl,St,b1,b1',b2,b2',b3,B,k⟩:=h;have hu:=gC hr;exists _,(aj (bg (aC D.QT (qP D) hr (aa (pv 0) (aa (bG jo (gu hu (pv 0) bC) (bM (aa (bM ah) ah))) ah)))) (au (aG (aC D.Mc (j5 D 1) hr (aa (eO (pv 1) D.aM D.Vl (wG D) hr bL) (aa (bG cN (fm D.T.eV (gu hu (pv 0) bC)) ay) ah))))));obtain⟨ik,rw,ps,vl,wu⟩:=id St.wo;have zr:=iN.k (k:=kR) wu.hw;rw[show cI (rP ik rw ps vl) kR=some (.ref rw) by kernel_rfl]at zr;exists Y,Y,w,Y,zr;obtain⟨wrw,n1,n2,vs,hvs,al⟩:=id wu.hr;have lv:=bX.len al;refine⟨iP,λe he=>⟨lD,λo ho=>?_⟩⟩;have s1:=ak he (.lst []);have e1:(aP H e (.lst [])) e=some (.lst []):=af;generalize aP H e (.lst [])=H1 at s1 e1 ho;have s2:=ak ho (.lst [.ref e]);have o2:(aP H1 o (.lst [.ref e])) o=some (.lst [.ref e]):=af;show XM _ _ (aP H1 o (.lst [.ref e])) _;generalize aP H1 o (.lst [.ref e])=H2 at s2 o2;have s02:=s1.trans s2;refine⟨rw,o,Z,s02 _ _ hvs,o2,(by rw[lv];exact iz (aS (by simp only[mS,rL];lia))),λr JF=>?_⟩;have s3:=ak JF (.lst (vs++[.ref e]));have r3:(aP H2 r (.lst (vs++[.ref e]))) r=some (.lst (vs++[.ref e])):=af;generalize aP H2 r (.lst (vs++[.ref e]))=H3 at s3 r3;have Oj:=s02.trans s3;have fr:=bh s02 JF;obtain⟨as,DX,_⟩:=id wu.hi;obtain⟨Tv,JR,_⟩:=id wu.hp;have e3:=s3 _ _ (s2 _ _ e1);have wu3:LK W H3 w ik rw ps vl aK pq rq:=wu.fr (λa ob e _=>Oj _ _ e) (λa xs e=>Oj _ _ e)
 have WO:LK (λa=>W a\/a=e\/a=r) H3 w ik rw ps vl aK pq rq:=oj.Tw wu3 (λa z=>.inl z) (by
  rintro a (z|z|z)
  ·exact wu3.al a z
  ·rw[z];exact⟨_,e3⟩
  ·rw[z];exact⟨_,r3⟩)
 have Z7:∀ a ob,H a=some ob->¬ W a->¬ (W a\/a=e\/a=r):=by
  rintro a ob h0 n (z|z|z)
  ·exact n z
  ·rw[z,he]at h0;cases h0
  ·rw[z,fr]at h0;cases h0
 refine⟨λa=>W a\/a=e\/a=r,w,r,aK,pq,rq,rq++[[]],rfl,⟨ik,rw,ps,vl,WO⟩,Q,λik' vA ⟨jP,vl',ee⟩=>?_,λH4 wo4 fr4 tp4 _=>?_⟩
 ·rw[wu3.hw]at ee;simp only[Option.some.injEq,HO.dK.injEq,rP,List.cons.injEq,Prod.mk.injEq,V.ref.injEq,true_and,and_true]at ee;obtain⟨rfl,rfl,rfl,rfl⟩:=ee;exact⟨.inr (.inr rfl),(aA DX fr).symm,(aA JR fr).symm,_,r3,bX.snoc (al.mono λ_ _=>Tu.fr (λa z=>.inl z) (λa xs e _ _ _=>Oj _ _ e)) ⟨e,rfl,.inr (.inl rfl),(aA DX he).symm,(aA JR he).symm,e3⟩⟩
 have Tn:∀ a ob,H a=some ob->¬ W a->H4 a=some ob:=λa ob e n=>fr4 _ _ (Oj _ _ e) (Z7 _ _ e n);have t04:∀ a xs,H a=some (.tup xs)->H4 a=some (.tup xs):=λa xs e=>tp4 _ _ (Oj _ _ e);have ad6:=St.PB.fr (λa ob e z=>Tn _ _ e (St.du a z).1) t04
 have Wg:cT H4 l c:=by
  obtain⟨n,ns,i,d,r,e1,e2,h3⟩:=St.src;exact⟨n,ns,i,d,r,Tn _ _ e1 (λq=>(St.dw l q).1 rfl),Tn _ _ e2 (λq=>(St.dw c q).2 rfl),h3⟩
 have uw:∀ a,U a->¬ (W a\/a=e\/a=r):=λa z=>by
  obtain⟨ob,h0⟩:=St.PB.al z;exact Z7 _ _ h0 (St.du a z).1
 obtain⟨S',VS,d',WD,Mp,bl',kn',du',bk',dS',Cm,Gr,dw',sg',ow',pw',db',tb',HS,LU⟩:=id ad6;refine⟨Y,x,d',Y,LU.L.hx,rfl,S',x,d',WD,Mp,bl',kn',du',bk',dS',Cm,Gr,pe,HS,aB,rows,rfl,LU.L,St.lst,Q,Q,Q,Q,⟨B,λS'' H5 L5 Po=>?_⟩⟩;obtain⟨U',ad7,fu⟩:=LU.m9 L5 Po;have RZ:=wo4.fr (λa ob e z=>fu.2.1 _ _ e (λy=>uw a y z)) fu.2.2;obtain⟨ik5,rw5,ps5,vl5,wu5⟩:=id RZ;obtain⟨_,_,_,vs5,ad9,al5⟩:=id wu5.hr;have lv5:=bX.len al5;rw[dB]at lv5;have zr5:=iN.k (k:=kR) wu5.hw;rw[show cI (rP ik5 rw5 ps5 vl5) kR=some (.ref rw5) by kernel_rfl]at zr5;refine⟨Y,w,Y,zr5,rw5,Y,.inl (bI.of ad9),Z,P,rfl,.inl ⟨rfl,?_⟩,λH6 s6=>?_⟩
 ·rw[lv5];simp only[mS,rL];congr 1;lia
 have k06:∀ a ob,H a=some ob->¬ U a->¬ W a->H6 a=some ob:=λa ob e y z=>s6 _ _ (fu.2.1 _ _ (Tn _ _ e z) y)
 have aea:cT H6 l c:=by
  obtain⟨n,ns,i,d,r,e1,e2,h3⟩:=Wg;exact⟨n,ns,i,d,r,s6 _ _ (fu.2.1 _ _ e1 (λq=>(St.du l q).2.1 rfl)),s6 _ _ (fu.2.1 _ _ e2 (λq=>(St.du c q).2.2 rfl)),h3⟩
 have f04:∀ a,H4 a=none->H a=none:=by
  intro a h0
  cases ea:H a with
  | none=>rfl
  | some ob =>
   exfalso;by_cases z:W a
   ·obtain⟨ob,e2⟩:=wo4.al (a:=a) (.inl z);rw[e2]at h0;cases h0
   rw[Tn _ _ ea z]at h0;cases h0
 refine k U' (λa=>W a\/a=e\/a=r) H6 _ (by rw[dB];rfl) ⟨aea,ad7.same s6,by simp,RZ.same s6,λa z=>?_,λa z=>?_⟩ ⟨λa z=>z.elim (λz=>(fu.1 a z).elim .inl λy=>.inr (.inr (f04 a y))) (λz=>?_),λa ob e n y z=>k06 _ _ e y z,λa xs e=>s6 _ _ (fu.2.2 _ _ (t04 _ _ e))⟩
 ·rcases fu.1 a z with y|y
  ·exact⟨uw a y,(St.du a y).2⟩
  ·change H4 a=none at y;refine⟨λz=>?_,λq=>?_,λq=>?_⟩
   ·obtain⟨ob,e2⟩:=wo4.al z;rw[e2]at y;cases y
   ·obtain⟨_,ns,i,d,r,e1,_⟩:=Wg;rw[q,e1]at y;cases y
   ·obtain⟨_,ns,i,d,r,_,e1,_⟩:=Wg;rw[q,e1]at y;cases y
 ·have ne:=St.src.ne he;have nr:=St.src.ne fr;rcases z with z|z|z
  ·exact St.dw a z
  ·rw[z];exact⟨ne.1.symm,ne.2.symm⟩
  ·rw[z];exact⟨nr.1.symm,nr.2.symm⟩
 ·rcases z with z|z|z
  ·exact .inr (.inl z)
  ·rw[z];exact .inr (.inr he)
  ·rw[z];exact .inr (.inr fr)
abbrev e0(n:Nat):cR:=List.replicate n []
theorem JW(n:Nat):e0 n++[[]]=e0 (n+1):=(List.replicate_succ').symm
theorem wO{n:Nat}{es:List Int}(h:es∈e0 n):es=[]:=(List.mem_replicate.mp h).2
theorem Wh{n:Nat}{x y:Int}:¬ jM (e0 n) x y:=λ⟨_,es,he,hy⟩=>by
 rw[wO (om he)]at hy;cases hy
theorem O8(n:Nat):gr (e0 n):=λes he y hy=>by
 rw[wO he]at hy;cases hy
theorem O9(n:Nat):BI (e0 n):=⟨λ_=>0,λ_=>Nat.zero_le _,λ_ _ z=>absurd z Wh⟩
theorem Pa{n:Nat}(h:n<=100):lg (e0 n) λ_=>0:=by
 refine⟨by rw[yx];exact h,λes he=>by rw[wO he];exact Nat.zero_le _,O8 n,O9 n,λx es _ he=>?_,λ_ _ _=>by decide⟩;rw[wO (om he)];rfl
def zZ(n:Nat):gS:=[[],[],[]]++(List.range n).map λk=>e0 (k+1)
theorem LQ(n:Nat):zZ (n+1)=zZ n++[e0 (n+1)]:=by
 unfold zZ;rw[List.range_succ,gJ,mU];rfl
theorem Aa(n:Nat):(zZ n).length=n+3:=by
 unfold zZ;rw[dB,cG,List.length_range];show 3+n=_;lia
class inductive uq(C CS CW CB:Addr)
 | mk (l c w x:Addr) (U W:Addr->Prop) (_:vs=[.ref l,.ref w,.ref x]) (_:oj C CS CW CB H l c w x U W [[]] [] [[]] [] [] [] 0 []) (_ :
 ∀ (U' W':Addr->Prop) (H':Hp) (n:Nat) (aK:gM) (aB:iH),2<=n->n<=4->aK.length<=120->aB.length=n+2->oj C CS CW CB H' l c w x U' W' (zZ n) (e0 n) (zZ n) (e0 n) aB aK 2 []->DY l U W U' W' H H'->Q (.bl true) H')
theorem iG:aF ["_law_src_here","_law_world_here","_law_house","_law_good","_law_k"] ["_law_src_here","_law_world_here","_law_house"] (az qC):=eS
theorem Dz:‹(9,101,["_law_src_here","_law_world_here","_law_house"],(uq C CS CW CB))›:=λD=>by
 specialize eU D.SV.F iG;obtain⟨l,c,w,x,U,W,rfl,St,k⟩:=h;have hu:=gC hr;exists _,(aj (aX (i:=3) iG.nd jL) (aj (d9 PassesOwn.never rfl (iA rfl D.T.i7 (aa ay ah)) (b9 (i:=4) iG.nd) (au (aX (i:=3) iG.nd (ni (aC D.Zp (F5 D) hr (aa (pv 0) (aa (pv 1) (aa (pv 2) ah)))) (oB (pv 3)))))) (aj (d9 PassesOwn.never rfl (iA rfl D.T.i7 (aa (bG dh ay (aC D.xq (gc D) hr (aa (pv 0) (aa ay ah)))) ah)) (b9 (i:=4) iG.nd) (au (aX (i:=3) iG.nd (ni (aC D.SS (Dy D) hr (aa (pv 1) (aa (pv 2) ah))) (oB (pv 3)))))) (au (aG (pv 3))))));have f0:DY l U W U W H H:=⟨λa z=>z.elim .inl λy=>.inr (.inl y),λa ob e _ _ _=>e,λ_ _ e=>e⟩;exists 2,rfl,E,E;refine lI (lo:=0) (n:=(2:Int).toNat) (λj σ H1=>∃ (u4:Option V) (U1 W1:Addr->Prop) (aK:gM) (aB:iH),σ=[some (.ref l),some (.ref w),some (.ref x),some (.bl true),u4]/\oj C CS CW CB H1 l c w x U1 W1 (List.replicate (j+1) []) [] (List.replicate (j+1) []) [] aB aK j []/\aK.length<=60*j/\aB.length=j/\DY l U W U1 W1 H H1) ⟨none,U,W,[],[],rfl,St,gh _,rfl,f0⟩ ?_ ?_
 ·rintro j σ H1 hj ⟨u4,U1,W1,aK,aB,rfl,AZ,li,ll,f1⟩;have hj2:j<2:=hj;refine⟨Y,Y,Y,l,c,w,x,U1,W1,K,_,aB,aK,j,[],rfl,AZ,(by rw[yx];lia),(by rw[yx];lia),(by show 0<=50;decide),Q,Q,Q,λU2 H2 h cs Wi P5 Bm WR f2=>?_⟩;rw[← List.replicate_succ']at WR;have g:∃ (u4:Option V) (U3 W3:Addr->Prop) (aai:gM) (eE:iH),[some (.ref l),some (.ref w),some (.ref x),some (.bl true),some (V.int (0+(j:Int)))]=[some (.ref l),some (.ref w),some (.ref x),some (V.bl true),u4]/\oj C CS CW CB H2 l c w x U3 W3 (List.replicate (j+1+1) []) [] (List.replicate (j+1+1) []) [] eE aai (j+1) []/\aai.length<=60*(j+1)/\eE.length=j+1/\DY l U W U3 W3 H H2:=⟨_,U2,W1,_,Wi,rfl,WR,(by rw[dB,rF];lia),Q,f1.trans (by obtain⟨ls,hl⟩:=AZ.src.lst;exact⟨_,hl⟩) f2⟩;exists true,rfl;rw[if_pos rfl];exact⟨Y,g⟩
 rintro σ H1 ⟨u4,U1,W1,aK,aB,rfl,AZ,li,ll,f1⟩;refine⟨Y,l,c,3,rfl,AZ.src,E,E,λv H2 v0 v1 S2 k2=>⟨Z,2+v,rfl,Q,Q,?_⟩⟩;have WR:=AZ.mv (ck k2) S2
 have f2:DY l U W U1 W1 H H2:=f1.trans (by obtain⟨ls,hl⟩:=AZ.src.lst;exact⟨_,hl⟩) ⟨λa z=>z.elim .inl λy=>.inr (.inl y),λa ob e n _ _=>(ck k2) _ _ e n,λa xs e=>by
  obtain⟨ls,hl⟩:=AZ.src.lst
  exact (ck k2) _ _ e (dG e hl)⟩
 clear f1;refine lI (lo:=0) (n:=(2+v).toNat) (λj σ H3=>∃ (u4:Option V) (U3 W3:Addr->Prop) (aB:iH),σ=[some (.ref l),some (.ref w),some (.ref x),some (.bl true),u4]/\oj C CS CW CB H3 l c w x U3 W3 (zZ j) (e0 j) (zZ j) (e0 j) aB aK 2 []/\aB.length=j+2/\DY l U W U3 W3 H H3) ⟨u4,U1,W1,aB,rfl,WR,ll,f2⟩ ?_ ?_
 ·rintro j σ H3 hj ⟨u4,U3,W3,aB,rfl,WS,ll,f3⟩;have hj2:j<4:=by lia
  refine⟨Y,Y,l,c,w,x,U3,W3,K,_,aB,aK,2,[],rfl,WS,(by rw[Aa];lia),(by rw[Aa];lia),(by rw[yx];lia),rfl,Q,⟨_,by rw[JW];exact Pa ∅⟩,λU4 W4 H4 Wj hl4 Wf f4=>?_⟩;rw[JW,← LQ]at Wf;have g:∃ (u4:Option V) (U5 W5:Addr->Prop) (eE:iH),[some (.ref l),some (.ref w),some (.ref x),some (.bl true),some (V.int (0+(j:Int)))]=[some (.ref l),some (.ref w),some (.ref x),some (V.bl true),u4]/\oj C CS CW CB H4 l c w x U5 W5 (zZ (j+1)) (e0 (j+1)) (zZ (j+1)) (e0 (j+1)) eE aK 2 []/\eE.length=j+1+2/\DY l U W U5 W5 H H4:=⟨_,U4,W4,Wj,rfl,Wf,Q,f3.trans (by obtain⟨ls,hl⟩:=WS.src.lst;exact⟨_,hl⟩) f4⟩;exists true,rfl;rw[if_pos rfl];exact⟨Y,g⟩
 rintro σ H3 ⟨u4,U3,W3,aB,rfl,WS,ll,f3⟩;exact⟨Y,k U3 W3 H3 (2+v).toNat aK aB ∅ ∅ (by have:(2:Int).toNat=2:=rfl;lia) ll WS f3⟩
class inductive Pb
 | mk (W:Addr->Prop) (w o:Addr) (aK:gM) (pe:gS) (rows:cR) (ns:List Int) (_:vs=[.ref w,.ref o]) (_:Wo W H w aK pe rows) (_:H o=some (.lst (ns.map V.int))) (_:ns.length<=1000) (_:∀ a∈ns,0<=a/\a<(aK.length:Nat)) (_:∀ H',aI H H'->Q (.str (fD (ns.map (Di aK)))) H')
theorem qT:aF ["_law_world_here","_law_numbers","_law_signs","_law_number"] ["_law_world_here","_law_numbers"] (az tS):=eS
theorem F7:‹(1,102,["_law_world_here","_law_numbers"],Pb)›:=λD=>by
 refine eU D.SX.F qT λcV A zn s0 H vs Q E hr h=>?_;obtain⟨W,w,o,aK,pe,rows,ns,rfl,wo,ho,ln,hin,k⟩:=h;have hu:=gC hr;exists _,(aj (aX (i:=2) qT.nd (bM ah)) (aj (d9 PassesOwn.never rfl (cJ (pv 1)) (b9 (i:=3) qT.nd) (au (bN (aT Bj (pv 3) (gu hu (pv 0) bC) rfl) (au (bg (dM pW jN jO bS (pv 2) (aa bC ah)))) (au (bg (dM pW jN jO bS (pv 2) (aa (aO br (aO bu (gu hu (pv 0) bC) (pv 3)) ay) ah))))))) (au (aG (dM PySem.F.plainAttrs_str PySem.F.slot_str_join PySem.F.type_str_join zh bC (aa (pv 2) ah))))));obtain⟨ik,jP,ps,vl,wu⟩:=id wo;obtain⟨as,DX,pa⟩:=id wu.hi;refine⟨iP,λq hq=>?_⟩;have s1:=ak hq (.lst []);refine⟨Y,o,rfl,⟨_,bI.of (s1 _ _ ho)⟩,dN (K:=K) (a:=o) (xs:=ns.map V.int) (λi σ H2=>∃ u:Option V,σ=[some (.ref w),some (.ref o),some (.ref q),u]/\H2 q=some (.lst (((ns.take i).map (Di aK)).map yo))/\aI H H2) ⟨none,rfl,af,s1⟩ (λi σ H2 _ h=>by obtain⟨_,_,_,s2⟩:=h;exact bI.of (s2 _ _ ho)) ?_ ?_⟩
 ·rintro i v σ H2 hi ⟨u,rfl,h2,s2⟩;rw[gE]at hi;obtain⟨a,ea,rfl⟩:=Option.map_eq_some_iff.mp hi;have il:=(List.getElem?_eq_some_iff.mp ea).1;obtain⟨a0,a1⟩:=hin a (om ea);obtain⟨t,et⟩:∃ t,as[a.toNat]?=some t:=⟨_,uz (by rw[Paired.length pa];lia)⟩;obtain⟨p,ep,ht⟩:=tY pa et;have zv:=iN.k (k:=kVl) (s2 _ _ wu.hw);rw[show cI (rP ik jP ps vl) kVl=some (.ref vl) by kernel_rfl]at zv;have zi:=iN.k (k:=kI) (s2 _ _ wu.hw);rw[show cI (rP ik jP ps vl) kI=some (.ref ik) by kernel_rfl]at zi;have PJ:=dD (xs:=as.map V.ref) (j:=a.toNat) (v:=.ref t) (by rw[gE,et];rfl);rw[show ((a.toNat:Nat):Int)=a by lia]at PJ;have ea2:Di aK a=p.2:=by unfold Di;rw[ep];rfl
  refine⟨Y,Y,w,Y,zv,vl,[],rfl,.inl (bI.of (s2 _ _ wu.hv)),V,Y,d7 ?_⟩;refine⟨Y,.inl ⟨rfl,_,bI.of h2⟩,Y,w,Y,zi,Y,ik,K,V,bI.of (s2 _ _ DX),PJ,t,K,V,dH.of (s2 _ _ ht),UG,q,Z,h2,aS (by rw[cG,cG,gF];lia),Y,?_,bP hq s2 (aJ q _ _)⟩;rw[af,take_snoc ea,gJ,gJ,← ea2];rfl
 ·rintro σ H2 ⟨u,rfl,h2,s2⟩;rw[cG,gR]at h2;exact⟨rfl,Y,q,Y,rfl,h2,by rw[cG];lia,k H2 s2⟩
class inductive Ic(C CS CW CB:Addr)
 | mk (U W:Addr->Prop) (x w:Addr) (pe:gS) (aB:iH) (aK:gM) (nW:Nat) (rows:cR) (sh:Int->List Int) (f:Int->Int) (s:Nat) (_:vs=[.ref w,.ref x,.int (s:Nat)]) (_:qg C CS CW CB U H x pe aB aK nW []) (_:pe.getLast?=some rows) (_:pe.length<=900) (_:Wo W H w aK pe rows) (_:Gd aK.length rows sh) (_:lg rows f) (_:s<rows.length) (_:∀ H',aI H H'->Q (.bl true) H')
theorem mR:aF ["_law_world_here","_law_house","_law_sheet","_law_numbers"] ["_law_world_here","_law_house","_law_sheet"] (az jv):=eS
theorem ur:‹(43,103,["_law_world_here","_law_house","_law_sheet"],(Ic C CS CW CB))›:=λD=>by
 have fK:bw P w K mg zt cL 5 _ _ zl3 (vN 4):=j5 D 4;refine eU D.SY.F mR λcV A zn s0 H vs Q E hr h=>?_;obtain⟨U,W,x,w,pe,aB,aK,nW,rows,sh,f,s,rfl,LB,hl,l2,wo,g,B,sr,k⟩:=h;have hu:=gC hr;have l40:=g.ln;exists _,(aj (aX (i:=3) mR.nd (aC D.EW (ig D 41) hr (aa (gu hu (pv 0) bC) (aa (pv 2) ah)))) (aj (bN (gi (gw (aC D.Mc fK hr (aa (cQ (pv 1) D.aM D.YX (zL D) hr bL (aa (pv 2) ah)) (aa (aC D.Zh (yc D) hr (aa (aO bu (gu hu (pv 0) bC) (pv 2)) ah)) ah))))) (au (aG jL)) aZ) (aj (bN (gi (gw (aC D.Mc fK hr (aa (cQ (pv 1) D.aM D.KS (gy D) hr bL (aa (pv 2) ah)) (aa (aC D.Zg (AW D) hr (aa (pv 3) ah)) ah))))) (au (aG jL)) aZ) (aj (bN (gi (gw (aC D.Mc fK hr (aa (cQ (pv 1) D.aM D.Za (ya D) hr bL (aa (pv 2) ah)) (aa (aC D.SX (F7 D) hr (aa (pv 0) (aa (pv 3) ah))) ah))))) (au (aG jL)) aZ) (aj (bN (gi (gw (aC D.Mc fK hr (aa (cQ (pv 1) D.aM D.Y3 (vn D) hr bL (aa (pv 2) ah)) (aa (aC D.QU (mP D 41) hr (aa (gu hu (pv 0) bC) (aa (pv 2) ah))) ah))))) (au (aG jL)) aZ) (au (aG (aC D.Mc fK hr (aa (cQ (pv 1) D.aM D.Zb (yb D) hr bL (aa (pv 2) ah)) (aa (fm D.T.eV (pv 3)) ah))))))))));obtain⟨ik,jP,ps,vl,wu⟩:=id wo;have zr:∀ {H1:Hp},aI H H1->_:=λ{H1} s=>iN.k (k:=kR) (s _ _ wu.hw);rw[show cI (rP ik jP ps vl) kR=some (.ref jP) by kernel_rfl]at zr;have R:=wu.hr.at_;obtain⟨xs,hxs,al⟩:=id R;have lv:=bX.len al;obtain⟨rk,rb,dn⟩:=id g.sn.rk;have is:qH rows.length ((s:Nat):Int):=⟨Q,Q⟩;have ls:=g.sl _ is.1 is.2;obtain⟨S,SW,d,wl,Mp,bl,kn,du,bk,dS,st,op,dw,sg,ow,pw,db,tb,ops,LU⟩:=id LB;obtain⟨es,nP⟩:∃ es,rows[s]?=some es:=⟨_,uz sr⟩;obtain⟨v,hv,b,rfl,_,hb⟩:=al.get' nP;have el:=g.es es (om nP);refine⟨Y,w,Y,zr (aI.refl _),Y,_,jP,rows,(s:Nat),sh,rk,rfl,R,Q,g.sn.sd,is.1,is.2,g.sn.ss,g.sn.ln,dn,by have:=rb s;lia,λo H1 ho s1 fo=>?_⟩;have L1:=(LU.same s1).L;refine⟨Y,x,d,Y,L1.hx,rfl,Y,S,x,d,wl,Mp,bl,kn,du,bk,dS,st,op,pe,ops,aB,rows,(s:Nat),rfl,L1,hl,Q,l2,is,λes2 aaj q2 H2 d8 s2 Ml=>?_⟩;rw[Int.toNat_natCast,nP]at aaj;cases aaj;have jH:=s1.trans s2;refine⟨Y,w,Y,zr jH,Y,jP,K,V,bI.of (jH _ _ hxs),dD hv,b,es,rfl,jH _ _ hb,Q,λq3 H3 DV s3 f3=>⟨P,rfl,bK.eqv 1 (d8.same s3) DV,λH4 s4=>⟨true,rfl,d7 ?_⟩⟩⟩;have AK:=jH.trans (s3.trans s4);have L4:=(LU.same AK).L;refine⟨Y,x,d,Y,L4.hx,rfl,Y,S,x,d,wl,Mp,bl,kn,du,bk,dS,st,op,pe,ops,aB,rows,(s:Nat),rfl,L4,hl,Q,l2,is,⟨sh,g.sn,λo5 H5 ho5 s5 fo5=>?_⟩⟩;have Lz:=AK.trans s5;have aak:=(s2.trans (s3.trans (s4.trans s5))) _ _ ho;refine⟨Y,o,sh (s:Nat),rfl,aak,Q,λr H6 hr6 s6 f6=>⟨P,rfl,cE.eqv (ho5.same s6) hr6 1,λH7 s7=>⟨true,rfl,d7 ?_⟩⟩⟩;have Sd:=s6.trans s7;have Tq:=Lz.trans Sd;have ho7:=Sd _ _ aak;refine⟨Y,x,d,Y,(LU.same Tq).L.hx,rfl,Y,U,x,pe,aB,aK,nW,rows,(s:Nat),sh,rfl,LB.same Tq,hl,l2,Q,is,g.sn,ls,g.Wb _ is.1 is.2,λH8 s8=>?_⟩;have s18:=Tq.trans s8;refine⟨Y,Y,W,w,o,aK,pe,rows,sh (s:Nat),rfl,wo.same s18,s8 _ _ ho7,Q,g.Wb _ is.1 is.2,λH9 s9=>⟨P,rfl,.inl ⟨V⟩,λHA sA=>⟨true,rfl,d7 ?_⟩⟩⟩;have s8A:=s8.trans (s9.trans sA);have s1A:=Tq.trans s8A;have LA:=(LU.same s1A).L;refine⟨Y,x,d,Y,LA.hx,rfl,Y,S,x,d,wl,Mp,bl,kn,du,bk,dS,st,op,pe,ops,aB,rows,s,f,rfl,LA,hl,Q,l2,sr,B,λHB sB=>?_⟩;have s1B:=s1A.trans sB;refine⟨Y,w,Y,zr s1B,Y,_,jP,rows,(s:Nat),f,rk,rfl,R.same s1B,Q,g.sn.sd,is.1,is.2,B.wt,dn,by have:=rb s;lia,⟨P,rfl,.inl ⟨V⟩,λHC sC=>⟨true,rfl,d7 ?_⟩⟩⟩;have s1C:=s1B.trans sC;have LC:=(LU.same s1C).L;refine⟨Y,x,d,Y,LC.hx,rfl,Y,S,x,d,wl,Mp,bl,kn,du,bk,dS,st,op,pe,ops,aB,rows,(s:Nat),sh,rfl,LC,hl,Q,l2,is,g.sn,ls,λHD sD=>?_⟩;exact⟨Y,o,Y,.inl (bI.of ((s8A.trans (sB.trans (sC.trans sD))) _ _ ho7)),P,rfl,.inl ⟨rfl,by rw[cG]⟩,λHE sE=>k HE (s1C.trans (sD.trans sE))⟩
theorem qg.m{U:Addr->Prop}{H:Hp}{x:Addr}{pe:gS}{aB:iH}{aK:gM}{nW:Nat}{bU:Row}{m:Str}{k:Prop}(L:qg C CS CW CB U H x pe aB aK nW bU)(q:k)(h:∀ a b c d e f:V,List.lookup m [("well",a),("shelf",b),("blots",c),("knots",d),("dues",e),("book",f)]=none:=by intros;rfl):Ul C m (.ref x) H k:=by
 obtain⟨S',VS,d',WD,Mp,bl',kn',du',bk',dS',Cm,Gr,dw',sg',ow',pw',db',tb',HS,LU⟩:=id L;exact⟨x,d',Y,LU.L.hx,h ..,q⟩
class inductive Ab(C CS CW CB:Addr)
 | mk (U W:Addr->Prop) (x w:Addr) (pe:gS) (aB:iH) (aK:gM) (nW:Nat) (rows:cR) (_:vs=[.ref w,.ref x]) (_:qg C CS CW CB U H x pe aB aK nW []) (_:pe.getLast?=some rows) (_:pe.length<=900) (_:aK.length<=1000) (_:Wo W H w aK pe rows) (_:Good aK.length rows) (_:∀ H',aI H H'->Q (.bl true) H')
theorem xG:aF ["_law_world_here","_law_house","_law_many"] ["_law_world_here","_law_house"] (az pC):=eS
theorem F8(D:Ds K mg aY bf C CS CW CB CT CD)(jG:bw P w K mg zt cL 43 (aY 103) (bf 103) ["_law_world_here","_law_house","_law_sheet"] (Ic C CS CW CB)):bw P w K mg zt cL 44 (aY 104) (bf 104) ["_law_world_here","_law_house"] (Ab C CS CW CB):=by
 have fK:bw P w K mg zt cL 2 _ _ zl3 (vN 1):=j5 D 1;refine eU D.JD.F xG λcV A zn s0 H vs Q E hr h=>?_;obtain⟨U,W,x,w,pe,aB,aK,nW,rows,rfl,LB,hl,l2,li,wo,gd,k⟩:=h;have hu:=gC hr;obtain⟨sh,g⟩:=gd.TJ;obtain⟨fb,B⟩:=gd.bears;have l40:=g.ln;refine⟨_,(aj (aX (i:=2) xG.nd (fm D.T.eV (gu hu (pv 0) bC))) (aj (bN (PW.pt (Ea (gi (gw (aC D.Mc fK hr (aa (eO (pv 1) D.aM D.Vk (pS D) hr bL) (aa (pv 2) ah))))) (Ci (gi (gw (aC D.Mc fK hr (aa (eO (pv 1) D.aM D.YQ (zI D) hr bL) (aa (bG cN (fm D.T.eV (gu hu (pv 0) bC)) ay) ah)))))))) (au (aG jL)) aZ) (aj (bN (gi (gw (aC D.Mc fK hr (aa (eO (pv 1) D.aM D.YS (qM D) hr bL) (aa (fm D.T.eV (gu hu (pv 0) bC)) ah))))) (au (aG jL)) aZ) (au (aG (jk dQ (fm D.T.eV (gH (N:=["_law_sheet","_law_world_here","_law_house"]) (mD (sc:=az pC) (NX:=["_law_world_here","_law_house","_law_many"]) (jx:=[none,some 0,some 1]) rfl rfl rfl nofun nofun rfl nofun rfl nofun) rfl (iA rfl D.T.i7 (aa (pv 2) ah)) (λ_ _ _ _ _ _=>(b9 (i:=0) (show List.Nodup (["_law_sheet","_law_world_here","_law_house"]:List Str) by decide +kernel))) (λ_ _ _ _ _ _=>CF (gi (gw (aC D.SY jG hr (aa (pv 1) (aa (pv 2) (aa (pv 0) ah))))))) (λ_ _ _ _ _ _=>(pv 0)))) ay (bx _))))))),?_⟩;obtain⟨ik,jP,ps,vl,wu⟩:=id wo;obtain⟨as,DX,pa⟩:=id wu.hi;have la:=Paired.length pa;obtain⟨xs,hxs,al⟩:=id wu.hr.at_;have lv:=bX.len al;obtain⟨Tv,JR,alp⟩:=id wu.hp;have lpv:=bX.len alp;have zr:=iN.k (k:=kR) wu.hw;rw[show cI (rP ik jP ps vl) kR=some (.ref jP) by kernel_rfl]at zr;have zp:∀ {H1:Hp},aI H H1->_:=λ{H1} s=>iN.k (k:=kP) (s _ _ wu.hw);rw[show cI (rP ik jP ps vl) kP=some (.ref ps) by kernel_rfl]at zp;have zi:∀ {H1:Hp},aI H H1->_:=λ{H1} s=>iN.k (k:=kI) (s _ _ wu.hw);rw[show cI (rP ik jP ps vl) kI=some (.ref ik) by kernel_rfl]at zi;obtain⟨S,SW,d,wl,Mp,bl,kn,du,bk,dS,st,op,dw,sg,ow,pw,db,tb,ops,LU⟩:=id LB;have lo:=jD LU.L hl;have lp:(jj pe).length=pe.length:=cG _;exists Y,w,Y,zr,jP,Y,.inl (bI.of hxs);exists Y,x,d,Y,LU.L.hx,rfl,S,x,d,wl,Mp,bl,kn,du,bk,dS,st,op,jj pe,ops,aB,rfl,LU.L;rw[lo,lv];refine⟨Y,P,rfl,.inl ⟨V⟩,λH1 s1=>⟨true,rfl,d7 ?_⟩⟩;have L1:=(LU.same s1).L;refine⟨Y,x,d,Y,L1.hx,rfl,S,x,d,wl,Mp,bl,kn,du,bk,dS,st,op,jj pe,ops,aB,rfl,L1,Y,w,Y,zp s1,ps,Y,.inl (bI.of (s1 _ _ JR)),Z,P,rfl,.inl ⟨rfl,by rw[lp,lpv]⟩,λH2 s2=>⟨true,rfl,d7 ?_⟩⟩;have jH:=s1.trans s2;refine⟨Y,(LB.same jH).m ⟨U,x,pe,aB,aK,nW,[],rfl,LB.same jH,Y,w,Y,zi jH,ik,Y,.inl (bI.of (jH _ _ DX)),P,rfl,.inl ⟨rfl,by rw[cG,la]⟩,λH3 s3=>⟨true,rfl,d7 ?_⟩⟩⟩;have xP:=jH.trans s3;refine⟨Y,(rows.length:Nat),rfl,Q,Q,λacc cS=>qE (lo:=0) (k:=((rows.length:Nat):Int).toNat) (λi σ H4=>∃ u:Option V,σ=[u,some (.ref w),some (.ref x)]/\H4 acc=some (.lst [])/\aI H H4) ⟨none,rfl,af,xP.trans (ak cS _)⟩ ?_ ?_⟩
 ·rintro j σ H4 hj ⟨u,rfl,h4,s4⟩;rw[Int.zero_add];refine⟨Y,Y,Y,U,W,x,w,pe,aB,aK,nW,rows,sh,fb,j,rfl,LB.same s4,hl,l2,wo.same s4,g,B,Q,λH5 s5=>⟨true,rfl,d7 ⟨Y,s5 _ _ h4,s4.trans s5⟩⟩⟩
 ·rintro σ H4 ⟨u,rfl,h4,s4⟩;exact⟨acc,Y,.inl (bI.of h4),rfl,k H4 s4⟩
theorem Se{n m:Nat}(h:m<=40):Good n (e0 m):=by
 refine⟨λes he e hm=>?_,O9 m,by rw[yx];exact h,λ_=>0,λx es _ he=>?_,λ_ _ _=>(by decide:(0:Int)<=200)⟩
 ·rw[wO he]at hm;cases hm
 ·rw[wO (om he)];rfl
inductive DZ(C CS CW CB l c x w:Addr)(j:Nat)(U W:Addr->Prop)(H:Hp):Prop
 | mk (pe:gS) (rows:cR) (aB:iH) (aK:gM) (_:oj C CS CW CB H l c w x U W pe rows pe rows aB aK 2 []) (_:2<=rows.length) (_:pe.length<=20+j) (_:aB.length<=20+j) (_:aK.length<=120) (_:Good aK.length rows)
structure F9(l hh ww:Addr)(o1 o2:List V)(U0 W0 U1 W1:Addr->Prop)(H:Hp):Prop where
 dj:∀ a,U0 a\/W0 a->¬ (U1 a\/W1 a)
 a0:∀ a,U0 a\/W0 a->a≠l/\∃ ob,H a=some ob
 a1:∀ a,U1 a\/W1 a->a≠l/\∃ ob,H a=some ob
 h1:H hh=some (.lst o1)
 h2:H ww=some (.lst o2)
 of:∀ a,a=hh\/a=ww->a≠l/\¬ (U0 a\/W0 a)/\¬ (U1 a\/W1 a)
theorem F9.flip{hh ww:Addr}{o1 o2:List V}{U0 W0 U1 W1:Addr->Prop}{H:Hp}(h:F9 l hh ww o1 o2 U0 W0 U1 W1 H):F9 l hh ww o1 o2 U1 W1 U0 W0 H:=⟨λa z y=>h.dj a y z,h.a1,h.a0,h.h1,h.h2,λa z=>⟨(h.of a z).1,(h.of a z).2.2,(h.of a z).2.1⟩⟩
theorem oj.alive{H:Hp}{c w x:Addr}{U W:Addr->Prop}{pe:gS}{rows:cR}{pq:gS}{rq:cR}{aB:iH}{aK:gM}{nW:Nat}{bU:Row}(h:oj C CS CW CB H l c w x U W pe rows pq rq aB aK nW bU):∀ a,U a\/W a->a≠l/\∃ ob,H a=some ob:=λa z=>z.elim (λz=>⟨(h.du a z).2.1,h.PB.al z⟩) λz=>⟨(h.dw a z).1,h.wo.al z⟩
theorem F9.go{hh ww:Addr}{o1 o2:List V}{U0 W0 U1 W1 U' W':Addr->Prop}{H H':Hp}(h:F9 l hh ww o1 o2 U0 W0 U1 W1 H)(fr:DY l U0 W0 U' W' H H')(al:∀ a,U' a\/W' a->a≠l/\∃ ob,H' a=some ob):F9 l hh ww o1 o2 U' W' U1 W1 H':=by
 have xO:∀ a ob,H a=some ob->¬ (U0 a\/W0 a)->¬ (U' a\/W' a):=λa ob e n z=>by
  rcases fr.1 a z with y|y|y
  ·exact n (.inl y)
  ·exact n (.inr y)
  ·rw[y]at e;cases e
 have kp:∀ a ob,H a=some ob->a≠l->¬ (U0 a\/W0 a)->H' a=some ob:=λa ob e n z=>fr.2.1 a ob e n (λy=>z (.inl y)) (λy=>z (.inr y));refine⟨λa z y=>?_,al,λa z=>?_,?_,?_,λa z=>?_⟩
 ·obtain⟨_,ob,e⟩:=h.a1 a y;exact xO a ob e (λq=>h.dj a q y) z
 ·obtain⟨n,ob,e⟩:=h.a1 a z;exact⟨n,ob,kp a ob e n λq=>h.dj a q z⟩
 ·have o:=h.of hh (.inl rfl);exact kp _ _ h.h1 o.1 o.2.1
 ·have o:=h.of ww (.inr rfl);exact kp _ _ h.h2 o.1 o.2.1
 ·have o:=h.of a z;refine⟨o.1,?_,o.2.2⟩;rcases z with z|z
  ·rw[z];rw[z]at o;exact xO _ _ h.h1 o.2.1
  ·rw[z];rw[z]at o;exact xO _ _ h.h2 o.2.1
theorem F9.mv{hh ww:Addr}{o1 o2:List V}{U0 W0 U1 W1:Addr->Prop}{H H':Hp}(h:F9 l hh ww o1 o2 U0 W0 U1 W1 H)(k:cH l H H'):F9 l hh ww o1 o2 U0 W0 U1 W1 H':=⟨h.dj,λa z=>by obtain⟨n,ob,e⟩:=h.a0 a z;exact⟨n,ob,k _ _ e n⟩,λa z=>by obtain⟨n,ob,e⟩:=h.a1 a z;exact⟨n,ob,k _ _ e n⟩,k _ _ h.h1 (h.of hh (.inl rfl)).1,k _ _ h.h2 (h.of ww (.inr rfl)).1,h.of⟩
theorem oj.other{H H':Hp}{c w x hh ww:Addr}{o1 o2:List V}{U0 W0 U1 W1 U' W':Addr->Prop}{pe:gS}{rows:cR}{pq:gS}{rq:cR}{aB:iH}{aK:gM}{nW:Nat}{bU:Row}(h:F9 l hh ww o1 o2 U0 W0 U1 W1 H)(fr:DY l U0 W0 U' W' H H')(S:cT H' l c)(St:oj C CS CW CB H l c w x U1 W1 pe rows pq rq aB aK nW bU):oj C CS CW CB H' l c w x U1 W1 pe rows pq rq aB aK nW bU :=
 have k:∀ a ob,H a=some ob->U1 a\/W1 a->H' a=some ob:=λa ob e z=>fr.2.1 a ob e (h.a1 a z).1 (λy=>h.dj a (.inl y) z) (λy=>h.dj a (.inr y) z)
 ⟨S,St.PB.fr (λa ob e z=>k a ob e (.inl z)) fr.2.2,St.lst,St.wo.fr (λa ob e z=>k a ob e (.inr z)) fr.2.2,St.du,St.dw⟩
theorem DZ.imp{c x w:Addr}{j j':Nat}{U W:Addr->Prop}{H H':Hp}(A:DZ C CS CW CB l c x w j U W H)(m:j<=j')(f:∀ {pe:gS} {rows:cR} {aB:iH} {aK:gM},oj C CS CW CB H l c w x U W pe rows pe rows aB aK 2 []->oj C CS CW CB H' l c w x U W pe rows pe rows aB aK 2 []):DZ C CS CW CB l c x w j' U W H':=by
 obtain⟨pe,rows,aB,aK,St,r2,b1,b2,b3,gd⟩:=A;exact⟨pe,rows,aB,aK,f St,r2,Q,Q,b3,gd⟩
theorem Pc{c x y w hh ww:Addr}{o1 o2:List V}{j:Nat}{U0 W0 U1 W1:Addr->Prop}{H:Hp}{Q:VK}{E:XK}(tw:F9 l hh ww o1 o2 U0 W0 U1 W1 H)(A:DZ C CS CW CB l c x w j U0 W0 H)(B:DZ C CS CW CB l c y w2 j U1 W1 H)(j9:j<=20)(k:∀ (U W:Addr->Prop) (H':Hp),F9 l hh ww o1 o2 U W U1 W1 H'->DZ C CS CW CB l c x w (j+1) U W H'->DZ C CS CW CB l c y w2 (j+1) U1 W1 H'->Q (.bl true) H'):zY C CS CW CB [.ref l,.ref w,.ref x] H Q E:=by
 obtain⟨pe,rows,aB,aK,St,r2,b1,b2,b3,gd⟩:=A;exact⟨l,c,w,x,U0,W0,pe,rows,aB,aK,2,[],rfl,St,Q,Q,Q,Q,gd,λU W Mj rows' eE H' St' rl c1 c2 gd' fr=>k U W H' (tw.go fr St'.alive) ⟨Mj,rows',eE,aK,St',Q,Q,Q,b3,gd'⟩ (B.imp (Nat.le_succ j) λS=>oj.other tw fr St'.src S)⟩
theorem DA{c x w:Addr}{j:Nat}{U W:Addr->Prop}{H:Hp}{Q:VK}{E:XK}(A:DZ C CS CW CB l c x w j U W H)(j9:j<=20)(k:∀ H',aI H H'->Q (.bl true) H'):Ab C CS CW CB [.ref w,.ref x] H Q E:=by
 obtain⟨pe,rows,aB,aK,St,r2,b1,b2,b3,gd⟩:=A;exact⟨U,W,x,w,pe,aB,aK,2,rows,rfl,St.PB,St.lst,Q,Q,St.wo,gd,k⟩
abbrev Pd(C CS CW CB l c x w:Addr)(U W:Addr->Prop)(H:Hp):Prop:=oj C CS CW CB H l c w x U W [[]] [] [[]] [] [] [] 0 []
theorem JX{c x w hh ww:Addr}{o1 o2:List V}{U0 W0 U1 W1:Addr->Prop}{H:Hp}{Q:VK}{E:XK}(tw:F9 l hh ww o1 o2 U0 W0 U1 W1 H)(A:Pd C CS CW CB l c x w U0 W0 H)(k:∀ (U W:Addr->Prop) (H':Hp),F9 l hh ww o1 o2 U W U1 W1 H'->DY l U0 W0 U W H H'->DZ C CS CW CB l c x w 0 U W H'->cT H' l c->Q (.bl true) H'):uq C CS CW CB [.ref l,.ref w,.ref x] H Q E :=
 ⟨l,c,w,x,U0,W0,rfl,A,λU W H' n aK aB n2 n4 li ll St fr=>k U W H' (tw.go fr St.alive) fr ⟨K,aK,St,by rw[yx];exact n2,by rw[Aa];lia,Q,li,Se ∅⟩ St.src⟩
theorem Ac:aF ["_law_script","_law_src_here","_law_houses","_law_worlds","_law_k","_law_which"] ["_law_script"] (az Qg):=eS
theorem all_mk:Sy:=by
 intro P w K mg fa q;obtain⟨dm,fQ,eZ,Bq,El,bz,X,G,hfa,Jg,jV,nT,M8,tT,uI,nU,Jh,uJ,M9,Cz,CA,Na,Ji,Br,wZ,eX,yQ,CC,Jj,Em,q0,q1,q2,q3,q4,q5,q6,q7,q8,q9,Bs,q11,q12,q13,q14,q15,q16,q17,q18,q19,q20,q21,q22,q23,q24,q25,q26,q27,q28,q29,q30,q31,q32,q33,q34,q35,q36,q37,q38,q39,q40,q41,q42,q43,q44,q45,q46,q47,q48,q49,q50,q51,q52,q53,q54,q55,q56,q57,q58,q59,q60,q61,q62,q63,q64,q65,q66,q67,q68,q69,q70,q71,q72,q73,q74,q75,q76,q77,q78,q79,q80,q81,q82,q83,q84,q85,q86,q87,q88,q89,q90,q91,q92,q93,q94,q95,q96,q97,q98,q99,XS,XT,XU,XW,XX,XY,z0,z1,z2,z3,z4,z5,z6,z7,z8,z9,z10,z11,z12,rY,rZ,En,uK,r9,qD⟩:=q;obtain⟨al,ll,cl,kl⟩:=XY;have e:=hfa.symm.trans (mg_of X G al);cases e;obtain⟨fd,F,bF⟩:∃ fd,Qe K "law" "law" Qg fa fd/\∀ (s:Shared) (v:Value),BindsTo s fd ⟨[v],[]⟩ [("_law_script",v)]:=⟨_,GW (st:=Qg) ll cl kl,λs v=>.of_eq rfl⟩;obtain⟨g0,LR⟩:=q0.d (ps:=["_law_script"]) X G;obtain⟨g1,Ie⟩:=q1.d (ps:=["_law_src_here","_law_base"]) X G;obtain⟨g2,Ga⟩:=q2.d (ps:=["_law_found"]) X G;obtain⟨g3,Ig⟩:=q3.d (ps:=["_law_found","_law_due"]) X G;obtain⟨g4,Wk⟩:=q4.d (ps:=["row"]) X G;obtain⟨g5,TN⟩:=q5.d (ps:=["row"]) X G;obtain⟨g6,A0⟩:=q6.d (ps:=["row","start","stop"]) X G;obtain⟨g7,Sf⟩:=q7.d (ps:=["row","start","stop"]) X G;obtain⟨g8,aal⟩:=q8.d (ps:=["row","start","stop"]) X G;obtain⟨g9,pU⟩:=q9.d (ps:=["self"]);obtain⟨g10,Ih⟩:=Bs.d (ps:=["row"]) X G;obtain⟨g11,Pe⟩:=q11.d (ps:=["items"]) X G;obtain⟨g12,Wl⟩:=q12.d (ps:=["rows","sheets"]) X G;obtain⟨g13,DB⟩:=q13.d (ps:=["rows","start","goal"]) X G;obtain⟨g14,aam⟩:=q14.d (ps:=["rows","sheet"]) X G;obtain⟨g15,DC⟩:=q15.d (ps:=["item","weights"]) X G;obtain⟨g16,Ad⟩:=q16.d (ps:=["rows","sheets"]) X G;obtain⟨g17,JY⟩:=q17.d (ps:=["rows","sheet"]) X G;obtain⟨g18,LS⟩:=q18.d (ps:=["item","views"]) X G;obtain⟨g19,DE⟩:=q19.d (ps:=["rows","sheets"]) X G;obtain⟨g20,Pf⟩:=q20.d (ps:=["rows","sheet"]) X G;obtain⟨g21,Pg⟩:=q21.d (ps:=["one","other"]) X G;obtain⟨g22,DF⟩:=q22.d (ps:=["items"]) X G;obtain⟨g23,Wm⟩:=q23.d (ps:=["row"]) X G;obtain⟨g24,Wn⟩:=q24.d (ps:=["items","views"]) X G;obtain⟨g25,Ii⟩:=q25.d (ps:=["items","views","place","others"]) X G;obtain⟨g26,Ij⟩:=q26.d (ps:=["rows","sheet","place","items"]) X G;obtain⟨g27,Sg⟩:=q27.d (ps:=["items","views","start","stop"]) X G;obtain⟨g28,Ik⟩:=q28.d (ps:=["rows","sheet","start","stop"]) X G;obtain⟨g29,DG⟩:=q29.d (ps:=["rows","sheet","start","stop","to"]) X G;obtain⟨g30,DH⟩:=q30.d (ps:=["rows","sheet"]) X G;obtain⟨g31,Il⟩:=q31.d (ps:=["row"]) X G;obtain⟨g32,Gb⟩:=q32.d (ps:=["deed"]) X G;obtain⟨g33,Ph⟩:=q33.d (ps:=["state","sheet","items"]) X G;obtain⟨g34,pV⟩:=q34.d (ps:=["self"]);obtain⟨g35,Im⟩:=q35.d (ps:=["self"]);obtain⟨g36,Ge⟩:=q36.d (ps:=["self"]);obtain⟨g37,Gf⟩:=q37.d (ps:=["self","changes"]);obtain⟨g38,uu⟩:=q38.d (ps:=["self","sheet"]);obtain⟨g39,rQ⟩:=q39.d (ps:=["self","moment"]);obtain⟨g40,wQ⟩:=q40.d (ps:=["self","moment"]);obtain⟨g41,Gg⟩:=q41.d (ps:=["self"]);obtain⟨g42,Io⟩:=q42.d (ps:=["self","sheet"]);obtain⟨g43,qU⟩:=q43.d (ps:=["self"]);obtain⟨g44,qV⟩:=q44.d (ps:=["self"]);obtain⟨g45,qW⟩:=q45.d (ps:=["self"]);obtain⟨g46,Ip⟩:=q46.d (ps:=["self"]);obtain⟨g47,Iq⟩:=q47.d (ps:=["self","hand","text"]);obtain⟨g48,Gh⟩:=q48.d (ps:=["self","row"]);obtain⟨g49,DJ⟩:=q49.d (ps:=["rows","sheet"]) X G;obtain⟨g50,ng⟩:=q50.d (ps:=["self"]);obtain⟨g51,Ae⟩:=q51.d (ps:=["self","deed","changes"]);obtain⟨g52,yd⟩:=q52.d (ps:=["self","deed","sheet","items"]);obtain⟨g53,A1⟩:=q53.d (ps:=["self"]);obtain⟨g54,DK⟩:=q54.d (ps:=["self"]);obtain⟨g55,Af⟩:=q55.d (ps:=["self","deed","items"]);obtain⟨g56,Ag⟩:=q56.d (ps:=["self"]);obtain⟨g57,DL⟩:=q57.d (ps:=["self"]);obtain⟨g58,rR⟩:=q58.d (ps:=["self","row"]);obtain⟨g59,A2⟩:=q59.d (ps:=["self","hand","text"]);obtain⟨g60,DM⟩:=q60.d (ps:=["self","sheet","place","row"]);obtain⟨g61,Ah⟩:=q61.d (ps:=["self","sheet"]);obtain⟨g62,DN⟩:=q62.d (ps:=["self","sheet","start","stop"]);obtain⟨g63,Ai⟩:=q63.d (ps:=["self","target","place","source","start","stop"]);obtain⟨g64,DO⟩:=q64.d (ps:=["self","sheet"]);obtain⟨g65,ye⟩:=q65.d (ps:=["self","target","place","source"]);obtain⟨g66,DP⟩:=q66.d (ps:=["self","sheet"]);obtain⟨g67,A3⟩:=q67.d (ps:=["self","sheet","start","stop","to"]);obtain⟨g68,yf⟩:=q68.d (ps:=["self","sheet"]);obtain⟨g69,yg⟩:=q69.d (ps:=["holes","start"]) X G;obtain⟨g70,Si⟩:=q70.d (ps:=["holes","address"]) X G;obtain⟨g71,DQ⟩:=q71.d (ps:=["self","address"]);obtain⟨g72,rS⟩:=q72.d (ps:=["self","address"]);obtain⟨g73,Ir⟩:=q73.d (ps:=["self","address"]);obtain⟨g74,yh⟩:=q74.d (ps:=["self","row","veil"]);obtain⟨g75,A4⟩:=q75.d (ps:=["self","sheet"]);obtain⟨g76,A5⟩:=q76.d (ps:=["self","sheet"]);obtain⟨g77,Iu⟩:=q77.d (ps:=["_law_src_here","_law_few"]) X G;obtain⟨g78,Iv⟩:=q78.d (ps:=["_law_src_here","_law_many"]) X G;obtain⟨g79,Gi⟩:=q79.d (ps:=[]) X G;obtain⟨g80,Iw⟩:=q80.d (ps:=["_law_world_here","_law_rows"]) X G;obtain⟨g81,Iz⟩:=q81.d (ps:=["_law_rows","_law_sheet","_law_entries"]) X G;obtain⟨g82,Gj⟩:=q82.d (ps:=["_law_row"]) X G;obtain⟨g83,IA⟩:=q83.d (ps:=["_law_rows","_law_sheet"]) X G;obtain⟨g84,A6⟩:=q84.d (ps:=["_law_rows","_law_sheet"]) X G;obtain⟨g85,DR⟩:=q85.d (ps:=["_law_rows","_law_entry"]) X G;obtain⟨g86,LV⟩:=q86.d (ps:=["_law_rows","_law_sheet","_law_place","_law_new"]) X G;obtain⟨g87,LW⟩:=q87.d (ps:=["_law_rows","_law_sheet","_law_start","_law_stop"]) X G;obtain⟨g88,A7⟩:=q88.d (ps:=["_law_rows","_law_sheet"]) X G;obtain⟨g89,DS⟩:=q89.d (ps:=["_law_numbers"]) X G;obtain⟨g90,Aj⟩:=q90.d (ps:=["_law_entries"]) X G;obtain⟨g91,IB⟩:=q91.d (ps:=["_law_rows","_law_sheet"]) X G;obtain⟨g92,Gk⟩:=q92.d (ps:=["_law_world_here","_law_deed_here"]) X G;obtain⟨g93,A8⟩:=q93.d (ps:=["self","sheet","moment"]);obtain⟨g94,IC⟩:=q94.d (ps:=["_law_house","_law_deed_here"]) X G;obtain⟨g95,A9⟩:=q95.d (ps:=["_law_src_here","_law_world_here"]) X G;obtain⟨g96,Ba⟩:=q96.d (ps:=["_law_src_here","_law_sheet","_law_room"]) X G;obtain⟨g97,ID⟩:=q97.d (ps:=["_law_src_here","_law_world_here"]) X G;obtain⟨g98,IE⟩:=q98.d (ps:=["_law_src_here","_law_world_here","_law_house"]) X G;obtain⟨g99,IF⟩:=q99.d (ps:=["_law_src_here","_law_world_here","_law_house"]) X G;obtain⟨aed,Gm⟩:=XS.d (ps:=["_law_world_here","_law_house"]) X G;obtain⟨aee,Gn⟩:=XT.d (ps:=["_law_src_here","_law_world_here","_law_house"]) X G;obtain⟨aef,IG⟩:=XU.d (ps:=["_law_world_here","_law_numbers"]) X G;obtain⟨aeg,vq⟩:=XW.d (ps:=["_law_world_here","_law_house","_law_sheet"]) X G;obtain⟨aeh,II⟩:=XX.d (ps:=["_law_world_here","_law_house"]) X G;have T:Nms mg:=⟨mg_none_of X G z0,mg_none_of X G z1,mg_none_of X G z2,mg_none_of X G z3,mg_none_of X G z4,mg_none_of X G z5,mg_none_of X G z6,mg_none_of X G z7,mg_none_of X G z8,mg_none_of X G z9,mg_none_of X G z10,mg_none_of X G z11,mg_none_of X G z12,λf e=>(TN.m).symm.trans e ▸ mg_of X G uK,λf e=>(Pf.m).symm.trans e ▸ mg_of X G r9,λf e=>(JY.m).symm.trans e ▸ mg_of X G qD⟩;have G_:Gbs mg:=⟨⟨_,mg_of X G rY⟩,⟨_,mg_of X G rZ⟩,⟨_,mg_of X G En⟩⟩;have cF:=Jg.d X G pV.mt;have iT:=M8.d X G qW.mt;have t9:=Jh.d X G pU.mt;have BO:=M9.d X G qU.mt;have ET:=Na.d X G qV.mt;have aM:=Br.d X G ng.mt;obtain⟨aY,bf,D⟩:∃ aY bf,Ds K mg aY bf bz dm fQ eZ Bq El:=⟨nth [_,_,_,_,_,_,_,_,_,_,_,_,_,_,_,_,_,_,_,_,_,_,_,_,_,_,_,_,_,_,_,_,_,_,_,_,_,_,_,_,_,_,_,_,_,_,_,_,_,_,_,_,_,_,_,_,_,_,_,_,_,_,_,_,_,_,_,_,_,_,_,_,_,_,_,_,_,_,_,_,_,_,_,_,_,_,_,_,_,_,_,_,_,_,_,_,_,_,_,_,_,_,_,_,_] 0,nth [g0,g1,g2,g3,g4,g5,g6,g7,g8,g9,g10,g11,g12,g13,g14,g15,g16,g17,g18,g19,g20,g21,g22,g23,g24,g25,g26,g27,g28,g29,g30,g31,g32,g33,g34,g35,g36,g37,g38,g39,g40,g41,g42,g43,g44,g45,g46,g47,g48,g49,g50,g51,g52,g53,g54,g55,g56,g57,g58,g59,g60,g61,g62,g63,g64,g65,g66,g67,g68,g69,g70,g71,g72,g73,g74,g75,g76,g77,g78,g79,g80,g81,g82,g83,g84,g85,g86,g87,g88,g89,g90,g91,g92,g93,g94,g95,g96,g97,g98,g99,aed,aee,aef,aeg,aeh] g0,T,G_,aM,cF,iT,t9,BO,ET,jV,nT,tT,uI,nU,uJ,Cz,CA,Ji,wZ,eX,yQ,CC,Jj,Em,LR,Ie,Ga,Ig,Wk,TN,A0,Sf,aal,pU,Ih,Pe,Wl,DB,aam,DC,Ad,JY,LS,DE,Pf,Pg,DF,Wm,Wn,Ii,Ij,Sg,Ik,DG,DH,Il,Gb,Ph,pV,Im,Ge,Gf,uu,rQ,wQ,Gg,Io,qU,qV,qW,Ip,Iq,Gh,DJ,ng,Ae,yd,A1,DK,Af,Ag,DL,rR,A2,DM,Ah,DN,Ai,DO,ye,DP,A3,yf,yg,Si,DQ,rS,Ir,yh,A4,A5,Iu,Iv,Gi,Iw,Iz,Gj,IA,A6,DR,LV,LW,A7,DS,Aj,IB,Gk,A8,IC,A9,Ba,ID,IE,IF,Gm,Gn,IG,vq,II⟩;refine⟨fd,bF,λzt _ _=>?_⟩;have LX:bw P w K mg zt cL 1 _ _ ["_law_script"] (SD K):=Hw D;have bV:bw P w K mg zt cL 1 _ _ Wq tW:=gc D;have nh:bw P w K mg zt cL 3 _ _ Gq (Ca bz dm fQ eZ):=rO D;have xH:bw P w K mg zt cL 1 _ _ [] JQ:=Dm D;have Gp:bw P w K mg zt cL 9 _ _ Mq (uq bz dm fQ eZ):=Dz D;have IJ:bw P w K mg zt cL 46 _ _ Mq (zY bz dm fQ eZ):=F2 D (F1 D) (Dv D) (FZ D) (F0 D);have jG:bw P w K mg zt cL 43 _ _ WW (Ic bz dm fQ eZ):=ur D;have uv:bw P w K mg zt cL 44 _ _ TQ (Ab bz dm fQ eZ):=F8 D jG;refine eU F Ac λcV A zn s H vs Q E hr h=>?_;obtain⟨a,ns,rfl,hS,h63,k⟩:=h;have hu:=gC hr;refine⟨_,(aj (aX (i:=1) Ac.nd (aC D.dq0 LX hr (aa (pv 0) ah))) (aj (aX (i:=2) Ac.nd (bM (aa (lR D.aM.UX nh (hr.mono (by decide)) rfl D.aM.m D.Vi.b .nil bL) (aa (lR D.aM.UX nh (hr.mono (by decide)) rfl D.aM.m D.Vi.b .nil bL) ah)))) (aj (aX (i:=3) Ac.nd (bM (aa (Eg xH (hr.mono (by decide)) rfl D.Hv.m D.Hv.F.kp D.Hv.b .nil bL) (aa (Eg xH (hr.mono (by decide)) rfl D.Hv.m D.Hv.F.kp D.Hv.b .nil bL) ah)))) (aj (d9 PassesOwn.never rfl (iA rfl D.T.i7 (aa ay ah)) (b9 (i:=4) Ac.nd) (au (bN (gi (gw (aC D.SV Gp hr (aa (pv 1) (aa (aO bu (pv 3) (pv 4)) (aa (aO bu (pv 2) (pv 4)) ah)))))) (au (aG jL)) aZ))) (aj (d9 PassesOwn.never rfl (iA rfl D.T.i7 (aa (aC D.xq bV hr (aa (pv 1) (aa ay ah))) ah)) (b9 (i:=4) Ac.nd) (aj (aX (i:=5) Ac.nd (bG uL (aC D.xq bV hr (aa (pv 1) (aa ay ah))) ay)) (aj (bN (gi (gw (aC D.Zo IJ hr (aa (pv 1) (aa (aO bu (pv 3) (pv 5)) (aa (aO bu (pv 2) (pv 5)) ah)))))) (au (aG jL)) aZ) (au (bN (gi (gw (aC D.JD uv hr (aa (aO bu (pv 3) (pv 5)) (aa (aO bu (pv 2) (pv 5)) ah))))) (au (aG jL)) aZ))))) (au (aG (ni (aC D.JD uv hr (aa (aO bu (pv 3) ay) (aa (aO bu (pv 2) ay) ah))) (oB (aC D.JD uv hr (aa (aO bu (pv 3) ay) (aa (aO bu (pv 2) ay) ah)))))))))))),?_⟩;refine⟨Y,a,ns,rfl,hS,λl c H1 S1 s1 _ _=>?_⟩;intro x dx fx fdx _;refine⟨x,dx,rfl,af,λU H2 L2 fU k2=>⟨rfl,?_⟩⟩;have s2:=jU fx fdx k2;have S2:=S1.same s2
 have fU':∀ a,U a->H1 a=none:=λa z=>by
  rcases fU a z with y|y
  ·rw[y];exact fx
  ·exact lN y
 intro y dy fy fdy _;refine⟨y,dy,rfl,af,λU2 H3 L3 fV k3=>⟨rfl,?_⟩⟩;have s3:=jU fy fdy k3;have S3:=S2.same s3
 have fV':∀ a,U2 a->H2 a=none:=λa z=>by
  rcases fV a z with y|y
  ·rw[y];exact fy
  ·exact lN y
 refine⟨nK,λhh hhh=>?_⟩;have s4:=ak hhh (.lst [.ref x,.ref y]);have e4:(aP H3 hh (.lst [.ref x,.ref y])) hh=some (.lst [.ref x,.ref y]):=af;generalize aP H3 hh (.lst [.ref x,.ref y])=H4 at s4 e4 ⊢;refine⟨rfl,λW w H5 RZ fW s5=>⟨rfl,λW2 w2 H6 wo6 fX s6=>⟨nK,λww WT=>?_⟩⟩⟩;have s7:=ak WT (.lst [.ref w,.ref w2]);have e7:(aP H6 ww (.lst [.ref w,.ref w2])) ww=some (.lst [.ref w,.ref w2]):=af;generalize aP H6 ww (.lst [.ref w,.ref w2])=H7 at s7 e7 ⊢;have no:∀ {H:Hp} {a:Addr} {P:Prop},(∃ ob,H a=some ob)->H a=none->P:=λ⟨_,e⟩ f=>by rw[f]at e;cases e
 have up:∀ {H H':Hp} {a:Addr},(∃ ob,H a=some ob)->aI H H'->∃ ob,H' a=some ob:=λ⟨ob,e⟩ s=>⟨ob,s _ _ e⟩;have PK:=s4.trans s5;have Sd:=s6.trans s7;have S7:=(S3.same PK).same Sd;have aU:∀ a,U a->∃ ob,H3 a=some ob:=λa z=>up (L2.al z) s3;have aV:∀ a,U2 a->∃ ob,H3 a=some ob:=λa z=>L3.al z
 have St0:Pd bz dm fQ eZ l c x w U W H7:=⟨S7,((L2.same s3).same PK).same Sd,rfl,RZ.same Sd,λa z=>⟨λy=>no (up (aU a z) s4) (fW a y),by
  have n:=S1.ne (fU' a z)
  exact⟨n.1.symm,n.2.symm⟩⟩,λa z=>by
  have n:=(S3.same s4).ne (fW a z)
  exact⟨n.1.symm,n.2.symm⟩⟩
 have AZ:Pd bz dm fQ eZ l c y w2 U2 W2 H7:=⟨S7,(L3.same PK).same Sd,rfl,wo6.same s7,λa z=>⟨λy=>no (up (aV a z) PK) (fX a y),by
  have n:=S2.ne (fV' a z)
  exact⟨n.1.symm,n.2.symm⟩⟩,λa z=>by
  have n:=(S3.same PK).ne (fX a z)
  exact⟨n.1.symm,n.2.symm⟩⟩
 have tw:F9 l hh ww [.ref x,.ref y] [.ref w,.ref w2] U W U2 W2 H7:=by
  refine⟨λa z y=>?_,St0.alive,AZ.alive,Sd _ _ (s5 _ _ e4),e7,λa z=>?_⟩
  ·rcases z with z|z <;> rcases y with y|y
   ·exact no (L2.al z) (fV' a y)
   ·exact no (up (aU a z) PK) (fX a y)
   ·exact no (up (aV a y) s4) (fW a z)
   ·exact no (RZ.al z) (fX a y)
  ·rcases z with rfl|rfl
   ·have n:=S3.ne hhh;exact⟨n.1.symm,λz=>z.elim (λz=>no (aU _ z) hhh) λz=>no ⟨_,e4⟩ (fW _ z),λz=>z.elim (λz=>no (aV _ z) hhh) λz=>no ⟨_,s5 _ _ e4⟩ (fX _ z)⟩
   ·have n:=((S3.same PK).same s6).ne WT;exact⟨n.1.symm,λz=>z.elim (λz=>no (up (up (aU _ z) PK) s6) WT) λz=>no (up (RZ.al z) s6) WT,λz=>z.elim (λz=>no (up (up (aV _ z) PK) s6) WT) λz=>no (wo6.al z) WT⟩
 clear aU aV no up L2 L3 RZ wo6 fU fU' fV fV' fW fX k2 k3 PK Sd s7 s6 s5 s4 s3;exists 2,rfl,Q,Q;refine lI (lo:=0) (n:=(2:Int).toNat) (λj σ H8=>∃ u4:Option V,σ=[some (.ref a),some (.ref l),some (.ref hh),some (.ref ww),u4,none]/\∃ U W U2 W2,F9 l hh ww [.ref x,.ref y] [.ref w,.ref w2] U W U2 W2 H8/\(j=0->Pd bz dm fQ eZ l c x w U W H8)/\(1<=j->DZ bz dm fQ eZ l c x w 0 U W H8)/\(j<=1->Pd bz dm fQ eZ l c y w2 U2 W2 H8)/\(2<=j->DZ bz dm fQ eZ l c y w2 0 U2 W2 H8)) ⟨none,rfl,U,W,U2,W2,tw,λ_=>St0,λz=>by lia,λ_=>AZ,λz=>by lia⟩ ?_ ?_
 ·rintro j σ H8 hj ⟨u4,rfl,U,W,U2,W2,tw,a0,a1,b0,b1⟩;have cj:j=0\/j=1:=by lia
  rcases cj with rfl|rfl
  ·refine⟨Y,Y,Y,ww,K,V,bI.of tw.h2,rfl,Y,Y,hh,K,V,bI.of tw.h1,rfl,JX tw (a0 rfl) λU' W' H' Pj fr A S=>⟨true,rfl,d7 ⟨Y,U',W',U2,W2,Pj,λz=>by lia,λ_=>A,λ_=>oj.other tw fr S (b0 ∅),λz=>by lia⟩⟩⟩
  ·refine⟨Y,Y,Y,ww,K,V,bI.of tw.h2,rfl,Y,Y,hh,K,V,bI.of tw.h1,rfl,JX tw.flip (b0 ∅) λU' W' H' Pj fr A S=>⟨true,rfl,d7 ⟨Y,U,W,U',W',Pj.flip,λz=>by lia,λ_=>(a1 ∅).imp (gh _) λT=>oj.other tw.flip fr S T,λz=>by lia,λ_=>A⟩⟩⟩
 rintro σ H8 ⟨u4,rfl,U,W,U2,W2,tw,_,a1,_,b1⟩;have A:=a1 ∅;have B:=b1 ∅;clear a1 b1 St0 AZ
 have S8:cT H8 l c:=by
  obtain⟨_,_,_,_,St,_⟩:=A;exact St.src
 refine⟨Y,l,c,9,rfl,S8,E,E,λv H9 v0 v1 S9 k9=>⟨v,rfl,Q,Q,?_⟩⟩;have mv:∀ {H H':Hp} {x w:Addr} {j:Nat} {U W:Addr->Prop},cH l H H'->cT H' l c->DZ bz dm fQ eZ l c x w j U W H->DZ bz dm fQ eZ l c x w j U W H':=λk S A=>A.imp (gh _) λT=>T.mv k S;refine lI (lo:=0) (n:=v.toNat) (λj σ H=>∃ u4 u5:Option V,σ=[some (.ref a),some (.ref l),some (.ref hh),some (.ref ww),u4,u5]/\cT H l c/\∃ U W U2 W2,F9 l hh ww [.ref x,.ref y] [.ref w,.ref w2] U W U2 W2 H/\DZ bz dm fQ eZ l c x w j U W H/\DZ bz dm fQ eZ l c y w2 j U2 W2 H) ⟨u4,none,rfl,S9,U,W,U2,W2,tw.mv (ck k9),mv (ck k9) S9 A,mv (ck k9) S9 B⟩ ?_ ?_
 ·rintro j σ HA hj ⟨u4,u5,rfl,SA,U,W,U2,W2,tw,A,B⟩;refine⟨Y,l,c,4,rfl,SA,E,E,λz HB z0 z1 SB kB=>⟨Z,⟨E,E⟩,?_⟩⟩;have tw:=tw.mv (ck kB);have A:=mv (ck kB) SB A;have B:=mv (ck kB) SB B;have sm:∀ {H H':Hp} {x w:Addr} {j:Nat} {U W:Addr->Prop},aI H H'->DZ bz dm fQ eZ l c x w j U W H->DZ bz dm fQ eZ l c x w j U W H':=λs A=>A.imp (gh _) λT=>T.same s;have src:∀ {H H':Hp} {x w:Addr} {j:Nat} {U W:Addr->Prop},DZ bz dm fQ eZ l c x w j U W H->aI H H'->cT H' l c:=λA s=>by obtain⟨_,_,_,_,St,_⟩:=A;exact St.src.same s
  have kp:∀ {H H':Hp},aI H H'->cH l H H':=λs a o e _=>s a o e;have cz:z / 3=0\/z / 3=1:=by lia
  rcases cz with cz|cz <;> rw[cz]
  ·exact⟨Y,Y,Y,ww,K,V,bI.of tw.h2,rfl,Y,Y,hh,K,V,bI.of tw.h1,rfl,Pc tw A B ∅ λU' W' HC Pj A' B'=>⟨true,rfl,d7 ⟨Y,Y,ww,K,V,bI.of Pj.h2,rfl,Y,Y,hh,K,V,bI.of Pj.h1,rfl,DA A' ∅ λHD sD=>⟨true,rfl,d7 ⟨P,rfl,src A' sD,U',W',U2,W2,Pj.mv (kp sD),sm sD A',sm sD B'⟩⟩⟩⟩⟩
  ·exact⟨Y,Y,Y,ww,K,V,bI.of tw.h2,rfl,Y,Y,hh,K,V,bI.of tw.h1,rfl,Pc tw.flip B A ∅ λU' W' HC Pj A' B'=>⟨true,rfl,d7 ⟨Y,Y,ww,K,V,bI.of Pj.h2,rfl,Y,Y,hh,K,V,bI.of Pj.h1,rfl,DA A' ∅ λHD sD=>⟨true,rfl,d7 ⟨P,rfl,src A' sD,U,W,U',W',(Pj.mv (kp sD)).flip,sm sD B',sm sD A'⟩⟩⟩⟩⟩
 ·rintro σ HA ⟨u4,u5,rfl,SA,U,W,U2,W2,tw,A,B⟩;exact⟨Y,ww,K,V,bI.of tw.h2,rfl,Y,hh,K,V,bI.of tw.h1,rfl,DA A ∅ λHB sB=>⟨true,rfl,jr ⟨Y,ww,K,V,bI.of (sB _ _ tw.h2),rfl,Y,hh,K,V,bI.of (sB _ _ tw.h1),rfl,DA (B.imp (gh _) λT=>T.same sB) ∅ λHC _=>k HC⟩⟩⟩
end
end gA
theorem PySem.Challenge.cw_inkroot_k38_rows_behind_deeds_holds : PySem.Challenge.rw_inkroot_k38_rows_behind_deeds.Holds :=
 InkHd.hd2 gA.all_mk
