import PyProof.Rows.All
import KE.KIntText
import KE.KTryMore
import KE.KDictLaws
import KE.KItem
import Open.Pieces
import KE.RegKTryMore
import OpenK.KOwn
import Lean
import PyProof.EqAt
import PyProof.EqKinds
import PyProof.TupleCall
import PySem.Challenge.RW_inkroot_k39_whole_past_stays
set_option Elab.async false
set_option linter.all false
set_option maxRecDepth 100000
set_option maxHeartbeats 4000000
abbrev iu:=List (List (List Int))
abbrev cS:=List (List Int)
abbrev iY:=List (List Nat)
abbrev gA:=List (Int × Nat)
abbrev Hw:List PySem.Str:=["self"]
abbrev XO:List PySem.Str:=["self","sheet"]
abbrev QO:List PySem.Str:=["self","sheet","moment"]
abbrev XQ:List PySem.Str:=["_law_src_here","_law_base"]
abbrev zl4:List PySem.Str:=["row","start","stop"]
abbrev zl5:List PySem.Str:=["rows","sheet"]
abbrev zl6:List PySem.Str:=["_law_rows","_law_sheet"]
abbrev zl7:List PySem.Str:=["_law_rows","_law_entry"]
abbrev zl8:List PySem.Str:=["_law_rows","_law_sheet","_law_place","_law_new"]
abbrev zl9:List PySem.Str:=["_law_rows","_law_sheet","_law_start","_law_stop"]
abbrev Yr:List PySem.Str:=["_law_src_here","_law_world_here"]
abbrev EN:List PySem.Str:=["_law_src_here","_law_world_here","_law_house"]
abbrev Ys:List PySem.Str:=["_law_house","_law_sheet","_law_moment"]
abbrev Yt:List PySem.Str:=["_law_world_here","_law_sheet","_law_moment"]
abbrev cD:=@List.length_map.{0,0}
abbrev dz:=@List.length_append.{0}
abbrev gG:=@List.map_append.{0,0}
abbrev gg:=@Nat.le_refl
abbrev nu:=@List.mem_cons_of_mem.{0}
abbrev nF:=@List.mem_of_getElem?.{0}
abbrev qw:=@PySem.F.plainAttrs_list
abbrev sF:=@List.getElem?_eq_getElem.{0}
abbrev nG:=@List.getElem?_map.{0,0}
abbrev ny:=@List.length_cons.{0}
abbrev iy:=@List.length_singleton.{0}
abbrev gB:=@Bool.false_ne_true
abbrev jX:=@PySem.F.slot_list_append
abbrev jY:=@PySem.F.type_list_append
abbrev gy:=@List.length_take.{0}
abbrev gJ:=@List.size_toArray.{0}
abbrev gK:=@List.take_length.{0}
abbrev gE:=@List.append_nil.{0}
abbrev jv:=@List.flatMap_cons.{0,0}
abbrev nA:=@List.concat_eq_append.{0}
abbrev gM:=@Nat.le_of_lt
abbrev oY:=@List.mem_append_right.{0}
abbrev oZ:=@List.eq_nil_or_concat.{0}
abbrev iJ:=@Nat.le_trans
abbrev jy:=@List.map_cons.{0,0}
abbrev nB:=@List.append_assoc.{0}
abbrev l6:=@List.foldl_cons.{0,0}
abbrev o6:=@Nat.lt_of_lt_of_le
abbrev yv:=@PyProof.Rows.boot_isinstance
abbrev tS:=@PyProof.Rows.boot_list
abbrev sG:=@List.getLast?_concat.{0}
abbrev u9:=@List.take_of_length_le.{0}
abbrev kT:=@Nat.ne_of_lt
abbrev tT:=@List.mem_append_left.{0}
abbrev tU:=@List.mem_cons_self.{0}
abbrev sH:=@List.length_drop.{0}
abbrev qH:=@Option.some.inj.{0}
abbrev yx:=@List.length_replicate.{0}
abbrev zg:=@List.drop_of_length_le.{0}
abbrev sI:=@List.length_nil.{0}
noncomputable section
namespace PySem.W.Fast
local macro_rules |`(universe $i*)=>do return Lean.mkNullNode (←i.mapM fun x=>`(theorem $(Lean.mkIdent (.mkSimple s!"tw{((x.getId.toString.drop 1).foldl (fun n c=>n*62+(c.toNat-(if c≤'9' then 48 else if c≤'Z' then 55 else 61))) 0)}")):ident :True:=⟨⟩))
universe aDZtP6V0BYnC a3oyAQpMSTQy aFfiCMTUta2o a7TuKMaRCoC0 aIqc2jO4t0fE a7uVap2Om39A aLlJB9ijdyHd a1eEcE0yBwIa aCSmpiH1eK5s a5j9UY7iII57 aKJ9WqdNsDTx aICk0JeP2UVF a5Z96g9KDTOW aAGuTTYh7WC9 a2REJvFuxKgo a5tjRFtuJKPQ aJonNPrAGhMK a905ZpXhYM5 aAl4WX7qzq5K aEx4fRNjXaaG aESPqh0ahipU aKsWv5zWSMwG a6uIlqAnFcet a6hUghYU9M3L a32Tvc0knsFC a6csEJcKhY8z a4a8zC1UEEHv a5HQI5fTubG2 aKFlliPigG6b aHSyGmPd1xll aEtwUbu4HZl9 a67wZpID1zOn a4HiUNS0TnWQ aAvDNWvnRIe7 aKoIK8lP0LnD a7wQsZum8XFp a8dR8dXqjqUr a6oYuVkRhyL2 aI6hNayoNxk6 a9Sf1kPwKLTh a1VEFJPYMbQf aLcDE4zimz6z aLjEFdEjo6rI aBMlSjEPxjKk aA4beYJf4x7A aGG1NhhJp3Gw a7IZKYBBuGxQ a1zRCIrK6wwh aGnAkZ0iEsJj a1nLJA5GAfQa a4IwqZwjRrET a3ANyE9cMHW9 aF3qQLIetpNz a7gcrZikots5 a2tunQsFIWv a61tXbxyfRJI acT4Kve49yQ aA9NcPgJqbD6 aH32q8hlEt2P aBOK96iPzUfW aLcdoVaslI0r a633Tz1F24Cc aFvraKbSijAB a2qLrW9kZFhG aKy0DbbcaqJC a9yzEyV9RDd3 aIejb1phALYv aFc9q2fKGAY6 aGjnw33cHtEj aG3206mejVSX a3CngAjwwEnX aFq5pwQShWlv aFBWekqN8uYu aGwKeFSLQNPT aHbCvY5RKr4 aFHVney9pq5W aIVvxYu5BJgx aXl5X1UEqyG a4bx6r3gsH4F aLgHV92PwkDY aYZZbN1YBax av08jGhFEU3 a38iWqH1YfDb aIwwGHRdrlIt a5xvtjxo1Z5 a2ahbXcAwRt6 aKhyfuzPavsL aKv8xnTxuPF8 a3CeA40I2YoU aEml0O3Zjq65 aGxZx7YTbwhT aAEaWmiZXHbg aBu12M9FLQ0r a2aiITaKCfjo a6DvbmlzyP2Y aDngci9NgCOv aDMxYzvBUnL aDGCYdh2b0E7 aBCnqewkyfVy aKqEWkCw8Y86 a21Tk0TZQF8k agC869B1y88 aGqBTYCOXJfa aKqtazbNPZJs a65uicOar645 aFJaEcdIX5tg aAhkQU6mP1tU aKJarnJXclFj aERPHTor56jw a2QQwxcxfxUd aBWX0eEdDmSo aGsdycsCPFEk aEEdLJpJduXR aAMfp0aCR5di a1rzwYY0JaY1 a30Mo6Go4fdu a8DnFKl2CBeZ a8KX3udR3FP7 aFDpflof2iN2 aIwkCWJqWqlQ a5heBRyjZ7rb a2xgnBbIQ1Kb a5lV5Z9eN89e a7ae0VgNcMcU a6lD2C4VsR3 aBqjd45zoeuz a2nilObFsms4 a4e4XB0g1zKQ aAGVo2iYtGdg aGqUDKcGMUxB aARrHga0Rjul a8znOc6c5Iam aK9jGDXyROCQ aG1dGxHvNCKb a1VVkm79pQbT a1BEIiKGQHyC a5Tx23a6Qw4G a4l6xUjLXXKj a9m45Z0ZOy45 aD8IaZMrgGsS a7IzGVGqlFkK aFnfaK45RsjX a8k7iGvWA4b8 aAgG5PvnRmLV aJoIMYVE3wLd a8llwtDDnvAK aEk7HBRnWswu aKuGyEoYowVK aJPrzq1DalRb a9aZAVImLOGl aEIa4LYVgMB a8ihZGqzzv7L aC97rCXsBKJ aFu14pfB2LOQ a8hD9iZqNo93 aDLyCei1by5x a2LHbfAbmel4 aFF9gcjtZL9t aH7ETzAyDqWC a7LJOJrKcy4m aCbxpuTD6HwR aGFYvrXeqMSu aIIVFtZvOtW8 a7ed6G2lr49H aC1MCRq943Dy a7rK9v9kwUrX a8ZTTLZXm8SC a1VKfGYsfgn9 a92FfbC3zpYA aGVwwGz2ICHl aGr7Km6kIRvn aI2s3V4dMuUD a26IrsCmwt4u aDuF5o47UGQr a26VkcXOP0gG a629rk5yHqQS a9iV9r5DKqk8 a3zZXptghimV aJRm28XJL7QI aEQDtfbdt9hL a33pltZnNVpR a5X6roB6p6D0 a94MKXdbPGM aDsUFpzXSMxV aI2cbImxKMcO aErnSNlDnyTZ aHj2PsjumMa6 a91zVREzs3Ai aHEvekE5br72 a1LbtxaifXkq a7XqL6lnWbgt aJv1rZwwsNNw aB6bBKV9Ia8D aKftq7OiTbkW a5lENrYIbrKr a4LGQIkBxxo aIfFdHEI4LXi aCXrPZ1Ug5gV a6L0wk4ZCzQH aINdLYZFZVCN aiBf6Ao2OgX a6GwkJ4yzzPP a9gItoAxWhJF aA0apqT9Jcij a5H3fOJlCpDl aBdGPWkHImpR aAFDF1iukFnZ a63CI7n1Bs7t aAFcMGGBMgTr aCUSsRVgebpa a3PCMhTBfGpt a4Qwnai2xGmg a8aO53XfRBgK a74eVQS1mgMK aCD011ZwI7HD aCezBxkys7ZJ a1ARV7qUthfU a8rvSR1u5SRX a3gz4auQE52a a2Hsc9fSreAT a9lGpR9HRG94 aKLE1HdjTYX8 aHO5apiC6YJp aKd4j2QedA2R a6CRyJXecR5J aIWy6u5n7tc9 aJwtJjFPFOGJ a28u1dNexfd4 aAlKV7rPe7nV aBDbpkSzfP7l a6ZwB37TRnnL a7yZHfnTHNhp aHWYfpy7GUoL aKZfvUVJsORE aAVWFx4JzDcM aJcI6Fh4MmOW aCCaebYopvdC a6kgVRf6DMgX a3qpoqRp7E0T aDhkx8wlFLNe a4mfj1iA8H1x a4ICAA1TKm1z aCf8A3zrOtJ aJNiWVC7mbXh aFE8RG80SH51 aj8upmcnJRc aDJDCwpPHJKi aKz1lDpSGrjn aE0C7krCYJev a1jh4dzqd7of aK7scujQErG8 a71agKXCWrac a6k1m1v37sEx aLALBcZStOOD a6RGVz9R9Qs8 a47S0bVIN10U aLW8F5ScLzHQ a3LYzLdcF4dR aKFCzMe8Ygm1 aGWwmgJBVoYJ aBWpJ9XFROaR aB0dJ3sLVGcZ aAHBRKWVBSbU a475ixDagR4W a9mavDIscohS aHCOGPcHyGxg a53J9NNZSzgW aEdRD5P3LyAd aFFZB0BEvMnS aKrUhlUMH19I aGKs7QmAXPxs aEGBJKNGkjNo aGwG1aD8fa6y a25WY0vEdpRx a19CryvhsqLK aQcckPF2d4Y a88ApIILN4cX a20YpAQThiqe aFKe6KUHUQoc aL6JSlv8Sk0m aBfNKycM4p1g aDJHcvF9oHbE a4P5I4AA54UF aBvMBE0j09cx a7r21uLkCAm7 a7SaaRShOsWa a2uMvZyhjRdr a8pSW4ZWcnJY a1xeHdNcVVBy aIAgdx8pjjb4 a2Fh9jfuob0B a35n3xm5auYF aCmMN8xuhcaM aKLIR4OApsgU aBTP1YAscW9k aCrguvwe3jaC aG7lNV1VeXgR aCtlVOVFCsv3 a6ddjl9ybf5e ahEaydK5QF3 aImK8YmFrOd6 aL6RB1RZcY43 aDDOBGpf3Tkh aFrEdal72GGo a8IymaQ2I2Hl a2uf1B4jka3t aDJadJs04TLh aLdYCEPX2XcG a3qpAS8XU8JM aGJDMy7pbfT9 aAojLoVVex0E a8KYM0e0VY7V aIdGcrG9gNkh a4fFGs9bK6hz a57mzZMRDYIJ a5F4g1zIVU7b a8Fyx8p0EaeW aL4N6v2wiwAl aF3Ynt4pjsT7 aHFHZXO2DpfK aBtJMihVOEP6 aEHv6XQnall0 a2rMPwRNynH9 a57GlKjjqWNW a9J7ceIJr1W7 a2B312IGPTef aA8bhQRQ820p a6wFztxF8FLV a9y9rrq9LoHK aAmWDHWCLneq a3b9A78Elm3w aLqEFKBtjeoG a3njpi8a94Br a8NEzRsEP5dr a33I31SeF9Dd a4jNJyBajclQ a7fuA4WYJZyw a6hp0OTQmRnV aBLxq4BRlUGe aLAXBM1hNUSG a2rjYq6i2Jt2 a1HY12D5WYHI aJj7NYUrzI6o aHYCsG5DIo1B a6G9p4nED8E8 a1WZLPSyhEFh a49RvDrze6Ck aIOkNmsCji4q aDLCFRVbLfeE ai1Wszqm7gV aPZpH5wYnz8 aOJmaCoDDWt aFbk0Au4dLPe a82fX1IESmfh aIQ5g8TLKY7H aCWDynLafohz aH0MKwLes9GZ aHvtXeRMF8EH a73wRtOCQSqX a5Ng4PLZKx0b aDuhUDwqG7pX aFv8DqSHZ4GS aDASEvpiWtaN a2QFE9hv189n aIk4qCdFF0rV a57Ug5T69k7L a6R5PMm5mNBA aHqNqVM3FHlO a6KXhf3p1LoD aKSdKAwYnJkL aJzfpiZhmgAW aC3jc6BSQC36 a4SdBs9OBlYl a3h8t6s5YZfD aKNjDAQsU5tQ aHC1bL1Rq6Pl aFLDQxAHAvZo aBYVIu4gKIVb a2APaDVAhCMq aGdDtazFBorW aKv9oq0bhYH8 aGThcyUbcJMg a1L3x8B07tKZ a2yRE8rut5Mw a4qDmJjY6gZq a1iFJ1QtIB4f aD43E5pNC43R a2dHiybZWmBm a8YZiahPxAEE a6QU5TvpxF0V a7Rxme3tpKpf aLv4uKwIT0Ke a8cMZnOXS16f aB2Kpga4r1nj aEWDWgSstCrO a1dV7UA360uM aF42A8HX0eix a1cDvqw5nZoe a4IDNJGIrtNj a6LJRSH6kCAI aHKzyy50l0Z8 a1zzPtUCULaM aOmgO6qDo6B a5lQT4Oe1Hvi aEUCrd0KcmtZ aLVm2LZ4zuc3 a61ebAUYGDct aEGSfXQXjzDd aFERqlO6UzXC a1APEbcbdTAN a2CnCU8z5jwe a5u7iJ7wgv2F aFQKwvmjoWUi a58rJ2kdDkmE aEMmrStpEPX7 aKQLFtazjR3 aD4IKJPO1R2q aAXF9UAwPdfJ aD6PYuPa6FLX aLS8fkI7XUOg aJrVtFl6auHR aERKDb9gDWvx aaaLB65W9n5 ahWoeuWSPgx a8V77JeDPxqz aDCc7xdplr4G aCL5H9Vj3wHN aHddpxciI3X5 a3Et6ih6AYBM aDhsyQNy0fFe awWnXBGzEed aFQ17KwyDXoU aAbRxJlfOEzs a2cvpWeMfps4 aIoFsXgSyCMk a3FWTG4XVN05 a1o6aeJXq1W6 aKGGbxoKfwfh aClljHr3g5S3 a3vlaY03x0RD aCBsvReaBKY5 a5I8GhnIuPNk aAAsojo4dLKu a7wqh3szM4z8 a3gNQNSVcmAA aDyLkxT7qIYh aGl8u7w23W6S aHHaBAttIyqk aAuI7pbLu47e aKWAlR6R5ZqM a3ktkZi9n7hF aCcbbIkY6la6 a9dPHhfYuzXd aDAMNkOnG9CG aKjrbEjR9g5f aAk28ohIDnXy aDuNBJFlpYvL aE0zIQFiOUkf aEqh8eZSzNnI a754Sc0Zme89 aB7b8s02Nj0P a7OLpeRYCQTN aGy7rCOWCsMx aAMdHtJX4Rl8 a17c8OrxGH8S a5H36wMRK9dJ aEwXiw7XZS3r aKikLXhVdKUG aCLdFw5xW1oU aKUaeoUiHdRz aCfTQIwH2Aaq a75kHMQZ2Jyo a6K3iairqj64 a9CSBcIBDMYf aHpFFGgsEP9l aGvjswRjIHZZ a36Zy81zeAg4 aBUopNuvM97u a9gwsNQixvbS a6e7N9n6tk6Z a6tJRINS8Wh5 aJDctA6nPM7z aJFNGQr2a5kW a7TXbTmYWlKE alOyKtCSCur a5BZXzWBf6Ar aHssagqzAbuQ aJgzVm5x9tsG aJtK0bswGU9B aJcug85tfOhv aBZ7BZsZn7xI aJZHgAILSQ1E aBDi8du1HCSf aEKUhXMc5N42 a5hs26Dmowkw aEjfGPy6qbZa aIPg8YRW5FPn aLi6Xouftwyf a1vkBfkxlLil aKXBRFBKrPul aJojK4cKJjUR a7KnmG8O409v aF0wIHBs6oLl aDm5XnHW6cwK aECDUt62eAEq a3bhV4bOGNtH aHQthbn0z93K a8yYuBBBykp aBw6AsLOHGJH ayLWNhH9fou a5Qq7AnZFCWb a6IVEMzMHcEB a1MqscVboow1 aLrEOOwGTl22 aG8jd7nrECqF a6AVOZN2qJjB a9AyvPN6Mxd9 a3PuKCFyZhKQ aCZ8YZgNGnj6 a8U947V46tSq a52lG9muGZvX aDhgFxvXm4d8 aKjabzFaXwmR aJGnMZa1eamS aGqJS5KQHlgE anzW9J6WLo6 aHG5Tt8oJ5Gx aIFlC9gPqRa1 a7RB5rcDnMTN aHgfEu7t7wmo aDUTIVeVe7fU a1OkyXrh3gw2 a9yPMilcgbYo aGkOChEemWFi a6czXKdSIocw aL9xCmNEEABv a6duxoMlDIN9 aCjeayhkHSyY a8B0aAxtjnj a7gDE8YbC5AY aDYuQh9IC1SM a2V0yrtcf5Ru a8cgJFxmtHJB aL6uo1yrhFg1 aLk5guIa7tRC aHWnTzX7bn6P a8MXOBNPex32 aKnBCA7G5Iki aSIovi2pwKc aJgxzG9DSOLI a5mQEqtNaprB aIhbzWaAr38A a5pofTHwdhHu aVOLIMWcnnQ a7tOjEFuT0DY aAQpfZjHCvxl aErPpcDVqbHm aBUaN9p2q4Pp aFn1Zr7AGs7j a4A1tD1WR1mO a3MNYjChteQQ aFb7sehxaVSP aCwZIGmQCU2V a19lhLj8gAUN aI0qVFo8u7pB aA8c8mMDZd9G aKO1hKB0bMfT aJLZPd9O6lyY aL8WRRagxHUY aGBUdbHDZGfj aFak25A7zJDJ aHEWCJFOqqfn a6nmqbGIHjuf a5vEehC6epjv aI8AxuUNMGo4 aLperHLxrphK aEJtMOTcZlIA a7oxrH92VEMf a46V3NUeIYca aAyNStWlatUr aBKiw2AU2A4m aeDMf4Ex6aa aJOD8dqc3xtK aEUJHYaDAeun aA3zB4uSwbPG aH43SFD4lnvC a5NrGGROOQGR aBXQvyt6G6hZ aGEmVIN1R5nV aJ6fCobNs0Mx aCOn8A3uPFHY a9vEDC7gxbiB a6xxG5F2mQNv aGjSbkW9yDuY a3Tkap4xj43f aHpaSyc5HSLQ aAUASYfCFdjq aFMmQIUfdKbS a2hiWIKbpjTp a22y2Uvnvnet aHpp4OztC455 a4J55F1SS1G8 a65zZcqyJAMz a3w4znuOadx aJ8BCfbAE71y a1fs0V3bh0Md a8XOp4XYtpGi a9fZk9YWNKR8 aKWLVBzuwxpQ aD8VHDckyGNP aWwSiuX20vg aLxaX0A6qwDq atemSygCoB aJ4ryNRiHPRI a7dKTFs9wnE2 a3NX6CJXcFFn aBtj77BvSOQq a9icnjK7LieA aLaJDk4QEo8 aFaJIheD29mU a13dO81dlS5O a2yE1MIZgSdu aH18CAaOHoYl aELRuxHKyrhR a5MMdBBtLHDR aGyQieO3iQaE aJSUqcgWoDK1 aDCLdYDXwB9j aB70F2Onmfgv aEOnuBZjPXlt a71GeGGsxImi aJkNldQVjloP aHSJVBU1XcnQ aL5Aa4x7XdgV a5ZFvulat4vZ aELgotVWtGMT aAybq858vmYG aHwml33shO8y a1fkmF7r2mDd aFl8RHzksC3o aDeeIBMSwzdi a21xbrU8GovV a6NY7BdWsnhV a6vdSu4YBcLL a55cNczZBU6d aL51ySn2tzNW a3WCcwkJxBso aCitjoUPBm1R a6A04ponGlAl a5LaGUBdPffn aJBKuHXfbgNv aIfaGPXIGzVz aHEU5b37DDEU aIHt7wCxXJOv aApKAIWyPcZl a58eerZdzZDR a51vBkgClNq4 a1R9ITMmO1HS a8uYaKE2OTxu a4owm7P3KUvJ aIZujVKGYAtU a5c25OMwKzHf a9kDgOH4y8t6 a2rSqH3VJwBt a8gAMzQ7yMfK a1DidfMy9Xwe a5euBFhnlIcQ aE7LvP8DPNda aEjABp87dnUA aC7E5x1ABzDZ aD1yGJQt2Thv aJwX8mEtUOG9 aHJYYVFtHKKu aAm4xO50WWVv aGEzRA2FUX8Z a3akUMsFcfwu aIKax7DN2T1h a7K0ys7FOIwU a5GKhBOeYV9k a4QZ9EFRor5O aKWlXneyVooy a1xTRYLbVxSL aLHS2TJe9FAc aIlAd8Cl0Y5x aCtKcDGdY28W aBFhn2qkKFvL a1vTwprhjaiG aI10eS3UeyeI a71q4aRrIuxO aLSxQE02LYb1 a4Mj5sDW4jI3 aKdzEWVssp3e aDVZWQrvS0Vq a6nkQG4NJrUB aLmUkfcH8W0l aG1aRUqYR9A5 aIX5WBASdJrJ a55mBQO1Wwfu aJozv0dwTOTy aKq9TCcW6JnL a5BjBNrujEBi aEPe7q1jkcTi aGHXIIItbLQQ aLswBtHJfxTs aFR4Cicyn0bl aFD8jKfAS2Wo aDjAeBz0S5X3 a2qU0obmJkp0 aG4KLEv0CdKm a1C3sZRnP6Xt a8iWpMp3pTN7 aA2E0ZEtL9IH aH8jAO4IunMB aA8d9IwCskYl a4lrSXMcJX5C aBdQoD7lqMus a3ihmeSTW0eg a4itvqO8KPdr
end PySem.W.Fast
end
namespace InkHd
open PySem PySem.W PyProof.Rows
def fr(o:Obj):=match o.data with|.freed=>none|_=>some o
noncomputable def pk(s:List Obj):Nat→List Nat→List (Option Obj):=s.rec (fun _ _=>[]) fun o _ h i l=>l.rec [] fun a r _=>(i.beq a).rec (h (i+1) l) (fr o::h (i+1) r)
theorem ps:∀(s:List Obj)(i:Nat)(K:Frag),pk s i (K.map (·.1))=K.map (some ·.2)→∀ a b,K.lookup a=some b→∃ n u,a=i+n∧s[n]?=some u∧fr u=some b
|_,_,[],_,_,_=>nofun
|[],_,_::_,e,_,_=>nomatch (id e:[]=_::_)
|o::s,i,(c,d)::K,e,a,b=>by
 have f:((i.beq c).rec (pk s (i+1) (((c,d)::K).map (·.1))) (fr o::pk s (i+1) (K.map (·.1))):List _)=((c,d)::K).map (some ·.2):=e
 have g:(∃ n u,a=i+1+n∧s[n]?=some u∧fr u=some b)→∃ n u,a=i+n∧(o::s)[n]?=some u∧fr u=some b:=fun⟨n,u,h,k⟩=>⟨n+1,u,by rw[h,Nat.add_assoc,Nat.add_comm 1],k⟩
 cases z:i.beq c with
 |false=>rw[z] at f;exact g∘ps s _ _ f a b
 |true=>
  rw[z] at f;injection (id f:fr o::_=some d::_) with p q;intro h;rw[List.lookup_cons] at h;split at h
  next t=>cases h;exact⟨0,o,(eq_of_beq t).trans (Nat.eq_of_beq_eq_true z).symm,rfl,p⟩
  next=>exact g (ps s _ K q a b h)
noncomputable def kF(K:Params→Frag)(l:List Addr)(e:∀P,l=(K P).map (·.1)):Hook where
 α:=List (Option Obj)
 obs s:=pk s.heap.objs.toList 0 l
 val w:=(K w.params).map (some ·.2)
 says:=InK K
 of w s h a o k:=by
  obtain⟨n,⟨_,_,d,_⟩,p,q,r⟩:=ps _ 0 _ (e w.params▸h) a o k
  rw[p,Nat.zero_add];unfold Heap.get?;rw[←Array.getElem?_toList,q];cases d<;>first|exact r|cases r
 keeps:=(kHook K l e).keeps
theorem kIn_of{K:Params→Frag}{e:∀P,l=(K P).map (·.1)}(Y:(kF K l e).says w h):(K w.params).In h:=Y
local macro_rules |`(tactic|o_head ($_:ident $K $l $e))=>`(tactic|o_head (kF $K $l $e : Hook))
set_option maxRecDepth 100000 in
set_option maxHeartbeats 0 in
open_top hd_k39 for PySem.Challenge.rw_inkroot_k39_whole_past_stays
end InkHd
noncomputable section
local macro_rules |`(def $d:declId $s:optDeclSig $v:declVal)=>`(noncomputable def $d:declId $s:optDeclSig $v:declVal)
local macro_rules |`(abbrev $d:declId $s:optDeclSig $v:declVal)=>`(noncomputable abbrev $d:declId $s:optDeclSig $v:declVal)
open PySem
open PyProof
open PySem.W (InstAt callWith_K callWith_K0 cellsFrom_some codeIn emptyDict findIn fnOf handedIn hasDictIn instObj isFn kIn_of keepIn kia_one kitOne kitx_dict kitx_list lookIn makesIn methodCall_KW methodObj mg_none_of mg_of mroIn nsIn plainGet plainGet_of plainOver takerIn typeIn)
local macro_rules
|`(⟨$a,*⟩)=>do
 let mut z:=#[]
 let mut c:=false
 for x in a.getElems do
  match x.raw.getId with
  |`Z=>c:=true;z:=z++#[<-`(_),<-`(_),<-`(rfl),<-`(rfl)]
  |`Y=>c:=true;z:=z++#[<-`(_),<-`(rfl)]
  |`V=>c:=true;z:=z++#[<-`(rfl),<-`(rfl)]
  |`K=>c:=true;z:=z++#[<-`(_),<-`(_),<-`(_)]
  |`P=>c:=true;z:=z++#[<-`(_),<-`(_)]
  |`Q=>c:=true;z:=z++#[<-`(by lia)]
  |`E=>c:=true;z:=z++#[<-`(by decide)]
  |_=>z:=z.push x
 if c then`(⟨$z,*⟩)else Lean.Macro.throwUnsupported
local macro_rules|`(tactic|exists $a,*)=>`(tactic|refine ⟨$a,*, ?_⟩)
set_option hygiene false in
local macro_rules|`(‹($a,$i,$p,$s)›)=>`(∀D:Ds K mg aZ bg C CS CW CB CT CD aC az,bf P w K mg zt cM $a (aZ $i) (bg $i) $p $s)
set_option hygiene false in
local macro_rules|`(class inductive $n:declId $b:bracketedBinder* $c:ctor*)=>`(inductive $n $b* (vs:List V)(H:Hp)(Q:VK)(E:XK):Prop $c:ctor*)
set_option hygiene false in
local macro_rules|`(tactic|specialize $e)=>`(tactic|refine $e λcN A zn s H vs Q E hr h=>?_)
local macro_rules|`(nofun)=>`(by decide +kernel)
local macro_rules|`(∅)=>`(by lia)
namespace L2
open Spec Rows
abbrev fj:=Sum Int Str
def zh:fj->Value->Bool
 | .inl k,v=>Value.isInt k v
 | .inr x,v=>Value.isStrOf x v
def acy(w:World):fj->Int
 | .inl k=>hashInt k
 | .inr x=>hashStr w x
theorem fk:∀ {k:fj} {v:Value},zh k v=true->(∃ i t,k=Sum.inl i/\v=Value.int i t)\/(∃ x t,k=Sum.inr x/\v=Value.str x t)
 | .inl i,v,h=>by
  obtain⟨t,e⟩:=Value.isInt_shape (k:=i) (v:=v) h;exact .inl ⟨i,t,rfl,e⟩
 | .inr x,v,h=>by
  obtain⟨t,e⟩:=Value.isStrOf_shape (x:=x) (v:=v) h;exact .inr ⟨x,t,rfl,e⟩
theorem Lb(i:Int)(t:Tok):zh (.inl i) (.int i t)=true:=by simp[zh,Value.isInt]
theorem Lc(x:Str)(t:Tok):zh (.inr x) (.str x t)=true:=by simp[zh,Value.isStrOf]
theorem Va(a b:Int):decide ((Sum.inl a:fj)=Sum.inl b)=(a == b):=by
 by_cases e:a=b
 ·subst e;simp
 ·have h:¬ (Sum.inl a:fj)=Sum.inl b:=λq=>e (Sum.inl.inj q);rw[decide_eq_false h];exact (beq_eq_false_iff_ne.mpr e).symm
theorem Vb(a b:Str):decide ((Sum.inr a:fj)=Sum.inr b)=decide (a=b):=by
 by_cases e:a=b
 ·subst e;simp
 ·have h:¬ (Sum.inr a:fj)=Sum.inr b:=λq=>e (Sum.inr.inj q);rw[decide_eq_false h,decide_eq_false e]
theorem Vc(a:Int)(b:Str):decide ((Sum.inl a:fj)=Sum.inr b)=false:=decide_eq_false (λq=>nomatch q)
theorem Vd(a:Str)(b:Int):decide ((Sum.inr a:fj)=Sum.inl b)=false:=decide_eq_false (λq=>nomatch q)
def fT(prog:Program)(w:World):PySem.KeyKind prog w fj where
 is:=zh
 hash:=acy w
 inj:=λv a b ha hb=>by
  rcases fk ha with ⟨i,t,rfl,rfl⟩|⟨x,t,rfl,rfl⟩
  ·rcases fk hb with ⟨j,u,rfl,e⟩|⟨y,u,rfl,e⟩
   ·injection e with e1 _;rw[e1]
   ·exact nomatch e
  ·rcases fk hb with ⟨j,u,rfl,e⟩|⟨y,u,rfl,e⟩
   ·exact nomatch e
   ·injection e with e1 _;rw[e1]
 byValue:=λk v h=>by
  rcases fk h with ⟨i,t,rfl,rfl⟩|⟨x,t,rfl,rfl⟩ <;> rfl
 pyHash:=λhv h=>by
  rcases fk hv with ⟨i,t,rfl,rfl⟩|⟨x,t,rfl,rfl⟩
  ·exact wpAny_pyHash_int h
  ·exact wpAny_pyHash_str h
 eqBool:=λhu hv h=>by
  rcases fk hu with ⟨i,t,rfl,rfl⟩|⟨x,t,rfl,rfl⟩
  ·rcases fk hv with ⟨j,u,rfl,rfl⟩|⟨y,u,rfl,rfl⟩
   ·rw[Va]at h;exact wpAny_eqBool_int h
   ·rw[Vc]at h;exact SeqAt.EqAt.int_str i t y u _ _ _ _ h
  ·rcases fk hv with ⟨j,u,rfl,rfl⟩|⟨y,u,rfl,rfl⟩
   ·rw[Vd]at h;exact SeqAt.EqAt.str_int x t j u _ _ _ _ h
   ·rw[Vb]at h;exact wpAny_eqBool_str h
 «strs»:=λk x t v h=>by
  rcases fk h with ⟨i,u,rfl,e⟩|⟨y,u,rfl,e⟩
  ·exact nomatch e
  ·injection e with e1 _;subst e1
   cases v <;> rfl
theorem EO(prog:Program)(w:World)(i:Int)(t:Tok):(fT prog w).is (.inl i) (.int i t)=true:=Lb i t
theorem ER(prog:Program)(w:World)(x:Str)(t:Tok):(fT prog w).is (.inr x) (.str x t)=true:=Lc x t
end L2
namespace L2
open Spec Rows
inductive V where
 | fH | bl (b:Bool) | int (i:Int) | str (x:Str) | Hx (b:Array UInt8) | Uc (b:UInt64) | ref (a:Addr) | ty (n:String)
 deriving DecidableEq
def RelV:V->Value->Prop
 | .fH,u=>u=Value.none
 | .bl b,u=>u=Value.bool b
 | .int i,u=>∃ t,u=Value.int i t
 | .str x,u=>∃ t,u=Value.str x t
 | .Hx b,u=>∃ t,u=Value.bytes b t
 | .Uc b,u=>∃ t,u=Value.float b t
 | .ref a,u=>u=Value.ref a
 | .ty n,u=>u=Value.type n
abbrev cy:List V->List Value->Prop:=Paired RelV
theorem cy.length{xs:List V}{us:List Value}(r:cy xs us):xs.length=us.length:=Paired.length r
theorem cy.get:∀ {xs:List V} {us:List Value} {i:Nat} {x:V},cy xs us->xs[i]?=some x->∃ u,us[i]?=some u/\RelV x u
 | _,_,_,_,.nil,e=>by simp at e
 | _,_,0,_,.cons r _,e=>by simp at e;subst e;exact⟨Y,r⟩
 | _,_,i+1,x,.cons _ t,e=>by
  obtain⟨u,h1,h2⟩:=cy.get (i:=i) (x:=x) t (by simpa using e);exact⟨u,by simpa using h1,h2⟩
theorem cy.set{x:V}{u:Value}(r:RelV x u):∀ {xs:List V} {us:List Value} (i:Nat),cy xs us->cy (xs.set i x) (us.set i u)
 | _,_,_,.nil=>.nil
 | _,_,0,.cons _ t=>.cons r t
 | _,_,i+1,.cons q t=>.cons q (cy.set r i t)
theorem cy.append{xs ys:List V}{us ws:List Value}(h:cy xs us)(s:cy ys ws):cy (xs++ys) (us++ws):=by
 induction h with
 | nil=>exact s
 | cons r _ ih=>exact .cons r ih
theorem cy.take:∀ {xs:List V} {us:List Value} (n:Nat),cy xs us->cy (xs.take n) (us.take n)
 | _,_,0,_=>.nil
 | _,_,_+1,.nil=>.nil
 | _,_,n+1,.cons r t=>.cons r (cy.take n t)
theorem cy.drop:∀ {xs:List V} {us:List Value} (n:Nat),cy xs us->cy (xs.drop n) (us.drop n)
 | _,_,0,r=>r
 | _,_,_+1,.nil=>.nil
 | _,_,n+1,.cons _ t=>cy.drop n t
def sJ:Option V->Option Value->Prop
 | some v,some u=>RelV v u
 | none,none=>True
 | _,_=>False
def KV{κ:Type}:List (κ × V)->List (κ × Value)->Prop:=Paired λ(p:κ × V) (q:κ × Value)=>p.1=q.1/\RelV p.2 q.2
def kV:fj->V
 | .inl i=>.int i
 | .inr x=>.str x
inductive HO where
 | lst (xs:List V)
 | tup (xs:List V)
 | dK (kvs:List (fj × V)) | dT (kvs:List (List fj × V))
 | set (S:Int->Bool) (n:Nat)
 | ins (C dx:Addr) (fs:List (Str × V))
 | own (x:Addr)
 | xd (fs:List (Str × V))
 | met (f x:Addr)
 | EH (lo hi:Int)
 | Hy (o:Obj) (u:HO)
 | QS (ps:Array Value)
 | ext (φ:Heap->Prop)
abbrev Hp:=Addr->Option HO
def aP(H:Hp)(a:Addr)(o:HO):Hp:=λb=>if b=a then some o else H b
theorem af{H:Hp}{a:Addr}{o:HO}:aP H a o a=some o:=by unfold aP;rw[if_pos rfl]
theorem aN{H:Hp}{a b:Addr}{o:HO}(h:b≠a):aP H a o b=H b:=by unfold aP;rw[if_neg h]
theorem dH{H:Hp}{a b:Addr}{o u:HO}(h:H a=some o)(h':H b=some u)(d:o≠u:=by intro z;cases z):a≠b:=by
 intro e;subst e;rw[h]at h';exact d (qH h')
theorem aB{H:Hp}{a b:Addr}{o:HO}(h:H a=some o)(h':H b=none):a≠b:=by
 intro e;subst e;rw[h]at h';cases h'
section
variable (P:Program) (w:World)
def fV(H:Hp)(h:Heap)(a:Addr):HO->Prop
 | .lst xs=>xs.length<=sizeLine/\∃ (aO:List Value) (n:Nat),cy xs aO/\h.get? a=some { cls:=.type "list",data:=.seq aO.toArray n }
 | .tup xs=>xs.length<=sizeLine/\∃ aO:List Value,cy xs aO/\IsTup h a aO.toArray
 | .dK kvs=>kvs.length<=sizeLine/\(a == sysModules)=false/\∃ vs,KV kvs vs/\h.DictOf (fT P w) a vs
 | .dT kvs=>kvs.length<=sizeLine/\(a == sysModules)=false/\∃ xs:List (List fj × Addr × Value),
   Paired (λ(p:List fj × V) (q:List fj × Addr × Value)=>p.1=q.1/\H q.2.1=some (.tup (p.1.map kV))/\RelV p.2 q.2.2) kvs xs/\
   ∃ o es ep,h.get? a=some o/\o.ExactDict/\o.data=.dict es ep/\es.toList=xs.map (entryOfKey (tupleKind (fT P w)))/\(xs.map (·.1)).Nodup
 | .set S n=>h.SetOf (intKind P w) a S n
 | .ins C dx fs=>H dx=some (.own a)/\fs.length<=1000/\dx≠a/\h.get? a=some (instObj C dx)/\
   ∃ mA,h.Ns1 dx mA/\(∀ f,sJ (fs.lookup f) (mA f))/\PySem.Within mA (fs.map (·.1))
 | .own _=>∃ o,h.get? a=some o
 | .xd fs=>∃ mA,h.Ns1 a mA/\∀ f,sJ (fs.lookup f) (mA f)
 | .EH lo hi=>∃ t u v,h.get? a=some { cls:=.type "range",data:=.fields #[.int lo t,.int hi u,.int 1 v] }
 | .Hy o u=>h.get? a=some o/\fV H h a u
 | .QS ps=>h.get? a=some { cls:=.none,data:=.fields ps }
 | .met f x=>h.get? a=some (methodObj (.ref f) (.ref x))
 | .ext φ=>φ h/\(∃ o,h.get? a=some o)/\∀ h1 h2:Heap,φ h1->(∀ o,h1.get? a=some o->h2.get? a=some o)->φ h2
def qI(H:Hp)(h:Heap):Prop:=∀ a o,H a=some o->fV P w H h a o
end
section
variable {P:Program} {w:World} {H H':Hp} {h h':Heap} {a:Addr} {o:HO}
theorem fV.lt(x:fV P w H h a o):a<h.objs.size:=by
 cases o with
 | lst xs=>obtain⟨_,_,_,_,e⟩:=x;exact Heap.lt_size e
 | tup xs=>obtain⟨_,_,_,p⟩:=x;exact p.lt
 | dK kvs=>obtain⟨_,_,_,_,o,_,_,e,_⟩:=x;exact Heap.lt_size e
 | dT kvs=>obtain⟨_,_,_,_,o,_,_,e,_⟩:=x;exact Heap.lt_size e
 | set S n=>obtain⟨o,_,_,_,e,_⟩:=x;exact Heap.lt_size e
 | ins C dx fs=>obtain⟨_,_,_,e,_⟩:=x;exact Heap.lt_size e
 | own y=>obtain⟨_,e⟩:=x;exact Heap.lt_size e
 | xd fs=>obtain⟨_,⟨_,_,_,e,_⟩,_⟩:=x;exact Heap.lt_size e
 | EH lo hi=>obtain⟨_,_,_,e⟩:=x;exact Heap.lt_size e
 | Hy ob u=>obtain⟨e,_⟩:=x;exact Heap.lt_size e
 | QS ps=>exact Heap.lt_size (show h.get? a=some _ from x)
 | met f y=>exact Heap.lt_size (show h.get? a=some _ from x)
 | ext φ=>obtain⟨_,⟨_,e⟩,_⟩:=x;exact Heap.lt_size e
theorem Paired.Hz{α β:Type}{F G:α->β->Prop}{l₁:List α}{l₂:List β}(h:Paired F l₁ l₂)(f:∀ a b,F a b->G a b):Paired G l₁ l₂:=by
 induction h with
 | nil=>exact .nil
 | cons r _ ih=>exact .cons (f _ _ r) ih
theorem fV.stay(x:fV P w H h a o)(k:∀ b u,(b=a\/H b=some (.own a))->h.get? b=some u->h'.get? b=some u)
  (ho:∀ b,H b=some (.own a)->H' b=some (.own a)) (ht:∀ b xs,H b=some (.tup xs)->H' b=some (.tup xs)):fV P w H' h' a o:=by
 induction o with
 | lst xs=>obtain⟨z,aO,n,r,e⟩:=x;exact⟨z,aO,n,r,k _ _ (.inl rfl) e⟩
 | tup xs=>obtain⟨z,aO,r,ob,e,c⟩:=x;exact⟨z,aO,r,ob,k _ _ (.inl rfl) e,c⟩
 | dK kvs=>obtain⟨z,y,vs,r,ob,es,ep,e,c⟩:=x;exact⟨z,y,vs,r,ob,es,ep,k _ _ (.inl rfl) e,c⟩
 | dT kvs =>
  obtain⟨z,y,xs,r,ob,es,ep,e,c⟩:=x;exact⟨z,y,xs,Paired.Hz r λp q z=>⟨z.1,ht _ _ z.2.1,z.2.2⟩,ob,es,ep,k _ _ (.inl rfl) e,c⟩
 | set S n=>obtain⟨ob,es,ep,t,e,c⟩:=x;exact⟨ob,es,ep,t,k _ _ (.inl rfl) e,c⟩
 | ins C dx fs =>
  obtain⟨d,z,ne,e,mA,⟨od,es,ep,e2,c⟩,r⟩:=x;exact⟨ho _ d,z,ne,k _ _ (.inl rfl) e,mA,⟨od,es,ep,k _ _ (.inr d) e2,c⟩,r⟩
 | own y=>obtain⟨ob,e⟩:=x;exact⟨ob,k _ _ (.inl rfl) e⟩
 | xd fs=>obtain⟨mA,⟨od,es,ep,e,c⟩,r⟩:=x;exact⟨mA,⟨od,es,ep,k _ _ (.inl rfl) e,c⟩,r⟩
 | EH lo hi=>obtain⟨t,u,v,e⟩:=x;exact⟨t,u,v,k _ _ (.inl rfl) e⟩
 | Hy ob u ih=>obtain⟨e,q⟩:=x;exact⟨k _ _ (.inl rfl) e,ih q⟩
 | QS ps =>
  have e:h.get? a=some { cls:=.none,data:=.fields ps }:=x;show h'.get? a=some { cls:=.none,data:=.fields ps };exact k a _ (.inl rfl) e
 | met f y =>
  have e:h.get? a=some (methodObj (.ref f) (.ref y)):=x;show h'.get? a=some (methodObj (.ref f) (.ref y));exact k a _ (.inl rfl) e
 | ext φ=>obtain⟨p,⟨o,e⟩,st⟩:=x;exact⟨st _ _ p λo q=>k _ _ (.inl rfl) q,⟨o,k _ _ (.inl rfl) e⟩,st⟩
theorem qI.lt(x:qI P w H h)(e:H a=some o):a<h.objs.size:=(x a o e).lt
theorem qI.fresh(x:qI P w H h)(e:h.objs.size<=a):H a=none:=by
 cases q:H a with
 | none=>rfl
 | some u=>exact absurd (o6 (x.lt q) e) (Nat.lt_irrefl _)
theorem qI.kept(x:qI P w H h)(k:∀ b u,h.get? b=some u->h'.get? b=some u):qI P w H h':=λa o e =>
 (x a o e).stay (λb u _ q=>k b u q) (λ_ q=>q) λ_ _ q=>q
theorem qI.laid(x:qI P w H h)(k:∀ b u,h.get? b=some u->h'.get? b=some u)(hp:h.objs.size<=a)(new:fV P w (aP H a o) h' a o):qI P w (aP H a o) h':=λb u e=>by
 have hn:=x.fresh hp;by_cases hb:b=a
 ·subst hb;rw[af]at e;cases e;exact new
 ·rw[aN hb]at e;exact (x b u e).stay (λc v _ q=>k c v q) (λc q=>by rw[aN (aB q hn)];exact q) λc xs q=>by rw[aN (aB q hn)];exact q
end
def Rd(H:Hp)(a:Addr)(u:HO):Prop:=H a=some u\/∃ o,H a=some (.Hy o u)
theorem Rd.ok{P:Program}{w:World}{H:Hp}{h:Heap}{a:Addr}{u:HO}(r:Rd H a u)(x:qI P w H h):fV P w H h a u:=by
 rcases r with r|⟨o,r⟩
 ·exact x a u r
 ·obtain⟨_,q⟩:=x a _ r;exact q
def Yu:Option HO->Prop
 | some (.lst _)=>True
 | some (.dK _)=>True
 | some (.dT _)=>True
 | some (.set _ _)=>True
 | some (.ins _ _ _)=>True
 | some (.ext _)=>True
 | _=>False
section
variable {P:Program} {w:World} {H:Hp} {h h':Heap} {x e:Addr} {o':HO}
theorem qI.write(ok:qI P w H h)(mu:Yu (H x))(he:e=x\/H e=some (.own x))(k:∀ b u,b≠e->h.get? b=some u->h'.get? b=some u)(XR:∃ u,h'.get? e=some u)
  (new:fV P w (aP H x o') h' x o'):qI P w (aP H x o') h':=λb u q=>by
 have Yv:∀ c y,H c=some (.own y)->c≠x:=λc y r z=>by subst z;rw[r]at mu;exact mu
 have acz:∀ c xs,H c=some (.tup xs)->c≠x:=λc xs r z=>by subst z;rw[r]at mu;exact mu
 by_cases hb:b=x
 ·subst hb;rw[af]at q;cases q;exact new
 ·rw[aN hb]at q;by_cases Ve:b=e
  ·have q':H b=some (.own x):=by
    rcases he with z|z
    ·exact absurd (Ve.trans z) hb
    ·rw[Ve];exact z
   rw[q]at q';cases q';obtain⟨v,hv⟩:=XR;exact⟨v,by rw[Ve];exact hv⟩
  ·refine (ok b u q).stay (λc v hc r=>k c v ?_ r) (λc r=>by rw[aN (Yv c b r)];exact r) λc xs r=>by rw[aN (acz c xs r)];exact r
   rcases hc with rfl|hc
   ·exact Ve
   ·rintro rfl;rcases he with z|z
    ·exact Yv c b hc z
    ·rw[hc]at z;cases z;exact hb rfl
end
structure Un(fs ex:List Addr)(H H':Hp)(h h':Heap):Prop where
 keep:∀ b o,h.get? b=some o->H b=none->b∉fs->b∉ex->h'.get? b=some o
 slot:∀ b o,h.get? b=some o->H b=none->b∈fs->b∉ex->∃ sl,h'.get? b=some { o with slots:=sl }
 free:∀ b o,h.get? b=some o->H b=none->b∉ex->H' b=none
 there:∀ b o,h.get? b=some o->b∉ex->∃ o',h'.get? b=some o'
 tups:∀ b xs,H b=some (.tup xs)->H' b=some (.tup xs)
 Ba:∀ b o u,H b=some (.Hy o u)->H' b=some (.Hy o u)
 C9:∀ b ps,H b=some (.QS ps)->∃ more,H' b=some (.QS (ps++more))
section
variable {fs XT ex ex':List Addr} {H H1 H2:Hp} {h h1 h2 h':Heap} {a x e:Addr} {o:HO}
theorem Un.any(u:Un fs ex H H1 h h1){b:Addr}{ob:Obj}(q:h.get? b=some ob)(n:H b=none)(hx:b∉ex):∃ sl,h1.get? b=some { ob with slots:=sl }:=by
 by_cases hb:b∈fs
 ·exact u.slot b ob q n hb hx
 ·exact⟨ob.slots,u.keep b ob q n hb hx⟩
theorem Un.kept(k:∀ b u,h.get? b=some u->h'.get? b=some u):Un fs ex H H h h' :=
 ⟨λb ob q _ _ _=>k b ob q,λb ob q _ _ _=>⟨ob.slots,k b ob q⟩,λ_ _ _ n _=>n,λb ob q _=>⟨ob,k b ob q⟩,λ_ _ q=>q,λ_ _ _ q=>q,λ_ ps q=>⟨#[],by rw[q];simp⟩⟩
theorem Un.refl:Un fs ex H H h h:=Un.kept λ_ _ q=>q
theorem Un.laid(k:∀ b u,h.get? b=some u->h'.get? b=some u)(hp:h.objs.size<=a)(hn:H a=none):Un fs ex H (aP H a o) h h' where
 keep:=λb u q _ _ _=>k b u q
 slot:=λb u q _ _ _=>⟨u.slots,k b u q⟩
 free:=λb u q n _=>by rw[aN (kT (o6 (Heap.lt_size q) hp))];exact n
 there:=λb u q _=>⟨u,k b u q⟩
 tups:=λb xs q=>by rw[aN (aB q hn)];exact q
 Ba:=λb u xs q=>by rw[aN (aB q hn)];exact q
 C9:=λb ps q=>⟨#[],by rw[aN (aB q hn),q];simp⟩
theorem Un.write(mu:Yu (H x))(he:e=x\/H e=some (.own x))(k:∀ b u,b≠e->h.get? b=some u->h'.get? b=some u)(XR:∃ u,h'.get? e=some u):Un fs ex H (aP H x o) h h':=by
 have hx:∀ b,H b=none->b≠x:=λb n z=>by subst z;rw[n]at mu;exact mu
 have hb:∀ b,H b=none->b≠e:=λb n z=>by
  subst z;rcases he with r|r
  ·exact hx b n r
  ·rw[n]at r;cases r
 have hm:∀ b u,H b=some u->¬ Yu (some u)->b≠x:=λb u q nm z=>by subst z;rw[q]at mu;exact nm mu
 refine⟨λb u q n _ _=>k b u (hb b n) q,λb u q n _ _=>⟨u.slots,k b u (hb b n) q⟩,λb u q n _=>by rw[aN (hx b n)];exact n,λb u q _=>?_, λb xs q=>by rw[aN (hm b _ q λz=>z)];exact q,λb u xs q=>by rw[aN (hm b _ q λz=>z)];exact q,λb ps q=>⟨#[],by rw[aN (hm b _ q λz=>z),q];simp⟩⟩;by_cases Ve:b=e
 ·subst Ve;exact XR
 ·exact⟨u,k b u Ve q⟩
end
def trk(h:Heap)(H:Hp):List Addr:=(List.range h.objs.size).filter λa=>(H a).isSome
def Dc(h:Heap)(H:Hp):Heap:=PySem.W.hideAll h (trk h H)
theorem Ld(h:Heap)(H:Hp):(Dc h H).objs.size=h.objs.size:=PySem.W.hideAll_size _ _
theorem Nf{h:Heap}{H:Hp}{b:Addr}{o:Obj}(e:h.get? b=some o)(n:H b=none):(Dc h H).get? b=some o :=
 PySem.W.hideAll_get _ e λhm=>by
  have q:(H b).isSome=true:=(List.mem_filter.mp hm).2;rw[n]at q;simp at q
theorem QT{h:Heap}{H:Hp}{b:Addr}{o:Obj}(e:(Dc h H).get? b=some o):h.get? b=some o/\H b=none:=by
 have e':h.get? b=some o:=PySem.W.of_hideAll (trk h H) e;exists e'
 cases q:H b with
 | none=>rfl
 | some x =>
  have hm:b∈trk h H:=List.mem_filter.mpr ⟨List.mem_range.mpr (Heap.lt_size e'),by simp[q]⟩;have z:(Dc h H).get? b=none:=PySem.W.hideAll_none (trk h H) hm;rw[z]at e;cases e
end L2
namespace L2
open Spec Rows
structure Mod(K:PySem.W.Frag)(mg:Str->Option Value)(zt:Heap):Prop where
 XU:K.In zt
 glob:zt.Ns mainGlobals mg
 blt:∃ mb,zt.Ns builtinsNs mb/\∀ x:Str,x≠"__name__"->mb x=bootBuiltins x
 nolimit:zt.NoLimit
structure Cx where
 prog:Program
 w:World
 K:PySem.W.Frag
 mg:Str->Option Value
 zt:Heap
 A:Around
 N:List Str
 s₀:Shared
 H₀:Hp
 env:Env
 zn:List Env
 stack:List Env
 ex:List Addr
 fn:Str->Bool
 calm:Bool
 pn:List (Addr × Obj)
 xe:Value->Shared->Prop
def qE(l:List Env):List Addr:=l.filterMap (·.frame)
abbrev Cx.fs(X:Cx):List Addr:=qE X.zn
def Vis(sc:Scope)(x:Str):Prop:=sc.names.lookup x=some .local\/sc.names.lookup x=some .cell\/sc.names.lookup x=some .free
def Loc(sc:Scope)(x:Str):Prop:=sc.names.lookup x=some .local\/sc.names.lookup x=some .cell
def Look(env:Env)(h:Heap)(m:Str->Option Value)(x:Str)(u:Value):Prop :=
 (env.kindOf x=some .local/\m x=some u)\/((env.kindOf x=some .cell\/env.kindOf x=some .free)/\∃ c,env.cells.lookup x=some c/\h.IsCell c (some u))
structure Cx.Ok(X:Cx):Prop where
 mod:Mod X.K X.mg X.zt
 kind:X.env.scope.kind=.function
 glob:X.env.globals=mainGlobals
 blt:X.env.builtins=builtinsNs
 above:X.s₀.heap.objs.size<=X.env.locals
 inj:∀ x y c,X.env.cells.lookup x=some c->X.env.cells.lookup y=some c->x=y
 has:∀ x,(X.env.kindOf x=some .cell\/X.env.kindOf x=some .free)->∃ c,X.env.cells.lookup x=some c
 Vf:∀ x c,X.fn x=true->X.env.cells.lookup x=some c->X.s₀.heap.objs.size<=c
 hd:X.calm=true->X.A.handled=none
 frames:X.A.frames=some X.stack
 stk:X.stack=X.zn\/(X.stack=X.env::X.zn/\X.env.frame=some X.env.locals)
 exf:∀ b∈X.ex,b≠X.env.locals/\∀ x c,X.env.cells.lookup x=some c->c≠b
 bs:∀ b o,X.zt.get? b=some o->X.s₀.heap.get? b=some o/\X.H₀ b=none
 Qx:X.zt.objs.size<=X.s₀.heap.objs.size
 HE:∀ b o,X.zt.get? b=some o->b∉X.ex
 Le:∀ b∈X.ex,b∉X.fs
 sL:X.s₀.heap.FunFrames X.zt X.zn
 QU:∀ b∈X.fs,X.H₀ b=none
structure Inv(X:Cx)(ao:List (Addr × Obj))(σ:List (Option V))(H:Hp)(s:Shared):Prop where
 ok:X.Ok
 os:s.os=X.s₀.os
 bare:AllBare s.gens
 zt:Un X.fs X.ex X.H₀ H X.s₀.heap s.heap
 loc:∃ m,s.heap.Ns X.env.locals m/\∀ (i:Nat) (x:Str) (v:V),X.N[i]?=some x->σ[i]?=some (some v)->Vis X.env.scope x->∃ u,RelV v u/\Look X.env s.heap m x u
 cell:∀ x c,X.env.cells.lookup x=some c->∃ v,s.heap.IsCell c v
 free:H X.env.locals=none
 nH:∀ x c,X.env.cells.lookup x=some c->H c=none
 pin:∀ p∈X.pn++ao,s.heap.get? p.1=some p.2/\H p.1=none/\p.1≠X.env.locals/\p.1∉X.fs/\∀ v,p.2.data≠.cell v
 hok:qI X.prog X.w H s.heap
 len:σ.length=X.N.length
section
variable {X:Cx} {ao:List (Addr × Obj)} {σ:List (Option V)} {H H':Hp} {s:Shared} {h':Heap}
theorem Cx.Ok.acA(ok:X.Ok){b:Addr}{o:Obj}(e:X.zt.get? b=some o):b∉X.fs:=λhb=>by
 have:=(ok.sL.mem hb).1;rw[e]at this;cases this
theorem Inv.bs(I:Inv X ao σ H s):∀ b o,X.zt.get? b=some o->s.heap.get? b=some o/\H b=none:=λb o e =>
 ⟨I.zt.keep b o (I.ok.bs b o e).1 (I.ok.bs b o e).2 (I.ok.acA e) (I.ok.HE b o e),I.zt.free b o (I.ok.bs b o e).1 (I.ok.bs b o e).2 (I.ok.HE b o e)⟩
theorem Inv.bk(I:Inv X ao σ H s):∀ b o,X.zt.get? b=some o->s.heap.get? b=some o:=λb o e=>(I.bs b o e).1
theorem Inv.mod(I:Inv X ao σ H s):Mod X.K X.mg X.zt:=I.ok.mod
theorem Inv.uZ(I:Inv X ao σ H s):X.K.In s.heap:=I.ok.mod.XU.keeps I.bk
theorem Inv.lt(I:Inv X ao σ H s):X.env.locals<s.heap.objs.size:=let ⟨_,hn,_⟩:=I.loc;hn.lt
theorem Inv.sz(I:Inv X ao σ H s):X.s₀.heap.objs.size<=s.heap.objs.size:=iJ I.ok.above (gM I.lt)
theorem Inv.acB(I:Inv X ao σ H s){a:Addr}(h:s.heap.objs.size<=a):a∉X.fs:=λhb=>by
 obtain⟨_,o,ho,_⟩:=I.ok.sL.mem hb;exact absurd (o6 (Heap.lt_size ho) (iJ I.sz h)) (Nat.lt_irrefl _)
theorem Inv.Vg(I:Inv X ao σ H s):∀ x c,X.env.cells.lookup x=some c->c≠X.env.locals:=λx c e z=>by
 obtain⟨v,o,ho,hd⟩:=I.cell x c e;obtain⟨m,⟨o',es,ep,Lf,hd',_⟩,_⟩:=I.loc;rw[z,Lf]at ho;cases ho;rw[hd']at hd;cases hd
theorem Inv.sL(I:Inv X ao σ H s):s.heap.FunFrames X.zt X.zn:=by
 have all:∀ (l:List Env),(∀ b∈qE l,b∈X.fs)->X.s₀.heap.FunFrames X.zt l->s.heap.FunFrames X.zt l:=by
  intro l
  induction l with
  | nil=>intro _ _;trivial
  | cons env r ih =>
   intro hs hl;obtain⟨hk,⟨L,o,hf,hn,ho,hd⟩,hr⟩:=hl;have hL:L∈X.fs:=hs L (by unfold qE;rw[List.filterMap_cons,hf];exact tU);obtain⟨sl,e⟩:=I.zt.slot L o ho (I.ok.QU L hL) hL λz=>I.ok.Le L z hL;exact⟨hk,⟨L,_,hf,hn,e,hd⟩,ih (λb hb=>hs b (by unfold qE;rw[List.filterMap_cons,hf];exact nu _ hb)) hr⟩
 exact all X.zn (λ_ hb=>hb) I.ok.sL
theorem Inv.stack(I:Inv X ao σ H s):s.heap.FunFrames X.zt X.stack:=by
 rcases I.ok.stk with e|⟨e,hf⟩
 ·rw[e];exact I.sL
 ·rw[e];obtain⟨m,hn,_⟩:=I.loc;refine .cons (by rw[I.ok.kind];decide) hf hn ?_ I.sL;exact Heap.get?_none_of_le (iJ I.ok.Qx I.ok.above)
theorem Inv.wA(I:Inv X ao σ H s):∀ b∈qE X.stack,b∈X.env.locals::X.fs:=λb hb=>by
 rcases I.ok.stk with e|⟨e,hf⟩
 ·rw[e]at hb;exact nu _ hb
 ·rw[e]at hb;unfold qE at hb;rw[List.filterMap_cons,hf]at hb;exact hb
theorem Inv.vc(I:Inv X ao σ H s):∀ b∈qE X.stack,H b=none:=λb hb=>by
 rcases List.mem_cons.mp (I.wA b hb) with e|hb
 ·rw[e];exact I.free
 ·obtain⟨_,o,ho,_⟩:=I.ok.sL.mem hb;exact I.zt.free b o ho (I.ok.QU b hb) λz=>I.ok.Le b z hb
theorem Inv.step{g':Array GenState}{t':Nat}{d':Drawn}{ch:List Addr}(I:Inv X ao σ H s)
  (Qy:∀ b∈ch,(b∈X.ex\/X.s₀.heap.objs.size<=b)/\b≠X.env.locals/\(∀ x c,X.env.cells.lookup x=some c->c≠b)/\∀ p∈X.pn++ao,p.1≠b)
  (keep:∀ b o,b≠X.env.locals->b∉X.fs->b∉ch->s.heap.get? b=some o->H b=none->h'.get? b=some o)
  (slot:∀ b o,b≠X.env.locals->b∈X.fs->b∉ch->s.heap.get? b=some o->H b=none->∃ sl,h'.get? b=some { o with slots:=sl }) (free:∀ b o,b∉ch->s.heap.get? b=some o->H b=none->H' b=none)
  (there:∀ b o,b∉ch->s.heap.get? b=some o->∃ o',h'.get? b=some o')
  (tups:∀ b xs,H b=some (.tup xs)->H' b=some (.tup xs)) (Ba:∀ b o u,H b=some (.Hy o u)->H' b=some (.Hy o u)) (C9:∀ b ps,H b=some (.QS ps)->∃ more,H' b=some (.QS (ps++more)))
  (ns:∀ m,s.heap.Ns X.env.locals m->h'.Ns X.env.locals m) (hok:qI X.prog X.w H' h') (hg:AllBare g') :
  Inv X ao σ H' { s with heap:=h',gens:=g',drawn:=d',toks:=t' }:=by
 have neL:∀ b o,X.s₀.heap.get? b=some o->b≠X.env.locals:=λb o e=>kT (o6 (Heap.lt_size e) I.ok.above)
 have neC:∀ b o,X.s₀.heap.get? b=some o->b∉X.ex->b∉ch:=λb o e hx hb=>by
  rcases (Qy b hb).1 with z|z
  ·exact hx z
  ·exact absurd (o6 (Heap.lt_size e) z) (Nat.lt_irrefl _)
 have cellK:∀ x c,X.env.cells.lookup x=some c->∀ v,s.heap.IsCell c v->h'.IsCell c v:=λx c e v ⟨o,ho,hd⟩=>by
  have Yw:c∉ch:=λz=>(Qy c z).2.2.1 x c e rfl;by_cases hc:c∈X.fs
  ·obtain⟨sl,q⟩:=slot c o (I.Vg x c e) hc Yw ho (I.nH x c e);exact⟨_,q,hd⟩
  ·exact⟨o,keep c o (I.Vg x c e) hc Yw ho (I.nH x c e),hd⟩
 refine⟨I.ok,I.os,hg,⟨λb o e n hb hx=>?_,λb o e n hb hx=>?_,λb o e n hx=>?_,λb o e hx=>?_,λb xs e=>tups b xs (I.zt.tups b xs e),λb o xs e=>Ba b o xs (I.zt.Ba b o xs e),λb ps e=>?_⟩,?_,λx c e=>?_,?_,λx c e=>?_,λp hp=>?_,hok,I.len⟩
 ·exact keep b o (neL b o e) hb (neC b o e hx) (I.zt.keep b o e n hb hx) (I.zt.free b o e n hx)
 ·obtain⟨sl,e1⟩:=I.zt.slot b o e n hb hx;obtain⟨sl',e2⟩:=slot b _ (neL b o e) hb (neC b o e hx) e1 (I.zt.free b o e n hx);exact⟨sl',e2⟩
 ·obtain⟨o',e1⟩:=I.zt.there b o e hx;exact free b o' (neC b o e hx) e1 (I.zt.free b o e n hx)
 ·obtain⟨o',e1⟩:=I.zt.there b o e hx;exact there b o' (neC b o e hx) e1
 ·obtain⟨m1,e1⟩:=I.zt.C9 b ps e;obtain⟨m2,e2⟩:=C9 b _ e1;exact⟨m1++m2,by rw[e2,Array.append_assoc]⟩
 ·obtain⟨m,hn,hl⟩:=I.loc;refine⟨m,ns m hn,λi x v e1 e2 e3=>?_⟩;obtain⟨u,r,l⟩:=hl i x v e1 e2 e3;exists u,r;rcases l with l|⟨k,c,e,z⟩
  ·exact .inl l
  ·exact .inr ⟨k,c,e,cellK x c e _ z⟩
 ·obtain⟨v,z⟩:=I.cell x c e;exact⟨v,cellK x c e v z⟩
 ·obtain⟨m,⟨o,_,_,ho,_⟩,_⟩:=I.loc;exact free _ o (λz=>(Qy _ z).2.1 rfl) ho I.free
 ·obtain⟨v,o,ho,hd⟩:=I.cell x c e;exact free c o (λz=>(Qy c z).2.2.1 x c e rfl) ho (I.nH x c e)
 ·obtain⟨e,n,ne,nf,d⟩:=I.pin p hp;have Yw:p.1∉ch:=λz=>(Qy p.1 z).2.2.2 p hp rfl;exact⟨keep p.1 p.2 ne nf Yw e n,free p.1 p.2 Yw e n,ne,nf,d⟩
theorem Inv.un{t':Nat}(I:Inv X ao σ H s)(u:Un X.fs [] H H' s.heap h')(hok:qI X.prog X.w H' h'):Inv X ao σ H' { s with heap:=h',toks:=t' }:=by
 obtain⟨m,⟨o,es,ep,ho,r⟩,_⟩:=id I.loc;obtain⟨sl,hL⟩:=u.any ho I.free (by simp)
 exact I.step (g':=s.gens) (d':=s.drawn) (ch:=[]) (λ_ z=>nomatch z) (λb o _ hb _ e n=>u.keep b o e n hb (by simp)) (λb o _ hb _ e n=>u.slot b o e n hb (by simp)) (λb o _ e n=>u.free b o e n (by simp)) (λb o _ e=>u.there b o e (by simp)) u.tups u.Ba u.C9 (λm' hm=>by
  obtain⟨o',tV,ep',Lf,r'⟩:=hm;rw[ho]at Lf;cases Lf
  exact⟨_,tV,ep',hL,r'⟩) hok I.bare
theorem Inv.call{g':Array GenState}{t':Nat}{d':Drawn}{ch:List Addr}(I:Inv X ao σ H s)(u:Un (qE X.stack) ch H H' s.heap h')(hok:qI X.prog X.w H' h')(hg:AllBare g')
  (Qy:∀ b∈ch,(b∈X.ex\/X.s₀.heap.objs.size<=b)/\b≠X.env.locals/\(∀ x c,X.env.cells.lookup x=some c->c≠b)/\∀ p∈X.pn++ao,p.1≠b) :
  Inv X ao σ H' { s with heap:=h',gens:=g',drawn:=d',toks:=t' }:=by
 obtain⟨m,⟨o,es,ep,ho,r⟩,_⟩:=id I.loc;obtain⟨sl,hL⟩:=u.any ho I.free λz=>(Qy _ z).2.1 rfl
 exact I.step (ch:=ch) Qy (λb o hL hb hc e n=>u.keep b o e n (λz=>(List.mem_cons.mp (I.wA b z)).elim hL hb) hc) (λb o _ _ hc e n=>u.any e n hc) (λb o hc e n=>u.free b o e n hc) (λb o hc e=>u.there b o e hc) u.tups u.Ba u.C9 (λm' hm=>by
  obtain⟨o',tV,ep',Lf,r'⟩:=hm;rw[ho]at Lf;cases Lf
  exact⟨_,tV,ep',hL,r'⟩) hok hg
theorem Inv.turned{t':Nat}{it:Addr}(I:Inv X ao σ H s)(k:∀ b o,b≠it->s.heap.get? b=some o->h'.get? b=some o)(hn:H it=none)(hL:it≠X.env.locals)
  (h1:it∈X.ex\/X.s₀.heap.objs.size<=it) (h2:∀ x c,X.env.cells.lookup x=some c->c≠it) (h3:∀ p∈X.pn++ao,p.1≠it):Inv X ao σ H { s with heap:=h',toks:=t' }:=by
 have Ud:∀ b u,H b=some u->b≠it:=λb u e z=>by rw[z,hn]at e;cases e
 refine I.step (g':=s.gens) (d':=s.drawn) (ch:=[it]) (λb hb=>?_) (λb o _ _ hc e _=>k b o (λz=>hc (by simp[z])) e) (λb o _ _ hc e _=>⟨o.slots,k b o (λz=>hc (by simp[z])) e⟩) (λ_ _ _ _ n=>n) (λb o hc e=>⟨o,k b o (λz=>hc (by simp[z])) e⟩) (λ_ _ e=>e) (λ_ _ _ e=>e) (λb ps e=>⟨#[],by rw[e];simp⟩) (λm hm=>?_) (λb u e=>?_) I.bare
 ·have e:b=it:=by simpa using hb
  subst e;exact⟨h1,hL,h2,h3⟩
 ·obtain⟨o,es,ep,ho,r⟩:=hm;exact⟨o,es,ep,k _ o (Ne.symm hL) ho,r⟩
 ·refine (I.hok b u e).stay (λc v hc q=>k c v ?_ q) (λ_ q=>q) λ_ _ q=>q;rcases hc with z|z
  ·rw[z];exact Ud b u e
  ·exact Ud c _ z
theorem Inv.tok(I:Inv X ao σ H s)(t:Nat):Inv X ao σ H { s with toks:=t }:=I.un (h':=s.heap) (t':=t) Un.refl I.hok
theorem Inv.kept{t':Nat}(I:Inv X ao σ H s)(k:∀ b u,s.heap.get? b=some u->h'.get? b=some u):Inv X ao σ H { s with heap:=h',toks:=t' }:=I.un (Un.kept k) (I.hok.kept k)
theorem Inv.laid{a:Addr}{o:HO}{t':Nat}(I:Inv X ao σ H s)(k:∀ b u,s.heap.get? b=some u->h'.get? b=some u)(hp:s.heap.objs.size<=a)(new:fV X.prog X.w (aP H a o) h' a o) :
  Inv X ao σ (aP H a o) { s with heap:=h',toks:=t' }:=I.un (Un.laid k hp (I.hok.fresh hp)) (I.hok.laid k hp new)
theorem Inv.write{x e:Addr}{o:HO}{t':Nat}(I:Inv X ao σ H s)(mu:Yu (H x))(he:e=x\/H e=some (.own x))(k:∀ b u,b≠e->s.heap.get? b=some u->h'.get? b=some u)(XR:∃ u,h'.get? e=some u)
  (new:fV X.prog X.w (aP H x o) h' x o):Inv X ao σ (aP H x o) { s with heap:=h',toks:=t' }:=I.un (Un.write mu he k XR) (I.hok.write mu he k XR new)
theorem Inv.JN(I:Inv X ao σ H s)(h:∀ p∈Ue,s.heap.get? p.1=some p.2/\H p.1=none/\p.1≠X.env.locals/\p.1∉X.fs/\∀ v,p.2.data≠.cell v):Inv X Ue σ H s :=
 ⟨I.ok,I.os,I.bare,I.zt,I.loc,I.cell,I.free,I.nH,λp hp=>(List.mem_append.mp hp).elim (λz=>I.pin p (tT _ z)) (h p),I.hok,I.len⟩
theorem ES{N:List Str}(hN:N.Nodup){i j:Nat}{x:Str}(a:N[i]?=some x)(b:N[j]?=some x):i=j:=by
 obtain⟨h1,e1⟩:=List.getElem?_eq_some_iff.mp a;obtain⟨h2,e2⟩:=List.getElem?_eq_some_iff.mp b;exact (List.getElem_inj hN).mp (e1.trans e2.symm)
theorem BU{M:Model}{A:Around}{E:Value->Shared->Prop}{i:Nat}{x:Str}{v:V}{u:Value}{Q:Unit->Shared->Prop}(I:Inv X ao σ H s)(hN:X.N.Nodup)(hi:X.N[i]?=some x)(hx:Loc X.env.scope x)(r:RelV v u)
  (h:∀ s',Inv X ao (σ.set i (some v)) H s'->(∃ a,Heap.SameBut a s.heap s'.heap/\(a=X.env.locals\/X.env.cells.lookup x=some a))->Q () s') (hf:X.fn x=true\/X.env.scope.names.lookup x=some .local:=by first|exact .inl rfl|exact .inr rfl|assumption):wpAny M A (storeName X.env x u) Q E s:=by
 obtain⟨m,hn,hl⟩:=id I.loc;have hcls:(X.env.scope.kind == .class || (X.env.scope.kind == .module&&X.env.locals != X.env.globals))=false:=by rw[I.ok.kind];rfl
 have hiσ:i<σ.length:=by rw[I.len];exact (List.getElem?_eq_some_iff.mp hi).1
 have Vg:=I.Vg
 have tracked:∀ {a:Addr} {h':Heap},(∃ o,s.heap.get? a=some o/\H a=none)->Heap.SameBut a s.heap h'->qI X.prog X.w H h':=λ{a h'} ha hs b ob e=>by
  obtain⟨_,_,JO⟩:=ha;refine (I.hok b ob e).stay (λc w' hc q=>(hs.2 c ?_).trans q) (λ_ q=>q) λ_ _ q=>q;rintro rfl;rcases hc with rfl|hc
  ·rw[JO]at e;cases e
  ·rw[JO]at hc;cases hc
 rcases hx with hk|hk
 ·refine wpAny_storeName_local hk hn (λh' hn' hs=>?_) hcls;obtain⟨oL,_,_,hoL,_⟩:=id hn;refine h _ ⟨I.ok,I.os,I.bare,⟨λb o e n hb hx=>?_,λb o e n hb hx=>?_,I.zt.free,λb o e hx=>?_,I.zt.tups,I.zt.Ba,I.zt.C9⟩,⟨_,hn',λj y v' e1 e2 e3=>?_⟩,λy c e=>?_,I.free,I.nH,λp hp=>?_,tracked ⟨oL,hoL,I.free⟩ hs,by simpa using I.len⟩ ⟨_,hs,.inl rfl⟩
  ·exact (hs.2 b (kT (o6 (Heap.lt_size e) I.ok.above))).trans (I.zt.keep b o e n hb hx)
  ·obtain⟨sl,e1⟩:=I.zt.slot b o e n hb hx;exact⟨sl,(hs.2 b (kT (o6 (Heap.lt_size e) I.ok.above))).trans e1⟩
  ·obtain⟨o',e1⟩:=I.zt.there b o e hx;exact⟨o',(hs.2 b (kT (o6 (Heap.lt_size e) I.ok.above))).trans e1⟩
  ·by_cases hj:j=i
   ·subst hj;rw[hi]at e1;cases e1;rw[List.getElem?_set_self hiσ]at e2;cases e2;exact⟨u,r,.inl ⟨hk,by simp⟩⟩
   ·rw[List.getElem?_set_ne (Ne.symm hj)]at e2;obtain⟨u',r',q⟩:=hl j y v' e1 e2 e3;exists u',r';rcases q with ⟨k,e⟩|⟨k,c,e,z⟩
    ·refine .inl ⟨k,?_⟩;have:y≠x:=λe=>hj (ES hN e1 (e ▸ hi));simp[this,e]
    ·exact .inr ⟨k,c,e,z.sameBut hs (Vg y c e)⟩
  ·obtain⟨w',z⟩:=I.cell y c e;exact⟨w',z.sameBut hs (Vg y c e)⟩
  ·obtain⟨e,n,ne,nf,d⟩:=I.pin p hp;exact⟨(hs.2 p.1 ne).trans e,n,ne,nf,d⟩
 ·have hfn:X.fn x=true:=by
   rcases hf with z|z
   ·exact z
   ·rw[z]at hk;cases hk
  obtain⟨c,hc⟩:=I.ok.has x (.inl hk);obtain⟨w',z⟩:=I.cell x c hc;refine wpAny_storeName_cell I.ok.kind hk hc z (λh' Yx hs=>?_);obtain⟨oc,hoc,acE⟩:=id z;refine h { s with heap:=h' } ⟨I.ok,I.os,I.bare,⟨λb o e n hb hx=>?_,λb o e n hb hx=>?_,I.zt.free,λb o e hx=>?_,I.zt.tups,I.zt.Ba,I.zt.C9⟩,⟨m,hn.sameBut hs (Ne.symm (Vg x c hc)),λj y v' e1 e2 e3=>?_⟩,λy c' e=>?_,I.free,I.nH,λp hp=>?_,tracked ⟨oc,hoc,I.nH x c hc⟩ hs,by simpa using I.len⟩ ⟨c,hs,.inr hc⟩
  ·exact (hs.2 b (kT (o6 (Heap.lt_size e) (I.ok.Vf x c hfn hc)))).trans (I.zt.keep b o e n hb hx)
  ·obtain⟨sl,e1⟩:=I.zt.slot b o e n hb hx;exact⟨sl,(hs.2 b (kT (o6 (Heap.lt_size e) (I.ok.Vf x c hfn hc)))).trans e1⟩
  ·obtain⟨o',e1⟩:=I.zt.there b o e hx;exact⟨o',(hs.2 b (kT (o6 (Heap.lt_size e) (I.ok.Vf x c hfn hc)))).trans e1⟩
  ·by_cases hj:j=i
   ·subst hj;rw[hi]at e1;cases e1;rw[List.getElem?_set_self hiσ]at e2;cases e2;exact⟨u,r,.inr ⟨.inl hk,c,hc,Yx⟩⟩
   ·rw[List.getElem?_set_ne (Ne.symm hj)]at e2;obtain⟨u',r',q⟩:=hl j y v' e1 e2 e3;exists u',r';rcases q with q|⟨k,c',e,z'⟩
    ·exact .inl q
    ·refine .inr ⟨k,c',e,z'.sameBut hs ?_⟩;rintro rfl;exact hj (ES hN e1 (I.ok.inj _ _ _ e hc ▸ hi))
  ·by_cases hcc:c'=c
   ·subst hcc;exact⟨_,Yx⟩
   ·obtain⟨w2,z2⟩:=I.cell y c' e;exact⟨w2,z2.sameBut hs hcc⟩
  ·obtain⟨e,n,ne,nf,d⟩:=I.pin p hp;refine⟨(hs.2 p.1 ?_).trans e,n,ne,nf,d⟩;intro q;rw[q,hoc]at e;have q':oc=p.2:=qH e;exact d w' (by rw[← q'];exact acE)
theorem vd{M:Model}{A:Around}{E:Value->Shared->Prop}{i:Nat}{x:Str}{v:V}{u:Value}{Q:Unit->Shared->Prop}(I:Inv X ao σ H s)(hN:X.N.Nodup)(hi:X.N[i]?=some x)(hx:Loc X.env.scope x)(r:RelV v u)
  (h:∀ s',Inv X ao (σ.set i (some v)) H s'->Q () s') (hf:X.fn x=true\/X.env.scope.names.lookup x=some .local:=by first|exact .inl rfl|exact .inr rfl|assumption):wpAny M A (storeName X.env x u) Q E s :=
 BU I hN hi hx r (λs' I' _=>h s' I') hf
theorem Inv.ET{s':Shared}{ch:List Addr}(I:Inv X ao σ H s)(ho:s'.os=s.os)(u:Un (qE X.stack) ch H H' s.heap s'.heap)(hok:qI X.prog X.w H' s'.heap)(hg:AllBare s'.gens)
  (Qy:∀ b∈ch,(b∈X.ex\/X.s₀.heap.objs.size<=b)/\b≠X.env.locals/\(∀ x c,X.env.cells.lookup x=some c->c≠b)/\∀ p∈X.pn++ao,p.1≠b):Inv X ao σ H' s':=by
 obtain⟨h',g',d',t',o'⟩:=s';have e:o'=s.os:=ho;subst e;exact I.call (g':=g') (t':=t') (d':=d') u hok hg Qy
end
abbrev XK:=Value->Option Addr->Hp->Prop
abbrev St:=List (Option V)
abbrev VK:=V->Hp->Prop
abbrev TE:=St->Hp->VK->Prop
abbrev TT:=St->Hp->(Bool->Hp->Prop)->Prop
abbrev TA:=St->Hp->(List V->Hp->Prop)->Prop
structure Ends where
 nx:St->Hp->Prop
 rt:VK
 bk:St->Hp->Prop:=λ_ _=>False
 ct:St->Hp->Prop:=λ_ _=>False
abbrev TS:=Ends->St->Hp->Prop
inductive EP(X:Cx)(ao:List (Addr × Obj))(σ:St)(Q:VK)(u:Value)(s':Shared):Prop
 | mk (v:V) (H':Hp) (_:Inv X ao σ H' s') (_:RelV v u) (_:Q v H')
def TP(X:Cx)(ao:List (Addr × Obj))(σ:St)(Q:Bool->Hp->Prop)(b:Bool)(s':Shared):Prop:=∃ H',Inv X ao σ H' s'/\Q b H'
inductive AP(X:Cx)(ao:List (Addr × Obj))(σ:St)(Q:List V->Hp->Prop)(us:List Value)(s':Shared):Prop
 | mk (vs:List V) (H':Hp) (_:Inv X ao σ H' s') (_:cy vs us) (_:Q vs H')
def SP(X:Cx)(ao:List (Addr × Obj))(D:Ends)(f:Flow)(s':Shared):Prop :=
 match f with
 | .next=>∃ σ' H',Inv X ao σ' H' s'/\D.nx σ' H'
 | .brk=>∃ σ' H',Inv X ao σ' H' s'/\D.bk σ' H'
 | .cont=>∃ σ' H',Inv X ao σ' H' s'/\D.ct σ' H'
 | .ret u=>∃ v σ' H',Inv X ao σ' H' s'/\RelV v u/\D.rt v H'
def PE(X:Cx)(e:Expr)(t:TE):Prop :=
 ∀ (ao:List (Addr × Obj)) (s:Shared) (σ:St) (H:Hp) (Q:VK),Inv X ao σ H s->t σ H Q->wpAny (model X.prog X.w) X.A (eval e X.env) (EP X ao σ Q) X.xe s
def PT(X:Cx)(e:Expr)(t:TT):Prop :=
 ∀ (ao:List (Addr × Obj)) (s:Shared) (σ:St) (H:Hp) (Q:Bool->Hp->Prop),Inv X ao σ H s->t σ H Q->wpAny (model X.prog X.w) X.A (isTrue e X.env (eval e X.env)) (TP X ao σ Q) X.xe s
def PW(X:Cx)(e:Expr)(t:TT):Prop :=
 ∀ (zj:Sem Value) (ao:List (Addr × Obj)) (s:Shared) (σ:St) (H:Hp) (Q:Bool->Hp->Prop),Inv X ao σ H s->t σ H Q->wpAny (model X.prog X.w) X.A (isTrue e X.env zj) (TP X ao σ Q) X.xe s
theorem PW.pt{X:Cx}{e:Expr}{t:TT}(h:PW X e t):PT X e t:=h _
def PA(X:Cx)(es:List Expr)(t:TA):Prop :=
 ∀ (pos:Pos) (ao:List (Addr × Obj)) (s:Shared) (σ:St) (H:Hp) (Q:List V->Hp->Prop),Inv X ao σ H s->t σ H Q->wpAny (model X.prog X.w) X.A (spliced (backTo pos (starEach es X.env))) (AP X ao σ Q) X.xe s
def PS(X:Cx)(st:Stmt)(t:TS):Prop :=
 ∀ (ao:List (Addr × Obj)) (s:Shared) (σ:St) (H:Hp) (D:Ends),Inv X ao σ H s->t D σ H->wpAny (model X.prog X.w) X.A (exec st X.env) (SP X ao D) X.xe s
def EI(X:Cx)(st:List Stmt)(t:TS):Prop :=
 ∀ (ao:List (Addr × Obj)) (s:Shared) (σ:St) (H:Hp) (D:Ends),Inv X ao σ H s->t D σ H->wpAny (model X.prog X.w) X.A (execs st X.env) (SP X ao D) X.xe s
theorem cX{α:Type}{t:Sem α}{Q Q':α->Shared->Prop}{M:Model}{A:Around}{E:Value->Shared->Prop}{s:Shared}(h:wpAny M A t Q E s)(hQ:∀ a s,Q a s->Q' a s):wpAny M A t Q' E s:=wpAny_mono h hQ λ_ _ x=>x
end L2
namespace L2
open Spec Rows
section
variable {X:Cx}
inductive Vh(i:Nat)(σ:St)(H:Hp)(Q:VK):Prop
 | mk (v:V) (_:σ[i]?=some (some v)) (_:Q v H)
inductive isB(x:V)(H:Hp)(Q:Bool->Hp->Prop):Prop
 | mk (c:Bool) (_:x=.bl c) (_:Q c H)
inductive isI(x:V)(H:Hp)(Q:Option Int->Hp->Prop):Prop
 | mk (i:Int) (_:x=.int i) (_:Q (some i) H)
def tC(v:V):TE:=λ_ H Q=>Q v H
theorem Vi{i:Nat}{x:Str}(hN:X.N[i]?=some x)(hv:Vis X.env.scope x)(hd:(x == ("__debug__":Str))=false:=by decide)(Lg:(x == ("__classdict__":Str))=false:=by decide):PE X (.Name x pos) (Vh i):=by
 intro ao s σ H Q I h;obtain⟨v,e,h⟩:=h;obtain⟨m,hn,hl⟩:=I.loc;obtain⟨u,r,l⟩:=hl i x v hN e hv;have kO:EP X ao σ Q u s:=⟨v,H,I,r,h⟩;rcases l with ⟨hk,hm⟩|⟨hk,c,hc,hcell⟩
 ·exact wpAny_Name (wpAny_loadName_local I.ok.kind hk hn hm kO) hd
 ·rcases hk with hk|hk
  ·exact wpAny_Name (wpAny_loadName_cell I.ok.kind hk hc hcell kO) hd
  ·exact wpAny_Name (wpAny_loadName_free I.ok.kind hk hc hcell kO Lg) hd
theorem ay{i j pos}:PE X (.Constant (.int i) j pos) (tC (.int i)):=λ_ _ _ H _ I h=>wpAny_Constant_int ⟨.int i,H,I.tok _,⟨Y⟩,h⟩
theorem nI{b j pos}:PE X (.Constant (.bool b) j pos) (tC (.bl b)):=λ_ _ _ H _ I h=>Constant_bool ⟨.bl b,H,I,rfl,h⟩
theorem zk{j pos}:PE X (.Constant .none j pos) (tC .fH):=λ_ _ _ H _ I h=>Constant_none ⟨.fH,H,I,rfl,h⟩
theorem br{x j pos}:PE X (.Constant (.str x) j pos) (tC (.str x)):=λ_ _ _ H _ I h=>Calls.Constant_str ⟨.str x,H,I.tok _,⟨Y⟩,h⟩
def Gl(X:Cx)(x:Str):Prop:=X.env.kindOf x=some .globalImplicit
theorem rO{E:Value->Shared->Prop}{s:Shared}{σ:St}{H:Hp}{x:Str}{u:Value}{Q:Value->Shared->Prop}(I:Inv X ao σ H s)(hg:Gl X x)(hm:X.mg x=some u)(h:Q u s)
  (hd:(x == ("__debug__":Str))=false:=by decide):wpAny (model X.prog X.w) X.A (eval (.Name x pos) X.env) Q E s :=
 Calls.Name_function_global I.ok.kind hg (Calls.loadGlobal_global (by rw[I.ok.glob];exact I.mod.glob.keeps I.bk) hm h) hd
theorem wB{E:Value->Shared->Prop}{s:Shared}{σ:St}{H:Hp}{x:Str}{u:Value}{Q:Value->Shared->Prop}(I:Inv X ao σ H s)(hg:Gl X x)(hm:X.mg x=none)(hv:bootBuiltins x=some u)(h:Q u s)
  (hn:x≠"__name__":=by decide) (hd:(x == ("__debug__":Str))=false:=by decide):wpAny (model X.prog X.w) X.A (eval (.Name x pos) X.env) Q E s:=by
 obtain⟨mb,h1,h2⟩:=I.mod.blt;exact Calls.Name_function_global I.ok.kind hg (Calls.loadGlobal_builtin (by rw[I.ok.glob];exact I.mod.glob.keeps I.bk) hm (by rw[I.ok.blt];exact h1.keeps I.bk) ((h2 x hn).trans hv) h) hd
theorem Dd{x:Str}{v:V}{u:Value}(hg:Gl X x)(hm:X.mg x=some u)(r:RelV v u)(hd:(x == ("__debug__":Str))=false:=by decide):PE X (.Name x pos) (tC v) :=
 λ_ _ _ H _ I h=>rO I hg hm ⟨v,H,I,r,h⟩ hd
theorem QV{x:Str}{v:V}{u:Value}(hg:Gl X x)(hm:X.mg x=none)(hv:bootBuiltins x=some u)(r:RelV v u)(hn:x≠"__name__":=by decide)(hd:(x == ("__debug__":Str))=false:=by decide):PE X (.Name x pos) (tC v) :=
 λ_ _ _ H _ I h=>wB I hg hm hv ⟨v,H,I,r,h⟩ hn hd
variable {a b:Expr} {ta tb:TE} {pos:Pos}
def PC(X:Cx)(op:CmpOp)(a b:Expr)(t:TE):Prop :=
 ∀ (ao:List (Addr × Obj)) (s:Shared) (σ:St) (H:Hp) (Q:VK),Inv X ao σ H s->t σ H Q->
  wpAny (model X.prog X.w) X.A (eval a X.env) (λv s₁=>wpAny (model X.prog X.w) X.A (eval b X.env) (λu s₂=>wpAny (model X.prog X.w) X.A (compareOp op v u) (EP X ao σ Q) X.xe s₂) X.xe s₁) X.xe s
theorem EU(b:Expr){op:CmpOp}(h:op≠.In)(h2:op≠.NotIn):behindInMarks op b=false:=by
 have e1:(op == CmpOp.In)=false:=by cases op <;> first|rfl|exact absurd rfl h
 have e2:(op == CmpOp.NotIn)=false:=by cases op <;> first|rfl|exact absurd rfl h2
 cases b <;> simp[behindInMarks,e1,e2]
def acF(ta:TE):TE:=fun σ H Q=>ta σ H λx H1=>Q (.bl (decide (x=.fH))) H1
def Yy(ta:TE):TE:=fun σ H Q=>ta σ H λx H1=>Q (.bl (!decide (x=.fH))) H1
theorem RelV.EV{x:V}{v:Value}(r:RelV x v):(v == Value.none)=decide (x=.fH):=by
 cases x with
 | fH=>cases r;rfl
 | bl _=>cases r;rfl
 | int _=>obtain⟨t,rfl⟩:=r;rfl
 | str _=>obtain⟨t,rfl⟩:=r;rfl
 | Hx _=>obtain⟨t,rfl⟩:=r;rfl
 | Uc _=>obtain⟨t,rfl⟩:=r;rfl
 | ref _=>cases r;rfl
 | ty _=>cases r;rfl
theorem HF{j iz}(ha:PE X a ta):PC X .Is a (.Constant .none j iz) (acF ta):=by
 intro ao s σ H Q I h;refine cX (ha ao s σ H _ I h) λv s1 Bb=>?_;obtain⟨x,H1,I1,r1,q1⟩:=Bb;exact Constant_none (is_none_gen ⟨.bl _,H1,I1,by rw[r1.EV];rfl,q1⟩)
theorem QW{j iz}(ha:PE X a ta):PC X .IsNot a (.Constant .none j iz) (Yy ta):=by
 intro ao s σ H Q I h;refine cX (ha ao s σ H _ I h) λv s1 EW=>?_;obtain⟨x,H1,I1,r1,q1⟩:=EW;exact Constant_none (isnot_none_gen ⟨.bl _,H1,I1,by rw[r1.EV];rfl,q1⟩)
def tB(t:TE):TT:=fun σ H Q=>t σ H λx H1=>isB x H1 Q
theorem Ng{op:CmpOp}{t:TE}(h:PC X op a b t)(h1:behindInMarks op b=false:=by first|exact EU _ (by decide) (by decide)|rfl):PE X (.Compare a [op] [b] pos) t:=λao s σ H Q I hw=>wpAny_Compare1 (h ao s σ H Q I hw) h1
theorem De{op:CmpOp}{t:TE}(h:PC X op a b t)(h1:behindInMarks op b=false:=by first|exact EU _ (by decide) (by decide)|rfl):PT X (.Compare a [op] [b] pos) (tB t):=by
 intro ao s σ H Q I hw;refine wpAny_isTrue_Compare1 (cX (h ao s σ H _ I hw) λv s1 h1=>cX h1 λu s2 h2=>cX h2 λc s3 ⟨x,H1,I1,r1,q1⟩=>?_) h1;obtain⟨d,rfl,q⟩:=q1;cases r1;exact wpAny_truthy_bool ⟨H1,I1,q⟩
theorem jZ{e:Expr}{t:TE}(h:PE X e t)(he:∀ zj,isTrue e X.env zj=(do let v ← zj;standAt e.pos;holding [v] (truthy v)):=by intro _;rfl):PT X e (tB t):=by
 intro ao s σ H Q I hw;refine isTrue_plain (cX (h ao s σ H _ I hw) λv s1 ⟨x,H1,I1,r1,q1⟩=>?_) (he _);obtain⟨d,rfl,q⟩:=q1;cases r1;exact wpAny_truthy_bool ⟨H1,I1,q⟩
variable {tA tB':TT} {qJ:List Expr}
def acG(t u:TT):TT:=fun σ H Q=>t σ H λc H1=>if c=true then u σ H1 Q else Q false H1
def tOr(t u:TT):TT:=fun σ H Q=>t σ H λc H1=>if c=true then Q true H1 else u σ H1 Q
def acH(t:TT):TT:=fun σ H Q=>t σ H λc H1=>Q (!c) H1
theorem o7(ha:PT X a tA):PW X (.BoolOp .And [a] pos) tA:=by
 intro wh ao s σ H Q I h;refine isTrue_and (cX (ha ao s σ H Q I h) λc s1 e=>?_)
 cases c with
 | true=>exact isTrue_and_nil e
 | false=>exact e
theorem zl(ha:PT X a tA):PW X (.BoolOp .Or [a] pos) tA:=by
 intro wh ao s σ H Q I h;refine isTrue_or (cX (ha ao s σ H Q I h) λc s1 e=>?_)
 cases c with
 | false=>exact isTrue_or_nil e
 | true=>exact e
theorem qK(ha:PT X a tA)(hb:PW X (.BoolOp .And (b::qJ) pos) tB'):PW X (.BoolOp .And (a::b::qJ) pos) (acG tA tB'):=by
 intro wh ao s σ H Q I h;refine isTrue_and (cX (ha ao s σ H _ I h) λc s1 Bc=>?_);obtain⟨H1,I1,q1⟩:=Bc
 cases c with
 | true=>exact hb wh ao s1 σ H1 Q I1 q1
 | false=>exact⟨H1,I1,q1⟩
theorem BV(ha:PT X a tA)(hb:PW X (.BoolOp .Or (b::qJ) pos) tB'):PW X (.BoolOp .Or (a::b::qJ) pos) (tOr tA tB'):=by
 intro wh ao s σ H Q I h;refine isTrue_or (cX (ha ao s σ H _ I h) λc s1 EX=>?_);obtain⟨H1,I1,q1⟩:=EX
 cases c with
 | true=>exact⟨H1,I1,q1⟩
 | false=>exact hb wh ao s1 σ H1 Q I1 q1
theorem iK(ha:PT X a tA):PT X (.UnaryOp .Not a pos) (acH tA):=by
 intro ao s σ H Q I h;exact isTrue_not (ha ao s σ H (λc H1=>Q (!c) H1) I h)
def Yz(ta tb:TE):TE:=fun σ H Q=>ta σ H λx H1=>isB x H1 λc H1=>if c=true then tb σ H1 Q else Q (.bl false) H1
def YA(ta:TE):TE:=fun σ H Q=>ta σ H λx H1=>isB x H1 λc H1=>Q (.bl (!c)) H1
theorem pA{op}{t:TE}(h:PE X a t):PE X (.BoolOp op [a] pos) t:=λao s σ H Q I hw=>BoolOp_one (h ao s σ H Q I hw)
theorem nY(ha:PE X a ta)(hb:PE X (.BoolOp .And (b::qJ) pos) tb):PE X (.BoolOp .And (a::b::qJ) pos) (Yz ta tb):=by
 intro ao s σ H Q I h;refine BoolOp_and (cX (ha ao s σ H _ I h) λv s1 Df=>?_);obtain⟨x,H1,I1,r1,q1⟩:=Df;obtain⟨c,rfl,q1⟩:=q1;cases r1;refine wpAny_truthy_bool ?_
 cases c with
 | true=>exact hb ao s1 σ H1 Q I1 q1
 | false=>exact⟨.bl false,H1,I1,rfl,q1⟩
theorem Vj(ha:PE X a ta):PE X (.UnaryOp .Not a pos) (YA ta):=by
 intro ao s σ H Q I h;refine UnaryOp_ (cX (ha ao s σ H _ I h) λv s1 HG=>?_);obtain⟨x,H1,I1,r1,q1⟩:=HG;obtain⟨c,rfl,q1⟩:=q1;cases r1;exact not_of (wpAny_truthy_bool ⟨.bl (!c),H1,I1,rfl,q1⟩)
def tIf(t:TT)(ta tb:TE):TE:=fun σ H Q=>t σ H λc H1=>if c=true then ta σ H1 Q else tb σ H1 Q
theorem EY{c:Expr}(hc:PT X c tA)(ha:PE X a ta)(hb:PE X b tb):PE X (.IfExp c a b pos) (tIf tA ta tb):=by
 intro ao s σ H Q I h;refine wpAny_IfExp (cX (hc ao s σ H _ I h) λd s1 Bb=>?_);obtain⟨H1,I1,q1⟩:=Bb
 cases d with
 | true=>exact ha ao s1 σ H1 Q I1 q1
 | false=>exact hb ao s1 σ H1 Q I1 q1
end
end L2
namespace L2
open Spec Rows
def bL(K:PySem.W.Frag)(H:Hp)(a:Addr)(xs:List V):Prop :=
 Rd H a (.lst xs)\/
  ∃ (o:Obj) (aO:Array Value) (n:Nat),K.lookup a=some o/\o.cls=.type "list"/\o.dict=none/\o.data=.seq aO n/\aO.size<=sizeLine/\cy xs aO.toList
def dG(K:PySem.W.Frag)(H:Hp)(a:Addr)(xs:List V):Prop :=
 Rd H a (.tup xs)\/
  ∃ (o:Obj) (aO:Array Value) (n:Nat),K.lookup a=some o/\o.cls=.type "tuple"/\o.data=.seq aO n/\aO.size<=sizeLine/\cy xs aO.toList
def acI:Value->Option V
 | .none=>some .fH
 | .bool b=>some (.bl b)
 | .int i _=>some (.int i)
 | .str x _=>some (.str x)
 | .bytes b _=>some (.Hx b)
 | .float b _=>some (.Uc b)
 | .ref a=>some (.ref a)
 | .type n=>some (.ty n)
 | _=>none
theorem RelV.abs{x:V}{u:Value}(r:RelV x u):acI u=some x:=by
 cases x with
 | fH=>cases r;rfl
 | bl _=>cases r;rfl
 | int _=>obtain⟨t,rfl⟩:=r;rfl
 | str _=>obtain⟨t,rfl⟩:=r;rfl
 | Hx _=>obtain⟨t,rfl⟩:=r;rfl
 | Uc _=>obtain⟨t,rfl⟩:=r;rfl
 | ref _=>cases r;rfl
 | ty _=>cases r;rfl
theorem RelV.inj{x y:V}{u:Value}(r:RelV x u)(q:RelV y u):x=y:=qH (r.abs.symm.trans q.abs)
theorem cy.inj:∀ {xs ys:List V} {us:List Value},cy xs us->cy ys us->xs=ys
 | _,_,_,.nil,.nil=>rfl
 | _,_,_,.cons r t,.cons r' t'=>by rw[r.inj r',cy.inj t t']
section
variable {X:Cx} {ao:List (Addr × Obj)} {σ:St} {H:Hp} {s:Shared} {a:Addr} {xs ys:List V}
theorem bL.of{K:PySem.W.Frag}(h:H a=some (.lst xs)):bL K H a xs:=.inl (.inl h)
theorem dG.of{K:PySem.W.Frag}(h:H a=some (.tup xs)):dG K H a xs:=.inl (.inl h)
theorem Inv.list(I:Inv X ao σ H s)(h:bL X.K H a xs):∃ aO:List Value,cy xs aO/\PlainL s.heap a aO.toArray/\xs.length<=sizeLine:=by
 rcases h with h|⟨o,aO,n,hk,hc,hd,hs,hz,r⟩
 ·obtain⟨z,aO,n,r,e⟩:=h.ok I.hok;exact⟨aO,r,⟨_,n,e,V,rfl⟩,z⟩
 ·refine⟨aO.toList,r,⟨o,n,I.uZ a o hk,hc,hd,by simpa using hs⟩,?_⟩;have e:=r.length;simp only[Array.length_toList]at e;lia
theorem Inv.tuple(I:Inv X ao σ H s)(h:dG X.K H a xs):∃ aO:List Value,cy xs aO/\IsTup s.heap a aO.toArray/\xs.length<=sizeLine:=by
 rcases h with h|⟨o,aO,n,hk,hc,hs,hz,r⟩
 ·obtain⟨z,aO,r,p⟩:=h.ok I.hok;exact⟨aO,r,p,z⟩
 ·refine⟨aO.toList,r,⟨o,I.uZ a o hk,hc,n,by simpa using hs⟩,?_⟩;have e:=r.length;simp only[Array.length_toList]at e;lia
theorem Inv.EZ(I:Inv X ao σ H s)(h:bL X.K H a xs)(h':bL X.K H a ys):xs=ys:=by
 obtain⟨aO,r,⟨o,n,e,_,_,d⟩,_⟩:=I.list h;obtain⟨its',r',⟨o',n',e',_,_,d'⟩,_⟩:=I.list h';rw[e]at e';cases e';rw[d]at d';injection d' with d1 _;have:aO=its':=by simpa using congrArg Array.toList d1
 subst this;exact r.inj r'
theorem Inv.BW(I:Inv X ao σ H s)(h:dG X.K H a xs)(h':dG X.K H a ys):xs=ys:=by
 obtain⟨aO,r,⟨o,e,_,n,d⟩,_⟩:=I.tuple h;obtain⟨its',r',⟨o',e',_,n',d'⟩,_⟩:=I.tuple h';rw[e]at e';cases e';rw[d]at d';injection d' with d1 _;have:aO=its':=by simpa using congrArg Array.toList d1
 subst this;exact r.inj r'
end
abbrev Cx.wC(X:Cx)(E:Value->Shared->Prop):Cx:={ X with xe:=E }
abbrev Cx.EJ(X:Cx):Cx:=X.wC λ_ _=>False
theorem Cx.Ok.wC{X:Cx}(ok:X.Ok)(E:Value->Shared->Prop):(X.wC E).Ok :=
 ⟨ok.mod,ok.kind,ok.glob,ok.blt,ok.above,ok.inj,ok.has,ok.Vf,ok.hd,ok.frames,ok.stk,ok.exf,ok.bs,ok.Qx,ok.HE,ok.Le,ok.sL,ok.QU⟩
theorem Cx.Ok.kU{X:Cx}{E:Value->Shared->Prop}(ok:(X.wC E).Ok):X.Ok :=
 ⟨ok.mod,ok.kind,ok.glob,ok.blt,ok.above,ok.inj,ok.has,ok.Vf,ok.hd,ok.frames,ok.stk,ok.exf,ok.bs,ok.Qx,ok.HE,ok.Le,ok.sL,ok.QU⟩
section
variable {X:Cx} {ao:List (Addr × Obj)} {σ:St} {H:Hp} {s:Shared} {E:Value->Shared->Prop}
theorem Inv.wC(I:Inv X ao σ H s)(E:Value->Shared->Prop):Inv (X.wC E) ao σ H s:=⟨I.ok.wC E,I.os,I.bare,I.zt,I.loc,I.cell,I.free,I.nH,I.pin,I.hok,I.len⟩
theorem Inv.kU(I:Inv (X.wC E) ao σ H s):Inv X ao σ H s:=⟨I.ok.kU,I.os,I.bare,I.zt,I.loc,I.cell,I.free,I.nH,I.pin,I.hok,I.len⟩
theorem SP.kU{D:Ends}{f:Flow}{s':Shared}(h:SP (X.wC E) ao D f s'):SP X ao D f s':=by
 cases f with
 | next=>obtain⟨σ',H',I,q⟩:=h;exact⟨σ',H',I.kU,q⟩
 | brk=>obtain⟨σ',H',I,q⟩:=h;exact⟨σ',H',I.kU,q⟩
 | cont=>obtain⟨σ',H',I,q⟩:=h;exact⟨σ',H',I.kU,q⟩
 | ret u=>obtain⟨v,σ',H',I,r,q⟩:=h;exact⟨v,σ',H',I.kU,r,q⟩
theorem EI.EJ{st:List Stmt}{t:TS}(h:EI X.EJ st t):EI X st t:=λao s σ H D I hw =>
 wpAny_mono (h ao s σ H D (I.wC _) hw) (λ_ _ q=>q.kU) λ_ _ z=>False.elim z
end
section
variable {X:Cx} {st:Stmt} {qJ:List Stmt} {t u:TS} {e:Expr} {te:TE} {pos:Pos}
def YB:TS:=λD σ H=>D.nx σ H
def acJ(t u:TS):TS:=λD σ H=>t { D with nx:=u D } σ H
theorem aX:EI X [] YB:=λ_ _ σ H _ I h=>wpAny_execs_nil ⟨σ,H,I,h⟩
theorem aj(h1:PS X st t)(h2:EI X qJ u):EI X (st::qJ) (acJ t u):=by
 intro ao s σ H D I h;refine wpAny_execs_cons (cX (h1 ao s σ H { D with nx:=u D } I h) λf s1 q=>?_)
 cases f with
 | next =>
  obtain⟨σ',H',I',q⟩:=q;exact h2 ao s1 σ' H' D I' q
 | ret v=>exact q
 | brk=>exact q
 | cont=>exact q
theorem au(h1:PS X st t):EI X [st] t:=by
 intro ao s σ H D I h;refine wpAny_execs_cons (cX (h1 ao s σ H D I h) λf s1 q=>?_)
 cases f with
 | next=>exact wpAny_execs_nil q
 | ret v=>exact q
 | brk=>exact q
 | cont=>exact q
def YC:TS:=λD σ H=>D.ct σ H
theorem E1:PS X (.Continue pos) YC:=λ_ _ σ H _ I h=>wpAny_Continue ⟨σ,H,I,h⟩
theorem Inv.quiet{σ:St}{H:Hp}{s:Shared}(I:Inv X ao σ H s):interactive X.env=false:=by simp[interactive,I.ok.kind]
def YD(te:TE):TS:=λD σ H=>te σ H λ_ H1=>D.nx σ H1
theorem aY(he:PE X e te)(hs:swapsWith e none pos.line X.env=pure false:=by rfl):PS X (.Expr e pos) (YD te):=by
 intro ao s σ H D I h;exact wpAny_Expr_any (cX (he ao s σ H _ I h) λv s1 ⟨x,H1,I1,r1,q1⟩=>⟨σ,H1,I1,q1⟩) I.quiet hs
def acK(te:TE):TS:=λD σ H=>te σ H D.rt
theorem aJ(he:PE X e te):PS X (.Return (some e) pos) (acK te):=by
 intro ao s σ H D I h;exact wpAny_Return_some (cX (he ao s σ H _ I h) λv s1 ⟨x,H1,I1,r1,q1⟩=>⟨x,σ,H1,I1,r1,q1⟩)
def acL(c:TT)(t u:TS):TS:=λD σ H=>c σ H λb H1=>if b=true then t D σ H1 else u D σ H1
theorem bK{c:Expr}{a b:List Stmt}{tc:TT}(hc:PT X c tc)(ha:EI X a t)(hb:EI X b u):PS X (.If c a b pos) (acL tc t u):=by
 intro ao s σ H D I h;refine wpAny_If (cX (hc ao s σ H _ I h) λd s1 EW=>?_);obtain⟨H1,I1,q1⟩:=EW
 cases d with
 | true=>exact ha ao s1 σ H1 D I1 q1
 | false=>exact hb ao s1 σ H1 D I1 q1
def Vk:TS:=λ_ _ _=>False
theorem gO:PS X st Vk:=λ_ _ _ _ _ _ h=>h.elim
end
abbrev TG:=V->St->Hp->(St->Hp->Prop)->Prop
abbrev Vl:=List V->St->Hp->(St->Hp->Prop)->Prop
def PG(X:Cx)(wD:Expr)(t:TG):Prop :=
 ∀ (ao:List (Addr × Obj)) (s:Shared) (σ:St) (H:Hp) (v:V) (u:Value) (Q:St->Hp->Prop),Inv X ao σ H s->RelV v u->t v σ H Q->
  wpAny (model X.prog X.w) X.A (assign wD X.env u) (λ_ s'=>∃ σ' H',Inv X ao σ' H' s'/\Q σ' H') X.xe s
def YE(X:Cx)(ts:List Expr)(t:Vl):Prop :=
 ∀ (ao:List (Addr × Obj)) (s:Shared) (σ:St) (H:Hp) (vs:List V) (us:List Value) (Q:St->Hp->Prop),Inv X ao σ H s->cy vs us->t vs σ H Q->
  wpAny (model X.prog X.w) X.A (assignInOrder ((assignEach ts X.env).map (·.2)) us) (λ_ s'=>∃ σ' H',Inv X ao σ' H' s'/\Q σ' H') X.xe s
abbrev Vm:=V->V->V->Hp->(Hp->Prop)->Prop
def YF(X:Cx)(t:Vm):Prop :=
 ∀ (ao:List (Addr × Obj)) (s:Shared) (σ:St) (H:Hp) (o i v:V) (ov iv u:Value) (Q:Hp->Prop),Inv X ao σ H s->RelV o ov->RelV i iv->RelV v u->t o i v H Q->
  wpAny (model X.prog X.w) X.A (setItem ov iv u) (λ_ s'=>∃ H',Inv X ao σ H' s'/\Q H') X.xe s
abbrev TIp:=V->V->Hp->VK->Prop
def PIp(X:Cx)(op:Operator)(t:TIp):Prop :=
 ∀ (ao:List (Addr × Obj)) (s:Shared) (σ:St) (H:Hp) (x y:V) (v u:Value) (Q:VK),Inv X ao σ H s->RelV x v->RelV y u->t x y H Q->
  wpAny (model X.prog X.w) X.A (inplaceOp op v u) (EP X ao σ Q) X.xe s
section
variable {X:Cx} {pos:Pos}
def sV(i:Nat):TG:=λv σ H Q=>Q (σ.set i (some v)) H
theorem QX{i:Nat}{x:Str}(hN:X.N.Nodup)(hi:X.N[i]?=some x)(hx:Loc X.env.scope x)(hf:X.fn x=true\/X.env.scope.names.lookup x=some .local:=by first|exact .inl rfl|exact .inr rfl|assumption):PG X (.Name x pos) (sV i):=by
 intro ao s σ H v u Q I r h;exact wpAny_assign_Name (vd I hN hi hx r (λs' I'=>⟨_,H,I',h⟩) hf)
def acN:Vl:=λvs σ H Q=>vs=[]/\Q σ H
inductive YG(t:TG)(u:Vl)(vs:List V)(σ:St)(H:Hp)(Q:St->Hp->Prop):Prop
 | mk (v:V) (r:List V) (_:vs=v::r) (_:t v σ H fun σ' H'=>u r σ' H' Q)
theorem gH:YE X [] acN:=by
 intro ao s σ H vs us Q I r h;obtain⟨e,h⟩:=h;subst e;cases r;exact assignInOrder_nil ⟨σ,H,I,h⟩
theorem ck{e:Expr}{es:List Expr}{t:TG}{u:Vl}(h1:PG X e t)(h2:YE X es u)
  (hs:(assignEach (e::es) X.env).map (·.2)=assign e X.env::(assignEach es X.env).map (·.2):=by rfl):YE X (e::es) (YG t u):=by
 intro ao s σ H vs us Q I r h;obtain⟨v,vr,e1,h⟩:=h;subst e1
 cases r with
 | cons r rr =>
  rw[hs];refine assignInOrder_cons (cX (h1 ao s σ H _ _ _ I r h) λ_ s1 Bc=>?_);obtain⟨σ1,H1,I1,q1⟩:=Bc;exact h2 ao s1 σ1 H1 _ _ Q I1 rr q1
inductive Vn(K:PySem.W.Frag)(n:Nat)(t:Vl)(v:V)(σ:St)(H:Hp)(Q:St->Hp->Prop):Prop
 | mk (a:Addr) (xs:List V) (_:v=.ref a) (_:dG K H a xs) (_:xs.length=n) (_:t xs σ H Q):Vn K n t v σ H Q
theorem nZ{es:List Expr}{k:Nat}{t:Vl}{n:Nat}(hc:X.calm=true)(h:YE X es t)
  (hn:(assignEach es X.env).length=n:=by rfl) (ve:(assignEach es X.env).findIdx? (·.1)=none:=by rfl):PG X (.Tuple es k pos) (Vn X.K n t):=by
 intro ao s σ H v u Q I r hw;obtain⟨a,xs,e1,hq,hl,hw⟩:=hw;subst e1;cases r;obtain⟨aO,rv,ht,hz⟩:=I.tuple hq;refine assign_Tuple_tuple (I.ok.hd hc) ht (by simp[hn,← hl,rv.length]) ve λh' hx=>?_;have I1:Inv X ao σ H { s with heap:=h' }:=I.kept (t':=s.toks) λb o e=>hx b o (kT (Heap.lt_size e)) e;exact h ao _ σ H xs _ Q I1 (by simpa using rv) hw
def acO(to ti:TE)(t:Vm):TG:=λv σ H Q=>to σ H λo H1=>ti σ H1 λi H2=>t o i v H2 λH3=>Q σ H3
theorem pB{o i:Expr}{to ti:TE}{t:Vm}(ho:PE X o to)(hi:PE X i ti)(hs:YF X t)
  (ha:∀ v,assign (.Subscript o i pos) X.env v=(do
   let ov ← holding [v] (eval o X.env)
   let iv ← holding [v,ov] (eval i X.env)
   standAt pos
   holding [v,ov,iv] (setItem ov iv v)
   release [v,ov,iv] []):=by intro _;rfl):PG X (.Subscript o i pos) (acO to ti t):=by
 intro ao s σ H v u Q I r h;rw[ha];refine wpAny_bind (wpAny_holding (cX (ho ao s σ H _ I h) λov s1 EX=>?_));obtain⟨x,H1,I1,r1,q1⟩:=EX;refine wpAny_bind (wpAny_holding (cX (hi ao s1 σ H1 _ I1 q1) λiv s2 Df=>?_));obtain⟨y,H2,I2,r2,q2⟩:=Df;refine wpAny_bind (wpAny_standAt (wpAny_bind (wpAny_holding (cX (hs ao s2 σ H2 x y v ov iv u _ I2 r1 r2 r q2) λ_ s3 HH=>?_))));obtain⟨H3,I3,q3⟩:=HH;exact wpAny_release ⟨σ,H3,I3,q3⟩
def Nh(te:TE)(g:TG):TS:=λD σ H=>te σ H λx H1=>g x σ H1 D.nx
theorem l9{e:Expr}{te:TE}{g:TG}(he:PE X e te)(hg:PG X tg g)(hs:swapsWithSole [tg] e pos.line X.env=pure false:=by rfl)(hw:swappedStores [tg] e X.env=pure none:=by rfl)
  (h1:(assignEach [tg] X.env).map (·.2)=[assign tg X.env]:=by rfl):PS X (.Assign [tg] e pos) (Nh te g):=by
 intro ao s σ H D I h;refine wpAny_Assign_stores (cX (he ao s σ H _ I h) λv s1 ⟨x,H1,I1,r1,q1⟩=>?_) hs hw;rw[h1];exact cX (hg ao s1 σ H1 x v _ I1 r1 q1) λ_ s2 q=>q
theorem Vo{i:Nat}{x:Str}{e:Expr}{te:TE}(hN:X.N.Nodup)(hi:X.N[i]?=some x)(hx:Loc X.env.scope x)(he:PE X e te)(hs:swapsWith e (some (.Name x iz)) pos.line X.env=pure false:=by rfl)(hf:X.fn x=true\/X.env.scope.names.lookup x=some .local:=by first|exact .inl rfl|exact .inr rfl|assumption) :
  PS X (.Assign [.Name x iz] e pos) (Nh te (sV i)):=by
 intro ao s σ H D I h;refine wpAny_Assign_Name (cX (he ao s σ H _ I h) λv s1 ⟨y,H1,I1,r1,q1⟩=>?_) hs;exact vd I1 hN hi hx r1 (λs2 I2=>⟨_,H1,I2,q1⟩) hf
def acP(i:Nat)(te:TE)(ti:TIp):TS:=λD σ H=>∃ x,σ[i]?=some (some x)/\te σ H λy H1=>ti x y H1 λz H2=>D.nx (σ.set i (some z)) H2
theorem wG{i:Nat}{x:Str}{e:Expr}{te:TE}{op:Operator}{ti:TIp}{iz:Pos}(hN:X.N.Nodup)(hi:X.N[i]?=some x)(hx:Loc X.env.scope x)(he:PE X e te)(ho:PIp X op ti)(hf:X.fn x=true\/X.env.scope.names.lookup x=some .local:=by first|exact .inl rfl|exact .inr rfl|assumption) :
  PS X (.AugAssign (.Name x iz) op e pos) (acP i te ti):=by
 intro ao s σ H D I h;obtain⟨v,e1,h⟩:=h;obtain⟨m,hn,hl⟩:=I.loc;have vis:Vis X.env.scope x:=by rcases hx with k|k;exact .inl k;exact .inr (.inl k)
 obtain⟨u,r,l⟩:=hl i x v hi e1 vis;refine wpAny_AugAssign_Name ?_
 have go:wpAny (model X.prog X.w) X.A (eval e X.env) (λw s₂=>wpAny (model X.prog X.w) X.A (inplaceOp op u w) (λr s₃=>wpAny (model X.prog X.w) X.A (storeName X.env x r) (λ_=>SP X ao D .next) X.xe s₃) X.xe s₂) X.xe s:=by
  refine cX (he ao s σ H _ I h) λw s1 Bb=>?_;obtain⟨y,H1,I1,r1,q1⟩:=Bb;refine cX (ho ao s1 σ H1 v y u w _ I1 r r1 q1) λz s2 EW=>?_;obtain⟨zv,H2,I2,r2,q2⟩:=EW;exact vd I2 hN hi hx r2 (λs3 I3=>⟨_,H2,I3,q2⟩) hf
 rcases l with ⟨hk,hm⟩|⟨hk,c,hc,hcell⟩
 ·exact wpAny_loadName_local I.ok.kind hk hn hm go
 ·rcases hk with hk|hk
  ·exact wpAny_loadName_cell I.ok.kind hk hc hcell go
  ·rcases hx with k|k
   ·have:X.env.scope.names.lookup x=some .free:=hk;rw[k]at this;cases this
   ·have:X.env.scope.names.lookup x=some .free:=hk;rw[k]at this;cases this
def ipI(f:Int->Int->Int):TIp:=λx y H Q=>∃ i j,x=.int i/\y=.int j/\Q (.int (f i j)) H
theorem Vp:PIp X .Add (ipI λi j=>i+j):=by
 intro ao s σ H x y v u Q I r1 r2 h;obtain⟨i,j,e1,e2,q⟩:=h;subst e1;subst e2;obtain⟨t,rfl⟩:=r1;obtain⟨t',rfl⟩:=r2;exact iadd_int ⟨.int _,H,I.tok _,⟨Y⟩,q⟩
end
section
variable {X:Cx} {pos:Pos}
def Vq(c:TT)(tb:TS):TS:=λD σ H=>∃ W:Nat->St->Hp->Prop,(∃ m,W m σ H)/\∀ m σ H,W m σ H->
 c σ H λb H1=>if b=true then ∃ N:St->Hp->Prop,(∀ σ' H',N σ' H'->∃ m',m'<m/\W m' σ' H')/\tb { D with nx:=N,ct:=N,bk:=D.nx } σ H1 else D.nx σ H1
theorem vf{c:Expr}{tc:TT}{tb:TS}(hp:PassesOwn (model X.prog X.w) X.A X.env X.xe)(hc:PT X c tc)(hb:EI X body tb):PS X (.While c body [] pos) (Vq tc tb):=by
 intro ao s σ H D I h;obtain⟨W,⟨m0,w0⟩,tW⟩:=h;refine wpAny_While (codeAny_whileLoop (λn s'=>∃ σ' H',Inv X ao σ' H' s'/\W n σ' H') ?_ m0 ⟨σ,H,I,w0⟩);rintro n s1 ⟨σ1,H1,I1,w1⟩;refine wpAny_passesOwn hp (cX (hc ao s1 σ1 H1 _ I1 (tW n σ1 H1 w1)) λb s2 HG=>?_);obtain⟨H2,I2,q2⟩:=HG
 cases b with
 | true =>
  obtain⟨N,hN,q2⟩:=q2;rw[if_pos rfl];refine wpAny_passesOwn hp (cX (hb ao s2 σ1 H2 _ I2 q2) λf s3 q3=>?_)
  cases f with
  | next =>
   obtain⟨σ3,H3,I3,n3⟩:=q3;obtain⟨m',hm,w3⟩:=hN σ3 H3 n3;exact⟨m',hm,σ3,H3,I3,w3⟩
  | cont =>
   obtain⟨σ3,H3,I3,n3⟩:=q3;obtain⟨m',hm,w3⟩:=hN σ3 H3 n3;exact⟨m',hm,σ3,H3,I3,w3⟩
  | brk=>exact q3
  | ret v=>exact q3
 | false =>
  rw[if_neg gB];exact wpAny_execs_nil ⟨σ1,H2,I2,q2⟩
end
structure It where
 go:Nat->Hp->Prop
 Ni:Nat->Hp->V->Hp->Prop
 stop:Nat->Hp->Prop
def pC(X:Cx)(ao:List (Addr × Obj))(H:Hp)(b:Addr):Prop :=
 H b=none/\b≠X.env.locals/\b∉X.fs/\(b∈X.ex\/X.s₀.heap.objs.size<=b)/\(∀ x c,X.env.cells.lookup x=some c->c≠b)/\∀ p∈X.pn++ao,p.1≠b
theorem Inv.Lh{X:Cx}{σ:St}{H H':Hp}{s:Shared}{b:Addr}(I:Inv X ao σ H s)(hb:s.heap.objs.size<=b)(hn:H' b=none):pC X ao H' b:=by
 refine⟨hn,Nat.ne_of_gt (o6 I.lt hb),I.acB hb,.inr (iJ I.sz hb),λx c e z=>?_,λp hp z=>?_⟩
 ·obtain⟨v,q⟩:=I.cell x c e;exact absurd (o6 q.lt (by rw[z];exact hb)) (Nat.lt_irrefl _)
 ·exact absurd (o6 (Heap.lt_size (I.pin p hp).1) (by rw[z];exact hb)) (Nat.lt_irrefl _)
structure HJ(P:Program)(w:World)(K:PySem.W.Frag)(tg:Expr)(J:It)(fp:List Addr)(it:Addr)(tn:Nat->Heap->Prop):Prop where
 mem:it∈fp
 obj:∀ i h,tn i h->∀ b∈fp,∃ o,h.get? b=some o/\∀ v,o.data≠.cell v
 keep:∀ i h h',tn i h->(∀ b∈fp,∀ o,h.get? b=some o->h'.get? b=some o)->tn i h'
 item:∀ (X:Cx),X.prog=P->X.w=w->X.K=K->X.calm=true->∀ (i:Nat) (ao:List (Addr × Obj)) (s:Shared) (σ:St) (H:Hp) (E:Value->Shared->Prop),Inv X ao σ H s->(∀ b∈fp,pC X ao H b)->tn i s.heap->J.go i H->
  wpAny (model P w) X.A (pyNext (.ref it)) (λr s1=>∃ u,r=some u/\
   wpAny (model P w) X.A (letOwnedTupleGo tg (.ref it) u) (λ_ s2=>∃ x H',Inv X ao σ H' s2/\RelV x u/\J.Ni i H x H'/\tn (i+1) s2.heap/\∀ b∈fp,H' b=none) E s1) E s
 done:∀ (X:Cx),X.prog=P->X.w=w->X.K=K->X.calm=true->∀ (i:Nat) (ao:List (Addr × Obj)) (s:Shared) (σ:St) (H:Hp) (E:Value->Shared->Prop),Inv X ao σ H s->(∀ b∈fp,pC X ao H b)->tn i s.heap->J.stop i H->
  wpAny (model P w) X.A (pyNext (.ref it)) (λr s1=>r=none/\Inv X ao σ H s1) E s
 self:∀ (A:Around) (i:Nat) (s:Shared) (Q:Value->Shared->Prop) (E:Value->Shared->Prop),tn i s.heap->Q (.ref it) s->wpAny (model P w) A (pyIter (.ref it)) Q E s
abbrev TI:=St->Hp->(It->Hp->Prop)->Prop
def PIE(X:Cx)(ao:List (Addr × Obj))(σ:St)(tg:Expr)(R:It->Hp->Prop)(YH:Value)(s2:Shared):Prop :=
 ∃ (it:Addr) (fp:List Addr) (tn:Nat->Heap->Prop) (J:It) (H':Hp),YH=.ref it/\Inv X ao σ H' s2/\HJ X.prog X.w X.K tg J fp it tn/\tn 0 s2.heap/\(∀ b∈fp,pC X ao H' b)/\R J H'
def PI(X:Cx)(tg iter:Expr)(wi:TI):Prop :=
 ∀ (ao:List (Addr × Obj)) (s:Shared) (σ:St) (H:Hp) (R:It->Hp->Prop),Inv X ao σ H s->wi σ H R->
  wpAny (model X.prog X.w) X.A (eval iter X.env) (λv s1=>wpAny (model X.prog X.w) X.A (pyIter v) (PIE X ao σ tg R) X.xe s1) X.xe s
theorem E2{M:Model}{A:Around}{E:Value->Shared->Prop}{s:Shared}{it:Addr}{u:Value}{o:Obj}{n:String}{vs:Array Value}{Q:Unit->Shared->Prop}(ho:s.heap.get? it=some o)(hc:o.cls=.type n)(hd:o.data=.fields vs)
  (hn:["enumerate","zip","dict_itemiterator","dict_reverseitemiterator","odict_iterator","itertools.zip_longest","itertools.pairwise"].contains n=false) (hQ:Q () s):wpAny M A (letOwnedTupleGo tg (.ref it) u) Q E s:=by
 unfold letOwnedTupleGo
 cases tg <;> first
  | exact wpAny_pure hQ
  | (cases u <;> first
    | exact wpAny_pure hQ
    | (refine wpAny_bind (wpAny_load ho ?_);rw[hc,hd];show wpAny M A (if (["enumerate","zip","dict_itemiterator","dict_reverseitemiterator","odict_iterator","itertools.zip_longest","itertools.pairwise"].contains n&&vs[0]? == some (rawInt _))=true then _ else _) Q E s;rw[if_neg (by intro h;rw[hn,Bool.false_and]at h;cases h)];exact wpAny_pure hQ))
def Qz(K:PySem.W.Frag)(a:Addr):It :=
 ⟨λi H=>∃ xs x,bL K H a xs/\xs[i]?=some x,λi H x H'=>H'=H/\∀ xs,bL K H a xs->xs[i]?=some x,λi H=>∃ xs,bL K H a xs/\xs.length<=i⟩
def YI(K:PySem.W.Frag)(a:Addr):It :=
 ⟨λi H=>∃ xs x,dG K H a xs/\xs[i]?=some x,λi H x H'=>H'=H/\∀ xs,dG K H a xs->xs[i]?=some x,λi H=>∃ xs,dG K H a xs/\xs.length<=i⟩
def Li(lo:Int)(n:Nat):It:=⟨λi _=>i<n,λi H x H'=>H'=H/\x=.int (lo+i),λi _=>n<=i⟩
theorem Lj{P:Program}{w:World}{K:PySem.W.Frag}(a it:Addr):HJ P w K tg (Qz K a) [it] it (λi h=>h.IsListIter it a i) where
 mem:=by simp
 obj:=λi h st b hb=>by
  have e:b=it:=by simpa using hb
  subst e;obtain⟨o,e,c,d⟩:=st;exact⟨o,e,λv z=>by rw[d]at z;cases z⟩
 keep:=λi h h' st k=>st.at λo e=>k it (by simp) o e
 item:=by
  intro X hP hw hK hc i ao s σ H E I hf st hg;subst hP hw hK;obtain⟨xs,x,hq,hx⟩:=hg;obtain⟨aO,rv,p,hz⟩:=I.list hq;obtain⟨u,hu,ru⟩:=rv.get hx;obtain⟨f0,f1,f2,f3,f4,f5⟩:=hf it (by simp);refine wpAny_pyNext_list_item st p.isList (x:=u) (by simpa using hu) λh' Dg sb=>?_;have I1:Inv X ao σ H { s with heap:=h' }:=I.turned (t':=s.toks) (λb o hb e=>(sb.2 b hb).trans e) f0 f1 f3 f4 f5;obtain⟨o,e,c,d⟩:=id Dg;exact⟨u,rfl,E2 (s:={ s with heap:=h' }) e c d (by decide) ⟨x,H,I1,ru,⟨rfl,λys hy=>by rw[I.EZ hy hq];exact hx⟩,Dg,λb hb=>(hf b hb).1⟩⟩
 done:=by
  intro X hP hw hK hc i ao s σ H E I hf st hg;subst hP hw hK;obtain⟨xs,hq,hx⟩:=hg;obtain⟨aO,rv,p,hz⟩:=I.list hq;obtain⟨f0,f1,f2,f3,f4,f5⟩:=hf it (by simp);have hl:=rv.length;exact wpAny_pyNext_list_end (I.ok.hd hc) st p.isList (by simp;lia) λh' eb=>⟨rfl,I.turned (t':=s.toks) (λb o hb e=>eb b o hb e) f0 f1 f3 f4 f5⟩
 self:=λ_ _ _ _ _ st h=>wpAny_pyIter_listiter st h
theorem HK{P:Program}{w:World}{K:PySem.W.Frag}(a it:Addr):HJ P w K tg (YI K a) [it] it (λi h=>h.IsTupleIter it a i) where
 mem:=by simp
 obj:=λi h st b hb=>by
  have e:b=it:=by simpa using hb
  subst e;obtain⟨o,e,c,d⟩:=st;exact⟨o,e,λv z=>by rw[d]at z;cases z⟩
 keep:=λi h h' st k=>st.at λo e=>k it (by simp) o e
 item:=by
  intro X hP hw hK hc i ao s σ H E I hf st hg;subst hP hw hK;obtain⟨xs,x,hq,hx⟩:=hg;obtain⟨aO,rv,p,hz⟩:=I.tuple hq;obtain⟨u,hu,ru⟩:=rv.get hx;obtain⟨f0,f1,f2,f3,f4,f5⟩:=hf it (by simp);refine wpAny_pyNext_tuple_item st (show s.heap.IsTuple a aO.toArray from p) (x:=u) (by simpa using hu) λh' Dg sb=>?_;have I1:Inv X ao σ H { s with heap:=h' }:=I.turned (t':=s.toks) (λb o hb e=>(sb.2 b hb).trans e) f0 f1 f3 f4 f5;obtain⟨o,e,c,d⟩:=id Dg;exact⟨u,rfl,E2 (s:={ s with heap:=h' }) e c d (by decide) ⟨x,H,I1,ru,⟨rfl,λys hy=>by rw[I.BW hy hq];exact hx⟩,Dg,λb hb=>(hf b hb).1⟩⟩
 done:=by
  intro X hP hw hK hc i ao s σ H E I hf st hg;subst hP hw hK;obtain⟨xs,hq,hx⟩:=hg;obtain⟨aO,rv,p,hz⟩:=I.tuple hq;obtain⟨f0,f1,f2,f3,f4,f5⟩:=hf it (by simp);have hl:=rv.length;exact wpAny_pyNext_tuple_end (I.ok.hd hc) st (show s.heap.IsTuple a aO.toArray from p) (by simp;lia) λh' eb=>⟨rfl,I.turned (t':=s.toks) (λb o hb e=>eb b o hb e) f0 f1 f3 f4 f5⟩
 self:=λ_ _ _ _ _ st h=>wpAny_pyIter_tupleiter st h
theorem zm{P:Program}{w:World}{K:PySem.W.Frag}(it:Addr)(lo:Int)(n:Nat):HJ P w K tg (Li lo n) [it] it (λi h=>IsRangeIter h it (lo+(i:Nat)*1) ((n:Int)-(i:Nat)) 1) where
 mem:=by simp
 obj:=λi h st b hb=>by
  have e:b=it:=by simpa using hb
  subst e
  exact⟨_,st,λv z=>by
   have z':Data.fields _=Data.cell v:=z
   cases z'⟩
 keep:=λi h h' st k=>k it (by simp) _ st
 item:=by
  intro X hP hw hK hc i ao s σ H E I hf st hg;subst hP hw hK;obtain⟨f0,f1,f2,f3,f4,f5⟩:=hf it (by simp);have W:=Walks.range (prog:=X.prog) (w:=X.w) (I.ok.hd hc) it lo 1 n;refine W.item i s _ _ hg st λv h' tk hv Dg kk=>?_;obtain⟨t,rfl⟩:=hv;have I1:Inv X ao σ H { s with heap:=h',toks:=tk }:=I.turned (λb o hb e=>kk b o (by simpa using hb) e) f0 f1 f3 f4 f5;refine⟨Y,E2 (s:={ s with heap:=h',toks:=tk }) (n:="range_iterator") Dg rfl rfl (by decide) ⟨.int (lo+i),H,I1,⟨t,?_⟩,⟨V⟩,Dg,λb hb=>(hf b hb).1⟩⟩;rw[Int.mul_one]
 done:=by
  intro X hP hw hK hc i ao s σ H E I hf st hg;subst hP hw hK;obtain⟨f0,f1,f2,f3,f4,f5⟩:=hf it (by simp);exact wpAny_pyNext_range_end (I.ok.hd hc) st (by have:n<=i:=hg;lia) λh' eb=>⟨rfl,I.turned (t':=s.toks) (λb o hb e=>eb b o hb e) f0 f1 f3 f4 f5⟩
 self:=λ_ _ _ _ _ st h=>wpAny_pyIter_rangeiter st h
end L2
namespace L2
open Spec Rows
section
variable {X:Cx} {tg:Expr}
inductive isL(K:PySem.W.Frag)(x:V)(H:Hp)(R:It->Hp->Prop):Prop
 | mk (a:Addr) (_:x=.ref a) (_:∃ xs,bL K H a xs) (_:R (Qz K a) H)
def Ug(K:PySem.W.Frag)(tl:TE):TI:=fun σ H R=>tl σ H λx H1=>isL K x H1 R
def acR(K:PySem.W.Frag)(tl:TE):TI:=fun σ H R=>tl σ H λx H1=>∃ a,x=.ref a/\(∃ xs,dG K H1 a xs)/\R (YI K a) H1
theorem cH{tl:TE}(hl:PE X l tl):PI X tg l (Ug X.K tl):=by
 intro ao s σ H R I h;refine cX (hl ao s σ H _ I h) λv s1 Bb=>?_;obtain⟨x,H1,I1,r1,q1⟩:=Bb;obtain⟨a,e,⟨xs,hq⟩,q⟩:=q1;subst e;cases r1;obtain⟨aO,rv,p,hz⟩:=I1.list hq;refine wpAny_pyIter_list p.isList ?_;refine⟨s1.heap.objs.size,[s1.heap.objs.size],P,H1,rfl,I1.kept (t':=s1.toks) λb o e=>Heap.get?_push_of_some _ e,Lj a _,⟨_,Heap.get?_push_size _ rfl,V⟩,λb hb=>?_,q⟩;have e:b=s1.heap.objs.size:=by simpa using hb
 subst e;exact I1.Lh (gg _) (I1.hok.fresh (gg _))
theorem Vr{tl:TE}(hl:PE X l tl):PI X tg l (acR X.K tl):=by
 intro ao s σ H R I h;refine cX (hl ao s σ H _ I h) λv s1 EW=>?_;obtain⟨x,H1,I1,r1,q1⟩:=EW;obtain⟨a,e,⟨xs,hq⟩,q⟩:=q1;subst e;cases r1;obtain⟨aO,rv,p,hz⟩:=I1.tuple hq;refine wpAny_pyIter_tuple (show s1.heap.IsTuple a aO.toArray from p) ?_;refine⟨s1.heap.objs.size,[s1.heap.objs.size],P,H1,rfl,I1.kept (t':=s1.toks) λb o e=>Heap.get?_push_of_some _ e,HK a _,⟨_,Heap.get?_push_size _ rfl,V⟩,λb hb=>?_,q⟩;have e:b=s1.heap.objs.size:=by simpa using hb
 subst e;exact I1.Lh (gg _) (I1.hok.fresh (gg _))
theorem Nj{σ:St}{H:Hp}{s:Shared}{R:It->Hp->Prop}{E:Value->Shared->Prop}{lo hi:Int}{t u v:Tok}{tk:Nat}(I:Inv X ao σ H s)(h1:-(2^62)<=lo)(h2:lo<2^62)(h3:-(2^62)<=hi)(h4:hi<2^62)
  (q:R (Li lo (hi-lo).toNat) H):wpAny (model X.prog X.w) X.A (pyIter (.ref s.heap.objs.size)) (PIE X ao σ tg R) E { s with heap:=s.heap.push { cls:=.type "range",data:=.fields #[.int lo t,.int hi u,.int 1 v] },toks:=tk }:=by
 refine wpAny_pyIter_range (IsRange.new ..) (small_one h1 h2 h3 h4) ?_;have I1:Inv X ao σ H { s with heap:=s.heap.push { cls:=.type "range",data:=.fields #[.int lo t,.int hi u,.int 1 v] },toks:=tk }:=I.kept λb o e=>Heap.get?_push_of_some _ e;refine⟨(s.heap.push { cls:=.type "range",data:=.fields #[.int lo t,.int hi u,.int 1 v] }).objs.size,[(s.heap.push { cls:=.type "range",data:=.fields #[.int lo t,.int hi u,.int 1 v] }).objs.size],P,H,rfl, I1.kept (t':=tk) λb o e=>Heap.get?_push_of_some _ e,zm _ lo (hi-lo).toNat,?_,λb hb=>?_,q⟩
 ·have e1:lo+((0:Nat):Int)*1=lo:=by simp
  have e2:(((hi-lo).toNat:Nat):Int)-((0:Nat):Int)=Builtin.Range.rangeSize lo hi 1:=by rw[rangeSize_one];split <;> lia
  show IsRangeIter _ _ (lo+((0:Nat):Int)*1) ((((hi-lo).toNat:Nat):Int)-((0:Nat):Int)) 1;rw[e1,e2];exact Heap.get?_push_size _ rfl
 ·have e:b=(s.heap.push { cls:=.type "range",data:=.fields #[.int lo t,.int hi u,.int 1 v] }).objs.size:=by simpa using hb
  subst e;exact I1.Lh (gg _) (I1.hok.fresh (gg _))
inductive isR(vs:List V)(H:Hp)(R:It->Hp->Prop):Prop
 | mk (j:Int) (_:vs=[.int j]) (_:-(2^62)<=j) (_:j<2^62) (_:R (Li 0 j.toNat) H)
def YJ(ta:TA):TI:=fun σ H R=>ta σ H λvs H1=>isR vs H1 R
theorem jq{a:Expr}{ta:TA}{p:Pos}(hg:Gl X "range")(hm:X.mg "range"=none)(ha:PA X [a] ta)(hs:starEach [a] X.env=[(false,eval a X.env)]:=by rfl):PI X tg (.Call (.Name "range" p) [a] [] pos) (YJ ta):=by
 intro ao s σ H R I h;refine Call_ (wB I hg hm boot_range (PyProof.Rows.callWith_type1 (cX (ha pos ao s σ H _ I h) λus s1 ⟨vs,H1,I1,r1,q1⟩=>?_) hs rfl));obtain⟨j,e,q1,q2,q⟩:=q1;subst e
 cases r1 with
 | cons r rr =>
  cases rr;obtain⟨t,rfl⟩:=r;exact call_range_1 (Nj I1 ∅ ∅ q1 q2 (by simpa using q))
def acS(wi:TI)(g:TG)(tb:TS):TS:=λD σ H=>wi σ H λJ H1=>∃ W:Nat->Nat->St->Hp->Prop,(∃ m,W 0 m σ H1)/\∀ i m σ H,W i m σ H->
 (J.stop i H/\D.nx σ H)\/(J.go i H/\∃ N:St->Hp->Prop,(∀ σ' H',N σ' H'->∃ m',m'<m/\W (i+1) m' σ' H')/\∀ x H',J.Ni i H x H'->g x σ H' fun σ2 H2=>tb { D with nx:=N,ct:=N,bk:=D.nx } σ2 H2)
def tX(fp:List Addr)(h:Heap):List (Addr × Obj):=fp.filterMap λb=>(h.get? b).map λo=>(b,o)
theorem gP{fp:List Addr}{h:Heap}{b:Addr}{o:Obj}(hb:b∈fp)(e:h.get? b=some o):(b,o)∈tX fp h:=List.mem_filterMap.mpr ⟨b,hb,by rw[e];rfl⟩
theorem Lk{fp:List Addr}{h:Heap}{p:Addr × Obj}(hp:p∈tX fp h):p.1∈fp/\h.get? p.1=some p.2:=by
 obtain⟨b,hb,e⟩:=List.mem_filterMap.mp hp
 cases q:h.get? b with
 | none=>rw[q]at e;cases e
 | some o =>
  rw[q]at e;have e':(b,o)=p:=qH e;subst e';exact⟨hb,q⟩
theorem Inv.pinned{σ:St}{H:Hp}{s:Shared}{fp:List Addr}(I:Inv X ao σ H s)(hf:∀ b∈fp,pC X ao H b)(ho:∀ b∈fp,∃ o,s.heap.get? b=some o/\∀ v,o.data≠.cell v):Inv X (ao++tX fp s.heap) σ H s :=
 I.JN λp hp=>(List.mem_append.mp hp).elim (λz=>I.pin p (oY _ z)) λz=>by
  obtain⟨hb,e⟩:=Lk z;obtain⟨f0,f1,f2,_⟩:=hf p.1 hb;obtain⟨o,e',d⟩:=ho p.1 hb;rw[e]at e';cases e';exact⟨e,f0,f1,f2,d⟩
theorem Inv.oK{pl:List (Addr × Obj)}{σ:St}{H:Hp}{s:Shared}(I:Inv X (ao++pl) σ H s):Inv X ao σ H s:=I.JN λp hp=>I.pin p (oY _ (tT _ hp))
theorem d7{iter:Expr}{wi:TI}{g:TG}{tb:TS}(hp:PassesOwn (model X.prog X.w) X.A X.env X.xe)(hc:X.calm=true)(hi:PI X tg iter wi)(hg:PG X tg g)(hb:EI X body tb)
  (hs:∀ x,foldedSetIterable iter X.env x=pure x:=by intro _;rfl):PS X (.For tg iter body [] pos) (acS wi g tb):=by
 intro ao s σ H D I h;refine wpAny_For (cX (hi ao s σ H _ I h) λv s1 h1=>cX h1 λYH s2 h2=>?_) hs;obtain⟨it,fp,tn,J,H2,e,I2,T,st2,f2,W,⟨m0,w0⟩,tW⟩:=h2;subst e;have tY:∀ {H':Hp},(∀ b∈fp,H' b=none)->∀ b∈fp,pC X ao H' b:=λhn b hb=>⟨hn b hb,(f2 b hb).2⟩;refine codeAny_forLoop_any (λn s'=>∃ i σ' H',Inv X ao σ' H' s'/\tn i s'.heap/\(∀ b∈fp,H' b=none)/\W i n σ' H') ?_ m0 ⟨0,σ,H2,I2,st2,λb hb=>(f2 b hb).1,w0⟩;rintro n s3 ⟨i,σ3,H3,I3,st3,fr3,w3⟩;rcases tW i n σ3 H3 w3 with ⟨stop,qn⟩|⟨go,N,hN,step⟩
 ·refine wpAny_passesOwn hp (cX (T.done X rfl rfl rfl hc i ao s3 σ3 H3 X.xe I3 (tY fr3) st3 stop) λr s4 Bc=>?_);obtain⟨hr,I4⟩:=Bc;subst hr;exact wpAny_execs_nil ⟨σ3,H3,I4,qn⟩
 ·refine wpAny_passesOwn hp (cX (T.item X rfl rfl rfl hc i ao s3 σ3 H3 X.xe I3 (tY fr3) st3 go) λr s4 EX=>?_);obtain⟨u,hr,h4⟩:=EX;subst hr;refine wpAny_passesOwn hp (cX h4 λ_ s5 Df=>?_);obtain⟨x,H5,I5,r5,y5,XW,Uh⟩:=Df;have I5':=I5.pinned (tY Uh) (T.obj _ _ XW);refine wpAny_passesOwn hp (cX (hg _ s5 σ3 H5 x u _ I5' r5 (step x H5 y5)) λ_ s6 HH=>?_);obtain⟨σ6,H6,I6,q6⟩:=HH;refine wpAny_passesOwn hp (cX (hb _ s6 σ6 H6 _ I6 q6) λf s7 q7=>?_)
  have again:∀ {σ7:St} {H7:Hp},Inv X (ao++tX fp s5.heap) σ7 H7 s7->N σ7 H7->∃ m,m<n/\∃ i σ' H',Inv X ao σ' H' s7/\tn i s7.heap/\(∀ b∈fp,H' b=none)/\W i m σ' H':=λ{σ7 H7} I7 n7=>by
   obtain⟨m',hm,w7⟩:=hN σ7 H7 n7;refine⟨m',hm,i+1,σ7,H7,I7.oK,T.keep _ _ _ XW λb hb o e=>(I7.pin (b,o) (oY _ (oY _ (gP hb e)))).1,λb hb=>?_,w7⟩;obtain⟨o,e,d⟩:=T.obj _ _ XW b hb;exact (I7.pin (b,o) (oY _ (oY _ (gP hb e)))).2.1
  cases f with
  | next=>obtain⟨σ7,H7,I7,n7⟩:=q7;exact again I7 n7
  | cont=>obtain⟨σ7,H7,I7,n7⟩:=q7;exact again I7 n7
  | brk=>obtain⟨σ7,H7,I7,q7⟩:=q7;exact⟨σ7,H7,I7.oK,q7⟩
  | ret v=>obtain⟨x7,σ7,H7,I7,r7,q7⟩:=q7;exact⟨x7,σ7,H7,I7.oK,r7,q7⟩
end
theorem dO{K:PySem.W.Frag}{a:Addr}{xs:List V}{g:TG}{tb:TS}{D:Ends}{σ:St}{H:Hp}(Pv:Nat->St->Hp->Prop)(h0:Pv 0 σ H)(hl:∀ i σ H,i<=xs.length->Pv i σ H->bL K H a xs)
  (hs:∀ i x σ H,xs[i]?=some x->Pv i σ H->g x σ H fun σ2 H2=>tb { D with nx:=Pv (i+1),ct:=Pv (i+1),bk:=D.nx } σ2 H2) (hd:∀ σ H,Pv xs.length σ H->D.nx σ H) :
  ∃ W:Nat->Nat->St->Hp->Prop,(∃ m,W 0 m σ H)/\∀ i m σ H,W i m σ H->
   ((Qz K a).stop i H/\D.nx σ H)\/((Qz K a).go i H/\∃ N:St->Hp->Prop,(∀ σ' H',N σ' H'->∃ m',m'<m/\W (i+1) m' σ' H')/\∀ x H',(Qz K a).Ni i H x H'->g x σ H' fun σ2 H2=>tb { D with nx:=N,ct:=N,bk:=D.nx } σ2 H2):=by
 refine⟨λi m σ H=>m=xs.length-i/\i<=xs.length/\Pv i σ H,⟨xs.length,by simp,Nat.zero_le _,h0⟩,?_⟩;rintro i m σ H ⟨rfl,hi,p⟩;have q:=hl i σ H hi p;by_cases qF:i<xs.length
 ·refine .inr ⟨⟨xs,xs[i],q,by simp[qF]⟩,Pv (i+1),fun σ' H' p'=>⟨xs.length-(i+1),Q,rfl,qF,p'⟩,λx H' y=>?_⟩;obtain⟨e,y⟩:=y;subst e;exact hs i x σ _ (y xs q) p
 ·have e:i=xs.length:=by lia
  subst e;exact .inl ⟨⟨xs,q,gg _⟩,hd σ H p⟩
theorem QY{K:PySem.W.Frag}{a:Addr}{xs:List V}{g:TG}{tb:TS}{D:Ends}{σ:St}{H:Hp}(Pv:Nat->St->Hp->Prop)(h0:Pv 0 σ H)(hl:∀ i σ H,i<=xs.length->Pv i σ H->dG K H a xs)
  (hs:∀ i x σ H,xs[i]?=some x->Pv i σ H->g x σ H fun σ2 H2=>tb { D with nx:=Pv (i+1),ct:=Pv (i+1),bk:=D.nx } σ2 H2) (hd:∀ σ H,Pv xs.length σ H->D.nx σ H) :
  ∃ W:Nat->Nat->St->Hp->Prop,(∃ m,W 0 m σ H)/\∀ i m σ H,W i m σ H->
   ((YI K a).stop i H/\D.nx σ H)\/((YI K a).go i H/\∃ N:St->Hp->Prop,(∀ σ' H',N σ' H'->∃ m',m'<m/\W (i+1) m' σ' H')/\∀ x H',(YI K a).Ni i H x H'->g x σ H' fun σ2 H2=>tb { D with nx:=N,ct:=N,bk:=D.nx } σ2 H2):=by
 refine⟨λi m σ H=>m=xs.length-i/\i<=xs.length/\Pv i σ H,⟨xs.length,by simp,Nat.zero_le _,h0⟩,?_⟩;rintro i m σ H ⟨rfl,hi,p⟩;have q:=hl i σ H hi p;by_cases qF:i<xs.length
 ·refine .inr ⟨⟨xs,xs[i],q,by simp[qF]⟩,Pv (i+1),fun σ' H' p'=>⟨xs.length-(i+1),Q,rfl,qF,p'⟩,λx H' y=>?_⟩;obtain⟨e,y⟩:=y;subst e;exact hs i x σ _ (y xs q) p
 ·have e:i=xs.length:=by lia
  subst e;exact .inl ⟨⟨xs,q,gg _⟩,hd σ H p⟩
theorem j0{lo:Int}{n:Nat}{g:TG}{tb:TS}{D:Ends}{σ:St}{H:Hp}(Pv:Nat->St->Hp->Prop)(h0:Pv 0 σ H)
  (hs:∀ i σ H,i<n->Pv i σ H->g (.int (lo+i)) σ H fun σ2 H2=>tb { D with nx:=Pv (i+1),ct:=Pv (i+1),bk:=D.nx } σ2 H2) (hd:∀ σ H,Pv n σ H->D.nx σ H) :
  ∃ W:Nat->Nat->St->Hp->Prop,(∃ m,W 0 m σ H)/\∀ i m σ H,W i m σ H->
   ((Li lo n).stop i H/\D.nx σ H)\/((Li lo n).go i H/\∃ N:St->Hp->Prop,(∀ σ' H',N σ' H'->∃ m',m'<m/\W (i+1) m' σ' H')/\∀ x H',(Li lo n).Ni i H x H'->g x σ H' fun σ2 H2=>tb { D with nx:=N,ct:=N,bk:=D.nx } σ2 H2):=by
 refine⟨λi m σ H=>m=n-i/\i<=n/\Pv i σ H,⟨n,by simp,Nat.zero_le _,h0⟩,?_⟩;rintro i m σ H ⟨rfl,hi,p⟩;by_cases qF:i<n
 ·refine .inr ⟨qF,Pv (i+1),fun σ' H' p'=>⟨n-(i+1),Q,rfl,qF,p'⟩,λx H' y=>?_⟩;obtain⟨e,y⟩:=y;subst e y;exact hs i σ _ qF p
 ·have e:i=n:=by lia
  subst e;exact .inl ⟨Nat.le_refl _,hd σ H p⟩
end L2
namespace L2
open Spec Rows
abbrev R2:=V->V->Hp->VK->Prop
def u7(X:Cx)(f:Value->Value->Sem Value)(r:R2):Prop :=
 ∀ (ao:List (Addr × Obj)) (s:Shared) (σ:St) (H:Hp) (x y:V) (v u:Value) (Q:VK),Inv X ao σ H s->RelV x v->RelV y u->r x y H Q->
  wpAny (model X.prog X.w) X.A (f v u) (EP X ao σ Q) X.xe s
def UnR(X:Cx)(f:Value->Sem Value)(r:V->Hp->VK->Prop):Prop :=
 ∀ (ao:List (Addr × Obj)) (s:Shared) (σ:St) (H:Hp) (x:V) (v:Value) (Q:VK),Inv X ao σ H s->RelV x v->r x H Q->
  wpAny (model X.prog X.w) X.A (f v) (EP X ao σ Q) X.xe s
def kq(X:Cx)(f:Value)(r:List V->Hp->VK->Prop):Prop :=
 ∀ (ao:List (Addr × Obj)) (s:Shared) (σ:St) (H:Hp) (xs:List V) (us:List Value) (Q:VK),Inv X ao σ H s->cy xs us->r xs H Q->
  wpAny (model X.prog X.w) X.A (call f us) (EP X ao σ Q) X.xe s
def acU(X:Cx)(r:V->Hp->(Bool->Hp->Prop)->Prop):Prop :=
 ∀ (ao:List (Addr × Obj)) (s:Shared) (σ:St) (H:Hp) (x:V) (v:Value) (Q:Bool->Hp->Prop),Inv X ao σ H s->RelV x v->r x H Q->
  wpAny (model X.prog X.w) X.A (truthy v) (TP X ao σ Q) X.xe s
def YK(r:R2)(ta tb:TE):TE:=fun σ H Q=>ta σ H λx H1=>tb σ H1 λy H2=>r x y H2 Q
def tUn(r:V->Hp->VK->Prop)(ta:TE):TE:=fun σ H Q=>ta σ H λx H1=>r x H1 Q
inductive rI(C:Int->Int->Prop)(g:Int->Int->V)(x y:V)(H:Hp)(Q:VK):Prop
 | mk (i j:Int) (_:x=.int i) (_:y=.int j) (_:C i j) (_:Q (g i j) H):rI C g x y H Q
inductive Ui(g:Int->Int->V)(x y:V)(H:Hp)(Q:VK):Prop
 | mk (i j:Int) (_:x=.int i) (_:y=.int j) (_:Q (g i j) H)
def rU(g:Int->V):V->Hp->VK->Prop:=λx H Q=>∃ i,x=.int i/\Q (g i) H
section
variable {X:Cx} {a b c:Expr} {ta tb tc:TE} {pos:Pos}
theorem Vs(ha:PE X a ta)(hb:PE X b tb){ao:List (Addr × Obj)}{s:Shared}{σ:St}{H:Hp}{R:V->V->Hp->Prop}(I:Inv X ao σ H s)
  (h:ta σ H λx H1=>tb σ H1 λy H2=>R x y H2) {Q:Value->Shared->Prop} {f:Value->Value->Sem Value}
  (hf:∀ v u s2 x y H2,Inv X ao σ H2 s2->RelV x v->RelV y u->R x y H2->wpAny (model X.prog X.w) X.A (f v u) Q X.xe s2) :
  wpAny (model X.prog X.w) X.A (eval a X.env) (λv s₁=>wpAny (model X.prog X.w) X.A (eval b X.env) (λu s₂=>wpAny (model X.prog X.w) X.A (f v u) Q X.xe s₂) X.xe s₁) X.xe s:=by
 refine cX (ha ao s σ H _ I h) λv s1 HG=>?_;obtain⟨x,H1,I1,r1,q1⟩:=HG;refine cX (hb ao s1 σ H1 _ I1 q1) λu s2 Bb=>?_;obtain⟨y,H2,I2,r2,q2⟩:=Bb;exact hf v u s2 x y H2 I2 r1 r2 q2
theorem bC{op:Operator}{r:R2}(ho:u7 X (binaryOp op) r)(ha:PE X a ta)(hb:PE X b tb):PE X (.BinOp a op b pos) (YK r ta tb):=by
 intro ao s σ H Q I h;exact wpAny_BinOp (Vs ha hb I h λv u s2 x y H2 I2 rx ry q=>ho ao s2 σ H2 x y v u Q I2 rx ry q)
theorem gw{op:UnaryOp}{r:V->Hp->VK->Prop}(ho:UnR X (unaryOp op) r)(ha:PE X a ta):PE X (.UnaryOp op a pos) (tUn r ta):=by
 intro ao s σ H Q I h;exact UnaryOp_ (cX (ha ao s σ H _ I h) λv s1 ⟨x,H1,I1,r1,q1⟩=>ho ao s1 σ H1 x v Q I1 r1 q1)
theorem opI{f:Value->Value->Sem Value}{C:Int->Int->Prop}{g:Int->Int->Int}
  (rule:∀ (i j:Int) (t u:Tok) (s:Shared) (Q:Value->Shared->Prop) (E:Value->Shared->Prop),C i j->Q (.int (g i j) s.toks) { s with toks:=s.toks+1 }->wpAny (model X.prog X.w) X.A (f (.int i t) (.int j u)) Q E s) :
  u7 X f (rI C λi j=>.int (g i j)):=by
 intro ao s σ H x y v u Q I rx ry h;obtain⟨i,j,rfl,rfl,hc,q⟩:=h;obtain⟨t,rfl⟩:=rx;obtain⟨t',rfl⟩:=ry;exact rule i j t t' s _ _ hc ⟨.int (g i j),H,I.tok _,⟨Y⟩,q⟩
theorem YL{f:Value->Value->Sem Value}{g:Int->Int->Int}
  (rule:∀ (i j:Int) (t u:Tok) (s:Shared) (Q:Value->Shared->Prop) (E:Value->Shared->Prop),Q (.int (g i j) s.toks) { s with toks:=s.toks+1 }->wpAny (model X.prog X.w) X.A (f (.int i t) (.int j u)) Q E s) :
  u7 X f (Ui λi j=>.int (g i j)):=by
 intro ao s σ H x y v u Q I rx ry h;obtain⟨i,j,rfl,rfl,q⟩:=h;obtain⟨t,rfl⟩:=rx;obtain⟨t',rfl⟩:=ry;exact rule i j t t' s _ _ ⟨.int (g i j),H,I.tok _,⟨Y⟩,q⟩
theorem QZ{f:Value->Value->Sem Value}{g:Int->Int->Bool}
  (rule:∀ (i j:Int) (t u:Tok) (s:Shared) (Q:Value->Shared->Prop) (E:Value->Shared->Prop),Q (.bool (g i j)) s->wpAny (model X.prog X.w) X.A (f (.int i t) (.int j u)) Q E s) :
  u7 X f (Ui λi j=>.bl (g i j)):=by
 intro ao s σ H x y v u Q I rx ry h;obtain⟨i,j,rfl,rfl,q⟩:=h;obtain⟨t,rfl⟩:=rx;obtain⟨t',rfl⟩:=ry;exact rule i j t t' s _ _ ⟨.bl (g i j),H,I,rfl,q⟩
def acV(i j:Int):Prop:=0<=j/\j<=1000000/\i.natAbs<2^64
def Vt(i j:Int):Prop:=(-(2^64)<i/\i<2^64)\/(-(2^64)<j/\j<2^64)
theorem Vt.ok{i j:Int}(h:Vt i j):IntMulOk i j:=by
 rcases h with ⟨h1,h2⟩|⟨h1,h2⟩
 ·exact .of_left (intBits_le_64 h1 h2)
 ·exact .of_right (intBits_le_64 h1 h2)
theorem cT:u7 X (binaryOp .Add) (Ui λi j=>.int (i+j)):=YL λ_ _ _ _ _ _ _ q=>add_int q
theorem cK:u7 X (binaryOp .Sub) (Ui λi j=>.int (i-j)):=YL λ_ _ _ _ _ _ _ q=>sub_int q
theorem HL:u7 X (binaryOp .Mult) (rI Vt λi j=>.int (i*j)):=opI λ_ _ _ _ _ _ _ hc q=>mul_int q hc.ok
theorem zo:u7 X (binaryOp .Mod) (rI (λ_ j=>0<j) λi j=>.int (i % j)):=opI λi j _ _ _ _ _ hc q=>by
 have h1:(0:Int)<j:=hc;exact mod_int' ∅ (by rw[Int.fmod_eq_emod_of_nonneg i ∅];exact q)
theorem Nk:u7 X (binaryOp .Pow) (rI acV λi j=>.int (i^j.toNat)):=opI λ_ _ _ _ _ _ _ hc q=>pow_int_small hc.1 hc.2.1 hc.2.2 q
theorem unI{f:Value->Sem Value}{g:Int->Int}
  (rule:∀ (i:Int) (t:Tok) (s:Shared) (Q:Value->Shared->Prop) (E:Value->Shared->Prop),Q (.int (g i) s.toks) { s with toks:=s.toks+1 }->wpAny (model X.prog X.w) X.A (f (.int i t)) Q E s) :
  UnR X f (rU λi=>.int (g i)):=by
 intro ao s σ H x v Q I rx h;obtain⟨i,rfl,q⟩:=h;obtain⟨t,rfl⟩:=rx;exact rule i t s _ _ ⟨.int (g i),H,I.tok _,⟨Y⟩,q⟩
theorem eK:UnR X (unaryOp .USub) (rU λi=>.int (-i)):=unI λ_ _ _ _ _ q=>neg_int q
end
def YM:V->V->Bool
 | .fH,.fH=>true | .fH,.int _=>true | .int _,.fH=>true | .fH,.bl _=>true | .bl _,.fH=>true | .fH,.str _=>true | .str _,.fH=>true
 | .int _,.int _=>true | .bl _,.bl _=>true | .str _,.str _=>true | .Hx _,.Hx _=>true
 | .int _,.str _=>true | .str _,.int _=>true | .bl _,.str _=>true | .str _,.bl _=>true
 | _,_=>false
def rEq:R2:=λx y H Q=>YM x y=true/\Q (.bl (decide (x=y))) H
def rNe:R2:=λx y H Q=>YM x y=true/\Q (.bl (!decide (x=y))) H
theorem JP{i j:Int}:decide (V.int i=V.int j)=(i == j):=by
 rw[Bool.eq_iff_iff];simp
theorem Nl{i j:Bool}:decide (V.bl i=V.bl j)=(i == j):=by
 rw[Bool.eq_iff_iff];simp
theorem JQ{i j:Str}:decide (V.str i=V.str j)=(i == j):=by
 rw[Bool.eq_iff_iff];simp
theorem JR{i j:Array UInt8}:decide (V.Hx i=V.Hx j)=(i.toList == j.toList):=by
 rw[Bool.eq_iff_iff];cases i;cases j;simp
section
variable {X:Cx} {a b c:Expr} {ta tb tc:TE} {pos:Pos}
theorem dI{σ:St}{H:Hp}{s:Shared}{Q:VK}{k k':Bool}(I:Inv X ao σ H s)(q:Q (.bl k) H)(e:k=k'):EP X ao σ Q (.bool k') s:=by
 subst e;exact⟨.bl k,H,I,rfl,q⟩
theorem dY:u7 X (compareOp .Eq) rEq:=by
 intro ao s σ H x y v u Q I rx ry h;obtain⟨hs,q⟩:=h
 cases x with
 | fH =>
  cases rx
  cases y with
  | fH=>cases ry;exact PySem.EqNone.eq_none_none (dI I q (by simp))
  | bl j=>cases ry;exact PySem.EqNone.eq_none_bool (dI I q (by simp))
  | int j=>obtain⟨t',rfl⟩:=ry;exact PySem.EqNone.eq_none_int (dI I q (by simp))
  | str j=>obtain⟨t',rfl⟩:=ry;exact PySem.EqNone.eq_none_str (dI I q (by simp))
  | _=>exact absurd (show false=true from hs) gB
 | bl i =>
  cases rx
  cases y with
  | fH=>cases ry;exact PySem.EqNone.eq_bool_none (dI I q (by simp))
  | bl j=>cases ry;exact eq_bool (dI I q Nl)
  | str j=>obtain⟨t',rfl⟩:=ry;exact PySem.EqMixed.eq_bool_str (dI I q (by simp))
  | _=>exact absurd (show false=true from hs) gB
 | int i =>
  obtain⟨t,rfl⟩:=rx
  cases y with
  | fH=>cases ry;exact PySem.EqNone.eq_int_none (dI I q (by simp))
  | int j=>obtain⟨t',rfl⟩:=ry;exact eq_int (dI I q JP)
  | str j=>obtain⟨t',rfl⟩:=ry;exact PySem.EqMixed.eq_int_str (dI I q (by simp))
  | _=>exact absurd (show false=true from hs) gB
 | str i =>
  obtain⟨t,rfl⟩:=rx
  cases y with
  | fH=>cases ry;exact PySem.EqNone.eq_str_none (dI I q (by simp))
  | bl j=>cases ry;exact PySem.EqMixed.eq_str_bool (dI I q (by simp))
  | int j=>obtain⟨t',rfl⟩:=ry;exact PySem.EqMixed.eq_str_int (dI I q (by simp))
  | str j=>obtain⟨t',rfl⟩:=ry;exact eq_str (dI I q JQ)
  | _=>exact absurd (show false=true from hs) gB
 | Hx i =>
  obtain⟨t,rfl⟩:=rx
  cases y with
  | Hx j=>obtain⟨t',rfl⟩:=ry;exact PySem.W.eq_bytes (dI I q JR)
  | _=>exact absurd (show false=true from hs) gB
 | _=>cases y <;> exact absurd (show false=true from hs) gB
theorem Nm:u7 X (compareOp .NotEq) rNe:=by
 intro ao s σ H x y v u Q I rx ry h;obtain⟨hs,q⟩:=h
 cases x with
 | fH =>
  cases rx
  cases y with
  | fH=>cases ry;exact PySem.EqNone.ne_none_none (dI I q (by simp))
  | bl j=>cases ry;exact PySem.EqNone.ne_none_bool (dI I q (by simp))
  | int j=>obtain⟨t',rfl⟩:=ry;exact PySem.EqNone.ne_none_int (dI I q (by simp))
  | str j=>obtain⟨t',rfl⟩:=ry;exact PySem.EqNone.ne_none_str (dI I q (by simp))
  | _=>exact absurd (show false=true from hs) gB
 | bl i =>
  cases rx
  cases y with
  | fH=>cases ry;exact PySem.EqNone.ne_bool_none (dI I q (by simp))
  | bl j=>cases ry;exact ne_bool (dI I q (congrArg not Nl))
  | str j=>obtain⟨t',rfl⟩:=ry;exact PySem.EqMixed.ne_bool_str (dI I q (by simp))
  | _=>exact absurd (show false=true from hs) gB
 | int i =>
  obtain⟨t,rfl⟩:=rx
  cases y with
  | fH=>cases ry;exact PySem.EqNone.ne_int_none (dI I q (by simp))
  | int j=>obtain⟨t',rfl⟩:=ry;exact ne_int (dI I q (congrArg not JP))
  | str j=>obtain⟨t',rfl⟩:=ry;exact PySem.EqMixed.ne_int_str (dI I q (by simp))
  | _=>exact absurd (show false=true from hs) gB
 | str i =>
  obtain⟨t,rfl⟩:=rx
  cases y with
  | fH=>cases ry;exact PySem.EqNone.ne_str_none (dI I q (by simp))
  | bl j=>cases ry;exact PySem.EqMixed.ne_str_bool (dI I q (by simp))
  | int j=>obtain⟨t',rfl⟩:=ry;exact PySem.EqMixed.ne_str_int (dI I q (by simp))
  | str j=>obtain⟨t',rfl⟩:=ry;exact ne_str (dI I q (congrArg not JQ))
  | _=>exact absurd (show false=true from hs) gB
 | Hx i =>
  obtain⟨t,rfl⟩:=rx
  cases y with
  | Hx j=>obtain⟨t',rfl⟩:=ry;exact PySem.W.ne_bytes (dI I q (congrArg not JR))
  | _=>exact absurd (show false=true from hs) gB
 | _=>cases y <;> exact absurd (show false=true from hs) gB
theorem iS:u7 X (compareOp .Lt) (Ui λi j=>.bl (decide (i<j))):=QZ λ_ _ _ _ _ _ _ q=>lt_int q
theorem fJ:u7 X (compareOp .LtE) (Ui λi j=>.bl (decide (i<=j))):=QZ λ_ _ _ _ _ _ _ q=>le_int q
theorem BX:u7 X (compareOp .Gt) (Ui λi j=>.bl (decide (j<i))):=QZ λ_ _ _ _ _ _ _ q=>gt_int q
theorem E3:u7 X (compareOp .GtE) (Ui λi j=>.bl (decide (j<=i))):=QZ λ_ _ _ _ _ _ _ q=>ge_int q
theorem bq(b:Expr){op:CmpOp}(h:op≠.In:=by decide)(h2:op≠.NotIn:=by decide):behindInMarks op b=false:=by
 have e1:(op == CmpOp.In)=false:=by cases op <;> first|rfl|exact absurd rfl h
 have e2:(op == CmpOp.NotIn)=false:=by cases op <;> first|rfl|exact absurd rfl h2
 cases b <;> simp[behindInMarks,e1,e2]
theorem j8{op:CmpOp}{r:R2}(ho:u7 X (compareOp op) r)(ha:PE X a ta)(hb:PE X b tb)(hm:behindInMarks op b=false):PE X (.Compare a [op] [b] pos) (YK r ta tb):=by
 intro ao s σ H Q I h;exact wpAny_Compare1 (Vs ha hb I h λv u s2 x y H2 I2 rx ry q=>ho ao s2 σ H2 x y v u Q I2 rx ry q) hm
def Uj(t:TE):TT:=fun σ H Q=>t σ H λx H'=>isB x H' Q
theorem aT{op:CmpOp}{r:R2}(ho:u7 X (compareOp op) r)(ha:PE X a ta)(hb:PE X b tb)(hm:behindInMarks op b=false):PT X (.Compare a [op] [b] pos) (Uj (YK r ta tb)):=by
 intro ao s σ H Q I h
 refine wpAny_isTrue_Compare1 (cX (ha ao s σ H _ I h) λv s1 ⟨x,H1,I1,r1,q1⟩=>cX (hb ao s1 σ H1 _ I1 q1) λu s2 ⟨y,H2,I2,r2,q2⟩ =>
  cX (ho ao s2 σ H2 x y v u _ I2 r1 r2 q2) λc s3 ⟨z,H3,I3,r3,k,e,q3⟩=>?_) hm
 subst e;cases r3;exact wpAny_truthy_bool ⟨H3,I3,q3⟩
def Vu(r r':R2)(ta tb tc:TE):TE:=fun σ H Q=>ta σ H λx H1=>tb σ H1 λy H2=>r x y H2 λz H3=>∃ k,z=.bl k/\
 (if k=true then tc σ H3 λw' H4=>r' y w' H4 Q else Q (.bl false) H3)
theorem mh{op Hj:CmpOp}{r r':R2}(ho:u7 X (compareOp op) r)(Lf:u7 X (compareOp Hj) r')(ha:PE X a ta)(hb:PE X b tb)(hc:PE X c tc)
  (hm:lastMarks [op,Hj] [b,c]=false:=by with_unfolding_all rfl):PT X (.Compare a [op,Hj] [b,c] pos) (Uj (Vu r r' ta tb tc)):=by
 intro ao s σ H Q I h
 refine isTrue_chain (cX (ha ao s σ H _ I h) λv s1 ⟨x,H1,I1,r1,q1⟩=>test_link (cX (hb ao s1 σ H1 _ I1 q1) λu s2 ⟨y,H2,I2,r2,q2⟩ =>
  cX (ho ao s2 σ H2 x y v u _ I2 r1 r2 q2) λd s3 ⟨z,H3,I3,r3,k,e,q3⟩=>?_)) hm
 subst e;cases r3;refine wpAny_truthy_bool ?_
 cases k with
 | false =>
  obtain⟨k',e',q'⟩:=q3;cases e';exact ite_ff ⟨H3,I3,q'⟩
 | true =>
  refine ite_tt (test_last (cX (hc ao s3 σ H3 _ I3 q3) λw' s4 ⟨z',H4,I4,r4,q4⟩=>cX (Lf ao s4 σ H4 y z' u w' _ I4 r2 r4 q4) λd' s5 EW=>?_));obtain⟨z2,H5,I5,r5,k2,e2,q5⟩:=EW;subst e2;cases r5;exact wpAny_truthy_bool ⟨H5,I5,q5⟩
def YN(K:PySem.W.Frag)(x:V)(H:Hp)(k:Bool):Prop :=
 match x with
 | .fH=>k=false
 | .bl b=>k=b
 | .int i=>k=(i != 0)
 | .str y=>y.length<=sizeLine/\k=((y.length:Int) != 0)
 | .Hx y=>y.size<=sizeLine/\k=((y.size:Int) != 0)
 | .ref p=>(∃ xs,bL K H p xs/\k=!xs.isEmpty)\/(∃ xs,dG K H p xs/\k=!xs.isEmpty)\/∃ kvs,H p=some (.dK kvs)/\k=!kvs.isEmpty
 | _=>False
theorem HM{κ:Type}{kvs:List (κ × V)}{vs:List (κ × Value)}(r:KV kvs vs):(!vs.isEmpty)=!kvs.isEmpty:=by
 cases r <;> rfl
theorem zq{xs:List V}{aO:List Value}(r:cy xs aO):(!aO.toArray.isEmpty)=!xs.isEmpty:=by
 cases r <;> simp
theorem tZ:(sizeLine:Nat)<2^63:=by rw[sizeLine_eq];decide
theorem Vv:acU X (λx H Q=>∃ k,YN X.K x H k/\Q k H):=by
 intro ao s σ H x v Q I rx h;obtain⟨k,e,q⟩:=h;have hl:=tZ;have hs:sizeLine=16777216:=sizeLine_eq
 cases x with
 | fH =>
  cases rx;have e':k=false:=e;subst e';exact truthy_none ⟨H,I,q⟩
 | bl b =>
  cases rx;have e':k=b:=e;subst e';exact wpAny_truthy_bool ⟨H,I,q⟩
 | int i =>
  obtain⟨t,rfl⟩:=rx;have e':k=(i != 0):=e;subst e';exact PySem.P.truthy_int ⟨H,I,q⟩
 | str y =>
  obtain⟨t,rfl⟩:=rx;obtain⟨hy,e'⟩:y.length<=sizeLine/\k=((y.length:Int) != 0):=e;subst e';exact PySem.P.truthy_str ∅ ⟨H,I.tok _,q⟩
 | Hx y =>
  obtain⟨t,rfl⟩:=rx;obtain⟨hy,e'⟩:y.size<=sizeLine/\k=((y.size:Int) != 0):=e;subst e';exact PySem.W.truthy_bytes ∅ ⟨H,I.tok _,q⟩
 | ref p =>
  cases rx;have e':(∃ xs,bL X.K H p xs/\k=!xs.isEmpty)\/(∃ xs,dG X.K H p xs/\k=!xs.isEmpty)\/∃ kvs,H p=some (.dK kvs)/\k=!kvs.isEmpty:=e;rcases e' with ⟨xs,hx,e'⟩|⟨xs,hx,e'⟩|⟨kvs,hx,e'⟩
  ·subst e';obtain⟨aO,r,pl,hz⟩:=I.list hx;have dN:=r.length;exact wpAny_truthy_list pl.isList (by simp only[gJ];lia) ⟨H,I.tok _,by rw[zq r];exact q⟩
  ·subst e';obtain⟨aO,r,pl,hz⟩:=I.tuple hx;have dN:=r.length;exact truthy_tuple pl (by simp only[gJ];lia) ⟨H,I.tok _,by rw[zq r];exact q⟩
  ·subst e';obtain⟨hz,hS,vs,r,m⟩:kvs.length<=sizeLine/\(p == sysModules)=false/\∃ vs,KV kvs vs/\s.heap.DictOf (fT X.prog X.w) p vs:=I.hok p _ hx;have dN:kvs.length=vs.length:=Paired.length r;exact wpAny_truthy_dict hS m ∅ ⟨H,I.tok _,by rw[HM r];exact q⟩
 | _=>exact (show False from e).elim
theorem mj(ha:PE X a ta)(he:∀ zj,isTrue a X.env zj=(do let v ← zj;standAt a.pos;holding [v] (truthy v))) :
  PT X a (fun σ H Q=>ta σ H λx H'=>∃ k,YN X.K x H' k/\Q k H'):=by
 intro ao s σ H Q I h;exact isTrue_plain (cX (ha ao s σ H _ I h) λv s1 ⟨x,H1,I1,r1,q1⟩=>Vv ao s1 σ H1 x v Q I1 r1 q1) (he _)
theorem vals1{x:V}{us:List Value}(r:cy [x] us):∃ u,us=[u]/\RelV x u:=by
 cases r with
 | cons r1 r2=>cases r2;exact⟨Y,r1⟩
theorem vals2{x y:V}{us:List Value}(r:cy [x,y] us):∃ u w',us=[u,w']/\RelV x u/\RelV y w':=by
 cases r with
 | cons r1 r2 =>
  cases r2 with
  | cons r3 r4=>cases r4;exact⟨P,rfl,r1,r3⟩
theorem rP(hc:X.calm=true):kq X (.builtin "max") (λxs H Q=>∃ i j,xs=[.int i,.int j]/\Q (.int (if j > i then j else i)) H):=by
 intro ao s σ H xs us Q I r h;obtain⟨i,j,rfl,q⟩:=h;obtain⟨u,w',rfl,⟨t,rfl⟩,⟨t',rfl⟩⟩:=vals2 r;refine max_two_ints (I.ok.hd hc) λh' tk k=>⟨_,H,I.kept k,?_,q⟩;by_cases hj:j > i
 ·rw[if_pos hj,if_pos hj];exact⟨Y⟩
 ·rw[if_neg hj,if_neg hj];exact⟨Y⟩
theorem rQ(hc:X.calm=true):kq X (.builtin "min") (λxs H Q=>∃ i j,xs=[.int i,.int j]/\Q (.int (if j<i then j else i)) H):=by
 intro ao s σ H xs us Q I r h;obtain⟨i,j,rfl,q⟩:=h;obtain⟨u,w',rfl,⟨t,rfl⟩,⟨t',rfl⟩⟩:=vals2 r;refine min_two_ints (I.ok.hd hc) λh' tk k=>⟨_,H,I.kept k,?_,q⟩;by_cases hj:j<i
 ·rw[if_pos hj,if_pos hj];exact⟨Y⟩
 ·rw[if_neg hj,if_neg hj];exact⟨Y⟩
end
end L2
namespace L2
open Spec Rows
structure HN(h:Heap)(x dx C:Addr)(mA:Str->Option Value):Prop where
 obj:h.get? x=some (instObj C dx)
 ns:h.Ns1 dx mA
 ne:dx≠x
theorem Ll{h:Heap}{mA:Str->Option Value}(n:h.Ns1 dx mA):∃ od,h.get? dx=some od/\∀ name,lookIn name od=some (mA name):=by
 obtain⟨o,es,ep,ho,hd,hk,_,hm⟩:=n;refine⟨o,ho,λname=>?_⟩;have e:=hm name;unfold nsFind findBy at e;rw[← Array.find?_toList]at e;unfold lookIn;rw[hd];dsimp only;split
 ·rename_i y q;rw[q]at e;exact congrArg some e
 ·rename_i q;rw[q]at e
  have a:es.toList.any (·.refKey)=false:=by
   rw[List.any_eq_false];intro y hy;obtain⟨z,t,hkey⟩:=hk y (Array.mem_toList_iff.mp hy);simp[DictEntry.refKey,hkey]
  have a':¬ es.toList.any (·.refKey)=true:=by rw[a];exact gB
  rw[if_neg a'];exact congrArg some e
theorem HN.look{h:Heap}{x C:Addr}{mA:Str->Option Value}(I:HN h x dx C mA):∃ od,InstAt h x (instObj C dx) C (some od)/\∀ name,lookIn name od=some (mA name) :=
 let ⟨od,ho,hl⟩:=Ll I.ns
 ⟨od,⟨I.obj,V,ho⟩,hl⟩
section
variable {prog:Program} {w:World} {A:Around} {E:Value->Shared->Prop} {s:Shared} {K:PySem.W.Frag} {x dx C f:Addr} {mA:Str->Option Value} {name:Str} {v:Value}
theorem Q0{acW:Bool}{Q:Value->Shared->Prop}(X:K.In s.heap)(I:HN s.heap x dx C mA)(hg:plainGet K C name=true)(hh:hasDictIn K C=true)
  (ha:findIn K (.ref C) name=some none) (hv:mA name=some v) (hv':handedIn v=true) (h:Q v { s with toks:=s.toks+1 }) :
  wpAny (model prog w) A (getAttr (.ref x) name acW) Q E s:=by
 obtain⟨od,J,hl⟩:=I.look;exact PySem.W.get_value X J (plainGet_of hg).1 (PySem.W.findObj_own hh ha rfl (by rw[hl,hv])) hv' h
theorem Nn{pl:Sem Bool}{Q:Value × List Value->Shared->Prop}(X:K.In s.heap)(I:HN s.heap x dx C mA)(hg:plainGet K C name=true)
  (hf:findIn K (.ref C) name=some (some (.ref f))) (ht:isFn K (.ref f)=true) (hv:mA name=none) (h:Q (.ref f,[.ref x]) s) :
  wpAny (model prog w) A (getMethod (.ref x) name pl) Q E s:=by
 obtain⟨od,J,hl⟩:=I.look;exact PySem.W.method_fn X J (plainGet_of hg).1 (plainGet_of hg).2 hf (beq_iff_eq.mp ht) (by show (lookIn name od).map (·.isSome)=some false;rw[hl,hv];rfl) h
theorem Q2{ns:List Str}{Q:Unit->Shared->Prop}(X:K.In s.heap)(I:HN s.heap x dx C mA)
  (hs:findIn K (.ref C) "__setattr__"=some (some (.builtin "object.__setattr__"))) (hp:plainOver K C=true) (ht:takerIn K C name=some none) (hh:hasDictIn K C=true)
  (hw:PySem.Within mA ns) (hsz:ns.length<=sizeLine)
  (h:∀ h',HN h' x dx C (λy=>if y=name then some v else mA y)->Heap.SameBut dx s.heap h'->Q () { s with heap:=h',toks:=s.toks+2 }) :
  wpAny (model prog w) A (setAttr (.ref x) name v) Q E s:=by
 obtain⟨od,J,hl⟩:=I.look;refine PySem.W.set_plain X J hs (PySem.W.osa_open (s:={ s with toks:=s.toks+1 }) (r:=none) X J hp ht λb=>?_);obtain⟨cd,hc,hd'⟩:=PySem.W.any_some hh;have hx:s.heap.get? x=some ⟨.ref C,some dx,.plain,#[]⟩:=I.obj;refine wpAny_bind (wpAny_pure (wpAny_bind (wpAny_bind (wpAny_loadPart hx (wpAny_bind (PySem.W.Looks.here (s:={ s with toks:=s.toks+1 }) (PySem.W.looks_clsIn X hc) ?_))))));rw[hd'];refine wpAny_pure (a:=some dx) (wpAny_bind (wpAny_pure (wpAny_bind ?_)));refine wpAny_nsSet1 (s:={ s with toks:=s.toks+1 }) I.ns λh' hn2 Hl=>?_;obtain⟨oD,esD,epD,hoD,hdD,hcD⟩:=hn2.count (PySem.Within.cons name v hw);refine wpAny_bind (wpAny_lookBehind hoD (by rw[hdD];exact pastItsLine_dict (iJ hcD (by rw[ny];lia))) ?_);exact wpAny_pure (h _ ⟨(Hl.2 _ (Ne.symm I.ne)).trans I.obj,hn2,I.ne⟩ Hl)
theorem Np{R:Result->Shared->Prop}{vs:List Value}{kw:List (Str × Value)}(X:K.In s.heap)(hm:makesIn K C=true)
  (hi:findIn K (.ref C) "__init__"=some (some (.ref f))) (hf:typeIn K (.ref f)=some (.type "function"))
  (h:codeAny (model prog w) (A.under (.builtin "type.__call__" ⟨.ref C::vs,kw⟩)) (.call (.ref f) ⟨.ref (s.heap.objs.size+1)::vs,kw⟩) (PySem.W.InitBack (s.heap.objs.size+1) R)
   { s with heap:=(s.heap.push emptyDict).push (instObj C s.heap.objs.size) }) :
  codeAny (model prog w) A (.call (.ref C) ⟨vs,kw⟩) R s:=by
 obtain⟨hh,g,d,t,os⟩:=s;exact PySem.W.make_core (PySem.W.makes_of X hm) (PySem.W.looks_findIn X hi) (λself=>PySem.W.bind_fn X self hf) (.inl rfl) h
end
def d8(f:Str)(v:V):List (Str × V)->List (Str × V)
 | []=>[(f,v)]
 | (g,x)::r=>if g=f then (g,v)::r else (g,x)::d8 f v r
theorem xU(f g:Str)(v:V):∀ fs:List (Str × V),(d8 f v fs).lookup g=if g=f then some v else fs.lookup g
 | []=>by
  show List.lookup g [(f,v)]=_;by_cases h:g=f
  ·have hb:(g == f)=true:=beq_iff_eq.mpr h;simp only[List.lookup,hb,if_pos h]
  ·have hb:(g == f)=false:=beq_eq_false_iff_ne.mpr h;simp only[List.lookup,hb,if_neg h]
 | (k,x)::r=>by
  have ih:=xU f g v r;rw[show d8 f v ((k,x)::r)=(if k=f then (k,v)::r else (k,x)::d8 f v r) from rfl];by_cases hk:k=f
  ·rw[if_pos hk];by_cases h:g=k
   ·have hb:(g == k)=true:=beq_iff_eq.mpr h;simp only[List.lookup,hb,if_pos (h.trans hk)]
   ·have hb:(g == k)=false:=beq_eq_false_iff_ne.mpr h;simp only[List.lookup,hb,if_neg (λe:g=f=>h (e.trans hk.symm))]
  ·rw[if_neg hk];by_cases h:g=k
   ·have hb:(g == k)=true:=beq_iff_eq.mpr h;simp only[List.lookup,hb,if_neg (λe:g=f=>hk (h.symm.trans e))]
   ·have hb:(g == k)=false:=beq_eq_false_iff_ne.mpr h;simp only[List.lookup,hb];exact ih
theorem wH(f:Str)(v:V):∀ fs:List (Str × V),f∈(d8 f v fs).map (·.1)/\∀ g,g∈fs.map (·.1)->g∈(d8 f v fs).map (·.1)
 | []=>⟨by simp[d8],λg h=>by simp at h⟩
 | (k,x)::r=>by
  obtain⟨i1,i2⟩:=wH f v r;rw[show d8 f v ((k,x)::r)=(if k=f then (k,v)::r else (k,x)::d8 f v r) from rfl];by_cases hk:k=f
  ·rw[if_pos hk];subst hk;exact⟨by simp,λg h=>by simpa using h⟩
  ·rw[if_neg hk];refine⟨?_,λg h=>?_⟩
   ·rw[jy];exact nu _ i1
   ·rw[jy]at h ⊢;rcases List.mem_cons.mp h with e|e
    ·exact List.mem_cons.mpr (.inl e)
    ·exact nu _ (i2 g e)
theorem xV(f:Str)(v:V):∀ fs:List (Str × V),(d8 f v fs).length<=fs.length+1
 | []=>by simp[d8]
 | (k,x)::r=>by
  have ih:=xV f v r;rw[show d8 f v ((k,x)::r)=(if k=f then (k,v)::r else (k,x)::d8 f v r) from rfl];by_cases hk:k=f
  ·rw[if_pos hk,ny,ny];lia
  ·rw[if_neg hk,ny,ny];lia
theorem sJ.some_of{v:V}{o:Option Value}(r:sJ (some v) o):∃ u,o=some u/\RelV v u:=by
 cases o with
 | none=>exact (show False from r).elim
 | some u=>exact⟨u,rfl,r⟩
theorem sJ.none_of{o:Option Value}(r:sJ none o):o=none:=by
 cases o with
 | none=>rfl
 | some u=>exact (show False from r).elim
theorem Lm{v:V}{u:Value}(r:RelV v u):handedIn u=true:=by
 cases v with
 | fH=>cases (show u=Value.none from r);rfl
 | bl b=>cases (show u=Value.bool b from r);rfl
 | int i=>obtain⟨t,e⟩:=(show ∃ t,u=Value.int i t from r);cases e;rfl
 | str x=>obtain⟨t,e⟩:=(show ∃ t,u=Value.str x t from r);cases e;rfl
 | Hx b=>obtain⟨t,e⟩:=(show ∃ t,u=Value.bytes b t from r);cases e;rfl
 | Uc b=>obtain⟨t,e⟩:=(show ∃ t,u=Value.float b t from r);cases e;rfl
 | ref a=>cases (show u=Value.ref a from r);rfl
 | ty n=>cases (show u=Value.type n from r);rfl
section
variable {P:Program} {w:World} {H H':Hp} {h h':Heap} {a C dx:Addr} {fs XT:List (Str × V)}
theorem yX(hok:qI P w H h)(e:H a=some (.ins C dx fs)):∃ mA,HN h a dx C mA/\(∀ f,sJ (fs.lookup f) (mA f))/\PySem.Within mA (fs.map (·.1))/\fs.length<=1000/\H dx=some (.own a):=by
 obtain⟨d,z,ne,ob,mA,n,r,q⟩:=(show fV P w H h a (.ins C dx fs) from hok a _ e);exact⟨mA,⟨ob,n,ne⟩,r,q,z,d⟩
end
structure JS(K:PySem.W.Frag)(C:Addr):Prop where
 pg:plainGet K C Str.empty=true
 hd:hasDictIn K C=true
 po:plainOver K C=true
 sa:findIn K (.ref C) "__setattr__"=some (some (.builtin "object.__setattr__"))
theorem JS.get{K:PySem.W.Frag}{C:Addr}(c:JS K C)(f:Str):plainGet K C f=true:=c.pg
def fQ(K:PySem.W.Frag)(C:Addr)(f:Str):Prop:=findIn K (.ref C) f=some none
theorem fQ.YO{K:PySem.W.Frag}{C:Addr}{f:Str}(n:fQ K C f):takerIn K C f=some none:=by
 unfold takerIn;rw[show findIn K (.ref C) f=some none from n];rfl
structure HP(K:PySem.W.Frag)(C:Addr)(m:Str)(f:Addr):Prop where
 at_:findIn K (.ref C) m=some (some (.ref f))
 fn:isFn K (.ref f)=true
 kp:keepIn K (.ref f)=true
section
variable {X:Cx} {ao:List (Addr × Obj)} {σ:St} {H:Hp} {s:Shared} {a C dx:Addr} {fs:List (Str × V)} {f:Str} {v:V} {A:Around} {E:Value->Shared->Prop}
theorem zu{b:Bool}{Q:Value->Shared->Prop}(I:Inv X ao σ H s)(e:H a=some (.ins C dx fs))(c:JS X.K C)(n:fQ X.K C f)(l:fs.lookup f=some v)
  (h:∀ u s',Inv X ao σ H s'->RelV v u->Q u s'):wpAny (model X.prog X.w) A (getAttr (.ref a) f b) Q E s:=by
 obtain⟨mA,O,r,_,_,_⟩:=yX I.hok e;obtain⟨u,hu,ru⟩:=sJ.some_of (v:=v) (o:=mA f) (by rw[← l];exact r f);exact Q0 I.uZ O (c.get f) c.hd n hu (Lm ru) (h u _ (I.tok _) ru)
theorem t6{m:Str}{g:Addr}{pl:Sem Bool}{Q:Value × List Value->Shared->Prop}(I:Inv X ao σ H s)(e:H a=some (.ins C dx fs))(c:JS X.K C)(k:HP X.K C m g)(l:fs.lookup m=none)
  (h:Q (.ref g,[.ref a]) s):wpAny (model X.prog X.w) A (getMethod (.ref a) m pl) Q E s:=by
 obtain⟨mA,O,r,_,_,_⟩:=yX I.hok e;have hn:mA m=none:=sJ.none_of (by rw[← l];exact r m);exact Nn I.uZ O (c.get m) k.at_ k.fn hn h
theorem zw{y:V}{u:Value}{Q:Unit->Shared->Prop}(I:Inv X ao σ H s)(e:H a=some (.ins C dx fs))(c:JS X.K C)(n:fQ X.K C f)(hl:fs.length<1000)(ry:RelV y u)
  (h:∀ s',Inv X ao σ (aP H a (.ins C dx (d8 f y fs))) s'->Q () s'):wpAny (model X.prog X.w) A (setAttr (.ref a) f u) Q E s:=by
 obtain⟨mA,O,r,wi,_,ho⟩:=yX I.hok e;have hz:(fs.map (·.1)).length<=sizeLine:=by rw[cD,sizeLine_eq];lia
 refine Q2 I.uZ O c.sa c.po n.YO c.hd wi hz λh' O' sb=>h _ ?_;have hd:∃ o,h'.get? dx=some o:=let ⟨o,P,e',_⟩:=O'.ns;⟨o,e'⟩;refine I.write (x:=a) (e:=dx) (by rw[e];exact True.intro) (.inr ho) (λb q hb z=>(sb.2 b hb).trans z) hd ?_;refine⟨by rw[aN O.ne];exact ho,?_,O.ne,O'.obj,_,O'.ns,λg=>?_,λg hg=>?_⟩
 ·have:=xV f y fs;lia
 ·show sJ ((d8 f y fs).lookup g) (if g=f then some u else mA g);rw[xU];by_cases q:g=f
  ·rw[if_pos q,if_pos q];exact ry
  ·rw[if_neg q,if_neg q];exact r g
 ·by_cases q:g=f
  ·rw[q];exact (wH f y fs).1
  ·refine (wH f y fs).2 g (wi g λz=>hg ?_);show (if g=f then some u else mA g)=none;rw[if_neg q];exact z
theorem Inv.made(I:Inv X ao σ H s):Inv X ao σ (aP (aP H s.heap.objs.size (.own (s.heap.objs.size+1))) (s.heap.objs.size+1) (.ins C s.heap.objs.size []))
  { s with heap:=(s.heap.push emptyDict).push (instObj C s.heap.objs.size) }:=by
 have e1:(s.heap.push emptyDict).get? s.heap.objs.size=some emptyDict:=Heap.get?_push_size s.heap rfl
 have e2:((s.heap.push emptyDict).push (instObj C s.heap.objs.size)).get? (s.heap.objs.size+1)=some (instObj C s.heap.objs.size):=by
  have:=Heap.get?_push_size (s.heap.push emptyDict) (o:=instObj C s.heap.objs.size) rfl;rwa [Heap.size_push]at this
 have e3:(s.heap.push emptyDict).Ns s.heap.objs.size (λ_=>none):=⟨emptyDict,#[],_,e1,rfl,(λe he=>absurd he (by simp)),λ_=>rfl⟩;have I1:=I.laid (a:=s.heap.objs.size) (o:=.own (s.heap.objs.size+1)) (h':=s.heap.push emptyDict) (t':=s.toks) (λb u q=>Heap.get?_push_of_some _ q) (gg _) ⟨_,e1⟩;refine I1.laid (a:=s.heap.objs.size+1) (o:=.ins C s.heap.objs.size []) (t':=s.toks) (λb u q=>Heap.get?_push_of_some _ q) (Nat.le_of_eq (Heap.size_push _ _)) ?_;have ne:s.heap.objs.size≠s.heap.objs.size+1:=kT (Nat.lt_succ_self _);refine⟨by rw[aN ne,af],Nat.zero_le _,ne,e2,λ_=>none,(Heap.Ns1.of_empty e3).at λo q=>Heap.get?_push_of_some _ q,λ_=>True.intro,λy hy=>absurd rfl hy⟩
theorem Q3{prog:Program}{w:World}{env:Env}{e:Expr}{f:Str}{s:Shared}{Q:Value->Shared->Prop}(hb:attributeBase e f env (eval e env)=eval e env)
  (h:wpAny (model prog w) A (eval e env) (λo s₁=>wpAny (model prog w) A (getAttr o f true) Q E s₁) E s):wpAny (model prog w) A (eval (.Attribute e f pos) env) Q E s :=
 Attribute_any_ h (by rw[arm_eval_Attribute,hb])
end
inductive YQ(K:PySem.W.Frag)(f:Str)(x:V)(H:Hp)(Q:VK):Prop
 | mk (a C dx:Addr) (fs:List (Str × V)) (v:V) (_:x=.ref a) (_:H a=some (.ins C dx fs)) (_:JS K C) (_:fQ K C f) (_:fs.lookup f=some v) (_:Q v H):YQ K f x H Q
def YR(K:PySem.W.Frag)(ta:TE)(f:Str):TE:=fun σ H Q=>ta σ H λx H1=>YQ K f x H1 Q
def acY(K:PySem.W.Frag)(ta tv:TE)(f:Str):TS:=λD σ H=>tv σ H λy H1=>ta σ H1 λx H2=>∃ a C dx fs,x=.ref a/\H2 a=some (.ins C dx fs)/\JS K C/\fQ K C f/\fs.length<1000/\
 D.nx σ (aP H2 a (.ins C dx (d8 f y fs)))
def YS(X:Cx)(op:Operator)(rd:V->V->Hp->VK->Prop):Prop :=
 ∀ (ao:List (Addr × Obj)) (s:Shared) (σ:St) (H:Hp) (x y:V) (u v:Value) (Q:VK),Inv X ao σ H s->RelV x u->RelV y v->rd x y H Q->wpAny (model X.prog X.w) X.A (inplaceOp op u v) (EP X ao σ Q) X.xe s
def Q4(K:PySem.W.Frag)(ta tv:TE)(rd:V->V->Hp->VK->Prop)(f:Str):TS:=λD σ H=>ta σ H λx H1=>∃ a C dx fs v,x=.ref a/\H1 a=some (.ins C dx fs)/\JS K C/\fQ K C f/\fs.lookup f=some v/\
 tv σ H1 λy H2=>rd v y H2 λz H3=>∃ dx' XT,H3 a=some (.ins C dx' XT)/\XT.length<1000/\D.nx σ (aP H3 a (.ins C dx' (d8 f z XT)))
section
variable {X:Cx} {o e value:Expr} {f:Str} {pos iz Ln:Pos} {ta tv:TE}
theorem cP(he:PE X e ta)(hb:attributeBase e f X.env (eval e X.env)=eval e X.env):PE X (.Attribute e f pos) (YR X.K ta f):=by
 intro ao s σ H Q I h;refine Q3 hb (cX (he ao s σ H _ I h) λu s1 Bc=>?_);obtain⟨x,H1,I1,rx,a,C,dx,fs,v,ex,ea,c,n,l,q⟩:=Bc;subst ex;obtain rfl:u=Value.ref a:=rx;exact zu I1 ea c n l λu' s2 I2 ru=>⟨v,H1,I2,ru,q⟩
theorem jf(ha:PE X o ta)(hv:PE X value tv)(hs:swapsWith value (some (.Attribute o f iz)) pos.line X.env=pure false):PS X (.Assign [.Attribute o f iz] value pos) (acY X.K ta tv f):=by
 intro ao s σ H D I h;refine plainObj_wpAny_Assign_Attribute (cX (hv ao s σ H _ I h) λu s1 h1=>?_) hs;obtain⟨y,H1,I1,ry,q⟩:=h1;refine cX (ha ao s1 σ H1 _ I1 q) λov s2 h2=>?_;obtain⟨x,H2,I2,rx,a,C,dx,fs,ex,ea,c,n,l,q2⟩:=h2;subst ex;obtain rfl:ov=Value.ref a:=rx;exact zw I2 ea c n l ry λs3 I3=>⟨σ,_,I3,q2⟩
theorem wI{op:Operator}{rd:V->V->Hp->VK->Prop}(ha:PE X o ta)(hv:PE X value tv)(QA:YS X op rd):PS X (.AugAssign (.Attribute o f Ln) op value pos) (Q4 X.K ta tv rd f):=by
 intro ao s σ H D I h;refine wpAny_AugAssign_AttributeAny (cX (ha ao s σ H _ I h) λov s1 h1=>?_);obtain⟨x,H1,I1,rx,a,C,dx,fs,v,ex,ea,c,n,l,q⟩:=h1;subst ex;obtain rfl:ov=Value.ref a:=rx;refine zu I1 ea c n l λu s2 I2 ru=>cX (hv ao s2 σ H1 _ I2 q) λw3 s3 ⟨y,H2,I3,ry,q3⟩=>cX (QA ao s3 σ H2 v y u w3 _ I3 ru ry q3) λw4 s4 Df=>?_;obtain⟨z,H3,I4,rz,dx',XT,ea',l',q4⟩:=Df;exact zw I4 ea' c n l' rz λs5 I5=>⟨σ,_,I5,q4⟩
end
section
variable {X:Cx} {ao:List (Addr × Obj)} {σ:St} {H:Hp} {s:Shared} {A:Around} {E:Value->Shared->Prop} {Q:Value->Shared->Prop} {c:Value} {b:Bool}
inductive ku(K:PySem.W.Frag)(H:Hp):V->Value->Prop where
 | fH:ku K H .fH (.type "NoneType")
 | bl (x:Bool):ku K H (.bl x) (.type "bool")
 | int (i:Int):ku K H (.int i) (.type "int")
 | str (x:Str):ku K H (.str x) (.type "str")
 | Uc (x:UInt64):ku K H (.Uc x) (.type "float")
 | lst {a:Addr} {xs:List V} (e:H a=some (.lst xs)):ku K H (.ref a) (.type "list")
 | Hy {a:Addr} {o:Obj} {xs:List V} (e:H a=some (.Hy o (.lst xs))):ku K H (.ref a) (.type "list")
 | tup {a:Addr} {xs:List V} (e:H a=some (.tup xs)):ku K H (.ref a) (.type "tuple")
 | dK {a:Addr} {kvs:List (fj × V)} (e:H a=some (.dK kvs)):ku K H (.ref a) (.type "dict")
 | dT {a:Addr} {kvs:List (List fj × V)} (e:H a=some (.dT kvs)):ku K H (.ref a) (.type "dict")
 | ins {a C dx:Addr} {fs:List (Str × V)} (e:H a=some (.ins C dx fs)) (cl:JS K C) (ha:findIn K (.ref C) "__class__"=some (some (.builtin "object.__class__")))
   (hn:PySem.W.specialIn K (.builtin "object.__class__") "__get__"=some (some (.builtin "getset_descriptor.__get__"))) (htk:PySem.W.takesIn K (.builtin "object.__class__")=some true)
   (hm:mroIn K C (.type "object")=some true):ku K H (.ref a) (.ref C)
theorem Lo{x:V}{u t:Value}(I:Inv X ao σ H s)(rx:RelV x u)(ty:ku X.K H x t)(e:kitOne X.K t c=some b)(h:∀ tk,Q (.bool b) { s with toks:=tk }) :
  wpAny (model X.prog X.w) A (call (.builtin "isinstance") [u,c]) Q E s:=by
 cases ty with
 | fH=>cases (show u=Value.none from rx);exact kia_one PySem.W.kitx_none I.uZ True.intro e (λz=>nomatch z) h
 | bl y=>cases (show u=Value.bool y from rx);exact kia_one PySem.W.kitx_bool I.uZ True.intro e (λz=>nomatch z) h
 | int i=>obtain⟨t,q⟩:=(show ∃ t,u=Value.int i t from rx);cases q;exact kia_one PySem.W.kitx_int I.uZ True.intro e (λz=>nomatch z) h
 | str y=>obtain⟨t,q⟩:=(show ∃ t,u=Value.str y t from rx);cases q;exact kia_one PySem.W.kitx_str I.uZ True.intro e (λz=>nomatch z) h
 | Uc y=>obtain⟨t,q⟩:=(show ∃ t,u=Value.float y t from rx);cases q;exact kia_one PySem.W.kitx_float I.uZ True.intro e (λz=>nomatch z) h
 | @lst a xs ea =>
  cases (show u=Value.ref a from rx);obtain⟨_,_,n,_,h1⟩:=(show fV X.prog X.w H s.heap a (.lst xs) from I.hok a _ ea);exact kia_one kitx_list I.uZ ⟨_,h1,rfl⟩ e (λz=>nomatch z) h
 | @Hy a ob xs ea =>
  cases (show u=Value.ref a from rx);obtain⟨_,_,_,n,_,h1⟩:=(show fV X.prog X.w H s.heap a (.Hy ob (.lst xs)) from I.hok a _ ea);exact kia_one kitx_list I.uZ ⟨_,h1,rfl⟩ e (λz=>nomatch z) h
 | @tup a xs ea =>
  cases (show u=Value.ref a from rx);obtain⟨_,_,_,p⟩:=(show fV X.prog X.w H s.heap a (.tup xs) from I.hok a _ ea);obtain⟨o,h1,h2,_⟩:=p;exact kia_one PySem.W.kitx_tuple I.uZ ⟨o,h1,h2⟩ e (λz=>nomatch z) h
 | @dK a kvs ea =>
  cases (show u=Value.ref a from rx);obtain⟨_,_,vs,_,p⟩:=(show fV X.prog X.w H s.heap a (.dK kvs) from I.hok a _ ea);obtain⟨o,es,ep,h1,h2,_⟩:=p;exact kia_one kitx_dict I.uZ ⟨o,h1,h2.1⟩ e (λz=>nomatch z) h
 | @dT a kvs ea =>
  cases (show u=Value.ref a from rx);obtain⟨_,_,xs,_,o,es,ep,h1,h2,_⟩:=(show fV X.prog X.w H s.heap a (.dT kvs) from I.hok a _ ea);exact kia_one kitx_dict I.uZ ⟨o,h1,h2.1⟩ e (λz=>nomatch z) h
 | @ins a C dx fs ea cl ha hn htk hm =>
  cases (show u=Value.ref a from rx);obtain⟨mA,O,_⟩:=yX I.hok ea;obtain⟨od,J,_⟩:=O.look;exact kia_one (PySem.W.kitx_own (cl.get _) cl.hd ha hn htk hm) I.uZ J e (λz=>nomatch z) h
end
end L2
namespace L2
open Spec Rows
structure gQ(k:Nat)(A:Around):Prop where
 hd:A.handled=none
 dp:A.depth+3*k+5<recursionLimit
 un:A.units+16*k+200<cLine
theorem gQ.mono{j k:Nat}{A:Around}(r:gQ k A)(h:j<=k):gQ j A:=⟨r.hd,by have:=r.dp;lia,by have:=r.un;lia⟩
theorem gQ.deeper{k:Nat}{A:Around}(r:gQ (k+1) A)(env:Env):gQ k (A.deeper env) :=
 ⟨r.hd,by have:=r.dp;show A.depth+1+3*k+5<_;lia,by have:=r.un;show A.units+3+16*k+200<_;lia⟩
theorem HQ{A:Around}{C:Addr}{us:List Value}{kw:List (Str × Value)}:(A.under (.builtin "type.__call__" ⟨.ref C::us,kw⟩)).depth=A.depth+1:=by
 first|rfl|simp[Around.under,Code.weight,Code.isCreation,Code.isGuard,Code.isCaller,Code.frames,Code.isFrame,guardIds]
theorem HR{A:Around}{C:Addr}{us:List Value}{kw:List (Str × Value)}:(A.under (.builtin "type.__call__" ⟨.ref C::us,kw⟩)).units=A.units+1:=by
 first|rfl|simp[Around.under,Code.cUnits,Code.frames,Code.isFrame]
theorem gQ.make{k:Nat}{A:Around}(r:gQ (k+1) A)(C:Addr)(us:List Value)(kw:List (Str × Value)):gQ k (A.under (.builtin "type.__call__" ⟨.ref C::us,kw⟩)) :=
 ⟨r.hd,by have:=r.dp;rw[HQ];lia,by have:=r.un;rw[HR];lia⟩
theorem gQ.depth{k:Nat}{A:Around}(r:gQ k A):A.depth<recursionLimit:=by have:=r.dp;lia
theorem gQ.units{k:Nat}{A:Around}(r:gQ k A):A.units+64<cLine:=by have:=r.un;lia
def zx:TA:=λ_ H Q=>Q [] H
def Nq(ta:TE)(tr:TA):TA:=fun σ H Q=>ta σ H λx H1=>tr σ H1 λxs H2=>Q (x::xs) H2
section
variable {X:Cx} {e:Expr} {es:List Expr} {te:TE} {t:TA} {pos:Pos}
theorem ah:PA X [] zx:=λ_ _ _ _ H Q I h=>Calls.spliced_nil ⟨[],H,I,.nil,h⟩
theorem aa(ha:PE X e te)(hr:PA X es t)(hs:starEach (e::es) X.env=(false,eval e X.env)::starEach es X.env:=by rfl):PA X (e::es) (Nq te t):=by
 intro pos ao s σ H Q I h;rw[hs];show wpAny _ _ (spliced ((false,eval e X.env)::backTo pos (starEach es X.env))) _ _ s;refine Calls.spliced_cons (cX (ha ao s σ H _ I h) λu s1 HH=>?_);obtain⟨x,H1,I1,r1,q1⟩:=HH;exact cX (hr pos ao s1 σ H1 _ I1 q1) λus s2 ⟨xs,H2,I2,r2,q2⟩=>⟨x::xs,H2,I2,.cons r1 r2,q2⟩
def ac0(t:TA):TE:=fun σ H Q=>t σ H λxs H1=>xs.length<=sizeLine/\∀ p,H1 p=none->Q (.ref p) (aP H1 p (.tup xs))
def Lp(t:TA):TE:=fun σ H Q=>t σ H λxs H1=>xs.length<=sizeLine/\∀ p,H1 p=none->Q (.ref p) (aP H1 p (.lst xs))
theorem cF{x1}(h:PA X es t):PE X (.Tuple es x1 pos) (ac0 t):=by
 intro ao s σ H Q I hq;refine wpAny_Tuple_spliced (cX (h pos ao s σ H _ I hq) λus s1 ⟨xs,H1,I1,r,z,q⟩=>⟨by rw[← r.length];exact z,?_⟩);have hf:H1 s1.heap.objs.size=none:=I1.hok.fresh (gg _);refine⟨.ref s1.heap.objs.size,aP H1 s1.heap.objs.size (.tup xs),I1.laid (t':=s1.toks) (λb u e=>Heap.get?_push_of_some _ e) (gg _) ?_,rfl,q _ hf⟩;exact⟨z,us,r,⟨_,Heap.get?_push_size _ rfl,rfl,Y⟩⟩
theorem bN(h:PA X es t):PE X (.List es pos) (Lp t):=by
 intro ao s σ H Q I hq;refine wpAny_List_spliced (cX (h pos ao s σ H _ I hq) λus s1 ⟨xs,H1,I1,r,z,q⟩=>⟨by rw[← r.length];exact z,?_⟩);have hf:H1 s1.heap.objs.size=none:=I1.hok.fresh (gg _);refine⟨.ref s1.heap.objs.size,aP H1 s1.heap.objs.size (.lst xs),I1.laid (t':=s1.toks) (λb u e=>Heap.get?_push_of_some _ e) (gg _) ?_,rfl,q _ hf⟩;exact⟨z,us,0,r,Heap.get?_push_size _ rfl⟩
end
abbrev Sp:=List V->Hp->VK->XK->Prop
abbrev MW:=List Env->Hp->Shared->XK->Value->Shared->Prop
structure HS(P:Program)(w:World)(K:PySem.W.Frag)(mg:Str->Option Value)(zt:Heap)(A:Around)(zn:List Env)(s:Shared)(H:Hp):Prop where
 frames:A.frames=some zn
 mod:Mod K mg zt
 bs:∀ b o,zt.get? b=some o->s.heap.get? b=some o/\H b=none
 Qx:zt.objs.size<=s.heap.objs.size
 sL:s.heap.FunFrames zt zn
 QU:∀ b∈qE zn,H b=none
 hok:qI P w H s.heap
 bare:AllBare s.gens
def CE(zn:List Env)(P:Program)(w:World)(H:Hp)(s:Shared)(Q:VK)(u:Value)(s':Shared):Prop :=
 ∃ v H',s'.os=s.os/\AllBare s'.gens/\Un (qE zn) [] H H' s.heap s'.heap/\qI P w H' s'.heap/\RelV v u/\Q v H'
def CR(CX:MW)(zn:List Env)(P:Program)(w:World)(H:Hp)(s:Shared)(Q:VK)(E:XK)(r:Result)(s':Shared):Prop :=
 match r with
 | .ok (.ret u)=>CE zn P w H s Q u s'
 | .ok _=>False
 | .error e=>CX zn H s E e s'
structure bf(P:Program)(w:World)(K:PySem.W.Frag)(mg:Str->Option Value)(zt:Heap)(CX:MW)(k:Nat)(f:Addr)(fd:FuncData)(ps:List Str)(sp:Sp):Prop where
 len:∀ vs H Q E,sp vs H Q E->vs.length=ps.length
 run:∀ (A:Around) (zn:List Env) (s:Shared) (H:Hp) (args:Args) (us:List Value) (vs:List V) (Q:VK) (E:XK),gQ k A->HS P w K mg zt A zn s H->BindsTo s fd args (ps.zip us)->cy vs us->sp vs H Q E->
  codeAny (model P w) A (.call (.ref f) args) (CR CX zn P w H s Q E) s
theorem HS.make{P:Program}{w:World}{K:PySem.W.Frag}{mg:Str->Option Value}{zt:Heap}{A:Around}{zn:List Env}{s:Shared}{H:Hp}(e:HS P w K mg zt A zn s H)(C:Addr)(us:List Value)(kw:List (Str × Value)) :
  HS P w K mg zt (A.under (.builtin "type.__call__" ⟨.ref C::us,kw⟩)) zn s H:=⟨by first|exact e.frames|(simpa [Around.under,Code.envs,Code.isFrame,pushEnvs] using e.frames),e.mod,e.bs,e.Qx,e.sL,e.QU,e.hok,e.bare⟩
section
variable {X:Cx} {ao:List (Addr × Obj)} {σ:St} {H:Hp} {s s':Shared}
theorem Inv.Vw(I:Inv X ao σ H s):HS X.prog X.w X.K X.mg X.zt X.A X.stack s H :=
 ⟨I.ok.frames,I.ok.mod,I.bs,iJ I.ok.Qx I.sz,I.stack,I.vc,I.hok,I.bare⟩
theorem Inv.after{Q:VK}{u:Value}(I:Inv X ao σ H s)(h:CE X.stack X.prog X.w H s Q u s'):EP X ao σ Q u s':=by
 obtain⟨v,H',os,bare,un,hok,r,q⟩:=h;obtain⟨hh,g,d,t,os'⟩:=s';obtain rfl:os'=s.os:=os;exact⟨v,H',I.call (h':=hh) (g':=g) (d':=d) (t':=t) (ch:=[]) un hok bare (λb z=>absurd z (by simp)),r,q⟩
end
def JT(sp:Sp)(zy:List V)(E:XK)(t:TA):TE:=fun σ H Q=>t σ H λvs H1=>sp (vs++zy) H1 Q E
inductive Vx(C:Addr)(m:Str)(x:V)(H:Hp)(N:Prop):Prop
 | mk (a dx:Addr) (fs:List (Str × V)) (_:x=.ref a) (_:H a=some (.ins C dx fs)) (_:fs.lookup m=none) (_:N):Vx C m x H N
def JU(C:Addr)(m:Str)(sp:Sp)(zy:List V)(E:XK)(ta:TE)(t:TA):TE:=fun σ H Q=>ta σ H λx H1=>Vx C m x H1 (t σ H1 λvs H2=>sp (x::(vs++zy)) H2 Q E)
def YT(C:Addr)(sp:Sp)(zy:List V)(E:XK)(t:TA):TE:=fun σ H Q=>t σ H λvs H1=>∀ x dx,H1 x=none->H1 dx=none->dx≠x->
 sp (.ref x::(vs++zy)) (aP (aP H1 dx (.own x)) x (.ins C dx [])) (λv H2=>v=.fH/\Q (.ref x) H2) E
def Binds(K:PySem.W.Frag)(fd:FuncData)(ps:List Str)(ds:List Value):Prop :=
 ∀ (s:Shared) (us:List Value),K.In s.heap->(us++ds).length=ps.length->BindsTo s fd ⟨us,[]⟩ (ps.zip (us++ds))
theorem Binds.all{K:PySem.W.Frag}{ps:List Str}(h:∀ us:List Value,us.length=ps.length->bindArgs fd ⟨us,[]⟩=pure (ps.zip us)):Binds K fd ps []:=λs us _ hl=>by
 rw[gE]at hl ⊢;exact .of_eq (h us hl)
def mq(CX:MW)(X:Cx)(E:XK):Prop:=∀ (ao:List (Addr × Obj)) (σ:St) (H:Hp) (s:Shared) (e:Value) (s':Shared),Inv X ao σ H s->CX X.stack H s E e s'->X.xe e s'
section
variable {X:Cx} {CX:MW} {k:Nat} {f C:Addr} {fd:FuncData} {ps:List Str} {sp:Sp} {zy:List V} {ds:List Value} {E:XK} {x m:Str} {p pos jg:Pos} {e o:Expr} {es:List Expr} {ta:TE} {t:TA}
theorem Dh{σ:St}{H:Hp}{s:Shared}{Q:VK}{us:List Value}{vs:List V}(F:bf X.prog X.w X.K X.mg X.zt CX k f fd ps sp)(hr:gQ k X.A)(hb:Binds X.K fd ps ds)(hd:cy zy ds)(hx:mq CX X E)
  (I:Inv X ao σ H s) (r:cy vs us) (h:sp (vs++zy) H Q E):wpAny (model X.prog X.w) X.A (call (.ref f) us) (EP X ao σ Q) X.xe s:=by
 have r2:cy (vs++zy) (us++ds):=r.append hd;have hl:(us++ds).length=ps.length:=by rw[← r2.length];exact F.len _ _ _ _ h
 refine wpAny_call (codeAny_mono (F.run X.A X.stack s H ⟨us,[]⟩ (us++ds) (vs++zy) Q E hr I.Vw (hb s us I.uZ hl) r2 h) λr s' hq=>?_)
 cases r with
 | error e=>exact hx ao σ H s e s' I hq
 | ok fl =>
  cases fl with
  | ret u=>exact I.after hq
  | next=>exact False.elim hq
  | brk=>exact False.elim hq
  | cont=>exact False.elim hq
theorem JV(F:bf X.prog X.w X.K X.mg X.zt CX k f fd ps sp)(hr:gQ k X.A)(hg:Gl X x)(hm:X.mg x=some (.ref f))(hk:keepIn X.K (.ref f)=true)(hb:Binds X.K fd ps ds)(hd:cy zy ds)(hx:mq CX X E)
  (ha:PA X (e::es) t) (HU:(x == ("__debug__":Str))=false:=by decide) (he:starEach (e::es) X.env=(false,eval e X.env)::starEach es X.env:=by rfl) (yY:(backTo pos (starEach es X.env)).any (·.1)=false:=by rfl) :
  PE X (.Call (.Name x p) (e::es) [] pos) (JT sp zy E t):=by
 intro ao s σ H Q I h;refine wpAny_Call_Name_kw (rO I hg hm ?_ HU);refine callWith_K (h₀:=X.zt) I.ok.mod.XU hk (cX (ha pos ao s σ H _ I h) λus s1 ⟨vs,H1,I1,r,q⟩=>⟨I1.uZ,?_⟩) he yY;exact Dh F hr hb hd hx I1 r q
theorem Nr(F:bf X.prog X.w X.K X.mg X.zt CX k f fd ps sp)(hr:gQ k X.A)(hg:Gl X x)(hm:X.mg x=some (.ref f))(hk:keepIn X.K (.ref f)=true)(hb:Binds X.K fd ps ds)(hd:cy zy ds)(hx:mq CX X E)
  (HU:(x == ("__debug__":Str))=false:=by decide):PE X (.Call (.Name x p) [] [] pos) (JT sp zy E zx):=by
 intro ao s σ H Q I h;refine wpAny_Call_Name_kw (rO I hg hm ?_ HU);exact callWith_K0 I.uZ hk (Dh (us:=[]) F hr hb hd hx I .nil h)
theorem Q5{pl:Sem Bool}(he:PE X o ta)(c:JS X.K C)(hm:HP X.K C m f)(F:bf X.prog X.w X.K X.mg X.zt CX k f fd ps sp)(hr:gQ k X.A)(hb:Binds X.K fd ps ds)(hd:cy zy ds)(hx:mq CX X E)(ha:PA X (e::es) t)
  (ve:starEach (e::es) X.env=(false,eval e X.env)::starEach es X.env:=by rfl) (yY:(backTo pos (starEach es X.env)).any (·.1)=false:=by rfl)
  (ht:eval (.Call (.Attribute o m jg) (e::es) [] pos) X.env=(do
   let ov ← eval o X.env
   standAt jg.atName
   let (f,first) ← holding [ov] (getMethod ov m pl)
   callWith pos f first (backTo pos (starEach (e::es) X.env)) (backToKw pos (keywordEach [] X.env))):=by rfl) :
  PE X (.Call (.Attribute o m jg) (e::es) [] pos) (JU C m sp zy E ta t):=by
 intro ao s σ H Q I h;refine methodCall_KW (pl:=pl) (cX (he ao s σ H _ I h) λu s1 ⟨x,H1,I1,rx,a,dx,fs,ex,ea,l,q⟩=>?_) ht;subst ex;obtain rfl:u=Value.ref a:=rx;refine t6 I1 ea c hm l ?_
 refine callWith_K (first:=[.ref a]) (h₀:=X.zt) I.ok.mod.XU hm.kp (cX (ha pos ao s1 σ H1 _ I1 q) λus s2 ⟨vs,H2,I2,r,q2⟩=>⟨I2.uZ,?_⟩) ve yY
 exact Dh (us:=.ref a::us) (vs:=.ref a::vs) F hr hb hd hx I2 (.cons rfl r) q2
theorem Nt{pl:Sem Bool}(he:PE X o ta)(c:JS X.K C)(hm:HP X.K C m f)(F:bf X.prog X.w X.K X.mg X.zt CX k f fd ps sp)(hr:gQ k X.A)(hb:Binds X.K fd ps ds)(hd:cy zy ds)(hx:mq CX X E)
  (ht:eval (.Call (.Attribute o m jg) [] [] pos) X.env=(do
   let ov ← eval o X.env
   standAt jg.atName
   let (f,first) ← holding [ov] (getMethod ov m pl)
   callWith pos f first (backTo pos (starEach [] X.env)) (backToKw pos (keywordEach [] X.env))):=by rfl) :
  PE X (.Call (.Attribute o m jg) [] [] pos) (JU C m sp zy E ta zx):=by
 intro ao s σ H Q I h;refine methodCall_KW (pl:=pl) (cX (he ao s σ H _ I h) λu s1 ⟨x,H1,I1,rx,a,dx,fs,ex,ea,l,q⟩=>?_) ht;subst ex;obtain rfl:u=Value.ref a:=rx;refine t6 I1 ea c hm l ?_
 exact callWith_K0 (first:=[.ref a]) I1.uZ hm.kp (Dh (us:=[.ref a]) (vs:=[.ref a]) F hr hb hd hx I1 (.cons rfl .nil) q)
structure Mk(K:PySem.W.Frag)(C f:Addr):Prop where
 makes:makesIn K C=true
 init:findIn K (.ref C) "__init__"=some (some (.ref f))
 fn:isFn K (.ref f)=true
 kp:keepIn K (.ref C)=true
theorem Nu{σ:St}{H:Hp}{s:Shared}{Q:VK}{us:List Value}{vs:List V}(M:Mk X.K C f)(F:bf X.prog X.w X.K X.mg X.zt CX k f fd ps sp)(hr:gQ (k+1) X.A)(hb:Binds X.K fd ps ds)(hd:cy zy ds)
  (hx:mq CX X E) (I:Inv X ao σ H s) (r:cy vs us)
  (h:∀ x dx,H x=none->H dx=none->dx≠x->sp (.ref x::(vs++zy)) (aP (aP H dx (.own x)) x (.ins C dx [])) (λv H2=>v=.fH/\Q (.ref x) H2) E) :
  wpAny (model X.prog X.w) X.A (call (.ref C) us) (EP X ao σ Q) X.xe s:=by
 have hq:=h (s.heap.objs.size+1) s.heap.objs.size (I.hok.fresh (Nat.le_succ _)) (I.hok.fresh (gg _)) (kT (Nat.lt_succ_self _));have I2:=Inv.made (C:=C) I;have r2:cy (V.ref (s.heap.objs.size+1)::(vs++zy)) (Value.ref (s.heap.objs.size+1)::(us++ds)):=.cons rfl (r.append hd)
 have hl:(Value.ref (s.heap.objs.size+1)::us++ds).length=ps.length:=by
  have e:=r2.length;rw[F.len _ _ _ _ hq]at e;exact e.symm
 refine wpAny_call (Np (f:=f) I.uZ M.makes M.init (beq_iff_eq.mp M.fn) (codeAny_mono (F.run _ X.stack _ _ ⟨Value.ref (s.heap.objs.size+1)::us,[]⟩ (Value.ref (s.heap.objs.size+1)::(us++ds)) _ _ E (hr.make C us []) (I2.Vw.make C us []) (hb _ (Value.ref (s.heap.objs.size+1)::us) I2.uZ hl) r2 hq) λr s' Vy=>?_))
 cases r with
 | error e=>exact hx ao σ _ _ e s' I2 Vy
 | ok fl =>
  cases fl with
  | ret u =>
   obtain⟨v,H',I3,rv,ev,q3⟩:=I2.after Vy;subst ev;exact⟨rv,⟨V.ref (s.heap.objs.size+1),H',I3,rfl,q3⟩⟩
  | next=>exact False.elim Vy
  | brk=>exact False.elim Vy
  | cont=>exact False.elim Vy
theorem oM(M:Mk X.K C f)(F:bf X.prog X.w X.K X.mg X.zt CX k f fd ps sp)(hr:gQ (k+1) X.A)(hg:Gl X x)(hm:X.mg x=some (.ref C))(hb:Binds X.K fd ps ds)(hd:cy zy ds)(hx:mq CX X E)
  (HU:(x == ("__debug__":Str))=false:=by decide):PE X (.Call (.Name x p) [] [] pos) (YT C sp zy E zx):=by
 intro ao s σ H Q I h;refine wpAny_Call_Name_kw (rO I hg hm ?_ HU);exact callWith_K0 I.uZ M.kp (Nu (us:=[]) M F hr hb hd hx I .nil h)
end
structure aH(N P:List Str)(sc:Scope):Prop where
 kind:sc.kind=.function
 co:sc.isCoroutine=false
 gen:sc.isGenerator=false
 nd:N.Nodup
 pre:N.take P.length=P
 par:∀ x∈P,sc.names.lookup x=some .local\/sc.names.lookup x=some .cell
 Vz:∀ y∈sc.names,y.2≠.free
theorem BY{kindOf:Str->Option NameKind}{x:Str}:∀ {binds:List (Str × Value)} {m:Str->Option Value},(∀ v,(x,v)∉binds)->bindL kindOf binds m x=m x
 | [],_,_=>rfl
 | (n,v)::r,m,h=>by
  unfold bindL;rw[BY λw hw=>h w (nu _ hw)];split
  ·have:x≠n:=by rintro rfl;exact h v tU
   simp[this]
  ·rfl
theorem BZ{kindOf:Str->Option NameKind}{x:Str}:∀ {binds:List (Str × Value)} {m:Str->Option Value},(∀ v,(x,v)∉binds)->bindC kindOf binds m x=m x
 | [],_,_=>rfl
 | (n,v)::r,m,h=>by
  unfold bindC;rw[BZ λw hw=>h w (nu _ hw)];split
  ·rfl
  ·have:x≠n:=by rintro rfl;exact h v tU
   simp[this]
theorem B0{kindOf:Str->Option NameKind}{x:Str}{v:Value}:∀ {P:List Str} {vs:List Value} {i:Nat} {m:Str->Option Value},P.Nodup->P[i]?=some x->vs[i]?=some v->kindOf x=some .local->
  bindL kindOf (P.zip vs) m x=some v
 | [],_,_,_,_,h,_,_=>by simp at h
 | _::_,[],_,_,_,_,h,_=>by simp at h
 | p::P,w::vs,0,m,nd,h1,h2,hk=>by
  simp at h1 h2;subst h1;subst h2;show bindL kindOf ((p,w)::P.zip vs) m p=_;unfold bindL;rw[BY λv hv=>(List.nodup_cons.mp nd).1 (List.of_mem_zip hv).1,if_pos hk];simp
 | p::P,w::vs,i+1,m,nd,h1,h2,hk=>by
  show bindL kindOf ((p,w)::P.zip vs) m x=_;unfold bindL;exact B0 (i:=i) (List.nodup_cons.mp nd).2 (by simpa using h1) (by simpa using h2) hk
theorem B3{kindOf:Str->Option NameKind}{x:Str}{v:Value}:∀ {P:List Str} {vs:List Value} {i:Nat} {m:Str->Option Value},P.Nodup->P[i]?=some x->vs[i]?=some v->kindOf x≠some .local->
  bindC kindOf (P.zip vs) m x=some v
 | [],_,_,_,_,h,_,_=>by simp at h
 | _::_,[],_,_,_,_,h,_=>by simp at h
 | p::P,w::vs,0,m,nd,h1,h2,hk=>by
  simp at h1 h2;subst h1;subst h2;show bindC kindOf ((p,w)::P.zip vs) m p=_;unfold bindC;rw[BZ λv hv=>(List.nodup_cons.mp nd).1 (List.of_mem_zip hv).1,if_neg hk];simp
 | p::P,w::vs,i+1,m,nd,h1,h2,hk=>by
  show bindC kindOf ((p,w)::P.zip vs) m x=_;unfold bindC;exact B3 (i:=i) (List.nodup_cons.mp nd).2 (by simpa using h1) (by simpa using h2) hk
def start(N:List Str)(vs:List V):St:=vs.map some++List.replicate (N.length-vs.length) none
def E4(CX:MW)(P:Program)(w:World)(K:PySem.W.Frag)(mg:Str->Option Value)(zt:Heap)(N:List Str)(dc:Str)(scope:Scope)(f:Addr)(cd:Value)(A:Around)(zn:List Env)(s:Shared)(H:Hp)(E:XK):Cx where
 prog:=P
 w:=w
 K:=K
 mg:=mg
 zt:=zt
 A:=A.deeper (envOfC dc scope s.heap.objs.size f cd)
 N:=N
 s₀:=s
 H₀:=H
 env:=envOfC dc scope s.heap.objs.size f cd
 zn:=zn
 stack:=envOfC dc scope s.heap.objs.size f cd::zn
 ex:=[]
 calm:=true
 fn:=λ_=>true
 pn:=[]
 xe:=λe s'=>wpAny (model P w) (A.deeper (envOfC dc scope s.heap.objs.size f cd)) (leaving (envOfC dc scope s.heap.objs.size f cd) e) (λ_ s''=>CX zn H s E e s'') (λe' s''=>CX zn H s E e' s'') s'
theorem E5{sc:Scope}{n:Nat}{x:Str}(h:sc.names.lookup x=some .cell):∃ c,(cellsFrom n sc.names []).lookup x=some c:=by
 have q:=cellsFrom_some sc.names n [] (.inl h);exact Option.isSome_iff_exists.mp q
theorem Lq{CX:MW}{P:Program}{w:World}{K:PySem.W.Frag}{mg:Str->Option Value}{zt:Heap}{N ps:List Str}{dc:Str}{scope:Scope}{f:Addr}{cd:Value}{A:Around}{zn:List Env}{s s1:Shared}{H:Hp}{E:XK}{us:List Value}{vs:List V}
  (S:aH N ps scope) (hd:A.handled=none) (e0:HS P w K mg zt A zn s H) (hl:vs.length=ps.length) (r:cy vs us)
  (x:InCallC s s.heap.objs.size (bindL (envOfC dc scope s.heap.objs.size f cd).kindOf (ps.zip us) λ_=>none) (cellsFrom (s.heap.objs.size+1) scope.names []) (bindC (envOfC dc scope s.heap.objs.size f cd).kindOf (ps.zip us) λ_=>none) s1) :
  Inv (E4 CX P w K mg zt N dc scope f cd A zn s H E) [] (start N vs) H s1:=by
 have yY:ps.length<=N.length:=by have:=congrArg List.length S.pre;rw[gy]at this;lia
 obtain⟨h1,tk,rfl,hk⟩:=x.done;have YU:∀ b:Addr,b∉(E4 CX P w K mg zt N dc scope f cd A zn s H E).ex:=λb z=>absurd (show b∈([]:List Addr) from z) (by simp)
 exists ⟨e0.mod,S.kind,V,gg _,λy z c h1 h2=>?_,λy hy=>?_,λy c _ h=>?_,λ_=>hd,Around.frames_deeper e0.frames,.inr ⟨V⟩,λb z=>absurd z (YU b),e0.bs,e0.Qx,λb _ _=>YU b,λb z=>absurd z (YU b),e0.sL,e0.QU⟩,
  rfl,e0.bare,Un.kept hk,⟨_,x.toInCall.ns,λi y v h1 h2 h3=>?_⟩,λy c h=>⟨_,x.cell y c h⟩,e0.hok.fresh (gg _),λy c h=>?_,λp hp=>absurd (show p∈([]:List (Addr × Obj)) from hp) (by simp),e0.hok.kept hk
 ·exact name_of_addr x.apart (PySem.mem_of_lookup h1) (PySem.mem_of_lookup h2)
 ·have hy:scope.names.lookup y=some .cell\/scope.names.lookup y=some .free:=hy;rcases hy with hy|hy
  ·exact E5 hy
  ·exact absurd rfl (S.Vz _ (PySem.mem_of_lookup hy))
 ·exact gM (x.above y c (PySem.mem_of_lookup h))
 ·have hi:i<vs.length:=by
   unfold start at h2;by_cases hi:i<vs.length
   ·exact hi
   ·rw[List.getElem?_append_right (by simpa using hi)]at h2;rw[List.getElem?_replicate]at h2
    split at h2 <;> cases h2
  have ha:vs[i]?=some v:=by
   unfold start at h2;rw[List.getElem?_append_left (by simpa using hi),nG]at h2
   cases e:vs[i]? with
   | none=>rw[e]at h2;cases h2
   | some a=>rw[e]at h2;cases h2;rfl
  obtain⟨u,hu,rv⟩:=r.get ha
  have hp:ps[i]?=some y:=by
   rw[← S.pre,List.getElem?_take_of_lt ∅];exact h1
  have ndP:ps.Nodup:=by rw[← S.pre];exact S.nd.sublist (List.take_sublist _ _)
  exists u,rv;rcases S.par y (nF hp) with k|k
  ·exact .inl ⟨k,B0 ndP hp hu k⟩
  ·obtain⟨c,e⟩:=E5 (n:=s.heap.objs.size+1) k;refine .inr ⟨.inl k,c,e,?_⟩;have q:=x.cell y c e;rw[B3 ndP hp hu (by show scope.names.lookup y≠_;rw[k];decide)]at q;exact q
 ·exact e0.hok.fresh (gM (x.above y c (PySem.mem_of_lookup h)))
 ·unfold start;show _=N.length;rw[dz,cD,yx];lia
theorem Uk{CX:MW}{P:Program}{w:World}{K:PySem.W.Frag}{mg:Str->Option Value}{zt:Heap}{k:Nat}{f:Addr}{name dc:Str}{params:Arguments}{scope:Scope}{dV kV wJ pm cN ct oc:Value}{an od:Option Addr}
  {Lr:Array (Option Value)} {N ps:List Str} {sp:Sp} (lk:K.lookup f=some ⟨oc,od,.func (fnOf name dc params body scope dV kV wJ pm an cN ct),Lr⟩) (Lg:codeIn K cN dc=true) (S:aH N ps scope)
  (len:∀ vs H Q E,sp vs H Q E->vs.length=ps.length)
  (vg:∀ (A:Around) (zn:List Env) (s:Shared) (H:Hp) (vs:List V) (Q:VK) (E:XK),gQ k (A.deeper (envOfC dc scope s.heap.objs.size f cN))->sp vs H Q E->
   ∃ t,EI (E4 CX P w K mg zt N dc scope f cN A zn s H E) body t/\t { nx:=λ_ H'=>Q .fH H',rt:=Q } (start N vs) H) :
  bf P w K mg zt CX (k+1) f (fnOf name dc params body scope dV kV wJ pm an cN ct) ps sp:=by
 refine⟨len,λA zn s H args us vs Q E hr e0 hb r HV=>?_⟩;have hl:=len _ _ _ _ HV;have KX:K.In s.heap:=e0.mod.XU.keeps λb o e=>(e0.bs b o e).1;have lim:s.heap.NoLimit:=e0.mod.nolimit.keeps λb o e=>(e0.bs b o e).1
 have hkind:∀ y∈ps.zip us,scope.names.lookup y.1=some .local\/(scope.names.lookup y.1=some .cell/\((cellsFrom (s.heap.objs.size+1) scope.names []).lookup y.1).isSome=true):=λ⟨n,v⟩ hy=>by
  rcases S.par n (List.of_mem_zip hy).1 with q|q
  ·exact .inl q
  ·exact .inr ⟨q,cellsFrom_some _ _ _ (.inl q)⟩
 refine codeAny_call_function hr.depth (KX _ _ lk) rfl S.co S.gen rfl (PySem.W.codeRec_of KX Lg) (hb _ _ _ _ ?_);refine wpAny_newFunctionEnv_cells S.kind hkind λenv he s1 x=>?_;subst he;refine⟨lim.keeps x.toInCall.keep,codeAny_func ?_⟩;obtain⟨t,ht,hq⟩:=vg A zn s H vs Q E (hr.deeper _) HV;have I:Inv (E4 CX P w K mg zt N dc scope f cN A zn s H E) [] (start N vs) H s1:=Lq S hr.hd e0 hl r x;refine wpAny_mono (ht [] s1 (start N vs) H _ I hq) (λfl s' hs=>?_) λe s' hs=>hs;have kO:∀ {σ':St} {H':Hp} {v:V} {u:Value},Inv (E4 CX P w K mg zt N dc scope f cN A zn s H E) [] σ' H' s'->RelV v u->Q v H'->CE zn P w H s Q u s' := λ{σ' H' v u} J rv q=>⟨v,H',J.os,J.bare,J.zt,J.hok,rv,q⟩
 cases fl with
 | ret u =>
  obtain⟨v,σ',H',J,rv,q⟩:=hs;exact kO J rv q
 | next =>
  obtain⟨σ',H',J,q⟩:=hs;exact kO (v:=V.fH) (u:=Value.none) J rfl q
 | brk =>
  obtain⟨_,_,_,q⟩:=hs;exact False.elim q
 | cont =>
  obtain⟨_,_,_,q⟩:=hs;exact False.elim q
end L2
namespace L2
open Spec Rows
section
variable {X:Cx} {x:Str} {p pos:Pos} {e:Expr} {es:List Expr} {t:TA} {id T:String} {r:List V->Hp->VK->Prop}
def tCB(r:List V->Hp->VK->Prop)(t:TA):TE:=fun σ H Q=>t σ H λvs H1=>r vs H1 Q
theorem cC(hc:kq X (.builtin id) r)(hg:Gl X x)(hm:X.mg x=none)(hv:bootBuiltins x=some (.builtin id))(ha:PA X (e::es) t)(hn:x≠"__name__":=by decide)(HU:(x == ("__debug__":Str))=false:=by decide)
  (he:starEach (e::es) X.env=(false,eval e X.env)::starEach es X.env:=by rfl) (yY:(backTo pos (starEach es X.env)).any (·.1)=false:=by rfl):PE X (.Call (.Name x p) (e::es) [] pos) (tCB r t):=by
 intro ao s σ H Q I h;refine wpAny_Call_Name_kw (wB I hg hm hv ?_ hn HU);exact PyProof.Rows.callWith_builtin1 (cX (ha pos ao s σ H _ I h) λus s1 ⟨vs,H1,I1,r1,q1⟩=>hc ao s1 σ H1 vs us Q I1 r1 q1) he yY
theorem eN(hc:kq X (.type T) r)(hg:Gl X x)(hm:X.mg x=none)(hv:bootBuiltins x=some (.type T))(ha:PA X (e::es) t)(hn:x≠"__name__":=by decide)(HU:(x == ("__debug__":Str))=false:=by decide)
  (he:starEach (e::es) X.env=(false,eval e X.env)::starEach es X.env:=by rfl) (yY:(backTo pos (starEach es X.env)).any (·.1)=false:=by rfl):PE X (.Call (.Name x p) (e::es) [] pos) (tCB r t):=by
 intro ao s σ H Q I h;refine wpAny_Call_Name_kw (wB I hg hm hv ?_ hn HU);exact PyProof.Rows.callWith_type1 (cX (ha pos ao s σ H _ I h) λus s1 ⟨vs,H1,I1,r1,q1⟩=>hc ao s1 σ H1 vs us Q I1 r1 q1) he yY
end
end L2
namespace HT
open Rows
section
variable {prog:Program} {w:World} {A:Around} {E:Value->Shared->Prop} {s:Shared}
def iZ(n d:Nat):Option Int->Nat
 | none=>d
 | some v=>if v<0 then (v+(n:Int)).toNat else min v.toNat n
theorem JW(n d k:Nat):iZ n d (some (k:Int))=min k n:=by
 show (if (k:Int)<0 then ((k:Int)+(n:Int)).toNat else min (k:Int).toNat n)=min k n;rw[if_neg ∅,Int.toNat_natCast]
theorem VA(n d:Nat)(hd:d<=n)(o:Option Int):iZ n d o<=n:=by
 cases o with
 | none=>exact hd
 | some v =>
  show (if v<0 then (v+(n:Int)).toNat else min v.toNat n)<=n;by_cases hv:v<0
  ·rw[if_pos hv];lia
  ·rw[if_neg hv];exact Nat.min_le_right _ _
theorem JX(v:Int)(n d:Nat):(if v<0 then max (v+(n:Int)) 0 else min v (n:Int))=((iZ n d (some v):Nat):Int):=by
 show (if v<0 then max (v+(n:Int)) 0 else min v (n:Int))=(((if v<0 then (v+(n:Int)).toNat else min v.toNat n):Nat):Int);by_cases hv:v<0
 ·simp only[if_pos hv];lia
 ·simp only[if_neg hv];lia
theorem HW(lo hi:Option Int)(n:Nat):Builtin.Slice.sliceAdjust lo hi 1 (n:Int)=(((iZ n 0 lo:Nat):Int),((iZ n n hi:Nat):Int)):=by
 have h1:¬ ((1:Int)<0):=by lia
 unfold Builtin.Slice.sliceAdjust;simp only[h1,if_false];refine Prod.ext ?_ ?_
 ·cases lo with
  | none=>rfl
  | some v=>exact JX v n 0
 ·cases hi with
  | none=>rfl
  | some v=>exact JX v n n
theorem HX(i j:Nat):Builtin.Slice.slicePlaces (i:Int) (j:Int) 1=j-i:=by
 unfold Builtin.Slice.slicePlaces;have h1:(1:Int) > 0:=by lia
 simp only[h1,if_true,Int.ediv_one]
 split <;> lia
theorem zz{v:Value}{o:Option Int}{Q:Option Int->Shared->Prop}(p:IsPart v o)(h:Q o s):wpAny (model prog w) A (Builtin.Slice.slicePartIndex v) Q E s:=by
 cases p with
 | none=>exact slicePart_none h
 | int i t=>exact slicePart_int h
theorem wK{sl:Addr}{vl vu:Value}{lo hi:Option Int}{n:Nat}{Q:Int × Int × Nat->Shared->Prop}(hs:s.heap.IsSliceOf sl vl vu .none)(pl:IsPart vl lo)(pu:IsPart vu hi)
  (h:Q (((iZ n 0 lo:Nat):Int),1,iZ n n hi-iZ n 0 lo) s):wpAny (model prog w) A (Builtin.Slice.sliceApplied (.ref sl) (pure (n:Int))) Q E s:=by
 obtain⟨os,hos,Q6,JY⟩:=id hs;unfold Builtin.Slice.sliceApplied Builtin.Slice.sliceFields;refine wpAny_bind (wpAny_bind (wpAny_field hos JY (x:=vl) rfl (wpAny_bind (wpAny_field hos JY (x:=vu) rfl (wpAny_bind (wpAny_field hos JY (x:=.none) rfl (wpAny_pure ?_)))))));refine wpAny_bind (slicePart_none ?_);show wpAny _ _ (if ((1:Int) == 0)=true then _ else _) _ _ s;rw[if_neg (by decide)];refine wpAny_bind (zz pl (wpAny_bind (zz pu (wpAny_bind (wpAny_pure ?_)))));show wpAny _ _ (match Builtin.Slice.sliceAdjust lo hi 1 (n:Int) with|(lo,hi)=>pure (lo,(1:Int),Builtin.Slice.slicePlaces lo hi 1)) _ _ s;rw[HW lo hi n];show wpAny _ _ (pure (((iZ n 0 lo:Nat):Int),(1:Int),Builtin.Slice.slicePlaces ((iZ n 0 lo:Nat):Int) ((iZ n n hi:Nat):Int) 1)) _ _ s;rw[HX];exact wpAny_pure h
theorem Nv(xs:Array Value)(i k:Nat):((List.range k).filterMap λ(m:Nat)=>xs[((i:Int)+(m:Int)*1).toNat]?).toArray=((xs.toList.drop i).take k).toArray:=by
 have e:(λ(m:Nat)=>xs[((i:Int)+(m:Int)*1).toNat]?)=λm=>xs[i+m]?:=by
  funext m;have:((i:Int)+(m:Int)*1).toNat=i+m:=by lia
  rw[this]
 rw[e];have:=pick_run xs i k;rw[List.filterMap_map]at this;have e2:((λx=>xs[x]?) ∘ λx=>i+x)=λm=>xs[i+m]?:=rfl;rw[e2]at this;rw[this]
theorem vh{t sl:Addr}{items:Array Value}{vl vu:Value}{lo hi:Option Int}{Q:Value->Shared->Prop}(ht:IsTup s.heap t items)(hs:s.heap.IsSliceOf sl vl vu .none)(pl:IsPart vl lo)(pu:IsPart vu hi)
  (hw:¬ (iZ items.size 0 lo=0/\iZ items.size items.size hi=items.size))
  (h:Q (.ref s.heap.objs.size) { s with heap:=s.heap.push { cls:=.type "tuple",data:=.seq ((items.toList.drop (iZ items.size 0 lo)).take (iZ items.size items.size hi-iZ items.size 0 lo)).toArray } })
  (hsz:items.size<=sizeLine):wpAny (model prog w) A (getItem (.ref t) (.ref sl)) Q E s:=by
 have JZ:sizeOk (.seq ((items.toList.drop (iZ items.size 0 lo)).take (iZ items.size items.size hi-iZ items.size 0 lo)).toArray):=by
  show ((items.toList.drop (iZ items.size 0 lo)).take (iZ items.size items.size hi-iZ items.size 0 lo)).toArray.size<=sizeLine;rw[gJ,gy,sH,Array.length_toList];lia
 have hj:iZ items.size items.size hi<=items.size:=VA _ _ (gg _) hi;obtain⟨os,hos,Q6,JY⟩:=id hs;have hTs:s.TypeIs (.ref sl) "slice":=⟨os,hos,Q6⟩;unfold getItem
 try with_reducible refine wpAny_holding ?_
 first|refine wpAny_bind (wpAny_pure ?_)|skip
 refine wpAny_bind (wpAny_sequenceKey ht.typeIs (by decide) ?_);refine wpAny_bind (wpAny_callSpecial?_slot (name:=Str.ofString "__getitem__") ht.typeIs PyProof.Rows.slot_tuple_getitem (wpAny_call_entry PyProof.Rows.slot_tuple_getitem ht.typeIs entry_tuple_getitem ?_ (args_tuple_getitem _ _)));show wpAny _ _ (Builtin.Tuple.tupleItemsOf (.ref t) >>= _) _ _ s;refine wpAny_bind (tupleItemsOf_ ht ?_);refine wpAny_bind (wpAny_typeOf hTs ?_);rw[if_pos (by decide)];refine wpAny_bind (wK hs pl pu ?_)
 have Ul:¬ ((((iZ items.size 0 lo:Nat):Int) == 0&&(1:Int) == 1&&(iZ items.size items.size hi-iZ items.size 0 lo) == items.size)=true):=by
  intro q;rw[Bool.and_eq_true,Bool.and_eq_true]at q;have q1:((iZ items.size 0 lo:Nat):Int)=0:=eq_of_beq q.1.1;have q2:iZ items.size items.size hi-iZ items.size 0 lo=items.size:=eq_of_beq q.2;exact hw ⟨Q,Q⟩
 show wpAny _ _ (if (((iZ items.size 0 lo:Nat):Int) == 0&&(1:Int) == 1&&(iZ items.size items.size hi-iZ items.size 0 lo) == items.size)=true then _ else _) _ _ s;rw[if_neg Ul,Nv]
 first
  | exact wpAny_bind (m:=Builtin.Tuple.tupleExact _) (wpAny_newObj_type (wpAny_pure ⟨Y,wpAny_pure h⟩) JZ)
  | exact wpAny_bind (m:=Builtin.Tuple.tupleExact _) (wpAny_newObj_type (wpAny_bind (wpAny_pure (wpAny_pure ⟨Y,wpAny_pure h⟩))) JZ)
  | exact wpAny_bind (wpAny_bind (m:=Builtin.Tuple.tupleExact _) (wpAny_newObj_type (wpAny_pure (wpAny_pure ⟨Y,wpAny_pure h⟩)) JZ))
  | exact wpAny_bind (wpAny_bind (m:=Builtin.Tuple.tupleExact _) (wpAny_newObj_type (wpAny_pure ⟨Y,wpAny_pure h⟩) JZ))
end
end HT
namespace L2
open Spec Rows
abbrev TO:=St->Hp->(Option Int->Hp->Prop)->Prop
def PO(X:Cx)(e:Option Expr)(t:TO):Prop :=
 ∀ (ao:List (Addr × Obj)) (s:Shared) (σ:St) (H:Hp) (Q:Option Int->Hp->Prop),Inv X ao σ H s->t σ H Q->
  wpAny (model X.prog X.w) X.A (evalPart e X.env) (λu s'=>∃ o H',Inv X ao σ H' s'/\IsPart u o/\Q o H') X.xe s
def Q7:TO:=λ_ H Q=>Q none H
def YV(t:TE):TO:=fun σ H Q=>t σ H λx H1=>isI x H1 Q
theorem intsAre_of{ns:List Int}:∀ {us:List Value},cy (ns.map V.int) us->IntsAre us ns:=by
 induction ns with
 | nil=>intro us r;rw[List.map_nil]at r;cases r;exact .nil
 | cons n ns ih =>
  intro us r;rw[jy]at r
  cases r with
  | cons r1 r2 =>
   obtain⟨t,e⟩:=r1;subst e;exact .cons n t (ih r2)
section
variable {X:Cx} {e:Expr} {te:TE} {lo hi:Option Expr} {tl th:TO} {pos p2:Pos}
theorem nJ:PO X none Q7:=by
 intro ao s σ H Q I h;rw[evalPart_none];exact wpAny_pure ⟨none,H,I,.none,h⟩
theorem ja(h:PE X e te):PO X (some e) (YV te):=by
 intro ao s σ H Q I hw;rw[evalPart_some];refine cX (h ao s σ H _ I hw) λu s1 HG=>?_;obtain⟨x,H1,I1,r1,q1⟩:=HG;obtain⟨i,rfl,q⟩:=q1;obtain⟨t,rfl⟩:=r1;exact⟨some i,H1,I1,.int i t,q⟩
def SlR(X:Cx)(r:V->Option Int->Option Int->Hp->VK->Prop):Prop :=
 ∀ (ao:List (Addr × Obj)) (s:Shared) (σ:St) (H:Hp) (x:V) (v vl vu:Value) (lo hi:Option Int) (sl:Addr) (Q:VK),Inv X ao σ H s->RelV x v->s.heap.IsSliceOf sl vl vu .none->IsPart vl lo->IsPart vu hi->r x lo hi H Q->
  ∃ T id,typeLookup (.type T) "__getitem__"=pure (some (.builtin id))/\s.TypeIs v T/\wpAny (model X.prog X.w) X.A (getItem v (.ref sl)) (EP X ao σ Q) X.xe s
def tSl(r:V->Option Int->Option Int->Hp->VK->Prop)(te:TE)(tl th:TO):TE:=fun σ H Q=>te σ H λx H1=>tl σ H1 λl H2=>th σ H2 λu H3=>r x l u H3 Q
theorem iT{r:V->Option Int->Option Int->Hp->VK->Prop}(hr:SlR X r)(he:PE X e te)(hl:PO X lo tl)(hu:PO X hi th):PE X (.Subscript e (.Slice lo hi none p2) pos) (tSl r te tl th):=by
 intro ao s σ H Q I h;refine Subscript_ (cX (he ao s σ H _ I h) λv s1 Bb=>?_);obtain⟨x,H1,I1,r1,q1⟩:=Bb;refine wpAny_Slice (cX (hl ao s1 σ H1 _ I1 q1) λvl s2 ⟨l,H2,I2,pl,q2⟩=>cX (hu ao s2 σ H2 _ I2 q2) λvu s3 EW=>?_);obtain⟨u,H3,I3,pu,q3⟩:=EW;rw[evalPart_none];refine wpAny_pure ?_;have I4:Inv X ao σ H3 { s3 with heap:=s3.heap.push { cls:=.type "slice",data:=.fields #[vl,vu,.none] } }:=I3.kept (t':=s3.toks) λb ob q=>Heap.get?_push_of_some _ q;obtain⟨T,id,hT,ht,hg⟩:=hr ao { s3 with heap:=s3.heap.push { cls:=.type "slice",data:=.fields #[vl,vu,.none] } } σ H3 x v vl vu l u s3.heap.objs.size Q I4 r1 (Heap.IsSliceOf.new ..) pl pu q3;show wpAny (model X.prog X.w) X.A (subscriptTail e (.Slice lo hi none p2) v (.ref s3.heap.objs.size)) (EP X ao σ Q) X.xe { s3 with heap:=s3.heap.push { cls:=.type "slice",data:=.fields #[vl,vu,.none] } };exact tail_any (ops:=[.ref s3.heap.objs.size,v]) ht hT hg (by with_unfolding_all rfl)
def kB(xs:List V)(lo hi:Option Int):List V:=(xs.drop (HT.iZ xs.length 0 lo)).take (HT.iZ xs.length xs.length hi-HT.iZ xs.length 0 lo)
theorem xW(xs:List V)(lo hi:Option Int):(kB xs lo hi).length<=xs.length:=by
 unfold kB;rw[gy,sH];lia
def ac5(K:PySem.W.Frag):V->Option Int->Option Int->Hp->VK->Prop:=λx lo hi H Q=>∃ a xs,x=.ref a/\dG K H a xs/\
 ¬ (HT.iZ xs.length 0 lo=0/\HT.iZ xs.length xs.length hi=xs.length)/\∀ p,H p=none->Q (.ref p) (aP H p (.tup (kB xs lo hi)))
theorem VB:SlR X (ac5 X.K):=by
 intro ao s σ H x v vl vu lo hi sl Q I rx hs pl pu h;obtain⟨a,xs,rfl,hx,hw,q⟩:=h;cases rx;obtain⟨aO,r,ht,hz⟩:=I.tuple hx;have dN:aO.toArray.size=xs.length:=by rw[gJ];exact r.length.symm
 exists "tuple",_,PyProof.Rows.slot_tuple_getitem.lookup,ht.typeIs;refine HT.vh ht hs pl pu (by rw[dN];exact hw) ?_ (by rw[dN];exact hz);rw[dN];refine⟨.ref s.heap.objs.size,_,I.laid (t':=s.toks) (o:=.tup (kB xs lo hi)) (λb ob q=>Heap.get?_push_of_some _ q) (gg _) ?_,rfl,q _ (I.hok.fresh (gg _))⟩;exact⟨Nat.le_trans (xW xs lo hi) hz,_,(r.drop (HT.iZ xs.length 0 lo)).take (HT.iZ xs.length xs.length hi-HT.iZ xs.length 0 lo),IsTup.new _ _⟩
end
end L2
namespace L2
open Spec Rows
def J1(n:Nat)(i:Int):Option Nat:=if 0<=i then (if i<n then some i.toNat else none) else if -(n:Int)<=i then some (i+n).toNat else none
def qx{α:Type}(xs:List α)(i:Int):Option α:=(J1 xs.length i).bind λj=>xs[j]?
theorem J2{n:Nat}{i:Int}{j:Nat}(h:J1 n i=some j):seqIndex? i n=some j/\j<n/\-(n:Int)<=i/\i<n:=by
 unfold J1 at h;by_cases h0:0<=i
 ·rw[if_pos h0]at h;by_cases h1:i<n
  ·rw[if_pos h1]at h;have e:i.toNat=j:=qH h;exact⟨by rw[seqIndex_of h0 h1,e],Q,Q,h1⟩
  ·rw[if_neg h1]at h;cases h
 ·rw[if_neg h0]at h;by_cases h1:-(n:Int)<=i
  ·rw[if_pos h1]at h;have e:(i+n).toNat=j:=qH h;exact⟨by rw[seqIndex_neg ∅ h1,e],Q,h1,Q⟩
  ·rw[if_neg h1]at h;cases h
theorem Di{α:Type}{xs:List α}{i:Int}{v:α}(h:qx xs i=some v):∃ j,seqIndex? i xs.length=some j/\xs[j]?=some v/\j<xs.length/\-(xs.length:Int)<=i/\i<xs.length:=by
 unfold qx at h
 cases e:J1 xs.length i with
 | none=>rw[e]at h;cases h
 | some j =>
  rw[e]at h;obtain⟨h1,h2,h3,h4⟩:=J2 e;exact⟨j,h1,h,h2,h3,h4⟩
theorem cQ{α:Type}{xs:List α}{j:Nat}{v:α}(h:xs[j]?=some v):qx xs (j:Int)=some v:=by
 have hj:j<xs.length:=(List.getElem?_eq_some_iff.mp h).1
 have e:J1 xs.length (j:Int)=some j:=by
  unfold J1;rw[if_pos ∅,if_pos ∅];simp
 unfold qx;rw[e];exact h
theorem Ny{α:Type}(xs:List α)(v:α):qx (xs++[v]) (-1)=some v:=by
 have hl:(xs++[v]).length=xs.length+1:=by simp
 have e:J1 (xs++[v]).length (-1)=some xs.length:=by
  unfold J1;rw[hl,if_neg (by decide),if_pos ∅];congr 1;lia
 unfold qx;rw[e];show (xs++[v])[xs.length]?=some v;simp
def J3(b:Expr):Prop:=∀ o i,subscripted b false o i=operate [o,i] (getItem o i)
def XX(X:Cx)(r:R2):Prop :=
 ∀ (value sW:Expr) (ao:List (Addr × Obj)) (s:Shared) (σ:St) (H:Hp) (x y:V) (v u:Value) (Q:VK),Inv X ao σ H s->RelV x v->RelV y u->r x y H Q->
  subscripted sW false v u=operate [v,u] (getItem v u)->wpAny (model X.prog X.w) X.A (subscriptTail value sW v u) (EP X ao σ Q) X.xe s
def MtR(X:Cx)(id:String)(r:V->List V->Hp->VK->Prop):Prop :=
 ∀ (ao:List (Addr × Obj)) (s:Shared) (σ:St) (H:Hp) (x:V) (xs:List V) (v:Value) (us:List Value) (Q:VK),Inv X ao σ H s->RelV x v->cy xs us->r x xs H Q->
  wpAny (model X.prog X.w) X.A (call (.builtin id) (v::us)) (EP X ao σ Q) X.xe s
section
variable {X:Cx} {a b:Expr} {ta tb:TE} {pos:Pos}
theorem YW{r:R2}(hr:XX X r)(ha:PE X a ta)(hb:PE X b tb)(hs:J3 b):PE X (.Subscript a b pos) (YK r ta tb):=by
 intro ao s σ H Q I h;exact Subscript_ (Vs ha hb I h λv u s2 x y H2 I2 rx ry q=>hr a b ao s2 σ H2 x y v u Q I2 rx ry q (hs _ _))
inductive ac6(K:PySem.W.Frag)(x y:V)(H:Hp)(Q:VK):Prop
 | mk (p:Addr) (xs:List V) (i:Int) (v:V) (_:x=.ref p) (_:y=.int i) (_:bL K H p xs) (_:qx xs i=some v) (_:Q v H)
inductive YX(K:PySem.W.Frag)(x y:V)(H:Hp)(Q:VK):Prop
 | mk (p:Addr) (xs:List V) (i:Int) (v:V) (_:x=.ref p) (_:y=.int i) (_:dG K H p xs) (_:qx xs i=some v) (_:Q v H)
def ac7:R2:=λx y H Q=>∃ z i c,x=.str z/\y=.int i/\z.length<=sizeLine/\qx z.cps.toList i=some c/\Q (.str ⟨#[c]⟩) H
theorem bH:XX X (ac6 X.K):=by
 intro value sW ao s σ H x y v u Q I rx ry h hs;obtain⟨p,xs,i,z,rfl,rfl,hq,he,q⟩:=h;cases rx;obtain⟨t,rfl⟩:=ry;obtain⟨aO,r,pl,hz⟩:=I.list hq;obtain⟨j,h1,h2,h3,h4,h5⟩:=Di he;obtain⟨w,ew,jw⟩:=r.get h2;have hl:=r.length;have hn:=tZ;have kO:EP X ao σ Q w s:=⟨z,H,I,jw,q⟩;by_cases h0:0<=i
 ·have hj:i.toNat=j:=by
   rw[seqIndex_of h0 h5]at h1;exact qH h1
  exact item_listR pl.isList h0 ∅ (by rw[hj];simpa using ew) kO hs
 ·have hj:(i+(aO.toArray.size:Int)).toNat=j:=by
   rw[seqIndex_neg ∅ h4]at h1;rw[gJ,← hl];exact qH h1
  exact subscriptTail_builtinR (x:=w) pl.isList.typeIs slot_list_getitem.lookup
   (wpAny_getItem_list_neg (Q:=λr s'=>r=w/\EP X ao σ Q r s') pl.isList ∅ (by rw[gJ] <;> lia) ∅ (by rw[hj];simpa using ew) ⟨rfl,kO⟩) hs
theorem bx:XX X (YX X.K):=by
 intro value sW ao s σ H x y v u Q I rx ry h hs;obtain⟨p,xs,i,z,rfl,rfl,hq,he,q⟩:=h;cases rx;obtain⟨t,rfl⟩:=ry;obtain⟨aO,r,pl,hz⟩:=I.tuple hq;obtain⟨j,h1,h2,h3,h4,h5⟩:=Di he;obtain⟨w,ew,jw⟩:=r.get h2;have hl:=r.length;have hn:=tZ;have kO:EP X ao σ Q w s:=⟨z,H,I,jw,q⟩;exact subscriptTail_builtinR (x:=w) pl.typeIs slot_tuple_getitem.lookup (getItem_tuple (j:=j) (Q:=λr s'=>r=w/\EP X ao σ Q r s') pl ∅ ∅ (by rw[gJ,← hl];exact h1) (by simpa using ew) ⟨rfl,kO⟩) hs
theorem Nz:XX X ac7:=by
 intro value sW ao s σ H x y v u Q I rx ry h hs;obtain⟨z,i,c,rfl,rfl,hz,he,q⟩:=h;obtain⟨t,rfl⟩:=rx;obtain⟨t',rfl⟩:=ry;obtain⟨j,h1,h2,h3,h4,h5⟩:=Di he;have hl:z.cps.toList.length=z.length:=by simp[Str.length]
 rw[hl]at h1 h4 h5;have hn:=tZ
 exact tail_any (typeIs_str s z t) slot_str_getitem.lookup (getItem_str (c:=c) (by
  have e1:decide (i < -(2^63:Int))=false:=decide_eq_false ∅;have e2:decide (i>=2^63)=false:=decide_eq_false ∅
  rw[e1,e2,Bool.or_false]) (by rw[h1];simpa using h2) ⟨.str ⟨#[c]⟩,H,I.tok _,⟨Y⟩,q⟩) hs
theorem HY(aO:List Value)(n j:Nat)(u:Value):Obj.mapSeq (·.setIfInBounds j u) { cls:=.type "list",data:=.seq aO.toArray n }={ cls:=.type "list",data:=.seq (aO.set j u).toArray n }:=by
 simp[Obj.mapSeq]
theorem Inv.lst{ao:List (Addr × Obj)}{σ:St}{H:Hp}{s:Shared}{p:Addr}{xs:List V}(I:Inv X ao σ H s)(h:H p=some (.lst xs)) :
  ∃ (aO:List Value) (n:Nat),cy xs aO/\s.heap.get? p=some { cls:=.type "list",data:=.seq aO.toArray n }/\xs.length<=sizeLine:=by
 obtain⟨z,aO,n,r,e⟩:=I.hok p _ h;exact⟨aO,n,r,e,z⟩
theorem Inv.VC{σ:St}{H:Hp}{s:Shared}{p:Addr}{xs ys:List V}{aO its':List Value}{n n':Nat}{f:Obj->Obj}(I:Inv X ao σ H s)(h:H p=some (.lst xs))
  (ho:s.heap.get? p=some { cls:=.type "list",data:=.seq aO.toArray n }) (hf:f { cls:=.type "list",data:=.seq aO.toArray n }={ cls:=.type "list",data:=.seq its'.toArray n' }) (r:cy ys its') (hz:ys.length<=sizeLine) (t:Nat) :
  Inv X ao σ (aP H p (.lst ys)) { s with heap:=s.heap.update p f,toks:=t }:=by
 have e:(s.heap.update p f).get? p=some { cls:=.type "list",data:=.seq its'.toArray n' }:=by
  rw[Heap.get?_update_self f ho (by rw[hf] <;> rfl),hf]
 refine I.write (x:=p) (e:=p) (by rw[h];trivial) (.inl rfl) (λb u hb q=>(Heap.get?_update_other _ _ (Ne.symm hb)).trans q) ⟨_,e⟩ ?_;exact⟨hz,its',n',r,e⟩
inductive YY(o i v:V)(H:Hp)(Q:Hp->Prop):Prop
 | mk (p:Addr) (xs:List V) (k:Int) (j:Nat) (_:o=.ref p) (_:i=.int k) (_:H p=some (.lst xs)) (_:J1 xs.length k=some j) (_:Q (aP H p (.lst (xs.set j v))))
theorem jz:YF X YY:=by
 intro ao s σ H o i v ov iv u Q I ro ri rv h;obtain⟨p,xs,k,j,rfl,rfl,hp,hj,q⟩:=h;cases ro;obtain⟨t,rfl⟩:=ri;obtain⟨aO,n,r,ho,hz⟩:=I.lst hp;obtain⟨h1,h2,h3,h4⟩:=J2 hj;have hl:=r.length;have hn:=tZ;have I':Inv X ao σ (aP H p (.lst (xs.set j v))) { s with heap:=s.heap.update p (Obj.mapSeq (·.setIfInBounds j u)) } := I.VC hp ho (HY aO n j u) (r.set rv j) (by rw[List.length_set];exact hz) s.toks;by_cases h0:0<=k
 ·have hk:k.toNat=j:=by
   rw[seqIndex_of h0 h4]at h1;exact qH h1
  exact PySem.W.ki_setAt ho h0 ∅ (by rw[gJ,← hl];exact h4) (by rw[hk];exact⟨_,I',q⟩)
 ·have hk:(k+(aO.toArray.size:Int)).toNat=j:=by
   rw[seqIndex_neg ∅ h3]at h1;rw[gJ,← hl];exact qH h1
  exact PySem.W.ki_setBack ho ∅ (by rw[gJ,← hl];exact h3) ∅ (by rw[hk];exact⟨_,I',q⟩)
theorem Dj(lo hi:Option Int)(n:Nat):(sliceBounds lo hi none n).1=((HT.iZ n 0 lo:Nat):Int)/\(sliceBounds lo hi none n).2.1=((HT.iZ n n hi:Nat):Int)/\(sliceBounds lo hi none n).2.2=1:=by
 refine⟨?_,?_,rfl⟩
 ·cases lo with
  | none=>simp[sliceBounds,HT.iZ]
  | some i =>
   simp only[sliceBounds,HT.iZ,Option.getD_none,show (1:Int) > 0 by decide,if_true];by_cases h:i<0
   ·simp only[h,if_true] <;> lia
   ·simp only[h,if_false] <;> lia
 ·cases hi with
  | none=>simp[sliceBounds,HT.iZ]
  | some i =>
   simp only[sliceBounds,HT.iZ,Option.getD_none,show (1:Int) > 0 by decide,if_true];by_cases h:i<0
   ·simp only[h,if_true] <;> lia
   ·simp only[h,if_false] <;> lia
theorem Bd(aO:List Value)(lo hi:Option Int):slicePick aO.toArray lo hi none=((aO.drop (HT.iZ aO.length 0 lo)).take (HT.iZ aO.length aO.length hi-HT.iZ aO.length 0 lo)).toArray:=by
 obtain⟨h1,h2,h3⟩:=Dj lo hi aO.toArray.size;unfold slicePick;rw[h1,h2,h3]
 simp only[sliceRange_one,pick_run,gJ] <;> rfl
inductive YZ(K:PySem.W.Frag)(x:V)(lo hi:Option Int)(H:Hp)(Q:VK):Prop
 | mk (a:Addr) (xs:List V) (_:x=.ref a) (_:bL K H a xs) (_:∀ p,H p=none->Q (.ref p) (aP H p (.lst (kB xs lo hi)))):YZ K x lo hi H Q
theorem lP:SlR X (YZ X.K):=by
 intro ao s σ H x v vl vu lo hi sl Q I rx hs pl pu h;obtain⟨a,xs,rfl,hx,q⟩:=h;cases rx;obtain⟨aO,r,ht,hz⟩:=I.list hx;have dN:=r.length;exists "list",_,slot_list_getitem.lookup,ht.isList.typeIs
 refine wpAny_getItem_list_slice ht.isList hs pl pu .none (by simp) ?_ (by rw[gJ] <;> lia)
 rw[Bd,← dN];refine⟨.ref s.heap.objs.size,_,I.laid (t':=s.toks) (o:=.lst (kB xs lo hi)) (λb ob q=>Heap.get?_push_of_some _ q) (gg _) ?_,rfl,q _ (I.hok.fresh (gg _))⟩;exact⟨Nat.le_trans (xW xs lo hi) hz,_,0,(r.drop (HT.iZ xs.length 0 lo)).take (HT.iZ xs.length xs.length hi-HT.iZ xs.length 0 lo),Heap.get?_push_size _ rfl⟩
def vj:V->Bool
 | .fH=>true
 | .bl _=>true
 | .int _=>true
 | .str _=>true
 | _=>false
def Um:V->V->Bool
 | .fH,.fH=>true
 | .bl a,.bl b=>a == b
 | .bl a,.int b=>(if a then 1 else 0) == b
 | .int a,.bl b=>a == (if b then 1 else 0)
 | .int a,.int b=>a == b
 | .str a,.str b=>a == b
 | _,_=>false
theorem VD{A:Around}{s:Shared}{y x:V}{u v:Value}(ry:RelV y u)(rx:RelV x v)(fy:vj y=true)(fx:vj x=true):SeqAt.EqAt A s u v (Um y x):=by
 cases y with
 | fH =>
  cases ry
  cases x with
  | fH=>cases rx;exact SeqAt.EqAt.same _
  | bl b=>cases rx;exact SeqAt.EqAt.none_bool b
  | int b=>obtain⟨t,rfl⟩:=rx;exact SeqAt.EqAt.none_int b t
  | str b=>obtain⟨t,rfl⟩:=rx;exact SeqAt.EqAt.none_str b t
  | _=>exact absurd (show false=true from fx) gB
 | bl a =>
  cases ry
  cases x with
  | fH=>cases rx;exact SeqAt.EqAt.bool_none a
  | bl b=>cases rx;exact SeqAt.EqAt.bool_bool a b
  | int b=>obtain⟨t,rfl⟩:=rx;exact SeqAt.EqAt.bool_int a b t
  | str b=>obtain⟨t,rfl⟩:=rx;exact SeqAt.EqAt.bool_str a b t
  | _=>exact absurd (show false=true from fx) gB
 | int a =>
  obtain⟨t',rfl⟩:=ry
  cases x with
  | fH=>cases rx;exact SeqAt.EqAt.int_none a t'
  | bl b=>cases rx;exact SeqAt.EqAt.int_bool a t' b
  | int b=>obtain⟨t,rfl⟩:=rx;exact SeqAt.EqAt.int_int a t' b t
  | str b=>obtain⟨t,rfl⟩:=rx;exact SeqAt.EqAt.int_str a t' b t
  | _=>exact absurd (show false=true from fx) gB
 | str a =>
  obtain⟨t',rfl⟩:=ry
  cases x with
  | fH=>cases rx;exact SeqAt.EqAt.str_none a t'
  | bl b=>cases rx;exact SeqAt.EqAt.str_bool a t' b
  | int b=>obtain⟨t,rfl⟩:=rx;exact SeqAt.EqAt.str_int a t' b t
  | str b=>obtain⟨t,rfl⟩:=rx;exact SeqAt.EqAt.str_str a t' b t
  | _=>exact absurd (show false=true from fx) gB
 | _=>exact absurd (show false=true from fy) gB
def HZ(x:V)(u:Value):Bool:=match u with
 | .none=>Um .fH x
 | .bool b=>Um (.bl b) x
 | .int i _=>Um (.int i) x
 | .str z _=>Um (.str z) x
 | _=>false
theorem NB{x y:V}{u:Value}(r:RelV y u)(f:vj y=true):HZ x u=Um y x:=by
 cases y with
 | fH=>cases r;rfl
 | bl b=>cases r;rfl
 | int i=>obtain⟨t,rfl⟩:=r;rfl
 | str z=>obtain⟨t,rfl⟩:=r;rfl
 | _=>exact absurd (show false=true from f) gB
theorem vm{x:V}:∀ {xs:List V} {us:List Value},cy xs us->xs.all vj=true->us.any (HZ x)=xs.any λy=>Um y x
 | _,_,.nil,_=>rfl
 | y::xs,u::us,.cons r t,f=>by
  rw[List.all_cons,Bool.and_eq_true]at f;rw[List.any_cons,List.any_cons,NB r f.1,vm t f.2]
theorem qL{A:Around}{s:Shared}{x:V}{v:Value}(rx:RelV x v)(fx:vj x=true):∀ {xs:List V} {us:List Value},cy xs us->xs.all vj=true->∀ u∈us,SeqAt.EqAt A s u v (HZ x u)
 | _,_,.nil,_=>λu hu=>by cases hu
 | y::xs,u::us,.cons r t,f=>λu' hu=>by
  rw[List.all_cons,Bool.and_eq_true]at f;rcases List.mem_cons.mp hu with rfl|hu
  ·rw[NB r f.1];exact VD r rx f.1 fx
  ·exact qL rx fx t f.2 u' hu
def inV(x:V)(xs:List V):Bool:=xs.any λy=>Um y x
inductive VE(K:PySem.W.Frag)(xs:List V)(H:Hp)(Q:VK):Prop
 | mk (p:Addr) (ys:List V) (_:xs=[.ref p]) (_:bL K H p ys\/dG K H p ys) (_:Q (.int ys.length) H):VE K xs H Q
inductive Y0(K:PySem.W.Frag)(xs:List V)(H:Hp)(Q:VK):Prop
 | mk (p:Addr) (ys:List V) (_:xs=[.ref p]) (_:bL K H p ys\/dG K H p ys) (_:∀ l,H l=none->Q (.ref l) (aP H l (.lst ys)))
def rIn(K:PySem.W.Frag)(neg:Bool):R2:=λx y H Q=>∃ p xs,y=.ref p/\(bL K H p xs\/dG K H p xs)/\vj x=true/\xs.all vj=true/\Q (.bl (if neg then !inV x xs else inV x xs)) H
theorem B4:u7 X (compareOp .In) (rIn X.K false):=by
 intro ao s σ H x y v u Q I rx ry h;obtain⟨p,xs,rfl,hq,fx,fs,q⟩:=h;cases ry;rcases hq with hq|hq
 ·obtain⟨aO,r,pl,hz⟩:=I.list hq;refine SeqAt.in_listAt (HZ x) pl.isList (λw hw=>qL rx fx r fs w (by simpa using hw)) ⟨.bl _,H,I,rfl,?_⟩;rw[show aO.toArray.any (HZ x)=aO.any (HZ x) by simp,vm r fs];exact q
 ·obtain⟨aO,r,pl,hz⟩:=I.tuple hq;refine SeqAt.in_tupleAt (HZ x) pl (λw hw=>qL rx fx r fs w (by simpa using hw)) ⟨.bl _,H,I,rfl,?_⟩;rw[show aO.toArray.any (HZ x)=aO.any (HZ x) by simp,vm r fs];exact q
theorem Dk:u7 X (compareOp .NotIn) (rIn X.K true):=by
 intro ao s σ H x y v u Q I rx ry h;obtain⟨p,xs,rfl,hq,fx,fs,q⟩:=h;cases ry;rcases hq with hq|hq
 ·obtain⟨aO,r,pl,hz⟩:=I.list hq;refine SeqAt.notIn_listAt (HZ x) pl.isList (λw hw=>qL rx fx r fs w (by simpa using hw)) ⟨.bl _,H,I,rfl,?_⟩;rw[show aO.toArray.any (HZ x)=aO.any (HZ x) by simp,vm r fs];exact q
 ·obtain⟨aO,r,pl,hz⟩:=I.tuple hq;refine SeqAt.notIn_tupleAt (HZ x) pl (λw hw=>qL rx fx r fs w (by simpa using hw)) ⟨.bl _,H,I,rfl,?_⟩;rw[show aO.toArray.any (HZ x)=aO.any (HZ x) by simp,vm r fs];exact q
theorem Dl:kq X (.builtin "len") (VE X.K):=by
 intro ao s σ H xs us Q I r h;obtain⟨p,ys,rfl,hq,q⟩:=h;obtain⟨u,rfl,rx⟩:=vals1 r;cases rx;have hn:=tZ;rcases hq with hq|hq
 ·obtain⟨aO,r',pl,hz⟩:=I.list hq;have dN:=r'.length
  exact Calls.call_len_list pl.isList (by simp only[gJ] <;> lia) ⟨.int ys.length,H,I.tok _,⟨s.toks+1,by rw[gJ,dN]⟩,q⟩
 ·obtain⟨aO,r',pl,hz⟩:=I.tuple hq;have dN:=r'.length
  exact len_tuple pl (by simp only[gJ] <;> lia) ⟨.int ys.length,H,I.tok _,⟨s.toks+1,by rw[gJ,dN]⟩,q⟩
theorem vn:kq X (.builtin "len") (λxs H Q=>∃ z,xs=[.str z]/\z.length<=sizeLine/\Q (.int z.length) H):=by
 intro ao s σ H xs us Q I r h;obtain⟨z,rfl,hz,q⟩:=h;obtain⟨u,rfl,t,rfl⟩:=vals1 r;have hn:=tZ;exact len_str ∅ ⟨.int z.length,H,I.tok _,⟨Y⟩,q⟩
theorem fX:kq X (.type "list") (Y0 X.K):=by
 intro ao s σ H xs us Q I r h;obtain⟨p,ys,rfl,hq,q⟩:=h;obtain⟨u,rfl,rx⟩:=vals1 r;cases rx
 have kO:∀ (aO:List Value),cy ys aO->ys.length<=sizeLine->∀ (h':Heap) (c':Nat),(∀ b o',s.heap.get? b=some o'->h'.get? b=some o')->
   h'.get? s.heap.objs.size=some { cls:=.type "list",dict:=none,data:=.seq aO.toArray c',slots:=#[] }->EP X ao σ Q (.ref s.heap.objs.size) { s with heap:=h' }:=λaO r' hz h' c' kp e =>
  ⟨.ref s.heap.objs.size,_,I.laid (t':=s.toks) kp (gg _) (show fV X.prog X.w _ h' _ (.lst ys) from ⟨hz,aO,c',r',e⟩),rfl,q _ (I.hok.fresh (gg _))⟩
 rcases hq with hq|hq
 ·obtain⟨aO,r',pl,hz⟩:=I.list hq;have dN:=r'.length;obtain⟨o,ho,hc,n,hd⟩:=pl.isList
  exact call_list_seq p (.inl rfl) ho hc hd (λh' c' kp e=>kO aO r' hz h' c' kp e) (by simp only[gJ] <;> lia)
 ·obtain⟨aO,r',pl,hz⟩:=I.tuple hq;have dN:=r'.length;obtain⟨o,ho,hc,n,hd⟩:=pl
  exact call_list_seq p (.inr rfl) ho hc hd (λh' c' kp e=>kO aO r' hz h' c' kp e) (by simp only[gJ] <;> lia)
def tyV(K:PySem.W.Frag)(T:String)(x:V)(H:Hp):Prop:=match x with
 | .str _=>T="str"
 | .int _=>T="int"
 | .ref p=>(T="list"/\∃ xs,bL K H p xs)\/(T="tuple"/\∃ o,K.lookup p=some o/\o.cls=.type "tuple"/\o.dict=none)\/
   (T="dict"/\((∃ kvs,H p=some (.dK kvs))\/∃ kvs,H p=some (.dT kvs)))\/(T="set"/\∃ S n,H p=some (.set S n))
 | _=>False
theorem NC{σ:St}{H:Hp}{s:Shared}{T:String}{x:V}{v:Value}(I:Inv X ao σ H s)(r:RelV x v)(ty:tyV X.K T x H) :
  s.TypeIs v T/\∀ a,v=.ref a->∃ ob,s.heap.get? a=some ob/\ob.dict=none:=by
 cases x with
 | str z =>
  obtain⟨t,rfl⟩:=r;cases (show T="str" from ty);exact⟨typeIs_str s z t,λ_ e=>nomatch e⟩
 | int i =>
  obtain⟨t,rfl⟩:=r;cases (show T="int" from ty);exact⟨typeIs_int s i t,λ_ e=>nomatch e⟩
 | ref p =>
  cases r;rcases ty with ⟨rfl,xs,hq⟩|⟨rfl,o,hk,hc,hd⟩|⟨rfl,hk⟩|⟨rfl,S,n,hk⟩
  ·obtain⟨aO,_,pl,_⟩:=I.list hq;refine⟨pl.isList.typeIs,λa e=>?_⟩;cases e;obtain⟨o,n,e,c,hd,_⟩:=pl;exact⟨o,e,hd⟩
  ·refine⟨⟨o,I.uZ p o hk,hc⟩,λa e=>?_⟩;cases e;exact⟨o,I.uZ _ o hk,hd⟩
  ·have z:∃ o,s.heap.get? p=some o/\o.ExactDict:=by
    rcases hk with ⟨kvs,hk⟩|⟨kvs,hk⟩
    ·obtain⟨_,_,_,_,o,_,_,e,ex,_⟩:=I.hok p _ hk;exact⟨o,e,ex⟩
    ·obtain⟨_,_,_,_,o,_,_,e,ex,_⟩:=I.hok p _ hk;exact⟨o,e,ex⟩
   obtain⟨o,e,ex⟩:=z;refine⟨⟨o,e,ex.1⟩,λa e2=>?_⟩;cases e2;exact⟨o,e,ex.2.1⟩
  ·obtain⟨o,_,_,_,e,ex,_⟩:=I.hok p _ hk;refine⟨⟨o,e,ex.1⟩,λa e2=>?_⟩;cases e2;exact⟨o,e,ex.2.1⟩
 | _=>exact False.elim ty
def ac9(K:PySem.W.Frag)(T:String)(r:V->List V->Hp->VK->Prop)(to:TE):TE:=fun σ H Q=>to σ H λx H1=>tyV K T x H1/\r x [] H1 Q
def tBM(K:PySem.W.Frag)(T:String)(r:V->List V->Hp->VK->Prop)(to:TE)(t:TA):TE:=fun σ H Q=>to σ H λx H1=>tyV K T x H1/\t σ H1 λxs H2=>r x xs H2 Q
variable {o e:Expr} {es:List Expr} {to:TE} {t:TA} {name:Str} {jg nC:Pos} {T id:String} {r:V->List V->Hp->VK->Prop}
theorem ND(pa:PlainAttrs T)(slot:Slot T name id)(hty:typeOf (.builtin id)=pure (.type "method_descriptor"))(hm:MtR X id r)(ho:PE X o to)
  (NF:attributeBase o name X.env (eval o X.env)=eval o X.env:=by rfl) (NG:(jg.endLine == nC.line)=true:=by rfl):PE X (.Call (.Attribute o name jg) [] [] nC) (ac9 X.K T r to):=by
 intro ao s σ H Q I h;refine wpAny_Call_method0_late NF NG (cX (ho ao s σ H _ I h) λv s1 Bc=>?_);obtain⟨x,H1,I1,r1,ty,q1⟩:=Bc;obtain⟨h1,h2⟩:=NC I1 r1 ty;exact⟨T,id,pa,slot,hty,h1,h2,Calls.callWith_builtin rfl (PySem.evalArgs_none (hm ao s1 σ H1 x [] v [] Q I1 r1 .nil q1))⟩
theorem dM(pa:PlainAttrs T)(slot:Slot T name id)(hty:typeOf (.builtin id)=pure (.type "method_descriptor"))(hm:MtR X id r)(ho:PE X o to)(ha:PA X (e::es) t)
  (NF:attributeBase o name X.env (eval o X.env)=eval o X.env:=by rfl)
  (adb:((backTo nC (starEach (e::es) X.env)).all (λx=>!x.1)&&(backToKw nC (keywordEach [] X.env)).all (λx=>x.1.isSome)
   && decide ((e::es).length+([]:List Keyword).length+(if ([]:List Keyword).isEmpty then 0 else 1)<30))=true:=by rfl)
  (NG:(jg.endLine == nC.line)=true:=by rfl) (hs:starEach (e::es) X.env=(false,eval e X.env)::starEach es X.env:=by rfl) (VF:(backTo nC (starEach es X.env)).any (·.1)=false:=by rfl) :
  PE X (.Call (.Attribute o name jg) (e::es) [] nC) (tBM X.K T r to t):=by
 intro ao s σ H Q I h;refine wpAny_Call_method_late NF adb NG rfl (cX (ho ao s σ H _ I h) λv s1 EX=>?_);obtain⟨x,H1,I1,r1,ty,q1⟩:=EX;obtain⟨h1,h2⟩:=NC I1 r1 ty;exists T,id,pa,slot,hty,h1,h2;have hA:=ha nC ao s1 σ H1 _ I1 q1;rw[hs]at hA ⊢
 refine Calls.callWith_builtin (by show (false || (backTo nC (starEach es X.env)).any (·.1))=false;rw[VF] <;> rfl) (Calls.evalArgs_plain ?_)
 exact cX hA λus s2 ⟨vs,H2,I2,r2,q2⟩=>hm ao s2 σ H2 x vs v us Q I2 r1 r2 q2
end
end L2
namespace L2
open Spec Rows
def XY(X:Cx)(id:String)(r:V->List V->Hp->VK->Prop):Prop :=
 ∀ (ao:List (Addr × Obj)) (s:Shared) (σ:St) (H:Hp) (x:V) (xs:List V) (v:Value) (us:List Value) (Q:VK),Inv X ao σ H s->RelV x v->cy xs us->r x xs H Q->
  wpAny (model X.prog X.w) X.A (call (.builtin id) (v::us)) (EP X ao σ Q) X.xe s
theorem cy.one{x:V}{us:List Value}(h:cy [x] us):∃ u,us=[u]/\RelV x u:=by
 cases h with
 | cons r t=>cases t;exact⟨Y,r⟩
theorem cy.two{x y:V}{us:List Value}(h:cy [x,y] us):∃ u v,us=[u,v]/\RelV x u/\RelV y v:=by
 cases h with
 | cons r t =>
  obtain⟨_,rfl,q⟩:=cy.one t;exact⟨P,rfl,r,q⟩
theorem cy.zero:∀ {us:List Value},cy [] us->us=[]
 | _,.nil=>rfl
theorem cy.dropLast{xs:List V}{us:List Value}(h:cy xs us):cy xs.dropLast us.dropLast:=by
 induction h with
 | nil=>exact .nil
 | cons r t ih =>
  cases t with
  | nil=>exact .nil
  | cons q t'=>exact .cons r ih
theorem cy.eraseIdx:∀ {xs:List V} {us:List Value} (i:Nat),cy xs us->cy (xs.eraseIdx i) (us.eraseIdx i)
 | _,_,_,.nil=>.nil
 | _,_,0,.cons _ t=>t
 | _,_,i+1,.cons r t=>.cons r (cy.eraseIdx i t)
theorem cy.rep{xs:List V}{us:List Value}(h:cy xs us):∀ k:Nat,cy (List.replicate k xs).flatten (List.replicate k us).flatten
 | 0=>.nil
 | k+1=>by
  rw[List.replicate_succ,List.replicate_succ,List.flatten_cons,List.flatten_cons];exact cy.append h (cy.rep h k)
theorem Ia{α:Type}(l:List α):l.eraseIdx (l.length-1)=l.dropLast:=by
 induction l with
 | nil=>rfl
 | cons a r ih =>
  cases r with
  | nil=>rfl
  | cons b r =>
   have e:(a::b::r).length-1=((b::r).length-1)+1:=by
    have h1:(a::b::r).length=r.length+2:=rfl;have h2:(b::r).length=r.length+1:=rfl;lia
   rw[e,List.eraseIdx_cons_succ,ih]
   all_goals rfl
theorem Ca{α:Type}:∀ (l:List α) (i:Nat),(l.eraseIdx i).length<=l.length
 | [],_=>gg _
 | _::_,0=>Nat.le_succ _
 | _::r,i+1=>Nat.succ_le_succ (Ca r i)
theorem foldl_rep(aO:List Value):∀ (k:Nat) (acc:List Value),
  List.foldl (λx1 x2=>x1++x2) acc.toArray (List.replicate k aO.toArray)=(acc++(List.replicate k aO).flatten).toArray
 | 0,acc=>by simp
 | k+1,acc=>by
  have e:acc.toArray++aO.toArray=(acc++aO).toArray:=by simp
  have e2:(acc++aO)++(List.replicate k aO).flatten=acc++(List.replicate (k+1) aO).flatten:=by
   rw[List.replicate_succ,List.flatten_cons,nB]
  rw[← e2,← foldl_rep aO k (acc++aO),← e,List.replicate_succ,l6]
section
variable {X:Cx} {ao:List (Addr × Obj)} {σ:St} {H:Hp} {s:Shared} {l b:Addr} {xs ys zs:List V}
theorem Inv.NH{aO its':List Value}{n:Nat}{f:Array Value->Array Value}{t':Nat}(I:Inv X ao σ H s)(hH:H l=some (.lst xs))
  (e:s.heap.get? l=some { cls:=.type "list",data:=.seq aO.toArray n }) (hf:f aO.toArray=its'.toArray) (hv:cy ys its') (hz:ys.length<=sizeLine) :
  Inv X ao σ (aP H l (.lst ys)) { s with heap:=s.heap.update l (Obj.mapSeq f),toks:=t' }:=by
 have q:=PySem.IsL.update e f;rw[hf]at q;refine I.write (x:=l) (e:=l) (by rw[hH];exact trivial) (.inl rfl) (λb' u hb hu=>(Heap.get?_update_other s.heap (Obj.mapSeq f) (Ne.symm hb)).trans hu) ⟨_,q⟩ ?_;exact⟨hz,its',_,hv,q⟩
theorem Inv.Q8{aO:List Value}{t':Nat}(I:Inv X ao σ H s)(hv:cy ys aO)(hz:ys.length<=sizeLine) :
  Inv X ao σ (aP H s.heap.objs.size (.lst ys)) { s with heap:=s.heap.push { cls:=.type "list",data:=.seq aO.toArray },toks:=t' } :=
 I.laid (λ_ _ q=>Heap.get?_push_of_some _ q) (gg _) ⟨hz,aO,0,hv,Heap.get?_push_size _ rfl⟩
theorem Inv.fresh(I:Inv X ao σ H s):H s.heap.objs.size=none:=I.hok.fresh (gg _)
theorem Inv.Be(I:Inv X ao σ H s)(hH:H l=some (.lst xs)):xs.length<=sizeLine/\∃ (aO:List Value) (n:Nat),cy xs aO/\xs.length=aO.length/\s.heap.get? l=some { cls:=.type "list",data:=.seq aO.toArray n }:=by
 obtain⟨z,aO,n,r,e⟩:=I.hok l _ hH;exact⟨z,aO,n,r,r.length,e⟩
theorem zA{n:Nat}(h:n<=sizeLine):Builtin.List.listTooLong n=false:=by
 unfold Builtin.List.listTooLong;exact decide_eq_false ∅
end
section
variable {X:Cx}
inductive Q9(x:V)(vs:List V)(H:Hp)(Q:VK):Prop
 | mk (l:Addr) (xs:List V) (y:V) (_:x=.ref l) (_:vs=[y]) (_:H l=some (.lst xs)) (_:xs.length<sizeLine) (_:Q .fH (aP H l (.lst (xs++[y]))))
theorem bT:XY X "list.append" Q9:=by
 intro ao s σ H x vs v us Q I rx rv h;obtain⟨l,xs,y,rfl,rfl,hH,hz,q⟩:=h;cases rx;obtain⟨u,rfl,ru⟩:=rv.one;obtain⟨z,aO,n,r,hl,e⟩:=I.Be hH;refine call_meets F.slot_list_append ⟨_,e,rfl⟩ F.entry_list_append (F.args_list_append_2 _ _) (PySem.list_append l aO.toArray n u (by rw[gJ];lia)) ⟨e,?_⟩;refine⟨.fH,_,I.NH (its':=aO++[u]) hH e (by simp) (r.append (.cons ru .nil)) ?_,rfl,q⟩;rw[dz,iy];lia
inductive Rc(x:V)(vs:List V)(H:Hp)(Q:VK):Prop
 | mk (l b:Addr) (xs zs:List V) (_:x=.ref l) (_:vs=[.ref b]) (_:H l=some (.lst xs)) (_:H b=some (.lst zs)) (_:xs.length+zs.length<=sizeLine) (_:Q .fH (aP H l (.lst (xs++zs))))
theorem j3:XY X "list.extend" Rc:=by
 intro ao s σ H x vs v us Q I rx rv h;obtain⟨l,b,xs,zs,rfl,rfl,hH,hB,hz,q⟩:=h;cases rx;obtain⟨u,rfl,ru⟩:=rv.one;cases ru;obtain⟨z,aO,n,r,hl,e⟩:=I.Be hH;obtain⟨z2,its2,n2,r2,Cb,e2⟩:=I.Be hB;have hsz:aO.toArray.size+its2.toArray.size<=sizeLine:=by rw[gJ,gJ];lia
 have E6:¬ (!aO.toArray.isEmpty&&Builtin.List.listTooLong (aO.toArray.size+its2.toArray.size))=true:=by
  rw[zA hsz,Bool.and_false];exact gB
 refine call_meets F.slot_list_extend ⟨_,e,rfl⟩ F.entry_list_extend (F.args_list_extend_2 _ _) (AutoSeq1.list_extend_list_list_0 l aO.toArray n b its2.toArray n2 E6 (by rw[gJ];lia) ∅) ⟨e,e2,?_⟩;refine⟨.fH,_,I.NH (its':=aO++its2) hH e (by simp) (r.append r2) ?_,rfl,q⟩;rw[dz];lia
def ade:V->List V->Hp->VK->Prop:=λx vs H Q=>∃ l xs y,x=.ref l/\vs=[]/\H l=some (.lst xs)/\xs[xs.length-1]?=some y/\Q y (aP H l (.lst xs.dropLast))
theorem NI:XY X "list.pop" ade:=by
 intro ao s σ H x vs v us Q I rx rv h;obtain⟨l,xs,y,rfl,rfl,hH,hy,q⟩:=h;cases rx;have hus:=rv.zero;subst hus;obtain⟨z,aO,n,r,hl,e⟩:=I.Be hH;obtain⟨u,hu,ru⟩:=r.get hy
 have hy':aO.toArray[aO.toArray.size-1]?=some u:=by
  show aO.toArray[aO.length-1]?=some u;rw[← Array.getElem?_toList,← hl];exact hu
 refine call_meets F.slot_list_pop ⟨_,e,rfl⟩ F.entry_list_pop (F.args_list_pop_1 _) (MeetsSeq.list_pop_last l aO.toArray n u hy' (by rw[gJ];lia)) ⟨e,?_⟩;refine⟨y,_,I.NH (its':=aO.dropLast) hH e ?_ r.dropLast ?_,ru,q⟩
 ·show aO.toArray.eraseIdxIfInBounds (aO.toArray.size-1)=aO.dropLast.toArray;rw[gJ,List.eraseIdxIfInBounds_toArray,Ia]
 ·rw[List.length_dropLast];lia
def VG:V->List V->Hp->VK->Prop:=λx vs H Q=>∃ l xs i k y,x=.ref l/\vs=[.int i]/\H l=some (.lst xs)/\-(2^63)<=i/\i<2^63/\seqIndex? i xs.length=some k/\xs[k]?=some y/\Q y (aP H l (.lst (xs.eraseIdx k)))
theorem NJ:XY X "list.pop" VG:=by
 intro ao s σ H x vs v us Q I rx rv h;obtain⟨l,xs,i,k,y,rfl,rfl,hH,h1,h2,hk,hy,q⟩:=h;cases rx;obtain⟨u,rfl,ru⟩:=rv.one;obtain⟨t,rfl⟩:=ru;obtain⟨z,aO,n,r,hl,e⟩:=I.Be hH;obtain⟨w,hw,jw⟩:=r.get hy;refine call_meets F.slot_list_pop ⟨_,e,rfl⟩ F.entry_list_pop (F.args_list_pop_2 _ _) (MeetsSeq.list_pop_at l aO.toArray n i t k w (fitsIndex_both h1 h2) (by rw[gJ,← hl];exact hk) (by rw[← Array.getElem?_toList];exact hw) (by rw[gJ];lia)) ⟨e,?_⟩;refine⟨y,_,I.NH (its':=aO.eraseIdx k) hH e ?_ (r.eraseIdx k) ?_,jw,q⟩
 ·show aO.toArray.eraseIdxIfInBounds k=(aO.eraseIdx k).toArray;rw[List.eraseIdxIfInBounds_toArray]
 ·have:=Ca xs k;lia
inductive Y3(x y:V)(H:Hp)(Q:VK):Prop
 | mk (l b:Addr) (xs zs:List V) (_:x=.ref l) (_:y=.ref b) (_:H l=some (.lst xs)) (_:H b=some (.lst zs)) (_:xs.length+zs.length<=sizeLine) (_:∀ p,H p=none->Q (.ref p) (aP H p (.lst (xs++zs))))
theorem jA:u7 X (binaryOp .Add) Y3:=by
 intro ao s σ H x y v u Q I rx ry h;obtain⟨l,b,xs,zs,rfl,rfl,hH,hB,hz,q⟩:=h;cases rx;cases ry;obtain⟨z,aO,n,r,hl,e⟩:=I.Be hH;obtain⟨z2,its2,n2,r2,Cb,e2⟩:=I.Be hB;refine PySem.P.add_list e e2 ?_ (by rw[gJ,gJ];lia);have ea:aO.toArray++its2.toArray=(aO++its2).toArray:=by simp
 rw[ea];exact⟨.ref _,_,I.Q8 (t':=s.toks) (r.append r2) (by rw[dz];lia),rfl,q _ I.fresh⟩
def Y4:R2:=λx y H Q=>∃ l k xs,x=.ref l/\y=.int k/\H l=some (.lst xs)/\-(2^63)<=k/\k<2^63/\xs.length*k.toNat<=sizeLine/\
 ∀ p,H p=none->Q (.ref p) (aP H p (.lst (List.replicate k.toNat xs).flatten))
theorem Rf{α:Type}(xs:List α)(k:Nat):(List.replicate k xs).flatten.length=k*xs.length:=by
 induction k with
 | zero=>simp
 | succ k ih=>rw[List.replicate_succ,List.flatten_cons,dz,ih,Nat.succ_mul,Nat.add_comm]
theorem NK:u7 X (binaryOp .Mult) Y4:=by
 intro ao s σ H x y v u Q I rx ry h;obtain⟨l,k,xs,rfl,rfl,hH,h1,h2,hz,q⟩:=h;cases rx;obtain⟨t,rfl⟩:=ry;obtain⟨z,aO,n,r,hl,e⟩:=I.Be hH;have dN:aO.toArray.size*k.toNat<=sizeLine:=by rw[gJ,← hl];exact hz
 have hcap:¬ aO.toArray.size*k.toNat > (2^63-1) / 8:=by
  have:(sizeLine:Nat)<=(2^63-1) / 8:=by decide
  lia
 have hfit:¬ (!Builtin.List.listFitsIndex k)=true:=by
  rw[fitsIndex_both h1 h2];exact gB
 have E6:¬ Builtin.List.listTooLong (aO.toArray.size*k.toNat)=true:=by
  rw[zA dN];exact gB
 have hnew:List.foldl (λx1 x2=>x1++x2) #[] (List.replicate (if aO.toArray.isEmpty=true then 0 else k.toNat) aO.toArray)=(List.replicate k.toNat aO).flatten.toArray:=by
  have f0:∀ m:Nat,List.foldl (λx1 x2=>x1++x2) #[] (List.replicate m aO.toArray)=(List.replicate m aO).flatten.toArray:=λm=>by
   have:=foldl_rep aO m [];rw[List.nil_append]at this;exact this
  rw[f0]
  cases aO with
  | nil=>simp
  | cons a r'=>rw[if_neg (by simp)]
 refine wpAny_binaryOp_repeat_ref (T:="list") (U:="int") (by decide) ⟨_,e,rfl⟩ (λs'=>typeIs_int s' k t) noFill_list_mul F.fills_int_mul F.slot_int_rmul repeat_list F.slot_int_index.lookup (call_meets F.slot_int_rmul (typeIs_int s k t) F.entry_int_rmul (F.args_int_rmul_2 _ _) (int___rmul___int_list k t l aO.toArray n) ⟨e,rfl,⟨_,e,rfl⟩,call_meets F.slot_list_mul ⟨_,e,rfl⟩ F.entry_list_mul (F.args_list_mul_2 _ _) (AutoListH.list___mul___list_int_3 l aO.toArray n k t hfit hcap E6) ⟨e,?_⟩⟩);rw[hnew];exact⟨.ref _,_,I.Q8 (t':=s.toks) (r.rep k.toNat) (by rw[Rf,Nat.mul_comm];exact hz),rfl,q _ I.fresh⟩
end
end L2
namespace Att
open PySem.W Calls Rows
theorem yz{P:Params}{h:Heap}:∀ (ns:List Int) (vs:List Value),WellAll P h vs (ns.map WData.int)->IntsAre vs ns:=by
 intro ns
 induction ns with
 | nil =>
  intro vs w;rw[List.map_nil]at w;cases w;exact .nil
 | cons n ns ih =>
  intro vs w;rw[jy]at w
  cases w with
  | cons a b =>
   cases a;exact .cons _ _ (ih _ b)
theorem Ls{l:OpenLaw}{n:Nat}(hn:l.most=some n){P:Params}{h:Heap}{args:List WData}{VH:List Value}
  (Rg:l.row.toRowW.claim.pre args=true) (hwl:WellAll P h VH args) :
  ∃ a vs ns,VH=[Value.ref a]/\args=[WData.list (ns.map WData.int)]/\h.get? a=some { cls:=.type "list",data:=.seq vs.toArray }/\IntsAre vs ns/\ns.length<=n:=by
 have xX:WShape.hasAll [] args [.list .int]=true:=(pre_splitW Rg).1;have hc:l.pre.holds [] { args:=args }=true:=(pre_splitW Rg).2;obtain⟨d,r,rfl,h1,h2⟩:=hasAllW_cons xX;obtain rfl:=hasAllW_nil h2;obtain⟨xs,rfl,h3⟩:=hasW_list h1;obtain⟨ns,rfl⟩:=items_int h3
 have dN:ns.length<=n:=by
  unfold OpenLaw.pre at hc
  have h4:(WTm.not (.lt (.lit (.int (n:Int))) (.len (.arg 0)))).holds [] { args:=[.list (ns.map .int)] }=true:=by
   have h4:=(holds_andW hc).1;rw[hn]at h4;exact h4
  have h5:=condW_of h4 (w_not (w_lt w_lit (w_len_list (w_arg rfl))));rw[cD]at h5;refine Nat.le_of_not_lt λq=>?_;have q':(n:Int)<((ns.length:Nat):Int):=by lia
  first
   | (rw[decide_eq_true q']at h5;exact absurd h5 (by decide))
   | (simp at h5;lia)
 cases hwl with
 | cons w1 w2 =>
  cases w2
  cases w1 with
  | list ho NL=>exact⟨P,ns,V,ho,yz ns _ NL,dN⟩
theorem Lu(l:OpenLaw)(args:List WData):l.row.toRowW.claim.post args (.bool true) args=true :=
 postW_of (r:=l.row.toRowW) (X:=(true == true))
  (show WShape.has [] (.bool true) .bool=true by first|rfl|decide|simp[WShape.has,WShape.arms,WShape.armsAll])
  (show (WTm.eq .res (.lit (.bool true))).value [] { args:=args,res:=some (.bool true),after:=args }=some (.bool (true == true)) from w_eq_bool (w_res rfl) w_lit) rfl
theorem E7{l:OpenLaw}{n:Nat}{q:Program}{Cc:List Str}{XP:(Str->Option Value)->Heap->Prop}{YP:World->Heap->Prop}{d:DefRec}
  (hn:l.most=some n) (Y5:d.params.defaults=[])
  (call:∀ (w:World) (s₀ s₁:Shared) (mg mb:Str->Option Value) (fa:Addr) (o:Obj) (pm cd wJ:Value) (a:Addr) (vs:List Value) (ns:List Int),
   Ground q Cc [] XP w s₀ mg mb s₁.heap->YP w s₁.heap->
   s₁.heap.get? fa=some o->o.data=.func (docDef d.name d.params d.body d.scope pm cd wJ)->s₁.heap.CodeRec cd d.name->mg d.name=some (.ref fa)->
   s₁.heap.get? a=some { cls:=.type "list",data:=.seq vs.toArray }->IntsAre vs ns->ns.length<=n->s₁.gens=#[]->
   codeAny (model l.prog w) callerA (.call (.ref fa) ⟨[.ref a],[]⟩) (λr s'=>r=.ok (.ret (.bool true))/\OldK s₁.heap s'.heap/\s'.os=s₁.os/\AllBare s'.gens) s₁) :
  WalkO q Cc XP YP l.row.toRowW d [] (λf vs=>PySem.call f vs):=by
 intro w s₀ s₁ mg mb G Y fa o pm cd wJ dV kV ho hd Lg hD Y6 hg args VH as Rg ajf hrd hwl hlo;obtain rfl:dV=.none:=Dflts.none hD Y5;obtain rfl:kV=.none:=Dflts.noKw hD;obtain⟨a,vs,ns,rfl,rfl,VI,NN,dN⟩:=Ls hn Rg hwl;refine enter_call (codeAny_mono (call w s₀ s₁ mg mb fa o pm cd wJ a vs ns G Y ho (fd_plain hd) Lg Y6 VI NN dN hg) λr s' hq=>?_);obtain⟨rfl,h2,h3,h4⟩:=hq;exact⟨.inl ⟨.bool true,.bool true,[],rfl,λ_=>rfl,.bool true,Lu l _,λ_=>⟨List.Pairwise.nil,λ_ hm=>(nomatch hm)⟩⟩,h2,h3,h4⟩
end Att
namespace L2
open Spec Rows
theorem Cd:∀ {vs:List Value} {ns:List Int},IntsAre vs ns->cy (ns.map V.int) vs
 | _,_,.nil=>.nil
 | _,_,.cons n t h=>.cons ⟨t,rfl⟩ (Cd h)
def VJ(H:Hp):Prop:=∀ b,H b=none\/∃ o xs,H b=some (.Hy o (.lst xs))
theorem NO{P:Program}{w:World}{K:PySem.W.Frag}{mg mb:Str->Option Value}{CX:MW}{k:Nat}{fa a:Addr}{fd:FuncData}{x:Str}{sp:Sp}{s₁:Shared}{vs:List Value}{ns:List Int}
  (KX:K.In s₁.heap) (MX:s₁.heap.Ns mainGlobals mg) (hb:s₁.heap.Ns builtinsNs mb) (hbb:∀ x:Str,x≠"__name__"->mb x=bootBuiltins x) (adg:s₁.heap.NoLimit) (hg:s₁.gens=#[])
  (ha:s₁.heap.get? a=some { cls:=.type "list",data:=.seq vs.toArray }) (hi:IntsAre vs ns) (hl:ns.length<=sizeLine) (hr:gQ k callerA)
  (F:∀ zt:Heap,K.In zt->zt.Ns mainGlobals mg->bf P w K mg zt CX k fa fd [x] sp) (Y7:∀ (s:Shared) (u:Value),BindsTo s fd ⟨[u],[]⟩ [(x,u)])
  (HV:∀ H:Hp,VJ H->bL K H a (ns.map V.int)->sp [.ref a] H (λv _=>v=.bl true) λ_ _ _=>False)
  (hCX:∀ H e s',CX [] H s₁ (λ_ _ _=>False) e s'->False) :
  codeAny (model P w) callerA (.call (.ref fa) ⟨[.ref a],[]⟩) (λr s'=>r=.ok (.ret (.bool true))/\OldK s₁.heap s'.heap/\s'.os=s₁.os/\AllBare s'.gens) s₁:=by
 have rv:=Cd hi;have adi:=hi.length
 have core:∀ H:Hp,VJ H->bL K H a (ns.map V.int)->qI P w H s₁.heap->(∀ b,H b≠none->b=a)->(H a≠none->K.lookup a=none)->
   codeAny (model P w) callerA (.call (.ref fa) ⟨[.ref a],[]⟩) (λr s'=>r=.ok (.ret (.bool true))/\OldK s₁.heap s'.heap/\s'.os=s₁.os/\AllBare s'.gens) s₁:=by
  intro H hO hS hok hA hK;have J4:∀ {b:Addr} {o:Obj},s₁.heap.get? b=some o->H b=none->(Dc s₁.heap H).get? b=some o:=λe n=>Nf e n
  have YU:∀ {b:Addr} {o:Obj} {es:Array DictEntry} {ep:Nat},s₁.heap.get? b=some o->o.data=.dict es ep->H b=none:=λ{b o es ep} e d=>by
   cases q:H b with
   | none=>rfl
   | some u =>
    have e':b=a:=hA b (by rw[q];simp);subst e';rw[ha]at e;cases e;have d':Data.seq vs.toArray _=Data.dict es ep:=d;cases d'
  have nsK:∀ {b:Addr} {m:Str->Option Value},s₁.heap.Ns b m->(Dc s₁.heap H).Ns b m:=λ{b m} ⟨o,es,ep,e,d,r⟩=>⟨o,es,ep,J4 e (YU e d),d,r⟩
  have hKb:K.In (Dc s₁.heap H):=λb o e=>J4 (KX b o e) (by
   cases q:H b with
   | none=>rfl
   | some u =>
    have e':b=a:=hA b (by rw[q];simp);subst e'
    rw[hK (by rw[q];simp)]at e;cases e)
  have hM:Mod K mg (Dc s₁.heap H):=⟨hKb,nsK MX,⟨mb,nsK hb,hbb⟩,let ⟨mc,h1,h2⟩:=adg;⟨mc,nsK h1,h2⟩⟩;have e0:HS P w K mg (Dc s₁.heap H) callerA [] s₁ H:=⟨rfl,hM,λb o e=>QT e,Nat.le_of_eq (Ld _ _),trivial,λb hb=>absurd (show b∈([]:List Addr) from hb) (by simp),hok,.of_eq hg⟩;refine codeAny_mono ((F _ hKb (nsK MX)).run callerA [] s₁ H ⟨[.ref a],[]⟩ [.ref a] [.ref a] _ _ hr e0 (Y7 s₁ (.ref a)) (.cons rfl .nil) (HV H hO hS)) λr s' h=>?_
  cases r with
  | error e=>exact (hCX H e s' h).elim
  | ok fl =>
   cases fl with
   | next=>exact False.elim h
   | brk=>exact False.elim h
   | cont=>exact False.elim h
   | ret u =>
    obtain⟨v,H',os,bare,un,Ib,r',q⟩:=h;have q':v=.bl true:=q;subst q';obtain rfl:u=Value.bool true:=r';refine⟨rfl,OldK.of_keep λb o e=>?_,os,bare⟩
    cases q:H b with
    | none=>exact un.keep b o e q (by intro z;exact absurd (show b∈([]:List Addr) from z) (by simp)) (by simp)
    | some u =>
     rcases hO b with z|⟨ob,xs,z⟩
     ·rw[q]at z;cases z
     ·have z2:=un.Ba b ob _ z;obtain⟨e1,_⟩:=hok b _ z;obtain⟨e2,_⟩:=Ib b _ z2;rw[e]at e1;cases e1;exact e2
 cases hk:K.lookup a with
 | some o =>
  have e:=KX a o hk;rw[ha]at e;cases e;refine core (λ_=>none) (λ_=>.inl rfl) (.inr ⟨_,vs.toArray,_,hk,V,rfl,by rw[gJ,adi];exact hl,by simpa using rv⟩) (λb u z=>by have z':(none:Option HO)=some u:=z;cases z') (λb z=>absurd rfl z) λz=>absurd rfl z
 | none =>
  refine core (λb=>if b=a then some (.Hy { cls:=.type "list",data:=.seq vs.toArray } (.lst (ns.map V.int))) else none) (λb=>?_) (.inl (.inr ⟨{ cls:=.type "list",data:=.seq vs.toArray },if_pos rfl⟩)) (λb u z=>?_) (λb z=>?_) λ_=>hk
  ·by_cases hb:b=a
   ·exact .inr ⟨P,if_pos hb⟩
   ·exact .inl (if_neg hb)
  ·by_cases hb:b=a
   ·have z':=(if_pos hb).symm.trans z;cases z';subst hb;exact⟨ha,by rw[cD];exact hl,vs,_,rv,ha⟩
   ·have z':=(if_neg hb).symm.trans z;cases z'
  ·by_cases hb:b=a
   ·exact hb
   ·exact absurd (if_neg hb) z
end L2
namespace L2
open Spec Rows
theorem Rh{l:PySem.W.OpenLaw}{n k:Nat}{q:Program}{Cc:List Str}{XP:(Str->Option Value)->Heap->Prop}{YP:World->Heap->Prop}{d:DefRec}{K:Params->PySem.W.Frag}{CX:World->MW}{sp:World->Sp}{x:Str}
  (hn:l.most=some n) (hn2:n<=sizeLine) (Y5:d.params.defaults=[]) (hr:gQ k callerA)
  (hY:∀ (w:World) (h:Heap),YP w h->(K w.params).In h)
  (F:∀ (w:World) (mg:Str->Option Value) (fa:Addr) (h:Heap),(K w.params).In h->h.Ns mainGlobals mg->mg d.name=some (.ref fa)->
   ∃ fd:FuncData,(∀ (s:Shared) (u:Value),BindsTo s fd ⟨[u],[]⟩ [(x,u)])/\
    ∀ zt:Heap,(K w.params).In zt->zt.Ns mainGlobals mg->bf l.prog w (K w.params) mg zt (CX w) k fa fd [x] (sp w))
  (HV:∀ (w:World) (H:Hp) (a:Addr) (ns:List Int),ns.length<=n->VJ H->bL (K w.params) H a (ns.map V.int)->sp w [.ref a] H (λv _=>v=.bl true) λ_ _ _=>False)
  (hCX:∀ (w:World) (H:Hp) (s:Shared) (e:Value) (s':Shared),CX w [] H s (λ_ _ _=>False) e s'->False) :
  PySem.W.WalkO q Cc XP YP l.row.toRowW d [] (λf vs=>PySem.call f vs):=by
 refine Att.E7 hn Y5 λw s₀ s₁ mg mb fa o pm cd wJ a vs ns G Y ho hd Lg Y6 VI NN dN hg=>?_;have KX:=hY w _ Y;obtain⟨fd,hb,hF⟩:=F w mg fa _ KX G.T.g Y6;exact NO KX G.T.g G.T.b G.T.builtins G.T.nolimit hg VI NN (iJ dN hn2) hr hF hb (λH hO hS=>HV w H a ns dN hO hS) λH e s'=>hCX w H s₁ e s'
end L2
namespace L2
open Spec Rows
def nK(s:Stmt):Arguments:=match s with
 | .FunctionDef _ a _ _ _ _ _ _ _ _=>a
 | _=>{ posonlyargs:=[],args:=[],vararg:=none,kwonlyargs:=[],kw_defaults:=[],kwarg:=none,defaults:=[] }
def iA(s:Stmt):List Stmt:=match s with
 | .FunctionDef _ _ b _ _ _ _ _ _ _=>b
 | _=>[]
def aA(s:Stmt):Scope:=match s with
 | .FunctionDef _ _ _ _ _ _ sc _ _ _=>sc
 | _=>{ kind:=.function,names:=[],isGenerator:=false,isCoroutine:=false }
abbrev cM:MW:=λ_ _ _ _ _ _=>False
abbrev E0:XK:=λ_ _ _=>False
theorem bO{X:Cx}:mq cM X E0:=λ_ _ _ _ _ _ _ h=>h.elim
structure NP(K:PySem.W.Frag)(x dc:Str)(st:Stmt)(f:Addr)(fd:FuncData):Prop where
 ex:∃ (oc:Value) (od:Option Addr) (kV wJ pm:Value) (an:Option Addr) (cN ct:Value) (Lr:Array (Option Value)),
  fd=fnOf x dc (nK st) (iA st) (aA st) .none kV wJ pm an cN ct/\K.lookup f=some ⟨oc,od,.func fd,Lr⟩/\codeIn K cN dc=true
 kp:keepIn K (.ref f)=true
section
variable {P:Program} {w:World} {K:PySem.W.Frag} {mg:Str->Option Value} {zt:Heap}
theorem NP.ok{x dc:Str}{st:Stmt}{f:Addr}{N ps:List Str}{k:Nat}{sp:Sp}(F:NP K x dc st f fd)(S:aH N ps (aA st))(len:∀ vs H Q E,sp vs H Q E->vs.length=ps.length)
  (vg:∀ (cN:Value) (A:Around) (zn:List Env) (s:Shared) (H:Hp) (vs:List V) (Q:VK) (E:XK),gQ k (A.deeper (envOfC dc (aA st) s.heap.objs.size f cN))->sp vs H Q E->
   ∃ t,EI (E4 cM P w K mg zt N dc (aA st) f cN A zn s H E).EJ (iA st) t/\t { nx:=λ_ H'=>Q .fH H',rt:=Q } (start N vs) H):bf P w K mg zt cM (k+1) f fd ps sp:=by
 obtain⟨oc,od,kV,wJ,pm,an,cN,ct,Lr,rfl,lk,Lg⟩:=F.ex;refine Uk lk Lg S len λA zn s H vs Q E hr HV=>?_;obtain⟨t,h,q⟩:=vg cN A zn s H vs Q E hr HV;exact⟨t,h.EJ,q⟩
theorem NP.binds{x dc:Str}{st:Stmt}{f:Addr}{ps:List Str}(F:NP K x dc st f fd)
  (h:∀ (kV wJ pm:Value) (an:Option Addr) (cN ct:Value) (us:List Value),us.length=ps.length->bindArgs (fnOf x dc (nK st) (iA st) (aA st) .none kV wJ pm an cN ct) ⟨us,[]⟩=pure (ps.zip us)):Binds K fd ps []:=by
 obtain⟨oc,od,kV,wJ,pm,an,cN,ct,Lr,rfl,lk,Lg⟩:=F.ex;exact .all (h kV wJ pm an cN ct)
theorem Ic{x dc:Str}{st:Stmt}{f:Addr}{oc:Value}{od an:Option Addr}{Lr:Array (Option Value)}{kV wJ pm cN ct:Value}(l:K.lookup f=some ⟨oc,od,.func (fnOf x dc (nK st) (iA st) (aA st) .none kV wJ pm an cN ct),Lr⟩)
  (c:codeIn K cN dc=true) (k:keepIn K (.ref f)=true):NP K x dc st f (fnOf x dc (nK st) (iA st) (aA st) .none kV wJ pm an cN ct):=⟨⟨oc,od,kV,wJ,pm,an,cN,ct,Lr,rfl,l,c⟩,k⟩
end
theorem gC{A:Around}{k:Nat}(hr:gQ k A):A.units+1<cLine:=Nat.lt_of_le_of_lt (Nat.add_le_add_left (by decide:1<=64) _) hr.units
section
variable {X:Cx}
theorem pv(i:Nat){x:Str}{pos:Pos}(hN:X.N[i]?=some x:=by rfl)(hv:Vis X.env.scope x:=by first|exact Or.inl rfl|exact Or.inr (Or.inl rfl)|exact Or.inr (Or.inr rfl))(hd:(x == ("__debug__":Str))=false:=by decide)
  (Lg:(x == ("__classdict__":Str))=false:=by decide):PE X (.Name x pos) (Vh i):=Vi hN hv hd Lg
end
theorem eY{A B:Prop}(h:B):if false=true then A else B:=by
 rw[if_neg gB];exact h
theorem gR{A B:Prop}(h:A):if true=true then A else B:=by
 rw[if_pos rfl];exact h
theorem cI{c A B:Prop} [Decidable c] (h1:c->A) (h2:¬ c->B):if c then A else B:=by
 by_cases h:c
 ·rw[if_pos h];exact h1 h
 ·rw[if_neg h];exact h2 h
theorem NQ{c A B:Prop} [Decidable c] (hc:c) (h:B):if (!decide c)=true then A else B:=by
 rw[decide_eq_true hc];exact eY h
def aL(H H':Hp):Prop:=∀ b o,H b=some o->H' b=some o
theorem aL.refl(H:Hp):aL H H:=λ_ _ h=>h
theorem aL.trans{H H1 H2:Hp}(a:aL H H1)(b:aL H1 H2):aL H H2:=λc o h=>b c o (a c o h)
theorem aL.free{H H':Hp}(e:aL H H'){l:Addr}(h:H' l=Option.none):H l=Option.none:=by
 cases q:H l with
 | none=>rfl
 | some o =>
  rw[e l o q]at h;cases h
end L2
namespace gv
open L2
def top(i:Nat):Stmt:=PySem.Challenge.pw_inkroot_k39_whole_past_stays.main.body.getD i (.Pass ⟨0,0,0,0⟩)
def Ri:Stmt->List Stmt
 | .ClassDef (body:=b) ..=>b
 | _=>[]
def fY(i j:Nat):Stmt:=(Ri (top i)).getD j (.Pass ⟨0,0,0,0⟩)
inductive DI(K:PySem.W.Frag)(x:Str)(st:Stmt)(f:Addr):Prop
 | mk {oc:Value} {od an:Option Addr} {Lr:Array (Option Value)} {kV wJ pm cN ct:Value} (_:nsIn K mainGlobals x=some (some (.ref f))) (_:K.lookup f=some ⟨oc,od,.func (fnOf x x (nK st) (iA st) (aA st) .none kV wJ pm an cN ct),Lr⟩) (_:codeIn K cN x=true) (_:keepIn K (.ref f)=true)
inductive MI(K:PySem.W.Frag)(C:Addr)(x dc:Str)(st:Stmt)(f:Addr):Prop
 | mk {oc:Value} {od an:Option Addr} {Lr:Array (Option Value)} {kV wJ pm cN ct:Value} (_:findIn K (.ref C) x=some (some (.ref f))) (_:isFn K (.ref f)=true) (_:K.lookup f=some ⟨oc,od,.func (fnOf x dc (nK st) (iA st) (aA st) .none kV wJ pm an cN ct),Lr⟩) (_:codeIn K cN dc=true) (_:keepIn K (.ref f)=true)
inductive CI(K:PySem.W.Frag)(x:Str)(C:Addr):Prop
 | mk (_:nsIn K mainGlobals x=some (some (.ref C))) (_:plainGet K C Str.empty=true) (_:hasDictIn K C=true) (_:plainOver K C=true) (_:findIn K (.ref C) "__setattr__"=some (some (.builtin "object.__setattr__"))) (_:makesIn K C=true) (_:keepIn K (.ref C)=true)
inductive XI(K:PySem.W.Frag)(x:Str)(C:Addr):Prop
 | mk (_:nsIn K mainGlobals x=some (some (.ref C))) (_:PySem.W.excIn K C [.type "ValueError",.type "Exception",.type "BaseException",.type "object"] "ValueError.__new__"=true) (_:PySem.W.exmOne K (.ref C) (.ref C)=some true)
class inductive NR(K:PySem.W.Frag)
 | mk (a:Addr) (ns:List Int) (_:vs=[.ref a]) (_:bL K H a (ns.map V.int)) (_:ns.length<=63) (_: ∀ H',Q (.bl true) H')
abbrev wL:Stmt:=top 69
abbrev t7:Stmt:=top 70
abbrev qM:Stmt:=top 71
abbrev t9:Stmt:=top 72
abbrev Ie:Stmt:=top 11
abbrev J5:Stmt:=top 12
abbrev n8:Stmt:=top 14
abbrev Dm:Stmt:=top 15
abbrev NS:Stmt:=top 16
abbrev kW:Stmt:=fY 27 0
abbrev pD:Stmt:=top 17
abbrev vo:Stmt:=top 31
abbrev Dn:Stmt:=top 32
abbrev pF:Stmt:=top 39
abbrev NT:Stmt:=top 40
abbrev pG:Stmt:=top 37
abbrev jB:Stmt:=top 38
abbrev wM:Stmt:=top 33
abbrev lQ:Stmt:=top 34
abbrev Ig:Stmt:=top 35
abbrev zB:Stmt:=top 42
abbrev pH:Stmt:=top 43
abbrev Dp:Stmt:=top 44
abbrev Ih:Stmt:=top 45
abbrev ua:Stmt:=top 46
abbrev uc:Stmt:=top 48
abbrev Dq:Stmt:=top 47
abbrev ud:Stmt:=top 49
abbrev pI:Stmt:=top 50
abbrev pJ:Stmt:=top 51
abbrev pK:Stmt:=top 53
abbrev qN:Stmt:=top 54
abbrev zC:Stmt:=top 56
abbrev kX:Stmt:=fY 57 0
abbrev ue:Stmt:=fY 57 3
abbrev qO:Stmt:=fY 57 2
abbrev qP:Stmt:=fY 57 1
abbrev jh:Stmt:=fY 57 4
abbrev iL:Stmt:=fY 57 5
abbrev zD:Stmt:=fY 57 7
abbrev iB:Stmt:=fY 57 10
abbrev qQ:Stmt:=fY 57 9
abbrev mw:Stmt:=fY 59 0
abbrev mz:Stmt:=fY 29 0
abbrev mC:Stmt:=fY 61 0
abbrev uf:Stmt:=fY 61 2
abbrev ug:Stmt:=fY 61 1
abbrev nL:Stmt:=fY 61 6
abbrev pL:Stmt:=top 66
abbrev mD:Stmt:=fY 67 1
abbrev n9:Stmt:=fY 67 26
abbrev kY:Stmt:=fY 67 2
abbrev mE:Stmt:=fY 67 3
abbrev mF:Stmt:=fY 67 7
abbrev mG:Stmt:=fY 67 30
abbrev oh:Stmt:=fY 67 6
abbrev pM:Stmt:=fY 67 27
abbrev iM:Stmt:=fY 67 4
abbrev pN:Stmt:=fY 67 8
abbrev jC:Stmt:=fY 67 0
abbrev pO:Stmt:=fY 67 9
abbrev mH:Stmt:=fY 67 11
abbrev vp:Stmt:=fY 67 28
abbrev kZ:Stmt:=fY 67 12
abbrev pP:Stmt:=fY 67 13
abbrev oj:Stmt:=fY 67 10
abbrev lg:Stmt:=top 22
abbrev Dr:Stmt:=top 23
abbrev pQ:Stmt:=fY 27 3
abbrev iN:Stmt:=fY 61 5
abbrev uh:Stmt:=fY 61 3
abbrev jb:Stmt:=fY 67 23
abbrev sX:Stmt:=fY 67 32
abbrev jD:Stmt:=fY 57 6
abbrev lu:Stmt:=fY 57 8
abbrev iO:Stmt:=fY 67 31
abbrev jE:Stmt:=fY 67 29
abbrev ji:Stmt:=fY 67 33
abbrev um:Stmt:=top 75
abbrev pR:Stmt:=top 76
abbrev nM:Stmt:=top 83
abbrev uo:Stmt:=top 84
abbrev uq:Stmt:=top 85
abbrev qR:Stmt:=top 73
abbrev ur:Stmt:=top 78
abbrev om:Stmt:=top 79
abbrev pS:Stmt:=top 80
abbrev wN:Stmt:=top 81
abbrev wO:Stmt:=top 82
abbrev oq:Stmt:=top 98
abbrev pT:Stmt:=top 74
abbrev mJ:Stmt:=top 77
abbrev pU:Stmt:=top 99
abbrev qS:Stmt:=top 86
abbrev sY:Stmt:=fY 67 14
abbrev uu:Stmt:=top 87
abbrev ou:Stmt:=top 88
abbrev oz:Stmt:=top 92
abbrev uv:Stmt:=top 93
abbrev ux:Stmt:=top 94
abbrev pV:Stmt:=top 89
abbrev qT:Stmt:=top 90
abbrev qU:Stmt:=top 91
abbrev uy:Stmt:=top 95
abbrev uz:Stmt:=top 96
abbrev mK:Stmt:=top 97
abbrev mL:Stmt:=top 100
abbrev Rj:Stmt:=top 101
end gv
namespace gv
open L2
inductive Pm(K:PySem.W.Frag)(mg:Str->Option Value)(fa:Addr):Prop
 | mk {h:Heap} {Bf Bg NU:Tok} (dJ gx gk Ce E8 bI aC az:Addr) (X:K.In h) (G:h.Ns mainGlobals mg) (hfa:mg "law"=some (.ref fa))
  (J6:CI K "Shelf" dJ)
  (j9:findIn K (.ref dJ) "states"=some none)
  (j4:findIn K (.ref dJ) "openings"=some none)
  (NV:CI K "Well" gx)
  (uA:findIn K (.ref gx) "signs"=some none)
  (vq:findIn K (.ref gx) "owners"=some none)
  (oN:findIn K (.ref gx) "pourings"=some none)
  (J7:CI K "Blots" gk)
  (vt:findIn K (.ref gk) "stains"=some none)
  (NW:CI K "Ties" Ce)
  (Dt:findIn K (.ref Ce) "given"=some none)
  (Du:findIn K (.ref Ce) "pairs"=some none)
  (NY:CI K "Dues" E8)
  (J8:findIn K (.ref E8) "sums"=some none)
  (Cf:CI K "Library" bI)
  (xY:findIn K (.ref bI) "well"=some none)
  (eZ:findIn K (.ref bI) "shelf"=some none)
  (zE:findIn K (.ref bI) "blots"=some none)
  (Dv:findIn K (.ref bI) "knots"=some none)
  (J9:findIn K (.ref bI) "dues"=some none)
  (E9:findIn K (.ref bI) "book"=some none)
  (q0:DI K "_law_src" wL f0)
  (q1:DI K "_law_next" t7 f1)
  (q2:DI K "_law_whole" qM f2)
  (q3:DI K "_law_same" t9 f3)
  (q4:DI K "plain" Ie f4)
  (q5:DI K "size" J5 f5)
  (q6:DI K "check_places" n8 f6)
  (q7:DI K "pieces" Dm f7)
  (q8:DI K "part" NS f8)
  (q9:MI K gk "__init__" "Blots.__init__" kW f9)
  (Cg:DI K "addresses" pD f10)
  (q11:DI K "windows" vo f11)
  (q12:DI K "below" Dn f12)
  (q13:DI K "way_between" pF f13)
  (q14:DI K "ring" NT f14)
  (q15:DI K "item_weight" pG f15)
  (q16:DI K "weights_below" jB f16)
  (q17:DI K "item_row" wM f17)
  (q18:DI K "views_below" lQ f18)
  (q19:DI K "shown" Ig f19)
  (q20:DI K "goes_on" zB f20)
  (q21:DI K "plain_items" pH f21)
  (q22:DI K "inked" Dp f22)
  (q23:DI K "dealt" Ih f23)
  (q24:DI K "put_among" ua f24)
  (q25:DI K "put_items" uc f25)
  (q26:DI K "parted" Dq f26)
  (q27:DI K "cut_items" ud f27)
  (q28:DI K "moved_items" pI f28)
  (q29:DI K "fixed_items" pJ f29)
  (q30:DI K "ink_words" pK f30)
  (q31:DI K "shown_deed" qN f31)
  (q32:DI K "changed" zC f32)
  (q33:MI K dJ "__init__" "Shelf.__init__" kX f33)
  (q34:MI K dJ "now" "Shelf.now" ue f34)
  (q35:MI K dJ "many" "Shelf.many" qO f35)
  (q36:MI K dJ "step" "Shelf.step" qP f36)
  (q37:MI K dJ "check_sheet" "Shelf.check_sheet" jh f37)
  (q38:MI K dJ "check_moment" "Shelf.check_moment" iL f38)
  (q39:MI K dJ "rows_then" "Shelf.rows_then" iB f39)
  (q40:MI K dJ "rows" "Shelf.rows" qQ f40)
  (q41:MI K dJ "row" "Shelf.row" zD f41)
  (q42:MI K Ce "__init__" "Ties.__init__" mw f42)
  (q43:MI K E8 "__init__" "Dues.__init__" mz f43)
  (q44:MI K gx "__init__" "Well.__init__" mC f44)
  (q45:MI K gx "size" "Well.size" uf f45)
  (q46:MI K gx "pour" "Well.pour" ug f46)
  (q47:MI K gx "holds" "Well.holds" nL f47)
  (q48:DI K "check_weave" pL f48)
  (q49:MI K bI "__init__" "Library.__init__" jC f49)
  (q50:MI K bI "enter" "Library.enter" mD f50)
  (q51:MI K bI "change" "Library.change" kY f51)
  (q52:MI K bI "many" "Library.many" n9 f52)
  (q53:MI K bI "begin" "Library.begin" mE f53)
  (q54:MI K bI "fresh" "Library.fresh" mF f54)
  (q55:MI K bI "ink" "Library.ink" pM f55)
  (q56:MI K bI "check_held" "Library.check_held" iM f56)
  (q57:MI K bI "pour" "Library.pour" oh f57)
  (q58:MI K bI "put" "Library.put" pN f58)
  (q59:MI K bI "shown" "Library.shown" mG f59)
  (q60:MI K bI "cut" "Library.cut" pO f60)
  (q61:MI K bI "quote" "Library.quote" mH f61)
  (q62:MI K bI "row" "Library.row" vp f62)
  (q63:MI K bI "window" "Library.window" kZ f63)
  (q64:MI K bI "fix" "Library.fix" pP f64)
  (q65:MI K bI "move" "Library.move" oj f65)
  (q66:DI K "first_reaching" lg f66)
  (q67:DI K "within" Dr f67)
  (q68:MI K gk "hides" "Blots.hides" pQ f68)
  (q69:MI K gx "check_address" "Well.check_address" iN f69)
  (q70:MI K gx "sign" "Well.sign" uh f70)
  (q71:MI K bI "veiled" "Library.veiled" jb f71)
  (q72:MI K bI "text" "Library.text" sX f72)
  (q73:MI K dJ "check_then" "Shelf.check_then" jD f73)
  (q74:MI K dJ "row_then" "Shelf.row_then" lu f74)
  (q75:MI K bI "row_then" "Library.row_then" jE f75)
  (q76:MI K bI "shown_then" "Library.shown_then" iO f76)
  (q77:MI K bI "text_then" "Library.text_then" ji f77)
  (q78:DI K "_law_sign" um f78)
  (q79:DI K "_law_text" pR f79)
  (q80:DI K "_law_world" nM f80)
  (q81:DI K "_law_keep" uo f81)
  (q82:DI K "_law_swap" uq f82)
  (q83:DI K "_law_spell" qR f83)
  (q84:DI K "_law_show" ur f84)
  (q85:DI K "_law_reached" om f85)
  (q86:DI K "_law_pieces" pS f86)
  (q87:DI K "_law_put" wN f87)
  (q88:DI K "_law_cut" wO f88)
  (q89:DI K "_law_weighed" oq f89)
  (q90:DI K "_law_row_of" pT f90)
  (q91:DI K "_law_items_of" mJ f91)
  (q92:DI K "_law_fits" pU f92)
  (q93:DI K "_law_after" qS f93)
  (q94:MI K bI "back" "Library.back" sY f94)
  (q95:DI K "_law_done" uu f95)
  (q96:DI K "_law_ink_row" ou f96)
  (q97:DI K "_law_move_by" oz f97)
  (q98:DI K "_law_draw" uv f98)
  (q99:DI K "_law_deed" ux f99)
  (Y8:DI K "_law_pour" pV aji)
  (Y9:DI K "_law_fresh" qT ajj)
  (Za:DI K "_law_begin" qU ajk)
  (Zb:DI K "_law_read" uy ajl)
  (Zc:DI K "_law_then" uz ajm)
  (Zd:DI K "_law_then_due" mK ajn)
  (Ze:DI K "_law_one_more" mL ajo)
  (Zf:DI K "law" Rj ajp)
  (z0:nsIn K mainGlobals "len"=some none)
  (z1:nsIn K mainGlobals "list"=some none)
  (z2:nsIn K mainGlobals "tuple"=some none)
  (z3:nsIn K mainGlobals "int"=some none)
  (z4:nsIn K mainGlobals "bool"=some none)
  (z5:nsIn K mainGlobals "str"=some none)
  (z6:nsIn K mainGlobals "range"=some none)
  (z7:nsIn K mainGlobals "zip"=some none)
  (z8:nsIn K mainGlobals "isinstance"=some none)
  (z9:nsIn K mainGlobals "sum"=some none)
  (z10:nsIn K mainGlobals "min"=some none)
  (z11:nsIn K mainGlobals "max"=some none)
  (z12:nsIn K mainGlobals "all"=some none)
  (Fb:XI K "NoSheet" aC)
  (Ci:XI K "NoMoment" az)
  (sZ:nsIn K mainGlobals "MOST_SHEETS"=some (some (.int 40 Bf)))
  (tw:nsIn K mainGlobals "MOST_WEIGHT"=some (some (.int 200 Bg)))
  (Fc:nsIn K mainGlobals "HIDDEN"=some (some (.str "#" NU)))
  (vv:nsIn K mainGlobals "size_spans"=some (some (.ref f5)))
  (tF:nsIn K mainGlobals "shown_weave"=some (some (.ref f19)))
  (xn0:PySem.W.exmOne K (.ref az) (.ref aC)=some false)
def Uo:Prop:=∀ {P:Program} {w:World} {K:PySem.W.Frag} {mg:Str->Option Value} {fa:Addr},Pm K mg fa->∃ fd:FuncData,(∀ (s:Shared) (v:Value),BindsTo s fd ⟨[v],[]⟩ [("_law_script",v)])/\∀ zt:Heap,K.In zt->zt.Ns mainGlobals mg->bf P w K mg zt cM 48 fa fd ["_law_script"] (NR K)
theorem walk{l:PySem.W.OpenLaw}{q:Program}{Cc:List Str}{XP:(Str->Option Value)->Heap->Prop}{YP:World->Heap->Prop}{d:DefRec}{K:Params->PySem.W.Frag}(hn:l.most=some 63)(Y5:d.params.defaults=[])
  (hY:∀ (w:World) (h:Heap),YP w h->(K w.params).In h)
  (F:∀ (w:World) (mg:Str->Option Value) (fa:Addr) (h:Heap),(K w.params).In h->h.Ns mainGlobals mg->mg d.name=some (.ref fa)->
   ∃ fd:FuncData,(∀ (s:Shared) (u:Value),BindsTo s fd ⟨[u],[]⟩ [("_law_script",u)])/\∀ zt:Heap,(K w.params).In zt->zt.Ns mainGlobals mg->bf l.prog w (K w.params) mg zt cM 48 fa fd ["_law_script"] (NR (K w.params))) :
  PySem.W.WalkO q Cc XP YP l.row.toRowW d [] (λf vs=>PySem.call f vs) :=
 L2.Rh (n:=63) (k:=48) (x:="_law_script") (CX:=λ_=>cM) (sp:=λw=>NR (K w.params)) hn (by decide) Y5 ⟨rfl,E,E⟩ hY F (λ_ _ a ns hl _ hS=>⟨a,ns,rfl,hS,hl,λ_=>rfl⟩) λ_ _ _ _ _ z=>z
end gv
namespace InkHd
open PySem.W Rows
set_option maxRecDepth 100000 in
set_option maxHeartbeats 0 in
theorem hd2(A:gv.Uo):PySem.Challenge.rw_inkroot_k39_whole_past_stays.Holds:=by
 refine hd_k39 ?_
 k_fill
 refine gv.walk (l:=PySem.Challenge.rw_inkroot_k39_whole_past_stays) rfl rfl (λw h Y=>kIn_of Y) ?F
 case F =>
  intro w mg fa h KX G Y6
  refine' A (.mk _ _ _ _ _ _ _ _ KX G Y6 (.mk ..) _ _ (.mk ..) _ _ _ (.mk ..) _ (.mk ..) _ _ (.mk ..) _ (.mk ..) _ _ _ _ _ _ (.mk ..) (.mk ..) (.mk ..) (.mk ..) (.mk ..) (.mk ..) (.mk ..) (.mk ..) (.mk ..) (.mk ..) (.mk ..) (.mk ..) (.mk ..) (.mk ..) (.mk ..) (.mk ..) (.mk ..) (.mk ..) (.mk ..) (.mk ..) (.mk ..) (.mk ..) (.mk ..) (.mk ..) (.mk ..) (.mk ..) (.mk ..) (.mk ..) (.mk ..) (.mk ..) (.mk ..) (.mk ..) (.mk ..) (.mk ..) (.mk ..) (.mk ..) (.mk ..) (.mk ..) (.mk ..) (.mk ..) (.mk ..) (.mk ..) (.mk ..) (.mk ..) (.mk ..) (.mk ..) (.mk ..) (.mk ..) (.mk ..) (.mk ..) (.mk ..) (.mk ..) (.mk ..) (.mk ..) (.mk ..) (.mk ..) (.mk ..) (.mk ..) (.mk ..) (.mk ..) (.mk ..) (.mk ..) (.mk ..) (.mk ..) (.mk ..) (.mk ..) (.mk ..) (.mk ..) (.mk ..) (.mk ..) (.mk ..) (.mk ..) (.mk ..) (.mk ..) (.mk ..) (.mk ..) (.mk ..) (.mk ..) (.mk ..) (.mk ..) (.mk ..) (.mk ..) (.mk ..) (.mk ..) (.mk ..) (.mk ..) (.mk ..) (.mk ..) (.mk ..) (.mk ..) (.mk ..) (.mk ..) (.mk ..) (.mk ..) (.mk ..) (.mk ..) (.mk ..) (.mk ..) (.mk ..) (.mk ..) (.mk ..) (.mk ..) (.mk ..) (.mk ..) (.mk ..) (.mk ..) (.mk ..) (.mk ..) _ _ _ _ _ _ _ _ _ _ _ _ _ (.mk ..) (.mk ..) _ _ _ _ _ _)
  all_goals try first|k_is|k_exc|kts_exm
end InkHd
namespace dh
open Spec Rows L2
section
variable {X:Cx}
theorem dZ:kq X (.builtin "isinstance") (λxs H Q=>∃ x T t b,xs=[x,.ty T]/\ku X.K H x t/\kitOne X.K t (.type T)=some b/\Q (.bl b) H):=by
 intro ao s σ H xs us Q I r h;obtain⟨x,T,t,b,rfl,ty,e,q⟩:=h;obtain⟨u,v,rfl,rx,rv⟩:=r.two;cases (show v=Value.type T from rv);exact Lo I rx ty e λtk=>⟨.bl b,H,I.tok tk,rfl,q⟩
theorem qm{x:Str}{T:String}(hg:Gl X x)(hm:X.mg x=none)(hv:bootBuiltins x=some (.type T))(hn:x≠"__name__":=by decide)(hd:(x == ("__debug__":Str))=false:=by decide):PE X (.Name x pos) (tC (.ty T)) :=
 QV hg hm hv rfl hn hd
end
theorem Rk{X:Cx}{σ:L2.St}{H:Hp}{s:Shared}{h':Heap}{t':Nat}{ch:List Addr}(I:Inv X ao σ H s)(k:∀ b o,b∉ch->s.heap.get? b=some o->h'.get? b=some o)
  (hf:∀ b∈ch,pC X ao H b):Inv X ao σ H { s with heap:=h',toks:=t' }:=by
 have Ud:∀ b u,H b=some u->b∉ch:=λb u e z=>by rw[(hf b z).1]at e;cases e
 refine I.step (g':=s.gens) (d':=s.drawn) (ch:=ch) (λb hb=>?_) (λb o _ _ hc e _=>k b o hc e) (λb o _ _ hc e _=>⟨o.slots,k b o hc e⟩) (λ_ _ _ _ n=>n) (λb o hc e=>⟨o,k b o hc e⟩) (λ_ _ e=>e) (λ_ _ _ e=>e) (λb ps e=>⟨#[],by rw[e];simp⟩) (λm hm=>?_) (λb u e=>?_) I.bare
 ·obtain⟨_,f1,_,f3,f4,f5⟩:=hf b hb;exact⟨f3,f1,f4,f5⟩
 ·obtain⟨o,es,ep,ho,r⟩:=hm;exact⟨o,es,ep,k _ o (λz=>(hf _ z).2.1 rfl) ho,r⟩
 ·refine (I.hok b u e).stay (λc v hc q=>k c v ?_ q) (λ_ q=>q) λ_ _ q=>q;rcases hc with z|z
  ·rw[z];exact Ud b u e
  ·exact Ud c _ z
theorem Zg{X:Cx}{σ:L2.St}{H:Hp}{s:Shared}{h':Heap}{t':Nat}{ch:List Addr}{p:Addr}{xs:List V}{us:List Value}(I:Inv X ao σ H s)(k:∀ b o,b∉ch->s.heap.get? b=some o->h'.get? b=some o)
  (hf:∀ b∈ch,pC X ao H b) (hp:s.heap.objs.size<=p) (hz:xs.length<=sizeLine) (rv:cy xs us) (ht:IsTup h' p us.toArray):Inv X ao σ (aP H p (.tup xs)) { s with heap:=h',toks:=t' }:=by
 have hn:H p=none:=I.hok.fresh hp;have Ud:∀ b u,H b=some u->b∉ch:=λb u e z=>by rw[(hf b z).1]at e;cases e
 have nep:∀ b o,s.heap.get? b=some o->b≠p:=λb o e z=>by subst z;exact absurd (o6 (Heap.lt_size e) hp) (Nat.lt_irrefl _)
 refine I.step (g':=s.gens) (d':=s.drawn) (ch:=ch) (λb hb=>?_) (λb o _ _ hc e _=>k b o hc e) (λb o _ _ hc e _=>⟨o.slots,k b o hc e⟩) (λb o _ e n=>by rw[aN (nep b o e)];exact n) (λb o hc e=>⟨o,k b o hc e⟩) (λb ys e=>by rw[aN (aB e hn)];exact e) (λb _ _ e=>by rw[aN (aB e hn)];exact e) (λb ps e=>⟨#[],by rw[aN (aB e hn),e];simp⟩) (λm hm=>?_) (λb u e=>?_) I.bare
 ·obtain⟨_,f1,_,f3,f4,f5⟩:=hf b hb;exact⟨f3,f1,f4,f5⟩
 ·obtain⟨o,es,ep,ho,r⟩:=hm;exact⟨o,es,ep,k _ o (λz=>(hf _ z).2.1 rfl) ho,r⟩
 ·by_cases hb:b=p
  ·subst hb;rw[af]at e;cases e;exact⟨hz,us,rv,ht⟩
  ·rw[aN hb]at e;refine (I.hok b u e).stay (λc v hc q=>k c v ?_ q) (λc q=>by rw[aN (aB q hn)];exact q) λc ys q=>by rw[aN (aB q hn)];exact q
   rcases hc with z|z
   ·rw[z];exact Ud b u e
   ·exact Ud c _ z
def Ho(k:Bool)(h:Heap)(i a:Addr)(n:Nat):Prop:=match k with
 | true=>h.IsListIter i a n
 | false=>h.IsTupleIter i a n
def A8(k:Bool)(h:Heap)(a:Addr)(xs:Array Value):Prop:=match k with
 | true=>h.IsList a xs
 | false=>h.IsTuple a xs
theorem Ho.at{k:Bool}{h h':Heap}{i a:Addr}{n:Nat}(x:Ho k h i a n)(e:∀ o,h.get? i=some o->h'.get? i=some o):Ho k h' i a n:=by
 cases k
 ·obtain⟨o,ho,r⟩:=x;exact⟨o,e o ho,r⟩
 ·obtain⟨o,ho,r⟩:=x;exact⟨o,e o ho,r⟩
theorem A8.at{k:Bool}{h h':Heap}{a:Addr}{xs:Array Value}(x:A8 k h a xs)(e:∀ o,h.get? a=some o->h'.get? a=some o):A8 k h' a xs:=by
 cases k
 ·obtain⟨o,ho,r⟩:=x;exact⟨o,e o ho,r⟩
 ·obtain⟨o,ho,r⟩:=x;exact⟨o,e o ho,r⟩
theorem Ho.obj{k:Bool}{h:Heap}{i a:Addr}{n:Nat}(x:Ho k h i a n):∃ o,h.get? i=some o/\∀ v,o.data≠.cell v:=by
 cases k
 ·obtain⟨o,ho,_,d⟩:=x;exact⟨o,ho,λv z=>by rw[d]at z;cases z⟩
 ·obtain⟨o,ho,_,d⟩:=x;exact⟨o,ho,λv z=>by rw[d]at z;cases z⟩
section
variable {prog:Program} {w:World} {A:Around} {E:Value->Shared->Prop} {s:Shared}
theorem Ii{it t:Addr}{i:Nat}{items:Array Value}{x:Value}{Q:Value->Shared->Prop}(uB:s.heap.IsTupleIter it t i)(ht:s.heap.IsTuple t items)(hx:items[i]?=some x)
  (hQ:∀ h',h'.IsTupleIter it t (i+1)->Heap.SameBut it s.heap h'->Q x { s with heap:=h' }):wpAny (model prog w) A (Builtin.SmallTypes.nextOf (.ref it)) Q E s:=by
 obtain⟨o,ho,hc,hd⟩:=id uB;obtain⟨ol,hol,_,nl,Rl⟩:=ht;unfold Builtin.SmallTypes.nextOf;refine wpAny_bind (wpAny_callSpecial?_slot (name:=Str.ofString "__next__") uB.typeIs F.slot_tuple_iterator_next (wpAny_call_entry F.slot_tuple_iterator_next uB.typeIs F.entry_tuple_iterator_next ?_ (F.args_tuple_iterator_next_1 _)));show wpAny _ _ (field (.ref it) 0 >>= _) _ _ s;refine wpAny_bind (wpAny_field ho hd (x:=.ref t) rfl ?_);show wpAny _ _ (if (Value.ref t == Value.none)=true then _ else _) _ _ s;rw[if_neg (show ¬ ((Value.ref t == Value.none)=true) from gB)];show wpAny _ _ (field (.ref it) 1 >>= _) _ _ s;refine wpAny_bind (wpAny_field ho hd (x:=.int i 0) rfl ?_);show wpAny _ _ (seqItems? (.ref t) >>= _) _ _ s;refine wpAny_bind (wpAny_seqItems hol Rl ?_);simp only[Int.toNat_natCast,hx];refine wpAny_bind (wpAny_setField ho hd (by simp) (wpAny_pure ⟨x,rfl,wpAny_pure (hQ _ ?_ (Heap.SameBut.update ..))⟩));exists _,Heap.get?_update_self _ ho (Obj.isFreed_of_fields (Obj.data_mapFields hd _)),(Obj.cls_mapFields ..).trans hc;rw[Obj.data_mapFields hd];simp[rawInt]
theorem Lv{it t:Addr}{i:Nat}{items:Array Value}{Q:Value->Shared->Prop}(hh:A.handled=none)(uB:s.heap.IsTupleIter it t i)(ht:s.heap.IsTuple t items)(hx:items[i]?=none)
  (hE:∀ h' e,Heap.ExtBut it s.heap h'->(∃ o,h'.get? e=some o/\o.cls=.type "StopIteration")->E (.ref e) { s with heap:=h' }):wpAny (model prog w) A (Builtin.SmallTypes.nextOf (.ref it)) Q E s:=by
 obtain⟨o,ho,hc,hd⟩:=id uB;obtain⟨ol,hol,_,nl,Rl⟩:=ht;unfold Builtin.SmallTypes.nextOf;refine wpAny_bind (wpAny_callSpecial?_slot (name:=Str.ofString "__next__") uB.typeIs F.slot_tuple_iterator_next (wpAny_call_entry F.slot_tuple_iterator_next uB.typeIs F.entry_tuple_iterator_next ?_ (F.args_tuple_iterator_next_1 _)));show wpAny _ _ (field (.ref it) 0 >>= _) _ _ s;refine wpAny_bind (wpAny_field ho hd (x:=.ref t) rfl ?_);show wpAny _ _ (if (Value.ref t == Value.none)=true then _ else _) _ _ s;rw[if_neg (show ¬ ((Value.ref t == Value.none)=true) from gB)];show wpAny _ _ (field (.ref it) 1 >>= _) _ _ s;refine wpAny_bind (wpAny_field ho hd (x:=.int i 0) rfl ?_);show wpAny _ _ (seqItems? (.ref t) >>= _) _ _ s;refine wpAny_bind (wpAny_seqItems hol Rl ?_);simp only[Int.toNat_natCast,hx];refine wpAny_bind (wpAny_rule (wpAny_bind (wpAny_setField ho hd (by simp) ?_)));show wpAny _ _ (newExc (.type "StopIteration") [] >>= _) _ _ _;refine wpAny_bind ?_;simp only[newExc,newTuple];refine wpAny_bind (wpAny_newObj_type ?_ (by size_fits))
 refine wpAny_bind (m:=firstArgMember _ _) (wpAny_of_eq (a:=Value.none) (by first|rfl|(simp only[firstArgMember];rfl)) ?_)
 refine wpAny_newObj_type ?_ (by size_fits);simp only[raiseNew];refine wpAny_bind (wpAny_handled ?_)
 first|rw[show A.in1.handled=none from hh]|rw[hh]
 refine wpAny_bind (wpAny_pure (wpAny_throw ?_));exact hE _ _ (((Heap.SameBut.update ..).extBut.push _).push _) ⟨_,Heap.get?_push_size _ rfl,rfl⟩
theorem uC{k:Bool}{it t:Addr}{i:Nat}{items:Array Value}{x:Value}{Q:Value->Shared->Prop}(uB:Ho k s.heap it t i)(ht:A8 k s.heap t items)(hx:items[i]?=some x)
  (hQ:∀ h',Ho k h' it t (i+1)->Heap.SameBut it s.heap h'->Q x { s with heap:=h' }):wpAny (model prog w) A (Builtin.SmallTypes.nextOf (.ref it)) Q E s:=by
 cases k
 ·exact Ii uB ht hx hQ
 ·exact wpAny_nextOf_list_item uB ht hx hQ
theorem Cj{k:Bool}{it t:Addr}{i:Nat}{items:Array Value}{Q:Value->Shared->Prop}(hh:A.handled=none)(uB:Ho k s.heap it t i)(ht:A8 k s.heap t items)(hx:items[i]?=none)
  (hE:∀ h' e,Heap.ExtBut it s.heap h'->(∃ o,h'.get? e=some o/\o.cls=.type "StopIteration")->E (.ref e) { s with heap:=h' }):wpAny (model prog w) A (Builtin.SmallTypes.nextOf (.ref it)) Q E s:=by
 cases k
 ·exact Lv hh uB ht hx hE
 ·exact wpAny_nextOf_list_end hh uB ht hx hE
abbrev Ck(k:Bool)(l:Addr):Obj:={ cls:=.type (if k then "list_iterator" else "tuple_iterator"),data:=.fields #[.ref l,.int 0 0] }
theorem Up{k:Bool}{xs:Array Value}{Q:Value->Shared->Prop}(h:A8 k s.heap l xs)(hQ:Q (.ref s.heap.objs.size) { s with heap:=s.heap.push (Ck k l) }):wpAny (model prog w) A (pyIter (.ref l)) Q E s:=by
 cases k
 ·exact wpAny_pyIter_tuple h hQ
 ·exact wpAny_pyIter_list h hQ
structure Cm(k:Bool)(h:Heap)(z TI TO i1 i2 l1 l2:Addr)(n:Nat):Prop where
 z:IsZip h z TI TO .none
 ti:IsPair h TI (.ref i1) (.ref i2)
 to:∃ a b,IsPair h TO a b
 i1:Ho k h i1 l1 n
 i2:Ho k h i2 l2 n
theorem Lw{k:Bool}{z TI TO i1 i2 l1 l2:Addr}{n:Nat}{xs ys:Array Value}{x y:Value}{Q:Value->Shared->Prop}(D:ZipApart z TI TO i1 i2 l1 l2)(st:Cm k s.heap z TI TO i1 i2 l1 l2 n)
  (Ij:A8 k s.heap l1 xs) (Cb:A8 k s.heap l2 ys) (hx:xs[n]?=some x) (hy:ys[n]?=some y)
  (hQ:∀ h',IsZip h' z TI TO (rawInt s.heap.objs.size)->IsPair h' TO x y->Ho k h' i1 l1 (n+1)->Ho k h' i2 l2 (n+1)->IsPair h' s.heap.objs.size x y->
   (∀ c o,c≠z->c≠TO->c≠i1->c≠i2->s.heap.get? c=some o->h'.get? c=some o)->Q (.ref s.heap.objs.size) { s with heap:=h' }) :
  wpAny (model prog w) A (Builtin.«zip.__next__» ⟨[.ref z],[]⟩) (λkO s'=>∃ v,kO=.done (.ret v)/\Q v s') E s:=by
 obtain⟨hz,hTI,⟨a,b,hTO⟩,h1,h2⟩:=st;show wpAny _ _ (field (.ref z) 2 >>= _) _ _ _;refine wpAny_bind (wpAny_field hz rfl (x:=.bool false) rfl ?_);show wpAny _ _ (field (.ref z) 3 >>= _) _ _ _;refine wpAny_bind (wpAny_field hz rfl (x:=.ref TI) rfl (wpAny_bind (wpAny_seqItems hTI rfl ?_)));show wpAny _ _ (Builtin.SmallTypes.ownedTupleIsFree (.ref z) >>= _) _ _ _;refine wpAny_bind ?_;unfold Builtin.SmallTypes.ownedTupleIsFree;refine wpAny_bind (wpAny_field hz rfl (x:=.none) rfl (wpAny_pure ?_));simp only[if_true];refine wpAny_bind (wpAny_rule (wpAny_bind (wpAny_field hz rfl (x:=.ref TO) rfl (wpAny_bind (wpAny_setField_rec hz (by simp) λg1 z1 c1=>?_)))))
 replace z1:IsZip g1 z TI TO .ellipsis:=z1
 refine wpAny_bind ?_;simp only[List.zipIdx_cons,List.zipIdx_nil,List.forIn_cons,List.forIn_nil];refine wpAny_bind (wpAny_bind (wpAny_onRaise ?_));show wpAny _ _ (Builtin.SmallTypes.nextOf (.ref i1) >>= _) _ _ _;refine wpAny_bind (uC (h1.at λo e=>c1.extBut _ _ D.i1z e) (Ij.at λo e=>c1.extBut _ _ D.l1z e) hx λg2 h12 c2=>wpAny_pure ?_);have o2:IsPair g2 TO a b:=c2.extBut _ _ D.TOi1 (c1.extBut _ _ D.TOz hTO);refine wpAny_bind (wpAny_seqItems o2 rfl (wpAny_bind (wpAny_updateSeq_pair o2 λg3 o3 c3=>?_)))
 replace o3:IsPair g3 TO x b:=o3
 refine wpAny_bind (wpAny_letGo (wpAny_pure (wpAny_bind (wpAny_bind (wpAny_onRaise ?_)))));show wpAny _ _ (Builtin.SmallTypes.nextOf (.ref i2) >>= _) _ _ _;refine wpAny_bind (uC (((h2.at λo e=>c1.extBut _ _ D.i2z e).at λo e=>c2.extBut _ _ D.i12.symm e).at λo e=>c3.extBut _ _ D.TOi2.symm e) (((Cb.at λo e=>c1.extBut _ _ D.l2z e).at λo e=>c2.extBut _ _ D.l2i1 e).at λo e=>c3.extBut _ _ D.l2TO e) hy λg4 h24 c4=>wpAny_pure ?_);have o4:IsPair g4 TO x b:=c4.extBut _ _ D.TOi2 o3;refine wpAny_bind (wpAny_seqItems o4 rfl (wpAny_bind (wpAny_updateSeq_pair o4 λg5 o5 c5=>?_)))
 replace o5:IsPair g5 TO x y:=o5
 refine wpAny_bind (wpAny_letGo (wpAny_pure (wpAny_pure (wpAny_bind (wpAny_seqItems o5 rfl (wpAny_bind (wpAny_newTuple ?_)))))));have sz:g5.objs.size=s.heap.objs.size:=by rw[c5.1,c4.1,c3.1,c2.1,c1.1]
 have z5:IsZip g5 z TI TO .ellipsis:=c5.extBut _ _ D.TOz.symm (c4.extBut _ _ D.i2z.symm (c3.extBut _ _ D.TOz.symm (c2.extBut _ _ D.i1z.symm z1)));have k5:∀ c o,c≠z->c≠TO->c≠i1->c≠i2->s.heap.get? c=some o->g5.get? c=some o:=λc o n1 n2 n3 n4 e=>c5.extBut _ _ n2 (c4.extBut _ _ n4 (c3.extBut _ _ n2 (c2.extBut _ _ n3 (c1.extBut _ _ n1 e))));have h15:Ho k g5 i1 l1 (n+1):=((h12.at λo e=>c3.extBut _ _ D.TOi1.symm e).at λo e=>c4.extBut _ _ D.i12 e).at λo e=>c5.extBut _ _ D.TOi1.symm e;have h25:Ho k g5 i2 l2 (n+1):=h24.at λo e=>c5.extBut _ _ D.TOi2.symm e;have zlt:z<g5.objs.size:=Heap.lt_size z5;show wpAny _ _ (Builtin.SmallTypes.ownedTupleHandOut (.ref z) (.ref g5.objs.size) >>= _) _ _ _;refine wpAny_bind ?_;unfold Builtin.SmallTypes.ownedTupleHandOut;have z6:IsZip (g5.push { cls:=.type "tuple",data:=.seq #[x,y] }) z TI TO .ellipsis:=Heap.get?_push_of_some _ z5;refine wpAny_bind (wpAny_setField_rec z6 (by simp) λg7 z7 c7=>?_)
 replace z7:IsZip g7 z TI TO (rawInt g5.objs.size):=z7
 refine wpAny_setField_rec z7 (by simp) λg8 z8 c8=>?_
 replace z8:IsZip g8 z TI TO (rawInt g5.objs.size):=z8
 have up:∀ c o,c≠z->g5.get? c=some o->g8.get? c=some o:=λc o n1 e=>c8.extBut _ _ n1 (c7.extBut _ _ n1 (Heap.get?_push_of_some _ e));have t8:IsPair g8 g5.objs.size x y:=c8.extBut _ _ (Nat.ne_of_gt zlt) (c7.extBut _ _ (Nat.ne_of_gt zlt) (Heap.get?_push_size _ rfl));rw[sz]at z8 t8;refine wpAny_pure ⟨Y,?_⟩;show Q (.ref g5.objs.size) _;rw[sz];exact hQ g8 z8 (up _ _ D.TOz o5) (h15.at λo e=>up _ o D.i1z e) (h25.at λo e=>up _ o D.i2z e) t8 λc o n1 n2 n3 n4 e=>up c o n1 (k5 c o n1 n2 n3 n4 e)
theorem NZ{k:Bool}{z TI TO i1 i2 l1 l2:Addr}{n:Nat}{xs ys:Array Value}{Q:Fin->Shared->Prop}(hh:A.handled=none)(D:ZipApart z TI TO i1 i2 l1 l2)(st:Cm k s.heap z TI TO i1 i2 l1 l2 n)
  (Ij:A8 k s.heap l1 xs) (Cb:A8 k s.heap l2 ys) (VL:xs[n]?=none\/ys[n]?=none)
  (hE:∀ h' e,(∀ c o,c≠z->c≠TO->c≠i1->c≠i2->s.heap.get? c=some o->h'.get? c=some o)->(∃ o,h'.get? e=some o/\o.cls=.type "StopIteration")->E (.ref e) { s with heap:=h' }) :
  wpAny (model prog w) A (Builtin.«zip.__next__» ⟨[.ref z],[]⟩) Q E s:=by
 obtain⟨hz,hTI,⟨a,b,hTO⟩,h1,h2⟩:=st;show wpAny _ _ (field (.ref z) 2 >>= _) _ _ _;refine wpAny_bind (wpAny_field hz rfl (x:=.bool false) rfl ?_);show wpAny _ _ (field (.ref z) 3 >>= _) _ _ _;refine wpAny_bind (wpAny_field hz rfl (x:=.ref TI) rfl (wpAny_bind (wpAny_seqItems hTI rfl ?_)));show wpAny _ _ (Builtin.SmallTypes.ownedTupleIsFree (.ref z) >>= _) _ _ _;refine wpAny_bind ?_;unfold Builtin.SmallTypes.ownedTupleIsFree;refine wpAny_bind (wpAny_field hz rfl (x:=.none) rfl (wpAny_pure ?_));simp only[if_true];refine wpAny_bind (wpAny_rule (wpAny_bind (wpAny_field hz rfl (x:=.ref TO) rfl (wpAny_bind (wpAny_setField_rec hz (by simp) λg1 z1 c1=>?_)))))
 replace z1:IsZip g1 z TI TO .ellipsis:=z1
 refine wpAny_bind ?_;simp only[List.zipIdx_cons,List.zipIdx_nil,List.forIn_cons,List.forIn_nil];refine wpAny_bind (wpAny_bind (wpAny_onRaise ?_));show wpAny _ _ (Builtin.SmallTypes.nextOf (.ref i1) >>= _) _ _ _
 cases hx:xs[n]? with
 | none =>
  refine wpAny_bind (Cj hh (h1.at λo e=>c1.extBut _ _ D.i1z e) (Ij.at λo e=>c1.extBut _ _ D.l1z e) hx λg2 e c2 he=>?_);obtain⟨oe,VM,hce⟩:=he;have z2:IsZip g2 z TI TO .ellipsis:=c2 _ _ D.i1z.symm z1;have hez:e≠z:=λx=>by subst x;rw[z2]at VM;cases VM;simp at hce
  exact wpAny_setField_rec z2 (by simp) λg3 _ c3=>hE g3 e (λc o n1 _ n3 _ x=>c3.extBut _ _ n1 (c2 _ _ n3 (c1.extBut _ _ n1 x))) ⟨oe,c3.extBut _ _ hez VM,hce⟩
 | some x =>
  have hy:ys[n]?=none:=by rcases VL with h|h;(rw[hx]at h;cases h);exact h
  refine wpAny_bind (uC (h1.at λo e=>c1.extBut _ _ D.i1z e) (Ij.at λo e=>c1.extBut _ _ D.l1z e) hx λg2 h12 c2=>wpAny_pure ?_);have o2:IsPair g2 TO a b:=c2.extBut _ _ D.TOi1 (c1.extBut _ _ D.TOz hTO);refine wpAny_bind (wpAny_seqItems o2 rfl (wpAny_bind (wpAny_updateSeq_pair o2 λg3 o3 c3=>?_)));refine wpAny_bind (wpAny_letGo (wpAny_pure (wpAny_bind (wpAny_bind (wpAny_onRaise ?_)))));show wpAny _ _ (Builtin.SmallTypes.nextOf (.ref i2) >>= _) _ _ _;refine wpAny_bind (Cj hh (((h2.at λo e=>c1.extBut _ _ D.i2z e).at λo e=>c2.extBut _ _ D.i12.symm e).at λo e=>c3.extBut _ _ D.TOi2.symm e) (((Cb.at λo e=>c1.extBut _ _ D.l2z e).at λo e=>c2.extBut _ _ D.l2i1 e).at λo e=>c3.extBut _ _ D.l2TO e) hy λg4 e c4 he=>?_);obtain⟨oe,VM,hce⟩:=he;have z4:IsZip g4 z TI TO .ellipsis:=c4 _ _ D.i2z.symm (c3.extBut _ _ D.TOz.symm (c2.extBut _ _ D.i1z.symm z1));have hez:e≠z:=λx=>by subst x;rw[z4]at VM;cases VM;simp at hce
  exact wpAny_setField_rec z4 (by simp) λg5 _ c5=>hE g5 e (λc o n1 n2 n3 n4 x=>c5.extBut _ _ n1 (c4 _ _ n4 (c3.extBut _ _ n2 (c2.extBut _ _ n3 (c1.extBut _ _ n1 x))))) ⟨oe,c5.extBut _ _ hez VM,hce⟩
theorem Ik{k:Bool}{z TI TO i1 i2 l1 l2:Addr}{n:Nat}{xs ys:Array Value}{x y:Value}{Q:Option Value->Shared->Prop}(D:ZipApart z TI TO i1 i2 l1 l2)(st:Cm k s.heap z TI TO i1 i2 l1 l2 n)
  (Ij:A8 k s.heap l1 xs) (Cb:A8 k s.heap l2 ys) (hx:xs[n]?=some x) (hy:ys[n]?=some y)
  (hQ:∀ h',IsZip h' z TI TO (rawInt s.heap.objs.size)->IsPair h' TO x y->Ho k h' i1 l1 (n+1)->Ho k h' i2 l2 (n+1)->IsPair h' s.heap.objs.size x y->
   (∀ c o,c≠z->c≠TO->c≠i1->c≠i2->s.heap.get? c=some o->h'.get? c=some o)->Q (some (.ref s.heap.objs.size)) { s with heap:=h' }):wpAny (model prog w) A (pyNext (.ref z)) Q E s:=by
 have hT:s.TypeIs (.ref z) "zip":=⟨_,st.z,rfl⟩;unfold pyNext;exact wpAny_bind (wpAny_attempt (wpAny_callSpecial?_slot (name:=Str.ofString "__next__") hT F.slot_zip_next (wpAny_call_entry F.slot_zip_next hT F.entry_zip_next (Lw D st Ij Cb hx hy λh' a1 a2 a3 a4 a5 a7=>wpAny_pure (hQ h' a1 a2 a3 a4 a5 a7)) (F.args_zip_next_1 _))))
theorem Lx{k:Bool}{z TI TO i1 i2 l1 l2:Addr}{n:Nat}{xs ys:Array Value}{Q:Option Value->Shared->Prop}(hh:A.handled=none)(D:ZipApart z TI TO i1 i2 l1 l2)(st:Cm k s.heap z TI TO i1 i2 l1 l2 n)
  (Ij:A8 k s.heap l1 xs) (Cb:A8 k s.heap l2 ys) (VL:xs[n]?=none\/ys[n]?=none)
  (hQ:∀ h',(∀ c o,c≠z->c≠TO->c≠i1->c≠i2->s.heap.get? c=some o->h'.get? c=some o)->Q none { s with heap:=h' }):wpAny (model prog w) A (pyNext (.ref z)) Q E s:=by
 have hT:s.TypeIs (.ref z) "zip":=⟨_,st.z,rfl⟩;unfold pyNext;refine wpAny_bind (wpAny_attempt (wpAny_callSpecial?_slot (name:=Str.ofString "__next__") hT F.slot_zip_next (wpAny_call_entry F.slot_zip_next hT F.entry_zip_next (NZ hh D st Ij Cb VL λh' e hk he=>?_) (F.args_zip_next_1 _))));obtain⟨o,ho,hc⟩:=he;exact wpAny_bind (wpAny_isInstance (T:="StopIteration") (b:=true) ⟨o,ho,hc⟩ isSubtype_stop (wpAny_pure (hQ _ hk)))
end
abbrev zH1(k:Bool)(h:Heap)(l1:Addr):Heap:=h.push (Ck k l1)
abbrev zH2(k:Bool)(h:Heap)(l1 l2:Addr):Heap:=(zH1 k h l1).push (Ck k l2)
abbrev zH3(k:Bool)(h:Heap)(l1 l2:Addr):Heap:=(zH2 k h l1 l2).push { cls:=.type "tuple",data:=.seq #[.ref h.objs.size,.ref (zH1 k h l1).objs.size] }
abbrev zH4(k:Bool)(h:Heap)(l1 l2:Addr):Heap:=(zH3 k h l1 l2).push { cls:=.type "tuple",data:=.seq #[.none,.none] }
abbrev XZ(k:Bool)(h:Heap)(l1 l2:Addr):Heap:=(zH4 k h l1 l2).push { cls:=.type "zip",data:=.fields #[.none,.bool false,.bool false,.ref (zH2 k h l1 l2).objs.size,.ref (zH3 k h l1 l2).objs.size] }
theorem Il(k:Bool)(l1 l2:Addr)(xs ys:Array Value) :
  Meets (Builtin.«zip.__new__» ⟨[.type "zip",.ref l1,.ref l2],[]⟩) (λ_ R s=>A8 k s.heap l1 xs/\A8 k s.heap l2 ys/\R (.ok (.ret (.ref (zH4 k s.heap l1 l2).objs.size))) { s with heap:=XZ k s.heap l1 l2 }) :=
 .of_wp λprog w A R s h=>by
  obtain⟨hp,g,d,tk,os⟩:=s;obtain⟨Ij,Cb,h⟩:=h;have hsub:=sub_zip;have hL1:A8 k (Shared.heap ⟨hp,g,d,tk,os⟩) l1 xs:=Ij;have hL2:A8 k (Shared.heap ⟨hp.push (Ck k l1),g,d,tk,os⟩) l2 ys:=Cb.at λo e=>Heap.get?_push_of_some _ e
  wp_walk using Up hL1,Up hL2
  exact⟨Y,h⟩
section
variable {prog:Program} {w:World} {A:Around} {E:Value->Shared->Prop} {s:Shared}
theorem Ly{k:Bool}{l1 l2:Addr}{xs ys:Array Value}{Q:Value->Shared->Prop}(Ij:A8 k s.heap l1 xs)(Cb:A8 k s.heap l2 ys)
  (h:∀ h',Cm k h' (s.heap.objs.size+4) (s.heap.objs.size+2) (s.heap.objs.size+3) s.heap.objs.size (s.heap.objs.size+1) l1 l2 0->(∀ c o,s.heap.get? c=some o->h'.get? c=some o)->Q (.ref (s.heap.objs.size+4)) { s with heap:=h' }) :
  wpAny (model prog w) A (call (.type "zip") [.ref l1,.ref l2]) Q E s:=by
 refine callType_new F.called_zip (by decide) (F.typeCall_zip_2 _ _) (F.newCall_zip_2 _ _) (λobj=>F.args_object_init_3 obj _ _) F.entry_zip_new (Il k l1 l2 xs ys) ⟨Ij,Cb,?_⟩;have z1:(zH1 k s.heap l1).objs.size=s.heap.objs.size+1:=Heap.size_push ..;have z2:(zH2 k s.heap l1 l2).objs.size=s.heap.objs.size+2:=by rw[Heap.size_push,z1]
 have z3:(zH3 k s.heap l1 l2).objs.size=s.heap.objs.size+3:=by rw[Heap.size_push,z2]
 have z4:(zH4 k s.heap l1 l2).objs.size=s.heap.objs.size+4:=by rw[Heap.size_push,z3]
 have g5:(XZ k s.heap l1 l2).get? (zH4 k s.heap l1 l2).objs.size=some _:=Heap.get?_push_size _ rfl;have g4:(XZ k s.heap l1 l2).get? (zH3 k s.heap l1 l2).objs.size=some _:=Heap.get?_push_of_some _ (Heap.get?_push_size _ rfl);have g3:(XZ k s.heap l1 l2).get? (zH2 k s.heap l1 l2).objs.size=some _:=Heap.get?_push_of_some _ (Heap.get?_push_of_some _ (Heap.get?_push_size _ rfl));have g2:(XZ k s.heap l1 l2).get? (zH1 k s.heap l1).objs.size=some (Ck k l2):=Heap.get?_push_of_some _ (Heap.get?_push_of_some _ (Heap.get?_push_of_some _ (Heap.get?_push_size _ rfl)));have g1:(XZ k s.heap l1 l2).get? s.heap.objs.size=some (Ck k l1):=Heap.get?_push_of_some _ (Heap.get?_push_of_some _ (Heap.get?_push_of_some _ (Heap.get?_push_of_some _ (Heap.get?_push_size _ rfl))));show _/\_;rw[z2,z3,z4]at g5;rw[z1,z2]at g3;rw[z3]at g4;rw[z1]at g2;rw[z4];refine⟨⟨_,g5,rfl⟩,h _ ⟨g5,g3,⟨P,g4⟩,?_,?_⟩ λc o x=>Heap.get?_push_of_some _ (Heap.get?_push_of_some _ (Heap.get?_push_of_some _ (Heap.get?_push_of_some _ (Heap.get?_push_of_some _ x))))⟩
 ·cases k
  ·exact⟨_,g1,V⟩
  ·exact⟨_,g1,V⟩
 ·cases k
  ·exact⟨_,g2,V⟩
  ·exact⟨_,g2,V⟩
end
def Ka(K:PySem.W.Frag)(k:Bool)(H:Hp)(a:Addr)(xs:List V):Prop:=match k with
 | true=>bL K H a xs
 | false=>dG K H a xs
theorem wQ{X:Cx}{σ:L2.St}{H:Hp}{s:Shared}{k:Bool}{a:Addr}{xs:List V}(I:Inv X ao σ H s)(h:Ka X.K k H a xs):∃ aO:List Value,cy xs aO/\A8 k s.heap a aO.toArray/\xs.length<=sizeLine:=by
 cases k
 ·obtain⟨aO,r,p,z⟩:=I.tuple h;exact⟨aO,r,p,z⟩
 ·obtain⟨aO,r,p,z⟩:=I.list h;exact⟨aO,r,p.isList,z⟩
theorem Kc{X:Cx}{σ:L2.St}{H:Hp}{s:Shared}{k:Bool}{a:Addr}{xs ys:List V}(I:Inv X ao σ H s)(h:Ka X.K k H a xs)(h':Ka X.K k H a ys):xs=ys:=by
 cases k
 ·exact I.BW h h'
 ·exact I.EZ h h'
theorem N1{k:Bool}{h:Heap}{a:Addr}{xs:Array Value}(x:A8 k h a xs):a<h.objs.size:=by
 cases k
 ·obtain⟨o,ho,_⟩:=x;exact Heap.lt_size ho
 ·obtain⟨o,ho,_⟩:=x;exact Heap.lt_size ho
def Zh(K:PySem.W.Frag)(k:Bool)(a1 a2:Addr):It :=
 ⟨λi H=>∃ xs ys x y,Ka K k H a1 xs/\Ka K k H a2 ys/\xs[i]?=some x/\ys[i]?=some y,λi H v H'=>∃ p x y,H p=none/\v=.ref p/\H'=aP H p (.tup [x,y])/\(∀ xs,Ka K k H a1 xs->xs[i]?=some x)/\∀ ys,Ka K k H a2 ys->ys[i]?=some y,λi H=>∃ xs ys,Ka K k H a1 xs/\Ka K k H a2 ys/\(xs.length<=i\/ys.length<=i)⟩
theorem N3{P:Program}{w:World}{K:PySem.W.Frag}{x1:Nat}{k:Bool}{z TI TO i1 i2 l1 l2:Addr}(D:ZipApart z TI TO i1 i2 l1 l2) :
  HJ P w K (.Tuple VN x1 Ln) (Zh K k l1 l2) [z,TI,TO,i1,i2] z (λi h=>Cm k h z TI TO i1 i2 l1 l2 i) where
 mem:=by simp
 obj:=λi h st b hb=>by
  obtain⟨hz,hTI,⟨a,c,hTO⟩,h1,h2⟩:=st;simp only[List.mem_cons,List.not_mem_nil,or_false]at hb;rcases hb with rfl|rfl|rfl|rfl|rfl
  ·exact⟨_,hz,λv e=>by cases e⟩
  ·exact⟨_,hTI,λv e=>by cases e⟩
  ·exact⟨_,hTO,λv e=>by cases e⟩
  ·exact h1.obj
  ·exact h2.obj
 keep:=λi h h' st kk=>by
  obtain⟨hz,hTI,⟨a,c,hTO⟩,h1,h2⟩:=st;exact⟨kk z (by simp) _ hz,kk TI (by simp) _ hTI,⟨a,c,kk TO (by simp) _ hTO⟩,h1.at λo e=>kk i1 (by simp) o e,h2.at λo e=>kk i2 (by simp) o e⟩
 item:=by
  intro X hP hw hK hc i ao s σ H E I hf st hg;subst hP hw hK;obtain⟨xs,ys,x,y,q1,q2,e1,e2⟩:=hg;obtain⟨us,r1,p1,_⟩:=wQ I q1;obtain⟨vs,r2,p2,_⟩:=wQ I q2;obtain⟨u,eu,ru⟩:=r1.get e1;obtain⟨v,ev,rv⟩:=r2.get e2;refine Ik (x:=u) (y:=v) D st p1 p2 (by simpa using eu) (by simpa using ev) λh' g1 g2 g3 g4 g5 g7=>?_;refine⟨Y,wpAny_letOwnedTupleGo_zip g1 λh2 hz2 c2=>?_⟩;have ne:∀ {b o},s.heap.get? b=some o->s.heap.objs.size≠b:=λe=>Nat.ne_of_gt (Heap.lt_size e)
  have k2:∀ b o,b∉[z,TI,TO,i1,i2]->s.heap.get? b=some o->h2.get? b=some o:=λb o hb e=>by
   simp only[List.mem_cons,List.not_mem_nil,or_false,not_or]at hb;exact c2.extBut _ _ hb.1 (g7 b o hb.1 hb.2.2.1 hb.2.2.2.1 hb.2.2.2.2 e)
  have I2:Inv X ao σ (aP H s.heap.objs.size (.tup [x,y])) { s with heap:=h2,toks:=s.toks } := Zg I k2 hf (gg _) (by show 2<=sizeLine;decide) (.cons ru (.cons rv .nil)) ⟨_,c2.extBut _ _ (ne st.z) g5,rfl,Y⟩;refine⟨.ref s.heap.objs.size,_,I2,rfl,⟨_,x,y,I.hok.fresh (gg _),V,λxs' q=>?_,λys' q=>?_⟩,?_,λb hb=>?_⟩
  ·rw[Kc I q q1];exact e1
  ·rw[Kc I q q2];exact e2
  ·exact⟨hz2,c2.extBut _ _ D.TIz (g7 _ _ D.TIz D.TITO D.TIi1 D.TIi2 st.ti),⟨u,v,c2.extBut _ _ D.TOz g2⟩,g3.at λo e=>c2.extBut _ _ D.i1z e,g4.at λo e=>c2.extBut _ _ D.i2z e⟩
  ·have qF:∃ o,s.heap.get? b=some o:=by
    obtain⟨hz,hTI,⟨a,c,hTO⟩,h1,h2⟩:=st;simp only[List.mem_cons,List.not_mem_nil,or_false]at hb;rcases hb with rfl|rfl|rfl|rfl|rfl
    ·exact⟨_,hz⟩
    ·exact⟨_,hTI⟩
    ·exact⟨_,hTO⟩
    ·exact h1.obj.imp λ_ e=>e.1
    ·exact h2.obj.imp λ_ e=>e.1
   obtain⟨o,e⟩:=qF;rw[aN (ne e).symm];exact (hf b hb).1
 done:=by
  intro X hP hw hK hc i ao s σ H E I hf st hg;subst hP hw hK;obtain⟨xs,ys,q1,q2,e⟩:=hg;obtain⟨us,r1,p1,_⟩:=wQ I q1;obtain⟨vs,r2,p2,_⟩:=wQ I q2;have l1:=r1.length;have l2:=r2.length;refine Lx (I.ok.hd hc) D st p1 p2 (e.imp (λe=>by simp;lia) (λe=>by simp;lia)) λh' kk=>⟨rfl,Rk (t':=s.toks) (ch:=[z,TI,TO,i1,i2]) I (λb o hb e=>?_) hf⟩;simp only[List.mem_cons,List.not_mem_nil,or_false,not_or]at hb;exact kk b o hb.1 hb.2.2.1 hb.2.2.2.1 hb.2.2.2.2 e
 self:=λ_ _ _ _ _ st h=>wpAny_pyIter_zip st.z h
def adn(K:PySem.W.Frag)(ta:TA):TI:=fun σ H R=>ta σ H λvs H1=>∃ k a1 a2 xs ys,vs=[.ref a1,.ref a2]/\Ka K k H1 a1 xs/\Ka K k H1 a2 ys/\R (Zh K k a1 a2) H1
theorem VO{X:Cx}{x1:Nat}{a b:Expr}{ta:TA}{p:Pos}(hg:Gl X "zip")(hm:X.mg "zip"=none)(ha:PA X [a,b] ta)
  (hs:starEach [a,b] X.env=[(false,eval a X.env),(false,eval b X.env)]:=by rfl) (Hl:starEach [b] X.env=[(false,eval b X.env)]:=by rfl):PI X (.Tuple VN x1 Ln) (.Call (.Name "zip" p) [a,b] [] pos) (adn X.K ta):=by
 intro ao s σ H R I h;refine Call_ (wB I hg hm boot_zip (PyProof.Rows.callWith_type1 (cX (ha pos ao s σ H _ I h) λus s1 ⟨vs,H1,I1,r1,q1⟩=>?_) (by rw[hs,Hl]) (by rw[Hl];rfl)));obtain⟨k,a1,a2,xs,ys,e,q1,q2,q⟩:=q1;subst e;obtain⟨u1,u2,rfl,e1,e2⟩:=r1.two;cases (show u1=Value.ref a1 from e1);cases (show u2=Value.ref a2 from e2);obtain⟨us,rr1,p1,_⟩:=wQ I1 q1;obtain⟨ws,rr2,p2,_⟩:=wQ I1 q2;have b1:=N1 p1;have b2:=N1 p2;refine Ly p1 p2 λh' st kk=>wpAny_pyIter_zip st.z ?_;have I2:Inv X ao σ H1 { s1 with heap:=h',toks:=s1.toks }:=I1.kept kk;refine⟨K,_,H1,rfl,I2,N3 (zipApart_new b1 b2),st,λb hb=>?_,q⟩
 have hb':s1.heap.objs.size<=b:=by
  simp only[List.mem_cons,List.not_mem_nil,or_false]at hb;rcases hb with rfl|rfl|rfl|rfl|rfl
  ·exact Nat.le_add_right _ _
  ·exact Nat.le_add_right _ _
  ·exact Nat.le_add_right _ _
  ·exact gg _
  ·exact Nat.le_add_right _ _
 exact I1.Lh hb' (I1.hok.fresh hb')
theorem Rm{K:PySem.W.Frag}{k:Bool}{a1:Addr}{xs ys:List V}{g:TG}{tb:TS}{D:Ends}{σ:L2.St}{H:Hp}(Pv:Nat->L2.St->Hp->Prop)(hn:xs.length=ys.length)(h0:Pv 0 σ H)
  (hl:∀ i σ H,i<=xs.length->Pv i σ H->Ka K k H a1 xs/\Ka K k H a2 ys)
  (hs:∀ i x y p σ H,xs[i]?=some x->ys[i]?=some y->H p=none->Pv i σ H->g (.ref p) σ (aP H p (.tup [x,y])) fun σ2 H2=>tb { D with nx:=Pv (i+1),ct:=Pv (i+1),bk:=D.nx } σ2 H2) (hd:∀ σ H,Pv xs.length σ H->D.nx σ H) :
  ∃ W:Nat->Nat->L2.St->Hp->Prop,(∃ m,W 0 m σ H)/\∀ i m σ H,W i m σ H->
   ((Zh K k a1 a2).stop i H/\D.nx σ H)\/((Zh K k a1 a2).go i H/\∃ N:L2.St->Hp->Prop,(∀ σ' H',N σ' H'->∃ m',m'<m/\W (i+1) m' σ' H')/\∀ x H',(Zh K k a1 a2).Ni i H x H'->g x σ H' fun σ2 H2=>tb { D with nx:=N,ct:=N,bk:=D.nx } σ2 H2):=by
 refine⟨λi m σ H=>m=xs.length-i/\i<=xs.length/\Pv i σ H,⟨xs.length,by simp,Nat.zero_le _,h0⟩,?_⟩;rintro i m σ H ⟨rfl,hi,p⟩;obtain⟨q1,q2⟩:=hl i σ H hi p;by_cases qF:i<xs.length
 ·have ado:i<ys.length:=by lia
  refine .inr ⟨⟨xs,ys,xs[i],ys[i],q1,q2,by simp[qF],by simp[ado]⟩,Pv (i+1),fun σ' H' p'=>⟨xs.length-(i+1),Q,rfl,qF,p'⟩,λx H' y=>?_⟩;obtain⟨a,x',y',hn',rfl,rfl,e1,e2⟩:=y;exact hs i x' y' a σ _ (e1 xs q1) (e2 ys q2) hn' p
 ·have e:i=xs.length:=by lia
  subst e;exact .inl ⟨⟨xs,ys,q1,q2,.inl (gg _)⟩,hd σ H p⟩
def Cn(lo:Int)(n:Nat):List V:=(List.range n).map λi:Nat=>V.int (lo+i)
section
variable {X:Cx}
theorem Fd:kq X (.type "range") (λxs H Q=>∃ i j:Int,xs=[.int i,.int j]/\∀ p,H p=none->Q (.ref p) (aP H p (.EH i j))):=by
 intro ao s σ H xs us Q I r h;obtain⟨i,j,rfl,q⟩:=h;obtain⟨u1,u2,rfl,⟨t,rfl⟩,⟨t',rfl⟩⟩:=r.two;refine call_range_2 ⟨.ref s.heap.objs.size,_,I.laid (o:=.EH i j) (λb o e=>Heap.get?_push_of_some _ e) (gg _) ⟨t,t',s.toks,Heap.get?_push_size _ rfl⟩,rfl,q _ (I.hok.fresh (gg _))⟩
theorem tG(hc:X.calm=true):kq X (.type "list") (λxs H Q=>∃ p i j,xs=[.ref p]/\H p=some (.EH i j)/\(-(2^62)<=i/\i<2^62/\-(2^62)<=j/\j<2^62)/\(j-i).toNat<=sizeLine/\
  ∀ l,H l=none->Q (.ref l) (aP H l (.lst (Cn i (j-i).toNat)))):=by
 intro ao s σ H xs us Q I r h;obtain⟨p,i,j,rfl,hp,⟨b1,b2,b3,b4⟩,hz,q⟩:=h;obtain⟨u,rfl,rx⟩:=r.one;cases (show u=Value.ref p from rx);obtain⟨t,u,v,e⟩:=(show fV X.prog X.w H s.heap p (.EH i j) from I.hok p _ hp)
 have e2:Builtin.Range.rangeSize i j 1=(((j-i).toNat:Nat):Int):=by rw[rangeSize_one];split <;> lia
 have hz':(j-i).toNat<=2^24:=by have:=sizeLine_eq;lia
 refine call_list_range (I.ok.hd hc) e (small_one b1 b2 b3 b4) e2 hz' λh' tk qy c' hk hS cY=>?_;refine⟨.ref s.heap.objs.size,_,I.laid (o:=.lst (Cn i (j-i).toNat)) (t':=tk) hk (gg _) ⟨?_,qy.toList,c',?_,by simpa using hS⟩,rfl,q _ (I.hok.fresh (gg _))⟩
 ·unfold Cn;simpa using hz
 ·have hl:qy.toList.length=(j-i).toNat:=by simpa using cY.1
  have key:∀ (n:Nat) (us:List Value) (lo:Int),us.length=n->(∀ k v,us[k]?=some v->∃ t,v=Value.int (lo+(k:Nat)*1) t)->cy ((List.range n).map λi:Nat=>V.int (lo+i)) us:=by
   intro n
   induction n with
   | zero=>intro us lo hl _;cases us with
    | nil=>exact .nil
    | cons=>simp at hl
   | succ n ih =>
    intro us lo hl hv
    cases us with
    | nil=>simp at hl
    | cons u us =>
     rw[List.range_succ_eq_map,jy,List.map_map];refine .cons ?_ ?_
     ·obtain⟨t,e⟩:=hv 0 u rfl;exact⟨t,by rw[e];simp⟩
     ·have:=ih us (lo+1) (by simpa using hl) λk v e=>by
       obtain⟨t,e'⟩:=hv (k+1) v (by simpa using e);exists t;rw[e'];have:lo+((k+1:Nat):Int)*1=lo+1+(k:Int)*1:=by lia
       rw[this]
      have e3:((λi:Nat=>V.int (lo+i)) ∘ Nat.succ)=λi:Nat=>V.int (lo+1+i):=by
       funext i;simp only[Function.comp,Nat.succ_eq_add_one];have:lo+((i+1:Nat):Int)=lo+1+(i:Int):=by lia
       rw[this]
      rw[e3];exact this
  exact key _ _ i hl λk v e=>cY.2 k v (by simpa using e)
end
section
variable {X:Cx}
theorem N4{j:Int}(h0:0<j)(h1:j<10^70):j.natAbs.log2<9000:=by
 have h:j.natAbs<2^9000:=Nat.lt_trans (show j.natAbs<10^70 by lia) nofun;exact (Nat.log2_lt ∅).mpr h
theorem zF:u7 X (binaryOp .FloorDiv) (rI (λ_ j=>0<j/\j<10^70) λi j=>.int (i / j)):=opI λi j _ _ _ _ _ hc q=>by
 have h1:(0:Int)<j:=hc.1;exact floordiv_int ∅ (by rw[Int.fdiv_eq_ediv_of_nonneg i ∅];exact q) (.inl (PyProof.noPylong_of_log2 (N4 hc.1 hc.2)))
theorem Fe(hc:X.calm=true):kq X (.builtin "sum") (λxs H Q=>∃ (p:Addr) (ns:List Int),xs=[.ref p]/\bL X.K H p (ns.map V.int)/\Q (.int ns.sum) H):=by
 intro ao s σ H xs us Q I r h;obtain⟨p,ns,rfl,hq,q⟩:=h;obtain⟨u,rfl,rx⟩:=r.one;cases (show u=Value.ref p from rx);obtain⟨aO,rv,pl,hz⟩:=I.list hq;have hi:IntsAre aO ns:=intsAre_of rv;have NL:AllInts aO.toArray:=hi.allInts;obtain⟨zs,ez⟩:=NL.items;have hl:=pl.isList;have es:(numsOf aO.toArray.toList).sum=ns.sum:=by rw[show aO.toArray.toList=aO from rfl,hi.numsOf]
 rw[ez]at hl es;rw[nums_intItems]at es;refine PySem.sum_intListG (I.ok.hd hc) hl λh' tk t' hk=>⟨.int ns.sum,H,I.kept hk,⟨t',?_⟩,q⟩;rw[preSum_eq,u9 (by simp),es]
end
end dh
namespace gv
abbrev Row:=List (Int × Int)
def iP(t:Row)(s e:Int):Row :=
 match t.getLast? with
 | some p=>if p.2=s then t.dropLast++[(p.1,e)] else t++[(s,e)]
 | none=>t++[(s,e)]
def ef(t:Row)(p:Int × Int):Row:=if p.1=p.2 then t else iP t p.1 p.2
def cz(r:Row):Row:=r.foldl ef []
def run(s:Int):Nat->List Int
 | 0=>[]
 | n+1=>s::run (s+1) n
def jF(p:Int × Int):List Int:=run p.1 (p.2-p.1).toNat
def bM(r:Row):List Int:=r.flatMap jF
def cL(ns:List Int):Row:=ns.foldl (λt n=>iP t n (n+1)) []
theorem fK(s:Int)(n:Nat):(run s n).length=n:=by
 induction n generalizing s with
 | zero=>rfl
 | succ n ih=>simp[run,ih]
theorem mO(s e:Int):iP [] s e=[(s,e)]:=rfl
theorem mP(t:Row){q:Int × Int}{s:Int}{e:Int}(h:q.2=s):iP (t++[q]) s e=t++[(q.1,e)]:=by
 simp[iP,h]
theorem mQ(t:Row){q:Int × Int}{s:Int}{e:Int}(h:¬ q.2=s):iP (t++[q]) s e=t++[q]++[(s,e)]:=by
 simp[iP,h]
theorem Lz(t:Row)(a s e:Int):iP (t++[(a,s)]) s e=t++[(a,e)]:=by
 simp[iP]
theorem zG(t:Row)(a s:Int)(n:Nat):(run s n).foldl (λt n=>iP t n (n+1)) (t++[(a,s)])=t++[(a,s+n)]:=by
 induction n generalizing s with
 | zero=>simp[run]
 | succ n ih =>
  rw[run,l6,Lz,ih];have:s+1+(n:Int)=s+((n+1:Nat):Int):=by lia
  rw[this]
theorem N5(t:Row)(p:Int × Int)(h:p.1<=p.2):ef t p=(jF p).foldl (λt n=>iP t n (n+1)) t:=by
 obtain⟨s,e⟩:=p;simp only at h;unfold ef jF;by_cases he:s=e
 ·subst he;simp[run]
 ·obtain⟨n,hn⟩:∃ n:Nat,e=s+1+n:=⟨(e-s-1).toNat,Q⟩;subst hn;rw[if_neg he];have h2:((s,s+1+(n:Int)).2-(s,s+1+(n:Int)).1).toNat=n+1:=by simp only;lia
  rw[h2,run,l6];simp only;rcases oZ t with rfl|⟨u,q,rfl⟩
  ·rw[mO,mO];exact (zG [] s (s+1) n).symm
  ·by_cases hq:q.2=s
   ·rw[nA,mP u hq,mP u hq,zG]
   ·rw[nA,mQ u hq,mQ u hq,zG]
theorem mR{α β γ:Type}(f:γ->β->γ)(g:α->List β):∀ (l:List α) (c:γ),(l.flatMap g).foldl f c=l.foldl (λc a=>(g a).foldl f c) c
 | [],_=>rfl
 | a::l,c=>by rw[jv,List.foldl_append,l6,mR f g l]
theorem zH(r:Row)(h:∀ p∈r,p.1<=p.2):cz r=cL (bM r):=by
 unfold cz cL bM;rw[mR]
 have key:∀ (r:Row),(∀ p∈r,p.1<=p.2)->∀ t:Row,r.foldl ef t=r.foldl (λc a=>(jF a).foldl (λt n=>iP t n (n+1)) c) t:=by
  intro r
  induction r with
  | nil=>intro _ t;rfl
  | cons p r ih =>
   intro h t;rw[l6,l6,N5 t p (h p (tU ..))];exact ih (λq hq=>h q (nu _ hq)) _
 exact key r h []
theorem xZ(t:Row)(s e:Int):(iP t s e).length<=t.length+1:=by
 rcases oZ t with rfl|⟨u,q,rfl⟩
 ·rw[mO];simp
 ·by_cases hq:q.2=s
  ·rw[nA,mP u hq];simp
  ·rw[nA,mQ u hq];simp
theorem foldl_take_succ{α β:Type}(f:β->α->β)(l:List α)(b:β)(i:Nat)(x:α)(h:l[i]?=some x):(l.take (i+1)).foldl f b=f ((l.take i).foldl f b) x:=by
 rw[List.take_add_one,h,List.foldl_append];rfl
end gv
namespace gv
def jc(r:Row):Int:=(r.map λp=>p.2-p.1).sum
theorem Rn:jc []=0:=rfl
theorem Ff(p:Int × Int)(r:Row):jc (p::r)=(p.2-p.1)+jc r:=by simp[jc]
theorem N6(r:Row)(p:Int × Int):jc (r++[p])=jc r+(p.2-p.1):=by simp[jc]
theorem zI(r q:Row):jc (r++q)=jc r+jc q:=by simp[jc]
theorem take_snoc{α:Type}{l:List α}{i:Nat}{x:α}(h:l[i]?=some x):l.take (i+1)=l.take i++[x]:=by rw[List.take_add_one,h];rfl
end gv
namespace gv
theorem vz(s:Int)(n:Nat):run s (n+1)=run s n++[s+n]:=by
 induction n generalizing s with
 | zero=>simp[run]
 | succ n ih =>
  rw[run,ih,run];have:s+1+(n:Int)=s+((n+1:Nat):Int):=by lia
  rw[this];rfl
theorem Co{a n:Int}(h:a<=n):jF (a,n+1)=jF (a,n)++[n]:=by
 unfold jF;have e:((a,n+1).2-(a,n+1).1).toNat=((a,n).2-(a,n).1).toNat+1:=by simp only;lia
 rw[e,vz];have:a+((((a,n).2-(a,n).1).toNat:Nat):Int)=n:=by simp only;lia
 simp only at this ⊢;rw[this]
theorem Fg(n:Int):jF (n,n+1)=[n]:=by
 have:=Co (a:=n) (n:=n) (Int.le_refl _);rw[this];have e:jF (n,n)=[]:=by unfold jF;simp[run]
 rw[e];rfl
theorem cZ(r q:Row):bM (r++q)=bM r++bM q:=by unfold bM;rw[List.flatMap_append]
theorem gn(p:Int × Int):bM [p]=jF p:=by simp[bM]
theorem Im(t:Row)(n:Int)(h:∀ p∈t,p.1<=p.2):bM (iP t n (n+1))=bM t++[n]:=by
 rcases oZ t with rfl|⟨u,q,rfl⟩
 ·rw[mO,gn,Fg];rfl
 ·rw[nA]at h ⊢;by_cases hq:q.2=n
  ·obtain⟨a,b⟩:=q;simp only at hq;subst hq;have hb:a<=b:=h (a,b) (by simp);rw[mP u rfl,cZ,cZ,gn,gn,Co hb,nB]
  ·rw[mQ u hq,cZ,gn,Fg]
theorem Kd(t:Row)(n:Int)(h:∀ p∈t,p.1<=p.2):∀ p∈iP t n (n+1),p.1<=p.2:=by
 rcases oZ t with rfl|⟨u,q,rfl⟩
 ·rw[mO];intro p hp;simp at hp;subst hp;show n<=n+1;lia
 ·rw[nA]at h ⊢;by_cases hq:q.2=n
  ·rw[mP u hq];intro p hp;rcases List.mem_append.mp hp with z|z
   ·exact h p (tT _ z)
   ·simp at z;subst z;have:=h q (by simp);show q.1<=n+1;lia
  ·rw[mQ u hq];intro p hp;rcases List.mem_append.mp hp with z|z
   ·exact h p z
   ·simp at z;subst z;show n<=n+1;lia
theorem eL(ns:List Int):bM (cL ns)=ns:=by
 have key:∀ (ns:List Int) (t:Row),(∀ p∈t,p.1<=p.2)->bM (ns.foldl (λt n=>iP t n (n+1)) t)=bM t++ns:=by
  intro ns
  induction ns with
  | nil=>intro t _;simp
  | cons n ns ih =>
   intro t h;rw[l6,ih _ (Kd t n h),Im t n h,nB];rfl
 have:=key ns [] (λp hp=>by cases hp);simpa [cL,bM] using this
theorem mS(ns:List Int):∀ p∈cL ns,p.1<=p.2:=by
 have key:∀ (ns:List Int) (t:Row),(∀ p∈t,p.1<=p.2)->∀ p∈ns.foldl (λt n=>iP t n (n+1)) t,p.1<=p.2:=by
  intro ns
  induction ns with
  | nil=>intro t h;exact h
  | cons n ns ih=>intro t h;exact ih _ (Kd t n h)
 exact key ns [] (λp hp=>by cases hp)
end gv
namespace gv
theorem ya(p:Int × Int)(h:p.1<=p.2):((jF p).length:Int)=p.2-p.1:=by
 unfold jF;rw[fK];lia
theorem rR:∀ (r:Row),(∀ p∈r,p.1<=p.2)->((bM r).length:Int)=jc r
 | [],_=>rfl
 | p::r,h=>by
  have ih:=rR r λq hq=>h q (nu _ hq);have hp:=ya p (h p (tU ..));have e:bM (p::r)=jF p++bM r:=rfl;rw[e,dz,Ff];lia
end gv
namespace gv
open L2 dh
structure b9(K:PySem.W.Frag)(mg:Str->Option Value)(x:Str)(st:Stmt)(ps:List Str)(a:Addr)(d:FuncData):Prop where
 F:NP K x x st a d
 b:Binds K d ps []
 m:mg x=some (.ref a)
section
variable {X:Cx}
theorem aG{x:Str}{st:Stmt}{ps:List Str}{f:Addr}{j k:Nat}{sp:Sp}{e:Expr}{es:List Expr}{t:TA}{p pos:Pos}(d:b9 X.K X.mg x st ps f fd)(G:bf X.prog X.w X.K X.mg X.zt cM k f fd ps sp)(hr:gQ j X.A)
  (ha:PA X (e::es) t) (VP:k<=j:=by first|decide|lia) (hg:Gl X x:=by rfl) (HU:(x == ("__debug__":Str))=false:=by decide) (he:starEach (e::es) X.env=(false,eval e X.env)::starEach es X.env:=by rfl)
  (yY:(backTo pos (starEach es X.env)).any (·.1)=false:=by rfl):PE X (.Call (.Name x p) (e::es) [] pos) (JT sp [] E0 t) :=
 JV G (hr.mono VP) hg d.m d.F.kp d.b .nil bO ha HU he yY
theorem Io{st:Stmt}{t t':TS}(h:PS X st t)(hi:∀ D σ H,t' D σ H->t D σ H):PS X st t':=λao s σ H D I q=>h ao s σ H D I (hi D σ H q)
end
def cJ(l:Addr)(H H':Hp):Prop:=∀ a o,H a=some o->a≠l->H' a=some o
theorem aL.keep{H H':Hp}(s:aL H H'):cJ l H H':=λa o e _=>s a o e
theorem cJ.trans{H H1 H2:Hp}(a:cJ l H H1)(b:cJ l H1 H2):cJ l H H2:=λc o e n=>b c o (a c o e n) n
theorem aM(l:Addr)(H:Hp)(o:HO):cJ l H (aP H l o):=λa u e n=>by rw[aN n];exact e
theorem bP{H H1 H2:Hp}(h:H l=none)(a:aL H H1)(b:cJ l H1 H2):aL H H2:=λc o e=>b c o (a c o e) (aB e h)
theorem ak{H:Hp}{p:Addr}(h:H p=none)(o:HO):aL H (aP H p o):=λb u q=>by rw[aN (aB q h)];exact q
theorem iC{a:Addr}{H H':Hp}(k:cJ l H H')(n:a≠l)(h:H' a=none):H a=none:=by
 cases q:H a with
 | none=>rfl
 | some o=>rw[k a o q n]at h;cases h
def dB(H:Hp)(l c:Addr):Prop:=c≠l/\∃ (ns:List Int) (i d r:Int),H l=some (.lst [.ref c,.int i,.int d,.int r])/\H c=some (.lst (ns.map V.int))/\0<=i/\0<=r/\r<2147483647
theorem dB.same{H H':Hp}{c:Addr}(s:dB H l c)(k:aL H H'):dB H' l c:=by
 obtain⟨n,ns,i,d,r,h1,h2,h3⟩:=s;exact⟨n,ns,i,d,r,k _ _ h1,k _ _ h2,h3⟩
theorem dB.keep{H H':Hp}{c m:Addr}(s:dB H l c)(k:cJ m H H')(h1:l≠m)(h2:c≠m):dB H' l c:=by
 obtain⟨n,ns,i,d,r,e1,e2,h3⟩:=s;exact⟨n,ns,i,d,r,k _ _ e1 h1,k _ _ e2 h2,h3⟩
theorem dB.ne{H:Hp}{c a:Addr}(s:dB H l c)(h:H a=none):l≠a/\c≠a:=by
 obtain⟨n,ns,i,d,r,e1,e2,h3⟩:=s;exact⟨aB e1 h,aB e2 h⟩
theorem Zi{a b c d:V}:qx [a,b,c,d] 0=some a:=rfl
theorem VQ{a b c d:V}:qx [a,b,c,d] 1=some b:=rfl
theorem Ro{a b c d:V}:qx [a,b,c,d] 2=some c:=rfl
theorem Zj{a b c d:V}:qx [a,b,c,d] 3=some d:=rfl
theorem Zk{a b:V}:qx [a,b] 0=some a:=rfl
theorem VR{a b:V}:qx [a,b] 1=some b:=rfl
class inductive uD
 | mk (l c:Addr) (b:Int) (_:vs=[.ref l,.int b]) (_:dB H l c) (_:0<b) (_:b<10^70) (_ :
 ∀ (v:Int) (H':Hp),0<=v->v<b->dB H' l c->(∀ a,a≠l->H' a=H a)->Q (.int v) H'):uD vs H Q E
class inductive Uq(K:PySem.W.Frag)
 | mk (a:Addr) (ns:List Int) (_:vs=[.ref a]) (_:bL K H a (ns.map V.int)) (_ :
 ∀ (l c:Addr) (H':Hp),dB H' l c->aL H H'->H l=none->H c=none->Q (.ref l) H')
def Zl:V->Bool
 | .int _ | .bl _ | .str _ | .fH=>true
 | _=>false
def N7(k:Bool)(H:Hp)(a:Addr)(xs:List V):Prop:=match k with
 | true=>H a=some (.lst xs)
 | false=>H a=some (.tup xs)
theorem N7.same{k:Bool}{H H':Hp}{a:Addr}{xs:List V}(h:N7 k H a xs)(s:aL H H'):N7 k H' a xs:=by
 cases k
 ·exact s _ _ h
 ·exact s _ _ h
theorem N7.sq{K:PySem.W.Frag}{k:Bool}{H:Hp}{a:Addr}{xs:List V}(h:N7 k H a xs):Ka K k H a xs:=by
 cases k
 ·exact dG.of h
 ·exact bL.of h
def Eqv(H:Hp):Nat->V->V->Prop
 | 0,_,_=>False
 | n+1,x,y=>(Zl x=true/\x=y)\/∃ (k:Bool) (a b:Addr) (xs ys:List V),x=.ref a/\y=.ref b/\N7 k H a xs/\N7 k H b ys/\xs.length=ys.length/\
   ∀ (i:Nat) (u v:V),xs[i]?=some u->ys[i]?=some v->Eqv H n u v
theorem Eqv.same{H H':Hp}(s:aL H H'):∀ {n:Nat} {x y:V},Eqv H n x y->Eqv H' n x y
 | 0,_,_,h=>h
 | n+1,x,y,h=>by
  rcases h with h|⟨k,a,b,xs,ys,e1,e2,h1,h2,hl,hi⟩
  ·exact .inl h
  ·exact .inr ⟨k,a,b,xs,ys,e1,e2,h1.same s,h2.same s,hl,λi u v eu ev=>Eqv.same s (hi i u v eu ev)⟩
theorem Eqv.int{H:Hp}{n:Nat}(i:Int):Eqv H (n+1) (.int i) (.int i):=.inl ⟨V⟩
def zJ(n:Nat):Sp:=λvs H Q _=>∃ x y,vs=[x,y]/\Eqv H n x y/\∀ H',aL H H'->Q (.bl true) H'
class inductive Ke
 | mk (i:Int) (_:vs=[.int i]) (_:Q (.bl true) H)
section
variable (K:PySem.W.Frag)
theorem Zm:kitOne K (.type "bool") (.type "bool")=some true:=by rfl
theorem Zo:kitOne K (.type "int") (.type "bool")=some false:=by kernel_rfl
theorem Zp:kitOne K (.type "int") (.type "int")=some true:=by rfl
theorem adp:kitOne K (.type "str") (.type "bool")=some false:=by kernel_rfl
theorem adq:kitOne K (.type "str") (.type "int")=some false:=by kernel_rfl
theorem Zq:kitOne K (.type "str") (.type "str")=some true:=by rfl
theorem ads:kitOne K (.type "list") (.type "bool")=some false:=by kernel_rfl
theorem adt:kitOne K (.type "list") (.type "int")=some false:=by kernel_rfl
theorem adu:kitOne K (.type "list") (.type "str")=some false:=by kernel_rfl
theorem Zr:kitOne K (.type "list") (.type "list")=some true:=by rfl
theorem k_lt:kitOne K (.type "list") (.type "tuple")=some false:=by kernel_rfl
theorem adv:kitOne K (.type "tuple") (.type "bool")=some false:=by kernel_rfl
theorem adw:kitOne K (.type "tuple") (.type "int")=some false:=by kernel_rfl
theorem adx:kitOne K (.type "tuple") (.type "str")=some false:=by kernel_rfl
theorem ady:kitOne K (.type "tuple") (.type "list")=some false:=by kernel_rfl
theorem adz:kitOne K (.type "tuple") (.type "tuple")=some true:=by rfl
end
def X0(k:Bool):Value:=.type (if k then "list" else "tuple")
theorem N7.ty{K:PySem.W.Frag}{k:Bool}{H:Hp}{a:Addr}{xs:List V}(h:N7 k H a xs):ku K H (.ref a) (X0 k):=by
 cases k
 ·exact ku.tup h
 ·exact ku.lst h
theorem adA(K:PySem.W.Frag)(k:Bool):kitOne K (X0 k) (.type "bool")=some false:=by cases k;exact adv K;exact ads K
theorem adB(K:PySem.W.Frag)(k:Bool):kitOne K (X0 k) (.type "int")=some false:=by cases k;exact adw K;exact adt K
theorem adC(K:PySem.W.Frag)(k:Bool):kitOne K (X0 k) (.type "str")=some false:=by cases k;exact adx K;exact adu K
theorem Zs(K:PySem.W.Frag)(k:Bool):kitOne K (X0 k) (.type "list")=some k:=by cases k;exact ady K;exact Zr K
theorem Zt(K:PySem.W.Frag)(k:Bool):kitOne K (X0 k) (.type "tuple")=some (!k):=by cases k;exact adz K;exact k_lt K
def wR(H:Hp)(a:Addr)(p:Int × Int):Prop:=H a=some (.tup [.int p.1,.int p.2])
abbrev bQ(H:Hp):List Addr->Row->Prop:=Paired (wR H)
inductive cA(H:Hp)(r:Addr)(row:Row):Prop
 | mk (as:List Addr) (_:H r=some (.lst (as.map V.ref))) (_:bQ H as row)
theorem bQ.tups{H H':Hp}{as:List Addr}{row:Row}(h:bQ H as row)(t:∀ a xs,H a=some (.tup xs)->H' a=some (.tup xs)):bQ H' as row:=Paired.Hz h λa p e=>t a _ e
theorem bQ.same{H H':Hp}{as:List Addr}{row:Row}(h:bQ H as row)(s:aL H H'):bQ H' as row:=h.tups λa xs e=>s a _ e
theorem cA.same{H H':Hp}{r:Addr}{row:Row}(h:cA H r row)(s:aL H H'):cA H' r row:=by
 obtain⟨as,h1,h2⟩:=h;exact⟨as,s _ _ h1,h2.same s⟩
theorem bQ.keep{H H':Hp}{as:List Addr}{row:Row}{xs:List V}(h:bQ H as row)(hl:H l=some (.lst xs))(s:cJ l H H'):bQ H' as row :=
 h.tups λa ys e=>s a _ e (dH e hl)
theorem cA.keep{H H':Hp}{r:Addr}{row:Row}{xs:List V}(h:cA H r row)(hl:H l=some (.lst xs))(n:r≠l)(s:cJ l H H'):cA H' r row:=by
 obtain⟨as,h1,h2⟩:=h;exact⟨as,s _ _ h1 n,h2.keep hl s⟩
theorem bQ.get{H:Hp}:∀ {as:List Addr} {row:Row} {i:Nat} {a:Addr},bQ H as row->as[i]?=some a->∃ p,row[i]?=some p/\wR H a p
 | _,_,_,_,.nil,e=>by simp at e
 | _,_,0,_,.cons r _,e=>by simp at e;subst e;exact⟨Y,r⟩
 | _,_,i+1,a,.cons _ t,e=>by
  obtain⟨p,h1,h2⟩:=bQ.get (i:=i) (a:=a) t (by simpa using e);exact⟨p,by simpa using h1,h2⟩
theorem bQ.snoc{H:Hp}{as:List Addr}{row:Row}{a:Addr}{p:Int × Int}(h:bQ H as row)(e:wR H a p):bQ H (as++[a]) (row++[p]):=by
 induction h with
 | nil=>exact .cons e .nil
 | cons r _ ih=>exact .cons r ih
theorem bQ.split{H:Hp}:∀ {as:List Addr} {row:Row} {p:Int × Int},bQ H as (row++[p])->∃ bs a,as=bs++[a]/\bQ H bs row/\wR H a p
 | as,[],p,h=>by
  cases h with
  | cons r t=>cases t;exact⟨[],Y,.nil,r⟩
 | as,q::row,p,h=>by
  cases h with
  | cons r t =>
   obtain⟨bs,a,rfl,h1,h2⟩:=bQ.split (row:=row) (p:=p) t;exact⟨_::bs,a,rfl,.cons r h1,h2⟩
theorem bQ.len{H:Hp}{as:List Addr}{row:Row}(h:bQ H as row):as.length=row.length:=Paired.length h
theorem cA.eqv{H:Hp}{r q:Addr}{row:Row}(h:cA H r row)(g:cA H q row)(n:Nat):Eqv H (n+3) (.ref r) (.ref q):=by
 obtain⟨as,h1,h2⟩:=h;obtain⟨bs,g1,g2⟩:=g;refine .inr ⟨true,r,q,Z,h1,g1,by rw[cD,cD,h2.len,g2.len],λi u v eu ev=>?_⟩;rw[nG]at eu ev;obtain⟨a,ea,rfl⟩:=Option.map_eq_some_iff.mp eu;obtain⟨b,eb,rfl⟩:=Option.map_eq_some_iff.mp ev;obtain⟨p,e1,k1⟩:=h2.get ea;obtain⟨p',e2,k2⟩:=g2.get eb;rw[e1]at e2;cases e2;refine .inr ⟨false,a,b,Z,k1,k2,rfl,λj u v eu ev=>?_⟩;rw[eu]at ev;cases ev
 match j,eu with
 | 0,eu=>cases eu;exact Eqv.int _
 | 1,eu=>cases eu;exact Eqv.int _
theorem fZ{α:Type}(xs:List α)(v:α):qx (xs++[v]) (-1)=some v:=Ny xs v
theorem zK(n:Nat):J1 (n+1) (-1)=some n:=by
 unfold J1;rw[if_neg (by decide),if_pos ∅];congr 1;lia
theorem zL{α:Type}(xs:List α)(a b:α):(xs++[a]).set xs.length b=xs++[b]:=by
 simp
theorem zM(lo:Int)(n:Nat):Cn lo n=(run lo n).map V.int:=by
 unfold Cn
 induction n generalizing lo with
 | zero=>rfl
 | succ n ih =>
  rw[List.range_succ_eq_map,jy,List.map_map,run,jy,← ih (lo+1)];congr 1
  ·simp
  ·apply List.map_congr_left;intro i _;simp only[Function.comp,Nat.succ_eq_add_one];congr 1;lia
class inductive Rp(lim:Nat)
 | mk (r:Addr) (row:Row) (_:vs=[.ref r]) (_:cA H r row) (_:(∀ p∈row,0<=p.1/\p.1<=p.2/\p.2<2^62)) (_:(bM row).length<=1000000) (_:row.length<=lim) (_ :
 ∀ (n:Addr) (H':Hp),H' n=some (.lst ((bM row).map V.int))->aL H H'->H n=none->Q (.ref n) H')
class inductive Rq
 | mk (n:Addr) (ns:List Int) (_:vs=[.ref n]) (_:H n=some (.lst (ns.map V.int))) (_:ns.length<=1000000) (_ :
 ∀ (r:Addr) (H':Hp),cA H' r (cL ns)->aL H H'->H r=none->Q (.ref r) H')
class inductive Rt
 | mk (r:Addr) (row:Row) (_:vs=[.ref r]) (_:cA H r row) (_:row.length<=1000000) (_ :
 ∀ (q:Addr) (H':Hp),cA H' q (cz row)->aL H H'->H q=none->Q (.ref q) H')
theorem aV{n:Nat}(h:n<=1000001):n<sizeLine:=Nat.lt_of_le_of_lt h (by decide)
end gv
namespace gv
open L2 dh
def VS:TS:=λD σ H=>∃ (l c:Addr) (b:Int),σ=[some (.ref l),some (.int b),none,none]/\dB H l c/\
 ∀ (cell:Option V) (H':Hp),dB H' l c->(∀ a,a≠l->H' a=H a)->D.nx [some (.ref l),some (.int b),cell,none] H'
def VT:TS:=λD σ H=>∃ (l c:Addr) (b:Int),σ=[some (.ref l),some (.int b),some (.int 7),none]/\dB H l c/\
 ∀ (cell:Int) (H':Hp),dB H' l c->(∀ a,a≠l->H' a=H a)->D.nx [some (.ref l),some (.int b),some (.int cell),none] H'
theorem Ru{ns:List Int}{i:Int}(h0:0<=i)(h1:i<(ns.length:Int)):∃ v:Int,qx (ns.map V.int) i=some (.int v):=by
 have hk:i.toNat<ns.length:=by lia
 exists ns[i.toNat]
 have q:qx (ns.map V.int) ((i.toNat:Nat):Int)=some (.int ns[i.toNat]):=cQ (by rw[nG,sF hk] <;> rfl)
 have ei:((i.toNat:Nat):Int)=i:=by lia
 rw[ei]at q;exact q
theorem N8(ns:List Int)(lo hi:Option Int):∃ ms:List Int,kB (ns.map V.int) lo hi=ms.map V.int:=by
 unfold kB;exists (ns.drop (HT.iZ (ns.map V.int).length 0 lo)).take (HT.iZ (ns.map V.int).length (ns.map V.int).length hi-HT.iZ (ns.map V.int).length 0 lo);rw[List.map_take,List.map_drop]
theorem tt{p:Prop} [Decidable p] {Q:V->Hp->Prop} {H:Hp} (hp:p) (h:Q (.bl true) H):Q (.bl (decide p)) H:=by
 rw[decide_eq_true hp];exact h
theorem N7.or{K:PySem.W.Frag}{k:Bool}{H:Hp}{a:Addr}{xs:List V}(h:N7 k H a xs):bL K H a xs\/dG K H a xs:=by
 cases k
 ·exact .inr (dG.of h)
 ·exact .inl (bL.of h)
theorem bY{H H':Hp}(k:∀ a,a≠l->H' a=H a):cJ l H H':=λa o e n=>by rw[k a n];exact e
end gv
namespace gv
open L2 dh
theorem dB.lst{H:Hp}{l c:Addr}(s:dB H l c):∃ xs,H l=some (.lst xs):=by
 obtain⟨n,ns,i,d,r,e1,_⟩:=s;exact⟨_,e1⟩
end gv
namespace dh
open Spec Rows L2
section
variable {prog:Program} {w:World} {A:Around} {R:Result->Shared->Prop} {s:Shared}
def rS(jR:List Expr)(env:Env):Sem Bool:=forIn jR true λc r=>if r=true then do let ok ← isTrue c env (eval c env);pure (ForInStep.yield ok) else pure (ForInStep.yield r)
theorem LA{iter:Expr}{scope:Scope}{it acc:Value}{env:Env}(I:Nat->Shared->Prop)
  (tW:∀ n s,I n s->wpAny (model prog w) A (pyNext it) (λr s₁=>match r with
   | none=>R (.ok .next) s₁
   | some v=>wpAny (model prog w) A (letOwnedTupleGo wD it v) (λ_ s₂=>wpAny (model prog w) A (assign wD env v) (λ_ s₃ =>
     wpAny (model prog w) A (rS jR env) (λok s₄ =>
      if ok=true then wpAny (model prog w) A (eval kg env) (λx s₅=>wpAny (model prog w) A (call (.builtin "list.append") [acc,x]) (λ_ s₆=>∃ m,m<n/\I m s₆) (λ_ _=>False) s₅) (λ_ _=>False) s₄
      else ∃ m,m<n/\I m s₄) (λ_ _=>False) s₃) (λ_ _=>False) s₂) (λ_ _=>False) s₁) (λ_ _=>False) s)
  (n:Nat) (h:I n s):codeAny (model prog w) A (.compLoop (.ListComp kg [⟨wD,iter,jR,0⟩] scope pos) 0 it acc env) R s:=by
 refine codeAny_loop rfl I (λn s hI=>?_) n h;show wpAny _ A ((compTurn (.ListComp kg [⟨wD,iter,jR,0⟩] scope pos) 0 it acc env).onRaise (λx=>do noteFrame x env;theTreesLotGoes x)) _ _ s;refine wpAny_noted ?_;rw[compTurn_list];refine wpAny_bind (wpAny_standAt (wpAny_bind (wpAny_mono (tW n s hI) (λr s₁ h₁=>?_) λ_ _ h'=>h'.elim)))
 cases r with
 | none=>exact wpAny_pure h₁
 | some v =>
  refine wpAny_bind (wpAny_mono h₁ (λ_ s₂ h₂=>wpAny_bind (wpAny_mono h₂ (λ_ s₃ h₃=>wpAny_bind (wpAny_mono h₃ (λok s₄ h₄=>?_) λ_ _ h'=>h'.elim)) λ_ _ h'=>h'.elim)) λ_ _ h'=>h'.elim)
  cases ok with
  | false=>exact wpAny_pure ⟨rfl,h₄⟩
  | true=>exact wpAny_bind (wpAny_bind (wpAny_mono h₄ (λx s₅ h₅=>wpAny_bind (wpAny_mono h₅ (λ_ s₆ h₆=>wpAny_pure (wpAny_pure ⟨rfl,h₆⟩)) λ_ _ h'=>h'.elim)) λ_ _ h'=>h'.elim))
end
section
variable {X:Cx} {N:List Str} {scope:Scope}
def LC(X:Cx)(jR:List Expr)(t:TT):Prop :=
 ∀ (ao:List (Addr × Obj)) (s:Shared) (σ:L2.St) (H:Hp) (Q:Bool->Hp->Prop),Inv X ao σ H s->t σ H Q->wpAny (model X.prog X.w) X.A (rS jR X.env) (TP X ao σ Q) X.xe s
def N9:TT:=λ_ H Q=>Q true H
theorem gI:LC X [] N9:=λao s σ H Q I h=>wpAny_tests_nil ⟨H,I,h⟩
theorem Kf{c:Expr}{t:TT}(h:PT X c t):LC X [c] t:=λao s σ H Q I q=>wpAny_tests_one (h ao s σ H Q I q)
end
end dh
namespace dh
open Spec Rows L2
theorem LF{P:Program}{w:World}{K:PySem.W.Frag}(it:Addr)(lo:Int)(n:Nat):HJ P w K tg (Li lo n) [it] it (λi h=>IsLongIter h it (lo+(i:Nat)*1) ((n:Int)-(i:Nat)) 1) where
 mem:=by simp
 obj:=λi h st b hb=>by
  have e:b=it:=by simpa using hb
  subst e
  exact⟨_,st,λv z=>by
   have z':Data.fields _=Data.cell v:=z
   cases z'⟩
 keep:=λi h h' st k=>k it (by simp) _ st
 item:=by
  intro X hP hw hK hc i ao s σ H E I hf st hg;subst hP hw hK;obtain⟨f0,f1,f2,f3,f4,f5⟩:=hf it (by simp);have W:=Walks.longrange (prog:=X.prog) (w:=X.w) (I.ok.hd hc) it lo 1 n;refine W.item i s _ _ hg st λv h' tk hv Dg kk=>?_;obtain⟨t,rfl⟩:=hv;have I1:Inv X ao σ H { s with heap:=h',toks:=tk }:=I.turned (λb o hb e=>kk b o (by simpa using hb) e) f0 f1 f3 f4 f5;refine⟨Y,E2 (s:={ s with heap:=h',toks:=tk }) (n:="longrange_iterator") Dg rfl rfl (by decide) ⟨.int (lo+i),H,I1,⟨t,?_⟩,⟨V⟩,Dg,λb hb=>(hf b hb).1⟩⟩;rw[Int.mul_one]
 done:=by
  intro X hP hw hK hc i ao s σ H E I hf st hg;subst hP hw hK;obtain⟨f0,f1,f2,f3,f4,f5⟩:=hf it (by simp);exact wpAny_pyNext_long_end (I.ok.hd hc) st (by have:n<=i:=hg;lia) λh' eb=>⟨rfl,I.turned (t':=s.toks) (λb o hb e=>eb b o hb e) f0 f1 f3 f4 f5⟩
 self:=λ_ _ _ _ _ st h=>wpAny_pyIter_longiter st h
section
variable {X:Cx} {tg:Expr}
theorem LG{σ:L2.St}{H:Hp}{s:Shared}{R:It->Hp->Prop}{E:Value->Shared->Prop}{lo hi:Int}{t u v:Tok}{tk:Nat}(I:Inv X ao σ H s)
  (q:R (Li lo (hi-lo).toNat) H):wpAny (model X.prog X.w) X.A (pyIter (.ref s.heap.objs.size)) (PIE X ao σ tg R) E { s with heap:=s.heap.push { cls:=.type "range",data:=.fields #[.int lo t,.int hi u,.int 1 v] },toks:=tk }:=by
 have I1:Inv X ao σ H { s with heap:=s.heap.push { cls:=.type "range",data:=.fields #[.int lo t,.int hi u,.int 1 v] },toks:=tk }:=I.kept λb o e=>Heap.get?_push_of_some _ e;have e1:lo+((0:Nat):Int)*1=lo:=by simp
 have e2:(((hi-lo).toNat:Nat):Int)-((0:Nat):Int)=Builtin.Range.rangeSize lo hi 1:=by rw[rangeSize_one];split <;> lia
 have fp:∀ b∈[(s.heap.push { cls:=.type "range",data:=.fields #[.int lo t,.int hi u,.int 1 v] }).objs.size],pC X ao H b:=λb hb=>by
  have e:b=(s.heap.push { cls:=.type "range",data:=.fields #[.int lo t,.int hi u,.int 1 v] }).objs.size:=by simpa using hb
  subst e;exact I1.Lh (gg _) (I1.hok.fresh (gg _))
 cases hb:Builtin.Range.small lo hi 1 with
 | true =>
  refine wpAny_pyIter_range (IsRange.new ..) hb ?_;refine⟨_,[(s.heap.push { cls:=.type "range",data:=.fields #[.int lo t,.int hi u,.int 1 v] }).objs.size],P,H,rfl,I1.kept (t':=tk) λb o e=>Heap.get?_push_of_some _ e,zm _ lo (hi-lo).toNat,?_,fp,q⟩;show IsRangeIter _ _ (lo+((0:Nat):Int)*1) ((((hi-lo).toNat:Nat):Int)-((0:Nat):Int)) 1;rw[e1,e2];exact Heap.get?_push_size _ rfl
 | false =>
  refine wpAny_pyIter_longrange (IsRange.new ..) hb ?_;refine⟨_,[(s.heap.push { cls:=.type "range",data:=.fields #[.int lo t,.int hi u,.int 1 v] }).objs.size],P,H,rfl,I1.kept (t':=tk) λb o e=>Heap.get?_push_of_some _ e,LF _ lo (hi-lo).toNat,?_,fp,q⟩;show IsLongIter _ _ (lo+((0:Nat):Int)*1) ((((hi-lo).toNat:Nat):Int)-((0:Nat):Int)) 1;rw[e1,e2];exact Heap.get?_push_size _ rfl
def Zu(ta:TA):TI:=fun σ H R=>ta σ H λvs H1=>∃ i j:Int,vs=[.int i,.int j]/\R (Li i (j-i).toNat) H1
theorem Cp{a b:Expr}{ta:TA}{p pos:Pos}(hg:Gl X "range")(hm:X.mg "range"=none)(ha:PA X [a,b] ta)(hs:starEach [a,b] X.env=[(false,eval a X.env),(false,eval b X.env)]:=by rfl)(Hl:starEach [b] X.env=[(false,eval b X.env)]:=by rfl) :
  PI X tg (.Call (.Name "range" p) [a,b] [] pos) (Zu ta):=by
 intro ao s σ H R I h;refine Call_ (wB I hg hm boot_range (PyProof.Rows.callWith_type1 (cX (ha pos ao s σ H _ I h) λus s1 ⟨vs,H1,I1,r1,q1⟩=>?_) (by rw[hs,Hl]) (by rw[Hl];rfl)));obtain⟨i,j,e,q⟩:=q1;subst e;obtain⟨u1,u2,rfl,⟨t,rfl⟩,⟨t',rfl⟩⟩:=r1.two;exact call_range_2 (LG I1 q)
end
end dh
namespace dh
open Spec Rows L2
section
variable {prog:Program} {w:World} {A:Around} {R:Result->Shared->Prop} {s:Shared}
theorem Rv(kg tg iter qG dP:Expr)(jR jj:List Expr)(scope:Scope)(pos:Pos)(it acc:Value)(env:Env) :
  compTurn (.ListComp kg [⟨tg,iter,jR,0⟩,⟨qG,dP,jj,0⟩] scope pos) 1 it acc env=(do
   standAt dP.pos
   match ← pyNext it with
   | none=>pure (.done .next)
   | some v =>
    letOwnedTupleGo qG it v
    assign qG env v
    let ok ← rS jj env
    if ok then (do let _ ← call (.builtin "list.append") [acc,← eval kg env])
    again (.compLoop (.ListComp kg [⟨tg,iter,jR,0⟩,⟨qG,dP,jj,0⟩] scope pos) 1 it acc env)):=by rfl
theorem Oa(kg tg iter qG dP:Expr)(jR jj:List Expr)(scope:Scope)(pos:Pos)(it acc:Value)(env:Env) :
  compTurn (.ListComp kg [⟨tg,iter,jR,0⟩,⟨qG,dP,jj,0⟩] scope pos) 0 it acc env=(do
   standAt iter.pos
   match ← pyNext it with
   | none=>pure (.done .next)
   | some v =>
    letOwnedTupleGo tg it v
    assign tg env v
    let ok ← rS jR env
    if ok then
     let x ← eval dP env
     standAt dP.pos
     let x ← foldedSetIterable dP env x
     let _ ← runOwn (.compStart (.ListComp kg [⟨tg,iter,jR,0⟩,⟨qG,dP,jj,0⟩] scope pos) 1 (← holding [x] (pyIter x)) acc env) env
    again (.compLoop (.ListComp kg [⟨tg,iter,jR,0⟩,⟨qG,dP,jj,0⟩] scope pos) 0 it acc env)):=by rfl
theorem VU{iter:Expr}{scope:Scope}{it acc:Value}{env:Env}(I:Nat->Shared->Prop)
  (tW:∀ n s,I n s->wpAny (model prog w) A (pyNext it) (λr s₁=>match r with
   | none=>R (.ok .next) s₁
   | some v=>wpAny (model prog w) A (letOwnedTupleGo qG it v) (λ_ s₂=>wpAny (model prog w) A (assign qG env v) (λ_ s₃ =>
     wpAny (model prog w) A (rS jj env) (λok s₄ =>
      if ok=true then wpAny (model prog w) A (eval kg env) (λx s₅=>wpAny (model prog w) A (call (.builtin "list.append") [acc,x]) (λ_ s₆=>∃ m,m<n/\I m s₆) (λ_ _=>False) s₅) (λ_ _=>False) s₄
      else ∃ m,m<n/\I m s₄) (λ_ _=>False) s₃) (λ_ _=>False) s₂) (λ_ _=>False) s₁) (λ_ _=>False) s)
  (n:Nat) (h:I n s):codeAny (model prog w) A (.compLoop (.ListComp kg [⟨tg,iter,jR,0⟩,⟨qG,dP,jj,0⟩] scope pos) 1 it acc env) R s:=by
 refine codeAny_loop rfl I (λn s hI=>?_) n h;show wpAny _ A ((compTurn (.ListComp kg [⟨tg,iter,jR,0⟩,⟨qG,dP,jj,0⟩] scope pos) 1 it acc env).onRaise (λx=>do noteFrame x env;theTreesLotGoes x)) _ _ s;refine wpAny_noted ?_;rw[Rv];refine wpAny_bind (wpAny_standAt (wpAny_bind (wpAny_mono (tW n s hI) (λr s₁ h₁=>?_) λ_ _ h'=>h'.elim)))
 cases r with
 | none=>exact wpAny_pure h₁
 | some v =>
  refine wpAny_bind (wpAny_mono h₁ (λ_ s₂ h₂=>wpAny_bind (wpAny_mono h₂ (λ_ s₃ h₃=>wpAny_bind (wpAny_mono h₃ (λok s₄ h₄=>?_) λ_ _ h'=>h'.elim)) λ_ _ h'=>h'.elim)) λ_ _ h'=>h'.elim)
  cases ok with
  | false=>exact wpAny_pure ⟨rfl,h₄⟩
  | true=>exact wpAny_bind (wpAny_bind (wpAny_mono h₄ (λx s₅ h₅=>wpAny_bind (wpAny_mono h₅ (λ_ s₆ h₆=>wpAny_pure (wpAny_pure ⟨rfl,h₆⟩)) λ_ _ h'=>h'.elim)) λ_ _ h'=>h'.elim))
theorem Rw{iter:Expr}{scope:Scope}{it acc:Value}{env:Env}
  (h0:codeAny (model prog w) A (.compLoop (.ListComp kg [⟨tg,iter,jR,0⟩,⟨qG,dP,jj,0⟩] scope pos) 1 it acc env) R s)
  (h:wpAny (model prog w) A (pyIter it) (λRx s'=>codeAny (model prog w) A (.compLoop (.ListComp kg [⟨tg,iter,jR,0⟩,⟨qG,dP,jj,0⟩] scope pos) 1 Rx acc env) R s') (λ_ _=>False) s) :
  codeAny (model prog w) A (.compStart (.ListComp kg [⟨tg,iter,jR,0⟩,⟨qG,dP,jj,0⟩] scope pos) 1 it acc env) R s:=by
 refine codeAny_of_tree ?_;show wpAny _ _ ((compStart (.ListComp kg [⟨tg,iter,jR,0⟩,⟨qG,dP,jj,0⟩] scope pos) 1 it acc env).onRaise (λx=>do noteFrame x env;standAt theWindowsPlace)) _ _ s;refine wpAny_notedAt ?_;unfold compStart;show wpAny _ _ (ask >>= _) _ _ s;refine wpAny_bind (wpAny_askSetting (wpAny_ite ?_));split
 ·first
   | exact wpAny_bind (wpAny_pure (wpAny_pure (And.intro rfl h0)))
   | exact wpAny_pure (And.intro rfl h0)
 ·first
   | exact wpAny_bind (wpAny_rule (wpAny_bind (wpAny_standAt (wpAny_bind (wpAny_mono h (λRx s' h'=>wpAny_pure (And.intro rfl h')) λ_ _ x=>x.elim)))))
   | (refine wpAny_bind (wpAny_rule ?_);show wpAny _ _ (standAt dP.pos >>= _) _ _ s;exact wpAny_bind (wpAny_standAt (wpAny_bind (wpAny_mono h (λRx s' h'=>wpAny_pure (And.intro rfl h')) λ_ _ x=>x.elim))))
theorem Rz{iter:Expr}{scope:Scope}{it acc:Value}{env:Env}(I:Nat->Shared->Prop)
  (Hl:∀ x,foldedSetIterable dP env x=pure x)
  (tW:∀ n s,I n s->wpAny (model prog w) A (pyNext it) (λr s₁=>match r with
   | none=>R (.ok .next) s₁
   | some v=>wpAny (model prog w) A (letOwnedTupleGo tg it v) (λ_ s₂=>wpAny (model prog w) A (assign tg env v) (λ_ s₃ =>
     wpAny (model prog w) A (rS jR env) (λok s₄ =>
      if ok=true then wpAny (model prog w) A (eval dP env) (λx s₅=>wpAny (model prog w) A (pyIter x) (λZv s₆ =>
       codeAny (model prog w) A (.compStart (.ListComp kg [⟨tg,iter,jR,0⟩,⟨qG,dP,jj,0⟩] scope pos) 1 Zv acc env) (λr s₇=>(∃ f,r=.ok f)/\∃ m,m<n/\I m s₇) s₆) (λ_ _=>False) s₅) (λ_ _=>False) s₄
      else ∃ m,m<n/\I m s₄) (λ_ _=>False) s₃) (λ_ _=>False) s₂) (λ_ _=>False) s₁) (λ_ _=>False) s)
  (n:Nat) (h:I n s):codeAny (model prog w) A (.compLoop (.ListComp kg [⟨tg,iter,jR,0⟩,⟨qG,dP,jj,0⟩] scope pos) 0 it acc env) R s:=by
 refine codeAny_loop rfl I (λn s hI=>?_) n h;show wpAny _ A ((compTurn (.ListComp kg [⟨tg,iter,jR,0⟩,⟨qG,dP,jj,0⟩] scope pos) 0 it acc env).onRaise (λx=>do noteFrame x env;theTreesLotGoes x)) _ _ s;refine wpAny_noted ?_;rw[Oa];refine wpAny_bind (wpAny_standAt (wpAny_bind (wpAny_mono (tW n s hI) (λr s₁ h₁=>?_) λ_ _ h'=>h'.elim)))
 cases r with
 | none=>exact wpAny_pure h₁
 | some v =>
  refine wpAny_bind (wpAny_mono h₁ (λ_ s₂ h₂=>wpAny_bind (wpAny_mono h₂ (λ_ s₃ h₃=>wpAny_bind (wpAny_mono h₃ (λok s₄ h₄=>?_) λ_ _ h'=>h'.elim)) λ_ _ h'=>h'.elim)) λ_ _ h'=>h'.elim)
  cases ok with
  | false=>exact wpAny_pure ⟨rfl,h₄⟩
  | true =>
   refine wpAny_bind (wpAny_mono h₄ (λx s₅ h₅=>wpAny_bind (wpAny_standAt (wpAny_bind (wpAny_of_eq (Hl x) (wpAny_bind (wpAny_holding (wpAny_mono h₅ (λZv s₆ h₆=>?_) λ_ _ h'=>h'.elim))))))) λ_ _ h'=>h'.elim);refine wpAny_bind (wpAny_runOwn (codeAny_mono h₆ λr s₇ Df=>?_));obtain⟨⟨f,hf⟩,hm⟩:=Df;subst hf;exact wpAny_pure ⟨rfl,hm⟩
end
section
variable {X:Cx} {N:List Str} {scope:Scope}
def Ip(wi:TI)(acc:Addr)(g:TG)(tt:TT)(te:TE):L2.St->Hp->(L2.St->Hp->Prop)->Prop:=fun σ H Nx=>wi σ H λJ H1 =>
 ∃ W:Nat->Nat->L2.St->Hp->Prop,(∃ m,W 0 m σ H1)/\∀ i m σ H,W i m σ H->
  (J.stop i H/\Nx σ H)\/(J.go i H/\∃ N2:L2.St->Hp->Prop,(∀ σ' H',N2 σ' H'->∃ m',m'<m/\W (i+1) m' σ' H')/\∀ x H',J.Ni i H x H'->g x σ H' fun σ2 H2=>tt σ2 H2 λb H3 =>
   if b=true then te σ2 H3 λv H4=>∃ xs,H4 acc=some (.lst xs)/\xs.length<sizeLine/\N2 σ2 (aP H4 acc (.lst (xs++[v]))) else N2 σ2 H3)
theorem LH{Y:Cx}{iter:Expr}{Iq:TI}{g2:TG}{Ir:TT}{te:TE}(hc:Y.calm=true)(hxe:Y.xe=λ_ _=>False)(hi:PI Y qG dP Iq)(hg:PG Y qG g2)(ht:LC Y jj Ir)(he:PE Y kg te)
  {ao:List (Addr × Obj)} {s:Shared} {σ:L2.St} {H:Hp} {Nx:L2.St->Hp->Prop} (I:Inv Y ao σ H s) (h:Ip Iq acc g2 Ir te σ H Nx) :
  wpAny (model Y.prog Y.w) Y.A (eval dP Y.env) (λx s₅=>wpAny (model Y.prog Y.w) Y.A (pyIter x) (λZv s₆ =>
   codeAny (model Y.prog Y.w) Y.A (.compStart (.ListComp kg [⟨tg,iter,jR,0⟩,⟨qG,dP,jj,0⟩] scope pos) 1 Zv (.ref acc) Y.env) (λr s₇=>(∃ f,r=.ok f)/\∃ σ' H',Inv Y ao σ' H' s₇/\Nx σ' H') s₆) (λ_ _=>False) s₅) (λ_ _=>False) s:=by
 have hi':=hi ao s σ H _ I h;have hg':=hg;have ht':=ht;have Kg:=he;unfold PG at hg';unfold LC at ht';unfold PE at Kg;rw[hxe]at hi' hg' ht' Kg;refine cX hi' λv s1 h1=>cX h1 λYH s2 h2=>?_;obtain⟨it,fp,tn,J,H2,e,I2,T,st2,f2,W,⟨m0,w0⟩,tW⟩:=h2;subst e;have tY:∀ {H':Hp},(∀ b∈fp,H' b=none)->∀ b∈fp,pC Y ao H' b:=λhn b hb=>⟨hn b hb,(f2 b hb).2⟩
 have loop:codeAny (model Y.prog Y.w) Y.A (.compLoop (.ListComp kg [⟨tg,iter,jR,0⟩,⟨qG,dP,jj,0⟩] scope pos) 1 (.ref it) (.ref acc) Y.env) (λr s₇=>(∃ f,r=.ok f)/\∃ σ' H',Inv Y ao σ' H' s₇/\Nx σ' H') s2:=by
  refine VU (λn s'=>∃ i σ' H',Inv Y ao σ' H' s'/\tn i s'.heap/\(∀ b∈fp,H' b=none)/\W i n σ' H') ?_ m0 ⟨0,σ,H2,I2,st2,λb hb=>(f2 b hb).1,w0⟩;rintro n s6 ⟨i,σ6,H6,I6,Ur,MY,w6⟩;rcases tW i n σ6 H6 w6 with ⟨stop,qn⟩|⟨go,N2,hN,step⟩
  ·refine cX (T.done Y rfl rfl rfl hc i ao s6 σ6 H6 _ I6 (tY MY) Ur stop) λr s7 HH=>?_;obtain⟨hr,I7⟩:=HH;subst hr;exact⟨⟨Y⟩,σ6,H6,I7,qn⟩
  ·refine cX (T.item Y rfl rfl rfl hc i ao s6 σ6 H6 _ I6 (tY MY) Ur go) λr s7 HG=>?_;obtain⟨u,hr,h7⟩:=HG;subst hr;refine cX h7 λ_ s8 Bb=>?_;obtain⟨x,H8,I8,r8,y8,Ob,Fi⟩:=Bb;have Zw:=I8.pinned (tY Fi) (T.obj _ _ Ob);refine cX (hg' _ s8 σ6 H8 x u _ Zw r8 (step x H8 y8)) λ_ s9 EW=>?_;obtain⟨σ9,H9,I9,q9⟩:=EW;refine cX (ht' _ s9 σ9 H9 _ I9 q9) λok s10 Bc=>?_;obtain⟨MZ,Us,Cg⟩:=Bc
   have again:∀ {σ7:L2.St} {H7:Hp} {wj:Shared},Inv Y (ao++tX fp s8.heap) σ7 H7 wj->N2 σ7 H7->∃ m,m<n/\∃ i σ' H',Inv Y ao σ' H' wj/\tn i wj.heap/\(∀ b∈fp,H' b=none)/\W i m σ' H':=λ{σ7 H7 wj} I7 n7=>by
    obtain⟨m',hm,w7⟩:=hN σ7 H7 n7;refine⟨m',hm,i+1,σ7,H7,I7.oK,T.keep _ _ _ Ob λb hb o e=>(I7.pin (b,o) (oY _ (oY _ (gP hb e)))).1,λb hb=>?_,w7⟩;obtain⟨o,e,d⟩:=T.obj _ _ Ob b hb;exact (I7.pin (b,o) (oY _ (oY _ (gP hb e)))).2.1
   cases ok with
   | false =>
    rw[if_neg gB]at Cg;exact again Us Cg
   | true =>
    rw[if_pos rfl]at Cg;refine cX (Kg _ s10 σ9 MZ _ Us Cg) λv wj EX=>?_;obtain⟨y,H11,I11,r11,xs,hx,hz,n11⟩:=EX;have ap:=bT _ wj σ9 H11 (.ref acc) [y] (.ref acc) [v] (λ_ H'=>N2 σ9 H') I11 rfl (.cons r11 .nil) ⟨_,xs,y,V,hx,hz,n11⟩;rw[hxe]at ap;exact cX ap λ_ lI ⟨_,Zx,I12,_,VW⟩=>again I12 VW
 exact Rw loop (T.self _ _ _ _ _ st2 loop)
theorem Fj{lo:Int}{k:Nat}{g:TG}{tt:TT}{te:TE}{σ:L2.St}{H:Hp}{Nx:L2.St->Hp->Prop}(Pv:Nat->L2.St->Hp->Prop)(h0:Pv 0 σ H)
  (hs:∀ i σ H,i<k->Pv i σ H->g (.int (lo+i)) σ H fun σ2 H2=>tt σ2 H2 λb H3=>if b=true then te σ2 H3 λv H4=>∃ ys,H4 acc=some (.lst ys)/\ys.length<sizeLine/\Pv (i+1) σ2 (aP H4 acc (.lst (ys++[v]))) else Pv (i+1) σ2 H3)
  (hd:∀ σ H,Pv k σ H->Nx σ H):∃ W:Nat->Nat->L2.St->Hp->Prop,(∃ m,W 0 m σ H)/\∀ i m σ H,W i m σ H->
  ((Li lo k).stop i H/\Nx σ H)\/((Li lo k).go i H/\∃ N2:L2.St->Hp->Prop,(∀ σ' H',N2 σ' H'->∃ m',m'<m/\W (i+1) m' σ' H')/\∀ x H',(Li lo k).Ni i H x H'->g x σ H' fun σ2 H2=>tt σ2 H2 λb H3 =>
   if b=true then te σ2 H3 λv H4=>∃ xs,H4 acc=some (.lst xs)/\xs.length<sizeLine/\N2 σ2 (aP H4 acc (.lst (xs++[v]))) else N2 σ2 H3):=by
 refine⟨λi m σ H=>m=k-i/\i<=k/\Pv i σ H,⟨k,by simp,Nat.zero_le _,h0⟩,?_⟩;rintro i m σ H ⟨rfl,hi,p⟩;by_cases qF:i<k
 ·refine .inr ⟨qF,Pv (i+1),fun σ' H' p'=>⟨k-(i+1),Q,rfl,qF,p'⟩,λx H' y=>?_⟩;obtain⟨e,y⟩:=y;subst e y;exact hs i σ _ qF p
 ·have e:i=k:=by lia
  subst e;exact .inl ⟨Nat.le_refl _,hd σ H p⟩
end
theorem VX{i:Nat}{v:V}{σ:L2.St}{H:Hp}{Q:L2.St->Bool->Hp->Prop}(h:Q (σ.set i (some v)) true H):sV i v σ H (fun σ2 H2=>N9 σ2 H2 (Q σ2)):=h
theorem yes{σ:L2.St}{H:Hp}{Q:Bool->Hp->Prop}(h:Q true H):N9 σ H Q:=h
end dh
namespace gv
open L2 dh
class inductive RA
 | mk (r:Addr) (row:Row) (_:vs=[.ref r]) (_:cA H r row) (_:(∀ p∈row,p.1<=p.2)) (_:(bM row).length<=1000000) (_ :
 ∀ (n:Addr) (H':Hp),H' n=some (.lst ((bM row).map V.int))->aL H H'->H n=none->Q (.ref n) H')
theorem zN{row:Row}{i:Nat}{p:Int × Int}(h:row[i]?=some p):bM (row.take (i+1))=bM (row.take i)++jF p:=by
 rw[take_snoc h,cZ,gn]
theorem tH(row:Row)(i:Nat):(bM (row.take i)).length<=(bM row).length:=by
 conv=>rhs;rw[← List.take_append_drop i row,cZ,dz]
 lia
theorem Fl{H0 H2:Hp}{q t:Addr}{bs:List Addr}{row:Row}{st en:Int}(Zy:H0 q=none)(s:aL H0 H2)(d9:H2 q=some (.lst (bs.map V.ref)))(hb:bQ H2 bs row)(ht:H2 t=none) :
  (aP (aP H2 t (.tup [.int st,.int en])) q (.lst (bs.map V.ref++[.ref t]))) q=some (.lst ((bs++[t]).map V.ref))/\
  bQ (aP (aP H2 t (.tup [.int st,.int en])) q (.lst (bs.map V.ref++[.ref t]))) (bs++[t]) (row++[(st,en)])/\aL H0 (aP (aP H2 t (.tup [.int st,.int en])) q (.lst (bs.map V.ref++[.ref t]))):=by
 have VY:q≠t:=aB d9 ht;have s1:aL H2 (aP H2 t (.tup [.int st,.int en])):=ak ht _;refine⟨by rw[af,gG];rfl,?_,bP Zy (s.trans s1) (aM q _ _)⟩;refine bQ.snoc ((hb.same s1).keep (s1 _ _ d9) (aM q _ _)) ?_;show aP _ q _ t=_;rw[aN VY.symm,af]
theorem turned{H0 H2:Hp}{q t a:Addr}{bs:List Addr}{row:Row}{st en:Int}(Zy:H0 q=none)(s:aL H0 H2)(d9:H2 q=some (.lst (bs.map V.ref++[.ref a])))(hb:bQ H2 bs row)(ht:H2 t=none) :
  (aP (aP H2 t (.tup [.int st,.int en])) q (.lst ((bs.map V.ref++[V.ref a]).set bs.length (V.ref t)))) q=some (.lst ((bs++[t]).map V.ref))/\
  bQ (aP (aP H2 t (.tup [.int st,.int en])) q (.lst ((bs.map V.ref++[V.ref a]).set bs.length (V.ref t)))) (bs++[t]) (row++[(st,en)])/\aL H0 (aP (aP H2 t (.tup [.int st,.int en])) q (.lst ((bs.map V.ref++[V.ref a]).set bs.length (V.ref t)))):=by
 have VY:q≠t:=aB d9 ht;have s1:aL H2 (aP H2 t (.tup [.int st,.int en])):=ak ht _
 have e:(bs.map V.ref++[V.ref a]).set bs.length (V.ref t)=(bs++[t]).map V.ref:=by
  have z:=zL (bs.map V.ref) (V.ref a) (V.ref t);rw[cD]at z;rw[z,gG];rfl
 rw[e];refine⟨af,?_,bP Zy (s.trans s1) (aM q _ _)⟩;refine bQ.snoc ((hb.same s1).keep (s1 _ _ d9) (aM q _ _)) ?_;show aP _ q _ t=_;rw[aN VY.symm,af]
theorem Oc(bs:List Addr)(a:Addr):J1 (bs.map V.ref++[V.ref a]).length (-1)=some bs.length:=by
 rw[dz,cD,iy];exact zK _
theorem LI{f:Row->Int × Int->Row}{row:Row}{i:Nat}{p:Int × Int}(h:row[i]?=some p):(row.take (i+1)).foldl f []=f ((row.take i).foldl f []) p:=foldl_take_succ f row [] i p h
theorem Fo(row:Row):∀ t:Row,(row.foldl ef t).length<=t.length+row.length:=by
 induction row with
 | nil=>intro t;simp
 | cons p row ih =>
  intro t;have h1:=ih (ef t p)
  have h2:(ef t p).length<=t.length+1:=by
   unfold ef;split
   ·lia
   ·exact xZ _ _ _
  rw[l6,ny];lia
theorem zO(ns:List Int):∀ t:Row,(ns.foldl (λt n=>iP t n (n+1)) t).length<=t.length+ns.length:=by
 induction ns with
 | nil=>intro t;simp
 | cons n ns ih =>
  intro t;have h1:=ih (iP t n (n+1));have h2:=xZ t n (n+1);rw[l6,ny];lia
end gv
namespace gv
open Spec Rows L2 dh
class inductive VZ
 | mk (r:Addr) (row:Row) (_:vs=[.ref r]) (_:cA H r row) (_:row.length<=1000000) (_: ∀ H',aL H H'->Q (.int (jc row)) H')
end gv
namespace dX
open Spec Rows PySem.W L2
section
variable {P:Program} {w:World} {H H':Hp} {h h0 g:Heap} {a T:Addr} {C a0:Value} {o:HO}
theorem RB(x:fV P w H h a o):∃ u,h.get? a=some u:=by
 cases o with
 | lst xs=>obtain⟨_,_,_,_,e⟩:=x;exact⟨_,e⟩
 | tup xs=>obtain⟨_,_,_,_,e,_⟩:=x;exact⟨_,e⟩
 | dK kvs=>obtain⟨_,_,_,_,_,_,_,e,_⟩:=x;exact⟨_,e⟩
 | dT kvs=>obtain⟨_,_,_,_,_,_,_,e,_⟩:=x;exact⟨_,e⟩
 | set S n=>obtain⟨_,_,_,_,e,_⟩:=x;exact⟨_,e⟩
 | ins C dx fs=>obtain⟨_,_,_,e,_⟩:=x;exact⟨_,e⟩
 | own y=>exact x
 | xd fs=>obtain⟨_,⟨_,_,_,e,_⟩,_⟩:=x;exact⟨_,e⟩
 | EH lo hi=>obtain⟨_,_,_,e⟩:=x;exact⟨_,e⟩
 | Hy ob u=>exact⟨_,x.1⟩
 | QS ps=>exact⟨_,x⟩
 | met f y=>exact⟨_,x⟩
 | ext φ=>exact x.2.1
theorem Kh(x:qI P w H h){b:Addr}(e:h.get? b=none):H b=none:=by
 cases q:H b with
 | none=>rfl
 | some u =>
  obtain⟨z,hz⟩:=RB (x b u q);rw[e]at hz;cases hz
theorem Cq{l:List Addr}{b:Addr}(e:(hideAll h l).get? b=none):b∈l\/h.get? b=none:=by
 by_cases hb:b∈l
 ·exact .inl hb
 ·right
  cases q:h.get? b with
  | none=>rfl
  | some u=>rw[hideAll_get l q hb]at e;cases e
def Fly(h0:Heap)(H:Hp)(h:Heap)(a T:Addr)(C a0:Value):Prop :=
 (∃ oe vs oT ts,h.get? a=some oe/\(oe.cls=C/\vs[0]?=some a0)/\oe.data=.fields vs/\vs[1]?=some (.ref T)/\T≠a/\h.get? T=some oT/\oT.data=.fields ts/\ts[3]?=some .none)/\(H a=none/\H T=none)/\h0.get? a=none/\h0.get? T=none
theorem zP{fs hd:List Addr}{l':List Env}(u:Un fs [] H H' h0 h)(hok:qI P w H' h)(h1:∀ b o,h0.get? b=some o->b∉fs->b∉hd)(h2:∀ b∈hd,H' b=none)
  (h3:∀ b∈fs,∃ o,h.get? b=some o/\∀ vs,o.data≠.fields vs) (h4:∀ b∈hd,h0.get? b=none\/∃ o,h.get? b=some o/\∀ vs,o.data≠.fields vs)
  (ha:h0.get? a=none) (ha':H' a=none) (f:Heap.FlyingW (hideAll h hd) l' a C a0 g) (k:h.UpToSlots g) :
  Un fs [] H H' h0 g/\qI P w H' g/\∃ T,Fly h0 H' g a T C a0:=by
 have nil:∀ b:Addr,b∉([]:List Addr):=λb=>List.not_mem_nil;have kp:∀ b o,h.get? b=some o->b∉hd->g.get? b=some o:=λb o e n=>f.1 b o (hideAll_get hd e n);refine⟨⟨λb o e n hb _=>kp b o (u.keep b o e n hb (nil b)) (h1 b o e hb),λb o e n hb _=>?_,λb o e n _=>u.free b o e n (nil b),λb o e _=>?_,u.tups,u.Ba,u.C9⟩,λb o e=>?_,?_⟩
 ·obtain⟨sl,e1⟩:=u.slot b o e n hb (nil b);obtain⟨o',e2,nf⟩:=h3 b hb;obtain⟨sl',e3⟩:=k b o' e2 nf;rw[e1]at e2;cases e2;exact⟨sl',e3⟩
 ·by_cases hb:b∈fs
  ·obtain⟨o',e2,nf⟩:=h3 b hb;obtain⟨sl',e3⟩:=k b o' e2 nf;exact⟨_,e3⟩
  ·obtain⟨o',e1⟩:=u.there b o e (nil b);exact⟨o',kp b o' e1 (h1 b o e hb)⟩
 ·refine (hok b o e).stay (λc v hc q=>kp c v q λhm=>?_) (λ_ q=>q) λ_ _ q=>q;have hn:=h2 c hm;rcases hc with rfl|hc
  ·rw[e]at hn;cases hn
  ·rw[hc]at hn;cases hn
 ·obtain⟨_,_,_,oe,vs,T,oT,ts,e1,e2,e3,e4,e5,e6,e7,e8,e9⟩:=f;exists T,⟨oe,vs,oT,ts,e1,e2,e3,e4,e6,e7,e8,e9⟩,⟨ha',?_⟩,ha
  ·rcases Cq e5 with hm|hn
   ·exact h2 T hm
   ·exact Kh hok hn
  ·rcases Cq e5 with hm|hn
   ·rcases h4 T hm with z|⟨o,eo,nf⟩
    ·exact z
    ·obtain⟨sl,eg⟩:=k T o eo nf;rw[e7]at eg;cases eg;exact absurd e8 (nf ts)
   ·cases q:h0.get? T with
    | none=>rfl
    | some o =>
     obtain⟨o',eo⟩:=u.there T o q (nil T);rw[hn]at eo;cases eo
theorem zQ{zt:Heap}{l:List Env}(F:Fly h0 H h a T C a0)(S:h.FunFrames zt l):Heap.FlyingW (hideAll h (a::T::qE l)) l a C a0 h:=by
 obtain⟨⟨oe,vs,oT,ts,e1,e2,e3,e4,e5,e6,e7,e8⟩,_,_⟩:=F;refine⟨λb o e=>of_hideAll _ e,hideAll_none _ (tU),funFrames_hide S λenv he b hb=>?_,oe,vs,T,oT,ts,e1,e2,e3,e4,?_,e5,e6,e7,e8⟩
 ·exact nu _ (nu _ (List.mem_filterMap.mpr ⟨env,he,hb⟩))
 ·exact hideAll_none _ (nu _ tU)
end
def Fp(P:Program)(w:World):MW:=λzn H s E e s'=>∃ a T C a0 H',e=.ref a/\(s'.os=s.os/\AllBare s'.gens)/\Un (qE zn) [] H H' s.heap s'.heap/\qI P w H' s'.heap/\Fly s.heap H' s'.heap a T C a0/\E C none H'
section
variable {X:Cx} {ao:List (Addr × Obj)} {σ:L2.St} {H H1:Hp} {s s':Shared} {a T:Addr} {C a0:Value}
theorem Od(ve:X.stack=X.env::X.zn)(hf:X.env.frame=some X.env.locals):qE X.stack=X.env.locals::X.fs:=by
 rw[ve];unfold qE;rw[List.filterMap_cons,hf];rfl
theorem rT(I:Inv X ao σ H s):∀ b∈qE X.stack,∃ o,s.heap.get? b=some o/\∀ vs,o.data≠.fields vs:=λb hb=>(I.stack.mem hb).2
theorem Fq{l':List Env}{g:Heap}(I:Inv X ao σ H s)(os:s'.os=s.os)(bare:AllBare s'.gens)(u:Un (qE X.stack) [] H H1 s.heap s'.heap)(hok:qI X.prog X.w H1 s'.heap)(F:Fly s.heap H1 s'.heap a T C a0)
  (f:Heap.FlyingW (hideAll s'.heap (a::T::qE X.stack)) l' a C a0 g) (k:s'.heap.UpToSlots g):Inv X ao σ H1 { s' with heap:=g }:=by
 have I1:Inv X ao σ H1 s':=I.ET (ch:=[]) os u hok bare (λb z=>absurd z (by simp));obtain⟨_,⟨na,nT⟩,sa,sT⟩:=id F
 have p1:∀ b o,s.heap.get? b=some o->b∉qE X.stack->b∉a::T::qE X.stack:=λb o e hb hm=>by
  rcases List.mem_cons.mp hm with rfl|hm
  ·rw[sa]at e;cases e
  rcases List.mem_cons.mp hm with rfl|hm
  ·rw[sT]at e;cases e
  ·exact hb hm
 have p2:∀ b∈a::T::qE X.stack,H1 b=none:=λb hm=>by
  rcases List.mem_cons.mp hm with rfl|hm
  ·exact na
  rcases List.mem_cons.mp hm with rfl|hm
  ·exact nT
  ·exact I1.vc b hm
 have p4:∀ b∈a::T::qE X.stack,s.heap.get? b=none\/∃ o,s'.heap.get? b=some o/\∀ vs,o.data≠.fields vs:=λb hm=>by
  rcases List.mem_cons.mp hm with rfl|hm
  ·exact .inl sa
  rcases List.mem_cons.mp hm with rfl|hm
  ·exact .inl sT
  ·exact .inr (rT I1 b hm)
 obtain⟨u',Ib,_⟩:=zP (hd:=a::T::qE X.stack) u hok p1 p2 (rT I1) p4 sa na f k;exact I.ET (s':={ s' with heap:=g }) (ch:=[]) os u' Ib bare (λb z=>absurd z (by simp))
end
section
variable {P:Program} {w:World} {K:PySem.W.Frag} {mg:Str->Option Value} {zt:Heap} {N:List Str} {dc:Str} {scope:Scope} {f:Addr} {cd:Value} {A:Around} {zn:List Env} {s:Shared} {H:Hp} {E:XK}
abbrev LJ(P:Program)(w:World)(K:PySem.W.Frag)(mg:Str->Option Value)(zt:Heap)(N:List Str)(dc:Str)(scope:Scope)(f:Addr)(cd:Value)(A:Around)(zn:List Env)(s:Shared)(H:Hp)(E:XK):Cx :=
 E4 (Fp P w) P w K mg zt N dc scope f cd A zn s H E
theorem Kl:mq (Fp P w) (LJ P w K mg zt N dc scope f cd A zn s H E) E:=by
 intro ao σ H1 s1 e s' I h;obtain⟨a,T,C,a0,H',rfl,⟨os,bare⟩,u,hok,F,q⟩:=h;have I1:Inv (LJ P w K mg zt N dc scope f cd A zn s H E) ao σ H' s':=I.ET (ch:=[]) os u hok bare (λb z=>absurd z (by simp));obtain⟨_,⟨na,nT⟩,sa,sT⟩:=id F
 have old:∀ b,s1.heap.get? b=none->s.heap.get? b=none:=λb e=>by
  cases z:s.heap.get? b with
  | none=>rfl
  | some o =>
   obtain⟨o',e'⟩:=I.zt.there b o z (λm=>absurd (show b∈([]:List Addr) from m) (by simp));rw[e]at e';cases e'
 refine wpAny_leaves_onW (base:=hideAll s'.heap (a::T::qE (LJ P w K mg zt N dc scope f cd A zn s H E).stack)) I.ok.frames rfl (zQ F I1.stack) λg fl k=>?_
 have p1:∀ b o,s.heap.get? b=some o->b∉qE zn->b∉a::T::qE (LJ P w K mg zt N dc scope f cd A zn s H E).stack:=λb o e hb hm=>by
  rcases List.mem_cons.mp hm with rfl|hm
  ·rw[old b sa]at e;cases e
  rcases List.mem_cons.mp hm with rfl|hm
  ·rw[old b sT]at e;cases e
  ·rw[Od rfl rfl]at hm;rcases List.mem_cons.mp hm with rfl|hm
   ·exact absurd (Heap.lt_size e) (Nat.not_lt.mpr I.ok.above)
   ·exact hb hm
 have p2:∀ b∈a::T::qE (LJ P w K mg zt N dc scope f cd A zn s H E).stack,H' b=none:=λb hm=>by
  rcases List.mem_cons.mp hm with rfl|hm
  ·exact na
  rcases List.mem_cons.mp hm with rfl|hm
  ·exact nT
  ·exact I1.vc b hm
 have p4:∀ b∈a::T::qE (LJ P w K mg zt N dc scope f cd A zn s H E).stack,s.heap.get? b=none\/∃ o,s'.heap.get? b=some o/\∀ vs,o.data≠.fields vs:=λb hm=>by
  rcases List.mem_cons.mp hm with rfl|hm
  ·exact .inl (old b sa)
  rcases List.mem_cons.mp hm with rfl|hm
  ·exact .inl (old b sT)
  ·exact .inr (rT I1 b hm)
 obtain⟨u',Ib,T',F'⟩:=zP (h0:=s.heap) (fs:=qE zn) (hd:=a::T::qE (LJ P w K mg zt N dc scope f cd A zn s H E).stack) I1.zt hok p1 p2 (λb hb=>(I1.sL.mem hb).2) p4 (old a sa) na fl k;exact⟨a,T',C,a0,H',rfl,⟨I1.os,bare⟩,u',Ib,F',q⟩
def Oe(X:Cx)(E:XK):Prop:=∀ (ao:List (Addr × Obj)) (σ:L2.St) (H:Hp) (s:Shared) (h':Heap) (e:Addr) (C:Value) (args:List Value),Inv X ao σ H s->Heap.MadeExcOf s.heap h' e C args->E C none H->X.xe (.ref e) { s with heap:=h' }
theorem Iu:Oe (LJ P w K mg zt N dc scope f cd A zn s H E) E:=by
 intro ao σ H1 s1 h' e C args I M q
 have old:∀ b,s1.heap.get? b=none->s.heap.get? b=none:=λb e=>by
  cases z:s.heap.get? b with
  | none=>rfl
  | some o =>
   obtain⟨o',e'⟩:=I.zt.there b o z (λm=>absurd (show b∈([]:List Addr) from m) (by simp));rw[e]at e';cases e'
 refine wpAny_leaves_madeW (base:=hideAll s1.heap (qE (LJ P w K mg zt N dc scope f cd A zn s H E).stack)) (h:=s1.heap) I.ok.frames rfl (λb o e=>of_hideAll _ e) (funFrames_hide I.stack λenv he b hb=>List.mem_filterMap.mpr ⟨env,he,hb⟩) M λg t fl _ _ k=>?_;have k1:s1.heap.UpToSlots g:=(Heap.UpToSlots.of_keeps M.keeps).trans k
 have p1:∀ b o,s.heap.get? b=some o->b∉qE zn->b∉qE (LJ P w K mg zt N dc scope f cd A zn s H E).stack:=λb o e hb hm=>by
  rw[Od rfl rfl]at hm;rcases List.mem_cons.mp hm with rfl|hm
  ·exact absurd (Heap.lt_size e) (Nat.not_lt.mpr I.ok.above)
  ·exact hb hm
 obtain⟨u',Ib,T',F'⟩:=zP (h0:=s.heap) (fs:=qE zn) (hd:=qE (LJ P w K mg zt N dc scope f cd A zn s H E).stack) I.zt I.hok p1 (λb hm=>I.vc b hm) (λb hb=>(I.sL.mem hb).2) (λb hm=>.inr (rT I b hm)) (old e M.new) (Kh I.hok M.new) fl k1;exact⟨e,T',C,.ref t,H1,rfl,⟨I.os,I.bare⟩,u',Ib,F',q⟩
theorem okX{x dc:Str}{st:Stmt}{f:Addr}{N ps:List Str}{k:Nat}{sp:Sp}(F:NP K x dc st f fd)(S:aH N ps (aA st))(len:∀ vs H Q E,sp vs H Q E->vs.length=ps.length)
  (vg:∀ (cN:Value) (A:Around) (zn:List Env) (s:Shared) (H:Hp) (vs:List V) (Q:VK) (E:XK),gQ k (A.deeper (envOfC dc (aA st) s.heap.objs.size f cN))->sp vs H Q E->
   ∃ t,EI (LJ P w K mg zt N dc (aA st) f cN A zn s H E) (iA st) t/\t { nx:=λ_ H'=>Q .fH H',rt:=Q } (start N vs) H):bf P w K mg zt (Fp P w) (k+1) f fd ps sp:=by
 obtain⟨oc,od,kV,wJ,pm,an,cN,ct,Lr,rfl,lk,Lg⟩:=F.ex;exact Uk lk Lg S len λA zn s H vs Q E hr HV=>vg cN A zn s H vs Q E hr HV
end
section
variable {X:Cx}
theorem RC{K:Frag}{h:Heap}{C:Addr}{Zz:List Value}{Cr:String}{x:Str}{mg:Str->Option Value}(I:K.In h)(m:mg x=some (.ref C))(q:excIn K C Zz Cr=true):OwnCls x C Zz Cr mg h:=by
 exists m;unfold excIn at q;split at q
 case h_2=>cases q
 rename_i dd cd sl ho;split at q
 case h_2=>cases q
 rename_i c1 bm k0 k1 k2 k3 n k5 hm hs;simp only[Bool.and_eq_true,beq_iff_eq,Bool.not_eq_true']at q;obtain⟨⟨⟨⟨⟨e1,e2⟩,adJ⟩,ht⟩,Ul⟩,hni⟩:=q;cases e1;cases e2
 cases cd with
 | mk nm bs mro ns qn hd sn sub ab col del =>
  cases hm;cases adJ
  cases sl with
  | mk l =>
   have hs':l=[k0,k1,k2,k3,some (.builtin Cr),k5]:=hs;subst hs';exact⟨bm,ns,nm,qn,bs,hd,sn,sub,ab,col,dd,k0,k1,k2,k3,k5,_,I _ _ ho,.of_isNs (isNs_of_in I Ul),nsMap_none_of_in I Ul hni,tail_of_in I ht⟩
def V0(C:Addr)(E:XK)(t:TA):TS:=λ_ σ H=>t σ H λvs H1=>vs.length<=sizeLine/\E (.ref C) none H1
theorem zR{E:XK}{x:Str}{C:Addr}{Zz:List Value}{Cr Wa B:String}{e:Expr}{es:List Expr}{t:TA}{np pos:Pos}(FB:ExcBaseFacts B Cr Wa Zz)(hx:excIn X.K C Zz Cr=true)(hm:X.mg x=some (.ref C))(hc:X.calm=true)(hr:Oe X E)
  (ha:PA X (e::es) t) (hg:Gl X x:=by rfl) (HU:(x == ("__debug__":Str))=false:=by decide) (he:starEach (e::es) X.env=(false,eval e X.env)::starEach es X.env:=by rfl) (yY:(backTo nC (starEach es X.env)).any (·.1)=false:=by rfl) :
  PS X (.Raise (some (.Call (.Name x np) (e::es) [] nC)) none pos) (V0 C E t):=by
 intro ao s σ H D I h;obtain⟨tl,Nd,c1,c2,c3,c4,c5,c6,c7,c8,c9,d0,d1,d2,d3,d5,mN,hC,hN,hni,T⟩:=(RC I.mod.XU hm hx).obj;refine wpAny_Raise_call_subT (nm:=c1) (q:=c2) (N:=Nd) (bs:=c3) (hdct:=c4) (sn:=c5) (sub:=c6) (ab:=c7) (col:=c8) (dd:=c9) (k0:=d0) (k1:=d1) (k2:=d2) (k3:=d3) (k5:=d5) FB (T.hasType FB.hasBase) (I.ok.hd hc) (by rw[he];show (false || (backTo nC (starEach es X.env)).any (·.1))=false;rw[yY];rfl) hni (rO I hg hm ⟨rfl,?_⟩ HU);rw[he];have hw:=ha nC ao s σ H _ I h;rw[he]at hw;refine Calls.evalArgs_plain (cX hw λus s1 Bc=>?_);obtain⟨vs,H1,I1,r,q1,q2⟩:=Bc;exact⟨rfl,by rw[← r.length];exact q1,I1.bk _ _ hC,hN.keeps I1.bk,T.keeps I1.bk,λh' e M=>hr ao σ H1 s1 h' e _ _ I1 M q2⟩
end
abbrev Wb(X:Cx)(a:Addr):Cx:={ X with A:=X.A.mark (some (.ref a)),calm:=false,xe:=λ_ _=>False }
section
variable {X:Cx} {ao:List (Addr × Obj)} {σ:L2.St} {H:Hp} {s:Shared} {a:Addr}
theorem okH(ok:X.Ok)(a:Addr):(Wb X a).Ok :=
 { mod:=ok.mod,kind:=ok.kind,glob:=ok.glob,blt:=ok.blt,above:=ok.above,inj:=ok.inj,has:=ok.has,Vf:=ok.Vf,hd:=λz=>(gB z).elim,frames:=ok.frames,stk:=ok.stk,exf:=ok.exf,bs:=ok.bs,Qx:=ok.Qx,HE:=ok.HE,Le:=ok.Le,sL:=ok.sL,QU:=ok.QU }
theorem inH(I:Inv X ao σ H s)(a:Addr):Inv (Wb X a) ao σ H s:={ ok:=okH I.ok a,os:=I.os,bare:=I.bare,zt:=I.zt,loc:=I.loc,cell:=I.cell,free:=I.free,nH:=I.nH,pin:=I.pin,hok:=I.hok,len:=I.len }
theorem RD(ok:X.Ok)(I:Inv (Wb X a) ao σ H s):Inv X ao σ H s:={ ok:=ok,os:=I.os,bare:=I.bare,zt:=I.zt,loc:=I.loc,cell:=I.cell,free:=I.free,nH:=I.nH,pin:=I.pin,hok:=I.hok,len:=I.len }
theorem spH(ok:X.Ok){D:Ends}{f:Flow}{s':Shared}(h:SP (Wb X a) ao D f s'):SP X ao D f s':=by
 cases f with
 | next=>obtain⟨σ',H',I,q⟩:=h;exact⟨σ',H',RD ok I,q⟩
 | brk=>obtain⟨σ',H',I,q⟩:=h;exact⟨σ',H',RD ok I,q⟩
 | cont=>obtain⟨σ',H',I,q⟩:=h;exact⟨σ',H',RD ok I,q⟩
 | ret u=>obtain⟨v,σ',H',I,r,q⟩:=h;exact⟨v,σ',H',RD ok I,r,q⟩
variable {x y:Str} {st:Stmt} {ps:List Str} {f:Addr} {fd:FuncData} {j k:Nat} {sp:Sp} {e:Expr} {es:List Expr} {t:TA} {p pos ajz LK ajA np ajB:Pos} {C Cy:Addr} {b0:Stmt} {ahp:List Stmt} {tb:TS}
end
end dX
namespace dX
open Spec Rows L2
section
variable {X:Cx}
abbrev TJ:=L2.St->Hp->(Hp->Prop)->Prop
def PJ(X:Cx)(es:List Expr)(m:Nat)(t:TJ):Prop:=∀ (ao:List (Addr × Obj)) (s:Shared) (σ:L2.St) (H:Hp) (wm:Str) (Q:Hp->Prop),L2.Inv X ao σ H s->t σ H Q->wm.length+m<=1000000->
 wpAny (model X.prog X.w) X.A (joinParts wm (evalEach es X.env)) (λu s'=>∃ x tk H',u=.str x tk/\L2.Inv X ao σ H' s'/\Q H') X.xe s
theorem Iv:PJ X [] 0 (λ_ H Q=>Q H):=λao s σ H wm Q I h hl =>
 joinParts_nil ⟨wm,_,H,rfl,I.tok _,h⟩ (gM (Nat.lt_of_le_of_lt hl (by decide)))
theorem yZ{wm y:Str}{m n:Nat}(h:wm.length+(n+m)<=1000000)(hy:y.length<=n):(wm++y).length<=sizeLine/\(wm++y).length+m<=1000000:=by
 rw[PySem.strLen_append];refine⟨Nat.le_of_lt (Nat.lt_of_le_of_lt (show wm.length+y.length<=1000000 by lia) (by decide)),Q⟩
theorem wU{x:Str}{j:Nat}{es:List Expr}{m:Nat}{t:TJ}(h:PJ X es m t):PJ X (.Constant (.str x) j pos::es) (x.length+m) t:=by
 intro ao s σ H wm Q I q hl;refine joinParts_consE (joinParts_cons (Calls.Constant_str ?_));have z:=yZ (y:=x) hl (gg _);exact⟨z.1,h ao _ σ H _ Q (I.tok _) q z.2⟩
theorem wV{e:Expr}{te:TE}{es:List Expr}{m:Nat}{t:TJ}(he:PE X e te)(h:PJ X es m t):PJ X (.FormattedValue e (-1) none pos::es) (1921+m) (fun σ H Q=>te σ H λv H1=>∃ i:Int,v=.int i/\i.natAbs.log2<1920/\t σ H1 Q):=by
 intro ao s σ H wm Q I q hl;refine joinParts_consE (joinParts_cons (FormattedValue_plain (cX (he ao s σ H _ I q) λv s1 EX=>?_)));obtain⟨x,H1,I1,r1,i,e1,hi,q1⟩:=EX;subst e1;obtain⟨tk,rfl⟩:=r1;refine formatField_int_small hi ?_;have z:=yZ (y:=Str.ofString (toString i)) hl (int_text_len_1921 hi);exact⟨z.1,h ao _ σ H1 _ Q (I1.tok _) q1 z.2⟩
theorem Dw{qJ:List Expr}{m:Nat}{t:TJ}(h:PJ X (v1::v2::qJ) m t)(hm:m<=1000000:=by decide +kernel):PE X (.JoinedStr (v1::v2::qJ) pos) (fun σ H Q=>t σ H λH1=>∀ x,Q (.str x) H1):=by
 intro ao s σ H Q I q;refine JoinedStr_many (cX (h ao s σ H Str.empty _ I q (by show 0+m<=_;lia)) λu s1 Df=>?_);obtain⟨x,tk,H1,e,I1,q1⟩:=Df;subst e;exact⟨.str x,H1,I1,⟨Y⟩,q1 x⟩
def RE(r r' r2:R2)(ta tb tc td:TE):TT:=fun σ H Q=>ta σ H λx H1=>tb σ H1 λy H2=>r x y H2 λz H3=>∃ k,z=.bl k/\
 (if k=true then tc σ H3 λu H4=>r' y u H4 λz' H5=>∃ k',z'=.bl k'/\(if k'=true then td σ H5 λv H6=>r2 u v H6 λz2 H7=>∃ k2,z2=.bl k2/\Q k2 H7 else Q false H5) else Q false H3)
theorem LL{op Hj Wc:CmpOp}{r r' r2:R2}{a b c d:Expr}{ta tb tc td:TE}(ho:u7 X (compareOp op) r)(Lf:u7 X (compareOp Hj) r')(ho2:u7 X (compareOp Wc) r2)(ha:PE X a ta)(hb:PE X b tb)(hc:PE X c tc)(hd:PE X d td)
  (hm:lastMarks [op,Hj,Wc] [b,c,d]=false:=by with_unfolding_all rfl):PT X (.Compare a [op,Hj,Wc] [b,c,d] pos) (RE r r' r2 ta tb tc td):=by
 intro ao s σ H Q I h
 refine isTrue_chain (cX (ha ao s σ H _ I h) λv s1 ⟨x,H1,I1,r1,q1⟩=>test_link (cX (hb ao s1 σ H1 _ I1 q1) λu s2 ⟨y,H2,I2,X3,q2⟩ =>
  cX (ho ao s2 σ H2 x y v u _ I2 r1 X3 q2) λz s3 ⟨z',H3,I3,r3,k,e,q3⟩=>?_)) hm
 subst e;cases r3;refine wpAny_truthy_bool ?_
 cases k with
 | false=>exact ite_ff ⟨H3,I3,q3⟩
 | true =>
  refine ite_tt (test_link (cX (hc ao s3 σ H3 _ I3 q3) λv4 s4 ⟨x4,H4,I4,r4,q4⟩=>cX (Lf ao s4 σ H4 y x4 u v4 _ I4 X3 r4 q4) λz5 s5 HH=>?_));obtain⟨x5,H5,I5,r5,k5,e5,q5⟩:=HH;subst e5;cases r5;refine wpAny_truthy_bool ?_
  cases k5 with
  | false=>exact ite_ff ⟨H5,I5,q5⟩
  | true =>
   refine ite_tt (test_last (cX (hd ao s5 σ H5 _ I5 q5) λv6 s6 ⟨x6,H6,I6,r6,q6⟩=>cX (ho2 ao s6 σ H6 x4 x6 v4 v6 _ I6 r4 r6 q6) λz7 s7 HG=>?_));obtain⟨x7,H7,I7,r7,k7,e7,q7⟩:=HG;subst e7;cases r7;exact wpAny_truthy_bool ⟨H7,I7,q7⟩
end
end dX
namespace gv
open L2 dh dX
theorem bu{H H':Hp}{a:Addr}(s:aL H H')(h:H' a=none):H a=none:=by
 cases q:H a with
 | none=>rfl
 | some o=>rw[s a o q]at h;cases h
def lR(i:Int):Prop:=-(10^60)<i/\i<10^60
theorem lR.log{i:Int}(h:lR i):i.natAbs.log2<1920:=by
 have h1:i.natAbs<2^1920:=by
  have:i.natAbs<10^60:=by
   obtain⟨a,b⟩:=h;have e:((10:Int)^60)=(((10:Nat)^60:Nat):Int):=by norm_cast
   rw[e]at a b;lia
  exact o6 this nofun
 by_cases h0:i.natAbs=0
 ·rw[h0];decide
 ·exact (Nat.log2_lt h0).mpr h1
def Of(a b h:Int)(p:Int × Int):Row:=if max (a-h) 0<min (b-h) (p.2-p.1) then [(p.1+max (a-h) 0,p.1+min (b-h) (p.2-p.1))] else []
def kQ(a b:Int):Int->Row->Row
 | _,[]=>[]
 | h,p::r=>Of a b h p++kQ a b (h+(p.2-p.1)) r
theorem Ft(a b:Int)(p:Int × Int):∀ (r:Row) (c:Int),kQ a b c (r++[p])=kQ a b c r++Of a b (c+jc r) p
 | [],c=>by simp[kQ,Rn]
 | q::r,c=>by
  have e:c+(q.2-q.1)+jc r=c+jc (q::r):=by rw[Ff];lia
  rw[List.cons_append,kQ,Ft a b p r,kQ,e,nB]
theorem Wd(a b h:Int)(p:Int × Int):(Of a b h p).length<=1:=by
 unfold Of
 split <;> simp
theorem j5(a b:Int):∀ (r:Row) (c:Int),(kQ a b c r).length<=r.length
 | [],_=>gg _
 | q::r,c=>by
  have ih:=j5 a b r (c+(q.2-q.1));have z:=Wd a b c q;rw[kQ,dz,ny];lia
theorem Og(a b h:Int)(p:Int × Int):∀ q∈Of a b h p,q.1<=q.2:=by
 unfold Of;split
 ·intro q hq;simp only[List.mem_singleton]at hq;subst hq;simp only;lia
 ·intro q hq;cases hq
theorem Dy(a b:Int):∀ (r:Row) (c:Int),∀ q∈kQ a b c r,q.1<=q.2
 | [],_=>λq hq=>by cases hq
 | p::r,c=>λq hq=>by
  rw[kQ]at hq;rcases List.mem_append.mp hq with z|z
  ·exact Og a b c p q z
  ·exact Dy a b r _ q z
theorem Fv(s:Int):∀ (n k:Nat),(run s n).drop k=run (s+k) (n-k)
 | n,0=>by simp
 | 0,k+1=>by simp[run]
 | n+1,k+1=>by
  rw[run,List.drop_succ_cons,Fv (s+1) n k];have e1:s+1+(k:Int)=s+((k+1:Nat):Int):=by lia
  have e2:n+1-(k+1)=n-k:=by lia
  rw[e1,e2]
theorem Fw(s:Int):∀ (n k:Nat),(run s n).take k=run s (min k n)
 | n,0=>by simp[run]
 | 0,k+1=>by simp[run]
 | n+1,k+1=>by
  rw[run,List.take_succ_cons,Fw (s+1) n k];have e2:min (k+1) (n+1)=min k n+1:=by lia
  rw[e2,run]
theorem LM(a b h:Int)(p:Int × Int)(hp:p.1<=p.2):bM (Of a b h p)=((jF p).take (b-h).toNat).drop (a-h).toNat:=by
 obtain⟨s,e⟩:=p;simp only at hp;unfold Of jF;simp only;rw[Fw,Fv,← Int.ofNat_toNat (a-h)];generalize (a-h).toNat=n;generalize b-h=x;have y0:0<=e-s:=by lia
 generalize e-s=y at y0
 have em:min x.toNat y.toNat=(min x y).toNat:=by
  rcases Int.le_total x y with c|c
  ·rw[Int.min_eq_left c,Nat.min_eq_left (Int.toNat_le_toNat c)]
  ·rw[Int.min_eq_right c,Nat.min_eq_right (Int.toNat_le_toNat c)]
 rw[em];generalize min x y=m;clear em y0 hp;by_cases c:(n:Int)<m
 ·rw[if_pos c,gn,jF];simp only;rw[Int.add_sub_add_left,Int.toNat_sub']
 ·rw[if_neg c,Nat.sub_eq_zero_of_le (Int.toNat_le.mpr (Int.not_lt.mp c))];rfl
theorem zS(b h:Int)(L:Nat):(b-(h+L)).toNat=(b-h).toNat-L:=by rw[← Int.sub_sub,Int.toNat_sub']
theorem rV(a b:Int):∀ (r:Row) (h:Int),(∀ p∈r,p.1<=p.2)->bM (kQ a b h r)=((bM r).take (b-h).toNat).drop (a-h).toNat
 | [],h,_=>by simp[kQ,bM]
 | p::r,h,ok=>by
  have hp:=ok p (tU ..);have ih:=rV a b r (h+(p.2-p.1)) λq hq=>ok q (nu _ hq);have e:bM (p::r)=jF p++bM r:=rfl;have hl:=ya p hp;rw[kQ,cZ,LM a b h p hp,ih,e,List.take_append,List.drop_append,gy];congr 1;rw[← hl,zS,zS];by_cases hb:(jF p).length<=(b-h).toNat
  ·rw[Nat.min_eq_right hb]
  ·rw[Nat.sub_eq_zero_of_le (Nat.le_of_not_le hb)];simp
def M0(a b t:Int):Prop:=0<=a/\a<=b/\b<=t
class inductive Fx
 | mk (r:Addr) (row:Row) (a b:Int) (_:vs=[.ref r,.int a,.int b]) (_:cA H r row) (_:row.length<=1000000) (_ :
 ∀ (q:Addr) (H':Hp),cA H' q (kQ a b 0 row)->aL H H'->H q=none->Q (.ref q) H')
end gv
namespace gv
open L2 dh dX
end gv
namespace gv
open L2 dh dX
theorem nO(r:Row)(ok:∀ p∈r,p.1<=p.2):bM (cz r)=bM r:=by rw[zH r ok,eL]
theorem pW(a b:Int)(row:Row)(ok:∀ p∈row,p.1<=p.2):bM (cz (kQ a b 0 row))=((bM row).take b.toNat).drop a.toNat:=by
 rw[nO _ (Dy a b row 0),rV a b row 0 ok,Int.sub_zero,Int.sub_zero]
theorem Km(s:Int):∀ (n k:Nat),k<n->(run s n)[k]?=some (s+k)
 | 0,k,h=>by lia
 | n+1,0,_=>by simp[run]
 | n+1,k+1,h=>by
  rw[run,List.getElem?_cons_succ,Km (s+1) n k ∅];congr 1;lia
theorem lV(r:Row):(cz r).length<=r.length:=by
 have z:=Fo r [];simpa [cz] using z
end gv
namespace gv
open Spec Rows L2 dh dX
theorem bQ.append{H:Hp}{as bs:List Addr}{r q:Row}(h:bQ H as r)(t:bQ H bs q):bQ H (as++bs) (r++q):=by
 induction h with
 | nil=>exact t
 | cons e _ ih=>exact .cons e ih
theorem Wf{r q:Row}(h:∀ p∈r,p.1<=p.2)(g:∀ p∈q,p.1<=p.2):∀ p∈r++q,p.1<=p.2:=λp hp=>(List.mem_append.mp hp).elim (h p) (g p)
end gv
namespace L2
open Spec Rows
section
variable {κ:Type} [DecidableEq κ]
def cE(kvs:List (κ × V))(k:κ):Option V:=(kvs.find? λkv=>decide (kv.1=k)).map (·.2)
def eT(kvs:List (κ × V))(k:κ)(v:V):List (κ × V) :=
 if (kvs.any λkv=>decide (kv.1=k))=true then kvs.map (λkv=>if kv.1=k then (kv.1,v) else kv) else kvs++[(k,v)]
theorem gS{p:κ × V}{r:List (κ × V)}{k:κ}(e:p.1=k):cE (p::r) k=some p.2:=by simp[cE,List.find?_cons,e]
theorem gT{p:κ × V}{r:List (κ × V)}{k:κ}(e:¬ p.1=k):cE (p::r) k=cE r k:=by simp[cE,List.find?_cons,e]
theorem mT(k:κ):∀ kvs:List (κ × V),(kvs.any λkv=>decide (kv.1=k))=(cE kvs k).isSome
 | []=>rfl
 | p::r=>by
  rw[List.any_cons];by_cases e:p.1=k
  ·simp only[gS e,decide_eq_true e,Bool.true_or,Option.isSome_some]
  ·rw[gT e,decide_eq_false e,Bool.false_or];exact mT k r
theorem Fy(k j:κ)(y:V):∀ kvs:List (κ × V),cE (kvs.map λkv=>if kv.1=k then (kv.1,y) else kv) j=(cE kvs j).map λx=>if j=k then y else x
 | []=>rfl
 | p::r=>by
  have ih:=Fy k j y r;rw[jy];by_cases h:p.1=k
  ·rw[if_pos h];by_cases e:p.1=j
   ·rw[gS (p:=(p.1,y)) e,gS e,Option.map_some,if_pos (e.symm.trans h)]
   ·rw[gT (p:=(p.1,y)) e,gT e,ih]
  ·rw[if_neg h];by_cases e:p.1=j
   ·rw[gS (p:=p) e,gS e,Option.map_some,if_neg (λz=>h (e.trans z))]
   ·rw[gT (p:=p) e,gT e,ih]
theorem Cs(k j:κ)(y:V):∀ kvs:List (κ × V),cE kvs k=none->cE (kvs++[(k,y)]) j=if j=k then some y else cE kvs j
 | [],_=>by
  by_cases e:k=j
  ·rw[if_pos e.symm];exact gS (p:=(k,y)) e
  ·rw[if_neg (λz=>e z.symm)];exact gT (p:=(k,y)) e
 | p::r,hn=>by
  rw[List.cons_append];have hk:¬ p.1=k:=λz=>by rw[gS z]at hn;cases hn
  rw[gT hk]at hn;have ih:=Cs k j y r hn;by_cases e:p.1=j
  ·rw[gS e,gS e,if_neg (λz=>hk (e.trans z))]
  ·rw[gT e,gT e,ih]
theorem kC(kvs:List (κ × V))(k j:κ)(y:V):cE (eT kvs k y) j=if j=k then some y else cE kvs j:=by
 unfold eT;by_cases a:(kvs.any λkv=>decide (kv.1=k))=true
 ·rw[if_pos a,Fy];rw[mT]at a;by_cases e:j=k
  ·obtain⟨x,hx⟩:=Option.isSome_iff_exists.mp a;rw[if_pos e,e,hx,Option.map_some,if_pos rfl]
  ·rw[if_neg e]
   cases cE kvs j with
   | none=>rfl
   | some x=>rw[Option.map_some,if_neg e]
 ·rw[if_neg a];refine Cs k j y kvs ?_;rw[mT]at a
  cases q:cE kvs k with
  | none=>rfl
  | some x=>rw[q]at a;exact (a rfl).elim
theorem gU(kvs:List (κ × V))(k:κ)(v:V):(eT kvs k v).length<=kvs.length+1:=by
 unfold eT;split
 ·rw[cD];lia
 ·rw[dz,ny,sI];lia
theorem zT{kvs:List (κ × V)}{k:κ}(v:V)(h:cE kvs k=none):eT kvs k v=kvs++[(k,v)]:=by
 unfold eT;rw[mT,h];exact if_neg (by decide)
theorem sJ.wW{o:Option V}{u:Option Value}(r:sJ o u):o.isSome=u.isSome:=by
 cases o with
 | none=>cases u with
  | none=>rfl
  | some _=>exact (show False from r).elim
 | some _=>cases u with
  | none=>exact (show False from r).elim
  | some _=>rfl
theorem KV.val{kvs:List (κ × V)}{vs:List (κ × Value)}(r:KV kvs vs)(k:κ):sJ (cE kvs k) (valueAt vs k):=by
 unfold KV at r
 induction r with
 | nil=>exact True.intro
 | @cons p q ps qs h t ih =>
  obtain⟨h1,h2⟩:=h;by_cases e:p.1=k
  ·have e':q.1=k:=h1.symm.trans e;have b:valueAt (q::qs) k=some q.2:=by simp[valueAt,List.find?_cons,e']
   rw[gS e,b];exact h2
  ·have e':¬ q.1=k:=λz=>e (h1.trans z);have b:valueAt (q::qs) k=valueAt qs k:=by simp[valueAt,List.find?_cons,e']
   rw[gT e,b];exact ih
theorem KV.any{kvs:List (κ × V)}{vs:List (κ × Value)}(r:KV kvs vs)(k:κ):(kvs.any λkv=>decide (kv.1=k))=vs.any λkv=>decide (kv.1=k):=by
 unfold KV at r
 induction r with
 | nil=>rfl
 | cons h t ih=>rw[List.any_cons,List.any_cons,ih,h.1]
theorem KV.repl{kvs:List (κ × V)}{vs:List (κ × Value)}(r:KV kvs vs)(k:κ){y:V}{u:Value}(ry:RelV y u) :
  KV (kvs.map λkv=>if kv.1=k then (kv.1,y) else kv) (vs.map λkv=>if kv.1=k then (kv.1,u) else kv):=by
 unfold KV at r ⊢
 induction r with
 | nil=>exact .nil
 | @cons p q ps qs h t ih =>
  rw[jy,jy];refine .cons ?_ ih;obtain⟨h1,h2⟩:=h;by_cases e:p.1=k
  ·rw[if_pos e,if_pos (h1.symm.trans e)];exact⟨h1,ry⟩
  ·rw[if_neg e,if_neg (λz=>e (h1.trans z))];exact⟨h1,h2⟩
theorem KV.put{kvs:List (κ × V)}{vs:List (κ × Value)}(r:KV kvs vs)(k:κ){y:V}{u:Value}(ry:RelV y u):KV (eT kvs k y) (stored vs k u):=by
 unfold eT stored;rw[r.any k];by_cases e:(vs.any λkv=>decide (kv.1=k))=true
 ·rw[if_pos e,if_pos e];exact r.repl k ry
 ·rw[if_neg e,if_neg e];exact Paired.snoc r ⟨rfl,ry⟩
theorem KV.length{kvs:List (κ × V)}{vs:List (κ × Value)}(r:KV kvs vs):kvs.length=vs.length:=Paired.length r
end
theorem Ct{P:Program}{w:World}{k:fj}{u:Value}(r:RelV (kV k) u):(fT P w).is k u=true:=by
 cases k with
 | inl i=>obtain⟨t,e⟩:=(show ∃ t,u=Value.int i t from r);subst e;exact EO P w i t
 | inr x=>obtain⟨t,e⟩:=(show ∃ t,u=Value.str x t from r);subst e;exact ER P w x t
theorem Cu{P:Program}{w:World}:∀ {ks:List fj} {us:List Value},cy (ks.map kV) us->ItemsAre (fT P w) ks us
 | [],_,r=>by rw[List.map_nil]at r;cases r;exact .nil
 | k::ks,_,r=>by
  rw[jy]at r
  cases r with
  | cons h t=>exact .cons (Ct h) (Cu t)
abbrev KT(H:Hp):List (List fj × V)->List (List fj × Addr × Value)->Prop:=Paired λp q=>p.1=q.1/\H q.2.1=some (.tup (p.1.map kV))/\RelV p.2 q.2.2
theorem KT.val{H:Hp}{kvs:List (List fj × V)}{xs:List (List fj × Addr × Value)}(r:KT H kvs xs)(k:List fj):sJ (cE kvs k) ((atKey xs k).map (·.2)):=by
 induction r with
 | nil=>exact True.intro
 | @cons p q ps qs h t ih =>
  obtain⟨h1,_,h2⟩:=h;by_cases e:p.1=k
  ·have e':q.1=k:=h1.symm.trans e;have b:atKey (q::qs) k=some q.2:=by simp[atKey,List.find?_cons,e']
   rw[gS e,b];exact h2
  ·have e':¬ q.1=k:=λz=>e (h1.trans z);have b:atKey (q::qs) k=atKey qs k:=by simp[atKey,List.find?_cons,e']
   rw[gT e,b];exact ih
theorem KT.repl{H:Hp}{kvs:List (List fj × V)}{xs:List (List fj × Addr × Value)}(r:KT H kvs xs)(k:List fj){y:V}{u:Value}(ry:RelV y u) :
  KT H (kvs.map λkv=>if kv.1=k then (kv.1,y) else kv) (xs.map (putAt k u)):=by
 induction r with
 | nil=>exact .nil
 | @cons p q ps qs h t ih =>
  rw[jy,jy];refine .cons ?_ ih;obtain⟨h1,h2,h3⟩:=h;unfold putAt;by_cases e:p.1=k
  ·rw[if_pos e,if_pos (h1.symm.trans e)];exact⟨h1,h2,ry⟩
  ·rw[if_neg e,if_neg (λz=>e (h1.trans z))];exact⟨h1,h2,h3⟩
theorem KT.put{H:Hp}{kvs:List (List fj × V)}{xs:List (List fj × Addr × Value)}(r:KT H kvs xs)(k:List fj){b:Addr}{y:V}{u:Value}(hb:H b=some (.tup (k.map kV)))(ry:RelV y u) :
  KT H (eT kvs k y) (storedH xs k b u):=by
 have e:(kvs.any λkv=>decide (kv.1=k))=(atKey xs k).isSome:=by
  rw[mT,(r.val k).wW,Option.isSome_map]
 unfold eT storedH;rw[e];by_cases q:(atKey xs k).isSome=true
 ·rw[if_pos q,if_pos q];exact r.repl k ry
 ·rw[if_neg q,if_neg q];exact Paired.snoc r ⟨rfl,hb,ry⟩
theorem KT.keeps{H H':Hp}{kvs:List (List fj × V)}{xs:List (List fj × Addr × Value)}(r:KT H kvs xs)(ht:∀ b ys,H b=some (.tup ys)->H' b=some (.tup ys)):KT H' kvs xs :=
 Paired.Hz r λ_ _ z=>⟨z.1,ht _ _ z.2.1,z.2.2⟩
section
variable {P:Program} {w:World} {H:Hp} {h:Heap} {a:Addr}
theorem Ut{u:HO}(ok:qI P w H h)(e:Rd H a u):fV P w H h a u:=e.ok ok
theorem Fz{kvs:List (fj × V)}(ok:qI P w H h)(e:Rd H a (.dK kvs)):kvs.length<=sizeLine/\(a == sysModules)=false/\∃ vs,KV kvs vs/\h.DictOf (fT P w) a vs :=
 show fV P w H h a (.dK kvs) from Ut ok e
theorem Oh{kvs:List (fj × V)}(ok:qI P w H h)(e:H a=some (.dK kvs)):kvs.length<=sizeLine/\(a == sysModules)=false/\∃ vs,KV kvs vs/\h.DictOf (fT P w) a vs:=Fz ok (.inl e)
theorem Dz{ks:List fj}(ok:qI P w H h)(e:H a=some (.tup (ks.map kV))):(tupleKind (fT P w)).is h ks a:=by
 obtain⟨_,aO,r,o,h1,h2,n,h3⟩:=(show fV P w H h a (.tup (ks.map kV)) from ok a _ e);exact⟨o,aO.toArray,n,h1,h2,h3,by simpa using Cu r⟩
theorem FA{kvs:List (List fj × V)}(ok:qI P w H h)(e:Rd H a (.dT kvs)):kvs.length<=sizeLine/\(a == sysModules)=false/\
  ∃ xs,KT H kvs xs/\h.DictOfH (tupleKind (fT P w)) a xs:=by
 obtain⟨z,y,xs,r,o,es,ep,h1,h2,h3,h4,h5⟩:=(show fV P w H h a (.dT kvs) from Ut ok e);refine⟨z,y,xs,r,o,es,ep,h1,h2,h3,h4,λx hx=>?_,h5⟩
 have all:∀ {l:List (List fj × V)} {m:List (List fj × Addr × Value)},KT H l m->∀ x∈m,(tupleKind (fT P w)).is h x.1 x.2.1:=by
  intro l m q
  induction q with
  | nil=>intro x hx;exact nomatch hx
  | @cons p q ps qs hq t ih =>
   intro x hx;rcases List.mem_cons.mp hx with e|hx
   ·subst e;exact Dz ok (by rw[← hq.1];exact hq.2.1)
   ·exact ih x hx
 exact all r x hx
theorem ZA{kvs:List (List fj × V)}(ok:qI P w H h)(e:H a=some (.dT kvs)):kvs.length<=sizeLine/\(a == sysModules)=false/\
  ∃ xs,KT H kvs xs/\h.DictOfH (tupleKind (fT P w)) a xs:=FA ok (.inl e)
end
def iD(H:Hp)(a:Addr)(y:V)(r:Option V):Prop :=
 (∃ kvs k,Rd H a (.dK kvs)/\y=kV k/\r=cE kvs k)\/∃ kvs k b,Rd H a (.dT kvs)/\y=.ref b/\H b=some (.tup (k.map kV))/\r=cE kvs k
def DA(H:Hp)(a:Addr)(y v:V)(H':Hp):Prop :=
 (∃ kvs k,H a=some (.dK kvs)/\y=kV k/\kvs.length<sizeLine/\H'=aP H a (.dK (eT kvs k v)))\/
 ∃ kvs k b,H a=some (.dT kvs)/\y=.ref b/\H b=some (.tup (k.map kV))/\kvs.length<sizeLine/\H'=aP H a (.dT (eT kvs k v))
theorem iD.k{H:Hp}{a:Addr}{kvs:List (fj × V)}{k:fj}(e:H a=some (.dK kvs)):iD H a (kV k) (cE kvs k):=.inl ⟨kvs,k,.inl e,V⟩
theorem DA.k{H:Hp}{a:Addr}{kvs:List (fj × V)}{k:fj}{v:V}(e:H a=some (.dK kvs))(hl:kvs.length<sizeLine):DA H a (kV k) v (aP H a (.dK (eT kvs k v))):=.inl ⟨kvs,k,e,rfl,hl,rfl⟩
section
variable {X:Cx} {ao:List (Addr × Obj)} {σ:St} {H:Hp} {s:Shared} {a:Addr} {y v:V} {u r:Value} {o:Option V} {A:Around} {E:Value->Shared->Prop}
theorem Inv.big(I:Inv X ao σ H s):sysModules<s.heap.objs.size:=by
 have h:mainGlobals<s.heap.objs.size:=(I.mod.glob.keeps I.bk).lt;exact Nat.lt_trans (by decide) h
theorem LN{Q:Value->Shared->Prop}(hu:A.units+1<cLine)(I:Inv X ao σ H s)(g:iD H a y (some v))(ry:RelV y u)(h:∀ w' s',Inv X ao σ H s'->RelV v w'->Q w' s') :
  wpAny (model X.prog X.w) A (getItem (.ref a) u) Q E s:=by
 rcases g with ⟨kvs,k,e,ey,l⟩|⟨kvs,k,b,e,ey,eb,l⟩
 ·subst ey;obtain⟨z,hd,vs,yb,dd⟩:=Fz I.hok e;obtain⟨w',hw,jw⟩:=sJ.some_of (v:=v) (o:=valueAt vs k) (by rw[l];exact yb.val k);exact wpAny_getItem_of (Ct ry) dd.mapOf hw (h w' _ (I.tok _) jw)
 ·subst ey;cases (show u=Value.ref b from ry);obtain⟨z,hd,xs,yb,dd⟩:=FA I.hok e;obtain⟨w',hw,jw⟩:=sJ.some_of (v:=v) (o:=(atKey xs k).map (·.2)) (by rw[l];exact yb.val k);obtain⟨p,hp,Uu⟩:=Option.map_eq_some_iff.mp hw;refine wpAny_getItem_heap (tupleKind_room_in1 hu) (Dz I.hok eb) dd hp ?_;rw[Uu];exact h w' _ (I.tok _) jw
theorem RG{Q:Value->Shared->Prop}(hu:A.units+1<cLine)(I:Inv X ao σ H s)(g:iD H a y o)(ry:RelV y u)(h:∀ s',Inv X ao σ H s'->Q (.bool (!o.isSome)) s') :
  wpAny (model X.prog X.w) A (compareOp .NotIn u (.ref a)) Q E s:=by
 rcases g with ⟨kvs,k,e,ey,l⟩|⟨kvs,k,b,e,ey,eb,l⟩
 ·subst ey;obtain⟨z,hd,vs,yb,dd⟩:=Fz I.hok e;refine wpAny_notIn_of (Ct ry) hd dd.mapOf ?_;rw[← (yb.val k).wW,← l];exact h _ (I.tok _)
 ·subst ey;cases (show u=Value.ref b from ry);obtain⟨z,hd,xs,yb,dd⟩:=FA I.hok e;refine wpAny_notIn_heap (tupleKind_room_in1 hu) (Dz I.hok eb) hd dd ?_;have q:=(yb.val k).wW;rw[Option.isSome_map]at q;rw[← q,← l];exact h _ (I.tok _)
theorem y9{h':Heap}{t':Nat}{ob:HO}(I:Inv X ao σ H s)(mu:Yu (H a))(hs:Heap.SameBut a s.heap h')(he:∃ q,h'.get? a=some q)(new:fV X.prog X.w (aP H a ob) h' a ob) :
  Inv X ao σ (aP H a ob) { s with heap:=h',toks:=t' } :=
 I.write (x:=a) (e:=a) mu (.inl rfl) (λb q hb z=>(hs.2 b hb).trans z) he new
theorem Iw{P:Program}{w:World}{H':Hp}{h':Heap}{kvs:List (fj × V)}{vs:List (fj × Value)}(z:kvs.length<=sizeLine)(hd:(a == sysModules)=false)(yb:KV kvs vs)(dd:h'.DictOf (fT P w) a vs) :
  fV P w H' h' a (.dK kvs):=⟨z,hd,vs,yb,dd⟩
theorem LO{H':Hp}{Q:Unit->Shared->Prop}(hu:A.units+1<cLine)(I:Inv X ao σ H s)(g:DA H a y v H')(ry:RelV y u)(rv:RelV v r)(h:∀ s',Inv X ao σ H' s'->Q () s') :
  wpAny (model X.prog X.w) A (setItem (.ref a) u r) Q E s:=by
 rcases g with ⟨kvs,k,e,ey,l,eH⟩|⟨kvs,k,b,e,ey,eb,l,eH⟩
 ·subst ey eH;obtain⟨z,hd,vs,yb,dd⟩:=Oh I.hok e;have hz:vs.length<=sizeLine:=by rw[← yb.length];exact z
  have hl:(eT kvs k v).length<=sizeLine:=by have:=gU kvs k v;lia
  refine wpAny_setItem_pairs (hsz:=hz) (Ct ry) dd λh' QB hs=>h _ ?_;have he:∃ q,h'.get? a=some q:=let ⟨q,P,hq,_⟩:=QB;⟨q,hq⟩;exact y9 I (by rw[e];exact True.intro) hs he (Iw hl hd (yb.put k rv) QB)
 ·subst ey eH;cases (show u=Value.ref b from ry);obtain⟨z,hd,xs,yb,dd⟩:=ZA I.hok e;have hz:xs.length<=sizeLine:=by rw[← Paired.length yb];exact z
  have hl:(eT kvs k v).length<=sizeLine:=by have:=gU kvs k v;lia
  refine wpAny_setItem_heap (hsz:=hz) (tupleKind_room_in1 hu) (Dz I.hok eb) dd λh' QB hs=>h _ ?_;obtain⟨q,es,ep,hq,h2,h3,h4,_,h5⟩:=QB;refine y9 I (by rw[e];exact True.intro) hs ⟨q,hq⟩ ⟨hl,hd,_,(yb.put k eb rv).keeps λc ys ec=>?_,q,es,ep,hq,h2,h3,h4,h5⟩;rw[aN (dH ec e (λz=>nomatch z))];exact ec
end
def Wg(i:Expr):Prop:=∀ ov iv,subscripted i false ov iv=operate [ov,iv] (getItem ov iv)
theorem RH{prog:Program}{w:World}{A:Around}{E:Value->Shared->Prop}{s:Shared}{env:Env}{T id:String}{Q:Value->Shared->Prop}
  (hl:typeLookup (.type T) "__getitem__"=pure (some (.builtin id))) (hs:Wg sW)
  (h:wpAny (model prog w) A (eval value env) (λo s₁=>wpAny (model prog w) A (eval sW env) (λi s₂=>s₂.TypeIs o T/\wpAny (model prog w) A (getItem o i) Q E s₂) E s₁) E s) :
  wpAny (model prog w) A (eval (.Subscript value sW pos) env) Q E s:=by
 refine Subscript_ (wpAny_mono h (λo s₁ h₁=>wpAny_mono h₁ (λi s₂ h₂=>?_) λ_ _ x=>x) λ_ _ x=>x);obtain⟨hT,h₂⟩:=h₂;unfold subscriptTail;refine wpAny_bind ?_;rw[getitemInPython_of_ne hT.not_modules];refine wpAny_bind (wpAny_specialOf hT hl ?_)
 have kO:wpAny (model prog w) A (subscripted sW false o i) (λr s₃=>wpAny (model prog w) A (letTemporaryGo value o r >>= λ_=>pure r) Q E s₃) E s₂:=by
  rw[hs o i];exact wpAny_operating (wpAny_mono h₂ (λr s₃ h₃=>wpAny_bind (wpAny_letTemporaryGo (wpAny_pure h₃))) λ_ _ x=>x)
 first
  | exact wpAny_pure (wpAny_bind kO)
  | exact wpAny_bind (wpAny_pure (wpAny_bind kO))
  | exact wpAny_bind kO
theorem FD{X:Cx}{σ:St}{H:Hp}{s:Shared}{a:Addr}{y:V}{o:Option V}(I:Inv X ao σ H s)(g:iD H a y o):s.TypeIs (.ref a) "dict":=by
 rcases g with ⟨kvs,k,e,_,_⟩|⟨kvs,k,b,e,_,_,_⟩
 ·obtain⟨_,_,vs,_,dd⟩:=Fz I.hok e;exact dd.typeIs
 ·obtain⟨_,_,xs,_,dd⟩:=FA I.hok e;exact dd.typeIs
inductive ZC(x y:V)(H:Hp)(Q:VK):Prop
 | mk (a:Addr) (v:V) (_:x=.ref a) (_:iD H a y (some v)) (_:Q v H):ZC x y H Q
def Uv(td ty:TE):TE:=fun σ H Q=>td σ H λx H1=>ty σ H1 λy H2=>ZC x y H2 Q
def RI(ty td:TE):TE:=fun σ H Q=>ty σ H λy H1=>td σ H1 λx H2=>∃ a o,x=.ref a/\iD H2 a y o/\Q (.bl (!o.isSome)) H2
def ZD(td ty tv:TE):TS:=λD σ H=>tv σ H λv H1=>td σ H1 λx H2=>ty σ H2 λy H3=>∃ a H4,x=.ref a/\DA H3 a y v H4/\D.nx σ H4
section
variable {X:Cx} {o i e value:Expr} {pos iz Ln:Pos} {td ty tv:TE}
theorem RJ(hu:X.A.units+1<cLine)(ho:PE X o td)(hi:PE X i ty)(hs:Wg i):PE X (.Subscript o i pos) (Uv td ty):=by
 intro ao s σ H Q I h;refine RH PySem.F.slot_dict_getitem.lookup hs (cX (ho ao s σ H _ I h) λu s1 ⟨x,H1,I1,rx,q1⟩=>cX (hi ao s1 σ H1 _ I1 q1) λiv s2 Bb=>?_);obtain⟨y,H2,I2,ry,a,v,ex,g,q2⟩:=Bb;subst ex;obtain rfl:u=Value.ref a:=rx;exact⟨FD I2 g,LN hu I2 g ry λw' s3 I3 jw=>⟨v,H2,I3,jw,q2⟩⟩
theorem Cv(hu:X.A.units+1<cLine)(hi:PE X i ty)(ho:PE X o td):PC X .NotIn i o (RI ty td):=by
 intro ao s σ H Q I h;refine cX (hi ao s σ H _ I h) λiv s1 ⟨y,H1,I1,ry,q1⟩=>cX (ho ao s1 σ H1 _ I1 q1) λu s2 Bc=>?_;obtain⟨x,H2,I2,rx,a,ov,ex,g,q2⟩:=Bc;subst ex;obtain rfl:u=Value.ref a:=rx;exact RG hu I2 g ry λs3 I3=>⟨.bl (!ov.isSome),H2,I3,rfl,q2⟩
theorem vA(hu:X.A.units+1<cLine)(ho:PE X o td)(hi:PE X i ty)(hv:PE X value tv)(hs:swapsWith value (some (.Subscript o i iz)) pos.line X.env=pure false) :
  PS X (.Assign [.Subscript o i iz] value pos) (ZD td ty tv):=by
 intro ao s σ H D I h;refine wpAny_Assign_Subscript (cX (hv ao s σ H _ I h) λr s1 ⟨v,H1,I1,rv,q1⟩=>cX (ho ao s1 σ H1 _ I1 q1) λu s2 ⟨x,H2,I2,rx,q2⟩=>cX (hi ao s2 σ H2 _ I2 q2) λiv s3 ⟨y,H3,I3,ry,a,H4,ex,g,q3⟩=>?_) hs;subst ex;obtain rfl:u=Value.ref a:=rx;exact LO hu I3 g ry rv λs4 I4=>⟨σ,H4,I4,q3⟩
end
theorem FE{P:Program}{w:World}{H:Hp}(h:Heap)(hb:sysModules<h.objs.size):fV P w H (h.push { cls:=.type "dict",data:=.dict #[] }) h.objs.size (.dK []) :=
 ⟨Nat.zero_le _,beq_eq_false_iff_ne.mpr (Ne.symm (kT hb)),[],.nil,Heap.DictOf.new h⟩
def Wh:TE:=λ_ H Q=>∀ p,H p=none->Q (.ref p) (aP H p (.dK []))
section
variable {X:Cx} {pos:Pos}
theorem mU:PE X (.Dict [] [] pos) Wh:=λao s σ H Q I h =>
 wpAny_Dict_empty ⟨.ref s.heap.objs.size,_,I.laid (a:=s.heap.objs.size) (o:=.dK []) (t':=s.toks) (λ_ _ q=>Heap.get?_push_of_some _ q) (gg _) (FE s.heap I.big),rfl,h _ (I.hok.fresh (gg _))⟩
end
def Iz:List (TE × TE)->St->Hp->(List (V × V)->Hp->Prop)->Prop
 | [],_,H,Q=>Q [] H
 | (tk,tv)::r,σ,H,Q=>tk σ H λx H1=>tv σ H1 λy H2=>Iz r σ H2 λps H3=>Q ((x,y)::ps) H3
abbrev VV:List (V × V)->List (Value × Value)->Prop:=Paired λp q=>RelV p.1 q.1/\RelV p.2 q.2
def PPs(X:Cx)(pos:Pos)(FF:List (Option Expr))(zU:List Expr)(RK:List (TE × TE)):Prop :=
 ∀ (ao:List (Addr × Obj)) (s:Shared) (σ:St) (H:Hp) (Q:List (V × V)->Hp->Prop),Inv X ao σ H s->Iz RK σ H Q->
  wpAny (model X.prog X.w) X.A (evalPairs (pairTrees FF zU X.env pos)) (λvs s'=>∃ ps H',Inv X ao σ H' s'/\VV ps vs/\Q ps H') X.xe s
theorem RL{X:Cx}:PPs X pos [] [] []:=λao s σ H Q I h=>pairTrees_nil_walk ⟨[],H,I,.nil,h⟩
theorem vB{X:Cx}{k v:Expr}{ks:List (Option Expr)}{tk tv:TE}{RK:List (TE × TE)}(hk:PE X k tk)(hv:PE X v tv)(hr:PPs X pos ks vs RK) :
  PPs X pos (some k::ks) (v::vs) ((tk,tv)::RK):=λao s σ H Q I h =>
 pairTrees_cons_walk (cX (hk ao s σ H _ I h) λu s1 ⟨x,H1,I1,rx,q1⟩=>cX (hv ao s1 σ H1 _ I1 q1) λw2 s2 ⟨y,H2,I2,ry,q2⟩ =>
  cX (hr ao s2 σ H2 _ I2 q2) λws s3 ⟨ps,H3,I3,yb,q3⟩=>⟨(x,y)::ps,H3,I3,.cons ⟨rx,ry⟩ yb,q3⟩)
def wX(kvs more:List (fj × V)):List (fj × V):=more.foldl (λacc kv=>eT acc kv.1 kv.2) kvs
theorem KV.merge:∀ {more:List (fj × V)} {rs:List (fj × Value)} {kvs:List (fj × V)} {vs:List (fj × Value)},KV more rs->KV kvs vs->KV (wX kvs more) (merged vs rs):=by
 intro more rs kvs vs r;unfold KV at r
 induction r generalizing kvs vs with
 | nil=>intro q;exact q
 | @cons p q ps qs h t ih =>
  intro r0
  have e:KV (eT kvs p.1 p.2) (stored vs q.1 q.2):=by
   have:=r0.put p.1 h.2;rw[← h.1];exact this
  exact ih e
theorem tK:∀ (more kvs:List (fj × V)),(wX kvs more).length<=kvs.length+more.length
 | [],kvs=>by show kvs.length<=kvs.length+0;lia
 | p::r,kvs=>by
  have h1:=tK r (eT kvs p.1 p.2);have h2:=gU kvs p.1 p.2;show (wX (eT kvs p.1 p.2) r).length<=_;rw[ny];lia
theorem zV{P:Program}{w:World}:∀ {kvs:List (fj × V)} {ws:List (Value × Value)},VV (kvs.map λkv=>(kV kv.1,kv.2)) ws->∃ rs,Carries (fT P w) ws rs/\KV kvs rs
 | [],_,r=>by rw[List.map_nil]at r;cases r;exact⟨[],True.intro,.nil⟩
 | p::kvs,_,r=>by
  rw[jy]at r
  cases r with
  | @cons a b as bs h t =>
   obtain⟨rs,c,q⟩:=zV (P:=P) (w:=w) t;obtain⟨b1,b2⟩:=b;exact⟨(p.1,b2)::rs,⟨Ct h.1,rfl,c⟩,.cons ⟨rfl,h.2⟩ q⟩
def Oi(RK:List (TE × TE)):TE:=fun σ H Q=>∀ p,H p=none->Iz RK σ (aP H p (.dK [])) λps H2=>H2 p=some (.dK [])/\∃ kvs:List (fj × V),ps=kvs.map (λkv=>(kV kv.1,kv.2))/\kvs.length<=15/\Q (.ref p) (aP H2 p (.dK (wX [] kvs)))
theorem RM{X:Cx}{FF:List (Option Expr)}{zU:List Expr}{RK:List (TE × TE)}(h:PPs X pos FF zU RK)(NL:FF.all (·.isSome)=true)(hl:FF.length=zU.length)(h0:FF≠[])
  (h15:FF.length<=15):PE X (.Dict FF zU pos) (Oi RK):=by
 intro ao s σ H Q I q;have hn:=I.hok.fresh (gg s.heap.objs.size);have I1:=I.laid (a:=s.heap.objs.size) (o:=.dK []) (h':=s.heap.push { cls:=.type "dict",data:=.dict #[] }) (t':=s.toks) (λ_ _ q=>Heap.get?_push_of_some _ q) (gg _) (FE s.heap I.big);refine wpAny_Dict_walk (knd:=fT X.prog X.w) NL hl h0 h15 (cX (h ao _ σ _ _ I1 (q _ hn)) λws s2 HH=>?_);obtain⟨ps,H2,I2,yb,e,kvs,ep,lk,q2⟩:=HH;subst ep;obtain⟨rs,c,rk⟩:=zV (P:=X.prog) (w:=X.w) yb;obtain⟨z,hd,vs0,r0,dd⟩:=Oh I2.hok e;cases r0;refine⟨rs,c,dd,λh' QB hs=>⟨.ref s.heap.objs.size,_,?_,rfl,q2⟩⟩
 have hz:(wX [] kvs).length<=sizeLine:=by
  have h1:=tK kvs [];rw[sI]at h1;rw[sizeLine_eq];lia
 have he:∃ q,h'.get? s.heap.objs.size=some q:=let ⟨q,P,hq,_⟩:=QB;⟨q,hq⟩;exact y9 I2 (by rw[e];exact True.intro) hs he (Iw hz hd (rk.merge .nil) QB)
structure M2(X:Cx)(o:Expr)(m:Str)(jg:Pos)(e f:Expr)(nC:Pos):Prop where
 zt:attributeBase o m X.env (eval o X.env)=eval o X.env
 few:((backTo nC (starEach [e,f] X.env)).all (λx=>!x.1)&&(backToKw nC (keywordEach [] X.env)).all (λx=>x.1.isSome)
  && decide (([e,f]:List Expr).length+([]:List Keyword).length+(if ([]:List Keyword).isEmpty then 0 else 1)<30))=true
 line:(jg.endLine == nC.line)=true
 trees:backTo nC (starEach [e,f] X.env)=[(false,eval e X.env),(false,eval f X.env)]
def IsD(H:Hp)(a:Addr):Prop:=(∃ kvs,Rd H a (.dK kvs))\/∃ kvs,Rd H a (.dT kvs)
theorem Wi{X:Cx}{σ:St}{H:Hp}{s:Shared}{a:Addr}(I:Inv X ao σ H s)(d:IsD H a) :
  s.TypeIs (.ref a) "dict"/\(∀ b,Value.ref a=.ref b->∃ ob,s.heap.get? b=some ob/\ob.dict=none)/\(a == sysModules)=false:=by
 rcases d with ⟨kvs,e⟩|⟨kvs,e⟩
 ·obtain⟨_,hd,vs,_,dd⟩:=Fz I.hok e;refine⟨dd.typeIs,λb q=>?_,hd⟩;cases q;obtain⟨ob,_,_,h1,h2,_⟩:=dd;exact⟨ob,h1,h2.2.1⟩
 ·obtain⟨_,hd,xs,_,dd⟩:=FA I.hok e;refine⟨dd.typeIs,λb q=>?_,hd⟩;cases q;obtain⟨ob,_,_,h1,h2,_⟩:=dd;exact⟨ob,h1,h2.2.1⟩
end L2
namespace dh
open Spec Rows L2
def jk(X:Cx)(N:List Str)(scope:Scope)(cl:List (Str × Addr))(C:Addr)(s₀:Shared)(H₀:Hp)(ex:List Addr)(pn:List (Addr × Obj)):Cx where
 prog:=X.prog
 w:=X.w
 K:=X.K
 mg:=X.mg
 zt:=X.zt
 A:=X.A
 N:=N
 s₀:=s₀
 H₀:=H₀
 env:=compEnvC scope cl C X.env
 zn:=X.stack
 stack:=X.stack
 ex:=ex
 fn:=λ_=>false
 calm:=X.calm
 pn:=pn
 xe:=λ_ _=>False
structure Cw(X:Cx)(N:List Str)(scope:Scope)(cl:List (Str × Addr))(jx:List (Option Nat)):Prop where
 kind:scope.kind=.function
 cell:∀ x∈scope.names,x.2≠.cell
 names:∀ x∈scope.names,x.2=.local->scope.names.lookup x.1=some .local
 clos:closureFor scope X.env=pure cl
 sub:∀ x c,cl.lookup x=some c->X.env.cells.lookup x=some c
 has:∀ x,((relabel scope X.env).names.lookup x=some .cell\/(relabel scope X.env).names.lookup x=some .free)->∃ c,cl.lookup x=some c
 len:jx.length=N.length
 free:∀ (i j:Nat) (x:Str),jx[i]?=some (some j)->N[i]?=some x->X.N[j]?=some x/\X.env.scope.names.lookup x=some .cell/\(relabel scope X.env).names.lookup x=some .cell
def uE(jx:List (Option Nat))(σ:L2.St):L2.St:=jx.map λo=>o.bind λj=>(σ[j]?).join
section
variable {X:Cx} {N:List Str} {scope:Scope} {cl:List (Str × Addr)} {jx:List (Option Nat)}
theorem yc{σ:L2.St}{H:Hp}{s:Shared}{fp:List Addr}{h₁:Heap}{t:Nat}(cs:Cw X N scope cl jx)(I:Inv X ao σ H s)(hf:∀ b∈fp,pC X ao H b)(qF:∀ b∈fp,b<s.heap.objs.size)
  (MX:h₁.Ns s.heap.objs.size λ_=>none) (hk:∀ b o,s.heap.get? b=some o->h₁.get? b=some o) :
  Inv (jk X N scope cl s.heap.objs.size s H fp (X.pn++ao)) [] (uE jx σ) H { s with heap:=h₁,toks:=t }:=by
 have sub:∀ {x c},(jk X N scope cl s.heap.objs.size s H fp (X.pn++ao)).env.cells.lookup x=some c->X.env.cells.lookup x=some c:=λ{x c} e=>cs.sub x c e
 refine⟨⟨I.ok.mod,cs.kind,I.ok.glob,I.ok.blt,gg _,λx y c e e'=>I.ok.inj x y c (sub e) (sub e'),λx hx=>cs.has x hx,λx c z _=>(by cases z),I.ok.hd,I.ok.frames,.inl rfl,λb hb=>⟨Nat.ne_of_lt (qF b hb),λx c e=>(hf b hb).2.2.2.2.1 x c (sub e)⟩,I.bs,iJ I.ok.Qx I.sz,λb o e hb=>?_,λb hb z=>?_,I.stack,I.vc⟩,
  rfl,I.bare,Un.kept hk,⟨_,MX,λi x v e1 e2 _=>?_⟩,λx c e=>?_,I.hok.fresh (gg _),λx c e=>I.nH x c (sub e),λp hp=>?_,I.hok.kept hk,by unfold uE;rw[cD];exact cs.len⟩
 ·rcases (hf b hb).2.2.2.1 with z|z
  ·exact I.ok.HE b o e z
  ·exact absurd (o6 (Heap.lt_size (I.ok.bs b o e).1) z) (Nat.lt_irrefl _)
 ·rcases List.mem_cons.mp (I.wA b z) with e|e
  ·exact (hf b hb).2.1 e
  ·exact (hf b hb).2.2.1 e
 ·unfold uE at e2;rw[nG]at e2
  cases ej:jx[i]? with
  | none=>rw[ej]at e2;cases e2
  | some o =>
   rw[ej]at e2
   cases o with
   | none=>cases e2
   | some j =>
    have e3:σ[j]?=some (some v):=by
     have z:((σ[j]?).join)=some v:=qH e2
     cases hs:σ[j]? with
     | none=>rw[hs]at z;cases z
     | some q=>rw[hs]at z;exact congrArg some z
    obtain⟨f1,f2,f3⟩:=cs.free i j x ej e1;obtain⟨m,hn,hl⟩:=I.loc;obtain⟨u,ru,look⟩:=hl j x v f1 e3 (.inr (.inl f2));exists u,ru;rcases look with ⟨k,_⟩|⟨_,c,hc,o,ho,hd⟩
    ·have k':X.env.scope.names.lookup x=some .local:=k;rw[f2]at k';cases k'
    ·obtain⟨c',Yx⟩:=cs.has x (.inl f3);have z:=cs.sub x c' Yx;rw[hc]at z;cases z;exact .inr ⟨.inl f3,c,Yx,o,hk _ _ ho,hd⟩
 ·obtain⟨v,o,ho,hd⟩:=I.cell x c (sub e);exact⟨v,o,hk _ _ ho,hd⟩
 ·have Uw:p∈X.pn++ao:=by
   have z:p∈(X.pn++ao)++[]:=hp;simpa using z
  obtain⟨e,n,nl,nf,d⟩:=I.pin p Uw;refine⟨hk _ _ e,n,kT (Heap.lt_size e),λz=>?_,d⟩;rcases List.mem_cons.mp (I.wA p.1 z) with e|e
  ·exact nl e
  ·exact nf e
theorem wY{σ σ':L2.St}{H H':Hp}{s s':Shared}{fp:List Addr}(I:Inv X ao σ H s)(hf:∀ b∈fp,pC X ao H b)(J:Inv (jk X N scope cl s.heap.objs.size s H fp (X.pn++ao)) [] σ' H' s'):Inv X ao σ H' s' :=
 I.ET (ch:=fp) J.os J.zt J.hok J.bare λb hb=>⟨(hf b hb).2.2.2.1,(hf b hb).2.1,(hf b hb).2.2.2.2.1,(hf b hb).2.2.2.2.2⟩
theorem wZ{σ σ2:L2.St}{H H':Hp}{s s':Shared}{h':Heap}(I:Inv X ao σ H s)(I4:Inv X ao σ2 H' s')(JO:H' s.heap.objs.size=none)(hs:Heap.SameBut s.heap.objs.size s'.heap h'):Inv X ao σ2 H' { s' with heap:=h' }:=by
 refine I4.turned (t':=s'.toks) (it:=s.heap.objs.size) (λb o hb e=>hs.extBut _ _ hb e) JO (Nat.ne_of_gt I.lt) (.inr I.sz) (λx c e z=>?_) λp hp z=>?_
 ·obtain⟨v,o,ho,_⟩:=I.cell x c e;exact absurd (Heap.lt_size ho) (by rw[z];exact Nat.lt_irrefl _)
 ·exact absurd (Heap.lt_size (I.pin p hp).1) (by rw[z];exact Nat.lt_irrefl _)
def za(J:It)(acc:Addr)(g:TG)(tt:TT)(te:TE)(σ0:L2.St)(H:Hp)(Q:VK):Prop :=
 ∃ W:Nat->Nat->L2.St->Hp->Prop,(∃ m,W 0 m σ0 H)/\∀ i m σ H,W i m σ H->
  (J.stop i H/\Q (.ref acc) H)\/(J.go i H/\∃ Nx:L2.St->Hp->Prop,(∀ σ' H',Nx σ' H'->∃ m',m'<m/\W (i+1) m' σ' H')/\∀ x H',J.Ni i H x H'->g x σ H' fun σ2 H2=>tt σ2 H2 λb H3 =>
   if b=true then te σ2 H3 λv H4=>∃ xs,H4 acc=some (.lst xs)/\xs.length<sizeLine/\Nx σ2 (aP H4 acc (.lst (xs++[v]))) else Nx σ2 H3)
def w9(jx:List (Option Nat))(wi:TI)(g:TG)(tt:TT)(te:TE):TE:=fun σ H Q=>wi σ H λJ H1=>∀ acc,H1 acc=none->za J acc g tt te (uE jx σ) (aP H1 acc (.lst [])) Q
theorem Cz{iter:Expr}{wi:TI}{g:TG}{tt:TT}{te:TE}(cs:Cw X N scope cl jx)(hc:X.calm=true)(hi:PI X tg iter wi)
  (hg:∀ C s₀ H₀ ex pn,PG (jk X N scope cl C s₀ H₀ ex pn) tg g) (ht:∀ C s₀ H₀ ex pn,LC (jk X N scope cl C s₀ H₀ ex pn) jR tt) (he:∀ C s₀ H₀ ex pn,PE (jk X N scope cl C s₀ H₀ ex pn) kg te)
  (hs:∀ x,foldedSetIterable iter X.env x=pure x) {use:Option (Value->Sem Unit)} {Q':Value->Shared->Prop} {Q:VK} {ao:List (Addr × Obj)} {s:Shared} {σ:L2.St} {H:Hp} (I:Inv X ao σ H s) (h:w9 jx wi g tt te σ H Q)
  (kO:∀ (s3:Shared) (H3:Hp) (fp:List Addr) (acc:Addr) (σ6:L2.St) (H6:Hp) (s7:Shared),Inv X ao σ H3 s3->(∀ b∈fp,pC X ao H3 b)->Inv (jk X N scope cl s3.heap.objs.size s3 H3 fp (X.pn++ao)) [] σ6 H6 s7->Q (.ref acc) H6->
   compPost (model X.prog X.w) X.A X.xe use Q' (.ref acc) s3.heap.objs.size (.ok .next) s7) :
  wpAny (model X.prog X.w) X.A (comprehension (.ListComp kg [⟨tg,iter,jR,0⟩] scope pos) scope X.env iz (newList []) false (eval iter X.env) use) Q' X.xe s:=by
 refine wpAny_comprehension_free (use:=use) rfl hs cs.clos cs.kind cs.names (cX (hi ao s σ H _ I h) λv s1 h1=>cX h1 λYH s2 h2=>?_);obtain⟨it,fp,tn,J,H2,e,I2,T,st2,f2,q⟩:=h2;subst e;refine wpAny_newObj_type (hd:=by size_fits) ?_;have cY:H2 s2.heap.objs.size=none:=I2.hok.fresh (gg _);have I3:Inv X ao σ (aP H2 s2.heap.objs.size (.lst [])) { s2 with heap:=s2.heap.push { cls:=.type "list",data:=.seq ([]:List Value).toArray },toks:=s2.toks }:=I2.Q8 (ys:=[]) .nil (Nat.zero_le _)
 have ZE:∀ b∈fp,b<s2.heap.objs.size:=λb hb=>by
  obtain⟨o,ho,_⟩:=T.obj _ _ st2 b hb;exact Heap.lt_size ho
 have f3:∀ b∈fp,pC X ao (aP H2 s2.heap.objs.size (.lst [])) b:=λb hb=>⟨by rw[aN (kT (ZE b hb))];exact (f2 b hb).1,(f2 b hb).2⟩;have k3:∀ b o,s2.heap.get? b=some o->(s2.heap.push { cls:=.type "list",data:=.seq ([]:List Value).toArray }).get? b=some o:=λb o e=>Heap.get?_push_of_some _ e;have q3:=q _ cY;generalize hs3:({ s2 with heap:=s2.heap.push { cls:=.type "list",data:=.seq ([]:List Value).toArray },toks:=s2.toks }:Shared)=s3 at I3;generalize hH3:aP H2 s2.heap.objs.size (.lst [])=H3 at I3 f3 q3;have ZF:s3.heap=s2.heap.push { cls:=.type "list",data:=.seq ([]:List Value).toArray }:=by rw[← hs3]
 have Kn:∀ b∈fp,b<s3.heap.objs.size:=λb hb=>by rw[ZF,Heap.size_push];exact Nat.lt_succ_of_lt (ZE b hb)
 have st3:tn 0 s3.heap:=T.keep _ _ _ st2 λb _ o e=>by rw[ZF];exact k3 b o e
 show wpAny _ _ _ _ _ s3;refine wpAny_newFunctionEnv cs.cell (λy hy=>by simp at hy) (λh₁ MX RN=>?_) cs.kind;have kh:∀ b o,s3.heap.get? b=some o->h₁.get? b=some o:=λb o e=>RN.extBut _ _ (kT (Heap.lt_size e)) (Heap.get?_push_of_some _ e);have J0:Inv (jk X N scope cl s3.heap.objs.size s3 H3 fp (X.pn++ao)) [] (uE jx σ) H3 { s3 with heap:=h₁,toks:=s3.toks+([]:List (Str × Value)).length }:=yc cs I3 f3 Kn MX kh;have ZG:tn 0 h₁:=T.keep _ _ _ st3 λb _ o e=>kh b o e;obtain⟨W,⟨m0,w0⟩,tW⟩:=q3
 have tY:∀ {H':Hp},(∀ b∈fp,H' b=none)->∀ b∈fp,pC (jk X N scope cl s3.heap.objs.size s3 H3 fp (X.pn++ao)) [] H' b:=λhn b hb=>by
  refine⟨hn b hb,kT (Kn b hb),λz=>?_,.inl hb,λx c e=>(f3 b hb).2.2.2.2.1 x c (cs.sub x c e),λp hp=>?_⟩
  ·rcases List.mem_cons.mp (I3.wA b z) with e|e
   ·exact (f3 b hb).2.1 e
   ·exact (f3 b hb).2.2.1 e
  ·have Uw:p∈X.pn++ao:=by
    have z:p∈(X.pn++ao)++[]:=hp;simpa using z
   exact (f3 b hb).2.2.2.2.2 p Uw
 have loop:∀ s5:Shared,s5={ s3 with heap:=h₁,toks:=s3.toks+([]:List (Str × Value)).length }->codeAny (model X.prog X.w) X.A (.compLoop (.ListComp kg [⟨tg,iter,jR,0⟩] scope pos) 0 (.ref it) (.ref s2.heap.objs.size) (jk X N scope cl s3.heap.objs.size s3 H3 fp (X.pn++ao)).env)
   (compPost (model X.prog X.w) X.A X.xe use Q' (.ref s2.heap.objs.size) s3.heap.objs.size) s5:=by
  rintro s5 rfl;refine LA (λn s'=>∃ i σ' H',Inv (jk X N scope cl s3.heap.objs.size s3 H3 fp (X.pn++ao)) [] σ' H' s'/\tn i s'.heap/\(∀ b∈fp,H' b=none)/\W i n σ' H') ?_ m0 ⟨0,_,H3,J0,ZG,λb hb=>(f3 b hb).1,w0⟩;rintro n s6 ⟨i,σ6,H6,I6,Ur,MY,w6⟩;rcases tW i n σ6 H6 w6 with ⟨stop,qn⟩|⟨go,Nx,hN,step⟩
  ·refine cX (T.done (jk X N scope cl s3.heap.objs.size s3 H3 fp (X.pn++ao)) rfl rfl rfl hc i [] s6 σ6 H6 _ I6 (tY MY) Ur stop) λr s7 EX=>?_;obtain⟨hr,I7⟩:=EX;subst hr;exact kO s3 H3 fp _ σ6 H6 s7 I3 f3 I7 qn
  ·refine cX (T.item (jk X N scope cl s3.heap.objs.size s3 H3 fp (X.pn++ao)) rfl rfl rfl hc i [] s6 σ6 H6 _ I6 (tY MY) Ur go) λr s7 Df=>?_;obtain⟨u,hr,h7⟩:=Df;subst hr;refine cX h7 λ_ s8 HH=>?_;obtain⟨x,H8,I8,r8,y8,Ob,Fi⟩:=HH;have Zw:=I8.pinned (tY Fi) (T.obj _ _ Ob);refine cX (hg _ _ _ _ _ _ s8 σ6 H8 x u _ Zw r8 (step x H8 y8)) λ_ s9 HG=>?_;obtain⟨σ9,H9,I9,q9⟩:=HG;refine cX (ht _ _ _ _ _ _ s9 σ9 H9 _ I9 q9) λok s10 Bb=>?_;obtain⟨MZ,Us,Cg⟩:=Bb
   have again:∀ {σ7:L2.St} {H7:Hp} {wj:Shared},Inv (jk X N scope cl s3.heap.objs.size s3 H3 fp (X.pn++ao)) ([]++tX fp s8.heap) σ7 H7 wj->Nx σ7 H7->∃ m,m<n/\∃ i σ' H',Inv (jk X N scope cl s3.heap.objs.size s3 H3 fp (X.pn++ao)) [] σ' H' wj/\tn i wj.heap/\(∀ b∈fp,H' b=none)/\W i m σ' H':=λ{σ7 H7 wj} I7 n7=>by
    obtain⟨m',hm,w7⟩:=hN σ7 H7 n7;refine⟨m',hm,i+1,σ7,H7,I7.oK,T.keep _ _ _ Ob λb hb o e=>(I7.pin (b,o) (oY _ (oY _ (gP hb e)))).1,λb hb=>?_,w7⟩;obtain⟨o,e,d⟩:=T.obj _ _ Ob b hb;exact (I7.pin (b,o) (oY _ (oY _ (gP hb e)))).2.1
   cases ok with
   | false =>
    rw[if_neg gB]at Cg;exact again Us Cg
   | true =>
    rw[if_pos rfl]at Cg;refine cX (he _ _ _ _ _ _ s10 σ9 MZ _ Us Cg) λv wj EW=>?_;obtain⟨y,H11,I11,r11,xs,hx,hz,n11⟩:=EW;refine cX (bT _ wj σ9 H11 (.ref s2.heap.objs.size) [y] (.ref s2.heap.objs.size) [v] (λ_ H'=>Nx σ9 H') I11 rfl (.cons r11 .nil) ⟨_,xs,y,V,hx,hz,n11⟩) λ_ lI Bc=>?_;obtain⟨_,Zx,I12,_,VW⟩:=Bc;exact again I12 VW
 exact codeAny_compStart_list (loop _ rfl) (T.self _ _ _ _ _ ZG (loop _ rfl))
theorem Oj{iter:Expr}{wi:TI}{g:TG}{tt:TT}{te:TE}(cs:Cw X N scope cl jx)(hc:X.calm=true)(hi:PI X tg iter wi)
  (hg:∀ C s₀ H₀ ex pn,PG (jk X N scope cl C s₀ H₀ ex pn) tg g) (ht:∀ C s₀ H₀ ex pn,LC (jk X N scope cl C s₀ H₀ ex pn) jR tt) (he:∀ C s₀ H₀ ex pn,PE (jk X N scope cl C s₀ H₀ ex pn) kg te)
  (hs:∀ x,foldedSetIterable iter X.env x=pure x:=by intro _;rfl):PE X (.ListComp kg [⟨tg,iter,jR,0⟩] scope pos) (w9 jx wi g tt te):=by
 intro ao s σ H Q I h;rw[eval_ListComp];refine Cz (use:=none) cs hc hi hg ht he hs I h λs3 H3 fp acc σ6 H6 s7 I3 f3 I7 qn=>?_;obtain⟨m,hm,_⟩:=I7.loc;exact⟨m,hm,λh' RN=>⟨.ref acc,H6,wZ I3 (wY I3 f3 I7) I7.free RN,rfl,qn⟩⟩
theorem RO{iter:Expr}{LK:Pos}{wi:TI}{g:TG}{tt:TT}{te:TE}{i:Nat}{x:Str}(cs:Cw X N scope cl jx)(hc:X.calm=true)(hN:X.N.Nodup)(hix:X.N[i]?=some x)(hx:X.env.scope.names.lookup x=some .local)(hi:PI X tg iter wi)
  (hg:∀ C s₀ H₀ ex pn,PG (jk X N scope cl C s₀ H₀ ex pn) tg g) (ht:∀ C s₀ H₀ ex pn,LC (jk X N scope cl C s₀ H₀ ex pn) jR tt) (he:∀ C s₀ H₀ ex pn,PE (jk X N scope cl C s₀ H₀ ex pn) kg te)
  (hsw:swapsWith (.ListComp kg [⟨tg,iter,jR,0⟩] scope pos) (some (.Name x iz)) LK.line X.env=pure true:=by rfl)
  (hs:∀ x,foldedSetIterable iter X.env x=pure x:=by intro _;rfl):PS X (.Assign [.Name x iz] (.ListComp kg [⟨tg,iter,jR,0⟩] scope pos) LK) (Nh (w9 jx wi g tt te) (sV i)):=by
 intro ao s σ H D I h;rw[exec_Assign_Name_used _ _ _ _ hsw];refine wpAny_bind (wpAny_standAt (wpAny_bind ?_));show wpAny _ X.A (do let _ ← comprehension (.ListComp kg [⟨tg,iter,jR,0⟩] scope pos) scope X.env _ (newList []) false (eval iter X.env) (some (assign (.Name x iz) X.env))) _ _ s;have h':w9 jx wi g tt te σ H (λv H'=>sV i v σ H' D.nx):=h;refine wpAny_bind (cX (Cz (use:=some (assign (.Name x iz) X.env)) (Q':=λ_ s'=>∃ σ' H',Inv X ao σ' H' s'/\D.nx σ' H') cs hc hi hg ht he hs I h' λs3 H3 fp acc σ6 H6 s7 I3 f3 I7 qn=>?_) λ_ s' q=>?_)
 ·have I4:=wY I3 f3 I7;obtain⟨m,hm,_⟩:=I7.loc;refine wpAny_assign_Name (BU I4 hN hix (.inl hx) (v:=.ref acc) rfl (λs8 I8 ⟨a,RN,ha⟩=>?_) (.inr hx))
  have na:s3.heap.objs.size≠a:=by
   rcases ha with rfl|ha
   ·exact Nat.ne_of_gt I3.lt
   ·intro z;obtain⟨v,o,ho,_⟩:=I3.cell x a ha;exact absurd (Heap.lt_size ho) (by rw[z];exact Nat.lt_irrefl _)
  refine⟨m,hm.at' λo e=>RN.extBut _ o na e,λh' hs'=>⟨_,H6,wZ I3 I8 I7.free hs',qn⟩⟩
 ·exact wpAny_pure (wpAny_pure q)
theorem gz{K:PySem.W.Frag}{a:Addr}{xs:List V}{g:TG}{tt:TT}{te:TE}{σ0:L2.St}{H:Hp}{Q:VK}(Pv:Nat->L2.St->Hp->Prop)(h0:Pv 0 σ0 H)(hl:∀ i σ H,i<=xs.length->Pv i σ H->bL K H a xs)
  (hs:∀ i x σ H,xs[i]?=some x->Pv i σ H->g x σ H fun σ2 H2=>tt σ2 H2 λb H3=>if b=true then te σ2 H3 λv H4=>∃ ys,H4 acc=some (.lst ys)/\ys.length<sizeLine/\Pv (i+1) σ2 (aP H4 acc (.lst (ys++[v]))) else Pv (i+1) σ2 H3)
  (hd:∀ σ H,Pv xs.length σ H->Q (.ref acc) H):za (Qz K a) acc g tt te σ0 H Q:=by
 refine⟨λi m σ H=>m=xs.length-i/\i<=xs.length/\Pv i σ H,⟨xs.length,by simp,Nat.zero_le _,h0⟩,?_⟩;rintro i m σ H ⟨rfl,hi,p⟩;have q:=hl i σ H hi p;by_cases qF:i<xs.length
 ·refine .inr ⟨⟨xs,xs[i],q,by simp[qF]⟩,Pv (i+1),fun σ' H' p'=>⟨xs.length-(i+1),Q,rfl,qF,p'⟩,λx H' y=>?_⟩;obtain⟨e,y⟩:=y;subst e;exact hs i x σ _ (y xs q) p
 ·have e:i=xs.length:=by lia
  subst e;exact .inl ⟨⟨xs,q,gg _⟩,hd σ H p⟩
theorem yd{lo:Int}{k:Nat}{g:TG}{tt:TT}{te:TE}{σ0:L2.St}{H:Hp}{Q:VK}(Pv:Nat->L2.St->Hp->Prop)(h0:Pv 0 σ0 H)
  (hs:∀ i σ H,i<k->Pv i σ H->g (.int (lo+i)) σ H fun σ2 H2=>tt σ2 H2 λb H3=>if b=true then te σ2 H3 λv H4=>∃ ys,H4 acc=some (.lst ys)/\ys.length<sizeLine/\Pv (i+1) σ2 (aP H4 acc (.lst (ys++[v]))) else Pv (i+1) σ2 H3)
  (hd:∀ σ H,Pv k σ H->Q (.ref acc) H):za (Li lo k) acc g tt te σ0 H Q:=by
 refine⟨λi m σ H=>m=k-i/\i<=k/\Pv i σ H,⟨k,by simp,Nat.zero_le _,h0⟩,?_⟩;rintro i m σ H ⟨rfl,hi,p⟩;by_cases qF:i<k
 ·refine .inr ⟨qF,Pv (i+1),fun σ' H' p'=>⟨k-(i+1),Q,rfl,qF,p'⟩,λx H' y=>?_⟩;obtain⟨e,y⟩:=y;subst e y;exact hs i σ _ qF p
 ·have e:i=k:=by lia
  subst e;exact .inl ⟨Nat.le_refl _,hd σ H p⟩
end
section
variable {X:Cx} {N:List Str} {scope:Scope} {cl:List (Str × Addr)} {C:Addr} {s₀:Shared} {H₀:Hp} {ex:List Addr} {pn:List (Addr × Obj)}
theorem vC{es:List Expr}{k:Nat}{t:Vl}{n:Nat}(hc:X.calm=true)(h:YE (jk X N scope cl C s₀ H₀ ex pn) es t)
  (hn:(assignEach es (jk X N scope cl C s₀ H₀ ex pn).env).length=n:=by rfl) (ve:(assignEach es (jk X N scope cl C s₀ H₀ ex pn).env).findIdx? (·.1)=none:=by rfl):PG (jk X N scope cl C s₀ H₀ ex pn) (.Tuple es k pos) (Vn X.K n t):=nZ (X:=jk X N scope cl C s₀ H₀ ex pn) hc h hn ve
theorem Ol{tl:TE}(hl:PE (jk X N scope cl C s₀ H₀ ex pn) l tl):PI (jk X N scope cl C s₀ H₀ ex pn) tg l (Ug X.K tl):=cH hl
theorem Ko:XX (jk X N scope cl C s₀ H₀ ex pn) (YX X.K):=bx
end
theorem DB{X:Cx}:kq X (.type "range") (λxs H Q=>∃ j:Int,xs=[.int j]/\∀ p,H p=none->Q (.ref p) (aP H p (.EH 0 j))):=by
 intro ao s σ H xs us Q I r h;obtain⟨j,rfl,q⟩:=h;obtain⟨u1,rfl,⟨t,rfl⟩⟩:=r.one;refine call_range_1 ⟨.ref s.heap.objs.size,_,I.laid (o:=.EH 0 j) (λb o e=>Heap.get?_push_of_some _ e) (gg _) ⟨K,Heap.get?_push_size _ rfl⟩,rfl,q _ (I.hok.fresh (gg _))⟩
theorem xg{scope:Scope}{env:Env}(h:∀ p∈scope.names,p.2=.free->∃ c,env.cells.lookup p.1=some c) :
  ∃ cl,closureFor scope env=pure cl/\(∀ x c,cl.lookup x=some c->env.cells.lookup x=some c)/\(∀ p∈scope.names,p.2=.free->∃ c,cl.lookup p.1=some c):=by
 unfold closureFor
 have key:∀ (l:List (Str × NameKind)) (cs:List (Str × Addr)),(∀ p∈l,p.2=.free->∃ c,env.cells.lookup p.1=some c)->(∀ x c,cs.lookup x=some c->env.cells.lookup x=some c)->
   ∃ cl,(forIn l cs (λp r=>if (p.2 == NameKind.free)=true then do let c ← cellOf env p.1;pure (ForInStep.yield ((p.1,c)::r)) else pure (ForInStep.yield r)):Sem (List (Str × Addr)))=pure cl/\(∀ x c,cl.lookup x=some c->env.cells.lookup x=some c)/\(∀ p∈l,p.2=.free->∃ c,cl.lookup p.1=some c)/\(∀ x c,cs.lookup x=some c->∃ c,cl.lookup x=some c):=by
  intro l
  induction l with
  | nil=>intro cs _ Q6;exact⟨cs,rfl,Q6,(λp hp=>by cases hp),λx c e=>⟨c,e⟩⟩
  | cons p l ih =>
   intro cs hl Q6;rw[List.forIn_cons];by_cases hp:p.2=.free
   ·obtain⟨c,hc⟩:=hl p tU hp;have e1:(p.2 == NameKind.free)=true:=by rw[hp];rfl
    have e2:cellOf env p.1=pure c:=by
     unfold cellOf;rw[hc]
    rw[if_pos e1,e2];simp only[pure_bind]
    obtain⟨cl,h1,h2,h3,h4⟩:=ih ((p.1,c)::cs) (λq hq=>hl q (nu _ hq)) (λx d e=>by
     rw[List.lookup_cons]at e
     cases hx:x == p.1 with
     | true =>
      rw[hx]at e;cases e;rw[eq_of_beq hx];exact hc
     | false =>
      rw[hx]at e
      exact Q6 x d e)
    refine⟨cl,h1,h2,λq hq hf=>?_,λx d e=>?_⟩
    ·rcases List.mem_cons.mp hq with rfl|hq
     ·exact h4 q.1 c (by rw[List.lookup_cons];simp)
     ·exact h3 q hq hf
    ·cases hx:x == p.1 with
     | true=>exact h4 x c (by rw[List.lookup_cons,hx])
     | false=>exact h4 x d (by rw[List.lookup_cons,hx];exact e)
   ·have e1:¬ (p.2 == NameKind.free)=true:=λz=>hp (eq_of_beq z);rw[if_neg e1];simp only[pure_bind];obtain⟨cl,h1,h2,h3,h4⟩:=ih cs (λq hq=>hl q (nu _ hq)) Q6;refine⟨cl,h1,h2,λq hq hf=>?_,h4⟩;rcases List.mem_cons.mp hq with rfl|hq
    ·exact absurd hf hp
    ·exact h3 q hq hf
 obtain⟨cl,h1,h2,h3,_⟩:=key scope.names [] h (λx c e=>by cases e);refine⟨cl,?_,h2,h3⟩;rw[← h1];simp only[bind_pure]
theorem mW{env:Env}:∀ {names:List (Str × NameKind)} {x:Str} {k:NameKind},names.lookup x=some k->
  (names.map λ(n,k)=>if (k == NameKind.free&&env.scope.kind == .function&&env.kindOf n == some .cell) then (n,NameKind.cell) else (n,k)).lookup x=some (if (k == NameKind.free&&env.scope.kind == .function&&env.kindOf x == some .cell) then NameKind.cell else k)
 | [],_,_,h=>by cases h
 | (n,k')::r,x,k,h=>by
  rw[jy];by_cases hx:(x == n)=true
  ·have e:x=n:=eq_of_beq hx;subst e;rw[List.lookup_cons,hx]at h;cases h;by_cases hc:(k' == NameKind.free&&env.scope.kind == .function&&env.kindOf x == some .cell)=true
   ·show List.lookup x ((if (k' == NameKind.free&&env.scope.kind == .function&&env.kindOf x == some .cell)=true then (x,NameKind.cell) else (x,k'))::_)=_;rw[if_pos hc,if_pos hc,List.lookup_cons,hx]
   ·show List.lookup x ((if (k' == NameKind.free&&env.scope.kind == .function&&env.kindOf x == some .cell)=true then (x,NameKind.cell) else (x,k'))::_)=_;rw[if_neg hc,if_neg hc,List.lookup_cons,hx]
  ·have hf:(x == n)=false:=by simpa using hx
   rw[List.lookup_cons,hf]at h;have ih:=mW (env:=env) h;show List.lookup x ((if (k' == NameKind.free&&env.scope.kind == .function&&env.kindOf n == some .cell)=true then (n,NameKind.cell) else (n,k'))::_)=_;by_cases hc:(k' == NameKind.free&&env.scope.kind == .function&&env.kindOf n == some .cell)=true
   ·rw[if_pos hc,List.lookup_cons,hf];exact ih
   ·rw[if_neg hc,List.lookup_cons,hf];exact ih
theorem lJ{env:Env}:∀ {names:List (Str × NameKind)} {x:Str},names.lookup x=none->
  (names.map λ(n,k)=>if (k == NameKind.free&&env.scope.kind == .function&&env.kindOf n == some .cell) then (n,NameKind.cell) else (n,k)).lookup x=none
 | [],_,_=>rfl
 | (n,k')::r,x,h=>by
  rw[jy]
  have hf:(x == n)=false:=by
   cases hx:x == n with
   | false=>rfl
   | true=>rw[List.lookup_cons,hx]at h;cases h
  rw[List.lookup_cons,hf]at h;have ih:=lJ (env:=env) h;show List.lookup x ((if (k' == NameKind.free&&env.scope.kind == .function&&env.kindOf n == some .cell)=true then (n,NameKind.cell) else (n,k'))::_)=_;by_cases hc:(k' == NameKind.free&&env.scope.kind == .function&&env.kindOf n == some .cell)=true
  ·rw[if_pos hc,List.lookup_cons,hf];exact ih
  ·rw[if_neg hc,List.lookup_cons,hf];exact ih
structure CA(X:Cx)(N:List Str)(scope:Scope)(jx:List (Option Nat)):Prop where
 kind:scope.kind=.function
 cell:∀ x∈scope.names,x.2≠.cell
 names:∀ x∈scope.names,x.2=.local->scope.names.lookup x.1=some .local
 xk:X.env.scope.kind=.function
 fr:∀ x∈scope.names,x.2=.free->X.env.scope.names.lookup x.1=some .cell
 len:jx.length=N.length
 free:∀ (i j:Nat) (x:Str),jx[i]?=some (some j)->N[i]?=some x->X.N[j]?=some x/\scope.names.lookup x=some .free
def Om(NX N:List Str)(scope:Scope)(jx:List (Option Nat)):Bool:=(jx.zip N).all λp=>match p.1 with
 | none=>true
 | some j=>decide (NX[j]?=some p.2)&&decide (scope.names.lookup p.2=some .free)
theorem nP{X:Cx}{N NX:List Str}{scope sc:Scope}{jx:List (Option Nat)}(e1:X.env.scope=sc)(e2:X.N=NX)(k:scope.kind=.function)(h1:∀ x∈scope.names,x.2≠.cell)(h2:∀ x∈scope.names,x.2=.local->scope.names.lookup x.1=some .local)
  (h3:sc.kind=.function) (h4:∀ x∈scope.names,x.2=.free->sc.names.lookup x.1=some .cell) (h5:jx.length=N.length) (h6:Om NX N scope jx=true):CA X N scope jx:=by
 refine⟨k,h1,h2,by rw[e1];exact h3,by rw[e1];exact h4,h5,λi j x a b=>?_⟩;rw[e2];unfold Om at h6;rw[List.all_eq_true]at h6;have z:=h6 (some j,x) (nF (i:=i) (by rw[List.getElem?_zip_eq_some];exact⟨a,b⟩));simp only[Bool.and_eq_true,decide_eq_true_eq]at z;exact z
section
variable {X:Cx} {N:List Str} {scope:Scope} {jx:List (Option Nat)}
theorem CA.toF{σ:L2.St}{H:Hp}{s:Shared}(cg:CA X N scope jx)(I:Inv X ao σ H s):∃ cl,Cw X N scope cl jx:=by
 obtain⟨cl,h1,h2,h3⟩:=xg (scope:=scope) (env:=X.env) λp hp hf=>I.ok.has p.1 (.inl (cg.fr p hp hf))
 have yb:∀ x,scope.names.lookup x=some .free->(relabel scope X.env).names.lookup x=some .cell:=λx hx=>by
  have z:=mW (env:=X.env) hx
  have c:(NameKind.free == NameKind.free&&X.env.scope.kind == .function&&X.env.kindOf x == some .cell)=true:=by
   have q:X.env.kindOf x=some .cell:=cg.fr (x,.free) (PySem.mem_of_lookup hx) rfl;rw[cg.xk,q];rfl
  rw[if_pos c]at z;exact z
 refine⟨cl,cg.kind,cg.cell,cg.names,h1,h2,λx hx=>?_,cg.len,λi j x a b=>?_⟩
 ·cases e:scope.names.lookup x with
  | none =>
   have z:(relabel scope X.env).names.lookup x=none:=lJ (env:=X.env) e;rw[z]at hx
   rcases hx with q|q <;> cases q
  | some k =>
   by_cases hk:k=.free
   ·subst hk;exact h3 (x,.free) (PySem.mem_of_lookup e) rfl
   ·have z:(relabel scope X.env).names.lookup x=some (if (k == NameKind.free&&X.env.scope.kind == .function&&X.env.kindOf x == some .cell) then NameKind.cell else k):=mW (env:=X.env) e
    have c:(k == NameKind.free)=false:=by
     cases q:k == NameKind.free with
     | false=>rfl
     | true=>exact absurd (eq_of_beq q) hk
    rw[c]at z;simp only[Bool.false_and,Bool.false_eq_true,if_false]at z;rw[z]at hx;rcases hx with q|q
    ·cases q;exact absurd rfl (cg.cell (x,.cell) (PySem.mem_of_lookup e))
    ·cases q;exact absurd rfl hk
 ·obtain⟨f1,f2⟩:=cg.free i j x a b;exact⟨f1,cg.fr (x,.free) (PySem.mem_of_lookup f2) rfl,yb x f2⟩
theorem gV{iter:Expr}{wi:TI}{g:TG}{tt:TT}{te:TE}(cg:CA X N scope jx)(hc:X.calm=true)(hi:PI X tg iter wi)
  (hg:∀ cl C s₀ H₀ ex pn,PG (jk X N scope cl C s₀ H₀ ex pn) tg g) (ht:∀ cl C s₀ H₀ ex pn,LC (jk X N scope cl C s₀ H₀ ex pn) jR tt) (he:∀ cl C s₀ H₀ ex pn,PE (jk X N scope cl C s₀ H₀ ex pn) kg te)
  (hs:∀ x,foldedSetIterable iter X.env x=pure x:=by intro _;rfl):PE X (.ListComp kg [⟨tg,iter,jR,0⟩] scope pos) (w9 jx wi g tt te):=by
 intro ao s σ H Q I h;obtain⟨cl,cs⟩:=cg.toF I;exact Oj cs hc hi (hg cl) (ht cl) (he cl) hs ao s σ H Q I h
theorem RP{iter:Expr}{LK:Pos}{wi:TI}{g:TG}{tt:TT}{te:TE}{i:Nat}{x:Str}(cg:CA X N scope jx)(hc:X.calm=true)(hN:X.N.Nodup)(hix:X.N[i]?=some x)(hx:X.env.scope.names.lookup x=some .local)(hi:PI X tg iter wi)
  (hg:∀ cl C s₀ H₀ ex pn,PG (jk X N scope cl C s₀ H₀ ex pn) tg g) (ht:∀ cl C s₀ H₀ ex pn,LC (jk X N scope cl C s₀ H₀ ex pn) jR tt) (he:∀ cl C s₀ H₀ ex pn,PE (jk X N scope cl C s₀ H₀ ex pn) kg te)
  (hsw:swapsWith (.ListComp kg [⟨tg,iter,jR,0⟩] scope pos) (some (.Name x iz)) LK.line X.env=pure true:=by rfl)
  (hs:∀ x,foldedSetIterable iter X.env x=pure x:=by intro _;rfl):PS X (.Assign [.Name x iz] (.ListComp kg [⟨tg,iter,jR,0⟩] scope pos) LK) (Nh (w9 jx wi g tt te) (sV i)):=by
 intro ao s σ H D I h;obtain⟨cl,cs⟩:=cg.toF I;exact RO cs hc hN hix hx hi (hg cl) (ht cl) (he cl) hsw hs ao s σ H D I h
end
end dh
namespace dh
open Spec Rows L2
section
variable {X:Cx} {N:List Str} {scope:Scope} {cl:List (Str × Addr)} {jx:List (Option Nat)}
def FG(J:It)(acc:Addr)(g:TG)(tt:TT)(Iq:TI)(g2:TG)(Ir:TT)(te:TE)(σ0:L2.St)(H:Hp)(Q:VK):Prop :=
 ∃ W:Nat->Nat->L2.St->Hp->Prop,(∃ m,W 0 m σ0 H)/\∀ i m σ H,W i m σ H->
  (J.stop i H/\Q (.ref acc) H)\/(J.go i H/\∃ Nx:L2.St->Hp->Prop,(∀ σ' H',Nx σ' H'->∃ m',m'<m/\W (i+1) m' σ' H')/\∀ x H',J.Ni i H x H'->g x σ H' fun σ2 H2=>tt σ2 H2 λb H3 =>
   if b=true then Ip Iq acc g2 Ir te σ2 H3 Nx else Nx σ2 H3)
def Kp(jx:List (Option Nat))(wi:TI)(g:TG)(tt:TT)(Iq:TI)(g2:TG)(Ir:TT)(te:TE):TE:=fun σ H Q=>wi σ H λJ H1=>∀ acc,H1 acc=none->FG J acc g tt Iq g2 Ir te (uE jx σ) (aP H1 acc (.lst [])) Q
theorem IA{iter:Expr}{wi Iq:TI}{g g2:TG}{tt Ir:TT}{te:TE}(cs:Cw X N scope cl jx)(hc:X.calm=true)(hi:PI X tg iter wi)
  (hg:∀ C s₀ H₀ ex pn,PG (jk X N scope cl C s₀ H₀ ex pn) tg g) (ht:∀ C s₀ H₀ ex pn,LC (jk X N scope cl C s₀ H₀ ex pn) jR tt) (hi2:∀ C s₀ H₀ ex pn,PI (jk X N scope cl C s₀ H₀ ex pn) qG dP Iq) (hg2:∀ C s₀ H₀ ex pn,PG (jk X N scope cl C s₀ H₀ ex pn) qG g2) (IB:∀ C s₀ H₀ ex pn,LC (jk X N scope cl C s₀ H₀ ex pn) jj Ir) (he:∀ C s₀ H₀ ex pn,PE (jk X N scope cl C s₀ H₀ ex pn) kg te)
  (hs:∀ x,foldedSetIterable iter X.env x=pure x) (Hl:∀ (env:Env) x,foldedSetIterable dP env x=pure x) {use:Option (Value->Sem Unit)} {Q':Value->Shared->Prop} {Q:VK} {ao:List (Addr × Obj)} {s:Shared} {σ:L2.St} {H:Hp} (I:Inv X ao σ H s) (h:Kp jx wi g tt Iq g2 Ir te σ H Q)
  (kO:∀ (s3:Shared) (H3:Hp) (fp:List Addr) (acc:Addr) (σ6:L2.St) (H6:Hp) (s7:Shared),Inv X ao σ H3 s3->(∀ b∈fp,pC X ao H3 b)->Inv (jk X N scope cl s3.heap.objs.size s3 H3 fp (X.pn++ao)) [] σ6 H6 s7->Q (.ref acc) H6->
   compPost (model X.prog X.w) X.A X.xe use Q' (.ref acc) s3.heap.objs.size (.ok .next) s7) :
  wpAny (model X.prog X.w) X.A (comprehension (.ListComp kg [⟨tg,iter,jR,0⟩,⟨qG,dP,jj,0⟩] scope pos) scope X.env iz (newList []) false (eval iter X.env) use) Q' X.xe s:=by
 refine wpAny_comprehension_free (use:=use) rfl hs cs.clos cs.kind cs.names (cX (hi ao s σ H _ I h) λv s1 h1=>cX h1 λYH s2 h2=>?_);obtain⟨it,fp,tn,J,H2,e,I2,T,st2,f2,q⟩:=h2;subst e;refine wpAny_newObj_type (hd:=by size_fits) ?_;have cY:H2 s2.heap.objs.size=none:=I2.hok.fresh (gg _);have I3:Inv X ao σ (aP H2 s2.heap.objs.size (.lst [])) { s2 with heap:=s2.heap.push { cls:=.type "list",data:=.seq ([]:List Value).toArray },toks:=s2.toks }:=I2.Q8 (ys:=[]) .nil (Nat.zero_le _)
 have ZE:∀ b∈fp,b<s2.heap.objs.size:=λb hb=>by
  obtain⟨o,ho,_⟩:=T.obj _ _ st2 b hb;exact Heap.lt_size ho
 have f3:∀ b∈fp,pC X ao (aP H2 s2.heap.objs.size (.lst [])) b:=λb hb=>⟨by rw[aN (kT (ZE b hb))];exact (f2 b hb).1,(f2 b hb).2⟩;have k3:∀ b o,s2.heap.get? b=some o->(s2.heap.push { cls:=.type "list",data:=.seq ([]:List Value).toArray }).get? b=some o:=λb o e=>Heap.get?_push_of_some _ e;have q3:=q _ cY;generalize hs3:({ s2 with heap:=s2.heap.push { cls:=.type "list",data:=.seq ([]:List Value).toArray },toks:=s2.toks }:Shared)=s3 at I3;generalize hH3:aP H2 s2.heap.objs.size (.lst [])=H3 at I3 f3 q3;have ZF:s3.heap=s2.heap.push { cls:=.type "list",data:=.seq ([]:List Value).toArray }:=by rw[← hs3]
 have Kn:∀ b∈fp,b<s3.heap.objs.size:=λb hb=>by rw[ZF,Heap.size_push];exact Nat.lt_succ_of_lt (ZE b hb)
 have st3:tn 0 s3.heap:=T.keep _ _ _ st2 λb _ o e=>by rw[ZF];exact k3 b o e
 show wpAny _ _ _ _ _ s3;refine wpAny_newFunctionEnv cs.cell (λy hy=>by simp at hy) (λh₁ MX RN=>?_) cs.kind;have kh:∀ b o,s3.heap.get? b=some o->h₁.get? b=some o:=λb o e=>RN.extBut _ _ (kT (Heap.lt_size e)) (Heap.get?_push_of_some _ e);have J0:Inv (jk X N scope cl s3.heap.objs.size s3 H3 fp (X.pn++ao)) [] (uE jx σ) H3 { s3 with heap:=h₁,toks:=s3.toks+([]:List (Str × Value)).length }:=yc cs I3 f3 Kn MX kh;have ZG:tn 0 h₁:=T.keep _ _ _ st3 λb _ o e=>kh b o e;obtain⟨W,⟨m0,w0⟩,tW⟩:=q3
 have tY:∀ {H':Hp},(∀ b∈fp,H' b=none)->∀ b∈fp,pC (jk X N scope cl s3.heap.objs.size s3 H3 fp (X.pn++ao)) [] H' b:=λhn b hb=>by
  refine⟨hn b hb,kT (Kn b hb),λz=>?_,.inl hb,λx c e=>(f3 b hb).2.2.2.2.1 x c (cs.sub x c e),λp hp=>?_⟩
  ·rcases List.mem_cons.mp (I3.wA b z) with e|e
   ·exact (f3 b hb).2.1 e
   ·exact (f3 b hb).2.2.1 e
  ·have Uw:p∈X.pn++ao:=by
    have z:p∈(X.pn++ao)++[]:=hp;simpa using z
   exact (f3 b hb).2.2.2.2.2 p Uw
 have loop:∀ s5:Shared,s5={ s3 with heap:=h₁,toks:=s3.toks+([]:List (Str × Value)).length }->codeAny (model X.prog X.w) X.A (.compLoop (.ListComp kg [⟨tg,iter,jR,0⟩,⟨qG,dP,jj,0⟩] scope pos) 0 (.ref it) (.ref s2.heap.objs.size) (jk X N scope cl s3.heap.objs.size s3 H3 fp (X.pn++ao)).env)
   (compPost (model X.prog X.w) X.A X.xe use Q' (.ref s2.heap.objs.size) s3.heap.objs.size) s5:=by
  rintro s5 rfl;refine Rz (λn s'=>∃ i σ' H',Inv (jk X N scope cl s3.heap.objs.size s3 H3 fp (X.pn++ao)) [] σ' H' s'/\tn i s'.heap/\(∀ b∈fp,H' b=none)/\W i n σ' H') (Hl _) ?_ m0 ⟨0,_,H3,J0,ZG,λb hb=>(f3 b hb).1,w0⟩;rintro n s6 ⟨i,σ6,H6,I6,Ur,MY,w6⟩;rcases tW i n σ6 H6 w6 with ⟨stop,qn⟩|⟨go,Nx,hN,step⟩
  ·refine cX (T.done (jk X N scope cl s3.heap.objs.size s3 H3 fp (X.pn++ao)) rfl rfl rfl hc i [] s6 σ6 H6 _ I6 (tY MY) Ur stop) λr s7 EX=>?_;obtain⟨hr,I7⟩:=EX;subst hr;exact kO s3 H3 fp _ σ6 H6 s7 I3 f3 I7 qn
  ·refine cX (T.item (jk X N scope cl s3.heap.objs.size s3 H3 fp (X.pn++ao)) rfl rfl rfl hc i [] s6 σ6 H6 _ I6 (tY MY) Ur go) λr s7 Df=>?_;obtain⟨u,hr,h7⟩:=Df;subst hr;refine cX h7 λ_ s8 HH=>?_;obtain⟨x,H8,I8,r8,y8,Ob,Fi⟩:=HH;have Zw:=I8.pinned (tY Fi) (T.obj _ _ Ob);refine cX (hg _ _ _ _ _ _ s8 σ6 H8 x u _ Zw r8 (step x H8 y8)) λ_ s9 HG=>?_;obtain⟨σ9,H9,I9,q9⟩:=HG;refine cX (ht _ _ _ _ _ _ s9 σ9 H9 _ I9 q9) λok s10 Bb=>?_;obtain⟨MZ,Us,Cg⟩:=Bb
   have again:∀ {σ7:L2.St} {H7:Hp} {wj:Shared},Inv (jk X N scope cl s3.heap.objs.size s3 H3 fp (X.pn++ao)) ([]++tX fp s8.heap) σ7 H7 wj->Nx σ7 H7->∃ m,m<n/\∃ i σ' H',Inv (jk X N scope cl s3.heap.objs.size s3 H3 fp (X.pn++ao)) [] σ' H' wj/\tn i wj.heap/\(∀ b∈fp,H' b=none)/\W i m σ' H':=λ{σ7 H7 wj} I7 n7=>by
    obtain⟨m',hm,w7⟩:=hN σ7 H7 n7;refine⟨m',hm,i+1,σ7,H7,I7.oK,T.keep _ _ _ Ob λb hb o e=>(I7.pin (b,o) (oY _ (oY _ (gP hb e)))).1,λb hb=>?_,w7⟩;obtain⟨o,e,d⟩:=T.obj _ _ Ob b hb;exact (I7.pin (b,o) (oY _ (oY _ (gP hb e)))).2.1
   cases ok with
   | false =>
    rw[if_neg gB]at Cg;exact again Us Cg
   | true =>
    rw[if_pos rfl]at Cg;refine cX (LH (Y:=jk X N scope cl s3.heap.objs.size s3 H3 fp (X.pn++ao)) hc rfl (hi2 _ _ _ _ _) (hg2 _ _ _ _ _) (IB _ _ _ _ _) (he _ _ _ _ _) Us Cg) λx wj h11=>cX h11 λZv lI h12=>codeAny_mono h12 λr ye ⟨hr,σ',H',I13,n13⟩=>⟨hr,again I13 n13⟩
 exact codeAny_compStart_list (loop _ rfl) (T.self _ _ _ _ _ ZG (loop _ rfl))
theorem CC{iter:Expr}{pos:Pos}{wi Iq:TI}{g g2:TG}{tt Ir:TT}{te:TE}(cg:CA X N scope jx)(hc:X.calm=true)(hi:PI X tg iter wi)
  (hg:∀ cl C s₀ H₀ ex pn,PG (jk X N scope cl C s₀ H₀ ex pn) tg g) (ht:∀ cl C s₀ H₀ ex pn,LC (jk X N scope cl C s₀ H₀ ex pn) jR tt)
  (hi2:∀ cl C s₀ H₀ ex pn,PI (jk X N scope cl C s₀ H₀ ex pn) qG dP Iq) (hg2:∀ cl C s₀ H₀ ex pn,PG (jk X N scope cl C s₀ H₀ ex pn) qG g2) (IB:∀ cl C s₀ H₀ ex pn,LC (jk X N scope cl C s₀ H₀ ex pn) jj Ir) (he:∀ cl C s₀ H₀ ex pn,PE (jk X N scope cl C s₀ H₀ ex pn) kg te)
  (hs:∀ x,foldedSetIterable iter X.env x=pure x:=by intro _;rfl) (Hl:∀ (env:Env) x,foldedSetIterable dP env x=pure x:=by intro _ _;rfl) :
  PE X (.ListComp kg [⟨tg,iter,jR,0⟩,⟨qG,dP,jj,0⟩] scope pos) (Kp jx wi g tt Iq g2 Ir te):=by
 intro ao s σ H Q I h;obtain⟨cl,cs⟩:=cg.toF I;rw[eval_ListComp];refine IA (use:=none) cs hc hi (hg cl) (ht cl) (hi2 cl) (hg2 cl) (IB cl) (he cl) hs Hl I h λs3 H3 fp acc σ6 H6 s7 I3 f3 I7 qn=>?_;obtain⟨m,hm,_⟩:=I7.loc;exact⟨m,hm,λh' RN=>⟨.ref acc,H6,wZ I3 (wY I3 f3 I7) I7.free RN,rfl,qn⟩⟩
theorem yf{K:PySem.W.Frag}{a:Addr}{xs:List V}{g:TG}{tt:TT}{Iq:TI}{g2:TG}{Ir:TT}{te:TE}{σ0:L2.St}{H:Hp}{Q:VK}(Pv:Nat->L2.St->Hp->Prop)(h0:Pv 0 σ0 H)(hl:∀ i σ H,i<=xs.length->Pv i σ H->bL K H a xs)
  (hs:∀ i x σ H,xs[i]?=some x->Pv i σ H->g x σ H fun σ2 H2=>tt σ2 H2 λb H3=>if b=true then Ip Iq acc g2 Ir te σ2 H3 (Pv (i+1)) else Pv (i+1) σ2 H3)
  (hd:∀ σ H,Pv xs.length σ H->Q (.ref acc) H):FG (Qz K a) acc g tt Iq g2 Ir te σ0 H Q:=by
 refine⟨λi m σ H=>m=xs.length-i/\i<=xs.length/\Pv i σ H,⟨xs.length,by simp,Nat.zero_le _,h0⟩,?_⟩;rintro i m σ H ⟨rfl,hi,p⟩;have q:=hl i σ H hi p;by_cases qF:i<xs.length
 ·refine .inr ⟨⟨xs,xs[i],q,by simp[qF]⟩,Pv (i+1),fun σ' H' p'=>⟨xs.length-(i+1),Q,rfl,qF,p'⟩,λx H' y=>?_⟩;obtain⟨e,y⟩:=y;subst e;exact hs i x σ _ (y xs q) p
 ·have e:i=xs.length:=by lia
  subst e;exact .inl ⟨⟨xs,q,gg _⟩,hd σ H p⟩
theorem IC{K:PySem.W.Frag}{a:Addr}{xs:List V}{g:TG}{tt:TT}{te:TE}{σ:L2.St}{H:Hp}{Nx:L2.St->Hp->Prop}(Pv:Nat->L2.St->Hp->Prop)(h0:Pv 0 σ H)(hl:∀ i σ H,i<=xs.length->Pv i σ H->bL K H a xs)
  (hs:∀ i x σ H,xs[i]?=some x->Pv i σ H->g x σ H fun σ2 H2=>tt σ2 H2 λb H3=>if b=true then te σ2 H3 λv H4=>∃ ys,H4 acc=some (.lst ys)/\ys.length<sizeLine/\Pv (i+1) σ2 (aP H4 acc (.lst (ys++[v]))) else Pv (i+1) σ2 H3)
  (hd:∀ σ H,Pv xs.length σ H->Nx σ H):∃ W:Nat->Nat->L2.St->Hp->Prop,(∃ m,W 0 m σ H)/\∀ i m σ H,W i m σ H->
  ((Qz K a).stop i H/\Nx σ H)\/((Qz K a).go i H/\∃ N2:L2.St->Hp->Prop,(∀ σ' H',N2 σ' H'->∃ m',m'<m/\W (i+1) m' σ' H')/\∀ x H',(Qz K a).Ni i H x H'->g x σ H' fun σ2 H2=>tt σ2 H2 λb H3 =>
   if b=true then te σ2 H3 λv H4=>∃ xs,H4 acc=some (.lst xs)/\xs.length<sizeLine/\N2 σ2 (aP H4 acc (.lst (xs++[v]))) else N2 σ2 H3):=by
 refine⟨λi m σ H=>m=xs.length-i/\i<=xs.length/\Pv i σ H,⟨xs.length,by simp,Nat.zero_le _,h0⟩,?_⟩;rintro i m σ H ⟨rfl,hi,p⟩;have q:=hl i σ H hi p;by_cases qF:i<xs.length
 ·refine .inr ⟨⟨xs,xs[i],q,by simp[qF]⟩,Pv (i+1),fun σ' H' p'=>⟨xs.length-(i+1),Q,rfl,qF,p'⟩,λx H' y=>?_⟩;obtain⟨e,y⟩:=y;subst e;exact hs i x σ _ (y xs q) p
 ·have e:i=xs.length:=by lia
  subst e;exact .inl ⟨⟨xs,q,gg _⟩,hd σ H p⟩
end
end dh
namespace dh
open Spec Rows L2
open AutoSeq1 (wpAny_loadPart')
section
variable {prog:Program} {w:World} {A:Around} {E:Value->Shared->Prop} {s:Shared} {κ:Type} [DecidableEq κ] {knd:KeyKind prog w κ}
theorem LP{d:Addr}{Q:Bool->Shared->Prop}(hT:s.TypeIs (.ref d) "dict")(h:Q false s):wpAny (model prog w) A (Builtin.List.listLengthHint (.ref d)) Q E s:=by
 unfold Builtin.List.listLengthHint;refine wpAny_bind (wpAny_specialOf hT F.slot_dict_len.lookup ?_);generalize hid:("dict.__len__":String)=id0
 wp_delta
 rw[show splitId id0=some ("dict","__len__") by subst hid;decide +kernel];subst hid;refine wpAny_bind (wpAny_isInstance (T:="dict") (b:=true) hT (by rw[isSubtype_type];kernel_rfl) ?_);refine wpAny_ite_split (λq=>absurd q (by decide)) λ_=>?_;refine wpAny_ite_split (λ_=>?_) λq=>absurd nofun q;exact wpAny_bind (wpAny_typeOf hT (wpAny_pure h))
theorem FH{R:Result->Shared->Prop}{d:Addr}{kvs:List (κ × Value)}{ep:Nat}(hh:A.handled=none)(hs:(d == sysModules)=false)(hd:s.heap.DictAt knd d kvs ep)(dN:kvs.length<=sizeLine)(S:Addr)(res:Value)(c₀:Nat)(hS:s.heap.get? S=some { cls:=.type "list",data:=.seq #[] c₀ })
  (hR:∀ h' tk qy c',(∀ b o,b≠S->s.heap.get? b=some o->h'.get? b=some o)->h'.get? S=some { cls:=.type "list",dict:=none,data:=.seq qy c',slots:=#[] }->
   ItemsOf (λi v=>∃ k x,kvs[i]?=some (k,x)/\knd.is k v=true) qy kvs.length->R (.ok (.ret res)) { s with heap:=h',toks:=tk }) :
  wpAny (model prog w) A.in1 (Builtin.List.listExtendWith (.ref S) (.ref d) res)
   (λkO s'=>match kO with|.done f=>R (.ok f) s'|.again c'=>c'.quiet=true/\codeAny (model prog w) A c' R s') (λe s'=>R (.error e) s') s:=by
 have hT:s.TypeIs (.ref d) "dict":=by
  obtain⟨o,es,ho,hx,_⟩:=hd;exact⟨o,ho,hx.1⟩
 have hSd:S≠d:=λe=>by
  obtain⟨o,es,ho,hx,hda,_⟩:=hd;rw[← e,hS]at ho;cases ho;cases hda
 have adR:S<s.heap.objs.size:=Heap.lt_size hS
 have adS:d<s.heap.objs.size:=by
  obtain⟨o,es,ho,_⟩:=hd;exact Heap.lt_size ho
 have hSI:S≠s.heap.objs.size:=kT adR;have hdI:d≠s.heap.objs.size:=kT adS;have W:=(Walks.dictKeys (prog:=prog) (w:=w) (A:=A.in1) (knd:=knd) hh s.heap.objs.size d hdI kvs ep).toS;unfold Builtin.List.listExtendWith;refine wpAny_bind (wpAny_typeOf hT ?_);have h1:Builtin.List.listSameRef (.ref S) (.ref d)=false:=by simp[Builtin.List.listSameRef,hSd]
 have h2:(Value.type "dict" == Value.type "list")=false:=by decide
 have h3:(Value.type "dict" == Value.type "tuple")=false:=by decide
 simp only[h1,h2,h3,Bool.or_false,Bool.false_eq_true,if_false];refine wpAny_bind (wpAny_pyIter_dict hs hd ?_);have uB:(s.heap.push { cls:=.type "dict_keyiterator",data:=.fields #[.ref d,.int 0 0,.int kvs.length 0,.int ep 0] }).IsKeyIter s.heap.objs.size d 0 kvs.length ep:=⟨_,Heap.get?_push_size _ rfl,V⟩;have iP:∀ b o,s.heap.get? b=some o->(s.heap.push { cls:=.type "dict_keyiterator",data:=.fields #[.ref d,.int 0 0,.int kvs.length 0,.int ep 0] }).get? b=some o:=λb o e=>Heap.get?_push_of_some _ e;generalize s.heap.push { cls:=.type "dict_keyiterator",data:=.fields #[.ref d,.int 0 0,.int kvs.length 0,.int ep 0] }=g1 at uB iP
 have hT1:({ s with heap:=g1 }:Shared).TypeIs (.ref d) "dict":=by
  obtain⟨o,ho,hc⟩:=hT;exact⟨o,iP _ _ ho,hc⟩
 refine wpAny_bind (wpAny_holding (LP hT1 ?_));refine wpAny_ite_split (λ_=>?_) λq=>absurd nofun q;refine wpAny_bind (wpAny_rule (wpAny_bind ?_));show wpAny _ A.in1 (updateSeq S (λz=>z.push .none) >>= λ_=>updateSeq S λz=>z.pop) _ _ _;have g1S:=iP _ _ hS;refine wpAny_bind (wpAny_updateSeq g1S rfl ?_);have g2S:=Heap.get?_update_self (Obj.mapSeq λz=>z.push Value.none) g1S rfl;refine wpAny_updateSeq (hz:=by seq_fits) g2S rfl ?_;have g3S:=Heap.get?_update_self (Obj.mapSeq λz=>z.pop) g2S rfl
 have M4:∀ b o,b≠S->g1.get? b=some o->((g1.update S (Obj.mapSeq λz=>z.push Value.none)).update S (Obj.mapSeq λz=>z.pop)).get? b=some o:=λb o nb e =>
  (Heap.get?_update_other _ _ nb.symm).trans ((Heap.get?_update_other _ _ nb.symm).trans e)
 refine wpAny_pure ⟨plainId_quiet F.plain_extend_loop _,codeAny_extend_loopS W dN S (λhm=>?_) res kvs.length 0 _ #[] _ rfl (Nat.zero_le _) ⟨uB.at λo e=>M4 _ o hSI.symm e,(hd.at' λo e=>M4 _ o hSd.symm (iP _ o e))⟩ g3S (ItemsOf.nil _) λs' qy c' hm hS' cY=>?_⟩
 ·rcases List.mem_cons.mp hm with e|e
  ·exact hSI e
  ·exact hSd (List.mem_singleton.mp e)
 ·rw[Moved.eq_with hm];refine hR s'.heap s'.toks qy c' (λb o nb e=>hm.heap b o (λq=>?_) (M4 b o nb (iP b o e))) hS' cY;rcases List.mem_cons.mp q with z|z
  ·exact nb z
  ·exact absurd (Heap.lt_size e) (by rw[List.mem_singleton.mp z];exact Nat.lt_irrefl _)
theorem zW{Q:Value->Shared->Prop}{d:Addr}{kvs:List (κ × Value)}{ep:Nat}(hh:A.handled=none)(hs:(d == sysModules)=false)(hd:s.heap.DictAt knd d kvs ep)(dN:kvs.length<=sizeLine)
  (hQ:∀ h' tk qy c',(∀ b o,s.heap.get? b=some o->h'.get? b=some o)->h'.get? s.heap.objs.size=some { cls:=.type "list",dict:=none,data:=.seq qy c',slots:=#[] }->
   ItemsOf (λi v=>∃ k x,kvs[i]?=some (k,x)/\knd.is k v=true) qy kvs.length->Q (.ref s.heap.objs.size) { s with heap:=h',toks:=tk }) :
  wpAny (model prog w) A (call (.type "list") [.ref d]) Q E s:=by
 refine callType_codes (Q₁:=λu s1=>u=.ref s.heap.objs.size/\s1={ s with heap:=s.heap.push { cls:=.type "list",data:=.seq #[] } }) F.called_list (F.typeCall_list_1 _) F.entry_list_init (code_list_new _ ⟨V⟩) λu s1 e1=>?_;obtain⟨rfl,rfl⟩:=e1;have hS:(s.heap.push { cls:=.type "list",data:=.seq #[] }).get? s.heap.objs.size=some { cls:=.type "list",data:=.seq #[] }:=Heap.get?_push_size _ rfl;have LQ:(s.heap.push { cls:=.type "list",data:=.seq #[] }).DictAt knd d kvs ep:=hd.at' λo e=>Heap.get?_push_of_some _ e
 have Ux:d≠s.heap.objs.size:=by
  obtain⟨o,es,ho,_⟩:=hd;exact kT (Heap.lt_size ho)
 exists ⟨_,hS,rfl⟩,F.args_list_init_2 _ _;show wpAny _ _ (do let old ← Builtin.List.listItems (.ref s.heap.objs.size);Builtin.List.listUpdate (.ref s.heap.objs.size) (λ_=>#[]);letGo old.toList.reverse;Builtin.List.listExtendWith (.ref s.heap.objs.size) (.ref d) .none) _ _ _;refine wpAny_bind ?_;unfold Builtin.List.listItems;refine wpAny_bind (wpAny_seqItems hS rfl (wpAny_pure ?_));show wpAny _ _ (updateSeq s.heap.objs.size (λ_=>#[]) >>= λ_=>letGo (#[]:Array Value).toList.reverse >>= λ_=>Builtin.List.listExtendWith (.ref s.heap.objs.size) (.ref d) .none) _ _ _;refine wpAny_bind (wpAny_updateSeq hS rfl ?_);have Wj:=Heap.get?_update_self (Obj.mapSeq λ_=>(#[]:Array Value)) hS rfl;have M4:∀ b o,b≠s.heap.objs.size->(s.heap.push { cls:=.type "list",data:=.seq #[] }).get? b=some o->((s.heap.push { cls:=.type "list",data:=.seq #[] }).update s.heap.objs.size (Obj.mapSeq λ_=>(#[]:Array Value))).get? b=some o:=λb o nb e=>(Heap.get?_update_other _ _ nb.symm).trans e;refine wpAny_bind (wpAny_letGo ?_);refine FH (A:=A.in1) (knd:=knd) hh hs (LQ.at' λo e=>M4 _ o Ux e) dN s.heap.objs.size .none _ Wj λh' tk qy c' hk hS' cY=>?_;exact⟨rfl,hQ h' tk qy c' (λb o e=>hk b o (kT (Heap.lt_size e)) (M4 b o (kT (Heap.lt_size e)) (Heap.get?_push_of_some _ e))) hS' cY⟩
end
theorem ID{X:Cx}(hc:X.calm=true):kq X (.type "list") (λxs H Q=>∃ (d:Addr) (kvs:List (fj × V)),xs=[.ref d]/\H d=some (.dK kvs)/\∀ l,H l=none->Q (.ref l) (aP H l (.lst (kvs.map λp=>kV p.1)))):=by
 intro ao s σ H xs us Q I r h;obtain⟨d,kvs,rfl,hd,q⟩:=h;obtain⟨u,rfl,rx⟩:=r.one;cases (show u=Value.ref d from rx);obtain⟨hz,hs,vs,kv,o,es,ep,ho,hx⟩:=(show fV X.prog X.w H s.heap d (.dK kvs) from I.hok d _ hd);have len:=kv.length;refine zW (I.ok.hd hc) hs ⟨o,es,ho,hx⟩ ∅ λh' tk qy c' hk hS cY=>?_;refine⟨.ref s.heap.objs.size,_,I.laid (o:=.lst (kvs.map λp=>kV p.1)) (t':=tk) hk (gg _) ⟨by rw[cD];exact hz,qy.toList,c',?_,by simpa using hS⟩,rfl,q _ (I.hok.fresh (gg _))⟩
 have key:∀ (kvs:List (fj × V)) (vs:List (fj × Value)) (us:List Value),KV kvs vs->us.length=vs.length->(∀ (j:Nat) (v:Value),us[j]?=some v->∃ k x,vs[j]?=some (k,x)/\zh k v=true)->cy (kvs.map λp=>kV p.1) us:=by
  intro kvs
  induction kvs with
  | nil =>
   intro vs us kv hl _;cases kv
   cases us with
   | nil=>exact .nil
   | cons=>simp at hl
  | cons p r ih =>
   intro vs us kv hl hp
   cases kv with
   | @cons _ q _ DC h1 h2 =>
   cases us with
   | nil=>simp at hl
   | cons u us =>
    obtain⟨k,x,e1,e2⟩:=hp 0 u rfl;have e3:q=(k,x):=by simpa using e1
    subst e3;refine .cons ?_ (ih DC us h2 (by simpa using hl) λj v e=>?_)
    ·show L2.RelV (kV p.1) u;rw[show p.1=k from h1.1];rcases fk e2 with ⟨i,t,rfl,rfl⟩|⟨i,t,rfl,rfl⟩
     ·exact⟨t,rfl⟩
     ·exact⟨t,rfl⟩
    ·obtain⟨k',x',e4,e5⟩:=hp (j+1) v (by simpa using e);exact⟨k',x',by simpa using e4,e5⟩
 exact key kvs vs qy.toList kv (by simpa using cY.1) λj v e=>cY.2 j v (by simpa using e)
end dh
namespace zX
open Spec Rows L2 dh gv
end zX
namespace gv
open Spec Rows L2 dh dX zX
inductive bU{α β:Type}(R:α->β->Prop):List α->List β->Prop
 | nil:bU R [] []
 | cons {a:α} {b:β} {as:List α} {bs:List β}:R a b->bU R as bs->bU R (a::as) (b::bs)
section
variable {α β:Type} {R R':α->β->Prop} {as:List α} {bs:List β} {a:α} {b:β}
theorem bU.len{as:List α}{bs:List β}(h:bU R as bs):as.length=bs.length:=by
 induction h with
 | nil=>rfl
 | cons _ _ ih=>rw[ny,ny,ih]
theorem bU.get:∀ {as:List α} {bs:List β} {i:Nat},bU R as bs->as[i]?=some a->∃ b,bs[i]?=some b/\R a b
 | _,_,_,.nil,h=>by simp at h
 | _,_,0,.cons r _,h=>by simp at h;subst h;exact⟨Y,r⟩
 | _,_,i+1,.cons _ t,h=>by simp at h;simpa using t.get h
theorem bU.get':∀ {as:List α} {bs:List β} {i:Nat},bU R as bs->bs[i]?=some b->∃ a,as[i]?=some a/\R a b
 | _,_,_,.nil,h=>by simp at h
 | _,_,0,.cons r _,h=>by simp at h;subst h;exact⟨Y,r⟩
 | _,_,i+1,.cons _ t,h=>by simp at h;simpa using t.get' h
theorem bU.snoc{as:List α}{bs:List β}(t:bU R as bs)(h:R a b):bU R (as++[a]) (bs++[b]):=by
 induction t with
 | nil=>exact .cons h .nil
 | cons r _ ih=>exact .cons r ih
theorem bU.mono{as:List α}{bs:List β}(h:∀ a b,R a b->R' a b)(t:bU R as bs):bU R' as bs:=by
 induction t with
 | nil=>exact .nil
 | cons r _ ih=>exact .cons (h _ _ r) ih
theorem bU.set:∀ {as:List α} {bs:List β} (i:Nat),bU R as bs->R a b->bU R (as.set i a) (bs.set i b)
 | _,_,_,.nil,_=>.nil
 | _,_,0,.cons _ t,h=>.cons h t
 | _,_,i+1,.cons r t,h=>.cons r (t.set i h)
theorem bU.split:∀ {as:List α} {bs:List β},bU R as (bs++[b])->∃ QC a,as=QC++[a]/\bU R QC bs/\R a b
 | _,[],.cons r .nil=>⟨[],Y,.nil,r⟩
 | _,c::bs,.cons r t=>by
  obtain⟨QC,a,rfl,t',r'⟩:=t.split;exact⟨_::QC,a,rfl,.cons r t',r'⟩
end
inductive aR where
 | win (n:Int)
 | aK (a b:Int)
def zY:aR->List V
 | .win n=>[.str "win",.int n]
 | .aK a b=>[.str "ink",.int a,.int b]
def cU(H:Hp)(v:V)(it:aR):Prop:=∃ a,v=.ref a/\H a=some (.tup (zY it))
theorem cU.same{H H':Hp}{v:V}{it:aR}(s:aL H H'):cU H v it->cU H' v it:=λ⟨a,e,h⟩=>⟨a,e,s _ _ h⟩
theorem cU.keep{H H':Hp}{v:V}{it:aR}{q:Addr}{xs:List V}(hq:H q=some (.lst xs))(k:cJ q H H'):cU H v it->cU H' v it:=λ⟨a,e,h⟩=>⟨a,e,k a _ h (by
 intro z;rw[z,hq]at h
 cases h)⟩
def bJ(H:Hp)(v:V)(aO:List aR):Prop:=∃ a vs,v=.ref a/\H a=some (.lst vs)/\bU (cU H) vs aO
theorem bJ.same{H H':Hp}{v:V}{aO:List aR}(s:aL H H'):bJ H v aO->bJ H' v aO:=λ⟨a,vs,e,h,t⟩=>⟨a,vs,e,s _ _ h,t.mono λ_ _=>cU.same s⟩
def gp(H:Hp)(r:Addr)(rows:List (List aR)):Prop:=∃ vs,H r=some (.lst vs)/\bU (bJ H) vs rows
theorem gp.same{H H':Hp}{r:Addr}{rows:List (List aR)}(s:aL H H'):gp H r rows->gp H' r rows:=λ⟨vs,h,t⟩=>⟨vs,s _ _ h,t.mono λ_ _=>bJ.same s⟩
theorem cU.eqv{H:Hp}{x y:V}{it:aR}(n:Nat)(h1:cU H x it)(h2:cU H y it):Eqv H (n+2) x y:=by
 obtain⟨a,rfl,e1⟩:=h1;obtain⟨b,rfl,e2⟩:=h2;refine .inr ⟨false,a,b,Z,e1,e2,rfl,λi u v eu ev=>?_⟩;rw[eu]at ev;cases ev
 cases it with
 | win n =>
  match i,eu with
  | 0,e=>cases e;exact .inl ⟨V⟩
  | 1,e=>cases e;exact .inl ⟨V⟩
  | k+2,e=>simp[zY]at e
 | aK p q =>
  match i,eu with
  | 0,e=>cases e;exact .inl ⟨V⟩
  | 1,e=>cases e;exact .inl ⟨V⟩
  | 2,e=>cases e;exact .inl ⟨V⟩
  | k+3,e=>simp[zY]at e
theorem bJ.eqv{H:Hp}{x y:V}{aO:List aR}(n:Nat)(h1:bJ H x aO)(h2:bJ H y aO):Eqv H (n+3) x y:=by
 obtain⟨a,vs,rfl,e1,t1⟩:=h1;obtain⟨b,us,rfl,e2,t2⟩:=h2;refine .inr ⟨true,a,b,Z,e1,e2,by rw[t1.len,t2.len],λi u v eu ev=>?_⟩;obtain⟨z,ez,r1⟩:=t1.get eu;obtain⟨z',ez',r2⟩:=t2.get ev;rw[ez]at ez';cases ez';exact r1.eqv n r2
def bw(t:List aR)(e:Int):List aR :=
 if e<0 then t++[.win (-1-e)] else
 match t.getLast? with
 | some (.aK a b)=>if b=e then t.dropLast++[.aK a (e+1)] else t++[.aK e (e+1)]
 | _=>t++[.aK e (e+1)]
def aI(es:List Int):List aR:=es.foldl bw []
def fc(aO:List aR):List Int:=aO.filterMap λit=>match it with|.win n=>some n|.aK _ _=>none
def dQ(es:List Int):List Int:=es.filterMap λe=>if e<0 then some (-1-e) else none
theorem gh(a b:List aR):fc (a++b)=fc a++fc b:=by unfold fc;rw[List.filterMap_append]
theorem LR(t:List aR)(e:Int):fc (bw t e)=fc t++(if e<0 then [-1-e] else []):=by
 unfold bw;by_cases h:e<0
 ·rw[if_pos h,if_pos h,gh];rfl
 ·rw[if_neg h,if_neg h,gE];rcases oZ t with rfl|⟨t',l,rfl⟩
  ·rfl
  ·rw[nA,sG]
   cases l with
   | win n=>simp[gh,fc]
   | aK a b =>
    show fc (if b=e then (t'++[aR.aK a b]).dropLast++[.aK a (e+1)] else (t'++[aR.aK a b])++[.aK e (e+1)])=_;by_cases hb:b=e
    ·rw[if_pos hb,List.dropLast_concat,gh,gh];rfl
    ·rw[if_neg hb,gh,gh];simp[fc]
theorem LS(es:List Int):∀ t:List aR,fc (es.foldl bw t)=fc t++dQ es:=by
 induction es with
 | nil=>intro t;simp[dQ]
 | cons e es ih =>
  intro t;rw[l6,ih,LR,nB];unfold dQ;rw[List.filterMap_cons];by_cases h:e<0
  ·simp[h]
  ·simp[h]
theorem iE(es:List Int):fc (aI es)=dQ es:=by
 unfold aI;rw[LS];rfl
theorem b8{es:List Int}{y:Int}:y∈dQ es↔0<=y/\-1-y∈es:=by
 unfold dQ;rw[List.mem_filterMap];constructor
 ·rintro⟨e,he,h⟩;by_cases h0:e<0
  ·rw[if_pos h0]at h;cases h;exact⟨Q,by rw[show -1-(-1-e)=e by lia];exact he⟩
  ·rw[if_neg h0]at h;cases h
 ·rintro⟨h0,h1⟩;exists -1-y,h1;rw[if_pos ∅];congr 1;lia
theorem oO(es:List Int):∀ t:List aR,(es.foldl bw t).length<=t.length+es.length:=by
 induction es with
 | nil=>intro t;simp
 | cons e es ih =>
  intro t;rw[l6];have z:=ih (bw t e)
  have z2:(bw t e).length<=t.length+1:=by
   unfold bw;split
   ·simp
   ·split
    ·split
     ·rw[dz,List.length_dropLast,iy];lia
     ·simp
    ·simp
  rw[ny];lia
def jV(rows:cS)(x y:Int):Prop:=0<=x/\∃ es,rows[x.toNat]?=some es/\y∈dQ es
inductive Reach(E:Int->Int->Prop)(s:Int):Int->Prop
 | one {y:Int}:E s y->Reach E s y
 | step {y z:Int}:Reach E s y->E y z->Reach E s z
theorem Reach.closed{E:Int->Int->Prop}{s:Int}{S:Int->Prop}(h0:∀ y,E s y->S y)(h1:∀ x y,S x->E x y->S y):∀ {g:Int},Reach E s g->S g
 | _,.one h=>h0 _ h
 | _,.step r h=>h1 _ _ (Reach.closed h0 h1 r) h
def gr(rows:cS):Prop:=∀ es∈rows,∀ y∈dQ es,y<rows.length
theorem gr.EK{rows:cS}(h:gr rows){x y:Int}(e:jV rows x y):0<=y/\y<rows.length:=by
 obtain⟨_,es,he,hy⟩:=e;exact⟨(b8.mp hy).1,h es (nF he) y hy⟩
def cnt(n:Nat)(p:Nat->Bool):Nat:=((List.range n).filter p).length
theorem Oo(n:Nat){p q:Nat->Bool}(h:∀ i,i<n->p i=q i):cnt n p=cnt n q:=by
 unfold cnt;rw[List.filter_congr λi hi=>h i (List.mem_range.mp hi)]
theorem vD(n:Nat)(p:Nat->Bool):cnt (n+1) p=cnt n p+(if p n=true then 1 else 0):=by
 unfold cnt;rw[List.range_succ,List.filter_append,dz];congr 1;by_cases h:p n=true
 ·rw[if_pos h];simp[h]
 ·rw[if_neg h];simp[h]
theorem vE(j:Nat):∀ (n:Nat) {p q:Nat->Bool},j<n->p j=true->(∀ i,q i=(p i&&decide (i≠j)))->cnt n q+1=cnt n p
 | 0,_,_,h,_,_=>by lia
 | n+1,p,q,h,hj,hq=>by
  rw[vD,vD];by_cases e:j=n
  ·subst e
   have z:cnt j q=cnt j p:=Oo j λi hi=>by
    rw[hq i];have:decide (i≠j)=true:=by simp;lia
    rw[this,Bool.and_true]
   have z2:q j=false:=by rw[hq j];simp
   rw[z,z2,if_pos hj];simp
  ·have ih:=vE j n (p:=p) (q:=q) ∅ hj hq
   have z:q n=p n:=by
    rw[hq n];have:decide (n≠j)=true:=by simp;lia
    rw[this,Bool.and_true]
   rw[z];lia
theorem zZ(n:Nat)(p:Nat->Bool):cnt n p<=n:=by
 unfold cnt;have:=List.length_filter_le p (List.range n);rw[List.length_range]at this;exact this
def fN(av:Addr->Prop)(H:Hp)(v:V)(es:List Int):Prop:=∃ a,v=.ref a/\¬ av a/\H a=some (.lst (es.map V.int))
def gW(av:Addr->Prop)(H:Hp)(r:Addr)(rows:cS):Prop:=∃ vs,H r=some (.lst vs)/\bU (fN av H) vs rows
theorem fN.keep{av:Addr->Prop}{H H':Hp}{v:V}{es:List Int}(k:∀ a o,¬ av a->H a=some o->H' a=some o):fN av H v es->fN av H' v es:=λ⟨a,e,n,h⟩=>⟨a,e,n,k a _ n h⟩
theorem gW.same{av:Addr->Prop}{H H':Hp}{r:Addr}{rows:cS}(s:aL H H'):gW av H r rows->gW av H' r rows:=λ⟨vs,h,t⟩=>⟨vs,s _ _ h,t.mono λ_ _=>fN.keep λa o _ e=>s a o e⟩
theorem gW.get{av:Addr->Prop}{H:Hp}{r:Addr}{rows:cS}{i:Nat}{es:List Int}(h:gW av H r rows)(e:rows[i]?=some es):∃ vs a,H r=some (.lst vs)/\vs[i]?=some (.ref a)/\H a=some (.lst (es.map V.int))/\vs.length=rows.length:=by
 obtain⟨vs,hr,t⟩:=h;obtain⟨v,ev,a,rfl,_,ha⟩:=t.get' e;exact⟨vs,a,hr,ev,ha,t.len⟩
theorem Kq(x:Int)(xs:List Int):inV (.int x) (xs.map V.int)=decide (x∈xs):=by
 unfold inV
 induction xs with
 | nil=>rfl
 | cons y ys ih =>
  rw[jy,List.any_cons,ih];show ((y == x) || decide (x∈ys))=_;by_cases h:y=x
  ·simp[h]
  ·have h2:¬ x=y:=λz=>h z.symm;simp[h,h2]
theorem CF(xs:List Int):(xs.map V.int).all vj=true:=by
 rw[List.all_eq_true];intro v hv;obtain⟨i,_,rfl⟩:=List.mem_map.mp hv;rfl
def DE(rows:cS):Prop:=∃ rk:Int->Nat,(∀ x,rk x<=40)/\∀ x y,jV rows x y->rk y<rk x
theorem fN.at{av:Addr->Prop}{H:Hp}{v:V}{es:List Int}{q:Addr}(o:HO)(hq:av q):fN av H v es->fN av (aP H q o) v es:=fN.keep λa u n e=>by
 rw[aN (λz=>n (by rw[z];exact hq))];exact e
theorem fN.same{av:Addr->Prop}{H H':Hp}{v:V}{es:List Int}(s:aL H H'):fN av H v es->fN av H' v es:=fN.keep λa u _ e=>s a u e
def seen(kvs:List (fj × V))(x:Int):Prop:=(cE kvs (Sum.inl x)).isSome=true
def oA(n:Nat)(kvs:List (fj × V)):Nat:=cnt n λi=>(cE kvs (Sum.inl (i:Int))).isNone
theorem FI{kvs:List (fj × V)}{y x:Int}(v:V):seen (eT kvs (Sum.inl y) v) x↔x=y\/seen kvs x:=by
 unfold seen;rw[kC];by_cases h:x=y
 ·rw[if_pos (by rw[h]),h];simp
 ·rw[if_neg (λz=>h (Sum.inl.inj z))];simp[h]
theorem FJ{n:Nat}{kvs:List (fj × V)}{y:Int}(v:V)(h0:0<=y)(h1:y<n)(hn:cE kvs (Sum.inl y)=none):oA n (eT kvs (Sum.inl y) v)+1=oA n kvs:=by
 refine vE y.toNat n ∅ ?_ λi=>?_
 ·show (cE kvs (Sum.inl (y.toNat:Int))).isNone=true;rw[show ((y.toNat:Nat):Int)=y by lia,hn];rfl
 ·show (cE (eT kvs (Sum.inl y) v) (Sum.inl (i:Int))).isNone=((cE kvs (Sum.inl (i:Int))).isNone&&decide (i≠y.toNat));rw[kC];by_cases h:(i:Int)=y
  ·rw[if_pos (by rw[h])];have:decide (i≠y.toNat)=false:=by simp;lia
   rw[this,Bool.and_false];rfl
  ·rw[if_neg (λz=>h (Sum.inl.inj z))];have:decide (i≠y.toNat)=true:=by simp;lia
   rw[this,Bool.and_true]
theorem Kr(lo:Int)(n:Nat):(run lo n).length=n:=by
 induction n generalizing lo with
 | zero=>rfl
 | succ n ih=>rw[run,ny,ih]
theorem Oq:∀ {n:Nat} {lo y:Int},y∈run lo n->lo<=y/\y<lo+n
 | 0,_,_,h=>by cases h
 | n+1,lo,y,h=>by
  rcases List.mem_cons.mp h with rfl|z
  ·lia
  ·have:=Oq z;lia
theorem bU.new{H2:Hp}{q t:Addr}{vs:List V}{aO:List aR}{it:aR}{ys:List V}(d9:H2 q=some (.lst ys))(hb:bU (cU H2) vs aO)(ht:H2 t=none)(zs:List V) :
  bU (cU (aP (aP H2 t (.tup (zY it))) q (.lst zs))) (vs++[.ref t]) (aO++[it]):=by
 have VY:q≠t:=aB d9 ht;have s1:aL H2 (aP H2 t (.tup (zY it))):=ak ht _;refine bU.snoc (hb.mono λv i h=>(h.same s1).keep (s1 _ _ d9) (aM q _ _)) ⟨t,rfl,?_⟩;rw[aN VY.symm,af]
end gv
namespace Wk
open Spec Rows L2 dh
section
variable {M:Model} {A:Around} {E:Value->Shared->Prop} {s:Shared}
theorem DF{a b:Value}{Q:Value->Shared->Prop}(ha:s.TypeIs a "list")(hb:s.TypeIs b "list")(hc:wpAny M A (call (.builtin "list.__iadd__") [a,b]) Q E s):wpAny M A (inplaceOp .Add a b) Q E s:=by
 unfold inplaceOp;refine wpAny_holding ?_;have hq:isSeqSlot (some (.builtin "list.__iadd__"))=true:=by decide +kernel
 have hfi:fillsInplaceSlot (.type "list") "add" (Operator.Add == .Add)=pure false:=by
  unfold fillsInplaceSlot;show (typeLookup (.type "list") (dunderI "add") >>= λfi=>pure (fi.isSome&&!isSeqSlot fi))=pure false;rw[PySem.F.slot_list_iadd.lookup,pure_bind,hq];rfl
 have hsi:seqSlot? (.type "list") (dunderI "add")=pure (some (.builtin "list.__iadd__")):=PySem.seqSlot_of PySem.F.slot_list_iadd.lookup hq;refine wpAny_bind (wpAny_typeOf ha (wpAny_bind (wpAny_of_eq hfi ?_)));show wpAny M A (if false=true then _ else _) Q E s;rw[if_neg gB];refine wpAny_bind (binaryOp1_none (nm:="add") ha hb PySem.noFill_list_add ?_);refine wpAny_bind (wpAny_of_eq hsi ?_);exact wpAny_bind (wpAny_rule hc)
end
section
variable {X:Cx}
def Uy:V->V->Hp->VK->Prop:=λx y H Q=>∃ l b xs zs,x=.ref l/\y=.ref b/\H l=some (.lst xs)/\H b=some (.lst zs)/\xs.length+zs.length<=sizeLine/\Q (.ref l) (aP H l (.lst (xs++zs)))
theorem xh:PIp X .Add Uy:=by
 intro ao s σ H x y v u Q I rx ry h;obtain⟨l,b,xs,zs,rfl,rfl,hH,hB,hz,q⟩:=h;cases rx;cases ry;obtain⟨z,aO,n,r,hl,e⟩:=I.Be hH;obtain⟨z2,its2,n2,r2,Cb,e2⟩:=I.Be hB;have hsz:aO.toArray.size+its2.toArray.size<=sizeLine:=by rw[gJ,gJ];lia
 have E6:¬ (!aO.toArray.isEmpty&&Builtin.List.listTooLong (aO.toArray.size+its2.toArray.size))=true:=by
  rw[zA hsz,Bool.and_false];exact gB
 refine DF ⟨_,e,rfl⟩ ⟨_,e2,rfl⟩ ?_;refine call_meets PySem.F.slot_list_iadd ⟨_,e,rfl⟩ PySem.F.entry_list_iadd (PySem.F.args_list_iadd_2 _ _) (AutoSeq1.list___iadd___list_list_0 l aO.toArray n b its2.toArray n2 E6 (by rw[gJ];lia) ∅) ⟨e,e2,?_⟩;refine⟨.ref l,_,I.NH (its':=aO++its2) hH e (by simp) (r.append r2) ?_,rfl,q⟩;rw[dz];lia
section
variable {N:List Str} {scope:Scope} {cl:List (Str × Addr)} {C:Addr} {s₀:Shared} {H₀:Hp} {ex:List Addr} {pn:List (Addr × Obj)}
theorem IE:kq (jk X N scope cl C s₀ H₀ ex pn) (.type "list") (Y0 X.K):=fX
end
theorem IF:YS X .Add Uy:=λao s σ H x y u v Q I rx ry h=>xh ao s σ H x y u v Q I rx ry h
end
theorem RQ{p q A B T:Prop} [Decidable p] [Decidable q] (w:p->(if decide q=true then A else B)->T) (h1:p/\q->A) (h2:¬ (p/\q)->B):if decide p=true then T else (if false=true then A else B):=by
 by_cases a:p
 ·rw[if_pos (decide_eq_true a)];by_cases b:q
  ·exact w a (by rw[if_pos (decide_eq_true b)];exact h1 ⟨a,b⟩)
  ·exact w a (by rw[decide_eq_false b,if_neg gB];exact h2 λz=>b z.2)
 ·rw[decide_eq_false a,if_neg gB,if_neg gB];exact h2 λz=>a z.1
theorem Ot{p q A B T:Prop} [Decidable p] [Decidable q] (w:(if decide q=true then A else B)->T) (h1:p/\q->A) (h2:¬ (p/\q)->B):if decide p=true then T else (if false=true then A else B):=RQ (λ_=>w) h1 h2
end Wk
namespace gv
open Spec Rows L2 dh dX zX
def lK(r:Row):Prop:=∀ p∈r,0<=p.1/\p.1<=p.2
def jG(r:Row):Prop:=∀ p∈r,0<=p.1/\p.1<p.2
theorem CG{t:Row}{s e:Int}(h:jG t)(h0:0<=s)(h1:s<e):jG (iP t s e):=by
 have add:jG (t++[(s,e)]):=λp hp=>by
  rcases List.mem_append.mp hp with z|z
  ·exact h p z
  ·rw[List.mem_singleton.mp z];exact⟨h0,h1⟩
 unfold iP;rcases oZ t with rfl|⟨t',l,rfl⟩
 ·exact add
 ·rw[nA]at h add ⊢;rw[sG];show jG (if l.2=s then (t'++[l]).dropLast++[(l.1,e)] else t'++[l]++[(s,e)]);by_cases c:l.2=s
  ·rw[if_pos c,List.dropLast_concat];intro p hp;rcases List.mem_append.mp hp with z|z
   ·exact h p (tT _ z)
   ·have:=h l (by simp);rw[List.mem_singleton.mp z];exact⟨this.1,by show l.1<e;lia⟩
  ·rw[if_neg c];exact add
theorem oQ{r:Row}(h:lK r):jG (cz r):=by
 have z:∀ (r t:Row),lK r->jG t->jG (r.foldl ef t):=by
  intro r
  induction r with
  | nil=>intro t _ g;exact g
  | cons p r ih =>
   intro t h g;rw[l6];refine ih _ (λq hq=>h q (nu _ hq)) ?_;unfold ef;have hp:=h p (by simp);by_cases c:p.1=p.2
   ·rw[if_pos c];exact g
   ·rw[if_neg c];exact CG g hp.1 ∅
 exact z r [] h λp hp=>by cases hp
theorem CH{ns:List Int}(h:∀ x∈ns,0<=x):jG (cL ns):=by
 have z:∀ (ns:List Int) (t:Row),(∀ x∈ns,0<=x)->jG t->jG (ns.foldl (λt n=>iP t n (n+1)) t):=by
  intro ns
  induction ns with
  | nil=>intro t _ g;exact g
  | cons n ns ih =>
   intro t h g;rw[l6];exact ih _ (λx hx=>h x (nu _ hx)) (CG g (h n (by simp)) ∅)
 exact z ns [] h λp hp=>by cases hp
theorem jG.nn{r:Row}(h:jG r):lK r:=λp hp=>⟨(h p hp).1,by have:=(h p hp).2;lia⟩
theorem Aa(a b:Int):∀ (r:Row) (h:Int),lK r->lK (kQ a b h r)
 | [],_,_=>λp hp=>by cases hp
 | q::r,h,g=>by
  intro p hp;rw[kQ]at hp;rcases List.mem_append.mp hp with z|z
  ·have gq:=g q (by simp);refine⟨?_,Og a b h q p z⟩;unfold Of at z;split at z
   ·rw[List.mem_singleton.mp z];show 0<=q.1+max (a-h) 0;lia
   ·cases z
  ·exact Aa a b r _ (λx hx=>g x (nu _ hx)) p z
end gv
namespace RS
open Spec Rows L2 dh
end RS
namespace gv
open Spec Rows L2 dh dX zX RS
end gv
namespace gv
open Spec Rows L2 dh dX zX RS
theorem Ks:∀ {n:Nat} {s x:Int},x∈run s n↔s<=x/\x<s+n
 | 0,s,x=>by simp[run]
 | n+1,s,x=>by
  rw[run,List.mem_cons,Ks];lia
def Ris(r:Row):Prop:=r.Pairwise (λp q=>p.2<q.1)/\∀ p∈r,p.1<p.2
end gv
namespace gv
open Spec Rows L2 dh dX zX RS
end gv
namespace gv
open Spec Rows L2 dh dX zX Wk
structure cV(K:PySem.W.Frag)(C:Addr)(m dc:Str)(st:Stmt)(ps:List Str)(a:Addr)(d:FuncData):Prop where
 F:NP K m dc st a d
 b:Binds K d ps []
 mt:HP K C m a
structure ClsAt(K:PySem.W.Frag)(mg:Str->Option Value)(x:Str)(C fi:Addr):Prop where
 cl:JS K C
 m:mg x=some (.ref C)
 X4:Mk K C fi
structure Wl(K:PySem.W.Frag)(mg:Str->Option Value)(x:Str)(C:Addr):Prop where
 m:mg x=some (.ref C)
 x:PySem.W.excIn K C [.type "ValueError",.type "Exception",.type "BaseException",.type "object"] "ValueError.__new__"=true
 h:PySem.W.exmOne K (.ref C) (.ref C)=some true
end gv
namespace gv
open L2 dh dX
section
variable {p:List Value->Prop}
theorem us0(h:p []):∀ us:List Value,us.length=0->p us:=λus e=>by rw[List.length_eq_zero_iff.mp e];exact h
theorem X5{n:Nat}(h:∀ a (us:List Value),us.length=n->p (a::us)):∀ us:List Value,us.length=n+1->p us:=by
 intro us e
 cases us with
 | nil=>cases e
 | cons a us=>exact h a us (Nat.succ.inj e)
theorem us1(h:∀ a,p [a]):∀ us:List Value,us.length=1->p us:=X5 λa=>us0 (p:=λus=>p (a::us)) (h a)
theorem us2(h:∀ a b,p [a,b]):∀ us:List Value,us.length=2->p us:=X5 λa=>us1 (p:=λus=>p (a::us)) (h a)
theorem us3(h:∀ a b c,p [a,b,c]):∀ us:List Value,us.length=3->p us:=X5 λa=>us2 (p:=λus=>p (a::us)) (h a)
theorem us4(h:∀ a b c d,p [a,b,c,d]):∀ us:List Value,us.length=4->p us:=X5 λa=>us3 (p:=λus=>p (a::us)) (h a)
theorem us5(h:∀ a b c d e,p [a,b,c,d,e]):∀ us:List Value,us.length=5->p us:=X5 λa=>us4 (p:=λus=>p (a::us)) (h a)
theorem us6(h:∀ a b c d e f,p [a,b,c,d,e,f]):∀ us:List Value,us.length=6->p us:=X5 λa=>us5 (p:=λus=>p (a::us)) (h a)
end
section
variable {K:PySem.W.Frag} {mg:Str->Option Value} {h:Heap} {x dc:Str} {st:Stmt} {f C:Addr} {ps:List Str}
theorem DI.d(q:DI K x st f)(X:K.In h)(G:h.Ns mainGlobals mg)(b:∀ (kV wJ pm:Value) (an:Option Addr) (cN ct:Value) (us:List Value),us.length=ps.length->bindArgs (fnOf x x (nK st) (iA st) (aA st) .none kV wJ pm an cN ct) ⟨us,[]⟩=pure (ps.zip us):=by intro _ _ _ _ _ _;first|exact us1 λ_=>rfl|exact us2 λ_ _=>rfl|exact us3 λ_ _ _=>rfl|exact us4 λ_ _ _ _=>rfl|exact us5 λ_ _ _ _ _=>rfl|exact us6 λ_ _ _ _ _ _=>rfl|exact us0 rfl):∃ fd,b9 K mg x st ps f fd:=by
 obtain⟨a,l,c,k⟩:=q;have F:=Ic l c k;exact⟨_,F,F.binds b,mg_of X G a⟩
theorem MI.d(q:MI K C x dc st f)(b:∀ (kV wJ pm:Value) (an:Option Addr) (cN ct:Value) (us:List Value),us.length=ps.length->bindArgs (fnOf x dc (nK st) (iA st) (aA st) .none kV wJ pm an cN ct) ⟨us,[]⟩=pure (ps.zip us):=by intro _ _ _ _ _ _;first|exact us1 λ_=>rfl|exact us2 λ_ _=>rfl|exact us3 λ_ _ _=>rfl|exact us4 λ_ _ _ _=>rfl|exact us5 λ_ _ _ _ _=>rfl|exact us6 λ_ _ _ _ _ _=>rfl|exact us0 rfl):∃ fd,cV K C x dc st ps f fd:=by
 obtain⟨a,i,l,c,k⟩:=q;have F:=Ic l c k;exact⟨_,F,F.binds b,⟨a,i,k⟩⟩
theorem CI.d(q:CI K x C)(X:K.In h)(G:h.Ns mainGlobals mg)(m:HP K C "__init__" fi):ClsAt K mg x C fi:=by
 obtain⟨a,pg,hd,po,sa,mk,kc⟩:=q;obtain⟨a1,i1,k1⟩:=m;exact⟨⟨pg,hd,po,sa⟩,mg_of X G a,⟨mk,a1,i1,kc⟩⟩
theorem XI.d(q:XI K x C)(X:K.In h)(G:h.Ns mainGlobals mg):Wl K mg x C:=by
 obtain⟨a,b,c⟩:=q;exact⟨mg_of X G a,b,c⟩
end
end gv
namespace dh
open Spec Rows L2
theorem uF{α β:Type}{F:α->β->Prop}:∀ {xs:List α} {ys:List β} {i:Nat} {x:α},Paired F xs ys->xs[i]?=some x->∃ y,ys[i]?=some y/\F x y
 | _,_,_,_,.nil,e=>by simp at e
 | _,_,0,_,.cons r _,e=>by simp at e;subst e;exact⟨Y,r⟩
 | _,_,i+1,x,.cons _ t,e=>by
  obtain⟨y,h1,h2⟩:=uF (i:=i) (x:=x) t (by simpa using e);exact⟨y,by simpa using h1,h2⟩
theorem yg{α β:Type}{F:α->β->Prop}:∀ {xs:List α} {ys:List β} {i:Nat} {y:β},Paired F xs ys->ys[i]?=some y->∃ x,xs[i]?=some x/\F x y
 | _,_,_,_,.nil,e=>by simp at e
 | _,_,0,_,.cons r _,e=>by simp at e;subst e;exact⟨Y,r⟩
 | _,_,i+1,y,.cons _ t,e=>by
  obtain⟨x,h1,h2⟩:=yg (i:=i) (y:=y) t (by simpa using e);exact⟨x,by simpa using h1,h2⟩
section
variable {X:Cx} {N:List Str} {scope:Scope} {cl:List (Str × Addr)} {C:Addr} {s₀:Shared} {H₀:Hp} {ex:List Addr} {pn:List (Addr × Obj)} {e:Expr} {ta:TE} {f:Str} {pos:Pos}
theorem Ku(he:PE (jk X N scope cl C s₀ H₀ ex pn) e ta)(hb:attributeBase e f (jk X N scope cl C s₀ H₀ ex pn).env (eval e (jk X N scope cl C s₀ H₀ ex pn).env)=eval e (jk X N scope cl C s₀ H₀ ex pn).env):PE (jk X N scope cl C s₀ H₀ ex pn) (.Attribute e f pos) (YR X.K ta f):=cP he hb
end
end dh
namespace dh
open Spec Rows L2 gv zX
def Wm(td ty tx:TE):TE:=fun σ H Q=>td σ H λx H1=>∃ a,x=.ref a/\IsD H1 a/\ty σ H1 λy H2=>tx σ H2 λz H3=>∃ kvs k,H3 a=some (.dK kvs)/\y=kV k/\kvs.length<sizeLine/\
 (∀ v,cE kvs k=some v->Q v H3)/\(cE kvs k=none->Q z (aP H3 a (.dK (eT kvs k z))))
theorem Ou{X:Cx}{o e f:Expr}{td ty tx:TE}(ho:PE X o td)(he:PE X e ty)(hf:PE X f tx)(m:M2 X o "setdefault" jg e f nC):PE X (.Call (.Attribute o "setdefault" jg) [e,f] [] nC) (Wm td ty tx):=by
 intro ao s σ H Q I h;refine wpAny_Call_method m.zt m.few m.line PySem.F.plainAttrs_dict PySem.F.slot_dict_setdefault PySem.F.type_dict_setdefault (cX (ho ao s σ H _ I h) λu s1 Bc=>?_);obtain⟨x,H1,I1,rx,a,ex,d,q1⟩:=Bc;subst ex;obtain rfl:u=Value.ref a:=rx;obtain⟨t1,t2,_⟩:=Wi I1 d;exists t1,t2;rw[m.trees]
 refine Calls.callWith_builtin rfl (Calls.evalArgs_plain (Calls.spliced_cons (cX (he ao s1 σ H1 _ I1 q1) λiv s2 ⟨y,H2,I2,ry,q2⟩ =>
  Calls.spliced_cons (cX (hf ao s2 σ H2 _ I2 q2) λfv s3 ⟨z,H3,I3,rz,kvs,k,ea,ey,dN,g1,g2⟩=>Calls.spliced_nil ?_))))
 subst ey;obtain⟨hz,hd,vs,yb,dd⟩:=Oh I3.hok ea;have len:=yb.length;refine call_meetsIn PySem.F.slot_dict_setdefault dd.typeIs PySem.F.entry_dict_setdefault (PySem.F.args_dict_setdefault_3 _ _ _) (kt_meets_setdefault (fT X.prog X.w) a (Ct ry) hd fv) ⟨vs,dd,Q,λv hv=>?_,λhn h' QB hs=>?_⟩
 ·have r:=yb.val k;rw[hv]at r
  cases ev:cE kvs k with
  | none=>rw[ev]at r;exact (show False from r).elim
  | some w =>
   rw[ev]at r;exact⟨w,H3,I3.tok _,r,g1 w ev⟩
 ·have r:=yb.val k;rw[hn]at r
  cases ev:cE kvs k with
  | some w=>rw[ev]at r;exact (show False from r).elim
  | none =>
   have hl:(eT kvs k z).length<=sizeLine:=by have:=gU kvs k z;lia
   have Kg:∃ q,h'.get? a=some q:=let ⟨q,P,hq,_⟩:=QB;⟨q,hq⟩;exact⟨z,_,y9 I3 (by rw[ea];exact True.intro) hs Kg (Iw hl hd (yb.put k rz) QB),rz,g2 ev⟩
end dh
namespace dh
open Spec Rows L2
end dh
namespace dh
open Spec Rows L2 gv zX
end dh
namespace dX
open Spec Rows PySem.W L2
section
variable {X:Cx} {o:Expr} {m:Str} {ps:List Str} {f C:Addr} {fd:FuncData} {k:Nat} {sp:Sp} {e:Expr} {es:List Expr} {ta:TE} {t:TA} {jg pos:Pos} {E:XK} {pl:Sem Bool}
theorem Ov{σ:L2.St}{H:Hp}{s:Shared}{Q:VK}{E':Value->Shared->Prop}(ho:PE X.EJ o ta)(c:JS X.K C)(hm:HP X.K C m f)(hb:Binds X.K fd ps [])(G:bf X.prog X.w X.K X.mg X.zt (Fp X.prog X.w) k f fd ps sp)(hr:gQ k X.A)(ha:PA X.EJ (e::es) t)(I:Inv X ao σ H s)
  (h:ta σ H λx H1=>∃ a dx fs,x=.ref a/\H1 a=some (.ins C dx fs)/\fs.lookup m=none/\t σ H1 λvs H2=>sp (x::vs) H2 Q E) (hE:∀ H1 s1 e s',Inv X ao σ H1 s1->Fp X.prog X.w X.stack H1 s1 E e s'->E' e s')
  (he:starEach (e::es) X.env=(false,eval e X.env)::starEach es X.env) (yY:(backTo pos (starEach es X.env)).any (·.1)=false)
  (ht:eval (.Call (.Attribute o m jg) (e::es) [] pos) X.env=(do
   let ov ← eval o X.env
   standAt jg.atName
   let (f,first) ← holding [ov] (getMethod ov m pl)
   callWith pos f first (backTo pos (starEach (e::es) X.env)) (backToKw pos (keywordEach [] X.env)))):wpAny (model X.prog X.w) X.A (eval (.Call (.Attribute o m jg) (e::es) [] pos) X.env) (EP X ao σ Q) E' s:=by
 refine methodCall_KW (pl:=pl) (wpAny_mono (ho ao s σ H _ (I.wC _) h) (λu s1 ⟨x,H1,I1,rx,a,dx,fs,ex,ea,l,q⟩=>?_) λ_ _ z=>False.elim z) ht;subst ex;obtain rfl:u=Value.ref a:=rx;have I1:=I1.kU;refine t6 I1 ea c hm l ?_
 refine callWith_K (first:=[.ref a]) (h₀:=X.zt) I.ok.mod.XU hm.kp (wpAny_mono (ha pos ao s1 σ H1 _ (I1.wC _) q) (λus s2 ⟨vs,H2,I2,r,q2⟩=>⟨I2.kU.uZ,?_⟩) λ_ _ z=>False.elim z) he yY
 have I2:=I2.kU;have r2:cy (.ref a::vs) (Value.ref a::us):=.cons rfl r;have hl:((Value.ref a::us)++[]).length=ps.length:=by rw[gE,← r2.length];exact G.len _ _ _ _ q2
 have B:=hb s2 (.ref a::us) I2.uZ hl;rw[gE]at B;refine wpAny_call (codeAny_mono (G.run X.A X.stack s2 H2 ⟨.ref a::us,[]⟩ (.ref a::us) (.ref a::vs) Q E hr I2.Vw B r2 q2) λr s' hq=>?_)
 cases r with
 | error e=>exact hE H2 s2 e s' I2 hq
 | ok fl =>
  cases fl with
  | ret u=>exact I2.after hq
  | next=>exact False.elim hq
  | brk=>exact False.elim hq
  | cont=>exact False.elim hq
end
end dX
namespace dh
open Spec Rows L2 dX
def zb(c:Nat):V:=.str ⟨#[c]⟩
def eX(cs:List Nat):Str:=⟨cs.toArray⟩
theorem uG(x:Str):eX x.cps.toList=x:=by cases x;rfl
theorem pX(cs:List Nat):(eX cs).length=cs.length:=by show (cs.toArray).size=_;simp
theorem RT{a b:List Nat}(h:eX a=eX b):a=b:=by
 have e:=congrArg (λx:Str=>x.cps.toList) h;simpa [eX] using e
theorem Kv:∀ {cs:List Nat} {us:List Value},cy (cs.map zb) us->StrsAre us (cs.map λc=>(⟨#[c]⟩:Str))
 | [],_,.nil=>.nil
 | c::cs,_,.cons ⟨t,e⟩ r=>by
  subst e;exact .cons _ t (Kv r)
theorem IG(cs:List Nat):Txt.join (Str.ofString "") (cs.map λc=>(⟨#[c]⟩:Str))=eX cs:=by
 have e:Txt.join (Str.ofString "") (cs.map λc=>(⟨#[c]⟩:Str))=Str.join (Str.ofString "") (cs.map λc=>(⟨#[c]⟩:Str)):=by
  have z:=join_plain_closes (Str.ofString "") (cs.map λc=>(⟨#[c]⟩:Str));exact beq_iff_eq.mp z
 rw[e];have em:(Str.ofString "")=(⟨#[]⟩:Str):=by decide +kernel
 rw[em];clear e em
 induction cs with
 | nil=>rfl
 | cons c cs ih =>
  cases cs with
  | nil=>rfl
  | cons d cs =>
   rw[jy]at ih;have s:Str.join ⟨#[]⟩ ((c::d::cs).map λc=>(⟨#[c]⟩:Str))=Str.append (Str.append ⟨#[c]⟩ ⟨#[]⟩) (Str.join ⟨#[]⟩ ((⟨#[d]⟩:Str)::cs.map λc=>(⟨#[c]⟩:Str))):=rfl;rw[s,ih];show (⟨(#[c]++#[])++(d::cs).toArray⟩:Str)=⟨(c::d::cs).toArray⟩;simp
theorem CJ:∀ cs:List Nat,(cs.map ((λx:Str=>x.length) ∘ λc=>(⟨#[c]⟩:Str))).sum=cs.length
 | []=>rfl
 | c::cs=>by rw[jy,List.sum_cons,CJ cs,ny];show 1+_=_;lia
theorem all_range:∀ bs:List Bool,(List.range bs.length).all (λi=>bs.getD i false)=bs.all id
 | []=>rfl
 | b::bs=>by
  rw[ny,List.range_succ_eq_map,List.all_cons,List.all_map,List.all_cons,← all_range bs];rfl
section
variable {X:Cx}
theorem Bh(hc:X.calm=true):kq X (.type "list") (λxs H Q=>∃ cs:List Nat,xs=[.str (eX cs)]/\cs.length<=sizeLine/\∀ l,H l=none->Q (.ref l) (aP H l (.lst (cs.map zb)))):=by
 intro ao s σ H xs us Q I r h;obtain⟨cs,rfl,hz,q⟩:=h;obtain⟨u,rfl,t,rfl⟩:=r.one;refine call_list_str (I.ok.hd hc) (eX cs) t (hn:=by show cs.toArray.size<=_;simpa using hz) λh' tk qy c' hk hS cY=>?_;refine⟨.ref s.heap.objs.size,_,I.laid (o:=.lst (cs.map zb)) (t':=tk) hk (gg _) ⟨by rw[cD];exact hz,qy.toList,c',?_,by simpa using hS⟩,rfl,q _ (I.hok.fresh (gg _))⟩
 have key:∀ (cs:List Nat) (us:List Value),us.length=cs.length->(∀ (j:Nat) (v:Value),us[j]?=some v->∃ c u,cs[j]?=some c/\v=Value.str ⟨#[c]⟩ u)->cy (cs.map zb) us:=by
  intro cs
  induction cs with
  | nil=>intro us hl _;cases us with
   | nil=>exact .nil
   | cons=>simp at hl
  | cons c cs ih=>intro us hl hp;cases us with
   | nil=>simp at hl
   | cons u us =>
    obtain⟨c',t',e1,e2⟩:=hp 0 u rfl;refine .cons ?_ (ih us (by simpa using hl) λj v e=>by simpa using hp (j+1) v (by simpa using e));have:c=c':=by simpa using e1
    subst this;exact⟨t',e2⟩
 refine key cs qy.toList (by have:=cY.1;simpa [eX] using this) λj v e=>?_;obtain⟨c,u,e1,e2⟩:=cY.2 j v (by simpa using e);exact⟨c,u,by simpa [eX] using e1,e2⟩
theorem Ab:XY X "str.join" (λx xs H Q=>∃ (l:Addr) (cs:List Nat),x=.str ""/\xs=[.ref l]/\H l=some (.lst (cs.map zb))/\cs.length<=1000000/\Q (.str (eX cs)) H):=by
 intro ao s σ H x xs v us Q I rx rs h;obtain⟨l,cs,rfl,rfl,hl,hz,q⟩:=h;obtain⟨t,rfl⟩:=rx;obtain⟨u,rfl,ru⟩:=rs.one;cases (show u=Value.ref l from ru);obtain⟨aO,rv,pl,_⟩:=I.list (bL.of (K:=X.K) hl);refine join_list pl.isList (Kv rv) ?_ λt' k=>?_
 ·rw[List.map_map];have e1:(Str.ofString "").length=0:=by decide +kernel
  have e2:=CJ cs;rw[e1,e2];lia
 ·rw[IG];exact⟨.str (eX cs),H,I.tok _,⟨t',rfl⟩,q⟩
theorem LV(hc:X.calm=true):kq X (.builtin "all") (λxs H Q=>∃ (p:Addr) (bs:List Bool),xs=[.ref p]/\bL X.K H p (bs.map V.bl)/\Q (.bl (bs.all id)) H):=by
 intro ao s σ H xs us Q I r h;obtain⟨p,bs,rfl,hq,q⟩:=h;obtain⟨u,rfl,rx⟩:=r.one;cases (show u=Value.ref p from rx);obtain⟨aO,rv,pl,hz⟩:=I.list hq;have len:=rv.length;rw[cD]at len;have yY:=pl.isList
 have plt:p<s.heap.objs.size:=by
  obtain⟨o,ho,_⟩:=yY;exact Heap.lt_size ho
 refine call_all_walk (wpAny_pyIter_list yY ?_);refine⟨s.heap.objs.size,[s.heap.objs.size,p],[s.heap.objs.size],aO.toArray.size,P,λi=>bs.getD i false,rfl,Walks.list (A:=X.A.in1) (I.ok.hd hc) s.heap.objs.size p (kT plt) aO.toArray,⟨⟨_,Heap.get?_push_size _ rfl,V⟩,yY.at λo e=>Heap.get?_push_of_some _ e⟩,λi v s' Q' E' hP hQ=>?_,λh' tk hk=>?_⟩
 ·have hv:aO[i]?=some v:=by simpa using hP
  obtain⟨x,ex,er⟩:=yg rv hv;rw[nG]at ex;obtain⟨b,eb,rfl⟩:=Option.map_eq_some_iff.mp ex;cases (show v=Value.bool b from er);refine wpAny_truthy_bool ?_;have e:bs.getD i false=b:=by rw[List.getD_eq_getElem?_getD,eb];rfl
  have hQ':Q' (bs.getD i false) s':=hQ;rw[e]at hQ';exact hQ'
 ·have e:(List.range aO.toArray.size).all (λi=>bs.getD i false)=bs.all id:=by
   rw[gJ,← len];exact all_range bs
  rw[e];exact⟨.bl (bs.all id),H,I.kept λb o e=>hk b o (λz=>by rw[List.mem_singleton.mp z]at e;exact absurd (Heap.lt_size e) (Nat.lt_irrefl _)) (Heap.get?_push_of_some _ e),rfl,q⟩
def Ow(r r' r2:R2)(ta tb tc td:TE):TE:=fun σ H Q=>ta σ H λx H1=>tb σ H1 λy H2=>r x y H2 λz H3=>∃ k,z=.bl k/\
 (if k=true then tc σ H3 λu H4=>r' y u H4 λz' H5=>∃ k',z'=.bl k'/\(if k'=true then td σ H5 λv H6=>r2 u v H6 Q else Q (.bl false) H5) else Q (.bl false) H3)
theorem LW{op Hj Wc:CmpOp}{r r' r2:R2}{a b c d:Expr}{ta tb tc td:TE}(ho:u7 X (compareOp op) r)(Lf:u7 X (compareOp Hj) r')(ho2:u7 X (compareOp Wc) r2)(ha:PE X a ta)(hb:PE X b tb)(hc:PE X c tc)(hd:PE X d td)
  (hm:lastMarks [op,Hj,Wc] [b,c,d]=false:=by with_unfolding_all rfl):PE X (.Compare a [op,Hj,Wc] [b,c,d] pos) (Ow r r' r2 ta tb tc td):=by
 intro ao s σ H Q I h
 refine Compare_chain (cX (ha ao s σ H _ I h) λv s1 ⟨x,H1,I1,r1,q1⟩=>chain_link (cX (hb ao s1 σ H1 _ I1 q1) λu s2 ⟨y,H2,I2,X3,q2⟩ =>
  cX (ho ao s2 σ H2 x y v u _ I2 r1 X3 q2) λz s3 ⟨z',H3,I3,r3,k,e,q3⟩=>?_)) hm
 subst e;cases r3;refine wpAny_truthy_bool ?_
 cases k with
 | false=>exact ite_ff ⟨.bl false,H3,I3,rfl,q3⟩
 | true =>
  refine ite_tt (chain_link (cX (hc ao s3 σ H3 _ I3 q3) λv4 s4 ⟨x4,H4,I4,r4,q4⟩=>cX (Lf ao s4 σ H4 y x4 u v4 _ I4 X3 r4 q4) λz5 s5 EX=>?_));obtain⟨x5,H5,I5,r5,k5,e5,q5⟩:=EX;subst e5;cases r5;refine wpAny_truthy_bool ?_
  cases k5 with
  | false=>exact ite_ff ⟨.bl false,H5,I5,rfl,q5⟩
  | true=>exact ite_tt (chain_last (cX (hd ao s5 σ H5 _ I5 q5) λv6 s6 ⟨x6,H6,I6,r6,q6⟩=>ho2 ao s6 σ H6 x4 x6 v4 v6 Q I6 r4 r6 q6))
end
def Its(cs:List Nat):It:=⟨λi _=>i<cs.length,λi H x H'=>H'=H/\∃ c,cs[i]?=some c/\x=zb c,λi _=>i=cs.length⟩
theorem FL{P:Program}{w:World}{K:PySem.W.Frag}{it:Addr}{cs:List Nat}{t:Tok}{ty:String}(W:∀ A':Around,A'.handled=none->Walks P w A' it [it] [it] (eX cs).cps.size (SignAt (eX cs)) (λi h=>h.IsStrIter it ty (eX cs) t i))
  (hs:∀ (A:Around) (i:Nat) (s:Shared) (Q:Value->Shared->Prop) (E:Value->Shared->Prop),s.heap.IsStrIter it ty (eX cs) t i->Q (.ref it) s->wpAny (model P w) A (pyIter (.ref it)) Q E s)
  (hn:["enumerate","zip","dict_itemiterator","dict_reverseitemiterator","odict_iterator","itertools.zip_longest","itertools.pairwise"].contains ty=false):HJ P w K tg (Its cs) [it] it (λi h=>h.IsStrIter it ty (eX cs) t i) where
 mem:=by simp
 obj:=λi h st b hb=>by
  have e:b=it:=by simpa using hb
  subst e;obtain⟨o,e,c,d⟩:=st;exact⟨o,e,λv z=>by rw[d]at z;cases z⟩
 keep:=λi h h' st k=>by
  obtain⟨o,e,r⟩:=st;exact⟨o,k it (by simp) o e,r⟩
 item:=by
  intro X hP hw hK hc i ao s σ H E I hf st hg;subst hP hw hK;obtain⟨f0,f1,f2,f3,f4,f5⟩:=hf it (by simp)
  have hi:i<(eX cs).cps.size:=by
   show i<cs.toArray.size;rw[gJ];exact hg
  refine (W X.A (I.ok.hd hc)).item i s _ _ hi st λv h' tk hv Dg kk=>?_;obtain⟨c,u,ec,rfl⟩:=hv;have I1:Inv X ao σ H { s with heap:=h',toks:=tk }:=I.turned (λb o hb e=>kk b o (by simpa using hb) e) f0 f1 f3 f4 f5;obtain⟨oi,ei,ci,di⟩:=id Dg;exact⟨Y,E2 (s:={ s with heap:=h',toks:=tk }) ei ci di hn ⟨zb c,H,I1,⟨u,rfl⟩,⟨rfl,c,by simpa [eX] using ec,rfl⟩,Dg,λb hb=>(hf b hb).1⟩⟩
 done:=by
  intro X hP hw hK hc i ao s σ H E I hf st hg;subst hP hw hK;obtain⟨f0,f1,f2,f3,f4,f5⟩:=hf it (by simp)
  have e:i=(eX cs).cps.size:=by
   show i=cs.toArray.size;rw[gJ];exact hg
  rw[e]at st;exact (W X.A (I.ok.hd hc)).done s _ _ st λh' tk kk=>⟨rfl,I.turned (λb o hb e=>kk b o (by simpa using hb) e) f0 f1 f3 f4 f5⟩
 self:=hs
def ad1(tl:TE):TI:=fun σ H R=>tl σ H λx H1=>∃ cs,x=.str (eX cs)/\R (Its cs) H1
theorem Wn{X:Cx}{tl:TE}(hl:PE X l tl):PI X tg l (ad1 tl):=by
 intro ao s σ H R I h;refine cX (hl ao s σ H _ I h) λv s1 Df=>?_;obtain⟨x,H1,I1,r1,q1⟩:=Df;obtain⟨cs,e,q⟩:=q1;subst e;obtain⟨t,rfl⟩:=r1
 have fp:∀ b∈[s1.heap.objs.size],pC X ao H1 b:=λb hb=>by
  have e:b=s1.heap.objs.size:=by simpa using hb
  subst e;exact I1.Lh (gg _) (I1.hok.fresh (gg _))
 cases ha:(eX cs).cps.all (·<128) with
 | true=>exact wpAny_pyIter_ascii ha ⟨s1.heap.objs.size,[s1.heap.objs.size],P,H1,rfl,I1.kept (t':=s1.toks) λb o e=>Heap.get?_push_of_some _ e,FL (t:=t) (λA' hA=>Walks.strAscii hA _ _ t) (λ_ _ _ _ _ st h=>wpAny_pyIter_striter_ascii st h) (by decide),⟨_,Heap.get?_push_size _ rfl,V⟩,fp,q⟩
 | false=>exact wpAny_pyIter_wide ha ⟨s1.heap.objs.size,[s1.heap.objs.size],P,H1,rfl,I1.kept (t':=s1.toks) λb o e=>Heap.get?_push_of_some _ e,FL (t:=t) (λA' hA=>Walks.strWide hA _ _ t) (λ_ _ _ _ _ st h=>wpAny_pyIter_striter_wide st h) (by decide),⟨_,Heap.get?_push_size _ rfl,V⟩,fp,q⟩
theorem LX{cs:List Nat}{g:TG}{tt:TT}{te:TE}{σ0:L2.St}{H:Hp}{Q:VK}(Pv:Nat->L2.St->Hp->Prop)(h0:Pv 0 σ0 H)
  (hs:∀ (i:Nat) c σ H,cs[i]?=some c->Pv i σ H->g (zb c) σ H fun σ2 H2=>tt σ2 H2 λb H3=>if b=true then te σ2 H3 λv H4=>∃ ys,H4 acc=some (.lst ys)/\ys.length<sizeLine/\Pv (i+1) σ2 (aP H4 acc (.lst (ys++[v]))) else Pv (i+1) σ2 H3)
  (hd:∀ σ H,Pv cs.length σ H->Q (.ref acc) H):za (Its cs) acc g tt te σ0 H Q:=by
 refine⟨λi m σ H=>m=cs.length-i/\i<=cs.length/\Pv i σ H,⟨cs.length,by simp,Nat.zero_le _,h0⟩,?_⟩;rintro i m σ H ⟨rfl,hi,p⟩;by_cases qF:i<cs.length
 ·refine .inr ⟨qF,Pv (i+1),fun σ' H' p'=>⟨cs.length-(i+1),Q,rfl,qF,p'⟩,λx H' y=>?_⟩;obtain⟨e,c,y,ex⟩:=y;subst e ex;exact hs i c σ _ y p
 ·have e:i=cs.length:=by lia
  subst e;exact .inl ⟨rfl,hd σ H p⟩
end dh
namespace dh
open Spec Rows L2 dX gv
section
variable {X:Cx}
theorem DG(a b:List Nat):eX a++eX b=eX (a++b):=by
 show (⟨a.toArray++b.toArray⟩:Str)=⟨(a++b).toArray⟩;simp
end
end dh
namespace uH
end uH
namespace uH
open Spec Rows
end uH
namespace uH
open Spec Rows
end uH
namespace uH
open Spec Rows
end uH
namespace uH
open Spec Rows
end uH
namespace uH
open Spec Rows
end uH
namespace uH
open Spec Rows
end uH
namespace uH
open Spec Rows L2
end uH
namespace iQ
open Spec Rows L2 dh Builtin Builtin.Str
theorem vF(cs:List Nat):(eX cs).cps.toList=cs:=by simp[eX]
def jn(c:Nat):iY->List Nat
 | []=>[]
 | [x]=>x
 | x::y::r=>x++c::jn c (y::r)
theorem Ox(c:Nat):∀ ps:iY,Str.join ⟨#[c]⟩ (ps.map eX)=eX (jn c ps)
 | []=>rfl
 | [x]=>rfl
 | x::y::r=>by
  show eX x++⟨#[c]⟩++Str.join ⟨#[c]⟩ ((y::r).map eX)=_;rw[Ox c (y::r)];refine ext_toList ?_;rw[vF];show ((eX x).cps++#[c]++(eX (jn c (y::r))).cps).toList=_;rw[Array.toList_append,Array.toList_append,vF,vF];simp[jn]
end iQ
namespace iQ
open Spec Rows L2 dh Builtin Builtin.Str
section
variable {X:Cx}
theorem CK:∀ {ys:List Str} {us:List Value},cy (ys.map V.str) us->StrsAre us ys
 | [],_,.nil=>.nil
 | _::_,_,.cons r t=>by
  obtain⟨t',rfl⟩:=r;exact .cons _ t' (CK t)
theorem FN:XY X "str.join" (λx xs H Q=>∃ (l:Addr) (c:Nat) (ps:iY),x=.str ⟨#[c]⟩/\xs=[.ref l]/\H l=some (.lst (ps.map λw=>V.str (eX w)))/\(ps.map List.length).sum+ps.length<=1000000/\Q (.str (eX (jn c ps))) H):=by
 intro ao s σ H x xs v us Q I rx rs h;obtain⟨l,c,ps,rfl,rfl,hl,hz,q⟩:=h;obtain⟨t,rfl⟩:=rx;obtain⟨u,rfl,ru⟩:=rs.one;cases (show u=Value.ref l from ru);obtain⟨aO,rv,pl,_⟩:=I.list (bL.of (K:=X.K) hl);have rv':cy ((ps.map eX).map V.str) aO:=by rw[List.map_map];exact rv
 refine join_list pl.isList (CK rv') ?_ λt' k=>?_
 ·rw[List.map_map,cD];have e1:(⟨#[c]⟩:Str).length=1:=rfl;have e2:ps.map ((λx:Str=>x.length) ∘ eX)=ps.map List.length:=List.map_congr_left λp _=>pX p;rw[e1,e2];lia
 ·have e:Txt.join ⟨#[c]⟩ (ps.map eX)=eX (jn c ps):=by
   show glued _ _=_;rw[StrLaws.glued_eq_join,Ox]
  rw[e];exact⟨.str (eX (jn c ps)),H,I.tok _,⟨t',rfl⟩,q⟩
abbrev TJV:=L2.St->Hp->Str->(Str->Hp->Prop)->Prop
def X6(X:Cx)(es:List Expr)(m:Nat)(t:TJV):Prop:=∀ (ao:List (Addr × Obj)) (s:Shared) (σ:L2.St) (H:Hp) (wm:Str) (Q:Str->Hp->Prop),L2.Inv X ao σ H s->t σ H wm Q->wm.length+m<=1000000->
 wpAny (model X.prog X.w) X.A (joinParts wm (evalEach es X.env)) (λu s'=>∃ x tk H',u=.str x tk/\L2.Inv X ao σ H' s'/\Q x H') X.xe s
theorem RU:X6 X [] 0 (λ_ H wm Q=>Q wm H):=λao s σ H wm Q I h hl =>
 joinParts_nil ⟨wm,_,H,rfl,I.tok _,h⟩ (gM (Nat.lt_of_le_of_lt hl (by decide)))
theorem RV{x:Str}{j:Nat}{es:List Expr}{m:Nat}{t:TJV}(h:X6 X es m t):X6 X (.Constant (.str x) j pos::es) (x.length+m) (fun σ H wm Q=>t σ H (wm++x) Q):=by
 intro ao s σ H wm Q I q hl;refine joinParts_consE (joinParts_cons (Calls.Constant_str ?_));have z:=dX.yZ (y:=x) hl (gg _);exact⟨z.1,h ao _ σ H _ Q (I.tok _) q z.2⟩
theorem Kw{e:Expr}{te:TE}{es:List Expr}{m:Nat}{t:TJV}(he:PE X e te)(h:X6 X es m t):X6 X (.FormattedValue e (-1) none pos::es) (1921+m) (fun σ H wm Q=>te σ H λv H1=>∃ i:Int,v=.int i/\i.natAbs.log2<1920/\t σ H1 (wm++Str.ofString (toString i)) Q):=by
 intro ao s σ H wm Q I q hl;refine joinParts_consE (joinParts_cons (FormattedValue_plain (cX (he ao s σ H _ I q) λv s1 Bb=>?_)));obtain⟨x,H1,I1,r1,i,e1,hi,q1⟩:=Bb;subst e1;obtain⟨tk,rfl⟩:=r1;refine formatField_int_small hi ?_;have z:=dX.yZ (y:=Str.ofString (toString i)) hl (int_text_len_1921 hi);exact⟨z.1,h ao _ σ H1 _ Q (I1.tok _) q1 z.2⟩
theorem Oz{qJ:List Expr}{m:Nat}{t:TJV}(h:X6 X (v1::v2::qJ) m t)(hm:m<=1000000:=by decide +kernel):PE X (.JoinedStr (v1::v2::qJ) pos) (fun σ H Q=>t σ H Str.empty λx H1=>Q (.str x) H1):=by
 intro ao s σ H Q I q;refine JoinedStr_many (cX (h ao s σ H Str.empty _ I q (by show 0+m<=_;lia)) λu s1 EW=>?_);obtain⟨x,tk,H1,e,I1,q1⟩:=EW;subst e;exact⟨.str x,H1,I1,⟨Y⟩,q1⟩
end
end iQ
namespace iQ
open Spec Rows L2 dh Builtin Builtin.Str
end iQ
namespace iQ
open Spec Rows L2 dh Builtin Builtin.Str gv
def dg(n:Int):List Nat:=(Nat.toDigits 10 n.toNat).map Char.toNat
theorem zc{n:Int}(h:0<=n):Str.ofString (toString n)=eX (dg n):=by
 refine ext_toList ?_;rw[vF];obtain⟨m,rfl⟩:∃ m:Nat,n=(m:Int):=⟨n.toNat,Q⟩;exact PySem.W.KIN.signs_num m
theorem II{n:Int}(h0:0<=n)(h1:n<10^60):(dg n).length<=60:=by
 have:=toString_length_le h0 (k:=60) (by decide) h1;rw[zc h0,pX]at this;exact this
end iQ
namespace OA
open Spec Rows PySem.W L2 dh dX
end OA
namespace OA
open Spec Rows PySem.W L2 dh dX
end OA
namespace iQ
open Spec Rows L2 dh Builtin Builtin.Str gv
end iQ
namespace OA
open Spec Rows PySem.W L2 dh dX
end OA
namespace FO
open Spec Rows L2 dh dX gv
end FO
namespace FO
open Spec Rows L2 dh dX gv PySem.W
section
variable {X:Cx}
theorem ZH{e:Expr}{te:TE}(he:PE X e te):PE X (.JoinedStr [.FormattedValue e (-1) none pos] iz) (fun σ H Q=>te σ H λv H1=>(∃ i:Int,v=.int i/\i.natAbs.log2<1920/\Q (.str (Str.ofString (toString i))) H1)\/∃ cs:List Nat,v=.str (eX cs)/\cs.length<=100000/\Q (.str (eX cs)) H1):=by
 intro ao s σ H Q I q;refine JoinedStr_one (FormattedValue_plain (cX (he ao s σ H _ I q) λv s1 Bc=>?_));obtain⟨x,H1,I1,r1,h1⟩:=Bc;rcases h1 with ⟨i,rfl,hi,q1⟩|⟨cs,rfl,hc,q1⟩
 ·obtain⟨tk,rfl⟩:=r1;exact formatField_int_small hi ⟨.str _,H1,I1.tok _,⟨Y⟩,q1⟩
 ·obtain⟨tk,rfl⟩:=r1;exact formatField_str (λt' k=>⟨.str _,H1,I1.tok _,⟨Y⟩,q1⟩) (by rw[pX];exact iJ hc (by decide))
end
end FO
namespace FO
open Spec Rows L2 dh dX gv iQ Builtin Builtin.Str
end FO
namespace FO
open Spec Rows L2 dh Builtin Builtin.Str gv
end FO
namespace dX
open Spec Rows PySem.W L2
structure Hd where
 y:Str
 C:Addr
 b0:Stmt
 bs:List Stmt
 np:Pos
 hp:Pos
 t:TS
abbrev Hd.st(h:Hd):ExceptHandler:=.ExceptHandler (some (.Name h.y h.np)) none (h.b0::h.bs) h.hp
structure Hd.Ok(X:Cx)(h:Hd):Prop where
 m:X.mg h.y=some (.ref h.C)
 g:Gl X h.y
 d:(h.y == ("__debug__":Str))=false
 b:∀ a,EI (Wb X a) (h.b0::h.bs) h.t
def OB(K:PySem.W.Frag)(c:Value):List Hd->Ends->L2.St->Hp->Prop
 | [],_,_,_=>False
 | h::r,D,σ,H=>(exmOne K c (.ref h.C)=some true/\h.t D σ H)\/(exmOne K c (.ref h.C)=some false/\OB K c r D σ H)
section
variable {X:Cx} {ao:List (Addr × Obj)} {σ:L2.St} {H:Hp} {s:Shared} {a:Addr}
theorem RW{hs:List Hd}{D:Ends}{e:Value}{s':Shared}(ve:X.stack=X.env::X.zn)(hf:X.env.frame=some X.env.locals)(ok:∀ h∈hs,h.Ok X)(I:Inv X ao σ H s)(h:Fp X.prog X.w X.stack H s (λc _ H2=>OB X.K c hs D σ H2) e s') :
  wpAny (model X.prog X.w) X.A (noteFrame e X.env) (λ_ s₂=>wpAny (model X.prog X.w) X.A (setFlight e none) (λ_ s₃=>wpAny (model X.prog X.w) X.A (handleBy e X.env (hs.map Hd.st)) (SP X ao D) X.xe s₃) X.xe s₂) X.xe s':=by
 obtain⟨a,T,c,a0,H2,rfl,⟨os,bare⟩,u,hok,F,q⟩:=h;have I1:Inv X ao σ H2 s':=I.ET (ch:=[]) os u hok bare (λb z=>absurd z (by simp));have G0:=zQ F I1.stack
 have G0':Heap.FlyingW (hideAll s'.heap (a::T::qE X.stack)) (X.env::X.zn) a c a0 s'.heap:=by
  have z:=G0;rw[ve]at z;rw[ve];exact z
 refine wpAny_looks_onW (I.ok.frames.trans (by rw[ve])) hf G0' λh4 ad2 k4=>wpAny_landsW ad2 λh5 fl5 k5=>?_;have I5:Inv X ao σ H2 { s' with heap:=h5 }:=Fq I os bare u hok F fl5 (k4.trans k5);obtain⟨ob,hob,hcl⟩:=fl5.there;have LT:Looks (model X.prog X.w) h5 (typeOf (.ref a)) c:=hcl ▸ (Looks.ld hob).andThen .now;clear G0 G0'
 induction hs with
 | nil=>exact False.elim q
 | cons h r ih =>
  have o:=ok h tU;refine wpAny_handleBy_cons (codeAny_handlers_test (rO (X:=Wb X a) (inH I5 a) o.g o.m ?_ o.d)) (by intro z;cases z);rcases q with ⟨hx,q⟩|⟨hn,q⟩
  ·refine (exm_one (M:=model X.prog X.w) I5.uZ LT hx).here ?_;refine codeAny_handlers_suite (lands_againW fl5 λh6 fl6 k6=>?_);have I6:Inv X ao σ H2 { s' with heap:=h6 }:=Fq I os bare u hok F fl6 ((k4.trans k5).trans k6);exact wpAny_mono (o.b a ao _ σ H2 D (inH I6 a) q) (λfl s2 z=>spH I6.ok z) λ_ _ z=>False.elim z
  ·refine (exm_one (M:=model X.prog X.w) I5.uZ LT hn).here ?_;exact ih (λg hg=>ok g (nu _ hg)) q
abbrev ZI:=L2.St->Hp->VK->XK->Prop
def ZJ(X:Cx)(e:Expr)(t:ZI):Prop:=∀ (ao:List (Addr × Obj)) (s:Shared) (σ:L2.St) (H:Hp) (Q:VK) (E:XK),Inv X ao σ H s->t σ H Q E->
 wpAny (model X.prog X.w) X.A (eval e X.env) (EP X ao σ Q) (λe s'=>∃ H1 s1,Inv X ao σ H1 s1/\Fp X.prog X.w X.stack H1 s1 E e s') s
variable {x m:Str} {st:Stmt} {ps:List Str} {f C:Addr} {fd:FuncData} {j k:Nat} {sp:Sp} {e o:Expr} {es:List Expr} {ta:TE} {t:TA} {p jg pos:Pos} {pl:Sem Bool}
theorem Kx(h:PE X.EJ e ta):ZJ X e (fun σ H Q _=>ta σ H Q):=λao s σ H Q E I q =>
 wpAny_mono (h ao s σ H _ (I.wC _) q) (λu s1 ⟨v,H1,I1,r,q1⟩=>⟨v,H1,I1.kU,r,q1⟩) λ_ _ z=>False.elim z
def Wq(C:Addr)(m:Str)(sp:Sp)(ta:TE)(t:TA):ZI:=fun σ H Q E=>ta σ H λx H1=>∃ a dx fs,x=.ref a/\H1 a=some (.ins C dx fs)/\fs.lookup m=none/\t σ H1 λvs H2=>sp (x::vs) H2 Q E
theorem RX(ho:PE X.EJ o ta)(c:JS X.K C)(hm:HP X.K C m f)(hb:Binds X.K fd ps [])(G:bf X.prog X.w X.K X.mg X.zt (Fp X.prog X.w) k f fd ps sp)(hr:gQ k X.A)(ha:PA X.EJ (e::es) t)
  (he:starEach (e::es) X.env=(false,eval e X.env)::starEach es X.env:=by rfl) (yY:(backTo pos (starEach es X.env)).any (·.1)=false:=by rfl)
  (ht:eval (.Call (.Attribute o m jg) (e::es) [] pos) X.env=(do
   let ov ← eval o X.env
   standAt jg.atName
   let (f,first) ← holding [ov] (getMethod ov m pl)
   callWith pos f first (backTo pos (starEach (e::es) X.env)) (backToKw pos (keywordEach [] X.env))):=by rfl):ZJ X (.Call (.Attribute o m jg) (e::es) [] pos) (Wq C m sp ta t):=λao s σ H Q E I q =>
 Ov (pl:=pl) ho c hm hb G hr ha I q (λH1 s1 e s' I1 z=>⟨H1,s1,I1,z⟩) he yY ht
abbrev TSx:=Ends->L2.St->Hp->XK->Prop
abbrev XP(X:Cx)(ao:List (Addr × Obj))(σ:L2.St)(E:XK):Value->Shared->Prop:=λe s'=>∃ H1 s1,Inv X ao σ H1 s1/\Fp X.prog X.w X.stack H1 s1 E e s'
def PSx(X:Cx)(st:Stmt)(t:TSx):Prop:=∀ (ao:List (Addr × Obj)) (s:Shared) (σ:L2.St) (H:Hp) (D:Ends) (E:XK),Inv X ao σ H s->t D σ H E->wpAny (model X.prog X.w) X.A (exec st X.env) (SP X ao D) (XP X ao σ E) s
variable {te:ZI} {i:Nat} {z:Str} {iz:Pos} {c:Expr} {tc:TT} {tx ty:TSx} {a b:Stmt} {hs:List Hd}
def ZK(i:Nat)(te:ZI):TSx:=λD σ H E=>te σ H (λv H1=>D.nx (σ.set i (some v)) H1) E
theorem RY(hN:X.N.Nodup)(hi:X.N[i]?=some z)(hz:Loc X.env.scope z)(he:ZJ X e te)(hs:swapsWith e (some (.Name z iz)) pos.line X.env=pure false:=by rfl)(hf:X.fn z=true\/X.env.scope.names.lookup z=some .local:=by first|exact .inl rfl|exact .inr rfl|assumption) :
  PSx X (.Assign [.Name z iz] e pos) (ZK i te):=by
 intro ao s σ H D E I h;refine wpAny_Assign_Name (cX (he ao s σ H _ E I h) λv s1 ⟨y,H1,I1,r1,q1⟩=>?_) hs;exact vd I1 hN hi hz r1 (λs2 I2=>⟨_,H1,I2,q1⟩) hf
def Uz(K:PySem.W.Frag)(tx:TSx)(hs:List Hd):TS:=λD σ H=>tx D σ H (λc _ H2=>OB K c hs D σ H2)
theorem RZ{h0:Hd}(ha:PSx X a tx)(ok:∀ h∈h0::hs,h.Ok X)(ve:X.stack=X.env::X.zn:=by rfl)(hf:X.env.frame=some X.env.locals:=by rfl) :
  PS X (.Try [a] (h0.st::hs.map Hd.st) [] [] pos) (Uz X.K tx (h0::hs)):=by
 intro ao s σ H D I h;refine wpAny_Try_except (wpAny_execs_cons (wpAny_mono (ha ao s σ H D _ I h) (λf s1 z=>?_) λe s' ⟨H1,s1,I1,z⟩=>?_))
 ·cases f with
  | next=>exact wpAny_execs_nil (wpAny_execs_nil z)
  | brk=>exact z
  | cont=>exact z
  | ret u=>exact z
 ·exact RW ve hf ok I1 z
def PHs(X:Cx)(hl:List ExceptHandler)(hs:List Hd):Prop:=hl=hs.map Hd.st/\∀ h∈hs,h.Ok X
theorem R0:PHs X [] []:=⟨rfl,λ_ z=>by cases z⟩
theorem FP{y:Str}{b0:Stmt}{bs:List Stmt}{np hp:Pos}{tb:TS}{hl:List ExceptHandler}(hm:X.mg y=some (.ref Cy))(hb:∀ a,EI (Wb X a) (b0::bs) tb)(r:PHs X hl hs)(g:Gl X y:=by rfl)(d:(y == ("__debug__":Str))=false:=by decide) :
  PHs X (.ExceptHandler (some (.Name y np)) none (b0::bs) hp::hl) (⟨y,Cy,b0,bs,np,hp,tb⟩::hs):=by
 refine⟨by rw[r.1];rfl,λh m=>?_⟩;rcases List.mem_cons.mp m with z|z
 ·rw[z];exact⟨hm,g,d,hb⟩
 ·exact r.2 h z
theorem Sb{h0:ExceptHandler}{hl:List ExceptHandler}(ha:PSx X a tx)(r:PHs X (h0::hl) hs)(ve:X.stack=X.env::X.zn:=by rfl)(hf:X.env.frame=some X.env.locals:=by rfl):PS X (.Try [a] (h0::hl) [] [] pos) (Uz X.K tx hs):=by
 cases hs with
 | nil=>cases r.1
 | cons g gs =>
  have e:=r.1;rw[jy]at e;rw[e];exact RZ ha r.2 ve hf
theorem rW{y:Str}(d:gv.b9 X.K X.mg x st ps f fd)(hm:X.mg y=some (.ref f))(G:bf X.prog X.w X.K X.mg X.zt cM k f fd ps sp)(hr:gQ j X.A)
  (ha:PA X (e::es) t) (VP:k<=j:=by first|decide|lia) (hg:Gl X y:=by rfl) (HU:(y == ("__debug__":Str))=false:=by decide) (he:starEach (e::es) X.env=(false,eval e X.env)::starEach es X.env:=by rfl)
  (yY:(backTo pos (starEach es X.env)).any (·.1)=false:=by rfl):PE X (.Call (.Name y p) (e::es) [] pos) (JT sp [] E0 t) :=
 JV G (hr.mono VP) hg hm d.F.kp d.b .nil bO ha HU he yY
end
end dX
namespace pY
open Spec Rows PySem.W L2 dh dX
end pY
namespace pY
open Spec Rows PySem.W L2 dh dX
open Builtin Builtin.ObjectAttr
end pY
namespace pY
open Spec Rows PySem.W L2 dh dX
open Builtin Builtin.ObjectAttr
end pY
namespace pY
open Spec Rows PySem.W L2 dh dX
end pY
namespace pY
open Spec Rows PySem.W L2 dh dX
open Builtin Builtin.ObjectAttr
end pY
namespace pY
open Spec Rows PySem.W L2 dh dX
end pY
namespace pY
open Spec Rows PySem.W L2 dh dX
end pY
namespace pY
open Spec Rows PySem.W L2 dh dX
end pY
namespace pY
open Spec Rows PySem.W L2 dh dX
end pY
namespace pY
open Spec Rows PySem.W L2 dh dX
end pY
namespace gv
open Spec Rows L2 dh dX zX
theorem eO{N P:List Str}{sc:Scope}(a:sc.kind=.function:=by rfl)(b:sc.isCoroutine=false:=by rfl)(c:sc.isGenerator=false:=by rfl)(d:N.Nodup:=by decide +kernel)(e:N.take P.length=P:=by rfl)(f:∀ x∈P,sc.names.lookup x=some .local\/sc.names.lookup x=some .cell:=by decide +kernel)(g:∀ y∈sc.names,y.2≠.free:=by decide +kernel):aH N P sc:=⟨a,b,c,d,e,f,g⟩
section
variable {P:Program} {w:World} {K:PySem.W.Frag} {mg:Str->Option Value} {zt:Heap}
theorem eV{x dc:Str}{st:Stmt}{f:Addr}{N ps:List Str}{k:Nat}{sp:Sp}(F:NP K x dc st f fd)(S:aH N ps (aA st))
  (vg:∀ (cN:Value) (A:Around) (zn:List Env) (s:Shared) (H:Hp) (vs:List V) (Q:VK) (E:XK),gQ k (A.deeper (envOfC dc (aA st) s.heap.objs.size f cN))->sp vs H Q E->
   ∃ t,EI (E4 cM P w K mg zt N dc (aA st) f cN A zn s H E).EJ (iA st) t/\t { nx:=λ_ H'=>Q .fH H',rt:=Q } (L2.start N vs) H) (len:∀ vs H Q E,sp vs H Q E->vs.length=ps.length:=by intro _ _ _ _ h;cases h;subst_vars;rfl):bf P w K mg zt cM (k+1) f fd ps sp:=F.ok S len vg
theorem ZL{x dc:Str}{st:Stmt}{f:Addr}{N ps:List Str}{k:Nat}{sp:Sp}(F:NP K x dc st f fd)(S:aH N ps (aA st))
  (vg:∀ (cN:Value) (A:Around) (zn:List Env) (s:Shared) (H:Hp) (vs:List V) (Q:VK) (E:XK),gQ k (A.deeper (envOfC dc (aA st) s.heap.objs.size f cN))->sp vs H Q E->
   ∃ t,EI (LJ P w K mg zt N dc (aA st) f cN A zn s H E) (iA st) t/\t { nx:=λ_ H'=>Q .fH H',rt:=Q } (L2.start N vs) H) (len:∀ vs H Q E,sp vs H Q E->vs.length=ps.length:=by intro _ _ _ _ h;cases h;subst_vars;rfl):bf P w K mg zt (Fp P w) (k+1) f fd ps sp:=okX F S len vg
end
section
variable {X:Cx}
theorem aW{i:Nat}{x:Str}{e:Expr}{te:TE}{pos:Pos}(hN:X.N.Nodup)(he:PE X e te)(hi:X.N[i]?=some x:=by rfl)(hx:Loc X.env.scope x:=by first|exact Or.inl rfl|exact Or.inr rfl)(hs:swapsWith e (some (.Name x iz)) pos.line X.env=pure false:=by rfl)(hf:X.fn x=true\/X.env.scope.names.lookup x=some .local:=by first|exact .inl rfl|exact .inr rfl|assumption) :
  PS X (.Assign [.Name x iz] e pos) (Nh te (sV i)):=Vo hN hi hx he hs hf
theorem cu{i:Nat}{x:Str}(hN:X.N.Nodup)(hi:X.N[i]?=some x:=by rfl)(hx:Loc X.env.scope x:=by first|exact Or.inl rfl|exact Or.inr rfl)(hf:X.fn x=true\/X.env.scope.names.lookup x=some .local:=by first|exact .inl rfl|exact .inr rfl|assumption):PG X (.Name x pos) (sV i):=QX hN hi hx hf
theorem aQ{r:R2}{a b:Expr}{ta tb:TE}(hr:XX X r)(ha:PE X a ta)(hb:PE X b tb)(hs:J3 b:=by exact λ_ _=>rfl):PE X (.Subscript a b pos) (YK r ta tb):=YW hr ha hb hs
theorem gj{o i:Expr}{td ty:TE}(hu:X.A.units+1<cLine)(ho:PE X o td)(hi:PE X i ty)(hs:Wg i:=by exact λ_ _=>rfl):PE X (.Subscript o i pos) (Uv td ty):=RJ hu ho hi hs
theorem eS{e:Expr}{te:TE}{p:Pos}(hm:X.mg "len"=none)(he:PE X e te)(hg:Gl X "len":=by rfl)(ve:starEach [e] X.env=(false,eval e X.env)::starEach [] X.env:=by rfl):PE X (.Call (.Name "len" p) [e] [] pos) (tCB (VE X.K) (Nq te zx)):=cC Dl hg hm PySem.boot_len (aa he ah (hs:=ve)) (by decide) (by decide) ve rfl
variable {CX:MW} {j k:Nat} {f C fi:Addr} {fd:FuncData} {ps:List Str} {sp:Sp} {E:XK} {m cn q:Str} {st:Stmt} {pos jg:Pos} {e o:Expr} {es:List Expr} {ta:TE} {t:TA} {pl:Sem Bool}
theorem cR(he:PE X o ta)(c:ClsAt X.K X.mg cn C fi)(d:cV X.K C m q st ps f fd)(F:bf X.prog X.w X.K X.mg X.zt CX k f fd ps sp)(hr:gQ j X.A)(hx:mq CX X E)(ha:PA X (e::es) t)(VP:k<=j:=by first|decide|lia)
  (ve:starEach (e::es) X.env=(false,eval e X.env)::starEach es X.env:=by rfl) (yY:(backTo pos (starEach es X.env)).any (·.1)=false:=by rfl)
  (ht:eval (.Call (.Attribute o m jg) (e::es) [] pos) X.env=(do
   let ov ← eval o X.env
   standAt jg.atName
   let (f,first) ← holding [ov] (getMethod ov m pl)
   callWith pos f first (backTo pos (starEach (e::es) X.env)) (backToKw pos (keywordEach [] X.env))):=by rfl) :
  PE X (.Call (.Attribute o m jg) (e::es) [] pos) (JU C m sp [] E ta t):=Q5 he c.cl d.mt F (hr.mono VP) d.b .nil hx ha ve yY ht
theorem eU(he:PE X o ta)(c:ClsAt X.K X.mg cn C fi)(d:cV X.K C m q st ps f fd)(F:bf X.prog X.w X.K X.mg X.zt CX k f fd ps sp)(hr:gQ j X.A)(hx:mq CX X E)(VP:k<=j:=by first|decide|lia)
  (ht:eval (.Call (.Attribute o m jg) [] [] pos) X.env=(do
   let ov ← eval o X.env
   standAt jg.atName
   let (f,first) ← holding [ov] (getMethod ov m pl)
   callWith pos f first (backTo pos (starEach [] X.env)) (backToKw pos (keywordEach [] X.env))):=by rfl) :
  PE X (.Call (.Attribute o m jg) [] [] pos) (JU C m sp [] E ta zx):=Nt he c.cl d.mt F (hr.mono VP) d.b .nil hx ht
end
theorem iR:0<=sizeLine:=by decide
theorem jS:1<=sizeLine:=by decide
theorem pZ:2<=sizeLine:=by decide
theorem DH:3<=sizeLine:=by decide
theorem DJ:4<=sizeLine:=by decide
theorem Wr:5<=sizeLine:=by decide
theorem ZM:6<=sizeLine:=by decide
theorem uI{x:V}{r:List V}:qx (x::r) 0=some x:=cQ (j:=0) rfl
theorem vG{x y:V}{r:List V}:qx (x::y::r) 1=some y:=cQ (j:=1) rfl
theorem Bj{x y z:V}{r:List V}:qx (x::y::z::r) 2=some z:=cQ (j:=2) rfl
theorem Bk{x y z u:V}{r:List V}:qx (x::y::z::u::r) 3=some u:=cQ (j:=3) rfl
theorem Sd{x y z u v:V}{r:List V}:qx (x::y::z::u::v::r) 4=some v:=cQ (j:=4) rfl
theorem ZN{x y z u v w:V}{r:List V}:qx (x::y::z::u::v::w::r) 5=some w:=cQ (j:=5) rfl
end gv
set_option Elab.async false
set_option linter.all false
set_option maxRecDepth 100000
namespace gv
open L2 dh dX zX Wk
structure Nms(mg:Str->Option Value):Prop where
 eE:mg "len"=none
 jm:mg "list"=none
 Ky:mg "tuple"=none
 UA:mg "int"=none
 IJ:mg "bool"=none
 UB:mg "str"=none
 jd:mg "range"=none
 ZO:mg "zip"=none
 dF:mg "isinstance"=none
 UC:mg "sum"=none
 Kz:mg "min"=none
 FQ:mg "max"=none
 ZP:mg "all"=none
 oB:∀ f,mg "size"=some (.ref f)->mg "size_spans"=some (.ref f)
 mX:∀ f,mg "shown"=some (.ref f)->mg "shown_weave"=some (.ref f)
section
variable {P:Program} {w:World} {K:PySem.W.Frag} {mg:Str->Option Value} {zt:Heap}
theorem IK:aH ["_law_script"] ["_law_script"] (aA wL):=eO
structure Gbs(mg:Str->Option Value):Prop where
 s:∃ t,mg "MOST_SHEETS"=some (.int 40 t)
 w:∃ t,mg "MOST_WEIGHT"=some (.int 200 t)
 h:∃ t,mg "HIDDEN"=some (.str "#" t)
structure Ds(K:PySem.W.Frag)(mg:Str->Option Value)(aZ:Nat->Addr)(bg:Nat->FuncData)(C CS CW CB CT CD aC az:Addr):Prop where
 T:Nms mg
 G:Gbs mg
 aS:ClsAt K mg "Library" C (aZ 49)
 bZ:ClsAt K mg "Shelf" CS (aZ 33)
 iU:ClsAt K mg "Well" CW (aZ 44)
 uJ:ClsAt K mg "Blots" CB (aZ 9)
 CL:ClsAt K mg "Ties" CT (aZ 42)
 FT:ClsAt K mg "Dues" CD (aZ 43)
 j9:fQ K CS "states"
 j4:fQ K CS "openings"
 uA:fQ K CW "signs"
 vq:fQ K CW "owners"
 oN:fQ K CW "pourings"
 vt:fQ K CB "stains"
 Dt:fQ K CT "given"
 Du:fQ K CT "pairs"
 J8:fQ K CD "sums"
 xY:fQ K C "well"
 eZ:fQ K C "shelf"
 zE:fQ K C "blots"
 Dv:fQ K C "knots"
 J9:fQ K C "dues"
 E9:fQ K C "book"
 jH:Wl K mg "NoSheet" aC
 lW:Wl K mg "NoMoment" az
 dq0:b9 K mg "_law_src" wL ["_law_script"] (aZ 0) (bg 0)
 vH:b9 K mg "_law_next" t7 XQ (aZ 1) (bg 1)
 dq2:b9 K mg "_law_whole" qM ["_law_found"] (aZ 2) (bg 2)
 X7:b9 K mg "_law_same" t9 ["_law_found","_law_due"] (aZ 3) (bg 3)
 dq4:b9 K mg "plain" Ie ["row"] (aZ 4) (bg 4)
 Ws:b9 K mg "size" J5 ["row"] (aZ 5) (bg 5)
 X8:b9 K mg "check_places" n8 zl4 (aZ 6) (bg 6)
 Wu:b9 K mg "pieces" Dm zl4 (aZ 7) (bg 7)
 dq8:b9 K mg "part" NS zl4 (aZ 8) (bg 8)
 dq9:cV K CB "__init__" "Blots.__init__" kW Hw (aZ 9) (bg 9)
 ZQ:b9 K mg "addresses" pD ["row"] (aZ 10) (bg 10)
 Wv:b9 K mg "windows" vo ["items"] (aZ 11) (bg 11)
 Ww:b9 K mg "below" Dn ["rows","sheets"] (aZ 12) (bg 12)
 ZR:b9 K mg "way_between" pF ["rows","start","goal"] (aZ 13) (bg 13)
 ZS:b9 K mg "ring" NT zl5 (aZ 14) (bg 14)
 ZT:b9 K mg "item_weight" pG ["item","weights"] (aZ 15) (bg 15)
 ZU:b9 K mg "weights_below" jB ["rows","sheets"] (aZ 16) (bg 16)
 Wx:b9 K mg "item_row" wM ["item","views"] (aZ 17) (bg 17)
 OC:b9 K mg "views_below" lQ ["rows","sheets"] (aZ 18) (bg 18)
 IL:b9 K mg "shown" Ig zl5 (aZ 19) (bg 19)
 ZV:b9 K mg "goes_on" zB ["one","other"] (aZ 20) (bg 20)
 LY:b9 K mg "plain_items" pH ["items"] (aZ 21) (bg 21)
 FU:b9 K mg "inked" Dp ["row"] (aZ 22) (bg 22)
 Wy:b9 K mg "dealt" Ih ["items","views"] (aZ 23) (bg 23)
 Wz:b9 K mg "put_among" ua ["items","views","place","others"] (aZ 24) (bg 24)
 Se:b9 K mg "put_items" uc ["rows","sheet","place","items"] (aZ 25) (bg 25)
 WA:b9 K mg "parted" Dq ["items","views","start","stop"] (aZ 26) (bg 26)
 ZW:b9 K mg "cut_items" ud ["rows","sheet","start","stop"] (aZ 27) (bg 27)
 ZX:b9 K mg "moved_items" pI ["rows","sheet","start","stop","to"] (aZ 28) (bg 28)
 ZY:b9 K mg "fixed_items" pJ zl5 (aZ 29) (bg 29)
 Sf:b9 K mg "ink_words" pK ["row"] (aZ 30) (bg 30)
 ZZ:b9 K mg "shown_deed" qN ["deed"] (aZ 31) (bg 31)
 WB:b9 K mg "changed" zC ["state","sheet","items"] (aZ 32) (bg 32)
 Z0:cV K CS "__init__" "Shelf.__init__" kX Hw (aZ 33) (bg 33)
 LZ:cV K CS "now" "Shelf.now" ue Hw (aZ 34) (bg 34)
 OD:cV K CS "many" "Shelf.many" qO Hw (aZ 35) (bg 35)
 Z1:cV K CS "step" "Shelf.step" qP ["self","changes"] (aZ 36) (bg 36)
 Ac:cV K CS "check_sheet" "Shelf.check_sheet" jh XO (aZ 37) (bg 37)
 OE:cV K CS "check_moment" "Shelf.check_moment" iL ["self","moment"] (aZ 38) (bg 38)
 WC:cV K CS "rows_then" "Shelf.rows_then" iB ["self","moment"] (aZ 39) (bg 39)
 DK:cV K CS "rows" "Shelf.rows" qQ Hw (aZ 40) (bg 40)
 ajO:cV K CS "row" "Shelf.row" zD XO (aZ 41) (bg 41)
 Z2:cV K CT "__init__" "Ties.__init__" mw Hw (aZ 42) (bg 42)
 Z3:cV K CD "__init__" "Dues.__init__" mz Hw (aZ 43) (bg 43)
 Z4:cV K CW "__init__" "Well.__init__" mC Hw (aZ 44) (bg 44)
 L0:cV K CW "size" "Well.size" uf Hw (aZ 45) (bg 45)
 Z5:cV K CW "pour" "Well.pour" ug ["self","hand","text"] (aZ 46) (bg 46)
 Z6:cV K CW "holds" "Well.holds" nL ["self","row"] (aZ 47) (bg 47)
 Z7:b9 K mg "check_weave" pL zl5 (aZ 48) (bg 48)
 Z8:cV K C "__init__" "Library.__init__" jC Hw (aZ 49) (bg 49)
 WD:cV K C "enter" "Library.enter" mD ["self","deed","changes"] (aZ 50) (bg 50)
 FW:cV K C "change" "Library.change" kY ["self","deed","sheet","items"] (aZ 51) (bg 51)
 Z9:cV K C "many" "Library.many" n9 Hw (aZ 52) (bg 52)
 aaa:cV K C "begin" "Library.begin" mE ["self","deed","items"] (aZ 53) (bg 53)
 WE:cV K C "fresh" "Library.fresh" mF Hw (aZ 54) (bg 54)
 ad5:cV K C "ink" "Library.ink" pM Hw (aZ 55) (bg 55)
 aab:cV K C "check_held" "Library.check_held" iM ["self","row"] (aZ 56) (bg 56)
 WG:cV K C "pour" "Library.pour" oh ["self","hand","text"] (aZ 57) (bg 57)
 aac:cV K C "put" "Library.put" pN ["self","sheet","place","row"] (aZ 58) (bg 58)
 WH:cV K C "shown" "Library.shown" mG XO (aZ 59) (bg 59)
 aad:cV K C "cut" "Library.cut" pO ["self","sheet","start","stop"] (aZ 60) (bg 60)
 aae:cV K C "quote" "Library.quote" mH ["self","target","place","source","start","stop"] (aZ 61) (bg 61)
 ajP:cV K C "row" "Library.row" vp XO (aZ 62) (bg 62)
 aaf:cV K C "window" "Library.window" kZ ["self","target","place","source"] (aZ 63) (bg 63)
 aag:cV K C "fix" "Library.fix" pP XO (aZ 64) (bg 64)
 aah:cV K C "move" "Library.move" oj ["self","sheet","start","stop","to"] (aZ 65) (bg 65)
 aai:b9 K mg "first_reaching" lg ["holes","start"] (aZ 66) (bg 66)
 aaj:b9 K mg "within" Dr ["holes","address"] (aZ 67) (bg 67)
 aak:cV K CB "hides" "Blots.hides" pQ ["self","address"] (aZ 68) (bg 68)
 aal:cV K CW "check_address" "Well.check_address" iN ["self","address"] (aZ 69) (bg 69)
 aam:cV K CW "sign" "Well.sign" uh ["self","address"] (aZ 70) (bg 70)
 aan:cV K C "veiled" "Library.veiled" jb ["self","row","veil"] (aZ 71) (bg 71)
 ajQ:cV K C "text" "Library.text" sX XO (aZ 72) (bg 72)
 Sg:cV K CS "check_then" "Shelf.check_then" jD QO (aZ 73) (bg 73)
 aao:cV K CS "row_then" "Shelf.row_then" lu QO (aZ 74) (bg 74)
 WI:cV K C "row_then" "Library.row_then" jE QO (aZ 75) (bg 75)
 WJ:cV K C "shown_then" "Library.shown_then" iO QO (aZ 76) (bg 76)
 aap:cV K C "text_then" "Library.text_then" ji QO (aZ 77) (bg 77)
 aaq:b9 K mg "_law_sign" um ["_law_src_here","_law_few"] (aZ 78) (bg 78)
 aar:b9 K mg "_law_text" pR ["_law_src_here","_law_many"] (aZ 79) (bg 79)
 Si:b9 K mg "_law_world" nM [] (aZ 80) (bg 80)
 Sj:b9 K mg "_law_keep" uo ["_law_world_here","_law_rows"] (aZ 81) (bg 81)
 WK:b9 K mg "_law_swap" uq ["_law_rows","_law_sheet","_law_entries"] (aZ 82) (bg 82)
 aas:b9 K mg "_law_spell" qR ["_law_row"] (aZ 83) (bg 83)
 FY:b9 K mg "_law_show" ur zl6 (aZ 84) (bg 84)
 aat:b9 K mg "_law_reached" om zl6 (aZ 85) (bg 85)
 WL:b9 K mg "_law_pieces" pS zl7 (aZ 86) (bg 86)
 OF:b9 K mg "_law_put" wN zl8 (aZ 87) (bg 87)
 WM:b9 K mg "_law_cut" wO zl9 (aZ 88) (bg 88)
 WN:b9 K mg "_law_weighed" oq zl6 (aZ 89) (bg 89)
 aau:b9 K mg "_law_row_of" pT ["_law_numbers"] (aZ 90) (bg 90)
 aav:b9 K mg "_law_items_of" mJ ["_law_entries"] (aZ 91) (bg 91)
 aaw:b9 K mg "_law_fits" pU zl6 (aZ 92) (bg 92)
 aax:b9 K mg "_law_after" qS ["_law_world_here","_law_deed_here"] (aZ 93) (bg 93)
 ad6:cV K C "back" "Library.back" sY QO (aZ 94) (bg 94)
 aay:b9 K mg "_law_done" uu ["_law_house","_law_deed_here"] (aZ 95) (bg 95)
 aaz:b9 K mg "_law_ink_row" ou Yr (aZ 96) (bg 96)
 aaA:b9 K mg "_law_move_by" oz ["_law_src_here","_law_sheet","_law_room"] (aZ 97) (bg 97)
 aaB:b9 K mg "_law_draw" uv Yr (aZ 98) (bg 98)
 aaC:b9 K mg "_law_deed" ux EN (aZ 99) (bg 99)
 OG:b9 K mg "_law_pour" pV EN (aZ 100) (bg 100)
 OH:b9 K mg "_law_fresh" qT ["_law_world_here","_law_house"] (aZ 101) (bg 101)
 UD:b9 K mg "_law_begin" qU EN (aZ 102) (bg 102)
 UE:b9 K mg "_law_read" uy ["_law_world_here","_law_numbers"] (aZ 103) (bg 103)
 OI:b9 K mg "_law_then" uz Ys (aZ 104) (bg 104)
 OJ:b9 K mg "_law_then_due" mK Yt (aZ 105) (bg 105)
 UG:b9 K mg "_law_one_more" mL EN (aZ 106) (bg 106)
def nth{α:Type}:List α->α->Nat->α
 | [],d,_=>d
 | a::_,_,0=>a
 | _::l,d,n+1=>nth l d n
theorem IM:‹(1,0,["_law_script"],(Uq K))›:=λD=>by
 specialize eV D.dq0.F IK;obtain⟨a,ns,rfl,hS,k⟩:=h;exists _,(au (aJ (bN (aa (eN fX rfl D.T.jm tS (aa (iT lP (pv 0) nJ (ja ay)) ah)) (aa ay (aa ay (aa ay ah)))))));refine⟨Y,Y,a,Y,hS,λp hp=>?_⟩;refine⟨p,Y,.inl (bL.of af),λc hc=>?_⟩;refine⟨DJ,λl hl=>?_⟩;obtain⟨ms,em⟩:=N8 ns none (some 63);have Hq:c≠l:=aB (H:=aP (aP H p _) c _) af hl;have s1:aL H (aP H p (.lst (kB (ns.map V.int) none (some 63)))):=ak hp _;have s2:=s1.trans (ak hc (.lst (kB (ns.map V.int) none (some 63))));refine k l c _ ⟨Hq,ms,0,0,1,af,?_,E,E,E⟩ (s2.trans (ak hl _)) (s2.free hl) (s1.free hc);rw[aN Hq,af,em]
theorem nQ:aH ["_law_src_here","_law_base","_law_cell","_law_digit"] ["_law_src_here","_law_base"] (aA t7):=eO
theorem fC:‹(1,1,["_law_src_here","_law_base"],uD)›:=λD=>by
 specialize eV D.vH.F nQ;obtain⟨l,c,b,rfl,S,hb0,KA,k⟩:=h;exists _,(aj (Io (t':=VS) (bK (aT fJ (aQ bH (pv 0) ay) ay (bq _)) (aj (aW (i:=2) nQ.nd ay) (aj (Io (t':=VT) (bK (aT iS (aQ bH (pv 0) ay) (eS D.T.eE (aQ bH (pv 0) ay)) (bq _)) (aj (aW (i:=2) nQ.nd (aQ bH (aQ bH (pv 0) ay) (aQ bH (pv 0) ay))) (au (l9 (bC cT (aQ bH (pv 0) ay) ay) (pB (pv 0) ay jz)))) aX) ?b2) (aj (l9 (bC zo (bC cT (bC cT (bC HL (aQ bH (pv 0) ay) ay) (bC zo (pv 2) ay)) ay) ay) (pB (pv 0) ay jz)) (au (bK (aT E3 (pv 2) (bC Nk ay ay) (bq _)) (au (l9 (pv 2) (pB (pv 0) ay jz))) aX))))) aX) ?b1) (aj (bK (aT BX (aQ bH (pv 0) ay) ay (bq _)) (aj (aW (i:=3) nQ.nd (bC zo (aQ bH (pv 0) ay) (pv 1))) (aj (l9 (bC zF (aQ bH (pv 0) ay) (pv 1)) (pB (pv 0) ay jz)) (au (aJ (pv 3))))) aX) (au (aJ (bC zo (bC zF (bC zo (bC HL (aQ bH (pv 0) ay) ay) ay) ay) (pv 1))))))
 case b2 =>
  rintro D σ H ⟨l,c,b,rfl,⟨Hq,ns,i,d,r,hl,hc,hi,yh,hr1⟩,k⟩;exists Y,l,K,V,bL.of hl,VQ,Y,l,K,V,bL.of hl,Zi,c,Y,.inl (bL.of hc),Z,Y;refine cI (λc2=>?_) (λc2=>?_)
  ·have c3:i<(ns.length:Int):=by
    have z:=of_decide_eq_true c2;rwa [cD]at z
   obtain⟨v,hv⟩:=Ru hi c3;exists Y,l,K,V,bL.of hl,Zi,Y,l,K,V,bL.of hl,VQ,c,K,V,bL.of hc,hv;exists Y,l,K,V,bL.of hl,VQ,Z,Y,l,P,1,V,hl,rfl;exact k v _ ⟨Hq,ns,i+1,d,r,af,by rw[aN Hq];exact hc,Q,yh,hr1⟩ λa ha=>aN ha
  ·exact k 7 H ⟨Hq,ns,i,d,r,hl,hc,hi,yh,hr1⟩ λa _=>rfl
 case b1 =>
  rintro D σ H ⟨l,c,b,rfl,S,k⟩;obtain⟨Hq,ns,i,d,r,hl,hc,hi,yh,hr1⟩:=id S;exists Y,l,K,V,bL.of hl,Ro,Z,Y;refine cI (λc1=>?_) (λc1=>?_)
  ·refine⟨l,c,b,rfl,S,λcell H1 S1 k1=>?_⟩;obtain⟨_,ns1,i1,d1,r1,Ij,X9,hi1,KC,IP⟩:=id S1;exists Y,l,K,V,bL.of Ij,Zj,Z,.inl ⟨Q,Q⟩,Y,Z,(by show (0:Int)<998244353;decide),Z,Z,Z,(by show (0:Int)<2147483647;decide),Y,l,P,3,V,Ij,rfl;exists Y,Z,⟨E,E,E⟩,Z,Y;have b0:0<=(r1*48271+cell % 998244353+1) % 2147483647:=Int.emod_nonneg _ (by decide);have b1:(r1*48271+cell % 998244353+1) % 2147483647<2147483647:=Int.emod_lt_of_pos _ (by decide);refine cI (λc2=>?_) (λc2=>?_)
   ·exists Y,Y,l,P,2,V,af,rfl;refine k _ _ ⟨Hq,ns1,i1,cell,_,af,?_,hi1,b0,b1⟩ λa ha=>?_
    ·rw[aN Hq,aN Hq];exact X9
    ·rw[aN ha,aN ha];exact k1 a ha
   ·refine k _ _ ⟨Hq,ns1,i1,d1,_,af,?_,hi1,b0,b1⟩ λa ha=>?_
    ·rw[aN Hq];exact X9
    ·rw[aN ha];exact k1 a ha
  ·exact k none H S λa _=>rfl
 refine⟨l,c,b,rfl,S,λcell H1 S1 k1=>?_⟩;obtain⟨Hq,ns,i,d,r,hl,hc,hi,yh,hr1⟩:=S1;exists Y,l,K,V,bL.of hl,Ro,Z,Y;refine cI (λc1=>?_) (λc1=>?_)
 ·exists Y,l,K,V,bL.of hl,Ro,Y,Z,hb0;exists Y,l,K,V,bL.of hl,Ro,Y,Z,⟨hb0,KA⟩,Y,l,P,2,V,hl,rfl;exists Y;refine k (d % b) _ (Int.emod_nonneg _ ∅) (Int.emod_lt_of_pos _ hb0) ⟨Hq,ns,i,d / b,r,af,?_,hi,yh,hr1⟩ λa ha=>?_
  ·rw[aN Hq];exact hc
  ·rw[aN ha];exact k1 a ha
 ·exists Y,l,K,V,bL.of hl,Zj,Z,.inl ⟨Q,Q⟩,Z,(by show (0:Int)<2147483399;decide),Z,⟨E,E⟩,Y,Z,hb0;exact k _ _ (Int.emod_nonneg _ ∅) (Int.emod_lt_of_pos _ hb0) ⟨Hq,ns,i,d,r,hl,hc,hi,yh,hr1⟩ k1
theorem DL:aH ["_law_found"] ["_law_found"] (aA qM):=eO
theorem qV:aH ["_law_found","_law_due","_law_one","_law_other"] ["_law_found","_law_due"] (aA t9):=eO
theorem DM:‹(1,2,["_law_found"],Ke)›:=λD=>by
 specialize eV D.dq2.F DL;obtain⟨i,rfl,k⟩:=h;exists _,(au (aJ (nY (cC dZ rfl D.T.dF yv (aa (pv 0) (aa (qm rfl D.T.UA PyProof.Rows.boot_int) ah))) (pA (Vj (cC dZ rfl D.T.dF yv (aa (pv 0) (aa (qm rfl D.T.IJ PyProof.Rows.boot_bool) ah))))))));exact⟨Y,K,Y,ku.int i,Zp K,Y,gR ⟨Y,K,Y,ku.int i,Zo K,Y,k⟩⟩
theorem Bm(D:Ds K mg aZ bg C CS CW CB CT CD aC az){n:Nat}(FZ:bf P w K mg zt cM 1 (aZ 2) (bg 2) ["_law_found"] Ke)(qb:bf P w K mg zt cM (n+1) (aZ 3) (bg 3) ["_law_found","_law_due"] (zJ n)):bf P w K mg zt cM (n+2) (aZ 3) (bg 3) ["_law_found","_law_due"] (zJ (n+1)):=by
 refine D.X7.F.ok qV (λvs H Q E h=>?_) (λcN A zn s H vs Q E hr h=>?_)
 ·obtain⟨x,y,rfl,_⟩:=h;rfl
 obtain⟨x,y,rfl,h,k⟩:=h;exists _,(aj (bK (De (HF (pv 1))) (au (aJ (Ng (HF (pv 0))))) aX) (aj (bK (jZ (cC dZ rfl D.T.dF yv (aa (pv 1) (aa (qm rfl D.T.IJ PyProof.Rows.boot_bool) ah)))) (au (aJ (nY (cC dZ rfl D.T.dF yv (aa (pv 0) (aa (qm rfl D.T.IJ PyProof.Rows.boot_bool) ah))) (pA (j8 dY (pv 0) (pv 1) (bq _)))))) aX) (aj (bK (jZ (cC dZ rfl D.T.dF yv (aa (pv 1) (aa (qm rfl D.T.UA PyProof.Rows.boot_int) ah)))) (au (aJ (nY (aG D.dq2 FZ hr (aa (pv 0) ah)) (pA (j8 dY (pv 0) (pv 1) (bq _)))))) aX) (aj (bK (jZ (cC dZ rfl D.T.dF yv (aa (pv 1) (aa (qm rfl D.T.UB PyProof.Rows.boot_str) ah)))) (au (aJ (nY (cC dZ rfl D.T.dF yv (aa (pv 0) (aa (qm rfl D.T.UB PyProof.Rows.boot_str) ah))) (pA (j8 dY (pv 0) (pv 1) (bq _)))))) aX) (aj (bK (PW.pt (BV (aT Nm (cC dZ rfl D.T.dF yv (aa (pv 1) (aa (qm rfl D.T.jm tS) ah))) (cC dZ rfl D.T.dF yv (aa (pv 0) (aa (qm rfl D.T.jm tS) ah))) (bq _)) (zl (aT Nm (cC dZ rfl D.T.dF yv (aa (pv 1) (aa (qm rfl D.T.Ky PyProof.Rows.boot_tuple) ah))) (cC dZ rfl D.T.dF yv (aa (pv 0) (aa (qm rfl D.T.Ky PyProof.Rows.boot_tuple) ah))) (bq _))))) (au (aJ nI)) aX) (aj (bK (aT Nm (eS D.T.eE (pv 0)) (eS D.T.eE (pv 1)) (bq _)) (au (aJ nI)) aX) (aj (d7 PassesOwn.never rfl (VO rfl D.T.ZO (aa (pv 0) (aa (pv 1) ah))) (nZ (n:=2) rfl (ck (cu (i:=2) qV.nd) (ck (cu (i:=3) qV.nd) gH))) (au (bK (iK (jZ (aG D.X7 qb hr (aa (pv 2) (aa (pv 3) ah))))) (au (aJ nI)) aX))) (au (aJ nI)))))))));have kk:=k H (aL.refl H);rcases h with ⟨hf,rfl⟩|⟨kd,a,b,xs,ys,rfl,rfl,h1,h2,hl,hi⟩
 ·cases x with
  | fH =>
   refine⟨Y,Y,cI (λ_=>?_) (λc=>absurd (decide_eq_true rfl) c)⟩;exact⟨Y,tt rfl kk⟩
  | bl v =>
   refine⟨Y,Y,cI (λc=>absurd (of_decide_eq_true c) (λz=>nomatch z)) (λ_=>?_)⟩;refine⟨Y,K,Y,ku.bl v,Zm K,Y,gR ?_⟩;exact⟨Y,K,Y,ku.bl v,Zm K,Y,gR ⟨Y,Y,rfl,tt rfl kk⟩⟩
  | int i =>
   refine⟨Y,Y,cI (λc=>absurd (of_decide_eq_true c) (λz=>nomatch z)) (λ_=>?_)⟩;refine⟨Y,K,Y,ku.int i,Zo K,Y,eY ?_⟩;refine⟨Y,K,Y,ku.int i,Zp K,Y,gR ?_⟩;exact⟨Y,i,rfl,Y,gR ⟨Y,Y,rfl,tt rfl kk⟩⟩
  | str v =>
   refine⟨Y,Y,cI (λc=>absurd (of_decide_eq_true c) (λz=>nomatch z)) (λ_=>?_)⟩;refine⟨Y,K,Y,ku.str v,adp K,Y,eY ?_⟩;refine⟨Y,K,Y,ku.str v,adq K,Y,eY ?_⟩;refine⟨Y,K,Y,ku.str v,Zq K,Y,gR ?_⟩;exact⟨Y,K,Y,ku.str v,Zq K,Y,gR ⟨Y,Y,rfl,tt rfl kk⟩⟩
  | _=>cases hf
 ·refine⟨Y,Y,cI (λc=>absurd (of_decide_eq_true c) (λz=>nomatch z)) (λ_=>?_)⟩;refine⟨Y,K,Y,h2.ty,adA K kd,Y,eY ?_⟩;refine⟨Y,K,Y,h2.ty,adB K kd,Y,eY ?_⟩;refine⟨Y,K,Y,h2.ty,adC K kd,Y,eY ?_⟩;refine⟨Y,K,Y,h2.ty,Zs K kd,Y,K,Y,h1.ty,Zs K kd,rfl,Y,NQ rfl ?_⟩;refine⟨Y,K,Y,h2.ty,Zt K kd,Y,K,Y,h1.ty,Zt K kd,rfl,Y,NQ rfl ?_⟩;refine⟨Y,a,Y,h1.or,Y,b,Y,h2.or,rfl,Y,NQ (by rw[hl]) ?_⟩;refine⟨Y,Y,kd,a,b,xs,ys,rfl,h1.sq,h2.sq,Rm (λi σ H2=>∃ u v,σ=[some (.ref a),some (.ref b),u,v]/\aL H H2) hl ⟨none,none,rfl,aL.refl H⟩ (by rintro i σ H2 _ ⟨_,_,_,s⟩;exact⟨(h1.same s).sq,(h2.same s).sq⟩) ?_ ?_⟩
  ·rintro i u v p σ H2 eu ev hp ⟨_,_,rfl,s⟩;exists p,Y,dG.of af,rfl,u,[v],rfl,v,[],V;have s2:=s.trans (ak hp (.tup [u,v]));refine⟨Y,Y,u,v,rfl,Eqv.same s2 (hi i u v eu ev),λH4 s4=>⟨Y,eY ?_⟩⟩;exact⟨P,rfl,s2.trans s4⟩
  ·rintro σ H2 ⟨_,_,rfl,s⟩;exact k H2 s
theorem nR(D:Ds K mg aZ bg C CS CW CB CT CD aC az):∀ n:Nat,bf P w K mg zt cM (n+1) (aZ 3) (bg 3) ["_law_found","_law_due"] (zJ n)
 | 0=>by
  have no:∀ vs H Q E,¬ zJ 0 vs H Q E:=λvs H Q E h=>by
   obtain⟨x,y,_,h,_⟩:=h;exact h
  exact⟨λvs H Q E h=>absurd h (no vs H Q E),λA zn s H args us vs Q E _ _ _ _ h=>absurd h (no vs H Q E)⟩
 | n+1=>Bm D (DM D) (nR D n)
theorem zd:aH ["row","told","start","stop"] ["row"] (aA Ie):=eO
theorem Ad:‹(1,4,["row"],Rt)›:=λD=>by
 specialize eV D.dq4.F zd;obtain⟨r,row,rfl,⟨as,hr1,hp⟩,dN,k⟩:=h;refine⟨_,(aj (aW (i:=1) zd.nd (bN ah)) (aj (d7 PassesOwn.never rfl (cH (pv 0)) (nZ (n:=2) rfl (ck (cu (i:=2) zd.nd) (ck (cu (i:=3) zd.nd) gH))) (aj (bK (aT dY (pv 2) (pv 3) (bq _)) (au E1) aX) (au (bK (PW.pt (qK (mj (pv 1) (λ_=>rfl)) (o7 (aT dY (aQ bx (aQ bH (pv 1) (gw eK ay)) ay) (pv 2) (bq _))))) (au (l9 (cF (aa (aQ bx (aQ bH (pv 1) (gw eK ay)) ay) (aa (pv 3) ah))) (pB (pv 1) (gw eK ay) jz))) (au (aY (dM qw jX jY bT (pv 1) (aa (cF (aa (pv 2) (aa (pv 3) ah))) ah)))))))) (au (aJ (pv 1))))),?_⟩;refine⟨iR,λq hq=>?_⟩;have s0:aL H (aP H q (.lst [])):=ak hq _;refine⟨Y,r,rfl,⟨_,bL.of (s0 _ _ hr1)⟩,dO (K:=K) (a:=r) (xs:=as.map V.ref) (λi σ H2=>∃ (bs:List Addr) (u v:Option V),σ=[some (.ref r),some (.ref q),u,v]/\H2 q=some (.lst (bs.map V.ref))/\bQ H2 bs ((row.take i).foldl ef [])/\aL H H2) ⟨[],none,none,rfl,af,.nil,s0⟩ (by rintro i σ H2 _ ⟨_,_,_,_,_,_,s⟩;exact bL.of (s _ _ hr1)) ?_ ?_⟩
 ·rintro i x σ H2 hi ⟨bs,u,v,rfl,d9,hb,s⟩;rw[nG]at hi;obtain⟨a,ea,rfl⟩:=Option.map_eq_some_iff.mp hi;obtain⟨⟨st,en⟩,ep,ha⟩:=hp.get ea;have step:=LI (f:=ef) ep
  have bl:bs.length<sizeLine:=by
   have z:=hb.len;have z2:=Fo (row.take i) [];rw[gy]at z2;exact aV (by simp only[sI]at z2;lia)
  exists a,Y,dG.of (s _ _ ha),rfl,P,rfl,Z;refine⟨Y,Y,rfl,Y,cI (λc=>?_) (λc=>?_)⟩
  ·have e:st=en:=V.int.inj (of_decide_eq_true c);refine⟨bs,P,rfl,d9,?_,s⟩;rw[step,ef,if_pos e];exact hb
  ·have e:¬ st=en:=λz=>c (decide_eq_true (congrArg V.int z));rw[ef,if_neg e]at step;rcases oZ ((row.take i).foldl ef []) with hn|⟨rw0,q0,hn⟩
   ·rw[hn]at hb step;have hbs:bs=[]:=List.eq_nil_of_length_eq_zero hb.len;subst hbs;refine⟨Y,false,.inl ⟨_,bL.of d9,rfl⟩,eY (eY ?_)⟩;refine⟨Y,.inl ⟨rfl,_,bL.of d9⟩,Y,Y,pZ,λt ht=>⟨q,Z,ak ht _ _ _ d9,(by show 0<sizeLine;decide),?_⟩⟩;obtain⟨g1,g2,g3⟩:=Fl (st:=st) (en:=en) hq s d9 hb ht;refine⟨[]++[t],P,rfl,g1,?_,g3⟩;rw[step,mO];exact g2
   ·rw[nA]at hn;rw[hn]at hb step;obtain⟨cs,a0,rfl,hc,KD⟩:=hb.split;have EL:H2 q=some (.lst (cs.map V.ref++[.ref a0])):=by rw[d9,gG];rfl
    refine⟨Y,true,.inl ⟨_,bL.of EL,by simp⟩,gR ?_⟩;refine⟨Y,Y,q,K,V,bL.of EL,fZ _ _,a0,K,V,dG.of KD,VR,Y,rfl,Y,cI (λc2=>?_) (λc2=>?_)⟩
    ·have e2:q0.2=st:=V.int.inj (of_decide_eq_true c2);refine⟨Y,Y,q,K,V,bL.of EL,fZ _ _,a0,K,V,dG.of KD,Zk,Y,pZ,λt ht=>?_⟩;exists Y,Y,q,P,cs.length,V,ak ht _ _ _ EL,Oc cs a0;obtain⟨g1,g2,g3⟩:=turned (st:=q0.1) (en:=en) hq s EL hc ht;refine⟨cs++[t],P,rfl,g1,?_,g3⟩;rw[step,mP _ e2];exact g2
    ·have e2:¬ q0.2=st:=λz=>c2 (decide_eq_true (congrArg V.int z));refine⟨Y,.inl ⟨rfl,_,bL.of d9⟩,Y,Y,pZ,λt ht=>⟨q,Z,ak ht _ _ _ d9,(by rw[cD];exact bl),?_⟩⟩;obtain⟨g1,g2,g3⟩:=Fl (st:=st) (en:=en) hq s d9 hb ht;refine⟨cs++[a0]++[t],P,rfl,g1,?_,g3⟩;rw[step,mQ _ e2];exact g2
 ·rintro σ H2 ⟨bs,u,v,rfl,d9,hb,s⟩;refine⟨Y,k q H2 ⟨bs,d9,?_⟩ s hq⟩;rw[cD,hp.len,gK]at hb;exact hb
theorem WO:aH ["row"] ["row"] (aA J5):=eO
theorem DN:‹(1,5,["row"],VZ)›:=λD=>by
 specialize eV D.Ws.F WO;obtain⟨r,row,rfl,⟨as,hr1,hp⟩,dN,k⟩:=h;refine⟨_,(au (aJ (cC (Fe rfl) rfl D.T.UC PyProof.Rows.boot_sum (aa (gV (N:=["start","stop"]) (nP (sc:=aA J5) (NX:=["row"]) (jx:=[none,none]) rfl rfl rfl nofun nofun rfl nofun rfl nofun) rfl (cH (pv 0)) (λ_ _ _ _ _ _=>(vC (n:=2) rfl (ck (cu (i:=0) (show List.Nodup (["start","stop"]:List Str) by decide +kernel)) (ck (cu (i:=1) (show List.Nodup (["start","stop"]:List Str) by decide +kernel)) gH)))) (λ_ _ _ _ _ _=>gI) (λ_ _ _ _ _ _=>(bC cK (pv 1) (pv 0)))) ah)))),?_⟩;refine⟨Y,r,rfl,⟨_,bL.of hr1⟩,λacc cY=>gz (K:=K) (a:=r) (xs:=as.map V.ref) (λi σ H2=>∃ u v:Option V,σ=[u,v]/\H2 acc=some (.lst (((row.take i).map λp=>p.2-p.1).map V.int))/\aL H H2) ⟨none,none,rfl,af,ak cY _⟩ (by rintro i σ H2 _ ⟨_,_,_,_,s⟩;exact bL.of (s _ _ hr1)) ?_ ?_⟩
 ·rintro i x σ H2 hi ⟨u,v,rfl,ha,s⟩;rw[nG]at hi;obtain⟨a,ea,rfl⟩:=Option.map_eq_some_iff.mp hi;obtain⟨⟨st,en⟩,ep,hpa⟩:=hp.get ea;refine⟨a,Y,dG.of (s _ _ hpa),rfl,P,rfl,Z,yes (gR ?_)⟩;refine⟨Y,Y,Z,_,ha,?_,P,rfl,?_,bP cY s (aM acc _ _)⟩
  ·rw[cD,cD,gy];exact aV ∅
  ·rw[af,take_snoc ep,gG,gG];rfl
 ·rintro σ H2 ⟨u,v,rfl,ha,s⟩;rw[cD,hp.len,gK]at ha;exact⟨acc,Y,bL.of ha,k H2 s⟩
class inductive OL
 | mk (r:Addr) (row:Row) (a b:Int) (_:vs=[.ref r,.int a,.int b]) (_:cA H r row) (_:row.length<=1000000) (_:M0 a b (jc row)) (_:∀ H',aL H H'->Q .fH H')
theorem Ae:aH ["row","start","stop"] ["row","start","stop"] (aA n8):=eO
theorem gD:‹(2,6,["row","start","stop"],OL)›:=λD=>by
 specialize eV D.X8.F Ae;obtain⟨r,row,a,b,rfl,R,hl,z,k⟩:=h;exists _,(au (bK (iK (LL fJ fJ fJ ay (pv 1) (pv 2) (dX.rW D.Ws (D.T.oB _ D.Ws.m) (DN D) hr (aa (pv 0) ah)))) (au gO) aX));exists Y,Z,Y;rw[decide_eq_true z.1];refine cI (λ_=>?_) (λc=>absurd rfl c);exists Y,Z,Y;rw[decide_eq_true z.2.1];refine cI (λ_=>?_) (λc=>absurd rfl c);refine⟨Y,r,row,rfl,R,hl,λH1 s1=>⟨Z,Y,?_⟩⟩;rw[decide_eq_true z.2.2];exact eY (k H1 s1)
theorem kF:aH ["row","start","stop","told","ahead","first","last","low","high"] ["row","start","stop"] (aA Dm):=eO
theorem rX:‹(1,7,["row","start","stop"],Fx)›:=λD=>by
 specialize eV D.Wu.F kF;obtain⟨r,row,a,b,rfl,⟨as,hr1,hp⟩,dN,k⟩:=h;exists _,(aj (aW (i:=3) kF.nd (bN ah)) (aj (aW (i:=4) kF.nd ay) (aj (d7 PassesOwn.never rfl (cH (pv 0)) (nZ (n:=2) rfl (ck (cu (i:=5) kF.nd) (ck (cu (i:=6) kF.nd) gH))) (aj (aW (i:=7) kF.nd (cC (rP rfl) rfl D.T.FQ PyProof.Rows.boot_max (aa (bC cK (pv 1) (pv 4)) (aa ay ah)))) (aj (aW (i:=8) kF.nd (cC (rQ rfl) rfl D.T.Kz PyProof.Rows.boot_min (aa (bC cK (pv 2) (pv 4)) (aa (bC cK (pv 6) (pv 5)) ah)))) (aj (bK (aT iS (pv 7) (pv 8) (bq _)) (au (aY (dM qw jX jY bT (pv 3) (aa (cF (aa (bC cT (pv 5) (pv 7)) (aa (bC cT (pv 5) (pv 8)) ah))) ah)))) aX) (au (wG (i:=4) kF.nd rfl (Or.inl rfl) (bC cK (pv 6) (pv 5)) Vp)))))) (au (aJ (pv 3))))));refine⟨iR,λq hq=>?_⟩;have s0:aL H (aP H q (.lst [])):=ak hq _;refine⟨Y,r,rfl,⟨_,bL.of (s0 _ _ hr1)⟩,dO (K:=K) (a:=r) (xs:=as.map V.ref) (λi σ H2=>∃ (bs:List Addr) (t:Int) (u v x y:Option V),σ=[some (.ref r),some (.int a),some (.int b),some (.ref q),some (.int t),u,v,x,y]/\t=jc (row.take i)/\H2 q=some (.lst (bs.map V.ref))/\bQ H2 bs (kQ a b 0 (row.take i))/\aL H H2) ⟨[],0,none,none,none,none,V,af,.nil,s0⟩ (by rintro i σ H2 _ ⟨_,_,_,_,_,_,_,_,_,_,s⟩;exact bL.of (s _ _ hr1)) ?_ ?_⟩
 ·rintro i x σ H2 hi ⟨bs,t,u,v,x1,y1,rfl,et,d9,hb,s⟩;rw[nG]at hi;obtain⟨ad,ea,rfl⟩:=Option.map_eq_some_iff.mp hi;obtain⟨⟨st,en⟩,ep,ha⟩:=hp.get ea;have step:=Ft a b (st,en) (row.take i) 0;rw[← take_snoc ep,Int.zero_add,← et]at step;have et2:t+(en-st)=jc (row.take (i+1)):=by rw[take_snoc ep,N6,et]
  have bl:bs.length<sizeLine:=by
   have z:=hb.len;have z2:=j5 a b (row.take i) 0;rw[gy]at z2;exact aV ∅
  have e1:(if (0:Int) > a-t then (0:Int) else a-t)=max (a-t) 0:=by split <;> lia
  have e2:(if en-st<b-t then en-st else b-t)=min (b-t) (en-st):=by split <;> lia
  exists ad,Y,dG.of (s _ _ ha),rfl,P,rfl,Z;exists Y,Y,Z,P,rfl;exists Y,Y,Z,Y,Y,Z,P,rfl;rw[e1,e2];refine⟨Y,Y,Z,Y,cI (λc=>?_) (λc=>?_)⟩
  ·have c':max (a-t) 0<min (b-t) (en-st):=of_decide_eq_true c;unfold Of at step;rw[if_pos c']at step;refine⟨Y,.inl ⟨rfl,_,bL.of d9⟩,Y,Y,Z,Y,Y,Z,pZ,λtu htu=>⟨q,Z,ak htu _ _ _ d9,(by rw[cD];exact bl),?_⟩⟩;obtain⟨g1,g2,g3⟩:=Fl (st:=st+max (a-t) 0) (en:=st+min (b-t) (en-st)) hq s d9 hb htu;exists Y,Y,Y,Z,Z;refine⟨bs++[tu],K,P,rfl,et2,g1,?_,g3⟩;rw[step];exact g2
  ·have c':¬ max (a-t) 0<min (b-t) (en-st):=λz=>c (decide_eq_true z);unfold Of at step;rw[if_neg c',gE]at step;exists Y,Y,Y,Z,Z;refine⟨bs,K,P,rfl,et2,d9,?_,s⟩;rw[step];exact hb
 ·rintro σ H2 ⟨bs,t,u,v,x1,y1,rfl,et,d9,hb,s⟩;rw[cD,hp.len,gK]at hb;exact⟨Y,k q H2 ⟨bs,d9,hb⟩ s hq⟩
class inductive Sk
 | mk (r:Addr) (row:Row) (a b:Int) (_:vs=[.ref r,.int a,.int b]) (_:cA H r row) (_:row.length<=1000000) (_:M0 a b (jc row)) (_:∀ (q:Addr) (H':Hp),cA H' q (cz (kQ a b 0 row))->aL H H'->H q=none->Q (.ref q) H')
theorem WQ:aH ["row","start","stop"] ["row","start","stop"] (aA NS):=eO
theorem Sm:‹(3,8,["row","start","stop"],Sk)›:=λD=>by
 specialize eV D.dq8.F WQ;obtain⟨r,row,a,b,rfl,R,hl,z,k⟩:=h;exists _,(aj (aY (aG D.X8 (gD D) hr (aa (pv 0) (aa (pv 1) (aa (pv 2) ah))))) (au (aJ (aG D.dq4 (Ad D) hr (aa (aG D.Wu (rX D) hr (aa (pv 0) (aa (pv 1) (aa (pv 2) ah)))) ah)))));refine⟨Y,Y,Y,r,row,a,b,rfl,R,hl,z,λH1 s1=>?_⟩;refine⟨Y,Y,Y,r,row,a,b,rfl,R.same s1,hl,λq H2 R2 s2 hq=>?_⟩;refine⟨q,Y,R2,iJ (j5 a b row 0) hl,λq3 H3 R3 s3 EL=>?_⟩;exact k q3 H3 R3 (s1.trans (s2.trans s3)) (bu (s1.trans s2) EL)
def Bl(CB:Addr)(H:Hp)(x d t:Addr):Prop:=H x=some (.ins CB d [("stains",.ref t)])
class inductive Sn(CB:Addr)
 | mk (x d:Addr) (_:vs=[.ref x]) (_:H x=some (.ins CB d [])) (_: ∀ (t:Addr) (H':Hp),Bl CB H' x d t->cA H' t []->cJ x H H'->H t=none->Q .fH H')
theorem xj:aH ["self"] ["self"] (aA kW):=eO
theorem vI:‹(1,9,["self"],(Sn CB))›:=λD=>by
 specialize eV D.dq9.F xj;obtain⟨x,d,rfl,hx,k⟩:=h;exists _,(au (jf (pv 0) (bN ah) rfl));refine⟨iR,λt ht=>?_⟩;have nt:t≠x:=(aB hx ht).symm;exists Y,x,CB,d,Y,ak ht _ _ _ hx,D.uJ.cl,D.vt,E;exact k t _ af ⟨[],by rw[aN nt,af];rfl,.nil⟩ (λa o e n=>by rw[aN n];exact ak ht _ a o e) ht
theorem F0:aH ["row"] ["row"] (aA pD):=eO
theorem DO:‹(1,10,["row"],RA)›:=λD=>by
 specialize eV D.ZQ.F F0;obtain⟨r,row,rfl,⟨as,hr1,hp⟩,hok,dN,k⟩:=h;refine⟨_,(au (aJ (CC (N:=["start","stop","address"]) (nP (sc:=aA pD) (NX:=["row"]) (jx:=[none,none,none]) rfl rfl rfl nofun nofun rfl nofun rfl nofun) rfl (cH (pv 0)) (λ_ _ _ _ _ _=>(vC (n:=2) rfl (ck (cu (i:=0) (show List.Nodup (["start","stop","address"]:List Str) by decide +kernel)) (ck (cu (i:=1) (show List.Nodup (["start","stop","address"]:List Str) by decide +kernel)) gH)))) (λ_ _ _ _ _ _=>gI) (λ_ _ _ _ _ _=>(Cp rfl D.T.jd (aa (pv 0) (aa (pv 1) ah)))) (λ_ _ _ _ _ _=>(cu (i:=2) (show List.Nodup (["start","stop","address"]:List Str) by decide +kernel))) (λ_ _ _ _ _ _=>gI) (λ_ _ _ _ _ _=>(pv 2))))),?_⟩;refine⟨Y,r,rfl,⟨_,bL.of hr1⟩,λacc cY=>yf (K:=K) (a:=r) (xs:=as.map V.ref) (λi σ H2=>∃ u v z:Option V,σ=[u,v,z]/\H2 acc=some (.lst ((bM (row.take i)).map V.int))/\aL H H2) ⟨none,none,none,rfl,af,ak cY _⟩ (by rintro i σ H2 _ ⟨_,_,_,_,_,s⟩;exact bL.of (s _ _ hr1)) ?_ ?_⟩
 ·rintro i x σ H2 hi ⟨u,v,z,rfl,ha,s⟩;rw[nG]at hi;obtain⟨a,ea,rfl⟩:=Option.map_eq_some_iff.mp hi;obtain⟨⟨st,en⟩,ep,hpa⟩:=hp.get ea;have b2:st<=en:=hok _ (nF ep);have step:=zN ep
  have lz:(bM (row.take i)).length+(en-st).toNat<=1000000:=by
   have z:=tH row (i+1);rw[step,dz,jF,fK]at z;exact iJ z dN
  refine⟨a,Y,dG.of (s _ _ hpa),rfl,P,rfl,Z,yes (gR ?_)⟩;refine⟨Y,Y,st,en,rfl,Fj (lo:=st) (k:=(en-st).toNat) (λj σ H3=>∃ z:Option V,σ=[some (.int st),some (.int en),z]/\H3 acc=some (.lst ((bM (row.take i)++run st j).map V.int))/\aL H H3) ⟨z,rfl,?_,s⟩ ?_ ?_⟩
  ·rw[run,gE];exact ha
  ·rintro j σ H3 hj ⟨z,rfl,h3,s3⟩;refine VX ?_;refine gR ?_;refine⟨Y,_,h3,?_,Y,?_,bP cY s3 (aM acc _ _)⟩
   ·rw[cD,dz,fK];exact aV ∅
   ·rw[af,vz,← nB];simp
  ·rintro σ H3 ⟨z,rfl,h3,s3⟩;refine⟨K,rfl,?_,s3⟩;rw[step];exact h3
 ·rintro σ H2 ⟨u,v,z,rfl,ha,s⟩;rw[cD,hp.len,gK]at ha;exact k acc H2 ha s cY
theorem L4(aO:List aR):(fc aO).length<=aO.length:=List.length_filterMap_le _ aO
class inductive WR
 | mk (r:Addr) (aO:List aR) (_:vs=[.ref r]) (_:bJ H (.ref r) aO) (_:aO.length<=100000) (_ :
 ∀ (o:Addr) (H':Hp),H' o=some (.lst ((fc aO).map V.int))->aL H H'->H o=none->Q (.ref o) H')
theorem L7:aH ["items"] ["items"] (aA vo):=eO
theorem Af:‹(1,11,["items"],WR)›:=λD=>by
 specialize eV D.Wv.F L7;obtain⟨r,aO,rfl,⟨a,vs,e,hr1,hp⟩,dN,k⟩:=h;cases e;refine⟨_,(au (aJ (gV (N:=["item"]) (nP (sc:=aA vo) (NX:=["items"]) (jx:=[none]) rfl rfl rfl nofun nofun rfl nofun rfl nofun) rfl (cH (pv 0)) (λ_ _ _ _ _ _=>(cu (i:=0) (show List.Nodup (["item"]:List Str) by decide +kernel))) (λ_ _ _ _ _ _=>Kf (aT dY (aQ Ko (pv 0) ay) br (bq _))) (λ_ _ _ _ _ _=>(aQ Ko (pv 0) ay))))),?_⟩;refine⟨Y,r,rfl,⟨_,bL.of hr1⟩,λacc cY=>gz (K:=K) (a:=r) (xs:=vs) (λi σ H2=>∃ u:Option V,σ=[u]/\H2 acc=some (.lst ((fc (aO.take i)).map V.int))/\aL H H2) ⟨none,rfl,af,ak cY _⟩ (by rintro i σ H2 _ ⟨_,_,_,s⟩;exact bL.of (s _ _ hr1)) ?_ ?_⟩
 ·rintro i x σ H2 hi ⟨u,rfl,ha,s⟩;obtain⟨it,ei,b,rfl,hb⟩:=hp.get hi;have step:fc (aO.take (i+1))=fc (aO.take i)++fc [it]:=by rw[take_snoc ei,gh]
  have bl:(fc (aO.take i)).length<=100000:=by
   have z:=L4 (aO.take i);rw[gy]at z;lia
  cases it with
  | win n =>
   refine⟨Y,b,K,V,dG.of (s _ _ hb),V,Y,cI (λ_=>?_) (λz=>absurd (by decide) z)⟩;refine⟨Y,b,K,V,dG.of (s _ _ hb),rfl,_,ha,(by rw[cD];exact aV ∅),Y,?_,bP cY s (aM acc _ _)⟩;rw[af,step,gG];rfl
  | aK p q =>
   refine⟨Y,b,K,V,dG.of (s _ _ hb),V,Y,cI (λz=>absurd z (by decide)) (λ_=>?_)⟩;refine⟨Y,?_,s⟩;rw[ha,step];show _=some (HO.lst ((fc (aO.take i)++[]).map V.int));rw[gE]
 ·rintro σ H2 ⟨u,rfl,ha,s⟩;rw[hp.len,gK]at ha;exact k acc H2 ha s cY
structure Ma(rows:cS)(ks:List Int):Prop where
 EH:∀ x∈ks,0<=x/\x<rows.length
 dn:∀ (i:Nat) (x:Int),ks[i]?=some x->∀ y,jV rows x y->y∈ks.take i
class inductive So
 | mk (r L:Addr) (rows:cS) (ss:List Int) (_:vs=[.ref r,.ref L]) (_:gp H r (rows.map aI)) (_:H L=some (.lst (ss.map V.int))) (_:ss.length<=1000) (_:rows.length<=1000) (_:(∀ es∈rows,es.length<=1000)) (_:gr rows) (_:DE rows) (_:(∀ s∈ss,0<=s/\s<rows.length)) (_ :
 ∀ (ks:List Int) (o:Addr) (H':Hp),H' o=some (.lst (ks.map V.int))->aL H H'->Ma rows ks->(∀ s∈ss,s∈ks)->ks.length<=1000->H o=none->Q (.ref o) H')
theorem Ma.snoc{rows:cS}{ks:List Int}{x:Int}(h:Ma rows ks)(h0:0<=x)(h1:x<rows.length)(hx:∀ y,jV rows x y->y∈ks):Ma rows (ks++[x]):=by
 refine⟨λy hy=>?_,λi y hi z hz=>?_⟩
 ·rcases List.mem_append.mp hy with q|q
  ·exact h.EH y q
  ·have:y=x:=by simpa using q
   lia
 ·by_cases c:i<ks.length
  ·rw[List.getElem?_append_left c]at hi;rw[List.take_append_of_le_length ∅];exact h.dn i y hi z hz
  ·have c2:i=ks.length:=by
    rcases Nat.lt_or_ge i (ks++[x]).length with q|q
    ·rw[dz,iy]at q;lia
    ·rw[List.getElem?_eq_none q]at hi;cases hi
   subst c2;rw[List.getElem?_append_right (gg _),Nat.sub_self]at hi;cases hi;rw[List.take_append_of_le_length (gg _),gK];exact hx z hz
theorem CM{kvs:List (fj × V)}{ks:List Int}(h:kvs.map (·.1)=ks.map Sum.inl)(x:Int):seen kvs x↔x∈ks:=by
 unfold seen;rw[← mT,List.any_eq_true];constructor
 ·rintro⟨p,hp,e⟩;have e':p.1=Sum.inl x:=of_decide_eq_true e;have:p.1∈ks.map (Sum.inl:Int->fj):=by rw[← h];exact List.mem_map_of_mem hp
  rw[e',List.mem_map]at this;obtain⟨y,hy,ey⟩:=this;rw[Sum.inl.inj ey]at hy;exact hy
 ·intro hx;have:(Sum.inl x:fj)∈kvs.map (·.1):=by rw[h];exact List.mem_map_of_mem hx
  obtain⟨p,hp,e⟩:=List.mem_map.mp this;exact⟨p,hp,decide_eq_true e⟩
structure Bel(rows:cS)(rk:Int->Nat)(H:Hp)(W S:Addr)(ss:List Int)(H2:Hp)(bs ps ks:List Int)(kvs:List (fj × V)):Prop where
 hW:H2 W=some (.lst ((bs++ps).map V.int))
 hS:H2 S=some (.dK kvs)
 sm:aL H H2
 ky:kvs.map (·.1)=ks.map Sum.inl
 tp:Ma rows ks
 rg:∀ x∈bs++ps,0<=x/\x<rows.length
 ns:∀ x∈ps,¬ seen kvs x
 pw:ps.Pairwise λa b=>rk b<rk a
 rb:∀ (i:Nat) (x:Int),ps[i]?=some x->rk x+i<=40
 st:∀ s∈ss,s∈bs\/s∈ks
 kl:kvs.length+oA rows.length kvs<=rows.length
 bl:bs.length<=1000
theorem CN{kvs:List (fj × V)}{k:fj}(v:V)(h:(cE kvs k).isSome=true):(eT kvs k v).map (·.1)=kvs.map (·.1):=by
 unfold eT;rw[if_pos (by rw[mT];exact h),List.map_map];refine List.map_congr_left λp _=>?_;show (if p.1=k then (p.1,v) else p).1=p.1
 split <;> rfl
theorem IQ{rk:Int->Nat}{ps:List Int}(rb:∀ (i:Nat) (x:Int),ps[i]?=some x->rk x+i<=40):ps.length<=41:=by
 rcases oZ ps with rfl|⟨p',n,rfl⟩
 ·simp
 ·rw[nA]at rb ⊢;have:=rb p'.length n (by rw[List.getElem?_append_right (gg _),Nat.sub_self];rfl);rw[dz,iy];lia
structure Top(rk:Int->Nat)(ss bs ps ks:List Int)(kvs:List (fj × V))(Bo wz:List Int)(n:Int):Prop where
 eq:bs++ps=Bo++wz++[n]
 ns:∀ x∈wz,¬ seen kvs x/\x≠n
 pw:wz.Pairwise λa b=>rk b<rk a
 rb:∀ (i:Nat) (x:Int),wz[i]?=some x->rk x+i<=40
 st:∀ s∈ss,s∈Bo\/s=n\/s∈ks
 old:seen kvs n->Bo.length+50-wz.length<bs.length+50-ps.length
 le:Bo.length+50-wz.length<=bs.length+51-ps.length
 bl:Bo.length<=bs.length
 up:∀ y:Int,rk y<=40->rk y<rk n->(ps++[y]).Pairwise (λa b=>rk b<rk a)/\∀ (i:Nat) (x:Int),(ps++[y])[i]?=some x->rk x+i<=40
theorem Bel.top{rows:cS}{rk:Int->Nat}{H:Hp}{W S:Addr}{ss:List Int}{H2:Hp}{bs ps ks:List Int}{kvs:List (fj × V)}(B:Bel rows rk H W S ss H2 bs ps ks kvs):bs++ps=[]\/∃ Bo wz n,Top rk ss bs ps ks kvs Bo wz n:=by
 have OM:∀ (qs:List Int) (y:Int),(∀ (i:Nat) (x:Int),qs[i]?=some x->rk x+i<=40)->rk y+qs.length<=40->∀ (i:Nat) (x:Int),(qs++[y])[i]?=some x->rk x+i<=40:=by
  intro qs y h1 h2 i x hx;rcases Nat.lt_or_ge i qs.length with q|q
  ·rw[List.getElem?_append_left q]at hx;exact h1 i x hx
  ·have qi:i=qs.length:=by
    rcases Nat.lt_or_ge i (qs++[y]).length with w|w
    ·rw[dz,iy]at w;lia
    ·rw[List.getElem?_eq_none w]at hx;cases hx
   subst qi;rw[List.getElem?_append_right (gg _),Nat.sub_self]at hx;cases hx;exact h2
 rcases oZ ps with rfl|⟨wz,n,rfl⟩
 ·rcases oZ bs with rfl|⟨Bo,n,rfl⟩
  ·exact .inl rfl
  ·rw[nA]at B ⊢;refine .inr ⟨Bo,[],n,by simp,by simp,by simp,by simp,λs hs=>?_,λ_=>?_,?_,?_,λy h1 h2=>⟨by simp,OM [] y (by simp) (by simpa using h1)⟩⟩
   ·rcases B.st s hs with z|z
    ·rcases List.mem_append.mp z with z|z
     ·exact .inl z
     ·exact .inr (.inl (by simpa using z))
    ·exact .inr (.inr z)
   ·rw[dz,iy];simp only[sI];lia
   ·rw[dz,iy];simp only[sI];lia
   ·rw[dz,iy];lia
 ·rw[nA]at B ⊢;have pwd:=List.pairwise_append.mp B.pw;have rbn:=B.rb wz.length n (by rw[List.getElem?_append_right (gg _),Nat.sub_self];rfl);refine .inr ⟨bs,wz,n,by rw[nB],λx hx=>⟨B.ns x (tT _ hx),λe=>?_⟩,pwd.1,λi x hx=>?_,λs hs=>(B.st s hs).elim .inl λz=>.inr (.inr z),λz=>absurd z (B.ns n (by simp)),?_,gg _,λy h1 h2=>⟨?_,OM _ y B.rb ?_⟩⟩
  ·subst e;exact Nat.lt_irrefl _ (pwd.2.2 x hx x (by simp))
  ·refine B.rb i x ?_;rw[List.getElem?_append_left]
   ·exact hx
   ·rcases Nat.lt_or_ge i wz.length with q|q
    ·exact q
    ·rw[List.getElem?_eq_none q]at hx;cases hx
  ·rw[dz,iy];lia
  ·rw[List.pairwise_append];refine⟨B.pw,by simp,λa ha c hc=>?_⟩;have:c=y:=by simpa using hc
   subst this;rcases List.mem_append.mp ha with q|q
   ·have:=pwd.2.2 a q n (by simp);lia
   ·have:a=n:=by simpa using q
    subst this;exact h2
  ·rw[dz,iy];lia
def UH(rows:cS)(rk:Int->Nat)(H:Hp)(r L W S:Addr)(ss:List Int)(m:Nat)(σ:L2.St)(H2:Hp):Prop:=∃ (bs ps ks:List Int) (kvs:List (fj × V)) (u v:Option V),σ=[some (.ref r),some (.ref L),some (.ref S),some (.ref W),u,v]/\Bel rows rk H W S ss H2 bs ps ks kvs/\m=100*oA rows.length kvs+(bs.length+50-ps.length)
theorem vJ:aH ["rows","sheets","told","waiting","number","missing"] ["rows","sheets"] (aA Dn):=eO
theorem F1:‹(2,12,["rows","sheets"],So)›:=λD=>by
 refine eV D.Ww.F vJ λcN A zn s0 H vs Q E hr h=>?_;obtain⟨r,L,rows,ss,rfl,hR,hL,hsl,dN,hes,qo,⟨rk,hrb,yC⟩,hin,k⟩:=h;have hu:=gC hr;refine⟨_,(aj (aW (i:=2) vJ.nd mU) (aj (aW (i:=3) vJ.nd (eN fX rfl D.T.jm tS (aa (pv 1) ah))) (aj (vf PassesOwn.never (mj (pv 3) (λ_=>rfl)) (aj (aW (i:=4) vJ.nd (aQ bH (pv 3) (gw eK ay))) (aj (RP (N:=["other","told"]) (i:=5) (nP (sc:=aA Dn) (NX:=["rows","sheets","told","waiting","number","missing"]) (jx:=[none,some 2]) rfl rfl rfl nofun nofun rfl nofun rfl nofun) rfl vJ.nd rfl rfl (cH (aG D.Wv (Af D) hr (aa (aQ bH (pv 0) (pv 4)) ah))) (λ_ _ _ _ _ _=>(cu (i:=0) (show List.Nodup (["other","told"]:List Str) by decide +kernel))) (λ_ _ _ _ _ _=>Kf (De (Cv hu (pv 0) (pv 1)))) (λ_ _ _ _ _ _=>(pv 0))) (au (bK (mj (pv 5) (λ_=>rfl)) (au (aY (dM qw jX jY bT (pv 3) (aa (aQ bH (pv 5) ay) ah)))) (aj (vA hu (pv 2) (pv 4) nI rfl) (au (aY (ND qw PySem.F.slot_list_pop PySem.F.type_list_pop NI (pv 3)))))))))) (au (aJ (eN (ID rfl) rfl D.T.jm tS (aa (pv 2) ah))))))),?_⟩;intro S hS;have s1:aL H (aP H S (.dK [])):=ak hS _;refine⟨Y,L,Y,.inl (bL.of (s1 _ _ hL)),λW hW=>?_⟩;have s2:=s1.trans (ak hW (.lst (ss.map V.int)))
 have Sq:H W=none:=by
  cases e:H W with
  | none=>rfl
  | some o=>exact absurd ((s1 _ _ e).symm.trans hW) (by simp)
 have UI:W≠S:=(aB af hW).symm;refine⟨UH rows rk H r L W S ss,⟨_,ss,[],[],[],none,none,rfl,⟨(by rw[af,gE]),ak hW _ _ _ af,s2,rfl,⟨(λx hx=>by cases hx),λi x hi=>by simp at hi⟩,(λx hx=>hin x (by simpa using hx)),by simp,by simp,by simp,(λs hs=>.inl hs),?_,hsl⟩,rfl⟩,?_⟩
 ·have:=zZ rows.length (λi=>(cE ([]:List (fj × V)) (Sum.inl (i:Int))).isNone);show 0+cnt rows.length _<=_;lia
 rintro m σ H2 ⟨bs,ps,ks,kvs,u,v,rfl,B,rfl⟩;exists Y,!((bs++ps).map V.int).isEmpty,.inl ⟨_,bL.of B.hW,rfl⟩;rcases B.top with en|⟨Bo,wz,n,t⟩
 ·have e2:(!((bs++ps).map V.int).isEmpty)=false:=by rw[en];rfl
  rw[e2];refine eY ?_
  have ek:kvs.map (λp=>kV p.1)=ks.map V.int:=by
   have z:kvs.map (λp=>kV p.1)=(kvs.map (·.1)).map kV:=by rw[List.map_map];rfl
   rw[z,B.ky,List.map_map];rfl
  have kl:ks.length=kvs.length:=by
   have z:=congrArg List.length B.ky;rw[cD,cD]at z;exact z.symm
  have kll:=B.kl;refine⟨Y,S,kvs,rfl,B.hS,λl hl=>?_⟩;refine k ks l _ (by rw[af,ek]) (B.sm.trans (ak hl _)) B.tp (λs hs=>(B.st s hs).elim (λz=>?_) id) ∅ ?_
  ·rw[(List.append_eq_nil_iff.mp en).1]at z;cases z
  cases e:H l with
  | none=>rfl
  | some o=>exact absurd ((B.sm _ _ e).symm.trans hl) (by simp)
 have eW:=B.hW;rw[t.eq]at eW;rw[t.eq];refine cI (λ_=>?_) (λz=>absurd (by simp) z);refine⟨fun σ' H'=>∃ m',m'<100*oA rows.length kvs+(bs.length+50-ps.length)/\UH rows rk H r L W S ss m' σ' H',fun σ' H' z=>z,?_⟩;have an:qx ((Bo++wz++[n]).map V.int) (-1)=some (.int n):=by rw[gG];exact fZ _ _
 obtain⟨n0,n1⟩:=B.rg n (by rw[t.eq];simp);have tl:=t.le;have QS:=t.bl;have pl:=IQ B.rb;have pl':=IQ t.rb;have bbl:=B.bl;obtain⟨es,ff⟩:∃ es,rows[n.toNat]?=some es:=⟨_,sF ∅⟩;have WS:=hes es (nF ff);obtain⟨yD,KC,vK⟩:=hR.same B.sm;obtain⟨vi,DP,hI⟩:=vK.get' (i:=n.toNat) (b:=aI es) (by rw[nG,ff];rfl);obtain⟨b,QD,rfl,hb,uB⟩:=id hI;have hil:=oO es []
 have vL:qx yD n=some (.ref b):=by
  have z:=cQ DP;rw[show ((n.toNat:Nat):Int)=n by lia]at z;exact z
 exists Y,Y,W,K,V,bL.of eW,an;refine⟨Y,Y,r,K,V,bL.of KC,vL,b,aI es,rfl,hI,?_,λz H4 hz s4 nz=>?_⟩
 ·show (es.foldl bw []).length<=_;simp only[sI]at hil;lia
 rw[iE]at hz;have aeb:(dQ es).length<=es.length:=List.length_filterMap_le _ es;have hS4:=s4 _ _ B.hS;have hW4:=s4 _ _ eW;refine⟨z,rfl,⟨_,bL.of hz⟩,λacc cY=>gz (K:=K) (a:=z) (xs:=(dQ es).map V.int) (λi σ H5=>∃ u:Option V,σ=[u,some (.ref S)]/\H5 acc=some (.lst ((((dQ es).take i).filter (λy=>(cE kvs (Sum.inl y)).isNone)).map V.int))/\aL H4 H5) ⟨none,rfl,af,ak cY _⟩ (by rintro i σ H5 _ ⟨_,_,_,s5⟩;exact bL.of (s5 _ _ hz)) ?_ ?_⟩
 ·rintro i x σ H5 hi ⟨u,rfl,h5,s5⟩;rw[nG]at hi;obtain⟨y,ey,rfl⟩:=Option.map_eq_some_iff.mp hi;have st:=take_snoc ey
  have bl:(((dQ es).take i).filter (λy=>(cE kvs (Sum.inl y)).isNone)).length<=1000:=by
   have z:=List.length_filter_le (λy=>(cE kvs (Sum.inl y)).isNone) ((dQ es).take i);rw[gy]at z;lia
  exists Y,Y,S,Y,iD.k (k:=Sum.inl y) (s5 _ _ hS4),Y
  cases ev:cE kvs (Sum.inl y) with
  | none =>
   refine gR ⟨Y,_,h5,(by rw[cD];exact aV ∅),Y,?_,bP cY s5 (aM acc _ _)⟩;rw[af,st,List.filter_append,List.filter_cons_of_pos (p:=λy=>(cE kvs (Sum.inl y)).isNone) (by rw[ev];rfl),gG];rfl
  | some o =>
   refine eY ⟨Y,?_,s5⟩;rw[st,List.filter_append,List.filter_cons_of_neg (p:=λy=>(cE kvs (Sum.inl y)).isNone) (by rw[ev];exact gB),List.filter_nil,gE];exact h5
 rintro σ H5 ⟨u,rfl,h5,s5⟩;rw[cD,gK]at h5;have hS5:=s5 _ _ hS4;have hW5:=s5 _ _ hW4;have sm5:=B.sm.trans (s4.trans s5);have kll:=B.kl;exists Y,_,.inl ⟨_,bL.of h5,rfl⟩
 cases em:(dQ es).filter (λy=>(cE kvs (Sum.inl y)).isNone) with
 | nil =>
  refine eY ?_
  have aee:∀ y,jV rows n y->y∈ks:=by
   rintro y ⟨_,tV,Kg,hy⟩;rw[ff]at Kg;cases Kg;rw[← CM B.ky];have z:=List.filter_eq_nil_iff.mp em y hy;unfold seen
   cases q:cE kvs (Sum.inl y) with
   | none=>rw[q]at z;exact absurd rfl z
   | some o=>rfl
  refine⟨Y,Y,S,Y,DA.k (k:=Sum.inl n) hS5 (aV ∅),?_⟩;have QE:(aP H5 S (.dK (eT kvs (Sum.inl n) (.bl true)))) W=some (.lst ((Bo++wz++[n]).map V.int)):=by rw[aN UI];exact hW5
  refine⟨Y,.inl ⟨rfl,_,bL.of QE⟩,W,_,.int n,V,QE,(by simp),?_⟩;have ee:((Bo++wz++[n]).map V.int).dropLast=(Bo++wz).map V.int:=by rw[gG (l₁:=Bo++wz),List.map_singleton,List.dropLast_concat]
  rw[ee];have rg':∀ x∈Bo++wz,0<=x/\x<rows.length:=λx hx=>B.rg x (by rw[t.eq];exact tT _ hx)
  cases en:cE kvs (Sum.inl n) with
  | none =>
   have mp:=FJ (n:=rows.length) (.bl true) n0 n1 en;refine⟨100*oA rows.length (eT kvs (Sum.inl n) (.bl true))+(Bo.length+50-wz.length),Q,Bo,wz,ks++[n],eT kvs (Sum.inl n) (.bl true),P,rfl,⟨af,(by rw[aN UI.symm,af]),bP Sq (bP hS sm5 (aM S _ _)) (aM W _ _),?_,B.tp.snoc n0 n1 aee,rg',λx hx=>?_,t.pw,t.rb,λs hs=>?_,?_,Q⟩,rfl⟩
   ·rw[zT _ en,gG,B.ky,gG];rfl
   ·intro q;rcases (FI _).mp q with e|e
    ·exact (t.ns x hx).2 e
    ·exact (t.ns x hx).1 e
   ·rcases t.st s hs with q|q|q
    ·exact .inl q
    ·exact .inr (by rw[q];simp)
    ·exact .inr (tT _ q)
   ·rw[zT _ en,dz,iy]at *;lia
  | some o =>
   have sn:seen kvs n:=by unfold seen;rw[en];rfl
   have so:=t.old sn
   have sp:∀ x,seen (eT kvs (Sum.inl n) (.bl true)) x↔seen kvs x:=λx=>by
    rw[FI];exact⟨λz=>z.elim (λe=>by rw[e];exact sn) id,.inr⟩
   have ms:oA rows.length (eT kvs (Sum.inl n) (.bl true))=oA rows.length kvs:=by
    refine Oo _ λi _=>?_;have z:=sp (i:Int);unfold seen at z
    cases q1:cE (eT kvs (Sum.inl n) (.bl true)) (Sum.inl (i:Int)) with
    | none =>
     cases q2:cE kvs (Sum.inl (i:Int)) with
     | none=>rfl
     | some o2=>rw[q1,q2]at z;exact absurd (z.mpr rfl) gB
    | some o1 =>
     cases q2:cE kvs (Sum.inl (i:Int)) with
     | none=>rw[q1,q2]at z;exact absurd (z.mp rfl) gB
     | some o2=>rfl
   have kn:n∈ks:=(CM B.ky n).mp sn;refine⟨100*oA rows.length (eT kvs (Sum.inl n) (.bl true))+(Bo.length+50-wz.length),by rw[ms];lia,Bo,wz,ks,eT kvs (Sum.inl n) (.bl true),P,rfl,⟨af,(by rw[aN UI.symm,af]),bP Sq (bP hS sm5 (aM S _ _)) (aM W _ _),?_,B.tp,rg',λx hx q=>(t.ns x hx).1 ((sp x).mp q),t.pw,t.rb,λs hs=>?_,?_,Q⟩,rfl⟩
   ·rw[CN _ (by rw[en];rfl),B.ky]
   ·rcases t.st s hs with q|q|q
    ·exact .inl q
    ·exact .inr (by rw[q];exact kn)
    ·exact .inr q
   ·have z:=congrArg List.length (CN (kvs:=kvs) (k:=Sum.inl n) (.bl true) (by rw[en];rfl));rw[cD,cD]at z;rw[z,ms];exact kll
 | cons y ts =>
  refine gR ?_;rw[em]at h5;have ym:y∈(dQ es).filter (λy=>(cE kvs (Sum.inl y)).isNone):=by rw[em];simp
  obtain⟨yw,yn⟩:=List.mem_filter.mp ym;have Hr:jV rows n y:=⟨n0,es,ff,yw⟩;obtain⟨y0,y1⟩:=qo.EK Hr;obtain⟨up1,up2⟩:=t.up y (hrb y) (yC n y Hr);have wl:=congrArg List.length t.eq;rw[dz]at wl;refine⟨Y,.inl ⟨rfl,_,bL.of hW5⟩,Y,acc,K,V,bL.of h5,cQ (xs:=V.int y::ts.map V.int) (j:=0) rfl,W,Z,hW5,(by rw[cD,← wl];exact aV ∅),?_⟩;have pl2:=IQ up2;rw[dz,iy]at pl2;refine⟨100*oA rows.length kvs+(bs.length+50-(ps++[y]).length),?_,bs,ps++[y],ks,kvs,P,rfl,⟨(by rw[af,← nB,t.eq,gG (l₁:=Bo++wz++[n])];rfl),(by rw[aN UI.symm];exact hS5),bP Sq sm5 (aM W _ _),B.ky,B.tp,λx hx=>?_,λx hx=>?_,up1,up2,B.st,kll,bbl⟩,rfl⟩
  ·rw[dz,iy];lia
  ·rw[← nB]at hx;rcases List.mem_append.mp hx with q|q
   ·exact B.rg x q
   ·have:x=y:=by simpa using q
    subst this;exact⟨y0,y1⟩
  ·rcases List.mem_append.mp hx with q|q
   ·exact B.ns x q
   ·have:x=y:=by simpa using q
    subst this;intro q;unfold seen at q
    cases w:cE kvs (Sum.inl x) with
    | none=>rw[w]at q;cases q
    | some o=>rw[w]at yn;cases yn
structure Bfs(rows:cS)(H:Hp)(W S:Addr)(s:Int)(H2:Hp)(vs:List V)(wl:cS)(kvs:List (fj × V)):Prop where
 hW:H2 W=some (.lst vs)
 hl:bU (fN (λa=>a=W\/a=S) H2) vs wl
 hS:H2 S=some (.dK kvs)
 sm:aL H H2
 wk:∀ w∈wl,w.length<=kvs.length+1/\∃ e,w.getLast?=some e/\0<=e/\e<rows.length/\(e=s\/Reach (jV rows) s e)
 kl:kvs.length+oA rows.length kvs<=rows.length
class inductive UJ
 | mk (r:Addr) (rows:cS) (s g:Int) (_:vs=[.ref r,.int s,.int g]) (_:gp H r (rows.map aI)) (_:rows.length<=1000) (_:(∀ es∈rows,es.length<=1000)) (_:gr rows) (_:0<=s) (_:s<rows.length) (_:¬ Reach (jV rows) s g) (_:∀ H',aL H H'->Q .fH H')
theorem iV:aH ["rows","start","goal","ways","seen","way","number"] ["rows","start","goal"] (aA pF):=eO
def muW(n:Nat)(W S:Addr):L2.St->Hp->Nat:=λ_ H=>match H W,H S with
 | some (.lst vs),some (.dK kvs)=>2*oA n kvs+vs.length
 | _,_=>0
theorem ON{n:Nat}{W S:Addr}{σ:L2.St}{H:Hp}{vs:List V}{kvs:List (fj × V)}(h1:H W=some (.lst vs))(h2:H S=some (.dK kvs)):muW n W S σ H=2*oA n kvs+vs.length:=by
 unfold muW;rw[h1,h2]
def UK(rows:cS)(H:Hp)(r W S:Addr)(s g:Int)(σ:L2.St)(H2:Hp):Prop:=∃ (vs:List V) (wl:cS) (kvs:List (fj × V)) (u v:Option V),σ=[some (.ref r),some (.int s),some (.int g),some (.ref W),some (.ref S),u,v]/\Bfs rows H W S s H2 vs wl kvs/\vs.length+2*oA rows.length kvs<=2*rows.length+1
theorem Ag:‹(2,13,["rows","start","goal"],UJ)›:=λD=>by
 refine eV D.ZR.F iV λcN A zn s0 H vs Q E hr h=>?_;obtain⟨r,rows,s,g,rfl,hR,dN,hes,qo,h0,h1,nr,kN⟩:=h;have hu:=gC hr;refine⟨_,(aj (aW (i:=3) iV.nd (bN (aa (bN (aa (pv 1) ah)) ah))) (aj (aW (i:=4) iV.nd mU) (aj (vf PassesOwn.never (mj (pv 3) (λ_=>rfl)) (aj (aW (i:=5) iV.nd (dM qw PySem.F.slot_list_pop PySem.F.type_list_pop NJ (pv 3) (aa ay ah))) (au (d7 PassesOwn.never rfl (cH (aG D.Wv (Af D) hr (aa (aQ bH (pv 0) (aQ bH (pv 5) (gw eK ay))) ah))) (cu (i:=6) iV.nd) (aj (bK (aT dY (pv 6) (pv 2) (bq _)) (au (aJ (bC jA (pv 5) (bN (aa (pv 2) ah))))) aX) (au (bK (De (Cv hu (pv 6) (pv 4))) (aj (vA hu (pv 4) (pv 6) nI rfl) (au (aY (dM qw jX jY bT (pv 3) (aa (bC jA (pv 5) (bN (aa (pv 6) ah))) ah))))) aX))))))) (au (aJ zk))))),?_⟩;refine⟨Y,jS,λa0 KD=>⟨jS,λW hW=>?_⟩⟩;intro S hS;have s1:aL H (aP H a0 (.lst [.int s])):=ak KD _;have s2:=s1.trans (ak hW (.lst [.ref a0]));have s3:=s2.trans (ak hS (.dK []))
 have Sq:H W=none:=by
  cases e:H W with
  | none=>rfl
  | some o=>exact absurd ((s1 _ _ e).symm.trans hW) (by simp)
 have H0S:H S=none:=by
  cases e:H S with
  | none=>rfl
  | some o=>exact absurd ((s2 _ _ e).symm.trans hS) (by simp)
 have UI:W≠S:=aB af hS;have n0W:a0≠W:=aB af hW;have n0S:a0≠S:=aB (ak hW _ _ _ af) hS;exists λm σ H2=>m=muW rows.length W S σ H2/\UK rows H r W S s g σ H2,⟨Y,?_⟩
 ·have cl:=zZ rows.length (λi=>(cE ([]:List (fj × V)) (Sum.inl (i:Int))).isNone);refine⟨[.ref a0],[[s]],[],none,none,rfl,⟨ak hS _ _ _ af,.cons ⟨a0,rfl,(λz=>z.elim n0W n0S),ak hS _ _ _ (ak hW _ _ _ af)⟩ .nil,af,s3,?_,?_⟩,?_⟩
  ·intro w hw;have:w=[s]:=by simpa using hw
   subst this;exact⟨by simp,s,rfl,h0,h1,.inl rfl⟩
  ·show 0+oA rows.length []<=rows.length;unfold oA;lia
  ·show 1+2*oA rows.length []<=_;unfold oA;lia
 ·rintro m σ H2 ⟨rfl,vs,wl,kvs,u,v,rfl,B,hml⟩;rw[ON B.hW B.hS];exists Y,!vs.isEmpty,.inl ⟨vs,bL.of B.hW,rfl⟩
  cases vs with
  | nil =>
   exact eY (kN H2 B.sm)
  | cons v0 DC =>
   refine gR ⟨fun σ' H'=>UK rows H r W S s g σ' H'/\muW rows.length W S σ' H'<2*oA rows.length kvs+(v0::DC).length,fun σ' H' ⟨p,l⟩=>⟨_,l,rfl,p⟩,?_⟩;obtain⟨hW2,Cb,Wj,sm2,wk2,kl2⟩:=id B
   cases Cb with
   | @cons _ w0 _ Yb hv0 aeh =>
   obtain⟨wa,rfl,nwa,hwa⟩:=id hv0;obtain⟨wlw,e,hle,e0,e1,es0⟩:=wk2 w0 (by simp)
   have wal:∃ w1,w0=w1++[e]:=by
    rw[List.getLast?_eq_some_iff]at hle;exact hle
   obtain⟨w1,rfl⟩:=wal;obtain⟨es,ff⟩:∃ es,rows[e.toNat]?=some es:=⟨_,sF ∅⟩;have aei:es∈rows:=nF ff;have WS:=hes es aei;exists Y,.inl ⟨rfl,_,bL.of hW2⟩,W,_,0,0,.ref wa,V,hW2,E,E,(by simp[seqIndex?]),rfl;have ee:(V.ref wa::DC).eraseIdx 0=DC:=rfl;rw[ee];have aaH:∀ {v:V} {ns:List Int},fN (λa=>a=W\/a=S) H2 v ns->fN (λa=>a=W\/a=S) (aP H2 W (.lst DC)) v ns:=λh=>h.at _ (.inl rfl);have OO:aL H (aP H2 W (.lst DC)):=bP Sq sm2 (aM W _ _);obtain⟨yD,IP,vK⟩:=hR.same OO;obtain⟨vi,DP,hI⟩:=vK.get' (i:=e.toNat) (b:=aI es) (by rw[nG,ff];rfl);obtain⟨b,QD,rfl,hb,uB⟩:=id hI
   have aej:(aP H2 W (.lst DC)) wa=some (.lst (w1.map V.int++[.int e])):=by
    rw[aN (λz=>nwa (.inl z)),hwa,gG];rfl
   have hil:=oO es [];refine⟨Y,Y,Y,wa,K,V,bL.of aej,fZ _ _,r,K,V,bL.of IP,?_,b,aI es,rfl,hI,?_,λz H4 hz s4 nz=>?_⟩
   ·have z:=cQ DP;rw[show ((e.toNat:Nat):Int)=e by lia]at z;exact z
   ·show (es.foldl bw []).length<=_;simp only[sI]at hil;lia
   rw[iE]at hz;have hW3:(aP H2 W (.lst DC)) W=some (.lst DC):=af;have Mb:(aP H2 W (.lst DC)) S=some (.dK kvs):=by rw[aN UI.symm];exact Wj
   have nzW:z≠W:=(aB hW3 nz).symm;have nzS:z≠S:=(aB Mb nz).symm;have aeb:(dQ es).length<=es.length:=List.length_filterMap_le _ es;refine⟨z,rfl,⟨_,bL.of hz⟩,dO (K:=K) (a:=z) (xs:=(dQ es).map V.int) (λi σ H5=>∃ (QF:List V) (Yc:cS) (qz:List (fj × V)) (v:Option V),σ=[some (.ref r),some (.int s),some (.int g),some (.ref W),some (.ref S),some (.ref wa),v]/\ Bfs rows H W S s H5 QF Yc qz/\fN (λa=>a=W\/a=S) H5 (.ref wa) (w1++[e])/\fN (λa=>a=W\/a=S) H5 (.ref z) (dQ es)/\QF.length+2*oA rows.length qz<=DC.length+2*oA rows.length kvs/\kvs.length<=qz.length) ?_ ?_ ?_ ?_⟩
   ·refine⟨DC,Yb,kvs,Y,⟨s4 _ _ hW3,aeh.mono λ_ _ h=>(aaH h).same s4,s4 _ _ Mb,OO.trans s4,λw hw=>wk2 w (nu _ hw),kl2⟩,(aaH hv0).same s4,⟨z,rfl,λq=>q.elim nzW nzS,hz⟩,gg _,gg _⟩
   ·rintro i σ H5 _ ⟨_,_,_,_,_,_,_,⟨a,ea,_,ha⟩,_⟩;cases ea;exact bL.of ha
   ·rintro i x σ H5 hi ⟨QF,Yc,qz,v,rfl,B5,Ss,hz5,Yd,hk5⟩;rw[nG]at hi;obtain⟨y,ey,rfl⟩:=Option.map_eq_some_iff.mp hi;have Hr:jV rows e y:=⟨e0,es,ff,nF ey⟩;obtain⟨y0,y1⟩:=qo.EK Hr
    have sy:Reach (jV rows) s y:=by
     rcases es0 with rfl|q
     ·exact .one Hr
     ·exact .step q Hr
    obtain⟨wa',ewa,ael,aaI⟩:=id Ss;cases ewa;have wl0:(w1++[e]).length<=2000:=by have:=B5.kl;lia
    refine⟨Y,Y,rfl,Y,cI (λc=>?_) (λc=>?_)⟩
    ·have eg:y=g:=V.int.inj (of_decide_eq_true c);exact absurd (eg ▸ sy) nr
    ·exists Y,Y,S,Y,iD.k (k:=Sum.inl y) B5.hS,Y
     cases ev:cE qz (Sum.inl y) with
     | some o1 =>
      refine eY ?_;exact⟨QF,Yc,qz,Y,B5,Ss,hz5,Yd,hk5⟩
     | none =>
      refine gR ?_;have kll:=B5.kl;refine⟨Y,Y,S,Y,DA.k (k:=Sum.inl y) B5.hS (aV ∅),?_⟩;have e6:∀ {v:V} {ns:List Int},fN (λa=>a=W\/a=S) H5 v ns->fN (λa=>a=W\/a=S) (aP H5 S (.dK (eT qz (Sum.inl y) (.bl true)))) v ns:=λh=>h.at _ (.inr rfl);have s6:aL H (aP H5 S (.dK (eT qz (Sum.inl y) (.bl true)))):=bP H0S B5.sm (aM S _ _);have QE:(aP H5 S (.dK (eT qz (Sum.inl y) (.bl true)))) W=some (.lst QF):=by rw[aN UI];exact B5.hW
      have aaJ:(aP H5 S (.dK (eT qz (Sum.inl y) (.bl true)))) wa=some (.lst ((w1++[e]).map V.int)):=by rw[aN (λq=>ael (.inr q))];exact aaI
      have WT:(aP H5 S (.dK (eT qz (Sum.inl y) (.bl true)))) S=some (.dK (eT qz (Sum.inl y) (.bl true))):=af;generalize aP H5 S (.dK (eT qz (Sum.inl y) (.bl true)))=H6 at e6 s6 QE aaJ WT;have vl:QF.length<sizeLine:=aV (by simp only[ny]at hml;lia);refine⟨Y,.inl ⟨rfl,_,bL.of QE⟩,Y,Y,jS,λb1 KA=>⟨wa,b1,Z,ak KA _ _ _ aaJ,af,gM (aV (by rw[cD];simp at wl0 ⊢;lia)),λo ho=>⟨W,Z,ak ho _ _ _ (ak KA _ _ _ QE),vl,?_⟩⟩⟩;have s7:aL H6 (aP H6 b1 (.lst [.int y])):=ak KA _;have s8:=s7.trans (ak ho (.lst ((w1++[e]).map V.int++[.int y])));have noW:o≠W:=(aB (s7 _ _ QE) ho).symm;have Hs:o≠S:=(aB (s7 _ _ WT) ho).symm;have e9:∀ {v:V} {ns:List Int},fN (λa=>a=W\/a=S) H5 v ns->fN (λa=>a=W\/a=S) (aP (aP (aP H6 b1 (.lst [.int y])) o (.lst ((w1++[e]).map V.int++[.int y]))) W (.lst (QF++[.ref o]))) v ns:=λh=>((e6 h).same s8).at _ (.inl rfl);have mp:=FJ (n:=rows.length) (.bl true) y0 y1 ev;have pl:(eT qz (Sum.inl y) (.bl true)).length=qz.length+1:=by rw[zT _ ev];simp
      exists QF++[.ref o],Yc++[w1++[e]++[y]],eT qz (Sum.inl y) (.bl true),Y,⟨af,bU.snoc (B5.hl.mono λ_ _ h=>e9 h) ⟨o,rfl,λq=>q.elim noW Hs,?_⟩,?_,bP Sq (s6.trans s8) (aM W _ _),?_,?_⟩,e9 Ss,e9 hz5,?_
      ·rw[aN noW,af,gG (l₁:=w1++[e])];rfl
      ·rw[aN UI.symm];exact s8 _ _ WT
      ·intro w hw;rcases List.mem_append.mp hw with q|q
       ·obtain⟨q2,q3⟩:=B5.wk w q;exact⟨Q,q3⟩
       ·have:w=w1++[e]++[y]:=by simpa using q
        subst this;refine⟨?_,y,by simp,y0,y1,.inr sy⟩;rw[dz,iy,pl];lia
      ·lia
      ·rw[dz,iy];lia
      ·lia
   ·rintro σ H5 ⟨QF,Yc,qz,v,rfl,B5,Ss,hz5,Yd,hk5⟩;simp only[ny]at hml;exists ⟨QF,Yc,qz,P,rfl,B5,Q⟩;rw[ON B5.hW B5.hS,ny];lia
class inductive WU
 | mk (r:Addr) (s:Int) (_:vs=[.ref r,.int s]) (_:UJ [.ref r,.int s,.int s] H Q E)
theorem WV:aH ["rows","sheet"] ["rows","sheet"] (aA NT):=eO
theorem Su:‹(3,14,["rows","sheet"],WU)›:=λD=>by
 specialize eV D.ZS.F WV;obtain⟨r,s,rfl,h⟩:=h;exists _,(au (aJ (aG D.ZR (Ag D) hr (aa (pv 0) (aa (pv 1) (aa (pv 1) ah))))));exists Y,Y,Y;obtain⟨r',rows,s',g,e,h1,h2,h3,h4,h5,h6,nr,kN⟩:=h;cases e;exact⟨r,rows,s,s,rfl,h1,h2,h3,h4,h5,h6,nr,kN⟩
def jT(f:Int->Int)(es:List Int):Int:=(es.map λe=>if e<0 then 1+f (-1-e) else 1).sum
def DQ(f:Int->Int):aR->Int
 | .win n=>1+f n
 | .aK a b=>b-a
def F2(f:Int->Int)(aO:List aR):Int:=(aO.map (DQ f)).sum
theorem mY(f:Int->Int)(a b:List aR):F2 f (a++b)=F2 f a+F2 f b:=by unfold F2;rw[gG,List.sum_append]
theorem OP(f:Int->Int)(t:List aR)(e:Int):F2 f (bw t e)=F2 f t+(if e<0 then 1+f (-1-e) else 1):=by
 unfold bw;by_cases h:e<0
 ·rw[if_pos h,if_pos h,mY];simp[F2,DQ]
 ·rw[if_neg h,if_neg h];rcases oZ t with rfl|⟨t',l,rfl⟩
  ·simp[F2,DQ];lia
  ·rw[nA,sG]
   cases l with
   | win n =>
    show F2 f (t'++[aR.win n]++[.aK e (e+1)])=_;rw[mY];simp[F2,DQ];lia
   | aK a b =>
    show F2 f (if b=e then (t'++[aR.aK a b]).dropLast++[.aK a (e+1)] else (t'++[aR.aK a b])++[.aK e (e+1)])=_;by_cases hb:b=e
    ·rw[if_pos hb,List.dropLast_concat,mY,mY];simp[F2,DQ];lia
    ·rw[if_neg hb,mY];simp[F2,DQ];lia
theorem Mc(f:Int->Int)(es:List Int):F2 f (aI es)=jT f es:=by
 have z:∀ t:List aR,F2 f (es.foldl bw t)=F2 f t+jT f es:=by
  induction es with
  | nil=>intro t;simp[jT]
  | cons e es ih =>
   intro t;rw[l6,ih,OP];unfold jT;rw[jy,List.sum_cons];lia
 have:=z [];unfold aI;rw[this];simp[F2]
def Weighs(rows:cS)(f:Int->Int):Prop:=∀ (x:Int) (es:List Int),0<=x->rows[x.toNat]?=some es->f x=jT f es
def wF(rows:cS):Nat->Int->Int
 | 0,_=>0
 | k+1,x=>match rows[x.toNat]? with
  | some es=>jT (wF rows k) es
  | none=>0
theorem IS{f g:Int->Int}{es:List Int}(h:∀ y∈dQ es,f y=g y):jT f es=jT g es:=by
 unfold jT;congr 1;refine List.map_congr_left λe he=>?_;by_cases c:e<0
 ·rw[if_pos c,if_pos c,h (-1-e) (b8.mpr ⟨Q,by rw[show -1-(-1-e)=e by lia];exact he⟩)]
 ·rw[if_neg c,if_neg c]
theorem Me{rows:cS}(h:DE rows):∃ f,Weighs rows f:=by
 obtain⟨rk,hb,hd⟩:=h
 have key:∀ (k:Nat) (x:Int),0<=x->rk x<k->wF rows k x=wF rows (k+1) x:=by
  intro k
  induction k with
  | zero=>intro x _ h;lia
  | succ k ih =>
   intro x x0 hx
   cases e:rows[x.toNat]? with
   | none=>simp[wF,e]
   | some es =>
    have e1:wF rows (k+1) x=jT (wF rows k) es:=by simp[wF,e]
    have e2:wF rows (k+1+1) x=jT (wF rows (k+1)) es:=by
     show (match rows[x.toNat]? with|some es=>jT (wF rows (k+1)) es|none=>0)=_;rw[e]
    rw[e1,e2];refine IS λy hy=>ih y (b8.mp hy).1 ?_;have:=hd x y ⟨x0,es,e,hy⟩;lia
 refine⟨wF rows 41,λx es x0 he=>?_⟩;rw[key 41 x x0 (by have:=hb x;lia)];show (match rows[x.toNat]? with|some es=>jT (wF rows 41) es|none=>0)=_;rw[he]
class inductive aem
 | mk (v:V) (it:aR) (S:Addr) (kvs:List (fj × V)) (f:Int->Int) (_:vs=[v,.ref S]) (_:cU H v it) (_:H S=some (.dK kvs)) (_:(∀ n,it=.win n->cE kvs (Sum.inl n)=some (.int (f n)))) (_:Q (.int (DQ f it)) H)
theorem Bp:aH ["item","weights"] ["item","weights"] (aA pG):=eO
theorem Ah:‹(1,15,["item","weights"],aem)›:=λD=>by
 specialize eV D.ZT.F Bp;obtain⟨v,it,S,kvs,f,rfl,⟨a,rfl,ha⟩,hS,hw,k⟩:=h;have hu:=gC hr;exists _,(aj (bK (aT dY (aQ bx (pv 0) ay) br (bq _)) (au (aJ (bC cT ay (gj hu (pv 1) (aQ bx (pv 0) ay))))) aX) (au (aJ (bC cK (aQ bx (pv 0) ay) (aQ bx (pv 0) ay)))))
 cases it with
 | win n =>
  refine⟨Y,a,K,V,dG.of ha,V,Y,cI (λ_=>?_) (λz=>absurd (by decide) z)⟩;have z:=iD.k (k:=Sum.inl n) hS;rw[hw n rfl]at z;exact⟨Y,Y,a,K,V,dG.of ha,rfl,S,Y,z,Z,k⟩
 | aK p q =>
  refine⟨Y,a,K,V,dG.of ha,V,Y,cI (λz=>absurd z (by decide)) (λ_=>?_)⟩;exact⟨Y,a,K,V,dG.of ha,rfl,Y,a,K,V,dG.of ha,rfl,Z,k⟩
class inductive IT
 | mk (r L:Addr) (rows:cS) (ss:List Int) (f:Int->Int) (_:vs=[.ref r,.ref L]) (_:gp H r (rows.map aI)) (_:H L=some (.lst (ss.map V.int))) (_:ss.length<=1000) (_:rows.length<=1000) (_:(∀ es∈rows,es.length<=1000)) (_:gr rows) (_:DE rows) (_:(∀ s∈ss,0<=s/\s<rows.length)) (_:Weighs rows f) (_ :
 ∀ (S:Addr) (kvs:List (fj × V)) (H':Hp),H' S=some (.dK kvs)->(∀ s∈ss,cE kvs (Sum.inl s)=some (.int (f s)))->aL H H'->H S=none->Q (.ref S) H')
theorem lC:aH ["rows","sheets","weights","number"] ["rows","sheets"] (aA jB):=eO
theorem xm:‹(3,16,["rows","sheets"],IT)›:=λD=>by
 refine eV D.ZU.F lC λcN A zn s0 H vs Q E hr h=>?_;obtain⟨r,L,rows,ss,f,rfl,hR,hL,hsl,dN,hes,qo,yC,hin,hf,k⟩:=h;have hu:=gC hr;refine⟨_,(aj (aW (i:=2) lC.nd mU) (aj (d7 PassesOwn.never rfl (cH (aG D.Ww (F1 D) hr (aa (pv 0) (aa (pv 1) ah)))) (cu (i:=3) lC.nd) (au (vA hu (pv 2) (pv 3) (cC (Fe rfl) rfl D.T.UC PyProof.Rows.boot_sum (aa (gV (N:=["item","weights"]) (nP (sc:=aA jB) (NX:=["rows","sheets","weights","number"]) (jx:=[none,some 2]) rfl rfl rfl nofun nofun rfl nofun rfl nofun) rfl (cH (aQ bH (pv 0) (pv 3))) (λ_ _ _ _ _ _=>(cu (i:=0) (show List.Nodup (["item","weights"]:List Str) by decide +kernel))) (λ_ _ _ _ _ _=>gI) (λ_ _ _ _ _ _=>(aG D.ZT (Ah D) hr (aa (pv 0) (aa (pv 1) ah))))) ah)) rfl))) (au (aJ (pv 2))))),?_⟩;intro S hS;have s1:aL H (aP H S (.dK [])):=ak hS _;refine⟨Y,Y,r,L,rows,ss,rfl,hR.same s1,s1 _ _ hL,hsl,dN,hes,qo,yC,hin,λks o H2 ho s2 tp sk kl Ul=>?_⟩;have Wj:=s2 _ _ (af (H:=H) (a:=S) (o:=.dK []));have Hs:o≠S:=(aB af Ul).symm;refine⟨o,rfl,⟨_,bL.of ho⟩,dO (K:=K) (a:=o) (xs:=ks.map V.int) (λi σ H3=>∃ (kvs:List (fj × V)) (u:Option V),σ=[some (.ref r),some (.ref L),some (.ref S),u]/\H3 S=some (.dK kvs)/\(∀ y∈ks.take i,cE kvs (Sum.inl y)=some (.int (f y)))/\kvs.length<=i/\(∀ a ob,a≠S->H2 a=some ob->H3 a=some ob)) ⟨[],none,rfl,Wj,(λy hy=>by simp at hy),gg _,λ_ _ _ e=>e⟩ ?_ ?_ ?_⟩
 ·rintro i σ H3 _ ⟨_,_,_,_,_,_,k3⟩;exact bL.of (k3 o _ Hs ho)
 ·rintro i x σ H3 hi ⟨kvs,u,rfl,Mb,M5,hk3,k3⟩;rw[nG]at hi;obtain⟨x,ex,rfl⟩:=Option.map_eq_some_iff.mp hi;obtain⟨x0,x1⟩:=tp.EH x (nF ex);obtain⟨es,ff⟩:∃ es,rows[x.toNat]?=some es:=⟨_,sF ∅⟩;have WS:=hes es (nF ff);have OO:aL H H3:=λa ob e=>k3 a ob (aB e hS) (s2 _ _ (s1 _ _ e));obtain⟨yD,IP,vK⟩:=hR.same OO;obtain⟨vi,DP,hI⟩:=vK.get' (i:=x.toNat) (b:=aI es) (by rw[nG,ff];rfl);obtain⟨b,QD,rfl,hb,uB⟩:=id hI;have hil:=oO es []
  have aj5:(aI es).length<=1000:=by
   show (es.foldl bw []).length<=_;simp only[sI]at hil;lia
  have vL:qx yD x=some (.ref b):=by
   have z:=cQ DP;rw[show ((x.toNat:Nat):Int)=x by lia]at z;exact z
  refine⟨Y,Y,r,K,V,bL.of IP,vL,b,rfl,⟨_,bL.of hb⟩,λacc cY=>gz (K:=K) (a:=b) (xs:=QD) (λj σ H5=>∃ u:Option V,σ=[u,some (.ref S)]/\H5 acc=some (.lst ((((aI es).take j).map (DQ f)).map V.int))/\aL H3 H5) ⟨none,rfl,af,ak cY _⟩ (λj σ H5 _ ⟨K,s5⟩=>bL.of (s5 _ _ hb)) ?_ ?_⟩
  ·rintro j v σ H5 hj ⟨u,rfl,h5,s5⟩;obtain⟨it,ei,hiv⟩:=uB.get hj;have st:=take_snoc ei;unfold sV N9;refine gR ⟨Y,Y,v,it,S,kvs,f,rfl,hiv.same s5,s5 _ _ Mb,λn hn=>?_,?_⟩
   ·subst hn;refine M5 n (tp.dn i x ex n ⟨x0,es,ff,?_⟩);rw[← iE];unfold fc;rw[List.mem_filterMap];exact⟨.win n,nF ei,rfl⟩
   ·refine⟨_,h5,(by rw[cD,cD,gy];exact aV ∅),Y,?_,bP cY s5 (aM acc _ _)⟩;rw[af,st,gG,gG];rfl
  ·rintro σ H5 ⟨u,rfl,h5,s5⟩;rw[uB.len,gK]at h5;have es1:((aI es).map (DQ f)).sum=f x:=by rw[hf x es x0 ff];exact Mc f es
   have hS5:=s5 _ _ Mb
   have kvl:i<ks.length:=by
    rcases Nat.lt_or_ge i ks.length with q|q
    ·exact q
    ·rw[List.getElem?_eq_none q]at ex;cases ex
   exists acc,Y,bL.of h5;rw[es1];refine⟨Y,Y,S,Y,DA.k (k:=Sum.inl x) hS5 (aV ∅),?_⟩;refine⟨eT kvs (Sum.inl x) (.int (f x)),Y,af,λy hy=>?_,?_,λa ob n e=>?_⟩
   ·rw[kC];rw[take_snoc ex]at hy;by_cases c:y=x
    ·rw[if_pos (by rw[c]),c]
    ·rw[if_neg (λz=>c (Sum.inl.inj z))];rcases List.mem_append.mp hy with q|q
     ·exact M5 y q
     ·exact absurd (by simpa using q) c
   ·have:=gU kvs (Sum.inl x) (V.int (f x));lia
   ·rw[aN n];exact s5 _ _ (k3 a ob n e)
 ·rintro σ H3 ⟨kvs,u,rfl,Mb,M5,hk3,k3⟩;rw[cD,gK]at M5;exact⟨Y,k S kvs H3 Mb (λs hs=>M5 s (sk s hs)) (λa ob e=>k3 a ob (aB e hS) (s2 _ _ (s1 _ _ e))) hS⟩
def qp(g:Int->Row):aR->Row
 | .win n=>g n
 | .aK a b=>[(a,b)]
def bh(sh:Int->List Int)(e:Int):List Int:=if e<0 then sh (-1-e) else [e]
def aU(sh:Int->List Int)(es:List Int):List Int:=es.flatMap (bh sh)
def mZ(rows:cS)(sh:Int->List Int):Prop:=∀ (x:Int) (es:List Int),0<=x->rows[x.toNat]?=some es->sh x=aU sh es
def bG(sh:Int->List Int)(aO:List aR):Row:=aO.flatMap (qp λn=>cL (sh n))
def tL(t:List aR):Prop:=∀ a b,aR.aK a b∈t->a<b
theorem eG(sh:Int->List Int)(a b:List aR):bG sh (a++b)=bG sh a++bG sh b:=by unfold bG;rw[List.flatMap_append]
theorem jo(sh:Int->List Int)(it:aR):bG sh [it]=qp (λn=>cL (sh n)) it:=by simp[bG]
theorem Mf(sh:Int->List Int)(t:List aR)(e:Int)(ok:tL t):bM (bG sh (bw t e))=bM (bG sh t)++bh sh e/\tL (bw t e):=by
 have add:∀ it:aR,(∀ a b,it=.aK a b->a<b)->tL (t++[it]):=λit h a b hm=>by
  rcases List.mem_append.mp hm with z|z
  ·exact ok a b z
  ·exact h a b (List.mem_singleton.mp z).symm
 unfold bw;by_cases h:e<0
 ·rw[if_pos h];refine⟨?_,add _ λa b z=>by cases z⟩;rw[eG,cZ,jo];show _++bM (cL (sh (-1-e)))=_;rw[eL];unfold bh;rw[if_pos h]
 ·rw[if_neg h]
  have one:bM [(e,e+1)]=[e]:=by
   rw[gn];unfold jF;have:(e+1-e).toNat=1:=by lia
   show run e (e+1-e).toNat=_;rw[this];rfl
  have es1:bh sh e=[e]:=by unfold bh;rw[if_neg h]
  have vM:bM (bG sh (t++[.aK e (e+1)]))=bM (bG sh t)++bh sh e/\tL (t++[.aK e (e+1)]):=by
   refine⟨?_,add _ λa b z=>by cases z;lia⟩;rw[eG,cZ,jo,es1];show _++bM [(e,e+1)]=_;rw[one]
  rcases oZ t with rfl|⟨t',l,rfl⟩
  ·exact vM
  ·rw[nA]at ok add vM ⊢;rw[sG]
   cases l with
   | win n=>exact vM
   | aK a b =>
    show bM (bG sh (if b=e then (t'++[aR.aK a b]).dropLast++[.aK a (e+1)] else (t'++[aR.aK a b])++[.aK e (e+1)]))=_/\tL (if b=e then (t'++[aR.aK a b]).dropLast++[.aK a (e+1)] else (t'++[aR.aK a b])++[.aK e (e+1)]);by_cases hb:b=e
    ·subst hb;have ab:=ok a b (by simp);rw[if_pos rfl,List.dropLast_concat];refine⟨?_,λp q hm=>?_⟩
     ·rw[eG,eG,cZ,cZ,jo,jo,es1,nB];congr 1;show bM [(a,b+1)]=bM [(a,b)]++[b];rw[gn,gn];unfold jF;show run a (b+1-a).toNat=run a (b-a).toNat++[b];have:(b+1-a).toNat=(b-a).toNat+1:=by lia
      rw[this,vz];congr 2;lia
     ·rcases List.mem_append.mp hm with z|z
      ·exact ok p q (tT _ z)
      ·have z':aR.aK p q=aR.aK a (b+1):=by simpa using z
       cases z';lia
    ·rw[if_neg hb];exact vM
theorem Ai(sh:Int->List Int)(es:List Int):bM (bG sh (aI es))=aU sh es/\tL (aI es):=by
 have z:∀ t:List aR,tL t->bM (bG sh (es.foldl bw t))=bM (bG sh t)++aU sh es/\tL (es.foldl bw t):=by
  induction es with
  | nil=>intro t ok;exact⟨by simp[aU],ok⟩
  | cons e es ih =>
   intro t ok;obtain⟨h1,h2⟩:=Mf sh t e ok;obtain⟨h3,h4⟩:=ih _ h2;refine⟨?_,h4⟩;rw[l6,h3,h1,nB];unfold aU;rw[jv]
 have q:=z [] (λa b h=>by cases h);refine⟨?_,q.2⟩;unfold aI;rw[q.1];rfl
theorem Mg(sh:Int->List Int)(it:aR)(h:∀ a b,it=.aK a b->a<b):(qp (λn=>cL (sh n)) it).length<=(bM (qp (λn=>cL (sh n)) it)).length:=by
 cases it with
 | win n =>
  show (cL (sh n)).length<=(bM (cL (sh n))).length;rw[eL];have z:=zO (sh n) [];simpa [cL] using z
 | aK a b =>
  have ab:=h a b rfl;show 1<=(bM [(a,b)]).length;rw[gn];unfold jF;show 1<=(run a (b-a).toNat).length;rw[Kr];lia
theorem uK(sh:Int->List Int):∀ aO:List aR,tL aO->(bG sh aO).length<=(bM (bG sh aO)).length
 | [],_=>by simp[bG]
 | it::aO,h=>by
  have e:bG sh (it::aO)=qp (λn=>cL (sh n)) it++bG sh aO:=by unfold bG;rw[jv]
  rw[e,cZ,dz,dz];have a:=Mg sh it (λa b z=>h a b (by rw[← z];simp));have b:=uK sh aO (λa b z=>h a b (nu _ z));lia
theorem Mh(sh:Int->List Int)(aO:List aR)(h:tL aO):∀ p∈bG sh aO,p.1<=p.2:=by
 intro p hp;unfold bG at hp;obtain⟨it,hi,hm⟩:=List.mem_flatMap.mp hp
 cases it with
 | win n=>exact mS _ p hm
 | aK a b =>
  have:p=(a,b):=by simpa [qp] using hm
  subst this;have:=h a b hi;show a<=b;lia
class inductive Mi
 | mk (v:V) (it:aR) (S:Addr) (kvs:List (fj × V)) (g:Int->Row) (_:vs=[v,.ref S]) (_:cU H v it) (_:H S=some (.dK kvs)) (_:(∀ n,it=.win n->∃ a,cE kvs (Sum.inl n)=some (.ref a)/\cA H a (g n))) (_ :
 ∀ (a:Addr) (H':Hp),cA H' a (qp g it)->aL H H'->((∃ n,it=.win n/\cE kvs (Sum.inl n)=some (.ref a))\/H a=none)->Q (.ref a) H')
theorem IU:aH ["item","views"] ["item","views"] (aA wM):=eO
theorem yi:‹(1,17,["item","views"],Mi)›:=λD=>by
 specialize eV D.Wx.F IU;obtain⟨v,it,S,kvs,g,rfl,⟨a,rfl,ha⟩,hS,hw,k⟩:=h;have hu:=gC hr;exists _,(aj (bK (aT dY (aQ bx (pv 0) ay) br (bq _)) (au (aJ (gj hu (pv 1) (aQ bx (pv 0) ay)))) aX) (au (aJ (bN (aa (cF (aa (aQ bx (pv 0) ay) (aa (aQ bx (pv 0) ay) ah))) ah)))))
 cases it with
 | win n =>
  refine⟨Y,a,K,V,dG.of ha,V,Y,cI (λ_=>?_) (λz=>absurd (by decide) z)⟩;obtain⟨b,hb,Rb⟩:=hw n rfl;have z:=iD.k (k:=Sum.inl n) hS;rw[hb]at z;exact⟨Y,Y,a,K,V,dG.of ha,rfl,S,Y,z,k b H Rb (aL.refl H) (.inl ⟨n,rfl,hb⟩)⟩
 | aK p q =>
  refine⟨Y,a,K,V,dG.of ha,V,Y,cI (λz=>absurd z (by decide)) (λ_=>?_)⟩;refine⟨Y,a,K,V,dG.of ha,rfl,Y,a,K,V,dG.of ha,rfl,pZ,λt ht=>⟨jS,λl hl=>?_⟩⟩;have s1:aL H (aP H t (.tup [.int p,.int q])):=ak ht _;have s2:=s1.trans (ak hl (.lst [.ref t]));refine k l _ ⟨[t],af,.cons ?_ .nil⟩ s2 (.inr ?_)
  ·exact ak hl _ _ _ af
  ·cases e:H l with
   | none=>rfl
   | some o=>exact absurd ((s1 _ _ e).symm.trans hl) (by simp)
theorem bQ.F3{H H':Hp}{S:Addr}{kvs:List (fj × V)}(hS:H S=some (.dK kvs))(k:∀ a ob,a≠S->H a=some ob->H' a=some ob):∀ {as:List Addr} {r:Row},bQ H as r->bQ H' as r
 | _,_,.nil=>.nil
 | _,_,.cons r t=>.cons (k _ _ (λz=>by
   have r':=r;unfold wR at r';rw[z,hS]at r'
   cases r') r) (bQ.F3 hS k t)
theorem cA.F3{H H':Hp}{S a:Addr}{kvs:List (fj × V)}{row:Row}(hS:H S=some (.dK kvs))(n:a≠S)(k:∀ a ob,a≠S->H a=some ob->H' a=some ob)(R:cA H a row):cA H' a row:=by
 obtain⟨as,h,p⟩:=R;exact⟨as,k _ _ n h,p.F3 hS k⟩
def KG(H:Hp)(kvs:List (fj × V))(sh:Int->List Int)(xs:List Int):Prop:=∀ x∈xs,∃ a,cE kvs (Sum.inl x)=some (.ref a)/\cA H a (cL (sh x))
class inductive Sv
 | mk (r L:Addr) (rows:cS) (ss:List Int) (sh:Int->List Int) (_:vs=[.ref r,.ref L]) (_:gp H r (rows.map aI)) (_:H L=some (.lst (ss.map V.int))) (_:ss.length<=1000) (_:rows.length<=1000) (_:(∀ es∈rows,es.length<=1000)) (_:gr rows) (_:DE rows) (_:(∀ s∈ss,0<=s/\s<rows.length)) (_:mZ rows sh) (_:(∀ x:Int,0<=x->x<rows.length->(sh x).length<=10000)) (_ :
 ∀ (S:Addr) (kvs:List (fj × V)) (ks:List Int) (H':Hp),H' S=some (.dK kvs)->KG H' kvs sh ks->Ma rows ks->(∀ s∈ss,s∈ks)->(∀ x∈ks,∀ a,cE kvs (Sum.inl x)=some (.ref a)->H a=none)->aL H H'->H S=none->Q (.ref S) H')
theorem oE:aH ["rows","sheets","views","number"] ["rows","sheets"] (aA lQ):=eO
theorem jI:‹(3,18,["rows","sheets"],Sv)›:=λD=>by
 refine eV D.OC.F oE λcN A zn s0 H vs Q E hr h=>?_;obtain⟨r,L,rows,ss,sh,rfl,hR,hL,hsl,dN,hes,qo,yC,hin,xX,EM,k⟩:=h;have hu:=gC hr;refine⟨_,(aj (aW (i:=2) oE.nd mU) (aj (d7 PassesOwn.never rfl (cH (aG D.Ww (F1 D) hr (aa (pv 0) (aa (pv 1) ah)))) (cu (i:=3) oE.nd) (au (vA hu (pv 2) (pv 3) (aG D.dq4 (Ad D) hr (aa (CC (N:=["item","stretch","views"]) (nP (sc:=aA lQ) (NX:=["rows","sheets","views","number"]) (jx:=[none,none,some 2]) rfl rfl rfl nofun nofun rfl nofun rfl nofun) rfl (cH (aQ bH (pv 0) (pv 3))) (λ_ _ _ _ _ _=>(cu (i:=0) (show List.Nodup (["item","stretch","views"]:List Str) by decide +kernel))) (λ_ _ _ _ _ _=>gI) (λ_ _ _ _ _ _=>(Ol (aG D.Wx (yi D) hr (aa (pv 0) (aa (pv 2) ah))))) (λ_ _ _ _ _ _=>(cu (i:=1) (show List.Nodup (["item","stretch","views"]:List Str) by decide +kernel))) (λ_ _ _ _ _ _=>gI) (λ_ _ _ _ _ _=>(pv 1))) ah)) rfl))) (au (aJ (pv 2))))),?_⟩;intro S hS;have s1:aL H (aP H S (.dK [])):=ak hS _;refine⟨Y,Y,r,L,rows,ss,rfl,hR.same s1,s1 _ _ hL,hsl,dN,hes,qo,yC,hin,λks o H2 ho s2 tp sk kl Ul=>?_⟩;have Wj:=s2 _ _ (af (H:=H) (a:=S) (o:=.dK []));have Hs:o≠S:=(aB af Ul).symm;refine⟨o,rfl,⟨_,bL.of ho⟩,dO (K:=K) (a:=o) (xs:=ks.map V.int) (λi σ H3=>∃ (kvs:List (fj × V)) (u:Option V),σ=[some (.ref r),some (.ref L),some (.ref S),u]/\H3 S=some (.dK kvs)/\KG H3 kvs sh (ks.take i)/\kvs.length<=i/\(∀ x a,cE kvs (Sum.inl x)=some (.ref a)->H a=none/\a≠S)/\(∀ a ob,a≠S->H2 a=some ob->H3 a=some ob)) ⟨[],none,rfl,Wj,(λy hy=>by simp at hy),gg _,(λx a e=>by cases e),λ_ _ _ e=>e⟩ ?_ ?_ ?_⟩
 ·rintro i σ H3 _ ⟨_,_,_,_,_,_,_,k3⟩;exact bL.of (k3 o _ Hs ho)
 ·rintro i x σ H3 hi ⟨kvs,u,rfl,Mb,M5,hk3,hn3,k3⟩;rw[nG]at hi;obtain⟨x,ex,rfl⟩:=Option.map_eq_some_iff.mp hi;obtain⟨x0,x1⟩:=tp.EH x (nF ex);obtain⟨es,ff⟩:∃ es,rows[x.toNat]?=some es:=⟨_,sF ∅⟩;have OO:aL H H3:=λa ob e=>k3 a ob (aB e hS) (s2 _ _ (s1 _ _ e));obtain⟨yD,IP,vK⟩:=hR.same OO;obtain⟨vi,DP,hI⟩:=vK.get' (i:=x.toNat) (b:=aI es) (by rw[nG,ff];rfl);obtain⟨b,QD,rfl,hb,uB⟩:=id hI;obtain⟨HV,hok⟩:=Ai sh es;have shx:=xX x es x0 ff
  have jc:(bG sh (aI es)).length<=10000:=by
   have z:=uK sh (aI es) hok;rw[HV,← shx]at z;have:=EM x x0 x1;lia
  have part:∀ j,(bG sh ((aI es).take j)).length<=10000:=λj=>by
   have e:bG sh (aI es)=bG sh ((aI es).take j)++bG sh ((aI es).drop j):=by rw[← eG,List.take_append_drop]
   rw[e,dz]at jc;lia
  have vL:qx yD x=some (.ref b):=by
   have z:=cQ DP;rw[show ((x.toNat:Nat):Int)=x by lia]at z;exact z
  refine⟨Y,Y,r,K,V,bL.of IP,vL,b,rfl,⟨_,bL.of hb⟩,λacc cY=>yf (K:=K) (a:=b) (xs:=QD) (λj σ H5=>∃ (u v:Option V) (as:List Addr),σ=[u,v,some (.ref S)]/\H5 acc=some (.lst (as.map V.ref))/\bQ H5 as (bG sh ((aI es).take j))/\aL H3 H5) ⟨none,none,[],rfl,af,.nil,ak cY _⟩ (λj σ H5 _ ⟨K,K,s5⟩=>bL.of (s5 _ _ hb)) ?_ ?_⟩
  ·rintro j v σ H5 hj ⟨u,u2,as,rfl,h5,p5,s5⟩;obtain⟨it,ei,hiv⟩:=uB.get hj;have st:bG sh ((aI es).take (j+1))=bG sh ((aI es).take j)++qp (λn=>cL (sh n)) it:=by rw[take_snoc ei,eG,jo]
   refine VX ?_;refine gR ?_;refine⟨Y,Y,v,it,S,kvs,(λn=>cL (sh n)),rfl,hiv.same s5,s5 _ _ Mb,λn hn=>?_,λa2 H6 R6 s6 hor=>?_⟩
   ·subst hn
    obtain⟨a,ha,Ra⟩:=M5 n (tp.dn i x ex n ⟨x0,es,ff,by
     rw[← iE];unfold fc;rw[List.mem_filterMap]
     exact⟨.win n,nF ei,rfl⟩⟩)
    exact⟨a,ha,Ra.same s5⟩
   obtain⟨WW,h6a,p6⟩:=id R6
   have na2:a2≠acc:=by
    rcases hor with ⟨n,hn,hv⟩|hn
    ·subst hn
     obtain⟨a,ha,as0,h0',_⟩:=M5 n (tp.dn i x ex n ⟨x0,es,ff,by
      rw[← iE];unfold fc;rw[List.mem_filterMap]
      exact⟨.win n,nF ei,rfl⟩⟩)
     rw[hv]at ha;cases ha;exact aB h0' cY
    ·exact (aB h5 hn).symm
   have h6:=s6 _ _ h5;have pl:=part (j+1);rw[st,dz]at pl;have al:=p5.len;have al2:=p6.len;refine⟨a2,rfl,⟨_,bL.of h6a⟩,IC (K:=K) (a:=a2) (acc:=acc) (g:=sV 1) (tt:=N9) (te:=Vh 1) (xs:=WW.map V.ref) (λl σ H7=>∃ v2:Option V,σ=[some v,v2,some (.ref S)]/\H7 acc=some (.lst ((as++WW.take l).map V.ref))/\bQ H7 (as++WW.take l) (bG sh ((aI es).take j)++(qp (λn=>cL (sh n)) it).take l)/\cJ acc H6 H7/\aL H3 H7) ?_ ?_ ?_ ?_⟩
   ·exact⟨u2,rfl,(by simpa using h6),(by simpa using p5.same s6),(λ_ _ e _=>e),s5.trans s6⟩
   ·rintro l σ H7 _ ⟨_,_,_,_,K7,_⟩;exact bL.of (K7 a2 _ h6a na2)
   ·rintro l y σ H7 hl ⟨v2,rfl,h7,p7,K7,s7⟩;rw[nG]at hl;obtain⟨t,et,rfl⟩:=Option.map_eq_some_iff.mp hl;obtain⟨pr,epr,hpr⟩:=p6.get et
    have ll:l<WW.length:=by
     rcases Nat.lt_or_ge l WW.length with q|q
     ·exact q
     ·rw[List.getElem?_eq_none q]at et;cases et
    have aaL:wR H7 t pr:=K7 t _ hpr (λz=>by
     have q:H6 acc=some (.tup [.int pr.1,.int pr.2]):=by rw[← z];exact hpr
     rw[h6]at q
     cases q)
    have K8:cJ acc H7 (aP H7 acc (.lst ((as++WW.take l).map V.ref++[.ref t]))):=aM acc _ _;refine VX ?_;refine gR ?_;refine⟨Y,_,h7,?_,Y,?_,?_,?_,bP cY s7 K8⟩
    ·rw[cD,dz,gy];exact aV ∅
    ·rw[af,take_snoc et,← nB,gG (l₁:=as++WW.take l)];rfl
    ·rw[take_snoc et,take_snoc epr,← nB,← nB]
     exact bQ.snoc (p7.keep h7 K8) (K8 t _ aaL (λz=>by
      have q:H7 acc=some (.tup [.int pr.1,.int pr.2]):=by rw[← z];exact aaL
      rw[h7]at q
      cases q))
    ·exact λa ob e n=>K8 a ob (K7 a ob e n) n
   ·rintro σ H7 ⟨v2,rfl,h7,p7,K7,s7⟩;rw[cD,gK]at h7 p7;rw[al2,gK]at p7;exact⟨K,rfl,h7,(by rw[st];exact p7),s7⟩
  ·rintro σ H5 ⟨u,u2,as,rfl,h5,p5,s5⟩;rw[uB.len,gK]at p5
   have kvl:i<ks.length:=by
    rcases Nat.lt_or_ge i ks.length with q|q
    ·exact q
    ·rw[List.getElem?_eq_none q]at ex;cases ex
   refine⟨acc,Y,⟨as,h5,p5⟩,Q,λq H6 R6 s6 hq=>?_⟩;have WT:=s6 _ _ (s5 _ _ Mb);have nqS:q≠S:=(aB (s5 _ _ Mb) hq).symm;have er:cz (bG sh (aI es))=cL (sh x):=by rw[zH _ (Mh sh _ hok),HV,shx]
   rw[er]at R6;have k7:∀ a ob,a≠S->H6 a=some ob->aP H6 S (.dK (eT kvs (Sum.inl x) (.ref q))) a=some ob:=λa ob n e=>by rw[aN n];exact e
   refine⟨Y,Y,S,Y,DA.k (k:=Sum.inl x) WT (aV ∅),?_⟩;refine⟨eT kvs (Sum.inl x) (.ref q),Y,af,λy hy=>?_,?_,λy a e=>?_,λa ob n e=>k7 a ob n (s6 _ _ (s5 _ _ (k3 a ob n e)))⟩
   ·rw[kC];by_cases c:y=x
    ·rw[if_pos (by rw[c]),c];exact⟨q,rfl,R6.F3 WT nqS k7⟩
    ·rw[if_neg (λz=>c (Sum.inl.inj z))];rw[take_snoc ex]at hy;rcases List.mem_append.mp hy with z|z
     ·obtain⟨a,ha,Ra⟩:=M5 y z;exact⟨a,ha,((Ra.same s5).same s6).F3 WT (hn3 y a ha).2 k7⟩
     ·exact absurd (by simpa using z) c
   ·have:=gU kvs (Sum.inl x) (V.ref q);lia
   ·rw[kC]at e;by_cases c:y=x
    ·rw[if_pos (by rw[c])]at e;cases e;refine⟨?_,nqS⟩
     cases z:H q with
     | none=>rfl
     | some ob=>exact absurd ((s5 _ _ (OO _ _ z)).symm.trans hq) (by simp)
    ·rw[if_neg (λz=>c (Sum.inl.inj z))]at e;exact hn3 y a e
 ·rintro σ H3 ⟨kvs,u,rfl,Mb,M5,hk3,hn3,k3⟩;rw[cD,gK]at M5;exact⟨Y,k S kvs ks H3 Mb M5 tp sk (λx _ a e=>(hn3 x a e).1) (λa ob e=>k3 a ob (aB e hS) (s2 _ _ (s1 _ _ e))) hS⟩
class inductive Sw
 | mk (r:Addr) (rows:cS) (s:Int) (sh:Int->List Int) (_:vs=[.ref r,.int s]) (_:gp H r (rows.map aI)) (_:rows.length<=1000) (_:(∀ es∈rows,es.length<=1000)) (_:gr rows) (_:DE rows) (_:0<=s) (_:s<rows.length) (_:mZ rows sh) (_:(∀ x:Int,0<=x->x<rows.length->(sh x).length<=10000)) (_ :
 ∀ (o:Addr) (H':Hp),cA H' o (cL (sh s))->aL H H'->H o=none->Q (.ref o) H')
theorem Sx:aH ["rows","sheet"] ["rows","sheet"] (aA Ig):=eO
theorem Aj:‹(4,19,["rows","sheet"],Sw)›:=λD=>by
 refine eV D.IL.F Sx λcN A zn s0 H vs Q E hr h=>?_;obtain⟨r,rows,s,sh,rfl,hR,dN,hes,qo,yC,h0,h1,xX,EM,k⟩:=h;have hu:=gC hr;exists _,(au (aJ (gj hu (aG D.OC (jI D) hr (aa (pv 0) (aa (bN (aa (pv 1) ah)) ah))) (pv 1))));refine⟨Y,Y,jS,λL hL=>?_⟩;have s1:aL H (aP H L (.lst [.int s])):=ak hL _;refine⟨r,L,rows,[s],sh,rfl,hR.same s1,af,(by simp),dN,hes,qo,yC,(λx hx=>by rw[List.mem_singleton.mp hx];exact⟨h0,h1⟩),xX,EM,λS kvs ks H' hS hv tp sk hn s' _=>?_⟩;have sk:=sk s (by simp);obtain⟨a,ha,Ra⟩:=hv s sk;have z:=iD.k (k:=Sum.inl s) hS;rw[ha]at z;exact⟨Y,S,Y,z,k a H' Ra (s1.trans s') (bu s1 (hn s sk a ha))⟩
def WX:aR->aR->Bool
 | .aK _ b,.aK c _=>decide (b=c)
 | _,_=>false
class inductive WY
 | mk (x y:V) (i j:aR) (_:vs=[x,y]) (_:cU H x i) (_:cU H y j) (_:Q (.bl (WX i j)) H)
theorem Mj:aH ["one","other"] ["one","other"] (aA zB):=eO
theorem IV:‹(1,20,["one","other"],WY)›:=λD=>by
 specialize eV D.ZV.F Mj;obtain⟨x,y,i,j,rfl,⟨a,rfl,ha⟩,⟨b,rfl,hb⟩,k⟩:=h;exists _,(au (aJ (nY (j8 dY (aQ bx (pv 0) ay) br (bq _)) (nY (j8 dY (aQ bx (pv 1) ay) br (bq _)) (pA (j8 dY (aQ bx (pv 0) ay) (aQ bx (pv 1) ay) (bq _)))))))
 cases i with
 | win n=>exact⟨Y,a,K,V,dG.of ha,V,Y,cI (λz=>absurd z (by decide)) (λ_=>k)⟩
 | aK p q =>
  refine⟨Y,a,K,V,dG.of ha,V,Y,cI (λ_=>?_) (λz=>absurd (by decide) z)⟩
  cases j with
  | win n=>exact⟨Y,b,K,V,dG.of hb,V,Y,cI (λz=>absurd z (by decide)) (λ_=>k)⟩
  | aK u v =>
   refine⟨Y,b,K,V,dG.of hb,V,Y,cI (λ_=>?_) (λz=>absurd (by decide) z)⟩;exists Y,a,K,V,dG.of ha,rfl,Y,b,K,V,dG.of hb,V
   have e:decide (V.int q=V.int u)=decide (q=u):=by
    by_cases c:q=u
    ·rw[c];simp
    ·have c2:¬ V.int q=V.int u:=λz=>c (V.int.inj z);rw[decide_eq_false c,decide_eq_false c2]
   rw[e];exact k
def bW(t:List aR)(it:aR):List aR :=
 match t.getLast?,it with
 | some (.aK a b),.aK c d=>if b=c then t.dropLast++[.aK a d] else t++[it]
 | _,_=>t++[it]
def IW(aO:List aR):List aR:=aO.foldl bW []
theorem IX(aO:List aR):∀ t:List aR,(aO.foldl bW t).length<=t.length+aO.length:=by
 induction aO with
 | nil=>intro t;simp
 | cons e aO ih =>
  intro t;rw[l6];have z:=ih (bW t e)
  have z2:(bW t e).length<=t.length+1:=by
   unfold bW;split
   ·split
    ·rw[dz,List.length_dropLast,iy];lia
    ·simp
   ·simp
  rw[ny];lia
class inductive DR
 | mk (r:Addr) (aO:List aR) (_:vs=[.ref r]) (_:bJ H (.ref r) aO) (_:aO.length<=1000000) (_ :
 ∀ (o:Addr) (H':Hp),bJ H' (.ref o) (IW aO)->aL H H'->H o=none->Q (.ref o) H')
theorem oF:aH ["items","told","item"] ["items"] (aA pH):=eO
theorem gX:‹(2,21,["items"],DR)›:=λD=>by
 specialize eV D.LY.F oF;obtain⟨r,aO,rfl,⟨a,QD,e,hr1,uB⟩,dN,k⟩:=h;cases e;refine⟨_,(aj (aW (i:=1) oF.nd (bN ah)) (aj (d7 PassesOwn.never rfl (cH (pv 0)) (cu (i:=2) oF.nd) (au (bK (PW.pt (qK (mj (pv 1) (λ_=>rfl)) (o7 (jZ (aG D.ZV (IV D) hr (aa (aQ bH (pv 1) (gw eK ay)) (aa (pv 2) ah))))))) (au (l9 (cF (aa br (aa (aQ bx (aQ bH (pv 1) (gw eK ay)) ay) (aa (aQ bx (pv 2) ay) ah)))) (pB (pv 1) (gw eK ay) jz))) (au (aY (dM qw jX jY bT (pv 1) (aa (pv 2) ah))))))) (au (aJ (pv 1))))),?_⟩;refine⟨iR,λq hq=>?_⟩;have s0:aL H (aP H q (.lst [])):=ak hq _;refine⟨Y,r,rfl,⟨_,bL.of (s0 _ _ hr1)⟩,dO (K:=K) (a:=r) (xs:=QD) (λi σ H2=>∃ (vs:List V) (u:Option V),σ=[some (.ref r),some (.ref q),u]/\H2 q=some (.lst vs)/\bU (cU H2) vs ((aO.take i).foldl bW [])/\aL H H2) ⟨[],none,rfl,af,.nil,s0⟩ (by rintro i σ H2 _ ⟨_,_,_,_,_,s⟩;exact bL.of (s _ _ hr1)) ?_ ?_⟩
 ·rintro i x σ H2 hi ⟨vs,u,rfl,d9,hb,s⟩;obtain⟨it,ei,hiv⟩:=uB.get hi;have hx2:=hiv.same s;have step:(aO.take (i+1)).foldl bW []=bW ((aO.take i).foldl bW []) it:=by rw[take_snoc ei,List.foldl_append];rfl
  have bl:vs.length<sizeLine:=by
   have z:=hb.len;have z2:=IX (aO.take i) [];rw[gy,sI]at z2;exact aV ∅
  have app:bW ((aO.take i).foldl bW []) it=(aO.take i).foldl bW []++[it]->∃ (DC:List V) (u':Option V),[some (V.ref r),some (.ref q),some x]=[some (.ref r),some (.ref q),u']/\(aP H2 q (.lst (vs++[x]))) q=some (.lst DC)/\bU (cU (aP H2 q (.lst (vs++[x])))) DC ((aO.take (i+1)).foldl bW [])/\aL H (aP H2 q (.lst (vs++[x]))):=λe=>by
   refine⟨P,rfl,af,?_,bP hq s (aM q _ _)⟩;rw[step,e];exact bU.snoc (hb.mono λv i h=>h.keep d9 (aM q _ _)) (hx2.keep d9 (aM q _ _))
  rcases oZ ((aO.take i).foldl bW []) with hn|⟨t0,l0,hn⟩
  ·have hvs:vs=[]:=by
    rw[hn]at hb;exact List.eq_nil_of_length_eq_zero hb.len
   subst hvs;refine⟨Y,false,.inl ⟨_,bL.of d9,rfl⟩,eY (eY ?_)⟩;refine⟨Y,.inl ⟨rfl,_,bL.of d9⟩,Y,q,Z,d9,bl,app ?_⟩;rw[hn];rfl
  ·rw[nA]at hn;have hb':=hb;rw[hn]at hb';obtain⟨us,v0,rfl,hb0,hv0⟩:=hb'.split;obtain⟨a0,rfl,KD⟩:=id hv0;refine⟨Y,true,.inl ⟨_,bL.of d9,by simp⟩,gR ?_⟩;exists Y,Y,q,K,V,bL.of d9,fZ _ _,Y,P,l0,it,rfl,hv0,hx2,Y
   cases l0 with
   | win n =>
    refine eY ?_;refine⟨Y,.inl ⟨rfl,_,bL.of d9⟩,Y,q,Z,d9,bl,app ?_⟩;rw[hn];unfold bW;rw[sG]
   | aK p1 p2 =>
    cases it with
    | win n =>
     refine eY ?_;refine⟨Y,.inl ⟨rfl,_,bL.of d9⟩,Y,q,Z,d9,bl,app ?_⟩;rw[hn];unfold bW;rw[sG]
    | aK c d =>
     refine cI (λz=>?_) (λz=>?_)
     ·have e2:p2=c:=of_decide_eq_true z;obtain⟨ax,rfl,hax⟩:=id hx2;refine⟨Y,Y,q,K,V,bL.of d9,fZ _ _,a0,K,V,dG.of KD,rfl,Y,ax,K,V,dG.of hax,rfl,DH,λt ht=>?_⟩;refine⟨Y,Y,q,P,us.length,V,ak ht _ _ _ d9,(by rw[dz];exact zK _),?_⟩;rw[zL];refine⟨P,rfl,af,?_,bP hq (s.trans (ak ht _)) (aM q _ _)⟩
      have e3:(aO.take (i+1)).foldl bW []=t0++[.aK p1 d]:=by
       rw[step,hn];unfold bW;rw[sG,List.dropLast_concat];show (if p2=c then t0++[aR.aK p1 d] else _)=_;rw[if_pos e2]
      rw[e3];exact bU.new (it:=.aK p1 d) d9 hb0 ht _
     ·have e2:¬ p2=c:=λw=>z (decide_eq_true w);refine⟨Y,.inl ⟨rfl,_,bL.of d9⟩,Y,q,Z,d9,bl,app ?_⟩;rw[hn];unfold bW;rw[sG];show (if p2=c then _ else t0++[aR.aK p1 p2]++[aR.aK c d])=_;rw[if_neg e2]
 ·rintro σ H2 ⟨vs,u,rfl,d9,hb,s⟩;rw[uB.len,gK]at hb;exact⟨Y,k q H2 ⟨q,vs,rfl,d9,hb⟩ s hq⟩
def cO(r:Row):List aR:=r.map λp=>.aK p.1 p.2
class inductive Sy
 | mk (r:Addr) (row:Row) (_:vs=[.ref r]) (_:cA H r row) (_:row.length<=100000) (_ :
 ∀ (o:Addr) (H':Hp),bJ H' (.ref o) (cO (cz row))->aL H H'->H o=none->Q (.ref o) H')
theorem Sz:aH ["row"] ["row"] (aA Dp):=eO
theorem m6:‹(2,22,["row"],Sy)›:=λD=>by
 specialize eV D.FU.F Sz;obtain⟨r,row,rfl,R,dN,k⟩:=h;refine⟨_,(au (aJ (gV (N:=["start","stop"]) (nP (sc:=aA Dp) (NX:=["row"]) (jx:=[none,none]) rfl rfl rfl nofun nofun rfl nofun rfl nofun) rfl (cH (aG D.dq4 (Ad D) hr (aa (pv 0) ah))) (λ_ _ _ _ _ _=>(vC (n:=2) rfl (ck (cu (i:=0) (show List.Nodup (["start","stop"]:List Str) by decide +kernel)) (ck (cu (i:=1) (show List.Nodup (["start","stop"]:List Str) by decide +kernel)) gH)))) (λ_ _ _ _ _ _=>gI) (λ_ _ _ _ _ _=>(cF (aa br (aa (pv 0) (aa (pv 1) ah)))))))),?_⟩;refine⟨Y,r,row,rfl,R,Q,λq H1 R1 s1 hq=>?_⟩;obtain⟨as,h1,p1⟩:=id R1;have pl:=lV row;refine⟨q,rfl,⟨_,bL.of h1⟩,λacc cY=>gz (K:=K) (a:=q) (xs:=as.map V.ref) (λi σ H2=>∃ (u v:Option V) (vs:List V),σ=[u,v]/\H2 acc=some (.lst vs)/\bU (cU H2) vs (cO ((cz row).take i))/\aL H1 H2) ⟨none,none,[],rfl,af,.nil,ak cY _⟩ (by rintro i σ H2 _ ⟨_,_,_,_,_,_,s⟩;exact bL.of (s _ _ h1)) ?_ ?_⟩
 ·rintro i x σ H2 hi ⟨u,v,vs,rfl,ha,t2,s⟩;rw[nG]at hi;obtain⟨a,ea,rfl⟩:=Option.map_eq_some_iff.mp hi;obtain⟨⟨st,en⟩,ep,hpa⟩:=p1.get ea;have bl:=t2.len;unfold cO at bl;rw[cD,gy]at bl;refine⟨a,Y,dG.of (s _ _ hpa),rfl,P,rfl,Z,yes (gR ?_)⟩;refine⟨Y,Y,DH,λt ht=>?_⟩;refine⟨vs,ak ht _ _ _ ha,aV ∅,K,rfl,af,?_,bP cY (s.trans (ak ht _)) (aM acc _ _)⟩
  have e:cO ((cz row).take (i+1))=cO ((cz row).take i)++[.aK st en]:=by
   rw[take_snoc ep];unfold cO;rw[gG];rfl
  rw[e];exact bU.new (it:=.aK st en) ha t2 ht _
 ·rintro σ H2 ⟨u,v,vs,rfl,ha,t2,s⟩;rw[cD,p1.len,gK]at t2;refine k acc H2 ⟨acc,vs,rfl,ha,t2⟩ (s1.trans s) ?_
  cases e:H acc with
  | none=>rfl
  | some o=>exact absurd ((s1 _ _ e).symm.trans cY) (by simp)
def fO:aR->List Int
 | .win n=>[-1-n]
 | .aK a b=>run a (b-a).toNat
def dD(aO:List aR):List Int:=aO.flatMap fO
def lM:aR->Prop
 | .win n=>0<=n
 | .aK a b=>0<=a/\a<b
def fR(aO:List aR):Prop:=∀ it∈aO,lM it
theorem fD(a b:List aR):dD (a++b)=dD a++dD b:=by unfold dD;rw[List.flatMap_append]
theorem kG(a:aR):dD [a]=fO a:=by simp[dD]
theorem fR.append{a b:List aR}(h:fR a)(g:fR b):fR (a++b):=λit hm=>(List.mem_append.mp hm).elim (h it) (g it)
theorem fR.one{a:aR}(h:lM a):fR [a]:=λit hm=>by rw[List.mem_singleton.mp hm];exact h
theorem OQ(t:List aR){n:Int}(h:0<=n):bw t (-1-n)=t++[.win n]:=by
 unfold bw;rw[if_pos ∅];congr 3;lia
theorem Ml(t:List aR)(p s:Int)(h:0<=s):bw (t++[.aK p s]) s=t++[.aK p (s+1)]:=by
 unfold bw;rw[if_neg ∅,sG];show (if s=s then (t++[aR.aK p s]).dropLast++[.aK p (s+1)] else _)=_;rw[if_pos rfl,List.dropLast_concat]
theorem CO(t:List aR)(p:Int):∀ (n:Nat) (s:Int),0<=s->(run s n).foldl bw (t++[.aK p s])=t++[.aK p (s+n)]
 | 0,s,_=>by simp[run]
 | n+1,s,h=>by
  rw[run,l6,Ml t p s h,CO t p n (s+1) ∅];congr 3;lia
theorem IY(t:List aR)(it:aR)(h:lM it):bW t it=(fO it).foldl bw t:=by
 cases it with
 | win n =>
  show bW t (.win n)=bw t (-1-n);rw[OQ t h];unfold bW
  cases t.getLast? with
  | none=>rfl
  | some l=>cases l <;> rfl
 | aK a b =>
  obtain⟨a0,ab⟩:=h;have e:(b-a).toNat=(b-(a+1)).toNat+1:=by lia
  show bW t (.aK a b)=(run a (b-a).toNat).foldl bw t;rw[e,run,l6]
  have kO:∀ (u:List aR) (p:Int),(run (a+1) (b-(a+1)).toNat).foldl bw (u++[.aK p (a+1)])=u++[.aK p b]:=λu p=>by
   rw[CO u p _ _ ∅];congr 3;lia
  unfold bW bw;rw[if_neg ∅]
  cases t.getLast? with
  | none=>exact (kO t a).symm
  | some l =>
   cases l with
   | win n=>exact (kO t a).symm
   | aK p q =>
    show (if q=a then t.dropLast++[aR.aK p b] else t++[aR.aK a b])=List.foldl bw (if q=a then t.dropLast++[aR.aK p (a+1)] else t++[aR.aK a (a+1)]) _;by_cases c:q=a
    ·rw[if_pos c,if_pos c,kO]
    ·rw[if_neg c,if_neg c,kO]
theorem kH(aO:List aR)(h:fR aO):IW aO=aI (dD aO):=by
 unfold IW aI dD;rw[mR]
 have z:∀ (aO:List aR) (t:List aR),fR aO->aO.foldl bW t=aO.foldl (λc a=>(fO a).foldl bw c) t:=by
  intro aO
  induction aO with
  | nil=>intro t _;rfl
  | cons it aO ih =>
   intro t h;rw[l6,l6,IY t it (h it (by simp))];exact ih _ λi hi=>h i (nu _ hi)
 exact z aO [] h
theorem Mm(t:List aR)(e:Int)(h:fR t):dD (bw t e)=dD t++[e]/\fR (bw t e):=by
 unfold bw;by_cases c:e<0
 ·rw[if_pos c,fD,kG];refine⟨?_,h.append (fR.one (by show 0<=-1-e;lia))⟩;show dD t++[-1-(-1-e)]=_;rw[show -1-(-1-e)=e by lia]
 ·rw[if_neg c]
  have pl:dD (t++[.aK e (e+1)])=dD t++[e]/\fR (t++[.aK e (e+1)]):=by
   refine⟨?_,h.append (fR.one ⟨Q,Q⟩)⟩;rw[fD,kG];show _++run e (e+1-e).toNat=_;rw[show (e+1-e).toNat=1 by lia];rfl
  rcases oZ t with rfl|⟨t',l,rfl⟩
  ·exact pl
  ·rw[nA]at h pl ⊢;rw[sG]
   cases l with
   | win n=>exact pl
   | aK a b =>
    show dD (if b=e then (t'++[aR.aK a b]).dropLast++[.aK a (e+1)] else (t'++[aR.aK a b])++[.aK e (e+1)])=_/\fR (if b=e then (t'++[aR.aK a b]).dropLast++[.aK a (e+1)] else (t'++[aR.aK a b])++[.aK e (e+1)]);by_cases hb:b=e
    ·subst hb;obtain⟨a0,ab⟩:0<=a/\a<b:=h (.aK a b) (by simp);rw[if_pos rfl,List.dropLast_concat];refine⟨?_,fR.append (λi hi=>h i (tT _ hi)) (fR.one ⟨a0,Q⟩)⟩;rw[fD,fD,kG,kG,nB];congr 1;show run a (b+1-a).toNat=run a (b-a).toNat++[b];rw[show (b+1-a).toNat=(b-a).toNat+1 by lia,vz];congr 2;lia
    ·rw[if_neg hb];exact pl
theorem m7(es:List Int):dD (aI es)=es/\fR (aI es):=by
 have z:∀ (es:List Int) (t:List aR),fR t->dD (es.foldl bw t)=dD t++es/\fR (es.foldl bw t):=by
  intro es
  induction es with
  | nil=>intro t h;exact⟨by simp,h⟩
  | cons e es ih =>
   intro t h;obtain⟨h1,h2⟩:=Mm t e h;obtain⟨h3,h4⟩:=ih _ h2;exact⟨by rw[l6,h3,h1,nB];rfl,h4⟩
 obtain⟨h1,h2⟩:=z es [] (λi hi=>by cases hi);exact⟨by unfold aI;rw[h1];rfl,h2⟩
theorem oR(r:Row):dD (cO r)=bM r:=by
 unfold dD cO bM;rw[List.flatMap_map];rfl
theorem vN{r:Row}(h:jG r):fR (cO r):=by
 intro it hm;unfold cO at hm;obtain⟨p,hp,rfl⟩:=List.mem_map.mp hm;exact h p hp
theorem Mn{ns:List Int}(h:∀ x∈ns,0<=x):cO (cL ns)=aI ns:=by
 have z:∀ (ns:List Int) (t:Row),(∀ x∈ns,0<=x)->cO (ns.foldl (λt n=>iP t n (n+1)) t)=ns.foldl bw (cO t):=by
  intro ns
  induction ns with
  | nil=>intro t _;rfl
  | cons n ns ih =>
   intro t h;rw[l6,l6,ih _ λx hx=>h x (nu _ hx)];congr 1;have n0:=h n (by simp);unfold iP bw;rw[if_neg ∅];rcases oZ t with rfl|⟨t',l,rfl⟩
   ·rfl
   ·rw[nA,sG];have e:(cO (t'++[l])).getLast?=some (.aK l.1 l.2):=by unfold cO;rw[gG];exact sG
    rw[e];show cO (if l.2=n then (t'++[l]).dropLast++[(l.1,n+1)] else t'++[l]++[(n,n+1)])=if l.2=n then (cO (t'++[l])).dropLast++[.aK l.1 (n+1)] else cO (t'++[l])++[.aK n (n+1)];by_cases c:l.2=n
    ·rw[if_pos c,if_pos c,List.dropLast_concat];unfold cO;rw[gG,gG];simp
    ·rw[if_neg c,if_neg c];unfold cO;rw[gG];rfl
 exact z ns [] h
abbrev nE:=aR × Row × Int × Int
def cW(sh:Int->List Int)(it:aR):Row:=qp (λn=>cL (sh n)) it
def bX(sh:Int->List Int):Int->List aR->List nE
 | _,[]=>[]
 | f,it::r=>(it,cW sh it,f,f+jc (cW sh it))::bX sh (f+jc (cW sh it)) r
theorem vO(sh:Int->List Int)(b:List aR):∀ (a:List aR) (f:Int),bX sh f (a++b)=bX sh f a++bX sh (f+jc (bG sh a)) b
 | [],f=>by simp[bX,bG,jc]
 | it::a,f=>by
  rw[List.cons_append,bX,bX,vO sh b a,List.cons_append];have e:bG sh (it::a)=cW sh it++bG sh a:=by unfold bG;rw[jv];rfl
  rw[e,zI,Int.add_assoc]
theorem CP(sh:Int->List Int):∀ (a:List aR) (f:Int),(bX sh f a).length=a.length
 | [],_=>rfl
 | _::a,f=>by rw[bX,ny,ny,CP sh a]
def m8(N:Addr->Prop)(H:Hp)(v:V)(d:nE):Prop:=∃ (a ra:Addr) (x:V),v=.ref a/\H a=some (.tup [x,.ref ra,.int d.2.2.1,.int d.2.2.2])/\cU H x d.1/\cA H ra d.2.1/\N ra
theorem m8.same{N:Addr->Prop}{H H':Hp}{v:V}{d:nE}(s:aL H H'):m8 N H v d->m8 N H' v d:=λ⟨a,ra,x,e,h,i,r,n⟩=>⟨a,ra,x,e,s _ _ h,i.same s,r.same s,n⟩
theorem m8.keep{N:Addr->Prop}{H H':Hp}{v:V}{d:nE}{q:Addr}{xs:List V}(hq:H q=some (.lst xs))(nq:∀ a,N a->a≠q)(k:cJ q H H'):m8 N H v d->m8 N H' v d:=λ⟨a,ra,x,e,h,i,r,n⟩=>⟨a,ra,x,e,k a _ h (by
 intro z;rw[z,hq]at h
 cases h),i.keep hq k,r.keep hq (nq ra n) k,n⟩
def xo(H:Hp)(kvs:List (fj × V))(sh:Int->List Int)(aO:List aR):Prop:=∀ n,aR.win n∈aO->∃ a,cE kvs (Sum.inl n)=some (.ref a)/\cA H a (cL (sh n))
theorem xo.same{H H':Hp}{kvs:List (fj × V)}{sh:Int->List Int}{aO:List aR}(s:aL H H')(h:xo H kvs sh aO):xo H' kvs sh aO:=λn hn=>by
 obtain⟨a,e,r⟩:=h n hn;exact⟨a,e,r.same s⟩
def aD(p:Int)(d:nE):List aR:=if d.2.2.2<=p then [d.1] else if p<=d.2.2.1 then [] else cO (cz (kQ 0 (p-d.2.2.1) 0 d.2.1))
def bD(p:Int)(d:nE):List aR:=if d.2.2.2<=p then [] else if p<=d.2.2.1 then [d.1] else cO (cz (kQ (p-d.2.2.1) (d.2.2.2-d.2.2.1) 0 d.2.1))
def aE(sh:Int->List Int)(p:Int):Int->List Int->List Int
 | _,[]=>[]
 | f,e::r=>(if f+(bh sh e).length<=p then [e] else if p<=f then [] else (bh sh e).take (p-f).toNat)++aE sh p (f+(bh sh e).length) r
def bE(sh:Int->List Int)(p:Int):Int->List Int->List Int
 | _,[]=>[]
 | f,e::r=>(if f+(bh sh e).length<=p then [] else if p<=f then [e] else (bh sh e).drop (p-f).toNat)++bE sh p (f+(bh sh e).length) r
theorem cj(sh:Int->List Int)(e:Int)(r:List Int):aU sh (e::r)=bh sh e++aU sh r:=by unfold aU;rw[jv]
theorem jJ(sh:Int->List Int)(a b:List Int):aU sh (a++b)=aU sh a++aU sh b:=by unfold aU;rw[List.flatMap_append]
theorem xq(sh:Int->List Int)(p:Int)(y:List Int):∀ (x:List Int) (f:Int),aE sh p f (x++y)=aE sh p f x++aE sh p (f+(aU sh x).length) y
 | [],f=>by simp[aE,aU]
 | e::x,f=>by
  rw[List.cons_append,aE,aE,xq sh p y x,nB,cj,dz,Int.add_assoc]
  push_cast
  rfl
theorem xr(sh:Int->List Int)(p:Int)(y:List Int):∀ (x:List Int) (f:Int),bE sh p f (x++y)=bE sh p f x++bE sh p (f+(aU sh x).length) y
 | [],f=>by simp[bE,aU]
 | e::x,f=>by
  rw[List.cons_append,bE,bE,xr sh p y x,nB,cj,dz,Int.add_assoc]
  push_cast
  rfl
theorem rY(sh:Int->List Int){e:Int}(h:0<=e):bh sh e=[e]:=by unfold bh;rw[if_neg ∅]
theorem lX(sh:Int->List Int):∀ (n:Nat) (a:Int),0<=a->aU sh (run a n)=run a n
 | 0,_,_=>rfl
 | n+1,a,h=>by rw[run,cj,rY sh h,lX sh n (a+1) ∅];rfl
theorem OR(sh:Int->List Int)(p:Int):∀ (n:Nat) (a f:Int),0<=a->aE sh p f (run a n)=(run a n).take (p-f).toNat
 | 0,_,_,_=>by simp[run,aE]
 | n+1,a,f,h=>by
  rw[run,aE,OR sh p n (a+1) _ ∅,rY sh h];show (if f+1<=p then [a] else if p<=f then [] else _)++(run (a+1) n).take (p-(f+1)).toNat=_;by_cases c:f+1<=p
  ·rw[if_pos c,show (p-f).toNat=(p-(f+1)).toNat+1 by lia];rfl
  ·rw[if_neg c,if_pos ∅,show (p-f).toNat=0 by lia,show (p-(f+1)).toNat=0 by lia];rfl
theorem OS(sh:Int->List Int)(p:Int):∀ (n:Nat) (a f:Int),0<=a->bE sh p f (run a n)=(run a n).drop (p-f).toNat
 | 0,_,_,_=>by simp[run,bE]
 | n+1,a,f,h=>by
  rw[run,bE,OS sh p n (a+1) _ ∅,rY sh h];show (if f+1<=p then [] else if p<=f then [a] else _)++(run (a+1) n).drop (p-(f+1)).toNat=_;by_cases c:f+1<=p
  ·rw[if_pos c,show (p-f).toNat=(p-(f+1)).toNat+1 by lia];rfl
  ·rw[if_neg c,if_pos ∅,show (p-f).toNat=0 by lia,show (p-(f+1)).toNat=0 by lia];rfl
theorem OT(sh:Int->List Int){n:Int}(h:0<=n):bh sh (-1-n)=sh n:=by
 unfold bh;rw[if_pos ∅,show -1-(-1-n)=n by lia]
theorem vP(sh:Int->List Int)(it:aR)(h:lM it):∀ q∈cW sh it,q.1<=q.2:=by
 cases it with
 | win n=>exact mS _
 | aK a b =>
  intro q hq;have:q=(a,b):=by simpa [cW,qp] using hq
  subst this;have:=h.2;show a<=b;lia
theorem j6(sh:Int->List Int)(it:aR)(h:lM it):bM (cW sh it)=aU sh (fO it):=by
 cases it with
 | win n =>
  show bM (cL (sh n))=aU sh [-1-n];rw[eL,cj,OT sh h];simp[aU]
 | aK a b =>
  show bM [(a,b)]=aU sh (run a (b-a).toNat);rw[gn,lX sh _ _ h.1];rfl
theorem kJ(sh:Int->List Int)(it:aR)(h:lM it):jc (cW sh it)=(aU sh (fO it)).length:=by
 rw[← j6 sh it h,rR _ (vP sh it h)]
theorem aaM(sh:Int->List Int)(p f:Int)(it:aR)(h:lM it):dD (aD p (it,cW sh it,f,f+jc (cW sh it)))=aE sh p f (fO it):=by
 have tt:=kJ sh it h
 have sp:dD (cO (cz (kQ 0 (p-f) 0 (cW sh it))))=(aU sh (fO it)).take (p-f).toNat:=by
  rw[oR,pW _ _ _ (vP sh it h),j6 sh it h];rfl
 unfold aD;show dD (if f+jc (cW sh it)<=p then [it] else if p<=f then [] else cO (cz (kQ 0 (p-f) 0 (cW sh it))))=_;rw[tt]
 cases it with
 | win n =>
  have e1:aU sh (fO (.win n))=bh sh (-1-n):=by show aU sh [-1-n]=_;rw[cj];simp[aU]
  rw[e1]at sp ⊢;show _=aE sh p f [-1-n];rw[aE,aE,gE];split
  ·rfl
  ·split
   ·rfl
   ·exact sp
 | aK a b =>
  have e1:aU sh (fO (.aK a b))=run a (b-a).toNat:=lX sh _ _ h.1;rw[e1]at sp ⊢;show _=aE sh p f (run a (b-a).toNat);rw[OR sh p _ _ _ h.1];have rl:=fK a (b-a).toNat;split
  ·rename_i c;rw[kG,u9 ∅];rfl
  ·split
   ·rename_i c;rw[show (p-f).toNat=0 by lia];rfl
   ·exact sp
theorem aaN(sh:Int->List Int)(p f:Int)(it:aR)(h:lM it):dD (bD p (it,cW sh it,f,f+jc (cW sh it)))=bE sh p f (fO it):=by
 have tt:=kJ sh it h
 have sp:dD (cO (cz (kQ (p-f) (f+jc (cW sh it)-f) 0 (cW sh it))))=(aU sh (fO it)).drop (p-f).toNat:=by
  rw[oR,pW _ _ _ (vP sh it h),j6 sh it h,u9 (by rw[tt];lia)]
 unfold bD;show dD (if f+jc (cW sh it)<=p then [] else if p<=f then [it] else cO (cz (kQ (p-f) (f+jc (cW sh it)-f) 0 (cW sh it))))=_;have c1:(f+jc (cW sh it)<=p)=(f+(aU sh (fO it)).length<=p):=by rw[tt]
 simp only[c1]
 cases it with
 | win n =>
  have e1:aU sh (fO (.win n))=bh sh (-1-n):=by show aU sh [-1-n]=_;rw[cj];simp[aU]
  rw[e1]at sp ⊢;show _=bE sh p f [-1-n];rw[bE,bE,gE];split
  ·rfl
  ·split
   ·rfl
   ·exact sp
 | aK a b =>
  have e1:aU sh (fO (.aK a b))=run a (b-a).toNat:=lX sh _ _ h.1;rw[e1]at sp ⊢;show _=bE sh p f (run a (b-a).toNat);rw[OS sh p _ _ _ h.1];have rl:=fK a (b-a).toNat;split
  ·rename_i c;rw[zg ∅];rfl
  ·split
   ·rename_i c;rw[kG,show (p-f).toNat=0 by lia];rfl
   ·exact sp
theorem F4(sh:Int->List Int)(p:Int):∀ (aO:List aR) (f:Int),fR aO->dD ((bX sh f aO).flatMap (aD p))=aE sh p f (dD aO)
 | [],f,_=>rfl
 | it::r,f,h=>by
  have h1:=h it (by simp);rw[bX,jv,fD,aaM sh p f it h1,F4 sh p r _ λi hi=>h i (nu _ hi)];have e:dD (it::r)=fO it++dD r:=by unfold dD;rw[jv]
  rw[e,xq,kJ sh it h1]
theorem CQ(sh:Int->List Int)(p:Int):∀ (aO:List aR) (f:Int),fR aO->dD ((bX sh f aO).flatMap (bD p))=bE sh p f (dD aO)
 | [],f,_=>rfl
 | it::r,f,h=>by
  have h1:=h it (by simp);rw[bX,jv,fD,aaN sh p f it h1,CQ sh p r _ λi hi=>h i (nu _ hi)];have e:dD (it::r)=fO it++dD r:=by unfold dD;rw[jv]
  rw[e,xr,kJ sh it h1]
def SA(sh:Int->List Int)(aO:List aR):Prop:=∀ n,aR.win n∈aO->∀ x∈sh n,0<=x
theorem SD(sh:Int->List Int)(it:aR)(h:lM it)(g:∀ n,it=.win n->∀ x∈sh n,0<=x):lK (cW sh it):=by
 cases it with
 | win n=>exact (CH (g n rfl)).nn
 | aK a b =>
  intro q hq;have:q=(a,b):=by simpa [cW,qp] using hq
  subst this;exact⟨h.1,by have:=h.2;show a<=b;lia⟩
theorem ze(sh:Int->List Int):∀ (aO:List aR) (f:Int),fR aO->SA sh aO->∀ d∈bX sh f aO,lM d.1/\lK d.2.1
 | [],_,_,_=>λd hd=>by cases hd
 | it::r,f,h,g=>by
  intro d hd;rw[bX]at hd;rcases List.mem_cons.mp hd with rfl|z
  ·exact⟨h it (by simp),SD sh it (h it (by simp)) λn e=>g n (by rw[e];simp)⟩
  ·exact ze sh r _ (λi hi=>h i (nu _ hi)) (λn hn=>g n (nu _ hn)) d z
theorem Ak{a b:Int}{r:Row}(h:lK r):fR (cO (cz (kQ a b 0 r))):=vN (oQ (Aa a b r 0 h))
theorem aaO{p:Int}{d:nE}(h:lM d.1)(g:lK d.2.1):fR (aD p d):=by
 unfold aD;split
 ·exact fR.one h
 ·split
  ·exact λi hi=>by cases hi
  ·exact Ak g
theorem aaP{p:Int}{d:nE}(h:lM d.1)(g:lK d.2.1):fR (bD p d):=by
 unfold bD;split
 ·exact λi hi=>by cases hi
 ·split
  ·exact fR.one h
  ·exact Ak g
theorem vQ{g:nE->List aR}{l:List nE}(h:∀ d∈l,fR (g d)):fR (l.flatMap g):=λit hm=>by
 obtain⟨d,hd,hm⟩:=List.mem_flatMap.mp hm;exact h d hd it hm
theorem zf(r:Row):(cO r).length=r.length:=by unfold cO;rw[cD]
theorem rZ(a b:Int)(r:Row):(cO (cz (kQ a b 0 r))).length<=r.length:=by
 rw[zf];exact iJ (lV _) (j5 a b r 0)
theorem Al(sh:Int->List Int){g:nE->List aR}(hg:∀ d,(g d).length<=d.2.1.length+1):∀ (aO:List aR) (f:Int),((bX sh f aO).flatMap g).length<=(bG sh aO).length+aO.length
 | [],_=>by simp[bX]
 | it::r,f=>by
  rw[bX,jv,dz];have a:=hg (it,cW sh it,f,f+jc (cW sh it));have b:=Al sh hg r (f+jc (cW sh it));have e:bG sh (it::r)=cW sh it++bG sh r:=by unfold bG;rw[jv];rfl
  rw[e,dz,ny];simp only at a;lia
theorem WZ(p:Int)(d:nE):(aD p d).length<=d.2.1.length+1:=by
 unfold aD;split
 ·simp
 ·split
  ·simp
  ·exact iJ (rZ _ _ _) ∅
theorem W0(p:Int)(d:nE):(bD p d).length<=d.2.1.length+1:=by
 unfold bD;split
 ·simp
 ·split
  ·simp
  ·exact iJ (rZ _ _ _) ∅
theorem iF{α β:Type}(g:α->List β)(l:List α)(i:Nat):((l.take i).flatMap g).length<=(l.flatMap g).length:=by
 have e:l.flatMap g=(l.take i).flatMap g++(l.drop i).flatMap g:=by rw[← List.flatMap_append,List.take_append_drop]
 rw[e,dz];lia
theorem r9{α β:Type}(g:α->List β){l:List α}{i:Nat}{a:α}(h:l[i]?=some a):(l.take (i+1)).flatMap g=(l.take i).flatMap g++g a:=by
 rw[take_snoc h,List.flatMap_append];simp
theorem vR(sh:Int->List Int){aO:List aR}{it:aR}(h:it∈aO):(cW sh it).length<=(bG sh aO).length:=by
 obtain⟨a,b,rfl⟩:=List.append_of_mem h;rw[eG];have e:bG sh (it::b)=cW sh it++bG sh b:=by unfold bG;rw[jv];rfl
 rw[e,dz,dz];lia
def KH(A B:Addr)(H H':Hp):Prop:=∀ a o,H a=some o->a≠A->a≠B->H' a=some o
theorem KH.tup{A B:Addr}{H H':Hp}{xs ys:List V}(k:KH A B H H')(hA:H A=some (.lst xs))(hB:H B=some (.lst ys)):∀ a zs,H a=some (.tup zs)->H' a=some (.tup zs):=λa zs h=>k a _ h (λz=>by
 rw[z,hA]at h;cases h) (λz=>by
 rw[z,hB]at h
 cases h)
theorem cU.tups{H H':Hp}{v:V}{it:aR}(t:∀ a xs,H a=some (.tup xs)->H' a=some (.tup xs)):cU H v it->cU H' v it:=λ⟨a,e,h⟩=>⟨a,e,t a _ h⟩
theorem m8.UL{N:Addr->Prop}{A B:Addr}{H H':Hp}{v:V}{d:nE}{xs ys:List V}(hA:H A=some (.lst xs))(hB:H B=some (.lst ys))(n:∀ a,N a->a≠A/\a≠B)(k:KH A B H H'):m8 N H v d->m8 N H' v d:=λ⟨a,ra,x,e,h,i,⟨as,hr,hp⟩,hn⟩ =>
 ⟨a,ra,x,e,k.tup hA hB _ _ h,i.tups (k.tup hA hB),⟨as,k _ _ hr (n ra hn).1 (n ra hn).2,hp.tups (k.tup hA hB)⟩,hn⟩
theorem bU.app{α β:Type}{R:α->β->Prop}{as cs:List α}{bs ds:List β}(h:bU R as bs)(t:bU R cs ds):bU R (as++cs) (bs++ds):=by
 induction h with
 | nil=>exact t
 | cons e _ ih=>exact .cons e ih
structure lN(H1:Hp)(A B:Addr)(l1 l2:List aR)(H2:Hp):Prop where
 a:∃ vs,H2 A=some (.lst vs)/\bU (cU H2) vs l1
 b:∃ vs,H2 B=some (.lst vs)/\bU (cU H2) vs l2
 k:KH A B H1 H2
theorem lN.same{H1 H2 H3:Hp}{A B:Addr}{l1 l2:List aR}(p:lN H1 A B l1 l2 H2)(s:aL H2 H3):lN H1 A B l1 l2 H3:=by
 obtain⟨⟨v1,h1,t1⟩,⟨v2,h2,t2⟩,k⟩:=p;exact⟨⟨v1,s _ _ h1,t1.mono λ_ _ h=>h.same s⟩,⟨v2,s _ _ h2,t2.mono λ_ _ h=>h.same s⟩,λa o e n m=>s _ _ (k a o e n m)⟩
theorem lN.KI{H1 H2:Hp}{A B:Addr}{l1 l2 l3:List aR}{v1 v3:List V}(p:lN H1 A B l1 l2 H2)(n:A≠B)(h1:H2 A=some (.lst v1))(t3:bU (cU H2) v3 l3):lN H1 A B (l1++l3) l2 (aP H2 A (.lst (v1++v3))):=by
 obtain⟨⟨v1',h1',t1⟩,⟨v2,h2,t2⟩,k⟩:=p;rw[h1]at h1';cases h1';have kp:∀ v i,cU H2 v i->cU (aP H2 A (.lst (v1++v3))) v i:=λv i h=>h.keep h1 (aM A _ _);refine⟨⟨_,af,(t1.mono kp).app (t3.mono kp)⟩,⟨v2,by rw[aN n.symm];exact h2,t2.mono kp⟩,λa o e m1 m2=>?_⟩;rw[aN m1];exact k a o e m1 m2
theorem lN.KJ{H1 H2:Hp}{A B:Addr}{l1 l2 l3:List aR}{v2 v3:List V}(p:lN H1 A B l1 l2 H2)(n:A≠B)(h2:H2 B=some (.lst v2))(t3:bU (cU H2) v3 l3):lN H1 A B l1 (l2++l3) (aP H2 B (.lst (v2++v3))):=by
 obtain⟨⟨v1,h1,t1⟩,⟨v2',h2',t2⟩,k⟩:=p;rw[h2]at h2';cases h2';have kp:∀ v i,cU H2 v i->cU (aP H2 B (.lst (v2++v3))) v i:=λv i h=>h.keep h2 (aM B _ _);refine⟨⟨v1,by rw[aN n];exact h1,t1.mono kp⟩,⟨_,af,(t2.mono kp).app (t3.mono kp)⟩,λa o e m1 m2=>?_⟩;rw[aN m2];exact k a o e m1 m2
theorem oS{rows:cS}{sh:Int->List Int}(qo:gr rows)(yC:DE rows)(xX:mZ rows sh):∀ x:Int,0<=x->x<rows.length->∀ y∈sh x,0<=y:=by
 obtain⟨rk,hb,hd⟩:=yC
 have key:∀ (k:Nat) (x:Int),rk x<k->0<=x->x<rows.length->∀ y∈sh x,0<=y:=by
  intro k
  induction k with
  | zero=>intro x h;lia
  | succ k ih =>
   intro x hx x0 x1 y hy;have he:rows[x.toNat]?=some rows[x.toNat]:=sF ∅;rw[xX x _ x0 he]at hy;unfold aU at hy;obtain⟨e,hm,hy⟩:=List.mem_flatMap.mp hy;unfold bh at hy;by_cases c:e<0
   ·rw[if_pos c]at hy;have nx:jV rows x (-1-e):=⟨x0,_,he,b8.mpr ⟨Q,by rw[show -1-(-1-e)=e by lia];exact hm⟩⟩;obtain⟨a,b⟩:=qo.EK nx;have:=hd _ _ nx;exact ih _ ∅ a b y hy
   ·rw[if_neg c]at hy;rw[List.mem_singleton.mp hy];lia
 exact λx=>key (rk x+1) x (Nat.lt_succ_self _)
theorem sf{rows:cS}{s n:Int}{es:List Int}(h0:0<=s)(he:rows[s.toNat]?=some es)(h:aR.win n∈aI es):jV rows s n:=by
 exists h0,es,he;rw[← iE];unfold fc;rw[List.mem_filterMap];exact⟨.win n,h,rfl⟩
structure qc(H:Hp)(r:Addr)(rows:cS)(sh:Int->List Int):Prop where
 at_:gp H r (rows.map aI)
 len:rows.length<=1000
 ents:∀ es∈rows,es.length<=1000
 snd:gr rows
 rk:DE rows
 OU:mZ rows sh
 bd:∀ x:Int,0<=x->x<rows.length->(sh x).length<=10000
theorem qc.same{H H':Hp}{r:Addr}{rows:cS}{sh:Int->List Int}(s:aL H H')(h:qc H r rows sh):qc H' r rows sh:={ h with at_:=h.at_.same s }
structure aaQ(H:Hp)(r:Addr)(rows:cS)(sh:Int->List Int)(s:Int)(es:List Int)(yD:List V)(b:Addr):Prop where
 he:rows[s.toNat]?=some es
 hr:H r=some (.lst yD)
 ix:qx yD s=some (.ref b)
 it:bJ H (.ref b) (aI es)
 il:(aI es).length<=1000
 rl:(bG sh (aI es)).length<=10000
 tt:jc (cL (sh s))=(sh s).length
 se:sh s=aU sh es
theorem qc.one{H:Hp}{r:Addr}{rows:cS}{sh:Int->List Int}{s:Int}(h:qc H r rows sh)(h0:0<=s)(h1:s<rows.length):∃ es yD b,aaQ H r rows sh s es yD b:=by
 have ff:rows[s.toNat]?=some rows[s.toNat]:=sF ∅;obtain⟨yD,KC,vK⟩:=h.at_;obtain⟨vi,DP,hI⟩:=vK.get' (i:=s.toNat) (b:=aI rows[s.toNat]) (by rw[nG,ff];rfl);obtain⟨b,QD,rfl,hb,uB⟩:=id hI;have z:=cQ DP;rw[show ((s.toNat:Nat):Int)=s by lia]at z;have hil:=oO rows[s.toNat] [];have hel:=h.ents _ (nF ff);obtain⟨HV,hok⟩:=Ai sh rows[s.toNat];have se:=h.OU s _ h0 ff;refine⟨_,yD,b,ff,KC,z,hI,?_,?_,?_,se⟩
 ·show (rows[s.toNat].foldl bw []).length<=_;simp only[sI]at hil;lia
 ·have q:=uK sh (aI rows[s.toNat]) hok;rw[HV,← se]at q;have:=h.bd s h0 h1;lia
 ·rw[← rR _ (mS _),eL]
theorem lY(ns:List Int):(cL ns).length<=ns.length:=by
 have z:=zO ns [];simpa [cL] using z
def fP(sh:Int->List Int)(p:Int)(es new:List Int):List Int:=if new=[] then es else aE sh p 0 es++new++bE sh p 0 es
class inductive SE
 | mk (r S:Addr) (aO:List aR) (kvs:List (fj × V)) (sh:Int->List Int) (N:Addr->Prop) (_:vs=[.ref r,.ref S]) (_:bJ H (.ref r) aO) (_:H S=some (.dK kvs)) (_:xo H kvs sh aO) (_:aO.length<=100000) (_:(∀ it∈aO,(cW sh it).length<=100000)) (_:(∀ n a,aR.win n∈aO->cE kvs (Sum.inl n)=some (.ref a)->N a)) (_:(∀ a,H a=none->N a)) (_ :
 ∀ (o:Addr) (DC:List V) (H':Hp),H' o=some (.lst DC)->bU (m8 N H') DC (bX sh 0 aO)->aL H H'->H o=none->Q (.ref o) H')
theorem qd:aH ["items","views","told","first","item","row","last"] ["items","views"] (aA Ih):=eO
theorem F5:‹(2,23,["items","views"],SE)›:=λD=>by
 specialize eV D.Wy.F qd;obtain⟨r,S,aO,kvs,sh,N,rfl,⟨r',QD,e,hr1,uB⟩,hS,hW,dN,hrl,nW,nN,k⟩:=h;cases e;exists _,(aj (aW (i:=2) qd.nd (bN ah)) (aj (aW (i:=3) qd.nd ay) (aj (d7 PassesOwn.never rfl (cH (pv 0)) (cu (i:=4) qd.nd) (aj (aW (i:=5) qd.nd (aG D.Wx (yi D) hr (aa (pv 4) (aa (pv 1) ah)))) (aj (aW (i:=6) qd.nd (bC cT (pv 3) (dX.rW D.Ws (D.T.oB _ D.Ws.m) (DN D) hr (aa (pv 5) ah)))) (aj (aY (dM qw jX jY bT (pv 2) (aa (cF (aa (pv 4) (aa (pv 5) (aa (pv 3) (aa (pv 6) ah))))) ah))) (au (aW (i:=3) qd.nd (pv 6))))))) (au (aJ (pv 2))))));refine⟨iR,λq hq=>?_⟩;have s0:aL H (aP H q (.lst [])):=ak hq _;refine⟨Y,r,rfl,⟨_,bL.of (s0 _ _ hr1)⟩,dO (K:=K) (a:=r) (xs:=QD) (λi σ H2=>∃ (vs:List V) (u1 u2 u3:Option V),σ=[some (.ref r),some (.ref S),some (.ref q),some (.int (0+jc (bG sh (aO.take i)))),u1,u2,u3]/\H2 q=some (.lst vs)/\bU (m8 (λa=>N a/\a≠q) H2) vs (bX sh 0 (aO.take i))/\aL H H2) ⟨[],none,none,none,rfl,af,.nil,s0⟩ (by rintro i σ H2 _ ⟨_,_,_,_,_,_,_,s⟩;exact bL.of (s _ _ hr1)) ?_ ?_⟩
 ·rintro i x σ H2 hi ⟨vs,u1,u2,u3,rfl,d9,hb,s⟩;obtain⟨it,ei,hiv⟩:=uB.get hi;have im:=nF ei;have bl:=hb.len;rw[CP,gy]at bl;refine⟨Y,Y,x,it,S,kvs,λn=>cL (sh n),rfl,hiv.same s,s _ _ hS,λn hn=>(hW.same s) n (by rw[← hn];exact im),λa H3 R3 s3 w3=>?_⟩
  have na:N a/\a≠q:=by
   rcases w3 with ⟨n,rfl,hv⟩|h0
   ·exists nW n a im hv;obtain⟨b,KA,⟨as,Xa,_⟩⟩:=hW n im;rw[hv]at KA;cases KA;exact aB Xa hq
   ·exact⟨nN a (bu s h0),(aB d9 h0).symm⟩
  refine⟨Y,Y,a,cW sh it,rfl,R3,iJ (hrl it im) (by decide),λH4 s4=>⟨Z,?_⟩⟩;have SG:=s4 _ _ (s3 _ _ d9);refine⟨Y,.inl ⟨rfl,_,bL.of SG⟩,Y,Y,Y,Y,DJ,λt ht=>?_⟩;have hq5:=ak ht (.tup [x,.ref a,.int (0+jc (bG sh (aO.take i))),.int (0+jc (bG sh (aO.take i))+jc (cW sh it))]) _ _ SG;refine⟨q,Z,hq5,aV ∅,?_⟩;refine⟨Y,_,some x,some (.ref a),some (.int (0+jc (bG sh (aO.take i))+jc (cW sh it))),?_,af,?_,bP hq (s.trans (s3.trans (s4.trans (ak ht _)))) (aM q _ _)⟩
  ·have e:bG sh (aO.take (i+1))=bG sh (aO.take i)++cW sh it:=by rw[take_snoc ei,eG,jo];rfl
   rw[e,zI,← Int.add_assoc];rfl
  ·have e:bX sh 0 (aO.take (i+1))=bX sh 0 (aO.take i)++[(it,cW sh it,0+jc (bG sh (aO.take i)),0+jc (bG sh (aO.take i))+jc (cW sh it))]:=by rw[take_snoc ei,vO];rfl
   rw[e];have VY:t≠q:=(aB SG ht).symm;refine bU.snoc (hb.mono λv d h=>(((h.same s3).same s4).same (ak ht _)).keep hq5 (λa h=>h.2) (aM q _ _)) ⟨t,a,x,rfl,?_,?_,?_,na⟩
   ·rw[aN VY,af]
   ·exact ((((hiv.same s).same s3).same s4).same (ak ht _)).keep hq5 (aM q _ _)
   ·exact (((R3.same s4).same (ak ht _))).keep hq5 na.2 (aM q _ _)
 ·rintro σ H2 ⟨vs,u1,u2,u3,rfl,d9,hb,s⟩;rw[uB.len,gK]at hb;exact⟨Y,k q vs H2 d9 (hb.mono λv d ⟨a,ra,x,e,h,i,r,n⟩=>⟨a,ra,x,e,h,i,r,n.1⟩) s hq⟩
class inductive IZ
 | mk (r S o:Addr) (p:Int) (aO M4:List aR) (kvs:List (fj × V)) (sh:Int->List Int) (_:vs=[.ref r,.ref S,.int p,.ref o]) (_:bJ H (.ref r) aO) (_:H S=some (.dK kvs)) (_:xo H kvs sh aO) (_:bJ H (.ref o) M4) (_:fR aO) (_:fR M4) (_:SA sh aO) (_:aO.length<=50000) (_:(bG sh aO).length<=50000) (_:M4.length<=50000) (_ :
 ∀ (q:Addr) (H':Hp),bJ H' (.ref q) (aI (aE sh p 0 (dD aO)++dD M4++bE sh p 0 (dD aO)))->aL H H'->H q=none->Q (.ref q) H')
theorem gb:aH ["items","views","place","others","ahead","behind","item","row","first","last"] ["items","views","place","others"] (aA ua):=eO
theorem vS:‹(3,24,["items","views","place","others"],IZ)›:=λD=>by
 specialize eV D.Wz.F gb;obtain⟨r,S,o,p,aO,M4,kvs,sh,rfl,hI,hS,hW,hO,ok1,ok2,nn,l1,l2,l3,k⟩:=h;exists _,(aj (aW (i:=4) gb.nd (bN ah)) (aj (aW (i:=5) gb.nd (bN ah)) (aj (d7 PassesOwn.never rfl (cH (aG D.Wy (F5 D) hr (aa (pv 0) (aa (pv 1) ah)))) (nZ (n:=4) rfl (ck (cu (i:=6) gb.nd) (ck (cu (i:=7) gb.nd) (ck (cu (i:=8) gb.nd) (ck (cu (i:=9) gb.nd) gH))))) (au (bK (aT fJ (pv 9) (pv 2) (bq _)) (au (aY (dM qw jX jY bT (pv 4) (aa (pv 6) ah)))) (au (bK (aT fJ (pv 2) (pv 8) (bq _)) (au (aY (dM qw jX jY bT (pv 5) (aa (pv 6) ah)))) (aj (wG (i:=4) gb.nd rfl (Or.inl rfl) (aG D.FU (m6 D) hr (aa (aG D.Wu (rX D) hr (aa (pv 7) (aa ay (aa (bC cK (pv 2) (pv 8)) ah)))) ah)) xh) (au (wG (i:=5) gb.nd rfl (Or.inl rfl) (aG D.FU (m6 D) hr (aa (aG D.Wu (rX D) hr (aa (pv 7) (aa (bC cK (pv 2) (pv 8)) (aa (bC cK (pv 9) (pv 8)) ah)))) ah)) xh)))))))) (au (aJ (aG D.LY (gX D) hr (aa (bC jA (bC jA (pv 4) (pv 3)) (pv 5)) ah)))))));refine⟨iR,λA hA=>⟨iR,λB hB=>?_⟩⟩;have sA:aL H (aP H A (.lst [])):=ak hA _;have sB:aL _ (aP (aP H A (.lst [])) B (.lst [])):=ak hB _;have s0:=sA.trans sB;have A9:A≠B:=aB af hB;have M6:=bu sA hB;refine⟨Y,Y,r,S,aO,kvs,sh,λa=>a≠A/\a≠B,rfl,hI.same s0,s0 _ _ hS,hW.same s0,Q,(λit hi=>by have:=vR sh hi;lia),?_,?_,λD dv H1 hD Rl s1 _=>?_⟩
 ·intro n a hn hv;obtain⟨b,e,as,hb,_⟩:=hW n hn;rw[hv]at e;cases e;exact⟨aB hb hA,aB hb M6⟩
 ·intro a ha;exact⟨(aB (sB _ _ af) ha).symm,(aB af ha).symm⟩
 have hA1:=s1 _ _ (sB _ _ (af (H:=H) (a:=A) (o:=.lst [])));have hB1:=s1 _ _ (af (H:=aP H A (.lst [])) (a:=B) (o:=.lst []))
 have nD:D≠A/\D≠B:=by
  rename_i hD0;exact⟨(aB (sB _ _ af) hD0).symm,(aB af hD0).symm⟩
 have aep:=Al sh (WZ p) aO 0;have aeq:=Al sh (W0 p) aO 0;have M7:=ze sh aO 0 ok1 nn;refine⟨D,rfl,⟨_,bL.of hD⟩,dO (K:=K) (a:=D) (xs:=dv) (λi σ H2=>∃ u1 u2 u3 u4:Option V,σ=[some (.ref r),some (.ref S),some (.int p),some (.ref o),some (.ref A),some (.ref B),u1,u2,u3,u4]/\lN H1 A B (((bX sh 0 aO).take i).flatMap (aD p)) (((bX sh 0 aO).take i).flatMap (bD p)) H2) ⟨none,none,none,none,rfl,⟨_,hA1,.nil⟩,⟨_,hB1,.nil⟩,λ_ _ e _ _=>e⟩ (by rintro i σ H2 _ ⟨_,_,_,_,_,pv⟩;exact bL.of (pv.k _ _ hD nD.1 nD.2)) ?_ ?_⟩
 ·rintro i x σ H2 hi ⟨u1,u2,u3,u4,rfl,pv⟩;obtain⟨d,ed,LQ⟩:=Rl.get hi;have hd2:=LQ.UL hA1 hB1 (λa h=>h) pv.k;obtain⟨a,ra,xi,rfl,hta,hxi,Ye,nra⟩:=hd2;have eA:=r9 (aD p) ed;have eB:=r9 (bD p) ed;have bA:=iF (aD p) (bX sh 0 aO) i;have bB:=iF (bD p) (bX sh 0 aO) i;have bA1:=iF (aD p) (bX sh 0 aO) (i+1);have bB1:=iF (bD p) (bX sh 0 aO) (i+1);obtain⟨v1,hv1,t1⟩:=pv.a;obtain⟨v2,hv2,t2⟩:=pv.b;have z1:=t1.len;have z2:=t2.len;obtain⟨it,row,fi,la⟩:=d
  have rl:row.length<=50000:=by
   have z:=nF ed
   have:∃ Rx∈aO,row=cW sh Rx:=by
    have q:∀ (aO:List aR) (f:Int),(it,row,fi,la)∈bX sh f aO->∃ Rx∈aO,row=cW sh Rx:=by
     intro aO
     induction aO with
     | nil=>intro f h;cases h
     | cons i0 r0 ih =>
      intro f h;rw[bX]at h;rcases List.mem_cons.mp h with e|e
      ·cases e;exact⟨it,by simp,rfl⟩
      ·obtain⟨i1,m1,e1⟩:=ih _ e;exact⟨i1,nu _ m1,e1⟩
    exact q aO 0 z
   obtain⟨i1,m1,rfl⟩:=this;have:=vR sh m1;lia
  exists a,Y,dG.of hta,rfl,P,rfl,P,rfl,P,rfl,Z;refine⟨Y,Y,Z,Y,cI (λc=>?_) (λc=>?_)⟩
  ·have c':la<=p:=of_decide_eq_true c;refine⟨Y,.inl ⟨rfl,_,bL.of hv1⟩,Y,A,Z,hv1,aV ∅,?_⟩;exists K,Y;rw[eA,eB];have e1:aD p (it,row,fi,la)=[it]:=by unfold aD;rw[if_pos c']
   have e2:bD p (it,row,fi,la)=[]:=by unfold bD;rw[if_pos c']
   rw[e1,e2,gE];exact pv.KI A9 hv1 (.cons hxi .nil)
  ·have c':¬ la<=p:=λz=>c (decide_eq_true z);refine⟨Y,Y,Z,Y,cI (λc2=>?_) (λc2=>?_)⟩
   ·have Mp:p<=fi:=of_decide_eq_true c2;refine⟨Y,.inl ⟨rfl,_,bL.of hv2⟩,Y,B,Z,hv2,aV ∅,?_⟩;exists K,Y;rw[eA,eB];have e1:aD p (it,row,fi,la)=[]:=by unfold aD;rw[if_neg c',if_pos Mp]
    have e2:bD p (it,row,fi,la)=[it]:=by unfold bD;rw[if_neg c',if_pos Mp]
    rw[e1,e2,gE];exact pv.KJ A9 hv2 (.cons hxi .nil)
   ·have Mp:¬ p<=fi:=λz=>c2 (decide_eq_true z);have e1:aD p (it,row,fi,la)=cO (cz (kQ 0 (p-fi) 0 row)):=by unfold aD;rw[if_neg c',if_neg Mp]
    have e2:bD p (it,row,fi,la)=cO (cz (kQ (p-fi) (la-fi) 0 row)):=by unfold bD;rw[if_neg c',if_neg Mp]
    rw[eA,e1,dz]at bA1;rw[eB,e2,dz]at bB1;refine⟨Y,Y,Y,Y,Z,ra,row,0,p-fi,rfl,Ye,Q,λq1 H3 R3 s3 SH=>⟨q1,Y,R3,iJ (j5 _ _ _ _) ∅,λq2 H4 I4 s4 d9=>?_⟩⟩;obtain⟨q2',v3,e3,h3,t3⟩:=I4;cases e3;have z3:=t3.len;have Mq:=s4 _ _ (s3 _ _ hv1);refine⟨A,q2,Z,Mq,h3,gM (aV ∅),?_⟩;have pv5:=((pv.same s3).same s4).KI A9 Mq t3;have aew:cA (aP H4 A (.lst (v1++v3))) ra row:=((Ye.same s3).same s4).keep Mq nra.1 (aM A _ _);have aex:(aP H4 A (.lst (v1++v3))) B=some (.lst v2):=by rw[aN A9.symm];exact s4 _ _ (s3 _ _ hv2)
    refine⟨Y,Y,Y,Y,Z,Y,Y,Z,ra,row,p-fi,la-fi,rfl,aew,Q,λq3 H6 R6 s6 EL=>⟨q3,Y,R6,iJ (j5 _ _ _ _) ∅,λq4 H7 I7 s7 SG=>?_⟩⟩;obtain⟨q4',v4,e4,h4,t4⟩:=I7;cases e4;have z4:=t4.len;have UM:=s7 _ _ (s6 _ _ aex);refine⟨B,q4,Z,UM,h4,gM (aV ∅),?_⟩;exists K,Y;rw[eA,eB,e1,e2];exact ((pv5.same s6).same s7).KJ A9 UM t4
 ·rintro σ H2 ⟨u1,u2,u3,u4,rfl,pv⟩;have dl:=Rl.len;rw[dl,gK]at pv;obtain⟨v1,hv1,t1⟩:=pv.a;obtain⟨v2,hv2,t2⟩:=pv.b;have z1:=t1.len;have z2:=t2.len;have sm:aL H H2:=λa ob e=>pv.k a ob (s1 _ _ (s0 _ _ e)) (aB e hA) (aB e M6);obtain⟨o',v3,e3,h3,t3⟩:=hO.same sm;cases e3;have z3:=t3.len;refine⟨Y,Y,A,o,Z,hv1,h3,gM (aV ∅),λc1 X9=>?_⟩;have n1:aL H2 (aP H2 c1 (.lst (v1++v3))):=ak X9 _;refine⟨Y,c1,B,Z,af,n1 _ _ hv2,gM (aV (by rw[dz];lia)),λc2 Xb=>?_⟩;have n2:aL _ (aP (aP H2 c1 (.lst (v1++v3))) c2 (.lst (v1++v3++v2))):=ak Xb _;have VW:=n1.trans n2;refine⟨c2,Y,⟨c2,Y,af,((t1.app t3).app t2).mono λv i h=>h.same VW⟩,by rw[dz,dz];lia,λq H9 I9 s9 hq9=>?_⟩;have okA:fR ((bX sh 0 aO).flatMap (aD p)):=vQ λd hd=>aaO (M7 d hd).1 (M7 d hd).2;have okB:fR ((bX sh 0 aO).flatMap (bD p)):=vQ λd hd=>aaP (M7 d hd).1 (M7 d hd).2;rw[kH _ ((okA.append ok2).append okB),fD,fD,F4 sh p aO 0 ok1,CQ sh p aO 0 ok1]at I9;exact k q H9 I9 (sm.trans (VW.trans s9)) (bu (sm.trans VW) hq9)
class inductive yj
 | mk (r o:Addr) (rows:cS) (s p:Int) (aO:List aR) (sh:Int->List Int) (_:vs=[.ref r,.int s,.int p,.ref o]) (_:qc H r rows sh) (_:0<=s) (_:s<rows.length) (_:bJ H (.ref o) aO) (_:fR aO) (_:aO.length<=10000) (_:0<=p/\p<=(sh s).length) (_:(∀ (es:List Int) (q:Addr) (H':Hp),rows[s.toNat]?=some es->bJ H' (.ref q) (aI (fP sh p es (dD aO)))->aL H H'->H q=none->Q (.ref q) H'))
theorem OV{aO:List aR}(h:fR aO):dD aO=[]↔aO=[]:=by
 refine⟨λe=>?_,λe=>by rw[e];rfl⟩
 cases aO with
 | nil=>rfl
 | cons it r =>
  have e1:dD (it::r)=fO it++dD r:=by unfold dD;rw[jv]
  rw[e1]at e;have e2:=(List.append_eq_nil_iff.mp e).1
  cases it with
  | win n=>cases e2
  | aK a b =>
   have ab:a<b:=(h (.aK a b) (by simp)).2;have:=fK a (b-a).toNat;have e3:run a (b-a).toNat=[]:=e2;rw[e3]at this;simp only[sI]at this;lia
theorem yk:aH ["rows","sheet","place","items","views"] ["rows","sheet","place","items"] (aA uc):=eO
theorem qe:‹(4,25,["rows","sheet","place","items"],yj)›:=λD=>by
 refine eV D.Se.F yk λcN A zn s0 H vs Q E hr h=>?_;obtain⟨r,o,rows,s,p,aO,sh,rfl,R,h0,h1,hO,ok,ol,hp,k1⟩:=h;have hu:=gC hr;refine⟨_,(aj (aW (i:=4) yk.nd (aG D.OC (jI D) hr (aa (pv 0) (aa (bN (aa (pv 1) ah)) ah)))) (aj (aY (aG D.X8 (gD D) hr (aa (gj hu (pv 4) (pv 1)) (aa (pv 2) (aa (pv 2) ah))))) (aj (bK (iK (mj (pv 3) (λ_=>rfl))) (au (aJ (aG D.LY (gX D) hr (aa (aQ bH (pv 0) (pv 1)) ah)))) aX) (au (aJ (aG D.Wz (vS D) hr (aa (aQ bH (pv 0) (pv 1)) (aa (pv 4) (aa (pv 2) (aa (pv 3) ah)))))))))),?_⟩;refine⟨Y,Y,jS,λL hL=>?_⟩;have s1:aL H (aP H L (.lst [.int s])):=ak hL _;refine⟨r,L,rows,[s],sh,rfl,R.at_.same s1,af,by simp,R.len,R.ents,R.snd,R.rk,(λx hx=>by rw[List.mem_singleton.mp hx];exact⟨h0,h1⟩),R.OU,R.bd,λS kvs ks H2 hS hv tp sk hn s2 hS0=>?_⟩;have UN:=sk s (by simp);obtain⟨a,ha,Ra⟩:=hv s UN;have z:=iD.k (k:=Sum.inl s) hS;rw[ha]at z;have lI:=s1.trans s2;have shl:=R.bd s h0 h1;have rol:=lY (sh s);obtain⟨es,yD,b,O⟩:=(R.same lI).one h0 h1;refine⟨Y,Y,S,Y,z,Y,Y,a,cL (sh s),p,p,rfl,Ra,Q,⟨hp.1,Int.le_refl _,by rw[O.tt];exact hp.2⟩,λH3 s3=>?_⟩
 ·obtain⟨tV,aaV,b',O3⟩:=(R.same (lI.trans s3)).one h0 h1;have ee:es=tV:=qH (O.he.symm.trans O3.he);subst ee;have hO3:=hO.same (lI.trans s3);obtain⟨o',ovs,eo,ho,to⟩:=id hO3;cases eo;exists Y,!ovs.isEmpty,.inl ⟨_,bL.of ho,rfl⟩;have el:=to.len
  cases aO with
  | nil =>
   have:ovs=[]:=List.eq_nil_of_length_eq_zero (by simpa using el);subst this;refine gR ?_;refine⟨Y,Y,r,K,V,bL.of O3.hr,O3.ix,b',aI es,rfl,O3.it,iJ O3.il (by decide),λq H4 I4 s4 hq=>?_⟩;refine k1 es q H4 O.he ?_ (lI.trans (s3.trans s4)) (bu (lI.trans s3) hq);obtain⟨e1,e2⟩:=m7 es;rw[kH _ e2,e1]at I4;exact I4
  | cons it r0 =>
   have:(!ovs.isEmpty)=true:=by
    cases ovs with
    | nil=>simp at el
    | cons _ _=>rfl
   rw[this];refine eY ?_;refine⟨Y,Y,r,K,V,bL.of O3.hr,O3.ix,Y,Y,Y,b',S,o,p,aI es,it::r0,kvs,sh,rfl,O3.it,s3 _ _ hS,λn hn=>?_,hO3,(m7 es).2,ok,λn hn=>?_,iJ O3.il (by decide),iJ O3.rl (by decide),iJ ol (by decide),λq H4 I4 s4 hq=>?_⟩
   ·have nx:=sf h0 O.he hn;obtain⟨i,hi⟩:=List.getElem?_of_mem UN;obtain⟨a2,e2,R2⟩:=hv n (List.mem_of_mem_take (tp.dn i s hi n nx));exact⟨a2,e2,R2.same s3⟩
   ·have nx:=sf h0 O.he hn;obtain⟨n0,n1⟩:=R.snd.EK nx;exact oS R.snd R.rk R.OU n n0 n1
   ·refine k1 es q H4 O.he ?_ (lI.trans (s3.trans s4)) (bu (lI.trans s3) hq);rw[(m7 es).1]at I4;unfold fP;rw[if_neg (λz=>by cases (OV ok).mp z)];exact I4
def kD(a b:Int)(d:nE):List aR:=if d.2.2.2<=a\/b<=d.2.2.1 then [d.1] else if a<=d.2.2.1/\d.2.2.2<=b then [] else cO (cz (kQ 0 (a-d.2.2.1) 0 d.2.1++kQ (b-d.2.2.1) (d.2.2.2-d.2.2.1) 0 d.2.1))
def tD(a b:Int)(d:nE):List aR:=if d.2.2.2<=a\/b<=d.2.2.1 then [] else if a<=d.2.2.1/\d.2.2.2<=b then [d.1] else cO (cz (kQ (a-d.2.2.1) (b-d.2.2.1) 0 d.2.1))
def KL(sh:Int->List Int)(a b f e:Int):List Int:=if f+(bh sh e).length<=a\/b<=f then [e] else if a<=f/\f+(bh sh e).length<=b then [] else (bh sh e).take (a-f).toNat++(bh sh e).drop (b-f).toNat
def M8(sh:Int->List Int)(a b f e:Int):List Int:=if f+(bh sh e).length<=a\/b<=f then [] else if a<=f/\f+(bh sh e).length<=b then [e] else ((bh sh e).take (b-f).toNat).drop (a-f).toNat
def kE(sh:Int->List Int)(a b:Int):Int->List Int->List Int
 | _,[]=>[]
 | f,e::r=>KL sh a b f e++kE sh a b (f+(bh sh e).length) r
def tE(sh:Int->List Int)(a b:Int):Int->List Int->List Int
 | _,[]=>[]
 | f,e::r=>M8 sh a b f e++tE sh a b (f+(bh sh e).length) r
theorem xu(sh:Int->List Int)(a b:Int)(y:List Int):∀ (x:List Int) (f:Int),kE sh a b f (x++y)=kE sh a b f x++kE sh a b (f+(aU sh x).length) y
 | [],f=>by simp[kE,aU]
 | e::x,f=>by
  rw[List.cons_append,kE,kE,xu sh a b y x,nB,cj,dz,Int.add_assoc]
  push_cast
  rfl
theorem xx(sh:Int->List Int)(a b:Int)(y:List Int):∀ (x:List Int) (f:Int),tE sh a b f (x++y)=tE sh a b f x++tE sh a b (f+(aU sh x).length) y
 | [],f=>by simp[tE,aU]
 | e::x,f=>by
  rw[List.cons_append,tE,tE,xx sh a b y x,nB,cj,dz,Int.add_assoc]
  push_cast
  rfl
theorem Yg{a f:Int}(h:f<a):(a-f).toNat=(a-(f+1)).toNat+1:=by lia
theorem M9{a f:Int}(h:a<=f):(a-f).toNat=0:=Int.toNat_of_nonpos (Int.sub_nonpos_of_le h)
theorem Yh{a f:Int}(h:a<=f):(a-(f+1)).toNat=0:=M9 (Int.le_trans h (Int.le_of_lt (Int.lt_succ f)))
theorem nS{a f:Int}(h:¬ f+1<=a):a<=f:=Int.not_lt.mp h
theorem OW(sh:Int->List Int){a b:Int}(ab:a<b):∀ (n:Nat) (x f:Int),0<=x->kE sh a b f (run x n)=(run x n).take (a-f).toNat++(run x n).drop (b-f).toNat
 | 0,_,_,_=>by simp[run,kE]
 | n+1,x,f,h=>by
  rw[run,kE,OW sh ab n (x+1) _ ∅];unfold KL;rw[rY sh h];show (if f+1<=a\/b<=f then [x] else if a<=f/\f+1<=b then [] else _)++((run (x+1) n).take (a-(f+1)).toNat++(run (x+1) n).drop (b-(f+1)).toNat)=_;by_cases c1:f+1<=a
  ·rw[if_pos (.inl c1),Yg c1,Yg (Int.lt_trans c1 ab)];rfl
  ·by_cases c2:b<=f
   ·rw[if_pos (.inr c2),M9 (nS c1),M9 c2,Yh (nS c1),Yh c2];rfl
   ·rw[if_neg (λz=>z.elim c1 c2),if_pos ⟨nS c1,Int.not_le.mp c2⟩,M9 (nS c1),Yg (Int.not_le.mp c2),Yh (nS c1)];rfl
theorem OX(sh:Int->List Int){a b:Int}(ab:a<b):∀ (n:Nat) (x f:Int),0<=x->tE sh a b f (run x n)=((run x n).take (b-f).toNat).drop (a-f).toNat
 | 0,_,_,_=>by simp[run,tE]
 | n+1,x,f,h=>by
  rw[run,tE,OX sh ab n (x+1) _ ∅];unfold M8;rw[rY sh h];show (if f+1<=a\/b<=f then [] else if a<=f/\f+1<=b then [x] else _)++((run (x+1) n).take (b-(f+1)).toNat).drop (a-(f+1)).toNat=_;by_cases c1:f+1<=a
  ·rw[if_pos (.inl c1),Yg c1,Yg (Int.lt_trans c1 ab)];rfl
  ·by_cases c2:b<=f
   ·rw[if_pos (.inr c2),M9 c2,Yh c2];simp
   ·rw[if_neg (λz=>z.elim c1 c2),if_pos ⟨nS c1,Int.not_le.mp c2⟩,M9 (nS c1),Yg (Int.not_le.mp c2),Yh (nS c1)];rfl
theorem Mr{a b t:Int}{r:Row}(ok:∀ p∈r,p.1<=p.2)(h:(bM r).length<=t.toNat):bM (cz (kQ 0 a 0 r++kQ b t 0 r))=(bM r).take a.toNat++(bM r).drop b.toNat:=by
 rw[nO _ (Wf (Dy _ _ _ _) (Dy _ _ _ _)),cZ,rV _ _ _ _ ok,rV _ _ _ _ ok];show ((bM r).take (a-0).toNat).drop 0++((bM r).take (t-0).toNat).drop (b-0).toNat=_;rw[Int.sub_zero,Int.sub_zero,Int.sub_zero,u9 h];rfl
theorem aaW(sh:Int->List Int){a b:Int}(ab:a<b)(f:Int)(it:aR)(h:lM it):dD (kD a b (it,cW sh it,f,f+jc (cW sh it)))=kE sh a b f (fO it):=by
 have tt:=kJ sh it h
 have sp:dD (cO (cz (kQ 0 (a-f) 0 (cW sh it)++kQ (b-f) (f+jc (cW sh it)-f) 0 (cW sh it))))=(aU sh (fO it)).take (a-f).toNat++(aU sh (fO it)).drop (b-f).toNat:=by
  rw[oR,Mr (vP sh it h) (by rw[j6 sh it h,tt];lia),j6 sh it h]
 unfold kD;show dD (if f+jc (cW sh it)<=a\/b<=f then [it] else if a<=f/\f+jc (cW sh it)<=b then [] else cO (cz (kQ 0 (a-f) 0 (cW sh it)++kQ (b-f) (f+jc (cW sh it)-f) 0 (cW sh it))))=_;have c1:(f+jc (cW sh it)<=a\/b<=f)=(f+(aU sh (fO it)).length<=a\/b<=f):=by rw[tt]
 have c2:(a<=f/\f+jc (cW sh it)<=b)=(a<=f/\f+(aU sh (fO it)).length<=b):=by rw[tt]
 simp only[c1,c2]
 cases it with
 | win n =>
  have e1:aU sh (fO (.win n))=bh sh (-1-n):=by show aU sh [-1-n]=_;rw[cj];simp[aU]
  rw[e1]at sp ⊢;show _=kE sh a b f [-1-n];rw[kE,kE,gE];unfold KL;split
  ·rfl
  ·split
   ·rfl
   ·exact sp
 | aK x y =>
  have e1:aU sh (fO (.aK x y))=run x (y-x).toNat:=lX sh _ _ h.1;rw[e1]at sp ⊢;show _=kE sh a b f (run x (y-x).toNat);rw[OW sh ab _ _ _ h.1];have rl:=fK x (y-x).toNat;split
  ·rename_i c;rw[kG];rcases c with c|c
   ·rw[u9 ∅,zg ∅,gE];rfl
   ·rw[M9 (Int.le_trans (Int.le_of_lt ab) c),M9 c];rfl
  ·split
   ·rename_i c;rw[M9 c.1,zg ∅];rfl
   ·exact sp
theorem aaX(sh:Int->List Int){a b:Int}(ab:a<b)(f:Int)(it:aR)(h:lM it):dD (tD a b (it,cW sh it,f,f+jc (cW sh it)))=tE sh a b f (fO it):=by
 have tt:=kJ sh it h
 have sp:dD (cO (cz (kQ (a-f) (b-f) 0 (cW sh it))))=((aU sh (fO it)).take (b-f).toNat).drop (a-f).toNat:=by
  rw[oR,pW _ _ _ (vP sh it h),j6 sh it h]
 unfold tD;show dD (if f+jc (cW sh it)<=a\/b<=f then [] else if a<=f/\f+jc (cW sh it)<=b then [it] else cO (cz (kQ (a-f) (b-f) 0 (cW sh it))))=_;rw[tt]
 cases it with
 | win n =>
  have e1:aU sh (fO (.win n))=bh sh (-1-n):=by show aU sh [-1-n]=_;rw[cj];simp[aU]
  rw[e1]at sp ⊢;show _=tE sh a b f [-1-n];rw[tE,tE,gE];unfold M8;split
  ·rfl
  ·split
   ·rfl
   ·exact sp
 | aK x y =>
  have e1:aU sh (fO (.aK x y))=run x (y-x).toNat:=lX sh _ _ h.1;rw[e1]at sp ⊢;show _=tE sh a b f (run x (y-x).toNat);rw[OX sh ab _ _ _ h.1];have rl:=fK x (y-x).toNat;split
  ·rename_i c;rcases c with c|c
   ·rw[zg (by rw[gy];lia)];rfl
   ·rw[M9 c];simp[dD]
  ·split
   ·rename_i c;rw[kG,M9 c.1,u9 ∅];rfl
   ·exact sp
theorem DS(sh:Int->List Int){a b:Int}(ab:a<b):∀ (aO:List aR) (f:Int),fR aO->dD ((bX sh f aO).flatMap (kD a b))=kE sh a b f (dD aO)
 | [],f,_=>rfl
 | it::r,f,h=>by
  have h1:=h it (by simp);rw[bX,jv,fD,aaW sh ab f it h1,DS sh ab r _ λi hi=>h i (nu _ hi)];have e:dD (it::r)=fO it++dD r:=by unfold dD;rw[jv]
  rw[e,xu,kJ sh it h1]
theorem F6(sh:Int->List Int){a b:Int}(ab:a<b):∀ (aO:List aR) (f:Int),fR aO->dD ((bX sh f aO).flatMap (tD a b))=tE sh a b f (dD aO)
 | [],f,_=>rfl
 | it::r,f,h=>by
  have h1:=h it (by simp);rw[bX,jv,fD,aaX sh ab f it h1,F6 sh ab r _ λi hi=>h i (nu _ hi)];have e:dD (it::r)=fO it++dD r:=by unfold dD;rw[jv]
  rw[e,xx,kJ sh it h1]
theorem UO{a b:Int}{d:nE}(h:lM d.1)(g:lK d.2.1):fR (kD a b d):=by
 unfold kD;split
 ·exact fR.one h
 ·split
  ·exact λi hi=>by cases hi
  ·exact vN (oQ λp hp=>(List.mem_append.mp hp).elim (Aa _ _ _ _ g p) (Aa _ _ _ _ g p))
theorem aaY{a b:Int}{d:nE}(h:lM d.1)(g:lK d.2.1):fR (tD a b d):=by
 unfold tD;split
 ·exact λi hi=>by cases hi
 ·split
  ·exact fR.one h
  ·exact Ak g
theorem I0(a b:Int)(d:nE):(kD a b d).length<=d.2.1.length+d.2.1.length+1:=by
 unfold kD;split
 ·simp
 ·split
  ·simp
  ·rw[zf];refine iJ (lV _) ?_;rw[dz];have:=j5 0 (a-d.2.2.1) d.2.1 0;have:=j5 (b-d.2.2.1) (d.2.2.2-d.2.2.1) d.2.1 0;lia
theorem OY(a b:Int)(d:nE):(tD a b d).length<=d.2.1.length+d.2.1.length+1:=by
 unfold tD;split
 ·simp
 ·split
  ·simp
  ·exact iJ (rZ _ _ _) ∅
theorem lZ(sh:Int->List Int){g:nE->List aR}(hg:∀ d,(g d).length<=d.2.1.length+d.2.1.length+1):∀ (aO:List aR) (f:Int),((bX sh f aO).flatMap g).length<=(bG sh aO).length+(bG sh aO).length+aO.length
 | [],_=>by simp[bX]
 | it::r,f=>by
  rw[bX,jv,dz];have a:=hg (it,cW sh it,f,f+jc (cW sh it));have b:=lZ sh hg r (f+jc (cW sh it));have e:bG sh (it::r)=cW sh it++bG sh r:=by unfold bG;rw[jv];rfl
  rw[e,dz,ny];simp only at a;lia
theorem F7(sh:Int->List Int)(it:aR)(row:Row)(fi la:Int):∀ (aO:List aR) (f:Int),(it,row,fi,la)∈bX sh f aO->∃ Rx∈aO,row=cW sh Rx
 | [],_,h=>by cases h
 | i0::r0,f,h=>by
  rw[bX]at h;rcases List.mem_cons.mp h with e|e
  ·cases e;exact⟨it,by simp,rfl⟩
  ·obtain⟨i1,m1,e1⟩:=F7 sh it row fi la r0 _ e;exact⟨i1,nu _ m1,e1⟩
theorem CU(sh:Int->List Int):∀ (aO:List aR) (f:Int) (d:nE),d∈bX sh f aO->d.1∈aO
 | [],_,_,h=>by cases h
 | i0::r0,f,d,h=>by
  rw[bX]at h;rcases List.mem_cons.mp h with e|e
  ·subst e;simp
  ·exact nu _ (CU sh r0 _ d e)
theorem F8(sh:Int->List Int){a b n:Int}{aO:List aR}(h:aR.win n∈(bX sh 0 aO).flatMap (kD a b)):aR.win n∈aO:=by
 obtain⟨d,hd,hm⟩:=List.mem_flatMap.mp h;unfold kD at hm;split at hm
 ·rw[List.mem_singleton.mp hm];exact CU sh aO 0 d hd
 ·split at hm
  ·cases hm
  ·unfold cO at hm;obtain⟨p,_,e⟩:=List.mem_map.mp hm;cases e
theorem CV{H:Hp}{A:Addr}{l:List aR}{vs:List V}(h:H A=some (.lst vs))(t:bU (cU H) vs l):bJ H (.ref A) l:=⟨A,vs,rfl,h,t⟩
def bS(sh:Int->List Int)(a b:Int)(es:List Int):List Int:=if a=b then es else kE sh a b 0 es
def gY(sh:Int->List Int)(a b:Int)(es:List Int):List Int:=if a=b then [] else tE sh a b 0 es
class inductive OZ
 | mk (r S:Addr) (a b:Int) (aO:List aR) (kvs:List (fj × V)) (sh:Int->List Int) (_:vs=[.ref r,.ref S,.int a,.int b]) (_:bJ H (.ref r) aO) (_:H S=some (.dK kvs)) (_:xo H kvs sh aO) (_:aO.length<=10000) (_:(bG sh aO).length<=20000) (_ :
 ∀ (t L M:Addr) (H':Hp),H' t=some (.tup [.ref L,.ref M])->bJ H' (.ref L) ((bX sh 0 aO).flatMap (kD a b))->bJ H' (.ref M) ((bX sh 0 aO).flatMap (tD a b))->aL H H'->Q (.ref t) H')
theorem jK:aH ["items","views","start","stop","left","taken","item","row","first","last"] ["items","views","start","stop"] (aA Dq):=eO
theorem CY:‹(3,26,["items","views","start","stop"],OZ)›:=λD=>by
 have DT:bf P w K mg zt cM 1 (aZ 7) (bg 7) ["row","start","stop"] Fx:=rX D;specialize eV D.WA.F jK;obtain⟨r,S,p,q,aO,kvs,sh,rfl,hI,hS,hW,l1,l2,k⟩:=h;exists _,(aj (aW (i:=4) jK.nd (bN ah)) (aj (aW (i:=5) jK.nd (bN ah)) (aj (d7 PassesOwn.never rfl (cH (aG D.Wy (F5 D) hr (aa (pv 0) (aa (pv 1) ah)))) (nZ (n:=4) rfl (ck (cu (i:=6) jK.nd) (ck (cu (i:=7) jK.nd) (ck (cu (i:=8) jK.nd) (ck (cu (i:=9) jK.nd) gH))))) (au (bK (PW.pt (BV (aT fJ (pv 9) (pv 2) (bq _)) (zl (aT fJ (pv 3) (pv 8) (bq _))))) (au (aY (dM qw jX jY bT (pv 4) (aa (pv 6) ah)))) (au (bK (PW.pt (qK (aT fJ (pv 2) (pv 8) (bq _)) (o7 (aT fJ (pv 9) (pv 3) (bq _))))) (au (aY (dM qw jX jY bT (pv 5) (aa (pv 6) ah)))) (aj (wG (i:=4) jK.nd rfl (Or.inl rfl) (aG D.FU (m6 D) hr (aa (bC jA (aG D.Wu DT hr (aa (pv 7) (aa ay (aa (bC cK (pv 2) (pv 8)) ah)))) (aG D.Wu DT hr (aa (pv 7) (aa (bC cK (pv 3) (pv 8)) (aa (bC cK (pv 9) (pv 8)) ah))))) ah)) xh) (au (wG (i:=5) jK.nd rfl (Or.inl rfl) (aG D.FU (m6 D) hr (aa (aG D.Wu DT hr (aa (pv 7) (aa (bC cK (pv 2) (pv 8)) (aa (bC cK (pv 3) (pv 8)) ah)))) ah)) xh)))))))) (au (aJ (cF (aa (pv 4) (aa (pv 5) ah))))))));refine⟨iR,λA hA=>⟨iR,λB hB=>?_⟩⟩;have sA:aL H (aP H A (.lst [])):=ak hA _;have sB:aL _ (aP (aP H A (.lst [])) B (.lst [])):=ak hB _;have s0:=sA.trans sB;have A9:A≠B:=aB af hB;have M6:=bu sA hB;refine⟨Y,Y,r,S,aO,kvs,sh,λa=>a≠A/\a≠B,rfl,hI.same s0,s0 _ _ hS,hW.same s0,Q,(λit hi=>by have:=vR sh hi;lia),?_,?_,λD dv H1 hD Rl s1 _=>?_⟩
 ·intro n a hn hv;obtain⟨b,e,as,hb,_⟩:=hW n hn;rw[hv]at e;cases e;exact⟨aB hb hA,aB hb M6⟩
 ·intro a ha;exact⟨(aB (sB _ _ af) ha).symm,(aB af ha).symm⟩
 have hA1:=s1 _ _ (sB _ _ (af (H:=H) (a:=A) (o:=.lst [])));have hB1:=s1 _ _ (af (H:=aP H A (.lst [])) (a:=B) (o:=.lst []))
 have nD:D≠A/\D≠B:=by
  rename_i hD0;exact⟨(aB (sB _ _ af) hD0).symm,(aB af hD0).symm⟩
 have aep:=lZ sh (I0 p q) aO 0;have aeq:=lZ sh (OY p q) aO 0;refine⟨D,rfl,⟨_,bL.of hD⟩,dO (K:=K) (a:=D) (xs:=dv) (λi σ H2=>∃ u1 u2 u3 u4:Option V,σ=[some (.ref r),some (.ref S),some (.int p),some (.int q),some (.ref A),some (.ref B),u1,u2,u3,u4]/\lN H1 A B (((bX sh 0 aO).take i).flatMap (kD p q)) (((bX sh 0 aO).take i).flatMap (tD p q)) H2) ⟨none,none,none,none,rfl,⟨_,hA1,.nil⟩,⟨_,hB1,.nil⟩,λ_ _ e _ _=>e⟩ (by rintro i σ H2 _ ⟨_,_,_,_,_,pv⟩;exact bL.of (pv.k _ _ hD nD.1 nD.2)) ?_ ?_⟩
 ·rintro i x σ H2 hi ⟨u1,u2,u3,u4,rfl,pv⟩;obtain⟨d,ed,LQ⟩:=Rl.get hi;have hd2:=LQ.UL hA1 hB1 (λa h=>h) pv.k;obtain⟨a,ra,xi,rfl,hta,hxi,Ye,nra⟩:=hd2;have eA:=r9 (kD p q) ed;have eB:=r9 (tD p q) ed;have bA:=iF (kD p q) (bX sh 0 aO) i;have bB:=iF (tD p q) (bX sh 0 aO) i;have bA1:=iF (kD p q) (bX sh 0 aO) (i+1);have bB1:=iF (tD p q) (bX sh 0 aO) (i+1);obtain⟨v1,hv1,t1⟩:=pv.a;obtain⟨v2,hv2,t2⟩:=pv.b;have z1:=t1.len;have z2:=t2.len;obtain⟨it,row,fi,la⟩:=d
  have rl:row.length<=20000:=by
   obtain⟨i1,m1,rfl⟩:=F7 sh it row fi la aO 0 (nF ed);have:=vR sh m1;lia
  have mV:v1.length<sizeLine:=aV ∅
  have Am:(la<=p\/q<=fi)->lN H1 A B (((bX sh 0 aO).take (i+1)).flatMap (kD p q)) (((bX sh 0 aO).take (i+1)).flatMap (tD p q)) (aP H2 A (.lst (v1++[xi]))):=λc=>by
   rw[eA,eB];have e1:kD p q (it,row,fi,la)=[it]:=by unfold kD;rw[if_pos c]
   have e2:tD p q (it,row,fi,la)=[]:=by unfold tD;rw[if_pos c]
   rw[e1,e2,gE];exact pv.KI A9 hv1 (.cons hxi .nil)
  exists a,Y,dG.of hta,rfl,P,rfl,P,rfl,P,rfl,Z;refine⟨Y,Y,Z,Y,cI (λc=>gR ?_) (λc=>?_)⟩
  ·exact⟨Y,.inl ⟨rfl,_,bL.of hv1⟩,Y,A,Z,hv1,mV,K,Y,Am (.inl (of_decide_eq_true c))⟩
  have c':¬ la<=p:=λz=>c (decide_eq_true z);refine⟨Y,Y,Z,Y,cI (λc2=>?_) (λc2=>?_)⟩
  ·exact⟨Y,.inl ⟨rfl,_,bL.of hv1⟩,Y,A,Z,hv1,mV,K,Y,Am (.inr (of_decide_eq_true c2))⟩
  have Mp:¬ q<=fi:=λz=>c2 (decide_eq_true z);have n1:¬ (la<=p\/q<=fi):=λz=>z.elim c' Mp
  have part:¬ (p<=fi/\la<=q)->lN H1 A B (((bX sh 0 aO).take i).flatMap (kD p q)) (((bX sh 0 aO).take i).flatMap (tD p q)) H2->kD p q (it,row,fi,la)=cO (cz (kQ 0 (p-fi) 0 row++kQ (q-fi) (la-fi) 0 row))/\tD p q (it,row,fi,la)=cO (cz (kQ (p-fi) (q-fi) 0 row)):=λc3 _=>by
   exists ?_
   ·unfold kD;rw[if_neg n1,if_neg c3]
   ·unfold tD;rw[if_neg n1,if_neg c3]
  have go:¬ (p<=fi/\la<=q)->∀ (q1 q2:Addr) (v3:List V) (H4:Hp),H4 q2=some (.lst v3)->bU (cU H4) v3 (cO (cz (kQ 0 (p-fi) 0 row++kQ (q-fi) (la-fi) 0 row)))->aL H2 H4->v1.length+v3.length<=sizeLine/\lN H1 A B (((bX sh 0 aO).take (i+1)).flatMap (kD p q)) (((bX sh 0 aO).take i).flatMap (tD p q)) (aP H4 A (.lst (v1++v3)))/\cA (aP H4 A (.lst (v1++v3))) ra row/\(aP H4 A (.lst (v1++v3))) B=some (.lst v2):=λc3 q1 q2 v3 H4 h3 t3 s4=>by
   obtain⟨e1,e2⟩:=part c3 pv;have z3:=t3.len;rw[eA,e1,dz]at bA1;have Mq:=s4 _ _ hv1;refine⟨Nat.le_of_lt (aV ∅),?_,(Ye.same s4).keep Mq nra.1 (aM A _ _),by rw[aN A9.symm];exact s4 _ _ hv2⟩;rw[eA,e1];exact (pv.same s4).KI A9 Mq t3
  have go2:¬ (p<=fi/\la<=q)->∀ (v4:List V) (H5 H7:Hp),lN H1 A B (((bX sh 0 aO).take (i+1)).flatMap (kD p q)) (((bX sh 0 aO).take i).flatMap (tD p q)) H5->H5 B=some (.lst v2)->bU (cU H7) v4 (cO (cz (kQ (p-fi) (q-fi) 0 row)))->aL H5 H7->v2.length+v4.length<=sizeLine/\lN H1 A B (((bX sh 0 aO).take (i+1)).flatMap (kD p q)) (((bX sh 0 aO).take (i+1)).flatMap (tD p q)) (aP H7 B (.lst (v2++v4))):=λc3 v4 H5 H7 pv5 h5 t4 s7=>by
   obtain⟨e1,e2⟩:=part c3 pv;have z4:=t4.len;rw[eB,e2,dz]at bB1;refine⟨Nat.le_of_lt (aV ∅),?_⟩;rw[eB,e2];exact (pv5.same s7).KJ A9 (s7 _ _ h5) t4
  have pl1:=j5 0 (p-fi) row 0;have pl2:=j5 (q-fi) (la-fi) row 0;have pl3:=j5 (p-fi) (q-fi) row 0;refine⟨Y,Y,Z,Y,Ot (λz=>⟨Y,Y,Z,Y,z⟩) (λc5=>?_) (λc5=>?_)⟩
  ·exists Y,.inl ⟨rfl,_,bL.of hv2⟩,Y,B,Z,hv2,aV ∅,K,Y;rw[eA,eB];have e1:kD p q (it,row,fi,la)=[]:=by unfold kD;rw[if_neg n1,if_pos c5]
   have e2:tD p q (it,row,fi,la)=[it]:=by unfold tD;rw[if_neg n1,if_pos c5]
   rw[e1,e2,gE];exact pv.KJ A9 hv2 (.cons hxi .nil)
  ·refine⟨Y,Y,Y,Y,Z,ra,row,0,p-fi,rfl,Ye,Q,λq1 H3 R3 s3 SH=>?_⟩;obtain⟨as3,ha3,pa3⟩:=id R3;have n3:=pa3.len;refine⟨Y,Y,Y,Z,Y,Y,Z,ra,row,q-fi,la-fi,rfl,Ye.same s3,Q,λq2 H4 R4 s4 d9=>?_⟩;obtain⟨as4,ha4,pa4⟩:=id R4;have n4:=pa4.len;refine⟨q1,q2,Z,s4 _ _ ha3,ha4,(by rw[cD,cD];exact gM (aV ∅)),λm hm=>?_⟩;have s5:aL H4 (aP H4 m (.lst (as3.map V.ref++as4.map V.ref))):=ak hm _;refine⟨m,kQ 0 (p-fi) 0 row++kQ (q-fi) (la-fi) 0 row,rfl,⟨as3++as4,by rw[af,gG],bQ.append ((pa3.same s4).same s5) (pa4.same s5)⟩,by rw[dz];lia,λq3 H6 I6 s6 EL=>?_⟩;obtain⟨q3',v3,e3,h3,t3⟩:=I6;cases e3;have s26:=s3.trans (s4.trans (s5.trans s6));obtain⟨g1,g2,g3,g4⟩:=go c5 q1 q3 v3 H6 h3 t3 s26;exists A,q3,Z,s26 _ _ hv1,h3,g1;refine⟨Y,Y,Y,Y,Z,Y,Y,Z,ra,row,p-fi,q-fi,rfl,g3,Q,λq4 H7 R7 s7 SG=>⟨q4,Y,R7,Q,λq5 H8 I8 s8 hq5=>?_⟩⟩;obtain⟨q5',v4,e4,h4,t4⟩:=I8;cases e4;obtain⟨f1,f2⟩:=go2 c5 v4 _ H8 g2 g4 t4 (s7.trans s8);exact⟨B,q5,Z,(s7.trans s8) _ _ g4,h4,f1,K,Y,f2⟩
 ·rintro σ H2 ⟨u1,u2,u3,u4,rfl,pv⟩;have dl:=Rl.len;rw[dl,gK]at pv;obtain⟨v1,hv1,t1⟩:=pv.a;obtain⟨v2,hv2,t2⟩:=pv.b;have sm:aL H H2:=λa ob e=>pv.k a ob (s1 _ _ (s0 _ _ e)) (aB e hA) (aB e M6);refine⟨Y,Y,pZ,λt ht=>k t A B _ af ?_ ?_ (sm.trans (ak ht _))⟩
  ·exact (CV hv1 t1).same (ak ht _)
  ·exact (CV hv2 t2).same (ak ht _)
class inductive F9
 | mk (r:Addr) (rows:cS) (s a b:Int) (sh:Int->List Int) (_:vs=[.ref r,.int s,.int a,.int b]) (_:qc H r rows sh) (_:0<=s) (_:s<rows.length) (_:M0 a b (sh s).length) (_:(∀ (es:List Int) (q:Addr) (H':Hp),rows[s.toNat]?=some es->bJ H' (.ref q) (aI (bS sh a b es))->aL H H'->H q=none->Q (.ref q) H'))
theorem yl:aH ["rows","sheet","start","stop","views"] ["rows","sheet","start","stop"] (aA ud):=eO
theorem DU:‹(4,27,["rows","sheet","start","stop"],F9)›:=λD=>by
 refine eV D.ZW.F yl λcN A zn s0 H vs Q E hr h=>?_;obtain⟨r,rows,s,p,q,sh,rfl,R,h0,h1,hp,k1⟩:=h;have hu:=gC hr;exists _,(aj (aW (i:=4) yl.nd (aG D.OC (jI D) hr (aa (pv 0) (aa (bN (aa (pv 1) ah)) ah)))) (aj (aY (aG D.X8 (gD D) hr (aa (gj hu (pv 4) (pv 1)) (aa (pv 2) (aa (pv 3) ah))))) (aj (bK (aT dY (pv 2) (pv 3) (bq _)) (au (aJ (aG D.LY (gX D) hr (aa (aQ bH (pv 0) (pv 1)) ah)))) aX) (au (aJ (aG D.LY (gX D) hr (aa (aQ bx (aG D.WA (CY D) hr (aa (aQ bH (pv 0) (pv 1)) (aa (pv 4) (aa (pv 2) (aa (pv 3) ah))))) ay) ah)))))));refine⟨Y,Y,jS,λL hL=>?_⟩;have s1:aL H (aP H L (.lst [.int s])):=ak hL _;refine⟨r,L,rows,[s],sh,rfl,R.at_.same s1,af,by simp,R.len,R.ents,R.snd,R.rk,(λx hx=>by rw[List.mem_singleton.mp hx];exact⟨h0,h1⟩),R.OU,R.bd,λS kvs ks H2 hS hv tp sk hn s2 hS0=>?_⟩;have UN:=sk s (by simp);obtain⟨a,ha,Ra⟩:=hv s UN;have z:=iD.k (k:=Sum.inl s) hS;rw[ha]at z;have lI:=s1.trans s2;have shl:=R.bd s h0 h1;have rol:=lY (sh s);obtain⟨es,yD,b,O⟩:=(R.same lI).one h0 h1;refine⟨Y,Y,S,Y,z,Y,Y,a,cL (sh s),p,q,rfl,Ra,Q,by rw[O.tt];exact hp,λH3 s3=>?_⟩
 ·obtain⟨tV,aaV,b',O3⟩:=(R.same (lI.trans s3)).one h0 h1;have ee:es=tV:=qH (O.he.symm.trans O3.he);subst ee;obtain⟨e1,e2⟩:=m7 es;refine⟨Y,Y,rfl,Y,cI (λc=>?_) (λc=>?_)⟩
  ·have c':p=q:=V.int.inj (of_decide_eq_true c);refine⟨Y,Y,r,K,V,bL.of O3.hr,O3.ix,b',aI es,rfl,O3.it,iJ O3.il (by decide),λo H4 I4 s4 ho=>?_⟩;refine k1 es o H4 O.he ?_ (lI.trans (s3.trans s4)) (bu (lI.trans s3) ho);rw[kH _ e2,e1]at I4;unfold bS;rw[if_pos c'];exact I4
  ·have c':¬ p=q:=λz=>c (by rw[z];exact decide_eq_true rfl);have pq:p<q:=by have:=hp.2.1;lia
   refine⟨Y,Y,r,K,V,bL.of O3.hr,O3.ix,Y,Y,Y,b',S,p,q,aI es,kvs,sh,rfl,O3.it,s3 _ _ hS,λn hn=>?_,iJ O3.il (by decide),iJ O3.rl (by decide),λt L M H4 ht hL4 hM4 s4=>?_⟩
   ·have nx:=sf h0 O.he hn;obtain⟨i,hi⟩:=List.getElem?_of_mem UN;obtain⟨a2,e2,R2⟩:=hv n (List.mem_of_mem_take (tp.dn i s hi n nx));exact⟨a2,e2,R2.same s3⟩
   have nn:SA sh (aI es):=λn hn=>by
    have nx:=sf h0 O.he hn;obtain⟨n0,n1⟩:=R.snd.EK nx;exact oS R.snd R.rk R.OU n n0 n1
   have M7:=ze sh (aI es) 0 e2 nn;have lk:fR ((bX sh 0 (aI es)).flatMap (kD p q)):=vQ λd hd=>UO (M7 d hd).1 (M7 d hd).2;have ll:=lZ sh (I0 p q) (aI es) 0;have oil:=O3.il;have orl:=O3.rl;refine⟨t,K,V,dG.of ht,rfl,L,Y,hL4,Q,λo H5 I5 s5 ho=>?_⟩;refine k1 es o H5 O.he ?_ (lI.trans (s3.trans (s4.trans s5))) (bu (lI.trans (s3.trans s4)) ho);rw[kH _ lk,DS sh pq _ _ e2,e1]at I5;unfold bS;rw[if_neg c'];exact I5
def lS(sh:Int->List Int)(a b to:Int)(es:List Int):List Int:=if a=b then es else aE sh to 0 (kE sh a b 0 es)++tE sh a b 0 es++bE sh to 0 (kE sh a b 0 es)
def Mv(a b to n:Int):Prop:=M0 a b n/\0<=to/\to<=n-(b-a)
theorem O0(sh:Int->List Int)(r:Row):bG sh (cO r)=r:=by
 unfold bG cO;rw[List.flatMap_map]
 induction r with
 | nil=>rfl
 | cons p r ih=>rw[jv,ih];rfl
theorem CZ(sh:Int->List Int)(a b:Int):∀ (aO:List aR) (f:Int),(bG sh ((bX sh f aO).flatMap (kD a b))).length<=(bG sh aO).length+(bG sh aO).length
 | [],_=>by simp[bX,bG]
 | it::r,f=>by
  have ih:=CZ sh a b r (f+jc (cW sh it));have e:bG sh (it::r)=cW sh it++bG sh r:=by unfold bG;rw[jv];rfl
  have one:(bG sh (kD a b (it,cW sh it,f,f+jc (cW sh it)))).length<=(cW sh it).length+(cW sh it).length:=by
   unfold kD;split
   ·rw[jo];show (cW sh it).length<=_;lia
   ·split
    ·simp[bG]
    ·rw[O0];refine iJ (lV _) ?_;rw[dz];have:=j5 0 (a-f) (cW sh it) 0;have:=j5 (b-f) (f+jc (cW sh it)-f) (cW sh it) 0;simp only;lia
  rw[bX,jv,eG,dz,e,dz];lia
class inductive Bq
 | mk (r:Addr) (rows:cS) (s a b to:Int) (sh:Int->List Int) (_:vs=[.ref r,.int s,.int a,.int b,.int to]) (_:qc H r rows sh) (_:0<=s) (_:s<rows.length) (_:Mv a b to (sh s).length) (_:(∀ (es:List Int) (q:Addr) (H':Hp),rows[s.toNat]?=some es->bJ H' (.ref q) (aI (lS sh a b to es))->aL H H'->H q=none->Q (.ref q) H'))
theorem lR.mid{i:Int}(h0:-300000<i)(h1:i<300000):lR i:=by
 have a:(300000:Int)<10^60:=by decide
 exact⟨Q,Q⟩
theorem lR.Ja{i:Int}(h:-100000<i/\i<100000):lR i:=lR.mid ∅ ∅
theorem iW:aH ["rows","sheet","start","stop","to","views","rest","left","taken"] ["rows","sheet","start","stop","to"] (aA pI):=eO
theorem An:‹(4,28,["rows","sheet","start","stop","to"],Bq)›:=λD=>by
 refine eV D.ZX.F iW λcN A zn s0 H vs Q E hr h=>?_;obtain⟨r,rows,s,p,q,to,sh,rfl,R,h0,h1,mv,k1⟩:=h;have hu:=gC hr;exists _,(aj (aW (i:=5) iW.nd (aG D.OC (jI D) hr (aa (pv 0) (aa (bN (aa (pv 1) ah)) ah)))) (aj (aY (aG D.X8 (gD D) hr (aa (gj hu (pv 5) (pv 1)) (aa (pv 2) (aa (pv 3) ah))))) (aj (aW (i:=6) iW.nd (bC cK (dX.rW D.Ws (D.T.oB _ D.Ws.m) (DN D) hr (aa (gj hu (pv 5) (pv 1)) ah)) (bC cK (pv 3) (pv 2)))) (aj (bK (iK (mh fJ fJ ay (pv 4) (pv 6))) (au gO) aX) (aj (bK (aT dY (pv 2) (pv 3) (bq _)) (au (aJ (aG D.LY (gX D) hr (aa (aQ bH (pv 0) (pv 1)) ah)))) aX) (aj (l9 (aG D.WA (CY D) hr (aa (aQ bH (pv 0) (pv 1)) (aa (pv 5) (aa (pv 2) (aa (pv 3) ah))))) (nZ (n:=2) rfl (ck (cu (i:=7) iW.nd) (ck (cu (i:=8) iW.nd) gH)))) (au (aJ (aG D.Wz (vS D) hr (aa (pv 7) (aa (pv 5) (aa (pv 4) (aa (pv 8) ah)))))))))))));refine⟨Y,Y,jS,λL hL=>?_⟩;have s1:aL H (aP H L (.lst [.int s])):=ak hL _;refine⟨r,L,rows,[s],sh,rfl,R.at_.same s1,af,by simp,R.len,R.ents,R.snd,R.rk,(λx hx=>by rw[List.mem_singleton.mp hx];exact⟨h0,h1⟩),R.OU,R.bd,λS kvs ks H2 hS hv tp sk hn s2 hS0=>?_⟩;have UN:=sk s (by simp);obtain⟨a,ha,Ra⟩:=hv s UN;have z:=iD.k (k:=Sum.inl s) hS;rw[ha]at z;have lI:=s1.trans s2;have shl:=R.bd s h0 h1;have rol:=lY (sh s);obtain⟨es,yD,b,O⟩:=(R.same lI).one h0 h1;refine⟨Y,Y,S,Y,z,Y,Y,a,cL (sh s),p,q,rfl,Ra,Q,by rw[O.tt];exact mv.1,λH3 s3=>?_⟩
 ·have hp:=mv.1;obtain⟨tV,aaV,b',O3⟩:=(R.same (lI.trans s3)).one h0 h1;have ee:es=tV:=qH (O.he.symm.trans O3.he);subst ee;obtain⟨e1,e2⟩:=m7 es;have z3:=iD.k (k:=Sum.inl s) (s3 _ _ hS);rw[ha]at z3;refine⟨Y,Y,S,Y,z3,a,cL (sh s),rfl,Ra.same s3,Q,λH4 s4=>?_⟩;rw[O.tt];exists Y,Y,Z,Z;exists Y,Z,Y;rw[decide_eq_true mv.2.1];refine cI (λ_=>?_) (λc=>absurd rfl c);exists Y,Z,Y;rw[decide_eq_true mv.2.2];refine eY ?_;have O4:bJ H4 (.ref b') (aI es):=O3.it.same s4;have hr4:=s4 _ _ O3.hr;refine⟨Y,Y,rfl,Y,cI (λc=>?_) (λc=>?_)⟩
  ·have c':p=q:=V.int.inj (of_decide_eq_true c);refine⟨Y,Y,r,K,V,bL.of hr4,O3.ix,b',aI es,rfl,O4,iJ O3.il (by decide),λo H5 I5 s5 ho=>?_⟩;refine k1 es o H5 O.he ?_ (lI.trans (s3.trans (s4.trans s5))) (bu (lI.trans (s3.trans s4)) ho);rw[kH _ e2,e1]at I5;unfold lS;rw[if_pos c'];exact I5
  ·have c':¬ p=q:=λz=>c (by rw[z];exact decide_eq_true rfl);have pq:p<q:=by have:=hp.2.1;lia
   have aaZ:∀ n,aR.win n∈aI es->∃ a2,cE kvs (Sum.inl n)=some (.ref a2)/\cA H4 a2 (cL (sh n)):=λn hn=>by
    have nx:=sf h0 O.he hn;obtain⟨i,hi⟩:=List.getElem?_of_mem UN;obtain⟨a2,e2,R2⟩:=hv n (List.mem_of_mem_take (tp.dn i s hi n nx));exact⟨a2,e2,(R2.same s3).same s4⟩
   refine⟨Y,Y,r,K,V,bL.of hr4,O3.ix,Y,Y,Y,b',S,p,q,aI es,kvs,sh,rfl,O4,s4 _ _ (s3 _ _ hS),aaZ,iJ O3.il (by decide),iJ O3.rl (by decide),λt L M H5 ht hL5 hM5 s5=>?_⟩
   have nn:SA sh (aI es):=λn hn=>by
    have nx:=sf h0 O.he hn;obtain⟨n0,n1⟩:=R.snd.EK nx;exact oS R.snd R.rk R.OU n n0 n1
   have M7:=ze sh (aI es) 0 e2 nn;have lk:fR ((bX sh 0 (aI es)).flatMap (kD p q)):=vQ λd hd=>UO (M7 d hd).1 (M7 d hd).2;have tk:fR ((bX sh 0 (aI es)).flatMap (tD p q)):=vQ λd hd=>aaY (M7 d hd).1 (M7 d hd).2;have ll:=lZ sh (I0 p q) (aI es) 0;have tl:=lZ sh (OY p q) (aI es) 0;have lr:=CZ sh p q (aI es) 0;have oil:=O3.il;have orl:=O3.rl;exists t,Y,dG.of ht,rfl,P,rfl,Z;refine⟨Y,Y,Y,Y,L,S,M,to,P,kvs,sh,rfl,hL5,s5 _ _ (s4 _ _ (s3 _ _ hS)),(λn hn=>?_),hM5,lk,tk,(λn hn=>nn n (F8 sh hn)),Q,Q,Q,λo H6 I6 s6 ho=>?_⟩
   ·obtain⟨a2,e3,R2⟩:=aaZ n (F8 sh hn);exact⟨a2,e3,R2.same s5⟩
   refine k1 es o H6 O.he ?_ (lI.trans (s3.trans (s4.trans (s5.trans s6)))) (bu (lI.trans (s3.trans (s4.trans s5))) ho);rw[DS sh pq _ _ e2,F6 sh pq _ _ e2,e1]at I6;unfold lS;rw[if_neg c'];exact I6
class inductive SI
 | mk (r:Addr) (rows:cS) (s:Int) (sh:Int->List Int) (_:vs=[.ref r,.int s]) (_:qc H r rows sh) (_:0<=s) (_:s<rows.length) (_ :
 ∀ (o:Addr) (H':Hp),bJ H' (.ref o) (aI (sh s))->aL H H'->H o=none->Q (.ref o) H')
theorem Br:aH ["rows","sheet"] ["rows","sheet"] (aA pJ):=eO
theorem Ao:‹(5,29,["rows","sheet"],SI)›:=λD=>by
 refine eV D.ZY.F Br λcN A zn s0 H vs Q E hr h=>?_;obtain⟨r,rows,s,sh,rfl,R,h0,h1,k⟩:=h;exists _,(au (aJ (aG D.FU (m6 D) hr (aa (dX.rW D.IL (D.T.mX _ D.IL.m) (Aj D) hr (aa (pv 0) (aa (pv 1) ah))) ah))));have shl:=R.bd s h0 h1;have rol:=lY (sh s);refine⟨Y,Y,r,rows,s,sh,rfl,R.at_,R.len,R.ents,R.snd,R.rk,h0,h1,R.OU,R.bd,λo H1 R1 s1 ho=>?_⟩;refine⟨o,cL (sh s),rfl,R1,Q,λq H2 I2 s2 hq=>k q H2 ?_ (s1.trans s2) (bu s1 hq)⟩;rw[zH _ (mS _),eL,Mn (oS R.snd R.rk R.OU s h0 h1)]at I2;exact I2
abbrev lD(ws:iY):HO:=.lst (ws.map λw=>V.str (eX w))
abbrev SJ:List (Str × Int):=[(Str.ofString "fresh",0),(Str.ofString "cut",3),(Str.ofString "move",4),(Str.ofString "quote",5),(Str.ofString "window",3),(Str.ofString "fix",1),(Str.ofString "back",2),(Str.ofString "fork",2),(Str.ofString "untie",1),(Str.ofString "read",1)]
abbrev AHD:List (Str × Int):=[(Str.ofString "put",2),(Str.ofString "strike",0),(Str.ofString "blot",1),(Str.ofString "lift",1)]
def m9(D:List (Str × Int))(n:List Nat):Option Int:=(D.find? λp=>decide (eX n=p.1)).map (·.2)
theorem Aq{D:List (Str × Int)}{n:List Nat}{i:Int}(h:m9 D n=some i):(D.find? λp=>decide (eX n=p.1))=some (eX n,i):=by
 unfold m9 at h;obtain⟨⟨x,j⟩,e,rfl⟩:=Option.map_eq_some_iff.mp h;have z:=List.find?_some e;have:eX n=x:=of_decide_eq_true z;rw[e,this]
abbrev Ga:List Nat:=[116,105,101]
inductive jU where
 | Bs (h:Int) (t:List Nat)
 | plain (n:List Nat) (ns:List Int)
 | tM (n:List Nat) (ns:List Int) (r:Row)
def jU.At(H:Hp)(p:Addr):jU->Prop
 | .Bs h t=>H p=some (.tup [.str "pour",.int h,.str (eX t)])
 | .plain n ns=>H p=some (.tup (.str (eX n)::ns.map V.int))
 | .tM n ns r=>∃ q,H p=some (.tup (.str (eX n)::ns.map V.int++[.ref q]))/\cA H q r
def vU(n:Int):Prop:=0<=n/\n<10^60
def O1(r:Row):Prop:=r.length<=29/\∀ p∈r,vU p.1/\vU p.2
def jU.Ok:jU->Prop
 | .Bs h t=>vU h/\t.length<=200
 | .plain n ns=>m9 SJ n=some (ns.length:Int)/\∀ x∈ns,vU x
 | .tM n ns r=>m9 AHD n=some (ns.length:Int)/\(∀ x∈ns,vU x)/\O1 r
abbrev vV(p:Int × Int):List Nat:=iQ.dg p.1++45::iQ.dg p.2
theorem Ms{p:Int × Int}(h:vU p.1/\vU p.2):(vV p).length<=121:=by
 rw[dz,ny];have a:=iQ.II h.1.1 h.1.2;have b:=iQ.II h.2.1 h.2.2;lia
theorem DV{n:Int}(h:vU n):n.natAbs.log2<1920:=by
 obtain⟨h0,h1⟩:=h;by_cases z:n.natAbs=0
 ·rw[z];decide
 ·rw[Nat.log2_lt z];have a:n.natAbs<10^60:=by lia
  exact o6 a (iJ (show (10:Nat)^60<=2^200 by decide) (Nat.pow_le_pow_right (by decide) (by decide)))
inductive gZ where
 | num (x:Int)
 | tx (t:List Nat)
 | row (r:Row)
def gZ.At(H:Hp)(v:V):gZ->Prop
 | .num x=>v=.int x
 | .tx t=>v=.str (eX t)
 | .row r=>∃ q,v=.ref q/\cA H q r
def gZ.Ok:gZ->Prop
 | .num x=>vU x
 | .tx t=>t.length<=200
 | .row r=>O1 r
abbrev Gb(r:Row):List Nat:=r.flatMap λp=>32::vV p
def gZ.line:gZ->List Nat
 | .num x=>32::iQ.dg x
 | .tx t=>32::t
 | .row r=>Gb r
theorem O2{r:Row}(h:O1 r):(Gb r).length<=4000:=by
 have key:∀ l:Row,(∀ p∈l,vU p.1/\vU p.2)->(Gb l).length<=122*l.length:=by
  intro l
  induction l with
  | nil=>intro _;exact gg _
  | cons p l ih =>
   intro g;have z:=ih λq hq=>g q (nu _ hq);have z2:=Ms (g p tU);show ((32::vV p)++Gb l).length<=_;rw[dz,ny,ny];lia
 have:=key r h.2;have:=h.1;lia
theorem gZ.Ge{p:gZ}(h:p.Ok):p.line.length<=4000:=by
 cases p with
 | num x=>have:=iQ.II h.1 h.2;show (32::iQ.dg x).length<=_;rw[ny];lia
 | tx t=>have h':t.length<=200:=h;show (32::t).length<=_;rw[ny];lia
 | row r=>exact O2 h
def jU.nm:jU->List Nat
 | .Bs _ _=>[112,111,117,114]
 | .plain n _=>n
 | .tM n _ _=>n
def jU.parts:jU->List gZ
 | .Bs h t=>[.num h,.tx t]
 | .plain _ ns=>ns.map .num
 | .tM _ ns r=>ns.map .num++[.row r]
def jU.line:jU->List Nat
 | d=>d.nm++d.parts.flatMap gZ.line
theorem O5{H:Hp}{p:Addr}{d:jU}(h:d.At H p):∃ vs,H p=some (.tup (.str (eX d.nm)::vs))/\bU (λv q=>gZ.At H v q) vs d.parts:=by
 have nums:∀ ns:List Int,bU (λv q=>gZ.At H v q) (ns.map V.int) (ns.map gZ.num):=λns=>by
  induction ns with
  | nil=>exact .nil
  | cons x ns ih=>exact .cons rfl ih
 cases d with
 | Bs x t=>exact⟨_,by rw[h,show Str.ofString "pour"=eX [112,111,117,114] by decide +kernel];rfl,.cons rfl (.cons rfl .nil)⟩
 | plain n ns=>exact⟨_,h,nums ns⟩
 | tM n ns r =>
  obtain⟨q,e,z⟩:=h;exact⟨ns.map V.int++[.ref q],by rw[e];rfl,(nums ns).snoc ⟨q,rfl,z⟩⟩
theorem Mt{d:jU}(h:d.Ok):∀ q∈d.parts,q.Ok:=by
 cases d with
 | Bs x t =>
  intro q hq;rcases List.mem_cons.mp hq with z|z
  ·rw[z];exact h.1
  ·rw[List.mem_singleton.mp z];exact h.2
 | plain n ns =>
  intro q hq;obtain⟨x,hx,rfl⟩:=List.mem_map.mp hq;exact h.2 x hx
 | tM n ns r =>
  intro q hq;rcases List.mem_append.mp hq with z|z
  ·obtain⟨x,hx,rfl⟩:=List.mem_map.mp z;exact h.2.1 x hx
  ·rw[List.mem_singleton.mp z];exact h.2.2
theorem Gf{H:Hp}:∀ {vs:List V} {ps:List gZ} {i:Nat} {v:V},bU (λv q=>gZ.At H v q) vs ps->vs[i]?=some v->∃ q,ps[i]?=some q/\q.At H v
 | _,_,_,_,.nil,h=>by simp at h
 | _,_,0,_,.cons o t,h=>by
  have e:=qH h;subst e;exact⟨Y,o⟩
 | _,_,i+1,_,.cons o t,h=>by
  obtain⟨q,e,z⟩:=Gf (i:=i) t (by simpa using h);exact⟨q,by simpa using e,z⟩
theorem C0{ps:List gZ}(h:∀ q∈ps,q.Ok):(ps.flatMap gZ.line).length<=4000*ps.length:=by
 induction ps with
 | nil=>exact Nat.zero_le _
 | cons p ps ih =>
  have z:=ih λq hq=>h q (nu _ hq);have z2:=gZ.Ge (h p tU);rw[jv,dz,ny,Nat.mul_add,Nat.mul_one];lia
theorem SK(n:List Nat):∀ ws:iY,iQ.jn 32 (n::ws)=n++ws.flatMap (λw=>32::w):=by
 intro ws
 induction ws generalizing n with
 | nil=>show n=_;simp
 | cons w ws ih =>
  show n++32::iQ.jn 32 (w::ws)=_;rw[ih w,jv];simp
theorem Gg{D:List (Str × Int)}{n:List Nat}{k:Int}(hD:∀ p∈D,32∉p.1.cps.toList/\p.1.cps.toList≠[112,111,117,114]/\p.1.cps.toList≠Ga/\p.1.cps.toList.length<=10)(h:m9 D n=some k):32∉n/\n≠[112,111,117,114]/\n≠Ga/\n.length<=10:=by
 have z:=hD _ (List.mem_of_find?_eq_some (Aq h));have e:(eX n).cps.toList=n:=iQ.vF n;rw[show ((eX n,k):Str × Int).1=eX n from rfl,e]at z;exact z
theorem O6{n:List Nat}{k:Int}(h:m9 SJ n=some k):32∉n/\n≠[112,111,117,114]/\n≠Ga/\n.length<=10:=Gg nofun h
theorem O7{n:List Nat}{k:Int}(h:m9 AHD n=some k):32∉n/\n≠[112,111,117,114]/\n≠Ga/\n.length<=10:=Gg nofun h
theorem O8(r:Row):Gb r=(r.map vV).flatMap λw=>32::w:=by
 induction r with
 | nil=>rfl
 | cons x r ih=>rw[jy,jv,← ih];rfl
theorem jU.At.same{H H':Hp}{p:Addr}{d:jU}(h:d.At H p)(s:aL H H'):d.At H' p:=by
 cases d with
 | Bs x t=>exact s _ _ h
 | plain n ns=>exact s _ _ h
 | tM n ns r=>obtain⟨q,e,r1⟩:=h;exact⟨q,s _ _ e,r1.same s⟩
theorem Mu{n:List Nat}{k:Int}(h:m9 SJ n=some k):k<=5:=by
 have z:∀ p∈SJ,p.2<=5:=by decide +kernel
 exact z _ (List.mem_of_find?_eq_some (Aq h))
theorem Mw{n:List Nat}{k:Int}(h:m9 AHD n=some k):k<=5:=by
 have z:∀ p∈AHD,p.2<=5:=by decide +kernel
 exact z _ (List.mem_of_find?_eq_some (Aq h))
theorem Jb{d:jU}(ok:d.Ok):d.nm≠Ga/\d.nm.length<=10/\d.parts.length<=10:=by
 cases d with
 | Bs x t=>exact⟨by show [112,111,117,114]≠Ga;decide,by show 4<=10;decide,by show 2<=10;decide⟩
 | plain n ns =>
  obtain⟨_,_,f3,f4⟩:=O6 ok.1;have:=Mu ok.1;exact⟨f3,f4,by show (ns.map gZ.num).length<=10;rw[cD];lia⟩
 | tM n ns r =>
  obtain⟨_,_,f3,f4⟩:=O7 ok.1;have:=Mw ok.1;exact⟨f3,f4,by show (ns.map gZ.num++[gZ.row r]).length<=10;rw[dz,cD];show ns.length+1<=10;lia⟩
class inductive Ar
 | mk (q:Addr) (r:Row) (_:vs=[.ref q]) (_:cA H q r) (_:O1 r) (_: ∀ (a:Addr) (H':Hp),H' a=some (lD (r.map vV))->aL H H'->H a=none->Q (.ref a) H')
theorem Gh:aH ["row"] ["row"] (aA pK):=eO
theorem O9{a b:Int}(ha:0<=a)(hb:0<=b):(Str.empty++Str.ofString (toString a)++Str.ofString "-"++Str.ofString (toString b))=eX (vV (a,b)):=by
 rw[iQ.zc ha,iQ.zc hb,show Str.ofString "-"=eX [45] by decide +kernel,show Str.empty=eX [] from rfl,DG,DG,DG];simp
theorem DW:‹(1,30,["row"],Ar)›:=λD=>by
 specialize eV D.Sf.F Gh;obtain⟨q,r,rfl,⟨as,hq,pa⟩,⟨lr,fr⟩,k⟩:=h;refine⟨_,(au (aJ (gV (N:=["start","stop"]) (nP (sc:=aA pK) (NX:=["row"]) (jx:=[none,none]) rfl rfl rfl nofun nofun rfl nofun rfl nofun) rfl (cH (pv 0)) (λ_ _ _ _ _ _=>(vC (n:=2) rfl (ck (cu (i:=0) (show List.Nodup (["start","stop"]:List Str) by decide +kernel)) (ck (cu (i:=1) (show List.Nodup (["start","stop"]:List Str) by decide +kernel)) gH)))) (λ_ _ _ _ _ _=>gI) (λ_ _ _ _ _ _=>(iQ.Oz (iQ.Kw (pv 0) (iQ.RV (iQ.Kw (pv 1) iQ.RU)))))))),?_⟩;have lp:=Paired.length pa;refine⟨Y,q,rfl,⟨_,bL.of hq⟩,λacc cY=>gz (K:=K) (a:=q) (xs:=as.map V.ref) (λi σ H2=>∃ u0 u1:Option V,σ=[u0,u1]/\H2 acc=some (lD ((r.take i).map vV))/\aL H H2) ⟨none,none,rfl,af,ak cY _⟩ (by rintro i σ H2 _ ⟨_,_,_,_,s2⟩;exact bL.of (s2 _ _ hq)) ?_ ?_⟩
 ·rintro i y σ H2 hi ⟨u0,u1,rfl,h2,s2⟩;rw[nG]at hi;obtain⟨a,ei,rfl⟩:=Option.map_eq_some_iff.mp hi;obtain⟨p,ep,hp⟩:=pa.get ei;have fp:=fr p (nF ep);have il:=(List.getElem?_eq_some_iff.mp ep).1;exists a,Y,dG.of (s2 _ _ hp),rfl,P,rfl,Z;refine⟨Y,Y,DV fp.1,Y,Y,DV fp.2,_,h2,aV (by rw[cD,cD,gy];lia),P,rfl,?_,bP cY s2 (aM acc _ _)⟩;rw[af,take_snoc ep,gG,jy,List.map_nil,O9 fp.1.1 fp.2.1];show some (HO.lst _)=some (HO.lst _);rw[gG];rfl
 ·rintro σ H2 ⟨u0,u1,rfl,h2,s2⟩;rw[cD,lp,gK]at h2;exact k acc H2 h2 s2 cY
def gZ.words:gZ->iY
 | .num x=>[iQ.dg x]
 | .tx t=>[t]
 | .row r=>r.map vV
theorem uL(ps:List gZ):(ps.flatMap gZ.words).flatMap (λw=>32::w)=ps.flatMap gZ.line:=by
 induction ps with
 | nil=>rfl
 | cons p ps ih =>
  rw[jv,jv,List.flatMap_append,ih];congr 1
  cases p with
  | num x=>show (32::iQ.dg x)++[]=32::iQ.dg x;rw[gE]
  | tx t=>show (32::t)++[]=32::t;rw[gE]
  | row r=>exact (O8 r).symm
class inductive Pa
 | mk (p:Addr) (d:jU) (_:vs=[.ref p]) (_:d.At H p) (_:d.Ok) (_:d.nm≠Ga/\d.nm.length<=10/\d.parts.length<=10) (_: ∀ H',aL H H'->Q (.str (eX d.line)) H')
theorem lT:aH ["deed","words","thing"] ["deed"] (aA qN):=eO
theorem Gi(W:iY):(W.map List.length).sum+W.length=(W.flatMap λw=>32::w).length:=by
 induction W with
 | nil=>rfl
 | cons x W ih =>
  rw[jy,List.sum_cons,ny,jv,dz,ny,← ih];lia
theorem Mx(a b:iY):(a.map λw=>V.str (eX w))++(b.map λw=>V.str (eX w))=(a++b).map λw=>V.str (eX w):=List.map_append.symm
theorem Bt:‹(2,31,["deed"],Pa)›:=λD=>by
 have uM:bf P w K mg zt cM 1 _ _ ["row"] Ar:=DW D;specialize eV D.ZZ.F lT;obtain⟨p,d,rfl,hd,ok,nn,k⟩:=h;exists _,(aj (bK (aT dY (aQ bx (pv 0) ay) br (bq _)) (au (aJ (dM PySem.F.plainAttrs_str PySem.F.slot_str_join PySem.F.type_str_join iQ.FN br (aa (bC jA (bC jA (bC jA (bN (aa br ah)) (aG D.Sf uM hr (aa (aQ bx (pv 0) ay) ah))) (bN (aa br ah))) (aG D.Sf uM hr (aa (aQ bx (pv 0) ay) ah))) ah)))) aX) (aj (aW (i:=1) lT.nd (bN (aa (aQ bx (pv 0) ay) ah))) (aj (d7 PassesOwn.never rfl (Vr (iT VB (pv 0) (ja ay) nJ)) (cu (i:=2) lT.nd) (au (wG (i:=1) lT.nd rfl (Or.inl rfl) (EY (jZ (cC dZ rfl D.T.dF yv (aa (pv 2) (aa (qm rfl D.T.jm tS) ah)))) (aG D.Sf uM hr (aa (pv 2) ah)) (bN (aa (FO.ZH (pv 2)) ah))) xh))) (au (aJ (dM PySem.F.plainAttrs_str PySem.F.slot_str_join PySem.F.type_str_join iQ.FN br (aa (pv 1) ah)))))));have tt:Str.ofString "tie"=eX Ga:=by decide +kernel
 have kil:kitOne K (.type "int") (.type "list")=some false:=by kernel_rfl
 have ksl:kitOne K (.type "str") (.type "list")=some false:=by kernel_rfl
 obtain⟨vs,hp,al⟩:=O5 hd;obtain⟨n1,n2,n3⟩:=nn;have pk:=Mt ok;have lv:=al.len;have ln:d.line=d.nm++d.parts.flatMap gZ.line:=rfl;exists Y,p,K,V,dG.of hp,uI;refine⟨rfl,Y,cI (λc=>absurd (of_decide_eq_true c) (by rw[tt];intro z;exact n1 (RT (V.str.inj z)))) (λ_=>?_)⟩;refine⟨Y,p,K,V,dG.of hp,uI,jS,λwl fwl=>?_⟩;have s0:=ak fwl (.lst [.str (eX d.nm)]);have h0:(aP H wl (.lst [.str (eX d.nm)])) wl=some (lD [d.nm]):=af;refine⟨Y,Y,p,Y,dG.of (s0 _ _ hp),?_,λtp htp=>?_⟩
 ·rintro⟨z,_⟩;have e:HT.iZ (V.str (eX d.nm)::vs).length 0 (some 1)=min 1 (V.str (eX d.nm)::vs).length:=HT.JW _ _ 1;have z':HT.iZ (V.str (eX d.nm)::vs).length 0 (some 1)=0:=z;rw[e,ny]at z';lia
 have ec:kB (V.str (eX d.nm)::vs) (some 1) none=vs:=by
  unfold kB;have e:HT.iZ (V.str (eX d.nm)::vs).length 0 (some 1)=1:=(HT.JW _ _ 1).trans (by rw[ny];lia);have e2:HT.iZ (V.str (eX d.nm)::vs).length (V.str (eX d.nm)::vs).length none=vs.length+1:=rfl;rw[e,e2];show vs.take (vs.length+1-1)=vs;exact u9 ∅
 rw[ec];change (aP H wl (.lst [.str (eX d.nm)])) tp=none at htp;have s1':=ak htp (.tup vs);have h1:(aP (aP H wl (.lst [.str (eX d.nm)])) tp (.tup vs)) tp=some (.tup vs):=af;have h1w:=s1' _ _ h0;have s1:=s0.trans s1';have nwt:wl≠tp:=aB h0 htp;generalize aP (aP H wl (.lst [.str (eX d.nm)])) tp (.tup vs)=H1 at s1 h1 h1w;refine⟨tp,rfl,⟨_,dG.of h1⟩,QY (K:=K) (a:=tp) (xs:=vs) (λi σ H2=>∃ u:Option V,σ=[some (.ref p),some (.ref wl),u]/\H2 wl=some (lD (d.nm::(d.parts.take i).flatMap gZ.words))/\H2 tp=some (.tup vs)/\aL H H2) ⟨none,rfl,by rw[List.take_zero,List.flatMap_nil];exact h1w,h1,s1⟩ (by rintro i σ H2 _ ⟨_,_,_,h2,_⟩;exact dG.of h2) ?_ ?_⟩
 ·rintro i v σ H2 hi ⟨u,rfl,h2,h2t,s2⟩;obtain⟨q,eq,hq⟩:=Gf al hi;have qk:=pk q (nF eq);have ql:=gZ.Ge qk;have fl:=C0 (ps:=d.parts.take i) λq hq=>pk q (List.mem_of_mem_take hq);have ft:(d.parts.take i).length<=10:=by rw[gy];lia
  have fs:=Gi ((d.parts.take i).flatMap gZ.words);rw[uL]at fs
  have nx:d.nm::(d.parts.take (i+1)).flatMap gZ.words=(d.nm::(d.parts.take i).flatMap gZ.words)++q.words:=by
   rw[take_snoc eq,List.flatMap_append,jv,List.flatMap_nil,gE,List.cons_append]
  have lB:(d.nm::(d.parts.take i).flatMap gZ.words).length<=50000:=by rw[ny];lia
  have lq:q.words.length<=29:=by
   cases q with
   | num x=>show 1<=29;decide
   | tx t=>show 1<=29;decide
   | row r=>show (r.map vV).length<=29;rw[cD];exact qk.1
  have kO:∀ (t:Addr) (H3:Hp) (v':V),aL H2 H3->H2 t=none->H3 t=some (lD q.words)->∃ (l b:Addr) (xs zs:List V),V.ref wl=.ref l/\V.ref t=.ref b/\H3 l=some (.lst xs)/\H3 b=some (.lst zs)/\xs.length+zs.length<=sizeLine/\∃ u:Option V,([some (.ref p),some (.ref wl),some v']:List (Option V)).set 1 (some (.ref l))=[some (.ref p),some (.ref wl),u]/\(aP H3 l (.lst (xs++zs))) wl=some (lD (d.nm::(d.parts.take (i+1)).flatMap gZ.words))/\(aP H3 l (.lst (xs++zs))) tp=some (.tup vs)/\aL H (aP H3 l (.lst (xs++zs))):=by
   intro t H3 v' s3 Kn h3;exists wl,t,Z,s3 _ _ h2,h3,gM (aV (by rw[cD,cD];lia)),Y,?_,?_
   ·rw[Mx,af,nx]
   ·rw[aN nwt.symm];exact s3 _ _ h2t
   ·exact bP fwl (s2.trans s3) (aM wl _ _)
  cases q with
  | num x =>
   cases (show v=.int x from hq);refine⟨Y,Y,_,"list",P,rfl,.int x,kil,Y,eY ⟨Y,.inl ⟨x,rfl,DV qk,?_⟩⟩⟩;rw[iQ.zc qk.1];exact⟨jS,λt Kn=>kO t _ (.int x) (ak Kn _) Kn af⟩
  | tx t =>
   cases (show v=.str (eX t) from hq);have lt:t.length<=200:=qk;refine⟨Y,Y,_,"list",P,rfl,.str _,ksl,Y,eY ⟨Y,.inr ⟨t,rfl,Q,?_⟩⟩⟩;exact⟨jS,λt' Kn=>kO t' _ (.str (eX t)) (ak Kn _) Kn af⟩
  | row r =>
   obtain⟨qa,rfl,hr⟩:=hq;have KC:=hr.same s2;obtain⟨as,has,_⟩:=id KC;refine⟨Y,Y,_,"list",P,rfl,.lst has,Zr K,Y,gR ?_⟩;exact⟨Y,qa,r,rfl,KC,qk,λt H3 h3 s3 Kn=>kO t H3 (.ref qa) s3 Kn h3⟩
 ·rintro σ H2 ⟨u,rfl,h2,h2t,s2⟩;rw[lv,gK]at h2;have fs:=Gi (d.parts.flatMap gZ.words);rw[uL]at fs;have fl:=C0 (ps:=d.parts) pk;exists rfl,Y,wl,32,_,by rw[show Str.ofString " "=⟨#[32]⟩ by decide +kernel],rfl,h2,?_
  ·rw[jy,List.sum_cons,ny];lia
  rw[SK,uL,← ln];exact k H2 s2
structure aa1(S:Addr->Prop)(H:Hp)(st op r:Addr)(aO:List aR):Prop where
 own:S r
 ne:r≠st/\r≠op
 at':bJ H (.ref r) aO
def Jc(S:Addr->Prop)(H:Hp)(st op a:Addr)(rows:List (List aR)):Prop:=S a/\a≠st/\a≠op/\∃ rs:List Addr,H a=some (.lst (rs.map V.ref))/\bU (aa1 S H st op) rs rows
abbrev jL:=List (List (List aR))
structure Opn(bz:jL)(ops:List Int):Prop where
 C1:∃ last,bz.getLast?=some last/\ops.length=last.length
 fit:∀ (s:Nat) (o:Int),ops[s]?=some o->0<=o/\o<bz.length/\∀ (m:Nat) (rows:List (List aR)),bz[m]?=some rows->(o<=m↔s<rows.length)
 less:∀ (m:Nat) (rows:List (List aR)),bz[m]?=some rows->rows.length<=ops.length
structure Sh(C:Addr)(S:Addr->Prop)(H:Hp)(x d st op:Addr)(bz:jL)(ops:List Int):Prop where
 sx:S x
 ss:S st
 so:S op
 al:∀ a,S a->∃ ob,H a=some ob
 hx:H x=some (.ins C d [("states",.ref st),("openings",.ref op)])
 hs:∃ as:List Addr,H st=some (.lst (as.map V.ref))/\bU (Jc S H st op) as bz
 ho:H op=some (.lst (ops.map V.int))
 ne:st≠op
 My:Opn bz ops
theorem bJ.fr{H H':Hp}{r:Addr}{aO:List aR}(h:bJ H (.ref r) aO)(k:∀ xs,H r=some (.lst xs)->H' r=some (.lst xs))(t:∀ a xs,H a=some (.tup xs)->H' a=some (.tup xs)):bJ H' (.ref r) aO:=by
 obtain⟨a,vs,e,h1,h2⟩:=h;cases e;exact⟨r,vs,rfl,k _ h1,h2.mono λv it ⟨b,e,hb⟩=>⟨b,e,t _ _ hb⟩⟩
theorem Jc.fr{S S':Addr->Prop}{H H':Hp}{st a:Addr}{rows:List (List aR)}(h:Jc S H st op a rows)(sub:∀ a,S a->S' a)(k:∀ a ob,H a=some ob->S a->a≠st->a≠op->H' a=some ob)(t:∀ a xs,H a=some (.tup xs)->H' a=some (.tup xs)):Jc S' H' st op a rows:=by
 obtain⟨sa,n1,n2,rs,hr,al⟩:=h;exact⟨sub _ sa,n1,n2,rs,k _ _ hr sa n1 n2,al.mono λr aO q=>⟨sub _ q.own,q.ne,q.at'.fr (λxs e=>k _ _ e q.own q.ne.1 q.ne.2) t⟩⟩
theorem Sh.fr{C:Addr}{S:Addr->Prop}{H H':Hp}{x d st:Addr}{bz:jL}{ops:List Int}(h:Sh C S H x d st op bz ops)(k:∀ a ob,H a=some ob->S a->H' a=some ob)(t:∀ a xs,H a=some (.tup xs)->H' a=some (.tup xs)):Sh C S H' x d st op bz ops:=by
 obtain⟨sx,ss,so,al,hx,⟨as,hs,a2⟩,ho,ne,My⟩:=h;refine⟨sx,ss,so,λa z=>?_,k _ _ hx sx,⟨as,k _ _ hs ss,a2.mono λa rows q=>q.fr (λ_ z=>z) (λa ob e z _ _=>k _ _ e z) t⟩,k _ _ ho so,ne,My⟩;obtain⟨ob,e⟩:=al a z;exact⟨ob,k _ _ e z⟩
theorem Sh.same{C:Addr}{S:Addr->Prop}{H H':Hp}{x d st:Addr}{bz:jL}{ops:List Int}(h:Sh C S H x d st op bz ops)(k:aL H H'):Sh C S H' x d st op bz ops:=h.fr (λa ob e _=>k a ob e) (λa xs e=>k _ _ e)
theorem Sh.keep{C:Addr}{S:Addr->Prop}{H H':Hp}{x d st:Addr}{bz:jL}{ops:List Int}{ls:List V}(h:Sh C S H x d st op bz ops)(hl:H l=some (.lst ls))(nl:¬ S l)(k:cJ l H H'):Sh C S H' x d st op bz ops :=
 h.fr (λa ob e z=>k a ob e (λq=>nl (by rw[← q];exact z))) (λa xs e=>k _ _ e (dH e hl))
theorem As:∀ {as bs:List Addr},as.map V.ref=bs.map V.ref->as=bs
 | [],[],_=>rfl
 | [],_::_,h=>by cases h
 | _::_,[],h=>by cases h
 | a::as,b::bs,h=>by
  rw[jy,jy]at h;injection h with h1 h2;cases h1;rw[As h2]
theorem Sh.last{C:Addr}{S:Addr->Prop}{H:Hp}{x d st:Addr}{bz:jL}{ops:List Int}(h:Sh C S H x d st op bz ops){as:List Addr}(ha:H st=some (.lst (as.map V.ref))):∃ QC a,as=QC++[a]/\∀ last,bz.getLast?=some last->Jc S H st op a last:=by
 obtain⟨bs,hb,a2⟩:=h.hs
 have e:as=bs:=by
  rw[ha]at hb;have:=HO.lst.inj (qH hb);exact As this
 subst e;obtain⟨last,hl,_⟩:=h.My.C1
 obtain⟨p',rfl⟩:∃ p',bz=p'++[last]:=by
  rcases oZ bz with rfl|⟨p',l,rfl⟩
  ·cases hl
  ·rw[nA,sG]at hl;cases hl;exact⟨p',nA⟩
 obtain⟨QC,a,rfl,_,r⟩:=a2.split;refine⟨QC,a,rfl,λl e=>?_⟩;rw[hl]at e;cases e;exact r
theorem uN(xs:List V){p:Int}(h:0<=p):kB xs none (some p)=xs.take p.toNat:=by
 unfold kB;have e1:HT.iZ xs.length 0 none=0:=rfl
 have e2:HT.iZ xs.length xs.length (some p)=min p.toNat xs.length:=by
  show (if p<0 then (p+(xs.length:Int)).toNat else min p.toNat xs.length)=_;rw[if_neg ∅]
 rw[e1,e2,List.drop_zero,Nat.sub_zero];rcases Nat.le_total p.toNat xs.length with z|z
 ·rw[Nat.min_eq_left z]
 ·rw[Nat.min_eq_right z,u9 (gg _),u9 z]
theorem xy(xs:List V){p:Int}(h:0<=p):kB xs (some p) none=xs.drop p.toNat:=by
 unfold kB;have e1:HT.iZ xs.length xs.length none=xs.length:=rfl
 have e2:HT.iZ xs.length 0 (some p)=min p.toNat xs.length:=by
  show (if p<0 then (p+(xs.length:Int)).toNat else min p.toNat xs.length)=_;rw[if_neg ∅]
 rw[e1,e2];rcases Nat.le_total p.toNat xs.length with z|z
 ·rw[Nat.min_eq_left z,u9 (by rw[sH];lia)]
 ·rw[Nat.min_eq_right z,zg (gg _),zg z];simp
class inductive Mz
 | mk (a r:Addr) (rs:List V) (s:Nat) (_:vs=[.ref a,.int (s:Nat),.ref r]) (_:H a=some (.lst rs)) (_:s<=rs.length) (_:rs.length<=1000) (_: ∀ (p:Addr) (H':Hp),H' p=some (.lst (rs.take s++[.ref r]++rs.drop (s+1)))->aL H H'->H p=none->Q (.ref p) H')
class inductive SM(C:Addr)
 | mk (x d:Addr) (_:vs=[.ref x]) (_:H x=some (.ins C d [])) (_: ∀ (st op z:Addr) (H':Hp),Sh C (λa=>a=x\/a=st\/a=op\/a=z) H' x d st op [[]] []->cJ x H H'->H st=none->H op=none->H z=none->Q .fH H')
class inductive aa2(C:Addr)
 | mk (x d st op:Addr) (as:List V) (_:vs=[.ref x]) (_:H x=some (.ins C d [("states",.ref st),("openings",.ref op)])) (_:H st=some (.lst as)) (_:Q (.int ((as.length:Nat)-1)) H)
class inductive Xc(C:Addr)
 | mk (S:Addr->Prop) (x d st op:Addr) (bz:jL) (ops:List Int) (_:vs=[.ref x]) (_:Sh C S H x d st op bz ops) (_:Q (.int (ops.length:Nat)) H)
theorem MA:aH ["state","sheet","items"] ["state","sheet","items"] (aA zC):=eO
theorem xA:aH ["self"] ["self"] (aA kX):=eO
theorem Gj:aH ["self"] ["self"] (aA ue):=eO
theorem DX:aH ["self"] ["self"] (aA qO):=eO
theorem Au:‹(1,32,["state","sheet","items"],Mz)›:=λD=>by
 specialize eV D.WB.F MA;obtain⟨a,r,rs,s,rfl,ha,sl,l1,k⟩:=h;exists _,(aj (bK (iK (mh fJ fJ ay (pv 1) (eS D.T.eE (pv 0)))) (au gO) aX) (au (aJ (bC jA (bC jA (iT lP (pv 0) nJ (ja (pv 1))) (bN (aa (pv 2) ah))) (iT lP (pv 0) (ja (bC cT (pv 1) ay)) nJ)))));refine⟨Y,Z,Y,cI (λc0=>?_) (λc0=>absurd (decide_eq_true ∅) c0)⟩;exists Y,a,Y,.inl (bL.of ha),Z,Y;rw[decide_eq_true (show ((s:Nat):Int)<=((rs.length:Nat):Int) by lia)];refine eY ?_;refine⟨Y,Y,Y,a,Y,bL.of ha,λp1 Yi=>?_⟩;rw[uN _ ∅,Int.toNat_natCast];have s1:aL H (aP H p1 (.lst (rs.take s))):=ak Yi _;have h1:(aP H p1 (.lst (rs.take s))) p1=some (.lst (rs.take s)):=af;generalize aP H p1 (.lst (rs.take s))=H1 at s1 h1;refine⟨Y,jS,λp2 Uu=>?_⟩;have s2:aL H1 (aP H1 p2 (.lst [.ref r])):=ak Uu _;have h2:(aP H1 p2 (.lst [.ref r])) p2=some (.lst [.ref r]):=af;generalize aP H1 p2 (.lst [.ref r])=H2 at s2 h2;refine⟨p1,p2,Z,s2 _ _ h1,h2,(by rw[gy];exact gM (aV (by simp only[iy];lia))),λp3 hp3=>?_⟩;have s3:aL H2 (aP H2 p3 (.lst (rs.take s++[.ref r]))):=ak hp3 _;have h3:(aP H2 p3 (.lst (rs.take s++[.ref r]))) p3=some (.lst (rs.take s++[.ref r])):=af;generalize aP H2 p3 (.lst (rs.take s++[.ref r]))=H3 at s3 h3;have Pb:=s1.trans (s2.trans s3);refine⟨Y,Y,Z,Y,a,Y,bL.of (Pb _ _ ha),λp4 hp4=>?_⟩;rw[xy _ ∅,show (((s:Nat):Int)+1).toNat=s+1 by lia];have s4:aL H3 (aP H3 p4 (.lst (rs.drop (s+1)))):=ak hp4 _;have h4:(aP H3 p4 (.lst (rs.drop (s+1)))) p4=some (.lst (rs.drop (s+1))):=af;generalize aP H3 p4 (.lst (rs.drop (s+1)))=H4 at s4 h4;refine⟨p3,p4,Z,s4 _ _ h3,h4,(by rw[dz,gy,sH];exact gM (aV (by simp only[iy];lia))),λp5 hp5=>?_⟩;have s04:=Pb.trans s4;exact k p5 _ af (s04.trans (ak hp5 _)) (bu s04 hp5)
theorem vW:‹(1,33,["self"],(SM CS))›:=λD=>by
 specialize eV D.Z0.F xA;obtain⟨x,d,rfl,hx,k⟩:=h;exists _,(aj (jf (pv 0) (bN (aa (bN ah) ah)) rfl) (au (jf (pv 0) (bN ah) rfl)));refine⟨iR,λz hz=>?_⟩;have a0:aL H (aP H z (.lst [])):=ak hz _;have z0:(aP H z (.lst [])) z=some (.lst []):=af;generalize aP H z (.lst [])=H0 at a0 z0;refine⟨jS,λst ve=>?_⟩;have a1:aL H0 (aP H0 st (.lst [.ref z])):=ak ve _;have b1:(aP H0 st (.lst [.ref z])) st=some (.lst [.ref z]):=af;generalize aP H0 st (.lst [.ref z])=H1 at a1 b1;have a01:=a0.trans a1;exists Y,x,CS,d,Y,a01 _ _ hx,D.bZ.cl,D.j9,E;have k2:cJ x H1 (aP H1 x (.ins CS d (L2.d8 "states" (.ref st) []))):=aM x _ _;have h2:(aP H1 x (.ins CS d (L2.d8 "states" (.ref st) []))) x=some (.ins CS d [("states",.ref st)]):=af;generalize aP H1 x (.ins CS d (L2.d8 "states" (.ref st) []))=H2 at k2 h2;have Xd:st≠x:=(aB (a0 _ _ hx) ve).symm;have nzx:z≠x:=(aB hx hz).symm;have nzs:z≠st:=aB z0 ve;have b2:=k2 _ _ b1 Xd;have z2:=k2 _ _ (a1 _ _ z0) nzx;refine⟨iR,λop QA=>?_⟩;have EJ:op≠x:=(aB h2 QA).symm;have nso:st≠op:=aB b2 QA;have nzo:z≠op:=aB z2 QA;refine⟨Y,x,CS,d,Y,ak QA _ _ _ h2,D.bZ.cl,D.j4,(by show 1<1000;decide),?_⟩
 have k5:cJ x H (aP (aP H2 op (.lst [])) x (.ins CS d (L2.d8 "openings" (.ref op) [("states",.ref st)]))):=λa ob e n=>by
  rw[aN n];exact ak QA _ _ _ (k2 _ _ (a01 _ _ e) n)
 have z5:(aP (aP H2 op (.lst [])) x (.ins CS d (L2.d8 "openings" (.ref op) [("states",.ref st)]))) z=some (.lst []):=by rw[aN nzx];exact ak QA _ _ _ z2
 have s5:(aP (aP H2 op (.lst [])) x (.ins CS d (L2.d8 "openings" (.ref op) [("states",.ref st)]))) st=some (.lst [.ref z]):=by rw[aN Xd];exact ak QA _ _ _ b2
 have o5:(aP (aP H2 op (.lst [])) x (.ins CS d (L2.d8 "openings" (.ref op) [("states",.ref st)]))) op=some (.lst []):=by rw[aN EJ];exact af
 have x5:(aP (aP H2 op (.lst [])) x (.ins CS d (L2.d8 "openings" (.ref op) [("states",.ref st)]))) x=some (.ins CS d [("states",.ref st),("openings",.ref op)]):=af;generalize aP (aP H2 op (.lst [])) x (.ins CS d (L2.d8 "openings" (.ref op) [("states",.ref st)]))=H5 at k5 z5 s5 o5 x5
 refine k st op z _ ⟨.inl rfl,.inr (.inl rfl),.inr (.inr (.inl rfl)),λa w=>?_,x5,⟨[z],s5,.cons ⟨.inr (.inr (.inr rfl)),nzs,nzo,[],z5,.nil⟩ .nil⟩,o5,nso,⟨⟨[],V⟩,λs o e=>(by cases s <;> cases e),λm rows e=>?_⟩⟩ k5 (bu a0 ve) ?_ hz
 ·rcases w with rfl|rfl|rfl|rfl
  ·exact⟨_,x5⟩
  ·exact⟨_,s5⟩
  ·exact⟨_,o5⟩
  ·exact⟨_,z5⟩
 ·match m,e with
  | 0,e=>cases e;exact gg _
  | m+1,e=>cases e
 ·exact bu a01 (iC k2 EJ QA)
theorem jM:‹(1,34,["self"],(aa2 CS))›:=λD=>by
 specialize eV D.LZ.F Gj;obtain⟨x,d,st,op,as,rfl,hx,hs,k⟩:=h;exists _,(au (aJ (bC cK (eS D.T.eE (cP (pv 0) rfl)) ay)));exact⟨Y,x,CS,d,_,.ref st,rfl,hx,D.bZ.cl,D.j9,rfl,st,Y,.inl (bL.of hs),Z,k⟩
theorem ki:‹(1,35,["self"],(Xc CS))›:=λD=>by
 specialize eV D.OD.F DX;obtain⟨S,x,d,st,op,bz,ops,rfl,W,k⟩:=h;obtain⟨as,hs,a2⟩:=W.hs;obtain⟨last,hl,ol⟩:=W.My.C1;exists _,(au (aJ (eS D.T.eE (aQ bH (cP (pv 0) rfl) (gw eK ay)))));obtain⟨QC,a,rfl,r⟩:=W.last hs;refine⟨Y,x,CS,d,_,.ref st,rfl,W.hx,D.bZ.cl,D.j9,rfl,Y,st,P,.ref a,V,bL.of hs,(by rw[gG];exact fZ _ _),?_⟩;obtain⟨_,_,_,rs,ha,al⟩:=r last hl;exists a,Y,.inl (bL.of ha);rw[cD,al.len,← ol];exact k
def ap1(rows:List (List aR))(ch:Nat × List aR):List (List aR):=rows.take ch.1++[ch.2]++rows.drop (ch.1+1)
def qf(rows:List (List aR))(qq:List (Nat × List aR)):List (List aR):=qq.foldl ap1 rows
def Xe(rows:List (List aR))(qq:List (Nat × List aR)):Prop:=∀ (i:Nat) (ch:Nat × List aR),qq[i]?=some ch->ch.1<=(qf rows (qq.take i)).length
theorem SN{rows:List (List aR)}{ch:Nat × List aR}(h:ch.1<=rows.length):rows.length<=(ap1 rows ch).length/\(ap1 rows ch).length<=rows.length+1:=by
 unfold ap1;rw[dz,dz,gy,sH];simp only[iy];lia
theorem C2{rows:List (List aR)}{qq:List (Nat × List aR)}{i:Nat}{ch:Nat × List aR}(h:qq[i]?=some ch):qf rows (qq.take (i+1))=ap1 (qf rows (qq.take i)) ch:=by
 unfold qf;rw[take_snoc h,List.foldl_append];rfl
theorem Av{rows:List (List aR)}{qq:List (Nat × List aR)}(ok:Xe rows qq):∀ i,i<=qq.length->rows.length<=(qf rows (qq.take i)).length/\(qf rows (qq.take i)).length<=rows.length+i
 | 0,_=>⟨Nat.le_refl _,gg _⟩
 | i+1,h=>by
  have e:qq[i]?=some qq[i]:=sF ∅;have a:=Av ok i ∅;have b:=SN (ok i _ e);rw[C2 e];lia
theorem Opn.step{bz:jL}{ops:List Int}{last rows:List (List aR)}(h:Opn bz ops)(hl:bz.getLast?=some last)(le:last.length<=rows.length):Opn (bz++[rows]) (ops++List.replicate (rows.length-last.length) ((bz.length:Nat):Int)):=by
 obtain⟨⟨l',hl',ol⟩,fit,less⟩:=h;rw[hl]at hl';cases hl'
 have get:∀ (m:Nat) (r:List (List aR)),(bz++[rows])[m]?=some r->bz[m]?=some r/\m<bz.length\/m=bz.length/\r=rows:=λm r e=>by
  by_cases c:m<bz.length
  ·rw[List.getElem?_append_left c]at e;exact .inl ⟨e,c⟩
  ·rw[List.getElem?_append_right ∅]at e
   match hm:m-bz.length,e with
   | 0,e=>cases e;exact .inr ⟨Q,rfl⟩
   | k+1,e=>cases e
 refine⟨⟨rows,sG,by rw[dz,yx];lia⟩,λs o e=>?_,λm r e=>?_⟩
 ·by_cases c:s<ops.length
  ·rw[List.getElem?_append_left c]at e;obtain⟨f0,f1,f2⟩:=fit s o e;refine⟨f0,by rw[dz];simp only[iy];lia,λm r em=>?_⟩;rcases get m r em with ⟨q,_⟩|⟨rfl,rfl⟩
   ·exact f2 m r q
   ·constructor
    ·intro _;lia
    ·intro _;lia
  ·rw[List.getElem?_append_right ∅,List.getElem?_replicate]at e;split at e
   ·cases e;refine⟨Q,by rw[dz];simp only[iy];lia,λm r em=>?_⟩;rcases get m r em with ⟨q,lt⟩|⟨rfl,rfl⟩
    ·have:=less m r q;constructor
     ·intro z;lia
     ·intro z;lia
    ·constructor
     ·intro _;lia
     ·intro _;lia
   ·cases e
 ·rw[dz,yx];rcases get m r e with ⟨q,_⟩|⟨rfl,rfl⟩
  ·have:=less m r q;lia
  ·lia
theorem bU.take{α β:Type}{R:α->β->Prop}:∀ {as:List α} {bs:List β} (n:Nat),bU R as bs->bU R (as.take n) (bs.take n)
 | _,_,0,_=>by rw[List.take_zero,List.take_zero];exact .nil
 | _,_,n+1,.nil=>.nil
 | _,_,n+1,.cons e r=>.cons e (r.take n)
theorem bU.drop{α β:Type}{R:α->β->Prop}:∀ {as:List α} {bs:List β} (n:Nat),bU R as bs->bU R (as.drop n) (bs.drop n)
 | _,_,0,h=>h
 | _,_,n+1,.nil=>.nil
 | _,_,n+1,.cons _ r=>r.drop n
theorem Gk(v:V):∀ n:Nat,(List.replicate n [v]).flatten=List.replicate n v
 | 0=>rfl
 | n+1=>by rw[List.replicate_succ,List.flatten_cons,Gk v n,List.replicate_succ];rfl
theorem SO{H:Hp}{a:Addr}{ob:HO}(h:H a=some ob):aP H a ob=H:=by
 funext b;by_cases e:b=a
 ·rw[e,af,h]
 ·rw[aN e]
def Jd(H:Hp)(a:Addr)(ch:Nat × List aR):Prop:=∃ r:Addr,H a=some (.tup [.int (ch.1:Nat),.ref r])/\bJ H (.ref r) ch.2
theorem Jd.same{H H':Hp}{a:Addr}{ch:Nat × List aR}(s:aL H H'):Jd H a ch->Jd H' a ch:=λ⟨r,h1,h2⟩=>⟨r,s _ _ h1,h2.same s⟩
class inductive Pc(C:Addr)
 | mk (S:Addr->Prop) (x d st op c:Addr) (bz:jL) (ops:List Int) (cs:List Addr) (qq:List (Nat × List aR)) (last:List (List aR)) (_:vs=[.ref x,.ref c]) (_:Sh C S H x d st op bz ops) (_:H c=some (.lst (cs.map V.ref))) (_:bU (Jd H) cs qq) (_:bz.getLast?=some last) (_:Xe last qq) (_:qq.length<=200) (_:last.length<=500) (_:bz.length<=1000) (_ :
 ∀ (S':Addr->Prop) (H':Hp),Sh C S' H' x d st op (bz++[qf last qq]) (ops++List.replicate ((qf last qq).length-last.length) ((bz.length:Nat):Int))->(∀ a,S' a->S a\/H a=none)->(∀ a ob,H a=some ob->¬ S a->H' a=some ob)->(∀ a xs,H a=some (.tup xs)->H' a=some (.tup xs))->Q .fH H')
theorem iG:aH ["self","changes","state","ahead","sheet","items"] ["self","changes"] (aA qP):=eO
theorem Bu:‹(2,36,["self","changes"],(Pc CS))›:=λD=>by
 specialize eV D.Z1.F iG;obtain⟨S,x,d,st,op,c,bz,ops,cs,qq,last,rfl,W,hc,a2,hl,okc,lc,ll,lp,k⟩:=h;exists _,(aj (aW (i:=2) iG.nd (aQ bH (cP (pv 0) rfl) (gw eK ay))) (aj (aW (i:=3) iG.nd (eS D.T.eE (pv 2))) (aj (d7 PassesOwn.never rfl (cH (pv 1)) (nZ (n:=2) rfl (ck (cu (i:=4) iG.nd) (ck (cu (i:=5) iG.nd) gH))) (au (aW (i:=2) iG.nd (aG D.WB (Au D) hr (aa (pv 2) (aa (pv 4) (aa (eN fX rfl D.T.jm tS (aa (pv 5) ah)) ah))))))) (aj (aY (dM qw jX jY bT (cP (pv 0) rfl) (aa (pv 2) ah))) (au (wI (pv 0) (bC NK (bN (aa (eU (pv 0) D.bZ D.LZ (jM D) hr bO) ah)) (bC cK (eS D.T.eE (pv 2)) (pv 3))) IF))))));obtain⟨as,hs,al⟩:=id W.hs;obtain⟨QC,a,ea,r⟩:=W.last hs;obtain⟨Sa,na1,na2,rs,ha,ar⟩:=r last hl;have lal:=al.len;refine⟨Y,x,CS,d,_,.ref st,rfl,W.hx,D.bZ.cl,D.j9,rfl,Y,st,P,.ref a,V,bL.of hs,(by rw[ea,gG];exact fZ _ _),?_⟩;exists Y,a,Y,.inl (bL.of ha);rw[cD,ar.len];have ve:∀ q,H q=none->q≠st/\q≠op:=λq hq=>⟨λz=>(by rw[z,hs]at hq;cases hq),λz=>(by rw[z,W.ho]at hq;cases hq)⟩;refine⟨Y,c,rfl,⟨_,bL.of hc⟩,dO (K:=K) (a:=c) (xs:=cs.map V.ref) (λi σ H1=>∃ (u4 u5:Option V) (S1:Addr->Prop) (ai:Addr),σ=[some (.ref x),some (.ref c),some (.ref ai),some (.int (last.length:Nat)),u4,u5]/\aL H H1/\(∀ q,S q->S1 q)/\(∀ q,S1 q->S q\/H q=none)/\(∀ q,S1 q->∃ ob,H1 q=some ob)/\Jc S1 H1 st op ai (qf last (qq.take i))) ⟨none,none,S,a,rfl,aL.refl _,λ_ z=>z,λ_ z=>.inl z,W.al,r last hl⟩ (by rintro i σ H1 _ ⟨_,_,_,_,_,s,_⟩;exact bL.of (s _ _ hc)) ?_ ?_⟩
 ·rintro i y σ H1 hi ⟨u4,u5,S1,ai,rfl,s1,up,sub,al1,sa1⟩;rw[nG]at hi;obtain⟨t,et,rfl⟩:=Option.map_eq_some_iff.mp hi;obtain⟨ch,ech,q⟩:=a2.get et;have il:=(List.getElem?_eq_some_iff.mp ech).1;obtain⟨ri,ht,hri⟩:=q.same s1;obtain⟨b,vs,eb,hb,itb⟩:=id hri;cases eb;obtain⟨Sai,aa5,aeE,rsi,hai,ari⟩:=id sa1;exists t,Y,dG.of ht,rfl,P,rfl,Z;refine⟨Y,Y,Y,ri,Y,.inl (bL.of hb),λz hz=>?_⟩;have s2:aL H1 (aP H1 z (.lst vs)):=ak hz _;have z2:(aP H1 z (.lst vs)) z=some (.lst vs):=af;generalize aP H1 z (.lst vs)=H2 at s2 z2;have lens:=Av okc i ∅;have aeF:=okc i ch ech;have lri:=ari.len;refine⟨ai,z,_,ch.1,rfl,s2 _ _ hai,by rw[cD,lri];exact aeF,by rw[cD,lri];lia,λp H3 hp3 s3 fp=>?_⟩;have Xf:=s2.trans s3;have fz:H z=none:=bu s1 hz;have fp':H p=none:=bu (s1.trans s2) fp;exists P,λq=>S1 q\/q=z\/q=p,p,rfl,s1.trans Xf,λq z=>.inl (up q z),λq w=>?_,λq w=>?_,.inr (.inr rfl),(ve p fp').1,(ve p fp').2,rsi.take ch.1++[z]++rsi.drop (ch.1+1),?_
  ·rcases w with w|rfl|rfl
   ·exact sub q w
   ·exact .inr fz
   ·exact .inr fp'
  ·rcases w with w|rfl|rfl
   ·obtain⟨ob,e⟩:=al1 q w;exact⟨ob,Xf _ _ e⟩
   ·exact⟨_,s3 _ _ z2⟩
   ·exact⟨_,hp3⟩
  ·rw[hp3];simp only[gG,List.map_take,List.map_drop,jy,List.map_nil]
  ·rw[C2 ech];have mv:bU (aa1 (λq=>S1 q\/q=z\/q=p) H3 st op) rsi (qf last (qq.take i)):=ari.mono λr aO q=>⟨.inl q.own,q.ne,q.at'.same Xf⟩;refine ((mv.take ch.1).app (.cons ⟨.inr (.inl rfl),ve z fz,⟨z,vs,rfl,s3 _ _ z2,itb.mono λv it q=>q.same Xf⟩⟩ .nil)).app (mv.drop (ch.1+1))
 ·rintro σ H1 ⟨u4,u5,S1,ai,rfl,s1,up,sub,al1,sa1⟩;have lcs:(cs.map V.ref).length=qq.length:=by rw[cD,a2.len]
  rw[lcs,gK]at sa1;have lens:=Av okc qq.length (gg _);rw[gK]at lens;obtain⟨Sai,aa5,aeE,rsi,hai,ari⟩:=id sa1;have lri:=ari.len;have W1:=W.same s1;have Xg:=s1 _ _ hs;refine⟨Y,x,CS,d,_,.ref st,rfl,W1.hx,D.bZ.cl,D.j9,rfl,.inl ⟨rfl,_,bL.of Xg⟩,Y,st,Z,Xg,(by rw[cD];exact aV ∅),?_⟩;rw[show as.map V.ref++[.ref ai]=(as++[ai]).map V.ref by rw[gG];rfl];have k2:cJ st H1 (aP H1 st (.lst ((as++[ai]).map V.ref))):=aM st _ _;have st2:(aP H1 st (.lst ((as++[ai]).map V.ref))) st=some (.lst ((as++[ai]).map V.ref)):=af;generalize aP H1 st (.lst ((as++[ai]).map V.ref))=H2 at k2 st2;have nxs:x≠st:=dH W1.hx Xg;have nxo:x≠op:=dH W1.hx W1.ho;have x2:=k2 _ _ W1.hx nxs;have o2:=k2 _ _ W1.ho W.ne.symm;have ai2:=k2 _ _ hai aa5
  have lmn:(((as++[ai]).map V.ref).length:Int)-1=((bz.length:Nat):Int):=by
   rw[cD,dz,lal];simp only[iy];lia
  exists Y,x,CS,d,_,.ref op,rfl,x2,D.bZ.cl,D.j4,rfl,Y,x,d,Y,x2,rfl,x,d,st,op,Y,x2,st2;rw[lmn];refine⟨jS,λt2 IB=>?_⟩;have s3:aL H2 (aP H2 t2 (.lst [.int (bz.length:Nat)])):=ak IB _;have b3:(aP H2 t2 (.lst [.int (bz.length:Nat)])) t2=some (.lst [.int (bz.length:Nat)]):=af;generalize aP H2 t2 (.lst [.int (bz.length:Nat)])=H3 at s3 b3;exists Y,ai,Y,.inl (bL.of (s3 _ _ ai2)),Y,Z;rw[cD,lri];have ek:(((qf last qq).length:Nat):Int)-((last.length:Nat):Int)=(((qf last qq).length-last.length:Nat):Int):=by lia
  show Y4 _ (V.int ((((qf last qq).length:Nat):Int)-((last.length:Nat):Int))) _ _;rw[ek];refine⟨t2,Z,b3,Q,Q,(by simp only[iy];exact gM (aV ∅)),λt3 SQ=>?_⟩;rw[Int.toNat_natCast,Gk];generalize hk:(qf last qq).length-last.length=kk;have s4:aL H3 (aP H3 t3 (.lst (List.replicate kk (V.int (bz.length:Nat))))):=ak SQ _;have b4:(aP H3 t3 (.lst (List.replicate kk (V.int (bz.length:Nat))))) t3=some (.lst (List.replicate kk (V.int (bz.length:Nat)))):=af;generalize aP H3 t3 (.lst (List.replicate kk (V.int (bz.length:Nat))))=H4 at s4 b4;have s24:=s3.trans s4
  have lo:ops.length<=700:=by
   obtain⟨l',hl',ol⟩:=W.My.C1;rw[hl]at hl';cases hl';lia
  refine⟨op,t3,Z,s24 _ _ o2,b4,(by rw[cD,yx];exact gM (aV ∅)),?_⟩;rw[show ops.map V.int++List.replicate kk (V.int (bz.length:Nat))=(ops++List.replicate kk ((bz.length:Nat):Int)).map V.int by rw[gG,List.map_replicate]];have k5:cJ op H4 (aP H4 op (.lst ((ops++List.replicate kk ((bz.length:Nat):Int)).map V.int))):=aM op _ _;have o5:(aP H4 op (.lst ((ops++List.replicate kk ((bz.length:Nat):Int)).map V.int))) op=some (.lst ((ops++List.replicate kk ((bz.length:Nat):Int)).map V.int)):=af;generalize aP H4 op (.lst ((ops++List.replicate kk ((bz.length:Nat):Int)).map V.int))=H5 at k5 o5;have x5:=k5 _ _ (s24 _ _ x2) nxo;refine⟨d,_,x5,(by show 2<1000;decide),?_⟩;have e5:aP H5 x (.ins CS d (L2.d8 "openings" (.ref op) ([("states",.ref st),("openings",.ref op)]:List (Str × V))))=H5:=SO x5;rw[e5];have k15:∀ q ob,H1 q=some ob->q≠st->q≠op->H5 q=some ob:=λq ob e m1 m2=>k5 _ _ (s24 _ _ (k2 _ _ e m1)) m2;have t15:∀ q xs,H1 q=some (.tup xs)->H5 q=some (.tup xs):=λq xs e=>k15 _ _ e (dH e Xg) (dH e W1.ho);have XW:=k5 _ _ (s24 _ _ st2) W.ne;refine k S1 H5 ⟨up _ W.sx,up _ W.ss,up _ W.so,λq w=>?_,x5,⟨as++[ai],XW,?_⟩,by rw[hk];exact o5,W.ne,W.My.step hl lens.1⟩ sub (λq ob e n=>?_) (λq xs e=>t15 _ _ (s1 _ _ e))
  ·by_cases z1:q=st
   ·rw[z1];exact⟨_,XW⟩
   by_cases z2:q=op
   ·rw[z2];exact⟨_,o5⟩
   obtain⟨ob,e⟩:=al1 q w;exact⟨ob,k15 _ _ e z1 z2⟩
  ·refine (bU.mono (λa rows q=>?_) al).app (.cons (sa1.fr (λ_ z=>z) (λq ob e _ m1 m2=>k15 _ _ e m1 m2) t15) .nil);exact q.fr up (λq ob e _ m1 m2=>k15 _ _ (s1 _ _ e) m1 m2) (λq xs e=>t15 _ _ (s1 _ _ e))
  ·exact k15 _ _ (s1 _ _ e) (λz=>n (by rw[z];exact W.ss)) (λz=>n (by rw[z];exact W.so))
def lE(n:Nat)(a:Int):Prop:=0<=a/\a<(n:Nat)
theorem lE.get{n:Nat}{a:Int}(h:lE n a):∃ j:Nat,a=j/\j<n:=by
 obtain⟨h0,h1⟩:=h;exact⟨a.toNat,Q,Q⟩
def Aw(bz:jL)(ops:List Int):Prop:=bz.length<=1000/\ops.length<=1000
class inductive MB(C:Addr)
 | mk (S:Addr->Prop) (x d st op:Addr) (bz:jL) (ops:List Int) (s:Int) (_:vs=[.ref x,.int s]) (_:Sh C S H x d st op bz ops) (_:lE ops.length s) (_:Q .fH H)
class inductive MC(C:Addr)
 | mk (S:Addr->Prop) (x d st op:Addr) (bz:jL) (ops:List Int) (m:Int) (_:vs=[.ref x,.int m]) (_:Sh C S H x d st op bz ops) (_:lE bz.length m) (_:Q .fH H)
def Told(H:Hp)(aO:List aR)(Q:V->Hp->Prop):Prop:=∀ (q:Addr) (H':Hp),bJ H' (.ref q) aO->aL H H'->H q=none->Q (.ref q) H'
def SR(H H':Hp)(q:Addr)(rows:List (List aR)):Prop:=H q=none/\∃ rs:List Addr,H' q=some (.lst (rs.map V.ref))/\bU (λr aO=>H r=none/\r≠q/\bJ H' (.ref r) aO) rs rows
class inductive Gm(C:Addr)
 | mk (S:Addr->Prop) (x d st op:Addr) (bz:jL) (ops:List Int) (m:Int) (_:vs=[.ref x,.int m]) (_:Sh C S H x d st op bz ops) (_:Aw bz ops) (_:lE bz.length m) (_:(∀ (mi:Nat) (rows:List (List aR)),m=mi->bz[mi]?=some rows->∀ (q:Addr) (H':Hp),SR H H' q rows->aL H H'->Q (.ref q) H'))
class inductive Xh(C:Addr)
 | mk (S:Addr->Prop) (x d st op:Addr) (bz:jL) (ops:List Int) (_:vs=[.ref x]) (_:Sh C S H x d st op bz ops) (_:Aw bz ops) (_:(∀ (rows:List (List aR)),bz.getLast?=some rows->∀ (q:Addr) (H':Hp),SR H H' q rows->aL H H'->Q (.ref q) H'))
theorem lO:aH ["self","sheet"] ["self","sheet"] (aA jh):=eO
theorem kK:aH ["self","moment"] ["self","moment"] (aA iL):=eO
theorem vX:aH ["self","moment"] ["self","moment"] (aA iB):=eO
theorem DY:aH ["self"] ["self"] (aA qQ):=eO
theorem cG:‹(2,37,["self","sheet"],(MB CS))›:=λD=>by
 specialize eV D.Ac.F lO;obtain⟨S,x,d,st,op,bz,ops,a,rfl,W,iw,k1⟩:=h;exists _,(au (bK (iK (mh fJ iS ay (pv 1) (eU (pv 0) D.bZ D.OD (ki D) hr bO))) (au gO) aX));exists Y,Z,Y;rw[decide_eq_true iw.1];refine cI (λ_=>?_) (λc=>absurd rfl c);exists Y,x,d,Y,W.hx,rfl,S,x,d,st,op,bz,ops,rfl,W,Z,Y;rw[decide_eq_true iw.2];exact eY k1
theorem jW:‹(2,38,["self","moment"],(MC CS))›:=λD=>by
 specialize eV D.OE.F kK;obtain⟨S,x,d,st,op,bz,ops,a,rfl,W,iw,k1⟩:=h;obtain⟨as,hs,al⟩:=W.hs;exists _,(au (bK (iK (mh fJ fJ ay (pv 1) (eU (pv 0) D.bZ D.LZ (jM D) hr bO))) (au gO) aX));exists Y,Z,Y;rw[decide_eq_true iw.1];refine cI (λ_=>?_) (λc=>absurd rfl c);exists Y,x,d,Y,W.hx,rfl,x,d,st,op,Y,W.hx,hs,Z,Y;rw[decide_eq_true (show a<=((as.map V.ref).length:Int)-1 by rw[cD,al.len];exact Int.le_sub_one_of_lt iw.2)];exact eY k1
theorem Sh.at'{C:Addr}{S:Addr->Prop}{H:Hp}{x d st:Addr}{bz:jL}{ops:List Int}(h:Sh C S H x d st op bz ops){as:List Addr}(ha:H st=some (.lst (as.map V.ref))){i:Nat}{rows:List (List aR)}(e:bz[i]?=some rows):∃ a,as[i]?=some a/\Jc S H st op a rows:=by
 obtain⟨bs,hb,a2⟩:=h.hs
 have e':as=bs:=by
  rw[ha]at hb;exact As (HO.lst.inj (qH hb))
 subst e';exact a2.get' e
theorem Sh.aa7{C:Addr}{S:Addr->Prop}{H:Hp}{x d st:Addr}{bz:jL}{ops:List Int}(h:Sh C S H x d st op bz ops):∃ last,bz.getLast?=some last/\bz[bz.length-1]?=some last/\ops.length=last.length:=by
 obtain⟨last,hl,ol⟩:=h.My.C1;refine⟨last,hl,?_,ol⟩;rw[List.getLast?_eq_getElem?]at hl;exact hl
theorem ng:‹(3,39,["self","moment"],(Gm CS))›:=λD=>by
 specialize eV D.WC.F vX;obtain⟨S,x,d,st,op,bz,ops,m,rfl,W,ok,im,k1⟩:=h;obtain⟨as,hs,al⟩:=id W.hs;refine⟨_,(aj (aY (cR (pv 0) D.bZ D.OE (jW D) hr bO (aa (pv 1) ah))) (au (aJ (gV (N:=["items"]) (nP (sc:=aA iB) (NX:=["self","moment"]) (jx:=[none]) rfl rfl rfl nofun nofun rfl nofun rfl nofun) rfl (cH (aQ bH (cP (pv 0) rfl) (pv 1))) (λ_ _ _ _ _ _=>(cu (i:=0) (show List.Nodup (["items"]:List Str) by decide +kernel))) (λ_ _ _ _ _ _=>gI) (λ_ _ _ _ _ _=>(eN IE rfl D.T.jm tS (aa (pv 0) ah))))))),?_⟩;exists Y,x,d,Y,W.hx,rfl,Y,S,x,d,st,op,bz,ops,m,rfl,W,im;obtain⟨i,rfl,il⟩:=im.get;have er:bz[i]?=some bz[i]:=sF il;generalize bz[i]=rows at er;obtain⟨b,eb,_,_,_,rs,hb,ar⟩:=W.at' hs er;have lr:=ar.len;have lo:=W.My.less i rows er;have ok2:=ok.2;refine⟨Y,x,CS,d,_,.ref st,rfl,W.hx,D.bZ.cl,D.j9,rfl,Y,st,P,.ref b,V,bL.of hs,cQ (by rw[nG,eb];rfl),?_⟩;refine⟨b,rfl,⟨_,bL.of hb⟩,λacc cY=>gz (K:=K) (a:=b) (xs:=rs.map V.ref) (λj σ H1=>∃ (u:Option V) (qs:List Addr),σ=[u]/\H1 acc=some (.lst (qs.map V.ref))/\aL H H1/\bU (λr aO=>H r=none/\r≠acc/\bJ H1 (.ref r) aO) qs (rows.take j)) ⟨none,[],rfl,af,ak cY _,by rw[List.take_zero];exact .nil⟩ (λj σ H1 _ ⟨K,_,s,_⟩=>bL.of (s _ _ hb)) ?_ ?_⟩
 ·rintro j y σ H1 hj ⟨u,qs,rfl,ha,s1,aq⟩;rw[nG]at hj;obtain⟨ri,eri,rfl⟩:=Option.map_eq_some_iff.mp hj;obtain⟨aO,aeJ,jw⟩:=ar.get eri;obtain⟨c,vs,ec,hc,it⟩:=jw.at';cases ec;refine⟨Y,ri,Y,.inl (bL.of (s1 _ _ hc)),λz hz=>⟨_,ak hz _ _ _ ha,?_,_,qs++[z],rfl,?_,?_,?_⟩⟩
  ·have:=aq.len;rw[gy]at this;rw[cD];exact aV ∅
  ·rw[af,gG];rfl
  ·intro q ob e;rw[aN (aB e cY)];exact ak hz _ _ _ (s1 _ _ e)
  ·have nza:z≠acc:=(aB ha hz).symm
   have fr:∀ q ob,H1 q=some ob->q≠acc->(aP (aP H1 z (.lst vs)) acc (.lst (qs.map V.ref++[.ref z]))) q=some ob:=λq ob e n=>by
    rw[aN n];exact ak hz _ _ _ e
   have tu:∀ q xs,H1 q=some (.tup xs)->(aP (aP H1 z (.lst vs)) acc (.lst (qs.map V.ref++[.ref z]))) q=some (.tup xs):=λq xs e=>fr _ _ e (dH e ha (by intro w;cases w));rw[take_snoc aeJ];refine bU.snoc (aq.mono λr aO ⟨h1,h2,h3⟩=>⟨h1,h2,h3.fr (λxs e=>fr _ _ e h2) tu⟩) ⟨bu s1 hz,nza,z,vs,rfl,?_,it.mono λv i ⟨q,e,hq⟩=>⟨q,e,tu _ _ (s1 _ _ hq)⟩⟩;rw[aN nza];exact af
 ·rintro σ H1 ⟨u,qs,rfl,ha,s1,aq⟩;rw[cD,lr,gK]at aq;exact k1 i rows rfl er acc H1 ⟨cY,qs,ha,aq⟩ s1
theorem fE:‹(4,40,["self"],(Xh CS))›:=λD=>by
 specialize eV D.DK.F DY;obtain⟨S,x,d,st,op,bz,ops,rfl,W,ok,k⟩:=h;obtain⟨as,hs,al⟩:=id W.hs;obtain⟨last,hl,Cb,_⟩:=W.aa7;have lp:bz.length-1<bz.length:=(List.getElem?_eq_some_iff.mp Cb).1;have ok1:=ok.1;have la:(((as.map V.ref).length:Nat):Int)-1=((bz.length-1:Nat):Int):=by rw[cD,al.len];lia
 exists _,(au (aJ (cR (pv 0) D.bZ D.WC (ng D) hr bO (aa (eU (pv 0) D.bZ D.LZ (jM D) hr bO) ah))));exists Y,x,d,Y,W.hx,rfl,Y,x,d,Y,W.hx,rfl,x,d,st,op,Y,W.hx,hs;rw[la];refine⟨S,x,d,st,op,bz,ops,Y,W,ok,⟨Q,Q⟩,λmi rows em er q H1 fs s1=>?_⟩;have:mi=bz.length-1:=by lia
 subst this;rw[Cb]at er;cases er;exact k last hl q H1 fs s1
class inductive KN(C:Addr)
 | mk (x d:Addr) (_:vs=[.ref x]) (_:H x=some (.ins C d [])) (_: ∀ (fs:List (Str × V)) (H':Hp),H' x=some (.ins C d fs)->cJ x H H'->Q .fH H')
theorem yE:aH ["self"] ["self"] (aA mw):=eO
theorem yF:aH ["self"] ["self"] (aA mz):=eO
theorem Gn{x z:Addr}{H:Hp}{o o':HO}(hz:H z=none):cJ x H (aP (aP H z o) x o'):=λa ob e n=>by
 rw[aN n];exact ak hz o a ob e
theorem xB:‹(1,43,["self"],(KN CD))›:=λD=>by
 specialize eV D.Z3.F yF;obtain⟨x,d,rfl,hx,k⟩:=h;exists _,(au (jf (pv 0) mU rfl));intro z hz;exact⟨Y,x,CD,d,Y,ak hz _ _ _ hx,D.FT.cl,D.J8,E,k _ _ af (Gn hz)⟩
theorem xC:‹(1,42,["self"],(KN CT))›:=λD=>by
 specialize eV D.Z2.F yE;obtain⟨x,d,rfl,hx,k⟩:=h;exists _,(aj (jf (pv 0) ay rfl) (au (jf (pv 0) mU rfl)));exists Y,x,CT,d,Y,hx,D.CL.cl,D.Dt,E;have k1:cJ x H (aP H x (.ins CT d (L2.d8 "given" (.int 0) []))):=aM x _ _;have h1:(aP H x (.ins CT d (L2.d8 "given" (.int 0) []))) x=some (.ins CT d (L2.d8 "given" (.int 0) [])):=af;generalize aP H x (.ins CT d (L2.d8 "given" (.int 0) []))=H1 at k1 h1;intro z hz;exact⟨Y,x,CT,d,Y,ak hz _ _ _ h1,D.CL.cl,D.Du,(by show 1<1000;decide),k _ _ af (k1.trans (Gn hz))⟩
def Pd(aK:gA):List V:=aK.map λp=>zb p.2
def JY(aK:gA):List V:=aK.map λp=>V.int p.1
def oH(h:Int)(cs:List Nat):gA:=cs.map λc=>(h,c)
theorem sj(h:Int)(cs:List Nat):(oH h cs).length=cs.length:=cD ..
theorem SS(aK:gA)(h:Int)(cs:List Nat):Pd (aK++oH h cs)=Pd aK++cs.map zb:=by
 unfold Pd oH;rw[gG,List.map_map];rfl
theorem DZ(v:V):∀ n:Nat,(List.replicate n [v]).flatten=List.replicate n v
 | 0=>rfl
 | n+1=>by rw[List.replicate_succ,List.flatten_cons,DZ v n,List.replicate_succ];rfl
theorem SV(aK:gA)(h:Int)(cs:List Nat):JY (aK++oH h cs)=JY aK++(List.replicate cs.length [V.int h]).flatten:=by
 rw[DZ];unfold JY oH;rw[gG,List.map_map];congr 1;exact List.map_eq_replicate_iff.mpr λc _=>rfl
def uO(h:Int):Nat->gA->List Int
 | _,[]=>[]
 | i,p::r=>if p.1=h then (i:Int)::uO h (i+1) r else uO h (i+1) r
theorem nh(h:Int):∀ (a b:gA) (i:Nat),uO h i (a++b)=uO h i a++uO h (i+a.length) b
 | [],b,i=>rfl
 | p::a,b,i=>by
  rw[List.cons_append,uO,uO,ny,nh h a b (i+1),show i+1+a.length=i+(a.length+1) by lia]
  split <;> rfl
theorem xD(h:Int):∀ (cs:List Nat) (i:Nat),uO h i (oH h cs)=run (i:Int) cs.length
 | [],i=>rfl
 | c::cs,i=>by
  show uO h i ((h,c)::oH h cs)=_;rw[uO,if_pos rfl,xD h cs (i+1),ny,run,show ((i+1:Nat):Int)=(i:Int)+1 by lia]
theorem ni{h g:Int}(n:g≠h):∀ (cs:List Nat) (i:Nat),uO h i (oH g cs)=[]
 | [],i=>rfl
 | c::cs,i=>by
  show uO h i ((g,c)::oH g cs)=_;rw[uO,if_neg n,ni n cs (i+1)]
theorem Ax(a b:Int)(k:Nat)(e:b=a+k):bM [(a,b)]=run a k:=by
 show jF (a,b)++[]=_;rw[gE];show run a (b-a).toNat=_;rw[show (b-a).toNat=k by lia]
structure Pw(S:Addr->Prop)(H:Hp)(s o:Addr)(n:Nat)(kvs:List (fj × V))(aK:gA):Prop where
 got:∀ h v,cE kvs (Sum.inl h)=some v->∃ (l:Addr) (row:Row),v=.ref l/\S l/\l≠s/\l≠o/\cA H l row/\(∀ p∈row,p.1<=p.2)/\bM row=uO h 0 aK/\row.length<=n
 fH:∀ h,cE kvs (Sum.inl h)=none->uO h 0 aK=[]
 one:∀ h g v,cE kvs (Sum.inl h)=some v->cE kvs (Sum.inl g)=some v->h=g
 len:kvs.length<=n
structure We(C:Addr)(S:Addr->Prop)(H:Hp)(x d s o p:Addr)(n:Nat)(aK:gA):Prop where
 sx:S x
 ss:S s
 so:S o
 sp:S p
 al:∀ a,S a->∃ ob,H a=some ob
 hx:H x=some (.ins C d [("signs",.ref s),("owners",.ref o),("pourings",.ref p)])
 hs:H s=some (.lst (Pd aK))
 ho:H o=some (.lst (JY aK))
 ne:s≠o
 dk:∃ kvs,H p=some (.dK kvs)/\Pw S H s o n kvs aK
theorem cA.two{H H':Hp}{r:Addr}{row:Row}(h:cA H r row)(k:∀ xs,H r=some (.lst xs)->H' r=some (.lst xs))(t:∀ a xs,H a=some (.tup xs)->H' a=some (.tup xs)):cA H' r row:=by
 obtain⟨as,h1,h2⟩:=h;exact⟨as,k _ h1,h2.tups t⟩
theorem We.fr{C:Addr}{S:Addr->Prop}{H H':Hp}{x d s o p:Addr}{n:Nat}{aK:gA}(h:We C S H x d s o p n aK)(k:∀ a ob,H a=some ob->S a->H' a=some ob)(t:∀ a xs,H a=some (.tup xs)->H' a=some (.tup xs)):We C S H' x d s o p n aK:=by
 obtain⟨sx,ss,so,sp,al,hx,hs,ho,ne,kvs,hp,pw⟩:=h;refine⟨sx,ss,so,sp,λa z=>?_,k _ _ hx sx,k _ _ hs ss,k _ _ ho so,ne,kvs,k _ _ hp sp,λh v e=>?_,pw.fH,pw.one,pw.len⟩
 ·obtain⟨ob,e⟩:=al a z;exact⟨ob,k _ _ e z⟩
 ·obtain⟨l,row,e1,e2,e3,e4,e5,r⟩:=pw.got h v e;exact⟨l,row,e1,e2,e3,e4,e5.two (λxs q=>k _ _ q e2) t,r⟩
theorem We.same{C:Addr}{S:Addr->Prop}{H H':Hp}{x d s o p:Addr}{n:Nat}{aK:gA}(h:We C S H x d s o p n aK)(k:aL H H'):We C S H' x d s o p n aK:=h.fr (λa ob e _=>k a ob e) (λa xs e=>k _ _ e)
theorem KO(aK:gA):(Pd aK).length=aK.length:=cD ..
theorem SX(aK:gA):(JY aK).length=aK.length:=cD ..
theorem Pe{H:Hp}{a:Addr}{ob:HO}(h:H a=some ob):aP H a ob=H:=by
 funext b;by_cases e:b=a
 ·rw[e,af,h]
 ·rw[aN e]
class inductive SY(C:Addr)
 | mk (x d:Addr) (_:vs=[.ref x]) (_:H x=some (.ins C d [])) (_: ∀ (s o p:Addr) (H':Hp),We C (λa=>a=x\/a=s\/a=o\/a=p) H' x d s o p 0 []->cJ x H H'->H s=none->H o=none->H p=none->Q .fH H')
class inductive S0(C:Addr)
 | mk (x d s o p:Addr) (aK:gA) (_:vs=[.ref x]) (_:H x=some (.ins C d [("signs",.ref s),("owners",.ref o),("pourings",.ref p)])) (_:H s=some (.lst (Pd aK))) (_:Q (.int (aK.length:Nat)) H)
class inductive Xi(C:Addr)
 | mk (S:Addr->Prop) (x d s o p:Addr) (n:Nat) (aK:gA) (h:Int) (cs:List Nat) (_:vs=[.ref x,.int h,.str (eX cs)]) (_:We C S H x d s o p n aK) (_:aK.length+cs.length<=100000) (_:n<=1000) (_ :
 ∀ (S':Addr->Prop) (q:Addr) (H':Hp),We C S' H' x d s o p (n+1) (aK++oH h cs)->H' q=some (.tup [.int (aK.length:Nat),.int ((aK++oH h cs).length:Nat)])->(∀ a,S' a->S a\/H a=none)->(∀ a ob,H a=some ob->¬ S a->H' a=some ob)->(∀ a xs,H a=some (.tup xs)->H' a=some (.tup xs))->Q (.ref q) H')
theorem yG:aH ["self"] ["self"] (aA mC):=eO
theorem Gp:aH ["self"] ["self"] (aA uf):=eO
theorem qW:aH ["self","hand","text","start","stretch"] ["self","hand","text"] (aA ug):=eO
theorem xE:‹(1,44,["self"],(SY CW))›:=λD=>by
 specialize eV D.Z4.F yG;obtain⟨x,d,rfl,hx,k⟩:=h;exists _,(aj (jf (pv 0) (bN ah) rfl) (aj (jf (pv 0) (bN ah) rfl) (au (jf (pv 0) mU rfl))));refine⟨iR,λs hs=>?_⟩;have a1:aL H (aP H s (.lst [])):=ak hs _;have b1:(aP H s (.lst [])) s=some (.lst []):=af;generalize aP H s (.lst [])=H1 at a1 b1;exists Y,x,CW,d,Y,a1 _ _ hx,D.iU.cl,D.uA,E;have k2:cJ x H1 (aP H1 x (.ins CW d (L2.d8 "signs" (.ref s) []))):=aM x _ _;have h2:(aP H1 x (.ins CW d (L2.d8 "signs" (.ref s) []))) x=some (.ins CW d [("signs",.ref s)]):=af;generalize aP H1 x (.ins CW d (L2.d8 "signs" (.ref s) []))=H2 at k2 h2;have Xd:s≠x:=(aB hx hs).symm;have b2:=k2 _ _ b1 Xd;refine⟨iR,λo ho=>?_⟩;have a3:aL H2 (aP H2 o (.lst [])):=ak ho _;have c3:(aP H2 o (.lst [])) o=some (.lst []):=af;generalize aP H2 o (.lst [])=H3 at a3 c3;refine⟨Y,x,CW,d,Y,a3 _ _ h2,D.iU.cl,D.vq,(by show 1<1000;decide),?_⟩;have k4:cJ x H3 (aP H3 x (.ins CW d (L2.d8 "owners" (.ref o) [("signs",.ref s)]))):=aM x _ _;have h4:(aP H3 x (.ins CW d (L2.d8 "owners" (.ref o) [("signs",.ref s)]))) x=some (.ins CW d [("signs",.ref s),("owners",.ref o)]):=af;generalize aP H3 x (.ins CW d (L2.d8 "owners" (.ref o) [("signs",.ref s)]))=H4 at k4 h4;have EJ:o≠x:=(aB h2 ho).symm;have c4:=k4 _ _ c3 EJ;have b4:=k4 _ _ (a3 _ _ b2) Xd;intro p hp;have npx:p≠x:=(aB h4 hp).symm;refine⟨Y,x,CW,d,Y,ak hp _ _ _ h4,D.iU.cl,D.oN,(by show 2<1000;decide),?_⟩
 have k5:cJ x H (aP (aP H4 p (.dK [])) x (.ins CW d (L2.d8 "pourings" (.ref p) [("signs",.ref s),("owners",.ref o)]))):=λa ob e n=>by
  rw[aN n];exact ak hp _ _ _ (k4 _ _ (a3 _ _ (k2 _ _ (a1 _ _ e) n)) n)
 refine k s o p _ ⟨.inl rfl,.inr (.inl rfl),.inr (.inr (.inl rfl)),.inr (.inr (.inr rfl)),λa z=>?_,af,?_,?_,aB b2 ho,[],?_,?_⟩ k5 hs ?_ ?_
 ·rcases z with rfl|rfl|rfl|rfl
  ·exact⟨_,af⟩
  ·exact⟨_,by rw[aN Xd];exact ak hp _ _ _ b4⟩
  ·exact⟨_,by rw[aN EJ];exact ak hp _ _ _ c4⟩
  ·exact⟨_,by rw[aN npx];exact af⟩
 ·rw[aN Xd];exact ak hp _ _ _ b4
 ·rw[aN EJ];exact ak hp _ _ _ c4
 ·rw[aN npx];exact af
 ·exact⟨λh v e=>(by cases e),λh e=>rfl,λh g v e=>(by cases e),gg _⟩
 ·exact bu a1 (iC k2 EJ ho)
 ·exact bu a1 (iC k2 npx (bu a3 (iC k4 npx hp)))
theorem jN:‹(1,45,["self"],(S0 CW))›:=λD=>by
 specialize eV D.L0.F Gp;obtain⟨x,d,s,o,p,aK,rfl,hx,hs,k⟩:=h;exists _,(au (aJ (eS D.T.eE (cP (pv 0) rfl))));exists Y,x,CW,d,_,.ref s,rfl,hx,D.iU.cl,D.uA,rfl,s,Y,.inl (bL.of hs);rw[KO];exact k
theorem D0:‹(2,46,["self","hand","text"],(Xi CW))›:=λD=>by
 specialize eV D.Z5.F qW;obtain⟨S,x,d,s,o,p,n,aK,h,cs,rfl,W,len,nn,k⟩:=h;have hu:=gC hr;exists _,(aj (aW (i:=3) qW.nd (eU (pv 0) D.iU D.L0 (jN D) hr bO)) (aj (wI (pv 0) (eN (Bh rfl) rfl D.T.jm tS (aa (pv 2) ah)) IF) (aj (wI (pv 0) (bC NK (bN (aa (pv 1) ah)) (cC vn rfl D.T.eE PySem.boot_len (aa (pv 2) ah))) IF) (aj (aW (i:=4) qW.nd (cF (aa (pv 3) (aa (eU (pv 0) D.iU D.L0 (jN D) hr bO) ah)))) (aj (aY (dM qw jX jY bT (Ou (cP (pv 0) rfl) (pv 1) (bN ah) ⟨V,V⟩) (aa (pv 4) ah))) (au (aJ (pv 4))))))));exists Y,x,d,Y,W.hx,rfl,x,d,s,o,p,aK,rfl,W.hx,W.hs;obtain⟨sx,ss,so,sp,al,hx,hs,ho,ne,kvs,hp,pw⟩:=id W;have nxs:x≠s:=dH hx hs;have nxo:x≠o:=dH hx ho;have nxp:x≠p:=dH hx hp;have nps:p≠s:=dH hp hs;have npo:p≠o:=dH hp ho;refine⟨Y,x,CW,d,_,.ref s,rfl,hx,D.iU.cl,D.uA,rfl,Y,cs,rfl,gM (aV ∅),λt ht=>?_⟩;have a1:aL H (aP H t (.lst (cs.map zb))):=ak ht _;have b1:(aP H t (.lst (cs.map zb))) t=some (.lst (cs.map zb)):=af;generalize aP H t (.lst (cs.map zb))=H1 at a1 b1;refine⟨s,t,Z,a1 _ _ hs,b1,(by rw[KO,cD];exact gM (aV ∅)),?_⟩;rw[← SS aK h cs];have k2:cJ s H1 (aP H1 s (.lst (Pd (aK++oH h cs)))):=aM s _ _;have s2:(aP H1 s (.lst (Pd (aK++oH h cs)))) s=some (.lst (Pd (aK++oH h cs))):=af;generalize aP H1 s (.lst (Pd (aK++oH h cs)))=H2 at k2 s2;have k02:cJ s H H2:=λa ob e m=>k2 _ _ (a1 _ _ e) m;have x2:=k02 _ _ hx nxs;refine⟨d,_,x2,(by show 3<1000;decide),?_⟩;have e3:aP H2 x (.ins CW d (L2.d8 "signs" (.ref s) ([("signs",.ref s),("owners",.ref o),("pourings",.ref p)]:List (Str × V))))=H2:=Pe x2;rw[e3];refine⟨Y,x,CW,d,_,.ref o,rfl,x2,D.iU.cl,D.vq,rfl,Y,jS,λt2 IB=>?_⟩;have a3:aL H2 (aP H2 t2 (.lst [.int h])):=ak IB _;have b3:(aP H2 t2 (.lst [.int h])) t2=some (.lst [.int h]):=af;generalize aP H2 t2 (.lst [.int h])=H3 at a3 b3;refine⟨Y,eX cs,rfl,(by rw[pX];exact gM (aV ∅)),?_⟩;rw[pX];refine⟨t2,Z,b3,Q,Q,(by simp only[iy];exact gM (aV ∅)),λt3 SQ=>?_⟩;rw[Int.toNat_natCast];have a4:aL H3 (aP H3 t3 (.lst (List.replicate cs.length [V.int h]).flatten)):=ak SQ _;have b4:(aP H3 t3 (.lst (List.replicate cs.length [V.int h]).flatten)) t3=some (.lst (List.replicate cs.length [V.int h]).flatten):=af;generalize aP H3 t3 (.lst (List.replicate cs.length [V.int h]).flatten)=H4 at a4 b4;have UP:cJ s H H4:=λa ob e m=>a4 _ _ (a3 _ _ (k02 _ _ e m));refine⟨o,t3,Z,UP _ _ ho ne.symm,b4,(by rw[SX,DZ,yx];exact gM (aV ∅)),?_⟩;rw[← SV aK h cs];have k5:cJ o H4 (aP H4 o (.lst (JY (aK++oH h cs)))):=aM o _ _;have o5:(aP H4 o (.lst (JY (aK++oH h cs)))) o=some (.lst (JY (aK++oH h cs))):=af;generalize aP H4 o (.lst (JY (aK++oH h cs)))=H5 at k5 o5;have k05:∀ a ob,H a=some ob->a≠s->a≠o->H5 a=some ob:=λa ob e m m2=>k5 _ _ (UP _ _ e m) m2;have x5:=k05 _ _ hx nxs nxo;have s5:=k5 _ _ (a4 _ _ (a3 _ _ s2)) ne;refine⟨d,_,x5,(by show 3<1000;decide),?_⟩;have e5:aP H5 x (.ins CW d (L2.d8 "owners" (.ref o) ([("signs",.ref s),("owners",.ref o),("pourings",.ref p)]:List (Str × V))))=H5:=Pe x5;rw[e5]
 have Uh:∀ q,H5 q=none->H q=none:=λq hq=>by
  cases e:H q with
  | none=>rfl
  | some ob =>
   by_cases z1:q=s
   ·rw[z1,s5]at hq;cases hq
   by_cases z2:q=o
   ·rw[z2,o5]at hq;cases hq
   rw[k05 _ _ e z1 z2]at hq;cases hq
 exists Y,Y,x,d,Y,x5,rfl,x,d,s,o,p,Y,x5,s5;refine⟨pZ,λq hq=>?_⟩;have a6:aL H5 (aP H5 q (.tup [.int (aK.length:Nat),.int ((aK++oH h cs).length:Nat)])):=ak hq _;have b6:(aP H5 q (.tup [.int (aK.length:Nat),.int ((aK++oH h cs).length:Nat)])) q=some (.tup [.int (aK.length:Nat),.int ((aK++oH h cs).length:Nat)]):=af;generalize aP H5 q (.tup [.int (aK.length:Nat),.int ((aK++oH h cs).length:Nat)])=H6 at a6 b6;have p6:=a6 _ _ (k05 _ _ hp nps npo);have MY:∀ q,H6 q=none->H q=none:=λq hq=>Uh q (bu a6 hq);refine⟨Y,x,CW,d,_,.ref p,rfl,a6 _ _ x5,D.iU.cl,D.oN,rfl,p,rfl,.inl ⟨_,.inl p6⟩,Y,iR,λz hz=>?_⟩;have a7:aL H6 (aP H6 z (.lst [])):=ak hz _;have b7:(aP H6 z (.lst [])) z=some (.lst []):=af;generalize aP H6 z (.lst [])=H7 at a7 b7;have lp:=pw.len;refine⟨kvs,Sum.inl h,a7 _ _ p6,rfl,aV ∅,λv hv=>?_,λhv=>?_⟩
 ·obtain⟨l,row,rfl,Sl,ls,lo,⟨as,hl,pa⟩,ok,sp1,rl⟩:=pw.got h v hv;have k07:∀ a ob,H a=some ob->a≠s->a≠o->H7 a=some ob:=λa ob e m m2=>a7 _ _ (a6 _ _ (k05 _ _ e m m2));have l7:=k07 _ _ hl ls lo;have nxl:x≠l:=dH hx hl;have npl:p≠l:=dH hp hl;have la:=pa.len;refine⟨.inl ⟨rfl,_,bL.of l7⟩,Y,l,Z,l7,(by rw[cD];exact aV ∅),?_⟩;have k8:cJ l H7 (aP H7 l (.lst (as.map V.ref++[.ref q]))):=aM l _ _;have l8:(aP H7 l (.lst (as.map V.ref++[.ref q]))) l=some (.lst (as.map V.ref++[.ref q])):=af;generalize aP H7 l (.lst (as.map V.ref++[.ref q]))=H8 at k8 l8;have t07:∀ a xs,H a=some (.tup xs)->H7 a=some (.tup xs):=λa xs e=>k07 _ _ e (dH e hs) (dH e ho);have Xj:∀ a xs,H7 a=some (.tup xs)->H8 a=some (.tup xs):=λa xs e=>k8 _ _ e (dH e l7);have s8:=k8 _ _ (a7 _ _ (a6 _ _ s5)) ls.symm;have o8:=k8 _ _ (a7 _ _ (a6 _ _ o5)) lo.symm;refine⟨Y,k S q H8 ⟨sx,ss,so,sp,λa z=>?_,k8 _ _ (a7 _ _ (a6 _ _ x5)) nxl,s8,o8,ne,kvs,k8 _ _ (a7 _ _ p6) npl,λg v e=>?_,λg e=>?_,pw.one,Q⟩ (Xj _ _ (a7 _ _ b6)) (λa z=>.inl z) (λa ob e m=>?_) (λa xs e=>Xj _ _ (t07 _ _ e))⟩
  ·by_cases z1:a=s
   ·rw[z1];exact⟨_,s8⟩
   by_cases z2:a=o
   ·rw[z2];exact⟨_,o8⟩
   by_cases z3:a=l
   ·rw[z3];exact⟨_,l8⟩
   obtain⟨ob,e⟩:=al a z;exact⟨ob,k8 _ _ (k07 _ _ e z1 z2) z3⟩
  ·by_cases c:g=h
   ·subst c;rw[hv]at e;cases e;exists l,row++([(((aK.length:Nat):Int),(((aK++oH g cs).length:Nat):Int))]:Row),rfl,Sl,ls,lo,⟨as++[q],by rw[gG];exact l8,?_⟩,?_,?_
    ·exact bQ.append (pa.tups λa xs e=>Xj _ _ (t07 _ _ e)) (.cons (b:=(((aK.length:Nat):Int),(((aK++oH g cs).length:Nat):Int))) (Xj _ _ (a7 _ _ b6)) .nil)
    ·intro r hr;rcases List.mem_append.mp hr with z|z
     ·exact ok r z
     ·rw[List.mem_singleton.mp z];show ((aK.length:Nat):Int)<=((aK++oH g cs).length:Nat);rw[dz];lia
    ·rw[cZ,sp1,nh,xD,Nat.zero_add];congr 1;refine Ax _ _ _ ?_;rw[dz,sj];lia
    ·rw[dz];simp only[iy];lia
   ·obtain⟨l',Tc,e1,e2,e3,e4,e5,e6,e7,e8⟩:=pw.got g v e;subst e1;have nl:l'≠l:=λz=>c (pw.one g h _ e (by rw[z];exact hv));refine⟨l',Tc,rfl,e2,e3,e4,e5.two (λxs q=>k8 _ _ (k07 _ _ q e3 e4) nl) (λa xs e=>Xj _ _ (t07 _ _ e)),e6,?_,Q⟩;rw[e7,nh,ni (λz=>c z.symm),gE]
  ·have c:g≠h:=λz=>by rw[z,hv]at e;cases e
   rw[nh,pw.fH g e,ni (λz=>c z.symm),gE]
  ·have z1:a≠s:=λz=>m (by rw[z];exact ss);have z2:a≠o:=λz=>m (by rw[z];exact so);have z3:a≠l:=λz=>m (by rw[z];exact Sl);exact k8 _ _ (k07 _ _ e z1 z2) z3
 ·have fz:H z=none:=MY z hz;have p7:=a7 _ _ p6;have k8:cJ p H7 (aP H7 p (.dK (eT kvs (Sum.inl h) (.ref z)))):=aM p _ _;have p8:(aP H7 p (.dK (eT kvs (Sum.inl h) (.ref z)))) p=some (.dK (eT kvs (Sum.inl h) (.ref z))):=af;generalize aP H7 p (.dK (eT kvs (Sum.inl h) (.ref z)))=H8 at k8 p8;have z8:=k8 _ _ b7 (dH b7 p7);refine⟨.inl ⟨rfl,_,bL.of z8⟩,Y,z,Z,z8,(by show 0<sizeLine;decide),?_⟩;have k9:cJ z H8 (aP H8 z (.lst ([]++[.ref q]))):=aM z _ _;have z9:(aP H8 z (.lst ([]++[.ref q]))) z=some (.lst ([]++[.ref q])):=af;generalize aP H8 z (.lst ([]++[.ref q]))=H9 at k9 z9;have k69:∀ a ob,H6 a=some ob->a≠p->H9 a=some ob:=λa ob e m=>k9 _ _ (k8 _ _ (a7 _ _ e) m) (aB e hz);have Xk:∀ a ob,H a=some ob->a≠s->a≠o->a≠p->H9 a=some ob:=λa ob e m m2 m3=>k69 _ _ (a6 _ _ (k05 _ _ e m m2)) m3;have t69:∀ a xs,H6 a=some (.tup xs)->H9 a=some (.tup xs):=λa xs e=>k69 _ _ e (dH e p6);have t09:∀ a xs,H a=some (.tup xs)->H9 a=some (.tup xs):=λa xs e=>Xk _ _ e (dH e hs) (dH e ho) (dH e hp);have s9:=k69 _ _ (a6 _ _ s5) nps.symm;have o9:=k69 _ _ (a6 _ _ o5) npo.symm;have p9:=k9 _ _ p8 (dH p7 b7)
  have nz:∀ a,S a->a≠z:=λa sa=>by
   obtain⟨ob,e⟩:=al a sa;exact aB e fz
  refine⟨Y,k (λa=>S a\/a=z) q H9 ⟨.inl sx,.inl ss,.inl so,.inl sp,λa w=>?_,k69 _ _ (a6 _ _ x5) nxp,s9,o9,ne,_,p9,λg v e=>?_,λg e=>?_,λg g' v e e'=>?_,(by have:=gU kvs (Sum.inl h:fj) (V.ref z);lia)⟩ (t69 _ _ b6) (λa w=>w.imp id λy=>by rw[y];exact fz) (λa ob e m=>?_) (λa xs e=>t09 _ _ e)⟩
  ·rcases w with w|w
   ·by_cases z1:a=s
    ·rw[z1];exact⟨_,s9⟩
    by_cases z2:a=o
    ·rw[z2];exact⟨_,o9⟩
    by_cases z3:a=p
    ·rw[z3];exact⟨_,p9⟩
    obtain⟨ob,e⟩:=al a w;exact⟨ob,Xk _ _ e z1 z2 z3⟩
   ·rw[w];exact⟨_,z9⟩
  ·rw[kC]at e;by_cases c:g=h
   ·subst c;rw[if_pos rfl]at e;cases e;exists z,([(((aK.length:Nat):Int),(((aK++oH g cs).length:Nat):Int))]:Row),rfl,.inr rfl,(nz _ ss).symm,(nz _ so).symm,⟨[q],z9,.cons (t69 _ _ b6) .nil⟩,?_,?_
    ·intro r hr;rw[List.mem_singleton.mp hr];show ((aK.length:Nat):Int)<=((aK++oH g cs).length:Nat);rw[dz];lia
    ·rw[nh,pw.fH g hv,xD,Nat.zero_add,List.nil_append];refine Ax _ _ _ ?_;rw[dz,sj];lia
    ·simp only[iy];lia
   ·rw[if_neg (λz=>c (Sum.inl.inj z))]at e;obtain⟨l',Tc,e1,e2,e3,e4,e5,e6,e7,e8⟩:=pw.got g v e;subst e1;refine⟨l',Tc,rfl,.inl e2,e3,e4,e5.two (λxs q=>Xk _ _ q e3 e4 (dH q hp)) (λa xs e=>t09 _ _ e),e6,?_,Q⟩;rw[e7,nh,ni (λz=>c z.symm),gE]
  ·rw[kC]at e;have c:g≠h:=λz=>by rw[z,if_pos rfl]at e;cases e
   rw[if_neg (λz=>c (Sum.inl.inj z))]at e;rw[nh,pw.fH g e,ni (λz=>c z.symm),gE]
  ·have other:∀ g v,g≠h->cE kvs (Sum.inl g)=some v->v≠.ref z:=λg v c e y=>by
    obtain⟨l',Tc,e1,e2,_⟩:=pw.got g v e;rw[e1]at y;cases y;exact nz _ e2 rfl
   rw[kC]at e e';by_cases c:g=h
   ·by_cases c':g'=h
    ·rw[c,c']
    ·rw[c,if_pos rfl]at e;rw[if_neg (λz=>c' (Sum.inl.inj z))]at e';cases e;exact absurd rfl (other _ _ c' e')
   ·rw[if_neg (λz=>c (Sum.inl.inj z))]at e;by_cases c':g'=h
    ·rw[c',if_pos rfl]at e';cases e';exact absurd rfl (other _ _ c e)
    ·rw[if_neg (λz=>c' (Sum.inl.inj z))]at e';exact pw.one _ _ _ e e'
  ·have z1:a≠s:=λz=>m (by rw[z];exact ss);have z2:a≠o:=λz=>m (by rw[z];exact so);have z3:a≠p:=λz=>m (by rw[z];exact sp);exact Xk _ _ e z1 z2 z3
theorem Gq(xs:List V){p q:Int}(h:0<=p)(g:0<=q):kB xs (some p) (some q)=(xs.take q.toNat).drop p.toNat:=by
 unfold kB
 have e:∀ r:Int,0<=r->∀ d,HT.iZ xs.length d (some r)=min r.toNat xs.length:=λr hr d=>by
  show (if r<0 then (r+(xs.length:Int)).toNat else min r.toNat xs.length)=_;rw[if_neg ∅]
 rw[e p h,e q g,List.drop_take];rcases Nat.le_total p.toNat xs.length with z|z
 ·rw[Nat.min_eq_left z];rcases Nat.le_total q.toNat xs.length with y|y
  ·rw[Nat.min_eq_left y]
  ·rw[Nat.min_eq_right y,u9 (by rw[sH];lia),u9 (by rw[sH];lia)]
 ·rw[Nat.min_eq_right z,zg (gg _),zg z];simp
def QG(n:Nat)(p:Int × Int):Bool:=decide (0<=p.1)&&decide (p.1<p.2)&&decide (p.2<=(n:Int))
def uP(n:Nat)(row:Row):Bool:=row.all (QG n)
class inductive Td(C:Addr)
 | mk (S:Addr->Prop) (x d s o p r:Addr) (n:Nat) (aK:gA) (row:Row) (_:vs=[.ref x,.ref r]) (_:We C S H x d s o p n aK) (_:cA H r row) (_:row.length<=1000) (_: ∀ H',aL H H'->Q (.bl (uP aK.length row)) H')
theorem D3:aH ["self","row"] ["self","row"] (aA nL):=eO
theorem Bv:‹(2,47,["self","row"],(Td CW))›:=λD=>by
 specialize eV D.Z6.F D3;obtain⟨S,x,d,s,o,p,r,n,aK,row,rfl,W,R,len,k⟩:=h;refine⟨_,(au (aJ (cC (LV rfl) rfl D.T.ZP PyProof.Rows.boot_all (aa (gV (N:=["start","stop","self"]) (nP (sc:=aA nL) (NX:=["self","row"]) (jx:=[none,none,some 0]) rfl rfl rfl nofun nofun rfl nofun rfl nofun) rfl (cH (pv 1)) (λ_ _ _ _ _ _=>(vC (n:=2) rfl (ck (cu (i:=0) (show List.Nodup (["start","stop","self"]:List Str) by decide +kernel)) (ck (cu (i:=1) (show List.Nodup (["start","stop","self"]:List Str) by decide +kernel)) gH)))) (λ_ _ _ _ _ _=>gI) (λ_ _ _ _ _ _=>(LW fJ iS fJ ay (pv 0) (pv 1) (eU (pv 2) D.iU D.L0 (jN D) hr bO)))) ah)))),?_⟩;obtain⟨as,hr1,pa⟩:=id R;have la:=pa.len;refine⟨Y,r,rfl,⟨_,bL.of hr1⟩,λacc cY=>gz (K:=K) (a:=r) (xs:=as.map V.ref) (λi σ H1=>∃ u w:Option V,σ=[u,w,some (.ref x)]/\H1 acc=some (.lst (((row.take i).map (QG aK.length)).map V.bl))/\aL H H1) ⟨none,none,rfl,af,ak cY _⟩ (by rintro i σ H1 _ ⟨_,_,_,_,s⟩;exact bL.of (s _ _ hr1)) ?_ ?_⟩
 ·rintro i y σ H1 hi ⟨u,w,rfl,ha,s1⟩;rw[nG]at hi;obtain⟨t,et,rfl⟩:=Option.map_eq_some_iff.mp hi;obtain⟨q,eq,ht⟩:=uF pa et;have W1:=W.same s1;exists t,Y,dG.of (s1 _ _ ht),rfl,P,rfl,Z
  have kO:∀ v:Bool,QG aK.length q=v->∃ ys,H1 acc=some (.lst ys)/\ys.length<sizeLine/\∃ u w:Option V,[some (V.int q.1),some (V.int q.2),some (.ref x)]=[u,w,some (.ref x)]/\(aP H1 acc (.lst (ys++[.bl v]))) acc=some (.lst (((row.take (i+1)).map (QG aK.length)).map V.bl))/\aL H (aP H1 acc (.lst (ys++[.bl v]))):=λv hv=>by
   exists _,ha,?_,P,rfl,?_
   ·rw[cD,cD,gy];exact aV ∅
   ·rw[af,take_snoc eq,gG,gG,← hv];rfl
   ·intro b ob e;rw[aN (aB e cY)];exact s1 _ _ e
  refine⟨Y,Z,Y,cI (λc1=>?_) (λc1=>kO false ?_)⟩
  ·refine⟨Y,Z,Y,cI (λc2=>?_) (λc2=>kO false ?_)⟩
   ·refine⟨Y,x,d,Y,W1.hx,rfl,x,d,s,o,p,aK,rfl,W1.hx,W1.hs,Z,kO _ ?_⟩;unfold QG;rw[c1,c2];rfl
   ·unfold QG;rw[c1,Bool.eq_false_iff.mpr c2];rfl
  ·unfold QG;rw[Bool.eq_false_iff.mpr c1];rfl
 ·rintro σ H1 ⟨u,w,rfl,ha,s1⟩;rw[cD,la,gK]at ha;exists acc,Y,bL.of ha
  have e:(row.map (QG aK.length)).all id=uP aK.length row:=by
   unfold uP;rw[List.all_map];rfl
  rw[e];exact k H1 s1
theorem DE.irr{rows:cS}(h:DE rows){s:Int}:¬ Reach (jV rows) s s:=by
 obtain⟨rk,_,hr⟩:=h
 have key:∀ g,Reach (jV rows) s g->rk g<rk s:=by
  intro g r
  induction r with
  | one e=>exact hr _ _ e
  | step _ e ih=>exact Nat.lt_trans (hr _ _ e) ih
 exact λz=>Nat.lt_irrefl _ (key s z)
structure nU(rows:cS)(f:Int->Int):Prop where
 len:rows.length<=100
 es:∀ es∈rows,es.length<=1000
 sd:gr rows
 rk:DE rows
 wt:Weighs rows f
 most:∀ x:Int,0<=x->x<rows.length->f x<=200
class inductive Pf
 | mk (r:Addr) (rows:cS) (s:Int) (f:Int->Int) (_:vs=[.ref r,.int s]) (_:gp H r (rows.map aI)) (_:nU rows f) (_:0<=s) (_:s<rows.length) (_: ∀ H',aL H H'->Q .fH H')
theorem kj:aH ["rows","sheet","way","weights","number"] ["rows","sheet"] (aA pL):=eO
theorem Ay:‹(4,48,["rows","sheet"],Pf)›:=λD=>by
 refine eV D.Z7.F kj λcN A zn s0 H vs Q E hr h=>?_;obtain⟨r,rows,s,f,rfl,hR,B,h0,h1,k⟩:=h;have hu:=gC hr;obtain⟨D4,D5⟩:=D.G.w;have bl:=B.len;exists _,(aj (aW (i:=2) kj.nd (aG D.ZS (Su D) hr (aa (pv 0) (aa (pv 1) ah)))) (aj (bK (De (QW (pv 2))) (au gO) aX) (aj (aW (i:=3) kj.nd (aG D.ZU (xm D) hr (aa (pv 0) (aa (eN (tG rfl) rfl D.T.jm tS (aa (eN DB rfl D.T.jd PyProof.Rows.boot_range (aa (eS D.T.eE (pv 0)) ah)) ah)) ah)))) (au (d7 PassesOwn.never rfl (jq rfl D.T.jd (aa (eS D.T.eE (pv 0)) ah)) (cu (i:=4) kj.nd) (au (bK (aT BX (gj hu (pv 3) (pv 4)) (Dd (v:=.int 200) rfl D5 ⟨D4,rfl⟩) (bq _)) (au gO) aX)))))));refine⟨Y,Y,r,s,rfl,r,rows,s,s,rfl,hR,Q,B.es,B.sd,h0,h1,B.rk.irr,λH1 s1=>?_⟩;refine⟨Y,false,rfl,eY ?_⟩;have hR1:=hR.same s1;obtain⟨vs,hr1,al⟩:=id hR1;have lv:vs.length=rows.length:=by rw[al.len,cD]
 refine⟨Y,Y,r,Y,.inl (bL.of hr1),Y,λp1 Yi=>⟨p1,P,rfl,af,⟨Q,Q,Q,Q⟩,gM (aV ∅),λL hL=>?_⟩⟩;rw[zM,lv,show ((rows.length:Int)-0).toNat=rows.length by lia];rw[lv]at hL;have s2:=s1.trans ((ak Yi (.EH 0 ((rows.length:Nat):Int))).trans (ak hL (.lst ((run 0 rows.length).map V.int))));have hL2:(aP (aP H1 p1 (.EH 0 ((rows.length:Nat):Int))) L (.lst ((run 0 rows.length).map V.int))) L=some (.lst ((run 0 rows.length).map V.int)):=af;generalize aP (aP H1 p1 (.EH 0 ((rows.length:Nat):Int))) L (.lst ((run 0 rows.length).map V.int))=H2 at s2 hL2;refine⟨r,L,rows,run 0 rows.length,f,rfl,hR.same s2,hL2,by rw[Kr];lia,Q,B.es,B.sd,B.rk,(λx hx=>by have:=Oq hx;lia),B.wt,λS kvs H3 hS hv s3 _=>?_⟩;have Pb:=s2.trans s3;obtain⟨vs3,IP,al3⟩:=hR.same Pb;have lv3:vs3.length=rows.length:=by rw[al3.len,cD]
 exists Y,r,Y,.inl (bL.of IP),Y,Q,Q;refine j0 (lo:=0) (n:=((vs3.length:Nat):Int).toNat) (λi σ H4=>∃ u:Option V,σ=[some (.ref r),some (.int s),some .fH,some (.ref S),u]/\aL H H4/\H4 S=some (.dK kvs)) ⟨none,rfl,Pb,hS⟩ ?_ ?_
 ·rintro i σ H4 hi ⟨u,rfl,s4,hS4⟩;have il:i<rows.length:=by lia
  have z:=iD.k (k:=Sum.inl (0+(i:Int))) hS4;rw[hv (0+(i:Int)) (by rw[show (0:Int)+(i:Int)=0+i from rfl];exact nF (Km 0 rows.length i il))]at z;exists Y,Y,S,Y,z,Z,Y;rw[decide_eq_false (show ¬ f (0+(i:Int)) > 200 from λy=>by have:=B.most (0+(i:Int)) ∅ ∅;lia)];exact eY ⟨Y,s4,hS4⟩
 ·rintro σ H4 ⟨u,rfl,s4,_⟩;exact k H4 s4
structure iI(C CS:Addr)(S:Addr->Prop)(H:Hp)(x d wl sh bl kn du bk dS st op:Addr)(bz:jL)(ops:List Int)(aF:iY):Prop where
 hx:H x=some (.ins C d [("well",.ref wl),("shelf",.ref sh),("blots",.ref bl),("knots",.ref kn),("dues",.ref du),("book",.ref bk)])
 W:Sh CS S H sh dS st op bz ops
 hb:H bk=some (lD aF)
 nx:¬ S x
 nb:¬ S bk
def Fr(S S':Addr->Prop)(bk:Addr)(H H':Hp):Prop:=(∀ a,S' a->S a\/H a=none)/\(∀ a ob,H a=some ob->¬ S a->a≠bk->H' a=some ob)/\∀ a xs,H a=some (.tup xs)->H' a=some (.tup xs)
theorem Fr.same{S S':Addr->Prop}{bk:Addr}{H0 H H':Hp}(s:aL H0 H)(f:Fr S S' bk H H'):Fr S S' bk H0 H' :=
 ⟨λa z=>(f.1 a z).imp id λy=>bu s y,λa ob e n1 n2=>f.2.1 a ob (s _ _ e) n1 n2,λa xs e=>f.2.2 a xs (s _ _ e)⟩
theorem iI.same{C:Addr}{S:Addr->Prop}{H H':Hp}{x d wl sh bl du bk st:Addr}{bz:jL}{ops:List Int}{aF:iY}(L:iI C CS S H x d wl sh bl kn du bk dS st op bz ops aF)(s:aL H H'):iI C CS S H' x d wl sh bl kn du bk dS st op bz ops aF :=
 ⟨s _ _ L.hx,L.W.same s,s _ _ L.hb,L.nx,L.nb⟩
theorem iI.neb{C:Addr}{S:Addr->Prop}{H:Hp}{x d wl sh bl du bk st:Addr}{bz:jL}{ops:List Int}{aF:iY}(L:iI C CS S H x d wl sh bl kn du bk dS st op bz ops aF):x≠bk:=λe=>by
 have z:=L.hx;rw[e,L.hb]at z;cases z
class inductive Te(C CS:Addr)
 | mk (S:Addr->Prop) (x d wl sh bl kn du bk dS st op:Addr) (bz:jL) (ops:List Int) (aF:iY) (_:vs=[.ref x]) (_:iI C CS S H x d wl sh bl kn du bk dS st op bz ops aF) (_:Q (.int (ops.length:Nat)) H)
class inductive Tf(C CS:Addr)
 | mk (S:Addr->Prop) (x d wl sh bl kn du bk dS st op:Addr) (bz:jL) (ops:List Int) (aF:iY) (dd c:Addr) (e:jU) (cs:List Addr) (qq:List (Nat × List aR)) (last:List (List aR)) (_:vs=[.ref x,.ref dd,.ref c]) (_:iI C CS S H x d wl sh bl kn du bk dS st op bz ops aF) (_:e.At H dd) (_:e.Ok) (_:H c=some (.lst (cs.map V.ref))) (_:c≠bk) (_:bU (Jd H) cs qq) (_:(∀ a∈cs,∀ (s:Int) (r:Addr),H a=some (.tup [.int s,.ref r])->r≠bk)) (_:bz.getLast?=some last) (_:Xe last qq) (_:qq.length<=200) (_:last.length<=500) (_:bz.length<=1000) (_:aF.length<=1000) (_ :
 ∀ (S':Addr->Prop) (H':Hp),iI C CS S' H' x d wl sh bl kn du bk dS st op (bz++[qf last qq]) (ops++List.replicate ((qf last qq).length-last.length) ((bz.length:Nat):Int)) (aF++[e.line])->Fr S S' bk H H'->Q .fH H')
theorem yH:aH ["self","deed","changes"] ["self","deed","changes"] (aA mD):=eO
theorem Az:aH ["self"] ["self"] (aA n9):=eO
theorem yI:‹(2,52,["self"],(Te C CS))›:=λD=>by
 specialize eV D.Z9.F Az;obtain⟨S,x,d,wl,sh,bl,kn,du,bk,dS,st,op,bz,ops,aF,rfl,L,k⟩:=h;exists _,(au (aJ (eU (cP (pv 0) rfl) D.bZ D.OD (ki D) hr bO)));exact⟨Y,x,C,d,_,.ref sh,rfl,L.hx,D.aS.cl,D.eZ,rfl,sh,dS,Y,L.W.hx,rfl,S,sh,dS,st,op,bz,ops,rfl,L.W,k⟩
theorem oU:‹(3,50,["self","deed","changes"],(Tf C CS))›:=λD=>by
 specialize eV D.WD.F yH;obtain⟨S,x,d,wl,sh,bl,kn,du,bk,dS,st,op,bz,ops,aF,dd,c,e,cs,qq,last,rfl,L,de,ok,hc,ncb,al,nr,hl,oc,l1,l2,l3,l4,k⟩:=h;exists _,(aj (aY (dM qw jX jY bT (cP (pv 0) rfl) (aa (aG D.ZZ (Bt D) hr (aa (pv 1) ah)) ah))) (au (aY (cR (cP (pv 0) rfl) D.bZ D.Z1 (Bu D) hr bO (aa (pv 2) ah)))));refine⟨Y,x,C,d,_,.ref bk,rfl,L.hx,D.aS.cl,D.E9,rfl,.inl ⟨rfl,_,bL.of L.hb⟩,Y,dd,e,rfl,de,ok,Jb ok,λH1 s1=>?_⟩;refine⟨bk,Z,s1 _ _ L.hb,aV (by rw[cD];lia),?_⟩;have e2:(aF.map λw=>V.str (eX w))++[V.str (eX e.line)]=(aF++[e.line]).map λw=>V.str (eX w):=by rw[gG];rfl
 rw[e2]
 have k2:cJ bk H (aP H1 bk (lD (aF++[e.line]))):=λa o q n=>by
  rw[aN n];exact s1 _ _ q
 have Xa:(aP H1 bk (lD (aF++[e.line]))) bk=some (lD (aF++[e.line])):=af
 have fr2:∀ a,(aP H1 bk (lD (aF++[e.line]))) a=none->H a=none:=λa q=>by
  by_cases z:a=bk
  ·rw[z,af]at q;cases q
  ·rw[aN z]at q;exact bu s1 q
 generalize aP H1 bk (lD (aF++[e.line]))=H2 at k2 Xa fr2;have t2:∀ a xs,H a=some (.tup xs)->H2 a=some (.tup xs):=λa xs q=>k2 _ _ q (dH q L.hb);have W2:Sh CS S H2 sh dS st op bz ops:=L.W.keep L.hb L.nb k2;have x2:=k2 _ _ L.hx L.neb;refine⟨Y,x,C,d,_,.ref sh,rfl,x2,D.aS.cl,D.eZ,rfl,sh,dS,Y,W2.hx,rfl,Y,S,sh,dS,st,op,c,bz,ops,cs,qq,last,rfl,W2,k2 _ _ hc ncb,?_,hl,oc,l1,l2,l3,λS' H3 W3 sub fr tp=>?_⟩
 ·have key:∀ {as:List Addr} {ds:List (Nat × List aR)},bU (Jd H) as ds->(∀ a∈as,a∈cs)->bU (Jd H2) as ds:=by
   intro as ds q
   induction q with
   | nil=>intro _;exact .nil
   | cons o t ih =>
    intro sub;refine .cons ?_ (ih λa ha=>sub a (nu _ ha));obtain⟨r,ha,it⟩:=o;have nrb:=nr _ (sub _ tU) _ r ha;exact⟨r,t2 _ _ ha,it.fr (λxs q=>k2 _ _ q nrb) t2⟩
  exact key al λ_ z=>z
 ·refine k S' H3 ⟨fr _ _ x2 L.nx,W3,fr _ _ Xa L.nb,λz=>?_,λz=>?_⟩ ⟨λa z=>(sub a z).imp id λq=>fr2 a q,λa ob q n n'=>fr _ _ (k2 _ _ q n') n,λa xs q=>tp _ _ (t2 _ _ q)⟩
  ·rcases sub _ z with q|q
   ·exact L.nx q
   ·rw[x2]at q;cases q
  ·rcases sub _ z with q|q
   ·exact L.nb q
   ·rw[Xa]at q;cases q
abbrev j7(pe:iu):jL:=pe.map λrows=>rows.map aI
def iX(rows:cS)(s:Nat)(es:List Int):cS:=rows.take s++[es]++rows.drop (s+1)
theorem Tg(rows:cS)(s:Nat)(es:List Int):qf (rows.map aI) [(s,aI es)]=(iX rows s es).map aI:=by
 show (rows.map aI).take s++[aI es]++(rows.map aI).drop (s+1)=_;unfold iX;rw[gG,gG,List.map_take,List.map_drop];rfl
theorem Gr{rows:cS}{s:Nat}{es:List Int}(h:s<=rows.length):(iX rows s es).length=if s=rows.length then rows.length+1 else rows.length:=by
 unfold iX;rw[dz,dz,gy,sH];show min s rows.length+1+_=_
 split <;> lia
def Pg(ops:List Int)(n s m:Nat):List Int:=ops++if s=n then [(m:Int)] else []
theorem Xl{rows:cS}{s:Nat}{es:List Int}{ops:List Int}{m:Nat}(h:s<=rows.length):ops++List.replicate (((iX rows s es).map aI).length-(rows.map aI).length) (m:Int)=Pg ops rows.length s m:=by
 rw[cD,cD,Gr h];unfold Pg;by_cases c:s=rows.length
 ·rw[if_pos c,if_pos c,show rows.length+1-rows.length=1 by lia];rfl
 ·rw[if_neg c,if_neg c,Nat.sub_self];rfl
class inductive Ph(C CS:Addr)
 | mk (S:Addr->Prop) (x d wl sh bl kn du bk dS st op:Addr) (pe:iu) (ops:List Int) (aF:iY) (dd r:Addr) (e:jU) (s:Nat) (es:List Int) (rows:cS) (f:Int->Int) (_:vs=[.ref x,.ref dd,.int (s:Nat),.ref r]) (_:iI C CS S H x d wl sh bl kn du bk dS st op (j7 pe) ops aF) (_:e.At H dd) (_:e.Ok) (_:bJ H (.ref r) (aI es)) (_:r≠bk) (_:pe.getLast?=some rows) (_:s<=rows.length) (_:rows.length<=50) (_:pe.length<=900) (_:aF.length<=900) (_:nU (iX rows s es) f) (_ :
 ∀ (S':Addr->Prop) (H':Hp),iI C CS S' H' x d wl sh bl kn du bk dS st op (j7 (pe++[iX rows s es])) (Pg ops rows.length s pe.length) (aF++[e.line])->Fr S S' bk H H'->Q .fH H')
theorem xF:aH ["self","deed","sheet","items"] ["self","deed","sheet","items"] (aA kY):=eO
theorem fF{pe:iu}{rows:cS}(h:pe.getLast?=some rows):(j7 pe).getLast?=some (rows.map aI):=by
 rw[List.getLast?_map,h];rfl
theorem Pj{H H':Hp}{rs:List Addr}{rows:List (List aR)}{r:Addr}{aO:List aR}{s:Nat}(al:bU (λq i=>bJ H' (.ref q) i) rs rows)(it:bJ H' (.ref r) aO):bU (bJ H') ((rs.map V.ref).take s++[.ref r]++(rs.map V.ref).drop (s+1)) (rows.take s++[aO]++rows.drop (s+1)):=by
 have key:bU (bJ H') (rs.map V.ref) rows:=by
  induction al with
  | nil=>exact .nil
  | cons o t ih=>exact .cons o ih
 exact ((key.take s).app (.cons it .nil)).app (key.drop (s+1))
theorem dR:‹(5,51,["self","deed","sheet","items"],(Ph C CS))›:=λD=>by
 specialize eV D.FW.F xF;obtain⟨S,x,d,wl,sh,bl,kn,du,bk,dS,st,op,pe,ops,aF,dd,r,e,s,es,rows,f,rfl,L,de,ok,hi,nrb,hl,sl,l1,l2,l3,B,k⟩:=h;have hl':=fF hl;have lp:(j7 pe).length=pe.length:=cD _
 have lo:ops.length=rows.length:=by
  obtain⟨last,z1,z2⟩:=L.W.My.C1;rw[hl']at z1;cases z1;rw[z2,cD]
 exists _,(aj (aY (aG D.Z7 (Ay D) hr (aa (aG D.WB (Au D) hr (aa (eU (cP (pv 0) rfl) D.bZ D.DK (fE D) hr bO) (aa (pv 2) (aa (pv 3) ah)))) (aa (pv 2) ah)))) (au (aY (cR (pv 0) D.aS D.WD (oU D) hr bO (aa (pv 1) (aa (bN (aa (cF (aa (pv 2) (aa (pv 3) ah))) ah)) ah))))));refine⟨Y,x,C,d,_,.ref sh,rfl,L.hx,D.aS.cl,D.eZ,rfl,sh,dS,Y,L.W.hx,rfl,S,sh,dS,st,op,j7 pe,ops,rfl,L.W,⟨Q,Q⟩,λQH el q H1 fs s1=>?_⟩;rw[hl']at el;cases el;obtain⟨fq,rs,hq,al⟩:=fs;have lr:rs.length=rows.length:=by rw[al.len,cD]
 have hi1:=hi.same s1;have L1:=L.same s1;refine⟨Y,Y,q,r,_,s,rfl,hq,by rw[cD,lr];exact sl,by rw[cD,lr];lia,λp2 H2 Uu s2 f2=>?_⟩
 refine⟨Y,p2,iX rows s es,(s:Int),f,rfl,⟨_,Uu,?_⟩,B,Q,by rw[Gr sl];split <;> lia,λH3 s3=>?_⟩
 ·have z:=Pj (H:=H) (H':=H2) (s:=s) (al.mono λq' i' w'=>(w'.2.2).same s2) (hi1.same s2)
  have e':(rows.map aI).take s++[aI es]++(rows.map aI).drop (s+1)=(iX rows s es).map aI:=by
   unfold iX;rw[gG,gG,List.map_take,List.map_drop];rfl
  rw[e']at z;exact z
 have ye:=s1.trans (s2.trans s3);have L3:=L.same ye;refine⟨Y,x,d,Y,L3.hx,rfl,Y,Y,Y,pZ,λt ht=>⟨jS,λc hc=>?_⟩⟩;have s4:aL H3 (aP (aP H3 t (.tup [.int (s:Nat),.ref r])) c (.lst [.ref t])):=(ak ht _).trans (ak hc _);have ht4:(aP (aP H3 t (.tup [.int (s:Nat),.ref r])) c (.lst [.ref t])) t=some (.tup [.int (s:Nat),.ref r]):=ak hc _ _ _ af;have hc4:(aP (aP H3 t (.tup [.int (s:Nat),.ref r])) c (.lst [.ref t])) c=some (.lst ([t].map V.ref)):=af
 have nc:c≠bk:=λz=>by
  have:=ak ht (.tup [.int (s:Nat),.ref r]) _ _ L3.hb;rw[← z,hc]at this;cases this
 generalize aP (aP H3 t (.tup [.int (s:Nat),.ref r])) c (.lst [.ref t])=H4 at s4 ht4 hc4;have MD:=ye.trans s4;refine⟨S,x,d,wl,sh,bl,kn,du,bk,dS,st,op,j7 pe,ops,aF,dd,c,e,[t],[(s,aI es)],rows.map aI,rfl,L.same MD,de.same MD,ok,hc4,nc,.cons ⟨r,ht4,hi.same MD⟩ .nil,?_,hl',?_,(by show 1<=200;decide),by rw[cD];lia,Q,Q,λS' H' L' fr=>?_⟩
 ·intro a ha s' r' e';rw[List.mem_singleton.mp ha,ht4]at e';cases e';exact nrb
 ·intro i ch ei
  match i,ei with
  | 0,ei =>
   cases ei;show s<=(rows.map aI).length;rw[cD];exact sl
  | i+1,ei=>cases ei
 ·rw[Tg,Xl sl,lp]at L';refine k S' H' ?_ (fr.same MD)
  have ep:j7 (pe++[iX rows s es])=j7 pe++[(iX rows s es).map aI]:=by
   show (pe++[iX rows s es]).map _=_;rw[gG];rfl
  rw[ep];exact L'
class inductive Th(C CS:Addr)
 | mk (S:Addr->Prop) (x d wl sh bl kn du bk dS st op:Addr) (pe:iu) (ops:List Int) (aF:iY) (dd r:Addr) (e:jU) (es:List Int) (rows:cS) (_:vs=[.ref x,.ref dd,.ref r]) (_:iI C CS S H x d wl sh bl kn du bk dS st op (j7 pe) ops aF) (_:e.At H dd) (_:e.Ok) (_:bJ H (.ref r) (aI es)) (_:r≠bk) (_:pe.getLast?=some rows) (_:rows.length<=50) (_:pe.length<=900) (_:aF.length<=900) (_:rows.length<40) (_:((∃ f,nU (rows++[es]) f)/\∀ (S':Addr->Prop) (H':Hp),iI C CS S' H' x d wl sh bl kn du bk dS st op (j7 (pe++[rows++[es]])) (ops++[((pe.length:Nat):Int)]) (aF++[e.line])->Fr S S' bk H H'->Q (.int (rows.length:Nat)) H'))
theorem qt:aH ["self","deed","items","sheet"] ["self","deed","items"] (aA mE):=eO
theorem Gs(rows:cS)(es:List Int):iX rows rows.length es=rows++[es]:=by
 unfold iX;rw[gK,zg ∅,gE]
theorem ko{C:Addr}{S:Addr->Prop}{H:Hp}{x d wl sh bl du bk st:Addr}{pe:iu}{ops:List Int}{aF:iY}{rows:cS}(L:iI C CS S H x d wl sh bl kn du bk dS st op (j7 pe) ops aF)(hl:pe.getLast?=some rows):ops.length=rows.length:=by
 obtain⟨last,z1,z2⟩:=L.W.My.C1;rw[fF hl]at z1;cases z1;rw[z2,cD]
theorem xG:‹(6,53,["self","deed","items"],(Th C CS))›:=λD=>by
 obtain⟨D6,D7⟩:=D.G.s;specialize eV D.aaa.F qt;obtain⟨S,x,d,wl,sh,bl,kn,du,bk,dS,st,op,pe,ops,aF,dd,r,e,es,rows,rfl,L,de,ok,hi,nrb,hl,l1,l2,l3,lt,k2⟩:=h;have lo:=ko L hl;exists _,(aj (aW (i:=3) qt.nd (eU (pv 0) D.aS D.Z9 (yI D) hr bO)) (aj (bK (aT E3 (pv 3) (Dd (v:=.int 40) rfl D7 ⟨D6,rfl⟩) (bq _)) (au gO) aX) (aj (aY (cR (pv 0) D.aS D.FW (dR D) hr bO (aa (pv 1) (aa (pv 3) (aa (pv 2) ah))))) (au (aJ (pv 3))))));exists Y,x,d,Y,L.hx,rfl,S,x,d,wl,sh,bl,kn,du,bk,dS,st,op,j7 pe,ops,aF,rfl,L;rw[lo];refine⟨Y,Z,Y,cI (λc=>?_) (λc=>?_)⟩
 ·exact absurd (of_decide_eq_true c) ∅
 ·obtain⟨⟨f,B⟩,k3⟩:=k2;refine⟨Y,x,d,Y,L.hx,rfl,Y,Y,Y,S,x,d,wl,sh,bl,kn,du,bk,dS,st,op,pe,ops,aF,dd,r,e,rows.length,es,rows,f,rfl,L,de,ok,hi,nrb,hl,gg _,l1,l2,l3,by rw[Gs];exact B,λS' H' L' fr=>?_⟩;rw[Gs]at L';have eo:Pg ops rows.length rows.length pe.length=ops++[((pe.length:Nat):Int)]:=by unfold Pg;rw[if_pos rfl]
  rw[eo]at L';exact⟨Y,k3 S' H' L' fr⟩
abbrev frW:List Nat:=(Str.ofString "fresh").cps.toList
theorem Pk:(jU.plain frW []).Ok:=⟨by decide +kernel,λ_ z=>by cases z⟩
class inductive Ti(C CS:Addr)
 | mk (S:Addr->Prop) (x d wl sh bl kn du bk dS st op:Addr) (pe:iu) (ops:List Int) (aF:iY) (rows:cS) (_:vs=[.ref x]) (_:iI C CS S H x d wl sh bl kn du bk dS st op (j7 pe) ops aF) (_:pe.getLast?=some rows) (_:rows.length<=50) (_:pe.length<=900) (_:aF.length<=900) (_:rows.length<40) (_:((∃ f,nU (rows++[[]]) f)/\∀ (S':Addr->Prop) (H':Hp),iI C CS S' H' x d wl sh bl kn du bk dS st op (j7 (pe++[rows++[[]]])) (ops++[((pe.length:Nat):Int)]) (aF++[(jU.plain frW []).line])->Fr S S' bk H H'->Q (.int (rows.length:Nat)) H'))
theorem yJ:aH ["self"] ["self"] (aA mF):=eO
theorem xH:‹(7,54,["self"],(Ti C CS))›:=λD=>by
 specialize eV D.WE.F yJ;obtain⟨S,x,d,wl,sh,bl,kn,du,bk,dS,st,op,pe,ops,aF,rows,rfl,L,hl,l1,l2,l3,lt,k2⟩:=h;exists _,(au (aJ (cR (pv 0) D.aS D.aaa (xG D) hr bO (aa (cF (aa br ah)) (aa (bN ah) ah)))));refine⟨Y,x,d,Y,L.hx,rfl,jS,λt ht=>⟨iR,λr yh=>?_⟩⟩;have s1:aL H (aP (aP H t (.tup [.str "fresh"])) r (.lst [])):=(ak ht _).trans (ak yh _);have ht1:(aP (aP H t (.tup [.str "fresh"])) r (.lst [])) t=some (.tup [.str "fresh"]):=ak yh _ _ _ af;have hr1:(aP (aP H t (.tup [.str "fresh"])) r (.lst [])) r=some (.lst []):=af
 have nr:r≠bk:=λz=>by
  have:=ak ht (.tup [.str "fresh"]) _ _ L.hb;rw[← z,yh]at this;cases this
 generalize aP (aP H t (.tup [.str "fresh"])) r (.lst [])=H1 at s1 ht1 hr1;exists S,x,d,wl,sh,bl,kn,du,bk,dS,st,op,pe,ops,aF,t,r,.plain frW [],[],rows,rfl,L.same s1,by show H1 t=_;rw[ht1,uG];rfl,Pk,⟨r,[],rfl,hr1,.nil⟩,nr,hl,l1,l2,l3,lt;obtain⟨B,k3⟩:=k2;exact⟨B,λS' H' L' fr=>k3 S' H' L' (fr.same s1)⟩
theorem l5{H H1:Hp}{dw:Addr}{o:HO}(h1:H xw=none)(h2:H dw=none)(k:cJ xw (aP (aP H dw (.own xw)) xw o) H1):aL H H1:=λa ob e=>k a ob (by rw[aN (aB e h1),aN (aB e h2)];exact e) (aB e h1)
theorem Sh.kL{C:Addr}{S:Addr->Prop}{H H':Hp}{x d st:Addr}{bz:jL}{ops:List Int}{fs:List (Str × V)}(h:Sh C S H x d st op bz ops)(hl:H l=some (.ins C' d' fs))(nl:¬ S l)(k:cJ l H H'):Sh C S H' x d st op bz ops :=
 h.fr (λa ob e z=>k a ob e (λq=>nl (by rw[← q];exact z))) (λa xs e=>k _ _ e (dH e hl))
structure Seen(rows:cS)(sh:Int->List Int):Prop where
 es:∀ es∈rows,es.length<=1000
 sd:gr rows
 rk:DE rows
 ss:mZ rows sh
 ln:∀ x:Int,0<=x->x<rows.length->(sh x).length<=10000
class inductive Pn(C CS:Addr)
 | mk (S:Addr->Prop) (x d wl sh bl kn du bk dS st op:Addr) (pe:iu) (ops:List Int) (aF:iY) (rows:cS) (s:Int) (_:vs=[.ref x,.int s]) (_:iI C CS S H x d wl sh bl kn du bk dS st op (j7 pe) ops aF) (_:pe.getLast?=some rows) (_:rows.length<=50) (_:pe.length<=900) (_:lE rows.length s) (_:(∃ f,Seen rows f/\∀ (o:Addr) (H':Hp),cA H' o (cL (f s))->aL H H'->H o=none->Q (.ref o) H'))
theorem yK:aH ["self","sheet"] ["self","sheet"] (aA mG):=eO
theorem oV:‹(5,59,["self","sheet"],(Pn C CS))›:=λD=>by
 specialize eV D.WH.F yK;obtain⟨S,x,d,wl,sh,bl,kn,du,bk,dS,st,op,pe,ops,aF,rows,s,rfl,L,hl,l1,l2,ia,k2⟩:=h;have lo:=ko L hl;have lp:(j7 pe).length=pe.length:=cD _;have hl':=fF hl;exists _,(aj (aY (cR (cP (pv 0) rfl) D.bZ D.Ac (cG D) hr bO (aa (pv 1) ah))) (au (aJ (dX.rW D.IL (D.T.mX _ D.IL.m) (Aj D) hr (aa (eU (cP (pv 0) rfl) D.bZ D.DK (fE D) hr bO) (aa (pv 1) ah))))));refine⟨Y,x,C,d,_,.ref sh,rfl,L.hx,D.aS.cl,D.eZ,rfl,sh,dS,Y,L.W.hx,rfl,Y,S,sh,dS,st,op,j7 pe,ops,s,rfl,L.W,by rw[lo];exact ia,?_⟩;obtain⟨f0,sn,k3⟩:=k2;refine⟨Y,x,C,d,_,.ref sh,rfl,L.hx,D.aS.cl,D.eZ,rfl,sh,dS,Y,L.W.hx,rfl,S,sh,dS,st,op,j7 pe,ops,rfl,L.W,⟨Q,Q⟩,λQH el q H1 Po s1=>?_⟩;rw[hl']at el;cases el;obtain⟨fq,rs,hq,al⟩:=Po
 have hR:gp H1 q (rows.map aI):=by
  exists rs.map V.ref,hq
  have key:∀ {as:List Addr} {ds:List (List aR)},bU (λr aO=>H r=none/\r≠q/\bJ H1 (.ref r) aO) as ds->bU (bJ H1) (as.map V.ref) ds:=by
   intro as ds z
   induction z with
   | nil=>exact .nil
   | cons o t ih=>exact .cons o.2.2 ih
  exact key al
 exact⟨Y,q,rows,s,f0,rfl,hR,Q,sn.es,sn.sd,sn.rk,ia.1,ia.2,sn.ss,sn.ln,λo H2 ho s2 fo=>k3 o H2 ho (s1.trans s2) (bu s1 fo)⟩
theorem iI.fr{C:Addr}{S:Addr->Prop}{H H':Hp}{x d wl sh bl du bk st:Addr}{bz:jL}{ops:List Int}{aF:iY}(L:iI C CS S H x d wl sh bl kn du bk dS st op bz ops aF)(k:∀ a ob,H a=some ob->(S a\/a=bk\/a=x)->H' a=some ob)(t:∀ a xs,H a=some (.tup xs)->H' a=some (.tup xs)):iI C CS S H' x d wl sh bl kn du bk dS st op bz ops aF :=
 ⟨k _ _ L.hx (.inr (.inr rfl)),L.W.fr (λa ob e z=>k a ob e (.inl z)) t,k _ _ L.hb (.inr (.inl rfl)),L.nx,L.nb⟩
structure Bw(C CS CW CB:Addr)(U S SW:Addr->Prop)(H:Hp)(x d wl sh bl kn du bk dS st op dw sg ow pw db tb:Addr)(pe:iu)(ops:List Int)(aF:iY)(aK:gA)(nW:Nat)(bV:Row):Prop where
 L:iI C CS S H x d wl sh bl kn du bk dS st op (j7 pe) ops aF
 W:We CW SW H wl dw sg ow pw nW aK
 B:Bl CB H bl db tb
 R:cA H tb bV
 Xm:Ris bV
 dj:∀ a,SW a->¬ S a/\a≠bk/\a≠x
 db:¬ S bl/\¬ SW bl/\bl≠bk
 dt:¬ S tb/\¬ SW tb/\tb≠bk
 u:∀ a,U a↔S a\/SW a\/a=bk\/a=x\/a=bl\/a=tb
inductive qA(C CS CW CB:Addr)(U:Addr->Prop)(H:Hp)(x:Addr)(pe:iu)(aF:iY)(aK:gA)(nW:Nat)(bV:Row):Prop
 | mk (S SW:Addr->Prop) (d wl sh bl kn du bk dS st op dw sg ow pw db tb:Addr) (ops:List Int) (_:Bw C CS CW CB U S SW H x d wl sh bl kn du bk dS st op dw sg ow pw db tb pe ops aF aK nW bV)
def KP(U U':Addr->Prop)(H H':Hp):Prop:=(∀ a,U' a->U a\/H a=none)/\(∀ a ob,H a=some ob->¬ U a->H' a=some ob)/\∀ a xs,H a=some (.tup xs)->H' a=some (.tup xs)
theorem KP.pre{U U':Addr->Prop}{H0 H H':Hp}(s:aL H0 H)(f:KP U U' H H'):KP U U' H0 H':=⟨λa z=>(f.1 a z).imp id λy=>bu s y,λa ob e n=>f.2.1 a ob (s _ _ e) n,λa xs e=>f.2.2 a xs (s _ _ e)⟩
theorem Bw.fr{C:Addr}{U S SW:Addr->Prop}{H H':Hp}{x d wl sh bl du bk st dw pw db:Addr}{pe:iu}{ops:List Int}{aF:iY}{aK:gA}{nW:Nat}{bV:Row}(h:Bw C CS CW CB U S SW H x d wl sh bl kn du bk dS st op dw sg ow pw db tb pe ops aF aK nW bV)(k:∀ a ob,H a=some ob->U a->H' a=some ob)(t:∀ a xs,H a=some (.tup xs)->H' a=some (.tup xs)):Bw C CS CW CB U S SW H' x d wl sh bl kn du bk dS st op dw sg ow pw db tb pe ops aF aK nW bV:=by
 obtain⟨L,W,B,R,Xm,dj,db',dt,u⟩:=h;refine⟨L.fr (λa ob e z=>k a ob e ((u a).mpr ?_)) t,W.fr (λa ob e z=>k a ob e ((u a).mpr (.inr (.inl z)))) t,k _ _ B ((u _).mpr (.inr (.inr (.inr (.inr (.inl rfl)))))),R.two (λxs e=>k _ _ e ((u _).mpr (.inr (.inr (.inr (.inr (.inr rfl))))))) t,Xm,dj,db',dt,u⟩;rcases z with z|z|z
 ·exact .inl z
 ·exact .inr (.inr (.inl z))
 ·exact .inr (.inr (.inr (.inl z)))
theorem Bw.same{C:Addr}{U S SW:Addr->Prop}{H H':Hp}{x d wl sh bl du bk st dw pw db:Addr}{pe:iu}{ops:List Int}{aF:iY}{aK:gA}{nW:Nat}{bV:Row}(h:Bw C CS CW CB U S SW H x d wl sh bl kn du bk dS st op dw sg ow pw db tb pe ops aF aK nW bV)(s:aL H H'):Bw C CS CW CB U S SW H' x d wl sh bl kn du bk dS st op dw sg ow pw db tb pe ops aF aK nW bV:=h.fr (λa ob e _=>s a ob e) λa xs e=>s _ _ e
theorem qA.fr{C:Addr}{U:Addr->Prop}{H H':Hp}{x:Addr}{pe:iu}{aF:iY}{aK:gA}{nW:Nat}{bV:Row}(h:qA C CS CW CB U H x pe aF aK nW bV)(k:∀ a ob,H a=some ob->U a->H' a=some ob)(t:∀ a xs,H a=some (.tup xs)->H' a=some (.tup xs)):qA C CS CW CB U H' x pe aF aK nW bV:=by
 obtain⟨S,SW,d,wl,sh,bl,kn,du,bk,dS,st,op,dw,sg,ow,pw,db,tb,ops,z⟩:=h;exact⟨S,SW,d,wl,sh,bl,kn,du,bk,dS,st,op,dw,sg,ow,pw,db,tb,ops,z.fr k t⟩
theorem qA.same{C:Addr}{U:Addr->Prop}{H H':Hp}{x:Addr}{pe:iu}{aF:iY}{aK:gA}{nW:Nat}{bV:Row}(h:qA C CS CW CB U H x pe aF aK nW bV)(s:aL H H'):qA C CS CW CB U H' x pe aF aK nW bV:=h.fr (λa ob e _=>s a ob e) λa xs e=>s _ _ e
theorem Bw.nV{C:Addr}{U S S' SW:Addr->Prop}{H H':Hp}{x d wl sh bl du bk st dw pw db:Addr}{pe AA:iu}{ops Je:List Int}{aF dm:iY}{aK:gA}{nW:Nat}{bV:Row}(h:Bw C CS CW CB U S SW H x d wl sh bl kn du bk dS st op dw sg ow pw db tb pe ops aF aK nW bV)(L':iI C CS S' H' x d wl sh bl kn du bk dS st op (j7 AA) Je dm)(fr:Fr S S' bk H H'):∃ U',qA C CS CW CB U' H' x AA dm aK nW bV/\KP U U' H H':=by
 obtain⟨L,W,B,R,Xm,dj,db',dt,u⟩:=h;obtain⟨as,hR,_⟩:=id R
 have nS':∀ a ob,H a=some ob->¬ S a->¬ S' a:=λa ob e n z=>by
  rcases fr.1 a z with y|y
  ·exact n y
  ·rw[e]at y;cases y
 refine⟨λa=>S' a\/SW a\/a=bk\/a=x\/a=bl\/a=tb,⟨S',SW,d,wl,sh,bl,kn,du,bk,dS,st,op,dw,sg,ow,pw,db,tb,Je,L',W.fr (λa ob e z=>fr.2.1 _ _ e (dj a z).1 (dj a z).2.1) fr.2.2,fr.2.1 _ _ B db'.1 db'.2.2,R.two (λxs e=>fr.2.1 _ _ e dt.1 dt.2.2) fr.2.2,Xm,λa z=>?_,⟨nS' _ _ B db'.1,db'.2⟩,⟨nS' _ _ hR dt.1,dt.2⟩,λa=>Iff.rfl⟩,λa z=>?_,λa ob e n=>?_,fr.2.2⟩
 ·obtain⟨ob,e⟩:=W.al a z;exact⟨nS' _ _ e (dj a z).1,(dj a z).2⟩
 ·rcases z with z|z
  ·exact (fr.1 a z).imp (λy=>(u a).mpr (.inl y)) id
  ·exact .inl ((u a).mpr (.inr z))
 ·exact fr.2.1 a ob e (λz=>n ((u a).mpr (.inl z))) (λz=>n ((u a).mpr (.inr (.inr (.inl z)))))
class inductive Tj(C CS CW CB:Addr)
 | mk (U:Addr->Prop) (x:Addr) (pe:iu) (aF:iY) (aK:gA) (nW:Nat) (bV:Row) (h:Int) (cs:List Nat) (rows:cS) (_:vs=[.ref x,.int h,.str (eX cs)]) (_:qA C CS CW CB U H x pe aF aK nW bV) (_:vU h) (_:cs.length<=200) (_:aK.length<=90000) (_:nW<=900) (_:pe.getLast?=some rows) (_:rows.length<=50) (_:pe.length<=900) (_:aF.length<=900) (_ :
 ∀ (U':Addr->Prop) (q:Addr) (H':Hp),qA C CS CW CB U' H' x (pe++[rows]) (aF++[(jU.Bs h cs).line]) (aK++oH h cs) (nW+1) bV->KP U U' H H'->H' q=some (.tup [.int (aK.length:Nat),.int ((aK++oH h cs).length:Nat)])->Q (.ref q) H')
theorem qX:aH ["self","hand","text","stretch"] ["self","hand","text"] (aA oh):=eO
theorem yL:‹(4,57,["self","hand","text"],(Tj C CS CW CB))›:=λD=>by
 specialize eV D.WG.F qX;obtain⟨U,x,pe,aF,aK,nW,bV,h,cs,rows,rfl,⟨S,SW,d,wl,sh,bl,kn,du,bk,dS,st,op,dw,sg,ow,pw,db,tb,ops,LU⟩,fh,lc,li,ln,hl,l1,l2,l3,k⟩:=h;obtain⟨L,W,B,R,Xm,dj,db',dt,u⟩:=id LU;exists _,(aj (aW (i:=3) qX.nd (cR (cP (pv 0) rfl) D.iU D.Z5 (D0 D) hr bO (aa (pv 1) (aa (pv 2) ah)))) (aj (aY (cR (pv 0) D.aS D.WD (oU D) hr bO (aa (cF (aa br (aa (pv 1) (aa (pv 2) ah)))) (aa (bN ah) ah)))) (au (aJ (pv 3)))));refine⟨Y,x,C,d,_,.ref wl,rfl,L.hx,D.aS.cl,D.xY,rfl,wl,dw,Y,W.hx,rfl,Y,Y,SW,wl,dw,sg,ow,pw,nW,aK,h,cs,rfl,W,Q,Q,λXn q H1 W1 hq sub fr tp=>?_⟩
 have nSW:∀ a ob,H a=some ob->¬ SW a->¬ Xn a:=λa ob e n z=>by
  rcases sub a z with y|y
  ·exact n y
  ·rw[e]at y;cases y
 have nk1:∀ a ob,H a=some ob->(S a\/a=bk\/a=x)->¬ SW a:=λa ob e z y=>by
  obtain⟨y1,y2,y3⟩:=dj a y;rcases z with z|z|z
  ·exact y1 z
  ·exact y2 z
  ·exact y3 z
 have L1:iI C CS S H1 x d wl sh bl kn du bk dS st op (j7 pe) ops aF:=L.fr (λa ob e z=>fr _ _ e (nk1 a ob e z)) tp;obtain⟨as,hR,_⟩:=id R
 have LU1:Bw C CS CW CB (λa=>S a\/Xn a\/a=bk\/a=x\/a=bl\/a=tb) S Xn H1 x d wl sh bl kn du bk dS st op dw sg ow pw db tb pe ops aF (aK++oH h cs) (nW+1) bV:=by
  refine⟨L1,W1,fr _ _ B db'.2.1,R.two (λxs e=>fr _ _ e dt.2.1) tp,Xm,λa z=>?_,⟨db'.1,nSW _ _ B db'.2.1,db'.2.2⟩,⟨dt.1,nSW _ _ hR dt.2.1,dt.2.2⟩,λa=>Iff.rfl⟩;rcases sub a z with y|y
  ·exact dj a y
  ·refine⟨λq'=>?_,λq'=>?_,λq'=>?_⟩
   ·obtain⟨ob,e⟩:=L.W.al a q';rw[y]at e;cases e
   ·rw[q',L.hb]at y;cases y
   ·rw[q',L.hx]at y;cases y
 refine⟨Y,x,d,Y,L1.hx,rfl,Y,Y,DH,λt ht=>⟨iR,λc hc=>?_⟩⟩;have s2:aL H1 (aP (aP H1 t (.tup [.str "pour",.int h,.str (eX cs)])) c (.lst [])):=(ak ht _).trans (ak hc _);have IB:(aP (aP H1 t (.tup [.str "pour",.int h,.str (eX cs)])) c (.lst [])) t=some (.tup [.str "pour",.int h,.str (eX cs)]):=ak hc _ _ _ af;have Xb:(aP (aP H1 t (.tup [.str "pour",.int h,.str (eX cs)])) c (.lst [])) c=some (.lst (([]:List Addr).map V.ref)):=af
 have nc:c≠bk:=λz=>by
  have:=ak ht (.tup [.str "pour",.int h,.str (eX cs)]) _ _ L1.hb;rw[← z,hc]at this;cases this
 generalize aP (aP H1 t (.tup [.str "pour",.int h,.str (eX cs)])) c (.lst [])=H2 at s2 IB Xb;have lp:(j7 pe).length=pe.length:=cD _;have C3:=LU1.same s2;refine⟨S,x,d,wl,sh,bl,kn,du,bk,dS,st,op,j7 pe,ops,aF,t,c,.Bs h cs,[],[],rows.map aI,rfl,C3.L,IB,⟨fh,lc⟩,Xb,nc,.nil,(λ_ z=>by cases z),fF hl,(λi ch e=>by cases e),(by show 0<=200;decide),by rw[cD];lia,Q,Q,λS' H3 L3 fr3=>?_⟩
 have ep:j7 pe++[qf (rows.map aI) []]=j7 (pe++[rows]):=by
  show _=(pe++[rows]).map _;rw[gG];rfl
 have eo:ops++List.replicate ((qf (rows.map aI) []).length-(rows.map aI).length) (((j7 pe).length:Nat):Int)=ops:=by
  show ops++List.replicate ((rows.map aI).length-(rows.map aI).length) _=ops;rw[Nat.sub_self];exact gE _
 rw[ep,eo]at L3;obtain⟨U',hL',f'⟩:=C3.nV L3 fr3;refine⟨Y,k U' q H3 hL' ⟨λa z=>?_,λa ob e n=>?_,λa xs e=>f'.2.2 _ _ (s2 _ _ (tp _ _ e))⟩ (f'.2.2 _ _ (s2 _ _ hq))⟩
 ·rcases f'.1 a z with y|y
  ·rcases y with y|y|y
   ·exact .inl ((u a).mpr (.inl y))
   ·exact (sub a y).imp (λw=>(u a).mpr (.inr (.inl w))) id
   ·exact .inl ((u a).mpr (.inr (.inr y)))
  ·have y1:=bu s2 y
   cases e:H a with
   | none=>exact .inr rfl
   | some ob =>
    by_cases z2:SW a
    ·exact .inl ((u a).mpr (.inr (.inl z2)))
    ·rw[fr _ _ e z2]at y1;cases y1
 ·have n1:¬ SW a:=λz=>n ((u a).mpr (.inr (.inl z)));refine f'.2.1 a ob (s2 _ _ (fr _ _ e n1)) λz=>?_;rcases z with z|z|z
  ·exact n ((u a).mpr (.inl z))
  ·exact nSW _ _ e n1 z
  ·exact n ((u a).mpr (.inr (.inr z)))
class inductive Gu(C CS CW CB:Addr)
 | mk (U:Addr->Prop) (x:Addr) (pe:iu) (aF:iY) (aK:gA) (nW:Nat) (bV:Row) (_:vs=[.ref x]) (_:qA C CS CW CB U H x pe aF aK nW bV) (_:Q (.int (aK.length:Nat)) H)
class inductive Gv(C CS CW CB:Addr)
 | mk (U:Addr->Prop) (x r:Addr) (pe:iu) (aF:iY) (aK:gA) (nW:Nat) (bV row:Row) (_:vs=[.ref x,.ref r]) (_:qA C CS CW CB U H x pe aF aK nW bV) (_:cA H r row) (_:row.length<=1000) (_:uP aK.length row=true) (_:∀ H',aL H H'->Q .fH H')
theorem Bx:aH ["self"] ["self"] (aA pM):=eO
theorem qY:aH ["self","row"] ["self","row"] (aA iM):=eO
theorem AB:‹(2,55,["self"],(Gu C CS CW CB))›:=λD=>by
 specialize eV D.ad5.F Bx;obtain⟨U,x,pe,aF,aK,nW,bV,rfl,⟨S,SW,d,wl,sh,bl,kn,du,bk,dS,st,op,dw,sg,ow,pw,db,tb,ops,LU⟩,k⟩:=h;exists _,(au (aJ (eU (cP (pv 0) rfl) D.iU D.L0 (jN D) hr bO)));exact⟨Y,x,C,d,_,.ref wl,rfl,LU.L.hx,D.aS.cl,D.xY,rfl,wl,dw,Y,LU.W.hx,rfl,wl,dw,sg,ow,pw,aK,rfl,LU.W.hx,LU.W.hs,k⟩
theorem qB:‹(3,56,["self","row"],(Gv C CS CW CB))›:=λD=>by
 have Tn:bf P w K mg zt cM 2 _ _ Hw (Gu C CS CW CB):=AB D;specialize eV D.aab.F qY;obtain⟨U,x,r,pe,aF,aK,nW,bV,row,rfl,LB,hr1,lr,g,k1⟩:=h;obtain⟨S,SW,d,wl,sh,bl,kn,du,bk,dS,st,op,dw,sg,ow,pw,db,tb,ops,LU⟩:=id LB;exists _,(au (bK (iK (jZ (cR (cP (pv 0) rfl) D.iU D.Z6 (Bv D) hr bO (aa (pv 1) ah)))) (au gO) aX));refine⟨Y,x,C,d,_,.ref wl,rfl,LU.L.hx,D.aS.cl,D.xY,rfl,wl,dw,Y,LU.W.hx,rfl,Y,SW,wl,dw,sg,ow,pw,r,nW,aK,row,rfl,LU.W,hr1,lr,λH1 s1=>⟨Y,?_⟩⟩;rw[g];exact eY (k1 H1 s1)
abbrev ptW:List Nat:=(Str.ofString "put").cps.toList
class inductive To(C CS CW CB:Addr)
 | mk (U:Addr->Prop) (x r:Addr) (pe:iu) (aF:iY) (aK:gA) (nW:Nat) (bV row:Row) (s p:Int) (rows:cS) (_:vs=[.ref x,.int s,.int p,.ref r]) (_:qA C CS CW CB U H x pe aF aK nW bV) (_:cA H r row) (_:O1 row) (_:aK.length<=100000) (_:pe.getLast?=some rows) (_:rows.length<=50) (_:pe.length<=900) (_:aF.length<=900) (_:lR s) (_:lR p) (_:lE rows.length s) (_:uP aK.length row=true) (_:(∃ sh,Seen rows sh/\(0<=p/\p<=(sh s).length)/\((∀ es,rows[s.toNat]?=some es->(∃ f,nU (iX rows s.toNat (fP sh p es (dD (cO (cz row))))) f)/\
  ∀ (U':Addr->Prop) (H':Hp),qA C CS CW CB U' H' x (pe++[iX rows s.toNat (fP sh p es (dD (cO (cz row))))]) (aF++[(jU.tM ptW [s,p] row).line]) aK nW bV->KP U U' H H'->Q .fH H'))))
theorem tN:aH ["self","sheet","place","row","items"] ["self","sheet","place","row"] (aA pN):=eO
theorem C4(ns:List Int):jc (cL ns)=(ns.length:Int):=by rw[← rR _ (mS _),eL]
theorem ME{n:Nat}{row:Row}(h:uP n row=true):∀ p∈row,0<=p.1/\p.1<p.2/\p.2<=n:=λp hp=>by
 have z:=List.all_eq_true.mp h p hp;unfold QG at z;simpa [and_assoc] using z
theorem lR.big{s:Int}(h:lR s):s<10^60:=by
 obtain⟨_,h1⟩:=h;lia
theorem AD:‹(6,58,["self","sheet","place","row"],(To C CS CW CB))›:=λD=>by
 refine eV D.aac.F tN λcN A zn s0 H vs Q E hr h=>?_;obtain⟨U,x,r,pe,aF,aK,nW,bV,row,s,p,rows,rfl,LB,hr1,fr,li,hl,l1,l2,l3,fs,fp,ia,g,k2⟩:=h;obtain⟨S,SW,d,wl,sh,bl,kn,du,bk,dS,st,op,dw,sg,ow,pw,db,tb,ops,LU⟩:=id LB;have lo:=ko LU.L hl;have hl':=fF hl;have lp:(j7 pe).length=pe.length:=cD _;exists _,(aj (aY (aG D.X8 (gD D) hr (aa (cR (pv 0) D.aS D.WH (oV D) hr bO (aa (pv 1) ah)) (aa (pv 2) (aa (pv 2) ah))))) (aj (aY (cR (pv 0) D.aS D.aab (qB D) hr bO (aa (pv 3) ah))) (aj (aW (i:=4) tN.nd (aG D.Se (qe D) hr (aa (eU (cP (pv 0) rfl) D.bZ D.DK (fE D) hr bO) (aa (pv 1) (aa (pv 2) (aa (aG D.FU (m6 D) hr (aa (pv 3) ah)) ah)))))) (au (aY (cR (pv 0) D.aS D.FW (dR D) hr bO (aa (cF (aa br (aa (pv 1) (aa (pv 2) (aa (pv 3) ah))))) (aa (pv 1) (aa (pv 4) ah)))))))));exists Y,x,d,Y,LU.L.hx,rfl,Y,S,x,d,wl,sh,bl,kn,du,bk,dS,st,op,pe,ops,aF,rows,s,rfl,LU.L,hl,l1,l2,ia;obtain⟨f0,sn,hpp,k6⟩:=k2;have ls:(f0 s).length<=10000:=sn.ln s ia.1 ia.2;have lr0:=lY (f0 s);refine⟨f0,sn,λo H1 ho s1 fo=>?_⟩;have z:M0 p p (jc (cL (f0 s))):=by rw[C4];exact⟨hpp.1,Int.le_refl _,hpp.2⟩
 refine⟨Y,Y,o,cL (f0 s),p,p,rfl,ho,Q,z,λH2 s2=>?_⟩;have lI:=s1.trans s2;have C3:=LU.same lI;have KC:=hr1.same lI;refine⟨Y,x,d,Y,C3.L.hx,rfl,Y,U,x,r,pe,aF,aK,nW,bV,row,rfl,LB.same lI,KC,by have:=fr.1;lia,g,λH3 s3=>?_⟩;have ye:=lI.trans s3;have Tp:=LU.same ye;have IP:=hr1.same ye;have hp:=ME g;have sl:s.toNat<rows.length:=by have:=ia.1;have:=ia.2;lia
 obtain⟨es,es1⟩:∃ es,rows[s.toNat]?=some es:=⟨_,sF sl⟩;obtain⟨⟨fB,B⟩,k7⟩:=k6 _ es1;refine⟨Y,x,C,d,_,.ref sh,rfl,Tp.L.hx,D.aS.cl,D.eZ,rfl,sh,dS,Y,Tp.L.W.hx,rfl,S,sh,dS,st,op,j7 pe,ops,rfl,Tp.L.W,⟨Q,Q⟩,λQH el q H4 fs4 s4=>?_⟩;rw[hl']at el;cases el;obtain⟨fq,rs,hq,al⟩:=fs4
 have hR:gp H4 q (rows.map aI):=by
  exists rs.map V.ref,hq
  have key:∀ {as:List Addr} {ds:List (List aR)},bU (λr aO=>H3 r=none/\r≠q/\bJ H4 (.ref r) aO) as ds->bU (bJ H4) (as.map V.ref) ds:=by
   intro as ds z
   induction z with
   | nil=>exact .nil
   | cons o t ih=>exact .cons o.2.2 ih
  exact key al
 have hr4:=IP.same s4;refine⟨Y,Y,Y,r,row,rfl,hr4,by have:=fr.1;lia,λoi H5 hoi s5 foi=>?_⟩;have nn:lK row:=λp' Uw=>⟨(hp p' Uw).1,by have:=(hp p' Uw).2.1;lia⟩;refine⟨q,oi,rows,s,p,_,f0,rfl,⟨hR.same s5,Q,sn.es,sn.sd,sn.rk,sn.ss,sn.ln⟩,ia.1,ia.2,hoi,vN (oQ nn),?_,hpp,λes q2 H6 oJ d9 s6 Pp=>?_⟩
 ·unfold cO;rw[cD];have:=lV row;have:=fr.1;lia
 rw[es1]at oJ;cases oJ;have UQ:aL H H6:=ye.trans (s4.trans (s5.trans s6));have Pq:=LU.same UQ
 have Pr:q2≠bk:=λe=>by
  have y:=(LU.same (ye.trans (s4.trans s5))).L.hb;rw[← e,Pp]at y;cases y
 refine⟨Y,x,d,Y,Pq.L.hx,rfl,Y,Y,Y,DJ,λt ht=>?_⟩;have s7:=ak ht (.tup [.str "put",.int s,.int p,.ref r]);have ht7:(aP H6 t (.tup [.str "put",.int s,.int p,.ref r])) t=some (.tup [.str "put",.int s,.int p,.ref r]):=af;generalize aP H6 t (.tup [.str "put",.int s,.int p,.ref r])=H7 at s7 ht7;have s17:=UQ.trans s7;have LU7:=LU.same s17;have ss:((s.toNat:Nat):Int)=s:=by have:=ia.1;lia
 refine⟨Y,Y,S,x,d,wl,sh,bl,kn,du,bk,dS,st,op,pe,ops,aF,t,q2,.tM ptW [s,p] row,s.toNat,_,rows,fB,by rw[ss];rfl,LU7.L,⟨r,by rw[ht7,uG];rfl,hr1.same s17⟩,⟨(by show m9 AHD ptW=some 2;decide +kernel),?_,fr⟩,d9.same s7,Pr,hl,by have:=ia.2;have:=ia.1;lia,l1,l2,l3,B,λS' H8 L8 Fi=>?_⟩
 ·intro y hy;have b1:=ia.1;have b2:=hpp.1;rcases List.mem_cons.mp hy with e|e
  ·rw[e];exact⟨b1,fs.big⟩
  ·rw[List.mem_singleton.mp e];exact⟨b2,fp.big⟩
 ·obtain⟨U',hL',f'⟩:=LU7.nV L8 Fi;exact k7 U' H8 hL' (f'.pre s17)
theorem We.kL{C:Addr}{S:Addr->Prop}{H H':Hp}{x d s o p:Addr}{n:Nat}{aK:gA}{fs:List (Str × V)}(h:We C S H x d s o p n aK)(hl:H l=some (.ins C' d' fs))(nl:¬ S l)(k:cJ l H H'):We C S H' x d s o p n aK :=
 h.fr (λa ob e z=>k a ob e (λq=>nl (by rw[← q];exact z))) (λa xs e=>k _ _ e (dH e hl))
theorem cA.kL{H H':Hp}{r:Addr}{row:Row}{fs:List (Str × V)}(h:cA H r row)(hl:H l=some (.ins C' d' fs))(k:cJ l H H'):cA H' r row :=
 h.two (λxs e=>k _ _ e (dH e hl)) (λa xs e=>k _ _ e (dH e hl))
theorem oW{H:Hp}{dw a:Addr}{o:HO}(e:(aP (aP H dw (.own xw)) xw o) a=none):H a=none:=by
 by_cases z1:a=xw
 ·rw[z1,af]at e;cases e
 rw[aN z1]at e;by_cases z2:a=dw
 ·rw[z2,af]at e;cases e
 rw[aN z2]at e;exact e
class inductive C5(C CS CW CB:Addr)
 | mk (x d:Addr) (_:vs=[.ref x]) (_:H x=some (.ins C d [])) (_: ∀ (U:Addr->Prop) (H':Hp),qA C CS CW CB U H' x [[]] [] [] 0 []->(∀ a,U a->a=x\/H a=none)->cJ x H H'->Q .fH H')
theorem uQ:aH ["self"] ["self"] (aA jC):=eO
theorem sM:‹(3,49,["self"],(C5 C CS CW CB))›:=λD=>by
 specialize eV D.Z8.F uQ;obtain⟨x,d,rfl,hx,k⟩:=h;refine⟨_,(aj (jf (pv 0) (oM D.iU.X4 (xE D) (hr.mono (by decide)) rfl D.iU.m D.Z4.b .nil bO) rfl) (aj (jf (pv 0) (oM D.bZ.X4 (vW D) (hr.mono (by decide)) rfl D.bZ.m D.Z0.b .nil bO) rfl) (aj (jf (pv 0) (oM D.uJ.X4 (vI D) (hr.mono (by decide)) rfl D.uJ.m D.dq9.b .nil bO) rfl) (aj (jf (pv 0) (oM D.CL.X4 (xC D) (hr.mono (by decide)) rfl D.CL.m D.Z2.b .nil bO) rfl) (aj (jf (pv 0) (oM D.FT.X4 (xB D) (hr.mono (by decide)) rfl D.FT.m D.Z3.b .nil bO) rfl) (au (jf (pv 0) (bN ah) rfl))))))),?_⟩;intro wl dw hw1 hw2 _;refine⟨wl,dw,rfl,af,λsg ow pw H1 V1 k1 fsg fow fpw=>⟨rfl,?_⟩⟩;have s1:=l5 hw1 hw2 k1
 have fW:∀ a,(a=wl\/a=sg\/a=ow\/a=pw)->H a=none:=λa e=>by
  rcases e with rfl|rfl|rfl|rfl
  ·exact hw1
  ·exact oW fsg
  ·exact oW fow
  ·exact oW fpw
 have Xo:¬ (x=wl\/x=sg\/x=ow\/x=pw):=λe=>by
  have:=fW x e;rw[hx]at this;cases this
 exists Y,x,C,d,Y,s1 _ _ hx,D.aS.cl,D.xY,E;have q2:cJ x H (aP H1 x (.ins C d (L2.d8 "well" (.ref wl) []))):=cJ.trans (gv.aL.keep s1) (aM x _ _);have x2:(aP H1 x (.ins C d (L2.d8 "well" (.ref wl) []))) x=some (.ins C d [("well",.ref wl)]):=af;have kx2:cJ x H1 (aP H1 x (.ins C d (L2.d8 "well" (.ref wl) []))):=aM x _ _;generalize aP H1 x (.ins C d (L2.d8 "well" (.ref wl) []))=H2 at q2 x2 kx2;have V2:=V1.kL (s1 _ _ hx) Xo kx2;intro sh dS Xg Hl _;refine⟨sh,dS,rfl,af,λst op z H3 W3 k3 fst fop fz=>⟨rfl,?_⟩⟩;have s3:=l5 Xg Hl k3
 have up:∀ a,(aP (aP H2 dS (.own sh)) sh (.ins CS dS [])) a=none->H2 a=none:=λa e=>by
  by_cases z1:a=sh
  ·rw[z1,af]at e;cases e
  rw[aN z1]at e;by_cases z2:a=dS
  ·rw[z2,af]at e;cases e
  rw[aN z2]at e;exact e
 have fS:∀ a,(a=sh\/a=st\/a=op\/a=z)->H2 a=none:=λa e=>by
  rcases e with rfl|rfl|rfl|rfl
  ·exact Xg
  ·exact up _ fst
  ·exact up _ fop
  ·exact up _ fz
 have Xp:¬ (x=sh\/x=st\/x=op\/x=z):=λe=>by
  have:=fS x e;rw[x2]at this;cases this
 have x3:=s3 _ _ x2;have V3:=V2.same s3;refine⟨Y,x,C,d,Y,x3,D.aS.cl,D.eZ,(by show 1<1000;decide),?_⟩;have k4:cJ x H3 (aP H3 x (.ins C d (L2.d8 "shelf" (.ref sh) [("well",.ref wl)]))):=aM x _ _;have x4:(aP H3 x (.ins C d (L2.d8 "shelf" (.ref sh) [("well",.ref wl)]))) x=some (.ins C d [("well",.ref wl),("shelf",.ref sh)]):=af;generalize aP H3 x (.ins C d (L2.d8 "shelf" (.ref sh) [("well",.ref wl)]))=H4 at k4 x4;have W4:=W3.kL x3 Xp k4;have V4:=V3.kL x3 Xo k4;have q4:cJ x H H4:=(q2.trans (gv.aL.keep s3)).trans k4;intro bl db KA Xa _;refine⟨bl,db,rfl,af,λtb H5 B5 R5 k5 ftb=>⟨rfl,?_⟩⟩;have s5:=l5 KA Xa k5;have Xq:=oW ftb;have x5:=s5 _ _ x4;have W5:=W4.same s5;have V5:=V4.same s5;have Pu:bl≠x:=(aB x4 KA).symm;refine⟨Y,x,C,d,Y,x5,D.aS.cl,D.zE,(by show 2<1000;decide),?_⟩;have k6:cJ x H5 (aP H5 x (.ins C d (L2.d8 "blots" (.ref bl) [("well",.ref wl),("shelf",.ref sh)]))):=aM x _ _;have x6:(aP H5 x (.ins C d (L2.d8 "blots" (.ref bl) [("well",.ref wl),("shelf",.ref sh)]))) x=some (.ins C d [("well",.ref wl),("shelf",.ref sh),("blots",.ref bl)]):=af;generalize aP H5 x (.ins C d (L2.d8 "blots" (.ref bl) [("well",.ref wl),("shelf",.ref sh)]))=H6 at k6 x6;have W6:=W5.kL x5 Xp k6;have V6:=V5.kL x5 Xo k6;have B6:Bl CB H6 bl db tb:=k6 _ _ B5 Pu;have R6:=R5.kL x5 k6;have q6:cJ x H H6:=(q4.trans (gv.aL.keep s5)).trans k6;intro kn dk hk1 hk2 _;refine⟨kn,dk,rfl,af,λfs7 H7 _ k7=>⟨rfl,?_⟩⟩;have s7:=l5 hk1 hk2 k7;have x7:=s7 _ _ x6;have W7:=W6.same s7;have V7:=V6.same s7;have B7:Bl CB H7 bl db tb:=s7 _ _ B6;have R7:=R6.same s7;refine⟨Y,x,C,d,Y,x7,D.aS.cl,D.Dv,(by show 3<1000;decide),?_⟩;have k8:cJ x H7 (aP H7 x (.ins C d (L2.d8 "knots" (.ref kn) [("well",.ref wl),("shelf",.ref sh),("blots",.ref bl)]))):=aM x _ _;have x8:(aP H7 x (.ins C d (L2.d8 "knots" (.ref kn) [("well",.ref wl),("shelf",.ref sh),("blots",.ref bl)]))) x=some (.ins C d [("well",.ref wl),("shelf",.ref sh),("blots",.ref bl),("knots",.ref kn)]):=af;generalize aP H7 x (.ins C d (L2.d8 "knots" (.ref kn) [("well",.ref wl),("shelf",.ref sh),("blots",.ref bl)]))=H8 at k8 x8;have W8:=W7.kL x7 Xp k8;have V8:=V7.kL x7 Xo k8;have B8:Bl CB H8 bl db tb:=k8 _ _ B7 Pu;have R8:=R7.kL x7 k8;have q8:cJ x H H8:=(q6.trans (gv.aL.keep s7)).trans k8;intro du dd LQ hd2 _;refine⟨du,dd,rfl,af,λfs9 H9 _ k9=>⟨rfl,?_⟩⟩;have s9:=l5 LQ hd2 k9;have x9:=s9 _ _ x8;have W9:=W8.same s9;have V9:=V8.same s9;have B9:Bl CB H9 bl db tb:=s9 _ _ B8;have R9:=R8.same s9;refine⟨Y,x,C,d,Y,x9,D.aS.cl,D.J9,(by show 4<1000;decide),?_⟩;have Yj:cJ x H9 (aP H9 x (.ins C d (L2.d8 "dues" (.ref du) [("well",.ref wl),("shelf",.ref sh),("blots",.ref bl),("knots",.ref kn)]))):=aM x _ _;have Yk:(aP H9 x (.ins C d (L2.d8 "dues" (.ref du) [("well",.ref wl),("shelf",.ref sh),("blots",.ref bl),("knots",.ref kn)]))) x=some (.ins C d [("well",.ref wl),("shelf",.ref sh),("blots",.ref bl),("knots",.ref kn),("dues",.ref du)]):=af;generalize aP H9 x (.ins C d (L2.d8 "dues" (.ref du) [("well",.ref wl),("shelf",.ref sh),("blots",.ref bl),("knots",.ref kn)]))=MZ at Yj Yk;have W10:=W9.kL x9 Xp Yj;have V10:=V9.kL x9 Xo Yj;have B10:Bl CB MZ bl db tb:=Yj _ _ B9 Pu;have R10:=R9.kL x9 Yj;have Cg:cJ x H MZ:=(q8.trans (gv.aL.keep s9)).trans Yj;refine⟨iR,λbk UR=>⟨Y,x,C,d,Y,ak UR _ _ _ Yk,D.aS.cl,D.E9,(by show 5<1000;decide),?_⟩⟩;have nbx:bk≠x:=(aB Yk UR).symm
 have nSb:¬ (bk=sh\/bk=st\/bk=op\/bk=z):=λe=>by
  obtain⟨ob,w⟩:=W10.al bk e;rw[UR]at w;cases w
 have wj:=ak UR (.lst []);have k12:cJ x (aP MZ bk (.lst [])) (aP (aP MZ bk (.lst [])) x (.ins C d (L2.d8 "book" (.ref bk) [("well",.ref wl),("shelf",.ref sh),("blots",.ref bl),("knots",.ref kn),("dues",.ref du)]))):=aM x _ _;have W12:=(W10.same wj).kL (wj _ _ Yk) Xp k12;have V12:=(V10.same wj).kL (wj _ _ Yk) Xo k12;have B12:=k12 _ _ (wj _ _ B10) Pu;have R12:=(R10.same wj).kL (wj _ _ Yk) k12;obtain⟨as5,hR5,_⟩:=id R5;have abe:∀ a,(a=sh\/a=st\/a=op\/a=z)->a=x\/H a=none:=λa e=>.inr (iC q2 (λe'=>by rw[e']at e;exact Xp e) (fS a e));refine k (λa=>(a=sh\/a=st\/a=op\/a=z)\/(a=wl\/a=sg\/a=ow\/a=pw)\/a=bk\/a=x\/a=bl\/a=tb) _ ⟨P,d,wl,sh,bl,kn,du,bk,dS,st,op,dw,sg,ow,pw,db,tb,[],⟨af,W12,?_,Xp,nSb⟩,V12,B12,R12,?_,?_,?_,?_,λa=>Iff.rfl⟩ ?_ ((Cg.trans (gv.aL.keep wj)).trans k12)
 ·rw[aN nbx];exact af
 ·exact⟨.nil,λ_ z=>by cases z⟩
 ·intro a ea;obtain⟨ob,hob⟩:=V2.al a ea;refine⟨λes=>?_,λeb=>?_,λex=>?_⟩
  ·rw[fS a es]at hob;cases hob
  ·obtain⟨ob',w⟩:=V10.al a ea;rw[eb,UR]at w;cases w
  ·rw[ex]at ea;exact Xo ea
 ·refine⟨λes=>?_,λew=>?_,λeb=>?_⟩
  ·obtain⟨ob,w⟩:=W4.al bl es;rw[KA]at w;cases w
  ·obtain⟨ob,w⟩:=V4.al bl ew;rw[KA]at w;cases w
  ·rw[eb]at B10;have abf:MZ bk=some _:=B10;rw[UR]at abf;cases abf
 ·refine⟨λes=>?_,λew=>?_,λeb=>?_⟩
  ·obtain⟨ob,w⟩:=W4.al tb es;rw[Xq]at w;cases w
  ·obtain⟨ob,w⟩:=V4.al tb ew;rw[Xq]at w;cases w
  ·obtain⟨as,hR,_⟩:=id R10;rw[eb,UR]at hR;cases hR
 ·intro a ea;rcases ea with ea|ea|ea|ea|ea|ea
  ·exact abe a ea
  ·exact .inr (fW a ea)
  ·rw[ea];exact .inr (iC Cg nbx UR)
  ·exact .inl ea
  ·rw[ea];exact .inr (iC q4 Pu KA)
  ·by_cases ex:a=x
   ·exact .inl ex
   ·rw[ea]at ex ⊢;exact .inr (iC q4 ex Xq)
theorem SR.at_{H H':Hp}{q:Addr}{rows:List (List aR)}(h:SR H H' q rows):gp H' q rows:=by
 obtain⟨_,rs,hq,al⟩:=h;exists rs.map V.ref,hq
 have key:∀ {as:List Addr} {ds:List (List aR)},bU (λr aO=>H r=none/\r≠q/\bJ H' (.ref r) aO) as ds->bU (bJ H') (as.map V.ref) ds:=by
  intro as ds z
  induction z with
  | nil=>exact .nil
  | cons o t ih=>exact .cons o.2.2 ih
 exact key al
abbrev ctW:List Nat:=(Str.ofString "cut").cps.toList
abbrev qtW:List Nat:=(Str.ofString "quote").cps.toList
class inductive Tq(C CS CW CB:Addr)
 | mk (U:Addr->Prop) (x:Addr) (pe:iu) (aF:iY) (aK:gA) (nW:Nat) (bV:Row) (s a b:Int) (rows:cS) (_:vs=[.ref x,.int s,.int a,.int b]) (_:qA C CS CW CB U H x pe aF aK nW bV) (_:pe.getLast?=some rows) (_:rows.length<=50) (_:pe.length<=900) (_:aF.length<=900) (_:lR s) (_:lR a) (_:lR b)
  (_:lE rows.length s) (_:∃ sh,Seen rows sh/\M0 a b (sh s).length/\(∀ es,rows[s.toNat]?=some es->(∃ f,nU (iX rows s.toNat (bS sh a b es)) f)/\
  ∀ (U':Addr->Prop) (H':Hp),qA C CS CW CB U' H' x (pe++[iX rows s.toNat (bS sh a b es)]) (aF++[(jU.plain ctW [s,a,b]).line]) aK nW bV->KP U U' H H'->Q .fH H'))
class inductive MF(C CS CW CB:Addr)
 | mk (U:Addr->Prop) (x:Addr) (pe:iu) (aF:iY) (aK:gA) (nW:Nat) (bV:Row) (t p s a b:Int) (rows:cS) (_:vs=[.ref x,.int t,.int p,.int s,.int a,.int b]) (_:qA C CS CW CB U H x pe aF aK nW bV) (_:pe.getLast?=some rows) (_:rows.length<=50) (_:pe.length<=900) (_:aF.length<=900) (_:lR t) (_:lR p) (_:lR s) (_:lR a) (_:lR b)
  (_:lE rows.length t) (_:lE rows.length s) (_:(∃ sh,Seen rows sh/\M0 a b (sh s).length/\((0<=p/\p<=(sh t).length)/\(∀ es,rows[t.toNat]?=some es->(∃ f,nU (iX rows t.toNat (fP sh p es (((sh s).take b.toNat).drop a.toNat))) f)/\
  ∀ (U':Addr->Prop) (H':Hp),qA C CS CW CB U' H' x (pe++[iX rows t.toNat (fP sh p es (((sh s).take b.toNat).drop a.toNat))]) (aF++[(jU.plain qtW [t,p,s,a,b]).line]) aK nW bV->KP U U' H H'->Q .fH H'))))
theorem tO:aH ["self","sheet","start","stop","items"] ["self","sheet","start","stop"] (aA pO):=eO
theorem AE:‹(6,60,["self","sheet","start","stop"],(Tq C CS CW CB))›:=λD=>by
 refine eV D.aad.F tO λcN A zn s0 H vs Q E hr h=>?_;obtain⟨U,x,pe,aF,aK,nW,bV,s,a,b,rows,rfl,LB,hl,l1,l2,l3,fs,fa,fb,ia,k2⟩:=h;obtain⟨S,SW,d,wl,sh,bl,kn,du,bk,dS,st,op,dw,sg,ow,pw,db,tb,ops,LU⟩:=id LB;have lo:=ko LU.L hl;have hl':=fF hl;have lp:(j7 pe).length=pe.length:=cD _;have ok:Aw (j7 pe) ops:=⟨Q,Q⟩;exists _,(aj (aY (cR (cP (pv 0) rfl) D.bZ D.Ac (cG D) hr bO (aa (pv 1) ah))) (aj (aW (i:=4) tO.nd (aG D.ZW (DU D) hr (aa (eU (cP (pv 0) rfl) D.bZ D.DK (fE D) hr bO) (aa (pv 1) (aa (pv 2) (aa (pv 3) ah)))))) (au (aY (cR (pv 0) D.aS D.FW (dR D) hr bO (aa (cF (aa br (aa (pv 1) (aa (pv 2) (aa (pv 3) ah))))) (aa (pv 1) (aa (pv 4) ah))))))));refine⟨Y,x,C,d,_,.ref sh,rfl,LU.L.hx,D.aS.cl,D.eZ,rfl,sh,dS,Y,LU.L.W.hx,rfl,Y,S,sh,dS,st,op,j7 pe,ops,s,rfl,LU.L.W,by rw[lo];exact ia,?_⟩;obtain⟨f0,sn,i3,k4⟩:=k2;refine⟨Y,x,C,d,_,.ref sh,rfl,LU.L.hx,D.aS.cl,D.eZ,rfl,sh,dS,Y,LU.L.W.hx,rfl,S,sh,dS,st,op,j7 pe,ops,rfl,LU.L.W,ok,λQH el q H1 Po s1=>?_⟩;rw[hl']at el;cases el;have sl:s.toNat<rows.length:=by have:=ia.1;have:=ia.2;lia
 obtain⟨es,es1⟩:∃ es,rows[s.toNat]?=some es:=⟨_,sF sl⟩;refine⟨Y,Y,Y,q,rows,s,a,b,f0,rfl,⟨Po.at_,Q,sn.es,sn.sd,sn.rk,sn.ss,sn.ln⟩,ia.1,ia.2,i3,λtV q2 H2 oJ d9 s2 Pp=>?_⟩;rw[es1]at oJ;cases oJ;obtain⟨⟨fB,B⟩,k5⟩:=k4 es es1;have lI:=s1.trans s2;have C3:=LU.same lI
 have Pr:q2≠bk:=λe=>by
  have y:=(LU.same s1).L.hb;rw[← e,Pp]at y;cases y
 refine⟨Y,x,d,Y,C3.L.hx,rfl,Y,Y,Y,DJ,λt ht=>?_⟩;have s3:=ak ht (.tup [.str "cut",.int s,.int a,.int b]);have SQ:(aP H2 t (.tup [.str "cut",.int s,.int a,.int b])) t=some (.tup [.str "cut",.int s,.int a,.int b]):=af;generalize aP H2 t (.tup [.str "cut",.int s,.int a,.int b])=H3 at s3 SQ;have ye:=lI.trans s3;have Tp:=LU.same ye;have ss:((s.toNat:Nat):Int)=s:=by have:=ia.1;lia
 refine⟨Y,Y,S,x,d,wl,sh,bl,kn,du,bk,dS,st,op,pe,ops,aF,t,q2,.plain ctW [s,a,b],s.toNat,_,rows,fB,by rw[ss];rfl,Tp.L,(by show H3 t=_;rw[SQ,uG];rfl),⟨(by show m9 SJ ctW=some 3;decide +kernel),?_⟩,d9.same s3,Pr,hl,Q,l1,l2,l3,B,λS' H8 L8 Fi=>?_⟩
 ·intro y hy;have b1:=ia.1;unfold M0 at i3;rcases List.mem_cons.mp hy with e|hy
  ·rw[e];exact⟨b1,fs.big⟩
  rcases List.mem_cons.mp hy with e|hy
  ·rw[e];exact⟨Q,fa.big⟩
  ·rw[List.mem_singleton.mp hy];exact⟨Q,fb.big⟩
 ·obtain⟨U',hL',f'⟩:=Tp.nV L8 Fi;exact k5 U' H8 hL' (f'.pre ye)
theorem lF:aH ["self","target","place","source","start","stop","row","items"] ["self","target","place","source","start","stop"] (aA mH):=eO
theorem xJ:‹(6,61,["self","target","place","source","start","stop"],(MF C CS CW CB))›:=λD=>by
 refine eV D.aae.F lF λcN A zn s0 H vs Q E hr h=>?_;obtain⟨U,x,pe,aF,aK,nW,bV,t,p,s,a,b,rows,rfl,LB,hl,l1,l2,l3,ft,fp,fs,fa,fb,it,ia,k4⟩:=h;obtain⟨S,SW,d,wl,sh,bl,kn,du,bk,dS,st,op,dw,sg,ow,pw,db,tb,ops,LU⟩:=id LB;have lo:=ko LU.L hl;have hl':=fF hl;have lp:(j7 pe).length=pe.length:=cD _;have ok:Aw (j7 pe) ops:=⟨Q,Q⟩;exists _,(aj (aY (cR (cP (pv 0) rfl) D.bZ D.Ac (cG D) hr bO (aa (pv 1) ah))) (aj (aW (i:=6) lF.nd (aG D.dq8 (Sm D) hr (aa (cR (pv 0) D.aS D.WH (oV D) hr bO (aa (pv 3) ah)) (aa (pv 4) (aa (pv 5) ah))))) (aj (aW (i:=7) lF.nd (aG D.Se (qe D) hr (aa (eU (cP (pv 0) rfl) D.bZ D.DK (fE D) hr bO) (aa (pv 1) (aa (pv 2) (aa (aG D.FU (m6 D) hr (aa (pv 6) ah)) ah)))))) (au (aY (cR (pv 0) D.aS D.FW (dR D) hr bO (aa (cF (aa br (aa (pv 1) (aa (pv 2) (aa (pv 3) (aa (pv 4) (aa (pv 5) ah))))))) (aa (pv 1) (aa (pv 7) ah)))))))));refine⟨Y,x,C,d,_,.ref sh,rfl,LU.L.hx,D.aS.cl,D.eZ,rfl,sh,dS,Y,LU.L.W.hx,rfl,Y,S,sh,dS,st,op,j7 pe,ops,t,rfl,LU.L.W,by rw[lo];exact it,?_⟩;exists Y,x,d,Y,LU.L.hx,rfl,Y,S,x,d,wl,sh,bl,kn,du,bk,dS,st,op,pe,ops,aF,rows,s,rfl,LU.L,hl,l1,l2,ia;obtain⟨f0,sn,i3,ip,k8⟩:=k4;refine⟨f0,sn,λo H1 ho s1 fo=>?_⟩;have ls:(f0 s).length<=10000:=sn.ln s ia.1 ia.2;have lr0:=lY (f0 s);have tt:jc (cL (f0 s))=(f0 s).length:=C4 _;refine⟨Y,Y,o,cL (f0 s),a,b,rfl,ho,Q,by rw[tt];exact i3,λq0 H2 Zy s2 fq0=>?_⟩;have lI:=s1.trans s2;have C3:=LU.same lI;refine⟨Y,x,C,d,_,.ref sh,rfl,C3.L.hx,D.aS.cl,D.eZ,rfl,sh,dS,Y,C3.L.W.hx,rfl,S,sh,dS,st,op,j7 pe,ops,rfl,C3.L.W,ok,λQH el q H3 fs3 s3=>?_⟩;rw[hl']at el;cases el;have ye:=lI.trans s3;have tl:t.toNat<rows.length:=by have:=it.1;have:=it.2;lia
 obtain⟨es,es1⟩:∃ es,rows[t.toNat]?=some es:=⟨_,sF tl⟩;have nnp:∀ {r:Row},jG r->lK r:=λh p hp=>⟨(h p hp).1,by have:=(h p hp).2;lia⟩;have nn0:lK (cL (f0 s)):=nnp (CH (oS sn.sd sn.rk sn.ss s ia.1 ia.2));have nn1:lK (cz (kQ a b 0 (cL (f0 s)))):=nnp (oQ (Aa a b _ 0 nn0))
 have lpl:(cz (kQ a b 0 (cL (f0 s)))).length<=10000:=by
  have:=rZ a b (cL (f0 s));rw[zf]at this;lia
 have epl:dD (cO (cz (cz (kQ a b 0 (cL (f0 s))))))=((f0 s).take b.toNat).drop a.toNat:=by
  rw[oR,nO _ λq hq=>(nn1 q hq).2,pW _ _ _ (mS _),eL]
 refine⟨Y,Y,Y,q0,Y,Zy.same s3,Q,λoi H4 hoi s4 foi=>?_⟩;have MD:=ye.trans s4;refine⟨q,oi,rows,t,p,_,f0,rfl,⟨fs3.at_.same s4,Q,sn.es,sn.sd,sn.rk,sn.ss,sn.ln⟩,it.1,it.2,hoi,vN (oQ nn1),?_,ip,λtV q2 H5 oJ d9 s5 Pp=>?_⟩
 ·rw[zf];have:=lV (cz (kQ a b 0 (cL (f0 s))));lia
 rw[es1]at oJ;cases oJ;rw[epl]at d9;obtain⟨⟨fB,B⟩,k9⟩:=k8 es es1;have Px:=MD.trans s5;have Yl:=LU.same Px
 have Pr:q2≠bk:=λe=>by
  have y:=(LU.same MD).L.hb;rw[← e,Pp]at y;cases y
 refine⟨Y,x,d,Y,Yl.L.hx,rfl,Y,Y,Y,Y,Y,ZM,λt' ht=>?_⟩;have s6:=ak ht (.tup [.str "quote",.int t,.int p,.int s,.int a,.int b]);have US:(aP H5 t' (.tup [.str "quote",.int t,.int p,.int s,.int a,.int b])) t'=some (.tup [.str "quote",.int t,.int p,.int s,.int a,.int b]):=af;generalize aP H5 t' (.tup [.str "quote",.int t,.int p,.int s,.int a,.int b])=H6 at s6 US;have UQ:=Px.trans s6;have Pq:=LU.same UQ;have ss:((t.toNat:Nat):Int)=t:=by have:=it.1;lia
 refine⟨Y,Y,S,x,d,wl,sh,bl,kn,du,bk,dS,st,op,pe,ops,aF,t',q2,.plain qtW [t,p,s,a,b],t.toNat,_,rows,fB,by rw[ss];rfl,Pq.L,(by show H6 t'=_;rw[US,uG];rfl),⟨(by show m9 SJ qtW=some 5;decide +kernel),?_⟩,d9.same s6,Pr,hl,Q,l1,l2,l3,B,λS' H8 L8 Fi=>?_⟩
 ·intro y hy;have b1:=ia.1;have b2:=it.1;unfold M0 at i3;rcases List.mem_cons.mp hy with e|hy
  ·rw[e];exact⟨b2,ft.big⟩
  rcases List.mem_cons.mp hy with e|hy
  ·rw[e];exact⟨ip.1,fp.big⟩
  rcases List.mem_cons.mp hy with e|hy
  ·rw[e];exact⟨b1,fs.big⟩
  rcases List.mem_cons.mp hy with e|hy
  ·rw[e];exact⟨Q,fa.big⟩
  ·rw[List.mem_singleton.mp hy];exact⟨Q,fb.big⟩
 ·obtain⟨U',hL',f'⟩:=Pq.nV L8 Fi;exact k9 U' H8 hL' (f'.pre UQ)
abbrev wnW:List Nat:=(Str.ofString "window").cps.toList
class inductive Py(C CS CW CB:Addr)
 | mk (U:Addr->Prop) (x:Addr) (pe:iu) (aF:iY) (aK:gA) (nW:Nat) (bV:Row) (t p s:Int) (rows:cS) (_:vs=[.ref x,.int t,.int p,.int s]) (_:qA C CS CW CB U H x pe aF aK nW bV) (_:pe.getLast?=some rows) (_:rows.length<=50) (_:pe.length<=900) (_:aF.length<=900) (_:lR t) (_:lR p) (_:lR s)
  (_:lE rows.length t) (_:lE rows.length s) (_:(∃ sh,Seen rows sh/\(0<=p/\p<=(sh t).length)/\(∀ es,rows[t.toNat]?=some es->(∃ f,nU (iX rows t.toNat (fP sh p es [-1-s])) f)/\
  ∀ (U':Addr->Prop) (H':Hp),qA C CS CW CB U' H' x (pe++[iX rows t.toNat (fP sh p es [-1-s])]) (aF++[(jU.plain wnW [t,p,s]).line]) aK nW bV->KP U U' H H'->Q .fH H')))
theorem oX:aH ["self","target","place","source","items"] ["self","target","place","source"] (aA kZ):=eO
theorem vY:‹(6,63,["self","target","place","source"],(Py C CS CW CB))›:=λD=>by
 refine eV D.aaf.F oX λcN A zn s0 H vs Q E hr h=>?_;obtain⟨U,x,pe,aF,aK,nW,bV,t,p,s,rows,rfl,LB,hl,l1,l2,l3,ft,fp,fs,it,ia,k4⟩:=h;obtain⟨S,SW,d,wl,sh,bl,kn,du,bk,dS,st,op,dw,sg,ow,pw,db,tb,ops,LU⟩:=id LB;have lo:=ko LU.L hl;have hl':=fF hl;have lp:(j7 pe).length=pe.length:=cD _;have ok:Aw (j7 pe) ops:=⟨Q,Q⟩;exists _,(aj (aY (cR (cP (pv 0) rfl) D.bZ D.Ac (cG D) hr bO (aa (pv 1) ah))) (aj (aY (cR (cP (pv 0) rfl) D.bZ D.Ac (cG D) hr bO (aa (pv 3) ah))) (aj (aW (i:=4) oX.nd (aG D.Se (qe D) hr (aa (eU (cP (pv 0) rfl) D.bZ D.DK (fE D) hr bO) (aa (pv 1) (aa (pv 2) (aa (bN (aa (cF (aa br (aa (pv 3) ah))) ah)) ah)))))) (au (aY (cR (pv 0) D.aS D.FW (dR D) hr bO (aa (cF (aa br (aa (pv 1) (aa (pv 2) (aa (pv 3) ah))))) (aa (pv 1) (aa (pv 4) ah)))))))));refine⟨Y,x,C,d,_,.ref sh,rfl,LU.L.hx,D.aS.cl,D.eZ,rfl,sh,dS,Y,LU.L.W.hx,rfl,Y,S,sh,dS,st,op,j7 pe,ops,t,rfl,LU.L.W,by rw[lo];exact it,?_⟩;refine⟨Y,x,C,d,_,.ref sh,rfl,LU.L.hx,D.aS.cl,D.eZ,rfl,sh,dS,Y,LU.L.W.hx,rfl,Y,S,sh,dS,st,op,j7 pe,ops,s,rfl,LU.L.W,by rw[lo];exact ia,?_⟩;obtain⟨f0,sn,ip,k8⟩:=k4;refine⟨Y,x,C,d,_,.ref sh,rfl,LU.L.hx,D.aS.cl,D.eZ,rfl,sh,dS,Y,LU.L.W.hx,rfl,S,sh,dS,st,op,j7 pe,ops,rfl,LU.L.W,ok,λQH el q H1 Po s1=>?_⟩;rw[hl']at el;cases el;have tl:t.toNat<rows.length:=by have:=it.1;have:=it.2;lia
 obtain⟨es,es1⟩:∃ es,rows[t.toNat]?=some es:=⟨_,sF tl⟩;refine⟨Y,Y,Y,pZ,λt2 IB=>⟨jS,λo ho=>?_⟩⟩;have s2:=ak IB (.tup [.str "win",.int s]);have t2':(aP H1 t2 (.tup [.str "win",.int s])) t2=some (.tup [.str "win",.int s]):=af;generalize aP H1 t2 (.tup [.str "win",.int s])=H2 at s2 t2' ho;have s3:=ak ho (.lst [.ref t2]);have o3:(aP H2 o (.lst [.ref t2])) o=some (.lst [.ref t2]):=af;show yj _ (aP H2 o (.lst [.ref t2])) _ _;generalize aP H2 o (.lst [.ref t2])=H3 at s3 o3;have ye:=s1.trans (s2.trans s3);have hoi:bJ H3 (.ref o) [.win s]:=⟨o,Y,o3,.cons ⟨t2,rfl,s3 _ _ t2'⟩ .nil⟩;refine⟨q,o,rows,t,p,[.win s],f0,rfl,⟨Po.at_.same (s2.trans s3),Q,sn.es,sn.sd,sn.rk,sn.ss,sn.ln⟩,it.1,it.2,hoi,.one ia.1,(by show 1<=10000;decide),ip,λtV q2 H5 oJ d9 s5 Pp=>?_⟩;rw[es1]at oJ;cases oJ;rw[show dD [aR.win s]=[-1-s] from rfl]at d9;obtain⟨⟨fB,B⟩,k9⟩:=k8 es es1;have Px:=ye.trans s5;have Yl:=LU.same Px
 have Pr:q2≠bk:=λe=>by
  have y:=(LU.same ye).L.hb;rw[← e,Pp]at y;cases y
 refine⟨Y,x,d,Y,Yl.L.hx,rfl,Y,Y,Y,DJ,λt' ht=>?_⟩;have s6:=ak ht (.tup [.str "window",.int t,.int p,.int s]);have US:(aP H5 t' (.tup [.str "window",.int t,.int p,.int s])) t'=some (.tup [.str "window",.int t,.int p,.int s]):=af;generalize aP H5 t' (.tup [.str "window",.int t,.int p,.int s])=H6 at s6 US;have UQ:=Px.trans s6;have Pq:=LU.same UQ;have ss:((t.toNat:Nat):Int)=t:=by have:=it.1;lia
 refine⟨Y,Y,S,x,d,wl,sh,bl,kn,du,bk,dS,st,op,pe,ops,aF,t',q2,.plain wnW [t,p,s],t.toNat,_,rows,fB,by rw[ss];rfl,Pq.L,(by show H6 t'=_;rw[US,uG];rfl),⟨(by show m9 SJ wnW=some 3;decide +kernel),?_⟩,d9.same s6,Pr,hl,Q,l1,l2,l3,B,λS' H8 L8 Fi=>?_⟩
 ·intro y hy;have b1:=ia.1;have b2:=it.1;rcases List.mem_cons.mp hy with e|hy
  ·rw[e];exact⟨b2,ft.big⟩
  rcases List.mem_cons.mp hy with e|hy
  ·rw[e];exact⟨ip.1,fp.big⟩
  ·rw[List.mem_singleton.mp hy];exact⟨b1,fs.big⟩
 ·obtain⟨U',hL',f'⟩:=Pq.nV L8 Fi;exact k9 U' H8 hL' (f'.pre UQ)
abbrev fxW:List Nat:=(Str.ofString "fix").cps.toList
class inductive abg(C CS CW CB:Addr)
 | mk (U:Addr->Prop) (x:Addr) (pe:iu) (aF:iY) (aK:gA) (nW:Nat) (bV:Row) (t:Int) (rows:cS) (_:vs=[.ref x,.int t]) (_:qA C CS CW CB U H x pe aF aK nW bV) (_:pe.getLast?=some rows) (_:rows.length<=50) (_:pe.length<=900) (_:aF.length<=900) (_:lR t)
  (_:lE rows.length t) (_:∃ sh,Seen rows sh/\(∃ f,nU (iX rows t.toNat (sh t)) f)/\
  ∀ (U':Addr->Prop) (H':Hp),qA C CS CW CB U' H' x (pe++[iX rows t.toNat (sh t)]) (aF++[(jU.plain fxW [t]).line]) aK nW bV->KP U U' H H'->Q .fH H')
theorem By:aH ["self","sheet"] ["self","sheet"] (aA pP):=eO
theorem AF:‹(6,64,["self","sheet"],(abg C CS CW CB))›:=λD=>by
 refine eV D.aag.F By λcN A zn s0 H vs Q E hr h=>?_;obtain⟨U,x,pe,aF,aK,nW,bV,t,rows,rfl,LB,hl,l1,l2,l3,ft,it,k2⟩:=h;obtain⟨S,SW,d,wl,sh,bl,kn,du,bk,dS,st,op,dw,sg,ow,pw,db,tb,ops,LU⟩:=id LB;have lo:=ko LU.L hl;have hl':=fF hl;have lp:(j7 pe).length=pe.length:=cD _;have ok:Aw (j7 pe) ops:=⟨Q,Q⟩;exists _,(aj (aY (cR (cP (pv 0) rfl) D.bZ D.Ac (cG D) hr bO (aa (pv 1) ah))) (au (aY (cR (pv 0) D.aS D.FW (dR D) hr bO (aa (cF (aa br (aa (pv 1) ah))) (aa (pv 1) (aa (aG D.ZY (Ao D) hr (aa (eU (cP (pv 0) rfl) D.bZ D.DK (fE D) hr bO) (aa (pv 1) ah))) ah)))))));refine⟨Y,x,C,d,_,.ref sh,rfl,LU.L.hx,D.aS.cl,D.eZ,rfl,sh,dS,Y,LU.L.W.hx,rfl,Y,S,sh,dS,st,op,j7 pe,ops,t,rfl,LU.L.W,by rw[lo];exact it,?_⟩;obtain⟨f0,sn,⟨fB,B⟩,k9⟩:=k2;refine⟨Y,x,d,Y,LU.L.hx,rfl,Y,pZ,λt' ht=>?_⟩;have s6:=ak ht (.tup [.str "fix",.int t]);have US:(aP H t' (.tup [.str "fix",.int t])) t'=some (.tup [.str "fix",.int t]):=af;generalize aP H t' (.tup [.str "fix",.int t])=H6 at s6 US;have Pq:=LU.same s6;refine⟨Y,Y,x,C,d,_,.ref sh,rfl,Pq.L.hx,D.aS.cl,D.eZ,rfl,sh,dS,Y,Pq.L.W.hx,rfl,S,sh,dS,st,op,j7 pe,ops,rfl,Pq.L.W,ok,λQH el q H1 Po s1=>?_⟩;rw[hl']at el;cases el;refine⟨Y,q,rows,t,f0,rfl,⟨Po.at_,Q,sn.es,sn.sd,sn.rk,sn.ss,sn.ln⟩,it.1,it.2,λq2 H5 d9 s5 Pp=>?_⟩;have Px:=s6.trans (s1.trans s5);have Yl:=LU.same Px
 have Pr:q2≠bk:=λe=>by
  have y:=(LU.same (s6.trans s1)).L.hb;rw[← e,Pp]at y;cases y
 have ss:((t.toNat:Nat):Int)=t:=by have:=it.1;lia
 have tl:t.toNat<rows.length:=by have:=it.1;have:=it.2;lia
 refine⟨S,x,d,wl,sh,bl,kn,du,bk,dS,st,op,pe,ops,aF,t',q2,.plain fxW [t],t.toNat,_,rows,fB,by rw[ss];rfl,Yl.L,(by show H5 t'=_;rw[s5 _ _ (s1 _ _ US),uG];rfl),⟨(by show m9 SJ fxW=some 1;decide +kernel),?_⟩,d9,Pr,hl,Q,l1,l2,l3,B,λS' H8 L8 Fi=>?_⟩
 ·intro y hy;rw[List.mem_singleton.mp hy];exact⟨it.1,ft.big⟩
 ·obtain⟨U',hL',f'⟩:=Yl.nV L8 Fi;exact k9 U' H8 hL' (f'.pre Px)
abbrev mvW:List Nat:=(Str.ofString "move").cps.toList
class inductive Xr(C CS CW CB:Addr)
 | mk (U:Addr->Prop) (x:Addr) (pe:iu) (aF:iY) (aK:gA) (nW:Nat) (bV:Row) (s a b to:Int) (rows:cS) (_:vs=[.ref x,.int s,.int a,.int b,.int to]) (_:qA C CS CW CB U H x pe aF aK nW bV) (_:pe.getLast?=some rows) (_:rows.length<=50) (_:pe.length<=900) (_:aF.length<=900) (_:lR s) (_:(-100000<a/\a<100000)) (_:(-100000<b/\b<100000)) (_:(-100000<to/\to<100000))
  (_:lE rows.length s) (_:∃ sh,Seen rows sh/\Mv a b to (sh s).length/\(∀ es,rows[s.toNat]?=some es->(∃ f,nU (iX rows s.toNat (lS sh a b to es)) f)/\
  ∀ (U':Addr->Prop) (H':Hp),qA C CS CW CB U' H' x (pe++[iX rows s.toNat (lS sh a b to es)]) (aF++[(jU.plain mvW [s,a,b,to]).line]) aK nW bV->KP U U' H H'->Q .fH H'))
theorem qZ:aH ["self","sheet","start","stop","to","items"] ["self","sheet","start","stop","to"] (aA oj):=eO
theorem yM:‹(6,65,["self","sheet","start","stop","to"],(Xr C CS CW CB))›:=λD=>by
 refine eV D.aah.F qZ λcN A zn s0 H vs Q E hr h=>?_;obtain⟨U,x,pe,aF,aK,nW,bV,s,a,b,to,rows,rfl,LB,hl,l1,l2,l3,fs,fa,fb,fo,ia,k2⟩:=h;obtain⟨S,SW,d,wl,sh,bl,kn,du,bk,dS,st,op,dw,sg,ow,pw,db,tb,ops,LU⟩:=id LB;have lo:=ko LU.L hl;have hl':=fF hl;have lp:(j7 pe).length=pe.length:=cD _;have ok:Aw (j7 pe) ops:=⟨Q,Q⟩;exists _,(aj (aY (cR (cP (pv 0) rfl) D.bZ D.Ac (cG D) hr bO (aa (pv 1) ah))) (aj (aW (i:=5) qZ.nd (aG D.ZX (An D) hr (aa (eU (cP (pv 0) rfl) D.bZ D.DK (fE D) hr bO) (aa (pv 1) (aa (pv 2) (aa (pv 3) (aa (pv 4) ah))))))) (au (aY (cR (pv 0) D.aS D.FW (dR D) hr bO (aa (cF (aa br (aa (pv 1) (aa (pv 2) (aa (pv 3) (aa (pv 4) ah)))))) (aa (pv 1) (aa (pv 5) ah))))))));refine⟨Y,x,C,d,_,.ref sh,rfl,LU.L.hx,D.aS.cl,D.eZ,rfl,sh,dS,Y,LU.L.W.hx,rfl,Y,S,sh,dS,st,op,j7 pe,ops,s,rfl,LU.L.W,by rw[lo];exact ia,?_⟩;obtain⟨f0,sn,i3,k4⟩:=k2;refine⟨Y,x,C,d,_,.ref sh,rfl,LU.L.hx,D.aS.cl,D.eZ,rfl,sh,dS,Y,LU.L.W.hx,rfl,S,sh,dS,st,op,j7 pe,ops,rfl,LU.L.W,ok,λQH el q H1 Po s1=>?_⟩;rw[hl']at el;cases el;have sl:s.toNat<rows.length:=by have:=ia.1;have:=ia.2;lia
 obtain⟨es,es1⟩:∃ es,rows[s.toNat]?=some es:=⟨_,sF sl⟩;refine⟨Y,Y,Y,Y,q,rows,s,a,b,to,f0,rfl,⟨Po.at_,Q,sn.es,sn.sd,sn.rk,sn.ss,sn.ln⟩,ia.1,ia.2,i3,λtV q2 H2 oJ d9 s2 Pp=>?_⟩;rw[es1]at oJ;cases oJ;obtain⟨⟨fB,B⟩,k5⟩:=k4 es es1;have lI:=s1.trans s2;have C3:=LU.same lI
 have Pr:q2≠bk:=λe=>by
  have y:=(LU.same s1).L.hb;rw[← e,Pp]at y;cases y
 refine⟨Y,x,d,Y,C3.L.hx,rfl,Y,Y,Y,Y,Wr,λt ht=>?_⟩;have s3:=ak ht (.tup [.str "move",.int s,.int a,.int b,.int to]);have SQ:(aP H2 t (.tup [.str "move",.int s,.int a,.int b,.int to])) t=some (.tup [.str "move",.int s,.int a,.int b,.int to]):=af;generalize aP H2 t (.tup [.str "move",.int s,.int a,.int b,.int to])=H3 at s3 SQ;have ye:=lI.trans s3;have Tp:=LU.same ye;have ss:((s.toNat:Nat):Int)=s:=by have:=ia.1;lia
 refine⟨Y,Y,S,x,d,wl,sh,bl,kn,du,bk,dS,st,op,pe,ops,aF,t,q2,.plain mvW [s,a,b,to],s.toNat,_,rows,fB,by rw[ss];rfl,Tp.L,(by show H3 t=_;rw[SQ,uG];rfl),⟨(by show m9 SJ mvW=some 4;decide +kernel),?_⟩,d9.same s3,Pr,hl,Q,l1,l2,l3,B,λS' H8 L8 Fi=>?_⟩
 ·intro y hy;have b1:=ia.1;have i4:=i3.1;have i5:=i3.2;unfold M0 at i4;rcases List.mem_cons.mp hy with e|hy
  ·rw[e];exact⟨b1,fs.big⟩
  rcases List.mem_cons.mp hy with e|hy
  ·rw[e];exact⟨Q,(lR.Ja fa).big⟩
  rcases List.mem_cons.mp hy with e|hy
  ·rw[e];exact⟨Q,(lR.Ja fb).big⟩
  ·rw[List.mem_singleton.mp hy];exact⟨Q,(lR.Ja fo).big⟩
 ·obtain⟨U',hL',f'⟩:=Tp.nV L8 Fi;exact k5 U' H8 hL' (f'.pre ye)
class inductive Pz
 | mk (r:Addr) (x:Int) (_:vs=[.ref r,.int x]) (_:H r=some (.lst [])) (_:Q (.int 0) H)
theorem fG:aH ["holes","start","low","high","middle"] ["holes","start"] (aA lg):=eO
theorem vZ:‹(1,66,["holes","start"],Pz)›:=λD=>by
 specialize eV D.aai.F fG;obtain⟨r,x,rfl,h1,k⟩:=h;exists _,(aj (aW (i:=2) fG.nd ay) (aj (aW (i:=3) fG.nd (eS D.T.eE (pv 0))) (aj (vf PassesOwn.never (aT iS (pv 2) (pv 3) (bq _)) (aj (aW (i:=4) fG.nd (bC zF (bC cT (pv 2) (pv 3)) ay)) (au (bK (aT BX (aQ bx (aQ bH (pv 0) (pv 4)) ay) (pv 1) (bq _)) (au (aW (i:=3) fG.nd (pv 4))) (au (aW (i:=2) fG.nd (bC cT (pv 4) ay))))))) (au (aJ (pv 2))))));exists Y,r,Y,.inl (bL.of h1);exists λm σ H2=>σ=[some (.ref r),some (.int x),some (.int 0),some (.int 0),none]/\H2=H,⟨0,V⟩;rintro m σ H2 ⟨rfl,rfl⟩;exact⟨Y,Y,Z,Y,cI (λc=>absurd c (by decide)) (λ_=>⟨Y,k⟩)⟩
class inductive MG
 | mk (r:Addr) (x:Int) (_:vs=[.ref r,.int x]) (_:H r=some (.lst [])) (_:Q (.bl false) H)
theorem Gw:aH ["holes","address","hole"] ["holes","address"] (aA Dr):=eO
theorem MH:‹(2,67,["holes","address"],MG)›:=λD=>by
 specialize eV D.aaj.F Gw;obtain⟨r,x,rfl,h1,k⟩:=h;exists _,(aj (aW (i:=2) Gw.nd (aG D.aai (vZ D) hr (aa (pv 0) (aa (pv 1) ah)))) (au (aJ (nY (j8 iS (pv 2) (eS D.T.eE (pv 0)) (bq _)) (pA (j8 fJ (aQ bx (aQ bH (pv 0) (pv 2)) ay) (pv 1) (bq _)))))));exact⟨Y,Y,r,x,rfl,h1,Y,Y,r,Y,.inl (bL.of h1),Z,Y,cI (λc=>absurd c (by decide)) (λ_=>k)⟩
class inductive PB(CB:Addr)
 | mk (x d t:Addr) (a:Int) (_:vs=[.ref x,.int a]) (_:Bl CB H x d t) (_:H t=some (.lst [])) (_:Q (.bl false) H)
theorem BA:aH ["self","address"] ["self","address"] (aA pQ):=eO
theorem AG:‹(3,68,["self","address"],(PB CB))›:=λD=>by
 specialize eV D.aak.F BA;obtain⟨x,d,t,a,rfl,hx,h1,k⟩:=h;exists _,(au (aJ (aG D.aaj (MH D) hr (aa (cP (pv 0) rfl) (aa (pv 1) ah)))));exact⟨Y,x,CB,d,_,.ref t,rfl,hx,D.uJ.cl,D.vt,rfl,Y,t,a,rfl,h1,k⟩
class inductive MJ(C:Addr)
 | mk (S:Addr->Prop) (x d s o p:Addr) (n:Nat) (aK:gA) (a:Int) (_:vs=[.ref x,.int a]) (_:We C S H x d s o p n aK) (_:0<=a) (_:a<(aK.length:Nat)) (_:Q .fH H)
class inductive PD(C:Addr)
 | mk (S:Addr->Prop) (x d s o p:Addr) (n:Nat) (aK:gA) (j:Nat) (q:Int × Nat) (_:vs=[.ref x,.int (j:Nat)]) (_:We C S H x d s o p n aK) (_:aK[j]?=some q) (_:Q (zb q.2) H)
theorem rf:aH ["self","address"] ["self","address"] (aA iN):=eO
theorem Gx:aH ["self","address"] ["self","address"] (aA uh):=eO
theorem qC:‹(2,69,["self","address"],(MJ CW))›:=λD=>by
 specialize eV D.aal.F rf;obtain⟨S,x,d,s,o,p,n,aK,a,rfl,W,a0,a1,k⟩:=h;exists _,(au (bK (iK (mh fJ iS ay (pv 1) (eU (pv 0) D.iU D.L0 (jN D) hr bO))) (au gO) aX));refine⟨Y,Z,Y,cI (λc0=>?_) (λc0=>absurd (decide_eq_true a0) c0)⟩;exists Y,x,d,Y,W.hx,rfl,x,d,s,o,p,aK,rfl,W.hx,W.hs,Z,Y;rw[decide_eq_true a1];exact eY k
theorem D8:‹(3,70,["self","address"],(PD CW))›:=λD=>by
 specialize eV D.aam.F Gx;obtain⟨S,x,d,s,o,p,n,aK,j,q,rfl,W,eq,k⟩:=h;have jl:=(List.getElem?_eq_some_iff.mp eq).1;exists _,(aj (aY (cR (pv 0) D.iU D.aal (qC D) hr bO (aa (pv 1) ah))) (au (aJ (aQ bH (cP (pv 0) rfl) (pv 1)))));exists Y,x,d,Y,W.hx,rfl,Y,S,x,d,s,o,p,n,aK,(j:Nat),rfl,W,Q,Q;exact⟨Y,x,CW,d,_,.ref s,rfl,W.hx,D.iU.cl,D.uA,rfl,Y,s,K,V,bL.of W.hs,(cQ (by unfold Pd;rw[nG,eq];rfl):_=some (zb q.2)),k⟩
def yN(aK:gA)(a:Int):Nat:=((aK[a.toNat]?).map Prod.snd).getD 0
class inductive PF(C CS CW CB:Addr)
 | mk (U:Addr->Prop) (x r:Addr) (pe:iu) (aF:iY) (aK:gA) (nW:Nat) (row:Row) (v:V) (_:vs=[.ref x,.ref r,v]) (_:qA C CS CW CB U H x pe aF aK nW []) (_:cA H r row) (_:(∀ p∈row,p.1<=p.2)) (_:(bM row).length<=100000) (_:(∀ a∈bM row,0<=a/\a<(aK.length:Nat))) (_:∀ H',aL H H'->Q (.str (eX ((bM row).map (yN aK)))) H')
theorem xK:aH ["self","row","veil"] ["self","row","veil"] (aA jb):=eO
theorem v7:‹(4,71,["self","row","veil"],(PF C CS CW CB))›:=λD=>by
 refine eV D.aan.F xK λcN A zn s0 H vs Q E hr h=>?_;obtain⟨U,x,r,pe,aF,aK,nW,row,v,rfl,LB,hr1,ok,ls,ia,k⟩:=h;obtain⟨S,SW,d,wl,sh,bl,kn,du,bk,dS,st,op,dw,sg,ow,pw,db,tb,ops,LU⟩:=id LB;refine⟨_,(au (aJ (dM PySem.F.plainAttrs_str PySem.F.slot_str_join PySem.F.type_str_join Ab br (aa (gV (N:=["address","self","veil"]) (nP (sc:=aA jb) (NX:=["self","row","veil"]) (jx:=[none,some 0,some 2]) rfl rfl rfl nofun nofun rfl nofun rfl nofun) rfl (cH (aG D.ZQ (DO D) hr (aa (pv 1) ah))) (λ_ _ _ _ _ _=>(cu (i:=0) (show List.Nodup (["address","self","veil"]:List Str) by decide +kernel))) (λ_ _ _ _ _ _=>gI) (λ_ _ _ _ _ _=>(EY (jZ (cR (Ku (pv 1) rfl) D.uJ D.aak (AG D) hr bO (aa (pv 0) ah))) (pv 2) (cR (Ku (pv 1) rfl) D.iU D.aam (D8 D) hr bO (aa (pv 0) ah))))) ah)))),?_⟩;refine⟨rfl,Y,r,row,rfl,hr1,ok,Q,λn H1 hn s1 fn=>?_⟩;refine⟨n,rfl,⟨_,bL.of hn⟩,λacc cY=>gz (K:=K) (a:=n) (xs:=(bM row).map V.int) (λi σ H2=>∃ u:Option V,σ=[u,some (.ref x),some v]/\H2 acc=some (.lst ((((bM row).take i).map (yN aK)).map zb))/\aL H1 H2) ⟨none,rfl,af,ak cY _⟩ (by rintro i σ H2 _ ⟨_,_,_,s2⟩;exact bL.of (s2 _ _ hn)) ?_ ?_⟩
 ·rintro i y σ H2 hi ⟨u,rfl,h2,s2⟩;rw[nG]at hi;obtain⟨a,ei,rfl⟩:=Option.map_eq_some_iff.mp hi;have il:=(List.getElem?_eq_some_iff.mp ei).1;obtain⟨a0,a1⟩:=ia a (nF ei);have C3:=LU.same (s1.trans s2);obtain⟨q,eq⟩:∃ q,aK[a.toNat]?=some q:=⟨_,sF ∅⟩;obtain⟨ts,ht,pt⟩:=id C3.R;cases pt;have ea:yN aK a=q.2:=by unfold yN;rw[eq];rfl
  exists Y,x,C,d,_,.ref bl,rfl,C3.L.hx,D.aS.cl,D.zE,rfl,bl,db,Y,C3.B,rfl,Y,bl,db,tb,a,rfl,C3.B,ht;refine⟨Y,eY ⟨Y,x,C,d,_,.ref wl,rfl,C3.L.hx,D.aS.cl,D.xY,rfl,wl,dw,Y,C3.W.hx,rfl,Y,SW,wl,dw,sg,ow,pw,nW,aK,a.toNat,q,by rw[show ((a.toNat:Nat):Int)=a by lia];rfl,C3.W,eq,?_⟩⟩;refine⟨_,h2,aV (by rw[cD,cD,gy];lia),Y,?_,bP cY s2 (aM acc _ _)⟩;rw[af,take_snoc ei,gG,gG,← ea];rfl
 ·rintro σ H2 ⟨u,rfl,h2,s2⟩;rw[cD,gK]at h2;exact⟨acc,Y,rfl,h2,by rw[cD];lia,k H2 (s1.trans s2)⟩
theorem qA.m{C:Addr}{U:Addr->Prop}{H:Hp}{x:Addr}{pe:iu}{aF:iY}{aK:gA}{nW:Nat}{bV:Row}{m:Str}{k:Prop}(L:qA C CS CW CB U H x pe aF aK nW bV)(q:k)(h:∀ a b c d e f:V,List.lookup m [("well",a),("shelf",b),("blots",c),("knots",d),("dues",e),("book",f)]=none:=by intros;rfl):Vx C m (.ref x) H k:=by
 obtain⟨S',Xn,d',Yb,sh',bl',kn',du',bk',dS',Dg,Hj,dw',sg',ow',pw',db',tb',Je,LU⟩:=id L;exact⟨x,d',Y,LU.L.hx,h ..,q⟩
class inductive Tr(C:Addr)
 | mk (S:Addr->Prop) (x d st op:Addr) (bz:jL) (ops:List Int) (si mi:Nat) (rows:List (List aR)) (_:vs=[.ref x,.int (si:Nat),.int (mi:Nat)]) (_:Sh C S H x d st op bz ops) (_:bz[mi]?=some rows) (_:si<rows.length) (_:Q .fH H)
theorem nj:aH ["self","sheet","moment"] ["self","sheet","moment"] (aA jD):=eO
theorem sN:‹(3,73,["self","sheet","moment"],(Tr CS))›:=λD=>by
 specialize eV D.Sg.F nj;obtain⟨S,x,d,st,op,bz,ops,j,i,rows,rfl,W,er,jr,k⟩:=h;have il:=(List.getElem?_eq_some_iff.mp er).1;have jl:=o6 jr (W.My.less i _ er);have eo:ops[j]?=some ops[j]:=sF jl;obtain⟨_,_,fit⟩:=W.My.fit j _ eo;have iff:=(fit i _ er).mpr jr;exists _,(aj (aY (cR (pv 0) D.bZ D.Ac (cG D) hr bO (aa (pv 1) ah))) (aj (aY (cR (pv 0) D.bZ D.OE (jW D) hr bO (aa (pv 2) ah))) (au (bK (aT iS (pv 2) (aQ bH (cP (pv 0) rfl) (pv 1)) (bq _)) (au gO) aX))));exists Y,x,d,Y,W.hx,rfl,Y,S,x,d,st,op,bz,ops,Y,W,⟨Q,Q⟩;exists Y,x,d,Y,W.hx,rfl,Y,S,x,d,st,op,bz,ops,Y,W,⟨Q,Q⟩;exact⟨Y,Y,x,CS,d,_,.ref op,rfl,W.hx,D.bZ.cl,D.j4,rfl,Y,op,K,V,bL.of W.ho,cQ (by rw[nG,eo];rfl),Z,Y,cI (λc0=>absurd iff (by have:=of_decide_eq_true c0;lia)) (λ_=>k)⟩
class inductive PK(C XS:Addr)
 | mk (S:Addr->Prop) (x d st op:Addr) (bz:jL) (ops:List Int) (s:Int) (_:vs=[.ref x,.int s]) (_:Sh C S H x d st op bz ops) (_:Aw bz ops) (_:lR s) (_:(lE ops.length s->Q .fH H)) (_:(¬ lE ops.length s->E (.ref XS) none H))
class inductive PL(C XM:Addr)
 | mk (S:Addr->Prop) (x d st op:Addr) (bz:jL) (ops:List Int) (m:Int) (_:vs=[.ref x,.int m]) (_:Sh C S H x d st op bz ops) (_:Aw bz ops) (_:lR m) (_:(lE bz.length m->Q .fH H)) (_:(¬ lE bz.length m->E (.ref XM) none H))
class inductive Xs(C XS XM:Addr)
 | mk (S:Addr->Prop) (x d st op:Addr) (bz:jL) (ops:List Int) (s m:Int) (_:vs=[.ref x,.int s,.int m]) (_:Sh C S H x d st op bz ops) (_:Aw bz ops) (_:lR s) (_:lR m) (_:(¬ lE ops.length s->E (.ref XS) none H)) (_:(lE ops.length s->¬ lE bz.length m->E (.ref XM) none H)) (_ :
 ∀ (si mi:Nat) (rows:List (List aR)),s=si->m=mi->si<ops.length->bz[mi]?=some rows->(rows.length<=si->E (.ref XS) none H)/\(si<rows.length->Q .fH H))
class inductive MK(C XS XM:Addr)
 | mk (S:Addr->Prop) (x d st op:Addr) (bz:jL) (ops:List Int) (s m:Int) (_:vs=[.ref x,.int s,.int m]) (_:Sh C S H x d st op bz ops) (_:Aw bz ops) (_:lR s) (_:lR m) (_:(¬ lE ops.length s->E (.ref XS) none H)) (_:(lE ops.length s->¬ lE bz.length m->E (.ref XM) none H)) (_ :
 ∀ (si mi:Nat) (rows:List (List aR)),s=si->m=mi->si<ops.length->bz[mi]?=some rows->(rows.length<=si->E (.ref XS) none H)/\(∀ aO,rows[si]?=some aO->Told H aO Q))
theorem xM:aH ["self","sheet","moment"] ["self","sheet","moment"] (aA lu):=eO
theorem qD(D:Ds K mg aZ bg C CS CW CB CT CD aC az):bf P w K mg zt (Fp P w) 2 (aZ 37) (bg 37) ["self","sheet"] (PK CS aC):=by
 specialize ZL D.Ac.F lO;obtain⟨S,x,d,st,op,bz,ops,a,rfl,W,ok,fa,k1,k2⟩:=h;exists _,(au (bK (iK (mh fJ iS ay (pv 1) (eU (pv 0) D.bZ D.OD (ki D) hr bO))) (au (zR PySem.F.excBase_ValueError D.jH.x D.jH.m rfl Iu (aa (Dw (wU (wV (pv 1) (wU (wV (eU (pv 0) D.bZ D.OD (ki D) hr bO) Iv))))) ah))) aX));have fl:lR ((ops.length:Nat):Int):=⟨by have:=ok.2;lia,by have:=ok.2;lia⟩;refine⟨Y,Z,Y,cI (λc0=>?_) (λc0=>⟨Y,gR ⟨Y,a,rfl,fa.log,Y,x,d,Y,W.hx,rfl,S,x,d,st,op,bz,ops,rfl,W,Y,fl.log,λy=>⟨jS,k2 λiw=>c0 (decide_eq_true iw.1)⟩⟩⟩)⟩;exists Y,x,d,Y,W.hx,rfl,S,x,d,st,op,bz,ops,rfl,W,Z,Y;by_cases iw:lE ops.length a
 ·rw[decide_eq_true iw.2];exact eY (k1 iw)
 ·rw[decide_eq_false (λz=>iw ⟨of_decide_eq_true c0,z⟩)];exact gR ⟨Y,a,rfl,fa.log,Y,x,d,Y,W.hx,rfl,S,x,d,st,op,bz,ops,rfl,W,Y,fl.log,λy=>⟨jS,k2 iw⟩⟩
theorem qg(D:Ds K mg aZ bg C CS CW CB CT CD aC az):bf P w K mg zt (Fp P w) 2 (aZ 38) (bg 38) ["self","moment"] (PL CS az):=by
 specialize ZL D.OE.F kK;obtain⟨S,x,d,st,op,bz,ops,a,rfl,W,ok,fa,k1,k2⟩:=h;obtain⟨as,hs,al⟩:=W.hs;have la:(as.map V.ref).length=bz.length:=by rw[cD,al.len]
 exists _,(au (bK (iK (mh fJ fJ ay (pv 1) (eU (pv 0) D.bZ D.LZ (jM D) hr bO))) (au (zR PySem.F.excBase_ValueError D.lW.x D.lW.m rfl Iu (aa (Dw (wU (wV (pv 1) (wU (wV (eU (pv 0) D.bZ D.LZ (jM D) hr bO) Iv))))) ah))) aX));have fl:lR (((as.map V.ref).length:Int)-1):=⟨by rw[la];have:=ok.1;lia,by rw[la];have:=ok.1;lia⟩;refine⟨Y,Z,Y,cI (λc0=>?_) (λc0=>⟨Y,gR ⟨Y,a,rfl,fa.log,Y,x,d,Y,W.hx,rfl,x,d,st,op,Y,W.hx,hs,Y,fl.log,λy=>⟨jS,k2 λiw=>c0 (decide_eq_true iw.1)⟩⟩⟩)⟩;exists Y,x,d,Y,W.hx,rfl,x,d,st,op,Y,W.hx,hs,Z,Y;by_cases iw:lE bz.length a
 ·rw[decide_eq_true (show a<=((as.map V.ref).length:Int)-1 by rw[la];have:=iw.2;lia)];exact eY (k1 iw)
 ·rw[decide_eq_false (show ¬ a<=((as.map V.ref).length:Int)-1 by rw[la];exact λz=>iw ⟨of_decide_eq_true c0,Q⟩)];exact gR ⟨Y,a,rfl,fa.log,Y,x,d,Y,W.hx,rfl,x,d,st,op,Y,W.hx,hs,Y,fl.log,λy=>⟨jS,k2 iw⟩⟩
theorem rj(D:Ds K mg aZ bg C CS CW CB CT CD aC az):bf P w K mg zt (Fp P w) 3 (aZ 73) (bg 73) ["self","sheet","moment"] (Xs CS aC az):=by
 specialize ZL D.Sg.F nj;obtain⟨S,x,d,st,op,bz,ops,a,m,rfl,W,ok,fa,fm,k1,k2,k3⟩:=h;exists _,(aj (aY (cR (pv 0) D.bZ D.Ac (qD D) hr Kl (aa (pv 1) ah))) (aj (aY (cR (pv 0) D.bZ D.OE (qg D) hr Kl (aa (pv 2) ah))) (au (bK (aT iS (pv 2) (aQ bH (cP (pv 0) rfl) (pv 1)) (bq _)) (au (zR PySem.F.excBase_ValueError D.jH.x D.jH.m rfl Iu (aa (Dw (wU (wV (pv 1) (wU (wV (pv 2) Iv))))) ah))) aX))));refine⟨Y,x,d,Y,W.hx,rfl,Y,S,x,d,st,op,bz,ops,a,rfl,W,ok,fa,λia=>?_,k1⟩;refine⟨Y,x,d,Y,W.hx,rfl,Y,S,x,d,st,op,bz,ops,m,rfl,W,ok,fm,λim=>?_,λnm=>k2 ia nm⟩;obtain⟨j,rfl,jl⟩:=ia.get;obtain⟨i,rfl,il⟩:=im.get;have eo:ops[j]?=some ops[j]:=sF jl;have er:bz[i]?=some bz[i]:=sF il;obtain⟨_,_,fit⟩:=W.My.fit j _ eo;have iff:=fit i _ er;obtain⟨k4,k5⟩:=k3 j i _ rfl rfl jl er;refine⟨Y,Y,x,CS,d,_,.ref op,rfl,W.hx,D.bZ.cl,D.j4,rfl,Y,op,K,V,bL.of W.ho,cQ (by rw[nG,eo];rfl),Z,Y,cI (λc0=>?_) (λc0=>?_)⟩
 ·have c1:((i:Nat):Int)<ops[j]:=of_decide_eq_true c0;exact⟨Y,Y,fa.log,Y,Y,fm.log,λy=>⟨jS,k4 ∅⟩⟩
 ·have c1:¬ ((i:Nat):Int)<ops[j]:=λz=>c0 (decide_eq_true z);exact k5 ∅
theorem uR(D:Ds K mg aZ bg C CS CW CB CT CD aC az):bf P w K mg zt (Fp P w) 4 (aZ 74) (bg 74) ["self","sheet","moment"] (MK CS aC az):=by
 specialize ZL D.aao.F xM;obtain⟨S,x,d,st,op,bz,ops,a,m,rfl,W,ok,fa,fm,k1,k2,k3⟩:=h;obtain⟨as,hs,al⟩:=id W.hs;exists _,(aj (aY (cR (pv 0) D.bZ D.Sg (rj D) hr Kl (aa (pv 1) (aa (pv 2) ah)))) (au (aJ (eN fX rfl D.T.jm tS (aa (aQ bH (aQ bH (cP (pv 0) rfl) (pv 2)) (pv 1)) ah)))));refine⟨Y,x,d,Y,W.hx,rfl,Y,Y,S,x,d,st,op,bz,ops,a,m,rfl,W,ok,fa,fm,k1,k2,λj i rows ej ei jl er=>⟨(k3 j i rows ej ei jl er).1,λjr=>?_⟩⟩;subst ej ei;obtain⟨b,eb,_,_,_,rs,hb,ar⟩:=W.at' hs er;have el:rows[j]?=some rows[j]:=sF jr;obtain⟨ri,eri,jw⟩:=ar.get' el;obtain⟨c,vs,ec,hc,it⟩:=jw.at';cases ec;refine⟨Y,x,CS,d,_,.ref st,rfl,W.hx,D.bZ.cl,D.j9,rfl,Y,st,P,.ref b,V,bL.of hs,cQ (by rw[nG,eb];rfl),Y,b,P,.ref ri,V,bL.of hb,cQ (by rw[nG,eri];rfl),ri,Y,.inl (bL.of hc),λq hq=>?_⟩;exact (k3 j i rows rfl rfl jl er).2 _ el q _ ⟨q,vs,rfl,af,it.mono λv i z=>z.same (ak hq _)⟩ (ak hq _) hq
class inductive KQ(C CS CW CB:Addr)
 | mk (U:Addr->Prop) (x:Addr) (pe:iu) (aF:iY) (aK:gA) (nW:Nat) (bV:Row) (s m:Nat) (rows last:cS) (sh:Int->List Int) (_:vs=[.ref x,.int (s:Nat),.int (m:Nat)]) (_:qA C CS CW CB U H x pe aF aK nW bV) (_:pe[m]?=some rows) (_:s<rows.length) (_:rows.length<=50) (_:pe.length<=900) (_:pe.getLast?=some last) (_:last.length<=50) (_:Seen rows sh) (_:∀ (o:Addr) (H':Hp),cA H' o (cL (sh (s:Nat)))->aL H H'->H o=none->Q (.ref o) H')
theorem rm:aH ["self","sheet","moment"] ["self","sheet","moment"] (aA iO):=eO
theorem gF:‹(5,76,["self","sheet","moment"],(KQ C CS CW CB))›:=λD=>by
 specialize eV D.WJ.F rm;obtain⟨U,x,pe,aF,aK,nW,bV,s,m,rows,last,f0,rfl,LB,er,sr,l1,l2,hl,l3,sn,k⟩:=h;obtain⟨S,SW,d,wl,sh,bl,kn,du,bk,dS,st,op,dw,sg,ow,pw,db,tb,ops,LU⟩:=id LB;have L:=LU.L;have lo:=ko L hl;have lp:(j7 pe).length=pe.length:=cD _;have ml:=(List.getElem?_eq_some_iff.mp er).1
 have er':(j7 pe)[m]?=some (rows.map aI):=by
  show (pe.map _)[m]?=_;rw[nG,er];rfl
 exists _,(aj (aY (cR (cP (pv 0) rfl) D.bZ D.Sg (sN D) hr bO (aa (pv 1) (aa (pv 2) ah)))) (au (aJ (dX.rW D.IL (D.T.mX _ D.IL.m) (Aj D) hr (aa (cR (cP (pv 0) rfl) D.bZ D.WC (ng D) hr bO (aa (pv 2) ah)) (aa (pv 1) ah))))));refine⟨Y,x,C,d,_,.ref sh,rfl,L.hx,D.aS.cl,D.eZ,rfl,sh,dS,Y,L.W.hx,rfl,Y,Y,S,sh,dS,st,op,j7 pe,ops,s,m,Y,L.W,er',by rw[cD];exact sr,?_⟩;refine⟨Y,x,C,d,_,.ref sh,rfl,L.hx,D.aS.cl,D.eZ,rfl,sh,dS,Y,L.W.hx,rfl,Y,S,sh,dS,st,op,j7 pe,ops,(m:Nat),rfl,L.W,⟨Q,Q⟩,⟨Q,Q⟩,λmi QH em el q H1 Po s1=>?_⟩;obtain rfl:m=mi:=by lia
 rw[er']at el;cases el;exact⟨Y,q,rows,(s:Nat),f0,rfl,Po.at_,Q,sn.es,sn.sd,sn.rk,Q,Q,sn.ss,sn.ln,λo H2 ho s2 fo=>k o H2 ho (s1.trans s2) (bu s1 fo)⟩
class inductive D9(C CS CW CB XS XM:Addr)
 | mk (U:Addr->Prop) (x:Addr) (pe:iu) (aF:iY) (aK:gA) (nW:Nat) (bV:Row) (s m:Int) (last:cS) (_:vs=[.ref x,.int s,.int m]) (_:qA C CS CW CB U H x pe aF aK nW bV) (_:pe.getLast?=some last) (_:last.length<=50) (_:pe.length<=900) (_:lR s) (_:lR m) (_:¬ lE last.length s->E (.ref XS) none H) (_:lE last.length s->¬ lE pe.length m->E (.ref XM) none H) (_:∀ (si mi:Nat) (rows:cS),s=si->m=mi->si<last.length->pe[mi]?=some rows->(rows.length<=si->E (.ref XS) none H)/\∀ es,rows[si]?=some es->∀ (q:Addr) (H':Hp),bJ H' (.ref q) (aI es)->aL H H'->H q=none->Q (.ref q) H')
theorem uS:aH ["self","sheet","moment"] ["self","sheet","moment"] (aA jE):=eO
theorem rA(D:Ds K mg aZ bg C CS CW CB CT CD aC az):bf P w K mg zt (Fp P w) 5 (aZ 75) (bg 75) ["self","sheet","moment"] (D9 C CS CW CB aC az):=by
 specialize ZL D.WI.F uS;obtain⟨U,x,pe,aF,aK,nW,bV,s,m,last,rfl,LB,hl,l1,l2,fs,fm,k1,k2,k3⟩:=h;obtain⟨S,SW,d,wl,sh,bl,kn,du,bk,dS,st,op,dw,sg,ow,pw,db,tb,ops,LU⟩:=id LB;have L:=LU.L;have lo:=ko L hl;have lp:(j7 pe).length=pe.length:=cD _;exists _,(au (aJ (cR (cP (pv 0) rfl) D.bZ D.aao (uR D) hr Kl (aa (pv 1) (aa (pv 2) ah)))));refine⟨Y,x,C,d,_,.ref sh,rfl,L.hx,D.aS.cl,D.eZ,rfl,sh,dS,Y,L.W.hx,rfl,Y,Y,S,sh,dS,st,op,j7 pe,ops,s,m,rfl,L.W,⟨Q,Q⟩,fs,fm,by rw[lo];exact k1,by rw[lo,lp];exact k2,λsi mi QH es em sl er=>?_⟩;have er2:(pe.map (List.map aI))[mi]?=some QH:=er;rw[nG]at er2;obtain⟨rows,er',rfl⟩:=Option.map_eq_some_iff.mp er2;have z:=k3 si mi rows es em ∅ er';rw[cD];refine⟨z.1,λaO ei=>?_⟩;rw[nG]at ei;obtain⟨es,ee,rfl⟩:=Option.map_eq_some_iff.mp ei;exact z.2 es ee
theorem sO:aH ["self","sheet","moment"] ["self","sheet","moment"] (aA ji):=eO
class inductive KR(C CS CW CB:Addr)
 | mk (U:Addr->Prop) (x:Addr) (pe:iu) (aF:iY) (aK:gA) (nW:Nat) (s m:Nat) (rows last:cS) (sh:Int->List Int) (_:vs=[.ref x,.int (s:Nat),.int (m:Nat)]) (_:qA C CS CW CB U H x pe aF aK nW []) (_:pe[m]?=some rows) (_:s<rows.length) (_:rows.length<=50) (_:pe.length<=900) (_:pe.getLast?=some last) (_:last.length<=50) (_:Seen rows sh) (_:(sh (s:Nat)).length<=1000) (_:∀ a∈sh (s:Nat),0<=a/\a<(aK.length:Nat)) (_:∀ H',aL H H'->Q (.str (eX ((sh (s:Nat)).map (yN aK)))) H')
theorem kM:‹(6,77,["self","sheet","moment"],(KR C CS CW CB))›:=λD=>by
 obtain⟨Tt,Tu⟩:=D.G.h;refine eV D.aap.F sO λcN A zn s0 H vs Q E hr h=>?_;obtain⟨U,x,pe,aF,aK,nW,s,m,rows,last,f0,rfl,LB,er,sr,l1,l2,hl,l3,sn,ls,hin,k⟩:=h;exists _,(au (aJ (cR (pv 0) D.aS D.aan (v7 D) hr bO (aa (cR (pv 0) D.aS D.WJ (gF D) hr bO (aa (pv 1) (aa (pv 2) ah))) (aa (Dd (v:=.str "#") rfl Tu ⟨Tt,rfl⟩) ah)))));refine⟨Y,LB.m ⟨Y,LB.m ⟨Y,Y,U,x,pe,aF,aK,nW,[],s,m,rows,last,f0,rfl,LB,er,sr,l1,l2,hl,l3,sn,λo H1 ho s1 fo=>?_⟩⟩⟩;exact⟨U,x,o,pe,aF,aK,nW,cL (f0 (s:Nat)),Y,LB.same s1,ho,mS _,by rw[eL];lia,by rw[eL];exact hin,by rw[eL];exact λH2 s2=>k H2 (s1.trans s2)⟩
theorem PM{z:Str}{i:Int}{n:Nat}(hn:z.length=n)(h0:0<=i)(h1:i<n):∃ c,qx z.cps.toList i=some c:=by
 have hl:i.toNat<z.cps.toList.length:=by
  have:z.cps.toList.length=z.length:=by show _=z.cps.size;simp
  lia
 exists z.cps.toList[i.toNat];have e:qx z.cps.toList ((i.toNat:Nat):Int)=some z.cps.toList[i.toNat]:=cQ (by simp);rw[Int.toNat_of_nonneg h0]at e;exact e
class inductive Tv
 | mk (l c:Addr) (b:Bool) (_:vs=[.ref l,.bl b]) (_:dB H l c) (_: ∀ (ch:Nat) (H':Hp),dB H' l c->(∀ a,a≠l->H' a=H a)->Q (zb ch) H')
class inductive Tw
 | mk (l c:Addr) (m:Nat) (_:vs=[.ref l,.int (m:Nat)]) (_:dB H l c) (_:m<=1000) (_: ∀ (cs:List Nat) (H':Hp),cs.length=m->dB H' l c->cJ l H H'->Q (.str (eX cs)) H')
theorem yo:aH ["_law_src_here","_law_few","_law_some"] ["_law_src_here","_law_few"] (aA um):=eO
theorem yp:aH ["_law_src_here","_law_many","_law_few"] ["_law_src_here","_law_many"] (aA pR):=eO
theorem Gy:‹(2,78,["_law_src_here","_law_few"],Tv)›:=λD=>by
 specialize eV D.aaq.F yo;obtain⟨l,c,b,rfl,S,k⟩:=h;refine⟨_,(aj (aW (i:=2) yo.nd br) (aj (bK (mj (pv 1) (λ_=>rfl)) (au (aJ (aQ Nz br (aG D.vH (fC D) hr (aa (pv 0) (aa ay ah)))))) aX) (au (aJ (aQ Nz (pv 2) (aG D.vH (fC D) hr (aa (pv 0) (aa ay ah)))))))),?_⟩;refine⟨Y,b,rfl,cI (λ_=>?_) (λ_=>?_)⟩
 ·refine⟨Y,l,c,4,rfl,S,E,E,λv H1 a0 a1 S1 k1=>?_⟩;obtain⟨ch,e⟩:=PM (z:=Str.ofString "a# b") (n:=4) nofun a0 a1;exact⟨P,ch,V,nofun,e,k ch H1 S1 k1⟩
 ·refine⟨Y,Y,l,c,94,rfl,S,E,E,λv H1 a0 a1 S1 k1=>?_⟩;obtain⟨ch,e⟩:=PM (z:=Str.ofString " !\"#$&'()*+,-./0123456789:;<=>?@ABCDEFGHIJKLMNOPQRSTUVWXYZ[\\]^_`abcdefghijklmnopqrstuvwxyz{|}~") (n:=94) nofun a0 a1;exact⟨P,ch,V,nofun,e,k ch H1 S1 k1⟩
theorem Gz:‹(3,79,["_law_src_here","_law_many"],Tw)›:=λD=>by
 specialize eV D.aar.F yp;obtain⟨l,c,m,rfl,S,hm,k⟩:=h;refine⟨_,(aj (aW (i:=2) yp.nd (j8 dY (aG D.vH (fC D) hr (aa (pv 0) (aa ay ah))) ay (bq _))) (au (aJ (dM PySem.F.plainAttrs_str PySem.F.slot_str_join PySem.F.type_str_join Ab br (aa (gV (N:=["_law_k","_law_src_here","_law_few"]) (nP (sc:=aA pR) (NX:=["_law_src_here","_law_many","_law_few"]) (jx:=[none,some 0,some 2]) rfl rfl rfl nofun nofun rfl nofun rfl nofun) rfl (jq rfl D.T.jd (aa (pv 1) ah)) (λ_ _ _ _ _ _=>(cu (i:=0) (show List.Nodup (["_law_k","_law_src_here","_law_few"]:List Str) by decide +kernel))) (λ_ _ _ _ _ _=>gI) (λ_ _ _ _ _ _=>(aG D.aaq (Gy D) hr (aa (pv 1) (aa (pv 2) ah))))) ah))))),?_⟩;refine⟨Y,l,c,2,rfl,S,E,E,λv H1 _ _ S1 k1=>⟨rfl,?_⟩⟩;have K1:cJ l H H1:=λb o e m=>(k1 b m).trans e;refine⟨rfl,Y,(m:Nat),rfl,Q,Q,λacc cY=>yd (lo:=0) (k:=((m:Nat):Int).toNat) (λi σ H2=>∃ (u:Option V) (cs:List Nat),σ=[u,some (.ref l),some (.bl (decide (V.int v=V.int 0)))]/\H2 acc=some (.lst (cs.map zb))/\cs.length=i/\dB H2 l c/\cJ l H H2) ⟨none,[],rfl,af,rfl,S1.same (ak cY _),λb o e m=>ak cY _ _ _ (K1 _ _ e m)⟩ ?_ ?_⟩
 ·rintro i σ H2 hi ⟨u,cs,rfl,ha,hl,S2,K2⟩;have na:acc≠l:=(S1.ne cY).1.symm;have nc:acc≠c:=(S1.ne cY).2.symm;refine⟨Y,Y,l,c,Y,S2,λch H3 S3 k3=>⟨_,by rw[k3 acc na];exact ha,(by rw[cD];exact aV ∅),_,cs++[ch],rfl,?_,?_,?_,?_⟩⟩
  ·rw[af,gG];rfl
  ·rw[dz,hl];rfl
  ·exact S3.keep (aM acc _ _) na.symm nc.symm
  ·intro b o e m;by_cases z:b=acc
   ·rw[z]at e;have:=iC K1 na cY;rw[this]at e;cases e
   rw[aN z,k3 b m];exact K2 _ _ e m
 ·rintro σ H2 ⟨u,cs,rfl,ha,hl,S2,K2⟩;have hl':cs.length=m:=by lia
  exact⟨acc,cs,V,ha,Q,k cs H2 hl' S2 K2⟩
theorem Ea{α β:Type}{F:α->β->Prop}{xs:List α}{ys:List β}{x:α}{y:β}(h:Paired F xs ys)(e:F x y):Paired F (xs++[x]) (ys++[y]):=by
 induction h with
 | nil=>exact .cons e .nil
 | cons r _ ih=>exact .cons r ih
theorem BB{α β:Type}{F:α->β->Prop}{xs xs':List α}{ys ys':List β}(h:Paired F xs ys)(t:Paired F xs' ys'):Paired F (xs++xs') (ys++ys'):=by
 induction h with
 | nil=>exact t
 | cons e _ ih=>exact .cons e ih
def KS(H:Hp)(a:Addr)(q:Int × Nat):Prop:=H a=some (.tup [.int q.1,zb q.2])
inductive Eb(H:Hp)(v:Addr)(aK:gA):Prop
 | mk (as:List Addr) (_:H v=some (.lst (as.map V.ref))) (_:Paired (KS H) as aK)
abbrev kI:fj:=.inr (Str.ofString "ink")
abbrev kR:fj:=.inr (Str.ofString "rows")
abbrev kP:fj:=.inr (Str.ofString "past")
abbrev kVl:fj:=.inr (Str.ofString "veil")
abbrev rB(ik rw ps vl:Addr):List (fj × V):=[(kI,.ref ik),(kR,.ref rw),(kP,.ref ps),(kVl,.ref vl)]
def UT(W:Addr->Prop)(ik ps:Addr)(H:Hp)(v:V)(es:List Int):Prop:=∃ b,v=.ref b/\W b/\b≠ik/\b≠ps/\H b=some (.lst (es.map V.int))
def Na(W:Addr->Prop)(ik ps:Addr)(H:Hp)(a:Addr)(rows:cS):Prop:=W a/\a≠ik/\a≠ps/\∃ vs,H a=some (.lst vs)/\bU (UT W ik ps H) vs rows
structure ML(W:Addr->Prop)(H:Hp)(w ik rw ps vl:Addr)(aK:gA)(pe:iu)(rows:cS):Prop where
 ww:W w
 wi:W ik
 wp:W ps
 wv:W vl
 al:∀ a,W a->∃ ob,H a=some ob
 hw:H w=some (.dK (rB ik rw ps vl))
 hi:Eb H ik aK
 hr:Na W ik ps H rw rows
 hp:∃ vs,H ps=some (.lst vs)/\bU (λv rs=>∃ a,v=.ref a/\Na W ik ps H a rs) vs pe
 ne:ik≠ps
 lst:pe.getLast?=some rows
 hv:H vl=some (.lst [])
 nv:vl≠ik/\vl≠ps
def Wo(W:Addr->Prop)(H:Hp)(w:Addr)(aK:gA)(pe:iu)(rows:cS):Prop:=∃ ik rw ps vl,ML W H w ik rw ps vl aK pe rows
theorem UT.fr{W W':Addr->Prop}{H H':Hp}{v:V}{es:List Int}(s:∀ a,W a->W' a)(k:∀ a xs,H a=some (.lst xs)->W a->a≠ik->a≠ps->H' a=some (.lst xs)):UT W ik ps H v es->UT W' ik ps H' v es:=λ⟨b,e,w,n1,n2,h⟩=>⟨b,e,s _ w,n1,n2,k _ _ h w n1 n2⟩
theorem Na.fr{W W':Addr->Prop}{H H':Hp}{a:Addr}{rows:cS}(s:∀ a,W a->W' a)(k:∀ a xs,H a=some (.lst xs)->W a->a≠ik->a≠ps->H' a=some (.lst xs)):Na W ik ps H a rows->Na W' ik ps H' a rows:=λ⟨w,n1,n2,vs,h,al⟩=>⟨s _ w,n1,n2,vs,k _ _ h w n1 n2,al.mono λ_ _=>UT.fr s k⟩
theorem Eb.two{H H':Hp}{v:Addr}{aK:gA}(h:Eb H v aK)(k:∀ xs,H v=some (.lst xs)->H' v=some (.lst xs))(t:∀ a xs,H a=some (.tup xs)->H' a=some (.tup xs)):Eb H' v aK:=by
 obtain⟨as,hv,pa⟩:=h;exact⟨as,k _ hv,Paired.Hz pa λa q e=>t _ _ e⟩
theorem ML.fr{W:Addr->Prop}{H H':Hp}{w rw:Addr}{aK:gA}{pe:iu}{rows:cS}(h:ML W H w ik rw ps vl aK pe rows)(k:∀ a ob,H a=some ob->W a->H' a=some ob)(t:∀ a xs,H a=some (.tup xs)->H' a=some (.tup xs)):ML W H' w ik rw ps vl aK pe rows:=by
 obtain⟨ww,wi,wp,wv,al,hw,hi,hr,⟨vs,hp,a2⟩,ne,lst,hv,nv⟩:=h;refine⟨ww,wi,wp,wv,λa z=>?_,k _ _ hw ww,hi.two (λxs e=>k _ _ e wi) t,hr.fr (λ_ z=>z) (λa xs e z _ _=>k _ _ e z),⟨vs,k _ _ hp wp,a2.mono λv rs ⟨a,e,z⟩=>⟨a,e,z.fr (λ_ y=>y) (λa xs e y _ _=>k _ _ e y)⟩⟩,ne,lst,k _ _ hv wv,nv⟩;obtain⟨ob,e⟩:=al a z;exact⟨ob,k _ _ e z⟩
theorem Wo.fr{W:Addr->Prop}{H H':Hp}{w:Addr}{aK:gA}{pe:iu}{rows:cS}(h:Wo W H w aK pe rows)(k:∀ a ob,H a=some ob->W a->H' a=some ob)(t:∀ a xs,H a=some (.tup xs)->H' a=some (.tup xs)):Wo W H' w aK pe rows:=by
 obtain⟨ik,rw,ps,vl,z⟩:=h;exact⟨ik,rw,ps,vl,z.fr k t⟩
theorem Wo.same{W:Addr->Prop}{H H':Hp}{w:Addr}{aK:gA}{pe:iu}{rows:cS}(h:Wo W H w aK pe rows)(s:aL H H'):Wo W H' w aK pe rows:=h.fr (λa ob e _=>s a ob e) λa xs e=>s _ _ e
def KU:Sp:=λvs H Q _=>vs=[]/\∀ (W:Addr->Prop) (w:Addr) (H':Hp),Wo W H' w [] [[]] []->(∀ a,W a->H a=none)->aL H H'->Q (.ref w) H'
theorem Ec:aH [] [] (aA nM):=eO
theorem abi{X:Cx}{s1 s2 s3 s4:Str}{a1 a2 a3 a4:Nat}{p1 p2 p3 p4 pos:Pos}{v1 v2 v3 v4:Expr}{t1 t2 t3 t4:TE}(h1:PE X v1 t1)(h2:PE X v2 t2)(h3:PE X v3 t3)(h4:PE X v4 t4) :
  PE X (.Dict [some (.Constant (.str s1) a1 p1),some (.Constant (.str s2) a2 p2),some (.Constant (.str s3) a3 p3),some (.Constant (.str s4) a4 p4)] [v1,v2,v3,v4] pos) (Oi [(tC (.str s1),t1),(tC (.str s2),t2),(tC (.str s3),t3),(tC (.str s4),t4)]) :=
 RM (vB br h1 (vB br h2 (vB br h3 (vB br h4 RL)))) rfl rfl (by simp) (by show 4<=15;decide)
abbrev tWo:TE:=Oi [(tC (.str "ink"),Lp zx),(tC (.str "rows"),Lp zx),(tC (.str "past"),Lp (Nq (Lp zx) zx)),(tC (.str "veil"),Lp zx)]
theorem PN:∃ (e:Expr) (p:Pos),iA nM=[.Return (some e) p]/\∀ X:Cx,PE X e tWo :=
 ⟨P,rfl,λX=>@abi X _ _ _ _ _ _ _ _ _ _ _ _ _ _ _ _ _ _ _ _ _ (bN ah) (bN ah) (bN (aa (bN ah) ah)) (bN ah)⟩
theorem Ed:‹(1,80,[],KU)›:=λD=>by
 specialize eV D.Si.F Ec;obtain⟨rfl,k⟩:=h;obtain⟨e,p,he,pw⟩:=PN;rw[he];exists _,au (aJ (pw _));intro w hw;refine⟨iR,λik Ht=>⟨iR,λrw hrw=>⟨iR,λz hz=>⟨jS,λps Ef=>⟨iR,λvl Tz=>?_⟩⟩⟩⟩⟩;have s0:=ak hw (.dK []);have w0:(aP H w (.dK [])) w=some (.dK []):=af;generalize aP H w (.dK [])=H0 at s0 w0 Ht hrw hz Ef Tz;have s1:=ak Ht (.lst []);have i1:(aP H0 ik (.lst [])) ik=some (.lst []):=af;generalize aP H0 ik (.lst [])=H1 at s1 i1 hrw hz Ef Tz;have s2:=ak hrw (.lst []);have r2:(aP H1 rw (.lst [])) rw=some (.lst []):=af;generalize aP H1 rw (.lst [])=H2 at s2 r2 hz Ef Tz;have s3:=ak hz (.lst []);have z3:(aP H2 z (.lst [])) z=some (.lst []):=af;generalize aP H2 z (.lst [])=H3 at s3 z3 Ef Tz;have s4:=ak Ef (.lst [.ref z]);have p4:(aP H3 ps (.lst [.ref z])) ps=some (.lst [.ref z]):=af;generalize aP H3 ps (.lst [.ref z])=H4 at s4 p4 Tz;have s5:=ak Tz (.lst []);have v5:(aP H4 vl (.lst [])) vl=some (.lst []):=af;generalize aP H4 vl (.lst [])=H5 at s5 v5;have Px:aL H1 H5:=s2.trans (s3.trans (s4.trans s5));have s05:aL H0 H5:=s1.trans Px;have w5:=s05 _ _ w0;have i5:=Px _ _ i1;have r5:=(s3.trans (s4.trans s5)) _ _ r2;have z5:=(s4.trans s5) _ _ z3;have p5:=s5 _ _ p4;have nl:∀ {a:Addr} {xs:List V},H5 a=some (.lst xs)->a≠w:=λ{a xs} e q=>by rw[q,w5]at e;cases e
 have n1:rw≠ik:=(aB i1 hrw).symm;have n2:rw≠ps:=aB (s3 _ _ r2) Ef;have n3:z≠ik:=(aB (s2 _ _ i1) hz).symm;have n4:z≠ps:=aB z3 Ef;have n5:ik≠ps:=aB ((s2.trans s3) _ _ i1) Ef;refine⟨w5,rB ik rw ps vl,rfl,(by show 4<=15;decide),?_⟩;rw[show wX [] (rB ik rw ps vl)=rB ik rw ps vl by kernel_rfl];have up:∀ {a:Addr} {xs:List V},H5 a=some (.lst xs)->(aP H5 w (.dK (rB ik rw ps vl))) a=some (.lst xs):=λ{a xs} e=>by rw[aN (nl e)];exact e
 have f0:∀ a,H0 a=none->H a=none:=λa e=>bu s0 e;refine k (λa=>a=w\/a=ik\/a=rw\/a=z\/a=ps\/a=vl) w _ ⟨ik,rw,ps,vl,.inl rfl,.inr (.inl rfl),.inr (.inr (.inr (.inr (.inl rfl)))),.inr (.inr (.inr (.inr (.inr rfl)))),λa e=>?_,af,⟨[],up i5,.nil⟩,⟨.inr (.inr (.inl rfl)),n1,n2,[],up r5,.nil⟩,⟨[.ref z],up p5,.cons ⟨z,rfl,.inr (.inr (.inr (.inl rfl))),n3,n4,[],up z5,.nil⟩ .nil⟩,n5,rfl,up v5,(aB ((s2.trans (s3.trans s4)) _ _ i1) Tz).symm,(aB p4 Tz).symm⟩ (λa e=>?_) (bP hw (s0.trans s05) (aM w _ _))
 ·rcases e with rfl|rfl|rfl|rfl|rfl|rfl
  ·exact⟨_,af⟩
  ·exact⟨_,up i5⟩
  ·exact⟨_,up r5⟩
  ·exact⟨_,up z5⟩
  ·exact⟨_,up p5⟩
  ·exact⟨_,up v5⟩
 ·rcases e with rfl|rfl|rfl|rfl|rfl|rfl
  ·exact hw
  ·exact f0 _ Ht
  ·exact f0 _ (bu s1 hrw)
  ·exact f0 _ (bu s1 (bu s2 hz))
  ·exact f0 _ (bu s1 (bu s2 (bu s3 Ef)))
  ·exact f0 _ (bu s1 (bu s2 (bu s3 (bu s4 Tz))))
class inductive Xu
 | mk (W:Addr->Prop) (w r:Addr) (aK:gA) (pe:iu) (rows rows':cS) (_:vs=[.ref w,.ref r]) (_:Wo W H w aK pe rows) (_:pe.length<=1000) (_:(∀ ik ps,(∃ rw vl,H w=some (.dK (rB ik rw ps vl)))->Na W ik ps H r rows')) (_: ∀ (H':Hp),Wo W H' w aK (pe++[rows']) rows'->(∀ a ob,H a=some ob->¬ W a->H' a=some ob)->(∀ a xs,H a=some (.tup xs)->H' a=some (.tup xs))->(∀ ik rw ps vl,H w=some (.dK (rB ik rw ps vl))->∀ a xs,H a=some (.lst xs)->a≠ps->H' a=some (.lst xs))->Q .fH H')
theorem GA:aH ["_law_world_here","_law_rows"] ["_law_world_here","_law_rows"] (aA uo):=eO
theorem rC:‹(1,81,["_law_world_here","_law_rows"],Xu)›:=λD=>by
 specialize eV D.Sj.F GA;obtain⟨W,w,r,aK,pe,rows,rows',rfl,⟨ik,rw,ps,vl,h⟩,lp,hr',k⟩:=h;have hu:=gC hr;exists _,(aj (vA hu (pv 0) br (pv 1) rfl) (au (aY (dM qw jX jY bT (gj hu (pv 0) br) (aa (pv 1) ah)))));have KC:=hr' ik ps ⟨rw,vl,h.hw⟩;refine⟨Y,Y,w,Y,DA.k (k:=kR) h.hw (by show 4<sizeLine;decide),?_⟩;rw[show eT (rB ik rw ps vl) kR (.ref r)=rB ik r ps vl by kernel_rfl];obtain⟨PR,hp,al⟩:=h.hp;have k1:=aM w H (.dK (rB ik r ps vl));have w1:(aP H w (.dK (rB ik r ps vl))) w=some (.dK (rB ik r ps vl)):=af;have nw:∀ {a:Addr} {o:HO},H a=some o->(∀ kvs,o≠.dK kvs)->a≠w:=λ{a o} e n q=>by rw[q,h.hw]at e;cases e;exact n _ rfl
 generalize aP H w (.dK (rB ik r ps vl))=H1 at k1 w1;have Yi:=k1 _ _ hp (nw hp (λ_ z=>by cases z));have z:=iD.k (k:=kP) w1;rw[show cE (rB ik r ps vl) kP=some (.ref ps) by kernel_rfl]at z;have lpv:PR.length=pe.length:=al.len;refine⟨Y,w,Y,z,.inl ⟨rfl,_,bL.of Yi⟩,Y,ps,Z,Yi,aV ∅,?_⟩;have nps:w≠ps:=(nw hp (λ_ z=>by cases z)).symm
 have ls:∀ a xs,H a=some (.lst xs)->a≠ps->(aP H1 ps (.lst (PR++[.ref r]))) a=some (.lst xs):=λa xs e n=>by
  rw[aN n];exact k1 _ _ e (nw e (λ_ z=>by cases z))
 have tp:∀ a xs,H a=some (.tup xs)->(aP H1 ps (.lst (PR++[.ref r]))) a=some (.tup xs):=λa xs e=>by
  rw[aN (dH e hp)];exact k1 _ _ e (nw e (λ_ z=>by cases z))
 have rwf:∀ {a:Addr} {rs:cS},Na W ik ps H a rs->Na W ik ps (aP H1 ps (.lst (PR++[.ref r]))) a rs:=λ{a rs} q=>q.fr (λ_ y=>y) λa xs e _ _ n=>ls a xs e n;have IP:=rwf KC
 refine k _ ⟨ik,r,ps,vl,h.ww,h.wi,h.wp,h.wv,λa wa=>?_,?_,h.hi.two (λxs e=>ls _ _ e h.ne) tp,IP,⟨_,af,(al.mono λv rs ⟨a,e,q⟩=>⟨a,e,rwf q⟩).app (.cons ⟨r,rfl,IP⟩ .nil)⟩,h.ne,sG,ls _ _ h.hv h.nv.2,h.nv⟩ (λa ob e n=>?_) tp λik' rw2 wz vl' ee a xs e n=>ls a xs e (by
  rw[h.hw]at ee;simp only[Option.some.injEq,HO.dK.injEq,rB,List.cons.injEq,Prod.mk.injEq,V.ref.injEq,true_and,and_true]at ee;rw[ee.2.2.1]
  exact n)
 ·by_cases e1:a=ps
  ·rw[e1];exact⟨_,af⟩
  rw[aN e1];by_cases e2:a=w
  ·rw[e2];exact⟨_,w1⟩
  ·obtain⟨ob,e⟩:=h.al a wa;exact⟨ob,k1 _ _ e e2⟩
 ·rw[aN nps];exact w1
 ·rw[aN (λq=>n (by rw[q];exact h.wp))];exact k1 _ _ e (λq=>n (by rw[q];exact h.ww))
theorem qA.al{C:Addr}{U:Addr->Prop}{H:Hp}{x:Addr}{pe:iu}{aF:iY}{aK:gA}{nW:Nat}{bV:Row}(h:qA C CS CW CB U H x pe aF aK nW bV){a:Addr}(z:U a):∃ ob,H a=some ob:=by
 obtain⟨S,SW,d,wl,sh,bl,kn,du,bk,dS,st,op,dw,sg,ow,pw,db,tb,ops,L,W,B,R,Xm,dj,db',dt,u⟩:=h;obtain⟨as,hR,_⟩:=R;rcases (u a).mp z with y|y|y|y|y|y
 ·exact L.W.al a y
 ·exact W.al a y
 ·rw[y];exact⟨_,L.hb⟩
 ·rw[y];exact⟨_,L.hx⟩
 ·rw[y];exact⟨_,B⟩
 ·rw[y];exact⟨_,hR⟩
theorem Wo.al{W:Addr->Prop}{H:Hp}{w:Addr}{aK:gA}{pe:iu}{rows:cS}(h:Wo W H w aK pe rows){a:Addr}(z:W a):∃ ob,H a=some ob:=by
 obtain⟨ik,rw,ps,vl,y⟩:=h;exact y.al a z
structure sP(C CS CW CB:Addr)(H:Hp)(l c w x:Addr)(U W:Addr->Prop)(pe:iu)(rows:cS)(pq:iu)(rq:cS)(aF:iY)(aK:gA)(nW:Nat)(bV:Row):Prop where
 src:dB H l c
 TF:qA C CS CW CB U H x pe aF aK nW bV
 lst:pe.getLast?=some rows
 wo:Wo W H w aK pq rq
 du:∀ a,U a->¬ W a/\a≠l/\a≠c
 dw:∀ a,W a->a≠l/\a≠c
def KW(l:Addr)(U W U' W':Addr->Prop)(H H':Hp):Prop:=(∀ a,U' a\/W' a->U a\/W a\/H a=none)/\(∀ a ob,H a=some ob->a≠l->¬ U a->¬ W a->H' a=some ob)/\∀ a xs,H a=some (.tup xs)->H' a=some (.tup xs)
theorem KW.trans{U W U1 W1 U2 W2:Addr->Prop}{H H1 H2:Hp}(f:KW l U W U1 W1 H H1)(hl:∃ ls,H1 l=some ls)(g:KW l U1 W1 U2 W2 H1 H2):KW l U W U2 W2 H H2:=by
 have key:∀ a,U1 a\/W1 a\/H1 a=none->U a\/W a\/H a=none:=by
  intro a z;rcases z with z|z|z
  ·exact f.1 a (.inl z)
  ·exact f.1 a (.inr z)
  by_cases u:U a
  ·exact .inl u
  by_cases v:W a
  ·exact .inr (.inl v)
  refine .inr (.inr ?_)
  cases ea:H a with
  | none=>rfl
  | some ob =>
   exfalso;by_cases n:a=l
   ·obtain⟨ls,hl⟩:=hl;rw[n,hl]at z;cases z
   rw[f.2.1 _ _ ea n u v]at z;cases z
 have wm:∀ a ob,H a=some ob->¬ U a->¬ W a->¬ U1 a/\¬ W1 a:=by
  intro a ob e u v;refine⟨λz=>?_,λz=>?_⟩
  ·rcases f.1 a (.inl z) with y|y|y
   ·exact u y
   ·exact v y
   ·rw[y]at e;cases e
  ·rcases f.1 a (.inr z) with y|y|y
   ·exact u y
   ·exact v y
   ·rw[y]at e;cases e
 exact⟨λa z=>key a (g.1 a z),λa ob e n u v=>g.2.1 _ _ (f.2.1 _ _ e n u v) n (wm a ob e u v).1 (wm a ob e u v).2,λa xs e=>g.2.2 _ _ (f.2.2 _ _ e)⟩
theorem sP.mv{C:Addr}{H H':Hp}{c w x:Addr}{U W:Addr->Prop}{pe:iu}{rows:cS}{pq:iu}{rq:cS}{aF:iY}{aK:gA}{nW:Nat}{bV:Row}(h:sP C CS CW CB H l c w x U W pe rows pq rq aF aK nW bV)(k:cJ l H H')(s:dB H' l c):sP C CS CW CB H' l c w x U W pe rows pq rq aF aK nW bV:=by
 obtain⟨ls,hl⟩:=h.src.lst;have t:∀ a xs,H a=some (.tup xs)->H' a=some (.tup xs):=λa xs e=>k _ _ e (dH e hl);exact⟨s,h.TF.fr (λa ob e z=>k _ _ e (h.du a z).2.1) t,h.lst,h.wo.fr (λa ob e z=>k _ _ e (h.dw a z).1) t,h.du,h.dw⟩
theorem sP.same{C:Addr}{H H':Hp}{c w x:Addr}{U W:Addr->Prop}{pe:iu}{rows:cS}{pq:iu}{rq:cS}{aF:iY}{aK:gA}{nW:Nat}{bV:Row}(h:sP C CS CW CB H l c w x U W pe rows pq rq aF aK nW bV)(s:aL H H'):sP C CS CW CB H' l c w x U W pe rows pq rq aF aK nW bV:=h.mv (λa o e _=>s a o e) (h.src.same s)
theorem GB{α:Type}{xs:List α}{v:Int}(v0:0<=v)(v1:v<xs.length):∃ x∈xs,qx xs v=some x:=by
 obtain⟨j,rfl⟩:∃ j:Nat,v=j:=⟨v.toNat,Q⟩;have hj:j<xs.length:=by lia
 exact⟨xs[j],List.getElem_mem hj,cQ (sF hj)⟩
theorem sP.UU{W W':Addr->Prop}{H:Hp}{w rw:Addr}{aK:gA}{pe:iu}{rows:cS}(h:ML W H w ik rw ps vl aK pe rows)(s:∀ a,W a->W' a)(al:∀ a,W' a->∃ ob,H a=some ob):ML W' H w ik rw ps vl aK pe rows:=by
 obtain⟨ww,wi,wp,wv,_,hw,hi,hr,⟨vs,hp,a2⟩,ne,lst,hv,nv⟩:=h;exact⟨s _ ww,s _ wi,s _ wp,s _ wv,al,hw,hi,hr.fr s (λa xs e _ _ _=>e),⟨vs,hp,a2.mono λv rs ⟨a,e,z⟩=>⟨a,e,z.fr s (λa xs e _ _ _=>e)⟩⟩,ne,lst,hv,nv⟩
theorem dB.fru{U U':Addr->Prop}{H H':Hp}{c:Addr}(S:dB H l c)(fr:KP U U' H H')(nl:¬ U l)(nc:¬ U c):dB H' l c:=by
 obtain⟨n,ns,i,d,r,e1,e2,h3⟩:=S;exact⟨n,ns,i,d,r,fr.2.1 _ _ e1 nl,fr.2.1 _ _ e2 nc,h3⟩
theorem sP.ae6{C:Addr}{H H':Hp}{c w x:Addr}{U U' W:Addr->Prop}{pe AA:iu}{rows rows':cS}{pq:iu}{rq:cS}{aF dm:iY}{aK:gA}{nW PU:Nat}{bV UW:Row}(St:sP C CS CW CB H l c w x U W pe rows pq rq aF aK nW bV)(L':qA C CS CW CB U' H' x AA dm aK PU UW)(hl:AA.getLast?=some rows')(fr:KP U U' H H'):sP C CS CW CB H' l c w x U' W AA rows' pq rq dm aK PU UW/\KW l U W U' W H H':=by
 refine⟨⟨St.src.fru fr (λz=>(St.du l z).2.1 rfl) (λz=>(St.du c z).2.2 rfl),L',hl,St.wo.fr (λa ob e z=>fr.2.1 _ _ e (λy=>(St.du a y).1 z)) fr.2.2,λa z=>?_,St.dw⟩,λa z=>z.elim (λz=>(fr.1 a z).elim .inl λy=>.inr (.inr y)) (λz=>.inr (.inl z)),λa ob e _ u _=>fr.2.1 a ob e u,fr.2.2⟩;rcases fr.1 a z with y|y
 ·exact St.du a y
 ·have n:=St.src.ne y;refine⟨λz=>?_,n.1.symm,n.2.symm⟩;obtain⟨ob,e⟩:=St.wo.al z;rw[y]at e;cases e
theorem sP.kept{C:Addr}{H H':Hp}{c w x:Addr}{U W W':Addr->Prop}{pe:iu}{rows:cS}{pq pq':iu}{rq rq':cS}{aF:iY}{aK:gA}{nW:Nat}{bV:Row}(St:sP C CS CW CB H l c w x U W pe rows pq rq aF aK nW bV)(wo:Wo W' H' w aK pq' rq')(dU:∀ a,U a->¬ W' a)(dW:∀ a,W' a->a≠l/\a≠c)(fr:∀ a ob,H a=some ob->¬ W' a->H' a=some ob)(tp:∀ a xs,H a=some (.tup xs)->H' a=some (.tup xs)):sP C CS CW CB H' l c w x U W' pe rows pq' rq' aF aK nW bV:=by
 refine⟨?_,St.TF.fr (λa ob e z=>fr _ _ e (dU a z)) tp,St.lst,wo,λa z=>⟨dU a z,(St.du a z).2⟩,dW⟩;obtain⟨n,ns,i,d,r,e1,e2,h3⟩:=St.src;exact⟨n,ns,i,d,r,fr _ _ e1 (λz=>(dW l z).1 rfl),fr _ _ e2 (λz=>(dW c z).2 rfl),h3⟩
theorem sP.new{C:Addr}{H:Hp}{c w x a:Addr}{U W:Addr->Prop}{pe:iu}{rows:cS}{pq:iu}{rq:cS}{aF:iY}{aK:gA}{nW:Nat}{bV:Row}(St:sP C CS CW CB H l c w x U W pe rows pq rq aF aK nW bV)(h:H a=none):¬ U a/\¬ W a/\a≠l/\a≠c:=by
 have n:=St.src.ne h;refine⟨λz=>?_,λz=>?_,n.1.symm,n.2.symm⟩
 ·obtain⟨ob,e⟩:=St.TF.al z;rw[h]at e;cases e
 ·obtain⟨ob,e⟩:=St.wo.al z;rw[h]at e;cases e
def own(rows:cS)(x:Int):List Int:=(rows[x.toNat]?).getD []
theorem GC{rows:cS}{s:Nat}(es:List Int)(h:s<rows.length):iX rows s es=rows.set s es:=by
 unfold iX;rw[List.set_eq_take_append_cons_drop,if_pos h,nB];rfl
theorem GD{k:Nat}:∀ {row:Row},(∀ p∈row,p.2<=p.1+(k:Nat))->(bM row).length<=k*row.length
 | [],_=>Nat.zero_le _
 | p::r,h=>by
  have ih:=GD (row:=r) λq hq=>h q (nu _ hq);have hp:=h p (tU ..);have e:bM (p::r)=jF p++bM r:=by unfold bM;rw[jv]
  rw[e,dz,ny,Nat.mul_add,Nat.mul_one];have:(jF p).length<=k:=by unfold jF;rw[fK];lia
  lia
theorem PV{n:Nat}{row:Row}(h:∀ p∈row,0<=p.1/\p.1<p.2/\p.2<=(n:Nat)){e:Int}(he:e∈bM row):0<=e/\e<(n:Nat):=by
 unfold bM at he;obtain⟨p,hp,hm⟩:=List.mem_flatMap.mp he;have b:=h p hp;have m:=Ks.mp hm;lia
class inductive Xv
 | mk (r e:Addr) (s:Nat) (xs:List V) (_:vs=[.ref r,.int (s:Nat),.ref e]) (_:H r=some (.lst xs)) (_:s<xs.length) (_:xs.length<=1000) (_:∀ (q:Addr) (H':Hp),H' q=some (.lst (xs.set s (.ref e)))->aL H H'->H q=none->Q (.ref q) H')
theorem yq:aH ["_law_rows","_law_sheet","_law_entries","_law_found"] ["_law_rows","_law_sheet","_law_entries"] (aA uq):=eO
theorem TH{n:Nat}{i:Nat}(h1:i<n):J1 n ((i:Nat):Int)=some i:=by
 unfold J1;rw[if_pos ∅,Int.toNat_natCast,if_pos ∅]
theorem yr:‹(1,82,["_law_rows","_law_sheet","_law_entries"],Xv)›:=λD=>by
 refine eV D.WK.F yq λcN A zn s0 H vs Q E hr h=>?_;obtain⟨r,e,s,xs,rfl,hr1,hs,lx,k⟩:=h;exists _,(aj (aW (i:=3) yq.nd (eN fX rfl D.T.jm tS (aa (pv 0) ah))) (aj (l9 (pv 2) (pB (pv 3) (pv 1) jz)) (au (aJ (pv 3)))));refine⟨Y,r,Y,.inl (bL.of hr1),λq hq=>?_⟩;refine⟨Y,Y,Y,q,P,s,V,af,TH hs,Y,k q _ af (bP hq (ak hq _) (aM q _ _)) hq⟩
theorem Wo.swap{W:Addr->Prop}{H:Hp}{w rw q e:Addr}{aK:gA}{pq:iu}{rq:cS}{xs:List V}{s:Nat}{es:List Int}(wu:ML W H w ik rw ps vl aK pq rq)(hx:H rw=some (.lst xs))(hq:H q=some (.lst (xs.set s (.ref e))))(he:H e=some (.lst (es.map V.int)))(nq:¬ W q)(ne:¬ W e):ML (λa=>W a\/a=e\/a=q) H w ik rw ps vl aK pq rq/\Na (λa=>W a\/a=e\/a=q) ik ps H q (rq.set s es):=by
 have Ym:ML (λa=>W a\/a=e\/a=q) H w ik rw ps vl aK pq rq:=sP.UU wu (λa z=>.inl z) (by
  rintro a (z|z|z)
  ·exact wu.al a z
  ·rw[z];exact⟨_,he⟩
  ·rw[z];exact⟨_,hq⟩)
 obtain⟨_,_,_,vs,hvs,al⟩:=id Ym.hr;rw[hx]at hvs;cases hvs;have ne':∀ {a b:Addr},W a->¬ W b->b≠a:=λwa nb z=>nb (by rw[z];exact wa);exists Ym,.inr (.inr rfl),ne' wu.wi nq,ne' wu.wp nq,_,hq
 have key:∀ {vs:List V} {rs:cS} (s:Nat),bU (UT (λa=>W a\/a=e\/a=q) ik ps H) vs rs->bU (UT (λa=>W a\/a=e\/a=q) ik ps H) (vs.set s (.ref e)) (rs.set s es):=by
  intro vs rs s z
  induction z generalizing s with
  | nil=>exact .nil
  | cons o t ih =>
   cases s with
   | zero=>exact .cons ⟨e,rfl,.inr (.inl rfl),ne' wu.wi ne,ne' wu.wp ne,he⟩ t
   | succ n=>exact .cons o (ih n)
 exact key s al
theorem lU:aH ["_law_row","_law_numbers","_law_start","_law_stop"] ["_law_row"] (aA qR):=eO
theorem Eg:‹(1,83,["_law_row"],(Rp 1000000))›:=λD=>by
 specialize eV D.aas.F lU;obtain⟨r,row,rfl,⟨as,hr1,hp⟩,EM,dN,hrl,k⟩:=h;exists _,(aj (aW (i:=1) lU.nd (bN ah)) (aj (d7 PassesOwn.never rfl (cH (pv 0)) (nZ (n:=2) rfl (ck (cu (i:=2) lU.nd) (ck (cu (i:=3) lU.nd) gH))) (au (aY (dM qw PySem.F.slot_list_extend PySem.F.type_list_extend j3 (pv 1) (aa (eN (tG rfl) rfl D.T.jm tS (aa (eN Fd rfl D.T.jd PyProof.Rows.boot_range (aa (pv 2) (aa (pv 3) ah))) ah)) ah))))) (au (aJ (pv 1)))));refine⟨iR,λq hq=>?_⟩;have s0:aL H (aP H q (.lst [])):=ak hq _;refine⟨Y,r,rfl,⟨_,bL.of (s0 _ _ hr1)⟩,dO (K:=K) (a:=r) (xs:=as.map V.ref) (λi σ H2=>∃ (u v:Option V),σ=[some (.ref r),some (.ref q),u,v]/\H2 q=some (.lst ((bM (row.take i)).map V.int))/\aL H H2) ⟨none,none,rfl,af,s0⟩ (by rintro i σ H2 _ ⟨_,_,_,_,s⟩;exact bL.of (s _ _ hr1)) ?_ ?_⟩
 ·rintro i x σ H2 hi ⟨u,v,rfl,d9,s⟩;rw[nG]at hi;obtain⟨a,ea,rfl⟩:=Option.map_eq_some_iff.mp hi;obtain⟨⟨st,en⟩,ep,ha⟩:=hp.get ea;obtain⟨b1,b2,b3⟩:=EM _ (nF ep);simp only at b1 b2 b3;have step:=zN ep
  have lz:(bM (row.take i)).length+(en-st).toNat<=1000000:=by
   have z:=tH row (i+1);rw[step,dz,jF,fK]at z;exact iJ z dN
  exists a,Y,dG.of (s _ _ ha),rfl,P,rfl,Z;refine⟨Y,.inl ⟨rfl,_,bL.of d9⟩,Y,Y,P,rfl,λp hp=>⟨p,P,rfl,af,⟨Q,Q,Q,Q⟩,gM (aV ∅),λm hm=>?_⟩⟩;have s1:aL H2 (aP H2 p (.EH st en)):=ak hp _;have s2:=s1.trans (ak hm (.lst (Cn st (en-st).toNat)));exists q,m,Z,s2 _ _ d9,af,?_
  ·rw[cD,zM,cD,fK];exact gM (aV ∅)
  ·refine⟨P,rfl,?_,bP hq (s.trans s2) (aM q _ _)⟩;rw[af,step,gG,zM];rfl
 ·rintro σ H2 ⟨u,v,rfl,d9,s⟩;refine⟨Y,k q H2 ?_ s hq⟩;rw[cD,hp.len,gK]at d9;exact d9
class inductive Eh(d:Nat)
 | mk (av:Addr->Prop) (r:Addr) (rows:cS) (x:Int) (sh:Int->List Int) (rk:Int->Nat) (_:vs=[.ref r,.int x]) (_:gW av H r rows) (_:rows.length<=1000) (_:gr rows) (_:0<=x) (_:x<rows.length) (_:mZ rows sh) (_:(∀ x:Int,0<=x->x<rows.length->(sh x).length<=10000)) (_:(∀ x y,jV rows x y->rk y<rk x)) (_:rk x<d) (_ :
 ∀ (o:Addr) (H':Hp),H' o=some (.lst ((sh x).map V.int))->aL H H'->H o=none->Q (.ref o) H')
theorem rD:aH ["_law_rows","_law_sheet","_law_numbers","_law_entry"] ["_law_rows","_law_sheet"] (aA ur):=eO
theorem BC(D:Ds K mg aZ bg C CS CW CB CT CD aC az){n:Nat}(Jf:bf P w K mg zt cM (n+1) (aZ 84) (bg 84) ["_law_rows","_law_sheet"] (Eh n)):bf P w K mg zt cM (n+2) (aZ 84) (bg 84) ["_law_rows","_law_sheet"] (Eh (n+1)):=by
 specialize eV D.FY.F rD;obtain⟨av,r,rows,x,sh,rk,rfl,R,dN,qo,x0,x1,xX,EM,yC,hd,k⟩:=h;obtain⟨es,ff⟩:∃ es,rows[x.toNat]?=some es:=⟨_,sF ∅⟩;obtain⟨yD,b,yh,DP,hb0,hrl⟩:=R.get ff
 have vL:qx yD x=some (.ref b):=by
  have z:=cQ DP;rw[show ((x.toNat:Nat):Int)=x by lia]at z;exact z
 have shx:=xX x es x0 ff
 have part:∀ i,(aU sh (es.take i)).length<=10000:=λi=>by
  have z:=EM x x0 x1
  have e:aU sh es=aU sh (es.take i)++aU sh (es.drop i):=by
   unfold aU;rw[← List.flatMap_append,List.take_append_drop]
  rw[shx,e,dz]at z;lia
 exists _,(aj (aW (i:=2) rD.nd (bN ah)) (aj (d7 PassesOwn.never rfl (cH (aQ bH (pv 0) (pv 1))) (cu (i:=3) rD.nd) (au (bK (aT iS (pv 3) ay (bq _)) (au (aY (dM qw PySem.F.slot_list_extend PySem.F.type_list_extend j3 (pv 2) (aa (aG D.FY Jf hr (aa (pv 0) (aa (bC cK (gw eK ay) (pv 3)) ah))) ah)))) (au (aY (dM qw jX jY bT (pv 2) (aa (pv 3) ah))))))) (au (aJ (pv 2)))));refine⟨iR,λq hq=>?_⟩;have s0:aL H (aP H q (.lst [])):=ak hq _;refine⟨Y,Y,r,K,V,bL.of (s0 _ _ yh),vL,b,rfl,⟨_,bL.of (s0 _ _ hb0)⟩,dO (K:=K) (a:=b) (xs:=es.map V.int) (λi σ H2=>∃ u:Option V,σ=[some (.ref r),some (.int x),some (.ref q),u]/\H2 q=some (.lst ((aU sh (es.take i)).map V.int))/\aL H H2) ⟨none,rfl,af,s0⟩ (by rintro i σ H2 _ ⟨_,_,_,s2⟩;exact bL.of (s2 _ _ hb0)) ?_ ?_⟩
 ·rintro i e σ H2 hi ⟨u,rfl,h2,s2⟩;rw[nG]at hi;obtain⟨e,ex,rfl⟩:=Option.map_eq_some_iff.mp hi
  have st:aU sh (es.take (i+1))=aU sh (es.take i)++bh sh e:=by
   rw[take_snoc ex];unfold aU;rw[List.flatMap_append];simp
  have pl:=part (i+1);rw[st,dz]at pl;refine⟨Y,Z,Y,cI (λc=>?_) (λc=>?_)⟩
  ·have c':e<0:=of_decide_eq_true c;have ee:bh sh e=sh (-1-e):=by unfold bh;rw[if_pos c']
   rw[ee]at st pl;have Hr:jV rows x (-1-e):=⟨x0,es,ff,b8.mpr ⟨Q,by rw[show -1-(-1-e)=e by lia];exact nF ex⟩⟩;obtain⟨y0,y1⟩:=qo.EK Hr;have rky:=yC _ _ Hr;refine⟨Y,.inl ⟨rfl,_,bL.of h2⟩,Y,Y,Y,Z,av,r,rows,-1-e,sh,rk,rfl,R.same s2,dN,qo,y0,y1,xX,EM,yC,Q,λo H3 h3 s3 ho=>?_⟩;refine⟨q,o,Z,s3 _ _ h2,h3,gM (aV (by rw[cD,cD];lia)),?_⟩;refine⟨Y,?_,bP hq (s2.trans s3) (aM q _ _)⟩;rw[af,st,gG]
  ·have c':¬ e<0:=λz=>c (decide_eq_true z);have ee:bh sh e=[e]:=by unfold bh;rw[if_neg c']
   rw[ee]at st pl;refine⟨Y,.inl ⟨rfl,_,bL.of h2⟩,Y,q,Z,h2,(by rw[cD];exact aV ∅),?_⟩;refine⟨Y,?_,bP hq s2 (aM q _ _)⟩;rw[af,st,gG];rfl
 ·rintro σ H2 ⟨u,rfl,h2,s2⟩;rw[cD,gK,← shx]at h2;exact⟨Y,k q H2 h2 s2 hq⟩
theorem ic(D:Ds K mg aZ bg C CS CW CB CT CD aC az):∀ n:Nat,bf P w K mg zt cM (n+1) (aZ 84) (bg 84) ["_law_rows","_law_sheet"] (Eh n)
 | 0=>by
  have no:∀ vs H Q E,¬ Eh 0 vs H Q E:=λvs H Q E h=>by
   obtain⟨_,_,_,_,_,_,_,_,_,_,_,_,_,_,_,h,_⟩:=h;exact Nat.not_lt_zero _ h
  exact⟨λvs H Q E h=>absurd h (no vs H Q E),λA zn s H args us vs Q E _ _ _ _ h=>absurd h (no vs H Q E)⟩
 | n+1=>BC D (ic D n)
def Nb(rows:cS):Nat->Int->List Int
 | 0,_=>[]
 | k+1,x=>match rows[x.toNat]? with
  | some es=>aU (Nb rows k) es
  | none=>[]
theorem rE{f g:Int->List Int}{es:List Int}(h:∀ y∈dQ es,f y=g y):aU f es=aU g es:=by
 unfold aU;rw[List.flatMap_def,List.flatMap_def];congr 1;refine List.map_congr_left λe he=>?_;unfold bh;by_cases c:e<0
 ·rw[if_pos c,if_pos c,h (-1-e) (b8.mpr ⟨Q,by rw[show -1-(-1-e)=e by lia];exact he⟩)]
 ·rw[if_neg c,if_neg c]
theorem AH{rows:cS}(h:DE rows):∃ sh,mZ rows sh:=by
 obtain⟨rk,hb,hd⟩:=h
 have key:∀ (k:Nat) (x:Int),0<=x->rk x<k->Nb rows k x=Nb rows (k+1) x:=by
  intro k
  induction k with
  | zero=>intro x _ h;lia
  | succ k ih =>
   intro x x0 hx
   cases e:rows[x.toNat]? with
   | none=>simp[Nb,e]
   | some es =>
    have e1:Nb rows (k+1) x=aU (Nb rows k) es:=by simp[Nb,e]
    have e2:Nb rows (k+1+1) x=aU (Nb rows (k+1)) es:=by
     show (match rows[x.toNat]? with|some es=>aU (Nb rows (k+1)) es|none=>[])=_;rw[e]
    rw[e1,e2];refine rE λy hy=>ih y (b8.mp hy).1 ?_;have:=hd x y ⟨x0,es,e,hy⟩;lia
 refine⟨Nb rows 41,λx es x0 he=>?_⟩;rw[key 41 x x0 (by have:=hb x;lia)];show (match rows[x.toNat]? with|some es=>aU (Nb rows 41) es|none=>[])=_;rw[he]
def AI(n:Nat)(L:List Int):Nat:=cnt n λi=>decide ((i:Int)∉L)
theorem MM{n:Nat}{L:List Int}{y:Int}(h0:0<=y)(h1:y<n)(hn:y∉L):AI n (L++[y])+1=AI n L:=by
 refine vE y.toNat n ∅ ?_ λi=>?_
 ·show decide (((y.toNat:Nat):Int)∉L)=true;rw[show ((y.toNat:Nat):Int)=y by lia];exact decide_eq_true hn
 ·show decide ((i:Int)∉L++[y])=(decide ((i:Int)∉L)&&decide (i≠y.toNat));rw[← Bool.decide_and];congr 1;rw[List.mem_append,List.mem_singleton];apply propext;constructor
  ·intro h;exact⟨λq=>h (.inl q),λq=>h (.inr ∅)⟩
  ·rintro⟨a,b⟩ (q|q)
   ·exact a q
   ·exact b ∅
theorem Ei(a b:List Int):dQ (a++b)=dQ a++dQ b:=by unfold dQ;rw[List.filterMap_append]
structure Dfs(rows:cS)(H:Hp)(Rr Wt:Addr)(s:Int)(abk:Int->Prop)(H2:Hp)(L ws:List Int):Prop where
 hR:H2 Rr=some (.lst (L.map V.int))
 hW:H2 Wt=some (.lst (ws.map V.int))
 sm:aL H H2
 rc:∀ x∈L,Reach (jV rows) s x
 wr:∀ x∈ws,(x=s\/x∈L)/\0<=x/\x<rows.length
 kl:L.length+AI rows.length L<=rows.length
 cl:∀ x,(x=s\/x∈L)->x∈ws\/abk x\/∀ y,jV rows x y->y∈L
class inductive MN
 | mk (av:Addr->Prop) (r:Addr) (rows:cS) (s:Int) (_:vs=[.ref r,.int s]) (_:gW av H r rows) (_:rows.length<=1000) (_:(∀ es∈rows,es.length<=100000)) (_:gr rows) (_:0<=s) (_:s<rows.length) (_ :
 ∀ (L:List Int) (o:Addr) (H':Hp),H' o=some (.lst (L.map V.int))->aL H H'->(∀ x,x∈L↔Reach (jV rows) s x)->Q (.ref o) H')
theorem ie:aH ["_law_rows","_law_sheet","_law_reached_here","_law_waiting","_law_here","_law_entry"] ["_law_rows","_law_sheet"] (aA om):=eO
def muR(n:Nat)(L ws:List Int):Nat:=2*AI n L+ws.length
def UX(rows:cS)(H:Hp)(r Rr Wt:Addr)(s:Int)(m:Nat)(σ:L2.St)(H2:Hp):Prop:=∃ (L ws:List Int) (u v:Option V),σ=[some (.ref r),some (.int s),some (.ref Rr),some (.ref Wt),u,v]/\Dfs rows H Rr Wt s (λ_=>False) H2 L ws/\ws.length+2*AI rows.length L<=2*rows.length+1/\m=muR rows.length L ws
theorem AJ:‹(1,85,["_law_rows","_law_sheet"],MN)›:=λD=>by
 refine eV D.aat.F ie λcN A zn s0 H vs Q E hr h=>?_;obtain⟨av,r,rows,s,rfl,hRw,dN,hes,qo,h0,h1,k⟩:=h;have hu:=gC hr;exists _,(aj (aW (i:=2) ie.nd (bN ah)) (aj (aW (i:=3) ie.nd (bN (aa (pv 1) ah))) (aj (vf PassesOwn.never (aT BX (eS D.T.eE (pv 3)) ay (bq _)) (aj (aW (i:=4) ie.nd (ND qw PySem.F.slot_list_pop PySem.F.type_list_pop NI (pv 3))) (au (d7 PassesOwn.never rfl (cH (aQ bH (pv 0) (pv 4))) (cu (i:=5) ie.nd) (au (bK (PW.pt (qK (aT iS (pv 5) ay (bq _)) (o7 (aT Dk (bC cK (gw eK ay) (pv 5)) (pv 2) rfl)))) (aj (aY (dM qw jX jY bT (pv 2) (aa (bC cK (gw eK ay) (pv 5)) ah))) (au (aY (dM qw jX jY bT (pv 3) (aa (bC cK (gw eK ay) (pv 5)) ah))))) aX)))))) (au (aJ (pv 2))))));refine⟨iR,λRr hRr=>?_⟩;refine⟨Y,jS,λWt hWt=>?_⟩;have s1:aL H (aP H Rr (.lst [])):=ak hRr _;have s2:=s1.trans (ak hWt (.lst [.int s]))
 have Sq:H Wt=none:=by
  cases e:H Wt with
  | none=>rfl
  | some o=>exact absurd ((s1 _ _ e).symm.trans hWt) (by simp)
 have nRW:Rr≠Wt:=aB af hWt;exists UX rows H r Rr Wt s,⟨_,[],[s],none,none,rfl,⟨ak hWt _ _ _ af,af,s2,?_,?_,?_,?_⟩,?_,rfl⟩
 ·intro x hx;cases hx
 ·intro x hx;have:x=s:=by simpa using hx
  exact⟨.inl this,Q,Q⟩
 ·have:=zZ rows.length (λi=>decide ((i:Int)∉([]:List Int)));show 0+cnt rows.length _<=_;lia
 ·rintro x (rfl|hx)
  ·exact .inl (by simp)
  ·cases hx
 ·have:=zZ rows.length (λi=>decide ((i:Int)∉([]:List Int)));show 1+2*cnt rows.length _<=_;lia
 rintro m σ H2 ⟨L,ws,u,v,rfl,B,hml,rfl⟩;exists Y,Wt,Y,.inl (bL.of B.hW),Z,Y;rcases oZ ws with rfl|⟨Yn,h,rfl⟩
 ·refine eY ⟨Y,k L Rr H2 B.hR B.sm λx=>⟨λhx=>B.rc x hx,λhx=>?_⟩⟩
  have zt:∀ x,(x=s\/x∈L)->∀ y,jV rows x y->y∈L:=λx hx=>by
   rcases B.cl x hx with z|z|z
   ·cases z
   ·exact z.elim
   ·exact z
  exact Reach.closed (S:=λy=>y∈L) (zt s (.inl rfl)) (λx y hx=>zt x (.inr hx) y) hx
 rw[nA]at B hml ⊢;refine cI (λ_=>?_) (λz=>absurd (decide_eq_true (by simp)) z);obtain⟨hR2,hW2,sm2,rc2,wr2,kl2,cl2⟩:=id B;obtain⟨hh,e0,e1⟩:=wr2 h (by simp);obtain⟨es,ff⟩:∃ es,rows[h.toNat]?=some es:=⟨_,sF ∅⟩;have WS:=hes es (nF ff);refine⟨fun σ' H'=>∃ m',m'<muR rows.length L (Yn++[h])/\UX rows H r Rr Wt s m' σ' H',fun σ' H' z=>z,?_⟩;refine⟨Y,.inl ⟨rfl,_,bL.of hW2⟩,Wt,_,.int h,V,hW2,(by simp),?_⟩;have ee:((Yn++[h]).map V.int).dropLast=Yn.map V.int:=by simp
 rw[ee];have OO:aL H (aP H2 Wt (.lst (Yn.map V.int))):=bP Sq sm2 (aM Wt _ _);obtain⟨yD,b,yh,DP,hb0,hrl⟩:=hRw.get ff;have hb3:=OO _ _ hb0;refine⟨Y,Y,r,K,V,bL.of (OO _ _ yh),?_,b,rfl,⟨_,bL.of hb3⟩,dO (K:=K) (a:=b) (xs:=es.map V.int) (λi σ H5=>∃ (L2 TL:List Int) (v:Option V),σ=[some (.ref r),some (.int s),some (.ref Rr),some (.ref Wt),some (.int h),v]/\ Dfs rows H Rr Wt s (λx=>x=h) H5 L2 TL/\(∀ y∈dQ (es.take i),y∈L2)/\(∀ y∈L,y∈L2)/\TL.length+2*AI rows.length L2<=Yn.length+2*AI rows.length L) ?_ ?_ ?_ ?_⟩
 ·have z:=cQ DP;rw[show ((h.toNat:Nat):Int)=h by lia]at z;exact z
 ·refine⟨L,Yn,Y,⟨(by rw[aN nRW];exact hR2),af,OO,rc2,λx hx=>wr2 x (tT _ hx),kl2,λx hx=>?_⟩,(λy hy=>by simp[dQ]at hy),λ_ q=>q,gg _⟩;rcases cl2 x hx with z|z|z
  ·rcases List.mem_append.mp z with q|q
   ·exact .inl q
   ·exact .inr (.inl (by simpa using q))
  ·exact z.elim
  ·exact .inr (.inr z)
 ·rintro i σ H5 _ ⟨_,_,_,_,B5,_⟩;exact bL.of (B5.sm _ _ hb0)
 ·rintro i x σ H5 hi ⟨L2,TL,v,rfl,B5,C6,hsub,Yd⟩;rw[nG]at hi;obtain⟨x,ex,rfl⟩:=Option.map_eq_some_iff.mp hi;have step:dQ (es.take (i+1))=dQ (es.take i)++dQ [x]:=by rw[take_snoc ex,Ei]
  refine⟨Y,Z,Y,cI (λc=>?_) (λc=>eY ?_)⟩
  ·have c':x<0:=of_decide_eq_true c;have wx:dQ [x]=[-1-x]:=by simp[dQ,c']
   have Hr:jV rows h (-1-x):=⟨e0,es,ff,by
    rw[b8]
    exact⟨Q,by rw[show -1-(-1-x)=x by lia];exact nF ex⟩⟩
   obtain⟨y0,y1⟩:=qo.EK Hr;exists Y,Y,Z,Y,Rr,Y,.inl (bL.of B5.hR),rfl,CF L2,Y;rw[Kq];by_cases hm:-1-x∈L2
   ·rw[decide_eq_true hm];refine eY ?_;refine⟨L2,TL,Y,B5,(λy hy=>?_),hsub,Yd⟩;rw[step,wx]at hy;rcases List.mem_append.mp hy with q|q
    ·exact C6 y q
    ·have:y=-1-x:=by simpa using q
     rw[this];exact hm
   ·rw[decide_eq_false hm];refine gR ?_;have kll:=B5.kl;have mp:=MM y0 y1 hm;refine⟨Y,.inl ⟨rfl,_,bL.of B5.hR⟩,Y,Y,Z,Rr,Z,B5.hR,(by rw[cD];exact aV ∅),?_⟩;have QE:(aP H5 Rr (.lst (L2.map V.int++[.int (-1-x)]))) Wt=some (.lst (TL.map V.int)):=by rw[aN nRW.symm];exact B5.hW
    refine⟨Y,.inl ⟨rfl,_,bL.of QE⟩,Y,Y,Z,Wt,Z,QE,(by rw[cD];rw[dz,iy]at hml;exact aV ∅),?_⟩;refine⟨L2++[-1-x],TL++[-1-x],Y,⟨?_,?_,bP Sq (bP hRr B5.sm (aM Rr _ _)) (aM Wt _ _),?_,?_,?_,?_⟩,?_,λy q=>tT _ (hsub y q),?_⟩
    ·rw[aN nRW,af,gG];rfl
    ·rw[af,gG];rfl
    ·intro y hy;rcases List.mem_append.mp hy with q|q
     ·exact B5.rc y q
     ·have:y=-1-x:=by simpa using q
      subst this;rcases hh with rfl|hh
      ·exact .one Hr
      ·exact .step (B.rc h hh) Hr
    ·intro y hy;rcases List.mem_append.mp hy with q|q
     ·obtain⟨q1,q2⟩:=B5.wr y q;exact⟨q1.imp id (tT _),q2⟩
     ·have:y=-1-x:=by simpa using q
      subst this;exact⟨.inr (by simp),y0,y1⟩
    ·rw[dz,iy];lia
    ·intro y hy;by_cases e:y=-1-x
     ·exact .inl (by rw[e];simp)
     ·have hy':y=s\/y∈L2:=hy.imp id λq=>by
       rcases List.mem_append.mp q with z|z
       ·exact z
       ·exact absurd (by simpa using z) e
      rcases B5.cl y hy' with q|q|q
      ·exact .inl (tT _ q)
      ·exact .inr (.inl q)
      ·exact .inr (.inr λz hz=>tT _ (q z hz))
    ·intro y hy;rw[step,wx]at hy;rcases List.mem_append.mp hy with q|q
     ·exact tT _ (C6 y q)
     ·exact oY _ q
    ·rw[dz,iy];lia
  ·have c':¬ x<0:=λz=>c (decide_eq_true z);have wx:dQ [x]=[]:=by simp[dQ,c']
   exact⟨L2,TL,Y,B5,(by rw[step,wx,gE];exact C6),hsub,Yd⟩
 ·rintro σ H5 ⟨L2,TL,v,rfl,B5,C6,hsub,Yd⟩;rw[cD,gK]at C6;refine⟨_,?_,L2,TL,P,rfl,⟨B5.hR,B5.hW,B5.sm,B5.rc,B5.wr,B5.kl,λx hx=>?_⟩,?_,rfl⟩
  ·unfold muR;rw[dz,iy];lia
  ·rcases B5.cl x hx with q|rfl|q
   ·exact .inl q
   ·refine .inr (.inr λy hy=>C6 y ?_);obtain⟨_,tV,Kg,hy'⟩:=hy;rw[ff]at Kg;cases Kg;exact hy'
   ·exact .inr (.inr q)
  ·rw[dz,iy]at hml;lia
theorem qh(sh:Int->List Int)(es:List Int)(i:Nat):(aU sh (es.take i)).length<=(aU sh es).length:=iF (bh sh) es i
class inductive xN(d:Nat)
 | mk (av:Addr->Prop) (r:Addr) (rows:cS) (e:Int) (sh:Int->List Int) (rk:Int->Nat) (_:vs=[.ref r,.int e]) (_:gW av H r rows) (_:rows.length<=1000) (_:gr rows) (_:mZ rows sh) (_:(∀ x:Int,0<=x->x<rows.length->(sh x).length<=10000)) (_:(∀ x y,jV rows x y->rk y<rk x)) (_:(e<0->-1-e<rows.length/\rk (-1-e)<d)) (_ :
 ∀ (o:Addr) (H':Hp),H' o=some (.lst ((bh sh e).map V.int))->aL H H'->H o=none->Q (.ref o) H')
theorem BD:aH ["_law_rows","_law_entry"] ["_law_rows","_law_entry"] (aA pS):=eO
theorem tP(D:Ds K mg aZ bg C CS CW CB CT CD aC az){d:Nat}:bf P w K mg zt cM (d+2) (aZ 86) (bg 86) ["_law_rows","_law_entry"] (xN d):=by
 specialize eV D.WL.F BD;obtain⟨av,r,rows,e,sh,rk,rfl,R,dN,qo,xX,EM,yC,hd,k⟩:=h;exists _,(aj (bK (aT iS (pv 1) ay (bq _)) (au (aJ (aG D.FY (ic D d) hr (aa (pv 0) (aa (bC cK (gw eK ay) (pv 1)) ah))))) aX) (au (aJ (bN (aa (pv 1) ah)))));refine⟨Y,Z,Y,cI (λc=>?_) (λc=>?_)⟩
 ·have c':e<0:=of_decide_eq_true c;obtain⟨d1,d2⟩:=hd c';refine⟨Y,Y,Y,Z,av,r,rows,-1-e,sh,rk,rfl,R,dN,qo,Q,d1,xX,EM,yC,d2,λo H' h s ho=>k o H' ?_ s ho⟩;unfold bh;rw[if_pos c'];exact h
 ·have c':¬ e<0:=λz=>c (decide_eq_true z);refine⟨Y,jS,λo ho=>k o _ ?_ (ak ho _) ho⟩;unfold bh;rw[if_neg c',af];rfl
theorem Ej(sh:Int->List Int)(p:Int):∀ (es:List Int) (f:Int),(aE sh p f es).length<=es.length+(aU sh es).length
 | [],_=>by simp[aE]
 | e::r,f=>by
  rw[aE,cj,dz,dz,ny];have a:=Ej sh p r (f+(bh sh e).length)
  have b:(if f+(bh sh e).length<=p then [e] else if p<=f then [] else (bh sh e).take (p-f).toNat).length<=1+(bh sh e).length:=by
   split
   ·simp
   ·split
    ·simp
    ·rw[gy];lia
  lia
theorem Ek(sh:Int->List Int)(p:Int):∀ (es:List Int) (f:Int),(bE sh p f es).length<=es.length+(aU sh es).length
 | [],_=>by simp[bE]
 | e::r,f=>by
  rw[bE,cj,dz,dz,ny];have a:=Ek sh p r (f+(bh sh e).length)
  have b:(if f+(bh sh e).length<=p then [] else if p<=f then [e] else (bh sh e).drop (p-f).toNat).length<=1+(bh sh e).length:=by
   split
   ·simp
   ·split
    ·simp
    ·rw[sH];lia
  lia
class inductive Jg(d:Nat)
 | mk (av:Addr->Prop) (r n:Addr) (rows:cS) (s p:Int) (new:List Int) (sh:Int->List Int) (rk:Int->Nat) (_:vs=[.ref r,.int s,.int p,.ref n]) (_:gW av H r rows) (_:rows.length<=1000) (_:(∀ es∈rows,es.length<=25000)) (_:gr rows) (_:mZ rows sh) (_:(∀ x:Int,0<=x->x<rows.length->(sh x).length<=10000)) (_:(∀ x y,jV rows x y->rk y<rk x)) (_:0<=s) (_:s<rows.length) (_:rk s<=d) (_:H n=some (.lst (new.map V.int))) (_:new.length<=25000) (_ :
 ∀ (es:List Int) (o:Addr) (H':Hp),rows[s.toNat]?=some es->H' o=some (.lst ((fP sh p es new).map V.int))->(fP sh p es new).length<=100000->aL H H'->H o=none->Q (.ref o) H')
theorem ig:aH ["_law_rows","_law_sheet","_law_place","_law_new","_law_ahead","_law_behind","_law_first","_law_entry","_law_pieces_here","_law_last"] ["_law_rows","_law_sheet","_law_place","_law_new"] (aA wN):=eO
theorem Jh(D:Ds K mg aZ bg C CS CW CB CT CD aC az){d:Nat}:bf P w K mg zt cM (d+3) (aZ 87) (bg 87) ["_law_rows","_law_sheet","_law_place","_law_new"] (Jg d):=by
 have qj:bf P w K mg zt cM (d+2) _ _ zl7 (xN d):=tP D;refine eV D.OF.F ig λcN A zn s0 H vs Q E hr h=>?_;obtain⟨av,r,n,rows,s,p,new,sh,rk,rfl,R,dN,hes,qo,xX,EM,yC,h0,h1,hd,hn,nl,k⟩:=h;obtain⟨es,ff⟩:∃ es,rows[s.toNat]?=some es:=⟨_,sF ∅⟩;have esl:=hes es (nF ff);have shs:=xX s es h0 ff;have shl:=EM s h0 h1;rw[shs]at shl;obtain⟨yD,b,yh,DP,hb0,hrl⟩:=R.get ff
 have vL:qx yD s=some (.ref b):=by
  have z:=cQ DP;rw[show ((s.toNat:Nat):Int)=s by lia]at z;exact z
 exists _,(aj (bK (aT dY (eS D.T.eE (pv 3)) ay (bq _)) (au (aJ (eN fX rfl D.T.jm tS (aa (aQ bH (pv 0) (pv 1)) ah)))) aX) (aj (aW (i:=4) ig.nd (bN ah)) (aj (aW (i:=5) ig.nd (bN ah)) (aj (aW (i:=6) ig.nd ay) (aj (d7 PassesOwn.never rfl (cH (aQ bH (pv 0) (pv 1))) (cu (i:=7) ig.nd) (aj (aW (i:=8) ig.nd (aG D.WL qj hr (aa (pv 0) (aa (pv 7) ah)))) (aj (aW (i:=9) ig.nd (bC cT (pv 6) (eS D.T.eE (pv 8)))) (aj (bK (aT fJ (pv 9) (pv 2) (bq _)) (au (aY (dM qw jX jY bT (pv 4) (aa (pv 7) ah)))) (au (bK (aT fJ (pv 2) (pv 6) (bq _)) (au (aY (dM qw jX jY bT (pv 5) (aa (pv 7) ah)))) (aj (aY (dM qw PySem.F.slot_list_extend PySem.F.type_list_extend j3 (pv 4) (aa (iT lP (pv 8) nJ (ja (bC cK (pv 2) (pv 6)))) ah))) (au (aY (dM qw PySem.F.slot_list_extend PySem.F.type_list_extend j3 (pv 5) (aa (iT lP (pv 8) (ja (bC cK (pv 2) (pv 6))) nJ) ah)))))))) (au (aW (i:=6) ig.nd (pv 9))))))) (au (aJ (bC jA (bC jA (pv 4) (pv 3)) (pv 5)))))))));refine⟨Y,n,Y,.inl (bL.of hn),rfl,Y,cI (λc=>?_) (λc=>?_)⟩
 ·have c':new=[]:=by
   have z:V.int ((new.map V.int).length:Int)=V.int 0:=of_decide_eq_true c;have z2:=V.int.inj z;rw[cD]at z2;exact List.eq_nil_of_length_eq_zero ∅
  refine⟨Y,Y,r,K,V,bL.of yh,vL,b,Y,.inl (bL.of hb0),λo ho=>k es o _ ff ?_ ?_ (ak ho _) ho⟩
  ·rw[af];unfold fP;rw[if_pos c']
  ·unfold fP;rw[if_pos c'];lia
 have c':¬ new=[]:=λz=>c (by rw[z];rfl);refine⟨iR,λA hA=>⟨iR,λB hB=>?_⟩⟩;have sA:aL H (aP H A (.lst [])):=ak hA _;have sB:aL _ (aP (aP H A (.lst [])) B (.lst [])):=ak hB _;have s1:=sA.trans sB;have A9:A≠B:=aB af hB;have M6:=bu sA hB;refine⟨Y,Y,r,K,V,bL.of (s1 _ _ yh),vL,b,rfl,⟨_,bL.of (s1 _ _ hb0)⟩,dO (K:=K) (a:=b) (xs:=es.map V.int) (λi σ H2=>∃ u1 u2 u3:Option V,σ=[some (.ref r),some (.int s),some (.int p),some (.ref n),some (.ref A),some (.ref B),some (.int (0+((aU sh (es.take i)).length:Int))),u1,u2,u3]/\H2 A=some (.lst ((aE sh p 0 (es.take i)).map V.int))/\H2 B=some (.lst ((bE sh p 0 (es.take i)).map V.int))/\aL H H2) ⟨none,none,none,rfl,sB _ _ af,af,s1⟩ (by rintro i σ H2 _ ⟨_,_,_,_,_,_,s2⟩;exact bL.of (s2 _ _ hb0)) ?_ ?_⟩
 ·rintro i x σ H2 hi ⟨u1,u2,u3,rfl,PX,hB2,s2⟩;rw[nG]at hi;obtain⟨e,ex,rfl⟩:=Option.map_eq_some_iff.mp hi;have st:=take_snoc ex
  have eA:aE sh p 0 (es.take (i+1))=aE sh p 0 (es.take i)++(if 0+((aU sh (es.take i)).length:Int)+(bh sh e).length<=p then [e] else if p<=0+((aU sh (es.take i)).length:Int) then [] else (bh sh e).take (p-(0+((aU sh (es.take i)).length:Int))).toNat):=by
   rw[st,xq,aE,aE,gE]
  have eB:bE sh p 0 (es.take (i+1))=bE sh p 0 (es.take i)++(if 0+((aU sh (es.take i)).length:Int)+(bh sh e).length<=p then [] else if p<=0+((aU sh (es.take i)).length:Int) then [e] else (bh sh e).drop (p-(0+((aU sh (es.take i)).length:Int))).toNat):=by
   rw[st,xr,bE,bE,gE]
  have eF:(0+((aU sh (es.take (i+1))).length:Int))=0+((aU sh (es.take i)).length:Int)+(bh sh e).length:=by
   rw[st,jJ,cj,dz,dz];simp[aU]
  have lA:=Ej sh p (es.take (i+1)) 0;have lB:=Ek sh p (es.take (i+1)) 0;have lA0:=Ej sh p (es.take i) 0;have lB0:=Ek sh p (es.take i) 0;have l1:=qh sh es (i+1);have l0:=qh sh es i;have t1:(es.take (i+1)).length<=es.length:=by rw[gy];lia
  have t0:(es.take i).length<=es.length:=by rw[gy];lia
  refine⟨Y,Y,av,r,rows,e,sh,rk,rfl,R.same s2,dN,qo,xX,EM,yC,λae9=>?_,λo H3 h3 s3 ho=>?_⟩
  ·have nx:jV rows s (-1-e):=⟨h0,es,ff,b8.mpr ⟨Q,by rw[show -1-(-1-e)=e by lia];exact nF ex⟩⟩;have:=yC _ _ nx;exact⟨(qo.EK nx).2,Q⟩
  have Hu:=s3 _ _ PX;have TM:=s3 _ _ hB2;exists Y,Y,o,Y,.inl (bL.of h3),Z;rw[cD];refine⟨Y,Y,Z,Y,cI (λc1=>?_) (λc1=>?_)⟩
  ·have UY:0+((aU sh (es.take i)).length:Int)+((bh sh e).length:Int)<=p:=of_decide_eq_true c1;rw[if_pos UY]at eA eB;refine⟨Y,.inl ⟨rfl,_,bL.of Hu⟩,Y,A,Z,Hu,aV (by rw[cD];lia),?_⟩;refine⟨Y,some (.int e),some (.ref o),some (.int (0+((aU sh (es.take i)).length:Int)+((bh sh e).length:Int))),?_,?_,?_,bP hA (s2.trans s3) (aM A _ _)⟩
   ·rw[eF];rfl
   ·rw[af,eA,gG];rfl
   ·rw[aN A9.symm,eB,gE];exact TM
  ·have UY:¬ 0+((aU sh (es.take i)).length:Int)+((bh sh e).length:Int)<=p:=λz=>c1 (decide_eq_true z);rw[if_neg UY]at eA eB;refine⟨Y,Y,Z,Y,cI (λc2=>?_) (λc2=>?_)⟩
   ·have Mp:p<=0+((aU sh (es.take i)).length:Int):=of_decide_eq_true c2;rw[if_pos Mp]at eA eB;refine⟨Y,.inl ⟨rfl,_,bL.of TM⟩,Y,B,Z,TM,aV (by rw[cD];lia),?_⟩;refine⟨Y,some (.int e),some (.ref o),some (.int (0+((aU sh (es.take i)).length:Int)+((bh sh e).length:Int))),?_,?_,?_,bP M6 (s2.trans s3) (aM B _ _)⟩
    ·rw[eF];rfl
    ·rw[aN A9,eA,gE];exact Hu
    ·rw[af,eB,gG];rfl
   ·have Mp:¬ p<=0+((aU sh (es.take i)).length:Int):=λz=>c2 (decide_eq_true z);rw[if_neg Mp]at eA eB;rw[eA,dz]at lA;rw[eB,dz]at lB;refine⟨Y,.inl ⟨rfl,_,bL.of Hu⟩,Y,Y,Y,Z,Y,o,Y,bL.of h3,λq1 SH=>?_⟩;have n1:aL H3 (aP H3 q1 (.lst (kB ((bh sh e).map V.int) none (some (p-(0+((aU sh (es.take i)).length:Int))))))):=ak SH _;have e1:kB ((bh sh e).map V.int) none (some (p-(0+((aU sh (es.take i)).length:Int))))=((bh sh e).take (p-(0+((aU sh (es.take i)).length:Int))).toNat).map V.int:=by rw[uN _ ∅,List.map_take]
    refine⟨A,q1,Z,n1 _ _ Hu,af,gM (aV (by rw[e1,cD,cD];lia)),?_⟩;have k4:cJ A H3 (aP (aP H3 q1 (.lst (kB ((bh sh e).map V.int) none (some (p-(0+((aU sh (es.take i)).length:Int))))))) A (.lst ((aE sh p 0 (es.take i)).map V.int++kB ((bh sh e).map V.int) none (some (p-(0+((aU sh (es.take i)).length:Int))))))):=cJ.trans (aL.keep n1) (aM A _ _);have no:o≠A:=(aB PX ho).symm;have nqA:q1≠A:=(aB Hu SH).symm;have hB4:=k4 _ _ TM A9.symm;refine⟨Y,.inl ⟨rfl,_,bL.of hB4⟩,Y,Y,Y,Z,Y,o,Y,bL.of (k4 _ _ h3 no),λq2 d9=>?_⟩;have e2:kB ((bh sh e).map V.int) (some (p-(0+((aU sh (es.take i)).length:Int)))) none=((bh sh e).drop (p-(0+((aU sh (es.take i)).length:Int))).toNat).map V.int:=by rw[xy _ ∅,List.map_drop]
    refine⟨B,q2,Z,ak d9 _ _ _ hB4,af,gM (aV (by rw[e2,cD,cD];lia)),?_⟩;exists Y,some (.int e),some (.ref o),some (.int (0+((aU sh (es.take i)).length:Int)+((bh sh e).length:Int))),?_,?_,?_
    ·rw[eF];rfl
    ·rw[aN A9,ak d9 _ _ _ af,eA,gG,e1]
    ·rw[af,eB,gG,e2]
    ·exact bP M6 ((bP hA (s2.trans s3) k4).trans (ak d9 _)) (aM B _ _)
 ·rintro σ H2 ⟨u1,u2,u3,rfl,PX,hB2,s2⟩;rw[cD,gK]at PX hB2;have lA:=Ej sh p es 0;have lB:=Ek sh p es 0;refine⟨Y,Y,A,n,Z,PX,s2 _ _ hn,gM (aV (by rw[cD,cD];lia)),λc1 X9=>?_⟩;have n1:aL H2 (aP H2 c1 (.lst ((aE sh p 0 es).map V.int++new.map V.int))):=ak X9 _;refine⟨Y,c1,B,Z,af,n1 _ _ hB2,gM (aV (by rw[dz,cD,cD,cD];lia)),λc2 Xb=>?_⟩;refine k es c2 _ ff ?_ ?_ (s2.trans (n1.trans (ak Xb _))) (bu (s2.trans n1) Xb)
  ·rw[af];unfold fP;rw[if_neg c',gG,gG]
  ·unfold fP;rw[if_neg c',dz,dz];lia
def QI(sh:Int->List Int)(a b f e:Int):List Int:=if a=b then [e] else KL sh a b f e
def QJ(sh:Int->List Int)(a b f e:Int):List Int:=if a=b then [] else M8 sh a b f e
theorem GF(sh:Int->List Int)(a b:Int)(es:List Int)(e:Int):bS sh a b (es++[e])=bS sh a b es++QI sh a b (0+((aU sh es).length:Int)) e:=by
 unfold bS QI;split
 ·rfl
 ·rw[xu,kE,kE,gE]
theorem GG(sh:Int->List Int)(a b:Int)(es:List Int)(e:Int):gY sh a b (es++[e])=gY sh a b es++QJ sh a b (0+((aU sh es).length:Int)) e:=by
 unfold gY QJ;split
 ·rfl
 ·rw[xx,tE,tE,gE]
theorem TN(sh:Int->List Int)(a b f e:Int):(QI sh a b f e).length<=1+2*(bh sh e).length:=by
 unfold QI KL;split
 ·simp
 ·split
  ·simp
  ·split
   ·simp
   ·rw[dz,gy,sH];lia
theorem TQ(sh:Int->List Int)(a b f e:Int):(QJ sh a b f e).length<=1+2*(bh sh e).length:=by
 unfold QJ M8;split
 ·simp
 ·split
  ·simp
  ·split
   ·simp
   ·rw[sH,gy];lia
theorem PY(sh:Int->List Int)(a b:Int):∀ (es:List Int) (f:Int),(kE sh a b f es).length<=es.length+2*(aU sh es).length
 | [],_=>by simp[kE]
 | e::r,f=>by
  rw[kE,cj,dz,dz,ny];have x:=PY sh a b r (f+(bh sh e).length)
  have y:(KL sh a b f e).length<=1+2*(bh sh e).length:=by
   unfold KL;split
   ·simp
   ·split
    ·simp
    ·rw[dz,gy,sH];lia
  lia
theorem PZ(sh:Int->List Int)(a b:Int):∀ (es:List Int) (f:Int),(tE sh a b f es).length<=es.length+2*(aU sh es).length
 | [],_=>by simp[tE]
 | e::r,f=>by
  rw[tE,cj,dz,dz,ny];have x:=PZ sh a b r (f+(bh sh e).length)
  have y:(M8 sh a b f e).length<=1+2*(bh sh e).length:=by
   unfold M8;split
   ·simp
   ·split
    ·simp
    ·rw[sH,gy];lia
  lia
theorem uT(sh:Int->List Int)(a b:Int)(es:List Int):(bS sh a b es).length<=es.length+2*(aU sh es).length:=by
 unfold bS;split
 ·lia
 ·exact PY sh a b es 0
theorem AK(sh:Int->List Int)(a b:Int)(es:List Int):(gY sh a b es).length<=es.length+2*(aU sh es).length:=by
 unfold gY;split
 ·simp
 ·exact PZ sh a b es 0
class inductive P0(d:Nat)
 | mk (av:Addr->Prop) (r:Addr) (rows:cS) (s a b:Int) (sh:Int->List Int) (rk:Int->Nat) (_:vs=[.ref r,.int s,.int a,.int b]) (_:gW av H r rows) (_:rows.length<=1000) (_:(∀ es∈rows,es.length<=1000)) (_:gr rows) (_:mZ rows sh) (_:(∀ x:Int,0<=x->x<rows.length->(sh x).length<=10000)) (_:(∀ x y,jV rows x y->rk y<rk x)) (_:0<=s) (_:s<rows.length) (_:rk s<=d) (_:a<=b) (_ :
 ∀ (es:List Int) (t L M:Addr) (H':Hp),rows[s.toNat]?=some es->H' t=some (.tup [.ref L,.ref M])->H' L=some (.lst ((bS sh a b es).map V.int))->H' M=some (.lst ((gY sh a b es).map V.int))->aL H H'->H L=none->H M=none->L≠M->Q (.ref t) H')
theorem gi:aH ["_law_rows","_law_sheet","_law_start","_law_stop","_law_kept","_law_taken","_law_first","_law_entry","_law_pieces_here","_law_last","_law_low","_law_high"] ["_law_rows","_law_sheet","_law_start","_law_stop"] (aA wO):=eO
theorem Ji(D:Ds K mg aZ bg C CS CW CB CT CD aC az){d:Nat}:bf P w K mg zt cM (d+3) (aZ 88) (bg 88) ["_law_rows","_law_sheet","_law_start","_law_stop"] (P0 d):=by
 have qj:bf P w K mg zt cM (d+2) _ _ zl7 (xN d):=tP D;refine eV D.WM.F gi λcN A zn s0 H vs Q E hr h=>?_;obtain⟨av,r,rows,s,p,q,sh,rk,rfl,R,dN,hes,qo,xX,EM,yC,h0,h1,hd,hpq,k⟩:=h;obtain⟨es,ff⟩:∃ es,rows[s.toNat]?=some es:=⟨_,sF ∅⟩;have esl:=hes es (nF ff);have shs:=xX s es h0 ff;have shl:=EM s h0 h1;rw[shs]at shl;obtain⟨yD,b,yh,DP,hb0,hrl⟩:=R.get ff
 have vL:qx yD s=some (.ref b):=by
  have z:=cQ DP;rw[show ((s.toNat:Nat):Int)=s by lia]at z;exact z
 exists _,(aj (aW (i:=4) gi.nd (bN ah)) (aj (aW (i:=5) gi.nd (bN ah)) (aj (aW (i:=6) gi.nd ay) (aj (d7 PassesOwn.never rfl (cH (aQ bH (pv 0) (pv 1))) (cu (i:=7) gi.nd) (aj (aW (i:=8) gi.nd (aG D.WL qj hr (aa (pv 0) (aa (pv 7) ah)))) (aj (aW (i:=9) gi.nd (bC cT (pv 6) (eS D.T.eE (pv 8)))) (aj (aW (i:=10) gi.nd (cC (rP rfl) rfl D.T.FQ PyProof.Rows.boot_max (aa ay (aa (bC cK (pv 2) (pv 6)) ah)))) (aj (aW (i:=11) gi.nd (bC cK (cC (rQ rfl) rfl D.T.Kz PyProof.Rows.boot_min (aa (pv 9) (aa (pv 3) ah))) (pv 6))) (aj (bK (PW.pt (BV (aT dY (pv 2) (pv 3) (bq _)) (BV (aT fJ (pv 9) (pv 2) (bq _)) (zl (aT fJ (pv 3) (pv 6) (bq _)))))) (au (aY (dM qw jX jY bT (pv 4) (aa (pv 7) ah)))) (au (bK (PW.pt (qK (aT fJ (pv 2) (pv 6) (bq _)) (o7 (aT fJ (pv 9) (pv 3) (bq _))))) (au (aY (dM qw jX jY bT (pv 5) (aa (pv 7) ah)))) (aj (aY (dM qw PySem.F.slot_list_extend PySem.F.type_list_extend j3 (pv 4) (aa (bC jA (iT lP (pv 8) nJ (ja (pv 10))) (iT lP (pv 8) (ja (pv 11)) nJ)) ah))) (au (aY (dM qw PySem.F.slot_list_extend PySem.F.type_list_extend j3 (pv 5) (aa (iT lP (pv 8) (ja (pv 10)) (ja (pv 11))) ah)))))))) (au (aW (i:=6) gi.nd (pv 9))))))))) (au (aJ (cF (aa (pv 4) (aa (pv 5) ah)))))))));refine⟨iR,λA hA=>⟨iR,λB hB=>?_⟩⟩;have sA:aL H (aP H A (.lst [])):=ak hA _;have sB:aL _ (aP (aP H A (.lst [])) B (.lst [])):=ak hB _;have s1:=sA.trans sB;have A9:A≠B:=aB af hB;have M6:=bu sA hB
 have z0:bS sh p q []=[]/\gY sh p q []=[]:=by
  unfold bS gY
  constructor <;> split <;> rfl
 refine⟨Y,Y,r,K,V,bL.of (s1 _ _ yh),vL,b,rfl,⟨_,bL.of (s1 _ _ hb0)⟩,dO (K:=K) (a:=b) (xs:=es.map V.int) (λi σ H2=>∃ u1 u2 u3 u4 u5:Option V,σ=[some (.ref r),some (.int s),some (.int p),some (.int q),some (.ref A),some (.ref B),some (.int (0+((aU sh (es.take i)).length:Int))),u1,u2,u3,u4,u5]/\H2 A=some (.lst ((bS sh p q (es.take i)).map V.int))/\H2 B=some (.lst ((gY sh p q (es.take i)).map V.int))/\aL H H2) ⟨none,none,none,none,none,rfl,(by rw[List.take_zero,z0.1];exact sB _ _ af),(by rw[List.take_zero,z0.2];exact af),s1⟩ (by rintro i σ H2 _ ⟨_,_,_,_,_,_,_,_,s2⟩;exact bL.of (s2 _ _ hb0)) ?_ ?_⟩
 ·rintro i x σ H2 hi ⟨u1,u2,u3,u4,u5,rfl,PX,hB2,s2⟩;rw[nG]at hi;obtain⟨e,ex,rfl⟩:=Option.map_eq_some_iff.mp hi;have st:=take_snoc ex;have eA:=GF sh p q (es.take i) e;have eB:=GG sh p q (es.take i) e;rw[← st]at eA eB
  have eF:(0+((aU sh (es.take (i+1))).length:Int))=0+((aU sh (es.take i)).length:Int)+(bh sh e).length:=by
   rw[st,jJ,cj,dz,dz];simp[aU]
  have lA0:=uT sh p q (es.take i);have lB0:=AK sh p q (es.take i);have l1:=qh sh es (i+1);have l0:=qh sh es i
  have le:(bh sh e).length<=(aU sh (es.take (i+1))).length:=by
   rw[st,jJ,cj,dz,dz];lia
  have lkk:=TN sh p q (0+((aU sh (es.take i)).length:Int)) e;have ltt:=TQ sh p q (0+((aU sh (es.take i)).length:Int)) e;have t0:(es.take i).length<=es.length:=by rw[gy];lia
  generalize hf:0+((aU sh (es.take i)).length:Int)=fi at *;refine⟨Y,Y,av,r,rows,e,sh,rk,rfl,R.same s2,dN,qo,xX,EM,yC,λae9=>?_,λo H3 h3 s3 ho=>?_⟩
  ·have nx:jV rows s (-1-e):=⟨h0,es,ff,b8.mpr ⟨Q,by rw[show -1-(-1-e)=e by lia];exact nF ex⟩⟩;have:=yC _ _ nx;exact⟨(qo.EK nx).2,Q⟩
  have Hu:=s3 _ _ PX;have TM:=s3 _ _ hB2;exists Y,Y,o,Y,.inl (bL.of h3),Z;rw[cD];exists Y,Y,Z,P,rfl;exists Y,Y,P,rfl,Y,Z
  have lo0:(if p-fi > 0 then p-fi else 0).toNat=(p-fi).toNat/\0<=(if p-fi > 0 then p-fi else 0):=by
   split <;> lia
  have Am:(p=q\/(fi+((bh sh e).length:Int))<=p\/q<=fi)->(aP H3 A (.lst ((bS sh p q (es.take i)).map V.int++[.int e]))) A=some (.lst ((bS sh p q (es.take (i+1))).map V.int))/\(aP H3 A (.lst ((bS sh p q (es.take i)).map V.int++[.int e]))) B=some (.lst ((gY sh p q (es.take (i+1))).map V.int)):=λc=>by
   have e1:QI sh p q fi e=[e]:=by
    unfold QI KL;rcases c with c|c
    ·rw[if_pos c]
    ·rw[if_pos c];split <;> rfl
   have e2:QJ sh p q fi e=[]:=by
    unfold QJ M8;rcases c with c|c
    ·rw[if_pos c]
    ·rw[if_pos c];split <;> rfl
   rw[af,aN A9.symm,eA,eB,e1,e2,gE,gG];exact⟨rfl,TM⟩
  have stf:∀ y:Option V,[some (V.ref r),some (.int s),some (.int p),some (.int q),some (.ref A),some (.ref B),some (.int (fi+((bh sh e).length:Int))),some (.int e),some (.ref o),some (.int (fi+((bh sh e).length:Int))),some (.int (if p-fi > 0 then p-fi else 0)),y]=[some (.ref r),some (.int s),some (.int p),some (.int q),some (.ref A),some (.ref B),some (.int (0+((aU sh (es.take (i+1))).length:Int))),some (.int e),some (.ref o),some (.int (fi+((bh sh e).length:Int))),some (.int (if p-fi > 0 then p-fi else 0)),y]:=λy=>by rw[eF]
  have keepR:∀ c:(p=q\/(fi+((bh sh e).length:Int))<=p\/q<=fi),∃ u1 u2 u3 u4 u5:Option V,[some (V.ref r),some (.int s),some (.int p),some (.int q),some (.ref A),some (.ref B),some (.int (fi+((bh sh e).length:Int))),some (.int e),some (.ref o),some (.int (fi+((bh sh e).length:Int))),some (.int (if p-fi > 0 then p-fi else 0)),some (.int ((if q<(fi+((bh sh e).length:Int)) then q else (fi+((bh sh e).length:Int)))-fi))]=[some (.ref r),some (.int s),some (.int p),some (.int q),some (.ref A),some (.ref B),some (.int (0+((aU sh (es.take (i+1))).length:Int))),u1,u2,u3,u4,u5]/\(aP H3 A (.lst ((bS sh p q (es.take i)).map V.int++[.int e]))) A=some (.lst ((bS sh p q (es.take (i+1))).map V.int))/\(aP H3 A (.lst ((bS sh p q (es.take i)).map V.int++[.int e]))) B=some (.lst ((gY sh p q (es.take (i+1))).map V.int))/\aL H (aP H3 A (.lst ((bS sh p q (es.take i)).map V.int++[.int e]))):=λc =>
   ⟨K,P,stf _,(Am c).1,(Am c).2,bP hA (s2.trans s3) (aM A _ _)⟩
  have mA:((bS sh p q (es.take i)).map V.int).length<sizeLine:=aV (by rw[cD];lia);refine⟨Y,Y,rfl,Y,cI (λc1=>gR ?_) (λc1=>?_)⟩
  ·exact⟨Y,.inl ⟨rfl,_,bL.of Hu⟩,Y,A,Z,Hu,mA,Y,keepR (.inl (V.int.inj (of_decide_eq_true c1)))⟩
  have UY:¬ p=q:=λz=>c1 (by rw[z];exact decide_eq_true rfl);refine⟨Y,Y,Z,Y,cI (λc2=>gR ?_) (λc2=>?_)⟩
  ·exact⟨Y,.inl ⟨rfl,_,bL.of Hu⟩,Y,A,Z,Hu,mA,Y,keepR (.inr (.inl (of_decide_eq_true c2)))⟩
  have Mp:¬ (fi+((bh sh e).length:Int))<=p:=λz=>c2 (decide_eq_true z);refine⟨Y,Y,Z,Y,cI (λc3=>?_) (λc3=>?_)⟩
  ·exact⟨Y,.inl ⟨rfl,_,bL.of Hu⟩,Y,A,Z,Hu,mA,Y,keepR (.inr (.inr (of_decide_eq_true c3)))⟩
  have c3':¬ q<=fi:=λz=>c3 (decide_eq_true z);have n1:¬ ((fi+((bh sh e).length:Int))<=p\/q<=fi):=λz=>z.elim Mp c3'
  have hh:((if q<(fi+((bh sh e).length:Int)) then q else (fi+((bh sh e).length:Int)))-fi).toNat=min (bh sh e).length (q-fi).toNat/\0<=(if q<(fi+((bh sh e).length:Int)) then q else (fi+((bh sh e).length:Int)))-fi:=by
   split <;> lia
  have pq:p<q:=by lia
  have qJ:¬ (p<=fi/\(fi+((bh sh e).length:Int))<=q)->QI sh p q fi e=(bh sh e).take (if p-fi > 0 then p-fi else 0).toNat++(bh sh e).drop ((if q<(fi+((bh sh e).length:Int)) then q else (fi+((bh sh e).length:Int)))-fi).toNat/\QJ sh p q fi e=((bh sh e).take ((if q<(fi+((bh sh e).length:Int)) then q else (fi+((bh sh e).length:Int)))-fi).toNat).drop (if p-fi > 0 then p-fi else 0).toNat:=λc4=>by
   unfold QI QJ KL M8;rw[if_neg UY,if_neg UY,if_neg n1,if_neg n1,if_neg c4,if_neg c4,lo0.1,hh.1];rcases Nat.le_total (q-fi).toNat (bh sh e).length with z|z
   ·rw[Nat.min_eq_right z];exact⟨V⟩
   ·rw[Nat.min_eq_left z,zg z,zg (gg _),u9 z,u9 (gg _)];exact⟨V⟩
  refine⟨Y,Y,Z,Y,Ot (λz=>⟨Y,Y,Z,Y,z⟩) (λc6=>?_) (λc6=>?_)⟩
  ·have e1:QI sh p q fi e=[]:=by unfold QI KL;rw[if_neg UY,if_neg n1,if_pos c6]
   have e2:QJ sh p q fi e=[e]:=by unfold QJ M8;rw[if_neg UY,if_neg n1,if_pos c6]
   refine⟨Y,.inl ⟨rfl,_,bL.of TM⟩,Y,B,Z,TM,aV (by rw[cD];lia),Y,K,P,stf _,?_,?_,bP M6 (s2.trans s3) (aM B _ _)⟩
   ·rw[aN A9,eA,e1,gE];exact Hu
   ·rw[af,eB,e2,gG];rfl
  ·obtain⟨r1,r2⟩:=qJ c6;rw[r1,dz]at lkk;rw[r2]at ltt;refine⟨Y,.inl ⟨rfl,_,bL.of Hu⟩,Y,Y,Y,o,Y,bL.of h3,λq1 SH=>?_⟩;rw[uN _ lo0.2,← List.map_take];have n4:aL H3 (aP H3 q1 (.lst (((bh sh e).take (if p-fi > 0 then p-fi else 0).toNat).map V.int))):=ak SH _;refine⟨Y,Y,Y,o,Y,bL.of (n4 _ _ h3),λq2 d9=>?_⟩;rw[xy _ hh.2,← List.map_drop];have n5:aL _ (aP (aP H3 q1 (.lst (((bh sh e).take (if p-fi > 0 then p-fi else 0).toNat).map V.int))) q2 (.lst (((bh sh e).drop ((if q<(fi+((bh sh e).length:Int)) then q else (fi+((bh sh e).length:Int)))-fi).toNat).map V.int))):=ak d9 _;refine⟨q1,q2,Z,n5 _ _ af,af,(by rw[cD,cD];exact gM (aV ∅)),λq3 EL=>?_⟩;have n6:aL _ (aP (aP (aP H3 q1 (.lst (((bh sh e).take (if p-fi > 0 then p-fi else 0).toNat).map V.int))) q2 (.lst (((bh sh e).drop ((if q<(fi+((bh sh e).length:Int)) then q else (fi+((bh sh e).length:Int)))-fi).toNat).map V.int))) q3 (.lst (((bh sh e).take (if p-fi > 0 then p-fi else 0).toNat).map V.int++((bh sh e).drop ((if q<(fi+((bh sh e).length:Int)) then q else (fi+((bh sh e).length:Int)))-fi).toNat).map V.int))):=ak EL _;have n46:=n4.trans (n5.trans n6);have h63:(aP (aP (aP H3 q1 (.lst (((bh sh e).take (if p-fi > 0 then p-fi else 0).toNat).map V.int))) q2 (.lst (((bh sh e).drop ((if q<(fi+((bh sh e).length:Int)) then q else (fi+((bh sh e).length:Int)))-fi).toNat).map V.int))) q3 (.lst (((bh sh e).take (if p-fi > 0 then p-fi else 0).toNat).map V.int++((bh sh e).drop ((if q<(fi+((bh sh e).length:Int)) then q else (fi+((bh sh e).length:Int)))-fi).toNat).map V.int))) q3=some (.lst (((bh sh e).take (if p-fi > 0 then p-fi else 0).toNat).map V.int++((bh sh e).drop ((if q<(fi+((bh sh e).length:Int)) then q else (fi+((bh sh e).length:Int)))-fi).toNat).map V.int)):=af;generalize aP (aP (aP H3 q1 (.lst (((bh sh e).take (if p-fi > 0 then p-fi else 0).toNat).map V.int))) q2 (.lst (((bh sh e).drop ((if q<(fi+((bh sh e).length:Int)) then q else (fi+((bh sh e).length:Int)))-fi).toNat).map V.int))) q3 (.lst (((bh sh e).take (if p-fi > 0 then p-fi else 0).toNat).map V.int++((bh sh e).drop ((if q<(fi+((bh sh e).length:Int)) then q else (fi+((bh sh e).length:Int)))-fi).toNat).map V.int))=H6 at n46 h63;refine⟨A,q3,Z,n46 _ _ Hu,h63,(by rw[dz,cD,cD,cD];exact gM (aV ∅)),?_⟩;have k7:cJ A H6 (aP H6 A (.lst ((bS sh p q (es.take i)).map V.int++(((bh sh e).take (if p-fi > 0 then p-fi else 0).toNat).map V.int++((bh sh e).drop ((if q<(fi+((bh sh e).length:Int)) then q else (fi+((bh sh e).length:Int)))-fi).toNat).map V.int)))):=aM A _ _;have hA7:(aP H6 A (.lst ((bS sh p q (es.take i)).map V.int++(((bh sh e).take (if p-fi > 0 then p-fi else 0).toNat).map V.int++((bh sh e).drop ((if q<(fi+((bh sh e).length:Int)) then q else (fi+((bh sh e).length:Int)))-fi).toNat).map V.int)))) A=some (.lst ((bS sh p q (es.take (i+1))).map V.int)):=by rw[af,eA,r1,gG,gG]
   have no:o≠A:=(aB PX ho).symm;have h37:=k7 _ _ (n46 _ _ h3) no;have hB7:=k7 _ _ (n46 _ _ TM) A9.symm;have sm7:=bP hA (s2.trans (s3.trans n46)) k7;generalize aP H6 A (.lst ((bS sh p q (es.take i)).map V.int++(((bh sh e).take (if p-fi > 0 then p-fi else 0).toNat).map V.int++((bh sh e).drop ((if q<(fi+((bh sh e).length:Int)) then q else (fi+((bh sh e).length:Int)))-fi).toNat).map V.int)))=H7 at k7 hA7 h37 hB7 sm7;refine⟨Y,.inl ⟨rfl,_,bL.of hB7⟩,Y,Y,Y,Y,Y,o,Y,bL.of h37,λq4 SG=>?_⟩;rw[Gq _ lo0.2 hh.2,← List.map_take,← List.map_drop];refine⟨B,q4,Z,ak SG _ _ _ hB7,af,(by rw[cD,cD];exact gM (aV ∅)),?_⟩;refine⟨Y,K,P,stf _,?_,?_,bP M6 (sm7.trans (ak SG _)) (aM B _ _)⟩
   ·rw[aN A9];exact ak SG _ _ _ hA7
   ·rw[af,eB,r2,gG]
 ·rintro σ H2 ⟨u1,u2,u3,u4,u5,rfl,PX,hB2,s2⟩;rw[cD,gK]at PX hB2;refine⟨Y,Y,pZ,λt ht=>k es t A B _ ff af (ak ht _ _ _ PX) (ak ht _ _ _ hB2) (s2.trans (ak ht _)) hA M6 A9⟩
class inductive su(d:Nat)
 | mk (av:Addr->Prop) (r:Addr) (rows:cS) (x:Int) (f:Int->Int) (rk:Int->Nat) (_:vs=[.ref r,.int x]) (_:gW av H r rows) (_:rows.length<=1000) (_:gr rows) (_:0<=x) (_:x<rows.length) (_:Weighs rows f) (_:(∀ x y,jV rows x y->rk y<rk x)) (_:rk x<d) (_:Q (.int (f x)) H)
theorem ir:aH ["_law_rows","_law_sheet","_law_total","_law_entry"] ["_law_rows","_law_sheet"] (aA oq):=eO
theorem xO(D:Ds K mg aZ bg C CS CW CB CT CD aC az){n:Nat}(BE:bf P w K mg zt cM (n+1) (aZ 89) (bg 89) ["_law_rows","_law_sheet"] (su n)):bf P w K mg zt cM (n+2) (aZ 89) (bg 89) ["_law_rows","_law_sheet"] (su (n+1)):=by
 specialize eV D.WN.F ir;obtain⟨av,r,rows,x,f,rk,rfl,R,dN,qo,x0,x1,hf,yC,hd,k⟩:=h;obtain⟨es,ff⟩:∃ es,rows[x.toNat]?=some es:=⟨_,sF ∅⟩;obtain⟨yD,b,yh,DP,hb0,hrl⟩:=R.get ff
 have vL:qx yD x=some (.ref b):=by
  have z:=cQ DP;rw[show ((x.toNat:Nat):Int)=x by lia]at z;exact z
 exists _,(aj (aW (i:=2) ir.nd ay) (aj (d7 PassesOwn.never rfl (cH (aQ bH (pv 0) (pv 1))) (cu (i:=3) ir.nd) (aj (aW (i:=2) ir.nd (bC cT (pv 2) ay)) (au (bK (aT iS (pv 3) ay (bq _)) (au (aW (i:=2) ir.nd (bC cT (pv 2) (aG D.WN BE hr (aa (pv 0) (aa (bC cK (gw eK ay) (pv 3)) ah)))))) aX)))) (au (aJ (pv 2)))));refine⟨Y,Y,r,K,V,bL.of yh,vL,b,rfl,⟨_,bL.of hb0⟩,dO (K:=K) (a:=b) (xs:=es.map V.int) (λi σ H2=>∃ u:Option V,σ=[some (.ref r),some (.int x),some (.int (jT f (es.take i))),u]/\H2=H) ⟨none,V⟩ (λi σ H2 _ ⟨P,e⟩=>by rw[e];exact bL.of hb0) ?_ ?_⟩
 ·rintro i e σ H2 hi ⟨u,rfl,rfl⟩;rw[nG]at hi;obtain⟨e,ex,rfl⟩:=Option.map_eq_some_iff.mp hi
  have st:jT f (es.take (i+1))=jT f (es.take i)+(if e<0 then 1+f (-1-e) else 1):=by
   rw[take_snoc ex];unfold jT;rw[gG,List.sum_append];simp
  exists Y,Z;refine⟨Y,Z,Y,cI (λc=>?_) (λc=>?_)⟩
  ·have c':e<0:=of_decide_eq_true c;have Hr:jV rows x (-1-e):=⟨x0,es,ff,b8.mpr ⟨Q,by rw[show -1-(-1-e)=e by lia];exact nF ex⟩⟩;obtain⟨y0,y1⟩:=qo.EK Hr;have rky:=yC _ _ Hr;exists Y,Y,Y,Y,Z,av,r,rows,-1-e,f,rk,rfl,R,dN,qo,y0,y1,hf,yC,Q,Z;refine⟨some (.int e),?_,rfl⟩;rw[st,if_pos c'];show [some (V.ref r),some (V.int x),some (V.int (jT f (es.take i)+1+f (-1-e))),some (V.int e)]=_;rw[show jT f (es.take i)+1+f (-1-e)=jT f (es.take i)+(1+f (-1-e)) by lia]
  ·have c':¬ e<0:=λz=>c (decide_eq_true z);refine⟨some (.int e),?_,rfl⟩;rw[st,if_neg c'];rfl
 ·rintro σ H2 ⟨u,rfl,rfl⟩;rw[cD,gK,← hf x es x0 ff];exact⟨Y,k⟩
theorem rF(D:Ds K mg aZ bg C CS CW CB CT CD aC az):∀ n:Nat,bf P w K mg zt cM (n+1) (aZ 89) (bg 89) ["_law_rows","_law_sheet"] (su n)
 | 0=>by
  have no:∀ vs H Q E,¬ su 0 vs H Q E:=λvs H Q E h=>by
   obtain⟨_,_,_,_,_,_,_,_,_,_,_,_,_,_,h,_⟩:=h;exact Nat.not_lt_zero _ h
  exact⟨λvs H Q E h=>absurd h (no vs H Q E),λA zn s H args us vs Q E _ _ _ _ h=>absurd h (no vs H Q E)⟩
 | n+1=>xO D (rF D n)
theorem oG:aH ["_law_numbers","_law_row","_law_number"] ["_law_numbers"] (aA pT):=eO
theorem BF:‹(1,90,["_law_numbers"],Rq)›:=λD=>by
 specialize eV D.aau.F oG;obtain⟨r,ns,rfl,hr1,dN,k⟩:=h;exists _,(aj (aW (i:=1) oG.nd (bN ah)) (aj (d7 PassesOwn.never rfl (cH (pv 0)) (cu (i:=2) oG.nd) (au (bK (PW.pt (qK (aT BX (eS D.T.eE (pv 1)) ay (bq _)) (o7 (aT dY (aQ bx (aQ bH (pv 1) (gw eK ay)) ay) (pv 2) (bq _))))) (au (l9 (cF (aa (aQ bx (aQ bH (pv 1) (gw eK ay)) ay) (aa (bC cT (pv 2) ay) ah))) (pB (pv 1) (gw eK ay) jz))) (au (aY (dM qw jX jY bT (pv 1) (aa (cF (aa (pv 2) (aa (bC cT (pv 2) ay) ah))) ah))))))) (au (aJ (pv 1)))));refine⟨iR,λq hq=>?_⟩;have s0:aL H (aP H q (.lst [])):=ak hq _;refine⟨Y,r,rfl,⟨_,bL.of (s0 _ _ hr1)⟩,dO (K:=K) (a:=r) (xs:=ns.map V.int) (λi σ H2=>∃ (bs:List Addr) (u:Option V),σ=[some (.ref r),some (.ref q),u]/\H2 q=some (.lst (bs.map V.ref))/\bQ H2 bs ((ns.take i).foldl (λt n=>iP t n (n+1)) [])/\aL H H2) ⟨[],none,rfl,af,.nil,s0⟩ (by rintro i σ H2 _ ⟨_,_,_,_,_,s⟩;exact bL.of (s _ _ hr1)) ?_ ?_⟩
 ·rintro i x σ H2 hi ⟨bs,u,rfl,d9,hb,s⟩;rw[nG]at hi;obtain⟨m,em,rfl⟩:=Option.map_eq_some_iff.mp hi;have step:=foldl_take_succ (λt n=>iP t n (n+1)) ns [] i m em
  have bl:bs.length<sizeLine:=by
   have z:=hb.len;have z2:=zO (ns.take i) [];rw[gy]at z2;exact aV (by simp only[sI]at z2;lia)
  exists Y,q,Y,.inl (bL.of d9),Z,Y;rcases oZ ((ns.take i).foldl (λt n=>iP t n (n+1)) []) with hn|⟨rw0,q0,hn⟩
  ·rw[hn]at hb step;have hbs:bs=[]:=List.eq_nil_of_length_eq_zero hb.len;subst hbs;refine eY (eY ?_);refine⟨Y,.inl ⟨rfl,_,bL.of d9⟩,Y,Y,Z,pZ,λt ht=>⟨q,Z,ak ht _ _ _ d9,(by show 0<sizeLine;decide),?_⟩⟩;obtain⟨g1,g2,g3⟩:=Fl (st:=m) (en:=m+1) hq s d9 hb ht;refine⟨[]++[t],Y,g1,?_,g3⟩;rw[step,mO];exact g2
  ·rw[nA]at hn;rw[hn]at hb step;obtain⟨cs,a0,rfl,hc,KD⟩:=hb.split;have EL:H2 q=some (.lst (cs.map V.ref++[.ref a0])):=by rw[d9,gG];rfl
   refine cI (λ_=>?_) (λc=>absurd (decide_eq_true (by rw[cD,dz,iy];lia)) c);refine⟨Y,Y,q,K,V,bL.of EL,fZ _ _,a0,K,V,dG.of KD,VR,Y,rfl,Y,cI (λc2=>?_) (λc2=>?_)⟩
   ·have e2:q0.2=m:=V.int.inj (of_decide_eq_true c2);refine⟨Y,Y,q,K,V,bL.of EL,fZ _ _,a0,K,V,dG.of KD,Zk,Y,Z,pZ,λt ht=>?_⟩;exists Y,Y,q,P,cs.length,V,ak ht _ _ _ EL,Oc cs a0;obtain⟨g1,g2,g3⟩:=turned (st:=q0.1) (en:=m+1) hq s EL hc ht;refine⟨cs++[t],Y,g1,?_,g3⟩;rw[step,mP _ e2];exact g2
   ·have e2:¬ q0.2=m:=λz=>c2 (decide_eq_true (congrArg V.int z));refine⟨Y,.inl ⟨rfl,_,bL.of d9⟩,Y,Y,Z,pZ,λt ht=>⟨q,Z,ak ht _ _ _ d9,(by rw[cD];exact bl),?_⟩⟩;obtain⟨g1,g2,g3⟩:=Fl (st:=m) (en:=m+1) hq s d9 hb ht;refine⟨cs++[a0]++[t],Y,g1,?_,g3⟩;rw[step,mQ _ e2];exact g2
 ·rintro σ H2 ⟨bs,u,rfl,d9,hb,s⟩;refine⟨Y,k q H2 ⟨bs,d9,?_⟩ s hq⟩;rw[cD,gK]at hb;exact hb
class inductive TR
 | mk (e:Addr) (es:List Int) (_:vs=[.ref e]) (_:H e=some (.lst (es.map V.int))) (_:es.length<=100000) (_ :
 ∀ (o:Addr) (H':Hp),bJ H' (.ref o) (aI es)->aL H H'->H o=none->Q (.ref o) H')
theorem lG:aH ["_law_entries","_law_items","_law_entry"] ["_law_entries"] (aA mJ):=eO
theorem yO:‹(1,91,["_law_entries"],TR)›:=λD=>by
 specialize eV D.aav.F lG;obtain⟨e,es,rfl,he,dN,k⟩:=h;exists _,(aj (aW (i:=1) lG.nd (bN ah)) (aj (d7 PassesOwn.never rfl (cH (pv 0)) (cu (i:=2) lG.nd) (au (bK (aT iS (pv 2) ay (bq _)) (au (aY (dM qw jX jY bT (pv 1) (aa (cF (aa br (aa (bC cK (gw eK ay) (pv 2)) ah))) ah)))) (au (bK (PW.pt (qK (aT BX (eS D.T.eE (pv 1)) ay (bq _)) (qK (aT dY (aQ bx (aQ bH (pv 1) (gw eK ay)) ay) br (bq _)) (o7 (aT dY (aQ bx (aQ bH (pv 1) (gw eK ay)) ay) (pv 2) (bq _)))))) (au (l9 (cF (aa br (aa (aQ bx (aQ bH (pv 1) (gw eK ay)) ay) (aa (bC cT (pv 2) ay) ah)))) (pB (pv 1) (gw eK ay) jz))) (au (aY (dM qw jX jY bT (pv 1) (aa (cF (aa br (aa (pv 2) (aa (bC cT (pv 2) ay) ah)))) ah))))))))) (au (aJ (pv 1)))));refine⟨iR,λq hq=>?_⟩;have s0:aL H (aP H q (.lst [])):=ak hq _;refine⟨Y,e,rfl,⟨_,bL.of (s0 _ _ he)⟩,dO (K:=K) (a:=e) (xs:=es.map V.int) (λi σ H2=>∃ (vs:List V) (u:Option V),σ=[some (.ref e),some (.ref q),u]/\H2 q=some (.lst vs)/\bU (cU H2) vs ((es.take i).foldl bw [])/\aL H H2) ⟨[],none,rfl,af,.nil,s0⟩ (by rintro i σ H2 _ ⟨_,_,_,_,_,s⟩;exact bL.of (s _ _ he)) ?_ ?_⟩
 ·rintro i x σ H2 hi ⟨vs,u,rfl,d9,hb,s⟩;rw[nG]at hi;obtain⟨x,ex,rfl⟩:=Option.map_eq_some_iff.mp hi;have step:(es.take (i+1)).foldl bw []=bw ((es.take i).foldl bw []) x:=by rw[take_snoc ex,List.foldl_append];rfl
  have bl:vs.length<sizeLine:=by
   have z:=hb.len;have z2:=oO (es.take i) [];rw[gy,sI]at z2;exact aV ∅
  refine⟨Y,Z,Y,cI (λc=>?_) (λc=>?_)⟩
  ·have c':x<0:=of_decide_eq_true c;rw[bw,if_pos c']at step;refine⟨Y,.inl ⟨rfl,_,bL.of d9⟩,Y,Y,Z,pZ,λt ht=>⟨q,Z,ak ht _ _ _ d9,bl,?_⟩⟩;refine⟨vs++[.ref t],Y,af,?_,bP hq (s.trans (ak ht _)) (aM q _ _)⟩;rw[step];exact bU.new (it:=.win (-1-x)) d9 hb ht _
  ·have c':¬ x<0:=λz=>c (decide_eq_true z);rw[bw,if_neg c']at step;rcases oZ ((es.take i).foldl bw []) with hn|⟨t0,l0,hn⟩
   ·rw[hn]at hb step;have hvs:vs=[]:=List.eq_nil_of_length_eq_zero hb.len;subst hvs;refine⟨Y,q,Y,.inl (bL.of d9),Z,Y,eY (eY ?_)⟩;refine⟨Y,.inl ⟨rfl,_,bL.of d9⟩,Y,Y,Z,DH,λt ht=>⟨q,Z,ak ht _ _ _ d9,bl,?_⟩⟩;refine⟨[]++[.ref t],Y,af,?_,bP hq (s.trans (ak ht _)) (aM q _ _)⟩;rw[step];exact bU.new (it:=.aK x (x+1)) d9 hb ht _
   ·rw[nA]at hn;rw[hn,sG,List.dropLast_concat]at step;rw[hn]at hb;obtain⟨us,v0,rfl,hb0,a0,rfl,KD⟩:=hb.split;refine⟨Y,q,Y,.inl (bL.of d9),Z,Y,cI (λ_=>?_) (λz=>absurd (decide_eq_true (by simp)) z)⟩
    cases l0 with
    | win n =>
     refine⟨Y,Y,q,K,V,bL.of d9,fZ _ _,a0,K,V,dG.of KD,V,Y,cI (λz=>absurd z (by decide)) (λ_=>eY ?_)⟩;refine⟨Y,.inl ⟨rfl,_,bL.of d9⟩,Y,Y,Z,DH,λt ht=>⟨q,Z,ak ht _ _ _ d9,bl,?_⟩⟩;refine⟨P,rfl,af,?_,bP hq (s.trans (ak ht _)) (aM q _ _)⟩;rw[step];exact bU.new (it:=.aK x (x+1)) d9 hb ht _
    | aK p1 p2 =>
     refine⟨Y,Y,q,K,V,bL.of d9,fZ _ _,a0,K,V,dG.of KD,V,Y,cI (λ_=>?_) (λz=>absurd (by decide) z)⟩;refine⟨Y,Y,q,K,V,bL.of d9,fZ _ _,a0,K,V,dG.of KD,rfl,Y,rfl,Y,cI (λc2=>?_) (λc2=>?_)⟩
     ·have e2:p2=x:=V.int.inj (of_decide_eq_true c2);refine⟨Y,Y,q,K,V,bL.of d9,fZ _ _,a0,K,V,dG.of KD,rfl,Y,Z,DH,λt ht=>?_⟩;refine⟨Y,Y,q,P,us.length,V,ak ht _ _ _ d9,(by rw[dz];exact zK _),?_⟩;rw[zL];refine⟨P,rfl,af,?_,bP hq (s.trans (ak ht _)) (aM q _ _)⟩;rw[step];show bU _ _ (if p2=x then t0++[aR.aK p1 (x+1)] else _);rw[if_pos e2];exact bU.new (it:=.aK p1 (x+1)) d9 hb0 ht _
     ·have e2:¬ p2=x:=λz=>c2 (decide_eq_true (congrArg V.int z));refine⟨Y,.inl ⟨rfl,_,bL.of d9⟩,Y,Y,Z,DH,λt ht=>⟨q,Z,ak ht _ _ _ d9,bl,?_⟩⟩;refine⟨P,rfl,af,?_,bP hq (s.trans (ak ht _)) (aM q _ _)⟩;rw[step];show bU _ _ (if p2=x then _ else t0++[aR.aK p1 p2]++[aR.aK x (x+1)]);rw[if_neg e2];exact bU.new (it:=.aK x (x+1)) d9 hb ht _
 ·rintro σ H2 ⟨vs,u,rfl,d9,hb,s⟩;rw[cD,gK]at hb;exact⟨Y,k q H2 ⟨q,vs,rfl,d9,hb⟩ s hq⟩
theorem Reach.trans{E:Int->Int->Prop}{a b c:Int}(h:Reach E a b)(g:Reach E b c):Reach E a c:=by
 induction g with
 | one e=>exact .step h e
 | step _ e ih=>exact .step ih e
theorem GH{p q:Nat->Bool}(h:∀ i,p i=true->q i=true):∀ n,cnt n p<=cnt n q
 | 0=>gg _
 | n+1=>by
  rw[vD,vD];have ih:=GH h n;by_cases c:p n=true
  ·rw[if_pos c,if_pos (h n c)];lia
  ·rw[if_neg c];lia
open Classical in
theorem Xw{rows:cS}(sd:gr rows)(l:rows.length<=40)(h:∀ x,¬ Reach (jV rows) x x):DE rows:=by
 refine⟨λx=>cnt rows.length λi=>decide (Reach (jV rows) x (i:Int)),λx=>iJ (zZ _ _) l,λx y n=>?_⟩;obtain⟨y0,y1⟩:=sd.EK n;have yy:((y.toNat:Nat):Int)=y:=by lia
 have a:=GH (p:=λi=>decide (Reach (jV rows) y (i:Int))) (q:=λi=>decide (Reach (jV rows) x (i:Int))&&decide (i≠y.toNat)) (λi hi=>by
  have r:=of_decide_eq_true hi;rw[Bool.and_eq_true];refine⟨decide_eq_true ((Reach.one n).trans r),decide_eq_true λz=>?_⟩;rw[z,yy]at r
  exact h _ r) rows.length
 have b:=vE y.toNat rows.length (p:=λi=>decide (Reach (jV rows) x (i:Int))) (q:=λi=>decide (Reach (jV rows) x (i:Int))&&decide (i≠y.toNat)) ∅ (decide_eq_true (by rw[yy];exact .one n)) (λ_=>rfl);show cnt _ _<cnt _ _;lia
theorem KY{rows:cS}{s:Nat}{es:List Int}{x y:Int}(h:jV (rows.set s es) x y)(ne:x.toNat≠s):jV rows x y:=by
 obtain⟨x0,tV,e,hy⟩:=h;rw[List.getElem?_set_ne (λz=>ne z.symm)]at e;exact⟨x0,tV,e,hy⟩
theorem P1{rows:cS}{s:Int}{es:List Int}(s0:0<=s)(R:DE rows)(n:¬ Reach (jV (rows.set s.toNat es)) s s):∀ x,¬ Reach (jV (rows.set s.toNat es)) x x:=by
 have key:∀ {a b:Int},Reach (jV (rows.set s.toNat es)) a b->Reach (jV rows) a b\/((a=s\/Reach (jV (rows.set s.toNat es)) a s)/\Reach (jV (rows.set s.toNat es)) s b):=by
  intro a b r
  induction r with
  | one e =>
   by_cases c:a.toNat=s.toNat
   ·have q:a=s:=by have:=e.1;lia
    rw[q]at e;exact .inr ⟨.inl q,.one e⟩
   ·exact .inl (.one (KY e c))
  | @step y z r e ih =>
   by_cases c:y.toNat=s.toNat
   ·have q:y=s:=by have:=e.1;lia
    rw[q]at r e;exact .inr ⟨.inr r,.one e⟩
   ·rcases ih with i|i
    ·exact .inl (.step i (KY e c))
    ·exact .inr ⟨i.1,.step i.2 e⟩
 intro x r;rcases key r with z|⟨z|z,y⟩
 ·exact R.irr z
 ·rw[z]at y;exact n y
 ·exact n (y.trans z)
theorem xP(f:Int->Int)(e:Int)(r:List Int):jT f (e::r)=(if e<0 then 1+f (-1-e) else 1)+jT f r:=by unfold jT;rw[jy,List.sum_cons]
theorem KZ{sh:Int->List Int}{f:Int->Int}:∀ {es:List Int},(∀ y∈dQ es,((sh y).length:Int)<=f y)->(es.length:Int)<=jT f es/\((aU sh es).length:Int)<=jT f es
 | [],_=>by simp[jT,aU]
 | e::r,h=>by
  have ih:=KZ (es:=r) λy hy=>h y (b8.mpr ⟨(b8.mp hy).1,nu _ (b8.mp hy).2⟩);rw[xP,cj,dz,ny];unfold bh;by_cases c:e<0
  ·have z:=h (-1-e) (b8.mpr ⟨Q,by rw[show -1-(-1-e)=e by lia];simp⟩);rw[if_pos c,if_pos c];lia
  ·rw[if_neg c,if_neg c,iy];lia
theorem GI{rows:cS}{sh:Int->List Int}{f:Int->Int}(sd:gr rows)(R:DE rows)(hs:mZ rows sh)(hw:Weighs rows f):∀ x:Int,0<=x->∀ es,rows[x.toNat]?=some es->(es.length:Int)<=f x/\((sh x).length:Int)<=f x:=by
 obtain⟨rk,_,hd⟩:=R
 have key:∀ (k:Nat) (x:Int),rk x<k->0<=x->∀ es,rows[x.toNat]?=some es->(es.length:Int)<=f x/\((sh x).length:Int)<=f x:=by
  intro k
  induction k with
  | zero=>intro x h;lia
  | succ k ih =>
   intro x hx x0 es he;rw[hw x es x0 he,hs x es x0 he];refine KZ λy hy=>?_;have n:jV rows x y:=⟨x0,es,he,hy⟩;obtain⟨y0,y1⟩:=sd.EK n;have:=hd _ _ n;exact (ih y ∅ y0 _ (sF ∅)).2
 exact λx=>key (rk x+1) x (Nat.lt_succ_self _)
theorem P4{rows:cS}{sh:Int->List Int}{N:Int->Prop}(qo:gr rows)(yC:DE rows)(xX:mZ rows sh)(hN:∀ es∈rows,∀ e∈es,0<=e->N e):∀ x:Int,0<=x->x<rows.length->∀ y∈sh x,N y:=by
 obtain⟨rk,hb,hd⟩:=yC
 have key:∀ (k:Nat) (x:Int),rk x<k->0<=x->x<rows.length->∀ y∈sh x,N y:=by
  intro k
  induction k with
  | zero=>intro x h;lia
  | succ k ih =>
   intro x hx x0 x1 y hy;have he:rows[x.toNat]?=some rows[x.toNat]:=sF ∅;rw[xX x _ x0 he]at hy;unfold aU at hy;obtain⟨e,hm,hy⟩:=List.mem_flatMap.mp hy;unfold bh at hy;by_cases c:e<0
   ·rw[if_pos c]at hy;have nx:jV rows x (-1-e):=⟨x0,_,he,b8.mpr ⟨Q,by rw[show -1-(-1-e)=e by lia];exact hm⟩⟩;obtain⟨a,b⟩:=qo.EK nx;have:=hd _ _ nx;exact ih _ ∅ a b y hy
   ·rw[if_neg c]at hy;rw[List.mem_singleton.mp hy];exact hN _ (nF he) e hm ∅
 exact λx=>key (rk x+1) x (Nat.lt_succ_self _)
def tQ(n m:Nat)(e:Int):Prop:=(0<=e/\e<(n:Nat))\/(e<0/\-1-e<(m:Nat))
structure Good(n:Nat)(rows:cS):Prop where
 en:∀ es∈rows,∀ e∈es,tQ n rows.length e
 rk:DE rows
 ln:rows.length<=40
 wt:∃ f,Weighs rows f/\∀ x:Int,0<=x->x<rows.length->f x<=200
theorem AL{n:Nat}{rows:cS}(h:∀ es∈rows,∀ e∈es,tQ n rows.length e):gr rows:=λes he y hy=>by
 obtain⟨y0,hm⟩:=b8.mp hy;rcases h es he _ hm with z|z
 ·lia
 ·have:=z.2;lia
structure Gd(n:Nat)(rows:cS)(sh:Int->List Int):Prop where
 sn:Seen rows sh
 Xx:∀ x:Int,0<=x->x<rows.length->∀ a∈sh x,0<=a/\a<(n:Nat)
 sl:∀ x:Int,0<=x->x<rows.length->(sh x).length<=200
 es:∀ es∈rows,es.length<=200
 en:∀ es∈rows,∀ e∈es,tQ n rows.length e
 ln:rows.length<=40
theorem Good.es{n:Nat}{rows:cS}(h:Good n rows):∀ es∈rows,es.length<=200:=by
 obtain⟨en,rk,ln,f,hw,hm⟩:=h;obtain⟨sh,hs⟩:=AH rk;intro es he;obtain⟨i,hi⟩:=List.mem_iff_getElem?.mp he;have il:=(List.getElem?_eq_some_iff.mp hi).1;have a:=GI (AL en) rk hs hw (i:Int) ∅ es (by rw[Int.toNat_natCast];exact hi);have:=hm (i:Int) ∅ ∅;lia
theorem Good.P5{n:Nat}{rows:cS}(h:Good n rows):∃ sh,Gd n rows sh:=by
 have hes:=h.es;obtain⟨en,rk,ln,f,hw,hm⟩:=h;obtain⟨sh,hs⟩:=AH rk;have sd:=AL en
 have sl:∀ x:Int,0<=x->x<rows.length->(sh x).length<=200:=λx x0 x1=>by
  have a:=GI sd rk hs hw x x0 _ (sF ∅);have:=hm x x0 x1;lia
 refine⟨sh,⟨λes he=>by have:=hes es he;lia,sd,rk,hs,λx x0 x1=>by have:=sl x x0 x1;lia⟩,P4 sd rk hs (λes he e hm e0=>?_),sl,hes,en,ln⟩;rcases en es he e hm with z|z
 ·exact z
 ·lia
theorem Good.bears{n:Nat}{rows:cS}(h:Good n rows):∃ f,nU rows f:=by
 have hes:=h.es;obtain⟨en,rk,ln,f,hw,hm⟩:=h;exact⟨f,Q,λes he=>by have:=hes es he;lia,AL en,rk,hw,hm⟩
theorem Good.more{n m:Nat}{rows:cS}(h:Good n rows)(l:n<=m):Good m rows:=⟨λes he e hm=>(h.en es he e hm).imp (λz=>⟨z.1,by have:=z.2;lia⟩) id,h.rk,h.ln,h.wt⟩
theorem P6{n:Nat}{rows:cS}{s:Nat}{es:List Int}(h:∀ es∈rows,∀ e∈es,tQ n rows.length e)(g:∀ e∈es,tQ n rows.length e):∀ tV∈rows.set s es,∀ e∈tV,tQ n (rows.set s es).length e:=by
 intro tV hm;rw[List.length_set];rcases List.mem_or_eq_of_mem_set hm with z|z
 ·exact h tV z
 ·rw[z];exact g
theorem GJ{sh:Int->List Int}{N:Int->Prop}(hs:∀ e,N e->∀ x∈bh sh e,N x)(p:Int):∀ (es:List Int) (f:Int),(∀ e∈es,N e)->∀ x,x∈aE sh p f es\/x∈bE sh p f es->N x
 | [],_,_=>λx hx=>by rcases hx with z | z <;> cases z
 | e::r,f,h=>by
  intro x hx;rw[aE,bE,List.mem_append,List.mem_append]at hx;have he:=hs e (h e (by simp));have ih:=GJ hs p r (f+(bh sh e).length) (λy hy=>h y (nu _ hy)) x;rcases hx with (z|z)|(z|z)
  ·split at z
   ·rw[List.mem_singleton.mp z];exact h e (by simp)
   ·split at z
    ·cases z
    ·exact he x (List.mem_of_mem_take z)
  ·exact ih (.inl z)
  ·split at z
   ·cases z
   ·split at z
    ·rw[List.mem_singleton.mp z];exact h e (by simp)
    ·exact he x (List.mem_of_mem_drop z)
  ·exact ih (.inr z)
theorem P7{sh:Int->List Int}{N:Int->Prop}(hs:∀ e,N e->∀ x∈bh sh e,N x)(a b:Int):∀ (es:List Int) (f:Int),(∀ e∈es,N e)->∀ x,x∈kE sh a b f es\/x∈tE sh a b f es->N x
 | [],_,_=>λx hx=>by rcases hx with z | z <;> cases z
 | e::r,f,h=>by
  intro x hx;rw[kE,tE,List.mem_append,List.mem_append]at hx;have he:=hs e (h e (by simp));have ih:=P7 hs a b r (f+(bh sh e).length) (λy hy=>h y (nu _ hy)) x;unfold KL M8 at hx;rcases hx with (z|z)|(z|z)
  ·split at z
   ·rw[List.mem_singleton.mp z];exact h e (by simp)
   ·split at z
    ·cases z
    ·rcases List.mem_append.mp z with z|z
     ·exact he x (List.mem_of_mem_take z)
     ·exact he x (List.mem_of_mem_drop z)
  ·exact ih (.inl z)
  ·split at z
   ·cases z
   ·split at z
    ·rw[List.mem_singleton.mp z];exact h e (by simp)
    ·exact he x (List.mem_of_mem_take (List.mem_of_mem_drop z))
  ·exact ih (.inr z)
theorem xQ{sh:Int->List Int}{N:Int->Prop}(hs:∀ e,N e->∀ x∈bh sh e,N x){p:Int}{es new:List Int}(h:∀ e∈es,N e)(g:∀ e∈new,N e):∀ e∈fP sh p es new,N e:=by
 intro x hx;unfold fP at hx;split at hx
 ·exact h x hx
 ·rw[List.mem_append,List.mem_append]at hx;rcases hx with (z|z)|z
  ·exact GJ hs p es 0 h x (.inl z)
  ·exact g x z
  ·exact GJ hs p es 0 h x (.inr z)
theorem Gd.cl{n:Nat}{rows:cS}{sh:Int->List Int}(h:Gd n rows sh):∀ e,tQ n rows.length e->∀ x∈bh sh e,tQ n rows.length x:=by
 intro e he x hx;unfold bh at hx;rcases he with z|z
 ·rw[if_neg ∅]at hx;rw[List.mem_singleton.mp hx];exact .inl z
 ·rw[if_pos z.1]at hx;exact .inl (h.Xx _ ∅ z.2 x hx)
theorem Gd.own{n:Nat}{rows:cS}{sh:Int->List Int}(h:Gd n rows sh)(s:Int):∀ e∈gv.own rows s,tQ n rows.length e:=by
 unfold gv.own
 cases e:rows[s.toNat]? with
 | none=>exact λ_ z=>nomatch z
 | some es=>exact h.en es (nF e)
inductive LD
 | put (s p:Int) (r:Addr) (row:Row)
 | cut (s a b:Int)
 | TU (s a b t:Int)
 | UZ (t p s a b:Int)
 | win (t p s:Int)
 | fix (s:Int)
def LD.sh:LD->Int
 | .put s _ _ _=>s
 | .cut s _ _=>s
 | .TU s _ _ _=>s
 | .UZ t _ _ _ _=>t
 | .win t _ _=>t
 | .fix s=>s
def LD.At(H:Hp)(d:Addr):LD->Prop
 | .put s p r row=>H d=some (.tup [.str "put",.int s,.int p,.ref r])/\cA H r row
 | .cut s a b=>H d=some (.tup [.str "cut",.int s,.int a,.int b])
 | .TU s a b t=>H d=some (.tup [.str "move",.int s,.int a,.int b,.int t])
 | .UZ t p s a b=>H d=some (.tup [.str "quote",.int t,.int p,.int s,.int a,.int b])
 | .win t p s=>H d=some (.tup [.str "window",.int t,.int p,.int s])
 | .fix s=>H d=some (.tup [.str "fix",.int s])
def LD.Ok(n m:Nat)(sh:Int->List Int):LD->Prop
 | .put s p _ row=>lE m s/\(0<=p/\p<=(sh s).length)/\row.length<=2/\∀ q∈row,0<=q.1/\q.1<q.2/\q.2<=(n:Nat)/\q.2<=q.1+40
 | .cut s a b=>lE m s/\M0 a b (sh s).length
 | .TU s a b t=>lE m s/\Mv a b t (sh s).length
 | .UZ t p s a b=>lE m t/\(0<=p/\p<=(sh t).length)/\lE m s/\M0 a b (sh s).length
 | .win t p s=>lE m t/\(0<=p/\p<=(sh t).length)/\lE m s
 | .fix s=>lE m s
def LD.res(sh:Int->List Int)(rows:cS):LD->List Int
 | .put s p _ row=>fP sh p (own rows s) (bM row)
 | .cut s a b=>bS sh a b (own rows s)
 | .TU s a b t=>lS sh a b t (own rows s)
 | .UZ t p s a b=>fP sh p (own rows t) (((sh s).take b.toNat).drop a.toNat)
 | .win t p s=>fP sh p (own rows t) [-1-s]
 | .fix s=>sh s
theorem LD.Xx{n m:Nat}{sh:Int->List Int}{dd:LD}(h:dd.Ok n m sh):lE m dd.sh:=by
 cases dd with
 | fix=>exact h
 | _=>exact h.1
theorem LD.Xy{n:Nat}{rows:cS}{sh:Int->List Int}(g:Gd n rows sh){dd:LD}(h:dd.Ok n rows.length sh):∀ e∈dd.res sh rows,tQ n rows.length e:=by
 have cl:=g.cl
 cases dd with
 | put s p r row =>
  refine xQ cl (g.own s) λe he=>.inl (PV (λq hq=>?_) he);have:=h.2.2.2 q hq;exact⟨this.1,this.2.1,this.2.2.1⟩
 | cut s a b =>
  intro e he;unfold LD.res bS at he;dsimp only at he;split at he
  ·exact g.own s e he
  ·exact P7 cl a b _ 0 (g.own s) e (.inl he)
 | TU s a b t =>
  intro e he;unfold LD.res lS at he;dsimp only at he;split at he
  ·exact g.own s e he
  ·have kk:=P7 cl a b (own rows s) 0 (g.own s);rw[List.mem_append,List.mem_append]at he;rcases he with (z|z)|z
   ·exact GJ cl t _ 0 (λy hy=>kk y (.inl hy)) e (.inl z)
   ·exact kk e (.inr z)
   ·exact GJ cl t _ 0 (λy hy=>kk y (.inl hy)) e (.inr z)
 | UZ t p s a b =>
  refine xQ cl (g.own t) λe he=>.inl (g.Xx s h.2.2.1.1 h.2.2.1.2 e (List.mem_of_mem_take (List.mem_of_mem_drop he)))
 | win t p s =>
  refine xQ cl (g.own t) λe he=>.inr ?_;rw[List.mem_singleton.mp he];have:=h.2.2;unfold lE at this;lia
 | fix s=>exact λe he=>.inl (g.Xx s h.1 h.2 e he)
theorem LD.At.same{H H':Hp}{d:Addr}{dd:LD}(s:aL H H')(h:dd.At H d):dd.At H' d:=by
 cases dd with
 | put=>exact⟨s _ _ h.1,h.2.same s⟩
 | _=>exact s _ _ h
theorem P8(sh:Int->List Int){a b:Int}{N:Int->Prop}:∀ (es:List Int) (f:Int),(∀ e∈es,∀ x∈bh sh e,N x)->∀ x∈kE sh a b f es,x∈es\/N x
 | [],_,_=>λx hx=>by cases hx
 | e::r,f,h=>by
  intro x hx;rw[kE]at hx;rcases List.mem_append.mp hx with z|z
  ·unfold KL at z;split at z
   ·rw[List.mem_singleton.mp z];exact .inl (by simp)
   ·split at z
    ·cases z
    ·rcases List.mem_append.mp z with y|y
     ·exact .inr (h e (by simp) x (List.mem_of_mem_take y))
     ·exact .inr (h e (by simp) x (List.mem_of_mem_drop y))
  ·rcases P8 sh r _ (λe he=>h e (nu _ he)) x z with y|y
   ·exact .inl (nu _ y)
   ·exact .inr y
theorem AM(sh:Int->List Int):∀ (xs:List Int),(∀ x∈xs,0<=x)->aU sh xs=xs
 | [],_=>rfl
 | x::xs,h=>by rw[cj,rY sh (h x (by simp)),AM sh xs λy hy=>h y (nu _ hy)];rfl
theorem K0(sh:Int->List Int){a b:Int}(ab:a<=b):∀ (es:List Int) (f:Int),(∀ e∈es,∀ x∈bh sh e,0<=x)->(aU sh (kE sh a b f es)).length<=(aU sh es).length
 | [],_,_=>by simp[kE]
 | e::r,f,h=>by
  rw[kE,jJ,cj,dz,dz];have ih:=K0 sh ab r (f+(bh sh e).length) (λe he=>h e (nu _ he))
  have one:(aU sh (KL sh a b f e)).length<=(bh sh e).length:=by
   unfold KL;split
   ·rw[cj];simp[aU]
   ·split
    ·simp[aU]
    ·rename_i c1 c2;have h1:=h e (by simp);rw[jJ,AM sh _ λx hx=>h1 x (List.mem_of_mem_take hx),AM sh _ λx hx=>h1 x (List.mem_of_mem_drop hx),dz,gy,sH];lia
  lia
theorem U0(sh:Int->List Int){a b:Int}(ab:a<b):∀ (es:List Int) (f:Int),f<=a->a<f+(aU sh es).length->tE sh a b f es≠[]
 | [],f,h,g=>by simp[aU]at g;lia
 | e::r,f,h,g=>by
  rw[cj,dz]at g;rw[tE];intro z;obtain⟨z1,z2⟩:=List.append_eq_nil_iff.mp z;by_cases c1:f+(bh sh e).length<=a
  ·exact U0 sh ab r (f+(bh sh e).length) c1 ∅ z2
  ·unfold M8 at z1;rw[if_neg (λy=>y.elim c1 ∅)]at z1;split at z1
   ·cases z1
   ·rename_i c2;have q:=congrArg List.length z1;rw[sH,gy,sI]at q;lia
theorem GK{sh sg:Int->List Int}(p:Int):∀ (es:List Int) (f:Int),(∀ e∈es,bh sh e=bh sg e)->aE sh p f es=aE sg p f es
 | [],_,_=>rfl
 | e::r,f,h=>by rw[aE,aE,h e (by simp),GK p r _ λx hx=>h x (nu _ hx)]
theorem GL{sh sg:Int->List Int}(p:Int):∀ (es:List Int) (f:Int),(∀ e∈es,bh sh e=bh sg e)->bE sh p f es=bE sg p f es
 | [],_,_=>rfl
 | e::r,f,h=>by rw[bE,bE,h e (by simp),GL p r _ λx hx=>h x (nu _ hx)]
theorem GN{sh sg:Int->List Int}:∀ (es:List Int),(∀ y∈dQ es,(sg y).length<=(sh y).length)->(aU sg es).length<=(aU sh es).length
 | [],_=>by simp[aU]
 | e::r,h=>by
  rw[cj,cj,dz,dz]
  have ih:=GN (sh:=sh) (sg:=sg) r λy hy=>h y (by
   obtain⟨a,b⟩:=b8.mp hy
   exact b8.mpr ⟨a,nu _ b⟩)
  have one:(bh sg e).length<=(bh sh e).length:=by
   unfold bh;by_cases c:e<0
   ·rw[if_pos c,if_pos c];exact h _ (b8.mpr ⟨Q,by rw[show -1-(-1-e)=e by lia];simp⟩)
   ·rw[if_neg c,if_neg c];exact gg _
  lia
structure abm(rows:cS)(sh:Int->List Int)(rk:Int->Nat)(s a b:Int)(es:List Int)(rs:cS)(sg:Int->List Int):Prop where
 snd:gr rs
 nx:∀ x y,jV rs x y->jV rows x y
 OU:mZ rs sg
 bd:∀ x:Int,0<=x->x<rs.length->(sg x).length<=10000
 eq:∀ n,rk n<rk s->0<=n->n<rows.length->sg n=sh n
theorem P9{rows:cS}{sh:Int->List Int}{rk:Int->Nat}{s a b:Int}{es:List Int}(qo:gr rows)(hrb:∀ x,rk x<=40)(Ux:∀ x y,jV rows x y->rk y<rk x)(xX:mZ rows sh)(EM:∀ x:Int,0<=x->x<rows.length->(sh x).length<=10000)(h0:0<=s)(h1:s<rows.length)(he:rows[s.toNat]?=some es)(ab:a<=b):∃ sg,abm rows sh rk s a b es (rows.set s.toNat (bS sh a b es)) sg:=by
 have hnn:=oS qo ⟨rk,hrb,Ux⟩ xX
 have ent:∀ e∈es,∀ x∈bh sh e,0<=x:=λe hm x hx=>by
  unfold bh at hx;by_cases c:e<0
  ·rw[if_pos c]at hx;have nx:jV rows s (-1-e):=⟨h0,es,he,b8.mpr ⟨Q,by rw[show -1-(-1-e)=e by lia];exact hm⟩⟩;obtain⟨p,q⟩:=qo.EK nx;exact hnn _ p q x hx
  ·rw[if_neg c]at hx;rw[List.mem_singleton.mp hx];lia
 have win:∀ y∈dQ (bS sh a b es),y∈dQ es:=λy hy=>by
  obtain⟨y0,hm⟩:=b8.mp hy;refine b8.mpr ⟨y0,?_⟩;unfold bS at hm;split at hm
  ·exact hm
  ·rcases P8 sh es 0 ent _ hm with z|z
   ·exact z
   ·lia
 have nx:∀ x y,jV (rows.set s.toNat (bS sh a b es)) x y->jV rows x y:=by
  rintro x y ⟨x0,tV,hx,hy⟩;by_cases c:x.toNat=s.toNat
  ·rw[c,List.getElem?_set,if_pos rfl]at hx;split at hx
   ·cases hx;exact⟨x0,es,by rw[c];exact he,win y hy⟩
   ·cases hx
  ·rw[List.getElem?_set_ne (λz=>c z.symm)]at hx;exact⟨x0,tV,hx,hy⟩
 have snd:gr (rows.set s.toNat (bS sh a b es)):=λtV hm y hy=>by
  rw[List.length_set];rcases List.mem_or_eq_of_mem_set hm with z|z
  ·exact qo tV z y hy
  ·subst z;exact qo es (nF he) y (win y hy)
 obtain⟨sg,hsg⟩:=AH (rows:=rows.set s.toNat (bS sh a b es)) ⟨rk,hrb,λx y h=>Ux x y (nx x y h)⟩
 have TV:(rows.set s.toNat (bS sh a b es))[s.toNat]?=some (bS sh a b es):=by
  rw[List.getElem?_set,if_pos rfl,if_pos ∅]
 have key:∀ (k:Nat) (x:Int),rk x<k->0<=x->x<rows.length->(rk x<rk s->sg x=sh x)/\(sg x).length<=(sh x).length:=by
  intro k
  induction k with
  | zero=>intro x h;lia
  | succ k ih =>
   intro x hx x0 x1;by_cases c:x.toNat=s.toNat
   ·have xs:x=s:=by lia
    subst xs;refine⟨λz=>by lia,?_⟩;have e1:=hsg x _ x0 TV
    have e2:aU sg (bS sh a b es)=aU sh (bS sh a b es):=rE λy hy=>by
     have n:=Ux x y ⟨x0,es,he,win y hy⟩;obtain⟨p,q⟩:=qo.EK ⟨x0,es,he,win y hy⟩;exact (ih y ∅ p q).1 n
    rw[e1,e2,xX x es x0 he];unfold bS;split
    ·exact gg _
    ·exact K0 sh ab es 0 ent
   ·have hx1:rows[x.toNat]?=some rows[x.toNat]:=sF ∅;have e1:=hsg x _ x0 (by rw[List.getElem?_set_ne (λz=>c z.symm)];exact hx1);have e2:=xX x _ x0 hx1
    have low:∀ y∈dQ rows[x.toNat],rk y<rk x/\0<=y/\y<rows.length:=λy hy=>by
     have n:jV rows x y:=⟨x0,_,hx1,hy⟩;exact⟨Ux x y n,qo.EK n⟩
    refine⟨λz=>?_,?_⟩
    ·rw[e1,e2];exact rE λy hy=>(ih y (by have:=(low y hy).1;lia) (low y hy).2.1 (low y hy).2.2).1 (by have:=(low y hy).1;lia)
    ·rw[e1,e2];exact GN _ λy hy=>(ih y (by have:=(low y hy).1;lia) (low y hy).2.1 (low y hy).2.2).2
 refine⟨sg,snd,nx,hsg,λx x0 x1=>?_,λn h n0 n1=>(key (rk n+1) n (Nat.lt_succ_self _) n0 n1).1 h⟩;rw[List.length_set]at x1;have:=(key (rk x+1) x (Nat.lt_succ_self _) x0 x1).2;have:=EM x x0 x1;lia
theorem TX{rows:cS}{sh sg:Int->List Int}{rk:Int->Nat}{s a b to:Int}{es:List Int}(qo:gr rows)(hrb:∀ x,rk x<=40)(Ux:∀ x y,jV rows x y->rk y<rk x)(xX:mZ rows sh)(h0:0<=s)(he:rows[s.toNat]?=some es)(a0:0<=a)(ab:a<=b)(bn:b<=(sh s).length)(R:abm rows sh rk s a b es (rows.set s.toNat (bS sh a b es)) sg)(hk:(rows.set s.toNat (bS sh a b es))[s.toNat]?=some (bS sh a b es)):fP sg to (bS sh a b es) (gY sh a b es)=lS sh a b to es:=by
 unfold lS;by_cases c:a=b
 ·have e1:gY sh a b es=[]:=by unfold gY;rw[if_pos c]
  have e2:bS sh a b es=es:=by unfold bS;rw[if_pos c]
  rw[if_pos c,e1,e2];rfl
 ·rw[if_neg c];have e1:gY sh a b es=tE sh a b 0 es:=by unfold gY;rw[if_neg c]
  have e2:bS sh a b es=kE sh a b 0 es:=by unfold bS;rw[if_neg c]
  have ne:tE sh a b 0 es≠[]:=U0 sh ∅ es 0 a0 (by rw[← xX s es h0 he];lia)
  have ag:∀ e∈bS sh a b es,bh sg e=bh sh e:=λe hm=>by
   unfold bh;by_cases d:e<0
   ·rw[if_pos d,if_pos d];have n:jV (rows.set s.toNat (bS sh a b es)) s (-1-e):=⟨h0,_,hk,b8.mpr ⟨Q,by rw[show -1-(-1-e)=e by lia];exact hm⟩⟩;have n':=R.nx _ _ n;obtain⟨p,q⟩:=qo.EK n';exact R.eq _ (Ux _ _ n') p q
   ·rw[if_neg d,if_neg d]
  unfold fP;rw[e1,if_neg ne,GK to _ 0 ag,GL to _ 0 ag,e2]
theorem MO{X:Cx}(hc:X.calm=true):kq X (.builtin "max") (λxs H Q=>∃ (p:Addr) (ns:List Int),xs=[.ref p]/\bL X.K H p (ns.map V.int)/\0<ns.length/\∀ M,M∈ns->(∀ a∈ns,a<=M)->Q (.int M) H):=by
 intro ao s σ H xs us Q I r h;obtain⟨p,ns,rfl,hq,ne,q⟩:=h;obtain⟨u,rfl,rx⟩:=r.one;cases (show u=Value.ref p from rx);obtain⟨aO,rv,pl,hz⟩:=I.list hq;have hi:PyProof.Rows.IntsAre aO ns:=intsAre_of rv;obtain⟨xs,e⟩:=hi.allInts.items;have hl:=pl.isList
 have MX:ns=xs.toList.map (·.1):=by
  rw[← hi.numsOf,← PySem.nums_intItems,← e]
 have hsz:0<xs.size:=by
  have h3:=ne;rw[MX,cD,Array.length_toList]at h3;exact h3
 rw[e]at hl;refine PySem.max_intList (I.ok.hd hc) hl hsz λv h' tk hv hk=>?_;obtain⟨t,rfl⟩:=PySem.intItems_at hv;obtain⟨h1,h2⟩:=PySem.argBest_gt (PySem.numAt xs) (xs.size-1);refine⟨.int _,H,I.kept hk,⟨t,rfl⟩,q _ ?_ λa ha=>?_⟩
 ·rw[MX,PySem.numAt_eq];exact PySem.getD_mem (by rw[cD,Array.length_toList];lia)
 ·rw[MX]at ha;obtain⟨j,hj,rfl⟩:=PySem.mem_getD ha;rw[cD,Array.length_toList]at hj;rw[← PySem.numAt_eq];exact h2 j ∅
class inductive Qa
 | mk (av:Addr->Prop) (r:Addr) (rows:cS) (s:Int) (_:vs=[.ref r,.int s]) (_:gW av H r rows) (_:rows.length<=40) (_:∀ es∈rows,es.length<=100000) (_:gr rows) (_:0<=s) (_:s<rows.length) (_:¬ Reach (jV rows) s s->∀ x,¬ Reach (jV rows) x x) (_:∀ (b:Bool) (H':Hp),aL H H'->(b=true->DE rows/\∃ f,Weighs rows f/\∀ x:Int,0<=x->x<rows.length->f x<=200)->Q (.bl b) H')
theorem GO:aH ["_law_rows","_law_sheet"] ["_law_rows","_law_sheet"] (aA pU):=eO
theorem GP:‹(43,92,["_law_rows","_law_sheet"],Qa)›:=λD=>by
 refine eV D.aaw.F GO λcN A zn s0 H vs Q E hr h=>?_;obtain⟨av,r,rows,s,rfl,R,ln,he,sd,s0,s1,rg,k⟩:=h;refine⟨_,(aj (bK (aT B4 (pv 1) (aG D.aat (AJ D) hr (aa (pv 0) (aa (pv 1) ah))) rfl) (au (aJ nI)) aX) (au (aJ (j8 fJ (cC (MO rfl) rfl D.T.FQ PyProof.Rows.boot_max (aa (gV (N:=["_law_other","_law_rows"]) (nP (sc:=aA pU) (NX:=["_law_rows","_law_sheet"]) (jx:=[none,some 0]) rfl rfl rfl nofun nofun rfl nofun rfl nofun) rfl (jq rfl D.T.jd (aa (eS D.T.eE (pv 0)) ah)) (λ_ _ _ _ _ _=>(cu (i:=0) (show List.Nodup (["_law_other","_law_rows"]:List Str) by decide +kernel))) (λ_ _ _ _ _ _=>gI) (λ_ _ _ _ _ _=>(aG D.WN (rF D 41) hr (aa (pv 1) (aa (pv 0) ah))))) ah)) ay (bq _))))),?_⟩;refine⟨Y,Y,Y,av,r,rows,s,rfl,R,Q,he,sd,s0,s1,λL o H1 ho sm iff=>?_⟩;exists o,Y,.inl (bL.of ho),rfl,CF L,Y;rw[Kq];by_cases hm:s∈L
 ·rw[decide_eq_true hm];exact gR (k false H1 sm λz=>nomatch z)
 rw[decide_eq_false hm];refine eY ?_;have R1:=Xw sd ln (rg λz=>hm ((iff s).mpr z));obtain⟨f,hf⟩:=Me R1;obtain⟨rk,rb,dn⟩:=id R1;have Rs:=R.same sm;obtain⟨vs,hr1,al⟩:=id Rs;have lv:=al.len;have gN:∀ i:Nat,((List.range i).map λj:Nat=>f (j:Int)).length=i:=λi=>by rw[cD,List.length_range]
 refine⟨Y,r,Y,.inl (bL.of hr1),Y,Q,Q,λacc cY=>yd (lo:=0) (k:=((vs.length:Nat):Int).toNat) (λi σ H2=>∃ u:Option V,σ=[u,some (.ref r)]/\H2 acc=some (.lst (((List.range i).map λj:Nat=>f (j:Int)).map V.int))/\aL H1 H2) ⟨none,rfl,af,ak cY _⟩ ?_ ?_⟩
 ·rintro i σ H2 hi ⟨u,rfl,ha,s2⟩;have il:i<rows.length:=by lia
  refine⟨Y,Y,av,r,rows,0+(i:Int),f,rk,rfl,Rs.same s2,Q,sd,Q,Q,hf,dn,by have:=rb (0+(i:Int));lia,_,ha,(by rw[cD,gN];exact aV ∅),Y,?_,bP cY s2 (aM acc _ _)⟩;rw[af,List.range_succ,gG,gG,Int.zero_add];rfl
 ·rintro σ H2 ⟨u,rfl,ha,s2⟩;refine⟨acc,Y,bL.of ha,by rw[gN];lia,λM _ hM=>⟨Z,?_⟩⟩;refine k _ H2 (sm.trans s2) λz=>⟨R1,f,hf,λx x0 x1=>?_⟩;have y:=hM (f x) (List.mem_map.mpr ⟨x.toNat,List.mem_range.mpr ∅,by rw[show ((x.toNat:Nat):Int)=x by lia]⟩);have:=of_decide_eq_true z;lia
theorem cB{a b:Str}(h:a≠b){A B:Prop}(z:B):if decide (V.str a=V.str b)=true then A else B:=by
 rw[if_neg λy=>h (V.str.inj (of_decide_eq_true y))];exact z
theorem je{a:Str}{A B:Prop}(z:A):if decide (V.str a=V.str a)=true then A else B:=by
 rw[if_pos (decide_eq_true rfl)];exact z
theorem Na.at_{W:Addr->Prop}{H:Hp}{a:Addr}{rows:cS}(h:Na W ik ps H a rows):gW (λ_=>False) H a rows:=by
 obtain⟨_,_,_,vs,hv,al⟩:=h;exact⟨vs,hv,al.mono λv es ⟨b,e,K,hb⟩=>⟨b,e,λz=>z,hb⟩⟩
theorem jO{rows:cS}{s:Int}(h:lE rows.length s):rows[s.toNat]?=some (own rows s):=by
 have:s.toNat<rows.length:=by have:=h.1;have:=h.2;lia
 unfold own;rw[sF this];rfl
class inductive K9
 | mk (W:Addr->Prop) (w d:Addr) (aK:gA) (pq:iu) (rows:cS) (n:Nat) (sh:Int->List Int) (dd:LD) (_:vs=[.ref w,.ref d]) (_:Wo W H w aK pq rows) (_:dd.At H d) (_:Gd n rows sh) (_:dd.Ok n rows.length sh) (_:n<=10000) (_:∀ (o:Addr) (H':Hp),H' o=some (.lst ((dd.res sh rows).map V.int))->(dd.res sh rows).length<=100000->aL H H'->H o=none->Q (.ref o) H')
theorem jP:aH ["_law_world_here","_law_deed_here","_law_rows","_law_name","_law_kept","_law_taken"] ["_law_world_here","_law_deed_here"] (aA qS):=eO
theorem El:‹(45,93,["_law_world_here","_law_deed_here"],K9)›:=λD=>by
 have sE:bf P w K mg zt cM 44 _ _ zl8 (Jg 41):=Jh D;have C7:bf P w K mg zt cM 44 _ _ zl9 (P0 41):=Ji D;refine eV D.aax.F jP λcN A zn s0 H vs Q E hr h=>?_;obtain⟨W,w,d,aK,pq,rows,n,sh,dd,rfl,wo,hd,g,ok,n10,k⟩:=h;have hu:=gC hr;exists _,(aj (aW (i:=2) jP.nd (gj hu (pv 0) br)) (aj (aW (i:=3) jP.nd (aQ bx (pv 1) ay)) (aj (bK (aT dY (pv 3) br (bq _)) (au (aJ (aG D.OF sE hr (aa (pv 2) (aa (aQ bx (pv 1) ay) (aa (aQ bx (pv 1) ay) (aa (aG D.aas (Eg D) hr (aa (aQ bx (pv 1) ay) ah)) ah))))))) aX) (aj (bK (aT dY (pv 3) br (bq _)) (au (aJ (aQ bx (aG D.WM C7 hr (aa (pv 2) (aa (aQ bx (pv 1) ay) (aa (aQ bx (pv 1) ay) (aa (aQ bx (pv 1) ay) ah))))) ay))) aX) (aj (bK (aT dY (pv 3) br (bq _)) (aj (l9 (aG D.WM C7 hr (aa (pv 2) (aa (aQ bx (pv 1) ay) (aa (aQ bx (pv 1) ay) (aa (aQ bx (pv 1) ay) ah))))) (nZ (n:=2) rfl (ck (cu (i:=4) jP.nd) (ck (cu (i:=5) jP.nd) gH)))) (au (aJ (aG D.OF sE hr (aa (aG D.WK (yr D) hr (aa (pv 2) (aa (aQ bx (pv 1) ay) (aa (pv 4) ah)))) (aa (aQ bx (pv 1) ay) (aa (aQ bx (pv 1) ay) (aa (pv 5) ah)))))))) aX) (aj (bK (aT dY (pv 3) br (bq _)) (au (aJ (aG D.OF sE hr (aa (pv 2) (aa (aQ bx (pv 1) ay) (aa (aQ bx (pv 1) ay) (aa (iT lP (aG D.FY (ic D 41) hr (aa (pv 2) (aa (aQ bx (pv 1) ay) ah))) (ja (aQ bx (pv 1) ay)) (ja (aQ bx (pv 1) ay))) ah))))))) aX) (aj (bK (aT dY (pv 3) br (bq _)) (au (aJ (aG D.OF sE hr (aa (pv 2) (aa (aQ bx (pv 1) ay) (aa (aQ bx (pv 1) ay) (aa (bN (aa (bC cK (gw eK ay) (aQ bx (pv 1) ay)) ah)) ah))))))) aX) (aj (bK (aT dY (pv 3) br (bq _)) (au (aJ (aG D.FY (ic D 41) hr (aa (pv 2) (aa (aQ bx (pv 1) ay) ah))))) aX) (au (aJ (aQ bH (aQ bH (gj hu (pv 0) br) (aQ bx (pv 1) ay)) (aQ bx (pv 1) ay))))))))))));obtain⟨ik,jw,ps,vl,wu⟩:=id wo;have zr:=iD.k (k:=kR) wu.hw;rw[show cE (rB ik jw ps vl) kR=some (.ref jw) by kernel_rfl]at zr;have R:=wu.hr.at_;obtain⟨rk,rb,dn⟩:=g.sn.rk;have l40:=g.ln;have lr:rows.length<=1000:=by lia
 have rb':∀ s,rk s<=41:=λs=>by have:=rb s;lia
 have e25:∀ es∈rows,es.length<=25000:=λes he=>by have:=g.es es he;lia
 exists Y,w,Y,zr
 have kO:∀ {s p:Int} {new:List Int} {q o:Addr} {H1:Hp} {Q:VK} {E:XK},lE rows.length s->gW (λ_=>False) H1 q rows->H1 o=some (.lst (new.map V.int))->new.length<=25000->aL H H1->(∀ (o:Addr) (H':Hp),H' o=some (.lst ((fP sh p (own rows s) new).map V.int))->(fP sh p (own rows s) new).length<=100000->aL H H'->H o=none->Q (.ref o) H')->Jg 41 [.ref q,.int s,.int p,.ref o] H1 Q E:=by
  intro s p new q o H1 Q E is R1 ho ln s1 k1;refine⟨_,q,o,rows,s,p,new,sh,rk,rfl,R1,lr,e25,g.sn.sd,g.sn.ss,g.sn.ln,dn,is.1,is.2,rb' s,ho,ln,λes o2 H2 oJ h2 l2 s2 f2=>?_⟩;rw[jO is]at oJ;cases oJ;exact k1 o2 H2 h2 l2 (s1.trans s2) (bu s1 f2)
 cases dd with
 | put s p r row =>
  obtain⟨hd,Qc⟩:=hd;obtain⟨is,ip,l2,hq⟩:=ok;exists Y,d,K,V,dG.of hd,uI;refine⟨Y,rfl,Y,je ?_⟩;have bd:=GD (k:=40) (row:=row) λq h=>by have:=hq q h;lia
  refine⟨Y,Y,d,K,V,dG.of hd,vG,Y,d,K,V,dG.of hd,Bj,Y,d,K,V,dG.of hd,Bk,r,row,rfl,Qc,λq h=>by have:=hq q h;lia,Q,Q,λo1 H1 h1 s1 f1=>?_⟩;exact kO is (R.same s1) h1 ∅ s1 k
 | cut s a b =>
  obtain⟨is,i3⟩:=ok;exists Y,d,K,V,dG.of hd,uI;refine⟨Y,rfl,Y,cB nofun ⟨Y,rfl,Y,je ?_⟩⟩;refine⟨Y,Y,d,K,V,dG.of hd,vG,Y,d,K,V,dG.of hd,Bj,Y,d,K,V,dG.of hd,Bk,_,jw,rows,s,a,b,sh,rk,rfl,R,lr,(λes he=>by have:=g.es es he;lia),g.sn.sd,g.sn.ss,g.sn.ln,dn,is.1,is.2,rb' s,i3.2.1,λes tu L M H1 oJ ht hL hM s1 fL fM nLM=>?_⟩;rw[jO is]at oJ;cases oJ;refine⟨tu,K,V,dG.of ht,uI,k L H1 hL ?_ s1 fL⟩;have cl:=uT sh a b (own rows s);have ls:=g.sl s is.1 is.2;rw[g.sn.ss s _ is.1 (jO is)]at ls;have:=g.es _ (nF (jO is));show (bS sh a b (own rows s)).length<=_;lia
 | TU s a b t =>
  obtain⟨is,mv⟩:=ok;have i3:=mv.1;have lo:=g.es _ (nF (jO is));have e:=g.sn.ss s _ is.1 (jO is);have ls:=g.sl s is.1 is.2;rw[e]at ls;have cl:=uT sh a b (own rows s);have tl:=AK sh a b (own rows s);exists Y,d,K,V,dG.of hd,uI;refine⟨Y,rfl,Y,cB nofun ⟨Y,rfl,Y,cB nofun ⟨Y,rfl,Y,je ?_⟩⟩⟩;refine⟨Y,Y,d,K,V,dG.of hd,vG,Y,d,K,V,dG.of hd,Bj,Y,d,K,V,dG.of hd,Bk,_,jw,rows,s,a,b,sh,rk,rfl,R,lr,(λes he=>by have:=g.es es he;lia),g.sn.sd,g.sn.ss,g.sn.ln,dn,is.1,is.2,rb' s,i3.2.1,λes tu L M H1 oJ ht hL hM s1 fL fM nLM=>?_⟩;rw[jO is]at oJ;cases oJ;obtain⟨vs,hr1,al⟩:=R.same s1;have lv:=al.len;have is1:=is.1;have is2:=is.2;have LQ:=s1 _ _ hd;exists tu,Y,dG.of ht,rfl,P,rfl,Z;refine⟨Y,Y,d,K,V,dG.of LQ,vG,Y,jw,L,s.toNat,vs,(by rw[show ((s.toNat:Nat):Int)=s by lia];rfl),hr1,Q,Q,λq H2 hq s2 fq=>?_⟩;have hd2:=s2 _ _ LQ;obtain⟨sg,RR⟩:=P9 (a:=a) (b:=b) g.sn.sd rb dn g.sn.ss g.sn.ln is.1 is.2 (jO is) i3.2.1
  have TV:(rows.set s.toNat (bS sh a b (own rows s)))[s.toNat]?=some (bS sh a b (own rows s)):=by
   rw[List.getElem?_set,if_pos rfl,if_pos ∅]
  have R2:gW (λ_=>False) H2 q (rows.set s.toNat (bS sh a b (own rows s))):=⟨_,hq,bU.set _ (al.mono λv es z=>fN.same s2 z) ⟨L,rfl,λz=>z,s2 _ _ hL⟩⟩
  refine⟨Y,d,K,V,dG.of hd2,vG,Y,d,K,V,dG.of hd2,Sd,Y,_,q,M,_,s,t,gY sh a b (own rows s),sg,rk,rfl,R2,by rw[List.length_set];lia,(λtV hm=>by
   rcases List.mem_or_eq_of_mem_set hm with z|z
   ·exact e25 tV z
   ·rw[z];lia),RR.snd,RR.OU,RR.bd,(λx y h=>dn x y (RR.nx x y h)),is.1,by rw[List.length_set];exact is.2,rb' s,s2 _ _ hM,Q,λtV o H3 Kg h3 l3 s3 f3=>?_⟩
  rw[TV]at Kg;cases Kg;rw[TX g.sn.sd rb dn g.sn.ss is.1 (jO is) i3.1 i3.2.1 i3.2.2 RR TV]at h3 l3;exact k o H3 h3 l3 (s1.trans (s2.trans s3)) (bu (s1.trans s2) f3)
 | UZ t p s a b =>
  obtain⟨it,ip,is,i3⟩:=ok;exists Y,d,K,V,dG.of hd,uI;refine⟨Y,rfl,Y,cB nofun ⟨Y,rfl,Y,cB nofun ⟨Y,rfl,Y,cB nofun ⟨Y,rfl,Y,je ?_⟩⟩⟩⟩;have ls:=g.sl s is.1 is.2;refine⟨Y,Y,d,K,V,dG.of hd,vG,Y,d,K,V,dG.of hd,Bj,Y,Y,d,K,V,dG.of hd,Bk,_,jw,rows,s,sh,rk,rfl,R,lr,g.sn.sd,is.1,is.2,g.sn.ss,g.sn.ln,dn,by have:=rb s;lia,λo1 H1 h1 s1 f1=>?_⟩;have LQ:=s1 _ _ hd;refine⟨Y,d,K,V,dG.of LQ,Sd,Y,Y,d,K,V,dG.of LQ,ZN,Y,o1,Y,bL.of h1,λq hq=>?_⟩;have s2:=ak hq (.lst (kB ((sh s).map V.int) (some a) (some b)));have h2:(aP H1 q (.lst (kB ((sh s).map V.int) (some a) (some b)))) q=some (.lst ((((sh s).take b.toNat).drop a.toNat).map V.int)):=by rw[af,Gq _ i3.1 (by have:=i3.1;have:=i3.2.1;lia),List.map_drop,List.map_take]
  generalize aP H1 q (.lst (kB ((sh s).map V.int) (some a) (some b)))=H2 at s2 h2;exact kO it (R.same (s1.trans s2)) h2 (by rw[sH,gy];lia) (s1.trans s2) k
 | win t p s =>
  obtain⟨it,ip,is⟩:=ok;exists Y,d,K,V,dG.of hd,uI;refine⟨Y,rfl,Y,cB nofun ⟨Y,rfl,Y,cB nofun ⟨Y,rfl,Y,cB nofun ⟨Y,rfl,Y,cB nofun ⟨Y,rfl,Y,je ?_⟩⟩⟩⟩⟩;refine⟨Y,Y,d,K,V,dG.of hd,vG,Y,d,K,V,dG.of hd,Bj,Y,Y,d,K,V,dG.of hd,Bk,Z,jS,λq hq=>?_⟩;exact kO it (R.same (ak hq _)) af (by show 1<=25000;decide) (ak hq _) k
 | fix s =>
  exists Y,d,K,V,dG.of hd,uI;refine⟨Y,rfl,Y,cB nofun ⟨Y,rfl,Y,cB nofun ⟨Y,rfl,Y,cB nofun ⟨Y,rfl,Y,cB nofun ⟨Y,rfl,Y,cB nofun ⟨Y,rfl,Y,je ?_⟩⟩⟩⟩⟩⟩;exact⟨Y,Y,d,K,V,dG.of hd,vG,_,jw,rows,s,sh,rk,rfl,R,lr,g.sn.sd,ok.1,ok.2,g.sn.ss,g.sn.ln,dn,by have:=rb s;lia,λo1 H1 h1 s1 f1=>k o1 H1 h1 (by have:=g.sl s ok.1 ok.2;show (sh s).length<=_;lia) s1 f1⟩
theorem Qd{n:Nat}{row:Row}(h:∀ z∈row,0<=z.1/\z.1<z.2/\z.2<=(n:Nat)):uP n row=true:=List.all_eq_true.mpr λq hq=>by
 have:=h q hq;unfold QG;simp only[Bool.and_eq_true,decide_eq_true_eq];lia
def TY:Sp:=λ_ _ _ _=>False
theorem Qe{k:Nat}{f:Addr}{ps:List Str}:bf P w K mg zt cM k f fd ps TY:=⟨λvs H Q E h=>h.elim,λA zn s H args us vs Q E _ _ _ _ h=>h.elim⟩
theorem abn{i:Int}(h0:0<=i)(h1:i<=20000):lR i:=by
 have a:(20000:Int)<10^60:=by decide
 exact⟨Q,Q⟩
class inductive Qf(C CS CW CB:Addr)
 | mk (U:Addr->Prop) (x d:Addr) (pe:iu) (aF:iY) (aK:gA) (nW:Nat) (bV:Row) (rows:cS) (sh:Int->List Int) (dd:LD) (_:vs=[.ref x,.ref d]) (_:qA C CS CW CB U H x pe aF aK nW bV) (_:pe.getLast?=some rows) (_:pe.length<=900) (_:aF.length<=900) (_:aK.length<=10000) (_:dd.At H d) (_:Gd aK.length rows sh) (_:dd.Ok aK.length rows.length sh) (_:∃ f,nU (iX rows dd.sh.toNat (dd.res sh rows)) f) (_:∀ (U':Addr->Prop) (H':Hp) (dm:iY),dm.length=aF.length+1->qA C CS CW CB U' H' x (pe++[iX rows dd.sh.toNat (dd.res sh rows)]) dm aK nW bV->KP U U' H H'->Q .fH H')
theorem yt:aH ["_law_house","_law_deed_here","_law_name"] ["_law_house","_law_deed_here"] (aA uu):=eO
theorem GQ:‹(7,95,["_law_house","_law_deed_here"],(Qf C CS CW CB))›:=λD=>by
 have BG:bf P w K mg zt cM 4 (aZ 57) (bg 57) ["self","hand","text"] TY:=Qe;have AN:bf P w K mg zt cM 4 (aZ 54) (bg 54) ["self"] TY:=Qe;have BH:bf P w K mg zt cM 4 (aZ 94) (bg 94) ["self","sheet","moment"] TY:=Qe;refine eV D.aay.F yt λcN A zn s0 H vs Q E hr h=>?_;obtain⟨U,x,d,pe,aF,aK,nW,bV,rows,sh,dd,rfl,LB,hl,l2,l3,l4,hd,g,ok,B,k⟩:=h;exists _,(aj (aW (i:=2) yt.nd (aQ bx (pv 1) ay)) (aj (bK (aT dY (pv 2) br (bq _)) (au (aJ (cR (pv 0) D.aS D.WG BG hr bO (aa (aQ bx (pv 1) ay) (aa (aQ bx (pv 1) ay) ah))))) aX) (aj (bK (aT dY (pv 2) br (bq _)) (au (aJ (eU (pv 0) D.aS D.WE AN hr bO))) aX) (aj (bK (aT dY (pv 2) br (bq _)) (au (aJ (cR (pv 0) D.aS D.aac (AD D) hr bO (aa (aQ bx (pv 1) ay) (aa (aQ bx (pv 1) ay) (aa (eN fX rfl D.T.jm tS (aa (aQ bx (pv 1) ay) ah)) ah)))))) aX) (aj (bK (aT dY (pv 2) br (bq _)) (au (aJ (cR (pv 0) D.aS D.aad (AE D) hr bO (aa (aQ bx (pv 1) ay) (aa (aQ bx (pv 1) ay) (aa (aQ bx (pv 1) ay) ah)))))) aX) (aj (bK (aT dY (pv 2) br (bq _)) (au (aJ (cR (pv 0) D.aS D.aah (yM D) hr bO (aa (aQ bx (pv 1) ay) (aa (aQ bx (pv 1) ay) (aa (aQ bx (pv 1) ay) (aa (aQ bx (pv 1) ay) ah))))))) aX) (aj (bK (aT dY (pv 2) br (bq _)) (au (aJ (cR (pv 0) D.aS D.aae (xJ D) hr bO (aa (aQ bx (pv 1) ay) (aa (aQ bx (pv 1) ay) (aa (aQ bx (pv 1) ay) (aa (aQ bx (pv 1) ay) (aa (aQ bx (pv 1) ay) ah)))))))) aX) (aj (bK (aT dY (pv 2) br (bq _)) (au (aJ (cR (pv 0) D.aS D.aaf (vY D) hr bO (aa (aQ bx (pv 1) ay) (aa (aQ bx (pv 1) ay) (aa (aQ bx (pv 1) ay) ah)))))) aX) (aj (bK (aT dY (pv 2) br (bq _)) (au (aJ (cR (pv 0) D.aS D.aag (AF D) hr bO (aa (aQ bx (pv 1) ay) ah)))) aX) (au (aJ (cR (pv 0) D.aS D.ad6 BH hr bO (aa (aQ bx (pv 1) ay) (aa (aQ bx (pv 1) ay) ah))))))))))))));have l40:=g.ln;have l1:rows.length<=50:=by lia
 have sn:=g.sn;have one:∀ {l:List Nat},(aF++[l]).length=aF.length+1:=λ{l}=>by rw[dz];rfl
 have kO:∀ {s:Int},lE rows.length s->lR s:=λz=>abn z.1 (by have:=z.2;lia);have Xz:∀ {s p:Int},lE rows.length s->0<=p->p<=(sh s).length->lR p:=λz p0 p1=>abn p0 (by have:=g.sl _ z.1 z.2;lia);obtain⟨S',Xn,d',Yb,sh',bl',kn',du',bk',dS',Dg,Hj,dw',sg',ow',pw',db',tb',Je,LU⟩:=id LB;have hx:=LU.L.hx
 cases dd with
 | put s p r row =>
  obtain⟨hd,Qc⟩:=hd;obtain⟨is,ip,r2,hq⟩:=ok;have hh:=Qd (n:=aK.length) (row:=row) λz h=>by have:=hq z h;exact⟨this.1,this.2.1,this.2.2.1⟩
  obtain⟨as,ha,pa⟩:=id Qc;exists Y,d,K,V,dG.of hd,uI;refine⟨Y,rfl,Y,cB nofun ⟨Y,rfl,Y,cB nofun ⟨Y,rfl,Y,je ?_⟩⟩⟩;refine⟨Y,x,d',Y,hx,rfl,Y,d,K,V,dG.of hd,vG,Y,d,K,V,dG.of hd,Bj,Y,d,K,V,dG.of hd,Bk,r,Y,.inl (bL.of ha),λq Vy=>?_⟩;have s1:=ak Vy (.lst (as.map V.ref));have SH:cA (aP H q (.lst (as.map V.ref))) q row:=⟨as,af,pa.same s1⟩;generalize aP H q (.lst (as.map V.ref))=H1 at s1 SH;refine⟨U,x,q,pe,aF,aK,nW,bV,row,s,p,rows,rfl,LB.same s1,SH,⟨Q,λz h=>by have:=hq z h;exact⟨⟨Q,Q⟩,⟨Q,Q⟩⟩⟩,Q,hl,l1,l2,l3,kO is,Xz is ip.1 ip.2,is,hh,⟨sh,sn,ip,λes oJ=>?_⟩⟩;rw[jO is]at oJ;cases oJ
  have ee:dD (cO (cz row))=bM row:=by
   rw[oR,nO _ λq h=>by have:=hq q h;lia]
  rw[ee];exact⟨B,λU' H' L' fr=>k U' H' _ one L' (fr.pre s1)⟩
 | cut s a b =>
  obtain⟨is,i3⟩:=ok;exists Y,d,K,V,dG.of hd,uI;refine⟨Y,rfl,Y,cB nofun ⟨Y,rfl,Y,cB nofun ⟨Y,rfl,Y,cB nofun ⟨Y,rfl,Y,je ?_⟩⟩⟩⟩;refine⟨Y,x,d',Y,hx,rfl,Y,d,K,V,dG.of hd,vG,Y,d,K,V,dG.of hd,Bj,Y,d,K,V,dG.of hd,Bk,U,x,pe,aF,aK,nW,bV,s,a,b,rows,rfl,LB,hl,l1,l2,l3,kO is,Xz is i3.1 (by have:=i3.2.1;have:=i3.2.2;lia),Xz is (by have:=i3.2.1;have:=i3.1;lia) i3.2.2,is,⟨sh,sn,i3,λes oJ=>?_⟩⟩;rw[jO is]at oJ;cases oJ;exact⟨B,λU' H' L' fr=>k U' H' _ one L' fr⟩
 | TU s a b t =>
  obtain⟨is,mv⟩:=ok;have i3:=mv.1;have i1:=i3.1;have i2:=i3.2.1;have i4:=i3.2.2;have i5:=mv.2;have sl:=g.sl s is.1 is.2;exists Y,d,K,V,dG.of hd,uI;refine⟨Y,rfl,Y,cB nofun ⟨Y,rfl,Y,cB nofun ⟨Y,rfl,Y,cB nofun ⟨Y,rfl,Y,cB nofun ⟨Y,rfl,Y,je ?_⟩⟩⟩⟩⟩;refine⟨Y,x,d',Y,hx,rfl,Y,d,K,V,dG.of hd,vG,Y,d,K,V,dG.of hd,Bj,Y,d,K,V,dG.of hd,Bk,Y,d,K,V,dG.of hd,Sd,U,x,pe,aF,aK,nW,bV,s,a,b,t,rows,rfl,LB,hl,l1,l2,l3,kO is,⟨Q,Q⟩,⟨Q,Q⟩,⟨Q,Q⟩,is,⟨sh,sn,mv,λes oJ=>?_⟩⟩;rw[jO is]at oJ;cases oJ;exact⟨B,λU' H' L' fr=>k U' H' _ one L' fr⟩
 | UZ t p s a b =>
  obtain⟨it,ip,is,i3⟩:=ok;exists Y,d,K,V,dG.of hd,uI;refine⟨Y,rfl,Y,cB nofun ⟨Y,rfl,Y,cB nofun ⟨Y,rfl,Y,cB nofun ⟨Y,rfl,Y,cB nofun ⟨Y,rfl,Y,cB nofun ⟨Y,rfl,Y,je ?_⟩⟩⟩⟩⟩⟩;refine⟨Y,x,d',Y,hx,rfl,Y,d,K,V,dG.of hd,vG,Y,d,K,V,dG.of hd,Bj,Y,d,K,V,dG.of hd,Bk,Y,d,K,V,dG.of hd,Sd,Y,d,K,V,dG.of hd,ZN,U,x,pe,aF,aK,nW,bV,t,p,s,a,b,rows,rfl,LB,hl,l1,l2,l3,kO it,Xz it ip.1 ip.2,kO is,Xz is i3.1 (by have:=i3.2.1;have:=i3.2.2;lia),Xz is (by have:=i3.2.1;have:=i3.1;lia) i3.2.2,it,is,⟨sh,sn,i3,⟨ip,λes oJ=>?_⟩⟩⟩;rw[jO it]at oJ;cases oJ;exact⟨B,λU' H' L' fr=>k U' H' _ one L' fr⟩
 | win t p s =>
  obtain⟨it,ip,is⟩:=ok;exists Y,d,K,V,dG.of hd,uI;refine⟨Y,rfl,Y,cB nofun ⟨Y,rfl,Y,cB nofun ⟨Y,rfl,Y,cB nofun ⟨Y,rfl,Y,cB nofun ⟨Y,rfl,Y,cB nofun ⟨Y,rfl,Y,cB nofun ⟨Y,rfl,Y,je ?_⟩⟩⟩⟩⟩⟩⟩;refine⟨Y,x,d',Y,hx,rfl,Y,d,K,V,dG.of hd,vG,Y,d,K,V,dG.of hd,Bj,Y,d,K,V,dG.of hd,Bk,U,x,pe,aF,aK,nW,bV,t,p,s,rows,rfl,LB,hl,l1,l2,l3,kO it,Xz it ip.1 ip.2,kO is,it,is,⟨sh,sn,ip,λes oJ=>?_⟩⟩;rw[jO it]at oJ;cases oJ;exact⟨B,λU' H' L' fr=>k U' H' _ one L' fr⟩
 | fix s =>
  exists Y,d,K,V,dG.of hd,uI;refine⟨Y,rfl,Y,cB nofun ⟨Y,rfl,Y,cB nofun ⟨Y,rfl,Y,cB nofun ⟨Y,rfl,Y,cB nofun ⟨Y,rfl,Y,cB nofun ⟨Y,rfl,Y,cB nofun ⟨Y,rfl,Y,cB nofun ⟨Y,rfl,Y,je ?_⟩⟩⟩⟩⟩⟩⟩⟩;refine⟨Y,x,d',Y,hx,rfl,Y,d,K,V,dG.of hd,vG,U,x,pe,aF,aK,nW,bV,s,rows,rfl,LB,hl,l1,l2,l3,kO ok,ok,⟨sh,sn,B,λU' H' L' fr=>k U' H' _ one L' fr⟩⟩
class inductive Qg
 | mk (l c w:Addr) (W:Addr->Prop) (aK:gA) (pq:iu) (rq:cS) (_:vs=[.ref l,.ref w]) (_:dB H l c) (_:Wo W H w aK pq rq) (_:(∀ a,W a->a≠l/\a≠c)) (_:aK.length<=50000) (_ :
 ∀ (r:Addr) (row:Row) (H':Hp),row.length<=2->cA H' r row->(∀ p∈row,0<=p.1/\p.1<p.2/\p.2<=aK.length/\p.2<=p.1+40)->H r=none->dB H' l c->cJ l H H'->Q (.ref r) H')
theorem gu:aH ["_law_src_here","_law_world_here","_law_many","_law_row","_law_k","_law_start","_law_span"] ["_law_src_here","_law_world_here"] (aA ou):=eO
theorem AO:‹(2,96,["_law_src_here","_law_world_here"],Qg)›:=λD=>by
 have bR:bf P w K mg zt cM 1 _ _ XQ uD:=fC D;specialize eV D.aaz.F gu;obtain⟨l,c,w,W,aK,pq,rq,rfl,S,wo,dw,b1,k⟩:=h;have hu:=gC hr;exists _,(aj (aW (i:=2) gu.nd (eS D.T.eE (gj hu (pv 1) br))) (aj (aW (i:=3) gu.nd (bN ah)) (aj (d7 PassesOwn.never rfl (jq rfl D.T.jd (aa (bC HL (aG D.vH bR hr (aa (pv 0) (aa ay ah))) (cC (rQ rfl) rfl D.T.Kz PyProof.Rows.boot_min (aa ay (aa (pv 2) ah)))) ah)) (cu (i:=4) gu.nd) (aj (aW (i:=5) gu.nd (aG D.vH bR hr (aa (pv 0) (aa (cC (rP rfl) rfl D.T.FQ PyProof.Rows.boot_max (aa ay (aa (pv 2) ah))) ah)))) (aj (aW (i:=6) gu.nd (bC cT ay (aG D.vH bR hr (aa (pv 0) (aa (cC (rP rfl) rfl D.T.FQ PyProof.Rows.boot_max (aa ay (aa (cC (rQ rfl) rfl D.T.Kz PyProof.Rows.boot_min (aa (aQ bH (bN (aa ay (aa ay (aa ay (aa ay ah))))) (aG D.vH bR hr (aa (pv 0) (aa ay ah)))) (aa (bC cK (pv 2) (pv 5)) ah))) ah))) ah))))) (au (aY (dM qw jX jY bT (pv 3) (aa (cF (aa (pv 5) (aa (bC cT (pv 5) (pv 6)) ah))) ah))))))) (au (aJ (pv 3))))));obtain⟨ik,rw,ps,vl,wu⟩:=id wo;obtain⟨as,Ht,pa⟩:=id wu.hi;have la:=Paired.length pa;have zi:=iD.k (k:=kI) wu.hw;rw[show cE (rB ik rw ps vl) kI=some (.ref ik) by kernel_rfl]at zi;exists Y,w,Y,zi,ik,Y,.inl (bL.of Ht);refine⟨iR,λr yh=>?_⟩;have s1:=ak yh (.lst []);have r1:(aP H r (.lst [])) r=some (.lst []):=af;have nr:=S.ne yh;have S1:=S.same s1;generalize aP H r (.lst [])=H1 at s1 r1 S1;refine⟨Y,l,c,3,rfl,S1,E,E,λv H2 v0 v1 S2 k2=>?_⟩;rw[show (as.map V.ref).length=aK.length by rw[cD,la]];exists Y,P,rfl,Z,.inl ⟨Q,Q⟩
 have hm:∃ n:Nat,(v*(if (aK.length:Int)<1 then (aK.length:Int) else 1))=n/\n<=2/\(0<n->1<=aK.length):=by
  split
  ·rename_i z;refine⟨0,?_,Q,Q⟩;rw[show (aK.length:Int)=0 by lia];exact Int.mul_zero _
  ·exact⟨v.toNat,by rw[Int.mul_one];lia,Q,λ_=>by lia⟩
 obtain⟨n,en,n2,n1⟩:=hm
 have hM:(if (aK.length:Int) > 1 then (aK.length:Int) else 1)=if 1<=aK.length then (aK.length:Int) else 1:=by split <;> split <;> lia
 refine⟨n,congrArg (λz=>[V.int z]) en,Q,Q,j0 (lo:=0) (n:=((n:Nat):Int).toNat) (λj σ H3=>∃ (u4 u5 u6:Option V) (row:Row),σ=[some (.ref l),some (.ref w),some (.int (aK.length:Nat)),some (.ref r),u4,u5,u6]/\cA H3 r row/\row.length=j/\(∀ p∈row,0<=p.1/\p.1<p.2/\p.2<=aK.length/\p.2<=p.1+40)/\dB H3 l c/\cJ l H H3) ⟨none,none,none,[],rfl,⟨[],(k2 r nr.1.symm).trans r1,.nil⟩,rfl,(λp hp=>nomatch hp),S2,(gv.aL.keep s1).trans (bY k2)⟩ ?_ ?_⟩
 ·rintro j σ H3 hj ⟨u4,u5,u6,row,rfl,R3,lr,hp,S3,K3⟩;have hk:1<=aK.length:=n1 ∅;rw[if_pos hk]at hM;refine⟨Y,Y,P,rfl,l,c,Y,S3,(by rw[hM];lia),(by rw[hM];lia),λa H4 a0 a1 S4 k4=>?_⟩;rw[hM]at a1;refine⟨Y,DJ,λt ht=>?_⟩;have s5:=ak ht (.lst [.int 4,.int 4,.int 4,.int 40]);have h5:(aP H4 t (.lst [.int 4,.int 4,.int 4,.int 40])) t=some (.lst [.int 4,.int 4,.int 4,.int 40]):=af;have nt:=S4.ne ht;have S5:=S4.same s5;generalize aP H4 t (.lst [.int 4,.int 4,.int 4,.int 40])=H5 at s5 h5 S5;refine⟨Y,l,c,4,rfl,S5,E,E,λi H6 i0 i1 S6 k6=>?_⟩;obtain⟨z,hz,ez⟩:=GB (xs:=[V.int 4,.int 4,.int 4,.int 40]) i0 (by show i<4;lia)
  obtain⟨q,rfl,q0,q1⟩:∃ q:Int,z=.int q/\4<=q/\q<=40:=by
   rcases List.mem_cons.mp hz with y|hz
   ·exact⟨4,y,E,E⟩
   rcases List.mem_cons.mp hz with y|hz
   ·exact⟨4,y,E,E⟩
   rcases List.mem_cons.mp hz with y|hz
   ·exact⟨4,y,E,E⟩
   ·exact⟨40,List.mem_singleton.mp hz,E,E⟩
  exists t,K,V,bL.of ((k6 t nt.1.symm).trans h5),ez
  have hX:∃ x:Int,(if (if (aK.length:Int)-a<q then (aK.length:Int)-a else q) > 1 then (if (aK.length:Int)-a<q then (aK.length:Int)-a else q) else 1)=x/\1<=x/\x<=aK.length-a/\x<=40:=⟨Y,by split <;> split <;> lia,by split <;> split <;> lia,by split <;> split <;> lia⟩
  obtain⟨M,eM,M1,M2,M3⟩:=hX;refine⟨Y,Y,Z,P,rfl,P,rfl,l,c,Y,S6,(by rw[eM];lia),(by rw[eM];lia),λb H7 b0 b1 S7 k7=>⟨Z,?_⟩⟩;rw[eM]at b1;have K7:cJ l H3 H7:=(((bY k4).trans (gv.aL.keep s5)).trans (bY k6)).trans (bY k7);obtain⟨bs,hb,pb⟩:=R3;obtain⟨ls,hl⟩:=S3.lst;have hb7:=K7 _ _ hb nr.1.symm;have pb7:bQ H7 bs row:=pb.tups λa xs e=>K7 _ _ e (dH e hl);have lb:=Paired.length pb;refine⟨Y,.inl ⟨rfl,_,bL.of hb7⟩,Y,Y,Y,Z,pZ,λp Uu=>⟨r,Z,ak Uu _ _ _ hb7,(by rw[cD];exact aV ∅),?_⟩⟩;have sp:=ak Uu (.tup [.int a,.int (a+(1+b))]);have p8:(aP H7 p (.tup [.int a,.int (a+(1+b))])) p=some (.tup [.int a,.int (a+(1+b))]):=af;have hb8:=sp _ _ hb7;have S8:=S7.same sp;have K8:cJ l H (aP H7 p (.tup [.int a,.int (a+(1+b))])):=(K3.trans K7).trans (gv.aL.keep sp);have pb8:=bQ.snoc (p:=(a,a+(1+b))) (pb7.same sp) p8;refine⟨K,row++[(a,a+(1+b))],rfl,⟨bs++[p],by rw[gG];exact af,pb8.tups λy xs e=>?_⟩,by rw[dz,lr];rfl,λy hy=>?_,?_,λy ob e n=>?_⟩
  ·exact (aN (dH e hb8)).trans e
  ·rcases List.mem_append.mp hy with hy|hy
   ·exact hp y hy
   ·rw[List.mem_singleton.mp hy];exact⟨a0,by show a<a+(1+b);lia,by show a+(1+b)<=_;lia,by show a+(1+b)<=a+40;lia⟩
  ·obtain⟨n,ns,i,d,r',e1,e2,h3⟩:=S8;exact⟨n,ns,i,d,r',(aN nr.1).trans e1,(aN nr.2).trans e2,h3⟩
  ·exact (aN (aB e yh)).trans (K8 _ _ e n)
 rintro σ H3 ⟨u4,u5,u6,row,rfl,R3,lr,hp,S3,K3⟩;exact⟨Y,k r row H3 ∅ R3 hp yh S3 K3⟩
class inductive Qh
 | mk (l c:Addr) (s m:Int) (_:vs=[.ref l,.int s,.int m]) (_:dB H l c) (_:0<=m) (_:m<=10000) (_:∀ (a b u:Int) (t:Addr) (dd:LD) (H':Hp),Mv a b u m->(dd=.cut s a b\/dd=.TU s a b u)->dd.At H' t->dB H' l c->cJ l H H'->Q (.ref t) H')
theorem nk:aH ["_law_src_here","_law_sheet","_law_room","_law_start","_law_stop"] ["_law_src_here","_law_sheet","_law_room"] (aA oz):=eO
theorem AQ:‹(2,97,["_law_src_here","_law_sheet","_law_room"],Qh)›:=λD=>by
 have bR:bf P w K mg zt cM 1 _ _ XQ uD:=fC D;refine eV D.aaA.F nk λcN A zn s0 H vs Q E hr h=>?_;obtain⟨l,c,s,m,rfl,S,m0,m1,k⟩:=h;exists _,(aj (aW (i:=3) nk.nd (aG D.vH bR hr (aa (pv 0) (aa (bC cT (pv 2) ay) ah)))) (aj (aW (i:=4) nk.nd (bC cT (pv 3) (aG D.vH bR hr (aa (pv 0) (aa (bC cT (bC cK (pv 2) (pv 3)) ay) ah))))) (aj (bK (aT dY (aG D.vH bR hr (aa (pv 0) (aa ay ah))) ay (bq _)) (au (aJ (cF (aa br (aa (pv 1) (aa (pv 3) (aa (pv 4) ah))))))) aX) (au (aJ (cF (aa br (aa (pv 1) (aa (pv 3) (aa (pv 4) (aa (aG D.vH bR hr (aa (pv 0) (aa (bC cT (bC cT (bC cK (pv 2) (pv 4)) (pv 3)) ay) ah))) ah)))))))))));refine⟨Y,Y,Z,l,c,Y,S,Q,Q,λa H1 a0 a1 S1 k1=>?_⟩;refine⟨Y,Y,Y,Y,Z,Z,l,c,Y,S1,Q,Q,λv H2 v0 v1 S2 k2=>⟨Z,?_⟩⟩;refine⟨Y,l,c,2,rfl,S2,E,E,λz H3 _ _ S3 k3=>⟨rfl,Y,?_⟩⟩;have K3:cJ l H H3:=((bY k1).trans (bY k2)).trans (bY k3);refine cI (λ_=>?_) (λ_=>?_)
 ·refine⟨Y,Y,Y,DJ,λt ht=>?_⟩;exact k a (a+v) 0 t (.cut s a (a+v)) _ ⟨⟨Q,Q,Q⟩,Q,Q⟩ (.inl rfl) af (S3.same (ak ht _)) (K3.trans (gv.aL.keep (ak ht _)))
 ·refine⟨Y,Y,Y,Y,Y,Y,Z,Y,Z,Z,l,c,Y,S3,Q,Q,λu H4 u0 u1 S4 k4=>⟨Wr,λt ht=>?_⟩⟩;exact k a (a+v) u t (.TU s a (a+v) u) _ ⟨⟨Q,Q,Q⟩,Q,Q⟩ (.inr rfl) af (S4.same (ak ht _)) ((K3.trans (bY k4)).trans (gv.aL.keep (ak ht _)))
def LD.New(H:Hp):LD->Prop
 | .put _ _ r _=>H r=none
 | _=>True
class inductive Qi
 | mk (W:Addr->Prop) (l c w:Addr) (aK:gA) (pq:iu) (rows:cS) (sh:Int->List Int) (_:vs=[.ref l,.ref w]) (_:dB H l c) (_:Wo W H w aK pq rows) (_:∀ a,W a->a≠l/\a≠c) (_:Gd aK.length rows sh) (_:1<=rows.length) (_:aK.length<=10000) (_:∀ (t:Addr) (dd:LD) (H':Hp),dd.At H' t->dd.Ok aK.length rows.length sh->dd.New H->dB H' l c->cJ l H H'->Q (.ref t) H')
theorem gc:aH ["_law_src_here","_law_world_here","_law_rows","_law_way","_law_sheet","_law_other","_law_room","_law_place","_law_start"] ["_law_src_here","_law_world_here"] (aA uv):=eO
theorem GR:‹(43,98,["_law_src_here","_law_world_here"],Qi)›:=λD=>by
 have bR:bf P w K mg zt cM 1 _ _ XQ uD:=fC D;refine eV D.aaB.F gc λcN A zn s0 H vs Q E hr h=>?_;obtain⟨W,l,c,w,aK,pq,rows,sh,rfl,S,wo,dw,g,r1,i1,k⟩:=h;have hu:=gC hr;exists _,(aj (aW (i:=2) gc.nd (gj hu (pv 1) br)) (aj (aW (i:=3) gc.nd (aG D.vH bR hr (aa (pv 0) (aa ay ah)))) (aj (aW (i:=4) gc.nd (aG D.vH bR hr (aa (pv 0) (aa (eS D.T.eE (pv 2)) ah)))) (aj (aW (i:=5) gc.nd (aG D.vH bR hr (aa (pv 0) (aa (eS D.T.eE (pv 2)) ah)))) (aj (aW (i:=6) gc.nd (eS D.T.eE (aG D.FY (ic D 41) hr (aa (pv 2) (aa (pv 4) ah))))) (aj (aW (i:=7) gc.nd (aG D.vH bR hr (aa (pv 0) (aa (bC cT (pv 6) ay) ah)))) (aj (bK (aT iS (pv 3) ay (bq _)) (au (aJ (cF (aa br (aa (pv 4) (aa (pv 7) (aa (aG D.aaz (AO D) hr (aa (pv 0) (aa (pv 1) ah))) ah))))))) aX) (aj (bK (aT iS (pv 3) ay (bq _)) (au (aJ (aG D.aaA (AQ D) hr (aa (pv 0) (aa (pv 4) (aa (pv 6) ah)))))) aX) (aj (bK (aT iS (pv 3) ay (bq _)) (aj (aW (i:=6) gc.nd (eS D.T.eE (aG D.FY (ic D 41) hr (aa (pv 2) (aa (pv 5) ah))))) (aj (aW (i:=8) gc.nd (aG D.vH bR hr (aa (pv 0) (aa (bC cT (pv 6) ay) ah)))) (au (aJ (cF (aa br (aa (pv 4) (aa (pv 7) (aa (pv 5) (aa (pv 8) (aa (bC cT (pv 8) (aG D.vH bR hr (aa (pv 0) (aa (bC cT (bC cK (pv 6) (pv 8)) ay) ah)))) ah))))))))))) aX) (aj (bK (aT iS (pv 3) ay (bq _)) (au (aJ (cF (aa br (aa (pv 4) (aa (pv 7) (aa (pv 5) ah))))))) aX) (au (aJ (cF (aa br (aa (pv 4) ah)))))))))))))));obtain⟨ik,jw,ps,vl,wu⟩:=id wo;have zr:=iD.k (k:=kR) wu.hw;rw[show cE (rB ik jw ps vl) kR=some (.ref jw) by kernel_rfl]at zr;have l40:=g.ln;obtain⟨rk,rb,dn⟩:=id g.sn.rk;obtain⟨ls,hls⟩:=S.lst;have kp:∀ {H1:Hp},cJ l H H1->gW (λ_=>False) H1 jw rows/\Wo W H1 w aK pq rows:=λ{H1} K1=>⟨(wu.hr.fr (λ_ z=>z) λa xs e wa _ _=>K1 _ _ e (dw a wa).1).at_,wo.fr (λa ob e z=>K1 _ _ e (dw a z).1) λa xs e=>K1 _ _ e (dH e hls)⟩
 have lv:∀ {H1:Hp},cJ l H H1->∃ xs,H1 jw=some (.lst xs)/\xs.length=rows.length:=λ{H1} K1=>by
  obtain⟨xs,e,al⟩:=(kp K1).1;exact⟨xs,e,al.len⟩
 exists Y,w,Y,zr;refine⟨Y,l,c,13,rfl,S,E,E,λy H1 y0 y1 S1 k1=>?_⟩;have K1:cJ l H H1:=bY k1;obtain⟨x1,e1,n1⟩:=lv K1;refine⟨Y,Y,jw,Y,.inl (bL.of e1),l,c,Y,S1,Q,Q,λs H2 a0 a1 S2 k2=>?_⟩;have K2:cJ l H H2:=K1.trans (bY k2);obtain⟨x2,e2,n2⟩:=lv K2;refine⟨Y,Y,jw,Y,.inl (bL.of e2),l,c,Y,S2,Q,Q,λo H3 o0 o1 S3 k3=>?_⟩;have K3:cJ l H H3:=K2.trans (bY k3);have is:lE rows.length s:=⟨a0,Q⟩;have io:lE rows.length o:=⟨o0,Q⟩;have ls:=g.sl s is.1 is.2;have lo:=g.sl o io.1 io.2;refine⟨Y,Y,_,jw,rows,s,sh,rk,rfl,(kp K3).1,Q,g.sn.sd,is.1,is.2,g.sn.ss,g.sn.ln,dn,by have:=rb s;lia,λq H4 hq s4 fq=>⟨q,Y,.inl (bL.of hq),?_⟩⟩;rw[cD];have K4:cJ l H H4:=K3.trans (gv.aL.keep s4);refine⟨Y,Y,Z,l,c,Y,S3.same s4,Q,Q,λp H5 p0 p1 S5 k5=>?_⟩;have K5:cJ l H H5:=K4.trans (bY k5);have ip:0<=p/\p<=(sh s).length:=⟨p0,Q⟩;refine⟨Y,Z,Y,cI (λ_=>?_) (λ_=>?_)⟩
 ·refine⟨Y,Y,Y,Y,l,c,w,W,aK,pq,rows,rfl,S5,(kp K5).2,dw,Q,λr row H6 r2 Qc hq fr S6 K6=>⟨DJ,λt ht=>?_⟩⟩;have st:=ak ht (.tup [.str "put",.int s,.int p,.ref r]);refine k t (.put s p r row) _ ⟨af,Qc.same st⟩ ⟨is,ip,r2,hq⟩ ?_ (S6.same st) ((K5.trans K6).trans (gv.aL.keep st));show H r=none
  cases e:H r with
  | none=>rfl
  | some ob =>
   exfalso;by_cases n:r=l
   ·obtain⟨_,hl5⟩:=S5.lst;rw[n,hl5]at fr;cases fr
   ·rw[K5 _ _ e n]at fr;cases fr
 refine⟨Y,Z,Y,cI (λ_=>?_) (λ_=>?_)⟩
 ·refine⟨Y,Y,Y,l,c,s,Y,S5,Q,Q,λa b u t dd H6 mv hdd QK S6 K6=>k t dd H6 QK ?_ ?_ S6 (K5.trans K6)⟩
  ·rcases hdd with rfl|rfl
   ·exact⟨is,mv.1⟩
   ·exact⟨is,mv⟩
  ·rcases hdd with rfl|rfl <;> trivial
 refine⟨Y,Z,Y,cI (λ_=>?_) (λ_=>?_)⟩
 ·refine⟨Y,Y,_,jw,rows,o,sh,rk,rfl,(kp K5).1,Q,g.sn.sd,io.1,io.2,g.sn.ss,g.sn.ln,dn,by have:=rb o;lia,λq6 H6 hq6 s6 fq6=>⟨q6,Y,.inl (bL.of hq6),?_⟩⟩;rw[cD];refine⟨Y,Y,Z,l,c,Y,S5.same s6,Q,Q,λa H7 b0 b1 S7 k7=>?_⟩;refine⟨Y,Y,Y,Y,Y,Y,Y,Y,Z,Z,l,c,Y,S7,Q,Q,λv H8 v0 v1 S8 k8=>⟨Z,ZM,λt ht=>?_⟩⟩;have st:=ak ht (.tup [.str "quote",.int s,.int p,.int o,.int a,.int (a+v)]);exact k t (.UZ s p o a (a+v)) _ af ⟨is,ip,io,Q,Q,Q⟩ trivial (S8.same st) ((((K5.trans (gv.aL.keep s6)).trans (bY k7)).trans (bY k8)).trans (gv.aL.keep st))
 refine⟨Y,Z,Y,cI (λ_=>?_) (λ_=>?_)⟩
 ·refine⟨Y,Y,Y,DJ,λt ht=>?_⟩;have st:=ak ht (.tup [.str "window",.int s,.int p,.int o]);exact k t (.win s p o) _ af ⟨is,ip,io⟩ trivial (S5.same st) (K5.trans (gv.aL.keep st))
 ·refine⟨Y,pZ,λt ht=>?_⟩;have st:=ak ht (.tup [.str "fix",.int s]);exact k t (.fix s) _ af is trivial (S5.same st) (K5.trans (gv.aL.keep st))
theorem LD.At.tup{H:Hp}{t:Addr}{dd:LD}(h:dd.At H t):∃ vs,H t=some (.tup vs)/\qx vs 1=some (.int dd.sh):=by
 cases dd with
 | put=>exact⟨_,h.1,rfl⟩
 | _=>exact⟨_,h,rfl⟩
theorem LD.At.kept{H H':Hp}{t:Addr}{dd:LD}(h:dd.At H t)(tp:∀ a xs,H a=some (.tup xs)->H' a=some (.tup xs))(kr:∀ s p r row,dd=.put s p r row->∀ xs,H r=some (.lst xs)->H' r=some (.lst xs)):dd.At H' t:=by
 cases dd with
 | put s p r row =>
  obtain⟨h1,as,ha,pa⟩:=h;exact⟨tp _ _ h1,as,kr _ _ _ _ rfl _ ha,pa.tups tp⟩
 | _=>exact tp _ _ h
class inductive AR(C CS CW CB:Addr)
 | mk (l c w x:Addr) (U W:Addr->Prop) (pe:iu) (rows:cS) (aF:iY) (aK:gA) (nW:Nat) (bV:Row) (_:vs=[.ref l,.ref w,.ref x]) (_:sP C CS CW CB H l c w x U W pe rows pe rows aF aK nW bV) (_:1<=rows.length) (_:pe.length<=800) (_:aF.length<=800) (_:aK.length<=10000) (_:Good aK.length rows) (_:∀ (U' W':Addr->Prop) (AA:iu) (rows':cS) (dm:iY) (H':Hp),sP C CS CW CB H' l c w x U' W' AA rows' AA rows' dm aK nW bV->rows'.length=rows.length->pe.length<=AA.length/\AA.length<=pe.length+1->dm.length<=aF.length+1->Good aK.length rows'->(∀ y∈AA,y∈pe\/y=rows')->Q (.bl true) H')
theorem rG:aH ["_law_src_here","_law_world_here","_law_house","_law_deed_here","_law_rows"] ["_law_src_here","_law_world_here","_law_house"] (aA ux):=eO
theorem GS(D:Ds K mg aZ bg C CS CW CB CT CD aC az)(Jj:bf P w K mg zt cM 43 (aZ 98) (bg 98) ["_law_src_here","_law_world_here"] Qi)(GU:bf P w K mg zt cM 45 (aZ 93) (bg 93) ["_law_world_here","_law_deed_here"] K9)(Jk:bf P w K mg zt cM 43 (aZ 92) (bg 92) ["_law_rows","_law_sheet"] Qa)(Jl:bf P w K mg zt cM 7 (aZ 95) (bg 95) ["_law_house","_law_deed_here"] (Qf C CS CW CB)):bf P w K mg zt cM 46 (aZ 99) (bg 99) ["_law_src_here","_law_world_here","_law_house"] (AR C CS CW CB):=by
 refine eV D.aaC.F rG λcN A zn s0 H vs Q E hr h=>?_;obtain⟨l,c,w,x,U,W,pe,rows,aF,aK,nW,bV,rfl,St,r1,b1,b2,b3,gd,k⟩:=h;have hu:=gC hr;exists _,(aj (aW (i:=3) rG.nd (aG D.aaB Jj hr (aa (pv 0) (aa (pv 1) ah)))) (aj (aW (i:=4) rG.nd (aG D.WK (yr D) hr (aa (gj hu (pv 1) br) (aa (aQ bx (pv 3) ay) (aa (aG D.aax GU hr (aa (pv 1) (aa (pv 3) ah))) ah))))) (aj (bK (iK (jZ (aG D.aaw Jk hr (aa (pv 4) (aa (aQ bx (pv 3) ay) ah))))) (au (aJ nI)) aX) (aj (aY (aG D.Sj (rC D) hr (aa (pv 1) (aa (pv 4) ah)))) (au (aJ (Ng (HF (aG D.aay Jl hr (aa (pv 2) (aa (pv 3) ah)))))))))));obtain⟨sh,g⟩:=gd.P5;have l40:=g.ln;refine⟨Y,Y,W,l,c,w,aK,pe,rows,sh,rfl,St.src,St.wo,St.dw,g,r1,Q,λt dd H1 QK ok nw S1 K1=>?_⟩;have Em:=St.mv K1 S1;obtain⟨ik,jw,ps,vl,wu⟩:=id Em.wo;have zr:=iD.k (k:=kR) wu.hw;rw[show cE (rB ik jw ps vl) kR=some (.ref jw) by kernel_rfl]at zr;obtain⟨_,_,_,xs,hxs,al⟩:=id wu.hr;have lv:=bU.len al;obtain⟨tv,ht,ht1⟩:=QK.tup;have is:=LD.Xx ok;have is1:=is.1;have is2:=is.2;have ss:((dd.sh.toNat:Nat):Int)=dd.sh:=by lia
 refine⟨Y,w,Y,zr,Y,t,K,V,dG.of ht,ht1,Y,Y,W,w,t,aK,pe,rows,aK.length,sh,dd,rfl,Em.wo,QK,g,ok,Q,λo H2 ho lo s2 fo=>?_⟩;refine⟨jw,o,dd.sh.toNat,xs,by rw[ss];rfl,s2 _ _ hxs,Q,Q,λq H3 hq s3 fq=>?_⟩;have ye:=s2.trans s3;have fq1:=bu s2 fq;have ne:=LD.Xy g ok;have en':=P6 (s:=dd.sh.toNat) g.en ne;have R3:gW (λ_=>False) H3 q (rows.set dd.sh.toNat (dd.res sh rows)):=⟨_,hq,bU.set _ (al.mono λv es ⟨b,e,K,hb⟩=>⟨b,e,λz=>z,ye _ _ hb⟩) ⟨o,rfl,λz=>z,s3 _ _ ho⟩⟩;have hl3:(rows.set dd.sh.toNat (dd.res sh rows)).length=rows.length:=List.length_set
 refine⟨Y,Y,t,K,V,dG.of (ye _ _ ht),ht1,_,q,_,dd.sh,rfl,R3,Q,(λes he=>by
  rcases List.mem_or_eq_of_mem_set he with z|z
  ·have:=g.es es z;lia
  ·rw[z];exact lo),AL en',is1,Q,P1 is1 g.sn.rk,λb H4 s4 hb=>⟨b,rfl,?_⟩⟩
 have MD:=ye.trans s4;have QL:=Em.same MD
 cases b with
 | false=>exact gR (k U W pe rows aF H4 QL rfl ⟨Q,Q⟩ ∅ gd λ_ z=>.inl z)
 | true =>
  refine eY ?_;obtain⟨R5,f5,w5,m5⟩:=hb rfl;have gd':Good aK.length (rows.set dd.sh.toNat (dd.res sh rows)):=⟨en',R5,Q,f5,w5,m5⟩;have wu4:ML W H4 w ik jw ps vl aK pe rows:=wu.fr (λa ob e _=>MD _ _ e) λa xs e=>MD _ _ e;have nq:=Em.new fq1;have no:=Em.new fo;obtain⟨Ym,rv⟩:=Wo.swap wu4 (MD _ _ hxs) (s4 _ _ hq) (s4 _ _ (s3 _ _ ho)) nq.2.1 no.2.1;refine⟨Y,Y,_,w,q,aK,pe,rows,rows.set dd.sh.toNat (dd.res sh rows),rfl,⟨ik,jw,ps,vl,Ym⟩,Q,λik' wz ⟨rw2,vl',ee⟩=>?_,λH5 wo5 Uh tp5 _=>?_⟩
  ·rw[wu4.hw]at ee;simp only[Option.some.injEq,HO.dK.injEq,rB,List.cons.injEq,Prod.mk.injEq,V.ref.injEq,true_and,and_true]at ee;obtain⟨rfl,rfl,rfl,rfl⟩:=ee;exact rv
  have St5:=QL.kept wo5 (λa z y=>by
   rcases y with y|y|y
   ·exact (St.du a z).1 y
   ·exact no.1 (by rw[← y];exact z)
   ·exact nq.1 (by rw[← y];exact z)) (λa y=>by
   rcases y with y|y|y
   ·exact St.dw a y
   ·rw[y];exact no.2.2
   ·rw[y];exact nq.2.2) Uh tp5
  have afi:dd.At H5 t:=(QK.same MD).kept tp5 λs p r row ed xs' hr'=>by
   rw[ed]at nw QK;have nr:=St.new (show H r=none from nw);obtain⟨_,as,ha,_⟩:=QK;refine Uh _ _ hr' λy=>?_;rcases y with y|y|y
   ·exact nr.2.1 y
   ·rw[y,fo]at ha;cases ha
   ·rw[y,fq1]at ha;cases ha
  refine⟨Y,Y,U,x,t,pe,aF,aK,nW,bV,rows,sh,dd,rfl,St5.TF,St5.lst,Q,Q,b3,afi,g,ok,by rw[GC _ ∅];exact gd'.bears,λU' H6 dm ll L6 MY=>?_⟩;obtain⟨GV,_⟩:=St5.ae6 L6 (rows':=iX rows dd.sh.toNat (dd.res sh rows)) (by simp) MY;rw[GC _ ∅]at GV;show Q (.bl (decide (V.fH=V.fH))) H6;rw[decide_eq_true rfl];exact k U' _ _ _ dm H6 GV hl3 (by rw[dz];exact⟨Nat.le_add_right ..,gg _⟩) ∅ gd' λ_ z=>(List.mem_append.mp z).imp id List.mem_singleton.mp
theorem TZ{H3 H7:Hp}{t:Addr}{h:Int}{cs:List Nat}{i ch:Nat}{bs:List Addr}(cY:H3 acc=none)(hi:cs[i]?=some ch)(hb:H7 acc=some (.lst (bs.map V.ref)))(pb:Paired (KS H7) bs (oH h (cs.take i)))(s7:aL H3 H7)(ht:H7 t=none):(aP (aP H7 t (.tup [.int h,zb ch])) acc (.lst (bs.map V.ref++[.ref t]))) acc=some (.lst ((bs++[t]).map V.ref))/\Paired (KS (aP (aP H7 t (.tup [.int h,zb ch])) acc (.lst (bs.map V.ref++[.ref t])))) (bs++[t]) (oH h (cs.take (i+1)))/\aL H3 (aP (aP H7 t (.tup [.int h,zb ch])) acc (.lst (bs.map V.ref++[.ref t]))):=by
 refine⟨?_,?_,λb ob e=>?_⟩
 ·rw[af,gG];rfl
 ·have nta:t≠acc:=(aB hb ht).symm;rw[take_snoc hi];unfold oH;rw[gG];refine Ea (Paired.Hz pb λa q e=>?_) ?_
  ·show aP _ acc _ a=_;rw[aN (dH e hb)];exact ak ht _ _ _ e
  ·show aP _ acc _ t=_;rw[aN nta];exact af
 ·rw[aN (aB e cY)];exact ak ht _ _ _ (s7 _ _ e)
class inductive xR(C CS CW CB:Addr)
 | mk (l c w x:Addr) (U W:Addr->Prop) (pe:iu) (rows:cS) (pq:iu) (rq:cS) (aF:iY) (aK:gA) (nW:Nat) (bV:Row) (_:vs=[.ref l,.ref w,.ref x]) (_:sP C CS CW CB H l c w x U W pe rows pq rq aF aK nW bV) (_:pe.length<=800) (_:pq.length<=800) (_:rows.length<=50) (_:aF.length<=800) (_:aK.length<=50000) (_:nW<=800) (_ :
 ∀ (U':Addr->Prop) (H':Hp) (h:Int) (cs:List Nat) (dm:iY),cs.length<=60->dm.length=aF.length+1->sP C CS CW CB H' l c w x U' W (pe++[rows]) rows (pq++[rq]) rq dm (aK++oH h cs) (nW+1) bV->KW l U W U' W H H'->Q (.bl true) H')
def lpT:TS:=λD σ H=>∃ (l c:Addr) (s1 s2 s3 s4 s6:Option V) (h:Int),σ=[some (.ref l),s1,s2,s3,s4,some (.int h),s6]/\dB H l c/\vU h/\∀ (h':Int) (H':Hp),vU h'->dB H' l c->(∀ a,a≠l->H' a=H a)->D.nx [some (.ref l),s1,s2,s3,s4,some (.int h'),s6] H'
theorem jt:aH ["_law_src_here","_law_world_here","_law_house","_law_many","_law_text_here","_law_hand","_law_start"] ["_law_src_here","_law_world_here","_law_house"] (aA pV):=eO
theorem yu:‹(5,100,["_law_src_here","_law_world_here","_law_house"],(xR C CS CW CB))›:=λD=>by
 have bR:bf P w K mg zt cM 1 _ _ XQ uD:=fC D;specialize eV D.OG.F jt;obtain⟨l,c,w,x,U,W,pe,rows,pq,rq,aF,aK,nW,bV,rfl,St,b1,b1',b2,b3,b4,b5,k⟩:=h;have hu:=gC hr;refine⟨_,(aj (aW (i:=3) jt.nd (aQ bH (bN (aa ay (aa ay (aa ay (aa ay (aa ay ah)))))) (aG D.vH bR hr (aa (pv 0) (aa ay ah))))) (aj (aW (i:=4) jt.nd (aG D.aar (Gz D) hr (aa (pv 0) (aa (aG D.vH bR hr (aa (pv 0) (aa (bC cT (pv 3) ay) ah))) ah)))) (aj (aW (i:=5) jt.nd (aG D.vH bR hr (aa (pv 0) (aa ay ah)))) (aj (Io (t':=lpT) (bK (aT dY (aG D.vH bR hr (aa (pv 0) (aa ay ah))) ay (bq _)) (au (aW (i:=5) jt.nd (aG D.vH bR hr (aa (pv 0) (aa (bC Nk ay ay) ah))))) aX) ?b3) (aj (aW (i:=6) jt.nd (eS D.T.eE (gj hu (pv 1) br))) (aj (aY (dM qw PySem.F.slot_list_extend PySem.F.type_list_extend j3 (gj hu (pv 1) br) (aa (gV (N:=["_law_sign_here","_law_hand"]) (nP (sc:=aA pV) (NX:=["_law_src_here","_law_world_here","_law_house","_law_many","_law_text_here","_law_hand","_law_start"]) (jx:=[none,some 5]) rfl rfl rfl nofun nofun rfl nofun rfl nofun) rfl (Wn (pv 4)) (λ_ _ _ _ _ _=>(cu (i:=0) (show List.Nodup (["_law_sign_here","_law_hand"]:List Str) by decide +kernel))) (λ_ _ _ _ _ _=>gI) (λ_ _ _ _ _ _=>(cF (aa (pv 1) (aa (pv 0) ah))))) ah))) (aj (aY (aG D.Sj (rC D) hr (aa (pv 1) (aa (gj hu (pv 1) br) ah)))) (au (aJ (aG D.X7 (nR D 2) hr (aa (cR (pv 2) D.aS D.WG (yL D) hr bO (aa (pv 5) (aa (pv 4) ah))) (aa (cF (aa (pv 6) (aa (bC cT (pv 6) (cC vn rfl D.T.eE PySem.boot_len (aa (pv 4) ah))) ah))) ah)))))))))))),?_⟩
 case b3 =>
  rintro D σ H ⟨l,c,s1,s2,s3,s4,s6,h,rfl,S,fh,k⟩;refine⟨Y,l,c,4,rfl,S,E,E,λv H1 v0 v1 S1 k1=>⟨rfl,Y,cI (λ_=>?_) (λ_=>k h H1 fh S1 k1)⟩⟩;refine⟨Y,Z,⟨E,E,E⟩,l,c,Y,S1,E,E,λv2 H2 q0 q1 S2 k2=>?_⟩;rw[show (10:Int)^(59:Int).toNat=10^59 from rfl]at q1;exact k v2 H2 ⟨q0,Int.lt_trans q1 (by decide)⟩ S2 λy hy=>(k2 y hy).trans (k1 y hy)
 refine⟨Wr,λt ht=>?_⟩;have s1:=ak ht (.lst [.int 1,.int 3,.int 5,.int 8,.int 60]);have h1:(aP H t (.lst [.int 1,.int 3,.int 5,.int 8,.int 60])) t=some (.lst [.int 1,.int 3,.int 5,.int 8,.int 60]):=af;have nt:=St.src.ne ht;generalize aP H t (.lst [.int 1,.int 3,.int 5,.int 8,.int 60])=H1 at s1 h1;have Em:=St.same s1;refine⟨Y,l,c,5,rfl,Em.src,E,E,λi H2 i0 i1 S2 k2=>?_⟩;have U6:=Em.mv (bY k2) S2;obtain⟨z,hz,ez⟩:=GB (xs:=[V.int 1,.int 3,.int 5,.int 8,.int 60]) i0 (by show i<5;lia)
 obtain⟨tn,rfl,M9,Yh⟩:∃ j:Int,z=.int j/\0<=j/\j<=60:=by
  have key:∀ y∈[V.int 1,.int 3,.int 5,.int 8,.int 60],∃ j:Int,y=.int j/\0<=j/\j<=60:=by
   intro y hy;rcases List.mem_cons.mp hy with q|hy
   ·exact⟨1,q,E,E⟩
   rcases List.mem_cons.mp hy with q|hy
   ·exact⟨3,q,E,E⟩
   rcases List.mem_cons.mp hy with q|hy
   ·exact⟨5,q,E,E⟩
   rcases List.mem_cons.mp hy with q|hy
   ·exact⟨8,q,E,E⟩
   ·exact⟨60,List.mem_singleton.mp hy,E,E⟩
  exact key z hz
 exists t,K,V,bL.of ((k2 t nt.1.symm).trans h1),ez;refine⟨Y,Y,Y,Z,l,c,Y,S2,Q,Q,λm H3 m0 m1 S3 k3=>?_⟩;have QM:=U6.mv (bY k3) S3;refine⟨l,c,m.toNat,by rw[show ((m.toNat:Nat):Int)=m by lia];rfl,S3,Q,λcs H4 Q6 S4 K4=>?_⟩;have QL:=QM.mv K4 S4;refine⟨Y,l,c,3,rfl,S4,E,E,λh0 H5 p0 p1 S5 k5=>?_⟩;have St5:=QL.mv (bY k5) S5;refine⟨l,c,K,P,h0,rfl,S5,⟨p0,Q⟩,λh H6 fh S6 k6=>?_⟩;have GV:=St5.mv (bY k6) S6;have K16:cJ l H H6:=((((((gv.aL.keep s1).trans (bY k2)).trans (bY k3)).trans K4).trans (bY k5)).trans (bY k6));obtain⟨ik,rw,ps,vl,wu⟩:=id GV.wo;obtain⟨as,Ht,pa⟩:=id wu.hi;have la:=Paired.length pa;have zi:=iD.k (k:=kI) wu.hw;rw[show cE (rB ik rw ps vl) kI=some (.ref ik) by kernel_rfl]at zi;exists Y,w,Y,zi,ik,Y,.inl (bL.of Ht);refine⟨Y,w,Y,zi,.inl ⟨rfl,_,bL.of Ht⟩,Y,cs,rfl,λacc cY=>LX (λj σ H7=>∃ (u:Option V) (bs:List Addr),σ=[u,some (.int h)]/\H7 acc=some (.lst (bs.map V.ref))/\Paired (KS H7) bs (oH h (cs.take j))/\aL H6 H7) ⟨none,[],rfl,af,.nil,ak cY _⟩ ?_ ?_⟩
 ·rintro j ch σ H7 hj ⟨u,bs,rfl,ha,pb,s7⟩;have lb:=Paired.length pb;rw[sj,gy]at lb;refine⟨Y,Y,pZ,λt ht=>⟨_,ak ht _ _ _ ha,(by rw[cD];exact aV ∅),_,bs++[t],rfl,TZ cY hj ha pb s7 ht⟩⟩
 rintro σ H7 ⟨u,bs,rfl,ha,pb,s7⟩;rw[gK]at pb;have lb:=Paired.length pb;rw[sj]at lb;have abq:=s7 _ _ Ht;refine⟨ik,acc,Z,abq,ha,(by rw[cD,cD];exact gM (aV ∅)),?_⟩;rw[← gG];have k8:cJ ik H7 (aP H7 ik (.lst ((as++bs).map V.ref))):=aM ik _ _;have i8:(aP H7 ik (.lst ((as++bs).map V.ref))) ik=some (.lst ((as++bs).map V.ref)):=af;generalize aP H7 ik (.lst ((as++bs).map V.ref))=H8 at k8 i8;have Qj:∀ a ob,H6 a=some ob->a≠ik->H8 a=some ob:=λa ob e n=>k8 _ _ (s7 _ _ e) n;have t68:∀ a xs,H6 a=some (.tup xs)->H8 a=some (.tup xs):=λa xs e=>Qj _ _ e (dH e Ht);have Xj:∀ a xs,H7 a=some (.tup xs)->H8 a=some (.tup xs):=λa xs e=>k8 _ _ e (dH e abq);have w8:H8 w=some (.dK (rB ik rw ps vl)):=Qj _ _ wu.hw (dH wu.hw Ht);have hr8:Na W ik ps H8 rw rq:=wu.hr.fr (λ_ z=>z) λa xs e _ n _=>Qj _ _ e n
 have wo8:ML W H8 w ik rw ps vl (aK++oH h cs) pq rq:=by
  obtain⟨PR,hp,al⟩:=wu.hp;refine⟨wu.ww,wu.wi,wu.wp,wu.wv,λa z=>?_,w8,⟨as++bs,i8,BB (Paired.Hz pa λa q e=>t68 _ _ e) (Paired.Hz pb λa q e=>Xj _ _ e)⟩,hr8,⟨PR,Qj _ _ hp wu.ne.symm,al.mono λv rs ⟨a,e,q⟩=>⟨a,e,q.fr (λ_ y=>y) λa xs e _ n _=>Qj _ _ e n⟩⟩,wu.ne,wu.lst,Qj _ _ wu.hv wu.nv.1,wu.nv⟩;by_cases e:a=ik
  ·rw[e];exact⟨_,i8⟩
  ·obtain⟨ob,e2⟩:=wu.al a z;exact⟨ob,Qj _ _ e2 e⟩
 have afk:=GV.TF.fr (λa ob e z=>Qj _ _ e (λq=>(GV.du a z).1 (by rw[q];exact wu.wi))) t68
 have afl:dB H8 l c:=by
  obtain⟨n,ns,i,d,r,e1,e2,h3⟩:=S6;exact⟨n,ns,i,d,r,Qj _ _ e1 (λq=>(GV.dw ik wu.wi).1 q.symm),Qj _ _ e2 (λq=>(GV.dw ik wu.wi).2 q.symm),h3⟩
 have zr:=iD.k (k:=kR) w8;rw[show cE (rB ik rw ps vl) kR=some (.ref rw) by kernel_rfl]at zr;refine⟨Y,Y,w,Y,zr,W,w,rw,aK++oH h cs,pq,rq,rq,rfl,⟨ik,rw,ps,vl,wo8⟩,Q,λik' wz ⟨jw,vl',e⟩=>?_,λH9 wo9 fr9 tp9 _=>?_⟩
 ·rw[w8]at e;simp only[Option.some.injEq,HO.dK.injEq,rB,List.cons.injEq,Prod.mk.injEq,V.ref.injEq,true_and,and_true]at e;obtain⟨rfl,rfl,rfl,rfl⟩:=e;exact hr8
 have abr:=afk.fr (λa ob e z=>fr9 _ _ e (GV.du a z).1) tp9
 have T3:dB H9 l c:=by
  obtain⟨n,ns,i,d,r,e1,e2,h3⟩:=afl;exact⟨n,ns,i,d,r,fr9 _ _ e1 (λq=>(GV.dw l q).1 rfl),fr9 _ _ e2 (λq=>(GV.dw c q).2 rfl),h3⟩
 obtain⟨S',Xn,d',Yb,sh',bl',kn',du',bk',dS',Dg,Hj,dw',sg',ow',pw',db',tb',Je,LU⟩:=id abr;refine⟨Y,x,d',Y,LU.L.hx,rfl,Y,Y,U,x,pe,aF,aK,nW,bV,h,cs,rows,rfl,abr,fh,Q,Q,Q,GV.lst,b2,Q,Q,λU' q MZ abt GW hq=>?_⟩;refine⟨Y,Y,Y,eX cs,rfl,(by rw[pX];exact gM (aV ∅)),Z,pZ,λt2 IB=>?_⟩;refine⟨P,rfl,.inr ⟨false,q,t2,Z,ak IB _ _ _ hq,af,rfl,λi u v eu ev=>?_⟩,λZx afn=>?_⟩
 ·match i,eu,ev with
  | 0,eu,ev =>
   cases eu;cases ev;rw[show (as.map V.ref).length=aK.length by rw[cD,la]];exact Eqv.int _
  | 1,eu,ev =>
   cases eu;cases ev;rw[show ((aK++oH h cs).length:Int)=((as.map V.ref).length:Int)+((eX cs).length:Int) by rw[cD,la,pX,dz,sj];lia];exact Eqv.int _
 have lI:aL MZ Zx:=λa ob e=>afn _ _ (ak IB _ _ _ e);have Xk:∀ a ob,H a=some ob->a≠l->¬ W a->H9 a=some ob:=λa ob e n z=>fr9 _ _ (Qj _ _ (K16 _ _ e n) (λq=>z (by rw[q];exact wu.wi))) z
 have f09:∀ a,H9 a=none->H a=none:=by
  intro a e
  cases ea:H a with
  | none=>rfl
  | some ob =>
   exfalso;by_cases n:a=l
   ·obtain⟨_,ns,i,d,r,e1,_⟩:=T3;rw[n,e1]at e;cases e
   by_cases z:W a
   ·obtain⟨ob,e2⟩:=wo9.al z;rw[e2]at e;cases e
   rw[Xk _ _ ea n z]at e;cases e
 have abu:dB Zx l c:=by
  obtain⟨n,ns,i,d,r,e1,e2,h3⟩:=T3;exact⟨n,ns,i,d,r,lI _ _ (GW.2.1 _ _ e1 (λq=>(GV.du l q).2.1 rfl)),lI _ _ (GW.2.1 _ _ e2 (λq=>(GV.du c q).2.2 rfl)),h3⟩
 refine k U' Zx h cs _ ∅ (by rw[dz];rfl) ⟨abu,abt.fr (λa ob e _=>lI _ _ e) (λa xs e=>lI _ _ e),(by simp),wo9.fr (λa ob e z=>lI _ _ (GW.2.1 _ _ e (λy=>(GV.du a y).1 z))) (λa xs e=>lI _ _ (GW.2.2 _ _ e)),λa z=>?_,GV.dw⟩ ⟨λa z=>z.elim (λz=>(GW.1 a z).elim .inl λy=>.inr (.inr (f09 a y))) (λz=>.inr (.inl z)),λa ob e n y z=>lI _ _ (GW.2.1 _ _ (Xk _ _ e n z) y),λa xs e=>?_⟩
 ·rcases GW.1 a z with y|y
  ·exact GV.du a y
  ·refine⟨λz=>?_,λq=>?_,λq=>?_⟩
   ·obtain⟨ob,e2⟩:=wo9.al z;rw[e2]at y;cases y
   ·obtain⟨_,ns,i,d,r,e1,_⟩:=T3;rw[q,e1]at y;cases y
   ·obtain⟨_,ns,i,d,r,_,e1,_⟩:=T3;rw[q,e1]at y;cases y
 ·obtain⟨ls,hl⟩:=St.src.lst;exact lI _ _ (GW.2.2 _ _ (tp9 _ _ (t68 _ _ (K16 _ _ e (dH e hl)))))
class inductive uU(C CS CW CB:Addr)
 | mk (l c w x:Addr) (U W:Addr->Prop) (pe:iu) (rows:cS) (pq:iu) (rq:cS) (aF:iY) (aK:gA) (nW:Nat) (bV:Row) (_:vs=[.ref w,.ref x]) (_:sP C CS CW CB H l c w x U W pe rows pq rq aF aK nW bV) (_:pe.length<=800) (_:pq.length<=800) (_:rows.length<40) (_:rq.length=rows.length) (_:aF.length<=800) (_:(∃ f,nU (rows++[[]]) f)) (_ :
 ∀ (U' W':Addr->Prop) (H':Hp) (dm:iY),dm.length=aF.length+1->sP C CS CW CB H' l c w x U' W' (pe++[rows++[[]]]) (rows++[[]]) (pq++[rq++[[]]]) (rq++[[]]) dm aK nW bV->KW l U W U' W' H H'->Q (.bl true) H')
theorem En:aH ["_law_world_here","_law_house"] ["_law_world_here","_law_house"] (aA qT):=eO
theorem v8:‹(8,101,["_law_world_here","_law_house"],(uU C CS CW CB))›:=λD=>by
 specialize eV D.OH.F En;obtain⟨l,c,w,x,U,W,pe,rows,pq,rq,aF,aK,nW,bV,rfl,St,b1,b1',b2,b2',b3,B,k⟩:=h;have hu:=gC hr;exists _,(aj (aY (aG D.Sj (rC D) hr (aa (pv 0) (aa (bC jA (gj hu (pv 0) br) (bN (aa (bN ah) ah))) ah)))) (au (aJ (aG D.X7 (nR D 1) hr (aa (eU (pv 1) D.aS D.WE (xH D) hr bO) (aa (bC cK (eS D.T.eE (gj hu (pv 0) br)) ay) ah))))));obtain⟨ik,rw,ps,vl,wu⟩:=id St.wo;have zr:=iD.k (k:=kR) wu.hw;rw[show cE (rB ik rw ps vl) kR=some (.ref rw) by kernel_rfl]at zr;exists Y,Y,w,Y,zr;obtain⟨wrw,n1,n2,vs,hvs,al⟩:=id wu.hr;have lv:=bU.len al;refine⟨iR,λe he=>⟨jS,λo ho=>?_⟩⟩;have s1:=ak he (.lst []);have e1:(aP H e (.lst [])) e=some (.lst []):=af;generalize aP H e (.lst [])=H1 at s1 e1 ho;have s2:=ak ho (.lst [.ref e]);have o2:(aP H1 o (.lst [.ref e])) o=some (.lst [.ref e]):=af;show Y3 _ _ (aP H1 o (.lst [.ref e])) _;generalize aP H1 o (.lst [.ref e])=H2 at s2 o2;have s02:=s1.trans s2;refine⟨rw,o,Z,s02 _ _ hvs,o2,(by rw[lv];exact gM (aV (by simp only[ny,sI];lia))),λr KC=>?_⟩;have s3:=ak KC (.lst (vs++[.ref e]));have r3:(aP H2 r (.lst (vs++[.ref e]))) r=some (.lst (vs++[.ref e])):=af;generalize aP H2 r (.lst (vs++[.ref e]))=H3 at s3 r3;have Pb:=s02.trans s3;have fr:=bu s02 KC;obtain⟨as,Ht,_⟩:=id wu.hi;obtain⟨PR,Ef,_⟩:=id wu.hp;have e3:=s3 _ _ (s2 _ _ e1);have wu3:ML W H3 w ik rw ps vl aK pq rq:=wu.fr (λa ob e _=>Pb _ _ e) (λa xs e=>Pb _ _ e)
 have Ym:ML (λa=>W a\/a=e\/a=r) H3 w ik rw ps vl aK pq rq:=sP.UU wu3 (λa z=>.inl z) (by
  rintro a (z|z|z)
  ·exact wu3.al a z
  ·rw[z];exact⟨_,e3⟩
  ·rw[z];exact⟨_,r3⟩)
 have PU:∀ a ob,H a=some ob->¬ W a->¬ (W a\/a=e\/a=r):=by
  rintro a ob h0 n (z|z|z)
  ·exact n z
  ·rw[z,he]at h0;cases h0
  ·rw[z,fr]at h0;cases h0
 refine⟨λa=>W a\/a=e\/a=r,w,r,aK,pq,rq,rq++[[]],rfl,⟨ik,rw,ps,vl,Ym⟩,Q,λik' wz ⟨jw,vl',ee⟩=>?_,λH4 wo4 fr4 tp4 _=>?_⟩
 ·rw[wu3.hw]at ee;simp only[Option.some.injEq,HO.dK.injEq,rB,List.cons.injEq,Prod.mk.injEq,V.ref.injEq,true_and,and_true]at ee;obtain⟨rfl,rfl,rfl,rfl⟩:=ee;exact⟨.inr (.inr rfl),(aB Ht fr).symm,(aB Ef fr).symm,_,r3,bU.snoc (al.mono λ_ _=>UT.fr (λa z=>.inl z) (λa xs e _ _ _=>Pb _ _ e)) ⟨e,rfl,.inr (.inl rfl),(aB Ht he).symm,(aB Ef he).symm,e3⟩⟩
 have UP:∀ a ob,H a=some ob->¬ W a->H4 a=some ob:=λa ob e n=>fr4 _ _ (Pb _ _ e) (PU _ _ e n);have t04:∀ a xs,H a=some (.tup xs)->H4 a=some (.tup xs):=λa xs e=>tp4 _ _ (Pb _ _ e);have afr:=St.TF.fr (λa ob e z=>UP _ _ e (St.du a z).1) t04
 have XA:dB H4 l c:=by
  obtain⟨n,ns,i,d,r,e1,e2,h3⟩:=St.src;exact⟨n,ns,i,d,r,UP _ _ e1 (λq=>(St.dw l q).1 rfl),UP _ _ e2 (λq=>(St.dw c q).2 rfl),h3⟩
 have uw:∀ a,U a->¬ (W a\/a=e\/a=r):=λa z=>by
  obtain⟨ob,h0⟩:=St.TF.al z;exact PU _ _ h0 (St.du a z).1
 obtain⟨S',Xn,d',Yb,sh',bl',kn',du',bk',dS',Dg,Hj,dw',sg',ow',pw',db',tb',Je,LU⟩:=id afr;refine⟨Y,x,d',Y,LU.L.hx,rfl,S',x,d',Yb,sh',bl',kn',du',bk',dS',Dg,Hj,pe,Je,aF,rows,rfl,LU.L,St.lst,Q,Q,Q,Q,⟨B,λS'' H5 L5 Uh=>?_⟩⟩;obtain⟨U',afs,fu⟩:=LU.nV L5 Uh;have wo5:=wo4.fr (λa ob e z=>fu.2.1 _ _ e (λy=>uw a y z)) fu.2.2;obtain⟨ik5,rw5,ps5,vl5,wu5⟩:=id wo5;obtain⟨_,_,_,vs5,afu,al5⟩:=id wu5.hr;have lv5:=bU.len al5;rw[dz]at lv5;have zr5:=iD.k (k:=kR) wu5.hw;rw[show cE (rB ik5 rw5 ps5 vl5) kR=some (.ref rw5) by kernel_rfl]at zr5;refine⟨Y,w,Y,zr5,rw5,Y,.inl (bL.of afu),Z,P,rfl,.inl ⟨rfl,?_⟩,λH6 s6=>?_⟩
 ·rw[lv5];simp only[ny,sI];congr 1;lia
 have k06:∀ a ob,H a=some ob->¬ U a->¬ W a->H6 a=some ob:=λa ob e y z=>s6 _ _ (fu.2.1 _ _ (UP _ _ e z) y)
 have afv:dB H6 l c:=by
  obtain⟨n,ns,i,d,r,e1,e2,h3⟩:=XA;exact⟨n,ns,i,d,r,s6 _ _ (fu.2.1 _ _ e1 (λq=>(St.du l q).2.1 rfl)),s6 _ _ (fu.2.1 _ _ e2 (λq=>(St.du c q).2.2 rfl)),h3⟩
 have f04:∀ a,H4 a=none->H a=none:=by
  intro a h0
  cases ea:H a with
  | none=>rfl
  | some ob =>
   exfalso;by_cases z:W a
   ·obtain⟨ob,e2⟩:=wo4.al (a:=a) (.inl z);rw[e2]at h0;cases h0
   rw[UP _ _ ea z]at h0;cases h0
 refine k U' (λa=>W a\/a=e\/a=r) H6 _ (by rw[dz];rfl) ⟨afv,afs.same s6,by simp,wo5.same s6,λa z=>?_,λa z=>?_⟩ ⟨λa z=>z.elim (λz=>(fu.1 a z).elim .inl λy=>.inr (.inr (f04 a y))) (λz=>?_),λa ob e n y z=>k06 _ _ e y z,λa xs e=>s6 _ _ (fu.2.2 _ _ (t04 _ _ e))⟩
 ·rcases fu.1 a z with y|y
  ·exact⟨uw a y,(St.du a y).2⟩
  ·change H4 a=none at y;refine⟨λz=>?_,λq=>?_,λq=>?_⟩
   ·obtain⟨ob,e2⟩:=wo4.al z;rw[e2]at y;cases y
   ·obtain⟨_,ns,i,d,r,e1,_⟩:=XA;rw[q,e1]at y;cases y
   ·obtain⟨_,ns,i,d,r,_,e1,_⟩:=XA;rw[q,e1]at y;cases y
 ·have ne:=St.src.ne he;have nr:=St.src.ne fr;rcases z with z|z|z
  ·exact St.dw a z
  ·rw[z];exact⟨ne.1.symm,ne.2.symm⟩
  ·rw[z];exact⟨nr.1.symm,nr.2.symm⟩
 ·rcases z with z|z|z
  ·exact .inr (.inl z)
  ·rw[z];exact .inr (.inr he)
  ·rw[z];exact .inr (.inr fr)
abbrev e0(n:Nat):cS:=List.replicate n []
theorem La(n:Nat):e0 n++[[]]=e0 (n+1):=(List.replicate_succ').symm
theorem xS{n:Nat}{es:List Int}(h:es∈e0 n):es=[]:=(List.mem_replicate.mp h).2
theorem XC{n:Nat}{x y:Int}:¬ jV (e0 n) x y:=λ⟨_,es,he,hy⟩=>by
 rw[xS (nF he)]at hy;cases hy
theorem Qk(n:Nat):gr (e0 n):=λes he y hy=>by
 rw[xS he]at hy;cases hy
theorem Ql(n:Nat):DE (e0 n):=⟨λ_=>0,λ_=>Nat.zero_le _,λ_ _ z=>absurd z XC⟩
theorem Qm{n:Nat}(h:n<=100):nU (e0 n) λ_=>0:=by
 refine⟨by rw[yx];exact h,λes he=>by rw[xS he];exact Nat.zero_le _,Qk n,Ql n,λx es _ he=>?_,λ_ _ _=>by decide⟩;rw[xS (nF he)];rfl
def v9(n:Nat):iu:=[[],[],[]]++(List.range n).map λk=>e0 (k+1)
theorem MP(n:Nat):v9 (n+1)=v9 n++[e0 (n+1)]:=by
 unfold v9;rw[List.range_succ,gG,nB];rfl
theorem AS(n:Nat):(v9 n).length=n+3:=by
 unfold v9;rw[dz,cD,List.length_range];show 3+n=_;lia
class inductive AU(C CS CW CB:Addr)
 | mk (l c w x:Addr) (U W:Addr->Prop) (_:vs=[.ref l,.ref w,.ref x]) (_:sP C CS CW CB H l c w x U W [[]] [] [[]] [] [] [] 0 []) (_ :
 ∀ (U' W':Addr->Prop) (H':Hp) (n:Nat) (aK:gA) (aF:iY),2<=n->n<=4->aK.length<=120->aF.length=n+2->sP C CS CW CB H' l c w x U' W' (v9 n) (e0 n) (v9 n) (e0 n) aF aK 2 []->KW l U W U' W' H H'->Q (.bl true) H')
theorem iH:aH ["_law_src_here","_law_world_here","_law_house","_law_good","_law_k"] ["_law_src_here","_law_world_here","_law_house"] (aA qU):=eO
theorem Eo:‹(9,102,["_law_src_here","_law_world_here","_law_house"],(AU C CS CW CB))›:=λD=>by
 specialize eV D.UD.F iH;obtain⟨l,c,w,x,U,W,rfl,St,k⟩:=h;have hu:=gC hr;exists _,(aj (aW (i:=3) iH.nd nI) (aj (d7 PassesOwn.never rfl (jq rfl D.T.jd (aa ay ah)) (cu (i:=4) iH.nd) (au (aW (i:=3) iH.nd (nY (aG D.OG (yu D) hr (aa (pv 0) (aa (pv 1) (aa (pv 2) ah)))) (pA (pv 3)))))) (aj (d7 PassesOwn.never rfl (jq rfl D.T.jd (aa (bC cT ay (aG D.vH (fC D) hr (aa (pv 0) (aa ay ah)))) ah)) (cu (i:=4) iH.nd) (au (aW (i:=3) iH.nd (nY (aG D.OH (v8 D) hr (aa (pv 1) (aa (pv 2) ah))) (pA (pv 3)))))) (au (aJ (pv 3))))));have f0:KW l U W U W H H:=⟨λa z=>z.elim .inl λy=>.inr (.inl y),λa ob e _ _ _=>e,λ_ _ e=>e⟩;exists 2,rfl,E,E;refine j0 (lo:=0) (n:=(2:Int).toNat) (λj σ H1=>∃ (u4:Option V) (U1 W1:Addr->Prop) (aK:gA) (aF:iY),σ=[some (.ref l),some (.ref w),some (.ref x),some (.bl true),u4]/\sP C CS CW CB H1 l c w x U1 W1 (List.replicate (j+1) []) [] (List.replicate (j+1) []) [] aF aK j []/\aK.length<=60*j/\aF.length=j/\KW l U W U1 W1 H H1) ⟨none,U,W,[],[],rfl,St,gg _,rfl,f0⟩ ?_ ?_
 ·rintro j σ H1 hj ⟨u4,U1,W1,aK,aF,rfl,Em,li,ll,f1⟩;have hj2:j<2:=hj;refine⟨Y,Y,Y,l,c,w,x,U1,W1,K,_,aF,aK,j,[],rfl,Em,(by rw[yx];lia),(by rw[yx];lia),(by show 0<=50;decide),Q,Q,Q,λU2 H2 h cs Jm Q6 Cb U6 f2=>?_⟩;rw[← List.replicate_succ']at U6;have g:∃ (u4:Option V) (U3 W3:Addr->Prop) (AV:gA) (dm:iY),[some (.ref l),some (.ref w),some (.ref x),some (.bl true),some (V.int (0+(j:Int)))]=[some (.ref l),some (.ref w),some (.ref x),some (V.bl true),u4]/\sP C CS CW CB H2 l c w x U3 W3 (List.replicate (j+1+1) []) [] (List.replicate (j+1+1) []) [] dm AV (j+1) []/\AV.length<=60*(j+1)/\dm.length=j+1/\KW l U W U3 W3 H H2:=⟨_,U2,W1,_,Jm,rfl,U6,(by rw[dz,sj];lia),Q,f1.trans (by obtain⟨ls,hl⟩:=Em.src.lst;exact⟨_,hl⟩) f2⟩;exists true,rfl;rw[if_pos rfl];exact⟨Y,g⟩
 rintro σ H1 ⟨u4,U1,W1,aK,aF,rfl,Em,li,ll,f1⟩;refine⟨Y,l,c,3,rfl,Em.src,E,E,λv H2 v0 v1 S2 k2=>⟨Z,2+v,rfl,Q,Q,?_⟩⟩;have U6:=Em.mv (bY k2) S2
 have f2:KW l U W U1 W1 H H2:=f1.trans (by obtain⟨ls,hl⟩:=Em.src.lst;exact⟨_,hl⟩) ⟨λa z=>z.elim .inl λy=>.inr (.inl y),λa ob e n _ _=>(bY k2) _ _ e n,λa xs e=>by
  obtain⟨ls,hl⟩:=Em.src.lst
  exact (bY k2) _ _ e (dH e hl)⟩
 clear f1;refine j0 (lo:=0) (n:=(2+v).toNat) (λj σ H3=>∃ (u4:Option V) (U3 W3:Addr->Prop) (aF:iY),σ=[some (.ref l),some (.ref w),some (.ref x),some (.bl true),u4]/\sP C CS CW CB H3 l c w x U3 W3 (v9 j) (e0 j) (v9 j) (e0 j) aF aK 2 []/\aF.length=j+2/\KW l U W U3 W3 H H3) ⟨u4,U1,W1,aF,rfl,U6,ll,f2⟩ ?_ ?_
 ·rintro j σ H3 hj ⟨u4,U3,W3,aF,rfl,QM,ll,f3⟩;have hj2:j<4:=by lia
  refine⟨Y,Y,l,c,w,x,U3,W3,K,_,aF,aK,2,[],rfl,QM,(by rw[AS];lia),(by rw[AS];lia),(by rw[yx];lia),rfl,Q,⟨_,by rw[La];exact Qm ∅⟩,λU4 W4 H4 XD hl4 QL f4=>?_⟩;rw[La,← MP]at QL;have g:∃ (u4:Option V) (U5 W5:Addr->Prop) (dm:iY),[some (.ref l),some (.ref w),some (.ref x),some (.bl true),some (V.int (0+(j:Int)))]=[some (.ref l),some (.ref w),some (.ref x),some (V.bl true),u4]/\sP C CS CW CB H4 l c w x U5 W5 (v9 (j+1)) (e0 (j+1)) (v9 (j+1)) (e0 (j+1)) dm aK 2 []/\dm.length=j+1+2/\KW l U W U5 W5 H H4:=⟨_,U4,W4,XD,rfl,QL,Q,f3.trans (by obtain⟨ls,hl⟩:=QM.src.lst;exact⟨_,hl⟩) f4⟩;exists true,rfl;rw[if_pos rfl];exact⟨Y,g⟩
 rintro σ H3 ⟨u4,U3,W3,aF,rfl,QM,ll,f3⟩;exact⟨Y,k U3 W3 H3 (2+v).toNat aK aF ∅ ∅ (by have:(2:Int).toNat=2:=rfl;lia) ll QM f3⟩
class inductive Qn
 | mk (W:Addr->Prop) (w o:Addr) (aK:gA) (pe:iu) (rows:cS) (ns:List Int) (_:vs=[.ref w,.ref o]) (_:Wo W H w aK pe rows) (_:H o=some (.lst (ns.map V.int))) (_:ns.length<=1000) (_:∀ a∈ns,0<=a/\a<(aK.length:Nat)) (_:∀ H',aL H H'->Q (.str (eX (ns.map (yN aK)))) H')
theorem rH:aH ["_law_world_here","_law_numbers","_law_signs","_law_number"] ["_law_world_here","_law_numbers"] (aA uy):=eO
theorem GX:‹(1,103,["_law_world_here","_law_numbers"],Qn)›:=λD=>by
 refine eV D.UE.F rH λcN A zn s0 H vs Q E hr h=>?_;obtain⟨W,w,o,aK,pe,rows,ns,rfl,wo,ho,ln,hin,k⟩:=h;have hu:=gC hr;exists _,(aj (aW (i:=2) rH.nd (bN ah)) (aj (d7 PassesOwn.never rfl (cH (pv 1)) (cu (i:=3) rH.nd) (au (bK (aT B4 (pv 3) (gj hu (pv 0) br) rfl) (au (aY (dM qw jX jY bT (pv 2) (aa br ah)))) (au (aY (dM qw jX jY bT (pv 2) (aa (aQ bx (aQ bH (gj hu (pv 0) br) (pv 3)) ay) ah))))))) (au (aJ (dM PySem.F.plainAttrs_str PySem.F.slot_str_join PySem.F.type_str_join Ab br (aa (pv 2) ah))))));obtain⟨ik,jw,ps,vl,wu⟩:=id wo;obtain⟨as,Ht,pa⟩:=id wu.hi;refine⟨iR,λq hq=>?_⟩;have s1:=ak hq (.lst []);refine⟨Y,o,rfl,⟨_,bL.of (s1 _ _ ho)⟩,dO (K:=K) (a:=o) (xs:=ns.map V.int) (λi σ H2=>∃ u:Option V,σ=[some (.ref w),some (.ref o),some (.ref q),u]/\H2 q=some (.lst (((ns.take i).map (yN aK)).map zb))/\aL H H2) ⟨none,rfl,af,s1⟩ (λi σ H2 _ h=>by obtain⟨_,_,_,s2⟩:=h;exact bL.of (s2 _ _ ho)) ?_ ?_⟩
 ·rintro i v σ H2 hi ⟨u,rfl,h2,s2⟩;rw[nG]at hi;obtain⟨a,ea,rfl⟩:=Option.map_eq_some_iff.mp hi;have il:=(List.getElem?_eq_some_iff.mp ea).1;obtain⟨a0,a1⟩:=hin a (nF ea);obtain⟨t,et⟩:∃ t,as[a.toNat]?=some t:=⟨_,sF (by rw[Paired.length pa];lia)⟩;obtain⟨p,ep,ht⟩:=uF pa et;have zv:=iD.k (k:=kVl) (s2 _ _ wu.hw);rw[show cE (rB ik jw ps vl) kVl=some (.ref vl) by kernel_rfl]at zv;have zi:=iD.k (k:=kI) (s2 _ _ wu.hw);rw[show cE (rB ik jw ps vl) kI=some (.ref ik) by kernel_rfl]at zi;have QK:=cQ (xs:=as.map V.ref) (j:=a.toNat) (v:=.ref t) (by rw[nG,et];rfl);rw[show ((a.toNat:Nat):Int)=a by lia]at QK;have ea2:yN aK a=p.2:=by unfold yN;rw[ep];rfl
  refine⟨Y,Y,w,Y,zv,vl,[],rfl,.inl (bL.of (s2 _ _ wu.hv)),V,Y,eY ?_⟩;refine⟨Y,.inl ⟨rfl,_,bL.of h2⟩,Y,w,Y,zi,Y,ik,K,V,bL.of (s2 _ _ Ht),QK,t,K,V,dG.of (s2 _ _ ht),VR,q,Z,h2,aV (by rw[cD,cD,gy];lia),Y,?_,bP hq s2 (aM q _ _)⟩;rw[af,take_snoc ea,gG,gG,← ea2];rfl
 ·rintro σ H2 ⟨u,rfl,h2,s2⟩;rw[cD,gK]at h2;exact⟨rfl,Y,q,Y,rfl,h2,by rw[cD];lia,k H2 s2⟩
open Spec Rows in
def PAx(X:Cx)(es:List Expr)(t:L2.St->Hp->(List V->Hp->Prop)->XK->Prop):Prop:=∀ (pos:Pos) (ao:List (Addr × Obj)) (s:Shared) (σ:L2.St) (H:Hp) (Q:List V->Hp->Prop) (E:XK),Inv X ao σ H s->t σ H Q E->wpAny (model X.prog X.w) X.A (spliced (backTo pos (starEach es X.env))) (AP X ao σ Q) (dX.XP X ao σ E) s
open Spec Rows in
theorem T4{X:Cx}:PAx X [] (λ_ H Q _=>Q [] H):=λ_ _ _ _ H Q E I h=>Calls.spliced_nil ⟨[],H,I,.nil,h⟩
open Spec Rows in
theorem AW{X:Cx}{e:Expr}{es:List Expr}{te:dX.ZI}{t:L2.St->Hp->(List V->Hp->Prop)->XK->Prop}(ha:dX.ZJ X e te)(hr:PAx X es t)(hs:starEach (e::es) X.env=(false,eval e X.env)::starEach es X.env:=by rfl):PAx X (e::es) (fun σ H Q E=>te σ H (λx H1=>t σ H1 (λxs H2=>Q (x::xs) H2) E) E):=by
 intro pos ao s σ H Q E I h;rw[hs];show wpAny _ _ (spliced ((false,eval e X.env)::backTo pos (starEach es X.env))) _ _ s;refine Calls.spliced_cons (cX (ha ao s σ H _ E I h) λu s1 Df=>?_);obtain⟨x,H1,I1,r1,q1⟩:=Df;exact cX (hr pos ao s1 σ H1 _ E I1 q1) λus s2 ⟨xs,H2,I2,r2,q2⟩=>⟨x::xs,H2,I2,.cons r1 r2,q2⟩
open Spec Rows in
theorem XE{X:Cx}{es:List Expr}{x1:Nat}{t:L2.St->Hp->(List V->Hp->Prop)->XK->Prop}(h:PAx X es t):dX.ZJ X (.Tuple es x1 pos) (fun σ H Q E=>t σ H (λxs H1=>xs.length<=sizeLine/\∀ p,H1 p=none->Q (.ref p) (aP H1 p (.tup xs))) E):=by
 intro ao s σ H Q E I hq;refine wpAny_Tuple_spliced (cX (h pos ao s σ H _ E I hq) λus s1 ⟨xs,H1,I1,r,z,q⟩=>⟨by rw[← r.length];exact z,?_⟩);have hf:H1 s1.heap.objs.size=none:=I1.hok.fresh (gg _);refine⟨.ref s1.heap.objs.size,aP H1 s1.heap.objs.size (.tup xs),I1.laid (t':=s1.toks) (λb u e=>Heap.get?_push_of_some _ e) (gg _) ?_,rfl,q _ hf⟩;exact⟨z,us,r,⟨_,Heap.get?_push_size _ rfl,rfl,Y⟩⟩
noncomputable def T5 (n:Nat) (rows:cS):Int->List Int:=open Classical in if h:Good n rows then h.P5.choose else λ_=>[]
theorem Good.T5{n:Nat}{rows:cS}(h:Good n rows):Gd n rows (T5 n rows):=by
 unfold gv.T5;rw[dif_pos h];exact h.P5.choose_spec
abbrev Qo:V:=.str "sheet"
abbrev T6:V:=.str "moment"
inductive Nc(pe:iu)(aK:gA)(nl:Nat)(s m:Int)(H:Hp)(t:Addr):Prop
 | Hs (_:¬ lE nl s) (_:H t=some (.tup [Qo,.fH])):Nc pe aK nl s m H t
 | QN (_:lE nl s) (_:¬ lE pe.length m) (_:H t=some (.tup [T6,.fH])):Nc pe aK nl s m H t
 | T7 (si mi:Nat) (rows:cS) (_:s=si) (_:m=mi) (_:si<nl) (_:pe[mi]?=some rows) (_:rows.length<=si) (_:H t=some (.tup [Qo,.fH])):Nc pe aK nl s m H t
 | told (si mi:Nat) (rows:cS) (es:List Int) (u q1 q2:Addr) (_:s=si) (_:m=mi) (_:si<nl) (_:pe[mi]?=some rows) (_:rows[si]?=some es) (_:H t=some (.tup [.str "",.ref u])) (_:H u=some (.tup [.ref q1,.ref q2,.str (eX ((T5 aK.length rows (si:Nat)).map (yN aK)))])) (_:bJ H (.ref q1) (aI es)) (_:cA H q2 (cL (T5 aK.length rows (si:Nat)))):Nc pe aK nl s m H t
class inductive GY(C CS CW CB:Addr)
 | mk (U:Addr->Prop) (x:Addr) (pe:iu) (aF:iY) (aK:gA) (nW:Nat) (s m:Int) (last:cS) (_:vs=[.ref x,.int s,.int m]) (_:qA C CS CW CB U H x pe aF aK nW []) (_:pe.getLast?=some last) (_:last.length<=50) (_:pe.length<=900) (_:lR s) (_:lR m) (_:∀ y∈pe,Good aK.length y) (_:∀ (t:Addr) (H':Hp),Nc pe aK last.length s m H' t->aL H H'->Q (.ref t) H')
theorem ju:aH ["_law_house","_law_sheet","_law_moment","_law_told","_law_name"] ["_law_house","_law_sheet","_law_moment"] (aA uz):=eO
theorem GZ(D:Ds K mg aZ bg C CS CW CB CT CD aC az)(Zn:PySem.W.exmOne K (.ref az) (.ref aC)=some false)(jQ:bf P w K mg zt (Fp P w) 5 (aZ 75) (bg 75) ["self","sheet","moment"] (D9 C CS CW CB aC az)):bf P w K mg zt cM 7 (aZ 104) (bg 104) ["_law_house","_law_sheet","_law_moment"] (GY C CS CW CB):=by
 refine eV D.OI.F ju λcN A zn s0 H vs Q E hr h=>?_;obtain⟨U,x,pe,aF,aK,nW,s,m,last,rfl,LB,hl,l1,l2,fs,fm,ga,k⟩:=h;refine⟨_,(aj (aW (i:=3) ju.nd zk) (aj (aW (i:=4) ju.nd br) (aj (dX.Sb (dX.RY (i:=3) ju.nd rfl (Or.inl rfl) (XE (AW (dX.RX (pv 0) D.aS.cl D.WI.mt D.WI.b jQ (hr.mono (by decide)) (aa (pv 1) (aa (pv 2) ah))) (AW (dX.Kx (cR (pv 0) D.aS D.WJ (gF D) hr bO (aa (pv 1) (aa (pv 2) ah)))) (AW (dX.Kx (cR (pv 0) D.aS D.aap (kM D) hr bO (aa (pv 1) (aa (pv 2) ah)))) T4))))) (dX.FP D.jH.m (λ_=>(au (aW (i:=4) ju.nd br))) (dX.FP D.lW.m (λ_=>(au (aW (i:=4) ju.nd br))) dX.R0))) (au (aJ (cF (aa (pv 4) (aa (pv 3) ah)))))))),?_⟩;obtain⟨S,SW,d,wl,sh',bl,kn,du,bk,dS,st,op,dw,sg,ow,pw,db,tb,ops,LU⟩:=id LB;have z2:2<=sizeLine:=by decide
 refine⟨Y,x,d,Y,LU.L.hx,rfl,Y,Y,U,x,pe,aF,aK,nW,[],s,m,last,rfl,LB,hl,l1,l2,fs,fm,λns=>.inl ⟨D.jH.h,Y,Y,z2,λt ht=>k t _ (.Hs ns af) (ak ht _)⟩,λis nm=>.inr ⟨Zn,.inl ⟨D.lW.h,Y,Y,z2,λt ht=>k t _ (.QN is nm af) (ak ht _)⟩⟩,λsi mi rows es em sl er=>⟨λle=>.inl ⟨D.jH.h,Y,Y,z2,λt ht=>k t _ (.T7 si mi rows es em sl er le af) (ak ht _)⟩,λtV ee q H1 hq s1 fq=>?_⟩⟩;subst es em;have g:=(ga rows (nF er)).T5;have ly:=g.ln;have sr:=(List.getElem?_eq_some_iff.mp ee).1;refine⟨Y,(LB.same s1).m ⟨Y,Y,U,x,pe,aF,aK,nW,[],si,mi,rows,last,Y,LB.same s1,er,sr,Q,l2,hl,l1,g.sn,λo H2 ho s2 fo=>?_⟩⟩;have lI:=s1.trans s2;have ls:=g.sl (si:Nat) ∅ ∅;refine⟨Y,(LB.same lI).m ⟨Y,Y,U,x,pe,aF,aK,nW,si,mi,rows,last,Y,LB.same lI,er,sr,Q,l2,hl,l1,g.sn,Q,g.Xx _ ∅ ∅,λH3 s3=>⟨DH,λu hu=>⟨Y,Y,z2,λt ht=>?_⟩⟩⟩⟩;have Xf:=s2.trans s3;have s4:=ak hu (.tup [.ref q,.ref o,.str (eX ((T5 aK.length rows (si:Nat)).map (yN aK)))]);have s5:=ak ht (.tup [.str "",.ref u]);have s45:=s4.trans s5;exact k t _ (.told si mi rows tV u q o rfl rfl sl er ee af (s5 _ _ af) ((hq.same Xf).same s45) ((ho.same s3).same s45)) ((s1.trans Xf).trans s45)
class inductive Qp
 | mk (W:Addr->Prop) (w:Addr) (pe:iu) (aK:gA) (s m:Int) (rows:cS) (_:vs=[.ref w,.int s,.int m]) (_:Wo W H w aK pe rows) (_:rows.length<=50) (_:pe.length<=900) (_:aK.length<=50000) (_:∀ y∈pe,Good aK.length y) (_:∀ (t:Addr) (H':Hp),Nc pe aK rows.length s m H' t->aL H H'->Q (.ref t) H')
theorem lH:aH ["_law_world_here","_law_sheet","_law_moment","_law_rows","_law_numbers"] ["_law_world_here","_law_sheet","_law_moment"] (aA mK):=eO
theorem yP:‹(43,105,["_law_world_here","_law_sheet","_law_moment"],Qp)›:=λD=>by
 refine eV D.OJ.F lH λcN A zn s0 H vs Q E hr h=>?_;obtain⟨W,w,pe,aK,s,m,rows,rfl,wo,l1,l2,li,ga,k⟩:=h;have hu:=gC hr;exists _,(aj (bK (PW.pt (BV (aT iS (pv 1) ay (bq _)) (zl (aT E3 (pv 1) (eS D.T.eE (gj hu (pv 0) br)) (bq _))))) (au (aJ (cF (aa br (aa zk ah))))) aX) (aj (bK (PW.pt (BV (aT iS (pv 2) ay (bq _)) (zl (aT E3 (pv 2) (eS D.T.eE (gj hu (pv 0) br)) (bq _))))) (au (aJ (cF (aa br (aa zk ah))))) aX) (aj (aW (i:=3) lH.nd (aQ bH (gj hu (pv 0) br) (pv 2))) (aj (bK (aT E3 (pv 1) (eS D.T.eE (pv 3)) (bq _)) (au (aJ (cF (aa br (aa zk ah))))) aX) (aj (aW (i:=4) lH.nd (aG D.FY (ic D 41) hr (aa (pv 3) (aa (pv 1) ah)))) (au (aJ (cF (aa br (aa (cF (aa (aG D.aav (yO D) hr (aa (aQ bH (pv 3) (pv 1)) ah)) (aa (aG D.aau (BF D) hr (aa (pv 4) ah)) (aa (aG D.UE (GX D) hr (aa (pv 0) (aa (pv 4) ah))) ah)))) ah))))))))));obtain⟨ik,jw,ps,vl,wu⟩:=id wo;obtain⟨xs,hxs,al⟩:=id wu.hr.at_;have lv:=bU.len al;obtain⟨PR,Ef,Yo⟩:=id wu.hp;have lpv:=bU.len Yo;have zr:=iD.k (k:=kR) wu.hw;rw[show cE (rB ik jw ps vl) kR=some (.ref jw) by kernel_rfl]at zr;have zp:=iD.k (k:=kP) wu.hw;rw[show cE (rB ik jw ps vl) kP=some (.ref ps) by kernel_rfl]at zp;have z2:2<=sizeLine:=by decide
 refine⟨Y,Z,Y,cI (λc=>gR ⟨z2,λt ht=>k t _ (.Hs (λz=>by have:=of_decide_eq_true c;have:=z.1;lia) af) (ak ht _)⟩) (λc0=>?_)⟩;refine⟨Y,Y,w,Y,zr,jw,Y,.inl (bL.of hxs),Z,Y,cI (λc=>⟨z2,λt ht=>k t _ (.Hs (λz=>by have:=of_decide_eq_true c;have:=z.2;lia) af) (ak ht _)⟩) (λc1=>?_)⟩;have is:lE rows.length s:=⟨Int.not_lt.mp λz=>c0 (decide_eq_true z),by have:¬ ((xs.length:Nat):Int)<=s:=λz=>c1 (decide_eq_true z);lia⟩;refine⟨Y,Z,Y,cI (λc=>gR ⟨z2,λt ht=>k t _ (.QN is (λz=>by have:=of_decide_eq_true c;have:=z.1;lia) af) (ak ht _)⟩) (λc2=>?_)⟩;refine⟨Y,Y,w,Y,zp,ps,Y,.inl (bL.of Ef),Z,Y,cI (λc=>⟨z2,λt ht=>k t _ (.QN is (λz=>by have:=of_decide_eq_true c;have:=z.2;lia) af) (ak ht _)⟩) (λc3=>?_)⟩;have im:lE pe.length m:=⟨Int.not_lt.mp λz=>c2 (decide_eq_true z),by have:¬ ((PR.length:Nat):Int)<=m:=λz=>c3 (decide_eq_true z);lia⟩;obtain⟨si,rfl,sl⟩:=is.get;obtain⟨mi,rfl,ml⟩:=im.get;obtain⟨y,ey⟩:∃ y,pe[mi]?=some y:=⟨_,sF ml⟩;have g:=(ga y (nF ey)).T5;have ly:=g.ln;obtain⟨rk,rb,dn⟩:=id g.sn.rk;obtain⟨v',hv',b',rfl,rv⟩:=Yo.get' ey;have Ry:=rv.at_;obtain⟨ys,hys,aly⟩:=id Ry;have lvy:=bU.len aly;exists Y,w,Y,zp,Y,ps,K,V,bL.of Ef,cQ hv';refine⟨Y,Y,b',Y,.inl (bL.of hys),Z,Y,cI (λc=>⟨z2,λt ht=>k t _ (.T7 si mi y rfl rfl sl ey (by have:=of_decide_eq_true c;lia) af) (ak ht _)⟩) (λc4=>?_)⟩;have sy:si<y.length:=by have:¬ ((ys.length:Nat):Int)<=((si:Nat):Int):=λz=>c4 (decide_eq_true z);lia
 obtain⟨es,oJ⟩:∃ es,y[si]?=some es:=⟨_,sF sy⟩;obtain⟨v,hv,b,rfl,_,hb⟩:=aly.get' oJ;have el:=g.es es (nF oJ);have ls:=g.sl (si:Nat) ∅ ∅;refine⟨Y,Y,_,b',y,(si:Nat),_,rk,rfl,Ry,Q,g.sn.sd,Q,Q,g.sn.ss,g.sn.ln,dn,by have:=rb (si:Nat);lia,λo H1 ho s1 fo=>?_⟩;refine⟨Y,Y,b',K,V,bL.of (s1 _ _ hys),cQ hv,b,es,rfl,s1 _ _ hb,Q,λq3 H2 EL s2 f3=>?_⟩;refine⟨Y,o,Y,s2 _ _ ho,Q,λr H3 IP s3 fr=>?_⟩;have ye:=s1.trans (s2.trans s3);refine⟨Y,Y,W,w,o,aK,pe,rows,Y,wo.same ye,(s2.trans s3) _ _ ho,Q,g.Xx _ ∅ ∅,λH4 s4=>⟨DH,λu hu=>⟨z2,λt ht=>?_⟩⟩⟩;have s5:=ak hu (.tup [.ref q3,.ref r,.str (eX ((T5 aK.length y (si:Nat)).map (yN aK)))]);have s6:=ak ht (.tup [.str "",.ref u]);have s46:=s4.trans (s5.trans s6);exact k t _ (.told si mi y es u q3 r rfl rfl sl ey oJ af (s6 _ _ af) (EL.same (s3.trans s46)) (IP.same s46)) (ye.trans s46)
theorem C8{f g:Int->Int}:∀ {es:List Int},(∀ y∈dQ es,g y=f y)->jT g es=jT f es
 | [],_=>rfl
 | e::r,h=>by
  rw[xP,xP,C8 (es:=r) λy hy=>h y (b8.mpr ⟨(b8.mp hy).1,nu _ (b8.mp hy).2⟩)];by_cases c:e<0
  ·rw[if_pos c,if_pos c,h (-1-e) (b8.mpr ⟨Q,by rw[show -1-(-1-e)=e by lia];exact tU⟩)]
  ·rw[if_neg c,if_neg c]
theorem Good.fresh{n:Nat}{rows:cS}(h:Good n rows)(l:rows.length<40):Good n (rows++[[]]):=by
 have sd:=AL h.en;obtain⟨en,⟨rk,rb,dn⟩,ln,f,hw,hm⟩:=h;have ll:(rows++[[]]).length=rows.length+1:=by simp
 have get:∀ {i:Nat} {es:List Int},(rows++[[]])[i]?=some es->rows[i]?=some es\/es=[]:=λ{i es} e=>by
  rw[List.getElem?_append]at e;split at e
  ·exact .inl e
  ·have:=List.mem_singleton.mp (nF e);exact .inr this
 refine⟨λes he e hm'=>?_,⟨rk,rb,λx y ⟨x0,es,e,hy⟩=>?_⟩,Q,λx=>if x<rows.length then f x else 0,λx es x0 e=>?_,λx x0 x1=>?_⟩
 ·rw[ll];rcases List.mem_append.mp he with z|z
  ·exact (en es z e hm').imp id λy=>⟨y.1,by have:=y.2;lia⟩
  ·rw[List.mem_singleton.mp z]at hm';cases hm'
 ·rcases get e with z|z
  ·exact dn x y ⟨x0,es,z,hy⟩
  ·rw[z]at hy;cases hy
 ·by_cases c:x<rows.length
  ·have z:rows[x.toNat]?=some es:=by
    rw[List.getElem?_append_left ∅]at e;exact e
   show (if x<rows.length then f x else 0)=_;rw[if_pos c,hw x es x0 z];exact (C8 λy hy=>if_pos (sd es (nF z) y hy)).symm
  ·have xl:=(List.getElem?_eq_some_iff.mp e).1;rcases get e with z|z
   ·have:=(List.getElem?_eq_some_iff.mp z).1;lia
   ·show (if x<rows.length then f x else 0)=_;rw[if_neg c,z];rfl
 ·show (if x<rows.length then f x else 0)<=200;split
  ·exact hm x x0 (by assumption)
  ·decide
class inductive Qq(C CS CW CB:Addr)
 | mk (l c w x:Addr) (U W:Addr->Prop) (pe:iu) (rows:cS) (aF:iY) (aK:gA) (nW:Nat) (_:vs=[.ref l,.ref w,.ref x]) (_:sP C CS CW CB H l c w x U W pe rows pe rows aF aK nW []) (_:1<=rows.length) (_:rows.length<40) (_:pe.length<=700) (_:aF.length<=700) (_:aK.length<=9000) (_:nW<=700) (_:Good aK.length rows) (_:∀ y∈pe,Good aK.length y) (_:∀ (U' W':Addr->Prop) (AA:iu) (rows':cS) (dm:iY) (AV:gA) (PU:Nat) (H':Hp),sP C CS CW CB H' l c w x U' W' AA rows' AA rows' dm AV PU []->rows.length<=rows'.length->rows'.length<=rows.length+1->AA.length<=pe.length+2->dm.length<=aF.length+2->AV.length<=aK.length+60->PU<=nW+1->Good AV.length rows'->(∀ y∈AA,Good AV.length y)->Q (.bl true) H')
theorem yQ:aH ["_law_src_here","_law_world_here","_law_house"] ["_law_src_here","_law_world_here","_law_house"] (aA mL):=eO
theorem yR(D:Ds K mg aZ bg C CS CW CB CT CD aC az)(uV:bf P w K mg zt cM 5 (aZ 100) (bg 100) ["_law_src_here","_law_world_here","_law_house"] (xR C CS CW CB))(rJ:bf P w K mg zt cM 8 (aZ 101) (bg 101) ["_law_world_here","_law_house"] (uU C CS CW CB))(uW:bf P w K mg zt cM 46 (aZ 99) (bg 99) ["_law_src_here","_law_world_here","_law_house"] (AR C CS CW CB)):bf P w K mg zt cM 47 (aZ 106) (bg 106) ["_law_src_here","_law_world_here","_law_house"] (Qq C CS CW CB):=by
 refine eV D.UG.F yQ λcN A zn s0 H vs Q E hr h=>?_;obtain⟨l,c,w,x,U,W,pe,rows,aF,aK,nW,rfl,St,r1,r40,b1,b2,b3,b4,gd,ga,k⟩:=h;have hu:=gC hr;exists _,(aj (bK (aT dY (aG D.vH (fC D) hr (aa (pv 0) (aa ay ah))) ay (bq _)) (au (aJ (nY (aG D.OG uV hr (aa (pv 0) (aa (pv 1) (aa (pv 2) ah)))) (pA (aG D.OH rJ hr (aa (pv 1) (aa (pv 2) ah))))))) aX) (au (aJ (aG D.aaC uW hr (aa (pv 0) (aa (pv 1) (aa (pv 2) ah)))))));refine⟨Y,l,c,6,rfl,St.src,E,E,λv H1 v0 v1 S1 k1=>?_⟩;have Em:=St.mv (bY k1) S1;refine⟨rfl,Y,cI (λ_=>?_) (λ_=>?_)⟩
 ·refine⟨Y,Y,Y,l,c,w,x,U,W,pe,rows,pe,rows,aF,aK,nW,[],rfl,Em,Q,Q,Q,Q,Q,Q,λU2 H2 h cs Jm lc ll2 U6 _=>⟨true,rfl,gR ?_⟩⟩;have lk:(aK++oH h cs).length<=aK.length+60:=by rw[dz];unfold oH;rw[cD];lia
  have gm:∀ {y:cS},Good aK.length y->Good (aK++oH h cs).length y:=λg=>g.more (by rw[dz];lia);have gf:=(gm gd).fresh r40;refine⟨Y,Y,l,c,w,x,U2,W,_,rows,_,rows,Jm,_,nW+1,[],rfl,U6,by simp;lia,by simp;lia,r40,rfl,Q,gf.bears,λU3 W3 H3 XF ll3 QM _=>?_⟩;refine k U3 W3 _ _ XF _ (nW+1) H3 QM (by simp) (by simp) (by simp) ∅ lk ∅ gf λy hy=>?_;rcases List.mem_append.mp hy with z|z
  ·rcases List.mem_append.mp z with z|z
   ·exact gm (ga y z)
   ·rw[List.mem_singleton.mp z];exact gm gd
  ·rw[List.mem_singleton.mp z];exact gf
 ·exact⟨Y,Y,Y,l,c,w,x,U,W,pe,rows,aF,aK,nW,[],rfl,Em,r1,Q,Q,Q,gd,λU' W' AA rows' dm H' St' rl lp' ll' gd' ga'=>k U' W' AA rows' dm aK nW H' St' ∅ ∅ ∅ ∅ ∅ ∅ gd' λy hy=>(ga' y hy).elim (ga y) λz=>z ▸ gd'⟩
theorem Ep{n m:Nat}(h:m<=40):Good n (e0 m):=by
 refine⟨λes he e hm=>?_,Ql m,by rw[yx];exact h,λ_=>0,λx es _ he=>?_,λ_ _ _=>(by decide:(0:Int)<=200)⟩
 ·rw[xS he]at hm;cases hm
 ·rw[xS (nF he)];rfl
theorem MQ{n m:Nat}(h:n<=40):∀ y∈v9 n,Good m y:=λy hy=>by
 unfold v9 at hy;rcases List.mem_append.mp hy with z|z
 ·have:y=[]:=by simpa using z
  rw[this];exact Ep (m:=0) ∅
 ·obtain⟨k,hk,rfl⟩:=List.mem_map.mp z;have:=List.mem_range.mp hk;exact Ep ∅
theorem T8{H:Hp}{a b:Addr}{x y u v:V}{n:Nat}(h:H a=some (.tup [x,u]))(g:H b=some (.tup [y,v]))(h1:Eqv H n x y)(h2:Eqv H n u v):Eqv H (n+1) (.ref a) (.ref b):=.inr ⟨false,a,b,Z,h,g,rfl,λi p q e1 e2=>by
 match i,e1,e2 with
 | 0,e1,e2=>cases e1;cases e2;exact h1
 | 1,e1,e2=>cases e1;cases e2;exact h2⟩
theorem afz{H:Hp}{a b:Addr}{x y u v s t:V}{n:Nat}(h:H a=some (.tup [x,u,s]))(g:H b=some (.tup [y,v,t]))(h1:Eqv H n x y)(h2:Eqv H n u v)(h3:Eqv H n s t):Eqv H (n+1) (.ref a) (.ref b):=.inr ⟨false,a,b,Z,h,g,rfl,λi p q e1 e2=>by
 match i,e1,e2 with
 | 0,e1,e2=>cases e1;cases e2;exact h1
 | 1,e1,e2=>cases e1;cases e2;exact h2
 | 2,e1,e2=>cases e1;cases e2;exact h3⟩
theorem Nc.same{pe:iu}{aK:gA}{nl:Nat}{s m:Int}{H H':Hp}{t:Addr}(h:Nc pe aK nl s m H t)(z:aL H H'):Nc pe aK nl s m H' t:=by
 cases h with
 | Hs a b=>exact .Hs a (z _ _ b)
 | QN a b c=>exact .QN a b (z _ _ c)
 | T7 si mi rows a b c d e f=>exact .T7 si mi rows a b c d e (z _ _ f)
 | told si mi rows es u q1 q2 a b c d e f g i j=>exact .told si mi rows es u q1 q2 a b c d e (z _ _ f) (z _ _ g) (i.same z) (j.same z)
theorem Nc.eqv{pe:iu}{aK:gA}{nl:Nat}{s m:Int}{H:Hp}{t:Addr}(h:Nc pe aK nl s m H t)(h':Nc pe aK nl s m H t'):Eqv H 5 (.ref t) (.ref t'):=by
 have fl:∀ {x:V},Zl x=true->Eqv H 4 x x:=λe=>.inl ⟨e,rfl⟩;have U7:∀ {n i:Nat} {a:Int},a=i->i<n->lE n a:=λe l=>by rw[e];exact⟨Q,Q⟩
 cases h with
 | Hs a b =>
  cases h' with
  | Hs a' b'=>exact T8 b b' (fl rfl) (fl rfl)
  | QN a' b' c'=>exact absurd a' a
  | T7 si mi rows a' b' c' d e f=>exact absurd (U7 a' c') a
  | told si mi rows es u q1 q2 a' b' c' d e f g i j=>exact absurd (U7 a' c') a
 | QN a b c =>
  cases h' with
  | Hs a' b'=>exact absurd a a'
  | QN a' b' c'=>exact T8 c c' (fl rfl) (fl rfl)
  | T7 si mi rows a' b' c' d e f=>exact absurd (U7 b' (List.getElem?_eq_some_iff.mp d).1) b
  | told si mi rows es u q1 q2 a' b' c' d e f g i j=>exact absurd (U7 b' (List.getElem?_eq_some_iff.mp d).1) b
 | T7 si mi rows a b c d e f =>
  cases h' with
  | Hs a' b'=>exact absurd (U7 a c) a'
  | QN a' b' c'=>exact absurd (U7 b (List.getElem?_eq_some_iff.mp d).1) b'
  | T7 Yp Yq rows' a' b' c' d' e' f'=>exact T8 f f' (fl rfl) (fl rfl)
  | told Yp Yq rows' es u q1 q2 a' b' c' d' e' f' g i j =>
   obtain rfl:si=Yp:=by lia
   obtain rfl:mi=Yq:=by lia
   rw[d]at d';cases d';have:=(List.getElem?_eq_some_iff.mp e').1;lia
 | told si mi rows es u q1 q2 a b c d e f g i j =>
  cases h' with
  | Hs a' b'=>exact absurd (U7 a c) a'
  | QN a' b' c'=>exact absurd (U7 b (List.getElem?_eq_some_iff.mp d).1) b'
  | T7 Yp Yq rows' a' b' c' d' e' f' =>
   obtain rfl:si=Yp:=by lia
   obtain rfl:mi=Yq:=by lia
   rw[d]at d';cases d';have:=(List.getElem?_eq_some_iff.mp e).1;lia
  | told Yp Yq rows' tV u' q1' q2' a' b' c' d' e' f' g' i' j' =>
   obtain rfl:si=Yp:=by lia
   obtain rfl:mi=Yq:=by lia
   rw[d]at d';cases d';rw[e]at e';cases e';exact T8 f f' (fl rfl) (afz g g' (bJ.eqv 0 i i') (cA.eqv j j' 0) (.inl ⟨V⟩))
inductive Qs(C CS CW CB l c x w:Addr)(b:Nat)(H:Hp):Prop
 | mk (U W:Addr->Prop) (pe:iu) (rows:cS) (aF:iY) (aK:gA) (nW:Nat) (_:sP C CS CW CB H l c w x U W pe rows pe rows aF aK nW []) (_:1<=rows.length) (_:rows.length<=4+b) (_:pe.length<=20+2*b) (_:aF.length<=20+2*b) (_:aK.length<=120+60*b) (_:nW<=2+b) (_:Good aK.length rows) (_:∀ y∈pe,Good aK.length y)
theorem Qs.mv{C c x w:Addr}{b:Nat}{H H':Hp}(h:Qs C CS CW CB l c x w b H)(k:cJ l H H')(S:dB H' l c):Qs C CS CW CB l c x w b H':=by
 obtain⟨U,W,pe,rows,aF,aK,nW,St,r1,r2,b1,b2,b3,b4,gd,ga⟩:=h;exact⟨U,W,pe,rows,aF,aK,nW,St.mv k S,r1,r2,b1,b2,b3,b4,gd,ga⟩
theorem Qs.src{C c x w:Addr}{b:Nat}{H:Hp}(h:Qs C CS CW CB l c x w b H):dB H l c:=by
 obtain⟨_,_,_,_,_,_,_,St,_⟩:=h;exact St.src
theorem Qs.same{C c x w:Addr}{b:Nat}{H H':Hp}(h:Qs C CS CW CB l c x w b H)(s:aL H H'):Qs C CS CW CB l c x w b H':=h.mv (λa o e _=>s a o e) (h.src.same s)
theorem tR:aH ["_law_script","_law_src_here","_law_house","_law_world_here","_law_k","_law_sheet","_law_moment"] ["_law_script"] (aA Rj):=eO
theorem all_mk:Uo:=by
 intro P w K mg fa q;obtain⟨dJ,gx,gk,Ce,E8,bI,aC,az,X,G,hfa,J6,j9,j4,NV,uA,vq,oN,J7,vt,NW,Dt,Du,NY,J8,Cf,xY,eZ,zE,Dv,J9,E9,q0,q1,q2,q3,q4,q5,q6,q7,q8,q9,Cg,q11,q12,q13,q14,q15,q16,q17,q18,q19,q20,q21,q22,q23,q24,q25,q26,q27,q28,q29,q30,q31,q32,q33,q34,q35,q36,q37,q38,q39,q40,q41,q42,q43,q44,q45,q46,q47,q48,q49,q50,q51,q52,q53,q54,q55,q56,q57,q58,q59,q60,q61,q62,q63,q64,q65,q66,q67,q68,q69,q70,q71,q72,q73,q74,q75,q76,q77,q78,q79,q80,q81,q82,q83,q84,q85,q86,q87,q88,q89,q90,q91,q92,q93,q94,q95,q96,q97,q98,q99,Y8,Y9,Za,Zb,Zc,Zd,Ze,Zf,z0,z1,z2,z3,z4,z5,z6,z7,z8,z9,z10,z11,z12,Fb,Ci,sZ,tw,Fc,vv,tF,xn0⟩:=q;obtain⟨al,ll,cl,kl⟩:=Zf;have e:=hfa.symm.trans (mg_of X G al);cases e;obtain⟨fd,F,bF⟩:∃ fd,NP K "law" "law" Rj fa fd/\∀ (s:Shared) (v:Value),BindsTo s fd ⟨[v],[]⟩ [("_law_script",v)]:=⟨_,Ic (st:=Rj) ll cl kl,λs v=>.of_eq rfl⟩;obtain⟨g0,MR⟩:=q0.d (ps:=["_law_script"]) X G;obtain⟨g1,Jo⟩:=q1.d (ps:=["_law_src_here","_law_base"]) X G;obtain⟨g2,G1⟩:=q2.d (ps:=["_law_found"]) X G;obtain⟨g3,Jp⟩:=q3.d (ps:=["_law_found","_law_due"]) X G;obtain⟨g4,XG⟩:=q4.d (ps:=["row"]) X G;obtain⟨g5,U8⟩:=q5.d (ps:=["row"]) X G;obtain⟨g6,BI⟩:=q6.d (ps:=["row","start","stop"]) X G;obtain⟨g7,T9⟩:=q7.d (ps:=["row","start","stop"]) X G;obtain⟨g8,abv⟩:=q8.d (ps:=["row","start","stop"]) X G;obtain⟨g9,qu⟩:=q9.d (ps:=["self"]);obtain⟨g10,Jq⟩:=Cg.d (ps:=["row"]) X G;obtain⟨g11,Qt⟩:=q11.d (ps:=["items"]) X G;obtain⟨g12,XH⟩:=q12.d (ps:=["rows","sheets"]) X G;obtain⟨g13,Er⟩:=q13.d (ps:=["rows","start","goal"]) X G;obtain⟨g14,abw⟩:=q14.d (ps:=["rows","sheet"]) X G;obtain⟨g15,Es⟩:=q15.d (ps:=["item","weights"]) X G;obtain⟨g16,AX⟩:=q16.d (ps:=["rows","sheets"]) X G;obtain⟨g17,MS⟩:=q17.d (ps:=["item","views"]) X G;obtain⟨g18,Et⟩:=q18.d (ps:=["rows","sheets"]) X G;obtain⟨g19,Qu⟩:=q19.d (ps:=["rows","sheet"]) X G;obtain⟨g20,Qv⟩:=q20.d (ps:=["one","other"]) X G;obtain⟨g21,Eu⟩:=q21.d (ps:=["items"]) X G;obtain⟨g22,XJ⟩:=q22.d (ps:=["row"]) X G;obtain⟨g23,XN⟩:=q23.d (ps:=["items","views"]) X G;obtain⟨g24,Jr⟩:=q24.d (ps:=["items","views","place","others"]) X G;obtain⟨g25,Js⟩:=q25.d (ps:=["rows","sheet","place","items"]) X G;obtain⟨g26,Ua⟩:=q26.d (ps:=["items","views","start","stop"]) X G;obtain⟨g27,Jt⟩:=q27.d (ps:=["rows","sheet","start","stop"]) X G;obtain⟨g28,Ew⟩:=q28.d (ps:=["rows","sheet","start","stop","to"]) X G;obtain⟨g29,Ex⟩:=q29.d (ps:=["rows","sheet"]) X G;obtain⟨g30,Ju⟩:=q30.d (ps:=["row"]) X G;obtain⟨g31,G2⟩:=q31.d (ps:=["deed"]) X G;obtain⟨g32,Qw⟩:=q32.d (ps:=["state","sheet","items"]) X G;obtain⟨g33,qv⟩:=q33.d (ps:=["self"]);obtain⟨g34,Jv⟩:=q34.d (ps:=["self"]);obtain⟨g35,G3⟩:=q35.d (ps:=["self"]);obtain⟨g36,G4⟩:=q36.d (ps:=["self","changes"]);obtain⟨g37,uX⟩:=q37.d (ps:=["self","sheet"]);obtain⟨g38,sQ⟩:=q38.d (ps:=["self","moment"]);obtain⟨g39,xT⟩:=q39.d (ps:=["self","moment"]);obtain⟨g40,G5⟩:=q40.d (ps:=["self"]);obtain⟨g41,Jw⟩:=q41.d (ps:=["self","sheet"]);obtain⟨g42,rK⟩:=q42.d (ps:=["self"]);obtain⟨g43,rL⟩:=q43.d (ps:=["self"]);obtain⟨g44,rM⟩:=q44.d (ps:=["self"]);obtain⟨g45,Jx⟩:=q45.d (ps:=["self"]);obtain⟨g46,Jy⟩:=q46.d (ps:=["self","hand","text"]);obtain⟨g47,G6⟩:=q47.d (ps:=["self","row"]);obtain⟨g48,Ey⟩:=q48.d (ps:=["rows","sheet"]) X G;obtain⟨g49,nX⟩:=q49.d (ps:=["self"]);obtain⟨g50,AY⟩:=q50.d (ps:=["self","deed","changes"]);obtain⟨g51,yS⟩:=q51.d (ps:=["self","deed","sheet","items"]);obtain⟨g52,BJ⟩:=q52.d (ps:=["self"]);obtain⟨g53,AZ⟩:=q53.d (ps:=["self","deed","items"]);obtain⟨g54,A0⟩:=q54.d (ps:=["self"]);obtain⟨g55,Ez⟩:=q55.d (ps:=["self"]);obtain⟨g56,sR⟩:=q56.d (ps:=["self","row"]);obtain⟨g57,BK⟩:=q57.d (ps:=["self","hand","text"]);obtain⟨g58,EA⟩:=q58.d (ps:=["self","sheet","place","row"]);obtain⟨g59,A1⟩:=q59.d (ps:=["self","sheet"]);obtain⟨g60,EB⟩:=q60.d (ps:=["self","sheet","start","stop"]);obtain⟨g61,A2⟩:=q61.d (ps:=["self","target","place","source","start","stop"]);obtain⟨g62,EC⟩:=q62.d (ps:=["self","sheet"]);obtain⟨g63,yT⟩:=q63.d (ps:=["self","target","place","source"]);obtain⟨g64,ED⟩:=q64.d (ps:=["self","sheet"]);obtain⟨g65,BL⟩:=q65.d (ps:=["self","sheet","start","stop","to"]);obtain⟨g66,yU⟩:=q66.d (ps:=["holes","start"]) X G;obtain⟨g67,Ub⟩:=q67.d (ps:=["holes","address"]) X G;obtain⟨g68,EE⟩:=q68.d (ps:=["self","address"]);obtain⟨g69,sS⟩:=q69.d (ps:=["self","address"]);obtain⟨g70,Jz⟩:=q70.d (ps:=["self","address"]);obtain⟨g71,yV⟩:=q71.d (ps:=["self","row","veil"]);obtain⟨g72,BN⟩:=q72.d (ps:=["self","sheet"]);obtain⟨g73,wc⟩:=q73.d (ps:=["self","sheet","moment"]);obtain⟨g74,yW⟩:=q74.d (ps:=["self","sheet","moment"]);obtain⟨g75,we⟩:=q75.d (ps:=["self","sheet","moment"]);obtain⟨g76,sU⟩:=q76.d (ps:=["self","sheet","moment"]);obtain⟨g77,uY⟩:=q77.d (ps:=["self","sheet","moment"]);obtain⟨g78,JA⟩:=q78.d (ps:=["_law_src_here","_law_few"]) X G;obtain⟨g79,JB⟩:=q79.d (ps:=["_law_src_here","_law_many"]) X G;obtain⟨g80,G7⟩:=q80.d (ps:=[]) X G;obtain⟨g81,JC⟩:=q81.d (ps:=["_law_world_here","_law_rows"]) X G;obtain⟨g82,JD⟩:=q82.d (ps:=["_law_rows","_law_sheet","_law_entries"]) X G;obtain⟨g83,G8⟩:=q83.d (ps:=["_law_row"]) X G;obtain⟨g84,JE⟩:=q84.d (ps:=["_law_rows","_law_sheet"]) X G;obtain⟨g85,BO⟩:=q85.d (ps:=["_law_rows","_law_sheet"]) X G;obtain⟨g86,EF⟩:=q86.d (ps:=["_law_rows","_law_entry"]) X G;obtain⟨g87,MT⟩:=q87.d (ps:=["_law_rows","_law_sheet","_law_place","_law_new"]) X G;obtain⟨g88,MU⟩:=q88.d (ps:=["_law_rows","_law_sheet","_law_start","_law_stop"]) X G;obtain⟨g89,BP⟩:=q89.d (ps:=["_law_rows","_law_sheet"]) X G;obtain⟨g90,EG⟩:=q90.d (ps:=["_law_numbers"]) X G;obtain⟨g91,A3⟩:=q91.d (ps:=["_law_entries"]) X G;obtain⟨g92,JF⟩:=q92.d (ps:=["_law_rows","_law_sheet"]) X G;obtain⟨g93,G9⟩:=q93.d (ps:=["_law_world_here","_law_deed_here"]) X G;obtain⟨g94,BQ⟩:=q94.d (ps:=["self","sheet","moment"]);obtain⟨g95,JG⟩:=q95.d (ps:=["_law_house","_law_deed_here"]) X G;obtain⟨g96,BR⟩:=q96.d (ps:=["_law_src_here","_law_world_here"]) X G;obtain⟨g97,BS⟩:=q97.d (ps:=["_law_src_here","_law_sheet","_law_room"]) X G;obtain⟨g98,JH⟩:=q98.d (ps:=["_law_src_here","_law_world_here"]) X G;obtain⟨g99,JI⟩:=q99.d (ps:=["_law_src_here","_law_world_here","_law_house"]) X G;obtain⟨afA,JJ⟩:=Y8.d (ps:=["_law_src_here","_law_world_here","_law_house"]) X G;obtain⟨afB,Hf⟩:=Y9.d (ps:=["_law_world_here","_law_house"]) X G;obtain⟨afC,Hg⟩:=Za.d (ps:=["_law_src_here","_law_world_here","_law_house"]) X G;obtain⟨afD,JK⟩:=Zb.d (ps:=["_law_world_here","_law_numbers"]) X G;obtain⟨afE,JL⟩:=Zc.d (ps:=["_law_house","_law_sheet","_law_moment"]) X G;obtain⟨afF,A4⟩:=Zd.d (ps:=["_law_world_here","_law_sheet","_law_moment"]) X G;obtain⟨afG,A5⟩:=Ze.d (ps:=["_law_src_here","_law_world_here","_law_house"]) X G;have T:Nms mg:=⟨mg_none_of X G z0,mg_none_of X G z1,mg_none_of X G z2,mg_none_of X G z3,mg_none_of X G z4,mg_none_of X G z5,mg_none_of X G z6,mg_none_of X G z7,mg_none_of X G z8,mg_none_of X G z9,mg_none_of X G z10,mg_none_of X G z11,mg_none_of X G z12,λf e=>(U8.m).symm.trans e ▸ mg_of X G vv,λf e=>(Qu.m).symm.trans e ▸ mg_of X G tF⟩;have G_:Gbs mg:=⟨⟨_,mg_of X G sZ⟩,⟨_,mg_of X G tw⟩,⟨_,mg_of X G Fc⟩⟩;have jH:=Fb.d X G;have lW:=Ci.d X G;have bZ:=J6.d X G qv.mt;have iU:=NV.d X G rM.mt;have uJ:=J7.d X G qu.mt;have CL:=NW.d X G rK.mt;have FT:=NY.d X G rL.mt;have aS:=Cf.d X G nX.mt;obtain⟨aZ,bg,D⟩:∃ aZ bg,Ds K mg aZ bg bI dJ gx gk Ce E8 aC az:=⟨nth [_,_,_,_,_,_,_,_,_,_,_,_,_,_,_,_,_,_,_,_,_,_,_,_,_,_,_,_,_,_,_,_,_,_,_,_,_,_,_,_,_,_,_,_,_,_,_,_,_,_,_,_,_,_,_,_,_,_,_,_,_,_,_,_,_,_,_,_,_,_,_,_,_,_,_,_,_,_,_,_,_,_,_,_,_,_,_,_,_,_,_,_,_,_,_,_,_,_,_,_,_,_,_,_,_,_,_] 0,nth [g0,g1,g2,g3,g4,g5,g6,g7,g8,g9,g10,g11,g12,g13,g14,g15,g16,g17,g18,g19,g20,g21,g22,g23,g24,g25,g26,g27,g28,g29,g30,g31,g32,g33,g34,g35,g36,g37,g38,g39,g40,g41,g42,g43,g44,g45,g46,g47,g48,g49,g50,g51,g52,g53,g54,g55,g56,g57,g58,g59,g60,g61,g62,g63,g64,g65,g66,g67,g68,g69,g70,g71,g72,g73,g74,g75,g76,g77,g78,g79,g80,g81,g82,g83,g84,g85,g86,g87,g88,g89,g90,g91,g92,g93,g94,g95,g96,g97,g98,g99,afA,afB,afC,afD,afE,afF,afG] g0,T,G_,aS,bZ,iU,uJ,CL,FT,j9,j4,uA,vq,oN,vt,Dt,Du,J8,xY,eZ,zE,Dv,J9,E9,jH,lW,MR,Jo,G1,Jp,XG,U8,BI,T9,abv,qu,Jq,Qt,XH,Er,abw,Es,AX,MS,Et,Qu,Qv,Eu,XJ,XN,Jr,Js,Ua,Jt,Ew,Ex,Ju,G2,Qw,qv,Jv,G3,G4,uX,sQ,xT,G5,Jw,rK,rL,rM,Jx,Jy,G6,Ey,nX,AY,yS,BJ,AZ,A0,Ez,sR,BK,EA,A1,EB,A2,EC,yT,ED,BL,yU,Ub,EE,sS,Jz,yV,BN,wc,yW,we,sU,uY,JA,JB,G7,JC,JD,G8,JE,BO,EF,MT,MU,BP,EG,A3,JF,G9,BQ,JG,BR,BS,JH,JI,JJ,Hf,Hg,JK,JL,A4,A5⟩;refine⟨fd,bF,λzt _ _=>?_⟩;have MV:bf P w K mg zt cM 1 _ _ ["_law_script"] (Uq K):=IM D;have bR:bf P w K mg zt cM 1 _ _ XQ uD:=fC D;have wg:bf P w K mg zt cM 3 _ _ Hw (C5 bI dJ gx gk):=sM D;have Hh:bf P w K mg zt cM 1 _ _ [] KU:=Ed D;have Hi:bf P w K mg zt cM 9 _ _ EN (AU bI dJ gx gk):=Eo D;have uW:bf P w K mg zt cM 46 _ _ EN (AR bI dJ gx gk):=GS D (GR D) (El D) (GP D) (GQ D);have uV:bf P w K mg zt cM 5 _ _ EN (xR bI dJ gx gk):=yu D;have rJ:bf P w K mg zt cM 8 _ _ ["_law_world_here","_law_house"] (uU bI dJ gx gk):=v8 D;have A6:bf P w K mg zt cM 47 _ _ EN (Qq bI dJ gx gk):=yR D uV rJ uW;have jQ:bf P w K mg zt (Fp P w) 5 _ _ QO (D9 bI dJ gx gk aC az):=rA D;have Hv:bf P w K mg zt cM 5 _ _ QO (KQ bI dJ gx gk):=gF D;have JM:bf P w K mg zt cM 6 _ _ QO (KR bI dJ gx gk):=kM D;have A7:bf P w K mg zt cM 7 _ _ Ys (GY bI dJ gx gk):=GZ D xn0 jQ;have rN:bf P w K mg zt cM 43 _ _ Yt Qp:=yP D;have qb:bf P w K mg zt cM 6 _ _ ["_law_found","_law_due"] (zJ 5):=nR D 5;refine eV F tR λcN A zn s H vs Q E hr h=>?_;obtain⟨a,ns,rfl,hS,h63,k⟩:=h;have hu:=gC hr;refine⟨_,(aj (aW (i:=1) tR.nd (aG D.dq0 MV hr (aa (pv 0) ah))) (aj (aW (i:=2) tR.nd (oM D.aS.X4 wg (hr.mono (by decide)) rfl D.aS.m D.Z8.b .nil bO)) (aj (aW (i:=3) tR.nd (Nr Hh (hr.mono (by decide)) rfl D.Si.m D.Si.F.kp D.Si.b .nil bO)) (aj (bK (iK (jZ (aG D.UD Hi hr (aa (pv 1) (aa (pv 3) (aa (pv 2) ah)))))) (au (aJ nI)) aX) (aj (d7 PassesOwn.never rfl (jq rfl D.T.jd (aa (aG D.vH bR hr (aa (pv 1) (aa ay ah))) ah)) (cu (i:=4) tR.nd) (aj (bK (iK (jZ (aG D.UG A6 hr (aa (pv 1) (aa (pv 3) (aa (pv 2) ah)))))) (au (aJ nI)) aX) (aj (aW (i:=5) tR.nd (bC cK (aG D.vH bR hr (aa (pv 1) (aa (bC cT (eS D.T.eE (gj hu (pv 3) br)) ay) ah))) ay)) (aj (aW (i:=6) tR.nd (bC cK (aG D.vH bR hr (aa (pv 1) (aa (bC cT (eS D.T.eE (gj hu (pv 3) br)) ay) ah))) ay)) (au (bK (iK (jZ (aG D.X7 qb hr (aa (aG D.OI A7 hr (aa (pv 2) (aa (pv 5) (aa (pv 6) ah)))) (aa (aG D.OJ rN hr (aa (pv 3) (aa (pv 5) (aa (pv 6) ah)))) ah))))) (au (aJ nI)) aX)))))) (aj (d7 PassesOwn.never rfl (jq rfl D.T.jd (aa ay ah)) (cu (i:=4) tR.nd) (aj (aW (i:=6) tR.nd (bC cK (aG D.vH bR hr (aa (pv 1) (aa (bC cT (eS D.T.eE (gj hu (pv 3) br)) ay) ah))) ay)) (au (d7 PassesOwn.never rfl (Cp rfl D.T.jd (aa (gw eK ay) (aa (bC cT (eS D.T.eE (gj hu (pv 3) br)) ay) ah))) (cu (i:=5) tR.nd) (au (bK (iK (jZ (aG D.X7 qb hr (aa (aG D.OI A7 hr (aa (pv 2) (aa (pv 5) (aa (pv 6) ah)))) (aa (aG D.OJ rN hr (aa (pv 3) (aa (pv 5) (aa (pv 6) ah)))) ah))))) (au (aJ nI)) aX)))))) (au (aJ nI)))))))),?_⟩;refine⟨Y,a,ns,rfl,hS,λl c H1 S1 s1 _ _=>?_⟩;intro x dx fx fdx _;refine⟨x,dx,rfl,af,λU H2 L2 fU k2=>⟨rfl,?_⟩⟩;have s2:=l5 fx fdx k2;have S2:=S1.same s2
 have fU':∀ a,U a->H1 a=none:=λa z=>by
  rcases fU a z with y|y
  ·rw[y];exact fx
  ·exact oW y
 refine⟨rfl,λW w H3 wo3 fW s3=>?_⟩
 have QM:sP bI dJ gx gk H3 l c w x U W [[]] [] [[]] [] [] [] 0 []:=by
  refine⟨S2.same s3,L2.same s3,rfl,wo3,λa z=>⟨λy=>?_,?_⟩,λa z=>?_⟩
  ·obtain⟨ob,e⟩:=L2.al z;rw[fW a y]at e;cases e
  ·have n:=S1.ne (fU' a z);exact⟨n.1.symm,n.2.symm⟩
  ·have n:=S2.ne (fW a z);exact⟨n.1.symm,n.2.symm⟩
 refine⟨Y,Y,Y,l,c,w,x,U,W,rfl,QM,λU4 W4 H4 n aK ln4 n2 n4 li ll4 QL _=>⟨true,rfl,eY ?_⟩⟩;have lb:=AS n;refine⟨Y,l,c,9,rfl,QL.src,E,E,λv H6 v0 v1 S6 k6=>⟨v,rfl,Q,Q,?_⟩⟩;refine j0 (lo:=0) (n:=v.toNat) (λj σ H=>∃ u4 u5 u6:Option V,σ=[some (.ref a),some (.ref l),some (.ref x),some (.ref w),u4,u5,u6]/\Qs bI dJ gx gk l c x w j H) ⟨none,none,none,rfl,U4,W4,v9 n,e0 n,ln4,aK,2,QL.mv (bY k6) S6,by rw[yx];lia,by rw[yx];lia,Q,Q,Q,Q,Ep ∅,MQ ∅⟩ ?_ ?_
 ·rintro j σ H6 hj ⟨u4,u5,u6,rfl,U,W,pe,rows,aF,aK,nW,St,r1,r2,b1,b2,b3,b4,gd,ga⟩;refine⟨Y,Y,Y,l,c,w,x,U,W,pe,rows,aF,aK,nW,rfl,St,r1,Q,Q,Q,Q,Q,gd,ga,λU W AA rows' dm AV PU H7 St r1' X3 c1 c2 c3 c4 gd ga=>⟨true,rfl,eY ?_⟩⟩;have i7:Qs bI dJ gx gk l c x w (j+1) H7:=⟨U,W,AA,rows',dm,AV,PU,St,Q,Q,Q,Q,Q,Q,gd,ga⟩;obtain⟨ik,jw,ps,vl,wu⟩:=id St.wo;obtain⟨xs,hxs,al⟩:=id wu.hr.at_;have lv:=bU.len al;have zr:=iD.k (k:=kR) wu.hw;rw[show cE (rB ik jw ps vl) kR=some (.ref jw) by kernel_rfl]at zr;refine⟨Y,Y,w,Y,zr,jw,Y,.inl (bL.of hxs),Z,l,c,Y,St.src,Q,Q,λs H8 p0 p1 S8 k8=>⟨Z,?_⟩⟩;have St8:=St.mv (bY k8) S8;obtain⟨ik,jw,ps,vl,wu⟩:=id St8.wo;obtain⟨PR,Ef,Yo⟩:=id wu.hp;have lpv:=bU.len Yo;have zp:=iD.k (k:=kP) wu.hw;rw[show cE (rB ik jw ps vl) kP=some (.ref ps) by kernel_rfl]at zp;refine⟨Y,Y,w,Y,zp,ps,Y,.inl (bL.of Ef),Z,l,c,Y,S8,Q,Q,λm H9 q0 q1 S9 k9=>⟨Z,?_⟩⟩;have U9:=St8.mv (bY k9) S9;have fs:lR (s-1):=lR.Ja ⟨Q,Q⟩;have fm:lR (m-1):=lR.Ja ⟨Q,Q⟩;refine⟨Y,Y,Y,U,x,AA,dm,AV,PU,P,rows',rfl,U9.TF,U9.lst,Q,Q,fs,fm,ga,λt HA tA sA=>?_⟩;refine⟨Y,Y,Y,W,w,AA,AV,P,rows',rfl,U9.wo.same sA,Q,Q,Q,ga,λt2 HB tB sB=>⟨P,rfl,(tA.same sB).eqv tB,λHC sC=>⟨true,rfl,eY ⟨K,rfl,?_⟩⟩⟩⟩;exact ((i7.mv (bY k8) S8).mv (bY k9) S9).same (sA.trans (sB.trans sC))
 rintro σ H6 ⟨u4,u5,u6,rfl,i6⟩;exists 4,rfl,Q,Q;refine j0 (lo:=0) (n:=(4:Int).toNat) (λj σ H=>∃ u4 u5 u6:Option V,σ=[some (.ref a),some (.ref l),some (.ref x),some (.ref w),u4,u5,u6]/\Qs bI dJ gx gk l c x w v.toNat H) ⟨K,rfl,i6⟩ ?_ (fun σ H7 h=>by obtain⟨_,_,_,rfl,_⟩:=h;exact k H7);rintro j σ H7 hj ⟨u4,u5,u6,rfl,i7⟩;obtain⟨U,W,pe,rows,aF,aK,nW,St,r1,r2,b1,b2,b3,b4,gd,ga⟩:=id i7;obtain⟨ik,jw,ps,vl,wu⟩:=id St.wo;obtain⟨PR,Ef,Yo⟩:=id wu.hp;have lpv:=bU.len Yo;have zp:=iD.k (k:=kP) wu.hw;rw[show cE (rB ik jw ps vl) kP=some (.ref ps) by kernel_rfl]at zp;refine⟨Y,Y,w,Y,zp,ps,Y,.inl (bL.of Ef),Z,l,c,Y,St.src,Q,Q,λm H9 q0 q1 S9 k9=>⟨Z,?_⟩⟩;have U9:=St.mv (bY k9) S9;have i9:=i7.mv (bY k9) S9;obtain⟨ik,jw,ps,vl,wu⟩:=id U9.wo;obtain⟨xs,hxs,al⟩:=id wu.hr.at_;have lv:=bU.len al;have zr:=iD.k (k:=kR) wu.hw;rw[show cE (rB ik jw ps vl) kR=some (.ref jw) by kernel_rfl]at zr;have fm:lR (m-1):=lR.Ja ⟨Q,Q⟩;exists Y,Y,w,Y,zr,jw,Y,.inl (bL.of hxs),Z,P,rfl;refine j0 (lo:=_) (n:=_) (λi σ H=>∃ u4 u5:Option V,σ=[some (.ref a),some (.ref l),some (.ref x),some (.ref w),u4,u5,some (.int (m-1))]/\aL H9 H) ⟨P,rfl,aL.refl _⟩ ?_ ?_
 ·rintro i σ HA hi ⟨u4,u5,rfl,sA⟩;refine⟨Y,Y,Y,U,x,pe,aF,aK,nW,P,rows,rfl,U9.TF.same sA,U9.lst,Q,Q,lR.Ja ⟨Q,Q⟩,fm,ga,λt HB tB sB=>?_⟩;exact⟨Y,Y,Y,W,w,pe,aK,P,rows,rfl,(U9.wo.same sA).same sB,Q,Q,Q,ga,λt2 HC tC sC=>⟨P,rfl,(tB.same sC).eqv tC,λHD sD=>⟨true,rfl,eY ⟨P,rfl,sA.trans (sB.trans (sC.trans sD))⟩⟩⟩⟩
 ·rintro σ HA ⟨u4,u5,rfl,sA⟩;exact⟨K,rfl,i9.same sA⟩
end
end gv
theorem PySem.Challenge.cw_inkroot_k39_whole_past_stays_holds : PySem.Challenge.rw_inkroot_k39_whole_past_stays.Holds :=
 InkHd.hd2 gv.all_mk
