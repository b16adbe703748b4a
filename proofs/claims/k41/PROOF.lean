import PyProof.Rows.All
import KE.KIntText
import KE.KTryMore
import KE.KDictLaws
import KE.KItem
import Open.Pieces
import KE.RegKTryMore
import OpenK.KOwn
import Lean
import PyProof.EqAt
import PyProof.EqKinds
import PyProof.TupleCall
import PySem.Challenge.RW_inkroot_k41_weights_bound
set_option Elab.async false
set_option linter.all false
set_option maxRecDepth 100000
set_option maxHeartbeats 4000000
abbrev iI:=List (List (List Int))
abbrev cK:=List (List Int)
abbrev jb:=List (List Nat)
abbrev iz:=List (Int × Nat)
abbrev G4:List PySem.Str:=["self"]
abbrev Tj:List PySem.Str:=["self","sheet"]
abbrev zl2:List PySem.Str:=["self","hand","text"]
abbrev zl3:List PySem.Str:=["_law_src_here","_law_base"]
abbrev zl4:List PySem.Str:=["_law_found","_law_due"]
abbrev zl5:List PySem.Str:=["row","start","stop"]
abbrev zl6:List PySem.Str:=["rows","sheet"]
abbrev zl7:List PySem.Str:=["_law_rows","_law_sheet","_law_entries"]
abbrev Xa:List PySem.Str:=["_law_rows","_law_sheet"]
abbrev zl9:List PySem.Str:=["_law_rows","_law_sheet","_law_place","_law_new"]
abbrev XM:List PySem.Str:=["_law_src_here","_law_world_here"]
abbrev XN:List PySem.Str:=["_law_house","_law_deed","_law_any_one"]
abbrev XO:List PySem.Str:=["_law_src_here","_law_world_here","_law_house"]
abbrev XQ:List PySem.Str:=["_law_world_here","_law_house","_law_sheet"]
abbrev bW:=@List.length_map.{0,0}
abbrev dM:=@List.length_append.{0}
abbrev gC:=@List.map_append.{0,0}
abbrev fK:=@Nat.le_refl
abbrev nM:=@List.getElem?_eq_getElem.{0}
abbrev pI:=@PySem.F.plainAttrs_list
abbrev m6:=@List.mem_of_getElem?.{0}
abbrev kU:=@List.getElem?_map.{0,0}
abbrev jS:=@List.length_cons.{0}
abbrev nO:=@List.mem_cons_of_mem.{0}
abbrev fL:=@Bool.false_ne_true
abbrev gF:=@List.length_singleton.{0}
abbrev jA:=@PySem.F.slot_list_append
abbrev jB:=@PySem.F.type_list_append
abbrev gG:=@List.size_toArray.{0}
abbrev gx:=@List.length_take.{0}
abbrev gy:=@List.take_length.{0}
abbrev ki:=@List.concat_eq_append.{0}
abbrev iS:=@List.append_nil.{0}
abbrev mE:=@List.eq_nil_or_concat.{0}
abbrev nP:=@List.mem_append_right.{0}
abbrev m7:=@List.getLast?_concat.{0}
abbrev iC:=@Nat.le_of_lt
abbrev jh:=@List.map_cons.{0,0}
abbrev kj:=@List.foldl_cons.{0,0}
abbrev mF:=@List.flatMap_cons.{0,0}
abbrev jf:=@Nat.le_trans
abbrev pV:=@List.mem_append_left.{0}
abbrev m8:=@List.append_assoc.{0}
abbrev jC:=@Nat.ne_of_lt
abbrev xU:=@PyProof.Rows.boot_isinstance
abbrev sN:=@PyProof.Rows.boot_list
abbrev pW:=@Nat.lt_of_lt_of_le
abbrev m9:=@List.length_nil.{0}
abbrev sO:=@Int.toNat_natCast
abbrev uv:=@List.mem_cons_self.{0}
abbrev yM:=@List.take_of_length_le.{0}
abbrev rL:=@Option.some.inj.{0}
abbrev sP:=@List.length_drop.{0}
abbrev vL:=@PySem.W.mg_none_of
noncomputable section
namespace PySem.W.Fast
local macro_rules |`(universe $i*)=>do return Lean.mkNullNode (←i.mapM fun x=>`(theorem $(Lean.mkIdent (.mkSimple s!"tw{((x.getId.toString.drop 1).foldl (fun n c=>n*62+(c.toNat-(if c≤'9' then 48 else if c≤'Z' then 55 else 61))) 0)}")):ident :True:=⟨⟩))
universe a4PSsY6NYLJK aBGLWabp5DON a2wj7Y4qupDF a4pQCUYZJ9KS a63k2FSzoO2q a2AbXVqv1Nzr akbepHvnPS8 a8ey2VYlsr0k a91gpXZUWaxW a8ikPzutnRFN aC4xSuDAOOUD a9AR2o9lXZvq a8bRiijqNq12 aJwARti69NcD aYRtnTkJv7k aGTegdjlm3s5 a5mxzexentfK a2tLNcnfTZ1o aCsTgs8tF1Ko aAqeM7CZi1fo aNgwsqyXxiu aDffJyU8uO1Q aJpo30A6OFFD aDQOeXukytCO asqwqwwNGZ5 a9SoFoySH6xG aXXduUMgrVw a4BNbRPsx5rd aDwuMXujLyzl a4Zz24AFm7gu aD0VecUml86z aBkmY4BepQub a3rIOZh79F9G aAOd2yAK0VEi a8sxShPToRhE acxzyCEASIC a5ETZMHT6tsQ aGkUl6HqdCcb aGdDMTDY7z9x a9CavBrW4OB1 a3Z7fw6yx983 aFvKIusezlnX aLEvSU6h4CvX aH8npeE9Ze0T a3V1A4e6QRou a5jQw5FaHPxv aG5lMnzy57s4 aCmQAx8hoMxG aBMGHOW0qQE a6Eyjl276i4O aDxZiVSUVBKS aL5vGquVUtcJ aILERtEdFlHv aKZGxGx05BfU a5DAOZDYAgtd aIef4X1JVhxN a8tqLiZknYJk a3jyKXHBqMOC aAEu5Gnrv7ke aKyCHH5LHOBI a3Qkruwu4nda a7U8GbSpo4L2 aDBcxH6RHCJu a3LZGPmlXZRk aBUzJA3UtdNz a8eDE2s5dvP9 aHJk5XniLSac aElAj9EiIxyS a4Lkhoxkr1Pz aGHnajh9lrQP a3ARUMI2Rmlo a92rwFNmV94f aDuSvvFRolqx a8t0qdFHQTq aCKFeQmySaDo aF1jqHK3fpRZ a4XwhbVC9NmR a9lb7hGNOoGC ay1d9JXWIo aFvvZ2IUc7op aIa841Icn0bb aAMsvAeFglpO a9qeFHLorRwf aFU1VuXdnKYh a6ShCzx189P0 aGHPK5lDyEr5 a4xmwC7SJd8n aJofKiJn5e1r aAdPXKC27gPp a3Lqs7NCkzLe aFxlQT8CtmAx a2y1RKwFCmF7 aKoAgqKTnmtN a6ZVzISOvtP9 a8CwuGQI5tUj a5Vj0bjePjY5 aIbgK5SLnFpJ a5PV7zrrcKdI aCGisY8zGEOt a6Hy8CmnCZaJ aGIIPyRwhxoy a1WeLDIVpY3H a2dfAvId1LpK aK0kYzn1rwLI aGD9L5e0alK7 a1ERmZ48I468 a5k8t4byY4cY aDjj2oQ1ZTyx aYs0Zm1iffD a2l2lQdy4BBm aBbNUSq56xLy a9p8lDlkHXrC aLoLafo8pXdZ aL3J4uz7rnR8 aJ6OZMaxpm2l aGAO4eJ7cJk7 aIF5bwlAXmDC a8BCFxTz8tJk aKVZKsjRrLyx a2bWlNiFceex aKmgGT53GsBK a9EYh2KKGbPh a2NznJjii74I a33CZTwrGlvq a4CRlM1dBadD a4NpGoHyPBFa aEXwEVt2GwzO a3adPDYf2r7s aB6UyRIA3mHE amuiY5w69LL a4jEm6uA4RMg a9mv1a1zYnAi a9aKHvEsTTQL aE93LlVy5Xgo a4DuBg2OeEn aCTp048oaLFI aQ7K6LdRtd7 a4tupQY3vhMJ a3NRjlVjFwqL aLk6Hl8DrfjX aD64uC2nXGmm a40amcquNYw4 aFYqBSBkWaq2 a6DJInVR0FxA a2HvNw5TYd4d aGcYdscU8JjQ a31lxbgZN7cI aEXMgEwd8aAp aAdeIC6eC24A a6RGujdYfuM4 aEqsaMUiWenB a22Xx6kywMGu aEUikIKNUzY1 aFtmdx153YMZ aAEfazno6RXA a5PVlqcqJmHh aEuBNK5WnzWy a9x2HM11Fd7F aHdA4vAwbwgw aAx9xM7FVI3i a5umyDe4H2PP aIh18mfRt4ii aFbuyJDcbEcP a1Ap2ZNBbFn5 a6e54C2MjGAa a1pGm0sUljVm a6huyw018tsz a4XLiZqKXXrr a7pAbrcYtNu4 a4mEYi0eH3Vx a4b55uXGk6nl a5ucX5UAqNBU aDRzbSUdWVRg aCVtiz12yd24 aLBRciBfXbOC aHynbJ5FJLE2 a1igRIrJXPwU aHqxqwSBCVdu a12fHCsJYd8Y a4aRXCm37SKX aWzYpx1AMy0 a6NQDfKNakgG aADW0gIMUbKL aItdyNXuNnOq a5dlY3UFI4Js aHTKteIvWXkf aG7WFg7x5Uco aEQfKcGMJJb9 a2aUe87U4EnI aEEmZbyCUyl2 aEkWx5qDPlZC a40hC9T843DD aKwDceVvtDi9 aJYnb9Bwwrne a7xzA7mGfKvx aBuuIXzPHvDn aKipD8hPvswb a6fqwa2TMhGs a4Iyf4qCW5sb a4uvoooz1MAA awS7sD2IyPO aKfz6UflVkCj aINjYbx01vpi aEXCCSZDe3Tm aFPJER1r5gg5 a32GEYmksfow aL0cGOz7armX a1g4Wov6f4if a5qUB1Xlg5yf a4xM5oIPPfUQ a6uPLdk5tVMu aAGTWXe7jXAJ aDVhBYhgaTYs aA0MegV7LFrp aCklfw4Hooia aEm0xCGkiAbk a6WUaCmphFRy aLE8yd1s1oxR aEZehX6BdRdb a3nh4U4PfDWp aEqhAYZz7OHY aLl0SY86V9Ou a63IUjRrBkKg aJfMYKKo2GbM aDGCKLdQyODL aKyzKRzEE582 a2vgayNpzLCV aGQcVoFdQal6 aByViiyM5eSZ a5di9mCxjyco aAoFcX3acs83 a9OOjtFnqneZ a3QXO0WkMOcE a23wf7H0HV4q a8kWqq83VoAx a7G26kkVsFH1 a6D2Ykz4EiGq aBHJmNOVvas8 a6INjCgWuRF9 aIwEsiHRGbu5 a1LTmf2rQC0O aHbptQ0XDtBx a686T4maKhYH aKT635sBAabl a2f3EAQpXCEq a2aMbBqv53b0 a1JuPzyd36R9 aBFCtdILqdaU aGHRa3onv2NL a80ctuWpqpi aE1eu8tTudPn a9nSxJhxbaXY aFwZ7mvSNK3J a46uifyogo4I a6skXOHokrzd aEPpzWggtRGn a583KEfWr3q5 a1y994YAu0u5 a5sKGflxAs8z aG40Soif2cDU aAdnd3cxFiQq a16b7vkw9cpb a7IVTbpnDSms aKTITDHiCTJq a6uGMM6Snkky a8lfkE83yRxU a1TjOEtVjhYk aFRYdbPZWcV6 aLVdSyv2Rxbj a5BrxYvhubGh a9iXZyNp1qsi aJ4aQ9fqrAIW a9kGOHA0OdIW aDTghXT20TN4 aAeYBp2lfqh5 aH5AZjEeLOod aH819QMey2hT aK9apBPIPafb aIxElzZBFcRD aEofxiq6uiMD a9TGe0Lg8ZwC a1I1Jhatfwtg aDzpXDeineFa aJMfGHG525bI a5B8bCy9wNvc aGJidNR4alZq aDCtH8Fch6qM aJAZF1F9PwQE a3yXBUsfp6No a9nr1ODPGpF2 a1hx6onAgdAR aHa5XovBYkmM aIVk4RMP0EKF a6XP8VzNxJW a8wnrDJkYKCV a3oTMRY4NIrk a49wcHIP3Zaf a6bO93FpFLSq a9q38j7zjPrZ aAuORFnYAeeS a4n5amljJnuM a1Fsja0hdBJI aIKrI5HkcSS4 a7OnJeXDe1fE aFAg9vFKHgHL aCMnHdvw9Gfd a4WBlrXLPT0w aELdkyeinmtT a6JrTWacMsYX aC5PI9HiJTo7 aEcIhYqss2Z8 aA1oHsOoHrbu a8YEr1KUDHpH a9O1ro8xsw66 aGbbDlXjMV96 a62umdKyRB4e aFnmwK6qG47r aIC6D0DuLQR2 a2EGRKVhpwr5 aCDzR7GYxDW5 a9NuFu8sI3oZ aFvC9iofbVyk a8xXchj2TOZF a7crrBB4Hdhk aBkZXc0llms8 aLO5lyZWHpPl aL0mbyb9644p aJ9mAHA1GnAm aIho7i86pCuJ aIeHRiAElic7 a4aoIamZZ3lQ a2XyKhPO41BI aLTRpHHdCIxd a8nX0ivTnM5Z aEmyKhpBjPFI aFTF1cdRc95G aGsGzO8FsNlb aDYlOvNvbWCp aBX2vYZyjUI8 a6GhX77aQr4G a5S9BLgZLtJW aLPX6C1lLiMN aHntroYcSrVT a8afvioiNUdj a3vDi25AhiMC a7Q2grX6Amia a2FVkjzf0MQo a9frtsc3sFmW a1OwhDMg3pzs a1wkJ8ytU36h a5BNCRrLFFEm aFoK0JVjYwkr a1qiTvtmQDYs aARfa7zGZz5I a2pQc2iHNeKN aCUs6qMQOD58 aHwlxNwN9rgM a13On7xEdwOc a1W0irwmla6e aDMk2XgyjCTJ aGWc4GrUSqon a8Iys3gKrMA3 a3eNuHevYJXO a5kemN4WoYPy a2GCGlSGnKwg a1ZF7PO6WOQz aAaYwemuUfEL aBhpY9pVEIbo a6S8q73xW9Cd a6vBXg4dmu5v a3lYKRPeKhzI a1oP3qUt6AOY a2gRSxAGGA8V aHSrMe4NQFQr aCT5EY81Xr1e aLUaJ6DwhxWF aGB0lOjXW61p aEQiXGuJfMaR aBgvQyU3aBvV a23mPnjmGph3 a28UYyuiarld aHyS20j9d4Zp a550VxVDXg9g aFK9oTThFW0b aL1ftfChsClh a4Yz224BVeBV aAQGwBFty9i6 a5c6cMiQEM9X a68cTXI5iuI7 a2kPYkLw866B a7HdwYiPPXjn aPqgNZh3ttn a3sy0MNCLNZG a2buEyajwvpq aHuwyHEJwgEs axCycconcAn a34K7iVb1vxk aKzQb3DmC6NW a5M2b4GDBOZI aIO36R13PWE6 a4Ymigbv89II aBf3XLiKrVDl a24vegon6xaQ aLfN4TpgtPqr aJE1baNHeH6V a8Jflrr1bzI9 a55nQ4GieP9T a4Ae6y57S9lz aKuYF033VCmJ aFqWxkqlUuGX a66gyJIhRiZo aAn7lKRm2a8r a4yEzQbeMQj7 aCPkrHvj2HYR aBCBYpCk8YC1 aKPtDcvaFo31 a4twk7zvrLjH a7IwZooM0WOW a4Lu1jpTio93 aALzqLTf2AMo aGFFgvGrZ26v aHoHVWRggeiY a6camg3RCuef aArHdEudAzya aCNgIfMdRVUs a7HvFPMOya6n a6ucluhOvPQS aHwiG2JwpnIB aGAQYynRSotZ aCpti72zF3nb aIqS1xQR610J aCJIKA4vDsJS aHPgFn80EnCx aK0LuY8NKrT5 aLVkWFKiPk0B a1Ej8Y0jkToq aKLcklfFGBc1 a4MMIcfgi637 aFUkBkCjrHPe aJ0i85uMNqV2 aBjf5abp8PM2 aERXLmd6U8Qs aIwFucU4Def a5z1hDt2bQa0 aB8nglq79N8G a6un8Im9B3Rz a7NjLW7L4mRU a1r0Ddysmjj3 a8UtdI3zTHYx aI3D4xtZaMmn aDr4OR9kfuG1 aFMHzxti2ha1 aD8vogQRN7nz a8d2RB7ysY25 aGYqneekO9If a3YIlLJCZuwx a1IMC1YdPYE0 aD2aafiZsugW a9K6QBjQTBMS aKAsaJGJhE85 a7WZ3v2vIQCX a9kxgdDlLRmC a2esEZSvuxpx aFx2uY9kOL69 a773sphpJ6Nz a71zRDNoFuFY a1M2KU0chVxR a8IPuzhBE66T aBsGApQVDeup a8RGQmSz64tX aIXHeS9L41eJ a4Sxb1k9DLkK aDZU99mHt5gd aGSrm7tZqAGs aD9agSKGPPPu aL5uWPoyE8um a7SnqEYsY4Gk aCOIlamXggWq aLYvCPDMfa3J aHZhb2AsxW85 a8awods2bRmG a9Mvx1H3zWTr aKsAlWgW3uR a2WlO98cYOwT aH8iI7K3W1t3 aLuQcxKhBoM3 aHe1x3iJ2Muj a2FqZWxsB31Y a6YanEzBDLbH aKhjH21PZwtM aFwotmPtmoSp a1hwqwzFeFRG a8cDzCzza2NS aJGBCjGgSRtN a58e5ee4NJhM a95SsV4ZoDAh aEws31sDaTl5 a2EUG6cdLWF3 aIbOwnVAOHzk aGU9ZClrIUeD a1ov0pTUHBH aBmSiKDsYPtc a8PGVeU5KyqC aBGP33h1TSPp aCL4Q9EO2m8E a1KAixNOIXZj a3Zp3zKFN4J9 aCI2TpDauY6W a7JnfQvPAJfI aLxzyg1vLpr4 a2X0tQAr9BBB a6tHSJkJvHNJ aCNce4arZaZz apY4nEJzHhq aGGvDtDe9SR6 a6scRT3zGQ40 aEHzMyTHeAV4 aIPpV79hxcRC aCZVgNiMNZky a4PXrBZuiPHi a9Q1an4JcxeA aK1EPUdNQPtH aAoKJOda18Pm aIy7Yuxy6vmO aLXKyHvURdU7 aBOkjWDrar9E a1sjMwLFsyGY a53KbDAj3sD5 aJtb8vAuGL8l a7Gs9TW2oexO aHa8AqmOXrh5 aIJfRhVasQYe a4g1SjGq9DVP aEAnWOzckgQO aKm4lwb9qKWS aAozD55cr85B a4pY7G1YnGNL aJCrAtsyW27y a43kEX1XOQXV aJGLJ8i9VlLK aLjtYRNbTwfs aEvGFV5wRYZS a3OagIuiCWZg aDlsV0kgIEJt a99QsVO64Ko aIFlzLucTSkv aDkIuPHOLC6R aLr9qPp2FJPl aC74L6zuE5Uf aEsHGTY28C78 a2oqbK6kQ2Hk aHTcF9NRop6e aHgYXexcqJx4 a7Hk9tnA0C3z a7AiMcYR3LNe aCCRkC15qYBG aAYMliTNezcw aISl8erJlQom aLVAqMdUXR2L aIsH0Zny44b0 aGg59PR5SxPR aJlP3VAgnLKd a81Pdt6Ofspv aDioh2ZxsGea a4Xoz3d9Qy2b aDTmhTRgnAp4 aJY6RVTNzNVy aE6ZHm6Vjpns a3fWMfIVhySM aHhYjWFvcG1b aCWOE0iUalcx a8Z6EVptK7fJ aKFc8v3QjggZ aJx6dl8P0BZ6 aLhhbqIBxo9Y aDtsJ7g21nwk a3R1vlpzV47J a6fzBvspbaaO aBvjOnvOmlob a9jEUFIkwnPu a4CrsZOqG78s aBN6zKlGefgT a3ALkaoLPTfT a9DykHlLQrEO a49klNPftfPQ aBFDNlyzAqyt aHKKtvkptFJn apDOztURc18 a3fu778jyL7x aIX20f9BrofN a6N1yLcVaEM3 a9yhmQ8IWyh a8PzkWpWUjUK aGndU9lwTEAB aDFppJcYyR3y aCUVDnSILfK9 a9FKEmm2BzsA aCI2himqiGxp aBIJrYVcR3lh aBLB6hqcDCxz aCnc6ZR1sJJb a1mHgKrS0v3h aRvkCgqWWvT aACnnwgurvzC aET7fWV0ddLs a7hZdhY9OKSe aFL9LyPWkaAQ aKw9KoJbbrpq aCp8QPhcnN5G aDY1bKEEHMMq a1nYE1BVrKV7 a9GemMR6rLxm a99pEXdMI8lJ a21YBRBY4d49 aK2TZlmn22Dr aHgQ4AXOfjIe a29WOcQQLN97 aKn4wRY0SfaB a5ckhG0RmqeP aALNJFekF8AX a3ttjEhjq5ST aE7lwIBBZNXR aLWe2mnAVHPq aFNIqzfdAEjO aFcrqx7krG4k aKtFh1i0ulwV a1lV4tmTXF9 a127dzHUoGa9 a9F3Xk2qpMnc a3dDGCF2wWdj aHUuBdIuN4h6 a9NC1VSX3nNO aEAmGq2KvJMO a7tji9M6yvQ0 aJI03Yonl0NX aAczwBcHWle1 aKoU5HhN6j3p a3pPMbGNls4h aIGtysITzjnm a9XjX4umxcJI a7LXDKHXf1q7 a1qGKJsBUgg8 aAZPpxPZjx3P aGu00meF55gl aB0hCKKfbqh1 a1LLYWbGuJyQ a8FLYmpTsle6 aDnnXetYAnCb aIMEgTFfo9a6 a51AB3jOajJT a5duS8FQxO23 a31T7qlzOeru aDVjUpJRbrSX a6t7b3wQM2cU a1yRvcA0kxrr aICPgIJ63EHy aERQmuE4VJtz aFqCEQtlA6aS aK2aGV7ANUBg aAFE5NSqv01P a8skekS3d43T a18R5frhXeDD aDKwCzUxjn4B aJjplAxnirsy aDbU3CME1sIR aLYVv0lPpqrs aItv8jB43uso aKsnSZuyhZHV aByP7W4pRAyq aDdVETFc0k5i a4LwOksZXBZ5 aEA35UFhsJ0U aLP3ZtQzaRkP aJWumx8WaaDz a9hEgMGLUPVJ aBzr1J6T3umX a29woP5IX3lC aDtgJix7zZph ariagKSpEQU a7jZtZ36CP0H a7k5hLvGyWTG aIqigsjm0lyS aGCcgTBtfRZQ aA1U8vbkZfDf a5PtK9snjwTb aCIncDzLiULZ aJnNuXmfOdhg aFLGEL5SkOEg a5haZK76ZBMi a3rncLXqodbs aJb7gmzb7XOi a3wfDt6ob3e4 aUS8Y4JXBnt aLLOozGD99qI aBjT2gwNX1FQ aKwa6U3Ninen aFrXt0evmLyu aIHdoQrwwRk3 aFePW0yn4kvl a3ERBXf8PW4Z a7Q0jfWwgsFk aHenaHm63lYD aKM1tpS6y375 aEJUdLMf16OQ a1BMLclDkhRB aJrLII0EO0rx aBdk7RVPcTgd aUMNi0ijqHT a9ZwrrfQhIwU a1G40E87CVRI a1H6SE2Y8pVZ aKDynMRmhT2D a6szaL0h7oJF a4nrhiNmF9rh aO0UzbCf2FN aJN5HjUYnRmo aGOD5VzPXR5e aH46p4A34GS ascAdPjxRCE a9XXNTWLPGy1 aGyEhMdMAb0K aHOLoHQXnUeg aEULPKD9LyFF aC2CoCTWolSg ahy8yhV2OAu aQFKd5qa0QP aHPxzwYj7OPd aL06CN3kOov5 a2fQjznpVsC1 aI90jju8aCnd aHGT0tINMqUQ aJ6CLE54kCCD a8xX2P3EcLDE aDKctpMHxwLL aJSSoYvafcuZ aHzLoqfyPJrh aK0cpsXqaaaB a2MkMq8UgLNF aKJAiCMaSlb6 aHTEO1AagGR8 a3MdR226Zc7e a7HhOivc3VJz aGfoINxblGin aEa9ctutxE8x aF9JnoCUGNP1 a2H7uqphwC6B aKyavzVADLZJ aH1rajwBU4A8 a9smiU5jdgLX aL7QqddCs0Sk a5SdobDYhQje aJQb8EcM9Q1W aEWhupsfMfgs a9OUI51GCD98 a9cNacUW5P9o a9PAdNYCi6bz a3aRgXxSy6KO a2spHNqwhcCQ a5oZIznv1beW aJqBfXRUQIXL a1RQg9JmOhXM aC3kvRqZEMaq aDTeIJBMHRUC aKlCzAkqepTT a3iooImdsn5W a2c66mbNZxtC aFjEuV6F6HA8 aF38fSlGExJt a4wCAQQx4mbe a54ycONYsqfq a2y0Irp1X2Xf a7GBNxWZ01ir aH8wkRffeAx2 aGn9XBtJBo8j aBwcAdfCNva3 a5D8aha9fa0m a48X4DfEyYlq aHcpxDdQTq1f a5sww2HCTtGn aEPKUkHR16cz aEzct2Q18Kef a9XFeGOEcdRt aFUcWAldl6gG
end PySem.W.Fast
end
namespace InkHd
open PySem PySem.W PyProof.Rows
def fr(o:Obj):=match o.data with|.freed=>none|_=>some o
noncomputable def pk(s:List Obj):Nat→List Nat→List (Option Obj):=s.rec (fun _ _=>[]) fun o _ h i l=>l.rec [] fun a r _=>(i.beq a).rec (h (i+1) l) (fr o::h (i+1) r)
theorem ps:∀(s:List Obj)(i:Nat)(K:Frag),pk s i (K.map (·.1))=K.map (some ·.2)→∀ a b,K.lookup a=some b→∃ n u,a=i+n∧s[n]?=some u∧fr u=some b
|_,_,[],_,_,_=>nofun
|[],_,_::_,e,_,_=>nomatch (id e:[]=_::_)
|o::s,i,(c,d)::K,e,a,b=>by
 have f:((i.beq c).rec (pk s (i+1) (((c,d)::K).map (·.1))) (fr o::pk s (i+1) (K.map (·.1))):List _)=((c,d)::K).map (some ·.2):=e
 have g:(∃ n u,a=i+1+n∧s[n]?=some u∧fr u=some b)→∃ n u,a=i+n∧(o::s)[n]?=some u∧fr u=some b:=fun⟨n,u,h,k⟩=>⟨n+1,u,by rw[h,Nat.add_assoc,Nat.add_comm 1],k⟩
 cases z:i.beq c with
 |false=>rw[z] at f;exact g∘ps s _ _ f a b
 |true=>
  rw[z] at f;injection (id f:fr o::_=some d::_) with p q;intro h;rw[List.lookup_cons] at h;split at h
  next t=>cases h;exact⟨0,o,(eq_of_beq t).trans (Nat.eq_of_beq_eq_true z).symm,rfl,p⟩
  next=>exact g (ps s _ K q a b h)
noncomputable def kF(K:Params→Frag)(l:List Addr)(e:∀P,l=(K P).map (·.1)):Hook where
 α:=List (Option Obj)
 obs s:=pk s.heap.objs.toList 0 l
 val w:=(K w.params).map (some ·.2)
 says:=InK K
 of w s h a o k:=by
  obtain⟨n,⟨_,_,d,_⟩,p,q,r⟩:=ps _ 0 _ (e w.params▸h) a o k
  rw[p,Nat.zero_add];unfold Heap.get?;rw[←Array.getElem?_toList,q];cases d<;>first|exact r|cases r
 keeps:=(kHook K l e).keeps
theorem kIn_of{K:Params→Frag}{e:∀P,l=(K P).map (·.1)}(Y:(kF K l e).says w h):(K w.params).In h:=Y
local macro_rules |`(tactic|o_head ($_:ident $K $l $e))=>`(tactic|o_head (kF $K $l $e : Hook))
set_option maxRecDepth 100000 in
set_option maxHeartbeats 0 in
open_top hd_k41 for PySem.Challenge.rw_inkroot_k41_weights_bound
end InkHd
noncomputable section
local macro_rules |`(def $d:declId $s:optDeclSig $v:declVal)=>if v.raw[1].isOfKind ``Lean.Parser.Term.byTactic then`(theorem $d:declId $(⟨Lean.mkNode ``Lean.Parser.Command.declSig #[s.raw[0],s.raw[1][0]]⟩):declSig $v:declVal)else`(noncomputable def $d:declId $s:optDeclSig $v:declVal)
local macro_rules |`(abbrev $d:declId $s:optDeclSig $v:declVal)=>`(noncomputable abbrev $d:declId $s:optDeclSig $v:declVal)
open PySem
open PyProof
open PySem.W (InstAt callWith_K callWith_K0 cellsFrom_some codeIn emptyDict findIn fnOf handedIn hasDictIn instObj isFn kIn_of keepIn kia_one kitOne kitx_dict kitx_list lookIn makesIn methodCall_KW methodObj mg_of mroIn nsIn plainGet plainGet_of plainOver takerIn typeIn)
local macro_rules
|`(⟨$a,*⟩)=>do
 let mut z:=#[]
 let mut c:=false
 for x in a.getElems do
  match x.raw.getId with
  |`Z=>c:=true;z:=z++#[<-`(_),<-`(_),<-`(rfl),<-`(rfl)]
  |`Y=>c:=true;z:=z++#[<-`(_),<-`(rfl)]
  |`V=>c:=true;z:=z++#[<-`(rfl),<-`(rfl)]
  |`K=>c:=true;z:=z++#[<-`(_),<-`(_),<-`(_)]
  |`Q=>c:=true;z:=z++#[<-`(_),<-`(_)]
  |`E=>c:=true;z:=z++#[<-`(by lia)]
  |_=>z:=z.push x
 if c then`(⟨$z,*⟩)else Lean.Macro.throwUnsupported
local macro_rules|`(tactic|exists $a,*)=>`(tactic|refine ⟨$a,*, ?_⟩)
set_option hygiene false in
local macro_rules|`(‹($a,$i,$p,$s)›)=>`(∀D:Ds K mg aY bq C CS CW CB CT CD aA,aX P w K mg zt cO $a (aY $i) (bq $i) $p $s)
set_option hygiene false in
local macro_rules|`(class inductive $n:declId $b:bracketedBinder* $c:ctor*)=>`(inductive $n $b* (vs:List V)(H:Hp)(Q:VK)(E:XK):Prop $c:ctor*)
set_option hygiene false in
local macro_rules|`(tactic|specialize $e)=>`(tactic|refine $e λcH A zn s H vs Q E hr h=>?_)
local macro_rules|`(nofun)=>`(by decide +kernel)
local macro_rules|`(∅)=>`(by lia)
local macro_rules|`(↑$x)=>`(($x).length)
local macro_rules|`(⇑$x)=>`(some $x)
local macro_rules|`(↥$x)=>`(.ref $x)
local macro_rules|`(tactic|let $p:term:=$e)=>do
 let rec go:Nat->Lean.Term->Lean.MacroM (Lean.TSyntax `rcasesPat)
  |0,_=>Lean.Macro.throwUnsupported
  |n+1,t=>do match t with
   |`(⟨$a,*⟩)=>
    let b←a.getElems.mapM fun x=>do`(Lean.Parser.Tactic.rcasesPatLo|$(←go n x):rcasesPat)
    `(rcasesPat|⟨$b,*⟩)
   |`(_)=>`(rcasesPat|_)
   |_=>`(rcasesPat|$(⟨t.raw⟩):ident)
 `(tactic|obtain $(←go 9 p):rcasesPat:=$e)
namespace L2
open Spec Rows
abbrev eV:=Sum Int Str
def yN:eV->Value->Bool
 | .inl k,v=>Value.isInt k v
 | .inr x,v=>Value.isStrOf x v
def ab0(w:World):eV->Int
 | .inl k=>hashInt k
 | .inr x=>hashStr w x
theorem eO:∀ {k:eV} {v:Value},yN k v=true->(∃ i t,k=Sum.inl i/\v=Value.int i t)\/(∃ x t,k=Sum.inr x/\v=Value.str x t)
 | .inl i,v,h=>by
  let⟨t,e⟩:=Value.isInt_shape (k:=i) (v:=v) h;exact .inl ⟨i,t,rfl,e⟩
 | .inr x,v,h=>by
  let⟨t,e⟩:=Value.isStrOf_shape (x:=x) (v:=v) h;exact .inr ⟨x,t,rfl,e⟩
def KN(i:Int)(t:Tok):yN (.inl i) (.int i t)=true:=by simp[yN,Value.isInt]
def KO(x:Str)(t:Tok):yN (.inr x) (.str x t)=true:=by simp[yN,Value.isStrOf]
def Uq(a b:Int):decide ((Sum.inl a:eV)=Sum.inl b)=(a == b):=by
 by_cases e:a=b
 ·subst e;simp
 ·have h:¬ (Sum.inl a:eV)=Sum.inl b:=λq=>e (Sum.inl.inj q);rw[decide_eq_false h];exact (beq_eq_false_iff_ne.mpr e).symm
def Ur(a b:Str):decide ((Sum.inr a:eV)=Sum.inr b)=decide (a=b):=by
 by_cases e:a=b
 ·subst e;simp
 ·have h:¬ (Sum.inr a:eV)=Sum.inr b:=λq=>e (Sum.inr.inj q);rw[decide_eq_false h,decide_eq_false e]
theorem Us(a:Int)(b:Str):decide ((Sum.inl a:eV)=Sum.inr b)=false:=decide_eq_false (λq=>nomatch q)
theorem Ut(a:Str)(b:Int):decide ((Sum.inr a:eV)=Sum.inl b)=false:=decide_eq_false (λq=>nomatch q)
def fO(prog:Program)(w:World):PySem.KeyKind prog w eV where
 is:=yN
 hash:=ab0 w
 inj:=λv a b ha hb=>by
  rcases eO ha with ⟨i,t,rfl,rfl⟩|⟨x,t,rfl,rfl⟩
  ·rcases eO hb with ⟨j,u,rfl,e⟩|⟨y,u,rfl,e⟩
   ·injection e with e1 _;rw[e1]
   ·exact nomatch e
  ·rcases eO hb with ⟨j,u,rfl,e⟩|⟨y,u,rfl,e⟩
   ·exact nomatch e
   ·injection e with e1 _;rw[e1]
 byValue:=λk v h=>by
  rcases eO h with ⟨i,t,rfl,rfl⟩|⟨x,t,rfl,rfl⟩ <;> rfl
 pyHash:=λhv h=>by
  rcases eO hv with ⟨i,t,rfl,rfl⟩|⟨x,t,rfl,rfl⟩
  ·exact wpAny_pyHash_int h
  ·exact wpAny_pyHash_str h
 eqBool:=λhu hv h=>by
  rcases eO hu with ⟨i,t,rfl,rfl⟩|⟨x,t,rfl,rfl⟩
  ·rcases eO hv with ⟨j,u,rfl,rfl⟩|⟨y,u,rfl,rfl⟩
   ·rw[Uq]at h;exact wpAny_eqBool_int h
   ·rw[Us]at h;exact SeqAt.EqAt.int_str i t y u _ _ _ _ h
  ·rcases eO hv with ⟨j,u,rfl,rfl⟩|⟨y,u,rfl,rfl⟩
   ·rw[Ut]at h;exact SeqAt.EqAt.str_int x t j u _ _ _ _ h
   ·rw[Ur]at h;exact wpAny_eqBool_str h
 «strs»:=λk x t v h=>by
  rcases eO h with ⟨i,u,rfl,e⟩|⟨y,u,rfl,e⟩
  ·exact nomatch e
  ·injection e with e1 _;subst e1
   cases v <;> rfl
theorem EG(prog:Program)(w:World)(i:Int)(t:Tok):(fO prog w).is (.inl i) (.int i t)=true:=KN i t
theorem EH(prog:Program)(w:World)(x:Str)(t:Tok):(fO prog w).is (.inr x) (.str x t)=true:=KO x t
end L2
namespace L2
open Spec Rows
inductive V where
 | gj | bl (b:Bool) | int (i:Int) | str (x:Str) | Hh (b:Array UInt8) | Tn (b:UInt64) | ref (a:Addr) | ty (n:String)
 deriving DecidableEq
def RelV:V->Value->Prop
 | .gj,u=>u=Value.none
 | .bl b,u=>u=Value.bool b
 | .int i,u=>∃ t,u=Value.int i t
 | .str x,u=>∃ t,u=Value.str x t
 | .Hh b,u=>∃ t,u=Value.bytes b t
 | .Tn b,u=>∃ t,u=Value.float b t
 | .ref a,u=>u=Value.ref a
 | .ty n,u=>u=Value.type n
abbrev bZ:List V->List Value->Prop:=Paired RelV
theorem bZ.length{xs:List V}{us:List Value}(r:bZ xs us):↑xs=↑us:=Paired.length r
theorem bZ.get:∀ {xs:List V} {us:List Value} {i:Nat} {x:V},bZ xs us->xs[i]?=⇑x->∃ u,us[i]?=⇑u/\RelV x u
 | _,_,_,_,.nil,e=>by simp at e
 | _,_,0,_,.cons r _,e=>by simp at e;subst e;exact⟨Y,r⟩
 | _,_,i+1,x,.cons _ t,e=>by
  let⟨u,h1,h2⟩:=bZ.get (i:=i) (x:=x) t (by simpa using e);exact⟨u,by simpa using h1,h2⟩
theorem bZ.set{x:V}{u:Value}(r:RelV x u):∀ {xs:List V} {us:List Value} (i:Nat),bZ xs us->bZ (xs.set i x) (us.set i u)
 | _,_,_,.nil=>.nil
 | _,_,0,.cons _ t=>.cons r t
 | _,_,i+1,.cons q t=>.cons q (bZ.set r i t)
def bZ.append{xs ys:List V}{us ws:List Value}(h:bZ xs us)(s:bZ ys ws):bZ (xs++ys) (us++ws):=by
 induction h with
 | nil=>exact s
 | cons r _ ih=>exact .cons r ih
theorem bZ.take:∀ {xs:List V} {us:List Value} (n:Nat),bZ xs us->bZ (xs.take n) (us.take n)
 | _,_,0,_=>.nil
 | _,_,_+1,.nil=>.nil
 | _,_,n+1,.cons r t=>.cons r (bZ.take n t)
theorem bZ.drop:∀ {xs:List V} {us:List Value} (n:Nat),bZ xs us->bZ (xs.drop n) (us.drop n)
 | _,_,0,r=>r
 | _,_,_+1,.nil=>.nil
 | _,_,n+1,.cons _ t=>bZ.drop n t
def rM:Option V->Option Value->Prop
 | some v,some u=>RelV v u
 | none,none=>True
 | _,_=>False
def KV{κ:Type}:List (κ × V)->List (κ × Value)->Prop:=Paired λ(p:κ × V) (q:κ × Value)=>p.1=q.1/\RelV p.2 q.2
def kV:eV->V
 | .inl i=>.int i
 | .inr x=>.str x
inductive HO where
 | lst (xs:List V)
 | tup (xs:List V)
 | dK (kvs:List (eV × V)) | dT (kvs:List (List eV × V))
 | set (S:Int->Bool) (n:Nat)
 | ins (C dx:Addr) (fs:List (Str × V))
 | own (x:Addr)
 | xd (fs:List (Str × V))
 | met (f x:Addr)
 | Ez (lo hi:Int)
 | Hi (o:Obj) (u:HO)
 | QE (ps:Array Value)
 | ext (φ:Heap->Prop)
abbrev Hp:=Addr->Option HO
def aO(H:Hp)(a:Addr)(o:HO):Hp:=λb=>if b=a then some o else H b
def af{H:Hp}{a:Addr}{o:HO}:aO H a o a=⇑o:=by unfold aO;rw[if_pos rfl]
def aK{H:Hp}{a b:Addr}{o:HO}(h:b≠a):aO H a o b=H b:=by unfold aO;rw[if_neg h]
def dB{H:Hp}{a b:Addr}{o u:HO}(h:H a=⇑o)(h':H b=⇑u)(d:o≠u:=by intro z;cases z):a≠b:=by
 intro e;subst e;rw[h]at h';exact d (rL h')
def aB{H:Hp}{a b:Addr}{o:HO}(h:H a=⇑o)(h':H b=none):a≠b:=by
 intro e;subst e;rw[h]at h';cases h'
section
variable (P:Program) (w:World)
def fF(H:Hp)(h:Heap)(a:Addr):HO->Prop
 | .lst xs=>↑xs<=sizeLine/\∃ (aQ:List Value) (n:Nat),bZ xs aQ/\h.get? a=some { cls:=.type "list",data:=.seq aQ.toArray n }
 | .tup xs=>↑xs<=sizeLine/\∃ aQ:List Value,bZ xs aQ/\IsTup h a aQ.toArray
 | .dK kvs=>↑kvs<=sizeLine/\(a == sysModules)=false/\∃ vs,KV kvs vs/\h.DictOf (fO P w) a vs
 | .dT kvs=>↑kvs<=sizeLine/\(a == sysModules)=false/\∃ xs:List (List eV × Addr × Value),
   Paired (λ(p:List eV × V) (q:List eV × Addr × Value)=>p.1=q.1/\H q.2.1=⇑(.tup (p.1.map kV))/\RelV p.2 q.2.2) kvs xs/\
   ∃ o es ep,h.get? a=⇑o/\o.ExactDict/\o.data=.dict es ep/\es.toList=xs.map (entryOfKey (tupleKind (fO P w)))/\(xs.map (·.1)).Nodup
 | .set S n=>h.SetOf (intKind P w) a S n
 | .ins C dx fs=>H dx=⇑(.own a)/\↑fs<=1000/\dx≠a/\h.get? a=⇑(instObj C dx)/\
   ∃ mA,h.Ns1 dx mA/\(∀ f,rM (fs.lookup f) (mA f))/\PySem.Within mA (fs.map (·.1))
 | .own _=>∃ o,h.get? a=⇑o
 | .xd fs=>∃ mA,h.Ns1 a mA/\∀ f,rM (fs.lookup f) (mA f)
 | .Ez lo hi=>∃ t u v,h.get? a=some { cls:=.type "range",data:=.fields #[.int lo t,.int hi u,.int 1 v] }
 | .Hi o u=>h.get? a=⇑o/\fF H h a u
 | .QE ps=>h.get? a=some { cls:=.none,data:=.fields ps }
 | .met f x=>h.get? a=⇑(methodObj ↥f ↥x)
 | .ext φ=>φ h/\(∃ o,h.get? a=⇑o)/\∀ h1 h2:Heap,φ h1->(∀ o,h1.get? a=⇑o->h2.get? a=⇑o)->φ h2
def qh(H:Hp)(h:Heap):Prop:=∀ a o,H a=⇑o->fF P w H h a o
end
section
variable {P:Program} {w:World} {H H':Hp} {h h':Heap} {a:Addr} {o:HO}
def fF.lt(x:fF P w H h a o):a<h.objs.size:=by
 cases o with
 | lst xs=>let⟨_,_,_,_,e⟩:=x;exact Heap.lt_size e
 | tup xs=>let⟨_,_,_,p⟩:=x;exact p.lt
 | dK kvs=>let⟨_,_,_,_,o,_,_,e,_⟩:=x;exact Heap.lt_size e
 | dT kvs=>let⟨_,_,_,_,o,_,_,e,_⟩:=x;exact Heap.lt_size e
 | set S n=>let⟨o,_,_,_,e,_⟩:=x;exact Heap.lt_size e
 | ins C dx fs=>let⟨_,_,_,e,_⟩:=x;exact Heap.lt_size e
 | own y=>let⟨_,e⟩:=x;exact Heap.lt_size e
 | xd fs=>let⟨_,⟨_,_,_,e,_⟩,_⟩:=x;exact Heap.lt_size e
 | Ez lo hi=>let⟨_,_,_,e⟩:=x;exact Heap.lt_size e
 | Hi ob u=>let⟨e,_⟩:=x;exact Heap.lt_size e
 | QE ps=>exact Heap.lt_size (show h.get? a=⇑_ from x)
 | met f y=>exact Heap.lt_size (show h.get? a=⇑_ from x)
 | ext φ=>let⟨_,⟨_,e⟩,_⟩:=x;exact Heap.lt_size e
def Paired.CK{α β:Type}{F G:α->β->Prop}{l₁:List α}{l₂:List β}(h:Paired F l₁ l₂)(f:∀ a b,F a b->G a b):Paired G l₁ l₂:=by
 induction h with
 | nil=>exact .nil
 | cons r _ ih=>exact .cons (f _ _ r) ih
theorem fF.stay(x:fF P w H h a o)(k:∀ b u,(b=a\/H b=⇑(.own a))->h.get? b=⇑u->h'.get? b=⇑u)
  (ho:∀ b,H b=⇑(.own a)->H' b=⇑(.own a)) (ht:∀ b xs,H b=⇑(.tup xs)->H' b=⇑(.tup xs)):fF P w H' h' a o:=by
 induction o with
 | lst xs=>let⟨z,aQ,n,r,e⟩:=x;exact⟨z,aQ,n,r,k _ _ (.inl rfl) e⟩
 | tup xs=>let⟨z,aQ,r,ob,e,c⟩:=x;exact⟨z,aQ,r,ob,k _ _ (.inl rfl) e,c⟩
 | dK kvs=>let⟨z,y,vs,r,ob,es,ep,e,c⟩:=x;exact⟨z,y,vs,r,ob,es,ep,k _ _ (.inl rfl) e,c⟩
 | dT kvs =>
  let⟨z,y,xs,r,ob,es,ep,e,c⟩:=x;exact⟨z,y,xs,Paired.CK r λp q z=>⟨z.1,ht _ _ z.2.1,z.2.2⟩,ob,es,ep,k _ _ (.inl rfl) e,c⟩
 | set S n=>let⟨ob,es,ep,t,e,c⟩:=x;exact⟨ob,es,ep,t,k _ _ (.inl rfl) e,c⟩
 | ins C dx fs =>
  let⟨d,z,ne,e,mA,⟨od,es,ep,e2,c⟩,r⟩:=x;exact⟨ho _ d,z,ne,k _ _ (.inl rfl) e,mA,⟨od,es,ep,k _ _ (.inr d) e2,c⟩,r⟩
 | own y=>let⟨ob,e⟩:=x;exact⟨ob,k _ _ (.inl rfl) e⟩
 | xd fs=>let⟨mA,⟨od,es,ep,e,c⟩,r⟩:=x;exact⟨mA,⟨od,es,ep,k _ _ (.inl rfl) e,c⟩,r⟩
 | Ez lo hi=>let⟨t,u,v,e⟩:=x;exact⟨t,u,v,k _ _ (.inl rfl) e⟩
 | Hi ob u ih=>let⟨e,q⟩:=x;exact⟨k _ _ (.inl rfl) e,ih q⟩
 | QE ps =>
  have e:h.get? a=some { cls:=.none,data:=.fields ps }:=x;show h'.get? a=some { cls:=.none,data:=.fields ps };exact k a _ (.inl rfl) e
 | met f y =>
  have e:h.get? a=⇑(methodObj ↥f ↥y):=x;show h'.get? a=⇑(methodObj ↥f ↥y);exact k a _ (.inl rfl) e
 | ext φ=>let⟨p,⟨o,e⟩,st⟩:=x;exact⟨st _ _ p λo q=>k _ _ (.inl rfl) q,⟨o,k _ _ (.inl rfl) e⟩,st⟩
theorem qh.lt(x:qh P w H h)(e:H a=⇑o):a<h.objs.size:=(x a o e).lt
def qh.fresh(x:qh P w H h)(e:h.objs.size<=a):H a=none:=by
 cases q:H a with
 | none=>rfl
 | some u=>exact absurd (pW (x.lt q) e) (Nat.lt_irrefl _)
theorem qh.kept(x:qh P w H h)(k:∀ b u,h.get? b=⇑u->h'.get? b=⇑u):qh P w H h':=λa o e =>
 (x a o e).stay (λb u _ q=>k b u q) (λ_ q=>q) λ_ _ q=>q
theorem qh.laid(x:qh P w H h)(k:∀ b u,h.get? b=⇑u->h'.get? b=⇑u)(hp:h.objs.size<=a)(new:fF P w (aO H a o) h' a o):qh P w (aO H a o) h':=λb u e=>by
 have hn:=x.fresh hp;by_cases hb:b=a
 ·subst hb;rw[af]at e;cases e;exact new
 ·rw[aK hb]at e;exact (x b u e).stay (λc v _ q=>k c v q) (λc q=>by rw[aK (aB q hn)];exact q) λc xs q=>by rw[aK (aB q hn)];exact q
end
def Rd(H:Hp)(a:Addr)(u:HO):Prop:=H a=⇑u\/∃ o,H a=⇑(.Hi o u)
def Rd.ok{P:Program}{w:World}{H:Hp}{h:Heap}{a:Addr}{u:HO}(r:Rd H a u)(x:qh P w H h):fF P w H h a u:=by
 rcases r with r|⟨o,r⟩
 ·exact x a u r
 ·let⟨_,q⟩:=x a _ r;exact q
def XR:Option HO->Prop
 | some (.lst _)=>True
 | some (.dK _)=>True
 | some (.dT _)=>True
 | some (.set _ _)=>True
 | some (.ins _ _ _)=>True
 | some (.ext _)=>True
 | _=>False
section
variable {P:Program} {w:World} {H:Hp} {h h':Heap} {x e:Addr} {o':HO}
theorem qh.write(ok:qh P w H h)(mu:XR (H x))(he:e=x\/H e=⇑(.own x))(k:∀ b u,b≠e->h.get? b=⇑u->h'.get? b=⇑u)(Xb:∃ u,h'.get? e=⇑u)
  (new:fF P w (aO H x o') h' x o'):qh P w (aO H x o') h':=λb u q=>by
 have XT:∀ c y,H c=⇑(.own y)->c≠x:=λc y r z=>by subst z;rw[r]at mu;exact mu
 have ab1:∀ c xs,H c=⇑(.tup xs)->c≠x:=λc xs r z=>by subst z;rw[r]at mu;exact mu
 by_cases hb:b=x
 ·subst hb;rw[af]at q;cases q;exact new
 ·rw[aK hb]at q;by_cases Uu:b=e
  ·have q':H b=⇑(.own x):=by
    rcases he with z|z
    ·exact absurd (Uu.trans z) hb
    ·rw[Uu];exact z
   rw[q]at q';cases q';let⟨v,hv⟩:=Xb;exact⟨v,by rw[Uu];exact hv⟩
  ·refine (ok b u q).stay (λc v hc r=>k c v ?_ r) (λc r=>by rw[aK (XT c b r)];exact r) λc xs r=>by rw[aK (ab1 c xs r)];exact r
   rcases hc with rfl|hc
   ·exact Uu
   ·rintro rfl;rcases he with z|z
    ·exact XT c b hc z
    ·rw[hc]at z;cases z;exact hb rfl
end
structure Un(fs ex:List Addr)(H H':Hp)(h h':Heap):Prop where
 keep:∀ b o,h.get? b=⇑o->H b=none->b∉fs->b∉ex->h'.get? b=⇑o
 slot:∀ b o,h.get? b=⇑o->H b=none->b∈fs->b∉ex->∃ sl,h'.get? b=some { o with slots:=sl }
 free:∀ b o,h.get? b=⇑o->H b=none->b∉ex->H' b=none
 there:∀ b o,h.get? b=⇑o->b∉ex->∃ o',h'.get? b=⇑o'
 tups:∀ b xs,H b=⇑(.tup xs)->H' b=⇑(.tup xs)
 AE:∀ b o u,H b=⇑(.Hi o u)->H' b=⇑(.Hi o u)
 CL:∀ b ps,H b=⇑(.QE ps)->∃ more,H' b=⇑(.QE (ps++more))
section
variable {fs Xc ex ex':List Addr} {H H1 H2:Hp} {h h1 h2 h':Heap} {a x e:Addr} {o:HO}
def Un.any(u:Un fs ex H H1 h h1){b:Addr}{ob:Obj}(q:h.get? b=⇑ob)(n:H b=none)(hx:b∉ex):∃ sl,h1.get? b=some { ob with slots:=sl }:=by
 by_cases hb:b∈fs
 ·exact u.slot b ob q n hb hx
 ·exact⟨ob.slots,u.keep b ob q n hb hx⟩
theorem Un.kept(k:∀ b u,h.get? b=⇑u->h'.get? b=⇑u):Un fs ex H H h h' :=
 ⟨λb ob q _ _ _=>k b ob q,λb ob q _ _ _=>⟨ob.slots,k b ob q⟩,λ_ _ _ n _=>n,λb ob q _=>⟨ob,k b ob q⟩,λ_ _ q=>q,λ_ _ _ q=>q,λ_ ps q=>⟨#[],by rw[q];simp⟩⟩
theorem Un.refl:Un fs ex H H h h:=Un.kept λ_ _ q=>q
theorem Un.laid(k:∀ b u,h.get? b=⇑u->h'.get? b=⇑u)(hp:h.objs.size<=a)(hn:H a=none):Un fs ex H (aO H a o) h h' where
 keep:=λb u q _ _ _=>k b u q
 slot:=λb u q _ _ _=>⟨u.slots,k b u q⟩
 free:=λb u q n _=>by rw[aK (jC (pW (Heap.lt_size q) hp))];exact n
 there:=λb u q _=>⟨u,k b u q⟩
 tups:=λb xs q=>by rw[aK (aB q hn)];exact q
 AE:=λb u xs q=>by rw[aK (aB q hn)];exact q
 CL:=λb ps q=>⟨#[],by rw[aK (aB q hn),q];simp⟩
def Un.write(mu:XR (H x))(he:e=x\/H e=⇑(.own x))(k:∀ b u,b≠e->h.get? b=⇑u->h'.get? b=⇑u)(Xb:∃ u,h'.get? e=⇑u):Un fs ex H (aO H x o) h h':=by
 have hx:∀ b,H b=none->b≠x:=λb n z=>by subst z;rw[n]at mu;exact mu
 have hb:∀ b,H b=none->b≠e:=λb n z=>by
  subst z;rcases he with r|r
  ·exact hx b n r
  ·rw[n]at r;cases r
 have hm:∀ b u,H b=⇑u->¬ XR (⇑u)->b≠x:=λb u q nm z=>by subst z;rw[q]at mu;exact nm mu
 refine⟨λb u q n _ _=>k b u (hb b n) q,λb u q n _ _=>⟨u.slots,k b u (hb b n) q⟩,λb u q n _=>by rw[aK (hx b n)];exact n,λb u q _=>?_, λb xs q=>by rw[aK (hm b _ q λz=>z)];exact q,λb u xs q=>by rw[aK (hm b _ q λz=>z)];exact q,λb ps q=>⟨#[],by rw[aK (hm b _ q λz=>z),q];simp⟩⟩;by_cases Uu:b=e
 ·subst Uu;exact Xb
 ·exact⟨u,k b u Uu q⟩
end
def trk(h:Heap)(H:Hp):List Addr:=(List.range h.objs.size).filter λa=>(H a).isSome
def CM(h:Heap)(H:Hp):Heap:=PySem.W.hideAll h (trk h H)
theorem KP(h:Heap)(H:Hp):(CM h H).objs.size=h.objs.size:=PySem.W.hideAll_size _ _
theorem M6{h:Heap}{H:Hp}{b:Addr}{o:Obj}(e:h.get? b=⇑o)(n:H b=none):(CM h H).get? b=⇑o :=
 PySem.W.hideAll_get _ e λhm=>by
  have q:(H b).isSome=true:=(List.mem_filter.mp hm).2;rw[n]at q;simp at q
def QF{h:Heap}{H:Hp}{b:Addr}{o:Obj}(e:(CM h H).get? b=⇑o):h.get? b=⇑o/\H b=none:=by
 have e':h.get? b=⇑o:=PySem.W.of_hideAll (trk h H) e;exists e'
 cases q:H b with
 | none=>rfl
 | some x =>
  have hm:b∈trk h H:=List.mem_filter.mpr ⟨List.mem_range.mpr (Heap.lt_size e'),by simp[q]⟩;have z:(CM h H).get? b=none:=PySem.W.hideAll_none (trk h H) hm;rw[z]at e;cases e
end L2
namespace L2
open Spec Rows
structure Mod(K:PySem.W.Frag)(mg:Str->Option Value)(zt:Heap):Prop where
 Xd:K.In zt
 glob:zt.Ns mainGlobals mg
 blt:∃ mb,zt.Ns builtinsNs mb/\∀ x:Str,x≠"__name__"->mb x=bootBuiltins x
 nolimit:zt.NoLimit
structure Cx where
 prog:Program
 w:World
 K:PySem.W.Frag
 mg:Str->Option Value
 zt:Heap
 A:Around
 N:List Str
 s₀:Shared
 H₀:Hp
 env:Env
 zn:List Env
 stack:List Env
 ex:List Addr
 fn:Str->Bool
 calm:Bool
 pn:List (Addr × Obj)
 xe:Value->Shared->Prop
def qe(l:List Env):List Addr:=l.filterMap (·.frame)
abbrev Cx.fs(X:Cx):List Addr:=qe X.zn
def Vis(sc:Scope)(x:Str):Prop:=sc.names.lookup x=⇑.local\/sc.names.lookup x=⇑.cell\/sc.names.lookup x=⇑.free
def Loc(sc:Scope)(x:Str):Prop:=sc.names.lookup x=⇑.local\/sc.names.lookup x=⇑.cell
def Look(env:Env)(h:Heap)(m:Str->Option Value)(x:Str)(u:Value):Prop :=
 (env.kindOf x=⇑.local/\m x=⇑u)\/((env.kindOf x=⇑.cell\/env.kindOf x=⇑.free)/\∃ c,env.cells.lookup x=⇑c/\h.IsCell c (⇑u))
structure Cx.Ok(X:Cx):Prop where
 mod:Mod X.K X.mg X.zt
 kind:X.env.scope.kind=.function
 glob:X.env.globals=mainGlobals
 blt:X.env.builtins=builtinsNs
 above:X.s₀.heap.objs.size<=X.env.locals
 inj:∀ x y c,X.env.cells.lookup x=⇑c->X.env.cells.lookup y=⇑c->x=y
 has:∀ x,(X.env.kindOf x=⇑.cell\/X.env.kindOf x=⇑.free)->∃ c,X.env.cells.lookup x=⇑c
 Uv:∀ x c,X.fn x=true->X.env.cells.lookup x=⇑c->X.s₀.heap.objs.size<=c
 hd:X.calm=true->X.A.handled=none
 frames:X.A.frames=⇑X.stack
 stk:X.stack=X.zn\/(X.stack=X.env::X.zn/\X.env.frame=⇑X.env.locals)
 exf:∀ b∈X.ex,b≠X.env.locals/\∀ x c,X.env.cells.lookup x=⇑c->c≠b
 bs:∀ b o,X.zt.get? b=⇑o->X.s₀.heap.get? b=⇑o/\X.H₀ b=none
 Qk:X.zt.objs.size<=X.s₀.heap.objs.size
 Hj:∀ b o,X.zt.get? b=⇑o->b∉X.ex
 KQ:∀ b∈X.ex,b∉X.fs
 rN:X.s₀.heap.FunFrames X.zt X.zn
 QG:∀ b∈X.fs,X.H₀ b=none
structure Inv(X:Cx)(ak:List (Addr × Obj))(σ:List (Option V))(H:Hp)(s:Shared):Prop where
 ok:X.Ok
 os:s.os=X.s₀.os
 bare:AllBare s.gens
 zt:Un X.fs X.ex X.H₀ H X.s₀.heap s.heap
 loc:∃ m,s.heap.Ns X.env.locals m/\∀ (i:Nat) (x:Str) (v:V),X.N[i]?=⇑x->σ[i]?=⇑(⇑v)->Vis X.env.scope x->∃ u,RelV v u/\Look X.env s.heap m x u
 cell:∀ x c,X.env.cells.lookup x=⇑c->∃ v,s.heap.IsCell c v
 free:H X.env.locals=none
 mJ:∀ x c,X.env.cells.lookup x=⇑c->H c=none
 pin:∀ p∈X.pn++ak,s.heap.get? p.1=⇑p.2/\H p.1=none/\p.1≠X.env.locals/\p.1∉X.fs/\∀ v,p.2.data≠.cell v
 hok:qh X.prog X.w H s.heap
 len:↑σ=↑X.N
section
variable {X:Cx} {ak:List (Addr × Obj)} {σ:List (Option V)} {H H':Hp} {s:Shared} {h':Heap}
theorem Cx.Ok.ab2(ok:X.Ok){b:Addr}{o:Obj}(e:X.zt.get? b=⇑o):b∉X.fs:=λhb=>by
 have:=(ok.rN.mem hb).1;rw[e]at this;cases this
theorem Inv.bs(I:Inv X ak σ H s):∀ b o,X.zt.get? b=⇑o->s.heap.get? b=⇑o/\H b=none:=λb o e =>
 ⟨I.zt.keep b o (I.ok.bs b o e).1 (I.ok.bs b o e).2 (I.ok.ab2 e) (I.ok.Hj b o e),I.zt.free b o (I.ok.bs b o e).1 (I.ok.bs b o e).2 (I.ok.Hj b o e)⟩
theorem Inv.bk(I:Inv X ak σ H s):∀ b o,X.zt.get? b=⇑o->s.heap.get? b=⇑o:=λb o e=>(I.bs b o e).1
theorem Inv.mod(I:Inv X ak σ H s):Mod X.K X.mg X.zt:=I.ok.mod
theorem Inv.uw(I:Inv X ak σ H s):X.K.In s.heap:=I.ok.mod.Xd.keeps I.bk
theorem Inv.lt(I:Inv X ak σ H s):X.env.locals<s.heap.objs.size:=let ⟨_,hn,_⟩:=I.loc;hn.lt
theorem Inv.sz(I:Inv X ak σ H s):X.s₀.heap.objs.size<=s.heap.objs.size:=jf I.ok.above (iC I.lt)
theorem Inv.ab3(I:Inv X ak σ H s){a:Addr}(h:s.heap.objs.size<=a):a∉X.fs:=λhb=>by
 let⟨_,o,ho,_⟩:=I.ok.rN.mem hb;exact absurd (pW (Heap.lt_size ho) (jf I.sz h)) (Nat.lt_irrefl _)
theorem Inv.Uw(I:Inv X ak σ H s):∀ x c,X.env.cells.lookup x=⇑c->c≠X.env.locals:=λx c e z=>by
 let⟨v,o,ho,hd⟩:=I.cell x c e;let⟨m,⟨o',es,ep,KR,hd',_⟩,_⟩:=I.loc;rw[z,KR]at ho;cases ho;rw[hd']at hd;cases hd
def Inv.rN(I:Inv X ak σ H s):s.heap.FunFrames X.zt X.zn:=by
 have all:∀ (l:List Env),(∀ b∈qe l,b∈X.fs)->X.s₀.heap.FunFrames X.zt l->s.heap.FunFrames X.zt l:=by
  intro l
  induction l with
  | nil=>intro _ _;trivial
  | cons env r ih =>
   intro hs hl;let⟨hk,⟨L,o,hf,hn,ho,hd⟩,hr⟩:=hl;have hL:L∈X.fs:=hs L (by unfold qe;rw[List.filterMap_cons,hf];exact uv);let⟨sl,e⟩:=I.zt.slot L o ho (I.ok.QG L hL) hL λz=>I.ok.KQ L z hL;exact⟨hk,⟨L,_,hf,hn,e,hd⟩,ih (λb hb=>hs b (by unfold qe;rw[List.filterMap_cons,hf];exact nO _ hb)) hr⟩
 exact all X.zn (λ_ hb=>hb) I.ok.rN
def Inv.stack(I:Inv X ak σ H s):s.heap.FunFrames X.zt X.stack:=by
 rcases I.ok.stk with e|⟨e,hf⟩
 ·rw[e];exact I.rN
 ·rw[e];let⟨m,hn,_⟩:=I.loc;refine .cons (by rw[I.ok.kind];decide) hf hn ?_ I.rN;exact Heap.get?_none_of_le (jf I.ok.Qk I.ok.above)
theorem Inv.vM(I:Inv X ak σ H s):∀ b∈qe X.stack,b∈X.env.locals::X.fs:=λb hb=>by
 rcases I.ok.stk with e|⟨e,hf⟩
 ·rw[e]at hb;exact nO _ hb
 ·rw[e]at hb;unfold qe at hb;rw[List.filterMap_cons,hf]at hb;exact hb
theorem Inv.ux(I:Inv X ak σ H s):∀ b∈qe X.stack,H b=none:=λb hb=>by
 rcases List.mem_cons.mp (I.vM b hb) with e|hb
 ·rw[e];exact I.free
 ·let⟨_,o,ho,_⟩:=I.ok.rN.mem hb;exact I.zt.free b o ho (I.ok.QG b hb) λz=>I.ok.KQ b z hb
theorem Inv.step{g':Array GenState}{t':Nat}{d':Drawn}{ch:List Addr}(I:Inv X ak σ H s)
  (Ql:∀ b∈ch,(b∈X.ex\/X.s₀.heap.objs.size<=b)/\b≠X.env.locals/\(∀ x c,X.env.cells.lookup x=⇑c->c≠b)/\∀ p∈X.pn++ak,p.1≠b)
  (keep:∀ b o,b≠X.env.locals->b∉X.fs->b∉ch->s.heap.get? b=⇑o->H b=none->h'.get? b=⇑o)
  (slot:∀ b o,b≠X.env.locals->b∈X.fs->b∉ch->s.heap.get? b=⇑o->H b=none->∃ sl,h'.get? b=some { o with slots:=sl }) (free:∀ b o,b∉ch->s.heap.get? b=⇑o->H b=none->H' b=none)
  (there:∀ b o,b∉ch->s.heap.get? b=⇑o->∃ o',h'.get? b=⇑o')
  (tups:∀ b xs,H b=⇑(.tup xs)->H' b=⇑(.tup xs)) (AE:∀ b o u,H b=⇑(.Hi o u)->H' b=⇑(.Hi o u)) (CL:∀ b ps,H b=⇑(.QE ps)->∃ more,H' b=⇑(.QE (ps++more)))
  (ns:∀ m,s.heap.Ns X.env.locals m->h'.Ns X.env.locals m) (hok:qh X.prog X.w H' h') (hg:AllBare g') :
  Inv X ak σ H' { s with heap:=h',gens:=g',drawn:=d',toks:=t' }:=by
 have neL:∀ b o,X.s₀.heap.get? b=⇑o->b≠X.env.locals:=λb o e=>jC (pW (Heap.lt_size e) I.ok.above)
 have neC:∀ b o,X.s₀.heap.get? b=⇑o->b∉X.ex->b∉ch:=λb o e hx hb=>by
  rcases (Ql b hb).1 with z|z
  ·exact hx z
  ·exact absurd (pW (Heap.lt_size e) z) (Nat.lt_irrefl _)
 have cellK:∀ x c,X.env.cells.lookup x=⇑c->∀ v,s.heap.IsCell c v->h'.IsCell c v:=λx c e v ⟨o,ho,hd⟩=>by
  have XU:c∉ch:=λz=>(Ql c z).2.2.1 x c e rfl;by_cases hc:c∈X.fs
  ·let⟨sl,q⟩:=slot c o (I.Uw x c e) hc XU ho (I.mJ x c e);exact⟨_,q,hd⟩
  ·exact⟨o,keep c o (I.Uw x c e) hc XU ho (I.mJ x c e),hd⟩
 refine⟨I.ok,I.os,hg,⟨λb o e n hb hx=>?_,λb o e n hb hx=>?_,λb o e n hx=>?_,λb o e hx=>?_,λb xs e=>tups b xs (I.zt.tups b xs e),λb o xs e=>AE b o xs (I.zt.AE b o xs e),λb ps e=>?_⟩,?_,λx c e=>?_,?_,λx c e=>?_,λp hp=>?_,hok,I.len⟩
 ·exact keep b o (neL b o e) hb (neC b o e hx) (I.zt.keep b o e n hb hx) (I.zt.free b o e n hx)
 ·let⟨sl,e1⟩:=I.zt.slot b o e n hb hx;let⟨sl',e2⟩:=slot b _ (neL b o e) hb (neC b o e hx) e1 (I.zt.free b o e n hx);exact⟨sl',e2⟩
 ·let⟨o',e1⟩:=I.zt.there b o e hx;exact free b o' (neC b o e hx) e1 (I.zt.free b o e n hx)
 ·let⟨o',e1⟩:=I.zt.there b o e hx;exact there b o' (neC b o e hx) e1
 ·let⟨m1,e1⟩:=I.zt.CL b ps e;let⟨m2,e2⟩:=CL b _ e1;exact⟨m1++m2,by rw[e2,Array.append_assoc]⟩
 ·let⟨m,hn,hl⟩:=I.loc;refine⟨m,ns m hn,λi x v e1 e2 e3=>?_⟩;let⟨u,r,l⟩:=hl i x v e1 e2 e3;exists u,r;rcases l with l|⟨k,c,e,z⟩
  ·exact .inl l
  ·exact .inr ⟨k,c,e,cellK x c e _ z⟩
 ·let⟨v,z⟩:=I.cell x c e;exact⟨v,cellK x c e v z⟩
 ·let⟨m,⟨o,_,_,ho,_⟩,_⟩:=I.loc;exact free _ o (λz=>(Ql _ z).2.1 rfl) ho I.free
 ·let⟨v,o,ho,hd⟩:=I.cell x c e;exact free c o (λz=>(Ql c z).2.2.1 x c e rfl) ho (I.mJ x c e)
 ·let⟨e,n,ne,nf,d⟩:=I.pin p hp;have XU:p.1∉ch:=λz=>(Ql p.1 z).2.2.2 p hp rfl;exact⟨keep p.1 p.2 ne nf XU e n,free p.1 p.2 XU e n,ne,nf,d⟩
def Inv.un{t':Nat}(I:Inv X ak σ H s)(u:Un X.fs [] H H' s.heap h')(hok:qh X.prog X.w H' h'):Inv X ak σ H' { s with heap:=h',toks:=t' }:=by
 let⟨m,⟨o,es,ep,ho,r⟩,_⟩:=id I.loc;let⟨sl,hL⟩:=u.any ho I.free (by simp)
 exact I.step (g':=s.gens) (d':=s.drawn) (ch:=[]) (λ_ z=>nomatch z) (λb o _ hb _ e n=>u.keep b o e n hb (by simp)) (λb o _ hb _ e n=>u.slot b o e n hb (by simp)) (λb o _ e n=>u.free b o e n (by simp)) (λb o _ e=>u.there b o e (by simp)) u.tups u.AE u.CL (λm' hm=>by
  let⟨o',Bj,ep',KR,r'⟩:=hm;rw[ho]at KR;cases KR
  exact⟨_,Bj,ep',hL,r'⟩) hok I.bare
theorem Inv.call{g':Array GenState}{t':Nat}{d':Drawn}{ch:List Addr}(I:Inv X ak σ H s)(u:Un (qe X.stack) ch H H' s.heap h')(hok:qh X.prog X.w H' h')(hg:AllBare g')
  (Ql:∀ b∈ch,(b∈X.ex\/X.s₀.heap.objs.size<=b)/\b≠X.env.locals/\(∀ x c,X.env.cells.lookup x=⇑c->c≠b)/\∀ p∈X.pn++ak,p.1≠b) :
  Inv X ak σ H' { s with heap:=h',gens:=g',drawn:=d',toks:=t' }:=by
 let⟨m,⟨o,es,ep,ho,r⟩,_⟩:=id I.loc;let⟨sl,hL⟩:=u.any ho I.free λz=>(Ql _ z).2.1 rfl
 exact I.step (ch:=ch) Ql (λb o hL hb hc e n=>u.keep b o e n (λz=>(List.mem_cons.mp (I.vM b z)).elim hL hb) hc) (λb o _ _ hc e n=>u.any e n hc) (λb o hc e n=>u.free b o e n hc) (λb o hc e=>u.there b o e hc) u.tups u.AE u.CL (λm' hm=>by
  let⟨o',Bj,ep',KR,r'⟩:=hm;rw[ho]at KR;cases KR
  exact⟨_,Bj,ep',hL,r'⟩) hok hg
theorem Inv.turned{t':Nat}{it:Addr}(I:Inv X ak σ H s)(k:∀ b o,b≠it->s.heap.get? b=⇑o->h'.get? b=⇑o)(hn:H it=none)(hL:it≠X.env.locals)
  (h1:it∈X.ex\/X.s₀.heap.objs.size<=it) (h2:∀ x c,X.env.cells.lookup x=⇑c->c≠it) (h3:∀ p∈X.pn++ak,p.1≠it):Inv X ak σ H { s with heap:=h',toks:=t' }:=by
 have To:∀ b u,H b=⇑u->b≠it:=λb u e z=>by rw[z,hn]at e;cases e
 refine I.step (g':=s.gens) (d':=s.drawn) (ch:=[it]) (λb hb=>?_) (λb o _ _ hc e _=>k b o (λz=>hc (by simp[z])) e) (λb o _ _ hc e _=>⟨o.slots,k b o (λz=>hc (by simp[z])) e⟩) (λ_ _ _ _ n=>n) (λb o hc e=>⟨o,k b o (λz=>hc (by simp[z])) e⟩) (λ_ _ e=>e) (λ_ _ _ e=>e) (λb ps e=>⟨#[],by rw[e];simp⟩) (λm hm=>?_) (λb u e=>?_) I.bare
 ·have e:b=it:=by simpa using hb
  subst e;exact⟨h1,hL,h2,h3⟩
 ·let⟨o,es,ep,ho,r⟩:=hm;exact⟨o,es,ep,k _ o (Ne.symm hL) ho,r⟩
 ·refine (I.hok b u e).stay (λc v hc q=>k c v ?_ q) (λ_ q=>q) λ_ _ q=>q;rcases hc with z|z
  ·rw[z];exact To b u e
  ·exact To c _ z
theorem Inv.tok(I:Inv X ak σ H s)(t:Nat):Inv X ak σ H { s with toks:=t }:=I.un (h':=s.heap) (t':=t) Un.refl I.hok
theorem Inv.kept{t':Nat}(I:Inv X ak σ H s)(k:∀ b u,s.heap.get? b=⇑u->h'.get? b=⇑u):Inv X ak σ H { s with heap:=h',toks:=t' }:=I.un (Un.kept k) (I.hok.kept k)
theorem Inv.laid{a:Addr}{o:HO}{t':Nat}(I:Inv X ak σ H s)(k:∀ b u,s.heap.get? b=⇑u->h'.get? b=⇑u)(hp:s.heap.objs.size<=a)(new:fF X.prog X.w (aO H a o) h' a o) :
  Inv X ak σ (aO H a o) { s with heap:=h',toks:=t' }:=I.un (Un.laid k hp (I.hok.fresh hp)) (I.hok.laid k hp new)
theorem Inv.write{x e:Addr}{o:HO}{t':Nat}(I:Inv X ak σ H s)(mu:XR (H x))(he:e=x\/H e=⇑(.own x))(k:∀ b u,b≠e->s.heap.get? b=⇑u->h'.get? b=⇑u)(Xb:∃ u,h'.get? e=⇑u)
  (new:fF X.prog X.w (aO H x o) h' x o):Inv X ak σ (aO H x o) { s with heap:=h',toks:=t' }:=I.un (Un.write mu he k Xb) (I.hok.write mu he k Xb new)
theorem Inv.JD(I:Inv X ak σ H s)(h:∀ p∈Tp,s.heap.get? p.1=⇑p.2/\H p.1=none/\p.1≠X.env.locals/\p.1∉X.fs/\∀ v,p.2.data≠.cell v):Inv X Tp σ H s :=
 ⟨I.ok,I.os,I.bare,I.zt,I.loc,I.cell,I.free,I.mJ,λp hp=>(List.mem_append.mp hp).elim (λz=>I.pin p (pV _ z)) (h p),I.hok,I.len⟩
def EI{N:List Str}(hN:N.Nodup){i j:Nat}{x:Str}(a:N[i]?=⇑x)(b:N[j]?=⇑x):i=j:=by
 let⟨h1,e1⟩:=List.getElem?_eq_some_iff.mp a;let⟨h2,e2⟩:=List.getElem?_eq_some_iff.mp b;exact (List.getElem_inj hN).mp (e1.trans e2.symm)
theorem Bk{M:Model}{A:Around}{E:Value->Shared->Prop}{i:Nat}{x:Str}{v:V}{u:Value}{Q:Unit->Shared->Prop}(I:Inv X ak σ H s)(hN:X.N.Nodup)(hi:X.N[i]?=⇑x)(hx:Loc X.env.scope x)(r:RelV v u)
  (h:∀ s',Inv X ak (σ.set i (⇑v)) H s'->(∃ a,Heap.SameBut a s.heap s'.heap/\(a=X.env.locals\/X.env.cells.lookup x=⇑a))->Q () s') (hf:X.fn x=true\/X.env.scope.names.lookup x=⇑.local:=by first|exact .inl rfl|exact .inr rfl|assumption):wpAny M A (storeName X.env x u) Q E s:=by
 let⟨m,hn,hl⟩:=id I.loc;have hcls:(X.env.scope.kind == .class || (X.env.scope.kind == .module&&X.env.locals != X.env.globals))=false:=by rw[I.ok.kind];rfl
 have hiσ:i<↑σ:=by rw[I.len];exact (List.getElem?_eq_some_iff.mp hi).1
 have Uw:=I.Uw
 have tracked:∀ {a:Addr} {h':Heap},(∃ o,s.heap.get? a=⇑o/\H a=none)->Heap.SameBut a s.heap h'->qh X.prog X.w H h':=λ{a h'} ha hs b ob e=>by
  let⟨_,_,JE⟩:=ha;refine (I.hok b ob e).stay (λc w' hc q=>(hs.2 c ?_).trans q) (λ_ q=>q) λ_ _ q=>q;rintro rfl;rcases hc with rfl|hc
  ·rw[JE]at e;cases e
  ·rw[JE]at hc;cases hc
 rcases hx with hk|hk
 ·refine wpAny_storeName_local hk hn (λh' hn' hs=>?_) hcls;let⟨oL,_,_,hoL,_⟩:=id hn;refine h _ ⟨I.ok,I.os,I.bare,⟨λb o e n hb hx=>?_,λb o e n hb hx=>?_,I.zt.free,λb o e hx=>?_,I.zt.tups,I.zt.AE,I.zt.CL⟩,⟨_,hn',λj y v' e1 e2 e3=>?_⟩,λy c e=>?_,I.free,I.mJ,λp hp=>?_,tracked ⟨oL,hoL,I.free⟩ hs,by simpa using I.len⟩ ⟨_,hs,.inl rfl⟩
  ·exact (hs.2 b (jC (pW (Heap.lt_size e) I.ok.above))).trans (I.zt.keep b o e n hb hx)
  ·let⟨sl,e1⟩:=I.zt.slot b o e n hb hx;exact⟨sl,(hs.2 b (jC (pW (Heap.lt_size e) I.ok.above))).trans e1⟩
  ·let⟨o',e1⟩:=I.zt.there b o e hx;exact⟨o',(hs.2 b (jC (pW (Heap.lt_size e) I.ok.above))).trans e1⟩
  ·by_cases hj:j=i
   ·subst hj;rw[hi]at e1;cases e1;rw[List.getElem?_set_self hiσ]at e2;cases e2;exact⟨u,r,.inl ⟨hk,by simp⟩⟩
   ·rw[List.getElem?_set_ne (Ne.symm hj)]at e2;let⟨u',r',q⟩:=hl j y v' e1 e2 e3;exists u',r';rcases q with ⟨k,e⟩|⟨k,c,e,z⟩
    ·refine .inl ⟨k,?_⟩;have:y≠x:=λe=>hj (EI hN e1 (e ▸ hi));simp[this,e]
    ·exact .inr ⟨k,c,e,z.sameBut hs (Uw y c e)⟩
  ·let⟨w',z⟩:=I.cell y c e;exact⟨w',z.sameBut hs (Uw y c e)⟩
  ·let⟨e,n,ne,nf,d⟩:=I.pin p hp;exact⟨(hs.2 p.1 ne).trans e,n,ne,nf,d⟩
 ·have hfn:X.fn x=true:=by
   rcases hf with z|z
   ·exact z
   ·rw[z]at hk;cases hk
  let⟨c,hc⟩:=I.ok.has x (.inl hk);let⟨w',z⟩:=I.cell x c hc;refine wpAny_storeName_cell I.ok.kind hk hc z (λh' XW hs=>?_);let⟨oc,hoc,ab6⟩:=id z;refine h { s with heap:=h' } ⟨I.ok,I.os,I.bare,⟨λb o e n hb hx=>?_,λb o e n hb hx=>?_,I.zt.free,λb o e hx=>?_,I.zt.tups,I.zt.AE,I.zt.CL⟩,⟨m,hn.sameBut hs (Ne.symm (Uw x c hc)),λj y v' e1 e2 e3=>?_⟩,λy c' e=>?_,I.free,I.mJ,λp hp=>?_,tracked ⟨oc,hoc,I.mJ x c hc⟩ hs,by simpa using I.len⟩ ⟨c,hs,.inr hc⟩
  ·exact (hs.2 b (jC (pW (Heap.lt_size e) (I.ok.Uv x c hfn hc)))).trans (I.zt.keep b o e n hb hx)
  ·let⟨sl,e1⟩:=I.zt.slot b o e n hb hx;exact⟨sl,(hs.2 b (jC (pW (Heap.lt_size e) (I.ok.Uv x c hfn hc)))).trans e1⟩
  ·let⟨o',e1⟩:=I.zt.there b o e hx;exact⟨o',(hs.2 b (jC (pW (Heap.lt_size e) (I.ok.Uv x c hfn hc)))).trans e1⟩
  ·by_cases hj:j=i
   ·subst hj;rw[hi]at e1;cases e1;rw[List.getElem?_set_self hiσ]at e2;cases e2;exact⟨u,r,.inr ⟨.inl hk,c,hc,XW⟩⟩
   ·rw[List.getElem?_set_ne (Ne.symm hj)]at e2;let⟨u',r',q⟩:=hl j y v' e1 e2 e3;exists u',r';rcases q with q|⟨k,c',e,z'⟩
    ·exact .inl q
    ·refine .inr ⟨k,c',e,z'.sameBut hs ?_⟩;rintro rfl;exact hj (EI hN e1 (I.ok.inj _ _ _ e hc ▸ hi))
  ·by_cases hcc:c'=c
   ·subst hcc;exact⟨_,XW⟩
   ·let⟨w2,z2⟩:=I.cell y c' e;exact⟨w2,z2.sameBut hs hcc⟩
  ·let⟨e,n,ne,nf,d⟩:=I.pin p hp;refine⟨(hs.2 p.1 ?_).trans e,n,ne,nf,d⟩;intro q;rw[q,hoc]at e;have q':oc=p.2:=rL e;exact d w' (by rw[← q'];exact ab6)
theorem yO{M:Model}{A:Around}{E:Value->Shared->Prop}{i:Nat}{x:Str}{v:V}{u:Value}{Q:Unit->Shared->Prop}(I:Inv X ak σ H s)(hN:X.N.Nodup)(hi:X.N[i]?=⇑x)(hx:Loc X.env.scope x)(r:RelV v u)
  (h:∀ s',Inv X ak (σ.set i (⇑v)) H s'->Q () s') (hf:X.fn x=true\/X.env.scope.names.lookup x=⇑.local:=by first|exact .inl rfl|exact .inr rfl|assumption):wpAny M A (storeName X.env x u) Q E s :=
 Bk I hN hi hx r (λs' I' _=>h s' I') hf
theorem Inv.EJ{s':Shared}{ch:List Addr}(I:Inv X ak σ H s)(ho:s'.os=s.os)(u:Un (qe X.stack) ch H H' s.heap s'.heap)(hok:qh X.prog X.w H' s'.heap)(hg:AllBare s'.gens)
  (Ql:∀ b∈ch,(b∈X.ex\/X.s₀.heap.objs.size<=b)/\b≠X.env.locals/\(∀ x c,X.env.cells.lookup x=⇑c->c≠b)/\∀ p∈X.pn++ak,p.1≠b):Inv X ak σ H' s':=by
 let⟨h',g',d',t',o'⟩:=s';have e:o'=s.os:=ho;subst e;exact I.call (g':=g') (t':=t') (d':=d') u hok hg Ql
end
abbrev XK:=Value->Option Addr->Hp->Prop
abbrev St:=List (Option V)
abbrev VK:=V->Hp->Prop
abbrev TE:=St->Hp->VK->Prop
abbrev TT:=St->Hp->(Bool->Hp->Prop)->Prop
abbrev TA:=St->Hp->(List V->Hp->Prop)->Prop
structure Ends where
 nx:St->Hp->Prop
 rt:VK
 bk:St->Hp->Prop:=λ_ _=>False
 ct:St->Hp->Prop:=λ_ _=>False
abbrev TS:=Ends->St->Hp->Prop
inductive EP(X:Cx)(ak:List (Addr × Obj))(σ:St)(Q:VK)(u:Value)(s':Shared):Prop
 | mk (v:V) (H':Hp) (_:Inv X ak σ H' s') (_:RelV v u) (_:Q v H')
def TP(X:Cx)(ak:List (Addr × Obj))(σ:St)(Q:Bool->Hp->Prop)(b:Bool)(s':Shared):Prop:=∃ H',Inv X ak σ H' s'/\Q b H'
inductive AP(X:Cx)(ak:List (Addr × Obj))(σ:St)(Q:List V->Hp->Prop)(us:List Value)(s':Shared):Prop
 | mk (vs:List V) (H':Hp) (_:Inv X ak σ H' s') (_:bZ vs us) (_:Q vs H')
def SP(X:Cx)(ak:List (Addr × Obj))(D:Ends)(f:Flow)(s':Shared):Prop :=
 match f with
 | .next=>∃ σ' H',Inv X ak σ' H' s'/\D.nx σ' H'
 | .brk=>∃ σ' H',Inv X ak σ' H' s'/\D.bk σ' H'
 | .cont=>∃ σ' H',Inv X ak σ' H' s'/\D.ct σ' H'
 | .ret u=>∃ v σ' H',Inv X ak σ' H' s'/\RelV v u/\D.rt v H'
def PE(X:Cx)(e:Expr)(t:TE):Prop :=
 ∀ (ak:List (Addr × Obj)) (s:Shared) (σ:St) (H:Hp) (Q:VK),Inv X ak σ H s->t σ H Q->wpAny (model X.prog X.w) X.A (eval e X.env) (EP X ak σ Q) X.xe s
def PT(X:Cx)(e:Expr)(t:TT):Prop :=
 ∀ (ak:List (Addr × Obj)) (s:Shared) (σ:St) (H:Hp) (Q:Bool->Hp->Prop),Inv X ak σ H s->t σ H Q->wpAny (model X.prog X.w) X.A (isTrue e X.env (eval e X.env)) (TP X ak σ Q) X.xe s
def PW(X:Cx)(e:Expr)(t:TT):Prop :=
 ∀ (yP:Sem Value) (ak:List (Addr × Obj)) (s:Shared) (σ:St) (H:Hp) (Q:Bool->Hp->Prop),Inv X ak σ H s->t σ H Q->wpAny (model X.prog X.w) X.A (isTrue e X.env yP) (TP X ak σ Q) X.xe s
theorem PW.pt{X:Cx}{e:Expr}{t:TT}(h:PW X e t):PT X e t:=h _
def PA(X:Cx)(es:List Expr)(t:TA):Prop :=
 ∀ (pos:Pos) (ak:List (Addr × Obj)) (s:Shared) (σ:St) (H:Hp) (Q:List V->Hp->Prop),Inv X ak σ H s->t σ H Q->wpAny (model X.prog X.w) X.A (spliced (backTo pos (starEach es X.env))) (AP X ak σ Q) X.xe s
def PS(X:Cx)(st:Stmt)(t:TS):Prop :=
 ∀ (ak:List (Addr × Obj)) (s:Shared) (σ:St) (H:Hp) (D:Ends),Inv X ak σ H s->t D σ H->wpAny (model X.prog X.w) X.A (exec st X.env) (SP X ak D) X.xe s
def EA(X:Cx)(st:List Stmt)(t:TS):Prop :=
 ∀ (ak:List (Addr × Obj)) (s:Shared) (σ:St) (H:Hp) (D:Ends),Inv X ak σ H s->t D σ H->wpAny (model X.prog X.w) X.A (execs st X.env) (SP X ak D) X.xe s
theorem cL{α:Type}{t:Sem α}{Q Q':α->Shared->Prop}{M:Model}{A:Around}{E:Value->Shared->Prop}{s:Shared}(h:wpAny M A t Q E s)(hQ:∀ a s,Q a s->Q' a s):wpAny M A t Q' E s:=wpAny_mono h hQ λ_ _ x=>x
end L2
namespace L2
open Spec Rows
section
variable {X:Cx}
inductive Ux(i:Nat)(σ:St)(H:Hp)(Q:VK):Prop
 | mk (v:V) (_:σ[i]?=⇑(⇑v)) (_:Q v H)
inductive isB(x:V)(H:Hp)(Q:Bool->Hp->Prop):Prop
 | mk (c:Bool) (_:x=.bl c) (_:Q c H)
inductive isI(x:V)(H:Hp)(Q:Option Int->Hp->Prop):Prop
 | mk (i:Int) (_:x=.int i) (_:Q (⇑i) H)
def tC(v:V):TE:=λ_ H Q=>Q v H
def Uy{i:Nat}{x:Str}(hN:X.N[i]?=⇑x)(hv:Vis X.env.scope x)(hd:(x == ("__debug__":Str))=false:=by decide)(KS:(x == ("__classdict__":Str))=false:=by decide):PE X (.Name x pos) (Ux i):=by
 intro ak s σ H Q I h;let⟨v,e,h⟩:=h;let⟨m,hn,hl⟩:=I.loc;let⟨u,r,l⟩:=hl i x v hN e hv;have iH:EP X ak σ Q u s:=⟨v,H,I,r,h⟩;rcases l with ⟨hk,hm⟩|⟨hk,c,hc,hcell⟩
 ·exact wpAny_Name (wpAny_loadName_local I.ok.kind hk hn hm iH) hd
 ·rcases hk with hk|hk
  ·exact wpAny_Name (wpAny_loadName_cell I.ok.kind hk hc hcell iH) hd
  ·exact wpAny_Name (wpAny_loadName_free I.ok.kind hk hc hcell iH KS) hd
theorem ay{i j pos}:PE X (.Constant (.int i) j pos) (tC (.int i)):=λ_ _ _ H _ I h=>wpAny_Constant_int ⟨.int i,H,I.tok _,⟨Y⟩,h⟩
theorem kW{b j pos}:PE X (.Constant (.bool b) j pos) (tC (.bl b)):=λ_ _ _ H _ I h=>Constant_bool ⟨.bl b,H,I,rfl,h⟩
theorem Uz{j pos}:PE X (.Constant .none j pos) (tC .gj):=λ_ _ _ H _ I h=>Constant_none ⟨.gj,H,I,rfl,h⟩
theorem bh{x j pos}:PE X (.Constant (.str x) j pos) (tC (.str x)):=λ_ _ _ H _ I h=>Calls.Constant_str ⟨.str x,H,I.tok _,⟨Y⟩,h⟩
def Gl(X:Cx)(x:Str):Prop:=X.env.kindOf x=some .globalImplicit
theorem oE{E:Value->Shared->Prop}{s:Shared}{σ:St}{H:Hp}{x:Str}{u:Value}{Q:Value->Shared->Prop}(I:Inv X ak σ H s)(hg:Gl X x)(hm:X.mg x=⇑u)(h:Q u s)
  (hd:(x == ("__debug__":Str))=false:=by decide):wpAny (model X.prog X.w) X.A (eval (.Name x pos) X.env) Q E s :=
 Calls.Name_function_global I.ok.kind hg (Calls.loadGlobal_global (by rw[I.ok.glob];exact I.mod.glob.keeps I.bk) hm h) hd
theorem vN{E:Value->Shared->Prop}{s:Shared}{σ:St}{H:Hp}{x:Str}{u:Value}{Q:Value->Shared->Prop}(I:Inv X ak σ H s)(hg:Gl X x)(hm:X.mg x=none)(hv:bootBuiltins x=⇑u)(h:Q u s)
  (hn:x≠"__name__":=by decide) (hd:(x == ("__debug__":Str))=false:=by decide):wpAny (model X.prog X.w) X.A (eval (.Name x pos) X.env) Q E s:=by
 let⟨mb,h1,h2⟩:=I.mod.blt;exact Calls.Name_function_global I.ok.kind hg (Calls.loadGlobal_builtin (by rw[I.ok.glob];exact I.mod.glob.keeps I.bk) hm (by rw[I.ok.blt];exact h1.keeps I.bk) ((h2 x hn).trans hv) h) hd
def CN{x:Str}{v:V}{u:Value}(hg:Gl X x)(hm:X.mg x=⇑u)(r:RelV v u)(hd:(x == ("__debug__":Str))=false:=by decide):PE X (.Name x pos) (tC v) :=
 λ_ _ _ H _ I h=>oE I hg hm ⟨v,H,I,r,h⟩ hd
theorem QH{x:Str}{v:V}{u:Value}(hg:Gl X x)(hm:X.mg x=none)(hv:bootBuiltins x=⇑u)(r:RelV v u)(hn:x≠"__name__":=by decide)(hd:(x == ("__debug__":Str))=false:=by decide):PE X (.Name x pos) (tC v) :=
 λ_ _ _ H _ I h=>vN I hg hm hv ⟨v,H,I,r,h⟩ hn hd
variable {a b:Expr} {ta tb:TE} {pos:Pos}
def PC(X:Cx)(op:CmpOp)(a b:Expr)(t:TE):Prop :=
 ∀ (ak:List (Addr × Obj)) (s:Shared) (σ:St) (H:Hp) (Q:VK),Inv X ak σ H s->t σ H Q->
  wpAny (model X.prog X.w) X.A (eval a X.env) (λv s₁=>wpAny (model X.prog X.w) X.A (eval b X.env) (λu s₂=>wpAny (model X.prog X.w) X.A (compareOp op v u) (EP X ak σ Q) X.xe s₂) X.xe s₁) X.xe s
def EK(b:Expr){op:CmpOp}(h:op≠.In)(h2:op≠.NotIn):behindInMarks op b=false:=by
 have e1:(op == CmpOp.In)=false:=by cases op <;> first|rfl|exact absurd rfl h
 have e2:(op == CmpOp.NotIn)=false:=by cases op <;> first|rfl|exact absurd rfl h2
 cases b <;> simp[behindInMarks,e1,e2]
def ab7(ta:TE):TE:=fun σ H Q=>ta σ H λx H1=>Q (.bl (decide (x=.gj))) H1
def XX(ta:TE):TE:=fun σ H Q=>ta σ H λx H1=>Q (.bl (!decide (x=.gj))) H1
def RelV.EL{x:V}{v:Value}(r:RelV x v):(v == Value.none)=decide (x=.gj):=by
 cases x with
 | gj=>cases r;rfl
 | bl _=>cases r;rfl
 | int _=>let⟨t,rfl⟩:=r;rfl
 | str _=>let⟨t,rfl⟩:=r;rfl
 | Hh _=>let⟨t,rfl⟩:=r;rfl
 | Tn _=>let⟨t,rfl⟩:=r;rfl
 | ref _=>cases r;rfl
 | ty _=>cases r;rfl
def M7{j iJ}(ha:PE X a ta):PC X .Is a (.Constant .none j iJ) (ab7 ta):=by
 intro ak s σ H Q I h;refine cL (ha ak s σ H _ I h) λv s1 AF=>?_;let⟨x,H1,I1,r1,q1⟩:=AF;exact Constant_none (is_none_gen ⟨.bl _,H1,I1,by rw[r1.EL];rfl,q1⟩)
def QI{j iJ}(ha:PE X a ta):PC X .IsNot a (.Constant .none j iJ) (XX ta):=by
 intro ak s σ H Q I h;refine cL (ha ak s σ H _ I h) λv s1 EM=>?_;let⟨x,H1,I1,r1,q1⟩:=EM;exact Constant_none (isnot_none_gen ⟨.bl _,H1,I1,by rw[r1.EL];rfl,q1⟩)
def tB(t:TE):TT:=fun σ H Q=>t σ H λx H1=>isB x H1 Q
def UA{op:CmpOp}{t:TE}(h:PC X op a b t)(h1:behindInMarks op b=false:=by first|exact EK _ (by decide) (by decide)|rfl):PE X (.Compare a [op] [b] pos) t:=λak s σ H Q I hw=>wpAny_Compare1 (h ak s σ H Q I hw) h1
def CO{op:CmpOp}{t:TE}(h:PC X op a b t)(h1:behindInMarks op b=false:=by first|exact EK _ (by decide) (by decide)|rfl):PT X (.Compare a [op] [b] pos) (tB t):=by
 intro ak s σ H Q I hw;refine wpAny_isTrue_Compare1 (cL (h ak s σ H _ I hw) λv s1 h1=>cL h1 λu s2 h2=>cL h2 λc s3 ⟨x,H1,I1,r1,q1⟩=>?_) h1;let⟨d,rfl,q⟩:=q1;cases r1;exact wpAny_truthy_bool ⟨H1,I1,q⟩
def gM{e:Expr}{t:TE}(h:PE X e t)(he:∀ yP,isTrue e X.env yP=(do let v ← yP;standAt e.pos;holding [v] (truthy v)):=by intro _;rfl):PT X e (tB t):=by
 intro ak s σ H Q I hw;refine isTrue_plain (cL (h ak s σ H _ I hw) λv s1 ⟨x,H1,I1,r1,q1⟩=>?_) (he _);let⟨d,rfl,q⟩:=q1;cases r1;exact wpAny_truthy_bool ⟨H1,I1,q⟩
variable {tA tB':TT} {sQ:List Expr}
def ab8(t u:TT):TT:=fun σ H Q=>t σ H λc H1=>if c=true then u σ H1 Q else Q false H1
def tOr(t u:TT):TT:=fun σ H Q=>t σ H λc H1=>if c=true then Q true H1 else u σ H1 Q
def ab9(t:TT):TT:=fun σ H Q=>t σ H λc H1=>Q (!c) H1
def mK(ha:PT X a tA):PW X (.BoolOp .And [a] pos) tA:=by
 intro wh ak s σ H Q I h;refine isTrue_and (cL (ha ak s σ H Q I h) λc s1 e=>?_)
 cases c with
 | true=>exact isTrue_and_nil e
 | false=>exact e
def Hl(ha:PT X a tA):PW X (.BoolOp .Or [a] pos) tA:=by
 intro wh ak s σ H Q I h;refine isTrue_or (cL (ha ak s σ H Q I h) λc s1 e=>?_)
 cases c with
 | false=>exact isTrue_or_nil e
 | true=>exact e
def oF(ha:PT X a tA)(hb:PW X (.BoolOp .And (b::sQ) pos) tB'):PW X (.BoolOp .And (a::b::sQ) pos) (ab8 tA tB'):=by
 intro wh ak s σ H Q I h;refine isTrue_and (cL (ha ak s σ H _ I h) λc s1 AG=>?_);let⟨H1,I1,q1⟩:=AG
 cases c with
 | true=>exact hb wh ak s1 σ H1 Q I1 q1
 | false=>exact⟨H1,I1,q1⟩
def M8(ha:PT X a tA)(hb:PW X (.BoolOp .Or (b::sQ) pos) tB'):PW X (.BoolOp .Or (a::b::sQ) pos) (tOr tA tB'):=by
 intro wh ak s σ H Q I h;refine isTrue_or (cL (ha ak s σ H _ I h) λc s1 EN=>?_);let⟨H1,I1,q1⟩:=EN
 cases c with
 | true=>exact⟨H1,I1,q1⟩
 | false=>exact hb wh ak s1 σ H1 Q I1 q1
def gO(ha:PT X a tA):PT X (.UnaryOp .Not a pos) (ab9 tA):=by
 intro ak s σ H Q I h;exact isTrue_not (ha ak s σ H (λc H1=>Q (!c) H1) I h)
def XY(ta tb:TE):TE:=fun σ H Q=>ta σ H λx H1=>isB x H1 λc H1=>if c=true then tb σ H1 Q else Q (.bl false) H1
def XZ(ta:TE):TE:=fun σ H Q=>ta σ H λx H1=>isB x H1 λc H1=>Q (.bl (!c)) H1
theorem vO{op}{t:TE}(h:PE X a t):PE X (.BoolOp op [a] pos) t:=λak s σ H Q I hw=>BoolOp_one (h ak s σ H Q I hw)
def sR(ha:PE X a ta)(hb:PE X (.BoolOp .And (b::sQ) pos) tb):PE X (.BoolOp .And (a::b::sQ) pos) (XY ta tb):=by
 intro ak s σ H Q I h;refine BoolOp_and (cL (ha ak s σ H _ I h) λv s1 EO=>?_);let⟨x,H1,I1,r1,q1⟩:=EO;let⟨c,rfl,q1⟩:=q1;cases r1;refine wpAny_truthy_bool ?_
 cases c with
 | true=>exact hb ak s1 σ H1 Q I1 q1
 | false=>exact⟨.bl false,H1,I1,rfl,q1⟩
def UB(ha:PE X a ta):PE X (.UnaryOp .Not a pos) (XZ ta):=by
 intro ak s σ H Q I h;refine UnaryOp_ (cL (ha ak s σ H _ I h) λv s1 Ho=>?_);let⟨x,H1,I1,r1,q1⟩:=Ho;let⟨c,rfl,q1⟩:=q1;cases r1;exact not_of (wpAny_truthy_bool ⟨.bl (!c),H1,I1,rfl,q1⟩)
def tIf(t:TT)(ta tb:TE):TE:=fun σ H Q=>t σ H λc H1=>if c=true then ta σ H1 Q else tb σ H1 Q
def ER{c:Expr}(hc:PT X c tA)(ha:PE X a ta)(hb:PE X b tb):PE X (.IfExp c a b pos) (tIf tA ta tb):=by
 intro ak s σ H Q I h;refine wpAny_IfExp (cL (hc ak s σ H _ I h) λd s1 AF=>?_);let⟨H1,I1,q1⟩:=AF
 cases d with
 | true=>exact ha ak s1 σ H1 Q I1 q1
 | false=>exact hb ak s1 σ H1 Q I1 q1
end
end L2
namespace L2
open Spec Rows
def bG(K:PySem.W.Frag)(H:Hp)(a:Addr)(xs:List V):Prop :=
 Rd H a (.lst xs)\/
  ∃ (o:Obj) (aQ:Array Value) (n:Nat),K.lookup a=⇑o/\o.cls=.type "list"/\o.dict=none/\o.data=.seq aQ n/\aQ.size<=sizeLine/\bZ xs aQ.toList
def dN(K:PySem.W.Frag)(H:Hp)(a:Addr)(xs:List V):Prop :=
 Rd H a (.tup xs)\/
  ∃ (o:Obj) (aQ:Array Value) (n:Nat),K.lookup a=⇑o/\o.cls=.type "tuple"/\o.data=.seq aQ n/\aQ.size<=sizeLine/\bZ xs aQ.toList
def acd:Value->Option V
 | .none=>⇑.gj
 | .bool b=>⇑(.bl b)
 | .int i _=>⇑(.int i)
 | .str x _=>⇑(.str x)
 | .bytes b _=>⇑(.Hh b)
 | .float b _=>⇑(.Tn b)
 | .ref a=>⇑↥a
 | .type n=>⇑(.ty n)
 | _=>none
def RelV.abs{x:V}{u:Value}(r:RelV x u):acd u=⇑x:=by
 cases x with
 | gj=>cases r;rfl
 | bl _=>cases r;rfl
 | int _=>let⟨t,rfl⟩:=r;rfl
 | str _=>let⟨t,rfl⟩:=r;rfl
 | Hh _=>let⟨t,rfl⟩:=r;rfl
 | Tn _=>let⟨t,rfl⟩:=r;rfl
 | ref _=>cases r;rfl
 | ty _=>cases r;rfl
theorem RelV.inj{x y:V}{u:Value}(r:RelV x u)(q:RelV y u):x=y:=rL (r.abs.symm.trans q.abs)
theorem bZ.inj:∀ {xs ys:List V} {us:List Value},bZ xs us->bZ ys us->xs=ys
 | _,_,_,.nil,.nil=>rfl
 | _,_,_,.cons r t,.cons r' t'=>by rw[r.inj r',bZ.inj t t']
section
variable {X:Cx} {ak:List (Addr × Obj)} {σ:St} {H:Hp} {s:Shared} {a:Addr} {xs ys:List V}
theorem bG.of{K:PySem.W.Frag}(h:H a=⇑(.lst xs)):bG K H a xs:=.inl (.inl h)
theorem dN.of{K:PySem.W.Frag}(h:H a=⇑(.tup xs)):dN K H a xs:=.inl (.inl h)
def Inv.list(I:Inv X ak σ H s)(h:bG X.K H a xs):∃ aQ:List Value,bZ xs aQ/\PlainL s.heap a aQ.toArray/\↑xs<=sizeLine:=by
 rcases h with h|⟨o,aQ,n,hk,hc,hd,hs,hz,r⟩
 ·let⟨z,aQ,n,r,e⟩:=h.ok I.hok;exact⟨aQ,r,⟨_,n,e,V,rfl⟩,z⟩
 ·refine⟨aQ.toList,r,⟨o,n,I.uw a o hk,hc,hd,by simpa using hs⟩,?_⟩;have e:=↑r;simp only[Array.length_toList]at e;lia
def Inv.tuple(I:Inv X ak σ H s)(h:dN X.K H a xs):∃ aQ:List Value,bZ xs aQ/\IsTup s.heap a aQ.toArray/\↑xs<=sizeLine:=by
 rcases h with h|⟨o,aQ,n,hk,hc,hs,hz,r⟩
 ·let⟨z,aQ,r,p⟩:=h.ok I.hok;exact⟨aQ,r,p,z⟩
 ·refine⟨aQ.toList,r,⟨o,I.uw a o hk,hc,n,by simpa using hs⟩,?_⟩;have e:=↑r;simp only[Array.length_toList]at e;lia
def Inv.ES(I:Inv X ak σ H s)(h:bG X.K H a xs)(h':bG X.K H a ys):xs=ys:=by
 let⟨aQ,r,⟨o,n,e,_,_,d⟩,_⟩:=I.list h;let⟨its',r',⟨o',n',e',_,_,d'⟩,_⟩:=I.list h';rw[e]at e';cases e';rw[d]at d';injection d' with d1 _;have:aQ=its':=by simpa using congrArg Array.toList d1
 subst this;exact r.inj r'
def Inv.Bm(I:Inv X ak σ H s)(h:dN X.K H a xs)(h':dN X.K H a ys):xs=ys:=by
 let⟨aQ,r,⟨o,e,_,n,d⟩,_⟩:=I.tuple h;let⟨its',r',⟨o',e',_,n',d'⟩,_⟩:=I.tuple h';rw[e]at e';cases e';rw[d]at d';injection d' with d1 _;have:aQ=its':=by simpa using congrArg Array.toList d1
 subst this;exact r.inj r'
end
abbrev Cx.yQ(X:Cx)(E:Value->Shared->Prop):Cx:={ X with xe:=E }
abbrev Cx.Hq(X:Cx):Cx:=X.yQ λ_ _=>False
theorem Cx.Ok.yQ{X:Cx}(ok:X.Ok)(E:Value->Shared->Prop):(X.yQ E).Ok :=
 ⟨ok.mod,ok.kind,ok.glob,ok.blt,ok.above,ok.inj,ok.has,ok.Uv,ok.hd,ok.frames,ok.stk,ok.exf,ok.bs,ok.Qk,ok.Hj,ok.KQ,ok.rN,ok.QG⟩
theorem Cx.Ok.ng{X:Cx}{E:Value->Shared->Prop}(ok:(X.yQ E).Ok):X.Ok :=
 ⟨ok.mod,ok.kind,ok.glob,ok.blt,ok.above,ok.inj,ok.has,ok.Uv,ok.hd,ok.frames,ok.stk,ok.exf,ok.bs,ok.Qk,ok.Hj,ok.KQ,ok.rN,ok.QG⟩
section
variable {X:Cx} {ak:List (Addr × Obj)} {σ:St} {H:Hp} {s:Shared} {E:Value->Shared->Prop}
theorem Inv.yQ(I:Inv X ak σ H s)(E:Value->Shared->Prop):Inv (X.yQ E) ak σ H s:=⟨I.ok.yQ E,I.os,I.bare,I.zt,I.loc,I.cell,I.free,I.mJ,I.pin,I.hok,I.len⟩
theorem Inv.ng(I:Inv (X.yQ E) ak σ H s):Inv X ak σ H s:=⟨I.ok.ng,I.os,I.bare,I.zt,I.loc,I.cell,I.free,I.mJ,I.pin,I.hok,I.len⟩
def SP.ng{D:Ends}{f:Flow}{s':Shared}(h:SP (X.yQ E) ak D f s'):SP X ak D f s':=by
 cases f with
 | next=>let⟨σ',H',I,q⟩:=h;exact⟨σ',H',I.ng,q⟩
 | brk=>let⟨σ',H',I,q⟩:=h;exact⟨σ',H',I.ng,q⟩
 | cont=>let⟨σ',H',I,q⟩:=h;exact⟨σ',H',I.ng,q⟩
 | ret u=>let⟨v,σ',H',I,r,q⟩:=h;exact⟨v,σ',H',I.ng,r,q⟩
theorem EA.Hq{st:List Stmt}{t:TS}(h:EA X.Hq st t):EA X st t:=λak s σ H D I hw =>
 wpAny_mono (h ak s σ H D (I.yQ _) hw) (λ_ _ q=>q.ng) λ_ _ z=>False.elim z
end
section
variable {X:Cx} {st:Stmt} {sQ:List Stmt} {t u:TS} {e:Expr} {te:TE} {pos:Pos}
def X0:TS:=λD σ H=>D.nx σ H
def ace(t u:TS):TS:=λD σ H=>t { D with nx:=u D } σ H
theorem aW:EA X [] X0:=λ_ _ σ H _ I h=>wpAny_execs_nil ⟨σ,H,I,h⟩
def aj(h1:PS X st t)(h2:EA X sQ u):EA X (st::sQ) (ace t u):=by
 intro ak s σ H D I h;refine wpAny_execs_cons (cL (h1 ak s σ H { D with nx:=u D } I h) λf s1 q=>?_)
 cases f with
 | next =>
  let⟨σ',H',I',q⟩:=q;exact h2 ak s1 σ' H' D I' q
 | ret v=>exact q
 | brk=>exact q
 | cont=>exact q
def au(h1:PS X st t):EA X [st] t:=by
 intro ak s σ H D I h;refine wpAny_execs_cons (cL (h1 ak s σ H D I h) λf s1 q=>?_)
 cases f with
 | next=>exact wpAny_execs_nil q
 | ret v=>exact q
 | brk=>exact q
 | cont=>exact q
def X3:TS:=λD σ H=>D.ct σ H
theorem ET:PS X (.Continue pos) X3:=λ_ _ σ H _ I h=>wpAny_Continue ⟨σ,H,I,h⟩
def Inv.quiet{σ:St}{H:Hp}{s:Shared}(I:Inv X ak σ H s):interactive X.env=false:=by simp[interactive,I.ok.kind]
def X4(te:TE):TS:=λD σ H=>te σ H λ_ H1=>D.nx σ H1
def aV(he:PE X e te)(hs:swapsWith e none pos.line X.env=pure false:=by rfl):PS X (.Expr e pos) (X4 te):=by
 intro ak s σ H D I h;exact wpAny_Expr_any (cL (he ak s σ H _ I h) λv s1 ⟨x,H1,I1,r1,q1⟩=>⟨σ,H1,I1,q1⟩) I.quiet hs
def acf(te:TE):TS:=λD σ H=>te σ H D.rt
def aL(he:PE X e te):PS X (.Return (⇑e) pos) (acf te):=by
 intro ak s σ H D I h;exact wpAny_Return_some (cL (he ak s σ H _ I h) λv s1 ⟨x,H1,I1,r1,q1⟩=>⟨x,σ,H1,I1,r1,q1⟩)
def acg(c:TT)(t u:TS):TS:=λD σ H=>c σ H λb H1=>if b=true then t D σ H1 else u D σ H1
def bN{c:Expr}{a b:List Stmt}{tc:TT}(hc:PT X c tc)(ha:EA X a t)(hb:EA X b u):PS X (.If c a b pos) (acg tc t u):=by
 intro ak s σ H D I h;refine wpAny_If (cL (hc ak s σ H _ I h) λd s1 EM=>?_);let⟨H1,I1,q1⟩:=EM
 cases d with
 | true=>exact ha ak s1 σ H1 D I1 q1
 | false=>exact hb ak s1 σ H1 D I1 q1
def UC:TS:=λ_ _ _=>False
theorem jT:PS X st UC:=λ_ _ _ _ _ _ h=>h.elim
end
abbrev TG:=V->St->Hp->(St->Hp->Prop)->Prop
abbrev UD:=List V->St->Hp->(St->Hp->Prop)->Prop
def PG(X:Cx)(vP:Expr)(t:TG):Prop :=
 ∀ (ak:List (Addr × Obj)) (s:Shared) (σ:St) (H:Hp) (v:V) (u:Value) (Q:St->Hp->Prop),Inv X ak σ H s->RelV v u->t v σ H Q->
  wpAny (model X.prog X.w) X.A (assign vP X.env u) (λ_ s'=>∃ σ' H',Inv X ak σ' H' s'/\Q σ' H') X.xe s
def X5(X:Cx)(ts:List Expr)(t:UD):Prop :=
 ∀ (ak:List (Addr × Obj)) (s:Shared) (σ:St) (H:Hp) (vs:List V) (us:List Value) (Q:St->Hp->Prop),Inv X ak σ H s->bZ vs us->t vs σ H Q->
  wpAny (model X.prog X.w) X.A (assignInOrder ((assignEach ts X.env).map (·.2)) us) (λ_ s'=>∃ σ' H',Inv X ak σ' H' s'/\Q σ' H') X.xe s
abbrev UE:=V->V->V->Hp->(Hp->Prop)->Prop
def X6(X:Cx)(t:UE):Prop :=
 ∀ (ak:List (Addr × Obj)) (s:Shared) (σ:St) (H:Hp) (o i v:V) (ov iv u:Value) (Q:Hp->Prop),Inv X ak σ H s->RelV o ov->RelV i iv->RelV v u->t o i v H Q->
  wpAny (model X.prog X.w) X.A (setItem ov iv u) (λ_ s'=>∃ H',Inv X ak σ H' s'/\Q H') X.xe s
abbrev TIp:=V->V->Hp->VK->Prop
def PIp(X:Cx)(op:Operator)(t:TIp):Prop :=
 ∀ (ak:List (Addr × Obj)) (s:Shared) (σ:St) (H:Hp) (x y:V) (v u:Value) (Q:VK),Inv X ak σ H s->RelV x v->RelV y u->t x y H Q->
  wpAny (model X.prog X.w) X.A (inplaceOp op v u) (EP X ak σ Q) X.xe s
section
variable {X:Cx} {pos:Pos}
def rX(i:Nat):TG:=λv σ H Q=>Q (σ.set i (⇑v)) H
def QJ{i:Nat}{x:Str}(hN:X.N.Nodup)(hi:X.N[i]?=⇑x)(hx:Loc X.env.scope x)(hf:X.fn x=true\/X.env.scope.names.lookup x=⇑.local:=by first|exact .inl rfl|exact .inr rfl|assumption):PG X (.Name x pos) (rX i):=by
 intro ak s σ H v u Q I r h;exact wpAny_assign_Name (yO I hN hi hx r (λs' I'=>⟨_,H,I',h⟩) hf)
def aci:UD:=λvs σ H Q=>vs=[]/\Q σ H
inductive X7(t:TG)(u:UD)(vs:List V)(σ:St)(H:Hp)(Q:St->Hp->Prop):Prop
 | mk (v:V) (r:List V) (_:vs=v::r) (_:t v σ H fun σ' H'=>u r σ' H' Q)
def ie:X5 X [] aci:=by
 intro ak s σ H vs us Q I r h;let⟨e,h⟩:=h;subst e;cases r;exact assignInOrder_nil ⟨σ,H,I,h⟩
theorem cj{e:Expr}{es:List Expr}{t:TG}{u:UD}(h1:PG X e t)(h2:X5 X es u)
  (hs:(assignEach (e::es) X.env).map (·.2)=assign e X.env::(assignEach es X.env).map (·.2):=by rfl):X5 X (e::es) (X7 t u):=by
 intro ak s σ H vs us Q I r h;let⟨v,vr,e1,h⟩:=h;subst e1
 cases r with
 | cons r rr =>
  rw[hs];refine assignInOrder_cons (cL (h1 ak s σ H _ _ _ I r h) λ_ s1 AG=>?_);let⟨σ1,H1,I1,q1⟩:=AG;exact h2 ak s1 σ1 H1 _ _ Q I1 rr q1
inductive UG(K:PySem.W.Frag)(n:Nat)(t:UD)(v:V)(σ:St)(H:Hp)(Q:St->Hp->Prop):Prop
 | mk (a:Addr) (xs:List V) (_:v=↥a) (_:dN K H a xs) (_:↑xs=n) (_:t xs σ H Q):UG K n t v σ H Q
theorem oG{es:List Expr}{k:Nat}{t:UD}{n:Nat}(hc:X.calm=true)(h:X5 X es t)
  (hn:↑(assignEach es X.env)=n:=by rfl) (vQ:(assignEach es X.env).findIdx? (·.1)=none:=by rfl):PG X (.Tuple es k pos) (UG X.K n t):=by
 intro ak s σ H v u Q I r hw;let⟨a,xs,e1,hq,hl,hw⟩:=hw;subst e1;cases r;let⟨aQ,rv,ht,hz⟩:=I.tuple hq;refine assign_Tuple_tuple (I.ok.hd hc) ht (by simp[hn,← hl,rv.length]) vQ λh' hx=>?_;have I1:Inv X ak σ H { s with heap:=h' }:=I.kept (t':=s.toks) λb o e=>hx b o (jC (Heap.lt_size e)) e;exact h ak _ σ H xs _ Q I1 (by simpa using rv) hw
def acj(to ti:TE)(t:UE):TG:=λv σ H Q=>to σ H λo H1=>ti σ H1 λi H2=>t o i v H2 λH3=>Q σ H3
theorem nh{i:Expr}{to ti:TE}{t:UE}(ho:PE X o to)(hi:PE X i ti)(hs:X6 X t)
  (ha:∀ v,assign (.Subscript o i pos) X.env v=(do
   let ov ← holding [v] (eval o X.env)
   let iv ← holding [v,ov] (eval i X.env)
   standAt pos
   holding [v,ov,iv] (setItem ov iv v)
   release [v,ov,iv] []):=by intro _;rfl):PG X (.Subscript o i pos) (acj to ti t):=by
 intro ak s σ H v u Q I r h;rw[ha];refine wpAny_bind (wpAny_holding (cL (ho ak s σ H _ I h) λov s1 EN=>?_));let⟨x,H1,I1,r1,q1⟩:=EN;refine wpAny_bind (wpAny_holding (cL (hi ak s1 σ H1 _ I1 q1) λiv s2 EO=>?_));let⟨y,H2,I2,r2,q2⟩:=EO;refine wpAny_bind (wpAny_standAt (wpAny_bind (wpAny_holding (cL (hs ak s2 σ H2 x y v ov iv u _ I2 r1 r2 r q2) λ_ s3 Hr=>?_))));let⟨H3,I3,q3⟩:=Hr;exact wpAny_release ⟨σ,H3,I3,q3⟩
def M9(te:TE)(g:TG):TS:=λD σ H=>te σ H λx H1=>g x σ H1 D.nx
theorem lN{e:Expr}{te:TE}{g:TG}(he:PE X e te)(hg:PG X tg g)(hs:swapsWithSole [tg] e pos.line X.env=pure false:=by rfl)(hw:swappedStores [tg] e X.env=pure none:=by rfl)
  (h1:(assignEach [tg] X.env).map (·.2)=[assign tg X.env]:=by rfl):PS X (.Assign [tg] e pos) (M9 te g):=by
 intro ak s σ H D I h;refine wpAny_Assign_stores (cL (he ak s σ H _ I h) λv s1 ⟨x,H1,I1,r1,q1⟩=>?_) hs hw;rw[h1];exact cL (hg ak s1 σ H1 x v _ I1 r1 q1) λ_ s2 q=>q
theorem UH{i:Nat}{x:Str}{e:Expr}{te:TE}(hN:X.N.Nodup)(hi:X.N[i]?=⇑x)(hx:Loc X.env.scope x)(he:PE X e te)(hs:swapsWith e (⇑(.Name x iJ)) pos.line X.env=pure false:=by rfl)(hf:X.fn x=true\/X.env.scope.names.lookup x=⇑.local:=by first|exact .inl rfl|exact .inr rfl|assumption) :
  PS X (.Assign [.Name x iJ] e pos) (M9 te (rX i)):=by
 intro ak s σ H D I h;refine wpAny_Assign_Name (cL (he ak s σ H _ I h) λv s1 ⟨y,H1,I1,r1,q1⟩=>?_) hs;exact yO I1 hN hi hx r1 (λs2 I2=>⟨_,H1,I2,q1⟩) hf
def ack(i:Nat)(te:TE)(ti:TIp):TS:=λD σ H=>∃ x,σ[i]?=⇑(⇑x)/\te σ H λy H1=>ti x y H1 λz H2=>D.nx (σ.set i (⇑z)) H2
def vR{i:Nat}{x:Str}{e:Expr}{te:TE}{op:Operator}{ti:TIp}{iJ:Pos}(hN:X.N.Nodup)(hi:X.N[i]?=⇑x)(hx:Loc X.env.scope x)(he:PE X e te)(ho:PIp X op ti)(hf:X.fn x=true\/X.env.scope.names.lookup x=⇑.local:=by first|exact .inl rfl|exact .inr rfl|assumption) :
  PS X (.AugAssign (.Name x iJ) op e pos) (ack i te ti):=by
 intro ak s σ H D I h;let⟨v,e1,h⟩:=h;let⟨m,hn,hl⟩:=I.loc;have vis:Vis X.env.scope x:=by rcases hx with k|k;exact .inl k;exact .inr (.inl k)
 let⟨u,r,l⟩:=hl i x v hi e1 vis;refine wpAny_AugAssign_Name ?_
 have go:wpAny (model X.prog X.w) X.A (eval e X.env) (λw s₂=>wpAny (model X.prog X.w) X.A (inplaceOp op u w) (λr s₃=>wpAny (model X.prog X.w) X.A (storeName X.env x r) (λ_=>SP X ak D .next) X.xe s₃) X.xe s₂) X.xe s:=by
  refine cL (he ak s σ H _ I h) λw s1 AF=>?_;let⟨y,H1,I1,r1,q1⟩:=AF;refine cL (ho ak s1 σ H1 v y u w _ I1 r r1 q1) λz s2 EM=>?_;let⟨zv,H2,I2,r2,q2⟩:=EM;exact yO I2 hN hi hx r2 (λs3 I3=>⟨_,H2,I3,q2⟩) hf
 rcases l with ⟨hk,hm⟩|⟨hk,c,hc,hcell⟩
 ·exact wpAny_loadName_local I.ok.kind hk hn hm go
 ·rcases hk with hk|hk
  ·exact wpAny_loadName_cell I.ok.kind hk hc hcell go
  ·rcases hx with k|k
   ·have:X.env.scope.names.lookup x=⇑.free:=hk;rw[k]at this;cases this
   ·have:X.env.scope.names.lookup x=⇑.free:=hk;rw[k]at this;cases this
def ipI(f:Int->Int->Int):TIp:=λx y H Q=>∃ i j,x=.int i/\y=.int j/\Q (.int (f i j)) H
def Na:PIp X .Add (ipI λi j=>i+j):=by
 intro ak s σ H x y v u Q I r1 r2 h;let⟨i,j,e1,e2,q⟩:=h;subst e1;subst e2;let⟨t,rfl⟩:=r1;let⟨t',rfl⟩:=r2;exact iadd_int ⟨.int _,H,I.tok _,⟨Y⟩,q⟩
end
section
variable {X:Cx} {pos:Pos}
def UI(c:TT)(tb:TS):TS:=λD σ H=>∃ W:Nat->St->Hp->Prop,(∃ m,W m σ H)/\∀ m σ H,W m σ H->
 c σ H λb H1=>if b=true then ∃ N:St->Hp->Prop,(∀ σ' H',N σ' H'->∃ m',m'<m/\W m' σ' H')/\tb { D with nx:=N,ct:=N,bk:=D.nx } σ H1 else D.nx σ H1
def qj{c:Expr}{tc:TT}{tb:TS}(hp:PassesOwn (model X.prog X.w) X.A X.env X.xe)(hc:PT X c tc)(hb:EA X body tb):PS X (.While c body [] pos) (UI tc tb):=by
 intro ak s σ H D I h;let⟨W,⟨m0,w0⟩,oH⟩:=h;refine wpAny_While (codeAny_whileLoop (λn s'=>∃ σ' H',Inv X ak σ' H' s'/\W n σ' H') ?_ m0 ⟨σ,H,I,w0⟩);rintro n s1 ⟨σ1,H1,I1,w1⟩;refine wpAny_passesOwn hp (cL (hc ak s1 σ1 H1 _ I1 (oH n σ1 H1 w1)) λb s2 Ho=>?_);let⟨H2,I2,q2⟩:=Ho
 cases b with
 | true =>
  let⟨N,hN,q2⟩:=q2;rw[if_pos rfl];refine wpAny_passesOwn hp (cL (hb ak s2 σ1 H2 _ I2 q2) λf s3 q3=>?_)
  cases f with
  | next =>
   let⟨σ3,H3,I3,n3⟩:=q3;let⟨m',hm,w3⟩:=hN σ3 H3 n3;exact⟨m',hm,σ3,H3,I3,w3⟩
  | cont =>
   let⟨σ3,H3,I3,n3⟩:=q3;let⟨m',hm,w3⟩:=hN σ3 H3 n3;exact⟨m',hm,σ3,H3,I3,w3⟩
  | brk=>exact q3
  | ret v=>exact q3
 | false =>
  rw[if_neg fL];exact wpAny_execs_nil ⟨σ1,H2,I2,q2⟩
end
structure It where
 go:Nat->Hp->Prop
 Nb:Nat->Hp->V->Hp->Prop
 stop:Nat->Hp->Prop
def oJ(X:Cx)(ak:List (Addr × Obj))(H:Hp)(b:Addr):Prop :=
 H b=none/\b≠X.env.locals/\b∉X.fs/\(b∈X.ex\/X.s₀.heap.objs.size<=b)/\(∀ x c,X.env.cells.lookup x=⇑c->c≠b)/\∀ p∈X.pn++ak,p.1≠b
def Inv.KU{X:Cx}{σ:St}{H H':Hp}{s:Shared}{b:Addr}(I:Inv X ak σ H s)(hb:s.heap.objs.size<=b)(hn:H' b=none):oJ X ak H' b:=by
 refine⟨hn,Nat.ne_of_gt (pW I.lt hb),I.ab3 hb,.inr (jf I.sz hb),λx c e z=>?_,λp hp z=>?_⟩
 ·let⟨v,q⟩:=I.cell x c e;exact absurd (pW q.lt (by rw[z];exact hb)) (Nat.lt_irrefl _)
 ·exact absurd (pW (Heap.lt_size (I.pin p hp).1) (by rw[z];exact hb)) (Nat.lt_irrefl _)
structure Hs(P:Program)(w:World)(K:PySem.W.Frag)(tg:Expr)(J:It)(fp:List Addr)(it:Addr)(tn:Nat->Heap->Prop):Prop where
 mem:it∈fp
 obj:∀ i h,tn i h->∀ b∈fp,∃ o,h.get? b=⇑o/\∀ v,o.data≠.cell v
 keep:∀ i h h',tn i h->(∀ b∈fp,∀ o,h.get? b=⇑o->h'.get? b=⇑o)->tn i h'
 item:∀ (X:Cx),X.prog=P->X.w=w->X.K=K->X.calm=true->∀ (i:Nat) (ak:List (Addr × Obj)) (s:Shared) (σ:St) (H:Hp) (E:Value->Shared->Prop),Inv X ak σ H s->(∀ b∈fp,oJ X ak H b)->tn i s.heap->J.go i H->
  wpAny (model P w) X.A (pyNext ↥it) (λr s1=>∃ u,r=⇑u/\
   wpAny (model P w) X.A (letOwnedTupleGo tg ↥it u) (λ_ s2=>∃ x H',Inv X ak σ H' s2/\RelV x u/\J.Nb i H x H'/\tn (i+1) s2.heap/\∀ b∈fp,H' b=none) E s1) E s
 done:∀ (X:Cx),X.prog=P->X.w=w->X.K=K->X.calm=true->∀ (i:Nat) (ak:List (Addr × Obj)) (s:Shared) (σ:St) (H:Hp) (E:Value->Shared->Prop),Inv X ak σ H s->(∀ b∈fp,oJ X ak H b)->tn i s.heap->J.stop i H->
  wpAny (model P w) X.A (pyNext ↥it) (λr s1=>r=none/\Inv X ak σ H s1) E s
 self:∀ (A:Around) (i:Nat) (s:Shared) (Q:Value->Shared->Prop) (E:Value->Shared->Prop),tn i s.heap->Q ↥it s->wpAny (model P w) A (pyIter ↥it) Q E s
abbrev TI:=St->Hp->(It->Hp->Prop)->Prop
def PIE(X:Cx)(ak:List (Addr × Obj))(σ:St)(tg:Expr)(R:It->Hp->Prop)(X8:Value)(s2:Shared):Prop :=
 ∃ (it:Addr) (fp:List Addr) (tn:Nat->Heap->Prop) (J:It) (H':Hp),X8=↥it/\Inv X ak σ H' s2/\Hs X.prog X.w X.K tg J fp it tn/\tn 0 s2.heap/\(∀ b∈fp,oJ X ak H' b)/\R J H'
def PI(X:Cx)(tg iter:Expr)(wi:TI):Prop :=
 ∀ (ak:List (Addr × Obj)) (s:Shared) (σ:St) (H:Hp) (R:It->Hp->Prop),Inv X ak σ H s->wi σ H R->
  wpAny (model X.prog X.w) X.A (eval iter X.env) (λv s1=>wpAny (model X.prog X.w) X.A (pyIter v) (PIE X ak σ tg R) X.xe s1) X.xe s
theorem EU{M:Model}{A:Around}{E:Value->Shared->Prop}{s:Shared}{it:Addr}{u:Value}{o:Obj}{n:String}{vs:Array Value}{Q:Unit->Shared->Prop}(ho:s.heap.get? it=⇑o)(hc:o.cls=.type n)(hd:o.data=.fields vs)
  (hn:["enumerate","zip","dict_itemiterator","dict_reverseitemiterator","odict_iterator","itertools.zip_longest","itertools.pairwise"].contains n=false) (hQ:Q () s):wpAny M A (letOwnedTupleGo tg ↥it u) Q E s:=by
 unfold letOwnedTupleGo
 cases tg <;> first
  | exact wpAny_pure hQ
  | (cases u <;> first
    | exact wpAny_pure hQ
    | (refine wpAny_bind (wpAny_load ho ?_);rw[hc,hd];show wpAny M A (if (["enumerate","zip","dict_itemiterator","dict_reverseitemiterator","odict_iterator","itertools.zip_longest","itertools.pairwise"].contains n&&vs[0]? == some (rawInt _))=true then _ else _) Q E s;rw[if_neg (by intro h;rw[hn,Bool.false_and]at h;cases h)];exact wpAny_pure hQ))
def Qm(K:PySem.W.Frag)(a:Addr):It :=
 ⟨λi H=>∃ xs x,bG K H a xs/\xs[i]?=⇑x,λi H x H'=>H'=H/\∀ xs,bG K H a xs->xs[i]?=⇑x,λi H=>∃ xs,bG K H a xs/\↑xs<=i⟩
def X9(K:PySem.W.Frag)(a:Addr):It :=
 ⟨λi H=>∃ xs x,dN K H a xs/\xs[i]?=⇑x,λi H x H'=>H'=H/\∀ xs,dN K H a xs->xs[i]?=⇑x,λi H=>∃ xs,dN K H a xs/\↑xs<=i⟩
def KW(lo:Int)(n:Nat):It:=⟨λi _=>i<n,λi H x H'=>H'=H/\x=.int (lo+i),λi _=>n<=i⟩
theorem KY{P:Program}{w:World}{K:PySem.W.Frag}(a it:Addr):Hs P w K tg (Qm K a) [it] it (λi h=>h.IsListIter it a i) where
 mem:=by simp
 obj:=λi h st b hb=>by
  have e:b=it:=by simpa using hb
  subst e;let⟨o,e,c,d⟩:=st;exact⟨o,e,λv z=>by rw[d]at z;cases z⟩
 keep:=λi h h' st k=>st.at λo e=>k it (by simp) o e
 item:=by
  intro X hP hw hK hc i ak s σ H E I hf st hg;subst hP hw hK;let⟨xs,x,hq,hx⟩:=hg;let⟨aQ,rv,p,hz⟩:=I.list hq;let⟨u,hu,ru⟩:=rv.get hx;let⟨f0,f1,f2,f3,f4,f5⟩:=hf it (by simp);refine wpAny_pyNext_list_item st p.isList (x:=u) (by simpa using hu) λh' CP sb=>?_;have I1:Inv X ak σ H { s with heap:=h' }:=I.turned (t':=s.toks) (λb o hb e=>(sb.2 b hb).trans e) f0 f1 f3 f4 f5;let⟨o,e,c,d⟩:=id CP;exact⟨u,rfl,EU (s:={ s with heap:=h' }) e c d (by decide) ⟨x,H,I1,ru,⟨rfl,λys hy=>by rw[I.ES hy hq];exact hx⟩,CP,λb hb=>(hf b hb).1⟩⟩
 done:=by
  intro X hP hw hK hc i ak s σ H E I hf st hg;subst hP hw hK;let⟨xs,hq,hx⟩:=hg;let⟨aQ,rv,p,hz⟩:=I.list hq;let⟨f0,f1,f2,f3,f4,f5⟩:=hf it (by simp);have hl:=↑rv;exact wpAny_pyNext_list_end (I.ok.hd hc) st p.isList (by simp;lia) λh' eb=>⟨rfl,I.turned (t':=s.toks) (λb o hb e=>eb b o hb e) f0 f1 f3 f4 f5⟩
 self:=λ_ _ _ _ _ st h=>wpAny_pyIter_listiter st h
theorem Ht{P:Program}{w:World}{K:PySem.W.Frag}(a it:Addr):Hs P w K tg (X9 K a) [it] it (λi h=>h.IsTupleIter it a i) where
 mem:=by simp
 obj:=λi h st b hb=>by
  have e:b=it:=by simpa using hb
  subst e;let⟨o,e,c,d⟩:=st;exact⟨o,e,λv z=>by rw[d]at z;cases z⟩
 keep:=λi h h' st k=>st.at λo e=>k it (by simp) o e
 item:=by
  intro X hP hw hK hc i ak s σ H E I hf st hg;subst hP hw hK;let⟨xs,x,hq,hx⟩:=hg;let⟨aQ,rv,p,hz⟩:=I.tuple hq;let⟨u,hu,ru⟩:=rv.get hx;let⟨f0,f1,f2,f3,f4,f5⟩:=hf it (by simp);refine wpAny_pyNext_tuple_item st (show s.heap.IsTuple a aQ.toArray from p) (x:=u) (by simpa using hu) λh' CP sb=>?_;have I1:Inv X ak σ H { s with heap:=h' }:=I.turned (t':=s.toks) (λb o hb e=>(sb.2 b hb).trans e) f0 f1 f3 f4 f5;let⟨o,e,c,d⟩:=id CP;exact⟨u,rfl,EU (s:={ s with heap:=h' }) e c d (by decide) ⟨x,H,I1,ru,⟨rfl,λys hy=>by rw[I.Bm hy hq];exact hx⟩,CP,λb hb=>(hf b hb).1⟩⟩
 done:=by
  intro X hP hw hK hc i ak s σ H E I hf st hg;subst hP hw hK;let⟨xs,hq,hx⟩:=hg;let⟨aQ,rv,p,hz⟩:=I.tuple hq;let⟨f0,f1,f2,f3,f4,f5⟩:=hf it (by simp);have hl:=↑rv;exact wpAny_pyNext_tuple_end (I.ok.hd hc) st (show s.heap.IsTuple a aQ.toArray from p) (by simp;lia) λh' eb=>⟨rfl,I.turned (t':=s.toks) (λb o hb e=>eb b o hb e) f0 f1 f3 f4 f5⟩
 self:=λ_ _ _ _ _ st h=>wpAny_pyIter_tupleiter st h
theorem yR{P:Program}{w:World}{K:PySem.W.Frag}(it:Addr)(lo:Int)(n:Nat):Hs P w K tg (KW lo n) [it] it (λi h=>IsRangeIter h it (lo+(i:Nat)*1) ((n:Int)-(i:Nat)) 1) where
 mem:=by simp
 obj:=λi h st b hb=>by
  have e:b=it:=by simpa using hb
  subst e
  exact⟨_,st,λv z=>by
   have z':Data.fields _=Data.cell v:=z
   cases z'⟩
 keep:=λi h h' st k=>k it (by simp) _ st
 item:=by
  intro X hP hw hK hc i ak s σ H E I hf st hg;subst hP hw hK;let⟨f0,f1,f2,f3,f4,f5⟩:=hf it (by simp);have W:=Walks.range (prog:=X.prog) (w:=X.w) (I.ok.hd hc) it lo 1 n;refine W.item i s _ _ hg st λv h' tk hv CP kk=>?_;let⟨t,rfl⟩:=hv;have I1:Inv X ak σ H { s with heap:=h',toks:=tk }:=I.turned (λb o hb e=>kk b o (by simpa using hb) e) f0 f1 f3 f4 f5;refine⟨Y,EU (s:={ s with heap:=h',toks:=tk }) (n:="range_iterator") CP rfl rfl (by decide) ⟨.int (lo+i),H,I1,⟨t,?_⟩,⟨V⟩,CP,λb hb=>(hf b hb).1⟩⟩;rw[Int.mul_one]
 done:=by
  intro X hP hw hK hc i ak s σ H E I hf st hg;subst hP hw hK;let⟨f0,f1,f2,f3,f4,f5⟩:=hf it (by simp);exact wpAny_pyNext_range_end (I.ok.hd hc) st (by have:n<=i:=hg;lia) λh' eb=>⟨rfl,I.turned (t':=s.toks) (λb o hb e=>eb b o hb e) f0 f1 f3 f4 f5⟩
 self:=λ_ _ _ _ _ st h=>wpAny_pyIter_rangeiter st h
end L2
namespace L2
open Spec Rows
section
variable {X:Cx} {tg:Expr}
inductive isL(K:PySem.W.Frag)(x:V)(H:Hp)(R:It->Hp->Prop):Prop
 | mk (a:Addr) (_:x=↥a) (_:∃ xs,bG K H a xs) (_:R (Qm K a) H)
def Tq(K:PySem.W.Frag)(tl:TE):TI:=fun σ H R=>tl σ H λx H1=>isL K x H1 R
def acn(K:PySem.W.Frag)(tl:TE):TI:=fun σ H R=>tl σ H λx H1=>∃ a,x=↥a/\(∃ xs,dN K H1 a xs)/\R (X9 K a) H1
def ck{l:Expr}{tl:TE}(hl:PE X l tl):PI X tg l (Tq X.K tl):=by
 intro ak s σ H R I h;refine cL (hl ak s σ H _ I h) λv s1 AF=>?_;let⟨x,H1,I1,r1,q1⟩:=AF;let⟨a,e,⟨xs,hq⟩,q⟩:=q1;subst e;cases r1;let⟨aQ,rv,p,hz⟩:=I1.list hq;refine wpAny_pyIter_list p.isList ?_;refine⟨s1.heap.objs.size,[s1.heap.objs.size],Q,H1,rfl,I1.kept (t':=s1.toks) λb o e=>Heap.get?_push_of_some _ e,KY a _,⟨_,Heap.get?_push_size _ rfl,V⟩,λb hb=>?_,q⟩;have e:b=s1.heap.objs.size:=by simpa using hb
 subst e;exact I1.KU (fK _) (I1.hok.fresh (fK _))
def UJ{l:Expr}{tl:TE}(hl:PE X l tl):PI X tg l (acn X.K tl):=by
 intro ak s σ H R I h;refine cL (hl ak s σ H _ I h) λv s1 EM=>?_;let⟨x,H1,I1,r1,q1⟩:=EM;let⟨a,e,⟨xs,hq⟩,q⟩:=q1;subst e;cases r1;let⟨aQ,rv,p,hz⟩:=I1.tuple hq;refine wpAny_pyIter_tuple (show s1.heap.IsTuple a aQ.toArray from p) ?_;refine⟨s1.heap.objs.size,[s1.heap.objs.size],Q,H1,rfl,I1.kept (t':=s1.toks) λb o e=>Heap.get?_push_of_some _ e,Ht a _,⟨_,Heap.get?_push_size _ rfl,V⟩,λb hb=>?_,q⟩;have e:b=s1.heap.objs.size:=by simpa using hb
 subst e;exact I1.KU (fK _) (I1.hok.fresh (fK _))
theorem Nc{σ:St}{H:Hp}{s:Shared}{R:It->Hp->Prop}{E:Value->Shared->Prop}{lo hi:Int}{t u v:Tok}{tk:Nat}(I:Inv X ak σ H s)(h1:-(2^62)<=lo)(h2:lo<2^62)(h3:-(2^62)<=hi)(h4:hi<2^62)
  (q:R (KW lo (hi-lo).toNat) H):wpAny (model X.prog X.w) X.A (pyIter ↥s.heap.objs.size) (PIE X ak σ tg R) E { s with heap:=s.heap.push { cls:=.type "range",data:=.fields #[.int lo t,.int hi u,.int 1 v] },toks:=tk }:=by
 refine wpAny_pyIter_range (IsRange.new ..) (small_one h1 h2 h3 h4) ?_;have I1:Inv X ak σ H { s with heap:=s.heap.push { cls:=.type "range",data:=.fields #[.int lo t,.int hi u,.int 1 v] },toks:=tk }:=I.kept λb o e=>Heap.get?_push_of_some _ e;refine⟨(s.heap.push { cls:=.type "range",data:=.fields #[.int lo t,.int hi u,.int 1 v] }).objs.size,[(s.heap.push { cls:=.type "range",data:=.fields #[.int lo t,.int hi u,.int 1 v] }).objs.size],Q,H,rfl, I1.kept (t':=tk) λb o e=>Heap.get?_push_of_some _ e,yR _ lo (hi-lo).toNat,?_,λb hb=>?_,q⟩
 ·have e1:lo+((0:Nat):Int)*1=lo:=by simp
  have e2:(((hi-lo).toNat:Nat):Int)-((0:Nat):Int)=Builtin.Range.rangeSize lo hi 1:=by rw[rangeSize_one];split <;> lia
  show IsRangeIter _ _ (lo+((0:Nat):Int)*1) ((((hi-lo).toNat:Nat):Int)-((0:Nat):Int)) 1;rw[e1,e2];exact Heap.get?_push_size _ rfl
 ·have e:b=(s.heap.push { cls:=.type "range",data:=.fields #[.int lo t,.int hi u,.int 1 v] }).objs.size:=by simpa using hb
  subst e;exact I1.KU (fK _) (I1.hok.fresh (fK _))
inductive isR(vs:List V)(H:Hp)(R:It->Hp->Prop):Prop
 | mk (j:Int) (_:vs=[.int j]) (_:-(2^62)<=j) (_:j<2^62) (_:R (KW 0 j.toNat) H)
def Yb(ta:TA):TI:=fun σ H R=>ta σ H λvs H1=>isR vs H1 R
def jJ{a:Expr}{ta:TA}{p:Pos}(hg:Gl X "range")(hm:X.mg "range"=none)(ha:PA X [a] ta)(hs:starEach [a] X.env=[(false,eval a X.env)]:=by rfl):PI X tg (.Call (.Name "range" p) [a] [] pos) (Yb ta):=by
 intro ak s σ H R I h;refine Call_ (vN I hg hm boot_range (PyProof.Rows.callWith_type1 (cL (ha pos ak s σ H _ I h) λus s1 ⟨vs,H1,I1,r1,q1⟩=>?_) hs rfl));let⟨j,e,q1,q2,q⟩:=q1;subst e
 cases r1 with
 | cons r rr =>
  cases rr;let⟨t,rfl⟩:=r;exact call_range_1 (Nc I1 ∅ ∅ q1 q2 (by simpa using q))
def aco(wi:TI)(g:TG)(tb:TS):TS:=λD σ H=>wi σ H λJ H1=>∃ W:Nat->Nat->St->Hp->Prop,(∃ m,W 0 m σ H1)/\∀ i m σ H,W i m σ H->
 (J.stop i H/\D.nx σ H)\/(J.go i H/\∃ N:St->Hp->Prop,(∀ σ' H',N σ' H'->∃ m',m'<m/\W (i+1) m' σ' H')/\∀ x H',J.Nb i H x H'->g x σ H' fun σ2 H2=>tb { D with nx:=N,ct:=N,bk:=D.nx } σ2 H2)
def sS(fp:List Addr)(h:Heap):List (Addr × Obj):=fp.filterMap λb=>(h.get? b).map λo=>(b,o)
theorem gP{fp:List Addr}{h:Heap}{b:Addr}{o:Obj}(hb:b∈fp)(e:h.get? b=⇑o):(b,o)∈sS fp h:=List.mem_filterMap.mpr ⟨b,hb,by rw[e];rfl⟩
def KZ{fp:List Addr}{h:Heap}{p:Addr × Obj}(hp:p∈sS fp h):p.1∈fp/\h.get? p.1=⇑p.2:=by
 let⟨b,hb,e⟩:=List.mem_filterMap.mp hp
 cases q:h.get? b with
 | none=>rw[q]at e;cases e
 | some o =>
  rw[q]at e;have e':(b,o)=p:=rL e;subst e';exact⟨hb,q⟩
theorem Inv.pinned{σ:St}{H:Hp}{s:Shared}{fp:List Addr}(I:Inv X ak σ H s)(hf:∀ b∈fp,oJ X ak H b)(ho:∀ b∈fp,∃ o,s.heap.get? b=⇑o/\∀ v,o.data≠.cell v):Inv X (ak++sS fp s.heap) σ H s :=
 I.JD λp hp=>(List.mem_append.mp hp).elim (λz=>I.pin p (nP _ z)) λz=>by
  let⟨hb,e⟩:=KZ z;let⟨f0,f1,f2,_⟩:=hf p.1 hb;let⟨o,e',d⟩:=ho p.1 hb;rw[e]at e';cases e';exact⟨e,f0,f1,f2,d⟩
theorem Inv.nQ{pl:List (Addr × Obj)}{σ:St}{H:Hp}{s:Shared}(I:Inv X (ak++pl) σ H s):Inv X ak σ H s:=I.JD λp hp=>I.pin p (nP _ (pV _ hp))
theorem d9{iter:Expr}{wi:TI}{g:TG}{tb:TS}(hp:PassesOwn (model X.prog X.w) X.A X.env X.xe)(hc:X.calm=true)(hi:PI X tg iter wi)(hg:PG X tg g)(hb:EA X body tb)
  (hs:∀ x,foldedSetIterable iter X.env x=pure x:=by intro _;rfl):PS X (.For tg iter body [] pos) (aco wi g tb):=by
 intro ak s σ H D I h;refine wpAny_For (cL (hi ak s σ H _ I h) λv s1 h1=>cL h1 λX8 s2 h2=>?_) hs;let⟨it,fp,tn,J,H2,e,I2,T,st2,f2,W,⟨m0,w0⟩,oH⟩:=h2;subst e;have sU:∀ {H':Hp},(∀ b∈fp,H' b=none)->∀ b∈fp,oJ X ak H' b:=λhn b hb=>⟨hn b hb,(f2 b hb).2⟩;refine codeAny_forLoop_any (λn s'=>∃ i σ' H',Inv X ak σ' H' s'/\tn i s'.heap/\(∀ b∈fp,H' b=none)/\W i n σ' H') ?_ m0 ⟨0,σ,H2,I2,st2,λb hb=>(f2 b hb).1,w0⟩;rintro n s3 ⟨i,σ3,H3,I3,st3,K0,w3⟩;rcases oH i n σ3 H3 w3 with ⟨stop,qn⟩|⟨go,N,hN,step⟩
 ·refine wpAny_passesOwn hp (cL (T.done X rfl rfl rfl hc i ak s3 σ3 H3 X.xe I3 (sU K0) st3 stop) λr s4 AG=>?_);let⟨hr,I4⟩:=AG;subst hr;exact wpAny_execs_nil ⟨σ3,H3,I4,qn⟩
 ·refine wpAny_passesOwn hp (cL (T.item X rfl rfl rfl hc i ak s3 σ3 H3 X.xe I3 (sU K0) st3 go) λr s4 EN=>?_);let⟨u,hr,h4⟩:=EN;subst hr;refine wpAny_passesOwn hp (cL h4 λ_ s5 EO=>?_);let⟨x,H5,I5,r5,y5,Xe,UK⟩:=EO;have I5':=I5.pinned (sU UK) (T.obj _ _ Xe);refine wpAny_passesOwn hp (cL (hg _ s5 σ3 H5 x u _ I5' r5 (step x H5 y5)) λ_ s6 Hr=>?_);let⟨σ6,H6,I6,q6⟩:=Hr;refine wpAny_passesOwn hp (cL (hb _ s6 σ6 H6 _ I6 q6) λf s7 q7=>?_)
  have again:∀ {σ7:St} {H7:Hp},Inv X (ak++sS fp s5.heap) σ7 H7 s7->N σ7 H7->∃ m,m<n/\∃ i σ' H',Inv X ak σ' H' s7/\tn i s7.heap/\(∀ b∈fp,H' b=none)/\W i m σ' H':=λ{σ7 H7} I7 n7=>by
   let⟨m',hm,w7⟩:=hN σ7 H7 n7;refine⟨m',hm,i+1,σ7,H7,I7.nQ,T.keep _ _ _ Xe λb hb o e=>(I7.pin (b,o) (nP _ (nP _ (gP hb e)))).1,λb hb=>?_,w7⟩;let⟨o,e,d⟩:=T.obj _ _ Xe b hb;exact (I7.pin (b,o) (nP _ (nP _ (gP hb e)))).2.1
  cases f with
  | next=>let⟨σ7,H7,I7,n7⟩:=q7;exact again I7 n7
  | cont=>let⟨σ7,H7,I7,n7⟩:=q7;exact again I7 n7
  | brk=>let⟨σ7,H7,I7,q7⟩:=q7;exact⟨σ7,H7,I7.nQ,q7⟩
  | ret v=>let⟨x7,σ7,H7,I7,r7,q7⟩:=q7;exact⟨x7,σ7,H7,I7.nQ,r7,q7⟩
end
theorem cV{K:PySem.W.Frag}{a:Addr}{xs:List V}{g:TG}{tb:TS}{D:Ends}{σ:St}{H:Hp}(Pv:Nat->St->Hp->Prop)(h0:Pv 0 σ H)(hl:∀ i σ H,i<=↑xs->Pv i σ H->bG K H a xs)
  (hs:∀ i x σ H,xs[i]?=⇑x->Pv i σ H->g x σ H fun σ2 H2=>tb { D with nx:=Pv (i+1),ct:=Pv (i+1),bk:=D.nx } σ2 H2) (hd:∀ σ H,Pv ↑xs σ H->D.nx σ H) :
  ∃ W:Nat->Nat->St->Hp->Prop,(∃ m,W 0 m σ H)/\∀ i m σ H,W i m σ H->
   ((Qm K a).stop i H/\D.nx σ H)\/((Qm K a).go i H/\∃ N:St->Hp->Prop,(∀ σ' H',N σ' H'->∃ m',m'<m/\W (i+1) m' σ' H')/\∀ x H',(Qm K a).Nb i H x H'->g x σ H' fun σ2 H2=>tb { D with nx:=N,ct:=N,bk:=D.nx } σ2 H2):=by
 refine⟨λi m σ H=>m=↑xs-i/\i<=↑xs/\Pv i σ H,⟨↑xs,by simp,Nat.zero_le _,h0⟩,?_⟩;rintro i m σ H ⟨rfl,hi,p⟩;have q:=hl i σ H hi p;by_cases pJ:i<↑xs
 ·refine .inr ⟨⟨xs,xs[i],q,by simp[pJ]⟩,Pv (i+1),fun σ' H' p'=>⟨↑xs-(i+1),E,rfl,pJ,p'⟩,λx H' y=>?_⟩;let⟨e,y⟩:=y;subst e;exact hs i x σ _ (y xs q) p
 ·have e:i=↑xs:=by lia
  subst e;exact .inl ⟨⟨xs,q,fK _⟩,hd σ H p⟩
theorem QK{K:PySem.W.Frag}{a:Addr}{xs:List V}{g:TG}{tb:TS}{D:Ends}{σ:St}{H:Hp}(Pv:Nat->St->Hp->Prop)(h0:Pv 0 σ H)(hl:∀ i σ H,i<=↑xs->Pv i σ H->dN K H a xs)
  (hs:∀ i x σ H,xs[i]?=⇑x->Pv i σ H->g x σ H fun σ2 H2=>tb { D with nx:=Pv (i+1),ct:=Pv (i+1),bk:=D.nx } σ2 H2) (hd:∀ σ H,Pv ↑xs σ H->D.nx σ H) :
  ∃ W:Nat->Nat->St->Hp->Prop,(∃ m,W 0 m σ H)/\∀ i m σ H,W i m σ H->
   ((X9 K a).stop i H/\D.nx σ H)\/((X9 K a).go i H/\∃ N:St->Hp->Prop,(∀ σ' H',N σ' H'->∃ m',m'<m/\W (i+1) m' σ' H')/\∀ x H',(X9 K a).Nb i H x H'->g x σ H' fun σ2 H2=>tb { D with nx:=N,ct:=N,bk:=D.nx } σ2 H2):=by
 refine⟨λi m σ H=>m=↑xs-i/\i<=↑xs/\Pv i σ H,⟨↑xs,by simp,Nat.zero_le _,h0⟩,?_⟩;rintro i m σ H ⟨rfl,hi,p⟩;have q:=hl i σ H hi p;by_cases pJ:i<↑xs
 ·refine .inr ⟨⟨xs,xs[i],q,by simp[pJ]⟩,Pv (i+1),fun σ' H' p'=>⟨↑xs-(i+1),E,rfl,pJ,p'⟩,λx H' y=>?_⟩;let⟨e,y⟩:=y;subst e;exact hs i x σ _ (y xs q) p
 ·have e:i=↑xs:=by lia
  subst e;exact .inl ⟨⟨xs,q,fK _⟩,hd σ H p⟩
theorem vS{lo:Int}{n:Nat}{g:TG}{tb:TS}{D:Ends}{σ:St}{H:Hp}(Pv:Nat->St->Hp->Prop)(h0:Pv 0 σ H)
  (hs:∀ i σ H,i<n->Pv i σ H->g (.int (lo+i)) σ H fun σ2 H2=>tb { D with nx:=Pv (i+1),ct:=Pv (i+1),bk:=D.nx } σ2 H2) (hd:∀ σ H,Pv n σ H->D.nx σ H) :
  ∃ W:Nat->Nat->St->Hp->Prop,(∃ m,W 0 m σ H)/\∀ i m σ H,W i m σ H->
   ((KW lo n).stop i H/\D.nx σ H)\/((KW lo n).go i H/\∃ N:St->Hp->Prop,(∀ σ' H',N σ' H'->∃ m',m'<m/\W (i+1) m' σ' H')/\∀ x H',(KW lo n).Nb i H x H'->g x σ H' fun σ2 H2=>tb { D with nx:=N,ct:=N,bk:=D.nx } σ2 H2):=by
 refine⟨λi m σ H=>m=n-i/\i<=n/\Pv i σ H,⟨n,by simp,Nat.zero_le _,h0⟩,?_⟩;rintro i m σ H ⟨rfl,hi,p⟩;by_cases pJ:i<n
 ·refine .inr ⟨pJ,Pv (i+1),fun σ' H' p'=>⟨n-(i+1),E,rfl,pJ,p'⟩,λx H' y=>?_⟩;let⟨e,y⟩:=y;subst e y;exact hs i σ _ pJ p
 ·have e:i=n:=by lia
  subst e;exact .inl ⟨Nat.le_refl _,hd σ H p⟩
end L2
namespace L2
open Spec Rows
abbrev R2:=V->V->Hp->VK->Prop
def sV(X:Cx)(f:Value->Value->Sem Value)(r:R2):Prop :=
 ∀ (ak:List (Addr × Obj)) (s:Shared) (σ:St) (H:Hp) (x y:V) (v u:Value) (Q:VK),Inv X ak σ H s->RelV x v->RelV y u->r x y H Q->
  wpAny (model X.prog X.w) X.A (f v u) (EP X ak σ Q) X.xe s
def UnR(X:Cx)(f:Value->Sem Value)(r:V->Hp->VK->Prop):Prop :=
 ∀ (ak:List (Addr × Obj)) (s:Shared) (σ:St) (H:Hp) (x:V) (v:Value) (Q:VK),Inv X ak σ H s->RelV x v->r x H Q->
  wpAny (model X.prog X.w) X.A (f v) (EP X ak σ Q) X.xe s
def jF(X:Cx)(f:Value)(r:List V->Hp->VK->Prop):Prop :=
 ∀ (ak:List (Addr × Obj)) (s:Shared) (σ:St) (H:Hp) (xs:List V) (us:List Value) (Q:VK),Inv X ak σ H s->bZ xs us->r xs H Q->
  wpAny (model X.prog X.w) X.A (call f us) (EP X ak σ Q) X.xe s
def acq(X:Cx)(r:V->Hp->(Bool->Hp->Prop)->Prop):Prop :=
 ∀ (ak:List (Addr × Obj)) (s:Shared) (σ:St) (H:Hp) (x:V) (v:Value) (Q:Bool->Hp->Prop),Inv X ak σ H s->RelV x v->r x H Q->
  wpAny (model X.prog X.w) X.A (truthy v) (TP X ak σ Q) X.xe s
def Yc(r:R2)(ta tb:TE):TE:=fun σ H Q=>ta σ H λx H1=>tb σ H1 λy H2=>r x y H2 Q
def tUn(r:V->Hp->VK->Prop)(ta:TE):TE:=fun σ H Q=>ta σ H λx H1=>r x H1 Q
inductive rI(C:Int->Int->Prop)(g:Int->Int->V)(x y:V)(H:Hp)(Q:VK):Prop
 | mk (i j:Int) (_:x=.int i) (_:y=.int j) (_:C i j) (_:Q (g i j) H):rI C g x y H Q
inductive Tr(g:Int->Int->V)(x y:V)(H:Hp)(Q:VK):Prop
 | mk (i j:Int) (_:x=.int i) (_:y=.int j) (_:Q (g i j) H)
def rU(g:Int->V):V->Hp->VK->Prop:=λx H Q=>∃ i,x=.int i/\Q (g i) H
section
variable {X:Cx} {a b c:Expr} {ta tb tc:TE} {pos:Pos}
theorem UL(ha:PE X a ta)(hb:PE X b tb){ak:List (Addr × Obj)}{s:Shared}{σ:St}{H:Hp}{R:V->V->Hp->Prop}(I:Inv X ak σ H s)
  (h:ta σ H λx H1=>tb σ H1 λy H2=>R x y H2) {Q:Value->Shared->Prop} {f:Value->Value->Sem Value}
  (hf:∀ v u s2 x y H2,Inv X ak σ H2 s2->RelV x v->RelV y u->R x y H2->wpAny (model X.prog X.w) X.A (f v u) Q X.xe s2) :
  wpAny (model X.prog X.w) X.A (eval a X.env) (λv s₁=>wpAny (model X.prog X.w) X.A (eval b X.env) (λu s₂=>wpAny (model X.prog X.w) X.A (f v u) Q X.xe s₂) X.xe s₁) X.xe s:=by
 refine cL (ha ak s σ H _ I h) λv s1 Ho=>?_;let⟨x,H1,I1,r1,q1⟩:=Ho;refine cL (hb ak s1 σ H1 _ I1 q1) λu s2 AF=>?_;let⟨y,H2,I2,r2,q2⟩:=AF;exact hf v u s2 x y H2 I2 r1 r2 q2
def bP{op:Operator}{r:R2}(ho:sV X (binaryOp op) r)(ha:PE X a ta)(hb:PE X b tb):PE X (.BinOp a op b pos) (Yc r ta tb):=by
 intro ak s σ H Q I h;exact wpAny_BinOp (UL ha hb I h λv u s2 x y H2 I2 rx ry q=>ho ak s2 σ H2 x y v u Q I2 rx ry q)
def fG{op:UnaryOp}{r:V->Hp->VK->Prop}(ho:UnR X (unaryOp op) r)(ha:PE X a ta):PE X (.UnaryOp op a pos) (tUn r ta):=by
 intro ak s σ H Q I h;exact UnaryOp_ (cL (ha ak s σ H _ I h) λv s1 ⟨x,H1,I1,r1,q1⟩=>ho ak s1 σ H1 x v Q I1 r1 q1)
theorem opI{f:Value->Value->Sem Value}{C:Int->Int->Prop}{g:Int->Int->Int}
  (rule:∀ (i j:Int) (t u:Tok) (s:Shared) (Q:Value->Shared->Prop) (E:Value->Shared->Prop),C i j->Q (.int (g i j) s.toks) { s with toks:=s.toks+1 }->wpAny (model X.prog X.w) X.A (f (.int i t) (.int j u)) Q E s) :
  sV X f (rI C λi j=>.int (g i j)):=by
 intro ak s σ H x y v u Q I rx ry h;let⟨i,j,rfl,rfl,hc,q⟩:=h;let⟨t,rfl⟩:=rx;let⟨t',rfl⟩:=ry;exact rule i j t t' s _ _ hc ⟨.int (g i j),H,I.tok _,⟨Y⟩,q⟩
theorem Yd{f:Value->Value->Sem Value}{g:Int->Int->Int}
  (rule:∀ (i j:Int) (t u:Tok) (s:Shared) (Q:Value->Shared->Prop) (E:Value->Shared->Prop),Q (.int (g i j) s.toks) { s with toks:=s.toks+1 }->wpAny (model X.prog X.w) X.A (f (.int i t) (.int j u)) Q E s) :
  sV X f (Tr λi j=>.int (g i j)):=by
 intro ak s σ H x y v u Q I rx ry h;let⟨i,j,rfl,rfl,q⟩:=h;let⟨t,rfl⟩:=rx;let⟨t',rfl⟩:=ry;exact rule i j t t' s _ _ ⟨.int (g i j),H,I.tok _,⟨Y⟩,q⟩
theorem QL{f:Value->Value->Sem Value}{g:Int->Int->Bool}
  (rule:∀ (i j:Int) (t u:Tok) (s:Shared) (Q:Value->Shared->Prop) (E:Value->Shared->Prop),Q (.bool (g i j)) s->wpAny (model X.prog X.w) X.A (f (.int i t) (.int j u)) Q E s) :
  sV X f (Tr λi j=>.bl (g i j)):=by
 intro ak s σ H x y v u Q I rx ry h;let⟨i,j,rfl,rfl,q⟩:=h;let⟨t,rfl⟩:=rx;let⟨t',rfl⟩:=ry;exact rule i j t t' s _ _ ⟨.bl (g i j),H,I,rfl,q⟩
def acr(i j:Int):Prop:=0<=j/\j<=1000000/\i.natAbs<2^64
def UM(i j:Int):Prop:=(-(2^64)<i/\i<2^64)\/(-(2^64)<j/\j<2^64)
def UM.ok{i j:Int}(h:UM i j):IntMulOk i j:=by
 rcases h with ⟨h1,h2⟩|⟨h1,h2⟩
 ·exact .of_left (intBits_le_64 h1 h2)
 ·exact .of_right (intBits_le_64 h1 h2)
theorem fj:sV X (binaryOp .Add) (Tr λi j=>.int (i+j)):=Yd λ_ _ _ _ _ _ _ q=>add_int q
theorem dY:sV X (binaryOp .Sub) (Tr λi j=>.int (i-j)):=Yd λ_ _ _ _ _ _ _ q=>sub_int q
theorem Nf:sV X (binaryOp .Mult) (rI UM λi j=>.int (i*j)):=opI λ_ _ _ _ _ _ _ hc q=>mul_int q hc.ok
theorem yS:sV X (binaryOp .Mod) (rI (λ_ j=>0<j) λi j=>.int (i % j)):=opI λi j _ _ _ _ _ hc q=>by
 have h1:(0:Int)<j:=hc;exact mod_int' ∅ (by rw[Int.fmod_eq_emod_of_nonneg i ∅];exact q)
theorem Ng:sV X (binaryOp .Pow) (rI acr λi j=>.int (i^j.toNat)):=opI λ_ _ _ _ _ _ _ hc q=>pow_int_small hc.1 hc.2.1 hc.2.2 q
theorem unI{f:Value->Sem Value}{g:Int->Int}
  (rule:∀ (i:Int) (t:Tok) (s:Shared) (Q:Value->Shared->Prop) (E:Value->Shared->Prop),Q (.int (g i) s.toks) { s with toks:=s.toks+1 }->wpAny (model X.prog X.w) X.A (f (.int i t)) Q E s) :
  UnR X f (rU λi=>.int (g i)):=by
 intro ak s σ H x v Q I rx h;let⟨i,rfl,q⟩:=h;let⟨t,rfl⟩:=rx;exact rule i t s _ _ ⟨.int (g i),H,I.tok _,⟨Y⟩,q⟩
theorem dc:UnR X (unaryOp .USub) (rU λi=>.int (-i)):=unI λ_ _ _ _ _ q=>neg_int q
end
def Ye:V->V->Bool
 | .gj,.gj=>true | .gj,.int _=>true | .int _,.gj=>true | .gj,.bl _=>true | .bl _,.gj=>true | .gj,.str _=>true | .str _,.gj=>true
 | .int _,.int _=>true | .bl _,.bl _=>true | .str _,.str _=>true | .Hh _,.Hh _=>true
 | .int _,.str _=>true | .str _,.int _=>true | .bl _,.str _=>true | .str _,.bl _=>true
 | _,_=>false
def rEq:R2:=λx y H Q=>Ye x y=true/\Q (.bl (decide (x=y))) H
def rNe:R2:=λx y H Q=>Ye x y=true/\Q (.bl (!decide (x=y))) H
def JF{i j:Int}:decide (V.int i=V.int j)=(i == j):=by
 rw[Bool.eq_iff_iff];simp
def Nh{i j:Bool}:decide (V.bl i=V.bl j)=(i == j):=by
 rw[Bool.eq_iff_iff];simp
def JG{i j:Str}:decide (V.str i=V.str j)=(i == j):=by
 rw[Bool.eq_iff_iff];simp
def JH{i j:Array UInt8}:decide (V.Hh i=V.Hh j)=(i.toList == j.toList):=by
 rw[Bool.eq_iff_iff];cases i;cases j;simp
section
variable {X:Cx} {a b c:Expr} {ta tb tc:TE} {pos:Pos}
def dh{σ:St}{H:Hp}{s:Shared}{Q:VK}{k k':Bool}(I:Inv X ak σ H s)(q:Q (.bl k) H)(e:k=k'):EP X ak σ Q (.bool k') s:=by
 subst e;exact⟨.bl k,H,I,rfl,q⟩
def cW:sV X (compareOp .Eq) rEq:=by
 intro ak s σ H x y v u Q I rx ry h;let⟨hs,q⟩:=h
 cases x with
 | gj =>
  cases rx
  cases y with
  | gj=>cases ry;exact PySem.EqNone.eq_none_none (dh I q (by simp))
  | bl j=>cases ry;exact PySem.EqNone.eq_none_bool (dh I q (by simp))
  | int j=>let⟨t',rfl⟩:=ry;exact PySem.EqNone.eq_none_int (dh I q (by simp))
  | str j=>let⟨t',rfl⟩:=ry;exact PySem.EqNone.eq_none_str (dh I q (by simp))
  | _=>exact absurd (show false=true from hs) fL
 | bl i =>
  cases rx
  cases y with
  | gj=>cases ry;exact PySem.EqNone.eq_bool_none (dh I q (by simp))
  | bl j=>cases ry;exact eq_bool (dh I q Nh)
  | str j=>let⟨t',rfl⟩:=ry;exact PySem.EqMixed.eq_bool_str (dh I q (by simp))
  | _=>exact absurd (show false=true from hs) fL
 | int i =>
  let⟨t,rfl⟩:=rx
  cases y with
  | gj=>cases ry;exact PySem.EqNone.eq_int_none (dh I q (by simp))
  | int j=>let⟨t',rfl⟩:=ry;exact eq_int (dh I q JF)
  | str j=>let⟨t',rfl⟩:=ry;exact PySem.EqMixed.eq_int_str (dh I q (by simp))
  | _=>exact absurd (show false=true from hs) fL
 | str i =>
  let⟨t,rfl⟩:=rx
  cases y with
  | gj=>cases ry;exact PySem.EqNone.eq_str_none (dh I q (by simp))
  | bl j=>cases ry;exact PySem.EqMixed.eq_str_bool (dh I q (by simp))
  | int j=>let⟨t',rfl⟩:=ry;exact PySem.EqMixed.eq_str_int (dh I q (by simp))
  | str j=>let⟨t',rfl⟩:=ry;exact eq_str (dh I q JG)
  | _=>exact absurd (show false=true from hs) fL
 | Hh i =>
  let⟨t,rfl⟩:=rx
  cases y with
  | Hh j=>let⟨t',rfl⟩:=ry;exact PySem.W.eq_bytes (dh I q JH)
  | _=>exact absurd (show false=true from hs) fL
 | _=>cases y <;> exact absurd (show false=true from hs) fL
def Ni:sV X (compareOp .NotEq) rNe:=by
 intro ak s σ H x y v u Q I rx ry h;let⟨hs,q⟩:=h
 cases x with
 | gj =>
  cases rx
  cases y with
  | gj=>cases ry;exact PySem.EqNone.ne_none_none (dh I q (by simp))
  | bl j=>cases ry;exact PySem.EqNone.ne_none_bool (dh I q (by simp))
  | int j=>let⟨t',rfl⟩:=ry;exact PySem.EqNone.ne_none_int (dh I q (by simp))
  | str j=>let⟨t',rfl⟩:=ry;exact PySem.EqNone.ne_none_str (dh I q (by simp))
  | _=>exact absurd (show false=true from hs) fL
 | bl i =>
  cases rx
  cases y with
  | gj=>cases ry;exact PySem.EqNone.ne_bool_none (dh I q (by simp))
  | bl j=>cases ry;exact ne_bool (dh I q (congrArg not Nh))
  | str j=>let⟨t',rfl⟩:=ry;exact PySem.EqMixed.ne_bool_str (dh I q (by simp))
  | _=>exact absurd (show false=true from hs) fL
 | int i =>
  let⟨t,rfl⟩:=rx
  cases y with
  | gj=>cases ry;exact PySem.EqNone.ne_int_none (dh I q (by simp))
  | int j=>let⟨t',rfl⟩:=ry;exact ne_int (dh I q (congrArg not JF))
  | str j=>let⟨t',rfl⟩:=ry;exact PySem.EqMixed.ne_int_str (dh I q (by simp))
  | _=>exact absurd (show false=true from hs) fL
 | str i =>
  let⟨t,rfl⟩:=rx
  cases y with
  | gj=>cases ry;exact PySem.EqNone.ne_str_none (dh I q (by simp))
  | bl j=>cases ry;exact PySem.EqMixed.ne_str_bool (dh I q (by simp))
  | int j=>let⟨t',rfl⟩:=ry;exact PySem.EqMixed.ne_str_int (dh I q (by simp))
  | str j=>let⟨t',rfl⟩:=ry;exact ne_str (dh I q (congrArg not JG))
  | _=>exact absurd (show false=true from hs) fL
 | Hh i =>
  let⟨t,rfl⟩:=rx
  cases y with
  | Hh j=>let⟨t',rfl⟩:=ry;exact PySem.W.ne_bytes (dh I q (congrArg not JH))
  | _=>exact absurd (show false=true from hs) fL
 | _=>cases y <;> exact absurd (show false=true from hs) fL
theorem lO:sV X (compareOp .Lt) (Tr λi j=>.bl (decide (i<j))):=QL λ_ _ _ _ _ _ _ q=>lt_int q
theorem ji:sV X (compareOp .LtE) (Tr λi j=>.bl (decide (i<=j))):=QL λ_ _ _ _ _ _ _ q=>le_int q
theorem uy:sV X (compareOp .Gt) (Tr λi j=>.bl (decide (j<i))):=QL λ_ _ _ _ _ _ _ q=>gt_int q
theorem Nj:sV X (compareOp .GtE) (Tr λi j=>.bl (decide (j<=i))):=QL λ_ _ _ _ _ _ _ q=>ge_int q
def bu(b:Expr){op:CmpOp}(h:op≠.In:=by decide)(h2:op≠.NotIn:=by decide):behindInMarks op b=false:=by
 have e1:(op == CmpOp.In)=false:=by cases op <;> first|rfl|exact absurd rfl h
 have e2:(op == CmpOp.NotIn)=false:=by cases op <;> first|rfl|exact absurd rfl h2
 cases b <;> simp[behindInMarks,e1,e2]
def iO{op:CmpOp}{r:R2}(ho:sV X (compareOp op) r)(ha:PE X a ta)(hb:PE X b tb)(hm:behindInMarks op b=false):PE X (.Compare a [op] [b] pos) (Yc r ta tb):=by
 intro ak s σ H Q I h;exact wpAny_Compare1 (UL ha hb I h λv u s2 x y H2 I2 rx ry q=>ho ak s2 σ H2 x y v u Q I2 rx ry q) hm
def Tt(t:TE):TT:=fun σ H Q=>t σ H λx H'=>isB x H' Q
def aU{op:CmpOp}{r:R2}(ho:sV X (compareOp op) r)(ha:PE X a ta)(hb:PE X b tb)(hm:behindInMarks op b=false):PT X (.Compare a [op] [b] pos) (Tt (Yc r ta tb)):=by
 intro ak s σ H Q I h
 refine wpAny_isTrue_Compare1 (cL (ha ak s σ H _ I h) λv s1 ⟨x,H1,I1,r1,q1⟩=>cL (hb ak s1 σ H1 _ I1 q1) λu s2 ⟨y,H2,I2,r2,q2⟩ =>
  cL (ho ak s2 σ H2 x y v u _ I2 r1 r2 q2) λc s3 ⟨z,H3,I3,r3,k,e,q3⟩=>?_) hm
 subst e;cases r3;exact wpAny_truthy_bool ⟨H3,I3,q3⟩
def UN(r r':R2)(ta tb tc:TE):TE:=fun σ H Q=>ta σ H λx H1=>tb σ H1 λy H2=>r x y H2 λz H3=>∃ k,z=.bl k/\
 (if k=true then tc σ H3 λw' H4=>r' y w' H4 Q else Q (.bl false) H3)
theorem uz{op G5:CmpOp}{r r':R2}(ho:sV X (compareOp op) r)(KR:sV X (compareOp G5) r')(ha:PE X a ta)(hb:PE X b tb)(hc:PE X c tc)
  (hm:lastMarks [op,G5] [b,c]=false:=by with_unfolding_all rfl):PT X (.Compare a [op,G5] [b,c] pos) (Tt (UN r r' ta tb tc)):=by
 intro ak s σ H Q I h
 refine isTrue_chain (cL (ha ak s σ H _ I h) λv s1 ⟨x,H1,I1,r1,q1⟩=>test_link (cL (hb ak s1 σ H1 _ I1 q1) λu s2 ⟨y,H2,I2,r2,q2⟩ =>
  cL (ho ak s2 σ H2 x y v u _ I2 r1 r2 q2) λd s3 ⟨z,H3,I3,r3,k,e,q3⟩=>?_)) hm
 subst e;cases r3;refine wpAny_truthy_bool ?_
 cases k with
 | false =>
  let⟨k',e',q'⟩:=q3;cases e';exact ite_ff ⟨H3,I3,q'⟩
 | true =>
  refine ite_tt (test_last (cL (hc ak s3 σ H3 _ I3 q3) λw' s4 ⟨z',H4,I4,r4,q4⟩=>cL (KR ak s4 σ H4 y z' u w' _ I4 r2 r4 q4) λd' s5 EM=>?_));let⟨z2,H5,I5,r5,k2,e2,q5⟩:=EM;subst e2;cases r5;exact wpAny_truthy_bool ⟨H5,I5,q5⟩
def Yg(K:PySem.W.Frag)(x:V)(H:Hp)(k:Bool):Prop :=
 match x with
 | .gj=>k=false
 | .bl b=>k=b
 | .int i=>k=(i != 0)
 | .str y=>↑y<=sizeLine/\k=((↑y:Int) != 0)
 | .Hh y=>y.size<=sizeLine/\k=((y.size:Int) != 0)
 | .ref p=>(∃ xs,bG K H p xs/\k=!xs.isEmpty)\/(∃ xs,dN K H p xs/\k=!xs.isEmpty)\/∃ kvs,H p=⇑(.dK kvs)/\k=!kvs.isEmpty
 | _=>False
def Hu{κ:Type}{kvs:List (κ × V)}{vs:List (κ × Value)}(r:KV kvs vs):(!vs.isEmpty)=!kvs.isEmpty:=by
 cases r <;> rfl
def yT{xs:List V}{aQ:List Value}(r:bZ xs aQ):(!aQ.toArray.isEmpty)=!xs.isEmpty:=by
 cases r <;> simp
def vU:(sizeLine:Nat)<2^63:=by rw[sizeLine_eq];decide
def UO:acq X (λx H Q=>∃ k,Yg X.K x H k/\Q k H):=by
 intro ak s σ H x v Q I rx h;let⟨k,e,q⟩:=h;have hl:=vU;have hs:sizeLine=16777216:=sizeLine_eq
 cases x with
 | gj =>
  cases rx;have e':k=false:=e;subst e';exact truthy_none ⟨H,I,q⟩
 | bl b =>
  cases rx;have e':k=b:=e;subst e';exact wpAny_truthy_bool ⟨H,I,q⟩
 | int i =>
  let⟨t,rfl⟩:=rx;have e':k=(i != 0):=e;subst e';exact PySem.P.truthy_int ⟨H,I,q⟩
 | str y =>
  let⟨t,rfl⟩:=rx;obtain⟨hy,e'⟩:↑y<=sizeLine/\k=((↑y:Int) != 0):=e;subst e';exact PySem.P.truthy_str ∅ ⟨H,I.tok _,q⟩
 | Hh y =>
  let⟨t,rfl⟩:=rx;obtain⟨hy,e'⟩:y.size<=sizeLine/\k=((y.size:Int) != 0):=e;subst e';exact PySem.W.truthy_bytes ∅ ⟨H,I.tok _,q⟩
 | ref p =>
  cases rx;have e':(∃ xs,bG X.K H p xs/\k=!xs.isEmpty)\/(∃ xs,dN X.K H p xs/\k=!xs.isEmpty)\/∃ kvs,H p=⇑(.dK kvs)/\k=!kvs.isEmpty:=e;rcases e' with ⟨xs,hx,e'⟩|⟨xs,hx,e'⟩|⟨kvs,hx,e'⟩
  ·subst e';let⟨aQ,r,pl,hz⟩:=I.list hx;have cX:=↑r;exact wpAny_truthy_list pl.isList (by simp only[gG];lia) ⟨H,I.tok _,by rw[yT r];exact q⟩
  ·subst e';let⟨aQ,r,pl,hz⟩:=I.tuple hx;have cX:=↑r;exact truthy_tuple pl (by simp only[gG];lia) ⟨H,I.tok _,by rw[yT r];exact q⟩
  ·subst e';obtain⟨hz,hS,vs,r,m⟩:↑kvs<=sizeLine/\(p == sysModules)=false/\∃ vs,KV kvs vs/\s.heap.DictOf (fO X.prog X.w) p vs:=I.hok p _ hx;have cX:↑kvs=↑vs:=Paired.length r;exact wpAny_truthy_dict hS m ∅ ⟨H,I.tok _,by rw[Hu r];exact q⟩
 | _=>exact (show False from e).elim
theorem jj(ha:PE X a ta)(he:∀ yP,isTrue a X.env yP=(do let v ← yP;standAt a.pos;holding [v] (truthy v))) :
  PT X a (fun σ H Q=>ta σ H λx H'=>∃ k,Yg X.K x H' k/\Q k H'):=by
 intro ak s σ H Q I h;exact isTrue_plain (cL (ha ak s σ H _ I h) λv s1 ⟨x,H1,I1,r1,q1⟩=>UO ak s1 σ H1 x v Q I1 r1 q1) (he _)
def vals1{x:V}{us:List Value}(r:bZ [x] us):∃ u,us=[u]/\RelV x u:=by
 cases r with
 | cons r1 r2=>cases r2;exact⟨Y,r1⟩
def vals2{x y:V}{us:List Value}(r:bZ [x,y] us):∃ u w',us=[u,w']/\RelV x u/\RelV y w':=by
 cases r with
 | cons r1 r2 =>
  cases r2 with
  | cons r3 r4=>cases r4;exact⟨Q,rfl,r1,r3⟩
def vV(hc:X.calm=true):jF X (.builtin "max") (λxs H Q=>∃ i j,xs=[.int i,.int j]/\Q (.int (if j > i then j else i)) H):=by
 intro ak s σ H xs us Q I r h;let⟨i,j,rfl,q⟩:=h;let⟨u,w',rfl,⟨t,rfl⟩,⟨t',rfl⟩⟩:=vals2 r;refine max_two_ints (I.ok.hd hc) λh' tk k=>⟨_,H,I.kept k,?_,q⟩;by_cases hj:j > i
 ·rw[if_pos hj,if_pos hj];exact⟨Y⟩
 ·rw[if_neg hj,if_neg hj];exact⟨Y⟩
def nR(hc:X.calm=true):jF X (.builtin "min") (λxs H Q=>∃ i j,xs=[.int i,.int j]/\Q (.int (if j<i then j else i)) H):=by
 intro ak s σ H xs us Q I r h;let⟨i,j,rfl,q⟩:=h;let⟨u,w',rfl,⟨t,rfl⟩,⟨t',rfl⟩⟩:=vals2 r;refine min_two_ints (I.ok.hd hc) λh' tk k=>⟨_,H,I.kept k,?_,q⟩;by_cases hj:j<i
 ·rw[if_pos hj,if_pos hj];exact⟨Y⟩
 ·rw[if_neg hj,if_neg hj];exact⟨Y⟩
end
end L2
namespace L2
open Spec Rows
structure Hv(h:Heap)(x dx C:Addr)(mA:Str->Option Value):Prop where
 obj:h.get? x=⇑(instObj C dx)
 ns:h.Ns1 dx mA
 ne:dx≠x
def K9{h:Heap}{mA:Str->Option Value}(n:h.Ns1 dx mA):∃ od,h.get? dx=⇑od/\∀ name,lookIn name od=⇑(mA name):=by
 let⟨o,es,ep,ho,hd,hk,_,hm⟩:=n;refine⟨o,ho,λname=>?_⟩;have e:=hm name;unfold nsFind findBy at e;rw[← Array.find?_toList]at e;unfold lookIn;rw[hd];dsimp only;split
 ·rename_i y q;rw[q]at e;exact congrArg some e
 ·rename_i q;rw[q]at e
  have a:es.toList.any (·.refKey)=false:=by
   rw[List.any_eq_false];intro y hy;let⟨z,t,hkey⟩:=hk y (Array.mem_toList_iff.mp hy);simp[DictEntry.refKey,hkey]
  have a':¬ es.toList.any (·.refKey)=true:=by rw[a];exact fL
  rw[if_neg a'];exact congrArg some e
theorem Hv.look{h:Heap}{x:Addr}{mA:Str->Option Value}(I:Hv h x dx C mA):∃ od,InstAt h x (instObj C dx) C (⇑od)/\∀ name,lookIn name od=⇑(mA name) :=
 let ⟨od,ho,hl⟩:=K9 I.ns
 ⟨od,⟨I.obj,V,ho⟩,hl⟩
section
variable {prog:Program} {w:World} {A:Around} {E:Value->Shared->Prop} {s:Shared} {K:PySem.W.Frag} {x dx C f:Addr} {mA:Str->Option Value} {name:Str} {v:Value}
theorem QM{acs:Bool}{Q:Value->Shared->Prop}(X:K.In s.heap)(I:Hv s.heap x dx C mA)(hg:plainGet K C name=true)(hh:hasDictIn K C=true)
  (ha:findIn K ↥C name=⇑none) (hv:mA name=⇑v) (hv':handedIn v=true) (h:Q v { s with toks:=s.toks+1 }) :
  wpAny (model prog w) A (getAttr ↥x name acs) Q E s:=by
 let⟨od,J,hl⟩:=I.look;exact PySem.W.get_value X J (plainGet_of hg).1 (PySem.W.findObj_own hh ha rfl (by rw[hl,hv])) hv' h
theorem Nk{pl:Sem Bool}{Q:Value × List Value->Shared->Prop}(X:K.In s.heap)(I:Hv s.heap x dx C mA)(hg:plainGet K C name=true)
  (hf:findIn K ↥C name=⇑(⇑↥f)) (ht:isFn K ↥f=true) (hv:mA name=none) (h:Q (.ref f,[↥x]) s) :
  wpAny (model prog w) A (getMethod ↥x name pl) Q E s:=by
 let⟨od,J,hl⟩:=I.look;exact PySem.W.method_fn X J (plainGet_of hg).1 (plainGet_of hg).2 hf (beq_iff_eq.mp ht) (by show (lookIn name od).map (·.isSome)=⇑false;rw[hl,hv];rfl) h
theorem QN{ns:List Str}{Q:Unit->Shared->Prop}(X:K.In s.heap)(I:Hv s.heap x dx C mA)
  (hs:findIn K ↥C "__setattr__"=⇑(⇑(.builtin "object.__setattr__"))) (hp:plainOver K C=true) (ht:takerIn K C name=⇑none) (hh:hasDictIn K C=true)
  (hw:PySem.Within mA ns) (hsz:↑ns<=sizeLine)
  (h:∀ h',Hv h' x dx C (λy=>if y=name then some v else mA y)->Heap.SameBut dx s.heap h'->Q () { s with heap:=h',toks:=s.toks+2 }) :
  wpAny (model prog w) A (setAttr ↥x name v) Q E s:=by
 let⟨od,J,hl⟩:=I.look;refine PySem.W.set_plain X J hs (PySem.W.osa_open (s:={ s with toks:=s.toks+1 }) (r:=none) X J hp ht λb=>?_);let⟨cd,hc,hd'⟩:=PySem.W.any_some hh;have hx:s.heap.get? x=some ⟨↥C,⇑dx,.plain,#[]⟩:=I.obj;refine wpAny_bind (wpAny_pure (wpAny_bind (wpAny_bind (wpAny_loadPart hx (wpAny_bind (PySem.W.Looks.here (s:={ s with toks:=s.toks+1 }) (PySem.W.looks_clsIn X hc) ?_))))));rw[hd'];refine wpAny_pure (a:=⇑dx) (wpAny_bind (wpAny_pure (wpAny_bind ?_)));refine wpAny_nsSet1 (s:={ s with toks:=s.toks+1 }) I.ns λh' hn2 G6=>?_;let⟨oD,esD,epD,hoD,hdD,hcD⟩:=hn2.count (PySem.Within.cons name v hw);refine wpAny_bind (wpAny_lookBehind hoD (by rw[hdD];exact pastItsLine_dict (jf hcD (by rw[jS];lia))) ?_);exact wpAny_pure (h _ ⟨(G6.2 _ (Ne.symm I.ne)).trans I.obj,hn2,I.ne⟩ G6)
theorem Nl{R:Result->Shared->Prop}{vs:List Value}{kw:List (Str × Value)}(X:K.In s.heap)(hm:makesIn K C=true)
  (hi:findIn K ↥C "__init__"=⇑(⇑↥f)) (hf:typeIn K ↥f=⇑(.type "function"))
  (h:codeAny (model prog w) (A.under (.builtin "type.__call__" ⟨↥C::vs,kw⟩)) (.call ↥f ⟨.ref (s.heap.objs.size+1)::vs,kw⟩) (PySem.W.InitBack (s.heap.objs.size+1) R)
   { s with heap:=(s.heap.push emptyDict).push (instObj C s.heap.objs.size) }) :
  codeAny (model prog w) A (.call ↥C ⟨vs,kw⟩) R s:=by
 let⟨hh,g,d,t,os⟩:=s;exact PySem.W.make_core (PySem.W.makes_of X hm) (PySem.W.looks_findIn X hi) (λself=>PySem.W.bind_fn X self hf) (.inl rfl) h
end
def dJ(f:Str)(v:V):List (Str × V)->List (Str × V)
 | []=>[(f,v)]
 | (g,x)::r=>if g=f then (g,v)::r else (g,x)::dJ f v r
theorem xr(f g:Str)(v:V):∀ fs:List (Str × V),(dJ f v fs).lookup g=if g=f then some v else fs.lookup g
 | []=>by
  show List.lookup g [(f,v)]=_;by_cases h:g=f
  ·have hb:(g == f)=true:=beq_iff_eq.mpr h;simp only[List.lookup,hb,if_pos h]
  ·have hb:(g == f)=false:=beq_eq_false_iff_ne.mpr h;simp only[List.lookup,hb,if_neg h]
 | (k,x)::r=>by
  have ih:=xr f g v r;rw[show dJ f v ((k,x)::r)=(if k=f then (k,v)::r else (k,x)::dJ f v r) from rfl];by_cases hk:k=f
  ·rw[if_pos hk];by_cases h:g=k
   ·have hb:(g == k)=true:=beq_iff_eq.mpr h;simp only[List.lookup,hb,if_pos (h.trans hk)]
   ·have hb:(g == k)=false:=beq_eq_false_iff_ne.mpr h;simp only[List.lookup,hb,if_neg (λe:g=f=>h (e.trans hk.symm))]
  ·rw[if_neg hk];by_cases h:g=k
   ·have hb:(g == k)=true:=beq_iff_eq.mpr h;simp only[List.lookup,hb,if_neg (λe:g=f=>hk (h.symm.trans e))]
   ·have hb:(g == k)=false:=beq_eq_false_iff_ne.mpr h;simp only[List.lookup,hb];exact ih
theorem vW(f:Str)(v:V):∀ fs:List (Str × V),f∈(dJ f v fs).map (·.1)/\∀ g,g∈fs.map (·.1)->g∈(dJ f v fs).map (·.1)
 | []=>⟨by simp[dJ],λg h=>by simp at h⟩
 | (k,x)::r=>by
  let⟨i1,i2⟩:=vW f v r;rw[show dJ f v ((k,x)::r)=(if k=f then (k,v)::r else (k,x)::dJ f v r) from rfl];by_cases hk:k=f
  ·rw[if_pos hk];subst hk;exact⟨by simp,λg h=>by simpa using h⟩
  ·rw[if_neg hk];refine⟨?_,λg h=>?_⟩
   ·rw[jh];exact nO _ i1
   ·rw[jh]at h ⊢;rcases List.mem_cons.mp h with e|e
    ·exact List.mem_cons.mpr (.inl e)
    ·exact nO _ (i2 g e)
theorem xu(f:Str)(v:V):∀ fs:List (Str × V),↑(dJ f v fs)<=↑fs+1
 | []=>by simp[dJ]
 | (k,x)::r=>by
  have ih:=xu f v r;rw[show dJ f v ((k,x)::r)=(if k=f then (k,v)::r else (k,x)::dJ f v r) from rfl];by_cases hk:k=f
  ·rw[if_pos hk,jS,jS];lia
  ·rw[if_neg hk,jS,jS];lia
def rM.some_of{v:V}{o:Option Value}(r:rM (⇑v) o):∃ u,o=⇑u/\RelV v u:=by
 cases o with
 | none=>exact (show False from r).elim
 | some u=>exact⟨u,rfl,r⟩
def rM.none_of{o:Option Value}(r:rM none o):o=none:=by
 cases o with
 | none=>rfl
 | some u=>exact (show False from r).elim
def La{v:V}{u:Value}(r:RelV v u):handedIn u=true:=by
 cases v with
 | gj=>cases (show u=Value.none from r);rfl
 | bl b=>cases (show u=Value.bool b from r);rfl
 | int i=>let⟨t,e⟩:=(show ∃ t,u=Value.int i t from r);cases e;rfl
 | str x=>let⟨t,e⟩:=(show ∃ t,u=Value.str x t from r);cases e;rfl
 | Hh b=>let⟨t,e⟩:=(show ∃ t,u=Value.bytes b t from r);cases e;rfl
 | Tn b=>let⟨t,e⟩:=(show ∃ t,u=Value.float b t from r);cases e;rfl
 | ref a=>cases (show u=Value.ref a from r);rfl
 | ty n=>cases (show u=Value.type n from r);rfl
section
variable {P:Program} {w:World} {H H':Hp} {h h':Heap} {a C dx:Addr} {fs Xc:List (Str × V)}
def yC(hok:qh P w H h)(e:H a=⇑(.ins C dx fs)):∃ mA,Hv h a dx C mA/\(∀ f,rM (fs.lookup f) (mA f))/\PySem.Within mA (fs.map (·.1))/\↑fs<=1000/\H dx=⇑(.own a):=by
 let⟨d,z,ne,ob,mA,n,r,q⟩:=(show fF P w H h a (.ins C dx fs) from hok a _ e);exact⟨mA,⟨ob,n,ne⟩,r,q,z,d⟩
end
structure MP(K:PySem.W.Frag)(C:Addr):Prop where
 pg:plainGet K C Str.empty=true
 hd:hasDictIn K C=true
 po:plainOver K C=true
 sa:findIn K ↥C "__setattr__"=⇑(⇑(.builtin "object.__setattr__"))
theorem MP.get{K:PySem.W.Frag}(c:MP K C)(f:Str):plainGet K C f=true:=c.pg
def fM(K:PySem.W.Frag)(C:Addr)(f:Str):Prop:=findIn K ↥C f=⇑none
def fM.Yh{K:PySem.W.Frag}{f:Str}(n:fM K C f):takerIn K C f=⇑none:=by
 unfold takerIn;rw[show findIn K ↥C f=⇑none from n];rfl
structure Nm(K:PySem.W.Frag)(C:Addr)(m:Str)(f:Addr):Prop where
 at_:findIn K ↥C m=⇑(⇑↥f)
 fn:isFn K ↥f=true
 kp:keepIn K ↥f=true
section
variable {X:Cx} {ak:List (Addr × Obj)} {σ:St} {H:Hp} {s:Shared} {a C dx:Addr} {fs:List (Str × V)} {f:Str} {v:V} {A:Around} {E:Value->Shared->Prop}
theorem yU{b:Bool}{Q:Value->Shared->Prop}(I:Inv X ak σ H s)(e:H a=⇑(.ins C dx fs))(c:MP X.K C)(n:fM X.K C f)(l:fs.lookup f=⇑v)
  (h:∀ u s',Inv X ak σ H s'->RelV v u->Q u s'):wpAny (model X.prog X.w) A (getAttr ↥a f b) Q E s:=by
 let⟨mA,O,r,_,_,_⟩:=yC I.hok e;let⟨u,hu,ru⟩:=rM.some_of (v:=v) (o:=mA f) (by rw[← l];exact r f);exact QM I.uw O (c.get f) c.hd n hu (La ru) (h u _ (I.tok _) ru)
theorem yV{m:Str}{pl:Sem Bool}{Q:Value × List Value->Shared->Prop}(I:Inv X ak σ H s)(e:H a=⇑(.ins C dx fs))(c:MP X.K C)(k:Nm X.K C m g)(l:fs.lookup m=none)
  (h:Q (.ref g,[↥a]) s):wpAny (model X.prog X.w) A (getMethod ↥a m pl) Q E s:=by
 let⟨mA,O,r,_,_,_⟩:=yC I.hok e;have hn:mA m=none:=rM.none_of (by rw[← l];exact r m);exact Nk I.uw O (c.get m) k.at_ k.fn hn h
theorem yW{y:V}{u:Value}{Q:Unit->Shared->Prop}(I:Inv X ak σ H s)(e:H a=⇑(.ins C dx fs))(c:MP X.K C)(n:fM X.K C f)(hl:↑fs<1000)(ry:RelV y u)
  (h:∀ s',Inv X ak σ (aO H a (.ins C dx (dJ f y fs))) s'->Q () s'):wpAny (model X.prog X.w) A (setAttr ↥a f u) Q E s:=by
 let⟨mA,O,r,wi,_,ho⟩:=yC I.hok e;have hz:↑(fs.map (·.1))<=sizeLine:=by rw[bW,sizeLine_eq];lia
 refine QN I.uw O c.sa c.po n.Yh c.hd wi hz λh' O' sb=>h _ ?_;have hd:∃ o,h'.get? dx=⇑o:=let ⟨o,Q,e',_⟩:=O'.ns;⟨o,e'⟩;refine I.write (x:=a) (e:=dx) (by rw[e];exact True.intro) (.inr ho) (λb q hb z=>(sb.2 b hb).trans z) hd ?_;refine⟨by rw[aK O.ne];exact ho,?_,O.ne,O'.obj,_,O'.ns,λg=>?_,λg hg=>?_⟩
 ·have:=xu f y fs;lia
 ·show rM ((dJ f y fs).lookup g) (if g=f then some u else mA g);rw[xr];by_cases q:g=f
  ·rw[if_pos q,if_pos q];exact ry
  ·rw[if_neg q,if_neg q];exact r g
 ·by_cases q:g=f
  ·rw[q];exact (vW f y fs).1
  ·refine (vW f y fs).2 g (wi g λz=>hg ?_);show (if g=f then some u else mA g)=none;rw[if_neg q];exact z
theorem Inv.made(I:Inv X ak σ H s):Inv X ak σ (aO (aO H s.heap.objs.size (.own (s.heap.objs.size+1))) (s.heap.objs.size+1) (.ins C s.heap.objs.size []))
  { s with heap:=(s.heap.push emptyDict).push (instObj C s.heap.objs.size) }:=by
 have e1:(s.heap.push emptyDict).get? s.heap.objs.size=⇑emptyDict:=Heap.get?_push_size s.heap rfl
 have e2:((s.heap.push emptyDict).push (instObj C s.heap.objs.size)).get? (s.heap.objs.size+1)=⇑(instObj C s.heap.objs.size):=by
  have:=Heap.get?_push_size (s.heap.push emptyDict) (o:=instObj C s.heap.objs.size) rfl;rwa [Heap.size_push]at this
 have e3:(s.heap.push emptyDict).Ns s.heap.objs.size (λ_=>none):=⟨emptyDict,#[],_,e1,rfl,(λe he=>absurd he (by simp)),λ_=>rfl⟩;have I1:=I.laid (a:=s.heap.objs.size) (o:=.own (s.heap.objs.size+1)) (h':=s.heap.push emptyDict) (t':=s.toks) (λb u q=>Heap.get?_push_of_some _ q) (fK _) ⟨_,e1⟩;refine I1.laid (a:=s.heap.objs.size+1) (o:=.ins C s.heap.objs.size []) (t':=s.toks) (λb u q=>Heap.get?_push_of_some _ q) (Nat.le_of_eq (Heap.size_push _ _)) ?_;have ne:s.heap.objs.size≠s.heap.objs.size+1:=jC (Nat.lt_succ_self _);refine⟨by rw[aK ne,af],Nat.zero_le _,ne,e2,λ_=>none,(Heap.Ns1.of_empty e3).at λo q=>Heap.get?_push_of_some _ q,λ_=>True.intro,λy hy=>absurd rfl hy⟩
theorem QO{prog:Program}{w:World}{env:Env}{e:Expr}{f:Str}{s:Shared}{Q:Value->Shared->Prop}(hb:attributeBase e f env (eval e env)=eval e env)
  (h:wpAny (model prog w) A (eval e env) (λo s₁=>wpAny (model prog w) A (getAttr o f true) Q E s₁) E s):wpAny (model prog w) A (eval (.Attribute e f pos) env) Q E s :=
 Attribute_any_ h (by rw[arm_eval_Attribute,hb])
end
inductive Yi(K:PySem.W.Frag)(f:Str)(x:V)(H:Hp)(Q:VK):Prop
 | mk (a C dx:Addr) (fs:List (Str × V)) (v:V) (_:x=↥a) (_:H a=⇑(.ins C dx fs)) (_:MP K C) (_:fM K C f) (_:fs.lookup f=⇑v) (_:Q v H):Yi K f x H Q
def Yj(K:PySem.W.Frag)(ta:TE)(f:Str):TE:=fun σ H Q=>ta σ H λx H1=>Yi K f x H1 Q
def acu(K:PySem.W.Frag)(ta tv:TE)(f:Str):TS:=λD σ H=>tv σ H λy H1=>ta σ H1 λx H2=>∃ a C dx fs,x=↥a/\H2 a=⇑(.ins C dx fs)/\MP K C/\fM K C f/\↑fs<1000/\
 D.nx σ (aO H2 a (.ins C dx (dJ f y fs)))
def Yk(X:Cx)(op:Operator)(rd:V->V->Hp->VK->Prop):Prop :=
 ∀ (ak:List (Addr × Obj)) (s:Shared) (σ:St) (H:Hp) (x y:V) (u v:Value) (Q:VK),Inv X ak σ H s->RelV x u->RelV y v->rd x y H Q->wpAny (model X.prog X.w) X.A (inplaceOp op u v) (EP X ak σ Q) X.xe s
def QS(K:PySem.W.Frag)(ta tv:TE)(rd:V->V->Hp->VK->Prop)(f:Str):TS:=λD σ H=>ta σ H λx H1=>∃ a C dx fs v,x=↥a/\H1 a=⇑(.ins C dx fs)/\MP K C/\fM K C f/\fs.lookup f=⇑v/\
 tv σ H1 λy H2=>rd v y H2 λz H3=>∃ dx' Xc,H3 a=⇑(.ins C dx' Xc)/\Xc.length<1000/\D.nx σ (aO H3 a (.ins C dx' (dJ f z Xc)))
section
variable {X:Cx} {o e value:Expr} {f:Str} {pos iJ Lb:Pos} {ta tv:TE}
def cU(he:PE X e ta)(hb:attributeBase e f X.env (eval e X.env)=eval e X.env):PE X (.Attribute e f pos) (Yj X.K ta f):=by
 intro ak s σ H Q I h;refine QO hb (cL (he ak s σ H _ I h) λu s1 AG=>?_);let⟨x,H1,I1,rx,a,C,dx,fs,v,ex,ea,c,n,l,q⟩:=AG;subst ex;obtain rfl:u=Value.ref a:=rx;exact yU I1 ea c n l λu' s2 I2 ru=>⟨v,H1,I2,ru,q⟩
def iT(ha:PE X o ta)(hv:PE X value tv)(hs:swapsWith value (⇑(.Attribute o f iJ)) pos.line X.env=pure false):PS X (.Assign [.Attribute o f iJ] value pos) (acu X.K ta tv f):=by
 intro ak s σ H D I h;refine plainObj_wpAny_Assign_Attribute (cL (hv ak s σ H _ I h) λu s1 h1=>?_) hs;let⟨y,H1,I1,ry,q⟩:=h1;refine cL (ha ak s1 σ H1 _ I1 q) λov s2 h2=>?_;let⟨x,H2,I2,rx,a,C,dx,fs,ex,ea,c,n,l,q2⟩:=h2;subst ex;obtain rfl:ov=Value.ref a:=rx;exact yW I2 ea c n l ry λs3 I3=>⟨σ,_,I3,q2⟩
def vX{op:Operator}{rd:V->V->Hp->VK->Prop}(ha:PE X o ta)(hv:PE X value tv)(Qn:Yk X op rd):PS X (.AugAssign (.Attribute o f Lb) op value pos) (QS X.K ta tv rd f):=by
 intro ak s σ H D I h;refine wpAny_AugAssign_AttributeAny (cL (ha ak s σ H _ I h) λov s1 h1=>?_);let⟨x,H1,I1,rx,a,C,dx,fs,v,ex,ea,c,n,l,q⟩:=h1;subst ex;obtain rfl:ov=Value.ref a:=rx;refine yU I1 ea c n l λu s2 I2 ru=>cL (hv ak s2 σ H1 _ I2 q) λw3 s3 ⟨y,H2,I3,ry,q3⟩=>cL (Qn ak s3 σ H2 v y u w3 _ I3 ru ry q3) λw4 s4 EO=>?_;let⟨z,H3,I4,rz,dx',Xc,ea',l',q4⟩:=EO;exact yW I4 ea' c n l' rz λs5 I5=>⟨σ,_,I5,q4⟩
end
section
variable {X:Cx} {ak:List (Addr × Obj)} {σ:St} {H:Hp} {s:Shared} {A:Around} {E:Value->Shared->Prop} {Q:Value->Shared->Prop} {c:Value} {b:Bool}
inductive jU(K:PySem.W.Frag)(H:Hp):V->Value->Prop where
 | gj:jU K H .gj (.type "NoneType")
 | bl (x:Bool):jU K H (.bl x) (.type "bool")
 | int (i:Int):jU K H (.int i) (.type "int")
 | str (x:Str):jU K H (.str x) (.type "str")
 | Tn (x:UInt64):jU K H (.Tn x) (.type "float")
 | lst {a:Addr} {xs:List V} (e:H a=⇑(.lst xs)):jU K H ↥a (.type "list")
 | Hi {a:Addr} {o:Obj} {xs:List V} (e:H a=⇑(.Hi o (.lst xs))):jU K H ↥a (.type "list")
 | tup {a:Addr} {xs:List V} (e:H a=⇑(.tup xs)):jU K H ↥a (.type "tuple")
 | dK {a:Addr} {kvs:List (eV × V)} (e:H a=⇑(.dK kvs)):jU K H ↥a (.type "dict")
 | dT {a:Addr} {kvs:List (List eV × V)} (e:H a=⇑(.dT kvs)):jU K H ↥a (.type "dict")
 | ins {a C dx:Addr} {fs:List (Str × V)} (e:H a=⇑(.ins C dx fs)) (cl:MP K C) (ha:findIn K ↥C "__class__"=⇑(⇑(.builtin "object.__class__")))
   (hn:PySem.W.specialIn K (.builtin "object.__class__") "__get__"=⇑(⇑(.builtin "getset_descriptor.__get__"))) (htk:PySem.W.takesIn K (.builtin "object.__class__")=⇑true)
   (hm:mroIn K C (.type "object")=⇑true):jU K H ↥a ↥C
theorem Lc{x:V}{u t:Value}(I:Inv X ak σ H s)(rx:RelV x u)(ty:jU X.K H x t)(e:kitOne X.K t c=⇑b)(h:∀ tk,Q (.bool b) { s with toks:=tk }) :
  wpAny (model X.prog X.w) A (call (.builtin "isinstance") [u,c]) Q E s:=by
 cases ty with
 | gj=>cases (show u=Value.none from rx);exact kia_one PySem.W.kitx_none I.uw True.intro e (λz=>nomatch z) h
 | bl y=>cases (show u=Value.bool y from rx);exact kia_one PySem.W.kitx_bool I.uw True.intro e (λz=>nomatch z) h
 | int i=>let⟨t,q⟩:=(show ∃ t,u=Value.int i t from rx);cases q;exact kia_one PySem.W.kitx_int I.uw True.intro e (λz=>nomatch z) h
 | str y=>let⟨t,q⟩:=(show ∃ t,u=Value.str y t from rx);cases q;exact kia_one PySem.W.kitx_str I.uw True.intro e (λz=>nomatch z) h
 | Tn y=>let⟨t,q⟩:=(show ∃ t,u=Value.float y t from rx);cases q;exact kia_one PySem.W.kitx_float I.uw True.intro e (λz=>nomatch z) h
 | @lst a xs ea =>
  cases (show u=Value.ref a from rx);let⟨_,_,n,_,h1⟩:=(show fF X.prog X.w H s.heap a (.lst xs) from I.hok a _ ea);exact kia_one kitx_list I.uw ⟨_,h1,rfl⟩ e (λz=>nomatch z) h
 | @Hi a ob xs ea =>
  cases (show u=Value.ref a from rx);let⟨_,_,_,n,_,h1⟩:=(show fF X.prog X.w H s.heap a (.Hi ob (.lst xs)) from I.hok a _ ea);exact kia_one kitx_list I.uw ⟨_,h1,rfl⟩ e (λz=>nomatch z) h
 | @tup a xs ea =>
  cases (show u=Value.ref a from rx);let⟨_,_,_,p⟩:=(show fF X.prog X.w H s.heap a (.tup xs) from I.hok a _ ea);let⟨o,h1,h2,_⟩:=p;exact kia_one PySem.W.kitx_tuple I.uw ⟨o,h1,h2⟩ e (λz=>nomatch z) h
 | @dK a kvs ea =>
  cases (show u=Value.ref a from rx);let⟨_,_,vs,_,p⟩:=(show fF X.prog X.w H s.heap a (.dK kvs) from I.hok a _ ea);let⟨o,es,ep,h1,h2,_⟩:=p;exact kia_one kitx_dict I.uw ⟨o,h1,h2.1⟩ e (λz=>nomatch z) h
 | @dT a kvs ea =>
  cases (show u=Value.ref a from rx);let⟨_,_,xs,_,o,es,ep,h1,h2,_⟩:=(show fF X.prog X.w H s.heap a (.dT kvs) from I.hok a _ ea);exact kia_one kitx_dict I.uw ⟨o,h1,h2.1⟩ e (λz=>nomatch z) h
 | @ins a C dx fs ea cl ha hn htk hm =>
  cases (show u=Value.ref a from rx);let⟨mA,O,_⟩:=yC I.hok ea;let⟨od,J,_⟩:=O.look;exact kia_one (PySem.W.kitx_own (cl.get _) cl.hd ha hn htk hm) I.uw J e (λz=>nomatch z) h
end
end L2
namespace L2
open Spec Rows
structure gK(k:Nat)(A:Around):Prop where
 hd:A.handled=none
 dp:A.depth+3*k+5<recursionLimit
 un:A.units+16*k+200<cLine
theorem gK.mono{j k:Nat}{A:Around}(r:gK k A)(h:j<=k):gK j A:=⟨r.hd,by have:=r.dp;lia,by have:=r.un;lia⟩
theorem gK.deeper{k:Nat}{A:Around}(r:gK (k+1) A)(env:Env):gK k (A.deeper env) :=
 ⟨r.hd,by have:=r.dp;show A.depth+1+3*k+5<_;lia,by have:=r.un;show A.units+3+16*k+200<_;lia⟩
def Hw{A:Around}{us:List Value}{kw:List (Str × Value)}:(A.under (.builtin "type.__call__" ⟨↥C::us,kw⟩)).depth=A.depth+1:=by
 first|rfl|simp[Around.under,Code.weight,Code.isCreation,Code.isGuard,Code.isCaller,Code.frames,Code.isFrame,guardIds]
def Hx{A:Around}{us:List Value}{kw:List (Str × Value)}:(A.under (.builtin "type.__call__" ⟨↥C::us,kw⟩)).units=A.units+1:=by
 first|rfl|simp[Around.under,Code.cUnits,Code.frames,Code.isFrame]
theorem gK.make{k:Nat}{A:Around}(r:gK (k+1) A)(C:Addr)(us:List Value)(kw:List (Str × Value)):gK k (A.under (.builtin "type.__call__" ⟨↥C::us,kw⟩)) :=
 ⟨r.hd,by have:=r.dp;rw[Hw];lia,by have:=r.un;rw[Hx];lia⟩
def gK.depth{k:Nat}{A:Around}(r:gK k A):A.depth<recursionLimit:=by have:=r.dp;lia
def gK.units{k:Nat}{A:Around}(r:gK k A):A.units+64<cLine:=by have:=r.un;lia
def yX:TA:=λ_ H Q=>Q [] H
def Nn(ta:TE)(tr:TA):TA:=fun σ H Q=>ta σ H λx H1=>tr σ H1 λxs H2=>Q (x::xs) H2
section
variable {X:Cx} {e:Expr} {es:List Expr} {te:TE} {t:TA} {pos:Pos}
theorem ah:PA X [] yX:=λ_ _ _ _ H Q I h=>Calls.spliced_nil ⟨[],H,I,.nil,h⟩
def aa(ha:PE X e te)(hr:PA X es t)(hs:starEach (e::es) X.env=(false,eval e X.env)::starEach es X.env:=by rfl):PA X (e::es) (Nn te t):=by
 intro pos ak s σ H Q I h;rw[hs];show wpAny _ _ (spliced ((false,eval e X.env)::backTo pos (starEach es X.env))) _ _ s;refine Calls.spliced_cons (cL (ha ak s σ H _ I h) λu s1 Hr=>?_);let⟨x,H1,I1,r1,q1⟩:=Hr;exact cL (hr pos ak s1 σ H1 _ I1 q1) λus s2 ⟨xs,H2,I2,r2,q2⟩=>⟨x::xs,H2,I2,.cons r1 r2,q2⟩
def acw(t:TA):TE:=fun σ H Q=>t σ H λxs H1=>↑xs<=sizeLine/\∀ p,H1 p=none->Q ↥p (aO H1 p (.tup xs))
def Ld(t:TA):TE:=fun σ H Q=>t σ H λxs H1=>↑xs<=sizeLine/\∀ p,H1 p=none->Q ↥p (aO H1 p (.lst xs))
def cG{x1}(h:PA X es t):PE X (.Tuple es x1 pos) (acw t):=by
 intro ak s σ H Q I hq;refine wpAny_Tuple_spliced (cL (h pos ak s σ H _ I hq) λus s1 ⟨xs,H1,I1,r,z,q⟩=>⟨by rw[← ↑r];exact z,?_⟩);have hf:H1 s1.heap.objs.size=none:=I1.hok.fresh (fK _);refine⟨↥s1.heap.objs.size,aO H1 s1.heap.objs.size (.tup xs),I1.laid (t':=s1.toks) (λb u e=>Heap.get?_push_of_some _ e) (fK _) ?_,rfl,q _ hf⟩;exact⟨z,us,r,⟨_,Heap.get?_push_size _ rfl,rfl,Y⟩⟩
def bO(h:PA X es t):PE X (.List es pos) (Ld t):=by
 intro ak s σ H Q I hq;refine wpAny_List_spliced (cL (h pos ak s σ H _ I hq) λus s1 ⟨xs,H1,I1,r,z,q⟩=>⟨by rw[← ↑r];exact z,?_⟩);have hf:H1 s1.heap.objs.size=none:=I1.hok.fresh (fK _);refine⟨↥s1.heap.objs.size,aO H1 s1.heap.objs.size (.lst xs),I1.laid (t':=s1.toks) (λb u e=>Heap.get?_push_of_some _ e) (fK _) ?_,rfl,q _ hf⟩;exact⟨z,us,0,r,Heap.get?_push_size _ rfl⟩
end
abbrev Sp:=List V->Hp->VK->XK->Prop
abbrev Lf:=List Env->Hp->Shared->XK->Value->Shared->Prop
structure Hy(P:Program)(w:World)(K:PySem.W.Frag)(mg:Str->Option Value)(zt:Heap)(A:Around)(zn:List Env)(s:Shared)(H:Hp):Prop where
 frames:A.frames=⇑zn
 mod:Mod K mg zt
 bs:∀ b o,zt.get? b=⇑o->s.heap.get? b=⇑o/\H b=none
 Qk:zt.objs.size<=s.heap.objs.size
 rN:s.heap.FunFrames zt zn
 QG:∀ b∈qe zn,H b=none
 hok:qh P w H s.heap
 bare:AllBare s.gens
def CE(zn:List Env)(P:Program)(w:World)(H:Hp)(s:Shared)(Q:VK)(u:Value)(s':Shared):Prop :=
 ∃ v H',s'.os=s.os/\AllBare s'.gens/\Un (qe zn) [] H H' s.heap s'.heap/\qh P w H' s'.heap/\RelV v u/\Q v H'
def CR(CX:Lf)(zn:List Env)(P:Program)(w:World)(H:Hp)(s:Shared)(Q:VK)(E:XK)(r:Result)(s':Shared):Prop :=
 match r with
 | .ok (.ret u)=>CE zn P w H s Q u s'
 | .ok _=>False
 | .error e=>CX zn H s E e s'
structure aX(P:Program)(w:World)(K:PySem.W.Frag)(mg:Str->Option Value)(zt:Heap)(CX:Lf)(k:Nat)(f:Addr)(fd:FuncData)(ps:List Str)(sp:Sp):Prop where
 len:∀ vs H Q E,sp vs H Q E->↑vs=↑ps
 run:∀ (A:Around) (zn:List Env) (s:Shared) (H:Hp) (args:Args) (us:List Value) (vs:List V) (Q:VK) (E:XK),gK k A->Hy P w K mg zt A zn s H->BindsTo s fd args (ps.zip us)->bZ vs us->sp vs H Q E->
  codeAny (model P w) A (.call ↥f args) (CR CX zn P w H s Q E) s
theorem aX.imp{P:Program}{w:World}{K:PySem.W.Frag}{mg:Str->Option Value}{zt:Heap}{CX:Lf}{k:Nat}{f:Addr}{ps:List Str}{sp sp':Sp}(F:aX P w K mg zt CX k f fd ps sp)
  (h:∀ vs H Q E,sp' vs H Q E->sp vs H Q E):aX P w K mg zt CX k f fd ps sp' :=
 ⟨λvs H Q E q=>F.len vs H Q E (h _ _ _ _ q),λA zn s H args us vs Q E hr he hb hv hs=>F.run A zn s H args us vs Q E hr he hb hv (h _ _ _ _ hs)⟩
theorem Hy.make{P:Program}{w:World}{K:PySem.W.Frag}{mg:Str->Option Value}{zt:Heap}{A:Around}{zn:List Env}{s:Shared}{H:Hp}(e:Hy P w K mg zt A zn s H)(C:Addr)(us:List Value)(kw:List (Str × Value)) :
  Hy P w K mg zt (A.under (.builtin "type.__call__" ⟨↥C::us,kw⟩)) zn s H:=⟨by first|exact e.frames|(simpa [Around.under,Code.envs,Code.isFrame,pushEnvs] using e.frames),e.mod,e.bs,e.Qk,e.rN,e.QG,e.hok,e.bare⟩
section
variable {X:Cx} {ak:List (Addr × Obj)} {σ:St} {H:Hp} {s s':Shared}
theorem Inv.UP(I:Inv X ak σ H s):Hy X.prog X.w X.K X.mg X.zt X.A X.stack s H :=
 ⟨I.ok.frames,I.ok.mod,I.bs,jf I.ok.Qk I.sz,I.stack,I.ux,I.hok,I.bare⟩
def Inv.after{Q:VK}{u:Value}(I:Inv X ak σ H s)(h:CE X.stack X.prog X.w H s Q u s'):EP X ak σ Q u s':=by
 let⟨v,H',os,bare,un,hok,r,q⟩:=h;let⟨hh,g,d,t,os'⟩:=s';obtain rfl:os'=s.os:=os;exact⟨v,H',I.call (h':=hh) (g':=g) (d':=d) (t':=t) (ch:=[]) un hok bare (λb z=>absurd z (by simp)),r,q⟩
end
def EV(sp:Sp)(yY:List V)(E:XK)(t:TA):TE:=fun σ H Q=>t σ H λvs H1=>sp (vs++yY) H1 Q E
inductive UQ(C:Addr)(m:Str)(x:V)(H:Hp)(N:Prop):Prop
 | mk (a dx:Addr) (fs:List (Str × V)) (_:x=↥a) (_:H a=⇑(.ins C dx fs)) (_:fs.lookup m=none) (_:N):UQ C m x H N
def JI(C:Addr)(m:Str)(sp:Sp)(yY:List V)(E:XK)(ta:TE)(t:TA):TE:=fun σ H Q=>ta σ H λx H1=>UQ C m x H1 (t σ H1 λvs H2=>sp (x::(vs++yY)) H2 Q E)
def Yl(C:Addr)(sp:Sp)(yY:List V)(E:XK)(t:TA):TE:=fun σ H Q=>t σ H λvs H1=>∀ x dx,H1 x=none->H1 dx=none->dx≠x->
 sp (.ref x::(vs++yY)) (aO (aO H1 dx (.own x)) x (.ins C dx [])) (λv H2=>v=.gj/\Q ↥x H2) E
def Binds(K:PySem.W.Frag)(fd:FuncData)(ps:List Str)(ds:List Value):Prop :=
 ∀ (s:Shared) (us:List Value),K.In s.heap->↑(us++ds)=↑ps->BindsTo s fd ⟨us,[]⟩ (ps.zip (us++ds))
theorem Binds.all{K:PySem.W.Frag}{ps:List Str}(h:∀ us:List Value,↑us=↑ps->bindArgs fd ⟨us,[]⟩=pure (ps.zip us)):Binds K fd ps []:=λs us _ hl=>by
 rw[iS]at hl ⊢;exact .of_eq (h us hl)
def jK(CX:Lf)(X:Cx)(E:XK):Prop:=∀ (ak:List (Addr × Obj)) (σ:St) (H:Hp) (s:Shared) (e:Value) (s':Shared),Inv X ak σ H s->CX X.stack H s E e s'->X.xe e s'
section
variable {X:Cx} {CX:Lf} {k:Nat} {f C:Addr} {fd:FuncData} {ps:List Str} {sp:Sp} {yY:List V} {ds:List Value} {E:XK} {x m:Str} {p pos kY:Pos} {e o:Expr} {es:List Expr} {ta:TE} {t:TA}
theorem CQ{σ:St}{H:Hp}{s:Shared}{Q:VK}{us:List Value}{vs:List V}(F:aX X.prog X.w X.K X.mg X.zt CX k f fd ps sp)(hr:gK k X.A)(hb:Binds X.K fd ps ds)(hd:bZ yY ds)(hx:jK CX X E)
  (I:Inv X ak σ H s) (r:bZ vs us) (h:sp (vs++yY) H Q E):wpAny (model X.prog X.w) X.A (call ↥f us) (EP X ak σ Q) X.xe s:=by
 have r2:bZ (vs++yY) (us++ds):=r.append hd;have hl:↑(us++ds)=↑ps:=by rw[← ↑r2];exact F.len _ _ _ _ h
 refine wpAny_call (codeAny_mono (F.run X.A X.stack s H ⟨us,[]⟩ (us++ds) (vs++yY) Q E hr I.UP (hb s us I.uw hl) r2 h) λr s' hq=>?_)
 cases r with
 | error e=>exact hx ak σ H s e s' I hq
 | ok fl =>
  cases fl with
  | ret u=>exact I.after hq
  | next=>exact False.elim hq
  | brk=>exact False.elim hq
  | cont=>exact False.elim hq
theorem CU(F:aX X.prog X.w X.K X.mg X.zt CX k f fd ps sp)(hr:gK k X.A)(hg:Gl X x)(hm:X.mg x=⇑↥f)(hk:keepIn X.K ↥f=true)(hb:Binds X.K fd ps ds)(hd:bZ yY ds)(hx:jK CX X E)
  (ha:PA X (e::es) t) (yZ:(x == ("__debug__":Str))=false:=by decide) (he:starEach (e::es) X.env=(false,eval e X.env)::starEach es X.env:=by rfl) (xx:(backTo pos (starEach es X.env)).any (·.1)=false:=by rfl) :
  PE X (.Call (.Name x p) (e::es) [] pos) (EV sp yY E t):=by
 intro ak s σ H Q I h;refine wpAny_Call_Name_kw (oE I hg hm ?_ yZ);refine callWith_K (h₀:=X.zt) I.ok.mod.Xd hk (cL (ha pos ak s σ H _ I h) λus s1 ⟨vs,H1,I1,r,q⟩=>⟨I1.uw,?_⟩) he xx;exact CQ F hr hb hd hx I1 r q
theorem Np(F:aX X.prog X.w X.K X.mg X.zt CX k f fd ps sp)(hr:gK k X.A)(hg:Gl X x)(hm:X.mg x=⇑↥f)(hk:keepIn X.K ↥f=true)(hb:Binds X.K fd ps ds)(hd:bZ yY ds)(hx:jK CX X E)
  (yZ:(x == ("__debug__":Str))=false:=by decide):PE X (.Call (.Name x p) [] [] pos) (EV sp yY E yX):=by
 intro ak s σ H Q I h;refine wpAny_Call_Name_kw (oE I hg hm ?_ yZ);exact callWith_K0 I.uw hk (CQ (us:=[]) F hr hb hd hx I .nil h)
theorem QT{pl:Sem Bool}(he:PE X o ta)(c:MP X.K C)(hm:Nm X.K C m f)(F:aX X.prog X.w X.K X.mg X.zt CX k f fd ps sp)(hr:gK k X.A)(hb:Binds X.K fd ps ds)(hd:bZ yY ds)(hx:jK CX X E)(ha:PA X (e::es) t)
  (vQ:starEach (e::es) X.env=(false,eval e X.env)::starEach es X.env:=by rfl) (xx:(backTo pos (starEach es X.env)).any (·.1)=false:=by rfl)
  (ht:eval (.Call (.Attribute o m kY) (e::es) [] pos) X.env=(do
   let ov ← eval o X.env
   standAt kY.atName
   let (f,first) ← holding [ov] (getMethod ov m pl)
   callWith pos f first (backTo pos (starEach (e::es) X.env)) (backToKw pos (keywordEach [] X.env))):=by rfl) :
  PE X (.Call (.Attribute o m kY) (e::es) [] pos) (JI C m sp yY E ta t):=by
 intro ak s σ H Q I h;refine methodCall_KW (pl:=pl) (cL (he ak s σ H _ I h) λu s1 ⟨x,H1,I1,rx,a,dx,fs,ex,ea,l,q⟩=>?_) ht;subst ex;obtain rfl:u=Value.ref a:=rx;refine yV I1 ea c hm l ?_
 refine callWith_K (first:=[↥a]) (h₀:=X.zt) I.ok.mod.Xd hm.kp (cL (ha pos ak s1 σ H1 _ I1 q) λus s2 ⟨vs,H2,I2,r,q2⟩=>⟨I2.uw,?_⟩) vQ xx
 exact CQ (us:=↥a::us) (vs:=↥a::vs) F hr hb hd hx I2 (.cons rfl r) q2
theorem Nq{pl:Sem Bool}(he:PE X o ta)(c:MP X.K C)(hm:Nm X.K C m f)(F:aX X.prog X.w X.K X.mg X.zt CX k f fd ps sp)(hr:gK k X.A)(hb:Binds X.K fd ps ds)(hd:bZ yY ds)(hx:jK CX X E)
  (ht:eval (.Call (.Attribute o m kY) [] [] pos) X.env=(do
   let ov ← eval o X.env
   standAt kY.atName
   let (f,first) ← holding [ov] (getMethod ov m pl)
   callWith pos f first (backTo pos (starEach [] X.env)) (backToKw pos (keywordEach [] X.env))):=by rfl) :
  PE X (.Call (.Attribute o m kY) [] [] pos) (JI C m sp yY E ta yX):=by
 intro ak s σ H Q I h;refine methodCall_KW (pl:=pl) (cL (he ak s σ H _ I h) λu s1 ⟨x,H1,I1,rx,a,dx,fs,ex,ea,l,q⟩=>?_) ht;subst ex;obtain rfl:u=Value.ref a:=rx;refine yV I1 ea c hm l ?_
 exact callWith_K0 (first:=[↥a]) I1.uw hm.kp (CQ (us:=[↥a]) (vs:=[↥a]) F hr hb hd hx I1 (.cons rfl .nil) q)
structure Mk(K:PySem.W.Frag)(C f:Addr):Prop where
 makes:makesIn K C=true
 init:findIn K ↥C "__init__"=⇑(⇑↥f)
 fn:isFn K ↥f=true
 kp:keepIn K ↥C=true
theorem Nr{σ:St}{H:Hp}{s:Shared}{Q:VK}{us:List Value}{vs:List V}(M:Mk X.K C f)(F:aX X.prog X.w X.K X.mg X.zt CX k f fd ps sp)(hr:gK (k+1) X.A)(hb:Binds X.K fd ps ds)(hd:bZ yY ds)
  (hx:jK CX X E) (I:Inv X ak σ H s) (r:bZ vs us)
  (h:∀ x dx,H x=none->H dx=none->dx≠x->sp (.ref x::(vs++yY)) (aO (aO H dx (.own x)) x (.ins C dx [])) (λv H2=>v=.gj/\Q ↥x H2) E) :
  wpAny (model X.prog X.w) X.A (call ↥C us) (EP X ak σ Q) X.xe s:=by
 have hq:=h (s.heap.objs.size+1) s.heap.objs.size (I.hok.fresh (Nat.le_succ _)) (I.hok.fresh (fK _)) (jC (Nat.lt_succ_self _));have I2:=Inv.made (C:=C) I;have r2:bZ (V.ref (s.heap.objs.size+1)::(vs++yY)) (Value.ref (s.heap.objs.size+1)::(us++ds)):=.cons rfl (r.append hd)
 have hl:↑(Value.ref (s.heap.objs.size+1)::us++ds)=↑ps:=by
  have e:=↑r2;rw[F.len _ _ _ _ hq]at e;exact e.symm
 refine wpAny_call (Nl (f:=f) I.uw M.makes M.init (beq_iff_eq.mp M.fn) (codeAny_mono (F.run _ X.stack _ _ ⟨Value.ref (s.heap.objs.size+1)::us,[]⟩ (Value.ref (s.heap.objs.size+1)::(us++ds)) _ _ E (hr.make C us []) (I2.UP.make C us []) (hb _ (Value.ref (s.heap.objs.size+1)::us) I2.uw hl) r2 hq) λr s' UR=>?_))
 cases r with
 | error e=>exact hx ak σ _ _ e s' I2 UR
 | ok fl =>
  cases fl with
  | ret u =>
   let⟨v,H',I3,rv,ev,q3⟩:=I2.after UR;subst ev;exact⟨rv,⟨V.ref (s.heap.objs.size+1),H',I3,rfl,q3⟩⟩
  | next=>exact False.elim UR
  | brk=>exact False.elim UR
  | cont=>exact False.elim UR
theorem nS(M:Mk X.K C f)(F:aX X.prog X.w X.K X.mg X.zt CX k f fd ps sp)(hr:gK (k+1) X.A)(hg:Gl X x)(hm:X.mg x=⇑↥C)(hb:Binds X.K fd ps ds)(hd:bZ yY ds)(hx:jK CX X E)
  (yZ:(x == ("__debug__":Str))=false:=by decide):PE X (.Call (.Name x p) [] [] pos) (Yl C sp yY E yX):=by
 intro ak s σ H Q I h;refine wpAny_Call_Name_kw (oE I hg hm ?_ yZ);exact callWith_K0 I.uw M.kp (Nr (us:=[]) M F hr hb hd hx I .nil h)
end
structure aG(N P:List Str)(sc:Scope):Prop where
 kind:sc.kind=.function
 co:sc.isCoroutine=false
 gen:sc.isGenerator=false
 nd:N.Nodup
 pre:N.take ↑P=P
 par:∀ x∈P,sc.names.lookup x=⇑.local\/sc.names.lookup x=⇑.cell
 US:∀ y∈sc.names,y.2≠.free
theorem Bo{kindOf:Str->Option NameKind}{x:Str}:∀ {binds:List (Str × Value)} {m:Str->Option Value},(∀ v,(x,v)∉binds)->bindL kindOf binds m x=m x
 | [],_,_=>rfl
 | (n,v)::r,m,h=>by
  unfold bindL;rw[Bo λw hw=>h w (nO _ hw)];split
  ·have:x≠n:=by rintro rfl;exact h v uv
   simp[this]
  ·rfl
theorem Bp{kindOf:Str->Option NameKind}{x:Str}:∀ {binds:List (Str × Value)} {m:Str->Option Value},(∀ v,(x,v)∉binds)->bindC kindOf binds m x=m x
 | [],_,_=>rfl
 | (n,v)::r,m,h=>by
  unfold bindC;rw[Bp λw hw=>h w (nO _ hw)];split
  ·rfl
  ·have:x≠n:=by rintro rfl;exact h v uv
   simp[this]
theorem Bq{kindOf:Str->Option NameKind}{x:Str}{v:Value}:∀ {P:List Str} {vs:List Value} {i:Nat} {m:Str->Option Value},P.Nodup->P[i]?=⇑x->vs[i]?=⇑v->kindOf x=⇑.local->
  bindL kindOf (P.zip vs) m x=⇑v
 | [],_,_,_,_,h,_,_=>by simp at h
 | _::_,[],_,_,_,_,h,_=>by simp at h
 | p::P,w::vs,0,m,nd,h1,h2,hk=>by
  simp at h1 h2;subst h1;subst h2;show bindL kindOf ((p,w)::P.zip vs) m p=_;unfold bindL;rw[Bo λv hv=>(List.nodup_cons.mp nd).1 (List.of_mem_zip hv).1,if_pos hk];simp
 | p::P,w::vs,i+1,m,nd,h1,h2,hk=>by
  show bindL kindOf ((p,w)::P.zip vs) m x=_;unfold bindL;exact Bq (i:=i) (List.nodup_cons.mp nd).2 (by simpa using h1) (by simpa using h2) hk
theorem Br{kindOf:Str->Option NameKind}{x:Str}{v:Value}:∀ {P:List Str} {vs:List Value} {i:Nat} {m:Str->Option Value},P.Nodup->P[i]?=⇑x->vs[i]?=⇑v->kindOf x≠some .local->
  bindC kindOf (P.zip vs) m x=⇑v
 | [],_,_,_,_,h,_,_=>by simp at h
 | _::_,[],_,_,_,_,h,_=>by simp at h
 | p::P,w::vs,0,m,nd,h1,h2,hk=>by
  simp at h1 h2;subst h1;subst h2;show bindC kindOf ((p,w)::P.zip vs) m p=_;unfold bindC;rw[Bp λv hv=>(List.nodup_cons.mp nd).1 (List.of_mem_zip hv).1,if_neg hk];simp
 | p::P,w::vs,i+1,m,nd,h1,h2,hk=>by
  show bindC kindOf ((p,w)::P.zip vs) m x=_;unfold bindC;exact Br (i:=i) (List.nodup_cons.mp nd).2 (by simpa using h1) (by simpa using h2) hk
def start(N:List Str)(vs:List V):St:=vs.map some++List.replicate (↑N-↑vs) none
def EW(CX:Lf)(P:Program)(w:World)(K:PySem.W.Frag)(mg:Str->Option Value)(zt:Heap)(N:List Str)(cP:Str)(scope:Scope)(f:Addr)(cd:Value)(A:Around)(zn:List Env)(s:Shared)(H:Hp)(E:XK):Cx where
 prog:=P
 w:=w
 K:=K
 mg:=mg
 zt:=zt
 A:=A.deeper (envOfC cP scope s.heap.objs.size f cd)
 N:=N
 s₀:=s
 H₀:=H
 env:=envOfC cP scope s.heap.objs.size f cd
 zn:=zn
 stack:=envOfC cP scope s.heap.objs.size f cd::zn
 ex:=[]
 calm:=true
 fn:=λ_=>true
 pn:=[]
 xe:=λe s'=>wpAny (model P w) (A.deeper (envOfC cP scope s.heap.objs.size f cd)) (leaving (envOfC cP scope s.heap.objs.size f cd) e) (λ_ s''=>CX zn H s E e s'') (λe' s''=>CX zn H s E e' s'') s'
def EX{sc:Scope}{n:Nat}{x:Str}(h:sc.names.lookup x=⇑.cell):∃ c,(cellsFrom n sc.names []).lookup x=⇑c:=by
 have q:=cellsFrom_some sc.names n [] (.inl h);exact Option.isSome_iff_exists.mp q
theorem Lg{CX:Lf}{P:Program}{w:World}{K:PySem.W.Frag}{mg:Str->Option Value}{zt:Heap}{N ps:List Str}{cP:Str}{scope:Scope}{f:Addr}{cd:Value}{A:Around}{zn:List Env}{s s1:Shared}{H:Hp}{E:XK}{us:List Value}{vs:List V}
  (S:aG N ps scope) (hd:A.handled=none) (e0:Hy P w K mg zt A zn s H) (hl:↑vs=↑ps) (r:bZ vs us)
  (x:InCallC s s.heap.objs.size (bindL (envOfC cP scope s.heap.objs.size f cd).kindOf (ps.zip us) λ_=>none) (cellsFrom (s.heap.objs.size+1) scope.names []) (bindC (envOfC cP scope s.heap.objs.size f cd).kindOf (ps.zip us) λ_=>none) s1) :
  Inv (EW CX P w K mg zt N cP scope f cd A zn s H E) [] (start N vs) H s1:=by
 have xx:↑ps<=↑N:=by have:=congrArg List.length S.pre;rw[gx]at this;lia
 let⟨h1,tk,rfl,hk⟩:=x.done;have Ym:∀ b:Addr,b∉(EW CX P w K mg zt N cP scope f cd A zn s H E).ex:=λb z=>absurd (show b∈([]:List Addr) from z) (by simp)
 exists ⟨e0.mod,S.kind,V,fK _,λy z c h1 h2=>?_,λy hy=>?_,λy c _ h=>?_,λ_=>hd,Around.frames_deeper e0.frames,.inr ⟨V⟩,λb z=>absurd z (Ym b),e0.bs,e0.Qk,λb _ _=>Ym b,λb z=>absurd z (Ym b),e0.rN,e0.QG⟩,
  rfl,e0.bare,Un.kept hk,⟨_,x.toInCall.ns,λi y v h1 h2 h3=>?_⟩,λy c h=>⟨_,x.cell y c h⟩,e0.hok.fresh (fK _),λy c h=>?_,λp hp=>absurd (show p∈([]:List (Addr × Obj)) from hp) (by simp),e0.hok.kept hk
 ·exact name_of_addr x.apart (PySem.mem_of_lookup h1) (PySem.mem_of_lookup h2)
 ·have hy:scope.names.lookup y=⇑.cell\/scope.names.lookup y=⇑.free:=hy;rcases hy with hy|hy
  ·exact EX hy
  ·exact absurd rfl (S.US _ (PySem.mem_of_lookup hy))
 ·exact iC (x.above y c (PySem.mem_of_lookup h))
 ·have hi:i<↑vs:=by
   unfold start at h2;by_cases hi:i<↑vs
   ·exact hi
   ·rw[List.getElem?_append_right (by simpa using hi)]at h2;rw[List.getElem?_replicate]at h2
    split at h2 <;> cases h2
  have ha:vs[i]?=⇑v:=by
   unfold start at h2;rw[List.getElem?_append_left (by simpa using hi),kU]at h2
   cases e:vs[i]? with
   | none=>rw[e]at h2;cases h2
   | some a=>rw[e]at h2;cases h2;rfl
  let⟨u,hu,rv⟩:=r.get ha
  have hp:ps[i]?=⇑y:=by
   rw[← S.pre,List.getElem?_take_of_lt ∅];exact h1
  have ndP:ps.Nodup:=by rw[← S.pre];exact S.nd.sublist (List.take_sublist _ _)
  exists u,rv;rcases S.par y (m6 hp) with k|k
  ·exact .inl ⟨k,Bq ndP hp hu k⟩
  ·let⟨c,e⟩:=EX (n:=s.heap.objs.size+1) k;refine .inr ⟨.inl k,c,e,?_⟩;have q:=x.cell y c e;rw[Br ndP hp hu (by show scope.names.lookup y≠_;rw[k];decide)]at q;exact q
 ·exact e0.hok.fresh (iC (x.above y c (PySem.mem_of_lookup h)))
 ·unfold start;show _=↑N;rw[dM,bW,List.length_replicate];lia
theorem Tu{CX:Lf}{P:Program}{w:World}{K:PySem.W.Frag}{mg:Str->Option Value}{zt:Heap}{k:Nat}{f:Addr}{name cP:Str}{params:Arguments}{scope:Scope}{dV kV vY pm cH ct oc:Value}{an od:Option Addr}
  {Lh:Array (Option Value)} {N ps:List Str} {sp:Sp} (lk:K.lookup f=some ⟨oc,od,.func (fnOf name cP params body scope dV kV vY pm an cH ct),Lh⟩) (KS:codeIn K cH cP=true) (S:aG N ps scope)
  (len:∀ vs H Q E,sp vs H Q E->↑vs=↑ps)
  (uA:∀ (A:Around) (zn:List Env) (s:Shared) (H:Hp) (vs:List V) (Q:VK) (E:XK),gK k (A.deeper (envOfC cP scope s.heap.objs.size f cH))->sp vs H Q E->
   ∃ t,EA (EW CX P w K mg zt N cP scope f cH A zn s H E) body t/\t { nx:=λ_ H'=>Q .gj H',rt:=Q } (start N vs) H) :
  aX P w K mg zt CX (k+1) f (fnOf name cP params body scope dV kV vY pm an cH ct) ps sp:=by
 refine⟨len,λA zn s H args us vs Q E hr e0 hb r Hz=>?_⟩;have hl:=len _ _ _ _ Hz;have KX:K.In s.heap:=e0.mod.Xd.keeps λb o e=>(e0.bs b o e).1;have lim:s.heap.NoLimit:=e0.mod.nolimit.keeps λb o e=>(e0.bs b o e).1
 have hkind:∀ y∈ps.zip us,scope.names.lookup y.1=⇑.local\/(scope.names.lookup y.1=⇑.cell/\((cellsFrom (s.heap.objs.size+1) scope.names []).lookup y.1).isSome=true):=λ⟨n,v⟩ hy=>by
  rcases S.par n (List.of_mem_zip hy).1 with q|q
  ·exact .inl q
  ·exact .inr ⟨q,cellsFrom_some _ _ _ (.inl q)⟩
 refine codeAny_call_function hr.depth (KX _ _ lk) rfl S.co S.gen rfl (PySem.W.codeRec_of KX KS) (hb _ _ _ _ ?_);refine wpAny_newFunctionEnv_cells S.kind hkind λenv he s1 x=>?_;subst he;refine⟨lim.keeps x.toInCall.keep,codeAny_func ?_⟩;let⟨t,ht,hq⟩:=uA A zn s H vs Q E (hr.deeper _) Hz;have I:Inv (EW CX P w K mg zt N cP scope f cH A zn s H E) [] (start N vs) H s1:=Lg S hr.hd e0 hl r x;refine wpAny_mono (ht [] s1 (start N vs) H _ I hq) (λfl s' hs=>?_) λe s' hs=>hs;have iH:∀ {σ':St} {H':Hp} {v:V} {u:Value},Inv (EW CX P w K mg zt N cP scope f cH A zn s H E) [] σ' H' s'->RelV v u->Q v H'->CE zn P w H s Q u s' := λ{σ' H' v u} J rv q=>⟨v,H',J.os,J.bare,J.zt,J.hok,rv,q⟩
 cases fl with
 | ret u =>
  let⟨v,σ',H',J,rv,q⟩:=hs;exact iH J rv q
 | next =>
  let⟨σ',H',J,q⟩:=hs;exact iH (v:=V.gj) (u:=Value.none) J rfl q
 | brk =>
  let⟨_,_,_,q⟩:=hs;exact False.elim q
 | cont =>
  let⟨_,_,_,q⟩:=hs;exact False.elim q
end L2
namespace L2
open Spec Rows
section
variable {X:Cx} {x:Str} {p pos:Pos} {e:Expr} {es:List Expr} {t:TA} {id T:String} {r:List V->Hp->VK->Prop}
def tCB(r:List V->Hp->VK->Prop)(t:TA):TE:=fun σ H Q=>t σ H λvs H1=>r vs H1 Q
theorem b8(hc:jF X (.builtin id) r)(hg:Gl X x)(hm:X.mg x=none)(hv:bootBuiltins x=⇑(.builtin id))(ha:PA X (e::es) t)(hn:x≠"__name__":=by decide)(yZ:(x == ("__debug__":Str))=false:=by decide)
  (he:starEach (e::es) X.env=(false,eval e X.env)::starEach es X.env:=by rfl) (xx:(backTo pos (starEach es X.env)).any (·.1)=false:=by rfl):PE X (.Call (.Name x p) (e::es) [] pos) (tCB r t):=by
 intro ak s σ H Q I h;refine wpAny_Call_Name_kw (vN I hg hm hv ?_ hn yZ);exact PyProof.Rows.callWith_builtin1 (cL (ha pos ak s σ H _ I h) λus s1 ⟨vs,H1,I1,r1,q1⟩=>hc ak s1 σ H1 vs us Q I1 r1 q1) he xx
theorem d7(hc:jF X (.type T) r)(hg:Gl X x)(hm:X.mg x=none)(hv:bootBuiltins x=⇑(.type T))(ha:PA X (e::es) t)(hn:x≠"__name__":=by decide)(yZ:(x == ("__debug__":Str))=false:=by decide)
  (he:starEach (e::es) X.env=(false,eval e X.env)::starEach es X.env:=by rfl) (xx:(backTo pos (starEach es X.env)).any (·.1)=false:=by rfl):PE X (.Call (.Name x p) (e::es) [] pos) (tCB r t):=by
 intro ak s σ H Q I h;refine wpAny_Call_Name_kw (vN I hg hm hv ?_ hn yZ);exact PyProof.Rows.callWith_type1 (cL (ha pos ak s σ H _ I h) λus s1 ⟨vs,H1,I1,r1,q1⟩=>hc ak s1 σ H1 vs us Q I1 r1 q1) he xx
end
end L2
namespace HT
open Rows
section
variable {prog:Program} {w:World} {A:Around} {E:Value->Shared->Prop} {s:Shared}
def gv(n d:Nat):Option Int->Nat
 | none=>d
 | some v=>if v<0 then (v+(n:Int)).toNat else min v.toNat n
def JJ(n d k:Nat):gv n d (⇑(k:Int))=min k n:=by
 show (if (k:Int)<0 then ((k:Int)+(n:Int)).toNat else min (k:Int).toNat n)=min k n;rw[if_neg ∅,sO]
def UT(n d:Nat)(hd:d<=n)(o:Option Int):gv n d o<=n:=by
 cases o with
 | none=>exact hd
 | some v =>
  show (if v<0 then (v+(n:Int)).toNat else min v.toNat n)<=n;by_cases hv:v<0
  ·rw[if_pos hv];lia
  ·rw[if_neg hv];exact Nat.min_le_right _ _
def JK(v:Int)(n d:Nat):(if v<0 then max (v+(n:Int)) 0 else min v (n:Int))=((gv n d (⇑v):Nat):Int):=by
 show (if v<0 then max (v+(n:Int)) 0 else min v (n:Int))=(((if v<0 then (v+(n:Int)).toNat else min v.toNat n):Nat):Int);by_cases hv:v<0
 ·simp only[if_pos hv];lia
 ·simp only[if_neg hv];lia
def HF(lo hi:Option Int)(n:Nat):Builtin.Slice.sliceAdjust lo hi 1 (n:Int)=(((gv n 0 lo:Nat):Int),((gv n n hi:Nat):Int)):=by
 have h1:¬ ((1:Int)<0):=by lia
 unfold Builtin.Slice.sliceAdjust;simp only[h1,if_false];refine Prod.ext ?_ ?_
 ·cases lo with
  | none=>rfl
  | some v=>exact JK v n 0
 ·cases hi with
  | none=>rfl
  | some v=>exact JK v n n
def HG(i j:Nat):Builtin.Slice.slicePlaces (i:Int) (j:Int) 1=j-i:=by
 unfold Builtin.Slice.slicePlaces;have h1:(1:Int) > 0:=by lia
 simp only[h1,if_true,Int.ediv_one]
 split <;> lia
def y9{v:Value}{o:Option Int}{Q:Option Int->Shared->Prop}(p:IsPart v o)(h:Q o s):wpAny (model prog w) A (Builtin.Slice.slicePartIndex v) Q E s:=by
 cases p with
 | none=>exact slicePart_none h
 | int i t=>exact slicePart_int h
theorem vZ{sl:Addr}{vl vu:Value}{lo hi:Option Int}{n:Nat}{Q:Int × Int × Nat->Shared->Prop}(hs:s.heap.IsSliceOf sl vl vu .none)(pl:IsPart vl lo)(pu:IsPart vu hi)
  (h:Q (((gv n 0 lo:Nat):Int),1,gv n n hi-gv n 0 lo) s):wpAny (model prog w) A (Builtin.Slice.sliceApplied ↥sl (pure (n:Int))) Q E s:=by
 let⟨os,hos,QU,JL⟩:=id hs;unfold Builtin.Slice.sliceApplied Builtin.Slice.sliceFields;refine wpAny_bind (wpAny_bind (wpAny_field hos JL (x:=vl) rfl (wpAny_bind (wpAny_field hos JL (x:=vu) rfl (wpAny_bind (wpAny_field hos JL (x:=.none) rfl (wpAny_pure ?_)))))));refine wpAny_bind (slicePart_none ?_);show wpAny _ _ (if ((1:Int) == 0)=true then _ else _) _ _ s;rw[if_neg (by decide)];refine wpAny_bind (y9 pl (wpAny_bind (y9 pu (wpAny_bind (wpAny_pure ?_)))));show wpAny _ _ (match Builtin.Slice.sliceAdjust lo hi 1 (n:Int) with|(lo,hi)=>pure (lo,(1:Int),Builtin.Slice.slicePlaces lo hi 1)) _ _ s;rw[HF lo hi n];show wpAny _ _ (pure (((gv n 0 lo:Nat):Int),(1:Int),Builtin.Slice.slicePlaces ((gv n 0 lo:Nat):Int) ((gv n n hi:Nat):Int) 1)) _ _ s;rw[HG];exact wpAny_pure h
def Nt(xs:Array Value)(i k:Nat):((List.range k).filterMap λ(m:Nat)=>xs[((i:Int)+(m:Int)*1).toNat]?).toArray=((xs.toList.drop i).take k).toArray:=by
 have e:(λ(m:Nat)=>xs[((i:Int)+(m:Int)*1).toNat]?)=λm=>xs[i+m]?:=by
  funext m;have:((i:Int)+(m:Int)*1).toNat=i+m:=by lia
  rw[this]
 rw[e];have:=pick_run xs i k;rw[List.filterMap_map]at this;have e2:((λx=>xs[x]?) ∘ λx=>i+x)=λm=>xs[i+m]?:=rfl;rw[e2]at this;rw[this]
theorem uB{t sl:Addr}{items:Array Value}{vl vu:Value}{lo hi:Option Int}{Q:Value->Shared->Prop}(ht:IsTup s.heap t items)(hs:s.heap.IsSliceOf sl vl vu .none)(pl:IsPart vl lo)(pu:IsPart vu hi)
  (hw:¬ (gv items.size 0 lo=0/\gv items.size items.size hi=items.size))
  (h:Q ↥s.heap.objs.size { s with heap:=s.heap.push { cls:=.type "tuple",data:=.seq ((items.toList.drop (gv items.size 0 lo)).take (gv items.size items.size hi-gv items.size 0 lo)).toArray } })
  (hsz:items.size<=sizeLine):wpAny (model prog w) A (getItem ↥t ↥sl) Q E s:=by
 have JM:sizeOk (.seq ((items.toList.drop (gv items.size 0 lo)).take (gv items.size items.size hi-gv items.size 0 lo)).toArray):=by
  show ((items.toList.drop (gv items.size 0 lo)).take (gv items.size items.size hi-gv items.size 0 lo)).toArray.size<=sizeLine;rw[gG,gx,sP,Array.length_toList];lia
 have hj:gv items.size items.size hi<=items.size:=UT _ _ (fK _) hi;let⟨os,hos,QU,JL⟩:=id hs;have hTs:s.TypeIs ↥sl "slice":=⟨os,hos,QU⟩;unfold getItem
 try with_reducible refine wpAny_holding ?_
 first|refine wpAny_bind (wpAny_pure ?_)|skip
 refine wpAny_bind (wpAny_sequenceKey ht.typeIs (by decide) ?_);refine wpAny_bind (wpAny_callSpecial?_slot (name:=Str.ofString "__getitem__") ht.typeIs PyProof.Rows.slot_tuple_getitem (wpAny_call_entry PyProof.Rows.slot_tuple_getitem ht.typeIs entry_tuple_getitem ?_ (args_tuple_getitem _ _)));show wpAny _ _ (Builtin.Tuple.tupleItemsOf ↥t >>= _) _ _ s;refine wpAny_bind (tupleItemsOf_ ht ?_);refine wpAny_bind (wpAny_typeOf hTs ?_);rw[if_pos (by decide)];refine wpAny_bind (vZ hs pl pu ?_)
 have Tv:¬ ((((gv items.size 0 lo:Nat):Int) == 0&&(1:Int) == 1&&(gv items.size items.size hi-gv items.size 0 lo) == items.size)=true):=by
  intro q;rw[Bool.and_eq_true,Bool.and_eq_true]at q;have q1:((gv items.size 0 lo:Nat):Int)=0:=eq_of_beq q.1.1;have q2:gv items.size items.size hi-gv items.size 0 lo=items.size:=eq_of_beq q.2;exact hw ⟨E,E⟩
 show wpAny _ _ (if (((gv items.size 0 lo:Nat):Int) == 0&&(1:Int) == 1&&(gv items.size items.size hi-gv items.size 0 lo) == items.size)=true then _ else _) _ _ s;rw[if_neg Tv,Nt]
 first
  | exact wpAny_bind (m:=Builtin.Tuple.tupleExact _) (wpAny_newObj_type (wpAny_pure ⟨Y,wpAny_pure h⟩) JM)
  | exact wpAny_bind (m:=Builtin.Tuple.tupleExact _) (wpAny_newObj_type (wpAny_bind (wpAny_pure (wpAny_pure ⟨Y,wpAny_pure h⟩))) JM)
  | exact wpAny_bind (wpAny_bind (m:=Builtin.Tuple.tupleExact _) (wpAny_newObj_type (wpAny_pure (wpAny_pure ⟨Y,wpAny_pure h⟩)) JM))
  | exact wpAny_bind (wpAny_bind (m:=Builtin.Tuple.tupleExact _) (wpAny_newObj_type (wpAny_pure ⟨Y,wpAny_pure h⟩) JM))
end
end HT
namespace L2
open Spec Rows
abbrev TO:=St->Hp->(Option Int->Hp->Prop)->Prop
def PO(X:Cx)(e:Option Expr)(t:TO):Prop :=
 ∀ (ak:List (Addr × Obj)) (s:Shared) (σ:St) (H:Hp) (Q:Option Int->Hp->Prop),Inv X ak σ H s->t σ H Q->
  wpAny (model X.prog X.w) X.A (evalPart e X.env) (λu s'=>∃ o H',Inv X ak σ H' s'/\IsPart u o/\Q o H') X.xe s
def QV:TO:=λ_ H Q=>Q none H
def Yn(t:TE):TO:=fun σ H Q=>t σ H λx H1=>isI x H1 Q
def intsAre_of{ns:List Int}:∀ {us:List Value},bZ (ns.map V.int) us->IntsAre us ns:=by
 induction ns with
 | nil=>intro us r;rw[List.map_nil]at r;cases r;exact .nil
 | cons n ns ih =>
  intro us r;rw[jh]at r
  cases r with
  | cons r1 r2 =>
   let⟨t,e⟩:=r1;subst e;exact .cons n t (ih r2)
section
variable {X:Cx} {e:Expr} {te:TE} {lo hi:Option Expr} {tl th:TO} {pos p2:Pos}
def oK:PO X none QV:=by
 intro ak s σ H Q I h;rw[evalPart_none];exact wpAny_pure ⟨none,H,I,.none,h⟩
def kZ(h:PE X e te):PO X (⇑e) (Yn te):=by
 intro ak s σ H Q I hw;rw[evalPart_some];refine cL (h ak s σ H _ I hw) λu s1 Ho=>?_;let⟨x,H1,I1,r1,q1⟩:=Ho;let⟨i,rfl,q⟩:=q1;let⟨t,rfl⟩:=r1;exact⟨⇑i,H1,I1,.int i t,q⟩
def SlR(X:Cx)(r:V->Option Int->Option Int->Hp->VK->Prop):Prop :=
 ∀ (ak:List (Addr × Obj)) (s:Shared) (σ:St) (H:Hp) (x:V) (v vl vu:Value) (lo hi:Option Int) (sl:Addr) (Q:VK),Inv X ak σ H s->RelV x v->s.heap.IsSliceOf sl vl vu .none->IsPart vl lo->IsPart vu hi->r x lo hi H Q->
  ∃ T id,typeLookup (.type T) "__getitem__"=pure (⇑(.builtin id))/\s.TypeIs v T/\wpAny (model X.prog X.w) X.A (getItem v ↥sl) (EP X ak σ Q) X.xe s
def tSl(r:V->Option Int->Option Int->Hp->VK->Prop)(te:TE)(tl th:TO):TE:=fun σ H Q=>te σ H λx H1=>tl σ H1 λl H2=>th σ H2 λu H3=>r x l u H3 Q
def jV{r:V->Option Int->Option Int->Hp->VK->Prop}(hr:SlR X r)(he:PE X e te)(hl:PO X lo tl)(hu:PO X hi th):PE X (.Subscript e (.Slice lo hi none p2) pos) (tSl r te tl th):=by
 intro ak s σ H Q I h;refine Subscript_ (cL (he ak s σ H _ I h) λv s1 AF=>?_);let⟨x,H1,I1,r1,q1⟩:=AF;refine wpAny_Slice (cL (hl ak s1 σ H1 _ I1 q1) λvl s2 ⟨l,H2,I2,pl,q2⟩=>cL (hu ak s2 σ H2 _ I2 q2) λvu s3 EM=>?_);let⟨u,H3,I3,pu,q3⟩:=EM;rw[evalPart_none];refine wpAny_pure ?_;have I4:Inv X ak σ H3 { s3 with heap:=s3.heap.push { cls:=.type "slice",data:=.fields #[vl,vu,.none] } }:=I3.kept (t':=s3.toks) λb ob q=>Heap.get?_push_of_some _ q;let⟨T,id,hT,ht,hg⟩:=hr ak { s3 with heap:=s3.heap.push { cls:=.type "slice",data:=.fields #[vl,vu,.none] } } σ H3 x v vl vu l u s3.heap.objs.size Q I4 r1 (Heap.IsSliceOf.new ..) pl pu q3;show wpAny (model X.prog X.w) X.A (subscriptTail e (.Slice lo hi none p2) v ↥s3.heap.objs.size) (EP X ak σ Q) X.xe { s3 with heap:=s3.heap.push { cls:=.type "slice",data:=.fields #[vl,vu,.none] } };exact tail_any (ops:=[↥s3.heap.objs.size,v]) ht hT hg (by with_unfolding_all rfl)
def jW(xs:List V)(lo hi:Option Int):List V:=(xs.drop (HT.gv ↑xs 0 lo)).take (HT.gv ↑xs ↑xs hi-HT.gv ↑xs 0 lo)
def xy(xs:List V)(lo hi:Option Int):↑(jW xs lo hi)<=↑xs:=by
 unfold jW;rw[gx,sP];lia
def acB(K:PySem.W.Frag):V->Option Int->Option Int->Hp->VK->Prop:=λx lo hi H Q=>∃ a xs,x=↥a/\dN K H a xs/\
 ¬ (HT.gv ↑xs 0 lo=0/\HT.gv ↑xs ↑xs hi=↑xs)/\∀ p,H p=none->Q ↥p (aO H p (.tup (jW xs lo hi)))
def UU:SlR X (acB X.K):=by
 intro ak s σ H x v vl vu lo hi sl Q I rx hs pl pu h;let⟨a,xs,rfl,hx,hw,q⟩:=h;cases rx;let⟨aQ,r,ht,hz⟩:=I.tuple hx;have cX:aQ.toArray.size=↑xs:=by rw[gG];exact r.length.symm
 exists "tuple",_,PyProof.Rows.slot_tuple_getitem.lookup,ht.typeIs;refine HT.uB ht hs pl pu (by rw[cX];exact hw) ?_ (by rw[cX];exact hz);rw[cX];refine⟨↥s.heap.objs.size,_,I.laid (t':=s.toks) (o:=.tup (jW xs lo hi)) (λb ob q=>Heap.get?_push_of_some _ q) (fK _) ?_,rfl,q _ (I.hok.fresh (fK _))⟩;exact⟨Nat.le_trans (xy xs lo hi) hz,_,(r.drop (HT.gv ↑xs 0 lo)).take (HT.gv ↑xs ↑xs hi-HT.gv ↑xs 0 lo),IsTup.new _ _⟩
end
end L2
namespace L2
open Spec Rows
def JN(n:Nat)(i:Int):Option Nat:=if 0<=i then (if i<n then some i.toNat else none) else if -(n:Int)<=i then some (i+n).toNat else none
def qm{α:Type}(xs:List α)(i:Int):Option α:=(JN ↑xs i).bind λj=>xs[j]?
def JO{n:Nat}{i:Int}{j:Nat}(h:JN n i=⇑j):seqIndex? i n=⇑j/\j<n/\-(n:Int)<=i/\i<n:=by
 unfold JN at h;by_cases h0:0<=i
 ·rw[if_pos h0]at h;by_cases h1:i<n
  ·rw[if_pos h1]at h;have e:i.toNat=j:=rL h;exact⟨by rw[seqIndex_of h0 h1,e],E,E,h1⟩
  ·rw[if_neg h1]at h;cases h
 ·rw[if_neg h0]at h;by_cases h1:-(n:Int)<=i
  ·rw[if_pos h1]at h;have e:(i+n).toNat=j:=rL h;exact⟨by rw[seqIndex_neg ∅ h1,e],E,h1,E⟩
  ·rw[if_neg h1]at h;cases h
def JP{α:Type}{xs:List α}{i:Int}{v:α}(h:qm xs i=⇑v):∃ j,seqIndex? i ↑xs=⇑j/\xs[j]?=⇑v/\j<↑xs/\-(↑xs:Int)<=i/\i<↑xs:=by
 unfold qm at h
 cases e:JN ↑xs i with
 | none=>rw[e]at h;cases h
 | some j =>
  rw[e]at h;let⟨h1,h2,h3,h4⟩:=JO e;exact⟨j,h1,h,h2,h3,h4⟩
def cQ{α:Type}{xs:List α}{j:Nat}{v:α}(h:xs[j]?=⇑v):qm xs (j:Int)=⇑v:=by
 have hj:j<↑xs:=(List.getElem?_eq_some_iff.mp h).1
 have e:JN ↑xs (j:Int)=⇑j:=by
  unfold JN;rw[if_pos ∅,if_pos ∅];simp
 unfold qm;rw[e];exact h
def Nu{α:Type}(xs:List α)(v:α):qm (xs++[v]) (-1)=⇑v:=by
 have hl:↑(xs++[v])=↑xs+1:=by simp
 have e:JN ↑(xs++[v]) (-1)=some ↑xs:=by
  unfold JN;rw[hl,if_neg (by decide),if_pos ∅];congr 1;lia
 unfold qm;rw[e];show (xs++[v])[↑xs]?=⇑v;simp
def JQ(b:Expr):Prop:=∀ o i,subscripted b false o i=operate [o,i] (getItem o i)
def Yo(X:Cx)(r:R2):Prop :=
 ∀ (value uC:Expr) (ak:List (Addr × Obj)) (s:Shared) (σ:St) (H:Hp) (x y:V) (v u:Value) (Q:VK),Inv X ak σ H s->RelV x v->RelV y u->r x y H Q->
  subscripted uC false v u=operate [v,u] (getItem v u)->wpAny (model X.prog X.w) X.A (subscriptTail value uC v u) (EP X ak σ Q) X.xe s
def MtR(X:Cx)(id:String)(r:V->List V->Hp->VK->Prop):Prop :=
 ∀ (ak:List (Addr × Obj)) (s:Shared) (σ:St) (H:Hp) (x:V) (xs:List V) (v:Value) (us:List Value) (Q:VK),Inv X ak σ H s->RelV x v->bZ xs us->r x xs H Q->
  wpAny (model X.prog X.w) X.A (call (.builtin id) (v::us)) (EP X ak σ Q) X.xe s
section
variable {X:Cx} {a b:Expr} {ta tb:TE} {pos:Pos}
def Yp{r:R2}(hr:Yo X r)(ha:PE X a ta)(hb:PE X b tb)(hs:JQ b):PE X (.Subscript a b pos) (Yc r ta tb):=by
 intro ak s σ H Q I h;exact Subscript_ (UL ha hb I h λv u s2 x y H2 I2 rx ry q=>hr a b ak s2 σ H2 x y v u Q I2 rx ry q (hs _ _))
inductive acC(K:PySem.W.Frag)(x y:V)(H:Hp)(Q:VK):Prop
 | mk (p:Addr) (xs:List V) (i:Int) (v:V) (_:x=↥p) (_:y=.int i) (_:bG K H p xs) (_:qm xs i=⇑v) (_:Q v H)
inductive Yq(K:PySem.W.Frag)(x y:V)(H:Hp)(Q:VK):Prop
 | mk (p:Addr) (xs:List V) (i:Int) (v:V) (_:x=↥p) (_:y=.int i) (_:dN K H p xs) (_:qm xs i=⇑v) (_:Q v H)
def bz:Yo X (acC X.K):=by
 intro value uC ak s σ H x y v u Q I rx ry h hs;let⟨p,xs,i,z,rfl,rfl,hq,he,q⟩:=h;cases rx;let⟨t,rfl⟩:=ry;let⟨aQ,r,pl,hz⟩:=I.list hq;let⟨j,h1,h2,h3,h4,h5⟩:=JP he;let⟨w,ew,fc⟩:=r.get h2;have hl:=↑r;have hn:=vU;have iH:EP X ak σ Q w s:=⟨z,H,I,fc,q⟩;by_cases h0:0<=i
 ·have hj:i.toNat=j:=by
   rw[seqIndex_of h0 h5]at h1;exact rL h1
  exact item_listR pl.isList h0 ∅ (by rw[hj];simpa using ew) iH hs
 ·have hj:(i+(aQ.toArray.size:Int)).toNat=j:=by
   rw[seqIndex_neg ∅ h4]at h1;rw[gG,← hl];exact rL h1
  exact subscriptTail_builtinR (x:=w) pl.isList.typeIs slot_list_getitem.lookup
   (wpAny_getItem_list_neg (Q:=λr s'=>r=w/\EP X ak σ Q r s') pl.isList ∅ (by rw[gG] <;> lia) ∅ (by rw[hj];simpa using ew) ⟨rfl,iH⟩) hs
def aT:Yo X (Yq X.K):=by
 intro value uC ak s σ H x y v u Q I rx ry h hs;let⟨p,xs,i,z,rfl,rfl,hq,he,q⟩:=h;cases rx;let⟨t,rfl⟩:=ry;let⟨aQ,r,pl,hz⟩:=I.tuple hq;let⟨j,h1,h2,h3,h4,h5⟩:=JP he;let⟨w,ew,fc⟩:=r.get h2;have hl:=↑r;have hn:=vU;have iH:EP X ak σ Q w s:=⟨z,H,I,fc,q⟩;exact subscriptTail_builtinR (x:=w) pl.typeIs slot_tuple_getitem.lookup (getItem_tuple (j:=j) (Q:=λr s'=>r=w/\EP X ak σ Q r s') pl ∅ ∅ (by rw[gG,← hl];exact h1) (by simpa using ew) ⟨rfl,iH⟩) hs
def HH(aQ:List Value)(n j:Nat)(u:Value):Obj.mapSeq (·.setIfInBounds j u) { cls:=.type "list",data:=.seq aQ.toArray n }={ cls:=.type "list",data:=.seq (aQ.set j u).toArray n }:=by
 simp[Obj.mapSeq]
theorem Inv.lst{ak:List (Addr × Obj)}{σ:St}{H:Hp}{s:Shared}{p:Addr}{xs:List V}(I:Inv X ak σ H s)(h:H p=⇑(.lst xs)) :
  ∃ (aQ:List Value) (n:Nat),bZ xs aQ/\s.heap.get? p=some { cls:=.type "list",data:=.seq aQ.toArray n }/\↑xs<=sizeLine:=by
 let⟨z,aQ,n,r,e⟩:=I.hok p _ h;exact⟨aQ,n,r,e,z⟩
theorem Inv.UW{σ:St}{H:Hp}{s:Shared}{p:Addr}{xs ys:List V}{aQ its':List Value}{n n':Nat}{f:Obj->Obj}(I:Inv X ak σ H s)(h:H p=⇑(.lst xs))
  (ho:s.heap.get? p=some { cls:=.type "list",data:=.seq aQ.toArray n }) (hf:f { cls:=.type "list",data:=.seq aQ.toArray n }={ cls:=.type "list",data:=.seq its'.toArray n' }) (r:bZ ys its') (hz:↑ys<=sizeLine) (t:Nat) :
  Inv X ak σ (aO H p (.lst ys)) { s with heap:=s.heap.update p f,toks:=t }:=by
 have e:(s.heap.update p f).get? p=some { cls:=.type "list",data:=.seq its'.toArray n' }:=by
  rw[Heap.get?_update_self f ho (by rw[hf] <;> rfl),hf]
 refine I.write (x:=p) (e:=p) (by rw[h];trivial) (.inl rfl) (λb u hb q=>(Heap.get?_update_other _ _ (Ne.symm hb)).trans q) ⟨_,e⟩ ?_;exact⟨hz,its',n',r,e⟩
inductive Yr(o i v:V)(H:Hp)(Q:Hp->Prop):Prop
 | mk (p:Addr) (xs:List V) (k:Int) (j:Nat) (_:o=↥p) (_:i=.int k) (_:H p=⇑(.lst xs)) (_:JN ↑xs k=⇑j) (_:Q (aO H p (.lst (xs.set j v))))
def iK:X6 X Yr:=by
 intro ak s σ H o i v ov iv u Q I ro ri rv h;let⟨p,xs,k,j,rfl,rfl,hp,hj,q⟩:=h;cases ro;let⟨t,rfl⟩:=ri;let⟨aQ,n,r,ho,hz⟩:=I.lst hp;let⟨h1,h2,h3,h4⟩:=JO hj;have hl:=↑r;have hn:=vU;have I':Inv X ak σ (aO H p (.lst (xs.set j v))) { s with heap:=s.heap.update p (Obj.mapSeq (·.setIfInBounds j u)) } := I.UW hp ho (HH aQ n j u) (r.set rv j) (by rw[List.length_set];exact hz) s.toks;by_cases h0:0<=k
 ·have hk:k.toNat=j:=by
   rw[seqIndex_of h0 h4]at h1;exact rL h1
  exact PySem.W.ki_setAt ho h0 ∅ (by rw[gG,← hl];exact h4) (by rw[hk];exact⟨_,I',q⟩)
 ·have hk:(k+(aQ.toArray.size:Int)).toNat=j:=by
   rw[seqIndex_neg ∅ h3]at h1;rw[gG,← hl];exact rL h1
  exact PySem.W.ki_setBack ho ∅ (by rw[gG,← hl];exact h3) ∅ (by rw[hk];exact⟨_,I',q⟩)
def uD(lo hi:Option Int)(n:Nat):(sliceBounds lo hi none n).1=((HT.gv n 0 lo:Nat):Int)/\(sliceBounds lo hi none n).2.1=((HT.gv n n hi:Nat):Int)/\(sliceBounds lo hi none n).2.2=1:=by
 refine⟨?_,?_,rfl⟩
 ·cases lo with
  | none=>simp[sliceBounds,HT.gv]
  | some i =>
   simp only[sliceBounds,HT.gv,Option.getD_none,show (1:Int) > 0 by decide,if_true];by_cases h:i<0
   ·simp only[h,if_true] <;> lia
   ·simp only[h,if_false] <;> lia
 ·cases hi with
  | none=>simp[sliceBounds,HT.gv]
  | some i =>
   simp only[sliceBounds,HT.gv,Option.getD_none,show (1:Int) > 0 by decide,if_true];by_cases h:i<0
   ·simp only[h,if_true] <;> lia
   ·simp only[h,if_false] <;> lia
def AH(aQ:List Value)(lo hi:Option Int):slicePick aQ.toArray lo hi none=((aQ.drop (HT.gv ↑aQ 0 lo)).take (HT.gv ↑aQ ↑aQ hi-HT.gv ↑aQ 0 lo)).toArray:=by
 let⟨h1,h2,h3⟩:=uD lo hi aQ.toArray.size;unfold slicePick;rw[h1,h2,h3]
 simp only[sliceRange_one,pick_run,gG] <;> rfl
inductive Ys(K:PySem.W.Frag)(x:V)(lo hi:Option Int)(H:Hp)(Q:VK):Prop
 | mk (a:Addr) (xs:List V) (_:x=↥a) (_:bG K H a xs) (_:∀ p,H p=none->Q ↥p (aO H p (.lst (jW xs lo hi)))):Ys K x lo hi H Q
def rj:SlR X (Ys X.K):=by
 intro ak s σ H x v vl vu lo hi sl Q I rx hs pl pu h;let⟨a,xs,rfl,hx,q⟩:=h;cases rx;let⟨aQ,r,ht,hz⟩:=I.list hx;have cX:=↑r;exists "list",_,slot_list_getitem.lookup,ht.isList.typeIs
 refine wpAny_getItem_list_slice ht.isList hs pl pu .none (by simp) ?_ (by rw[gG] <;> lia)
 rw[AH,← cX];refine⟨↥s.heap.objs.size,_,I.laid (t':=s.toks) (o:=.lst (jW xs lo hi)) (λb ob q=>Heap.get?_push_of_some _ q) (fK _) ?_,rfl,q _ (I.hok.fresh (fK _))⟩;exact⟨Nat.le_trans (xy xs lo hi) hz,_,0,(r.drop (HT.gv ↑xs 0 lo)).take (HT.gv ↑xs ↑xs hi-HT.gv ↑xs 0 lo),Heap.get?_push_size _ rfl⟩
def uE:V->Bool
 | .gj=>true
 | .bl _=>true
 | .int _=>true
 | .str _=>true
 | _=>false
def Nv:V->V->Bool
 | .gj,.gj=>true
 | .bl a,.bl b=>a == b
 | .bl a,.int b=>(if a then 1 else 0) == b
 | .int a,.bl b=>a == (if b then 1 else 0)
 | .int a,.int b=>a == b
 | .str a,.str b=>a == b
 | _,_=>false
def UX{A:Around}{s:Shared}{y x:V}{u v:Value}(ry:RelV y u)(rx:RelV x v)(fy:uE y=true)(fx:uE x=true):SeqAt.EqAt A s u v (Nv y x):=by
 cases y with
 | gj =>
  cases ry
  cases x with
  | gj=>cases rx;exact SeqAt.EqAt.same _
  | bl b=>cases rx;exact SeqAt.EqAt.none_bool b
  | int b=>let⟨t,rfl⟩:=rx;exact SeqAt.EqAt.none_int b t
  | str b=>let⟨t,rfl⟩:=rx;exact SeqAt.EqAt.none_str b t
  | _=>exact absurd (show false=true from fx) fL
 | bl a =>
  cases ry
  cases x with
  | gj=>cases rx;exact SeqAt.EqAt.bool_none a
  | bl b=>cases rx;exact SeqAt.EqAt.bool_bool a b
  | int b=>let⟨t,rfl⟩:=rx;exact SeqAt.EqAt.bool_int a b t
  | str b=>let⟨t,rfl⟩:=rx;exact SeqAt.EqAt.bool_str a b t
  | _=>exact absurd (show false=true from fx) fL
 | int a =>
  let⟨t',rfl⟩:=ry
  cases x with
  | gj=>cases rx;exact SeqAt.EqAt.int_none a t'
  | bl b=>cases rx;exact SeqAt.EqAt.int_bool a t' b
  | int b=>let⟨t,rfl⟩:=rx;exact SeqAt.EqAt.int_int a t' b t
  | str b=>let⟨t,rfl⟩:=rx;exact SeqAt.EqAt.int_str a t' b t
  | _=>exact absurd (show false=true from fx) fL
 | str a =>
  let⟨t',rfl⟩:=ry
  cases x with
  | gj=>cases rx;exact SeqAt.EqAt.str_none a t'
  | bl b=>cases rx;exact SeqAt.EqAt.str_bool a t' b
  | int b=>let⟨t,rfl⟩:=rx;exact SeqAt.EqAt.str_int a t' b t
  | str b=>let⟨t,rfl⟩:=rx;exact SeqAt.EqAt.str_str a t' b t
  | _=>exact absurd (show false=true from fx) fL
 | _=>exact absurd (show false=true from fy) fL
def CV(x:V)(u:Value):Bool:=match u with
 | .none=>Nv .gj x
 | .bool b=>Nv (.bl b) x
 | .int i _=>Nv (.int i) x
 | .str z _=>Nv (.str z) x
 | _=>false
def HJ{x y:V}{u:Value}(r:RelV y u)(f:uE y=true):CV x u=Nv y x:=by
 cases y with
 | gj=>cases r;rfl
 | bl b=>cases r;rfl
 | int i=>let⟨t,rfl⟩:=r;rfl
 | str z=>let⟨t,rfl⟩:=r;rfl
 | _=>exact absurd (show false=true from f) fL
theorem uF{x:V}:∀ {xs:List V} {us:List Value},bZ xs us->xs.all uE=true->us.any (CV x)=xs.any λy=>Nv y x
 | _,_,.nil,_=>rfl
 | y::xs,u::us,.cons r t,f=>by
  rw[List.all_cons,Bool.and_eq_true]at f;rw[List.any_cons,List.any_cons,HJ r f.1,uF t f.2]
theorem nV{A:Around}{s:Shared}{x:V}{v:Value}(rx:RelV x v)(fx:uE x=true):∀ {xs:List V} {us:List Value},bZ xs us->xs.all uE=true->∀ u∈us,SeqAt.EqAt A s u v (CV x u)
 | _,_,.nil,_=>λu hu=>by cases hu
 | y::xs,u::us,.cons r t,f=>λu' hu=>by
  rw[List.all_cons,Bool.and_eq_true]at f;rcases List.mem_cons.mp hu with rfl|hu
  ·rw[HJ r f.1];exact UX r rx f.1 fx
  ·exact nV rx fx t f.2 u' hu
def inV(x:V)(xs:List V):Bool:=xs.any λy=>Nv y x
inductive UY(K:PySem.W.Frag)(xs:List V)(H:Hp)(Q:VK):Prop
 | mk (p:Addr) (ys:List V) (_:xs=[↥p]) (_:bG K H p ys\/dN K H p ys) (_:Q (.int ↑ys) H):UY K xs H Q
inductive Yt(K:PySem.W.Frag)(xs:List V)(H:Hp)(Q:VK):Prop
 | mk (p:Addr) (ys:List V) (_:xs=[↥p]) (_:bG K H p ys\/dN K H p ys) (_:∀ l,H l=none->Q ↥l (aO H l (.lst ys)))
def rIn(K:PySem.W.Frag)(neg:Bool):R2:=λx y H Q=>∃ p xs,y=↥p/\(bG K H p xs\/dN K H p xs)/\uE x=true/\xs.all uE=true/\Q (.bl (if neg then !inV x xs else inV x xs)) H
def Bs:sV X (compareOp .In) (rIn X.K false):=by
 intro ak s σ H x y v u Q I rx ry h;let⟨p,xs,rfl,hq,fx,fs,q⟩:=h;cases ry;rcases hq with hq|hq
 ·let⟨aQ,r,pl,hz⟩:=I.list hq;refine SeqAt.in_listAt (CV x) pl.isList (λw hw=>nV rx fx r fs w (by simpa using hw)) ⟨.bl _,H,I,rfl,?_⟩;rw[show aQ.toArray.any (CV x)=aQ.any (CV x) by simp,uF r fs];exact q
 ·let⟨aQ,r,pl,hz⟩:=I.tuple hq;refine SeqAt.in_tupleAt (CV x) pl (λw hw=>nV rx fx r fs w (by simpa using hw)) ⟨.bl _,H,I,rfl,?_⟩;rw[show aQ.toArray.any (CV x)=aQ.any (CV x) by simp,uF r fs];exact q
def uG:sV X (compareOp .NotIn) (rIn X.K true):=by
 intro ak s σ H x y v u Q I rx ry h;let⟨p,xs,rfl,hq,fx,fs,q⟩:=h;cases ry;rcases hq with hq|hq
 ·let⟨aQ,r,pl,hz⟩:=I.list hq;refine SeqAt.notIn_listAt (CV x) pl.isList (λw hw=>nV rx fx r fs w (by simpa using hw)) ⟨.bl _,H,I,rfl,?_⟩;rw[show aQ.toArray.any (CV x)=aQ.any (CV x) by simp,uF r fs];exact q
 ·let⟨aQ,r,pl,hz⟩:=I.tuple hq;refine SeqAt.notIn_tupleAt (CV x) pl (λw hw=>nV rx fx r fs w (by simpa using hw)) ⟨.bl _,H,I,rfl,?_⟩;rw[show aQ.toArray.any (CV x)=aQ.any (CV x) by simp,uF r fs];exact q
def CY:jF X (.builtin "len") (UY X.K):=by
 intro ak s σ H xs us Q I r h;let⟨p,ys,rfl,hq,q⟩:=h;let⟨u,rfl,rx⟩:=vals1 r;cases rx;have hn:=vU;rcases hq with hq|hq
 ·let⟨aQ,r',pl,hz⟩:=I.list hq;have cX:=↑r'
  exact Calls.call_len_list pl.isList (by simp only[gG] <;> lia) ⟨.int ↑ys,H,I.tok _,⟨s.toks+1,by rw[gG,cX]⟩,q⟩
 ·let⟨aQ,r',pl,hz⟩:=I.tuple hq;have cX:=↑r'
  exact len_tuple pl (by simp only[gG] <;> lia) ⟨.int ↑ys,H,I.tok _,⟨s.toks+1,by rw[gG,cX]⟩,q⟩
def CZ:jF X (.builtin "len") (λxs H Q=>∃ z,xs=[.str z]/\↑z<=sizeLine/\Q (.int ↑z) H):=by
 intro ak s σ H xs us Q I r h;let⟨z,rfl,hz,q⟩:=h;let⟨u,rfl,t,rfl⟩:=vals1 r;have hn:=vU;exact len_str ∅ ⟨.int ↑z,H,I.tok _,⟨Y⟩,q⟩
def fP:jF X (.type "list") (Yt X.K):=by
 intro ak s σ H xs us Q I r h;let⟨p,ys,rfl,hq,q⟩:=h;let⟨u,rfl,rx⟩:=vals1 r;cases rx
 have iH:∀ (aQ:List Value),bZ ys aQ->↑ys<=sizeLine->∀ (h':Heap) (c':Nat),(∀ b o',s.heap.get? b=⇑o'->h'.get? b=⇑o')->
   h'.get? s.heap.objs.size=some { cls:=.type "list",dict:=none,data:=.seq aQ.toArray c',slots:=#[] }->EP X ak σ Q ↥s.heap.objs.size { s with heap:=h' }:=λaQ r' hz h' c' kp e =>
  ⟨↥s.heap.objs.size,_,I.laid (t':=s.toks) kp (fK _) (show fF X.prog X.w _ h' _ (.lst ys) from ⟨hz,aQ,c',r',e⟩),rfl,q _ (I.hok.fresh (fK _))⟩
 rcases hq with hq|hq
 ·let⟨aQ,r',pl,hz⟩:=I.list hq;have cX:=↑r';let⟨o,ho,hc,n,hd⟩:=pl.isList
  exact call_list_seq p (.inl rfl) ho hc hd (λh' c' kp e=>iH aQ r' hz h' c' kp e) (by simp only[gG] <;> lia)
 ·let⟨aQ,r',pl,hz⟩:=I.tuple hq;have cX:=↑r';let⟨o,ho,hc,n,hd⟩:=pl
  exact call_list_seq p (.inr rfl) ho hc hd (λh' c' kp e=>iH aQ r' hz h' c' kp e) (by simp only[gG] <;> lia)
def tyV(K:PySem.W.Frag)(T:String)(x:V)(H:Hp):Prop:=match x with
 | .str _=>T="str"
 | .int _=>T="int"
 | .ref p=>(T="list"/\∃ xs,bG K H p xs)\/(T="tuple"/\∃ o,K.lookup p=⇑o/\o.cls=.type "tuple"/\o.dict=none)\/
   (T="dict"/\((∃ kvs,H p=⇑(.dK kvs))\/∃ kvs,H p=⇑(.dT kvs)))\/(T="set"/\∃ S n,H p=⇑(.set S n))
 | _=>False
theorem Ny{σ:St}{H:Hp}{s:Shared}{T:String}{x:V}{v:Value}(I:Inv X ak σ H s)(r:RelV x v)(ty:tyV X.K T x H) :
  s.TypeIs v T/\∀ a,v=↥a->∃ ob,s.heap.get? a=⇑ob/\ob.dict=none:=by
 cases x with
 | str z =>
  let⟨t,rfl⟩:=r;cases (show T="str" from ty);exact⟨typeIs_str s z t,λ_ e=>nomatch e⟩
 | int i =>
  let⟨t,rfl⟩:=r;cases (show T="int" from ty);exact⟨typeIs_int s i t,λ_ e=>nomatch e⟩
 | ref p =>
  cases r;rcases ty with ⟨rfl,xs,hq⟩|⟨rfl,o,hk,hc,hd⟩|⟨rfl,hk⟩|⟨rfl,S,n,hk⟩
  ·let⟨aQ,_,pl,_⟩:=I.list hq;refine⟨pl.isList.typeIs,λa e=>?_⟩;cases e;let⟨o,n,e,c,hd,_⟩:=pl;exact⟨o,e,hd⟩
  ·refine⟨⟨o,I.uw p o hk,hc⟩,λa e=>?_⟩;cases e;exact⟨o,I.uw _ o hk,hd⟩
  ·have z:∃ o,s.heap.get? p=⇑o/\o.ExactDict:=by
    rcases hk with ⟨kvs,hk⟩|⟨kvs,hk⟩
    ·let⟨_,_,_,_,o,_,_,e,ex,_⟩:=I.hok p _ hk;exact⟨o,e,ex⟩
    ·let⟨_,_,_,_,o,_,_,e,ex,_⟩:=I.hok p _ hk;exact⟨o,e,ex⟩
   let⟨o,e,ex⟩:=z;refine⟨⟨o,e,ex.1⟩,λa e2=>?_⟩;cases e2;exact⟨o,e,ex.2.1⟩
  ·let⟨o,_,_,_,e,ex,_⟩:=I.hok p _ hk;refine⟨⟨o,e,ex.1⟩,λa e2=>?_⟩;cases e2;exact⟨o,e,ex.2.1⟩
 | _=>exact False.elim ty
def acE(K:PySem.W.Frag)(T:String)(r:V->List V->Hp->VK->Prop)(to:TE):TE:=fun σ H Q=>to σ H λx H1=>tyV K T x H1/\r x [] H1 Q
def tBM(K:PySem.W.Frag)(T:String)(r:V->List V->Hp->VK->Prop)(to:TE)(t:TA):TE:=fun σ H Q=>to σ H λx H1=>tyV K T x H1/\t σ H1 λxs H2=>r x xs H2 Q
variable {o e:Expr} {es:List Expr} {to:TE} {t:TA} {name:Str} {kY mG:Pos} {T id:String} {r:V->List V->Hp->VK->Prop}
theorem Nz(pa:PlainAttrs T)(slot:Slot T name id)(hty:typeOf (.builtin id)=pure (.type "method_descriptor"))(hm:MtR X id r)(ho:PE X o to)
  (NB:attributeBase o name X.env (eval o X.env)=eval o X.env:=by rfl) (NC:(kY.endLine == mG.line)=true:=by rfl):PE X (.Call (.Attribute o name kY) [] [] mG) (acE X.K T r to):=by
 intro ak s σ H Q I h;refine wpAny_Call_method0_late NB NC (cL (ho ak s σ H _ I h) λv s1 AG=>?_);let⟨x,H1,I1,r1,ty,q1⟩:=AG;let⟨h1,h2⟩:=Ny I1 r1 ty;exact⟨T,id,pa,slot,hty,h1,h2,Calls.callWith_builtin rfl (PySem.evalArgs_none (hm ak s1 σ H1 x [] v [] Q I1 r1 .nil q1))⟩
theorem dm(pa:PlainAttrs T)(slot:Slot T name id)(hty:typeOf (.builtin id)=pure (.type "method_descriptor"))(hm:MtR X id r)(ho:PE X o to)(ha:PA X (e::es) t)
  (NB:attributeBase o name X.env (eval o X.env)=eval o X.env:=by rfl)
  (acG:((backTo mG (starEach (e::es) X.env)).all (λx=>!x.1)&&(backToKw mG (keywordEach [] X.env)).all (λx=>x.1.isSome)
   && decide (↑(e::es)+↑([]:List Keyword)+(if ([]:List Keyword).isEmpty then 0 else 1)<30))=true:=by rfl)
  (NC:(kY.endLine == mG.line)=true:=by rfl) (hs:starEach (e::es) X.env=(false,eval e X.env)::starEach es X.env:=by rfl) (UZ:(backTo mG (starEach es X.env)).any (·.1)=false:=by rfl) :
  PE X (.Call (.Attribute o name kY) (e::es) [] mG) (tBM X.K T r to t):=by
 intro ak s σ H Q I h;refine wpAny_Call_method_late NB acG NC rfl (cL (ho ak s σ H _ I h) λv s1 EN=>?_);let⟨x,H1,I1,r1,ty,q1⟩:=EN;let⟨h1,h2⟩:=Ny I1 r1 ty;exists T,id,pa,slot,hty,h1,h2;have hA:=ha mG ak s1 σ H1 _ I1 q1;rw[hs]at hA ⊢
 refine Calls.callWith_builtin (by show (false || (backTo mG (starEach es X.env)).any (·.1))=false;rw[UZ] <;> rfl) (Calls.evalArgs_plain ?_)
 exact cL hA λus s2 ⟨vs,H2,I2,r2,q2⟩=>hm ak s2 σ H2 x vs v us Q I2 r1 r2 q2
end
end L2
namespace L2
open Spec Rows
def U0(X:Cx)(id:String)(r:V->List V->Hp->VK->Prop):Prop :=
 ∀ (ak:List (Addr × Obj)) (s:Shared) (σ:St) (H:Hp) (x:V) (xs:List V) (v:Value) (us:List Value) (Q:VK),Inv X ak σ H s->RelV x v->bZ xs us->r x xs H Q->
  wpAny (model X.prog X.w) X.A (call (.builtin id) (v::us)) (EP X ak σ Q) X.xe s
def bZ.one{x:V}{us:List Value}(h:bZ [x] us):∃ u,us=[u]/\RelV x u:=by
 cases h with
 | cons r t=>cases t;exact⟨Y,r⟩
def bZ.two{x y:V}{us:List Value}(h:bZ [x,y] us):∃ u v,us=[u,v]/\RelV x u/\RelV y v:=by
 cases h with
 | cons r t =>
  let⟨_,rfl,q⟩:=bZ.one t;exact⟨Q,rfl,r,q⟩
theorem bZ.zero:∀ {us:List Value},bZ [] us->us=[]
 | _,.nil=>rfl
def bZ.dropLast{xs:List V}{us:List Value}(h:bZ xs us):bZ xs.dropLast us.dropLast:=by
 induction h with
 | nil=>exact .nil
 | cons r t ih =>
  cases t with
  | nil=>exact .nil
  | cons q t'=>exact .cons r ih
theorem bZ.eraseIdx:∀ {xs:List V} {us:List Value} (i:Nat),bZ xs us->bZ (xs.eraseIdx i) (us.eraseIdx i)
 | _,_,_,.nil=>.nil
 | _,_,0,.cons _ t=>t
 | _,_,i+1,.cons r t=>.cons r (bZ.eraseIdx i t)
theorem bZ.rep{xs:List V}{us:List Value}(h:bZ xs us):∀ k:Nat,bZ (List.replicate k xs).flatten (List.replicate k us).flatten
 | 0=>.nil
 | k+1=>by
  rw[List.replicate_succ,List.replicate_succ,List.flatten_cons,List.flatten_cons];exact bZ.append h (bZ.rep h k)
def HK{α:Type}(l:List α):l.eraseIdx (↑l-1)=l.dropLast:=by
 induction l with
 | nil=>rfl
 | cons a r ih =>
  cases r with
  | nil=>rfl
  | cons b r =>
   have e:↑(a::b::r)-1=(↑(b::r)-1)+1:=by
    have h1:↑(a::b::r)=↑r+2:=rfl;have h2:↑(b::r)=↑r+1:=rfl;lia
   rw[e,List.eraseIdx_cons_succ,ih]
   all_goals rfl
theorem Bt{α:Type}:∀ (l:List α) (i:Nat),↑(l.eraseIdx i)<=↑l
 | [],_=>fK _
 | _::_,0=>Nat.le_succ _
 | _::r,i+1=>Nat.succ_le_succ (Bt r i)
theorem foldl_rep(aQ:List Value):∀ (k:Nat) (acc:List Value),
  List.foldl (λx1 x2=>x1++x2) acc.toArray (List.replicate k aQ.toArray)=(acc++(List.replicate k aQ).flatten).toArray
 | 0,acc=>by simp
 | k+1,acc=>by
  have e:acc.toArray++aQ.toArray=(acc++aQ).toArray:=by simp
  have e2:(acc++aQ)++(List.replicate k aQ).flatten=acc++(List.replicate (k+1) aQ).flatten:=by
   rw[List.replicate_succ,List.flatten_cons,m8]
  rw[← e2,← foldl_rep aQ k (acc++aQ),← e,List.replicate_succ,kj]
section
variable {X:Cx} {ak:List (Addr × Obj)} {σ:St} {H:Hp} {s:Shared} {l b:Addr} {xs ys zs:List V}
theorem Inv.ND{aQ its':List Value}{n:Nat}{f:Array Value->Array Value}{t':Nat}(I:Inv X ak σ H s)(hH:H l=⇑(.lst xs))
  (e:s.heap.get? l=some { cls:=.type "list",data:=.seq aQ.toArray n }) (hf:f aQ.toArray=its'.toArray) (hv:bZ ys its') (hz:↑ys<=sizeLine) :
  Inv X ak σ (aO H l (.lst ys)) { s with heap:=s.heap.update l (Obj.mapSeq f),toks:=t' }:=by
 have q:=PySem.IsL.update e f;rw[hf]at q;refine I.write (x:=l) (e:=l) (by rw[hH];exact trivial) (.inl rfl) (λb' u hb hu=>(Heap.get?_update_other s.heap (Obj.mapSeq f) (Ne.symm hb)).trans hu) ⟨_,q⟩ ?_;exact⟨hz,its',_,hv,q⟩
theorem Inv.QW{aQ:List Value}{t':Nat}(I:Inv X ak σ H s)(hv:bZ ys aQ)(hz:↑ys<=sizeLine) :
  Inv X ak σ (aO H s.heap.objs.size (.lst ys)) { s with heap:=s.heap.push { cls:=.type "list",data:=.seq aQ.toArray },toks:=t' } :=
 I.laid (λ_ _ q=>Heap.get?_push_of_some _ q) (fK _) ⟨hz,aQ,0,hv,Heap.get?_push_size _ rfl⟩
theorem Inv.fresh(I:Inv X ak σ H s):H s.heap.objs.size=none:=I.hok.fresh (fK _)
def Inv.xV(I:Inv X ak σ H s)(hH:H l=⇑(.lst xs)):↑xs<=sizeLine/\∃ (aQ:List Value) (n:Nat),bZ xs aQ/\↑xs=↑aQ/\s.heap.get? l=some { cls:=.type "list",data:=.seq aQ.toArray n }:=by
 let⟨z,aQ,n,r,e⟩:=I.hok l _ hH;exact⟨z,aQ,n,r,↑r,e⟩
def za{n:Nat}(h:n<=sizeLine):Builtin.List.listTooLong n=false:=by
 unfold Builtin.List.listTooLong;exact decide_eq_false ∅
end
section
variable {X:Cx}
inductive QX(x:V)(vs:List V)(H:Hp)(Q:VK):Prop
 | mk (l:Addr) (xs:List V) (y:V) (_:x=↥l) (_:vs=[y]) (_:H l=⇑(.lst xs)) (_:↑xs<sizeLine) (_:Q .gj (aO H l (.lst (xs++[y]))))
def bT:U0 X "list.append" QX:=by
 intro ak s σ H x vs v us Q I rx rv h;let⟨l,xs,y,rfl,rfl,hH,hz,q⟩:=h;cases rx;let⟨u,rfl,ru⟩:=rv.one;let⟨z,aQ,n,r,hl,e⟩:=I.xV hH;refine call_meets F.slot_list_append ⟨_,e,rfl⟩ F.entry_list_append (F.args_list_append_2 _ _) (PySem.list_append l aQ.toArray n u (by rw[gG];lia)) ⟨e,?_⟩;refine⟨.gj,_,I.ND (its':=aQ++[u]) hH e (by simp) (r.append (.cons ru .nil)) ?_,rfl,q⟩;rw[dM,gF];lia
inductive QY(x:V)(vs:List V)(H:Hp)(Q:VK):Prop
 | mk (l b:Addr) (xs zs:List V) (_:x=↥l) (_:vs=[↥b]) (_:H l=⇑(.lst xs)) (_:H b=⇑(.lst zs)) (_:↑xs+↑zs<=sizeLine) (_:Q .gj (aO H l (.lst (xs++zs))))
def lI:U0 X "list.extend" QY:=by
 intro ak s σ H x vs v us Q I rx rv h;let⟨l,b,xs,zs,rfl,rfl,hH,hB,hz,q⟩:=h;cases rx;let⟨u,rfl,ru⟩:=rv.one;cases ru;let⟨z,aQ,n,r,hl,e⟩:=I.xV hH;let⟨z2,its2,n2,r2,C0,e2⟩:=I.xV hB;have hsz:aQ.toArray.size+its2.toArray.size<=sizeLine:=by rw[gG,gG];lia
 have EY:¬ (!aQ.toArray.isEmpty&&Builtin.List.listTooLong (aQ.toArray.size+its2.toArray.size))=true:=by
  rw[za hsz,Bool.and_false];exact fL
 refine call_meets F.slot_list_extend ⟨_,e,rfl⟩ F.entry_list_extend (F.args_list_extend_2 _ _) (AutoSeq1.list_extend_list_list_0 l aQ.toArray n b its2.toArray n2 EY (by rw[gG];lia) ∅) ⟨e,e2,?_⟩;refine⟨.gj,_,I.ND (its':=aQ++its2) hH e (by simp) (r.append r2) ?_,rfl,q⟩;rw[dM];lia
def acH:V->List V->Hp->VK->Prop:=λx vs H Q=>∃ l xs y,x=↥l/\vs=[]/\H l=⇑(.lst xs)/\xs[↑xs-1]?=⇑y/\Q y (aO H l (.lst xs.dropLast))
def NF:U0 X "list.pop" acH:=by
 intro ak s σ H x vs v us Q I rx rv h;let⟨l,xs,y,rfl,rfl,hH,hy,q⟩:=h;cases rx;have hus:=rv.zero;subst hus;let⟨z,aQ,n,r,hl,e⟩:=I.xV hH;let⟨u,hu,ru⟩:=r.get hy
 have hy':aQ.toArray[aQ.toArray.size-1]?=⇑u:=by
  show aQ.toArray[↑aQ-1]?=⇑u;rw[← Array.getElem?_toList,← hl];exact hu
 refine call_meets F.slot_list_pop ⟨_,e,rfl⟩ F.entry_list_pop (F.args_list_pop_1 _) (MeetsSeq.list_pop_last l aQ.toArray n u hy' (by rw[gG];lia)) ⟨e,?_⟩;refine⟨y,_,I.ND (its':=aQ.dropLast) hH e ?_ r.dropLast ?_,ru,q⟩
 ·show aQ.toArray.eraseIdxIfInBounds (aQ.toArray.size-1)=aQ.dropLast.toArray;rw[gG,List.eraseIdxIfInBounds_toArray,HK]
 ·rw[List.length_dropLast];lia
def U5:V->List V->Hp->VK->Prop:=λx vs H Q=>∃ l xs i k y,x=↥l/\vs=[.int i]/\H l=⇑(.lst xs)/\-(2^63)<=i/\i<2^63/\seqIndex? i ↑xs=⇑k/\xs[k]?=⇑y/\Q y (aO H l (.lst (xs.eraseIdx k)))
def NG:U0 X "list.pop" U5:=by
 intro ak s σ H x vs v us Q I rx rv h;let⟨l,xs,i,k,y,rfl,rfl,hH,h1,h2,hk,hy,q⟩:=h;cases rx;let⟨u,rfl,ru⟩:=rv.one;let⟨t,rfl⟩:=ru;let⟨z,aQ,n,r,hl,e⟩:=I.xV hH;let⟨w,hw,fc⟩:=r.get hy;refine call_meets F.slot_list_pop ⟨_,e,rfl⟩ F.entry_list_pop (F.args_list_pop_2 _ _) (MeetsSeq.list_pop_at l aQ.toArray n i t k w (fitsIndex_both h1 h2) (by rw[gG,← hl];exact hk) (by rw[← Array.getElem?_toList];exact hw) (by rw[gG];lia)) ⟨e,?_⟩;refine⟨y,_,I.ND (its':=aQ.eraseIdx k) hH e ?_ (r.eraseIdx k) ?_,fc,q⟩
 ·show aQ.toArray.eraseIdxIfInBounds k=(aQ.eraseIdx k).toArray;rw[List.eraseIdxIfInBounds_toArray]
 ·have:=Bt xs k;lia
inductive Yu(x y:V)(H:Hp)(Q:VK):Prop
 | mk (l b:Addr) (xs zs:List V) (_:x=↥l) (_:y=↥b) (_:H l=⇑(.lst xs)) (_:H b=⇑(.lst zs)) (_:↑xs+↑zs<=sizeLine) (_:∀ p,H p=none->Q ↥p (aO H p (.lst (xs++zs))))
def ko:sV X (binaryOp .Add) Yu:=by
 intro ak s σ H x y v u Q I rx ry h;let⟨l,b,xs,zs,rfl,rfl,hH,hB,hz,q⟩:=h;cases rx;cases ry;let⟨z,aQ,n,r,hl,e⟩:=I.xV hH;let⟨z2,its2,n2,r2,C0,e2⟩:=I.xV hB;refine PySem.P.add_list e e2 ?_ (by rw[gG,gG];lia);have ea:aQ.toArray++its2.toArray=(aQ++its2).toArray:=by simp
 rw[ea];exact⟨↥_,_,I.QW (t':=s.toks) (r.append r2) (by rw[dM];lia),rfl,q _ I.fresh⟩
def Yv:R2:=λx y H Q=>∃ l k xs,x=↥l/\y=.int k/\H l=⇑(.lst xs)/\-(2^63)<=k/\k<2^63/\↑xs*k.toNat<=sizeLine/\
 ∀ p,H p=none->Q ↥p (aO H p (.lst (List.replicate k.toNat xs).flatten))
def QZ{α:Type}(xs:List α)(k:Nat):(List.replicate k xs).flatten.length=k*↑xs:=by
 induction k with
 | zero=>simp
 | succ k ih=>rw[List.replicate_succ,List.flatten_cons,dM,ih,Nat.succ_mul,Nat.add_comm]
def NH:sV X (binaryOp .Mult) Yv:=by
 intro ak s σ H x y v u Q I rx ry h;let⟨l,k,xs,rfl,rfl,hH,h1,h2,hz,q⟩:=h;cases rx;let⟨t,rfl⟩:=ry;let⟨z,aQ,n,r,hl,e⟩:=I.xV hH;have cX:aQ.toArray.size*k.toNat<=sizeLine:=by rw[gG,← hl];exact hz
 have hcap:¬ aQ.toArray.size*k.toNat > (2^63-1) / 8:=by
  have:(sizeLine:Nat)<=(2^63-1) / 8:=by decide
  lia
 have hfit:¬ (!Builtin.List.listFitsIndex k)=true:=by
  rw[fitsIndex_both h1 h2];exact fL
 have EY:¬ Builtin.List.listTooLong (aQ.toArray.size*k.toNat)=true:=by
  rw[za cX];exact fL
 have hnew:List.foldl (λx1 x2=>x1++x2) #[] (List.replicate (if aQ.toArray.isEmpty=true then 0 else k.toNat) aQ.toArray)=(List.replicate k.toNat aQ).flatten.toArray:=by
  have f0:∀ m:Nat,List.foldl (λx1 x2=>x1++x2) #[] (List.replicate m aQ.toArray)=(List.replicate m aQ).flatten.toArray:=λm=>by
   have:=foldl_rep aQ m [];rw[List.nil_append]at this;exact this
  rw[f0]
  cases aQ with
  | nil=>simp
  | cons a r'=>rw[if_neg (by simp)]
 refine wpAny_binaryOp_repeat_ref (T:="list") (U:="int") (by decide) ⟨_,e,rfl⟩ (λs'=>typeIs_int s' k t) noFill_list_mul F.fills_int_mul F.slot_int_rmul repeat_list F.slot_int_index.lookup (call_meets F.slot_int_rmul (typeIs_int s k t) F.entry_int_rmul (F.args_int_rmul_2 _ _) (int___rmul___int_list k t l aQ.toArray n) ⟨e,rfl,⟨_,e,rfl⟩,call_meets F.slot_list_mul ⟨_,e,rfl⟩ F.entry_list_mul (F.args_list_mul_2 _ _) (AutoListH.list___mul___list_int_3 l aQ.toArray n k t hfit hcap EY) ⟨e,?_⟩⟩);rw[hnew];exact⟨↥_,_,I.QW (t':=s.toks) (r.rep k.toNat) (by rw[QZ,Nat.mul_comm];exact hz),rfl,q _ I.fresh⟩
end
end L2
namespace Att
open PySem.W Calls Rows
def xW{P:Params}{h:Heap}:∀ (ns:List Int) (vs:List Value),WellAll P h vs (ns.map WData.int)->IntsAre vs ns:=by
 intro ns
 induction ns with
 | nil =>
  intro vs w;rw[List.map_nil]at w;cases w;exact .nil
 | cons n ns ih =>
  intro vs w;rw[jh]at w
  cases w with
  | cons a b =>
   cases a;exact .cons _ _ (ih _ b)
theorem Li{l:OpenLaw}{n:Nat}(hn:l.most=⇑n){P:Params}{h:Heap}{args:List WData}{U6:List Value}
  (Q0:l.row.toRowW.claim.pre args=true) (hwl:WellAll P h U6 args) :
  ∃ a vs ns,U6=[Value.ref a]/\args=[WData.list (ns.map WData.int)]/\h.get? a=some { cls:=.type "list",data:=.seq vs.toArray }/\IntsAre vs ns/\↑ns<=n:=by
 have EZ:WShape.hasAll [] args [.list .int]=true:=(pre_splitW Q0).1;have hc:l.pre.holds [] { args:=args }=true:=(pre_splitW Q0).2;let⟨d,r,rfl,h1,h2⟩:=hasAllW_cons EZ;obtain rfl:=hasAllW_nil h2;let⟨xs,rfl,h3⟩:=hasW_list h1;let⟨ns,rfl⟩:=items_int h3
 have cX:↑ns<=n:=by
  unfold OpenLaw.pre at hc
  have h4:(WTm.not (.lt (.lit (.int (n:Int))) (.len (.arg 0)))).holds [] { args:=[.list (ns.map .int)] }=true:=by
   have h4:=(holds_andW hc).1;rw[hn]at h4;exact h4
  have h5:=condW_of h4 (w_not (w_lt w_lit (w_len_list (w_arg rfl))));rw[bW]at h5;refine Nat.le_of_not_lt λq=>?_;have q':(n:Int)<((↑ns:Nat):Int):=by lia
  first
   | (rw[decide_eq_true q']at h5;exact absurd h5 (by decide))
   | (simp at h5;lia)
 cases hwl with
 | cons w1 w2 =>
  cases w2
  cases w1 with
  | list ho NI=>exact⟨Q,ns,V,ho,xW ns _ NI,cX⟩
theorem Lj(l:OpenLaw)(args:List WData):l.row.toRowW.claim.post args (.bool true) args=true :=
 postW_of (r:=l.row.toRowW) (X:=(true == true))
  (show WShape.has [] (.bool true) .bool=true by first|rfl|decide|simp[WShape.has,WShape.arms,WShape.armsAll])
  (show (WTm.eq .res (.lit (.bool true))).value [] { args:=args,res:=⇑(.bool true),after:=args }=⇑(.bool (true == true)) from w_eq_bool (w_res rfl) w_lit) rfl
theorem E1{l:OpenLaw}{n:Nat}{q:Program}{Bu:List Str}{XP:(Str->Option Value)->Heap->Prop}{YP:World->Heap->Prop}{d:DefRec}
  (hn:l.most=⇑n) (Yw:d.params.defaults=[])
  (call:∀ (w:World) (s₀ s₁:Shared) (mg mb:Str->Option Value) (fa:Addr) (o:Obj) (pm cd vY:Value) (a:Addr) (vs:List Value) (ns:List Int),
   Ground q Bu [] XP w s₀ mg mb s₁.heap->YP w s₁.heap->
   s₁.heap.get? fa=⇑o->o.data=.func (docDef d.name d.params d.body d.scope pm cd vY)->s₁.heap.CodeRec cd d.name->mg d.name=⇑↥fa->
   s₁.heap.get? a=some { cls:=.type "list",data:=.seq vs.toArray }->IntsAre vs ns->↑ns<=n->s₁.gens=#[]->
   codeAny (model l.prog w) callerA (.call ↥fa ⟨[↥a],[]⟩) (λr s'=>r=.ok (.ret (.bool true))/\OldK s₁.heap s'.heap/\s'.os=s₁.os/\AllBare s'.gens) s₁) :
  WalkO q Bu XP YP l.row.toRowW d [] (λf vs=>PySem.call f vs):=by
 intro w s₀ s₁ mg mb G Y fa o pm cd vY dV kV ho hd KS hD Yx hg args U6 as Q0 aiz hrd hwl hlo;obtain rfl:dV=.none:=Dflts.none hD Yw;obtain rfl:kV=.none:=Dflts.noKw hD;let⟨a,vs,ns,rfl,rfl,U7,NJ,cX⟩:=Li hn Q0 hwl;refine enter_call (codeAny_mono (call w s₀ s₁ mg mb fa o pm cd vY a vs ns G Y ho (fd_plain hd) KS Yx U7 NJ cX hg) λr s' hq=>?_);let⟨rfl,h2,h3,h4⟩:=hq;exact⟨.inl ⟨.bool true,.bool true,[],rfl,λ_=>rfl,.bool true,Lj l _,λ_=>⟨List.Pairwise.nil,λ_ hm=>(nomatch hm)⟩⟩,h2,h3,h4⟩
end Att
namespace L2
open Spec Rows
theorem Bv:∀ {vs:List Value} {ns:List Int},IntsAre vs ns->bZ (ns.map V.int) vs
 | _,_,.nil=>.nil
 | _,_,.cons n t h=>.cons ⟨t,rfl⟩ (Bv h)
def U8(H:Hp):Prop:=∀ b,H b=none\/∃ o xs,H b=⇑(.Hi o (.lst xs))
theorem NK{P:Program}{w:World}{K:PySem.W.Frag}{mg mb:Str->Option Value}{CX:Lf}{k:Nat}{fa a:Addr}{fd:FuncData}{x:Str}{sp:Sp}{s₁:Shared}{vs:List Value}{ns:List Int}
  (KX:K.In s₁.heap) (MQ:s₁.heap.Ns mainGlobals mg) (hb:s₁.heap.Ns builtinsNs mb) (hbb:∀ x:Str,x≠"__name__"->mb x=bootBuiltins x) (acJ:s₁.heap.NoLimit) (hg:s₁.gens=#[])
  (ha:s₁.heap.get? a=some { cls:=.type "list",data:=.seq vs.toArray }) (hi:IntsAre vs ns) (hl:↑ns<=sizeLine) (hr:gK k callerA)
  (F:∀ zt:Heap,K.In zt->zt.Ns mainGlobals mg->aX P w K mg zt CX k fa fd [x] sp) (Yy:∀ (s:Shared) (u:Value),BindsTo s fd ⟨[u],[]⟩ [(x,u)])
  (Hz:∀ H:Hp,U8 H->bG K H a (ns.map V.int)->sp [↥a] H (λv _=>v=.bl true) λ_ _ _=>False)
  (hCX:∀ H e s',CX [] H s₁ (λ_ _ _=>False) e s'->False) :
  codeAny (model P w) callerA (.call ↥fa ⟨[↥a],[]⟩) (λr s'=>r=.ok (.ret (.bool true))/\OldK s₁.heap s'.heap/\s'.os=s₁.os/\AllBare s'.gens) s₁:=by
 have rv:=Bv hi;have acL:=↑hi
 have core:∀ H:Hp,U8 H->bG K H a (ns.map V.int)->qh P w H s₁.heap->(∀ b,H b≠none->b=a)->(H a≠none->K.lookup a=none)->
   codeAny (model P w) callerA (.call ↥fa ⟨[↥a],[]⟩) (λr s'=>r=.ok (.ret (.bool true))/\OldK s₁.heap s'.heap/\s'.os=s₁.os/\AllBare s'.gens) s₁:=by
  intro H hO hS hok hA hK;have JR:∀ {b:Addr} {o:Obj},s₁.heap.get? b=⇑o->H b=none->(CM s₁.heap H).get? b=⇑o:=λe n=>M6 e n
  have Ym:∀ {b:Addr} {o:Obj} {es:Array DictEntry} {ep:Nat},s₁.heap.get? b=⇑o->o.data=.dict es ep->H b=none:=λ{b o es ep} e d=>by
   cases q:H b with
   | none=>rfl
   | some u =>
    have e':b=a:=hA b (by rw[q];simp);subst e';rw[ha]at e;cases e;have d':Data.seq vs.toArray _=Data.dict es ep:=d;cases d'
  have nsK:∀ {b:Addr} {m:Str->Option Value},s₁.heap.Ns b m->(CM s₁.heap H).Ns b m:=λ{b m} ⟨o,es,ep,e,d,r⟩=>⟨o,es,ep,JR e (Ym e d),d,r⟩
  have hKb:K.In (CM s₁.heap H):=λb o e=>JR (KX b o e) (by
   cases q:H b with
   | none=>rfl
   | some u =>
    have e':b=a:=hA b (by rw[q];simp);subst e'
    rw[hK (by rw[q];simp)]at e;cases e)
  have hM:Mod K mg (CM s₁.heap H):=⟨hKb,nsK MQ,⟨mb,nsK hb,hbb⟩,let ⟨mc,h1,h2⟩:=acJ;⟨mc,nsK h1,h2⟩⟩;have e0:Hy P w K mg (CM s₁.heap H) callerA [] s₁ H:=⟨rfl,hM,λb o e=>QF e,Nat.le_of_eq (KP _ _),trivial,λb hb=>absurd (show b∈([]:List Addr) from hb) (by simp),hok,.of_eq hg⟩;refine codeAny_mono ((F _ hKb (nsK MQ)).run callerA [] s₁ H ⟨[↥a],[]⟩ [↥a] [↥a] _ _ hr e0 (Yy s₁ ↥a) (.cons rfl .nil) (Hz H hO hS)) λr s' h=>?_
  cases r with
  | error e=>exact (hCX H e s' h).elim
  | ok fl =>
   cases fl with
   | next=>exact False.elim h
   | brk=>exact False.elim h
   | cont=>exact False.elim h
   | ret u =>
    let⟨v,H',os,bare,un,HL,r',q⟩:=h;have q':v=.bl true:=q;subst q';obtain rfl:u=Value.bool true:=r';refine⟨rfl,OldK.of_keep λb o e=>?_,os,bare⟩
    cases q:H b with
    | none=>exact un.keep b o e q (by intro z;exact absurd (show b∈([]:List Addr) from z) (by simp)) (by simp)
    | some u =>
     rcases hO b with z|⟨ob,xs,z⟩
     ·rw[q]at z;cases z
     ·have z2:=un.AE b ob _ z;let⟨e1,_⟩:=hok b _ z;let⟨e2,_⟩:=HL b _ z2;rw[e]at e1;cases e1;exact e2
 cases hk:K.lookup a with
 | some o =>
  have e:=KX a o hk;rw[ha]at e;cases e;refine core (λ_=>none) (λ_=>.inl rfl) (.inr ⟨_,vs.toArray,_,hk,V,rfl,by rw[gG,acL];exact hl,by simpa using rv⟩) (λb u z=>by have z':(none:Option HO)=⇑u:=z;cases z') (λb z=>absurd rfl z) λz=>absurd rfl z
 | none =>
  refine core (λb=>if b=a then some (.Hi { cls:=.type "list",data:=.seq vs.toArray } (.lst (ns.map V.int))) else none) (λb=>?_) (.inl (.inr ⟨{ cls:=.type "list",data:=.seq vs.toArray },if_pos rfl⟩)) (λb u z=>?_) (λb z=>?_) λ_=>hk
  ·by_cases hb:b=a
   ·exact .inr ⟨Q,if_pos hb⟩
   ·exact .inl (if_neg hb)
  ·by_cases hb:b=a
   ·have z':=(if_pos hb).symm.trans z;cases z';subst hb;exact⟨ha,by rw[bW];exact hl,vs,_,rv,ha⟩
   ·have z':=(if_neg hb).symm.trans z;cases z'
  ·by_cases hb:b=a
   ·exact hb
   ·exact absurd (if_neg hb) z
end L2
namespace L2
open Spec Rows
theorem Q2{l:PySem.W.OpenLaw}{n k:Nat}{q:Program}{Bu:List Str}{XP:(Str->Option Value)->Heap->Prop}{YP:World->Heap->Prop}{d:DefRec}{K:Params->PySem.W.Frag}{CX:World->Lf}{sp:World->Sp}{x:Str}
  (hn:l.most=⇑n) (hn2:n<=sizeLine) (Yw:d.params.defaults=[]) (hr:gK k callerA)
  (hY:∀ (w:World) (h:Heap),YP w h->(K w.params).In h)
  (F:∀ (w:World) (mg:Str->Option Value) (fa:Addr) (h:Heap),(K w.params).In h->h.Ns mainGlobals mg->mg d.name=⇑↥fa->
   ∃ fd:FuncData,(∀ (s:Shared) (u:Value),BindsTo s fd ⟨[u],[]⟩ [(x,u)])/\
    ∀ zt:Heap,(K w.params).In zt->zt.Ns mainGlobals mg->aX l.prog w (K w.params) mg zt (CX w) k fa fd [x] (sp w))
  (Hz:∀ (w:World) (H:Hp) (a:Addr) (ns:List Int),↑ns<=n->U8 H->bG (K w.params) H a (ns.map V.int)->sp w [↥a] H (λv _=>v=.bl true) λ_ _ _=>False)
  (hCX:∀ (w:World) (H:Hp) (s:Shared) (e:Value) (s':Shared),CX w [] H s (λ_ _ _=>False) e s'->False) :
  PySem.W.WalkO q Bu XP YP l.row.toRowW d [] (λf vs=>PySem.call f vs):=by
 refine Att.E1 hn Yw λw s₀ s₁ mg mb fa o pm cd vY a vs ns G Y ho hd KS Yx U7 NJ cX hg=>?_;have KX:=hY w _ Y;let⟨fd,hb,hF⟩:=F w mg fa _ KX G.T.g Yx;exact NK KX G.T.g G.T.b G.T.builtins G.T.nolimit hg U7 NJ (jf cX hn2) hr hF hb (λH hO hS=>Hz w H a ns cX hO hS) λH e s'=>hCX w H s₁ e s'
end L2
namespace L2
open Spec Rows
def mL(s:Stmt):Arguments:=match s with
 | .FunctionDef _ a _ _ _ _ _ _ _ _=>a
 | _=>{ posonlyargs:=[],args:=[],vararg:=none,kwonlyargs:=[],kw_defaults:=[],kwarg:=none,defaults:=[] }
def ig(s:Stmt):List Stmt:=match s with
 | .FunctionDef _ _ b _ _ _ _ _ _ _=>b
 | _=>[]
def az(s:Stmt):Scope:=match s with
 | .FunctionDef _ _ _ _ _ _ sc _ _ _=>sc
 | _=>{ kind:=.function,names:=[],isGenerator:=false,isCoroutine:=false }
abbrev cO:Lf:=λ_ _ _ _ _ _=>False
abbrev E0:XK:=λ_ _ _=>False
theorem bS{X:Cx}:jK cO X E0:=λ_ _ _ _ _ _ _ h=>h.elim
structure NL(K:PySem.W.Frag)(x cP:Str)(st:Stmt)(f:Addr)(fd:FuncData):Prop where
 ex:∃ (oc:Value) (od:Option Addr) (kV vY pm:Value) (an:Option Addr) (cH ct:Value) (Lh:Array (Option Value)),
  fd=fnOf x cP (mL st) (ig st) (az st) .none kV vY pm an cH ct/\K.lookup f=some ⟨oc,od,.func fd,Lh⟩/\codeIn K cH cP=true
 kp:keepIn K ↥f=true
section
variable {P:Program} {w:World} {K:PySem.W.Frag} {mg:Str->Option Value} {zt:Heap}
theorem NL.ok{x cP:Str}{st:Stmt}{f:Addr}{N ps:List Str}{k:Nat}{sp:Sp}(F:NL K x cP st f fd)(S:aG N ps (az st))(len:∀ vs H Q E,sp vs H Q E->↑vs=↑ps)
  (uA:∀ (cH:Value) (A:Around) (zn:List Env) (s:Shared) (H:Hp) (vs:List V) (Q:VK) (E:XK),gK k (A.deeper (envOfC cP (az st) s.heap.objs.size f cH))->sp vs H Q E->
   ∃ t,EA (EW cO P w K mg zt N cP (az st) f cH A zn s H E).Hq (ig st) t/\t { nx:=λ_ H'=>Q .gj H',rt:=Q } (start N vs) H):aX P w K mg zt cO (k+1) f fd ps sp:=by
 let⟨oc,od,kV,vY,pm,an,cH,ct,Lh,rfl,lk,KS⟩:=F.ex;refine Tu lk KS S len λA zn s H vs Q E hr Hz=>?_;let⟨t,h,q⟩:=uA cH A zn s H vs Q E hr Hz;exact⟨t,h.Hq,q⟩
theorem NL.binds{x cP:Str}{st:Stmt}{f:Addr}{ps:List Str}(F:NL K x cP st f fd)
  (h:∀ (kV vY pm:Value) (an:Option Addr) (cH ct:Value) (us:List Value),↑us=↑ps->bindArgs (fnOf x cP (mL st) (ig st) (az st) .none kV vY pm an cH ct) ⟨us,[]⟩=pure (ps.zip us)):Binds K fd ps []:=by
 let⟨oc,od,kV,vY,pm,an,cH,ct,Lh,rfl,lk,KS⟩:=F.ex;exact .all (h kV vY pm an cH ct)
theorem HM{x cP:Str}{st:Stmt}{f:Addr}{oc:Value}{od an:Option Addr}{Lh:Array (Option Value)}{kV vY pm cH ct:Value}(l:K.lookup f=some ⟨oc,od,.func (fnOf x cP (mL st) (ig st) (az st) .none kV vY pm an cH ct),Lh⟩)
  (c:codeIn K cH cP=true) (k:keepIn K ↥f=true):NL K x cP st f (fnOf x cP (mL st) (ig st) (az st) .none kV vY pm an cH ct):=⟨⟨oc,od,kV,vY,pm,an,cH,ct,Lh,rfl,l,c⟩,k⟩
end
theorem jc{A:Around}{k:Nat}(hr:gK k A):A.units+1<cLine:=Nat.lt_of_le_of_lt (Nat.add_le_add_left (by decide:1<=64) _) hr.units
section
variable {X:Cx}
theorem pv(i:Nat){x:Str}{pos:Pos}(hN:X.N[i]?=⇑x:=by rfl)(hv:Vis X.env.scope x:=by first|exact Or.inl rfl|exact Or.inr (Or.inl rfl)|exact Or.inr (Or.inr rfl))(hd:(x == ("__debug__":Str))=false:=by decide)
  (KS:(x == ("__classdict__":Str))=false:=by decide):PE X (.Name x pos) (Ux i):=Uy hN hv hd KS
end
def dF{A B:Prop}(h:B):if false=true then A else B:=by
 rw[if_neg fL];exact h
def jg{A B:Prop}(h:A):if true=true then A else B:=by
 rw[if_pos rfl];exact h
def cM{c A B:Prop} [Decidable c] (h1:c->A) (h2:¬ c->B):if c then A else B:=by
 by_cases h:c
 ·rw[if_pos h];exact h1 h
 ·rw[if_neg h];exact h2 h
def NN{c A B:Prop} [Decidable c] (hc:c) (h:B):if (!decide c)=true then A else B:=by
 rw[decide_eq_true hc];exact dF h
def aH(H H':Hp):Prop:=∀ b o,H b=⇑o->H' b=⇑o
theorem aH.refl(H:Hp):aH H H:=λ_ _ h=>h
theorem aH.trans{H H1 H2:Hp}(a:aH H H1)(b:aH H1 H2):aH H H2:=λc o h=>b c o (a c o h)
def aH.free{H H':Hp}(e:aH H H'){l:Addr}(h:H' l=Option.none):H l=Option.none:=by
 cases q:H l with
 | none=>rfl
 | some o =>
  rw[e l o q]at h;cases h
end L2
namespace fV
open L2
def top(i:Nat):Stmt:=PySem.Challenge.pw_inkroot_k41_weights_bound.main.body.getD i (.Pass ⟨0,0,0,0⟩)
def Q3:Stmt->List Stmt
 | .ClassDef (body:=b) ..=>b
 | _=>[]
def fY(i j:Nat):Stmt:=(Q3 (top i)).getD j (.Pass ⟨0,0,0,0⟩)
inductive DI(K:PySem.W.Frag)(x:Str)(st:Stmt)(f:Addr):Prop
 | mk {oc:Value} {od an:Option Addr} {Lh:Array (Option Value)} {kV vY pm cH ct:Value} (_:nsIn K mainGlobals x=⇑(⇑↥f)) (_:K.lookup f=some ⟨oc,od,.func (fnOf x x (mL st) (ig st) (az st) .none kV vY pm an cH ct),Lh⟩) (_:codeIn K cH x=true) (_:keepIn K ↥f=true)
inductive MI(K:PySem.W.Frag)(C:Addr)(x cP:Str)(st:Stmt)(f:Addr):Prop
 | mk {oc:Value} {od an:Option Addr} {Lh:Array (Option Value)} {kV vY pm cH ct:Value} (_:findIn K ↥C x=⇑(⇑↥f)) (_:isFn K ↥f=true) (_:K.lookup f=some ⟨oc,od,.func (fnOf x cP (mL st) (ig st) (az st) .none kV vY pm an cH ct),Lh⟩) (_:codeIn K cH cP=true) (_:keepIn K ↥f=true)
inductive CI(K:PySem.W.Frag)(x:Str)(C:Addr):Prop
 | mk (_:nsIn K mainGlobals x=⇑(⇑↥C)) (_:plainGet K C Str.empty=true) (_:hasDictIn K C=true) (_:plainOver K C=true) (_:findIn K ↥C "__setattr__"=⇑(⇑(.builtin "object.__setattr__"))) (_:makesIn K C=true) (_:keepIn K ↥C=true)
inductive XI(K:PySem.W.Frag)(x:Str)(C:Addr):Prop
 | mk (_:nsIn K mainGlobals x=⇑(⇑↥C)) (_:PySem.W.excIn K C [.type "ValueError",.type "Exception",.type "BaseException",.type "object"] "ValueError.__new__"=true) (_:PySem.W.exmOne K ↥C ↥C=⇑true)
class inductive NO(K:PySem.W.Frag)
 | mk (a:Addr) (ns:List Int) (_:vs=[↥a]) (_:bG K H a (ns.map V.int)) (_:↑ns<=63) (_: ∀ H',Q (.bl true) H')
abbrev v7:Stmt:=top 72
abbrev sW:Stmt:=top 73
abbrev qo:Stmt:=top 74
abbrev sX:Stmt:=top 75
abbrev HN:Stmt:=top 11
abbrev JS:Stmt:=top 12
abbrev nj:Stmt:=top 14
abbrev C1:Stmt:=top 15
abbrev NP:Stmt:=top 16
abbrev kq:Stmt:=fY 27 0
abbrev oM:Stmt:=top 17
abbrev C2:Stmt:=top 20
abbrev ku:Stmt:=top 22
abbrev sY:Stmt:=top 24
abbrev uH:Stmt:=top 31
abbrev C3:Stmt:=top 32
abbrev oN:Stmt:=top 41
abbrev NQ:Stmt:=top 42
abbrev oO:Stmt:=top 37
abbrev jk:Stmt:=top 38
abbrev C4:Stmt:=top 39
abbrev v8:Stmt:=top 33
abbrev lg:Stmt:=top 34
abbrev HP:Stmt:=top 35
abbrev zb:Stmt:=top 44
abbrev oQ:Stmt:=top 45
abbrev C5:Stmt:=top 46
abbrev HQ:Stmt:=top 47
abbrev sZ:Stmt:=top 48
abbrev tD:Stmt:=top 50
abbrev nu:Stmt:=top 54
abbrev oR:Stmt:=top 56
abbrev qp:Stmt:=top 57
abbrev zc:Stmt:=top 59
abbrev kB:Stmt:=fY 60 0
abbrev tE:Stmt:=fY 60 3
abbrev qt:Stmt:=fY 60 2
abbrev qu:Stmt:=fY 60 1
abbrev iU:Stmt:=fY 60 4
abbrev iD:Stmt:=fY 60 5
abbrev tF:Stmt:=fY 60 7
abbrev ir:Stmt:=fY 60 10
abbrev qv:Stmt:=fY 60 9
abbrev lP:Stmt:=fY 62 0
abbrev lQ:Stmt:=fY 29 0
abbrev lR:Stmt:=fY 64 0
abbrev tG:Stmt:=fY 64 2
abbrev tH:Stmt:=fY 64 1
abbrev mO:Stmt:=fY 64 6
abbrev oS:Stmt:=top 69
abbrev lS:Stmt:=fY 70 1
abbrev ny:Stmt:=fY 70 26
abbrev oU:Stmt:=fY 70 25
abbrev kC:Stmt:=fY 70 2
abbrev lT:Stmt:=fY 70 3
abbrev lU:Stmt:=fY 70 7
abbrev lV:Stmt:=fY 70 30
abbrev nA:Stmt:=fY 70 6
abbrev oV:Stmt:=fY 70 27
abbrev iE:Stmt:=fY 70 4
abbrev oW:Stmt:=fY 70 8
abbrev jm:Stmt:=fY 70 0
abbrev lW:Stmt:=fY 70 11
abbrev oX:Stmt:=fY 70 28
abbrev kD:Stmt:=fY 70 12
abbrev kE:Stmt:=fY 70 35
abbrev iP:Stmt:=fY 70 16
abbrev C6:Stmt:=top 23
abbrev oY:Stmt:=fY 27 3
abbrev iF:Stmt:=fY 64 5
abbrev tK:Stmt:=fY 64 3
abbrev iQ:Stmt:=fY 70 23
abbrev nB:Stmt:=fY 70 32
abbrev nC:Stmt:=fY 70 34
abbrev mP:Stmt:=top 84
abbrev tL:Stmt:=top 85
abbrev tM:Stmt:=top 86
abbrev qw:Stmt:=top 76
abbrev tN:Stmt:=top 79
abbrev nE:Stmt:=top 80
abbrev oZ:Stmt:=top 81
abbrev wc:Stmt:=top 82
abbrev Bw:Stmt:=top 83
abbrev nF:Stmt:=top 87
abbrev o6:Stmt:=top 77
abbrev lY:Stmt:=top 78
abbrev o7:Stmt:=top 88
abbrev qx:Stmt:=top 89
abbrev uI:Stmt:=fY 70 9
abbrev rY:Stmt:=fY 70 10
abbrev uJ:Stmt:=fY 70 13
abbrev rZ:Stmt:=fY 70 14
abbrev tO:Stmt:=top 90
abbrev mQ:Stmt:=top 96
abbrev qy:Stmt:=top 95
abbrev mR:Stmt:=top 91
abbrev tP:Stmt:=top 92
abbrev jo:Stmt:=top 93
abbrev pA:Stmt:=top 94
abbrev HR:Stmt:=top 97
end fV
namespace fV
open L2
inductive SI(K:PySem.W.Frag)(X XS:Addr):Prop
 | mk (_:nsIn K mainGlobals "InkError"=⇑(⇑↥XS)) (_:PySem.W.exmOne K ↥X ↥XS=⇑true)
inductive Pm(K:PySem.W.Frag)(mg:Str->Option Value)(fa:Addr):Prop
 | mk {h:Heap} {AI AJ NR:Tok} (dZ gI gH Bx E2 bC aA XS:Addr) (X:K.In h) (G:h.Ns mainGlobals mg) (hfa:mg "law"=⇑↥fa)
  (JT:CI K "Shelf" dZ)
  (jO:findIn K ↥dZ "states"=⇑none)
  (nX:findIn K ↥dZ "openings"=⇑none)
  (NS:CI K "Well" gI)
  (tQ:findIn K ↥gI "signs"=⇑none)
  (uK:findIn K ↥gI "owners"=⇑none)
  (nY:findIn K ↥gI "pourings"=⇑none)
  (JU:CI K "Blots" gH)
  (uL:findIn K ↥gH "stains"=⇑none)
  (NT:CI K "Ties" Bx)
  (C7:findIn K ↥Bx "given"=⇑none)
  (C8:findIn K ↥Bx "pairs"=⇑none)
  (NU:CI K "Dues" E2)
  (JV:findIn K ↥E2 "sums"=⇑none)
  (By:CI K "Library" bC)
  (xA:findIn K ↥bC "well"=⇑none)
  (gm:findIn K ↥bC "shelf"=⇑none)
  (zd:findIn K ↥bC "blots"=⇑none)
  (C9:findIn K ↥bC "knots"=⇑none)
  (JW:findIn K ↥bC "dues"=⇑none)
  (E3:findIn K ↥bC "book"=⇑none)
  (q0:DI K "_law_src" v7 f0)
  (q1:DI K "_law_next" sW f1)
  (q2:DI K "_law_whole" qo f2)
  (q3:DI K "_law_same" sX f3)
  (q4:DI K "plain" HN f4)
  (q5:DI K "size" JS f5)
  (q6:DI K "check_places" nj f6)
  (q7:DI K "pieces" C1 f7)
  (q8:DI K "part" NP f8)
  (q9:MI K gH "__init__" "Blots.__init__" kq f9)
  (BA:DI K "addresses" oM f10)
  (q11:DI K "spread" C2 f11)
  (q12:DI K "first_reaching" ku f12)
  (q13:DI K "left_over" sY f13)
  (q14:DI K "windows" uH f14)
  (q15:DI K "below" C3 f15)
  (q16:DI K "way_between" oN f16)
  (q17:DI K "ring" NQ f17)
  (q18:DI K "item_weight" oO f18)
  (q19:DI K "weights_below" jk f19)
  (q20:DI K "weight" C4 f20)
  (q21:DI K "item_row" v8 f21)
  (q22:DI K "views_below" lg f22)
  (q23:DI K "shown" HP f23)
  (q24:DI K "goes_on" zb f24)
  (q25:DI K "plain_items" oQ f25)
  (q26:DI K "inked" C5 f26)
  (q27:DI K "dealt" HQ f27)
  (q28:DI K "put_among" sZ f28)
  (q29:DI K "put_items" tD f29)
  (q30:DI K "struck_items" nu f30)
  (q31:DI K "ink_words" oR f31)
  (q32:DI K "shown_deed" qp f32)
  (q33:DI K "changed" zc f33)
  (q34:MI K dZ "__init__" "Shelf.__init__" kB f34)
  (q35:MI K dZ "now" "Shelf.now" tE f35)
  (q36:MI K dZ "many" "Shelf.many" qt f36)
  (q37:MI K dZ "step" "Shelf.step" qu f37)
  (q38:MI K dZ "check_sheet" "Shelf.check_sheet" iU f38)
  (q39:MI K dZ "check_moment" "Shelf.check_moment" iD f39)
  (q40:MI K dZ "rows_then" "Shelf.rows_then" ir f40)
  (q41:MI K dZ "rows" "Shelf.rows" qv f41)
  (q42:MI K dZ "row" "Shelf.row" tF f42)
  (q43:MI K Bx "__init__" "Ties.__init__" lP f43)
  (q44:MI K E2 "__init__" "Dues.__init__" lQ f44)
  (q45:MI K gI "__init__" "Well.__init__" lR f45)
  (q46:MI K gI "size" "Well.size" tG f46)
  (q47:MI K gI "pour" "Well.pour" tH f47)
  (q48:MI K gI "holds" "Well.holds" mO f48)
  (q49:DI K "check_weave" oS f49)
  (q50:MI K bC "__init__" "Library.__init__" jm f50)
  (q51:MI K bC "enter" "Library.enter" lS f51)
  (q52:MI K bC "change" "Library.change" kC f52)
  (q53:MI K bC "many" "Library.many" ny f53)
  (q54:MI K bC "now" "Library.now" oU f54)
  (q55:MI K bC "begin" "Library.begin" lT f55)
  (q56:MI K bC "fresh" "Library.fresh" lU f56)
  (q57:MI K bC "ink" "Library.ink" oV f57)
  (q58:MI K bC "check_held" "Library.check_held" iE f58)
  (q59:MI K bC "pour" "Library.pour" nA f59)
  (q60:MI K bC "put" "Library.put" oW f60)
  (q61:MI K bC "shown" "Library.shown" lV f61)
  (q62:MI K bC "quote" "Library.quote" lW f62)
  (q63:MI K bC "row" "Library.row" oX f63)
  (q64:MI K bC "window" "Library.window" kD f64)
  (q65:MI K bC "weight" "Library.weight" kE f65)
  (q66:MI K bC "strike" "Library.strike" iP f66)
  (q67:DI K "within" C6 f67)
  (q68:MI K gH "hides" "Blots.hides" oY f68)
  (q69:MI K gI "check_address" "Well.check_address" iF f69)
  (q70:MI K gI "sign" "Well.sign" tK f70)
  (q71:MI K bC "veiled" "Library.veiled" iQ f71)
  (q72:MI K bC "text" "Library.text" nB f72)
  (q73:MI K bC "size" "Library.size" nC f73)
  (q74:DI K "_law_world" mP f74)
  (q75:DI K "_law_keep" tL f75)
  (q76:DI K "_law_swap" tM f76)
  (q77:DI K "_law_spell" qw f77)
  (q78:DI K "_law_show" tN f78)
  (q79:DI K "_law_reached" nE f79)
  (q80:DI K "_law_pieces" oZ f80)
  (q81:DI K "_law_put" wc f81)
  (q82:DI K "_law_cut" Bw f82)
  (q83:DI K "_law_weighed" nF f83)
  (q84:DI K "_law_row_of" o6 f84)
  (q85:DI K "_law_items_of" lY f85)
  (q86:DI K "_law_fits" o7 f86)
  (q87:DI K "_law_after" qx f87)
  (q88:MI K bC "cut" "Library.cut" uI f88)
  (q89:MI K bC "move" "Library.move" rY f89)
  (q90:MI K bC "fix" "Library.fix" uJ f90)
  (q91:MI K bC "back" "Library.back" rZ f91)
  (q92:DI K "_law_done" tO f92)
  (q93:DI K "_law_great" mQ f93)
  (q94:DI K "_law_heavy" qy f94)
  (q95:DI K "_law_begin" mR f95)
  (q96:DI K "_law_read" tP f96)
  (q97:DI K "_law_sheet_right" jo f97)
  (q98:DI K "_law_seen" pA f98)
  (q99:DI K "law" HR f99)
  (z0:nsIn K mainGlobals "len"=⇑none)
  (z1:nsIn K mainGlobals "list"=⇑none)
  (z2:nsIn K mainGlobals "tuple"=⇑none)
  (z3:nsIn K mainGlobals "int"=⇑none)
  (z4:nsIn K mainGlobals "bool"=⇑none)
  (z5:nsIn K mainGlobals "str"=⇑none)
  (z6:nsIn K mainGlobals "range"=⇑none)
  (z7:nsIn K mainGlobals "zip"=⇑none)
  (z8:nsIn K mainGlobals "isinstance"=⇑none)
  (z9:nsIn K mainGlobals "sum"=⇑none)
  (z10:nsIn K mainGlobals "min"=⇑none)
  (z11:nsIn K mainGlobals "max"=⇑none)
  (z12:nsIn K mainGlobals "all"=⇑none)
  (z13:nsIn K mainGlobals "sorted"=⇑none)
  (BB:XI K "TooHeavy" aA)
  (xS:SI K aA XS)
  (r9:nsIn K mainGlobals "MOST_SHEETS"=⇑(⇑(.int 40 AI)))
  (sf:nsIn K mainGlobals "MOST_WEIGHT"=⇑(⇑(.int 200 AJ)))
  (E4:nsIn K mainGlobals "HIDDEN"=⇑(⇑(.str "#" NR)))
  (uM:nsIn K mainGlobals "size_spans"=⇑(⇑↥f5))
  (sj:nsIn K mainGlobals "shown_weave"=⇑(⇑↥f23))
  (qz:nsIn K mainGlobals "weight_weave"=⇑(⇑↥f20))
def Tw:Prop:=∀ {P:Program} {w:World} {K:PySem.W.Frag} {mg:Str->Option Value} {fa:Addr},Pm K mg fa->∃ fd:FuncData,(∀ (s:Shared) (v:Value),BindsTo s fd ⟨[v],[]⟩ [("_law_script",v)])/\∀ zt:Heap,K.In zt->zt.Ns mainGlobals mg->aX P w K mg zt cO 47 fa fd ["_law_script"] (NO K)
theorem walk{l:PySem.W.OpenLaw}{q:Program}{Bu:List Str}{XP:(Str->Option Value)->Heap->Prop}{YP:World->Heap->Prop}{d:DefRec}{K:Params->PySem.W.Frag}(hn:l.most=some 63)(Yw:d.params.defaults=[])
  (hY:∀ (w:World) (h:Heap),YP w h->(K w.params).In h)
  (F:∀ (w:World) (mg:Str->Option Value) (fa:Addr) (h:Heap),(K w.params).In h->h.Ns mainGlobals mg->mg d.name=⇑↥fa->
   ∃ fd:FuncData,(∀ (s:Shared) (u:Value),BindsTo s fd ⟨[u],[]⟩ [("_law_script",u)])/\∀ zt:Heap,(K w.params).In zt->zt.Ns mainGlobals mg->aX l.prog w (K w.params) mg zt cO 47 fa fd ["_law_script"] (NO (K w.params))) :
  PySem.W.WalkO q Bu XP YP l.row.toRowW d [] (λf vs=>PySem.call f vs) :=
 L2.Q2 (n:=63) (k:=47) (x:="_law_script") (CX:=λ_=>cO) (sp:=λw=>NO (K w.params)) hn (by decide) Yw ⟨rfl,by decide,by decide⟩ hY F (λ_ _ a ns hl _ hS=>⟨a,ns,rfl,hS,hl,λ_=>rfl⟩) λ_ _ _ _ _ z=>z
end fV
namespace InkHd
open PySem.W Rows
set_option maxRecDepth 100000 in
set_option maxHeartbeats 0 in
def hd2(A:fV.Tw):PySem.Challenge.rw_inkroot_k41_weights_bound.Holds:=by
 refine hd_k41 ?_
 k_fill
 refine fV.walk (l:=PySem.Challenge.rw_inkroot_k41_weights_bound) rfl rfl (λw h Y=>kIn_of Y) ?F
 case F =>
  intro w mg fa h KX G Yx
  refine' A (.mk _ _ _ _ _ _ _ _ KX G Yx (.mk ..) _ _ (.mk ..) _ _ _ (.mk ..) _ (.mk ..) _ _ (.mk ..) _ (.mk ..) _ _ _ _ _ _ (.mk ..) (.mk ..) (.mk ..) (.mk ..) (.mk ..) (.mk ..) (.mk ..) (.mk ..) (.mk ..) (.mk ..) (.mk ..) (.mk ..) (.mk ..) (.mk ..) (.mk ..) (.mk ..) (.mk ..) (.mk ..) (.mk ..) (.mk ..) (.mk ..) (.mk ..) (.mk ..) (.mk ..) (.mk ..) (.mk ..) (.mk ..) (.mk ..) (.mk ..) (.mk ..) (.mk ..) (.mk ..) (.mk ..) (.mk ..) (.mk ..) (.mk ..) (.mk ..) (.mk ..) (.mk ..) (.mk ..) (.mk ..) (.mk ..) (.mk ..) (.mk ..) (.mk ..) (.mk ..) (.mk ..) (.mk ..) (.mk ..) (.mk ..) (.mk ..) (.mk ..) (.mk ..) (.mk ..) (.mk ..) (.mk ..) (.mk ..) (.mk ..) (.mk ..) (.mk ..) (.mk ..) (.mk ..) (.mk ..) (.mk ..) (.mk ..) (.mk ..) (.mk ..) (.mk ..) (.mk ..) (.mk ..) (.mk ..) (.mk ..) (.mk ..) (.mk ..) (.mk ..) (.mk ..) (.mk ..) (.mk ..) (.mk ..) (.mk ..) (.mk ..) (.mk ..) (.mk ..) (.mk ..) (.mk ..) (.mk ..) (.mk ..) (.mk ..) (.mk ..) (.mk ..) (.mk ..) (.mk ..) (.mk ..) (.mk ..) (.mk ..) (.mk ..) (.mk ..) (.mk ..) (.mk ..) (.mk ..) _ _ _ _ _ _ _ _ _ _ _ _ _ _ (.mk ..) (.mk ..) _ _ _ _ _ _)
  all_goals try first|k_is|k_exc|kts_exm
end InkHd
namespace cD
open Spec Rows L2
section
variable {X:Cx}
def dG:jF X (.builtin "isinstance") (λxs H Q=>∃ x T t b,xs=[x,.ty T]/\jU X.K H x t/\kitOne X.K t (.type T)=⇑b/\Q (.bl b) H):=by
 intro ak s σ H xs us Q I r h;let⟨x,T,t,b,rfl,ty,e,q⟩:=h;let⟨u,v,rfl,rx,rv⟩:=r.two;cases (show v=Value.type T from rv);exact Lc I rx ty e λtk=>⟨.bl b,H,I.tok tk,rfl,q⟩
theorem pK{x:Str}{T:String}(hg:Gl X x)(hm:X.mg x=none)(hv:bootBuiltins x=⇑(.type T))(hn:x≠"__name__":=by decide)(hd:(x == ("__debug__":Str))=false:=by decide):PE X (.Name x pos) (tC (.ty T)) :=
 QH hg hm hv rfl hn hd
end
theorem Q4{X:Cx}{σ:L2.St}{H:Hp}{s:Shared}{h':Heap}{t':Nat}{ch:List Addr}(I:Inv X ak σ H s)(k:∀ b o,b∉ch->s.heap.get? b=⇑o->h'.get? b=⇑o)
  (hf:∀ b∈ch,oJ X ak H b):Inv X ak σ H { s with heap:=h',toks:=t' }:=by
 have To:∀ b u,H b=⇑u->b∉ch:=λb u e z=>by rw[(hf b z).1]at e;cases e
 refine I.step (g':=s.gens) (d':=s.drawn) (ch:=ch) (λb hb=>?_) (λb o _ _ hc e _=>k b o hc e) (λb o _ _ hc e _=>⟨o.slots,k b o hc e⟩) (λ_ _ _ _ n=>n) (λb o hc e=>⟨o,k b o hc e⟩) (λ_ _ e=>e) (λ_ _ _ e=>e) (λb ps e=>⟨#[],by rw[e];simp⟩) (λm hm=>?_) (λb u e=>?_) I.bare
 ·let⟨_,f1,_,f3,f4,f5⟩:=hf b hb;exact⟨f3,f1,f4,f5⟩
 ·let⟨o,es,ep,ho,r⟩:=hm;exact⟨o,es,ep,k _ o (λz=>(hf _ z).2.1 rfl) ho,r⟩
 ·refine (I.hok b u e).stay (λc v hc q=>k c v ?_ q) (λ_ q=>q) λ_ _ q=>q;rcases hc with z|z
  ·rw[z];exact To b u e
  ·exact To c _ z
theorem Yz{X:Cx}{σ:L2.St}{H:Hp}{s:Shared}{h':Heap}{t':Nat}{ch:List Addr}{p:Addr}{xs:List V}{us:List Value}(I:Inv X ak σ H s)(k:∀ b o,b∉ch->s.heap.get? b=⇑o->h'.get? b=⇑o)
  (hf:∀ b∈ch,oJ X ak H b) (hp:s.heap.objs.size<=p) (hz:↑xs<=sizeLine) (rv:bZ xs us) (ht:IsTup h' p us.toArray):Inv X ak σ (aO H p (.tup xs)) { s with heap:=h',toks:=t' }:=by
 have hn:H p=none:=I.hok.fresh hp;have To:∀ b u,H b=⇑u->b∉ch:=λb u e z=>by rw[(hf b z).1]at e;cases e
 have nep:∀ b o,s.heap.get? b=⇑o->b≠p:=λb o e z=>by subst z;exact absurd (pW (Heap.lt_size e) hp) (Nat.lt_irrefl _)
 refine I.step (g':=s.gens) (d':=s.drawn) (ch:=ch) (λb hb=>?_) (λb o _ _ hc e _=>k b o hc e) (λb o _ _ hc e _=>⟨o.slots,k b o hc e⟩) (λb o _ e n=>by rw[aK (nep b o e)];exact n) (λb o hc e=>⟨o,k b o hc e⟩) (λb ys e=>by rw[aK (aB e hn)];exact e) (λb _ _ e=>by rw[aK (aB e hn)];exact e) (λb ps e=>⟨#[],by rw[aK (aB e hn),e];simp⟩) (λm hm=>?_) (λb u e=>?_) I.bare
 ·let⟨_,f1,_,f3,f4,f5⟩:=hf b hb;exact⟨f3,f1,f4,f5⟩
 ·let⟨o,es,ep,ho,r⟩:=hm;exact⟨o,es,ep,k _ o (λz=>(hf _ z).2.1 rfl) ho,r⟩
 ·by_cases hb:b=p
  ·subst hb;rw[af]at e;cases e;exact⟨hz,us,rv,ht⟩
  ·rw[aK hb]at e;refine (I.hok b u e).stay (λc v hc q=>k c v ?_ q) (λc q=>by rw[aK (aB q hn)];exact q) λc ys q=>by rw[aK (aB q hn)];exact q
   rcases hc with z|z
   ·rw[z];exact To b u e
   ·exact To c _ z
def G7(k:Bool)(h:Heap)(i a:Addr)(n:Nat):Prop:=match k with
 | true=>h.IsListIter i a n
 | false=>h.IsTupleIter i a n
def AA(k:Bool)(h:Heap)(a:Addr)(xs:Array Value):Prop:=match k with
 | true=>h.IsList a xs
 | false=>h.IsTuple a xs
def G7.at{k:Bool}{h h':Heap}{i a:Addr}{n:Nat}(x:G7 k h i a n)(e:∀ o,h.get? i=⇑o->h'.get? i=⇑o):G7 k h' i a n:=by
 cases k
 ·let⟨o,ho,r⟩:=x;exact⟨o,e o ho,r⟩
 ·let⟨o,ho,r⟩:=x;exact⟨o,e o ho,r⟩
def AA.at{k:Bool}{h h':Heap}{a:Addr}{xs:Array Value}(x:AA k h a xs)(e:∀ o,h.get? a=⇑o->h'.get? a=⇑o):AA k h' a xs:=by
 cases k
 ·let⟨o,ho,r⟩:=x;exact⟨o,e o ho,r⟩
 ·let⟨o,ho,r⟩:=x;exact⟨o,e o ho,r⟩
def G7.obj{k:Bool}{h:Heap}{i a:Addr}{n:Nat}(x:G7 k h i a n):∃ o,h.get? i=⇑o/\∀ v,o.data≠.cell v:=by
 cases k
 ·let⟨o,ho,_,d⟩:=x;exact⟨o,ho,λv z=>by rw[d]at z;cases z⟩
 ·let⟨o,ho,_,d⟩:=x;exact⟨o,ho,λv z=>by rw[d]at z;cases z⟩
section
variable {prog:Program} {w:World} {A:Around} {E:Value->Shared->Prop} {s:Shared}
theorem HS{it t:Addr}{i:Nat}{items:Array Value}{x:Value}{Q:Value->Shared->Prop}(qA:s.heap.IsTupleIter it t i)(ht:s.heap.IsTuple t items)(hx:items[i]?=⇑x)
  (hQ:∀ h',h'.IsTupleIter it t (i+1)->Heap.SameBut it s.heap h'->Q x { s with heap:=h' }):wpAny (model prog w) A (Builtin.SmallTypes.nextOf ↥it) Q E s:=by
 let⟨o,ho,hc,hd⟩:=id qA;let⟨ol,hol,_,nl,Xf⟩:=ht;unfold Builtin.SmallTypes.nextOf;refine wpAny_bind (wpAny_callSpecial?_slot (name:=Str.ofString "__next__") qA.typeIs F.slot_tuple_iterator_next (wpAny_call_entry F.slot_tuple_iterator_next qA.typeIs F.entry_tuple_iterator_next ?_ (F.args_tuple_iterator_next_1 _)));show wpAny _ _ (field ↥it 0 >>= _) _ _ s;refine wpAny_bind (wpAny_field ho hd (x:=↥t) rfl ?_);show wpAny _ _ (if (Value.ref t == Value.none)=true then _ else _) _ _ s;rw[if_neg (show ¬ ((Value.ref t == Value.none)=true) from fL)];show wpAny _ _ (field ↥it 1 >>= _) _ _ s;refine wpAny_bind (wpAny_field ho hd (x:=.int i 0) rfl ?_);show wpAny _ _ (seqItems? ↥t >>= _) _ _ s;refine wpAny_bind (wpAny_seqItems hol Xf ?_);simp only[sO,hx];refine wpAny_bind (wpAny_setField ho hd (by simp) (wpAny_pure ⟨x,rfl,wpAny_pure (hQ _ ?_ (Heap.SameBut.update ..))⟩));exists _,Heap.get?_update_self _ ho (Obj.isFreed_of_fields (Obj.data_mapFields hd _)),(Obj.cls_mapFields ..).trans hc;rw[Obj.data_mapFields hd];simp[rawInt]
theorem Lk{it t:Addr}{i:Nat}{items:Array Value}{Q:Value->Shared->Prop}(hh:A.handled=none)(qA:s.heap.IsTupleIter it t i)(ht:s.heap.IsTuple t items)(hx:items[i]?=none)
  (hE:∀ h' e,Heap.ExtBut it s.heap h'->(∃ o,h'.get? e=⇑o/\o.cls=.type "StopIteration")->E ↥e { s with heap:=h' }):wpAny (model prog w) A (Builtin.SmallTypes.nextOf ↥it) Q E s:=by
 let⟨o,ho,hc,hd⟩:=id qA;let⟨ol,hol,_,nl,Xf⟩:=ht;unfold Builtin.SmallTypes.nextOf;refine wpAny_bind (wpAny_callSpecial?_slot (name:=Str.ofString "__next__") qA.typeIs F.slot_tuple_iterator_next (wpAny_call_entry F.slot_tuple_iterator_next qA.typeIs F.entry_tuple_iterator_next ?_ (F.args_tuple_iterator_next_1 _)));show wpAny _ _ (field ↥it 0 >>= _) _ _ s;refine wpAny_bind (wpAny_field ho hd (x:=↥t) rfl ?_);show wpAny _ _ (if (Value.ref t == Value.none)=true then _ else _) _ _ s;rw[if_neg (show ¬ ((Value.ref t == Value.none)=true) from fL)];show wpAny _ _ (field ↥it 1 >>= _) _ _ s;refine wpAny_bind (wpAny_field ho hd (x:=.int i 0) rfl ?_);show wpAny _ _ (seqItems? ↥t >>= _) _ _ s;refine wpAny_bind (wpAny_seqItems hol Xf ?_);simp only[sO,hx];refine wpAny_bind (wpAny_rule (wpAny_bind (wpAny_setField ho hd (by simp) ?_)));show wpAny _ _ (newExc (.type "StopIteration") [] >>= _) _ _ _;refine wpAny_bind ?_;simp only[newExc,newTuple];refine wpAny_bind (wpAny_newObj_type ?_ (by size_fits))
 refine wpAny_bind (m:=firstArgMember _ _) (wpAny_of_eq (a:=Value.none) (by first|rfl|(simp only[firstArgMember];rfl)) ?_)
 refine wpAny_newObj_type ?_ (by size_fits);simp only[raiseNew];refine wpAny_bind (wpAny_handled ?_)
 first|rw[show A.in1.handled=none from hh]|rw[hh]
 refine wpAny_bind (wpAny_pure (wpAny_throw ?_));exact hE _ _ (((Heap.SameBut.update ..).extBut.push _).push _) ⟨_,Heap.get?_push_size _ rfl,rfl⟩
theorem tR{k:Bool}{it t:Addr}{i:Nat}{items:Array Value}{x:Value}{Q:Value->Shared->Prop}(qA:G7 k s.heap it t i)(ht:AA k s.heap t items)(hx:items[i]?=⇑x)
  (hQ:∀ h',G7 k h' it t (i+1)->Heap.SameBut it s.heap h'->Q x { s with heap:=h' }):wpAny (model prog w) A (Builtin.SmallTypes.nextOf ↥it) Q E s:=by
 cases k
 ·exact HS qA ht hx hQ
 ·exact wpAny_nextOf_list_item qA ht hx hQ
theorem BC{k:Bool}{it t:Addr}{i:Nat}{items:Array Value}{Q:Value->Shared->Prop}(hh:A.handled=none)(qA:G7 k s.heap it t i)(ht:AA k s.heap t items)(hx:items[i]?=none)
  (hE:∀ h' e,Heap.ExtBut it s.heap h'->(∃ o,h'.get? e=⇑o/\o.cls=.type "StopIteration")->E ↥e { s with heap:=h' }):wpAny (model prog w) A (Builtin.SmallTypes.nextOf ↥it) Q E s:=by
 cases k
 ·exact Lk hh qA ht hx hE
 ·exact wpAny_nextOf_list_end hh qA ht hx hE
abbrev BD(k:Bool)(l:Addr):Obj:={ cls:=.type (if k then "list_iterator" else "tuple_iterator"),data:=.fields #[↥l,.int 0 0] }
def Tz{k:Bool}{l:Addr}{xs:Array Value}{Q:Value->Shared->Prop}(h:AA k s.heap l xs)(hQ:Q ↥s.heap.objs.size { s with heap:=s.heap.push (BD k l) }):wpAny (model prog w) A (pyIter ↥l) Q E s:=by
 cases k
 ·exact wpAny_pyIter_tuple h hQ
 ·exact wpAny_pyIter_list h hQ
structure BE(k:Bool)(h:Heap)(z TI TO i1 i2 l1 l2:Addr)(n:Nat):Prop where
 z:IsZip h z TI TO .none
 ti:IsPair h TI ↥i1 ↥i2
 to:∃ a b,IsPair h TO a b
 i1:G7 k h i1 l1 n
 i2:G7 k h i2 l2 n
theorem Ll{k:Bool}{z TI TO i1 i2 l1 l2:Addr}{n:Nat}{xs ys:Array Value}{x y:Value}{Q:Value->Shared->Prop}(D:ZipApart z TI TO i1 i2 l1 l2)(st:BE k s.heap z TI TO i1 i2 l1 l2 n)
  (HU:AA k s.heap l1 xs) (C0:AA k s.heap l2 ys) (hx:xs[n]?=⇑x) (hy:ys[n]?=⇑y)
  (hQ:∀ h',IsZip h' z TI TO (rawInt s.heap.objs.size)->IsPair h' TO x y->G7 k h' i1 l1 (n+1)->G7 k h' i2 l2 (n+1)->IsPair h' s.heap.objs.size x y->
   (∀ c o,c≠z->c≠TO->c≠i1->c≠i2->s.heap.get? c=⇑o->h'.get? c=⇑o)->Q ↥s.heap.objs.size { s with heap:=h' }) :
  wpAny (model prog w) A (Builtin.«zip.__next__» ⟨[↥z],[]⟩) (λiH s'=>∃ v,iH=.done (.ret v)/\Q v s') E s:=by
 let⟨hz,hTI,⟨a,b,hTO⟩,h1,h2⟩:=st;show wpAny _ _ (field ↥z 2 >>= _) _ _ _;refine wpAny_bind (wpAny_field hz rfl (x:=.bool false) rfl ?_);show wpAny _ _ (field ↥z 3 >>= _) _ _ _;refine wpAny_bind (wpAny_field hz rfl (x:=↥TI) rfl (wpAny_bind (wpAny_seqItems hTI rfl ?_)));show wpAny _ _ (Builtin.SmallTypes.ownedTupleIsFree ↥z >>= _) _ _ _;refine wpAny_bind ?_;unfold Builtin.SmallTypes.ownedTupleIsFree;refine wpAny_bind (wpAny_field hz rfl (x:=.none) rfl (wpAny_pure ?_));simp only[if_true];refine wpAny_bind (wpAny_rule (wpAny_bind (wpAny_field hz rfl (x:=↥TO) rfl (wpAny_bind (wpAny_setField_rec hz (by simp) λg1 z1 c1=>?_)))))
 replace z1:IsZip g1 z TI TO .ellipsis:=z1
 refine wpAny_bind ?_;simp only[List.zipIdx_cons,List.zipIdx_nil,List.forIn_cons,List.forIn_nil];refine wpAny_bind (wpAny_bind (wpAny_onRaise ?_));show wpAny _ _ (Builtin.SmallTypes.nextOf ↥i1 >>= _) _ _ _;refine wpAny_bind (tR (h1.at λo e=>c1.extBut _ _ D.i1z e) (HU.at λo e=>c1.extBut _ _ D.l1z e) hx λg2 TF c2=>wpAny_pure ?_);have o2:IsPair g2 TO a b:=c2.extBut _ _ D.TOi1 (c1.extBut _ _ D.TOz hTO);refine wpAny_bind (wpAny_seqItems o2 rfl (wpAny_bind (wpAny_updateSeq_pair o2 λg3 o3 c3=>?_)))
 replace o3:IsPair g3 TO x b:=o3
 refine wpAny_bind (wpAny_letGo (wpAny_pure (wpAny_bind (wpAny_bind (wpAny_onRaise ?_)))));show wpAny _ _ (Builtin.SmallTypes.nextOf ↥i2 >>= _) _ _ _;refine wpAny_bind (tR (((h2.at λo e=>c1.extBut _ _ D.i2z e).at λo e=>c2.extBut _ _ D.i12.symm e).at λo e=>c3.extBut _ _ D.TOi2.symm e) (((C0.at λo e=>c1.extBut _ _ D.l2z e).at λo e=>c2.extBut _ _ D.l2i1 e).at λo e=>c3.extBut _ _ D.l2TO e) hy λg4 h24 c4=>wpAny_pure ?_);have o4:IsPair g4 TO x b:=c4.extBut _ _ D.TOi2 o3;refine wpAny_bind (wpAny_seqItems o4 rfl (wpAny_bind (wpAny_updateSeq_pair o4 λg5 o5 c5=>?_)))
 replace o5:IsPair g5 TO x y:=o5
 refine wpAny_bind (wpAny_letGo (wpAny_pure (wpAny_pure (wpAny_bind (wpAny_seqItems o5 rfl (wpAny_bind (wpAny_newTuple ?_)))))));have sz:g5.objs.size=s.heap.objs.size:=by rw[c5.1,c4.1,c3.1,c2.1,c1.1]
 have z5:IsZip g5 z TI TO .ellipsis:=c5.extBut _ _ D.TOz.symm (c4.extBut _ _ D.i2z.symm (c3.extBut _ _ D.TOz.symm (c2.extBut _ _ D.i1z.symm z1)));have k5:∀ c o,c≠z->c≠TO->c≠i1->c≠i2->s.heap.get? c=⇑o->g5.get? c=⇑o:=λc o n1 n2 n3 n4 e=>c5.extBut _ _ n2 (c4.extBut _ _ n4 (c3.extBut _ _ n2 (c2.extBut _ _ n3 (c1.extBut _ _ n1 e))));have h15:G7 k g5 i1 l1 (n+1):=((TF.at λo e=>c3.extBut _ _ D.TOi1.symm e).at λo e=>c4.extBut _ _ D.i12 e).at λo e=>c5.extBut _ _ D.TOi1.symm e;have h25:G7 k g5 i2 l2 (n+1):=h24.at λo e=>c5.extBut _ _ D.TOi2.symm e;have zlt:z<g5.objs.size:=Heap.lt_size z5;show wpAny _ _ (Builtin.SmallTypes.ownedTupleHandOut ↥z ↥g5.objs.size >>= _) _ _ _;refine wpAny_bind ?_;unfold Builtin.SmallTypes.ownedTupleHandOut;have z6:IsZip (g5.push { cls:=.type "tuple",data:=.seq #[x,y] }) z TI TO .ellipsis:=Heap.get?_push_of_some _ z5;refine wpAny_bind (wpAny_setField_rec z6 (by simp) λg7 z7 c7=>?_)
 replace z7:IsZip g7 z TI TO (rawInt g5.objs.size):=z7
 refine wpAny_setField_rec z7 (by simp) λg8 z8 c8=>?_
 replace z8:IsZip g8 z TI TO (rawInt g5.objs.size):=z8
 have up:∀ c o,c≠z->g5.get? c=⇑o->g8.get? c=⇑o:=λc o n1 e=>c8.extBut _ _ n1 (c7.extBut _ _ n1 (Heap.get?_push_of_some _ e));have t8:IsPair g8 g5.objs.size x y:=c8.extBut _ _ (Nat.ne_of_gt zlt) (c7.extBut _ _ (Nat.ne_of_gt zlt) (Heap.get?_push_size _ rfl));rw[sz]at z8 t8;refine wpAny_pure ⟨Y,?_⟩;show Q ↥g5.objs.size _;rw[sz];exact hQ g8 z8 (up _ _ D.TOz o5) (h15.at λo e=>up _ o D.i1z e) (h25.at λo e=>up _ o D.i2z e) t8 λc o n1 n2 n3 n4 e=>up c o n1 (k5 c o n1 n2 n3 n4 e)
theorem NV{k:Bool}{z TI TO i1 i2 l1 l2:Addr}{n:Nat}{xs ys:Array Value}{Q:Fin->Shared->Prop}(hh:A.handled=none)(D:ZipApart z TI TO i1 i2 l1 l2)(st:BE k s.heap z TI TO i1 i2 l1 l2 n)
  (HU:AA k s.heap l1 xs) (C0:AA k s.heap l2 ys) (U9:xs[n]?=none\/ys[n]?=none)
  (hE:∀ h' e,(∀ c o,c≠z->c≠TO->c≠i1->c≠i2->s.heap.get? c=⇑o->h'.get? c=⇑o)->(∃ o,h'.get? e=⇑o/\o.cls=.type "StopIteration")->E ↥e { s with heap:=h' }) :
  wpAny (model prog w) A (Builtin.«zip.__next__» ⟨[↥z],[]⟩) Q E s:=by
 let⟨hz,hTI,⟨a,b,hTO⟩,h1,h2⟩:=st;show wpAny _ _ (field ↥z 2 >>= _) _ _ _;refine wpAny_bind (wpAny_field hz rfl (x:=.bool false) rfl ?_);show wpAny _ _ (field ↥z 3 >>= _) _ _ _;refine wpAny_bind (wpAny_field hz rfl (x:=↥TI) rfl (wpAny_bind (wpAny_seqItems hTI rfl ?_)));show wpAny _ _ (Builtin.SmallTypes.ownedTupleIsFree ↥z >>= _) _ _ _;refine wpAny_bind ?_;unfold Builtin.SmallTypes.ownedTupleIsFree;refine wpAny_bind (wpAny_field hz rfl (x:=.none) rfl (wpAny_pure ?_));simp only[if_true];refine wpAny_bind (wpAny_rule (wpAny_bind (wpAny_field hz rfl (x:=↥TO) rfl (wpAny_bind (wpAny_setField_rec hz (by simp) λg1 z1 c1=>?_)))))
 replace z1:IsZip g1 z TI TO .ellipsis:=z1
 refine wpAny_bind ?_;simp only[List.zipIdx_cons,List.zipIdx_nil,List.forIn_cons,List.forIn_nil];refine wpAny_bind (wpAny_bind (wpAny_onRaise ?_));show wpAny _ _ (Builtin.SmallTypes.nextOf ↥i1 >>= _) _ _ _
 cases hx:xs[n]? with
 | none =>
  refine wpAny_bind (BC hh (h1.at λo e=>c1.extBut _ _ D.i1z e) (HU.at λo e=>c1.extBut _ _ D.l1z e) hx λg2 e c2 he=>?_);let⟨oe,Va,hce⟩:=he;have z2:IsZip g2 z TI TO .ellipsis:=c2 _ _ D.i1z.symm z1;have hez:e≠z:=λx=>by subst x;rw[z2]at Va;cases Va;simp at hce
  exact wpAny_setField_rec z2 (by simp) λg3 _ c3=>hE g3 e (λc o n1 _ n3 _ x=>c3.extBut _ _ n1 (c2 _ _ n3 (c1.extBut _ _ n1 x))) ⟨oe,c3.extBut _ _ hez Va,hce⟩
 | some x =>
  have hy:ys[n]?=none:=by rcases U9 with h|h;(rw[hx]at h;cases h);exact h
  refine wpAny_bind (tR (h1.at λo e=>c1.extBut _ _ D.i1z e) (HU.at λo e=>c1.extBut _ _ D.l1z e) hx λg2 TF c2=>wpAny_pure ?_);have o2:IsPair g2 TO a b:=c2.extBut _ _ D.TOi1 (c1.extBut _ _ D.TOz hTO);refine wpAny_bind (wpAny_seqItems o2 rfl (wpAny_bind (wpAny_updateSeq_pair o2 λg3 o3 c3=>?_)));refine wpAny_bind (wpAny_letGo (wpAny_pure (wpAny_bind (wpAny_bind (wpAny_onRaise ?_)))));show wpAny _ _ (Builtin.SmallTypes.nextOf ↥i2 >>= _) _ _ _;refine wpAny_bind (BC hh (((h2.at λo e=>c1.extBut _ _ D.i2z e).at λo e=>c2.extBut _ _ D.i12.symm e).at λo e=>c3.extBut _ _ D.TOi2.symm e) (((C0.at λo e=>c1.extBut _ _ D.l2z e).at λo e=>c2.extBut _ _ D.l2i1 e).at λo e=>c3.extBut _ _ D.l2TO e) hy λg4 e c4 he=>?_);let⟨oe,Va,hce⟩:=he;have z4:IsZip g4 z TI TO .ellipsis:=c4 _ _ D.i2z.symm (c3.extBut _ _ D.TOz.symm (c2.extBut _ _ D.i1z.symm z1));have hez:e≠z:=λx=>by subst x;rw[z4]at Va;cases Va;simp at hce
  exact wpAny_setField_rec z4 (by simp) λg5 _ c5=>hE g5 e (λc o n1 n2 n3 n4 x=>c5.extBut _ _ n1 (c4 _ _ n4 (c3.extBut _ _ n2 (c2.extBut _ _ n3 (c1.extBut _ _ n1 x))))) ⟨oe,c5.extBut _ _ hez Va,hce⟩
theorem HV{k:Bool}{z TI TO i1 i2 l1 l2:Addr}{n:Nat}{xs ys:Array Value}{x y:Value}{Q:Option Value->Shared->Prop}(D:ZipApart z TI TO i1 i2 l1 l2)(st:BE k s.heap z TI TO i1 i2 l1 l2 n)
  (HU:AA k s.heap l1 xs) (C0:AA k s.heap l2 ys) (hx:xs[n]?=⇑x) (hy:ys[n]?=⇑y)
  (hQ:∀ h',IsZip h' z TI TO (rawInt s.heap.objs.size)->IsPair h' TO x y->G7 k h' i1 l1 (n+1)->G7 k h' i2 l2 (n+1)->IsPair h' s.heap.objs.size x y->
   (∀ c o,c≠z->c≠TO->c≠i1->c≠i2->s.heap.get? c=⇑o->h'.get? c=⇑o)->Q (⇑↥s.heap.objs.size) { s with heap:=h' }):wpAny (model prog w) A (pyNext ↥z) Q E s:=by
 have hT:s.TypeIs ↥z "zip":=⟨_,st.z,rfl⟩;unfold pyNext;exact wpAny_bind (wpAny_attempt (wpAny_callSpecial?_slot (name:=Str.ofString "__next__") hT F.slot_zip_next (wpAny_call_entry F.slot_zip_next hT F.entry_zip_next (Ll D st HU C0 hx hy λh' a1 a2 a3 a4 a5 a7=>wpAny_pure (hQ h' a1 a2 a3 a4 a5 a7)) (F.args_zip_next_1 _))))
theorem Lm{k:Bool}{z TI TO i1 i2 l1 l2:Addr}{n:Nat}{xs ys:Array Value}{Q:Option Value->Shared->Prop}(hh:A.handled=none)(D:ZipApart z TI TO i1 i2 l1 l2)(st:BE k s.heap z TI TO i1 i2 l1 l2 n)
  (HU:AA k s.heap l1 xs) (C0:AA k s.heap l2 ys) (U9:xs[n]?=none\/ys[n]?=none)
  (hQ:∀ h',(∀ c o,c≠z->c≠TO->c≠i1->c≠i2->s.heap.get? c=⇑o->h'.get? c=⇑o)->Q none { s with heap:=h' }):wpAny (model prog w) A (pyNext ↥z) Q E s:=by
 have hT:s.TypeIs ↥z "zip":=⟨_,st.z,rfl⟩;unfold pyNext;refine wpAny_bind (wpAny_attempt (wpAny_callSpecial?_slot (name:=Str.ofString "__next__") hT F.slot_zip_next (wpAny_call_entry F.slot_zip_next hT F.entry_zip_next (NV hh D st HU C0 U9 λh' e hk he=>?_) (F.args_zip_next_1 _))));let⟨o,ho,hc⟩:=he;exact wpAny_bind (wpAny_isInstance (T:="StopIteration") (b:=true) ⟨o,ho,hc⟩ isSubtype_stop (wpAny_pure (hQ _ hk)))
end
abbrev zH1(k:Bool)(h:Heap)(l1:Addr):Heap:=h.push (BD k l1)
abbrev zH2(k:Bool)(h:Heap)(l1 l2:Addr):Heap:=(zH1 k h l1).push (BD k l2)
abbrev zH3(k:Bool)(h:Heap)(l1 l2:Addr):Heap:=(zH2 k h l1 l2).push { cls:=.type "tuple",data:=.seq #[↥h.objs.size,.ref (zH1 k h l1).objs.size] }
abbrev zH4(k:Bool)(h:Heap)(l1 l2:Addr):Heap:=(zH3 k h l1 l2).push { cls:=.type "tuple",data:=.seq #[.none,.none] }
abbrev Xg(k:Bool)(h:Heap)(l1 l2:Addr):Heap:=(zH4 k h l1 l2).push { cls:=.type "zip",data:=.fields #[.none,.bool false,.bool false,.ref (zH2 k h l1 l2).objs.size,.ref (zH3 k h l1 l2).objs.size] }
theorem HW(k:Bool)(l1 l2:Addr)(xs ys:Array Value) :
  Meets (Builtin.«zip.__new__» ⟨[.type "zip",↥l1,↥l2],[]⟩) (λ_ R s=>AA k s.heap l1 xs/\AA k s.heap l2 ys/\R (.ok (.ret (.ref (zH4 k s.heap l1 l2).objs.size))) { s with heap:=Xg k s.heap l1 l2 }) :=
 .of_wp λprog w A R s h=>by
  let⟨hp,g,d,tk,os⟩:=s;let⟨HU,C0,h⟩:=h;have hsub:=sub_zip;have hL1:AA k (Shared.heap ⟨hp,g,d,tk,os⟩) l1 xs:=HU;have hL2:AA k (Shared.heap ⟨hp.push (BD k l1),g,d,tk,os⟩) l2 ys:=C0.at λo e=>Heap.get?_push_of_some _ e
  wp_walk using Tz hL1,Tz hL2
  exact⟨Y,h⟩
section
variable {prog:Program} {w:World} {A:Around} {E:Value->Shared->Prop} {s:Shared}
theorem Ln{k:Bool}{l1 l2:Addr}{xs ys:Array Value}{Q:Value->Shared->Prop}(HU:AA k s.heap l1 xs)(C0:AA k s.heap l2 ys)
  (h:∀ h',BE k h' (s.heap.objs.size+4) (s.heap.objs.size+2) (s.heap.objs.size+3) s.heap.objs.size (s.heap.objs.size+1) l1 l2 0->(∀ c o,s.heap.get? c=⇑o->h'.get? c=⇑o)->Q (.ref (s.heap.objs.size+4)) { s with heap:=h' }) :
  wpAny (model prog w) A (call (.type "zip") [↥l1,↥l2]) Q E s:=by
 refine callType_new F.called_zip (by decide) (F.typeCall_zip_2 _ _) (F.newCall_zip_2 _ _) (λobj=>F.args_object_init_3 obj _ _) F.entry_zip_new (HW k l1 l2 xs ys) ⟨HU,C0,?_⟩;have z1:(zH1 k s.heap l1).objs.size=s.heap.objs.size+1:=Heap.size_push ..;have z2:(zH2 k s.heap l1 l2).objs.size=s.heap.objs.size+2:=by rw[Heap.size_push,z1]
 have z3:(zH3 k s.heap l1 l2).objs.size=s.heap.objs.size+3:=by rw[Heap.size_push,z2]
 have z4:(zH4 k s.heap l1 l2).objs.size=s.heap.objs.size+4:=by rw[Heap.size_push,z3]
 have g5:(Xg k s.heap l1 l2).get? (zH4 k s.heap l1 l2).objs.size=⇑_:=Heap.get?_push_size _ rfl;have g4:(Xg k s.heap l1 l2).get? (zH3 k s.heap l1 l2).objs.size=⇑_:=Heap.get?_push_of_some _ (Heap.get?_push_size _ rfl);have g3:(Xg k s.heap l1 l2).get? (zH2 k s.heap l1 l2).objs.size=⇑_:=Heap.get?_push_of_some _ (Heap.get?_push_of_some _ (Heap.get?_push_size _ rfl));have g2:(Xg k s.heap l1 l2).get? (zH1 k s.heap l1).objs.size=⇑(BD k l2):=Heap.get?_push_of_some _ (Heap.get?_push_of_some _ (Heap.get?_push_of_some _ (Heap.get?_push_size _ rfl)));have g1:(Xg k s.heap l1 l2).get? s.heap.objs.size=⇑(BD k l1):=Heap.get?_push_of_some _ (Heap.get?_push_of_some _ (Heap.get?_push_of_some _ (Heap.get?_push_of_some _ (Heap.get?_push_size _ rfl))));show _/\_;rw[z2,z3,z4]at g5;rw[z1,z2]at g3;rw[z3]at g4;rw[z1]at g2;rw[z4];refine⟨⟨_,g5,rfl⟩,h _ ⟨g5,g3,⟨Q,g4⟩,?_,?_⟩ λc o x=>Heap.get?_push_of_some _ (Heap.get?_push_of_some _ (Heap.get?_push_of_some _ (Heap.get?_push_of_some _ (Heap.get?_push_of_some _ x))))⟩
 ·cases k
  ·exact⟨_,g1,V⟩
  ·exact⟨_,g1,V⟩
 ·cases k
  ·exact⟨_,g2,V⟩
  ·exact⟨_,g2,V⟩
end
def JX(K:PySem.W.Frag)(k:Bool)(H:Hp)(a:Addr)(xs:List V):Prop:=match k with
 | true=>bG K H a xs
 | false=>dN K H a xs
def we{X:Cx}{σ:L2.St}{H:Hp}{s:Shared}{k:Bool}{a:Addr}{xs:List V}(I:Inv X ak σ H s)(h:JX X.K k H a xs):∃ aQ:List Value,bZ xs aQ/\AA k s.heap a aQ.toArray/\↑xs<=sizeLine:=by
 cases k
 ·let⟨aQ,r,p,z⟩:=I.tuple h;exact⟨aQ,r,p,z⟩
 ·let⟨aQ,r,p,z⟩:=I.list h;exact⟨aQ,r,p.isList,z⟩
def JY{X:Cx}{σ:L2.St}{H:Hp}{s:Shared}{k:Bool}{a:Addr}{xs ys:List V}(I:Inv X ak σ H s)(h:JX X.K k H a xs)(h':JX X.K k H a ys):xs=ys:=by
 cases k
 ·exact I.Bm h h'
 ·exact I.ES h h'
def NW{k:Bool}{h:Heap}{a:Addr}{xs:Array Value}(x:AA k h a xs):a<h.objs.size:=by
 cases k
 ·let⟨o,ho,_⟩:=x;exact Heap.lt_size ho
 ·let⟨o,ho,_⟩:=x;exact Heap.lt_size ho
def YA(K:PySem.W.Frag)(k:Bool)(a1 a2:Addr):It :=
 ⟨λi H=>∃ xs ys x y,JX K k H a1 xs/\JX K k H a2 ys/\xs[i]?=⇑x/\ys[i]?=⇑y,λi H v H'=>∃ p x y,H p=none/\v=↥p/\H'=aO H p (.tup [x,y])/\(∀ xs,JX K k H a1 xs->xs[i]?=⇑x)/\∀ ys,JX K k H a2 ys->ys[i]?=⇑y,λi H=>∃ xs ys,JX K k H a1 xs/\JX K k H a2 ys/\(↑xs<=i\/↑ys<=i)⟩
theorem NY{P:Program}{w:World}{K:PySem.W.Frag}{x1:Nat}{k:Bool}{z TI TO i1 i2 l1 l2:Addr}(D:ZipApart z TI TO i1 i2 l1 l2) :
  Hs P w K (.Tuple Vb x1 Lb) (YA K k l1 l2) [z,TI,TO,i1,i2] z (λi h=>BE k h z TI TO i1 i2 l1 l2 i) where
 mem:=by simp
 obj:=λi h st b hb=>by
  let⟨hz,hTI,⟨a,c,hTO⟩,h1,h2⟩:=st;simp only[List.mem_cons,List.not_mem_nil,or_false]at hb;rcases hb with rfl|rfl|rfl|rfl|rfl
  ·exact⟨_,hz,λv e=>by cases e⟩
  ·exact⟨_,hTI,λv e=>by cases e⟩
  ·exact⟨_,hTO,λv e=>by cases e⟩
  ·exact h1.obj
  ·exact h2.obj
 keep:=λi h h' st kk=>by
  let⟨hz,hTI,⟨a,c,hTO⟩,h1,h2⟩:=st;exact⟨kk z (by simp) _ hz,kk TI (by simp) _ hTI,⟨a,c,kk TO (by simp) _ hTO⟩,h1.at λo e=>kk i1 (by simp) o e,h2.at λo e=>kk i2 (by simp) o e⟩
 item:=by
  intro X hP hw hK hc i ak s σ H E I hf st hg;subst hP hw hK;let⟨xs,ys,x,y,q1,q2,e1,e2⟩:=hg;let⟨us,r1,p1,_⟩:=we I q1;let⟨vs,r2,p2,_⟩:=we I q2;let⟨u,eu,ru⟩:=r1.get e1;let⟨v,ev,rv⟩:=r2.get e2;refine HV (x:=u) (y:=v) D st p1 p2 (by simpa using eu) (by simpa using ev) λh' g1 g2 g3 g4 g5 g7=>?_;refine⟨Y,wpAny_letOwnedTupleGo_zip g1 λh2 hz2 c2=>?_⟩;have ne:∀ {b o},s.heap.get? b=⇑o->s.heap.objs.size≠b:=λe=>Nat.ne_of_gt (Heap.lt_size e)
  have k2:∀ b o,b∉[z,TI,TO,i1,i2]->s.heap.get? b=⇑o->h2.get? b=⇑o:=λb o hb e=>by
   simp only[List.mem_cons,List.not_mem_nil,or_false,not_or]at hb;exact c2.extBut _ _ hb.1 (g7 b o hb.1 hb.2.2.1 hb.2.2.2.1 hb.2.2.2.2 e)
  have I2:Inv X ak σ (aO H s.heap.objs.size (.tup [x,y])) { s with heap:=h2,toks:=s.toks } := Yz I k2 hf (fK _) (by show 2<=sizeLine;decide) (.cons ru (.cons rv .nil)) ⟨_,c2.extBut _ _ (ne st.z) g5,rfl,Y⟩;refine⟨↥s.heap.objs.size,_,I2,rfl,⟨_,x,y,I.hok.fresh (fK _),V,λxs' q=>?_,λys' q=>?_⟩,?_,λb hb=>?_⟩
  ·rw[JY I q q1];exact e1
  ·rw[JY I q q2];exact e2
  ·exact⟨hz2,c2.extBut _ _ D.TIz (g7 _ _ D.TIz D.TITO D.TIi1 D.TIi2 st.ti),⟨u,v,c2.extBut _ _ D.TOz g2⟩,g3.at λo e=>c2.extBut _ _ D.i1z e,g4.at λo e=>c2.extBut _ _ D.i2z e⟩
  ·have pJ:∃ o,s.heap.get? b=⇑o:=by
    let⟨hz,hTI,⟨a,c,hTO⟩,h1,h2⟩:=st;simp only[List.mem_cons,List.not_mem_nil,or_false]at hb;rcases hb with rfl|rfl|rfl|rfl|rfl
    ·exact⟨_,hz⟩
    ·exact⟨_,hTI⟩
    ·exact⟨_,hTO⟩
    ·exact h1.obj.imp λ_ e=>e.1
    ·exact h2.obj.imp λ_ e=>e.1
   let⟨o,e⟩:=pJ;rw[aK (ne e).symm];exact (hf b hb).1
 done:=by
  intro X hP hw hK hc i ak s σ H E I hf st hg;subst hP hw hK;let⟨xs,ys,q1,q2,e⟩:=hg;let⟨us,r1,p1,_⟩:=we I q1;let⟨vs,r2,p2,_⟩:=we I q2;have l1:=↑r1;have l2:=↑r2;refine Lm (I.ok.hd hc) D st p1 p2 (e.imp (λe=>by simp;lia) (λe=>by simp;lia)) λh' kk=>⟨rfl,Q4 (t':=s.toks) (ch:=[z,TI,TO,i1,i2]) I (λb o hb e=>?_) hf⟩;simp only[List.mem_cons,List.not_mem_nil,or_false,not_or]at hb;exact kk b o hb.1 hb.2.2.1 hb.2.2.2.1 hb.2.2.2.2 e
 self:=λ_ _ _ _ _ st h=>wpAny_pyIter_zip st.z h
def acQ(K:PySem.W.Frag)(ta:TA):TI:=fun σ H R=>ta σ H λvs H1=>∃ k a1 a2 xs ys,vs=[↥a1,↥a2]/\JX K k H1 a1 xs/\JX K k H1 a2 ys/\R (YA K k a1 a2) H1
theorem Vc{X:Cx}{x1:Nat}{a b:Expr}{ta:TA}{p:Pos}(hg:Gl X "zip")(hm:X.mg "zip"=none)(ha:PA X [a,b] ta)
  (hs:starEach [a,b] X.env=[(false,eval a X.env),(false,eval b X.env)]:=by rfl) (G6:starEach [b] X.env=[(false,eval b X.env)]:=by rfl):PI X (.Tuple Vb x1 Lb) (.Call (.Name "zip" p) [a,b] [] pos) (acQ X.K ta):=by
 intro ak s σ H R I h;refine Call_ (vN I hg hm boot_zip (PyProof.Rows.callWith_type1 (cL (ha pos ak s σ H _ I h) λus s1 ⟨vs,H1,I1,r1,q1⟩=>?_) (by rw[hs,G6]) (by rw[G6];rfl)));let⟨k,a1,a2,xs,ys,e,q1,q2,q⟩:=q1;subst e;let⟨u1,u2,rfl,e1,e2⟩:=r1.two;cases (show u1=Value.ref a1 from e1);cases (show u2=Value.ref a2 from e2);let⟨us,rr1,p1,_⟩:=we I1 q1;let⟨ws,rr2,p2,_⟩:=we I1 q2;have b1:=NW p1;have b2:=NW p2;refine Ln p1 p2 λh' st kk=>wpAny_pyIter_zip st.z ?_;have I2:Inv X ak σ H1 { s1 with heap:=h',toks:=s1.toks }:=I1.kept kk;refine⟨K,_,H1,rfl,I2,NY (zipApart_new b1 b2),st,λb hb=>?_,q⟩
 have hb':s1.heap.objs.size<=b:=by
  simp only[List.mem_cons,List.not_mem_nil,or_false]at hb;rcases hb with rfl|rfl|rfl|rfl|rfl
  ·exact Nat.le_add_right _ _
  ·exact Nat.le_add_right _ _
  ·exact Nat.le_add_right _ _
  ·exact fK _
  ·exact Nat.le_add_right _ _
 exact I1.KU hb' (I1.hok.fresh hb')
theorem Q5{K:PySem.W.Frag}{k:Bool}{a1:Addr}{xs ys:List V}{g:TG}{tb:TS}{D:Ends}{σ:L2.St}{H:Hp}(Pv:Nat->L2.St->Hp->Prop)(hn:↑xs=↑ys)(h0:Pv 0 σ H)
  (hl:∀ i σ H,i<=↑xs->Pv i σ H->JX K k H a1 xs/\JX K k H a2 ys)
  (hs:∀ i x y p σ H,xs[i]?=⇑x->ys[i]?=⇑y->H p=none->Pv i σ H->g ↥p σ (aO H p (.tup [x,y])) fun σ2 H2=>tb { D with nx:=Pv (i+1),ct:=Pv (i+1),bk:=D.nx } σ2 H2) (hd:∀ σ H,Pv ↑xs σ H->D.nx σ H) :
  ∃ W:Nat->Nat->L2.St->Hp->Prop,(∃ m,W 0 m σ H)/\∀ i m σ H,W i m σ H->
   ((YA K k a1 a2).stop i H/\D.nx σ H)\/((YA K k a1 a2).go i H/\∃ N:L2.St->Hp->Prop,(∀ σ' H',N σ' H'->∃ m',m'<m/\W (i+1) m' σ' H')/\∀ x H',(YA K k a1 a2).Nb i H x H'->g x σ H' fun σ2 H2=>tb { D with nx:=N,ct:=N,bk:=D.nx } σ2 H2):=by
 refine⟨λi m σ H=>m=↑xs-i/\i<=↑xs/\Pv i σ H,⟨↑xs,by simp,Nat.zero_le _,h0⟩,?_⟩;rintro i m σ H ⟨rfl,hi,p⟩;let⟨q1,q2⟩:=hl i σ H hi p;by_cases pJ:i<↑xs
 ·have acR:i<↑ys:=by lia
  refine .inr ⟨⟨xs,ys,xs[i],ys[i],q1,q2,by simp[pJ],by simp[acR]⟩,Pv (i+1),fun σ' H' p'=>⟨↑xs-(i+1),E,rfl,pJ,p'⟩,λx H' y=>?_⟩;let⟨a,x',y',hn',rfl,rfl,e1,e2⟩:=y;exact hs i x' y' a σ _ (e1 xs q1) (e2 ys q2) hn' p
 ·have e:i=↑xs:=by lia
  subst e;exact .inl ⟨⟨xs,ys,q1,q2,.inl (fK _)⟩,hd σ H p⟩
def BF(lo:Int)(n:Nat):List V:=(List.range n).map λi:Nat=>V.int (lo+i)
section
variable {X:Cx}
def E5:jF X (.type "range") (λxs H Q=>∃ i j:Int,xs=[.int i,.int j]/\∀ p,H p=none->Q ↥p (aO H p (.Ez i j))):=by
 intro ak s σ H xs us Q I r h;let⟨i,j,rfl,q⟩:=h;let⟨u1,u2,rfl,⟨t,rfl⟩,⟨t',rfl⟩⟩:=r.two;refine call_range_2 ⟨↥s.heap.objs.size,_,I.laid (o:=.Ez i j) (λb o e=>Heap.get?_push_of_some _ e) (fK _) ⟨t,t',s.toks,Heap.get?_push_size _ rfl⟩,rfl,q _ (I.hok.fresh (fK _))⟩
theorem su(hc:X.calm=true):jF X (.type "list") (λxs H Q=>∃ p i j,xs=[↥p]/\H p=⇑(.Ez i j)/\(-(2^62)<=i/\i<2^62/\-(2^62)<=j/\j<2^62)/\(j-i).toNat<=sizeLine/\
  ∀ l,H l=none->Q ↥l (aO H l (.lst (BF i (j-i).toNat)))):=by
 intro ak s σ H xs us Q I r h;let⟨p,i,j,rfl,hp,⟨b1,b2,b3,b4⟩,hz,q⟩:=h;let⟨u,rfl,rx⟩:=r.one;cases (show u=Value.ref p from rx);let⟨t,u,v,e⟩:=(show fF X.prog X.w H s.heap p (.Ez i j) from I.hok p _ hp)
 have e2:Builtin.Range.rangeSize i j 1=(((j-i).toNat:Nat):Int):=by rw[rangeSize_one];split <;> lia
 have hz':(j-i).toNat<=2^24:=by have:=sizeLine_eq;lia
 refine call_list_range (I.ok.hd hc) e (small_one b1 b2 b3 b4) e2 hz' λh' tk pX c' hk hS cu=>?_;refine⟨↥s.heap.objs.size,_,I.laid (o:=.lst (BF i (j-i).toNat)) (t':=tk) hk (fK _) ⟨?_,pX.toList,c',?_,by simpa using hS⟩,rfl,q _ (I.hok.fresh (fK _))⟩
 ·unfold BF;simpa using hz
 ·have hl:↑pX.toList=(j-i).toNat:=by simpa using cu.1
  have key:∀ (n:Nat) (us:List Value) (lo:Int),↑us=n->(∀ k v,us[k]?=⇑v->∃ t,v=Value.int (lo+(k:Nat)*1) t)->bZ ((List.range n).map λi:Nat=>V.int (lo+i)) us:=by
   intro n
   induction n with
   | zero=>intro us lo hl _;cases us with
    | nil=>exact .nil
    | cons=>simp at hl
   | succ n ih =>
    intro us lo hl hv
    cases us with
    | nil=>simp at hl
    | cons u us =>
     rw[List.range_succ_eq_map,jh,List.map_map];refine .cons ?_ ?_
     ·let⟨t,e⟩:=hv 0 u rfl;exact⟨t,by rw[e];simp⟩
     ·have:=ih us (lo+1) (by simpa using hl) λk v e=>by
       let⟨t,e'⟩:=hv (k+1) v (by simpa using e);exists t;rw[e'];have:lo+((k+1:Nat):Int)*1=lo+1+(k:Int)*1:=by lia
       rw[this]
      have e3:((λi:Nat=>V.int (lo+i)) ∘ Nat.succ)=λi:Nat=>V.int (lo+1+i):=by
       funext i;simp only[Function.comp,Nat.succ_eq_add_one];have:lo+((i+1:Nat):Int)=lo+1+(i:Int):=by lia
       rw[this]
      rw[e3];exact this
  exact key _ _ i hl λk v e=>cu.2 k v (by simpa using e)
end
section
variable {X:Cx}
def NZ{j:Int}(h0:0<j)(h1:j<10^70):j.natAbs.log2<9000:=by
 have h:j.natAbs<2^9000:=Nat.lt_trans (show j.natAbs<10^70 by lia) nofun;exact (Nat.log2_lt ∅).mpr h
theorem ze:sV X (binaryOp .FloorDiv) (rI (λ_ j=>0<j/\j<10^70) λi j=>.int (i / j)):=opI λi j _ _ _ _ _ hc q=>by
 have h1:(0:Int)<j:=hc.1;exact floordiv_int ∅ (by rw[Int.fdiv_eq_ediv_of_nonneg i ∅];exact q) (.inl (PyProof.noPylong_of_log2 (NZ hc.1 hc.2)))
def E6(hc:X.calm=true):jF X (.builtin "sum") (λxs H Q=>∃ (p:Addr) (ns:List Int),xs=[↥p]/\bG X.K H p (ns.map V.int)/\Q (.int ns.sum) H):=by
 intro ak s σ H xs us Q I r h;let⟨p,ns,rfl,hq,q⟩:=h;let⟨u,rfl,rx⟩:=r.one;cases (show u=Value.ref p from rx);let⟨aQ,rv,pl,hz⟩:=I.list hq;have hi:IntsAre aQ ns:=intsAre_of rv;have NI:AllInts aQ.toArray:=hi.allInts;let⟨zs,ez⟩:=NI.items;have hl:=pl.isList;have es:(numsOf aQ.toArray.toList).sum=ns.sum:=by rw[show aQ.toArray.toList=aQ from rfl,hi.numsOf]
 rw[ez]at hl es;rw[nums_intItems]at es;refine PySem.sum_intListG (I.ok.hd hc) hl λh' tk t' hk=>⟨.int ns.sum,H,I.kept hk,⟨t',?_⟩,q⟩;rw[preSum_eq,yM (by simp),es]
end
end cD
namespace fV
abbrev Row:=List (Int × Int)
def iV(t:Row)(s e:Int):Row :=
 match t.getLast? with
 | some p=>if p.2=s then t.dropLast++[(p.1,e)] else t++[(s,e)]
 | none=>t++[(s,e)]
def cY(t:Row)(p:Int × Int):Row:=if p.1=p.2 then t else iV t p.1 p.2
def cB(r:Row):Row:=r.foldl cY []
def run(s:Int):Nat->List Int
 | 0=>[]
 | n+1=>s::run (s+1) n
def fE(p:Int × Int):List Int:=run p.1 (p.2-p.1).toNat
def bI(r:Row):List Int:=r.flatMap fE
def cR(ns:List Int):Row:=ns.foldl (λt n=>iV t n (n+1)) []
def gA(s:Int)(n:Nat):↑(run s n)=n:=by
 induction n generalizing s with
 | zero=>rfl
 | succ n ih=>simp[run,ih]
theorem jX(s e:Int):iV [] s e=[(s,e)]:=rfl
def jY(t:Row){q:Int × Int}{s:Int}{e:Int}(h:q.2=s):iV (t++[q]) s e=t++[(q.1,e)]:=by
 simp[iV,h]
def jZ(t:Row){q:Int × Int}{s:Int}{e:Int}(h:¬ q.2=s):iV (t++[q]) s e=t++[q]++[(s,e)]:=by
 simp[iV,h]
def Lo(t:Row)(a s e:Int):iV (t++[(a,s)]) s e=t++[(a,e)]:=by
 simp[iV]
def zf(t:Row)(a s:Int)(n:Nat):(run s n).foldl (λt n=>iV t n (n+1)) (t++[(a,s)])=t++[(a,s+n)]:=by
 induction n generalizing s with
 | zero=>simp[run]
 | succ n ih =>
  rw[run,kj,Lo,ih];have:s+1+(n:Int)=s+((n+1:Nat):Int):=by lia
  rw[this]
def N1(t:Row)(p:Int × Int)(h:p.1<=p.2):cY t p=(fE p).foldl (λt n=>iV t n (n+1)) t:=by
 let⟨s,e⟩:=p;simp only at h;unfold cY fE;by_cases he:s=e
 ·subst he;simp[run]
 ·obtain⟨n,hn⟩:∃ n:Nat,e=s+1+n:=⟨(e-s-1).toNat,E⟩;subst hn;rw[if_neg he];have h2:((s,s+1+(n:Int)).2-(s,s+1+(n:Int)).1).toNat=n+1:=by simp only;lia
  rw[h2,run,kj];simp only;rcases mE t with rfl|⟨u,q,rfl⟩
  ·rw[jX,jX];exact (zf [] s (s+1) n).symm
  ·by_cases hq:q.2=s
   ·rw[ki,jY u hq,jY u hq,zf]
   ·rw[ki,jZ u hq,jZ u hq,zf]
theorem lZ{α β γ:Type}(f:γ->β->γ)(g:α->List β):∀ (l:List α) (c:γ),(l.flatMap g).foldl f c=l.foldl (λc a=>(g a).foldl f c) c
 | [],_=>rfl
 | a::l,c=>by rw[mF,List.foldl_append,kj,lZ f g l]
def E7(r:Row)(h:∀ p∈r,p.1<=p.2):cB r=cR (bI r):=by
 unfold cB cR bI;rw[lZ]
 have key:∀ (r:Row),(∀ p∈r,p.1<=p.2)->∀ t:Row,r.foldl cY t=r.foldl (λc a=>(fE a).foldl (λt n=>iV t n (n+1)) c) t:=by
  intro r
  induction r with
  | nil=>intro _ t;rfl
  | cons p r ih =>
   intro h t;rw[kj,kj,N1 t p (h p (uv ..))];exact ih (λq hq=>h q (nO _ hq)) _
 exact key r h []
def xB(t:Row)(s e:Int):↑(iV t s e)<=↑t+1:=by
 rcases mE t with rfl|⟨u,q,rfl⟩
 ·rw[jX];simp
 ·by_cases hq:q.2=s
  ·rw[ki,jY u hq];simp
  ·rw[ki,jZ u hq];simp
def foldl_take_succ{α β:Type}(f:β->α->β)(l:List α)(b:β)(i:Nat)(x:α)(h:l[i]?=⇑x):(l.take (i+1)).foldl f b=f ((l.take i).foldl f b) x:=by
 rw[List.take_add_one,h,List.foldl_append];rfl
end fV
namespace fV
def lu(r:Row):Int:=(r.map λp=>p.2-p.1).sum
theorem Q6:lu []=0:=rfl
def E8(p:Int × Int)(r:Row):lu (p::r)=(p.2-p.1)+lu r:=by simp[lu]
def N3(r:Row)(p:Int × Int):lu (r++[p])=lu r+(p.2-p.1):=by simp[lu]
def zg(r q:Row):lu (r++q)=lu r+lu q:=by simp[lu]
def take_snoc{α:Type}{l:List α}{i:Nat}{x:α}(h:l[i]?=⇑x):l.take (i+1)=l.take i++[x]:=by rw[List.take_add_one,h];rfl
end fV
namespace fV
def uN(s:Int)(n:Nat):run s (n+1)=run s n++[s+n]:=by
 induction n generalizing s with
 | zero=>simp[run]
 | succ n ih =>
  rw[run,ih,run];have:s+1+(n:Int)=s+((n+1:Nat):Int):=by lia
  rw[this];rfl
def BG{a n:Int}(h:a<=n):fE (a,n+1)=fE (a,n)++[n]:=by
 unfold fE;have e:((a,n+1).2-(a,n+1).1).toNat=((a,n).2-(a,n).1).toNat+1:=by simp only;lia
 rw[e,uN];have:a+((((a,n).2-(a,n).1).toNat:Nat):Int)=n:=by simp only;lia
 simp only at this ⊢;rw[this]
def E9(n:Int):fE (n,n+1)=[n]:=by
 have:=BG (a:=n) (n:=n) (Int.le_refl _);rw[this];have e:fE (n,n)=[]:=by unfold fE;simp[run]
 rw[e];rfl
def cS(r q:Row):bI (r++q)=bI r++bI q:=by unfold bI;rw[List.flatMap_append]
def eX(p:Int × Int):bI [p]=fE p:=by simp[bI]
def HX(t:Row)(n:Int)(h:∀ p∈t,p.1<=p.2):bI (iV t n (n+1))=bI t++[n]:=by
 rcases mE t with rfl|⟨u,q,rfl⟩
 ·rw[jX,eX,E9];rfl
 ·rw[ki]at h ⊢;by_cases hq:q.2=n
  ·let⟨a,b⟩:=q;simp only at hq;subst hq;have hb:a<=b:=h (a,b) (by simp);rw[jY u rfl,cS,cS,eX,eX,BG hb,m8]
  ·rw[jZ u hq,cS,eX,E9]
def JZ(t:Row)(n:Int)(h:∀ p∈t,p.1<=p.2):∀ p∈iV t n (n+1),p.1<=p.2:=by
 rcases mE t with rfl|⟨u,q,rfl⟩
 ·rw[jX];intro p hp;simp at hp;subst hp;show n<=n+1;lia
 ·rw[ki]at h ⊢;by_cases hq:q.2=n
  ·rw[jY u hq];intro p hp;rcases List.mem_append.mp hp with z|z
   ·exact h p (pV _ z)
   ·simp at z;subst z;have:=h q (by simp);show q.1<=n+1;lia
  ·rw[jZ u hq];intro p hp;rcases List.mem_append.mp hp with z|z
   ·exact h p z
   ·simp at z;subst z;show n<=n+1;lia
def eS(ns:List Int):bI (cR ns)=ns:=by
 have key:∀ (ns:List Int) (t:Row),(∀ p∈t,p.1<=p.2)->bI (ns.foldl (λt n=>iV t n (n+1)) t)=bI t++ns:=by
  intro ns
  induction ns with
  | nil=>intro t _;simp
  | cons n ns ih =>
   intro t h;rw[kj,ih _ (JZ t n h),HX t n h,m8];rfl
 have:=key ns [] (λp hp=>by cases hp);simpa [cR,bI] using this
def nZ(ns:List Int):∀ p∈cR ns,p.1<=p.2:=by
 have key:∀ (ns:List Int) (t:Row),(∀ p∈t,p.1<=p.2)->∀ p∈ns.foldl (λt n=>iV t n (n+1)) t,p.1<=p.2:=by
  intro ns
  induction ns with
  | nil=>intro t h;exact h
  | cons n ns ih=>intro t h;exact ih _ (JZ t n h)
 exact key ns [] (λp hp=>by cases hp)
end fV
namespace fV
def xC(p:Int × Int)(h:p.1<=p.2):(↑(fE p):Int)=p.2-p.1:=by
 unfold fE;rw[gA];lia
theorem rm:∀ (r:Row),(∀ p∈r,p.1<=p.2)->(↑(bI r):Int)=lu r
 | [],_=>rfl
 | p::r,h=>by
  have ih:=rm r λq hq=>h q (nO _ hq);have hp:=xC p (h p (uv ..));have e:bI (p::r)=fE p++bI r:=rfl;rw[e,dM,E8];lia
end fV
namespace fV
open L2 cD
structure bX(K:PySem.W.Frag)(mg:Str->Option Value)(x:Str)(st:Stmt)(ps:List Str)(a:Addr)(d:FuncData):Prop where
 F:NL K x x st a d
 b:Binds K d ps []
 m:mg x=⇑↥a
section
variable {X:Cx}
theorem aM{x:Str}{st:Stmt}{ps:List Str}{f:Addr}{j k:Nat}{sp:Sp}{e:Expr}{es:List Expr}{t:TA}{p pos:Pos}(d:bX X.K X.mg x st ps f fd)(G:aX X.prog X.w X.K X.mg X.zt cO k f fd ps sp)(hr:gK j X.A)
  (ha:PA X (e::es) t) (Lp:k<=j:=by first|decide|lia) (hg:Gl X x:=by rfl) (yZ:(x == ("__debug__":Str))=false:=by decide) (he:starEach (e::es) X.env=(false,eval e X.env)::starEach es X.env:=by rfl)
  (xx:(backTo pos (starEach es X.env)).any (·.1)=false:=by rfl):PE X (.Call (.Name x p) (e::es) [] pos) (EV sp [] E0 t) :=
 CU G (hr.mono Lp) hg d.m d.F.kp d.b .nil bS ha yZ he xx
theorem zh{st:Stmt}{t t':TS}(h:PS X st t)(hi:∀ D σ H,t' D σ H->t D σ H):PS X st t':=λak s σ H D I q=>h ak s σ H D I (hi D σ H q)
end
def cy(l:Addr)(H H':Hp):Prop:=∀ a o,H a=⇑o->a≠l->H' a=⇑o
theorem aH.keep{l:Addr}{H H':Hp}(s:aH H H'):cy l H H':=λa o e _=>s a o e
theorem cy.refl(l:Addr)(H:Hp):cy l H H:=λ_ _ e _=>e
theorem cy.trans{l:Addr}{H H1 H2:Hp}(a:cy l H H1)(b:cy l H1 H2):cy l H H2:=λc o e n=>b c o (a c o e n) n
theorem aF(l:Addr)(H:Hp)(o:HO):cy l H (aO H l o):=λa u e n=>by rw[aK n];exact e
theorem bJ{l:Addr}{H H1 H2:Hp}(h:H l=none)(a:aH H H1)(b:cy l H1 H2):aH H H2:=λc o e=>b c o (a c o e) (aB e h)
theorem ao{H:Hp}{p:Addr}(h:H p=none)(o:HO):aH H (aO H p o):=λb u q=>by rw[aK (aB q h)];exact q
def jd{l a:Addr}{H H':Hp}(k:cy l H H')(n:a≠l)(h:H' a=none):H a=none:=by
 cases q:H a with
 | none=>rfl
 | some o=>rw[k a o q n]at h;cases h
def iL(H:Hp)(l c:Addr):Prop:=c≠l/\∃ (ns:List Int) (i d r:Int),H l=⇑(.lst [↥c,.int i,.int d,.int r])/\H c=⇑(.lst (ns.map V.int))/\0<=i/\0<=r/\r<2147483647
def iL.same{H H':Hp}{l c:Addr}(s:iL H l c)(k:aH H H'):iL H' l c:=by
 let⟨n,ns,i,d,r,h1,h2,h3⟩:=s;exact⟨n,ns,i,d,r,k _ _ h1,k _ _ h2,h3⟩
def iL.ne{H:Hp}{l c a:Addr}(s:iL H l c)(h:H a=none):l≠a/\c≠a:=by
 let⟨n,ns,i,d,r,e1,e2,h3⟩:=s;exact⟨aB e1 h,aB e2 h⟩
theorem YB{a b c d:V}:qm [a,b,c,d] 0=⇑a:=rfl
theorem Vd{a b c d:V}:qm [a,b,c,d] 1=⇑b:=rfl
theorem Q7{a b c d:V}:qm [a,b,c,d] 2=⇑c:=rfl
theorem YC{a b c d:V}:qm [a,b,c,d] 3=⇑d:=rfl
theorem N4{a b:V}:qm [a,b] 0=⇑a:=rfl
theorem HY{a b:V}:qm [a,b] 1=⇑b:=rfl
class inductive Dc
 | mk (l c:Addr) (b:Int) (_:vs=[↥l,.int b]) (_:iL H l c) (_:0<b) (_:b<10^70) (_ :
 ∀ (v:Int) (H':Hp),0<=v->v<b->iL H' l c->(∀ a,a≠l->H' a=H a)->Q (.int v) H'):Dc vs H Q E
class inductive TH(K:PySem.W.Frag)
 | mk (a:Addr) (ns:List Int) (_:vs=[↥a]) (_:bG K H a (ns.map V.int)) (_ :
 ∀ (l c:Addr) (H':Hp),iL H' l c->aH H H'->H l=none->H c=none->Q ↥l H')
def acS:V->Bool
 | .int _ | .bl _ | .str _ | .gj=>true
 | _=>false
def N5(k:Bool)(H:Hp)(a:Addr)(xs:List V):Prop:=match k with
 | true=>H a=⇑(.lst xs)
 | false=>H a=⇑(.tup xs)
def N5.same{k:Bool}{H H':Hp}{a:Addr}{xs:List V}(h:N5 k H a xs)(s:aH H H'):N5 k H' a xs:=by
 cases k
 ·exact s _ _ h
 ·exact s _ _ h
def N5.sq{K:PySem.W.Frag}{k:Bool}{H:Hp}{a:Addr}{xs:List V}(h:N5 k H a xs):JX K k H a xs:=by
 cases k
 ·exact dN.of h
 ·exact bG.of h
def Eqv(H:Hp):Nat->V->V->Prop
 | 0,_,_=>False
 | n+1,x,y=>(acS x=true/\x=y)\/∃ (k:Bool) (a b:Addr) (xs ys:List V),x=↥a/\y=↥b/\N5 k H a xs/\N5 k H b ys/\↑xs=↑ys/\
   ∀ (i:Nat) (u v:V),xs[i]?=⇑u->ys[i]?=⇑v->Eqv H n u v
theorem Eqv.same{H H':Hp}(s:aH H H'):∀ {n:Nat} {x y:V},Eqv H n x y->Eqv H' n x y
 | 0,_,_,h=>h
 | n+1,x,y,h=>by
  rcases h with h|⟨k,a,b,xs,ys,e1,e2,h1,h2,hl,hi⟩
  ·exact .inl h
  ·exact .inr ⟨k,a,b,xs,ys,e1,e2,h1.same s,h2.same s,hl,λi u v eu ev=>Eqv.same s (hi i u v eu ev)⟩
theorem Eqv.int{H:Hp}{n:Nat}(i:Int):Eqv H (n+1) (.int i) (.int i):=.inl ⟨V⟩
def wg(n:Nat):Sp:=λvs H Q _=>∃ x y,vs=[x,y]/\Eqv H n x y/\∀ H',aH H H'->Q (.bl true) H'
class inductive J1
 | mk (i:Int) (_:vs=[.int i]) (_:Q (.bl true) H)
section
variable (K:PySem.W.Frag)
def YD:kitOne K (.type "bool") (.type "bool")=⇑true:=by rfl
def YE:kitOne K (.type "int") (.type "bool")=⇑false:=by kernel_rfl
def YF:kitOne K (.type "int") (.type "int")=⇑true:=by rfl
def acT:kitOne K (.type "str") (.type "bool")=⇑false:=by kernel_rfl
def acU:kitOne K (.type "str") (.type "int")=⇑false:=by kernel_rfl
def YG:kitOne K (.type "str") (.type "str")=⇑true:=by rfl
def acV:kitOne K (.type "list") (.type "bool")=⇑false:=by kernel_rfl
def acW:kitOne K (.type "list") (.type "int")=⇑false:=by kernel_rfl
def acX:kitOne K (.type "list") (.type "str")=⇑false:=by kernel_rfl
def YH:kitOne K (.type "list") (.type "list")=⇑true:=by rfl
def k_lt:kitOne K (.type "list") (.type "tuple")=⇑false:=by kernel_rfl
def acY:kitOne K (.type "tuple") (.type "bool")=⇑false:=by kernel_rfl
def acZ:kitOne K (.type "tuple") (.type "int")=⇑false:=by kernel_rfl
def ac0:kitOne K (.type "tuple") (.type "str")=⇑false:=by kernel_rfl
def ac1:kitOne K (.type "tuple") (.type "list")=⇑false:=by kernel_rfl
def ac2:kitOne K (.type "tuple") (.type "tuple")=⇑true:=by rfl
end
def Xh(k:Bool):Value:=.type (if k then "list" else "tuple")
def N5.ty{K:PySem.W.Frag}{k:Bool}{H:Hp}{a:Addr}{xs:List V}(h:N5 k H a xs):jU K H ↥a (Xh k):=by
 cases k
 ·exact jU.tup h
 ·exact jU.lst h
def ac3(K:PySem.W.Frag)(k:Bool):kitOne K (Xh k) (.type "bool")=⇑false:=by cases k;exact acY K;exact acV K
def ac4(K:PySem.W.Frag)(k:Bool):kitOne K (Xh k) (.type "int")=⇑false:=by cases k;exact acZ K;exact acW K
def ac5(K:PySem.W.Frag)(k:Bool):kitOne K (Xh k) (.type "str")=⇑false:=by cases k;exact ac0 K;exact acX K
def YI(K:PySem.W.Frag)(k:Bool):kitOne K (Xh k) (.type "list")=⇑k:=by cases k;exact ac1 K;exact YH K
def YJ(K:PySem.W.Frag)(k:Bool):kitOne K (Xh k) (.type "tuple")=⇑(!k):=by cases k;exact ac2 K;exact k_lt K
def kF(H:Hp)(a:Addr)(p:Int × Int):Prop:=H a=⇑(.tup [.int p.1,.int p.2])
abbrev br(H:Hp):List Addr->Row->Prop:=Paired (kF H)
inductive b5(H:Hp)(r:Addr)(row:Row):Prop
 | mk (as:List Addr) (_:H r=⇑(.lst (as.map V.ref))) (_:br H as row)
theorem br.tups{H H':Hp}{as:List Addr}{row:Row}(h:br H as row)(t:∀ a xs,H a=⇑(.tup xs)->H' a=⇑(.tup xs)):br H' as row:=Paired.CK h λa p e=>t a _ e
theorem br.same{H H':Hp}{as:List Addr}{row:Row}(h:br H as row)(s:aH H H'):br H' as row:=h.tups λa xs e=>s a _ e
def b5.same{H H':Hp}{r:Addr}{row:Row}(h:b5 H r row)(s:aH H H'):b5 H' r row:=by
 let⟨as,h1,h2⟩:=h;exact⟨as,s _ _ h1,h2.same s⟩
theorem br.keep{H H':Hp}{as:List Addr}{row:Row}{l:Addr}{xs:List V}(h:br H as row)(hl:H l=⇑(.lst xs))(s:cy l H H'):br H' as row :=
 h.tups λa ys e=>s a _ e (dB e hl)
def b5.keep{H H':Hp}{r:Addr}{row:Row}{l:Addr}{xs:List V}(h:b5 H r row)(hl:H l=⇑(.lst xs))(n:r≠l)(s:cy l H H'):b5 H' r row:=by
 let⟨as,h1,h2⟩:=h;exact⟨as,s _ _ h1 n,h2.keep hl s⟩
theorem br.get{H:Hp}:∀ {as:List Addr} {row:Row} {i:Nat} {a:Addr},br H as row->as[i]?=⇑a->∃ p,row[i]?=⇑p/\kF H a p
 | _,_,_,_,.nil,e=>by simp at e
 | _,_,0,_,.cons r _,e=>by simp at e;subst e;exact⟨Y,r⟩
 | _,_,i+1,a,.cons _ t,e=>by
  let⟨p,h1,h2⟩:=br.get (i:=i) (a:=a) t (by simpa using e);exact⟨p,by simpa using h1,h2⟩
def br.snoc{H:Hp}{as:List Addr}{row:Row}{a:Addr}{p:Int × Int}(h:br H as row)(e:kF H a p):br H (as++[a]) (row++[p]):=by
 induction h with
 | nil=>exact .cons e .nil
 | cons r _ ih=>exact .cons r ih
theorem br.split{H:Hp}:∀ {as:List Addr} {row:Row} {p:Int × Int},br H as (row++[p])->∃ bs a,as=bs++[a]/\br H bs row/\kF H a p
 | as,[],p,h=>by
  cases h with
  | cons r t=>cases t;exact⟨[],Y,.nil,r⟩
 | as,q::row,p,h=>by
  cases h with
  | cons r t =>
   let⟨bs,a,rfl,h1,h2⟩:=br.split (row:=row) (p:=p) t;exact⟨_::bs,a,rfl,.cons r h1,h2⟩
theorem br.len{H:Hp}{as:List Addr}{row:Row}(h:br H as row):↑as=↑row:=Paired.length h
def b5.eqv{H:Hp}{r q:Addr}{row:Row}(h:b5 H r row)(g:b5 H q row)(n:Nat):Eqv H (n+3) ↥r ↥q:=by
 let⟨as,h1,h2⟩:=h;let⟨bs,g1,g2⟩:=g;refine .inr ⟨true,r,q,Z,h1,g1,by rw[bW,bW,h2.len,g2.len],λi u v eu ev=>?_⟩;rw[kU]at eu ev;let⟨a,ea,rfl⟩:=Option.map_eq_some_iff.mp eu;let⟨b,eb,rfl⟩:=Option.map_eq_some_iff.mp ev;let⟨p,e1,k1⟩:=h2.get ea;let⟨p',e2,k2⟩:=g2.get eb;rw[e1]at e2;cases e2;refine .inr ⟨false,a,b,Z,k1,k2,rfl,λj u v eu ev=>?_⟩;rw[eu]at ev;cases ev
 match j,eu with
 | 0,eu=>cases eu;exact Eqv.int _
 | 1,eu=>cases eu;exact Eqv.int _
theorem dO{α:Type}(xs:List α)(v:α):qm (xs++[v]) (-1)=⇑v:=Nu xs v
def zj(n:Nat):JN (n+1) (-1)=⇑n:=by
 unfold JN;rw[if_neg (by decide),if_pos ∅];congr 1;lia
def uO{α:Type}(xs:List α)(a b:α):(xs++[a]).set ↑xs b=xs++[b]:=by
 simp
def zk(lo:Int)(n:Nat):BF lo n=(run lo n).map V.int:=by
 unfold BF
 induction n generalizing lo with
 | zero=>rfl
 | succ n ih =>
  rw[List.range_succ_eq_map,jh,List.map_map,run,jh,← ih (lo+1)];congr 1
  ·simp
  ·apply List.map_congr_left;intro i _;simp only[Function.comp,Nat.succ_eq_add_one];congr 1;lia
class inductive Q8(lim:Nat)
 | mk (r:Addr) (row:Row) (_:vs=[↥r]) (_:b5 H r row) (_:(∀ p∈row,0<=p.1/\p.1<=p.2/\p.2<2^62)) (_:↑(bI row)<=1000000) (_:↑row<=lim) (_ :
 ∀ (n:Addr) (H':Hp),H' n=⇑(.lst ((bI row).map V.int))->aH H H'->H n=none->Q ↥n H')
class inductive Q9
 | mk (n:Addr) (ns:List Int) (_:vs=[↥n]) (_:H n=⇑(.lst (ns.map V.int))) (_:↑ns<=1000000) (_ :
 ∀ (r:Addr) (H':Hp),b5 H' r (cR ns)->aH H H'->H r=none->Q ↥r H')
class inductive Rc
 | mk (r:Addr) (row:Row) (_:vs=[↥r]) (_:b5 H r row) (_:↑row<=1000000) (_ :
 ∀ (q:Addr) (H':Hp),b5 H' q (cB row)->aH H H'->H q=none->Q ↥q H')
theorem aS{n:Nat}(h:n<=1000001):n<sizeLine:=Nat.lt_of_le_of_lt h (by decide)
end fV
namespace fV
open L2 cD
def Ve:TS:=λD σ H=>∃ (l c:Addr) (b:Int),σ=[⇑↥l,⇑(.int b),none,none]/\iL H l c/\
 ∀ (cell:Option V) (H':Hp),iL H' l c->(∀ a,a≠l->H' a=H a)->D.nx [⇑↥l,⇑(.int b),cell,none] H'
def Vf:TS:=λD σ H=>∃ (l c:Addr) (b:Int),σ=[⇑↥l,⇑(.int b),⇑(.int 7),none]/\iL H l c/\
 ∀ (cell:Int) (H':Hp),iL H' l c->(∀ a,a≠l->H' a=H a)->D.nx [⇑↥l,⇑(.int b),⇑(.int cell),none] H'
def Rf{ns:List Int}{i:Int}(h0:0<=i)(h1:i<(↑ns:Int)):∃ v:Int,qm (ns.map V.int) i=⇑(.int v):=by
 have hk:i.toNat<↑ns:=by lia
 exists ns[i.toNat]
 have q:qm (ns.map V.int) ((i.toNat:Nat):Int)=⇑(.int ns[i.toNat]):=cQ (by rw[kU,nM hk] <;> rfl)
 have ei:((i.toNat:Nat):Int)=i:=by lia
 rw[ei]at q;exact q
def N6(ns:List Int)(lo hi:Option Int):∃ ms:List Int,jW (ns.map V.int) lo hi=ms.map V.int:=by
 unfold jW;exists (ns.drop (HT.gv ↑(ns.map V.int) 0 lo)).take (HT.gv ↑(ns.map V.int) ↑(ns.map V.int) hi-HT.gv ↑(ns.map V.int) 0 lo);rw[List.map_take,List.map_drop]
def tt{p:Prop} [Decidable p] {Q:V->Hp->Prop} {H:Hp} (hp:p) (h:Q (.bl true) H):Q (.bl (decide p)) H:=by
 rw[decide_eq_true hp];exact h
def N5.or{K:PySem.W.Frag}{k:Bool}{H:Hp}{a:Addr}{xs:List V}(h:N5 k H a xs):bG K H a xs\/dN K H a xs:=by
 cases k
 ·exact .inr (dN.of h)
 ·exact .inl (bG.of h)
theorem cA{l:Addr}{H H':Hp}(k:∀ a,a≠l->H' a=H a):cy l H H':=λa o e n=>by rw[k a n];exact e
end fV
namespace fV
open L2 cD
def iL.lst{H:Hp}{l c:Addr}(s:iL H l c):∃ xs,H l=⇑(.lst xs):=by
 let⟨n,ns,i,d,r,e1,_⟩:=s;exact⟨_,e1⟩
end fV
namespace cD
open Spec Rows L2
section
variable {prog:Program} {w:World} {A:Around} {R:Result->Shared->Prop} {s:Shared}
def rA(jD:List Expr)(env:Env):Sem Bool:=forIn jD true λc r=>if r=true then do let ok ← isTrue c env (eval c env);pure (ForInStep.yield ok) else pure (ForInStep.yield r)
theorem Lq{iter:Expr}{scope:Scope}{it acc:Value}{env:Env}(I:Nat->Shared->Prop)
  (oH:∀ n s,I n s->wpAny (model prog w) A (pyNext it) (λr s₁=>match r with
   | none=>R (.ok .next) s₁
   | some v=>wpAny (model prog w) A (letOwnedTupleGo vP it v) (λ_ s₂=>wpAny (model prog w) A (assign vP env v) (λ_ s₃ =>
     wpAny (model prog w) A (rA jD env) (λok s₄ =>
      if ok=true then wpAny (model prog w) A (eval jP env) (λx s₅=>wpAny (model prog w) A (call (.builtin "list.append") [acc,x]) (λ_ s₆=>∃ m,m<n/\I m s₆) (λ_ _=>False) s₅) (λ_ _=>False) s₄
      else ∃ m,m<n/\I m s₄) (λ_ _=>False) s₃) (λ_ _=>False) s₂) (λ_ _=>False) s₁) (λ_ _=>False) s)
  (n:Nat) (h:I n s):codeAny (model prog w) A (.compLoop (.ListComp jP [⟨vP,iter,jD,0⟩] scope pos) 0 it acc env) R s:=by
 refine codeAny_loop rfl I (λn s hI=>?_) n h;show wpAny _ A ((compTurn (.ListComp jP [⟨vP,iter,jD,0⟩] scope pos) 0 it acc env).onRaise (λx=>do noteFrame x env;theTreesLotGoes x)) _ _ s;refine wpAny_noted ?_;rw[compTurn_list];refine wpAny_bind (wpAny_standAt (wpAny_bind (wpAny_mono (oH n s hI) (λr s₁ h₁=>?_) λ_ _ h'=>h'.elim)))
 cases r with
 | none=>exact wpAny_pure h₁
 | some v =>
  refine wpAny_bind (wpAny_mono h₁ (λ_ s₂ h₂=>wpAny_bind (wpAny_mono h₂ (λ_ s₃ h₃=>wpAny_bind (wpAny_mono h₃ (λok s₄ h₄=>?_) λ_ _ h'=>h'.elim)) λ_ _ h'=>h'.elim)) λ_ _ h'=>h'.elim)
  cases ok with
  | false=>exact wpAny_pure ⟨rfl,h₄⟩
  | true=>exact wpAny_bind (wpAny_bind (wpAny_mono h₄ (λx s₅ h₅=>wpAny_bind (wpAny_mono h₅ (λ_ s₆ h₆=>wpAny_pure (wpAny_pure ⟨rfl,h₆⟩)) λ_ _ h'=>h'.elim)) λ_ _ h'=>h'.elim))
end
section
variable {X:Cx} {N:List Str} {scope:Scope}
def Lr(X:Cx)(jD:List Expr)(t:TT):Prop :=
 ∀ (ak:List (Addr × Obj)) (s:Shared) (σ:L2.St) (H:Hp) (Q:Bool->Hp->Prop),Inv X ak σ H s->t σ H Q->wpAny (model X.prog X.w) X.A (rA jD X.env) (TP X ak σ Q) X.xe s
def N7:TT:=λ_ H Q=>Q true H
theorem fQ:Lr X [] N7:=λak s σ H Q I h=>wpAny_tests_nil ⟨H,I,h⟩
theorem yD{c:Expr}{t:TT}(h:PT X c t):Lr X [c] t:=λak s σ H Q I q=>wpAny_tests_one (h ak s σ H Q I q)
end
end cD
namespace cD
open Spec Rows L2
theorem Ls{P:Program}{w:World}{K:PySem.W.Frag}(it:Addr)(lo:Int)(n:Nat):Hs P w K tg (KW lo n) [it] it (λi h=>IsLongIter h it (lo+(i:Nat)*1) ((n:Int)-(i:Nat)) 1) where
 mem:=by simp
 obj:=λi h st b hb=>by
  have e:b=it:=by simpa using hb
  subst e
  exact⟨_,st,λv z=>by
   have z':Data.fields _=Data.cell v:=z
   cases z'⟩
 keep:=λi h h' st k=>k it (by simp) _ st
 item:=by
  intro X hP hw hK hc i ak s σ H E I hf st hg;subst hP hw hK;let⟨f0,f1,f2,f3,f4,f5⟩:=hf it (by simp);have W:=Walks.longrange (prog:=X.prog) (w:=X.w) (I.ok.hd hc) it lo 1 n;refine W.item i s _ _ hg st λv h' tk hv CP kk=>?_;let⟨t,rfl⟩:=hv;have I1:Inv X ak σ H { s with heap:=h',toks:=tk }:=I.turned (λb o hb e=>kk b o (by simpa using hb) e) f0 f1 f3 f4 f5;refine⟨Y,EU (s:={ s with heap:=h',toks:=tk }) (n:="longrange_iterator") CP rfl rfl (by decide) ⟨.int (lo+i),H,I1,⟨t,?_⟩,⟨V⟩,CP,λb hb=>(hf b hb).1⟩⟩;rw[Int.mul_one]
 done:=by
  intro X hP hw hK hc i ak s σ H E I hf st hg;subst hP hw hK;let⟨f0,f1,f2,f3,f4,f5⟩:=hf it (by simp);exact wpAny_pyNext_long_end (I.ok.hd hc) st (by have:n<=i:=hg;lia) λh' eb=>⟨rfl,I.turned (t':=s.toks) (λb o hb e=>eb b o hb e) f0 f1 f3 f4 f5⟩
 self:=λ_ _ _ _ _ st h=>wpAny_pyIter_longiter st h
section
variable {X:Cx} {tg:Expr}
theorem Lu{σ:L2.St}{H:Hp}{s:Shared}{R:It->Hp->Prop}{E:Value->Shared->Prop}{lo hi:Int}{t u v:Tok}{tk:Nat}(I:Inv X ak σ H s)
  (q:R (KW lo (hi-lo).toNat) H):wpAny (model X.prog X.w) X.A (pyIter ↥s.heap.objs.size) (PIE X ak σ tg R) E { s with heap:=s.heap.push { cls:=.type "range",data:=.fields #[.int lo t,.int hi u,.int 1 v] },toks:=tk }:=by
 have I1:Inv X ak σ H { s with heap:=s.heap.push { cls:=.type "range",data:=.fields #[.int lo t,.int hi u,.int 1 v] },toks:=tk }:=I.kept λb o e=>Heap.get?_push_of_some _ e;have e1:lo+((0:Nat):Int)*1=lo:=by simp
 have e2:(((hi-lo).toNat:Nat):Int)-((0:Nat):Int)=Builtin.Range.rangeSize lo hi 1:=by rw[rangeSize_one];split <;> lia
 have fp:∀ b∈[(s.heap.push { cls:=.type "range",data:=.fields #[.int lo t,.int hi u,.int 1 v] }).objs.size],oJ X ak H b:=λb hb=>by
  have e:b=(s.heap.push { cls:=.type "range",data:=.fields #[.int lo t,.int hi u,.int 1 v] }).objs.size:=by simpa using hb
  subst e;exact I1.KU (fK _) (I1.hok.fresh (fK _))
 cases hb:Builtin.Range.small lo hi 1 with
 | true =>
  refine wpAny_pyIter_range (IsRange.new ..) hb ?_;refine⟨_,[(s.heap.push { cls:=.type "range",data:=.fields #[.int lo t,.int hi u,.int 1 v] }).objs.size],Q,H,rfl,I1.kept (t':=tk) λb o e=>Heap.get?_push_of_some _ e,yR _ lo (hi-lo).toNat,?_,fp,q⟩;show IsRangeIter _ _ (lo+((0:Nat):Int)*1) ((((hi-lo).toNat:Nat):Int)-((0:Nat):Int)) 1;rw[e1,e2];exact Heap.get?_push_size _ rfl
 | false =>
  refine wpAny_pyIter_longrange (IsRange.new ..) hb ?_;refine⟨_,[(s.heap.push { cls:=.type "range",data:=.fields #[.int lo t,.int hi u,.int 1 v] }).objs.size],Q,H,rfl,I1.kept (t':=tk) λb o e=>Heap.get?_push_of_some _ e,Ls _ lo (hi-lo).toNat,?_,fp,q⟩;show IsLongIter _ _ (lo+((0:Nat):Int)*1) ((((hi-lo).toNat:Nat):Int)-((0:Nat):Int)) 1;rw[e1,e2];exact Heap.get?_push_size _ rfl
def YK(ta:TA):TI:=fun σ H R=>ta σ H λvs H1=>∃ i j:Int,vs=[.int i,.int j]/\R (KW i (j-i).toNat) H1
theorem Lv{a b:Expr}{ta:TA}{p pos:Pos}(hg:Gl X "range")(hm:X.mg "range"=none)(ha:PA X [a,b] ta)(hs:starEach [a,b] X.env=[(false,eval a X.env),(false,eval b X.env)]:=by rfl)(G6:starEach [b] X.env=[(false,eval b X.env)]:=by rfl) :
  PI X tg (.Call (.Name "range" p) [a,b] [] pos) (YK ta):=by
 intro ak s σ H R I h;refine Call_ (vN I hg hm boot_range (PyProof.Rows.callWith_type1 (cL (ha pos ak s σ H _ I h) λus s1 ⟨vs,H1,I1,r1,q1⟩=>?_) (by rw[hs,G6]) (by rw[G6];rfl)));let⟨i,j,e,q⟩:=q1;subst e;let⟨u1,u2,rfl,⟨t,rfl⟩,⟨t',rfl⟩⟩:=r1.two;exact call_range_2 (Lu I1 q)
end
end cD
namespace cD
open Spec Rows L2
section
variable {prog:Program} {w:World} {A:Around} {R:Result->Shared->Prop} {s:Shared}
theorem Rg(jP tg iter qf dD:Expr)(jD iW:List Expr)(scope:Scope)(pos:Pos)(it acc:Value)(env:Env) :
  compTurn (.ListComp jP [⟨tg,iter,jD,0⟩,⟨qf,dD,iW,0⟩] scope pos) 1 it acc env=(do
   standAt dD.pos
   match ← pyNext it with
   | none=>pure (.done .next)
   | some v =>
    letOwnedTupleGo qf it v
    assign qf env v
    let ok ← rA iW env
    if ok then (do let _ ← call (.builtin "list.append") [acc,← eval jP env])
    again (.compLoop (.ListComp jP [⟨tg,iter,jD,0⟩,⟨qf,dD,iW,0⟩] scope pos) 1 it acc env)):=by rfl
theorem N8(jP tg iter qf dD:Expr)(jD iW:List Expr)(scope:Scope)(pos:Pos)(it acc:Value)(env:Env) :
  compTurn (.ListComp jP [⟨tg,iter,jD,0⟩,⟨qf,dD,iW,0⟩] scope pos) 0 it acc env=(do
   standAt iter.pos
   match ← pyNext it with
   | none=>pure (.done .next)
   | some v =>
    letOwnedTupleGo tg it v
    assign tg env v
    let ok ← rA jD env
    if ok then
     let x ← eval dD env
     standAt dD.pos
     let x ← foldedSetIterable dD env x
     let _ ← runOwn (.compStart (.ListComp jP [⟨tg,iter,jD,0⟩,⟨qf,dD,iW,0⟩] scope pos) 1 (← holding [x] (pyIter x)) acc env) env
    again (.compLoop (.ListComp jP [⟨tg,iter,jD,0⟩,⟨qf,dD,iW,0⟩] scope pos) 0 it acc env)):=by rfl
theorem Vg{iter:Expr}{scope:Scope}{it acc:Value}{env:Env}(I:Nat->Shared->Prop)
  (oH:∀ n s,I n s->wpAny (model prog w) A (pyNext it) (λr s₁=>match r with
   | none=>R (.ok .next) s₁
   | some v=>wpAny (model prog w) A (letOwnedTupleGo qf it v) (λ_ s₂=>wpAny (model prog w) A (assign qf env v) (λ_ s₃ =>
     wpAny (model prog w) A (rA iW env) (λok s₄ =>
      if ok=true then wpAny (model prog w) A (eval jP env) (λx s₅=>wpAny (model prog w) A (call (.builtin "list.append") [acc,x]) (λ_ s₆=>∃ m,m<n/\I m s₆) (λ_ _=>False) s₅) (λ_ _=>False) s₄
      else ∃ m,m<n/\I m s₄) (λ_ _=>False) s₃) (λ_ _=>False) s₂) (λ_ _=>False) s₁) (λ_ _=>False) s)
  (n:Nat) (h:I n s):codeAny (model prog w) A (.compLoop (.ListComp jP [⟨tg,iter,jD,0⟩,⟨qf,dD,iW,0⟩] scope pos) 1 it acc env) R s:=by
 refine codeAny_loop rfl I (λn s hI=>?_) n h;show wpAny _ A ((compTurn (.ListComp jP [⟨tg,iter,jD,0⟩,⟨qf,dD,iW,0⟩] scope pos) 1 it acc env).onRaise (λx=>do noteFrame x env;theTreesLotGoes x)) _ _ s;refine wpAny_noted ?_;rw[Rg];refine wpAny_bind (wpAny_standAt (wpAny_bind (wpAny_mono (oH n s hI) (λr s₁ h₁=>?_) λ_ _ h'=>h'.elim)))
 cases r with
 | none=>exact wpAny_pure h₁
 | some v =>
  refine wpAny_bind (wpAny_mono h₁ (λ_ s₂ h₂=>wpAny_bind (wpAny_mono h₂ (λ_ s₃ h₃=>wpAny_bind (wpAny_mono h₃ (λok s₄ h₄=>?_) λ_ _ h'=>h'.elim)) λ_ _ h'=>h'.elim)) λ_ _ h'=>h'.elim)
  cases ok with
  | false=>exact wpAny_pure ⟨rfl,h₄⟩
  | true=>exact wpAny_bind (wpAny_bind (wpAny_mono h₄ (λx s₅ h₅=>wpAny_bind (wpAny_mono h₅ (λ_ s₆ h₆=>wpAny_pure (wpAny_pure ⟨rfl,h₆⟩)) λ_ _ h'=>h'.elim)) λ_ _ h'=>h'.elim))
theorem Rh{iter:Expr}{scope:Scope}{it acc:Value}{env:Env}
  (h0:codeAny (model prog w) A (.compLoop (.ListComp jP [⟨tg,iter,jD,0⟩,⟨qf,dD,iW,0⟩] scope pos) 1 it acc env) R s)
  (h:wpAny (model prog w) A (pyIter it) (λVh s'=>codeAny (model prog w) A (.compLoop (.ListComp jP [⟨tg,iter,jD,0⟩,⟨qf,dD,iW,0⟩] scope pos) 1 Vh acc env) R s') (λ_ _=>False) s) :
  codeAny (model prog w) A (.compStart (.ListComp jP [⟨tg,iter,jD,0⟩,⟨qf,dD,iW,0⟩] scope pos) 1 it acc env) R s:=by
 refine codeAny_of_tree ?_;show wpAny _ _ ((compStart (.ListComp jP [⟨tg,iter,jD,0⟩,⟨qf,dD,iW,0⟩] scope pos) 1 it acc env).onRaise (λx=>do noteFrame x env;standAt theWindowsPlace)) _ _ s;refine wpAny_notedAt ?_;unfold compStart;show wpAny _ _ (ask >>= _) _ _ s;refine wpAny_bind (wpAny_askSetting (wpAny_ite ?_));split
 ·first
   | exact wpAny_bind (wpAny_pure (wpAny_pure (And.intro rfl h0)))
   | exact wpAny_pure (And.intro rfl h0)
 ·first
   | exact wpAny_bind (wpAny_rule (wpAny_bind (wpAny_standAt (wpAny_bind (wpAny_mono h (λVh s' h'=>wpAny_pure (And.intro rfl h')) λ_ _ x=>x.elim)))))
   | (refine wpAny_bind (wpAny_rule ?_);show wpAny _ _ (standAt dD.pos >>= _) _ _ s;exact wpAny_bind (wpAny_standAt (wpAny_bind (wpAny_mono h (λVh s' h'=>wpAny_pure (And.intro rfl h')) λ_ _ x=>x.elim))))
theorem Ri{iter:Expr}{scope:Scope}{it acc:Value}{env:Env}(I:Nat->Shared->Prop)
  (G6:∀ x,foldedSetIterable dD env x=pure x)
  (oH:∀ n s,I n s->wpAny (model prog w) A (pyNext it) (λr s₁=>match r with
   | none=>R (.ok .next) s₁
   | some v=>wpAny (model prog w) A (letOwnedTupleGo tg it v) (λ_ s₂=>wpAny (model prog w) A (assign tg env v) (λ_ s₃ =>
     wpAny (model prog w) A (rA jD env) (λok s₄ =>
      if ok=true then wpAny (model prog w) A (eval dD env) (λx s₅=>wpAny (model prog w) A (pyIter x) (λYL s₆ =>
       codeAny (model prog w) A (.compStart (.ListComp jP [⟨tg,iter,jD,0⟩,⟨qf,dD,iW,0⟩] scope pos) 1 YL acc env) (λr s₇=>(∃ f,r=.ok f)/\∃ m,m<n/\I m s₇) s₆) (λ_ _=>False) s₅) (λ_ _=>False) s₄
      else ∃ m,m<n/\I m s₄) (λ_ _=>False) s₃) (λ_ _=>False) s₂) (λ_ _=>False) s₁) (λ_ _=>False) s)
  (n:Nat) (h:I n s):codeAny (model prog w) A (.compLoop (.ListComp jP [⟨tg,iter,jD,0⟩,⟨qf,dD,iW,0⟩] scope pos) 0 it acc env) R s:=by
 refine codeAny_loop rfl I (λn s hI=>?_) n h;show wpAny _ A ((compTurn (.ListComp jP [⟨tg,iter,jD,0⟩,⟨qf,dD,iW,0⟩] scope pos) 0 it acc env).onRaise (λx=>do noteFrame x env;theTreesLotGoes x)) _ _ s;refine wpAny_noted ?_;rw[N8];refine wpAny_bind (wpAny_standAt (wpAny_bind (wpAny_mono (oH n s hI) (λr s₁ h₁=>?_) λ_ _ h'=>h'.elim)))
 cases r with
 | none=>exact wpAny_pure h₁
 | some v =>
  refine wpAny_bind (wpAny_mono h₁ (λ_ s₂ h₂=>wpAny_bind (wpAny_mono h₂ (λ_ s₃ h₃=>wpAny_bind (wpAny_mono h₃ (λok s₄ h₄=>?_) λ_ _ h'=>h'.elim)) λ_ _ h'=>h'.elim)) λ_ _ h'=>h'.elim)
  cases ok with
  | false=>exact wpAny_pure ⟨rfl,h₄⟩
  | true =>
   refine wpAny_bind (wpAny_mono h₄ (λx s₅ h₅=>wpAny_bind (wpAny_standAt (wpAny_bind (wpAny_of_eq (G6 x) (wpAny_bind (wpAny_holding (wpAny_mono h₅ (λYL s₆ h₆=>?_) λ_ _ h'=>h'.elim))))))) λ_ _ h'=>h'.elim);refine wpAny_bind (wpAny_runOwn (codeAny_mono h₆ λr s₇ EO=>?_));let⟨⟨f,hf⟩,hm⟩:=EO;subst hf;exact wpAny_pure ⟨rfl,hm⟩
end
section
variable {X:Cx} {N:List Str} {scope:Scope}
def HZ(wi:TI)(acc:Addr)(g:TG)(tt:TT)(te:TE):L2.St->Hp->(L2.St->Hp->Prop)->Prop:=fun σ H Nx=>wi σ H λJ H1 =>
 ∃ W:Nat->Nat->L2.St->Hp->Prop,(∃ m,W 0 m σ H1)/\∀ i m σ H,W i m σ H->
  (J.stop i H/\Nx σ H)\/(J.go i H/\∃ N2:L2.St->Hp->Prop,(∀ σ' H',N2 σ' H'->∃ m',m'<m/\W (i+1) m' σ' H')/\∀ x H',J.Nb i H x H'->g x σ H' fun σ2 H2=>tt σ2 H2 λb H3 =>
   if b=true then te σ2 H3 λv H4=>∃ xs,H4 acc=⇑(.lst xs)/\↑xs<sizeLine/\N2 σ2 (aO H4 acc (.lst (xs++[v]))) else N2 σ2 H3)
theorem Lw{Y:Cx}{iter:Expr}{Ia:TI}{g2:TG}{Ib:TT}{te:TE}(hc:Y.calm=true)(hxe:Y.xe=λ_ _=>False)(hi:PI Y qf dD Ia)(hg:PG Y qf g2)(ht:Lr Y iW Ib)(he:PE Y jP te)
  {ak:List (Addr × Obj)} {s:Shared} {σ:L2.St} {H:Hp} {Nx:L2.St->Hp->Prop} (I:Inv Y ak σ H s) (h:HZ Ia acc g2 Ib te σ H Nx) :
  wpAny (model Y.prog Y.w) Y.A (eval dD Y.env) (λx s₅=>wpAny (model Y.prog Y.w) Y.A (pyIter x) (λYL s₆ =>
   codeAny (model Y.prog Y.w) Y.A (.compStart (.ListComp jP [⟨tg,iter,jD,0⟩,⟨qf,dD,iW,0⟩] scope pos) 1 YL ↥acc Y.env) (λr s₇=>(∃ f,r=.ok f)/\∃ σ' H',Inv Y ak σ' H' s₇/\Nx σ' H') s₆) (λ_ _=>False) s₅) (λ_ _=>False) s:=by
 have YM:=hi ak s σ H _ I h;have hg':=hg;have ht':=ht;have he':=he;unfold PG at hg';unfold Lr at ht';unfold PE at he';rw[hxe]at YM hg' ht' he';refine cL YM λv s1 h1=>cL h1 λX8 s2 h2=>?_;let⟨it,fp,tn,J,H2,e,I2,T,st2,f2,W,⟨m0,w0⟩,oH⟩:=h2;subst e;have sU:∀ {H':Hp},(∀ b∈fp,H' b=none)->∀ b∈fp,oJ Y ak H' b:=λhn b hb=>⟨hn b hb,(f2 b hb).2⟩
 have loop:codeAny (model Y.prog Y.w) Y.A (.compLoop (.ListComp jP [⟨tg,iter,jD,0⟩,⟨qf,dD,iW,0⟩] scope pos) 1 ↥it ↥acc Y.env) (λr s₇=>(∃ f,r=.ok f)/\∃ σ' H',Inv Y ak σ' H' s₇/\Nx σ' H') s2:=by
  refine Vg (λn s'=>∃ i σ' H',Inv Y ak σ' H' s'/\tn i s'.heap/\(∀ b∈fp,H' b=none)/\W i n σ' H') ?_ m0 ⟨0,σ,H2,I2,st2,λb hb=>(f2 b hb).1,w0⟩;rintro n s6 ⟨i,σ6,H6,I6,TL,Qo,w6⟩;rcases oH i n σ6 H6 w6 with ⟨stop,qn⟩|⟨go,N2,hN,step⟩
  ·refine cL (T.done Y rfl rfl rfl hc i ak s6 σ6 H6 _ I6 (sU Qo) TL stop) λr s7 Hr=>?_;let⟨hr,I7⟩:=Hr;subst hr;exact⟨⟨Y⟩,σ6,H6,I7,qn⟩
  ·refine cL (T.item Y rfl rfl rfl hc i ak s6 σ6 H6 _ I6 (sU Qo) TL go) λr s7 Ho=>?_;let⟨u,hr,h7⟩:=Ho;subst hr;refine cL h7 λ_ s8 AF=>?_;let⟨x,H8,I8,r8,y8,N9,EB⟩:=AF;have YN:=I8.pinned (sU EB) (T.obj _ _ N9);refine cL (hg' _ s8 σ6 H8 x u _ YN r8 (step x H8 y8)) λ_ s9 EM=>?_;let⟨σ9,H9,I9,q9⟩:=EM;refine cL (ht' _ s9 σ9 H9 _ I9 q9) λok s10 AG=>?_;let⟨MR,TM,BA⟩:=AG
   have again:∀ {σ7:L2.St} {H7:Hp} {vH:Shared},Inv Y (ak++sS fp s8.heap) σ7 H7 vH->N2 σ7 H7->∃ m,m<n/\∃ i σ' H',Inv Y ak σ' H' vH/\tn i vH.heap/\(∀ b∈fp,H' b=none)/\W i m σ' H':=λ{σ7 H7 vH} I7 n7=>by
    let⟨m',hm,w7⟩:=hN σ7 H7 n7;refine⟨m',hm,i+1,σ7,H7,I7.nQ,T.keep _ _ _ N9 λb hb o e=>(I7.pin (b,o) (nP _ (nP _ (gP hb e)))).1,λb hb=>?_,w7⟩;let⟨o,e,d⟩:=T.obj _ _ N9 b hb;exact (I7.pin (b,o) (nP _ (nP _ (gP hb e)))).2.1
   cases ok with
   | false =>
    rw[if_neg fL]at BA;exact again TM BA
   | true =>
    rw[if_pos rfl]at BA;refine cL (he' _ s10 σ9 MR _ TM BA) λv vH EN=>?_;let⟨y,YO,I11,r11,xs,hx,hz,n11⟩:=EN;have ap:=bT _ vH σ9 YO ↥acc [y] ↥acc [v] (λ_ H'=>N2 σ9 H') I11 rfl (.cons r11 .nil) ⟨_,xs,y,V,hx,hz,n11⟩;rw[hxe]at ap;exact cL ap λ_ qg ⟨_,MS,I12,_,Vi⟩=>again I12 Vi
 exact Rh loop (T.self _ _ _ _ _ st2 loop)
theorem Fb{lo:Int}{k:Nat}{g:TG}{tt:TT}{te:TE}{σ:L2.St}{H:Hp}{Nx:L2.St->Hp->Prop}(Pv:Nat->L2.St->Hp->Prop)(h0:Pv 0 σ H)
  (hs:∀ i σ H,i<k->Pv i σ H->g (.int (lo+i)) σ H fun σ2 H2=>tt σ2 H2 λb H3=>if b=true then te σ2 H3 λv H4=>∃ ys,H4 acc=⇑(.lst ys)/\↑ys<sizeLine/\Pv (i+1) σ2 (aO H4 acc (.lst (ys++[v]))) else Pv (i+1) σ2 H3)
  (hd:∀ σ H,Pv k σ H->Nx σ H):∃ W:Nat->Nat->L2.St->Hp->Prop,(∃ m,W 0 m σ H)/\∀ i m σ H,W i m σ H->
  ((KW lo k).stop i H/\Nx σ H)\/((KW lo k).go i H/\∃ N2:L2.St->Hp->Prop,(∀ σ' H',N2 σ' H'->∃ m',m'<m/\W (i+1) m' σ' H')/\∀ x H',(KW lo k).Nb i H x H'->g x σ H' fun σ2 H2=>tt σ2 H2 λb H3 =>
   if b=true then te σ2 H3 λv H4=>∃ xs,H4 acc=⇑(.lst xs)/\↑xs<sizeLine/\N2 σ2 (aO H4 acc (.lst (xs++[v]))) else N2 σ2 H3):=by
 refine⟨λi m σ H=>m=k-i/\i<=k/\Pv i σ H,⟨k,by simp,Nat.zero_le _,h0⟩,?_⟩;rintro i m σ H ⟨rfl,hi,p⟩;by_cases pJ:i<k
 ·refine .inr ⟨pJ,Pv (i+1),fun σ' H' p'=>⟨k-(i+1),E,rfl,pJ,p'⟩,λx H' y=>?_⟩;let⟨e,y⟩:=y;subst e y;exact hs i σ _ pJ p
 ·have e:i=k:=by lia
  subst e;exact .inl ⟨Nat.le_refl _,hd σ H p⟩
end
theorem Rj{i:Nat}{v:V}{σ:L2.St}{H:Hp}{Q:L2.St->Bool->Hp->Prop}(h:Q (σ.set i (⇑v)) true H):rX i v σ H (fun σ2 H2=>N7 σ2 H2 (Q σ2)):=h
theorem Xi{σ:L2.St}{H:Hp}{Q:Bool->Hp->Prop}(h:Q true H):N7 σ H Q:=h
end cD
namespace fV
open L2 cD
class inductive Rk
 | mk (r:Addr) (row:Row) (_:vs=[↥r]) (_:b5 H r row) (_:(∀ p∈row,p.1<=p.2)) (_:↑(bI row)<=1000000) (_ :
 ∀ (n:Addr) (H':Hp),H' n=⇑(.lst ((bI row).map V.int))->aH H H'->H n=none->Q ↥n H')
def zl{row:Row}{i:Nat}{p:Int × Int}(h:row[i]?=⇑p):bI (row.take (i+1))=bI (row.take i)++fE p:=by
 rw[take_snoc h,cS,eX]
def sF(row:Row)(i:Nat):↑(bI (row.take i))<=↑(bI row):=by
 conv=>rhs;rw[← List.take_append_drop i row,cS,dM]
 lia
theorem zm{H0 H2:Hp}{q t:Addr}{bs:List Addr}{row:Row}{st en:Int}(Vj:H0 q=none)(s:aH H0 H2)(dH:H2 q=⇑(.lst (bs.map V.ref)))(hb:br H2 bs row)(ht:H2 t=none) :
  (aO (aO H2 t (.tup [.int st,.int en])) q (.lst (bs.map V.ref++[↥t]))) q=⇑(.lst ((bs++[t]).map V.ref))/\
  br (aO (aO H2 t (.tup [.int st,.int en])) q (.lst (bs.map V.ref++[↥t]))) (bs++[t]) (row++[(st,en)])/\aH H0 (aO (aO H2 t (.tup [.int st,.int en])) q (.lst (bs.map V.ref++[↥t]))):=by
 have Oa:q≠t:=aB dH ht;have s1:aH H2 (aO H2 t (.tup [.int st,.int en])):=ao ht _;refine⟨by rw[af,gC];rfl,?_,bJ Vj (s.trans s1) (aF q _ _)⟩;refine br.snoc ((hb.same s1).keep (s1 _ _ dH) (aF q _ _)) ?_;show aO _ q _ t=_;rw[aK Oa.symm,af]
theorem turned{H0 H2:Hp}{q t a:Addr}{bs:List Addr}{row:Row}{st en:Int}(Vj:H0 q=none)(s:aH H0 H2)(dH:H2 q=⇑(.lst (bs.map V.ref++[↥a])))(hb:br H2 bs row)(ht:H2 t=none) :
  (aO (aO H2 t (.tup [.int st,.int en])) q (.lst ((bs.map V.ref++[V.ref a]).set ↑bs (V.ref t)))) q=⇑(.lst ((bs++[t]).map V.ref))/\
  br (aO (aO H2 t (.tup [.int st,.int en])) q (.lst ((bs.map V.ref++[V.ref a]).set ↑bs (V.ref t)))) (bs++[t]) (row++[(st,en)])/\aH H0 (aO (aO H2 t (.tup [.int st,.int en])) q (.lst ((bs.map V.ref++[V.ref a]).set ↑bs (V.ref t)))):=by
 have Oa:q≠t:=aB dH ht;have s1:aH H2 (aO H2 t (.tup [.int st,.int en])):=ao ht _
 have e:(bs.map V.ref++[V.ref a]).set ↑bs (V.ref t)=(bs++[t]).map V.ref:=by
  have z:=uO (bs.map V.ref) (V.ref a) (V.ref t);rw[bW]at z;rw[z,gC];rfl
 rw[e];refine⟨af,?_,bJ Vj (s.trans s1) (aF q _ _)⟩;refine br.snoc ((hb.same s1).keep (s1 _ _ dH) (aF q _ _)) ?_;show aO _ q _ t=_;rw[aK Oa.symm,af]
def Ic(bs:List Addr)(a:Addr):JN ↑(bs.map V.ref++[V.ref a]) (-1)=some ↑bs:=by
 rw[dM,bW,gF];exact zj _
theorem BH{f:Row->Int × Int->Row}{row:Row}{i:Nat}{p:Int × Int}(h:row[i]?=⇑p):(row.take (i+1)).foldl f []=f ((row.take i).foldl f []) p:=foldl_take_succ f row [] i p h
def Fc(row:Row):∀ t:Row,↑(row.foldl cY t)<=↑t+↑row:=by
 induction row with
 | nil=>intro t;simp
 | cons p row ih =>
  intro t;have h1:=ih (cY t p)
  have h2:↑(cY t p)<=↑t+1:=by
   unfold cY;split
   ·lia
   ·exact xB _ _ _
  rw[kj,jS];lia
def zo(ns:List Int):∀ t:Row,↑(ns.foldl (λt n=>iV t n (n+1)) t)<=↑t+↑ns:=by
 induction ns with
 | nil=>intro t;simp
 | cons n ns ih =>
  intro t;have h1:=ih (iV t n (n+1));have h2:=xB t n (n+1);rw[kj,jS];lia
end fV
namespace fV
open Spec Rows L2 cD
class inductive Vk
 | mk (r:Addr) (row:Row) (_:vs=[↥r]) (_:b5 H r row) (_:↑row<=1000000) (_: ∀ H',aH H H'->Q (.int (lu row)) H')
end fV
namespace eY
open Spec Rows PySem.W L2
section
variable {P:Program} {w:World} {H H':Hp} {h h0 g:Heap} {a T:Addr} {C a0:Value} {o:HO}
def Rl(x:fF P w H h a o):∃ u,h.get? a=⇑u:=by
 cases o with
 | lst xs=>let⟨_,_,_,_,e⟩:=x;exact⟨_,e⟩
 | tup xs=>let⟨_,_,_,_,e,_⟩:=x;exact⟨_,e⟩
 | dK kvs=>let⟨_,_,_,_,_,_,_,e,_⟩:=x;exact⟨_,e⟩
 | dT kvs=>let⟨_,_,_,_,_,_,_,e,_⟩:=x;exact⟨_,e⟩
 | set S n=>let⟨_,_,_,_,e,_⟩:=x;exact⟨_,e⟩
 | ins C dx fs=>let⟨_,_,_,e,_⟩:=x;exact⟨_,e⟩
 | own y=>exact x
 | xd fs=>let⟨_,⟨_,_,_,e,_⟩,_⟩:=x;exact⟨_,e⟩
 | Ez lo hi=>let⟨_,_,_,e⟩:=x;exact⟨_,e⟩
 | Hi ob u=>exact⟨_,x.1⟩
 | QE ps=>exact⟨_,x⟩
 | met f y=>exact⟨_,x⟩
 | ext φ=>exact x.2.1
def J2(x:qh P w H h){b:Addr}(e:h.get? b=none):H b=none:=by
 cases q:H b with
 | none=>rfl
 | some u =>
  let⟨z,hz⟩:=Rl (x b u q);rw[e]at hz;cases hz
def BI{l:List Addr}{b:Addr}(e:(hideAll h l).get? b=none):b∈l\/h.get? b=none:=by
 by_cases hb:b∈l
 ·exact .inl hb
 ·right
  cases q:h.get? b with
  | none=>rfl
  | some u=>rw[hideAll_get l q hb]at e;cases e
def Fly(h0:Heap)(H:Hp)(h:Heap)(a T:Addr)(C a0:Value):Prop :=
 (∃ oe vs oT ts,h.get? a=⇑oe/\(oe.cls=C/\vs[0]?=⇑a0)/\oe.data=.fields vs/\vs[1]?=⇑↥T/\T≠a/\h.get? T=⇑oT/\oT.data=.fields ts/\ts[3]?=⇑.none)/\(H a=none/\H T=none)/\h0.get? a=none/\h0.get? T=none
theorem zq{fs hd:List Addr}{l':List Env}(u:Un fs [] H H' h0 h)(hok:qh P w H' h)(h1:∀ b o,h0.get? b=⇑o->b∉fs->b∉hd)(h2:∀ b∈hd,H' b=none)
  (h3:∀ b∈fs,∃ o,h.get? b=⇑o/\∀ vs,o.data≠.fields vs) (h4:∀ b∈hd,h0.get? b=none\/∃ o,h.get? b=⇑o/\∀ vs,o.data≠.fields vs)
  (ha:h0.get? a=none) (ha':H' a=none) (f:Heap.FlyingW (hideAll h hd) l' a C a0 g) (k:h.UpToSlots g) :
  Un fs [] H H' h0 g/\qh P w H' g/\∃ T,Fly h0 H' g a T C a0:=by
 have nil:∀ b:Addr,b∉([]:List Addr):=λb=>List.not_mem_nil;have kp:∀ b o,h.get? b=⇑o->b∉hd->g.get? b=⇑o:=λb o e n=>f.1 b o (hideAll_get hd e n);refine⟨⟨λb o e n hb _=>kp b o (u.keep b o e n hb (nil b)) (h1 b o e hb),λb o e n hb _=>?_,λb o e n _=>u.free b o e n (nil b),λb o e _=>?_,u.tups,u.AE,u.CL⟩,λb o e=>?_,?_⟩
 ·let⟨sl,e1⟩:=u.slot b o e n hb (nil b);let⟨o',e2,nf⟩:=h3 b hb;let⟨sl',e3⟩:=k b o' e2 nf;rw[e1]at e2;cases e2;exact⟨sl',e3⟩
 ·by_cases hb:b∈fs
  ·let⟨o',e2,nf⟩:=h3 b hb;let⟨sl',e3⟩:=k b o' e2 nf;exact⟨_,e3⟩
  ·let⟨o',e1⟩:=u.there b o e (nil b);exact⟨o',kp b o' e1 (h1 b o e hb)⟩
 ·refine (hok b o e).stay (λc v hc q=>kp c v q λhm=>?_) (λ_ q=>q) λ_ _ q=>q;have hn:=h2 c hm;rcases hc with rfl|hc
  ·rw[e]at hn;cases hn
  ·rw[hc]at hn;cases hn
 ·let⟨_,_,_,oe,vs,T,oT,ts,e1,e2,e3,e4,e5,e6,e7,e8,e9⟩:=f;exists T,⟨oe,vs,oT,ts,e1,e2,e3,e4,e6,e7,e8,e9⟩,⟨ha',?_⟩,ha
  ·rcases BI e5 with hm|hn
   ·exact h2 T hm
   ·exact J2 hok hn
  ·rcases BI e5 with hm|hn
   ·rcases h4 T hm with z|⟨o,eo,nf⟩
    ·exact z
    ·let⟨sl,eg⟩:=k T o eo nf;rw[e7]at eg;cases eg;exact absurd e8 (nf ts)
   ·cases q:h0.get? T with
    | none=>rfl
    | some o =>
     let⟨o',eo⟩:=u.there T o q (nil T);rw[hn]at eo;cases eo
def zu{zt:Heap}{l:List Env}(F:Fly h0 H h a T C a0)(S:h.FunFrames zt l):Heap.FlyingW (hideAll h (a::T::qe l)) l a C a0 h:=by
 let⟨⟨oe,vs,oT,ts,e1,e2,e3,e4,e5,e6,e7,e8⟩,_,_⟩:=F;refine⟨λb o e=>of_hideAll _ e,hideAll_none _ (uv),funFrames_hide S λenv he b hb=>?_,oe,vs,T,oT,ts,e1,e2,e3,e4,?_,e5,e6,e7,e8⟩
 ·exact nO _ (nO _ (List.mem_filterMap.mpr ⟨env,he,hb⟩))
 ·exact hideAll_none _ (nO _ uv)
end
def EC(P:Program)(w:World):Lf:=λzn H s E e s'=>∃ a T C a0 H',e=↥a/\(s'.os=s.os/\AllBare s'.gens)/\Un (qe zn) [] H H' s.heap s'.heap/\qh P w H' s'.heap/\Fly s.heap H' s'.heap a T C a0/\E C none H'
section
variable {X:Cx} {ak:List (Addr × Obj)} {σ:L2.St} {H H1:Hp} {s s':Shared} {a T:Addr} {C a0:Value}
def Ob(vQ:X.stack=X.env::X.zn)(hf:X.env.frame=⇑X.env.locals):qe X.stack=X.env.locals::X.fs:=by
 rw[vQ];unfold qe;rw[List.filterMap_cons,hf];rfl
theorem rB(I:Inv X ak σ H s):∀ b∈qe X.stack,∃ o,s.heap.get? b=⇑o/\∀ vs,o.data≠.fields vs:=λb hb=>(I.stack.mem hb).2
theorem Fd{l':List Env}{g:Heap}(I:Inv X ak σ H s)(os:s'.os=s.os)(bare:AllBare s'.gens)(u:Un (qe X.stack) [] H H1 s.heap s'.heap)(hok:qh X.prog X.w H1 s'.heap)(F:Fly s.heap H1 s'.heap a T C a0)
  (f:Heap.FlyingW (hideAll s'.heap (a::T::qe X.stack)) l' a C a0 g) (k:s'.heap.UpToSlots g):Inv X ak σ H1 { s' with heap:=g }:=by
 have I1:Inv X ak σ H1 s':=I.EJ (ch:=[]) os u hok bare (λb z=>absurd z (by simp));let⟨_,⟨na,nT⟩,sa,sT⟩:=id F
 have p1:∀ b o,s.heap.get? b=⇑o->b∉qe X.stack->b∉a::T::qe X.stack:=λb o e hb hm=>by
  rcases List.mem_cons.mp hm with rfl|hm
  ·rw[sa]at e;cases e
  rcases List.mem_cons.mp hm with rfl|hm
  ·rw[sT]at e;cases e
  ·exact hb hm
 have p2:∀ b∈a::T::qe X.stack,H1 b=none:=λb hm=>by
  rcases List.mem_cons.mp hm with rfl|hm
  ·exact na
  rcases List.mem_cons.mp hm with rfl|hm
  ·exact nT
  ·exact I1.ux b hm
 have p4:∀ b∈a::T::qe X.stack,s.heap.get? b=none\/∃ o,s'.heap.get? b=⇑o/\∀ vs,o.data≠.fields vs:=λb hm=>by
  rcases List.mem_cons.mp hm with rfl|hm
  ·exact .inl sa
  rcases List.mem_cons.mp hm with rfl|hm
  ·exact .inl sT
  ·exact .inr (rB I1 b hm)
 let⟨u',HL,_⟩:=zq (hd:=a::T::qe X.stack) u hok p1 p2 (rB I1) p4 sa na f k;exact I.EJ (s':={ s' with heap:=g }) (ch:=[]) os u' HL bare (λb z=>absurd z (by simp))
end
section
variable {P:Program} {w:World} {K:PySem.W.Frag} {mg:Str->Option Value} {zt:Heap} {N:List Str} {cP:Str} {scope:Scope} {f:Addr} {cd:Value} {A:Around} {zn:List Env} {s:Shared} {H:Hp} {E:XK}
abbrev Lx(P:Program)(w:World)(K:PySem.W.Frag)(mg:Str->Option Value)(zt:Heap)(N:List Str)(cP:Str)(scope:Scope)(f:Addr)(cd:Value)(A:Around)(zn:List Env)(s:Shared)(H:Hp)(E:XK):Cx :=
 EW (EC P w) P w K mg zt N cP scope f cd A zn s H E
def zw:jK (EC P w) (Lx P w K mg zt N cP scope f cd A zn s H E) E:=by
 intro ak σ H1 s1 e s' I h;let⟨a,T,C,a0,H',rfl,⟨os,bare⟩,u,hok,F,q⟩:=h;have I1:Inv (Lx P w K mg zt N cP scope f cd A zn s H E) ak σ H' s':=I.EJ (ch:=[]) os u hok bare (λb z=>absurd z (by simp));let⟨_,⟨na,nT⟩,sa,sT⟩:=id F
 have old:∀ b,s1.heap.get? b=none->s.heap.get? b=none:=λb e=>by
  cases z:s.heap.get? b with
  | none=>rfl
  | some o =>
   let⟨o',e'⟩:=I.zt.there b o z (λm=>absurd (show b∈([]:List Addr) from m) (by simp));rw[e]at e';cases e'
 refine wpAny_leaves_onW (base:=hideAll s'.heap (a::T::qe (Lx P w K mg zt N cP scope f cd A zn s H E).stack)) I.ok.frames rfl (zu F I1.stack) λg fl k=>?_
 have p1:∀ b o,s.heap.get? b=⇑o->b∉qe zn->b∉a::T::qe (Lx P w K mg zt N cP scope f cd A zn s H E).stack:=λb o e hb hm=>by
  rcases List.mem_cons.mp hm with rfl|hm
  ·rw[old b sa]at e;cases e
  rcases List.mem_cons.mp hm with rfl|hm
  ·rw[old b sT]at e;cases e
  ·rw[Ob rfl rfl]at hm;rcases List.mem_cons.mp hm with rfl|hm
   ·exact absurd (Heap.lt_size e) (Nat.not_lt.mpr I.ok.above)
   ·exact hb hm
 have p2:∀ b∈a::T::qe (Lx P w K mg zt N cP scope f cd A zn s H E).stack,H' b=none:=λb hm=>by
  rcases List.mem_cons.mp hm with rfl|hm
  ·exact na
  rcases List.mem_cons.mp hm with rfl|hm
  ·exact nT
  ·exact I1.ux b hm
 have p4:∀ b∈a::T::qe (Lx P w K mg zt N cP scope f cd A zn s H E).stack,s.heap.get? b=none\/∃ o,s'.heap.get? b=⇑o/\∀ vs,o.data≠.fields vs:=λb hm=>by
  rcases List.mem_cons.mp hm with rfl|hm
  ·exact .inl (old b sa)
  rcases List.mem_cons.mp hm with rfl|hm
  ·exact .inl (old b sT)
  ·exact .inr (rB I1 b hm)
 let⟨u',HL,T',F'⟩:=zq (h0:=s.heap) (fs:=qe zn) (hd:=a::T::qe (Lx P w K mg zt N cP scope f cd A zn s H E).stack) I1.zt hok p1 p2 (λb hb=>(I1.rN.mem hb).2) p4 (old a sa) na fl k;exact⟨a,T',C,a0,H',rfl,⟨I1.os,bare⟩,u',HL,F',q⟩
def Oc(X:Cx)(E:XK):Prop:=∀ (ak:List (Addr × Obj)) (σ:L2.St) (H:Hp) (s:Shared) (h':Heap) (e:Addr) (C:Value) (args:List Value),Inv X ak σ H s->Heap.MadeExcOf s.heap h' e C args->E C none H->X.xe ↥e { s with heap:=h' }
def Vl:Oc (Lx P w K mg zt N cP scope f cd A zn s H E) E:=by
 intro ak σ H1 s1 h' e C args I M q
 have old:∀ b,s1.heap.get? b=none->s.heap.get? b=none:=λb e=>by
  cases z:s.heap.get? b with
  | none=>rfl
  | some o =>
   let⟨o',e'⟩:=I.zt.there b o z (λm=>absurd (show b∈([]:List Addr) from m) (by simp));rw[e]at e';cases e'
 refine wpAny_leaves_madeW (base:=hideAll s1.heap (qe (Lx P w K mg zt N cP scope f cd A zn s H E).stack)) (h:=s1.heap) I.ok.frames rfl (λb o e=>of_hideAll _ e) (funFrames_hide I.stack λenv he b hb=>List.mem_filterMap.mpr ⟨env,he,hb⟩) M λg t fl _ _ k=>?_;have k1:s1.heap.UpToSlots g:=(Heap.UpToSlots.of_keeps M.keeps).trans k
 have p1:∀ b o,s.heap.get? b=⇑o->b∉qe zn->b∉qe (Lx P w K mg zt N cP scope f cd A zn s H E).stack:=λb o e hb hm=>by
  rw[Ob rfl rfl]at hm;rcases List.mem_cons.mp hm with rfl|hm
  ·exact absurd (Heap.lt_size e) (Nat.not_lt.mpr I.ok.above)
  ·exact hb hm
 let⟨u',HL,T',F'⟩:=zq (h0:=s.heap) (fs:=qe zn) (hd:=qe (Lx P w K mg zt N cP scope f cd A zn s H E).stack) I.zt I.hok p1 (λb hm=>I.ux b hm) (λb hb=>(I.rN.mem hb).2) (λb hm=>.inr (rB I b hm)) (old e M.new) (J2 I.hok M.new) fl k1;exact⟨e,T',C,↥t,H1,rfl,⟨I.os,I.bare⟩,u',HL,F',q⟩
theorem okX{x cP:Str}{st:Stmt}{f:Addr}{N ps:List Str}{k:Nat}{sp:Sp}(F:NL K x cP st f fd)(S:aG N ps (az st))(len:∀ vs H Q E,sp vs H Q E->↑vs=↑ps)
  (uA:∀ (cH:Value) (A:Around) (zn:List Env) (s:Shared) (H:Hp) (vs:List V) (Q:VK) (E:XK),gK k (A.deeper (envOfC cP (az st) s.heap.objs.size f cH))->sp vs H Q E->
   ∃ t,EA (Lx P w K mg zt N cP (az st) f cH A zn s H E) (ig st) t/\t { nx:=λ_ H'=>Q .gj H',rt:=Q } (start N vs) H):aX P w K mg zt (EC P w) (k+1) f fd ps sp:=by
 let⟨oc,od,kV,vY,pm,an,cH,ct,Lh,rfl,lk,KS⟩:=F.ex;exact Tu lk KS S len λA zn s H vs Q E hr Hz=>uA cH A zn s H vs Q E hr Hz
end
section
variable {X:Cx}
def Rm{K:Frag}{h:Heap}{YQ:List Value}{BJ:String}{x:Str}{mg:Str->Option Value}(I:K.In h)(m:mg x=⇑↥C)(q:excIn K C YQ BJ=true):OwnCls x C YQ BJ mg h:=by
 exists m;unfold excIn at q;split at q
 case h_2=>cases q
 rename_i dd cd sl ho;split at q
 case h_2=>cases q
 rename_i c1 bm k0 k1 k2 k3 n k5 hm hs;simp only[Bool.and_eq_true,beq_iff_eq,Bool.not_eq_true']at q;let⟨⟨⟨⟨⟨e1,e2⟩,ada⟩,ht⟩,Tv⟩,hni⟩:=q;cases e1;cases e2
 cases cd with
 | mk nm bs mro ns qn hd sn sub ab col del =>
  cases hm;cases ada
  cases sl with
  | mk l =>
   have hs':l=[k0,k1,k2,k3,⇑(.builtin BJ),k5]:=hs;subst hs';exact⟨bm,ns,nm,qn,bs,hd,sn,sub,ab,col,dd,k0,k1,k2,k3,k5,_,I _ _ ho,.of_isNs (isNs_of_in I Tv),nsMap_none_of_in I Tv hni,tail_of_in I ht⟩
def Vm(C:Addr)(E:XK)(t:TA):TS:=λ_ σ H=>t σ H λvs H1=>↑vs<=sizeLine/\E ↥C none H1
theorem Od{E:XK}{x:Str}{YQ:List Value}{BJ Vn B:String}{e:Expr}{es:List Expr}{t:TA}{np pos:Pos}(FB:ExcBaseFacts B BJ Vn YQ)(hx:excIn X.K C YQ BJ=true)(hm:X.mg x=⇑↥C)(hc:X.calm=true)(hr:Oc X E)
  (ha:PA X (e::es) t) (hg:Gl X x:=by rfl) (yZ:(x == ("__debug__":Str))=false:=by decide) (he:starEach (e::es) X.env=(false,eval e X.env)::starEach es X.env:=by rfl) (xx:(backTo mG (starEach es X.env)).any (·.1)=false:=by rfl) :
  PS X (.Raise (⇑(.Call (.Name x np) (e::es) [] mG)) none pos) (Vm C E t):=by
 intro ak s σ H D I h;let⟨tl,Nd,c1,c2,c3,c4,c5,c6,c7,c8,c9,d0,d1,d2,d3,d5,mN,hC,hN,hni,T⟩:=(Rm I.mod.Xd hm hx).obj;refine wpAny_Raise_call_subT (nm:=c1) (q:=c2) (N:=Nd) (bs:=c3) (hdct:=c4) (sn:=c5) (sub:=c6) (ab:=c7) (col:=c8) (dd:=c9) (k0:=d0) (k1:=d1) (k2:=d2) (k3:=d3) (k5:=d5) FB (T.hasType FB.hasBase) (I.ok.hd hc) (by rw[he];show (false || (backTo mG (starEach es X.env)).any (·.1))=false;rw[xx];rfl) hni (oE I hg hm ⟨rfl,?_⟩ yZ);rw[he];have hw:=ha mG ak s σ H _ I h;rw[he]at hw;refine Calls.evalArgs_plain (cL hw λus s1 AG=>?_);let⟨vs,H1,I1,r,q1,q2⟩:=AG;exact⟨rfl,by rw[← ↑r];exact q1,I1.bk _ _ hC,hN.keeps I1.bk,T.keeps I1.bk,λh' e M=>hr ak σ H1 s1 h' e _ _ I1 M q2⟩
end
section
variable {X:Cx} {x:Str} {st:Stmt} {ps:List Str} {f:Addr} {fd:FuncData} {j k:Nat} {sp:Sp} {e:Expr} {es:List Expr} {t:TA} {p pos:Pos} {E:XK}
theorem Rn(d:fV.bX X.K X.mg x st ps f fd)(G:aX X.prog X.w X.K X.mg X.zt (EC X.prog X.w) k f fd ps sp)(hr:gK j X.A)(hx:jK (EC X.prog X.w) X E)
  (ha:PA X (e::es) t) (Lp:k<=j:=by first|decide|lia) (hg:Gl X x:=by rfl) (yZ:(x == ("__debug__":Str))=false:=by decide) (he:starEach (e::es) X.env=(false,eval e X.env)::starEach es X.env:=by rfl)
  (xx:(backTo pos (starEach es X.env)).any (·.1)=false:=by rfl):PE X (.Call (.Name x p) (e::es) [] pos) (EV sp [] E t) :=
 CU G (hr.mono Lp) hg d.m d.F.kp d.b .nil hx ha yZ he xx
theorem Oe{σ:L2.St}{H:Hp}{s:Shared}{Q:VK}{E':Value->Shared->Prop}(d:fV.bX X.K X.mg x st ps f fd)(G:aX X.prog X.w X.K X.mg X.zt (EC X.prog X.w) k f fd ps sp)(hr:gK j X.A)(ha:PA X.Hq (e::es) t)(I:Inv X ak σ H s)
  (h:t σ H λvs H1=>sp vs H1 Q E) (hE:∀ H1 s1 e s',Inv X ak σ H1 s1->EC X.prog X.w X.stack H1 s1 E e s'->E' e s')
  (Lp:k<=j) (hg:Gl X x) (yZ:(x == ("__debug__":Str))=false) (he:starEach (e::es) X.env=(false,eval e X.env)::starEach es X.env)
  (xx:(backTo pos (starEach es X.env)).any (·.1)=false):wpAny (model X.prog X.w) X.A (eval (.Call (.Name x p) (e::es) [] pos) X.env) (EP X ak σ Q) E' s:=by
 refine wpAny_Call_Name_kw (oE I hg d.m ?_ yZ);refine callWith_K (h₀:=X.zt) I.ok.mod.Xd d.F.kp (wpAny_mono (ha pos ak s σ H _ (I.yQ _) h) (λus s1 ⟨vs,H1,I1,r,q⟩=>⟨I1.ng.uw,?_⟩) λ_ _ z=>False.elim z) he xx;have I1:=I1.ng;have r2:bZ vs us:=r;have hl:↑(us++[])=↑ps:=by rw[iS,← ↑r2];exact G.len _ _ _ _ q
 have B:=d.b s1 us I1.uw hl;rw[iS]at B;refine wpAny_call (codeAny_mono (G.run X.A X.stack s1 H1 ⟨us,[]⟩ us vs Q E (hr.mono Lp) I1.UP B r2 q) λr s' hq=>?_)
 cases r with
 | error e=>exact hE H1 s1 e s' I1 hq
 | ok fl =>
  cases fl with
  | ret u=>exact I1.after hq
  | next=>exact False.elim hq
  | brk=>exact False.elim hq
  | cont=>exact False.elim hq
end
abbrev Vo(X:Cx)(a:Addr):Cx:={ X with A:=X.A.mark (⇑↥a),calm:=false,xe:=λ_ _=>False }
section
variable {X:Cx} {ak:List (Addr × Obj)} {σ:L2.St} {H:Hp} {s:Shared} {a:Addr}
theorem okH(ok:X.Ok)(a:Addr):(Vo X a).Ok :=
 { mod:=ok.mod,kind:=ok.kind,glob:=ok.glob,blt:=ok.blt,above:=ok.above,inj:=ok.inj,has:=ok.has,Uv:=ok.Uv,hd:=λz=>(fL z).elim,frames:=ok.frames,stk:=ok.stk,exf:=ok.exf,bs:=ok.bs,Qk:=ok.Qk,Hj:=ok.Hj,KQ:=ok.KQ,rN:=ok.rN,QG:=ok.QG }
theorem inH(I:Inv X ak σ H s)(a:Addr):Inv (Vo X a) ak σ H s:={ ok:=okH I.ok a,os:=I.os,bare:=I.bare,zt:=I.zt,loc:=I.loc,cell:=I.cell,free:=I.free,mJ:=I.mJ,pin:=I.pin,hok:=I.hok,len:=I.len }
theorem Ro(ok:X.Ok)(I:Inv (Vo X a) ak σ H s):Inv X ak σ H s:={ ok:=ok,os:=I.os,bare:=I.bare,zt:=I.zt,loc:=I.loc,cell:=I.cell,free:=I.free,mJ:=I.mJ,pin:=I.pin,hok:=I.hok,len:=I.len }
def spH(ok:X.Ok){D:Ends}{f:Flow}{s':Shared}(h:SP (Vo X a) ak D f s'):SP X ak D f s':=by
 cases f with
 | next=>let⟨σ',H',I,q⟩:=h;exact⟨σ',H',Ro ok I,q⟩
 | brk=>let⟨σ',H',I,q⟩:=h;exact⟨σ',H',Ro ok I,q⟩
 | cont=>let⟨σ',H',I,q⟩:=h;exact⟨σ',H',Ro ok I,q⟩
 | ret u=>let⟨v,σ',H',I,r,q⟩:=h;exact⟨v,σ',H',Ro ok I,r,q⟩
theorem Vp{y:Str}{tb:TS}{D:Ends}{e:Value}{s':Shared}(vQ:X.stack=X.env::X.zn)(hf:X.env.frame=⇑X.env.locals)(hmy:X.mg y=⇑↥Cy)(hx:exmOne X.K ↥C ↥Cy=⇑true)
  (hb:∀ a,EA (Vo X a) (b0::Fe) tb) (hg:Gl X y) (yZ:(y == ("__debug__":Str))=false) (I:Inv X ak σ H s) (h:EC X.prog X.w X.stack H s (λc _ H2=>c=↥C/\tb D σ H2) e s') :
  wpAny (model X.prog X.w) X.A (noteFrame e X.env) (λ_ s₂=>wpAny (model X.prog X.w) X.A (setFlight e none) (λ_ s₃=>wpAny (model X.prog X.w) X.A (handleBy e X.env [.ExceptHandler (⇑(.Name y np)) none (b0::Fe) Vq]) (SP X ak D) X.xe s₃) X.xe s₂) X.xe s':=by
 let⟨a,T,c,a0,H2,rfl,⟨os,bare⟩,u,hok,F,rfl,q⟩:=h;have I1:Inv X ak σ H2 s':=I.EJ (ch:=[]) os u hok bare (λb z=>absurd z (by simp));have G0:=zu F I1.stack
 have G0':Heap.FlyingW (hideAll s'.heap (a::T::qe X.stack)) (X.env::X.zn) a ↥C a0 s'.heap:=by
  have z:=G0;rw[vQ]at z;rw[vQ];exact z
 refine wpAny_looks_onW (I.ok.frames.trans (by rw[vQ])) hf G0' λh4 adf k4=>wpAny_landsW adf λh5 fl5 k5=>?_;have I5:Inv X ak σ H2 { s' with heap:=h5 }:=Fd I os bare u hok F fl5 (k4.trans k5);let⟨ob,hob,hcl⟩:=fl5.there;have LT:Looks (model X.prog X.w) h5 (typeOf ↥a) ↥C:=hcl ▸ (Looks.ld hob).andThen .now;refine wpAny_handleBy_cons (codeAny_handlers_test (oE (X:=Vo X a) (inH I5 a) hg hmy ?_ yZ)) (by intro z;cases z);refine (exm_one (M:=model X.prog X.w) I5.uw LT hx).here ?_;refine codeAny_handlers_suite (lands_againW fl5 λh6 fl6 k6=>?_);have I6:Inv X ak σ H2 { s' with heap:=h6 }:=Fd I os bare u hok F fl6 ((k4.trans k5).trans k6);exact wpAny_mono (hb a ak _ σ H2 D (inH I6 a) q) (λfl s2 z=>spH I6.ok z) λ_ _ z=>False.elim z
def YR(sp:Sp)(t:TA)(C:Addr)(tb:TS):TS:=λD σ H=>t σ H λvs H1=>sp vs H1 (λ_ H2=>D.nx σ H2) (λc _ H2=>c=↥C/\tb D σ H2)
variable {x y:Str} {st:Stmt} {ps:List Str} {f:Addr} {fd:FuncData} {j k:Nat} {sp:Sp} {e:Expr} {es:List Expr} {t:TA} {p pos YS Ie aiO np Vq:Pos} {C Cy:Addr} {b0:Stmt} {Fe:List Stmt} {tb:TS}
theorem J3(d:fV.bX X.K X.mg x st ps f fd)(G:aX X.prog X.w X.K X.mg X.zt (EC X.prog X.w) k f fd ps sp)(hr:gK j X.A)(ha:PA X.Hq (e::es) t)(hmy:X.mg y=⇑↥Cy)(hx:exmOne X.K ↥C ↥Cy=⇑true)
  (hb:∀ a,EA (Vo X a) (b0::Fe) tb) (vQ:X.stack=X.env::X.zn:=by rfl) (hf:X.env.frame=⇑X.env.locals:=by rfl) (hgy:Gl X y:=by rfl) (hdy:(y == ("__debug__":Str))=false:=by decide)
  (Lp:k<=j:=by first|decide|lia) (hg:Gl X x:=by rfl) (yZ:(x == ("__debug__":Str))=false:=by decide) (he:starEach (e::es) X.env=(false,eval e X.env)::starEach es X.env:=by rfl)
  (xx:(backTo pos (starEach es X.env)).any (·.1)=false:=by rfl) (hs:swapsWith (.Call (.Name x p) (e::es) [] pos) none YS.line X.env=pure false:=by rfl) :
  PS X (.Try [.Expr (.Call (.Name x p) (e::es) [] pos) YS] [.ExceptHandler (⇑(.Name y np)) none (b0::Fe) Vq] [] [] Ie) (YR sp t C tb):=by
 intro ak s σ H D I h;refine wpAny_Try_except (wpAny_execs_cons (wpAny_Expr_any (cL (Oe d G hr ha I h (λH1 s1 e s' I1 z=>?_) Lp hg yZ he xx) λv s1 ⟨z,H1,I1,r1,q1⟩=>?_) I.quiet hs))
 ·exact Vp vQ hf hmy hx hb hgy hdy I1 z
 ·exact wpAny_execs_nil (wpAny_execs_nil ⟨σ,H1,I1,q1⟩)
end
end eY
namespace eY
open Spec Rows L2
section
variable {X:Cx}
abbrev TJ:=L2.St->Hp->(Hp->Prop)->Prop
def PJ(X:Cx)(es:List Expr)(m:Nat)(t:TJ):Prop:=∀ (ak:List (Addr × Obj)) (s:Shared) (σ:L2.St) (H:Hp) (tS:Str) (Q:Hp->Prop),L2.Inv X ak σ H s->t σ H Q->↑tS+m<=1000000->
 wpAny (model X.prog X.w) X.A (joinParts tS (evalEach es X.env)) (λu s'=>∃ x tk H',u=.str x tk/\L2.Inv X ak σ H' s'/\Q H') X.xe s
theorem Vr:PJ X [] 0 (λ_ H Q=>Q H):=λak s σ H tS Q I h hl =>
 joinParts_nil ⟨tS,_,H,rfl,I.tok _,h⟩ (iC (Nat.lt_of_le_of_lt hl (by decide)))
def yE{tS y:Str}{m n:Nat}(h:↑tS+(n+m)<=1000000)(hy:↑y<=n):↑(tS++y)<=sizeLine/\↑(tS++y)+m<=1000000:=by
 rw[PySem.strLen_append];refine⟨Nat.le_of_lt (Nat.lt_of_le_of_lt (show ↑tS+↑y<=1000000 by lia) (by decide)),E⟩
def Of{x:Str}{j:Nat}{es:List Expr}{m:Nat}{t:TJ}(h:PJ X es m t):PJ X (.Constant (.str x) j pos::es) (↑x+m) t:=by
 intro ak s σ H tS Q I q hl;refine joinParts_consE (joinParts_cons (Calls.Constant_str ?_));have z:=yE (y:=x) hl (fK _);exact⟨z.1,h ak _ σ H _ Q (I.tok _) q z.2⟩
def Og{e:Expr}{te:TE}{es:List Expr}{m:Nat}{t:TJ}(he:PE X e te)(h:PJ X es m t):PJ X (.FormattedValue e (-1) none pos::es) (1921+m) (fun σ H Q=>te σ H λv H1=>∃ i:Int,v=.int i/\i.natAbs.log2<1920/\t σ H1 Q):=by
 intro ak s σ H tS Q I q hl;refine joinParts_consE (joinParts_cons (FormattedValue_plain (cL (he ak s σ H _ I q) λv s1 EN=>?_)));let⟨x,H1,I1,r1,i,e1,hi,q1⟩:=EN;subst e1;let⟨tk,rfl⟩:=r1;refine formatField_int_small hi ?_;have z:=yE (y:=Str.ofString (toString i)) hl (int_text_len_1921 hi);exact⟨z.1,h ak _ σ H1 _ Q (I1.tok _) q1 z.2⟩
def Rp{m:Nat}{t:TJ}(h:PJ X (v1::v2::sQ) m t)(hm:m<=1000000:=by decide +kernel):PE X (.JoinedStr (v1::v2::sQ) pos) (fun σ H Q=>t σ H λH1=>∀ x,Q (.str x) H1):=by
 intro ak s σ H Q I q;refine JoinedStr_many (cL (h ak s σ H Str.empty _ I q (by show 0+m<=_;lia)) λu s1 EO=>?_);let⟨x,tk,H1,e,I1,q1⟩:=EO;subst e;exact⟨.str x,H1,I1,⟨Y⟩,q1 x⟩
def Rq(r r' r2:R2)(ta tb tc td:TE):TT:=fun σ H Q=>ta σ H λx H1=>tb σ H1 λy H2=>r x y H2 λz H3=>∃ k,z=.bl k/\
 (if k=true then tc σ H3 λu H4=>r' y u H4 λz' H5=>∃ k',z'=.bl k'/\(if k'=true then td σ H5 λv H6=>r2 u v H6 λz2 H7=>∃ k2,z2=.bl k2/\Q k2 H7 else Q false H5) else Q false H3)
theorem Ly{op G5 Vs:CmpOp}{r r' r2:R2}{a b c d:Expr}{ta tb tc td:TE}(ho:sV X (compareOp op) r)(KR:sV X (compareOp G5) r')(ho2:sV X (compareOp Vs) r2)(ha:PE X a ta)(hb:PE X b tb)(hc:PE X c tc)(hd:PE X d td)
  (hm:lastMarks [op,G5,Vs] [b,c,d]=false:=by with_unfolding_all rfl):PT X (.Compare a [op,G5,Vs] [b,c,d] pos) (Rq r r' r2 ta tb tc td):=by
 intro ak s σ H Q I h
 refine isTrue_chain (cL (ha ak s σ H _ I h) λv s1 ⟨x,H1,I1,r1,q1⟩=>test_link (cL (hb ak s1 σ H1 _ I1 q1) λu s2 ⟨y,H2,I2,r2',q2⟩ =>
  cL (ho ak s2 σ H2 x y v u _ I2 r1 r2' q2) λz s3 ⟨z',H3,I3,r3,k,e,q3⟩=>?_)) hm
 subst e;cases r3;refine wpAny_truthy_bool ?_
 cases k with
 | false=>exact ite_ff ⟨H3,I3,q3⟩
 | true =>
  refine ite_tt (test_link (cL (hc ak s3 σ H3 _ I3 q3) λv4 s4 ⟨x4,H4,I4,r4,q4⟩=>cL (KR ak s4 σ H4 y x4 u v4 _ I4 r2' r4 q4) λz5 s5 Hr=>?_));let⟨x5,H5,I5,r5,k5,e5,q5⟩:=Hr;subst e5;cases r5;refine wpAny_truthy_bool ?_
  cases k5 with
  | false=>exact ite_ff ⟨H5,I5,q5⟩
  | true =>
   refine ite_tt (test_last (cL (hd ak s5 σ H5 _ I5 q5) λv6 s6 ⟨x6,H6,I6,r6,q6⟩=>cL (ho2 ak s6 σ H6 x4 x6 v4 v6 _ I6 r4 r6 q6) λz7 s7 Ho=>?_));let⟨x7,H7,I7,r7,k7,e7,q7⟩:=Ho;subst e7;cases r7;exact wpAny_truthy_bool ⟨H7,I7,q7⟩
end
end eY
namespace fV
open L2 cD eY
def bw{H H':Hp}{a:Addr}(s:aH H H')(h:H' a=none):H a=none:=by
 cases q:H a with
 | none=>rfl
 | some o=>rw[s a o q]at h;cases h
def Dd(i:Int):Prop:=-(10^60)<i/\i<10^60
def Dd.log{i:Int}(h:Dd i):i.natAbs.log2<1920:=by
 have h1:i.natAbs<2^1920:=by
  have:i.natAbs<10^60:=by
   let⟨a,b⟩:=h;have e:((10:Int)^60)=(((10:Nat)^60:Nat):Int):=by norm_cast
   rw[e]at a b;lia
  exact pW this nofun
 by_cases h0:i.natAbs=0
 ·rw[h0];decide
 ·exact (Nat.log2_lt h0).mpr h1
def Oh(a b h:Int)(p:Int × Int):Row:=if max (a-h) 0<min (b-h) (p.2-p.1) then [(p.1+max (a-h) 0,p.1+min (b-h) (p.2-p.1))] else []
def rO(a b:Int):Int->Row->Row
 | _,[]=>[]
 | h,p::r=>Oh a b h p++rO a b (h+(p.2-p.1)) r
theorem Ff(a b:Int)(p:Int × Int):∀ (r:Row) (c:Int),rO a b c (r++[p])=rO a b c r++Oh a b (c+lu r) p
 | [],c=>by simp[rO,Q6]
 | q::r,c=>by
  have e:c+(q.2-q.1)+lu r=c+lu (q::r):=by rw[E8];lia
  rw[List.cons_append,rO,Ff a b p r,rO,e,m8]
def Vt(a b h:Int)(p:Int × Int):↑(Oh a b h p)<=1:=by
 unfold Oh
 split <;> simp
theorem wj(a b:Int):∀ (r:Row) (c:Int),↑(rO a b c r)<=↑r
 | [],_=>fK _
 | q::r,c=>by
  have ih:=wj a b r (c+(q.2-q.1));have z:=Vt a b c q;rw[rO,dM,jS];lia
def Oi(a b h:Int)(p:Int × Int):∀ q∈Oh a b h p,q.1<=q.2:=by
 unfold Oh;split
 ·intro q hq;simp only[List.mem_singleton]at hq;subst hq;simp only;lia
 ·intro q hq;cases hq
theorem Oj(a b:Int):∀ (r:Row) (c:Int),∀ q∈rO a b c r,q.1<=q.2
 | [],_=>λq hq=>by cases hq
 | p::r,c=>λq hq=>by
  rw[rO]at hq;rcases List.mem_append.mp hq with z|z
  ·exact Oi a b c p q z
  ·exact Oj a b r _ q z
theorem Fg(s:Int):∀ (n k:Nat),(run s n).drop k=run (s+k) (n-k)
 | n,0=>by simp
 | 0,k+1=>by simp[run]
 | n+1,k+1=>by
  rw[run,List.drop_succ_cons,Fg (s+1) n k];have e1:s+1+(k:Int)=s+((k+1:Nat):Int):=by lia
  have e2:n+1-(k+1)=n-k:=by lia
  rw[e1,e2]
theorem Fi(s:Int):∀ (n k:Nat),(run s n).take k=run s (min k n)
 | n,0=>by simp[run]
 | 0,k+1=>by simp[run]
 | n+1,k+1=>by
  rw[run,List.take_succ_cons,Fi (s+1) n k];have e2:min (k+1) (n+1)=min k n+1:=by lia
  rw[e2,run]
def Lz(a b h:Int)(p:Int × Int)(hp:p.1<=p.2):bI (Oh a b h p)=((fE p).take (b-h).toNat).drop (a-h).toNat:=by
 let⟨s,e⟩:=p;simp only at hp;unfold Oh fE;simp only;rw[Fi,Fg,← Int.ofNat_toNat (a-h)];generalize (a-h).toNat=n;generalize b-h=x;have y0:0<=e-s:=by lia
 generalize e-s=y at y0
 have em:min x.toNat y.toNat=(min x y).toNat:=by
  rcases Int.le_total x y with c|c
  ·rw[Int.min_eq_left c,Nat.min_eq_left (Int.toNat_le_toNat c)]
  ·rw[Int.min_eq_right c,Nat.min_eq_right (Int.toNat_le_toNat c)]
 rw[em];generalize min x y=m;clear em y0 hp;by_cases c:(n:Int)<m
 ·rw[if_pos c,eX,fE];simp only;rw[Int.add_sub_add_left,Int.toNat_sub']
 ·rw[if_neg c,Nat.sub_eq_zero_of_le (Int.toNat_le.mpr (Int.not_lt.mp c))];rfl
def zx(b h:Int)(L:Nat):(b-(h+L)).toNat=(b-h).toNat-L:=by rw[← Int.sub_sub,Int.toNat_sub']
theorem BK(a b:Int):∀ (r:Row) (h:Int),(∀ p∈r,p.1<=p.2)->bI (rO a b h r)=((bI r).take (b-h).toNat).drop (a-h).toNat
 | [],h,_=>by simp[rO,bI]
 | p::r,h,ok=>by
  have hp:=ok p (uv ..);have ih:=BK a b r (h+(p.2-p.1)) λq hq=>ok q (nO _ hq);have e:bI (p::r)=fE p++bI r:=rfl;have hl:=xC p hp;rw[rO,cS,Lz a b h p hp,ih,e,List.take_append,List.drop_append,gx];congr 1;rw[← hl,zx,zx];by_cases hb:↑(fE p)<=(b-h).toNat
  ·rw[Nat.min_eq_right hb]
  ·rw[Nat.sub_eq_zero_of_le (Nat.le_of_not_le hb)];simp
def YT(a b t:Int):Prop:=0<=a/\a<=b/\b<=t
class inductive Ol
 | mk (r:Addr) (row:Row) (a b:Int) (_:vs=[↥r,.int a,.int b]) (_:b5 H r row) (_:↑row<=1000000) (_ :
 ∀ (q:Addr) (H':Hp),b5 H' q (rO a b 0 row)->aH H H'->H q=none->Q ↥q H')
structure Om(K:PySem.W.Frag)(mg:Str->Option Value)(C D:Addr):Prop where
 m:mg "InkError"=⇑↥D
 h:PySem.W.exmOne K ↥C ↥D=⇑true
end fV
namespace fV
open L2 cD eY
theorem YU{P:Program}{w:World}{X:Cx}:jK (EC P w) X (λ_ _ _=>False):=λ_ _ _ _ _ _ _ h=>by
 let⟨_,_,_,_,_,_,_,_,_,_,z⟩:=h;exact z.elim
end fV
namespace fV
open L2 cD eY
def j0(r:Row)(ok:∀ p∈r,p.1<=p.2):bI (cB r)=bI r:=by rw[E7 r ok,eS]
def tT(a b:Int)(row:Row)(ok:∀ p∈row,p.1<=p.2):bI (cB (rO a b 0 row))=((bI row).take b.toNat).drop a.toNat:=by
 rw[j0 _ (Oj a b row 0),BK a b row 0 ok,Int.sub_zero,Int.sub_zero]
theorem J4(s:Int):∀ (n k:Nat),k<n->(run s n)[k]?=⇑(s+k)
 | 0,k,h=>by lia
 | n+1,0,_=>by simp[run]
 | n+1,k+1,h=>by
  rw[run,List.getElem?_cons_succ,J4 (s+1) n k ∅];congr 1;lia
def lJ(r:Row):↑(cB r)<=↑r:=by
 have z:=Fc r [];simpa [cB] using z
end fV
namespace fV
open Spec Rows L2 cD eY
def br.append{H:Hp}{as bs:List Addr}{r q:Row}(h:br H as r)(t:br H bs q):br H (as++bs) (r++q):=by
 induction h with
 | nil=>exact t
 | cons e _ ih=>exact .cons e ih
end fV
namespace L2
open Spec Rows
section
variable {κ:Type} [DecidableEq κ]
def cz(kvs:List (κ × V))(k:κ):Option V:=(kvs.find? λkv=>decide (kv.1=k)).map (·.2)
def ef(kvs:List (κ × V))(k:κ)(v:V):List (κ × V) :=
 if (kvs.any λkv=>decide (kv.1=k))=true then kvs.map (λkv=>if kv.1=k then (kv.1,v) else kv) else kvs++[(k,v)]
def gQ{p:κ × V}{r:List (κ × V)}{k:κ}(e:p.1=k):cz (p::r) k=⇑p.2:=by simp[cz,List.find?_cons,e]
def gR{p:κ × V}{r:List (κ × V)}{k:κ}(e:¬ p.1=k):cz (p::r) k=cz r k:=by simp[cz,List.find?_cons,e]
theorem l9(k:κ):∀ kvs:List (κ × V),(kvs.any λkv=>decide (kv.1=k))=(cz kvs k).isSome
 | []=>rfl
 | p::r=>by
  rw[List.any_cons];by_cases e:p.1=k
  ·simp only[gQ e,decide_eq_true e,Bool.true_or,Option.isSome_some]
  ·rw[gR e,decide_eq_false e,Bool.false_or];exact l9 k r
theorem Fj(k j:κ)(y:V):∀ kvs:List (κ × V),cz (kvs.map λkv=>if kv.1=k then (kv.1,y) else kv) j=(cz kvs j).map λx=>if j=k then y else x
 | []=>rfl
 | p::r=>by
  have ih:=Fj k j y r;rw[jh];by_cases h:p.1=k
  ·rw[if_pos h];by_cases e:p.1=j
   ·rw[gQ (p:=(p.1,y)) e,gQ e,Option.map_some,if_pos (e.symm.trans h)]
   ·rw[gR (p:=(p.1,y)) e,gR e,ih]
  ·rw[if_neg h];by_cases e:p.1=j
   ·rw[gQ (p:=p) e,gQ e,Option.map_some,if_neg (λz=>h (e.trans z))]
   ·rw[gR (p:=p) e,gR e,ih]
theorem BL(k j:κ)(y:V):∀ kvs:List (κ × V),cz kvs k=none->cz (kvs++[(k,y)]) j=if j=k then some y else cz kvs j
 | [],_=>by
  by_cases e:k=j
  ·rw[if_pos e.symm];exact gQ (p:=(k,y)) e
  ·rw[if_neg (λz=>e z.symm)];exact gR (p:=(k,y)) e
 | p::r,hn=>by
  rw[List.cons_append];have hk:¬ p.1=k:=λz=>by rw[gQ z]at hn;cases hn
  rw[gR hk]at hn;have ih:=BL k j y r hn;by_cases e:p.1=j
  ·rw[gQ e,gQ e,if_neg (λz=>hk (e.trans z))]
  ·rw[gR e,gR e,ih]
def j3(kvs:List (κ × V))(k j:κ)(y:V):cz (ef kvs k y) j=if j=k then some y else cz kvs j:=by
 unfold ef;by_cases a:(kvs.any λkv=>decide (kv.1=k))=true
 ·rw[if_pos a,Fj];rw[l9]at a;by_cases e:j=k
  ·let⟨x,hx⟩:=Option.isSome_iff_exists.mp a;rw[if_pos e,e,hx,Option.map_some,if_pos rfl]
  ·rw[if_neg e]
   cases cz kvs j with
   | none=>rfl
   | some x=>rw[Option.map_some,if_neg e]
 ·rw[if_neg a];refine BL k j y kvs ?_;rw[l9]at a
  cases q:cz kvs k with
  | none=>rfl
  | some x=>rw[q]at a;exact (a rfl).elim
def gS(kvs:List (κ × V))(k:κ)(v:V):↑(ef kvs k v)<=↑kvs+1:=by
 unfold ef;split
 ·rw[bW];lia
 ·rw[dM,jS,m9];lia
def zy{kvs:List (κ × V)}{k:κ}(v:V)(h:cz kvs k=none):ef kvs k v=kvs++[(k,v)]:=by
 unfold ef;rw[l9,h];exact if_neg (by decide)
def rM.wm{o:Option V}{u:Option Value}(r:rM o u):o.isSome=u.isSome:=by
 cases o with
 | none=>cases u with
  | none=>rfl
  | some _=>exact (show False from r).elim
 | some _=>cases u with
  | none=>exact (show False from r).elim
  | some _=>rfl
def KV.val{kvs:List (κ × V)}{vs:List (κ × Value)}(r:KV kvs vs)(k:κ):rM (cz kvs k) (valueAt vs k):=by
 unfold KV at r
 induction r with
 | nil=>exact True.intro
 | @cons p q ps qs h t ih =>
  let⟨h1,h2⟩:=h;by_cases e:p.1=k
  ·have e':q.1=k:=h1.symm.trans e;have b:valueAt (q::qs) k=⇑q.2:=by simp[valueAt,List.find?_cons,e']
   rw[gQ e,b];exact h2
  ·have e':¬ q.1=k:=λz=>e (h1.trans z);have b:valueAt (q::qs) k=valueAt qs k:=by simp[valueAt,List.find?_cons,e']
   rw[gR e,b];exact ih
def KV.any{kvs:List (κ × V)}{vs:List (κ × Value)}(r:KV kvs vs)(k:κ):(kvs.any λkv=>decide (kv.1=k))=vs.any λkv=>decide (kv.1=k):=by
 unfold KV at r
 induction r with
 | nil=>rfl
 | cons h t ih=>rw[List.any_cons,List.any_cons,ih,h.1]
theorem KV.repl{kvs:List (κ × V)}{vs:List (κ × Value)}(r:KV kvs vs)(k:κ){y:V}{u:Value}(ry:RelV y u) :
  KV (kvs.map λkv=>if kv.1=k then (kv.1,y) else kv) (vs.map λkv=>if kv.1=k then (kv.1,u) else kv):=by
 unfold KV at r ⊢
 induction r with
 | nil=>exact .nil
 | @cons p q ps qs h t ih =>
  rw[jh,jh];refine .cons ?_ ih;let⟨h1,h2⟩:=h;by_cases e:p.1=k
  ·rw[if_pos e,if_pos (h1.symm.trans e)];exact⟨h1,ry⟩
  ·rw[if_neg e,if_neg (λz=>e (h1.trans z))];exact⟨h1,h2⟩
def KV.put{kvs:List (κ × V)}{vs:List (κ × Value)}(r:KV kvs vs)(k:κ){y:V}{u:Value}(ry:RelV y u):KV (ef kvs k y) (stored vs k u):=by
 unfold ef stored;rw[r.any k];by_cases e:(vs.any λkv=>decide (kv.1=k))=true
 ·rw[if_pos e,if_pos e];exact r.repl k ry
 ·rw[if_neg e,if_neg e];exact Paired.snoc r ⟨rfl,ry⟩
theorem KV.length{kvs:List (κ × V)}{vs:List (κ × Value)}(r:KV kvs vs):↑kvs=↑vs:=Paired.length r
end
def BN{P:Program}{w:World}{k:eV}{u:Value}(r:RelV (kV k) u):(fO P w).is k u=true:=by
 cases k with
 | inl i=>let⟨t,e⟩:=(show ∃ t,u=Value.int i t from r);subst e;exact EG P w i t
 | inr x=>let⟨t,e⟩:=(show ∃ t,u=Value.str x t from r);subst e;exact EH P w x t
theorem BO{P:Program}{w:World}:∀ {ks:List eV} {us:List Value},bZ (ks.map kV) us->ItemsAre (fO P w) ks us
 | [],_,r=>by rw[List.map_nil]at r;cases r;exact .nil
 | k::ks,_,r=>by
  rw[jh]at r
  cases r with
  | cons h t=>exact .cons (BN h) (BO t)
abbrev KT(H:Hp):List (List eV × V)->List (List eV × Addr × Value)->Prop:=Paired λp q=>p.1=q.1/\H q.2.1=⇑(.tup (p.1.map kV))/\RelV p.2 q.2.2
def KT.val{H:Hp}{kvs:List (List eV × V)}{xs:List (List eV × Addr × Value)}(r:KT H kvs xs)(k:List eV):rM (cz kvs k) ((atKey xs k).map (·.2)):=by
 induction r with
 | nil=>exact True.intro
 | @cons p q ps qs h t ih =>
  let⟨h1,_,h2⟩:=h;by_cases e:p.1=k
  ·have e':q.1=k:=h1.symm.trans e;have b:atKey (q::qs) k=⇑q.2:=by simp[atKey,List.find?_cons,e']
   rw[gQ e,b];exact h2
  ·have e':¬ q.1=k:=λz=>e (h1.trans z);have b:atKey (q::qs) k=atKey qs k:=by simp[atKey,List.find?_cons,e']
   rw[gR e,b];exact ih
theorem KT.repl{H:Hp}{kvs:List (List eV × V)}{xs:List (List eV × Addr × Value)}(r:KT H kvs xs)(k:List eV){y:V}{u:Value}(ry:RelV y u) :
  KT H (kvs.map λkv=>if kv.1=k then (kv.1,y) else kv) (xs.map (putAt k u)):=by
 induction r with
 | nil=>exact .nil
 | @cons p q ps qs h t ih =>
  rw[jh,jh];refine .cons ?_ ih;let⟨h1,h2,h3⟩:=h;unfold putAt;by_cases e:p.1=k
  ·rw[if_pos e,if_pos (h1.symm.trans e)];exact⟨h1,h2,ry⟩
  ·rw[if_neg e,if_neg (λz=>e (h1.trans z))];exact⟨h1,h2,h3⟩
theorem KT.put{H:Hp}{kvs:List (List eV × V)}{xs:List (List eV × Addr × Value)}(r:KT H kvs xs)(k:List eV){b:Addr}{y:V}{u:Value}(hb:H b=⇑(.tup (k.map kV)))(ry:RelV y u) :
  KT H (ef kvs k y) (storedH xs k b u):=by
 have e:(kvs.any λkv=>decide (kv.1=k))=(atKey xs k).isSome:=by
  rw[l9,(r.val k).wm,Option.isSome_map]
 unfold ef storedH;rw[e];by_cases q:(atKey xs k).isSome=true
 ·rw[if_pos q,if_pos q];exact r.repl k ry
 ·rw[if_neg q,if_neg q];exact Paired.snoc r ⟨rfl,hb,ry⟩
theorem KT.keeps{H H':Hp}{kvs:List (List eV × V)}{xs:List (List eV × Addr × Value)}(r:KT H kvs xs)(ht:∀ b ys,H b=⇑(.tup ys)->H' b=⇑(.tup ys)):KT H' kvs xs :=
 Paired.CK r λ_ _ z=>⟨z.1,ht _ _ z.2.1,z.2.2⟩
section
variable {P:Program} {w:World} {H:Hp} {h:Heap} {a:Addr}
theorem TN{u:HO}(ok:qh P w H h)(e:Rd H a u):fF P w H h a u:=e.ok ok
theorem Fl{kvs:List (eV × V)}(ok:qh P w H h)(e:Rd H a (.dK kvs)):↑kvs<=sizeLine/\(a == sysModules)=false/\∃ vs,KV kvs vs/\h.DictOf (fO P w) a vs :=
 show fF P w H h a (.dK kvs) from TN ok e
theorem Oo{kvs:List (eV × V)}(ok:qh P w H h)(e:H a=⇑(.dK kvs)):↑kvs<=sizeLine/\(a == sysModules)=false/\∃ vs,KV kvs vs/\h.DictOf (fO P w) a vs:=Fl ok (.inl e)
def De{ks:List eV}(ok:qh P w H h)(e:H a=⇑(.tup (ks.map kV))):(tupleKind (fO P w)).is h ks a:=by
 let⟨_,aQ,r,o,h1,h2,n,h3⟩:=(show fF P w H h a (.tup (ks.map kV)) from ok a _ e);exact⟨o,aQ.toArray,n,h1,h2,h3,by simpa using BO r⟩
theorem Fo{kvs:List (List eV × V)}(ok:qh P w H h)(e:Rd H a (.dT kvs)):↑kvs<=sizeLine/\(a == sysModules)=false/\
  ∃ xs,KT H kvs xs/\h.DictOfH (tupleKind (fO P w)) a xs:=by
 let⟨z,y,xs,r,o,es,ep,h1,h2,h3,h4,h5⟩:=(show fF P w H h a (.dT kvs) from TN ok e);refine⟨z,y,xs,r,o,es,ep,h1,h2,h3,h4,λx hx=>?_,h5⟩
 have all:∀ {l:List (List eV × V)} {m:List (List eV × Addr × Value)},KT H l m->∀ x∈m,(tupleKind (fO P w)).is h x.1 x.2.1:=by
  intro l m q
  induction q with
  | nil=>intro x hx;exact nomatch hx
  | @cons p q ps qs hq t ih =>
   intro x hx;rcases List.mem_cons.mp hx with e|hx
   ·subst e;exact De ok (by rw[← hq.1];exact hq.2.1)
   ·exact ih x hx
 exact all r x hx
theorem YV{kvs:List (List eV × V)}(ok:qh P w H h)(e:H a=⇑(.dT kvs)):↑kvs<=sizeLine/\(a == sysModules)=false/\
  ∃ xs,KT H kvs xs/\h.DictOfH (tupleKind (fO P w)) a xs:=Fo ok (.inl e)
end
def gT(H:Hp)(a:Addr)(y:V)(r:Option V):Prop :=
 (∃ kvs k,Rd H a (.dK kvs)/\y=kV k/\r=cz kvs k)\/∃ kvs k b,Rd H a (.dT kvs)/\y=↥b/\H b=⇑(.tup (k.map kV))/\r=cz kvs k
def Df(H:Hp)(a:Addr)(y v:V)(H':Hp):Prop :=
 (∃ kvs k,H a=⇑(.dK kvs)/\y=kV k/\↑kvs<sizeLine/\H'=aO H a (.dK (ef kvs k v)))\/
 ∃ kvs k b,H a=⇑(.dT kvs)/\y=↥b/\H b=⇑(.tup (k.map kV))/\↑kvs<sizeLine/\H'=aO H a (.dT (ef kvs k v))
theorem gT.k{H:Hp}{a:Addr}{kvs:List (eV × V)}{k:eV}(e:H a=⇑(.dK kvs)):gT H a (kV k) (cz kvs k):=.inl ⟨kvs,k,.inl e,V⟩
theorem Df.k{H:Hp}{a:Addr}{kvs:List (eV × V)}{k:eV}{v:V}(e:H a=⇑(.dK kvs))(hl:↑kvs<sizeLine):Df H a (kV k) v (aO H a (.dK (ef kvs k v))):=.inl ⟨kvs,k,e,rfl,hl,rfl⟩
section
variable {X:Cx} {ak:List (Addr × Obj)} {σ:St} {H:Hp} {s:Shared} {a:Addr} {y v:V} {u r:Value} {o:Option V} {A:Around} {E:Value->Shared->Prop}
def Inv.big(I:Inv X ak σ H s):sysModules<s.heap.objs.size:=by
 have h:mainGlobals<s.heap.objs.size:=(I.mod.glob.keeps I.bk).lt;exact Nat.lt_trans (by decide) h
theorem LF{Q:Value->Shared->Prop}(hu:A.units+1<cLine)(I:Inv X ak σ H s)(g:gT H a y (⇑v))(ry:RelV y u)(h:∀ w' s',Inv X ak σ H s'->RelV v w'->Q w' s') :
  wpAny (model X.prog X.w) A (getItem ↥a u) Q E s:=by
 rcases g with ⟨kvs,k,e,ey,l⟩|⟨kvs,k,b,e,ey,eb,l⟩
 ·subst ey;let⟨z,hd,vs,xD,dd⟩:=Fl I.hok e;let⟨w',hw,fc⟩:=rM.some_of (v:=v) (o:=valueAt vs k) (by rw[l];exact xD.val k);exact wpAny_getItem_of (BN ry) dd.mapOf hw (h w' _ (I.tok _) fc)
 ·subst ey;cases (show u=Value.ref b from ry);let⟨z,hd,xs,xD,dd⟩:=Fo I.hok e;let⟨w',hw,fc⟩:=rM.some_of (v:=v) (o:=(atKey xs k).map (·.2)) (by rw[l];exact xD.val k);let⟨p,hp,Rt⟩:=Option.map_eq_some_iff.mp hw;refine wpAny_getItem_heap (tupleKind_room_in1 hu) (De I.hok eb) dd hp ?_;rw[Rt];exact h w' _ (I.tok _) fc
theorem Ru{Q:Value->Shared->Prop}(hu:A.units+1<cLine)(I:Inv X ak σ H s)(g:gT H a y o)(ry:RelV y u)(h:∀ s',Inv X ak σ H s'->Q (.bool (!o.isSome)) s') :
  wpAny (model X.prog X.w) A (compareOp .NotIn u ↥a) Q E s:=by
 rcases g with ⟨kvs,k,e,ey,l⟩|⟨kvs,k,b,e,ey,eb,l⟩
 ·subst ey;let⟨z,hd,vs,xD,dd⟩:=Fl I.hok e;refine wpAny_notIn_of (BN ry) hd dd.mapOf ?_;rw[← (xD.val k).wm,← l];exact h _ (I.tok _)
 ·subst ey;cases (show u=Value.ref b from ry);let⟨z,hd,xs,xD,dd⟩:=Fo I.hok e;refine wpAny_notIn_heap (tupleKind_room_in1 hu) (De I.hok eb) hd dd ?_;have q:=(xD.val k).wm;rw[Option.isSome_map]at q;rw[← q,← l];exact h _ (I.tok _)
theorem yF{h':Heap}{t':Nat}{ob:HO}(I:Inv X ak σ H s)(mu:XR (H a))(hs:Heap.SameBut a s.heap h')(he:∃ q,h'.get? a=⇑q)(new:fF X.prog X.w (aO H a ob) h' a ob) :
  Inv X ak σ (aO H a ob) { s with heap:=h',toks:=t' } :=
 I.write (x:=a) (e:=a) mu (.inl rfl) (λb q hb z=>(hs.2 b hb).trans z) he new
theorem Ig{P:Program}{w:World}{H':Hp}{h':Heap}{kvs:List (eV × V)}{vs:List (eV × Value)}(z:↑kvs<=sizeLine)(hd:(a == sysModules)=false)(xD:KV kvs vs)(dd:h'.DictOf (fO P w) a vs) :
  fF P w H' h' a (.dK kvs):=⟨z,hd,vs,xD,dd⟩
theorem LG{H':Hp}{Q:Unit->Shared->Prop}(hu:A.units+1<cLine)(I:Inv X ak σ H s)(g:Df H a y v H')(ry:RelV y u)(rv:RelV v r)(h:∀ s',Inv X ak σ H' s'->Q () s') :
  wpAny (model X.prog X.w) A (setItem ↥a u r) Q E s:=by
 rcases g with ⟨kvs,k,e,ey,l,eH⟩|⟨kvs,k,b,e,ey,eb,l,eH⟩
 ·subst ey eH;let⟨z,hd,vs,xD,dd⟩:=Oo I.hok e;have hz:↑vs<=sizeLine:=by rw[← ↑xD];exact z
  have hl:↑(ef kvs k v)<=sizeLine:=by have:=gS kvs k v;lia
  refine wpAny_setItem_pairs (hsz:=hz) (BN ry) dd λh' Qp hs=>h _ ?_;have he:∃ q,h'.get? a=⇑q:=let ⟨q,Q,hq,_⟩:=Qp;⟨q,hq⟩;exact yF I (by rw[e];exact True.intro) hs he (Ig hl hd (xD.put k rv) Qp)
 ·subst ey eH;cases (show u=Value.ref b from ry);let⟨z,hd,xs,xD,dd⟩:=YV I.hok e;have hz:↑xs<=sizeLine:=by rw[← Paired.length xD];exact z
  have hl:↑(ef kvs k v)<=sizeLine:=by have:=gS kvs k v;lia
  refine wpAny_setItem_heap (hsz:=hz) (tupleKind_room_in1 hu) (De I.hok eb) dd λh' Qp hs=>h _ ?_;let⟨q,es,ep,hq,h2,h3,h4,_,h5⟩:=Qp;refine yF I (by rw[e];exact True.intro) hs ⟨q,hq⟩ ⟨hl,hd,_,(xD.put k eb rv).keeps λc ys ec=>?_,q,es,ep,hq,h2,h3,h4,h5⟩;rw[aK (dB ec e (λz=>nomatch z))];exact ec
end
def Vu(i:Expr):Prop:=∀ ov iv,subscripted i false ov iv=operate [ov,iv] (getItem ov iv)
theorem Rv{prog:Program}{w:World}{A:Around}{E:Value->Shared->Prop}{s:Shared}{env:Env}{T id:String}{Q:Value->Shared->Prop}
  (hl:typeLookup (.type T) "__getitem__"=pure (⇑(.builtin id))) (hs:Vu uC)
  (h:wpAny (model prog w) A (eval value env) (λo s₁=>wpAny (model prog w) A (eval uC env) (λi s₂=>s₂.TypeIs o T/\wpAny (model prog w) A (getItem o i) Q E s₂) E s₁) E s) :
  wpAny (model prog w) A (eval (.Subscript value uC pos) env) Q E s:=by
 refine Subscript_ (wpAny_mono h (λo s₁ h₁=>wpAny_mono h₁ (λi s₂ h₂=>?_) λ_ _ x=>x) λ_ _ x=>x);let⟨hT,h₂⟩:=h₂;unfold subscriptTail;refine wpAny_bind ?_;rw[getitemInPython_of_ne hT.not_modules];refine wpAny_bind (wpAny_specialOf hT hl ?_)
 have iH:wpAny (model prog w) A (subscripted uC false o i) (λr s₃=>wpAny (model prog w) A (letTemporaryGo value o r >>= λ_=>pure r) Q E s₃) E s₂:=by
  rw[hs o i];exact wpAny_operating (wpAny_mono h₂ (λr s₃ h₃=>wpAny_bind (wpAny_letTemporaryGo (wpAny_pure h₃))) λ_ _ x=>x)
 first
  | exact wpAny_pure (wpAny_bind iH)
  | exact wpAny_bind (wpAny_pure (wpAny_bind iH))
  | exact wpAny_bind iH
def Fp{X:Cx}{σ:St}{H:Hp}{s:Shared}{a:Addr}{y:V}{o:Option V}(I:Inv X ak σ H s)(g:gT H a y o):s.TypeIs ↥a "dict":=by
 rcases g with ⟨kvs,k,e,_,_⟩|⟨kvs,k,b,e,_,_,_⟩
 ·let⟨_,_,vs,_,dd⟩:=Fl I.hok e;exact dd.typeIs
 ·let⟨_,_,xs,_,dd⟩:=Fo I.hok e;exact dd.typeIs
inductive YW(x y:V)(H:Hp)(Q:VK):Prop
 | mk (a:Addr) (v:V) (_:x=↥a) (_:gT H a y (⇑v)) (_:Q v H):YW x y H Q
def TQ(td ty:TE):TE:=fun σ H Q=>td σ H λx H1=>ty σ H1 λy H2=>YW x y H2 Q
def Rw(ty td:TE):TE:=fun σ H Q=>ty σ H λy H1=>td σ H1 λx H2=>∃ a o,x=↥a/\gT H2 a y o/\Q (.bl (!o.isSome)) H2
def YX(td ty tv:TE):TS:=λD σ H=>tv σ H λv H1=>td σ H1 λx H2=>ty σ H2 λy H3=>∃ a H4,x=↥a/\Df H3 a y v H4/\D.nx σ H4
section
variable {X:Cx} {o i e value:Expr} {pos iJ Lb:Pos} {td ty tv:TE}
def Rx(hu:X.A.units+1<cLine)(ho:PE X o td)(hi:PE X i ty)(hs:Vu i):PE X (.Subscript o i pos) (TQ td ty):=by
 intro ak s σ H Q I h;refine Rv PySem.F.slot_dict_getitem.lookup hs (cL (ho ak s σ H _ I h) λu s1 ⟨x,H1,I1,rx,q1⟩=>cL (hi ak s1 σ H1 _ I1 q1) λiv s2 AF=>?_);let⟨y,H2,I2,ry,a,v,ex,g,q2⟩:=AF;subst ex;obtain rfl:u=Value.ref a:=rx;exact⟨Fp I2 g,LF hu I2 g ry λw' s3 I3 fc=>⟨v,H2,I3,fc,q2⟩⟩
def BP(hu:X.A.units+1<cLine)(hi:PE X i ty)(ho:PE X o td):PC X .NotIn i o (Rw ty td):=by
 intro ak s σ H Q I h;refine cL (hi ak s σ H _ I h) λiv s1 ⟨y,H1,I1,ry,q1⟩=>cL (ho ak s1 σ H1 _ I1 q1) λu s2 AG=>?_;let⟨x,H2,I2,rx,a,ov,ex,g,q2⟩:=AG;subst ex;obtain rfl:u=Value.ref a:=rx;exact Ru hu I2 g ry λs3 I3=>⟨.bl (!ov.isSome),H2,I3,rfl,q2⟩
theorem uP(hu:X.A.units+1<cLine)(ho:PE X o td)(hi:PE X i ty)(hv:PE X value tv)(hs:swapsWith value (⇑(.Subscript o i iJ)) pos.line X.env=pure false) :
  PS X (.Assign [.Subscript o i iJ] value pos) (YX td ty tv):=by
 intro ak s σ H D I h;refine wpAny_Assign_Subscript (cL (hv ak s σ H _ I h) λr s1 ⟨v,H1,I1,rv,q1⟩=>cL (ho ak s1 σ H1 _ I1 q1) λu s2 ⟨x,H2,I2,rx,q2⟩=>cL (hi ak s2 σ H2 _ I2 q2) λiv s3 ⟨y,H3,I3,ry,a,H4,ex,g,q3⟩=>?_) hs;subst ex;obtain rfl:u=Value.ref a:=rx;exact LG hu I3 g ry rv λs4 I4=>⟨σ,H4,I4,q3⟩
end
theorem Fq{P:Program}{w:World}{H:Hp}(h:Heap)(hb:sysModules<h.objs.size):fF P w H (h.push { cls:=.type "dict",data:=.dict #[] }) h.objs.size (.dK []) :=
 ⟨Nat.zero_le _,beq_eq_false_iff_ne.mpr (Ne.symm (jC hb)),[],.nil,Heap.DictOf.new h⟩
def Vv:TE:=λ_ H Q=>∀ p,H p=none->Q ↥p (aO H p (.dK []))
section
variable {X:Cx} {pos:Pos}
theorem mh:PE X (.Dict [] [] pos) Vv:=λak s σ H Q I h =>
 wpAny_Dict_empty ⟨↥s.heap.objs.size,_,I.laid (a:=s.heap.objs.size) (o:=.dK []) (t':=s.toks) (λ_ _ q=>Heap.get?_push_of_some _ q) (fK _) (Fq s.heap I.big),rfl,h _ (I.hok.fresh (fK _))⟩
end
def Ih:List (TE × TE)->St->Hp->(List (V × V)->Hp->Prop)->Prop
 | [],_,H,Q=>Q [] H
 | (tk,tv)::r,σ,H,Q=>tk σ H λx H1=>tv σ H1 λy H2=>Ih r σ H2 λps H3=>Q ((x,y)::ps) H3
abbrev VV:List (V × V)->List (Value × Value)->Prop:=Paired λp q=>RelV p.1 q.1/\RelV p.2 q.2
def PPs(X:Cx)(pos:Pos)(AK:List (Option Expr))(zA:List Expr)(Ry:List (TE × TE)):Prop :=
 ∀ (ak:List (Addr × Obj)) (s:Shared) (σ:St) (H:Hp) (Q:List (V × V)->Hp->Prop),Inv X ak σ H s->Ih Ry σ H Q->
  wpAny (model X.prog X.w) X.A (evalPairs (pairTrees AK zA X.env pos)) (λvs s'=>∃ ps H',Inv X ak σ H' s'/\VV ps vs/\Q ps H') X.xe s
theorem Rz{X:Cx}:PPs X pos [] [] []:=λak s σ H Q I h=>pairTrees_nil_walk ⟨[],H,I,.nil,h⟩
theorem uQ{X:Cx}{k:Expr}{ks:List (Option Expr)}{tk tv:TE}{Ry:List (TE × TE)}(hk:PE X k tk)(hv:PE X v tv)(hr:PPs X pos ks vs Ry) :
  PPs X pos (⇑k::ks) (v::vs) ((tk,tv)::Ry):=λak s σ H Q I h =>
 pairTrees_cons_walk (cL (hk ak s σ H _ I h) λu s1 ⟨x,H1,I1,rx,q1⟩=>cL (hv ak s1 σ H1 _ I1 q1) λw2 s2 ⟨y,H2,I2,ry,q2⟩ =>
  cL (hr ak s2 σ H2 _ I2 q2) λws s3 ⟨ps,H3,I3,xD,q3⟩=>⟨(x,y)::ps,H3,I3,.cons ⟨rx,ry⟩ xD,q3⟩)
def wz(kvs more:List (eV × V)):List (eV × V):=more.foldl (λacc kv=>ef acc kv.1 kv.2) kvs
def KV.merge:∀ {more:List (eV × V)} {rs:List (eV × Value)} {kvs:List (eV × V)} {vs:List (eV × Value)},KV more rs->KV kvs vs->KV (wz kvs more) (merged vs rs):=by
 intro more rs kvs vs r;unfold KV at r
 induction r generalizing kvs vs with
 | nil=>intro q;exact q
 | @cons p q ps qs h t ih =>
  intro r0
  have e:KV (ef kvs p.1 p.2) (stored vs q.1 q.2):=by
   have:=r0.put p.1 h.2;rw[← h.1];exact this
  exact ih e
theorem sG:∀ (more kvs:List (eV × V)),↑(wz kvs more)<=↑kvs+↑more
 | [],kvs=>by show ↑kvs<=↑kvs+0;lia
 | p::r,kvs=>by
  have h1:=sG r (ef kvs p.1 p.2);have h2:=gS kvs p.1 p.2;show ↑(wz (ef kvs p.1 p.2) r)<=_;rw[jS];lia
theorem zB{P:Program}{w:World}:∀ {kvs:List (eV × V)} {ws:List (Value × Value)},VV (kvs.map λkv=>(kV kv.1,kv.2)) ws->∃ rs,Carries (fO P w) ws rs/\KV kvs rs
 | [],_,r=>by rw[List.map_nil]at r;cases r;exact⟨[],True.intro,.nil⟩
 | p::kvs,_,r=>by
  rw[jh]at r
  cases r with
  | @cons a b as bs h t =>
   let⟨rs,c,q⟩:=zB (P:=P) (w:=w) t;let⟨b1,b2⟩:=b;exact⟨(p.1,b2)::rs,⟨BN h.1,rfl,c⟩,.cons ⟨rfl,h.2⟩ q⟩
def Oq(Ry:List (TE × TE)):TE:=fun σ H Q=>∀ p,H p=none->Ih Ry σ (aO H p (.dK [])) λps H2=>H2 p=⇑(.dK [])/\∃ kvs:List (eV × V),ps=kvs.map (λkv=>(kV kv.1,kv.2))/\↑kvs<=15/\Q ↥p (aO H2 p (.dK (wz [] kvs)))
theorem RA{X:Cx}{AK:List (Option Expr)}{zA:List Expr}{Ry:List (TE × TE)}(h:PPs X pos AK zA Ry)(NI:AK.all (·.isSome)=true)(hl:AK.length=↑zA)(h0:AK≠[])
  (h15:AK.length<=15):PE X (.Dict AK zA pos) (Oq Ry):=by
 intro ak s σ H Q I q;have hn:=I.hok.fresh (fK s.heap.objs.size);have I1:=I.laid (a:=s.heap.objs.size) (o:=.dK []) (h':=s.heap.push { cls:=.type "dict",data:=.dict #[] }) (t':=s.toks) (λ_ _ q=>Heap.get?_push_of_some _ q) (fK _) (Fq s.heap I.big);refine wpAny_Dict_walk (knd:=fO X.prog X.w) NI hl h0 h15 (cL (h ak _ σ _ _ I1 (q _ hn)) λws s2 Hr=>?_);let⟨ps,H2,I2,xD,e,kvs,ep,lk,q2⟩:=Hr;subst ep;let⟨rs,c,rk⟩:=zB (P:=X.prog) (w:=X.w) xD;let⟨z,hd,vs0,r0,dd⟩:=Oo I2.hok e;cases r0;refine⟨rs,c,dd,λh' Qp hs=>⟨↥s.heap.objs.size,_,?_,rfl,q2⟩⟩
 have hz:↑(wz [] kvs)<=sizeLine:=by
  have h1:=sG kvs [];rw[m9]at h1;rw[sizeLine_eq];lia
 have he:∃ q,h'.get? s.heap.objs.size=⇑q:=let ⟨q,Q,hq,_⟩:=Qp;⟨q,hq⟩;exact yF I2 (by rw[e];exact True.intro) hs he (Ig hz hd (rk.merge .nil) Qp)
structure M2(X:Cx)(o:Expr)(m:Str)(kY:Pos)(e f:Expr)(mG:Pos):Prop where
 zt:attributeBase o m X.env (eval o X.env)=eval o X.env
 few:((backTo mG (starEach [e,f] X.env)).all (λx=>!x.1)&&(backToKw mG (keywordEach [] X.env)).all (λx=>x.1.isSome)
  && decide (↑([e,f]:List Expr)+↑([]:List Keyword)+(if ([]:List Keyword).isEmpty then 0 else 1)<30))=true
 line:(kY.endLine == mG.line)=true
 trees:backTo mG (starEach [e,f] X.env)=[(false,eval e X.env),(false,eval f X.env)]
def IsD(H:Hp)(a:Addr):Prop:=(∃ kvs,Rd H a (.dK kvs))\/∃ kvs,Rd H a (.dT kvs)
theorem Vw{X:Cx}{σ:St}{H:Hp}{s:Shared}{a:Addr}(I:Inv X ak σ H s)(d:IsD H a) :
  s.TypeIs ↥a "dict"/\(∀ b,Value.ref a=↥b->∃ ob,s.heap.get? b=⇑ob/\ob.dict=none)/\(a == sysModules)=false:=by
 rcases d with ⟨kvs,e⟩|⟨kvs,e⟩
 ·let⟨_,hd,vs,_,dd⟩:=Fl I.hok e;refine⟨dd.typeIs,λb q=>?_,hd⟩;cases q;let⟨ob,_,_,h1,h2,_⟩:=dd;exact⟨ob,h1,h2.2.1⟩
 ·let⟨_,hd,xs,_,dd⟩:=Fo I.hok e;refine⟨dd.typeIs,λb q=>?_,hd⟩;cases q;let⟨ob,_,_,h1,h2,_⟩:=dd;exact⟨ob,h1,h2.2.1⟩
end L2
namespace cD
open Spec Rows L2
def iR(X:Cx)(N:List Str)(scope:Scope)(cl:List (Str × Addr))(C:Addr)(s₀:Shared)(H₀:Hp)(ex:List Addr)(pn:List (Addr × Obj)):Cx where
 prog:=X.prog
 w:=X.w
 K:=X.K
 mg:=X.mg
 zt:=X.zt
 A:=X.A
 N:=N
 s₀:=s₀
 H₀:=H₀
 env:=compEnvC scope cl C X.env
 zn:=X.stack
 stack:=X.stack
 ex:=ex
 fn:=λ_=>false
 calm:=X.calm
 pn:=pn
 xe:=λ_ _=>False
structure BQ(X:Cx)(N:List Str)(scope:Scope)(cl:List (Str × Addr))(jx:List (Option Nat)):Prop where
 kind:scope.kind=.function
 cell:∀ x∈scope.names,x.2≠.cell
 names:∀ x∈scope.names,x.2=.local->scope.names.lookup x.1=⇑.local
 clos:closureFor scope X.env=pure cl
 sub:∀ x c,cl.lookup x=⇑c->X.env.cells.lookup x=⇑c
 has:∀ x,((relabel scope X.env).names.lookup x=⇑.cell\/(relabel scope X.env).names.lookup x=⇑.free)->∃ c,cl.lookup x=⇑c
 len:↑jx=↑N
 free:∀ (i j:Nat) (x:Str),jx[i]?=⇑(⇑j)->N[i]?=⇑x->X.N[j]?=⇑x/\X.env.scope.names.lookup x=⇑.cell/\(relabel scope X.env).names.lookup x=⇑.cell
def tU(jx:List (Option Nat))(σ:L2.St):L2.St:=jx.map λo=>o.bind λj=>(σ[j]?).join
section
variable {X:Cx} {N:List Str} {scope:Scope} {cl:List (Str × Addr)} {jx:List (Option Nat)}
theorem xE{σ:L2.St}{H:Hp}{s:Shared}{fp:List Addr}{h₁:Heap}{t:Nat}(cs:BQ X N scope cl jx)(I:Inv X ak σ H s)(hf:∀ b∈fp,oJ X ak H b)(pJ:∀ b∈fp,b<s.heap.objs.size)
  (MQ:h₁.Ns s.heap.objs.size λ_=>none) (hk:∀ b o,s.heap.get? b=⇑o->h₁.get? b=⇑o) :
  Inv (iR X N scope cl s.heap.objs.size s H fp (X.pn++ak)) [] (tU jx σ) H { s with heap:=h₁,toks:=t }:=by
 have sub:∀ {x c},(iR X N scope cl s.heap.objs.size s H fp (X.pn++ak)).env.cells.lookup x=⇑c->X.env.cells.lookup x=⇑c:=λ{x c} e=>cs.sub x c e
 refine⟨⟨I.ok.mod,cs.kind,I.ok.glob,I.ok.blt,fK _,λx y c e e'=>I.ok.inj x y c (sub e) (sub e'),λx hx=>cs.has x hx,λx c z _=>(by cases z),I.ok.hd,I.ok.frames,.inl rfl,λb hb=>⟨Nat.ne_of_lt (pJ b hb),λx c e=>(hf b hb).2.2.2.2.1 x c (sub e)⟩,I.bs,jf I.ok.Qk I.sz,λb o e hb=>?_,λb hb z=>?_,I.stack,I.ux⟩,
  rfl,I.bare,Un.kept hk,⟨_,MQ,λi x v e1 e2 _=>?_⟩,λx c e=>?_,I.hok.fresh (fK _),λx c e=>I.mJ x c (sub e),λp hp=>?_,I.hok.kept hk,by unfold tU;rw[bW];exact cs.len⟩
 ·rcases (hf b hb).2.2.2.1 with z|z
  ·exact I.ok.Hj b o e z
  ·exact absurd (pW (Heap.lt_size (I.ok.bs b o e).1) z) (Nat.lt_irrefl _)
 ·rcases List.mem_cons.mp (I.vM b z) with e|e
  ·exact (hf b hb).2.1 e
  ·exact (hf b hb).2.2.1 e
 ·unfold tU at e2;rw[kU]at e2
  cases ej:jx[i]? with
  | none=>rw[ej]at e2;cases e2
  | some o =>
   rw[ej]at e2
   cases o with
   | none=>cases e2
   | some j =>
    have e3:σ[j]?=⇑(⇑v):=by
     have z:((σ[j]?).join)=⇑v:=rL e2
     cases hs:σ[j]? with
     | none=>rw[hs]at z;cases z
     | some q=>rw[hs]at z;exact congrArg some z
    let⟨f1,f2,f3⟩:=cs.free i j x ej e1;let⟨m,hn,hl⟩:=I.loc;let⟨u,ru,look⟩:=hl j x v f1 e3 (.inr (.inl f2));exists u,ru;rcases look with ⟨k,_⟩|⟨_,c,hc,o,ho,hd⟩
    ·have k':X.env.scope.names.lookup x=⇑.local:=k;rw[f2]at k';cases k'
    ·let⟨c',XW⟩:=cs.has x (.inl f3);have z:=cs.sub x c' XW;rw[hc]at z;cases z;exact .inr ⟨.inl f3,c,XW,o,hk _ _ ho,hd⟩
 ·let⟨v,o,ho,hd⟩:=I.cell x c (sub e);exact⟨v,o,hk _ _ ho,hd⟩
 ·have MT:p∈X.pn++ak:=by
   have z:p∈(X.pn++ak)++[]:=hp;simpa using z
  let⟨e,n,nl,nf,d⟩:=I.pin p MT;refine⟨hk _ _ e,n,jC (Heap.lt_size e),λz=>?_,d⟩;rcases List.mem_cons.mp (I.vM p.1 z) with e|e
  ·exact nl e
  ·exact nf e
theorem wA{σ σ':L2.St}{H H':Hp}{s s':Shared}{fp:List Addr}(I:Inv X ak σ H s)(hf:∀ b∈fp,oJ X ak H b)(J:Inv (iR X N scope cl s.heap.objs.size s H fp (X.pn++ak)) [] σ' H' s'):Inv X ak σ H' s' :=
 I.EJ (ch:=fp) J.os J.zt J.hok J.bare λb hb=>⟨(hf b hb).2.2.2.1,(hf b hb).2.1,(hf b hb).2.2.2.2.1,(hf b hb).2.2.2.2.2⟩
def wB{σ σ2:L2.St}{H H':Hp}{s s':Shared}{h':Heap}(I:Inv X ak σ H s)(I4:Inv X ak σ2 H' s')(JE:H' s.heap.objs.size=none)(hs:Heap.SameBut s.heap.objs.size s'.heap h'):Inv X ak σ2 H' { s' with heap:=h' }:=by
 refine I4.turned (t':=s'.toks) (it:=s.heap.objs.size) (λb o hb e=>hs.extBut _ _ hb e) JE (Nat.ne_of_gt I.lt) (.inr I.sz) (λx c e z=>?_) λp hp z=>?_
 ·let⟨v,o,ho,_⟩:=I.cell x c e;exact absurd (Heap.lt_size ho) (by rw[z];exact Nat.lt_irrefl _)
 ·exact absurd (Heap.lt_size (I.pin p hp).1) (by rw[z];exact Nat.lt_irrefl _)
def yG(J:It)(acc:Addr)(g:TG)(tt:TT)(te:TE)(σ0:L2.St)(H:Hp)(Q:VK):Prop :=
 ∃ W:Nat->Nat->L2.St->Hp->Prop,(∃ m,W 0 m σ0 H)/\∀ i m σ H,W i m σ H->
  (J.stop i H/\Q ↥acc H)\/(J.go i H/\∃ Nx:L2.St->Hp->Prop,(∀ σ' H',Nx σ' H'->∃ m',m'<m/\W (i+1) m' σ' H')/\∀ x H',J.Nb i H x H'->g x σ H' fun σ2 H2=>tt σ2 H2 λb H3 =>
   if b=true then te σ2 H3 λv H4=>∃ xs,H4 acc=⇑(.lst xs)/\↑xs<sizeLine/\Nx σ2 (aO H4 acc (.lst (xs++[v]))) else Nx σ2 H3)
def wC(jx:List (Option Nat))(wi:TI)(g:TG)(tt:TT)(te:TE):TE:=fun σ H Q=>wi σ H λJ H1=>∀ acc,H1 acc=none->yG J acc g tt te (tU jx σ) (aO H1 acc (.lst [])) Q
theorem BR{iter:Expr}{wi:TI}{g:TG}{tt:TT}{te:TE}(cs:BQ X N scope cl jx)(hc:X.calm=true)(hi:PI X tg iter wi)
  (hg:∀ C s₀ H₀ ex pn,PG (iR X N scope cl C s₀ H₀ ex pn) tg g) (ht:∀ C s₀ H₀ ex pn,Lr (iR X N scope cl C s₀ H₀ ex pn) jD tt) (he:∀ C s₀ H₀ ex pn,PE (iR X N scope cl C s₀ H₀ ex pn) jP te)
  (hs:∀ x,foldedSetIterable iter X.env x=pure x) {use:Option (Value->Sem Unit)} {Q':Value->Shared->Prop} {Q:VK} {ak:List (Addr × Obj)} {s:Shared} {σ:L2.St} {H:Hp} (I:Inv X ak σ H s) (h:wC jx wi g tt te σ H Q)
  (iH:∀ (s3:Shared) (H3:Hp) (fp:List Addr) (acc:Addr) (σ6:L2.St) (H6:Hp) (s7:Shared),Inv X ak σ H3 s3->(∀ b∈fp,oJ X ak H3 b)->Inv (iR X N scope cl s3.heap.objs.size s3 H3 fp (X.pn++ak)) [] σ6 H6 s7->Q ↥acc H6->
   compPost (model X.prog X.w) X.A X.xe use Q' ↥acc s3.heap.objs.size (.ok .next) s7) :
  wpAny (model X.prog X.w) X.A (comprehension (.ListComp jP [⟨tg,iter,jD,0⟩] scope pos) scope X.env iJ (newList []) false (eval iter X.env) use) Q' X.xe s:=by
 refine wpAny_comprehension_free (use:=use) rfl hs cs.clos cs.kind cs.names (cL (hi ak s σ H _ I h) λv s1 h1=>cL h1 λX8 s2 h2=>?_);let⟨it,fp,tn,J,H2,e,I2,T,st2,f2,q⟩:=h2;subst e;refine wpAny_newObj_type (hd:=by size_fits) ?_;have cu:H2 s2.heap.objs.size=none:=I2.hok.fresh (fK _);have I3:Inv X ak σ (aO H2 s2.heap.objs.size (.lst [])) { s2 with heap:=s2.heap.push { cls:=.type "list",data:=.seq ([]:List Value).toArray },toks:=s2.toks }:=I2.QW (ys:=[]) .nil (Nat.zero_le _)
 have YY:∀ b∈fp,b<s2.heap.objs.size:=λb hb=>by
  let⟨o,ho,_⟩:=T.obj _ _ st2 b hb;exact Heap.lt_size ho
 have f3:∀ b∈fp,oJ X ak (aO H2 s2.heap.objs.size (.lst [])) b:=λb hb=>⟨by rw[aK (jC (YY b hb))];exact (f2 b hb).1,(f2 b hb).2⟩;have k3:∀ b o,s2.heap.get? b=⇑o->(s2.heap.push { cls:=.type "list",data:=.seq ([]:List Value).toArray }).get? b=⇑o:=λb o e=>Heap.get?_push_of_some _ e;have q3:=q _ cu;generalize hs3:({ s2 with heap:=s2.heap.push { cls:=.type "list",data:=.seq ([]:List Value).toArray },toks:=s2.toks }:Shared)=s3 at I3;generalize hH3:aO H2 s2.heap.objs.size (.lst [])=H3 at I3 f3 q3;have YZ:s3.heap=s2.heap.push { cls:=.type "list",data:=.seq ([]:List Value).toArray }:=by rw[← hs3]
 have J5:∀ b∈fp,b<s3.heap.objs.size:=λb hb=>by rw[YZ,Heap.size_push];exact Nat.lt_succ_of_lt (YY b hb)
 have st3:tn 0 s3.heap:=T.keep _ _ _ st2 λb _ o e=>by rw[YZ];exact k3 b o e
 show wpAny _ _ _ _ _ s3;refine wpAny_newFunctionEnv cs.cell (λy hy=>by simp at hy) (λh₁ MQ RB=>?_) cs.kind;have kh:∀ b o,s3.heap.get? b=⇑o->h₁.get? b=⇑o:=λb o e=>RB.extBut _ _ (jC (Heap.lt_size e)) (Heap.get?_push_of_some _ e);have J0:Inv (iR X N scope cl s3.heap.objs.size s3 H3 fp (X.pn++ak)) [] (tU jx σ) H3 { s3 with heap:=h₁,toks:=s3.toks+↑([]:List (Str × Value)) }:=xE cs I3 f3 J5 MQ kh;have Y0:tn 0 h₁:=T.keep _ _ _ st3 λb _ o e=>kh b o e;let⟨W,⟨m0,w0⟩,oH⟩:=q3
 have sU:∀ {H':Hp},(∀ b∈fp,H' b=none)->∀ b∈fp,oJ (iR X N scope cl s3.heap.objs.size s3 H3 fp (X.pn++ak)) [] H' b:=λhn b hb=>by
  refine⟨hn b hb,jC (J5 b hb),λz=>?_,.inl hb,λx c e=>(f3 b hb).2.2.2.2.1 x c (cs.sub x c e),λp hp=>?_⟩
  ·rcases List.mem_cons.mp (I3.vM b z) with e|e
   ·exact (f3 b hb).2.1 e
   ·exact (f3 b hb).2.2.1 e
  ·have MT:p∈X.pn++ak:=by
    have z:p∈(X.pn++ak)++[]:=hp;simpa using z
   exact (f3 b hb).2.2.2.2.2 p MT
 have loop:∀ s5:Shared,s5={ s3 with heap:=h₁,toks:=s3.toks+↑([]:List (Str × Value)) }->codeAny (model X.prog X.w) X.A (.compLoop (.ListComp jP [⟨tg,iter,jD,0⟩] scope pos) 0 ↥it ↥s2.heap.objs.size (iR X N scope cl s3.heap.objs.size s3 H3 fp (X.pn++ak)).env)
   (compPost (model X.prog X.w) X.A X.xe use Q' ↥s2.heap.objs.size s3.heap.objs.size) s5:=by
  rintro s5 rfl;refine Lq (λn s'=>∃ i σ' H',Inv (iR X N scope cl s3.heap.objs.size s3 H3 fp (X.pn++ak)) [] σ' H' s'/\tn i s'.heap/\(∀ b∈fp,H' b=none)/\W i n σ' H') ?_ m0 ⟨0,_,H3,J0,Y0,λb hb=>(f3 b hb).1,w0⟩;rintro n s6 ⟨i,σ6,H6,I6,TL,Qo,w6⟩;rcases oH i n σ6 H6 w6 with ⟨stop,qn⟩|⟨go,Nx,hN,step⟩
  ·refine cL (T.done (iR X N scope cl s3.heap.objs.size s3 H3 fp (X.pn++ak)) rfl rfl rfl hc i [] s6 σ6 H6 _ I6 (sU Qo) TL stop) λr s7 EN=>?_;let⟨hr,I7⟩:=EN;subst hr;exact iH s3 H3 fp _ σ6 H6 s7 I3 f3 I7 qn
  ·refine cL (T.item (iR X N scope cl s3.heap.objs.size s3 H3 fp (X.pn++ak)) rfl rfl rfl hc i [] s6 σ6 H6 _ I6 (sU Qo) TL go) λr s7 EO=>?_;let⟨u,hr,h7⟩:=EO;subst hr;refine cL h7 λ_ s8 Hr=>?_;let⟨x,H8,I8,r8,y8,N9,EB⟩:=Hr;have YN:=I8.pinned (sU EB) (T.obj _ _ N9);refine cL (hg _ _ _ _ _ _ s8 σ6 H8 x u _ YN r8 (step x H8 y8)) λ_ s9 Ho=>?_;let⟨σ9,H9,I9,q9⟩:=Ho;refine cL (ht _ _ _ _ _ _ s9 σ9 H9 _ I9 q9) λok s10 AF=>?_;let⟨MR,TM,BA⟩:=AF
   have again:∀ {σ7:L2.St} {H7:Hp} {vH:Shared},Inv (iR X N scope cl s3.heap.objs.size s3 H3 fp (X.pn++ak)) ([]++sS fp s8.heap) σ7 H7 vH->Nx σ7 H7->∃ m,m<n/\∃ i σ' H',Inv (iR X N scope cl s3.heap.objs.size s3 H3 fp (X.pn++ak)) [] σ' H' vH/\tn i vH.heap/\(∀ b∈fp,H' b=none)/\W i m σ' H':=λ{σ7 H7 vH} I7 n7=>by
    let⟨m',hm,w7⟩:=hN σ7 H7 n7;refine⟨m',hm,i+1,σ7,H7,I7.nQ,T.keep _ _ _ N9 λb hb o e=>(I7.pin (b,o) (nP _ (nP _ (gP hb e)))).1,λb hb=>?_,w7⟩;let⟨o,e,d⟩:=T.obj _ _ N9 b hb;exact (I7.pin (b,o) (nP _ (nP _ (gP hb e)))).2.1
   cases ok with
   | false =>
    rw[if_neg fL]at BA;exact again TM BA
   | true =>
    rw[if_pos rfl]at BA;refine cL (he _ _ _ _ _ _ s10 σ9 MR _ TM BA) λv vH EM=>?_;let⟨y,YO,I11,r11,xs,hx,hz,n11⟩:=EM;refine cL (bT _ vH σ9 YO ↥s2.heap.objs.size [y] ↥s2.heap.objs.size [v] (λ_ H'=>Nx σ9 H') I11 rfl (.cons r11 .nil) ⟨_,xs,y,V,hx,hz,n11⟩) λ_ qg AG=>?_;let⟨_,MS,I12,_,Vi⟩:=AG;exact again I12 Vi
 exact codeAny_compStart_list (loop _ rfl) (T.self _ _ _ _ _ Y0 (loop _ rfl))
theorem Ot{iter:Expr}{wi:TI}{g:TG}{tt:TT}{te:TE}(cs:BQ X N scope cl jx)(hc:X.calm=true)(hi:PI X tg iter wi)
  (hg:∀ C s₀ H₀ ex pn,PG (iR X N scope cl C s₀ H₀ ex pn) tg g) (ht:∀ C s₀ H₀ ex pn,Lr (iR X N scope cl C s₀ H₀ ex pn) jD tt) (he:∀ C s₀ H₀ ex pn,PE (iR X N scope cl C s₀ H₀ ex pn) jP te)
  (hs:∀ x,foldedSetIterable iter X.env x=pure x:=by intro _;rfl):PE X (.ListComp jP [⟨tg,iter,jD,0⟩] scope pos) (wC jx wi g tt te):=by
 intro ak s σ H Q I h;rw[eval_ListComp];refine BR (use:=none) cs hc hi hg ht he hs I h λs3 H3 fp acc σ6 H6 s7 I3 f3 I7 qn=>?_;let⟨m,hm,_⟩:=I7.loc;exact⟨m,hm,λh' RB=>⟨↥acc,H6,wB I3 (wA I3 f3 I7) I7.free RB,rfl,qn⟩⟩
theorem RC{iter:Expr}{Ie:Pos}{wi:TI}{g:TG}{tt:TT}{te:TE}{i:Nat}{x:Str}(cs:BQ X N scope cl jx)(hc:X.calm=true)(hN:X.N.Nodup)(hix:X.N[i]?=⇑x)(hx:X.env.scope.names.lookup x=⇑.local)(hi:PI X tg iter wi)
  (hg:∀ C s₀ H₀ ex pn,PG (iR X N scope cl C s₀ H₀ ex pn) tg g) (ht:∀ C s₀ H₀ ex pn,Lr (iR X N scope cl C s₀ H₀ ex pn) jD tt) (he:∀ C s₀ H₀ ex pn,PE (iR X N scope cl C s₀ H₀ ex pn) jP te)
  (hsw:swapsWith (.ListComp jP [⟨tg,iter,jD,0⟩] scope pos) (⇑(.Name x iJ)) Ie.line X.env=pure true:=by rfl)
  (hs:∀ x,foldedSetIterable iter X.env x=pure x:=by intro _;rfl):PS X (.Assign [.Name x iJ] (.ListComp jP [⟨tg,iter,jD,0⟩] scope pos) Ie) (M9 (wC jx wi g tt te) (rX i)):=by
 intro ak s σ H D I h;rw[exec_Assign_Name_used _ _ _ _ hsw];refine wpAny_bind (wpAny_standAt (wpAny_bind ?_));show wpAny _ X.A (do let _ ← comprehension (.ListComp jP [⟨tg,iter,jD,0⟩] scope pos) scope X.env _ (newList []) false (eval iter X.env) (⇑(assign (.Name x iJ) X.env))) _ _ s;have h':wC jx wi g tt te σ H (λv H'=>rX i v σ H' D.nx):=h;refine wpAny_bind (cL (BR (use:=⇑(assign (.Name x iJ) X.env)) (Q':=λ_ s'=>∃ σ' H',Inv X ak σ' H' s'/\D.nx σ' H') cs hc hi hg ht he hs I h' λs3 H3 fp acc σ6 H6 s7 I3 f3 I7 qn=>?_) λ_ s' q=>?_)
 ·have I4:=wA I3 f3 I7;let⟨m,hm,_⟩:=I7.loc;refine wpAny_assign_Name (Bk I4 hN hix (.inl hx) (v:=↥acc) rfl (λs8 I8 ⟨a,RB,ha⟩=>?_) (.inr hx))
  have na:s3.heap.objs.size≠a:=by
   rcases ha with rfl|ha
   ·exact Nat.ne_of_gt I3.lt
   ·intro z;let⟨v,o,ho,_⟩:=I3.cell x a ha;exact absurd (Heap.lt_size ho) (by rw[z];exact Nat.lt_irrefl _)
  refine⟨m,hm.at' λo e=>RB.extBut _ o na e,λh' hs'=>⟨_,H6,wB I3 I8 I7.free hs',qn⟩⟩
 ·exact wpAny_pure (wpAny_pure q)
theorem fk{K:PySem.W.Frag}{a:Addr}{xs:List V}{g:TG}{tt:TT}{te:TE}{σ0:L2.St}{H:Hp}{Q:VK}(Pv:Nat->L2.St->Hp->Prop)(h0:Pv 0 σ0 H)(hl:∀ i σ H,i<=↑xs->Pv i σ H->bG K H a xs)
  (hs:∀ i x σ H,xs[i]?=⇑x->Pv i σ H->g x σ H fun σ2 H2=>tt σ2 H2 λb H3=>if b=true then te σ2 H3 λv H4=>∃ ys,H4 acc=⇑(.lst ys)/\↑ys<sizeLine/\Pv (i+1) σ2 (aO H4 acc (.lst (ys++[v]))) else Pv (i+1) σ2 H3)
  (hd:∀ σ H,Pv ↑xs σ H->Q ↥acc H):yG (Qm K a) acc g tt te σ0 H Q:=by
 refine⟨λi m σ H=>m=↑xs-i/\i<=↑xs/\Pv i σ H,⟨↑xs,by simp,Nat.zero_le _,h0⟩,?_⟩;rintro i m σ H ⟨rfl,hi,p⟩;have q:=hl i σ H hi p;by_cases pJ:i<↑xs
 ·refine .inr ⟨⟨xs,xs[i],q,by simp[pJ]⟩,Pv (i+1),fun σ' H' p'=>⟨↑xs-(i+1),E,rfl,pJ,p'⟩,λx H' y=>?_⟩;let⟨e,y⟩:=y;subst e;exact hs i x σ _ (y xs q) p
 ·have e:i=↑xs:=by lia
  subst e;exact .inl ⟨⟨xs,q,fK _⟩,hd σ H p⟩
theorem mS{lo:Int}{k:Nat}{g:TG}{tt:TT}{te:TE}{σ0:L2.St}{H:Hp}{Q:VK}(Pv:Nat->L2.St->Hp->Prop)(h0:Pv 0 σ0 H)
  (hs:∀ i σ H,i<k->Pv i σ H->g (.int (lo+i)) σ H fun σ2 H2=>tt σ2 H2 λb H3=>if b=true then te σ2 H3 λv H4=>∃ ys,H4 acc=⇑(.lst ys)/\↑ys<sizeLine/\Pv (i+1) σ2 (aO H4 acc (.lst (ys++[v]))) else Pv (i+1) σ2 H3)
  (hd:∀ σ H,Pv k σ H->Q ↥acc H):yG (KW lo k) acc g tt te σ0 H Q:=by
 refine⟨λi m σ H=>m=k-i/\i<=k/\Pv i σ H,⟨k,by simp,Nat.zero_le _,h0⟩,?_⟩;rintro i m σ H ⟨rfl,hi,p⟩;by_cases pJ:i<k
 ·refine .inr ⟨pJ,Pv (i+1),fun σ' H' p'=>⟨k-(i+1),E,rfl,pJ,p'⟩,λx H' y=>?_⟩;let⟨e,y⟩:=y;subst e y;exact hs i σ _ pJ p
 ·have e:i=k:=by lia
  subst e;exact .inl ⟨Nat.le_refl _,hd σ H p⟩
end
section
variable {X:Cx} {N:List Str} {scope:Scope} {cl:List (Str × Addr)} {C:Addr} {s₀:Shared} {H₀:Hp} {ex:List Addr} {pn:List (Addr × Obj)}
theorem uR{es:List Expr}{k:Nat}{t:UD}{n:Nat}(hc:X.calm=true)(h:X5 (iR X N scope cl C s₀ H₀ ex pn) es t)
  (hn:↑(assignEach es (iR X N scope cl C s₀ H₀ ex pn).env)=n:=by rfl) (vQ:(assignEach es (iR X N scope cl C s₀ H₀ ex pn).env).findIdx? (·.1)=none:=by rfl):PG (iR X N scope cl C s₀ H₀ ex pn) (.Tuple es k pos) (UG X.K n t):=oG (X:=iR X N scope cl C s₀ H₀ ex pn) hc h hn vQ
theorem Ft{l:Expr}{tl:TE}(hl:PE (iR X N scope cl C s₀ H₀ ex pn) l tl):PI (iR X N scope cl C s₀ H₀ ex pn) tg l (Tq X.K tl):=ck hl
theorem J6:Yo (iR X N scope cl C s₀ H₀ ex pn) (Yq X.K):=aT
end
def Dg{X:Cx}:jF X (.type "range") (λxs H Q=>∃ j:Int,xs=[.int j]/\∀ p,H p=none->Q ↥p (aO H p (.Ez 0 j))):=by
 intro ak s σ H xs us Q I r h;let⟨j,rfl,q⟩:=h;let⟨u1,rfl,⟨t,rfl⟩⟩:=r.one;refine call_range_1 ⟨↥s.heap.objs.size,_,I.laid (o:=.Ez 0 j) (λb o e=>Heap.get?_push_of_some _ e) (fK _) ⟨K,Heap.get?_push_size _ rfl⟩,rfl,q _ (I.hok.fresh (fK _))⟩
theorem wD{scope:Scope}{env:Env}(h:∀ p∈scope.names,p.2=.free->∃ c,env.cells.lookup p.1=⇑c) :
  ∃ cl,closureFor scope env=pure cl/\(∀ x c,cl.lookup x=⇑c->env.cells.lookup x=⇑c)/\(∀ p∈scope.names,p.2=.free->∃ c,cl.lookup p.1=⇑c):=by
 unfold closureFor
 have key:∀ (l:List (Str × NameKind)) (cs:List (Str × Addr)),(∀ p∈l,p.2=.free->∃ c,env.cells.lookup p.1=⇑c)->(∀ x c,cs.lookup x=⇑c->env.cells.lookup x=⇑c)->
   ∃ cl,(forIn l cs (λp r=>if (p.2 == NameKind.free)=true then do let c ← cellOf env p.1;pure (ForInStep.yield ((p.1,c)::r)) else pure (ForInStep.yield r)):Sem (List (Str × Addr)))=pure cl/\(∀ x c,cl.lookup x=⇑c->env.cells.lookup x=⇑c)/\(∀ p∈l,p.2=.free->∃ c,cl.lookup p.1=⇑c)/\(∀ x c,cs.lookup x=⇑c->∃ c,cl.lookup x=⇑c):=by
  intro l
  induction l with
  | nil=>intro cs _ QU;exact⟨cs,rfl,QU,(λp hp=>by cases hp),λx c e=>⟨c,e⟩⟩
  | cons p l ih =>
   intro cs hl QU;rw[List.forIn_cons];by_cases hp:p.2=.free
   ·let⟨c,hc⟩:=hl p uv hp;have e1:(p.2 == NameKind.free)=true:=by rw[hp];rfl
    have e2:cellOf env p.1=pure c:=by
     unfold cellOf;rw[hc]
    rw[if_pos e1,e2];simp only[pure_bind]
    let⟨cl,h1,h2,h3,h4⟩:=ih ((p.1,c)::cs) (λq hq=>hl q (nO _ hq)) (λx d e=>by
     rw[List.lookup_cons]at e
     cases hx:x == p.1 with
     | true =>
      rw[hx]at e;cases e;rw[eq_of_beq hx];exact hc
     | false =>
      rw[hx]at e
      exact QU x d e)
    refine⟨cl,h1,h2,λq hq hf=>?_,λx d e=>?_⟩
    ·rcases List.mem_cons.mp hq with rfl|hq
     ·exact h4 q.1 c (by rw[List.lookup_cons];simp)
     ·exact h3 q hq hf
    ·cases hx:x == p.1 with
     | true=>exact h4 x c (by rw[List.lookup_cons,hx])
     | false=>exact h4 x d (by rw[List.lookup_cons,hx];exact e)
   ·have e1:¬ (p.2 == NameKind.free)=true:=λz=>hp (eq_of_beq z);rw[if_neg e1];simp only[pure_bind];let⟨cl,h1,h2,h3,h4⟩:=ih cs (λq hq=>hl q (nO _ hq)) QU;refine⟨cl,h1,h2,λq hq hf=>?_,h4⟩;rcases List.mem_cons.mp hq with rfl|hq
    ·exact absurd hf hp
    ·exact h3 q hq hf
 let⟨cl,h1,h2,h3,_⟩:=key scope.names [] h (λx c e=>by cases e);refine⟨cl,?_,h2,h3⟩;rw[← h1];simp only[bind_pure]
theorem jq{env:Env}:∀ {names:List (Str × NameKind)} {x:Str} {k:NameKind},names.lookup x=⇑k->
  (names.map λ(n,k)=>if (k == NameKind.free&&env.scope.kind == .function&&env.kindOf n == some .cell) then (n,NameKind.cell) else (n,k)).lookup x=⇑(if (k == NameKind.free&&env.scope.kind == .function&&env.kindOf x == some .cell) then NameKind.cell else k)
 | [],_,_,h=>by cases h
 | (n,k')::r,x,k,h=>by
  rw[jh];by_cases hx:(x == n)=true
  ·have e:x=n:=eq_of_beq hx;subst e;rw[List.lookup_cons,hx]at h;cases h;by_cases hc:(k' == NameKind.free&&env.scope.kind == .function&&env.kindOf x == some .cell)=true
   ·show List.lookup x ((if (k' == NameKind.free&&env.scope.kind == .function&&env.kindOf x == some .cell)=true then (x,NameKind.cell) else (x,k'))::_)=_;rw[if_pos hc,if_pos hc,List.lookup_cons,hx]
   ·show List.lookup x ((if (k' == NameKind.free&&env.scope.kind == .function&&env.kindOf x == some .cell)=true then (x,NameKind.cell) else (x,k'))::_)=_;rw[if_neg hc,if_neg hc,List.lookup_cons,hx]
  ·have hf:(x == n)=false:=by simpa using hx
   rw[List.lookup_cons,hf]at h;have ih:=jq (env:=env) h;show List.lookup x ((if (k' == NameKind.free&&env.scope.kind == .function&&env.kindOf n == some .cell)=true then (n,NameKind.cell) else (n,k'))::_)=_;by_cases hc:(k' == NameKind.free&&env.scope.kind == .function&&env.kindOf n == some .cell)=true
   ·rw[if_pos hc,List.lookup_cons,hf];exact ih
   ·rw[if_neg hc,List.lookup_cons,hf];exact ih
theorem kX{env:Env}:∀ {names:List (Str × NameKind)} {x:Str},names.lookup x=none->
  (names.map λ(n,k)=>if (k == NameKind.free&&env.scope.kind == .function&&env.kindOf n == some .cell) then (n,NameKind.cell) else (n,k)).lookup x=none
 | [],_,_=>rfl
 | (n,k')::r,x,h=>by
  rw[jh]
  have hf:(x == n)=false:=by
   cases hx:x == n with
   | false=>rfl
   | true=>rw[List.lookup_cons,hx]at h;cases h
  rw[List.lookup_cons,hf]at h;have ih:=kX (env:=env) h;show List.lookup x ((if (k' == NameKind.free&&env.scope.kind == .function&&env.kindOf n == some .cell)=true then (n,NameKind.cell) else (n,k'))::_)=_;by_cases hc:(k' == NameKind.free&&env.scope.kind == .function&&env.kindOf n == some .cell)=true
  ·rw[if_pos hc,List.lookup_cons,hf];exact ih
  ·rw[if_neg hc,List.lookup_cons,hf];exact ih
structure zC(X:Cx)(N:List Str)(scope:Scope)(jx:List (Option Nat)):Prop where
 kind:scope.kind=.function
 cell:∀ x∈scope.names,x.2≠.cell
 names:∀ x∈scope.names,x.2=.local->scope.names.lookup x.1=⇑.local
 xk:X.env.scope.kind=.function
 fr:∀ x∈scope.names,x.2=.free->X.env.scope.names.lookup x.1=⇑.cell
 len:↑jx=↑N
 free:∀ (i j:Nat) (x:Str),jx[i]?=⇑(⇑j)->N[i]?=⇑x->X.N[j]?=⇑x/\scope.names.lookup x=⇑.free
def Dh(NX N:List Str)(scope:Scope)(jx:List (Option Nat)):Bool:=(jx.zip N).all λp=>match p.1 with
 | none=>true
 | some j=>decide (NX[j]?=⇑p.2)&&decide (scope.names.lookup p.2=⇑.free)
theorem jG{X:Cx}{N NX:List Str}{scope sc:Scope}{jx:List (Option Nat)}(e1:X.env.scope=sc)(e2:X.N=NX)(k:scope.kind=.function)(h1:∀ x∈scope.names,x.2≠.cell)(h2:∀ x∈scope.names,x.2=.local->scope.names.lookup x.1=⇑.local)
  (h3:sc.kind=.function) (h4:∀ x∈scope.names,x.2=.free->sc.names.lookup x.1=⇑.cell) (h5:↑jx=↑N) (h6:Dh NX N scope jx=true):zC X N scope jx:=by
 refine⟨k,h1,h2,by rw[e1];exact h3,by rw[e1];exact h4,h5,λi j x a b=>?_⟩;rw[e2];unfold Dh at h6;rw[List.all_eq_true]at h6;have z:=h6 (⇑j,x) (m6 (i:=i) (by rw[List.getElem?_zip_eq_some];exact⟨a,b⟩));simp only[Bool.and_eq_true,decide_eq_true_eq]at z;exact z
section
variable {X:Cx} {N:List Str} {scope:Scope} {jx:List (Option Nat)}
def zC.toF{σ:L2.St}{H:Hp}{s:Shared}(cg:zC X N scope jx)(I:Inv X ak σ H s):∃ cl,BQ X N scope cl jx:=by
 let⟨cl,h1,h2,h3⟩:=wD (scope:=scope) (env:=X.env) λp hp hf=>I.ok.has p.1 (.inl (cg.fr p hp hf))
 have xD:∀ x,scope.names.lookup x=⇑.free->(relabel scope X.env).names.lookup x=⇑.cell:=λx hx=>by
  have z:=jq (env:=X.env) hx
  have c:(NameKind.free == NameKind.free&&X.env.scope.kind == .function&&X.env.kindOf x == some .cell)=true:=by
   have q:X.env.kindOf x=⇑.cell:=cg.fr (x,.free) (PySem.mem_of_lookup hx) rfl;rw[cg.xk,q];rfl
  rw[if_pos c]at z;exact z
 refine⟨cl,cg.kind,cg.cell,cg.names,h1,h2,λx hx=>?_,cg.len,λi j x a b=>?_⟩
 ·cases e:scope.names.lookup x with
  | none =>
   have z:(relabel scope X.env).names.lookup x=none:=kX (env:=X.env) e;rw[z]at hx
   rcases hx with q|q <;> cases q
  | some k =>
   by_cases hk:k=.free
   ·subst hk;exact h3 (x,.free) (PySem.mem_of_lookup e) rfl
   ·have z:(relabel scope X.env).names.lookup x=⇑(if (k == NameKind.free&&X.env.scope.kind == .function&&X.env.kindOf x == some .cell) then NameKind.cell else k):=jq (env:=X.env) e
    have c:(k == NameKind.free)=false:=by
     cases q:k == NameKind.free with
     | false=>rfl
     | true=>exact absurd (eq_of_beq q) hk
    rw[c]at z;simp only[Bool.false_and,Bool.false_eq_true,if_false]at z;rw[z]at hx;rcases hx with q|q
    ·cases q;exact absurd rfl (cg.cell (x,.cell) (PySem.mem_of_lookup e))
    ·cases q;exact absurd rfl hk
 ·let⟨f1,f2⟩:=cg.free i j x a b;exact⟨f1,cg.fr (x,.free) (PySem.mem_of_lookup f2) rfl,xD x f2⟩
theorem fR{iter:Expr}{wi:TI}{g:TG}{tt:TT}{te:TE}(cg:zC X N scope jx)(hc:X.calm=true)(hi:PI X tg iter wi)
  (hg:∀ cl C s₀ H₀ ex pn,PG (iR X N scope cl C s₀ H₀ ex pn) tg g) (ht:∀ cl C s₀ H₀ ex pn,Lr (iR X N scope cl C s₀ H₀ ex pn) jD tt) (he:∀ cl C s₀ H₀ ex pn,PE (iR X N scope cl C s₀ H₀ ex pn) jP te)
  (hs:∀ x,foldedSetIterable iter X.env x=pure x:=by intro _;rfl):PE X (.ListComp jP [⟨tg,iter,jD,0⟩] scope pos) (wC jx wi g tt te):=by
 intro ak s σ H Q I h;let⟨cl,cs⟩:=cg.toF I;exact Ot cs hc hi (hg cl) (ht cl) (he cl) hs ak s σ H Q I h
theorem Di{iter:Expr}{Ie:Pos}{wi:TI}{g:TG}{tt:TT}{te:TE}{i:Nat}{x:Str}(cg:zC X N scope jx)(hc:X.calm=true)(hN:X.N.Nodup)(hix:X.N[i]?=⇑x)(hx:X.env.scope.names.lookup x=⇑.local)(hi:PI X tg iter wi)
  (hg:∀ cl C s₀ H₀ ex pn,PG (iR X N scope cl C s₀ H₀ ex pn) tg g) (ht:∀ cl C s₀ H₀ ex pn,Lr (iR X N scope cl C s₀ H₀ ex pn) jD tt) (he:∀ cl C s₀ H₀ ex pn,PE (iR X N scope cl C s₀ H₀ ex pn) jP te)
  (hsw:swapsWith (.ListComp jP [⟨tg,iter,jD,0⟩] scope pos) (⇑(.Name x iJ)) Ie.line X.env=pure true:=by rfl)
  (hs:∀ x,foldedSetIterable iter X.env x=pure x:=by intro _;rfl):PS X (.Assign [.Name x iJ] (.ListComp jP [⟨tg,iter,jD,0⟩] scope pos) Ie) (M9 (wC jx wi g tt te) (rX i)):=by
 intro ak s σ H D I h;let⟨cl,cs⟩:=cg.toF I;exact RC cs hc hN hix hx hi (hg cl) (ht cl) (he cl) hsw hs ak s σ H D I h
end
end cD
namespace cD
open Spec Rows L2
section
variable {X:Cx} {N:List Str} {scope:Scope} {cl:List (Str × Addr)} {jx:List (Option Nat)}
def Fv(J:It)(acc:Addr)(g:TG)(tt:TT)(Ia:TI)(g2:TG)(Ib:TT)(te:TE)(σ0:L2.St)(H:Hp)(Q:VK):Prop :=
 ∃ W:Nat->Nat->L2.St->Hp->Prop,(∃ m,W 0 m σ0 H)/\∀ i m σ H,W i m σ H->
  (J.stop i H/\Q ↥acc H)\/(J.go i H/\∃ Nx:L2.St->Hp->Prop,(∀ σ' H',Nx σ' H'->∃ m',m'<m/\W (i+1) m' σ' H')/\∀ x H',J.Nb i H x H'->g x σ H' fun σ2 H2=>tt σ2 H2 λb H3 =>
   if b=true then HZ Ia acc g2 Ib te σ2 H3 Nx else Nx σ2 H3)
def J7(jx:List (Option Nat))(wi:TI)(g:TG)(tt:TT)(Ia:TI)(g2:TG)(Ib:TT)(te:TE):TE:=fun σ H Q=>wi σ H λJ H1=>∀ acc,H1 acc=none->Fv J acc g tt Ia g2 Ib te (tU jx σ) (aO H1 acc (.lst [])) Q
theorem Ii{iter:Expr}{wi Ia:TI}{g g2:TG}{tt Ib:TT}{te:TE}(cs:BQ X N scope cl jx)(hc:X.calm=true)(hi:PI X tg iter wi)
  (hg:∀ C s₀ H₀ ex pn,PG (iR X N scope cl C s₀ H₀ ex pn) tg g) (ht:∀ C s₀ H₀ ex pn,Lr (iR X N scope cl C s₀ H₀ ex pn) jD tt) (Xj:∀ C s₀ H₀ ex pn,PI (iR X N scope cl C s₀ H₀ ex pn) qf dD Ia) (hg2:∀ C s₀ H₀ ex pn,PG (iR X N scope cl C s₀ H₀ ex pn) qf g2) (MU:∀ C s₀ H₀ ex pn,Lr (iR X N scope cl C s₀ H₀ ex pn) iW Ib) (he:∀ C s₀ H₀ ex pn,PE (iR X N scope cl C s₀ H₀ ex pn) jP te)
  (hs:∀ x,foldedSetIterable iter X.env x=pure x) (G6:∀ (env:Env) x,foldedSetIterable dD env x=pure x) {use:Option (Value->Sem Unit)} {Q':Value->Shared->Prop} {Q:VK} {ak:List (Addr × Obj)} {s:Shared} {σ:L2.St} {H:Hp} (I:Inv X ak σ H s) (h:J7 jx wi g tt Ia g2 Ib te σ H Q)
  (iH:∀ (s3:Shared) (H3:Hp) (fp:List Addr) (acc:Addr) (σ6:L2.St) (H6:Hp) (s7:Shared),Inv X ak σ H3 s3->(∀ b∈fp,oJ X ak H3 b)->Inv (iR X N scope cl s3.heap.objs.size s3 H3 fp (X.pn++ak)) [] σ6 H6 s7->Q ↥acc H6->
   compPost (model X.prog X.w) X.A X.xe use Q' ↥acc s3.heap.objs.size (.ok .next) s7) :
  wpAny (model X.prog X.w) X.A (comprehension (.ListComp jP [⟨tg,iter,jD,0⟩,⟨qf,dD,iW,0⟩] scope pos) scope X.env iJ (newList []) false (eval iter X.env) use) Q' X.xe s:=by
 refine wpAny_comprehension_free (use:=use) rfl hs cs.clos cs.kind cs.names (cL (hi ak s σ H _ I h) λv s1 h1=>cL h1 λX8 s2 h2=>?_);let⟨it,fp,tn,J,H2,e,I2,T,st2,f2,q⟩:=h2;subst e;refine wpAny_newObj_type (hd:=by size_fits) ?_;have cu:H2 s2.heap.objs.size=none:=I2.hok.fresh (fK _);have I3:Inv X ak σ (aO H2 s2.heap.objs.size (.lst [])) { s2 with heap:=s2.heap.push { cls:=.type "list",data:=.seq ([]:List Value).toArray },toks:=s2.toks }:=I2.QW (ys:=[]) .nil (Nat.zero_le _)
 have YY:∀ b∈fp,b<s2.heap.objs.size:=λb hb=>by
  let⟨o,ho,_⟩:=T.obj _ _ st2 b hb;exact Heap.lt_size ho
 have f3:∀ b∈fp,oJ X ak (aO H2 s2.heap.objs.size (.lst [])) b:=λb hb=>⟨by rw[aK (jC (YY b hb))];exact (f2 b hb).1,(f2 b hb).2⟩;have k3:∀ b o,s2.heap.get? b=⇑o->(s2.heap.push { cls:=.type "list",data:=.seq ([]:List Value).toArray }).get? b=⇑o:=λb o e=>Heap.get?_push_of_some _ e;have q3:=q _ cu;generalize hs3:({ s2 with heap:=s2.heap.push { cls:=.type "list",data:=.seq ([]:List Value).toArray },toks:=s2.toks }:Shared)=s3 at I3;generalize hH3:aO H2 s2.heap.objs.size (.lst [])=H3 at I3 f3 q3;have YZ:s3.heap=s2.heap.push { cls:=.type "list",data:=.seq ([]:List Value).toArray }:=by rw[← hs3]
 have J5:∀ b∈fp,b<s3.heap.objs.size:=λb hb=>by rw[YZ,Heap.size_push];exact Nat.lt_succ_of_lt (YY b hb)
 have st3:tn 0 s3.heap:=T.keep _ _ _ st2 λb _ o e=>by rw[YZ];exact k3 b o e
 show wpAny _ _ _ _ _ s3;refine wpAny_newFunctionEnv cs.cell (λy hy=>by simp at hy) (λh₁ MQ RB=>?_) cs.kind;have kh:∀ b o,s3.heap.get? b=⇑o->h₁.get? b=⇑o:=λb o e=>RB.extBut _ _ (jC (Heap.lt_size e)) (Heap.get?_push_of_some _ e);have J0:Inv (iR X N scope cl s3.heap.objs.size s3 H3 fp (X.pn++ak)) [] (tU jx σ) H3 { s3 with heap:=h₁,toks:=s3.toks+↑([]:List (Str × Value)) }:=xE cs I3 f3 J5 MQ kh;have Y0:tn 0 h₁:=T.keep _ _ _ st3 λb _ o e=>kh b o e;let⟨W,⟨m0,w0⟩,oH⟩:=q3
 have sU:∀ {H':Hp},(∀ b∈fp,H' b=none)->∀ b∈fp,oJ (iR X N scope cl s3.heap.objs.size s3 H3 fp (X.pn++ak)) [] H' b:=λhn b hb=>by
  refine⟨hn b hb,jC (J5 b hb),λz=>?_,.inl hb,λx c e=>(f3 b hb).2.2.2.2.1 x c (cs.sub x c e),λp hp=>?_⟩
  ·rcases List.mem_cons.mp (I3.vM b z) with e|e
   ·exact (f3 b hb).2.1 e
   ·exact (f3 b hb).2.2.1 e
  ·have MT:p∈X.pn++ak:=by
    have z:p∈(X.pn++ak)++[]:=hp;simpa using z
   exact (f3 b hb).2.2.2.2.2 p MT
 have loop:∀ s5:Shared,s5={ s3 with heap:=h₁,toks:=s3.toks+↑([]:List (Str × Value)) }->codeAny (model X.prog X.w) X.A (.compLoop (.ListComp jP [⟨tg,iter,jD,0⟩,⟨qf,dD,iW,0⟩] scope pos) 0 ↥it ↥s2.heap.objs.size (iR X N scope cl s3.heap.objs.size s3 H3 fp (X.pn++ak)).env)
   (compPost (model X.prog X.w) X.A X.xe use Q' ↥s2.heap.objs.size s3.heap.objs.size) s5:=by
  rintro s5 rfl;refine Ri (λn s'=>∃ i σ' H',Inv (iR X N scope cl s3.heap.objs.size s3 H3 fp (X.pn++ak)) [] σ' H' s'/\tn i s'.heap/\(∀ b∈fp,H' b=none)/\W i n σ' H') (G6 _) ?_ m0 ⟨0,_,H3,J0,Y0,λb hb=>(f3 b hb).1,w0⟩;rintro n s6 ⟨i,σ6,H6,I6,TL,Qo,w6⟩;rcases oH i n σ6 H6 w6 with ⟨stop,qn⟩|⟨go,Nx,hN,step⟩
  ·refine cL (T.done (iR X N scope cl s3.heap.objs.size s3 H3 fp (X.pn++ak)) rfl rfl rfl hc i [] s6 σ6 H6 _ I6 (sU Qo) TL stop) λr s7 EN=>?_;let⟨hr,I7⟩:=EN;subst hr;exact iH s3 H3 fp _ σ6 H6 s7 I3 f3 I7 qn
  ·refine cL (T.item (iR X N scope cl s3.heap.objs.size s3 H3 fp (X.pn++ak)) rfl rfl rfl hc i [] s6 σ6 H6 _ I6 (sU Qo) TL go) λr s7 EO=>?_;let⟨u,hr,h7⟩:=EO;subst hr;refine cL h7 λ_ s8 Hr=>?_;let⟨x,H8,I8,r8,y8,N9,EB⟩:=Hr;have YN:=I8.pinned (sU EB) (T.obj _ _ N9);refine cL (hg _ _ _ _ _ _ s8 σ6 H8 x u _ YN r8 (step x H8 y8)) λ_ s9 Ho=>?_;let⟨σ9,H9,I9,q9⟩:=Ho;refine cL (ht _ _ _ _ _ _ s9 σ9 H9 _ I9 q9) λok s10 AF=>?_;let⟨MR,TM,BA⟩:=AF
   have again:∀ {σ7:L2.St} {H7:Hp} {vH:Shared},Inv (iR X N scope cl s3.heap.objs.size s3 H3 fp (X.pn++ak)) ([]++sS fp s8.heap) σ7 H7 vH->Nx σ7 H7->∃ m,m<n/\∃ i σ' H',Inv (iR X N scope cl s3.heap.objs.size s3 H3 fp (X.pn++ak)) [] σ' H' vH/\tn i vH.heap/\(∀ b∈fp,H' b=none)/\W i m σ' H':=λ{σ7 H7 vH} I7 n7=>by
    let⟨m',hm,w7⟩:=hN σ7 H7 n7;refine⟨m',hm,i+1,σ7,H7,I7.nQ,T.keep _ _ _ N9 λb hb o e=>(I7.pin (b,o) (nP _ (nP _ (gP hb e)))).1,λb hb=>?_,w7⟩;let⟨o,e,d⟩:=T.obj _ _ N9 b hb;exact (I7.pin (b,o) (nP _ (nP _ (gP hb e)))).2.1
   cases ok with
   | false =>
    rw[if_neg fL]at BA;exact again TM BA
   | true =>
    rw[if_pos rfl]at BA;refine cL (Lw (Y:=iR X N scope cl s3.heap.objs.size s3 H3 fp (X.pn++ak)) hc rfl (Xj _ _ _ _ _) (hg2 _ _ _ _ _) (MU _ _ _ _ _) (he _ _ _ _ _) TM BA) λx vH h11=>cL h11 λYL qg TF=>codeAny_mono TF λr xF ⟨hr,σ',H',I13,n13⟩=>⟨hr,again I13 n13⟩
 exact codeAny_compStart_list (loop _ rfl) (T.self _ _ _ _ _ Y0 (loop _ rfl))
theorem BS{iter:Expr}{pos:Pos}{wi Ia:TI}{g g2:TG}{tt Ib:TT}{te:TE}(cg:zC X N scope jx)(hc:X.calm=true)(hi:PI X tg iter wi)
  (hg:∀ cl C s₀ H₀ ex pn,PG (iR X N scope cl C s₀ H₀ ex pn) tg g) (ht:∀ cl C s₀ H₀ ex pn,Lr (iR X N scope cl C s₀ H₀ ex pn) jD tt)
  (Xj:∀ cl C s₀ H₀ ex pn,PI (iR X N scope cl C s₀ H₀ ex pn) qf dD Ia) (hg2:∀ cl C s₀ H₀ ex pn,PG (iR X N scope cl C s₀ H₀ ex pn) qf g2) (MU:∀ cl C s₀ H₀ ex pn,Lr (iR X N scope cl C s₀ H₀ ex pn) iW Ib) (he:∀ cl C s₀ H₀ ex pn,PE (iR X N scope cl C s₀ H₀ ex pn) jP te)
  (hs:∀ x,foldedSetIterable iter X.env x=pure x:=by intro _;rfl) (G6:∀ (env:Env) x,foldedSetIterable dD env x=pure x:=by intro _ _;rfl) :
  PE X (.ListComp jP [⟨tg,iter,jD,0⟩,⟨qf,dD,iW,0⟩] scope pos) (J7 jx wi g tt Ia g2 Ib te):=by
 intro ak s σ H Q I h;let⟨cl,cs⟩:=cg.toF I;rw[eval_ListComp];refine Ii (use:=none) cs hc hi (hg cl) (ht cl) (Xj cl) (hg2 cl) (MU cl) (he cl) hs G6 I h λs3 H3 fp acc σ6 H6 s7 I3 f3 I7 qn=>?_;let⟨m,hm,_⟩:=I7.loc;exact⟨m,hm,λh' RB=>⟨↥acc,H6,wB I3 (wA I3 f3 I7) I7.free RB,rfl,qn⟩⟩
theorem xG{K:PySem.W.Frag}{a:Addr}{xs:List V}{g:TG}{tt:TT}{Ia:TI}{g2:TG}{Ib:TT}{te:TE}{σ0:L2.St}{H:Hp}{Q:VK}(Pv:Nat->L2.St->Hp->Prop)(h0:Pv 0 σ0 H)(hl:∀ i σ H,i<=↑xs->Pv i σ H->bG K H a xs)
  (hs:∀ i x σ H,xs[i]?=⇑x->Pv i σ H->g x σ H fun σ2 H2=>tt σ2 H2 λb H3=>if b=true then HZ Ia acc g2 Ib te σ2 H3 (Pv (i+1)) else Pv (i+1) σ2 H3)
  (hd:∀ σ H,Pv ↑xs σ H->Q ↥acc H):Fv (Qm K a) acc g tt Ia g2 Ib te σ0 H Q:=by
 refine⟨λi m σ H=>m=↑xs-i/\i<=↑xs/\Pv i σ H,⟨↑xs,by simp,Nat.zero_le _,h0⟩,?_⟩;rintro i m σ H ⟨rfl,hi,p⟩;have q:=hl i σ H hi p;by_cases pJ:i<↑xs
 ·refine .inr ⟨⟨xs,xs[i],q,by simp[pJ]⟩,Pv (i+1),fun σ' H' p'=>⟨↑xs-(i+1),E,rfl,pJ,p'⟩,λx H' y=>?_⟩;let⟨e,y⟩:=y;subst e;exact hs i x σ _ (y xs q) p
 ·have e:i=↑xs:=by lia
  subst e;exact .inl ⟨⟨xs,q,fK _⟩,hd σ H p⟩
theorem Ij{K:PySem.W.Frag}{a:Addr}{xs:List V}{g:TG}{tt:TT}{te:TE}{σ:L2.St}{H:Hp}{Nx:L2.St->Hp->Prop}(Pv:Nat->L2.St->Hp->Prop)(h0:Pv 0 σ H)(hl:∀ i σ H,i<=↑xs->Pv i σ H->bG K H a xs)
  (hs:∀ i x σ H,xs[i]?=⇑x->Pv i σ H->g x σ H fun σ2 H2=>tt σ2 H2 λb H3=>if b=true then te σ2 H3 λv H4=>∃ ys,H4 acc=⇑(.lst ys)/\↑ys<sizeLine/\Pv (i+1) σ2 (aO H4 acc (.lst (ys++[v]))) else Pv (i+1) σ2 H3)
  (hd:∀ σ H,Pv ↑xs σ H->Nx σ H):∃ W:Nat->Nat->L2.St->Hp->Prop,(∃ m,W 0 m σ H)/\∀ i m σ H,W i m σ H->
  ((Qm K a).stop i H/\Nx σ H)\/((Qm K a).go i H/\∃ N2:L2.St->Hp->Prop,(∀ σ' H',N2 σ' H'->∃ m',m'<m/\W (i+1) m' σ' H')/\∀ x H',(Qm K a).Nb i H x H'->g x σ H' fun σ2 H2=>tt σ2 H2 λb H3 =>
   if b=true then te σ2 H3 λv H4=>∃ xs,H4 acc=⇑(.lst xs)/\↑xs<sizeLine/\N2 σ2 (aO H4 acc (.lst (xs++[v]))) else N2 σ2 H3):=by
 refine⟨λi m σ H=>m=↑xs-i/\i<=↑xs/\Pv i σ H,⟨↑xs,by simp,Nat.zero_le _,h0⟩,?_⟩;rintro i m σ H ⟨rfl,hi,p⟩;have q:=hl i σ H hi p;by_cases pJ:i<↑xs
 ·refine .inr ⟨⟨xs,xs[i],q,by simp[pJ]⟩,Pv (i+1),fun σ' H' p'=>⟨↑xs-(i+1),E,rfl,pJ,p'⟩,λx H' y=>?_⟩;let⟨e,y⟩:=y;subst e;exact hs i x σ _ (y xs q) p
 ·have e:i=↑xs:=by lia
  subst e;exact .inl ⟨⟨xs,q,fK _⟩,hd σ H p⟩
end
end cD
namespace cD
open Spec Rows L2
open AutoSeq1 (wpAny_loadPart')
section
variable {prog:Program} {w:World} {A:Around} {E:Value->Shared->Prop} {s:Shared} {κ:Type} [DecidableEq κ] {knd:KeyKind prog w κ}
def LH{d:Addr}{Q:Bool->Shared->Prop}(hT:s.TypeIs ↥d "dict")(h:Q false s):wpAny (model prog w) A (Builtin.List.listLengthHint ↥d) Q E s:=by
 unfold Builtin.List.listLengthHint;refine wpAny_bind (wpAny_specialOf hT F.slot_dict_len.lookup ?_);generalize hid:("dict.__len__":String)=id0
 wp_delta
 rw[show splitId id0=⇑("dict","__len__") by subst hid;decide +kernel];subst hid;refine wpAny_bind (wpAny_isInstance (T:="dict") (b:=true) hT (by rw[isSubtype_type];kernel_rfl) ?_);refine wpAny_ite_split (λq=>absurd q (by decide)) λ_=>?_;refine wpAny_ite_split (λ_=>?_) λq=>absurd nofun q;exact wpAny_bind (wpAny_typeOf hT (wpAny_pure h))
theorem Fw{R:Result->Shared->Prop}{d:Addr}{kvs:List (κ × Value)}{ep:Nat}(hh:A.handled=none)(hs:(d == sysModules)=false)(hd:s.heap.DictAt knd d kvs ep)(cX:↑kvs<=sizeLine)(S:Addr)(res:Value)(c₀:Nat)(hS:s.heap.get? S=some { cls:=.type "list",data:=.seq #[] c₀ })
  (hR:∀ h' tk pX c',(∀ b o,b≠S->s.heap.get? b=⇑o->h'.get? b=⇑o)->h'.get? S=some { cls:=.type "list",dict:=none,data:=.seq pX c',slots:=#[] }->
   ItemsOf (λi v=>∃ k x,kvs[i]?=⇑(k,x)/\knd.is k v=true) pX ↑kvs->R (.ok (.ret res)) { s with heap:=h',toks:=tk }) :
  wpAny (model prog w) A.in1 (Builtin.List.listExtendWith ↥S ↥d res)
   (λiH s'=>match iH with|.done f=>R (.ok f) s'|.again c'=>c'.quiet=true/\codeAny (model prog w) A c' R s') (λe s'=>R (.error e) s') s:=by
 have hT:s.TypeIs ↥d "dict":=by
  let⟨o,es,ho,hx,_⟩:=hd;exact⟨o,ho,hx.1⟩
 have hSd:S≠d:=λe=>by
  let⟨o,es,ho,hx,hda,_⟩:=hd;rw[← e,hS]at ho;cases ho;cases hda
 have adm:S<s.heap.objs.size:=Heap.lt_size hS
 have adn:d<s.heap.objs.size:=by
  let⟨o,es,ho,_⟩:=hd;exact Heap.lt_size ho
 have hSI:S≠s.heap.objs.size:=jC adm;have hdI:d≠s.heap.objs.size:=jC adn;have W:=(Walks.dictKeys (prog:=prog) (w:=w) (A:=A.in1) (knd:=knd) hh s.heap.objs.size d hdI kvs ep).toS;unfold Builtin.List.listExtendWith;refine wpAny_bind (wpAny_typeOf hT ?_);have h1:Builtin.List.listSameRef ↥S ↥d=false:=by simp[Builtin.List.listSameRef,hSd]
 have h2:(Value.type "dict" == Value.type "list")=false:=by decide
 have h3:(Value.type "dict" == Value.type "tuple")=false:=by decide
 simp only[h1,h2,h3,Bool.or_false,Bool.false_eq_true,if_false];refine wpAny_bind (wpAny_pyIter_dict hs hd ?_);have qA:(s.heap.push { cls:=.type "dict_keyiterator",data:=.fields #[↥d,.int 0 0,.int ↑kvs 0,.int ep 0] }).IsKeyIter s.heap.objs.size d 0 ↑kvs ep:=⟨_,Heap.get?_push_size _ rfl,V⟩;have iV:∀ b o,s.heap.get? b=⇑o->(s.heap.push { cls:=.type "dict_keyiterator",data:=.fields #[↥d,.int 0 0,.int ↑kvs 0,.int ep 0] }).get? b=⇑o:=λb o e=>Heap.get?_push_of_some _ e;generalize s.heap.push { cls:=.type "dict_keyiterator",data:=.fields #[↥d,.int 0 0,.int ↑kvs 0,.int ep 0] }=g1 at qA iV
 have hT1:({ s with heap:=g1 }:Shared).TypeIs ↥d "dict":=by
  let⟨o,ho,hc⟩:=hT;exact⟨o,iV _ _ ho,hc⟩
 refine wpAny_bind (wpAny_holding (LH hT1 ?_));refine wpAny_ite_split (λ_=>?_) λq=>absurd nofun q;refine wpAny_bind (wpAny_rule (wpAny_bind ?_));show wpAny _ A.in1 (updateSeq S (λz=>z.push .none) >>= λ_=>updateSeq S λz=>z.pop) _ _ _;have g1S:=iV _ _ hS;refine wpAny_bind (wpAny_updateSeq g1S rfl ?_);have g2S:=Heap.get?_update_self (Obj.mapSeq λz=>z.push Value.none) g1S rfl;refine wpAny_updateSeq (hz:=by seq_fits) g2S rfl ?_;have g3S:=Heap.get?_update_self (Obj.mapSeq λz=>z.pop) g2S rfl
 have MV:∀ b o,b≠S->g1.get? b=⇑o->((g1.update S (Obj.mapSeq λz=>z.push Value.none)).update S (Obj.mapSeq λz=>z.pop)).get? b=⇑o:=λb o nb e =>
  (Heap.get?_update_other _ _ nb.symm).trans ((Heap.get?_update_other _ _ nb.symm).trans e)
 refine wpAny_pure ⟨plainId_quiet F.plain_extend_loop _,codeAny_extend_loopS W cX S (λhm=>?_) res ↑kvs 0 _ #[] _ rfl (Nat.zero_le _) ⟨qA.at λo e=>MV _ o hSI.symm e,(hd.at' λo e=>MV _ o hSd.symm (iV _ o e))⟩ g3S (ItemsOf.nil _) λs' pX c' hm hS' cu=>?_⟩
 ·rcases List.mem_cons.mp hm with e|e
  ·exact hSI e
  ·exact hSd (List.mem_singleton.mp e)
 ·rw[Moved.eq_with hm];refine hR s'.heap s'.toks pX c' (λb o nb e=>hm.heap b o (λq=>?_) (MV b o nb (iV b o e))) hS' cu;rcases List.mem_cons.mp q with z|z
  ·exact nb z
  ·exact absurd (Heap.lt_size e) (by rw[List.mem_singleton.mp z];exact Nat.lt_irrefl _)
theorem zD{Q:Value->Shared->Prop}{d:Addr}{kvs:List (κ × Value)}{ep:Nat}(hh:A.handled=none)(hs:(d == sysModules)=false)(hd:s.heap.DictAt knd d kvs ep)(cX:↑kvs<=sizeLine)
  (hQ:∀ h' tk pX c',(∀ b o,s.heap.get? b=⇑o->h'.get? b=⇑o)->h'.get? s.heap.objs.size=some { cls:=.type "list",dict:=none,data:=.seq pX c',slots:=#[] }->
   ItemsOf (λi v=>∃ k x,kvs[i]?=⇑(k,x)/\knd.is k v=true) pX ↑kvs->Q ↥s.heap.objs.size { s with heap:=h',toks:=tk }) :
  wpAny (model prog w) A (call (.type "list") [↥d]) Q E s:=by
 refine callType_codes (Q₁:=λu s1=>u=↥s.heap.objs.size/\s1={ s with heap:=s.heap.push { cls:=.type "list",data:=.seq #[] } }) F.called_list (F.typeCall_list_1 _) F.entry_list_init (code_list_new _ ⟨V⟩) λu s1 e1=>?_;let⟨rfl,rfl⟩:=e1;have hS:(s.heap.push { cls:=.type "list",data:=.seq #[] }).get? s.heap.objs.size=some { cls:=.type "list",data:=.seq #[] }:=Heap.get?_push_size _ rfl;have TR:(s.heap.push { cls:=.type "list",data:=.seq #[] }).DictAt knd d kvs ep:=hd.at' λo e=>Heap.get?_push_of_some _ e
 have hdn:d≠s.heap.objs.size:=by
  let⟨o,es,ho,_⟩:=hd;exact jC (Heap.lt_size ho)
 exists ⟨_,hS,rfl⟩,F.args_list_init_2 _ _;show wpAny _ _ (do let old ← Builtin.List.listItems ↥s.heap.objs.size;Builtin.List.listUpdate ↥s.heap.objs.size (λ_=>#[]);letGo old.toList.reverse;Builtin.List.listExtendWith ↥s.heap.objs.size ↥d .none) _ _ _;refine wpAny_bind ?_;unfold Builtin.List.listItems;refine wpAny_bind (wpAny_seqItems hS rfl (wpAny_pure ?_));show wpAny _ _ (updateSeq s.heap.objs.size (λ_=>#[]) >>= λ_=>letGo (#[]:Array Value).toList.reverse >>= λ_=>Builtin.List.listExtendWith ↥s.heap.objs.size ↥d .none) _ _ _;refine wpAny_bind (wpAny_updateSeq hS rfl ?_);have Vx:=Heap.get?_update_self (Obj.mapSeq λ_=>(#[]:Array Value)) hS rfl;have MV:∀ b o,b≠s.heap.objs.size->(s.heap.push { cls:=.type "list",data:=.seq #[] }).get? b=⇑o->((s.heap.push { cls:=.type "list",data:=.seq #[] }).update s.heap.objs.size (Obj.mapSeq λ_=>(#[]:Array Value))).get? b=⇑o:=λb o nb e=>(Heap.get?_update_other _ _ nb.symm).trans e;refine wpAny_bind (wpAny_letGo ?_);refine Fw (A:=A.in1) (knd:=knd) hh hs (TR.at' λo e=>MV _ o hdn e) cX s.heap.objs.size .none _ Vx λh' tk pX c' hk hS' cu=>?_;exact⟨rfl,hQ h' tk pX c' (λb o e=>hk b o (jC (Heap.lt_size e)) (MV b o (jC (Heap.lt_size e)) (Heap.get?_push_of_some _ e))) hS' cu⟩
end
def Ik{X:Cx}(hc:X.calm=true):jF X (.type "list") (λxs H Q=>∃ (d:Addr) (kvs:List (eV × V)),xs=[↥d]/\H d=⇑(.dK kvs)/\∀ l,H l=none->Q ↥l (aO H l (.lst (kvs.map λp=>kV p.1)))):=by
 intro ak s σ H xs us Q I r h;let⟨d,kvs,rfl,hd,q⟩:=h;let⟨u,rfl,rx⟩:=r.one;cases (show u=Value.ref d from rx);let⟨hz,hs,vs,kv,o,es,ep,ho,hx⟩:=(show fF X.prog X.w H s.heap d (.dK kvs) from I.hok d _ hd);have len:=↑kv;refine zD (I.ok.hd hc) hs ⟨o,es,ho,hx⟩ ∅ λh' tk pX c' hk hS cu=>?_;refine⟨↥s.heap.objs.size,_,I.laid (o:=.lst (kvs.map λp=>kV p.1)) (t':=tk) hk (fK _) ⟨by rw[bW];exact hz,pX.toList,c',?_,by simpa using hS⟩,rfl,q _ (I.hok.fresh (fK _))⟩
 have key:∀ (kvs:List (eV × V)) (vs:List (eV × Value)) (us:List Value),KV kvs vs->↑us=↑vs->(∀ (j:Nat) (v:Value),us[j]?=⇑v->∃ k x,vs[j]?=⇑(k,x)/\yN k v=true)->bZ (kvs.map λp=>kV p.1) us:=by
  intro kvs
  induction kvs with
  | nil =>
   intro vs us kv hl _;cases kv
   cases us with
   | nil=>exact .nil
   | cons=>simp at hl
  | cons p r ih =>
   intro vs us kv hl hp
   cases kv with
   | @cons _ q _ Dj h1 h2 =>
   cases us with
   | nil=>simp at hl
   | cons u us =>
    let⟨k,x,e1,e2⟩:=hp 0 u rfl;have e3:q=(k,x):=by simpa using e1
    subst e3;refine .cons ?_ (ih Dj us h2 (by simpa using hl) λj v e=>?_)
    ·show L2.RelV (kV p.1) u;rw[show p.1=k from h1.1];rcases eO e2 with ⟨i,t,rfl,rfl⟩|⟨i,t,rfl,rfl⟩
     ·exact⟨t,rfl⟩
     ·exact⟨t,rfl⟩
    ·let⟨k',x',e4,e5⟩:=hp (j+1) v (by simpa using e);exact⟨k',x',by simpa using e4,e5⟩
 exact key kvs vs pX.toList kv (by simpa using cu.1) λj v e=>cu.2 j v (by simpa using e)
end cD
namespace xX
open Spec Rows L2 cD fV
end xX
namespace fV
open Spec Rows L2 cD eY xX
inductive bV{α β:Type}(R:α->β->Prop):List α->List β->Prop
 | nil:bV R [] []
 | cons {a:α} {b:β} {as:List α} {bs:List β}:R a b->bV R as bs->bV R (a::as) (b::bs)
section
variable {α β:Type} {R R':α->β->Prop} {as:List α} {bs:List β} {a:α} {b:β}
def bV.len{as:List α}{bs:List β}(h:bV R as bs):↑as=↑bs:=by
 induction h with
 | nil=>rfl
 | cons _ _ ih=>rw[jS,jS,ih]
theorem bV.get:∀ {as:List α} {bs:List β} {i:Nat},bV R as bs->as[i]?=⇑a->∃ b,bs[i]?=⇑b/\R a b
 | _,_,_,.nil,h=>by simp at h
 | _,_,0,.cons r _,h=>by simp at h;subst h;exact⟨Y,r⟩
 | _,_,i+1,.cons _ t,h=>by simp at h;simpa using t.get h
theorem bV.get':∀ {as:List α} {bs:List β} {i:Nat},bV R as bs->bs[i]?=⇑b->∃ a,as[i]?=⇑a/\R a b
 | _,_,_,.nil,h=>by simp at h
 | _,_,0,.cons r _,h=>by simp at h;subst h;exact⟨Y,r⟩
 | _,_,i+1,.cons _ t,h=>by simp at h;simpa using t.get' h
def bV.snoc{as:List α}{bs:List β}(t:bV R as bs)(h:R a b):bV R (as++[a]) (bs++[b]):=by
 induction t with
 | nil=>exact .cons h .nil
 | cons r _ ih=>exact .cons r ih
def bV.mono{as:List α}{bs:List β}(h:∀ a b,R a b->R' a b)(t:bV R as bs):bV R' as bs:=by
 induction t with
 | nil=>exact .nil
 | cons r _ ih=>exact .cons (h _ _ r) ih
theorem bV.set:∀ {as:List α} {bs:List β} (i:Nat),bV R as bs->R a b->bV R (as.set i a) (bs.set i b)
 | _,_,_,.nil,_=>.nil
 | _,_,0,.cons _ t,h=>.cons h t
 | _,_,i+1,.cons r t,h=>.cons r (t.set i h)
theorem bV.split:∀ {as:List α} {bs:List β},bV R as (bs++[b])->∃ Ou a,as=Ou++[a]/\bV R Ou bs/\R a b
 | _,[],.cons r .nil=>⟨[],Y,.nil,r⟩
 | _,c::bs,.cons r t=>by
  let⟨Ou,a,rfl,t',r'⟩:=t.split;exact⟨_::Ou,a,rfl,.cons r t',r'⟩
end
inductive aR where
 | win (n:Int)
 | aJ (a b:Int)
def zE:aR->List V
 | .win n=>[.str "win",.int n]
 | .aJ a b=>[.str "ink",.int a,.int b]
def cC(H:Hp)(v:V)(it:aR):Prop:=∃ a,v=↥a/\H a=⇑(.tup (zE it))
theorem cC.same{H H':Hp}{v:V}{it:aR}(s:aH H H'):cC H v it->cC H' v it:=λ⟨a,e,h⟩=>⟨a,e,s _ _ h⟩
theorem cC.keep{H H':Hp}{v:V}{it:aR}{q:Addr}{xs:List V}(hq:H q=⇑(.lst xs))(k:cy q H H'):cC H v it->cC H' v it:=λ⟨a,e,h⟩=>⟨a,e,k a _ h (by
 intro z;rw[z,hq]at h
 cases h)⟩
def bQ(H:Hp)(v:V)(aQ:List aR):Prop:=∃ a vs,v=↥a/\H a=⇑(.lst vs)/\bV (cC H) vs aQ
theorem bQ.same{H H':Hp}{v:V}{aQ:List aR}(s:aH H H'):bQ H v aQ->bQ H' v aQ:=λ⟨a,vs,e,h,t⟩=>⟨a,vs,e,s _ _ h,t.mono λ_ _=>cC.same s⟩
def gn(H:Hp)(r:Addr)(rows:List (List aR)):Prop:=∃ vs,H r=⇑(.lst vs)/\bV (bQ H) vs rows
theorem gn.same{H H':Hp}{r:Addr}{rows:List (List aR)}(s:aH H H'):gn H r rows->gn H' r rows:=λ⟨vs,h,t⟩=>⟨vs,s _ _ h,t.mono λ_ _=>bQ.same s⟩
def cC.eqv{H:Hp}{x y:V}{it:aR}(n:Nat)(h1:cC H x it)(h2:cC H y it):Eqv H (n+2) x y:=by
 let⟨a,rfl,e1⟩:=h1;let⟨b,rfl,e2⟩:=h2;refine .inr ⟨false,a,b,Z,e1,e2,rfl,λi u v eu ev=>?_⟩;rw[eu]at ev;cases ev
 cases it with
 | win n =>
  match i,eu with
  | 0,e=>cases e;exact .inl ⟨V⟩
  | 1,e=>cases e;exact .inl ⟨V⟩
  | k+2,e=>simp[zE]at e
 | aJ p q =>
  match i,eu with
  | 0,e=>cases e;exact .inl ⟨V⟩
  | 1,e=>cases e;exact .inl ⟨V⟩
  | 2,e=>cases e;exact .inl ⟨V⟩
  | k+3,e=>simp[zE]at e
def bQ.eqv{H:Hp}{x y:V}{aQ:List aR}(n:Nat)(h1:bQ H x aQ)(h2:bQ H y aQ):Eqv H (n+3) x y:=by
 let⟨a,vs,rfl,e1,t1⟩:=h1;let⟨b,us,rfl,e2,t2⟩:=h2;refine .inr ⟨true,a,b,Z,e1,e2,by rw[t1.len,t2.len],λi u v eu ev=>?_⟩;let⟨z,ez,r1⟩:=t1.get eu;let⟨z',ez',r2⟩:=t2.get ev;rw[ez]at ez';cases ez';exact r1.eqv n r2
def aZ(t:List aR)(e:Int):List aR :=
 if e<0 then t++[.win (-1-e)] else
 match t.getLast? with
 | some (.aJ a b)=>if b=e then t.dropLast++[.aJ a (e+1)] else t++[.aJ e (e+1)]
 | _=>t++[.aJ e (e+1)]
def aI(es:List Int):List aR:=es.foldl aZ []
def eG(aQ:List aR):List Int:=aQ.filterMap λit=>match it with|.win n=>⇑n|.aJ _ _=>none
def dz(es:List Int):List Int:=es.filterMap λe=>if e<0 then some (-1-e) else none
def fZ(a b:List aR):eG (a++b)=eG a++eG b:=by unfold eG;rw[List.filterMap_append]
def LI(t:List aR)(e:Int):eG (aZ t e)=eG t++(if e<0 then [-1-e] else []):=by
 unfold aZ;by_cases h:e<0
 ·rw[if_pos h,if_pos h,fZ];rfl
 ·rw[if_neg h,if_neg h,iS];rcases mE t with rfl|⟨t',l,rfl⟩
  ·rfl
  ·rw[ki,m7]
   cases l with
   | win n=>simp[fZ,eG]
   | aJ a b =>
    show eG (if b=e then (t'++[aR.aJ a b]).dropLast++[.aJ a (e+1)] else (t'++[aR.aJ a b])++[.aJ e (e+1)])=_;by_cases hb:b=e
    ·rw[if_pos hb,List.dropLast_concat,fZ,fZ];rfl
    ·rw[if_neg hb,fZ,fZ];simp[eG]
def LJ(es:List Int):∀ t:List aR,eG (es.foldl aZ t)=eG t++dz es:=by
 induction es with
 | nil=>intro t;simp[dz]
 | cons e es ih =>
  intro t;rw[kj,ih,LI,m8];unfold dz;rw[List.filterMap_cons];by_cases h:e<0
  ·simp[h]
  ·simp[h]
def iu(es:List Int):eG (aI es)=dz es:=by
 unfold aI;rw[LJ];rfl
def bM{es:List Int}{y:Int}:y∈dz es↔0<=y/\-1-y∈es:=by
 unfold dz;rw[List.mem_filterMap];constructor
 ·rintro⟨e,he,h⟩;by_cases h0:e<0
  ·rw[if_pos h0]at h;cases h;exact⟨E,by rw[show -1-(-1-e)=e by lia];exact he⟩
  ·rw[if_neg h0]at h;cases h
 ·rintro⟨h0,h1⟩;exists -1-y,h1;rw[if_pos ∅];congr 1;lia
def n6(es:List Int):∀ t:List aR,↑(es.foldl aZ t)<=↑t+↑es:=by
 induction es with
 | nil=>intro t;simp
 | cons e es ih =>
  intro t;rw[kj];have z:=ih (aZ t e)
  have z2:↑(aZ t e)<=↑t+1:=by
   unfold aZ;split
   ·simp
   ·split
    ·split
     ·rw[dM,List.length_dropLast,gF];lia
     ·simp
    ·simp
  rw[jS];lia
def kg(rows:cK)(x y:Int):Prop:=0<=x/\∃ es,rows[x.toNat]?=⇑es/\y∈dz es
inductive Reach(E:Int->Int->Prop)(s:Int):Int->Prop
 | one {y:Int}:E s y->Reach E s y
 | step {y z:Int}:Reach E s y->E y z->Reach E s z
theorem Reach.closed{E:Int->Int->Prop}{s:Int}{S:Int->Prop}(h0:∀ y,E s y->S y)(h1:∀ x y,S x->E x y->S y):∀ {g:Int},Reach E s g->S g
 | _,.one h=>h0 _ h
 | _,.step r h=>h1 _ _ (Reach.closed h0 h1 r) h
def gw(rows:cK):Prop:=∀ es∈rows,∀ y∈dz es,y<↑rows
def gw.J8{rows:cK}(h:gw rows){x y:Int}(e:kg rows x y):0<=y/\y<↑rows:=by
 let⟨_,es,he,hy⟩:=e;exact⟨(bM.mp hy).1,h es (m6 he) y hy⟩
def cnt(n:Nat)(p:Nat->Bool):Nat:=↑((List.range n).filter p)
def Ov(n:Nat){p q:Nat->Bool}(h:∀ i,i<n->p i=q i):cnt n p=cnt n q:=by
 unfold cnt;rw[List.filter_congr λi hi=>h i (List.mem_range.mp hi)]
def uS(n:Nat)(p:Nat->Bool):cnt (n+1) p=cnt n p+(if p n=true then 1 else 0):=by
 unfold cnt;rw[List.range_succ,List.filter_append,dM];congr 1;by_cases h:p n=true
 ·rw[if_pos h];simp[h]
 ·rw[if_neg h];simp[h]
theorem uT(j:Nat):∀ (n:Nat) {p q:Nat->Bool},j<n->p j=true->(∀ i,q i=(p i&&decide (i≠j)))->cnt n q+1=cnt n p
 | 0,_,_,h,_,_=>by lia
 | n+1,p,q,h,hj,hq=>by
  rw[uS,uS];by_cases e:j=n
  ·subst e
   have z:cnt j q=cnt j p:=Ov j λi hi=>by
    rw[hq i];have:decide (i≠j)=true:=by simp;lia
    rw[this,Bool.and_true]
   have z2:q j=false:=by rw[hq j];simp
   rw[z,z2,if_pos hj];simp
  ·have ih:=uT j n (p:=p) (q:=q) ∅ hj hq
   have z:q n=p n:=by
    rw[hq n];have:decide (n≠j)=true:=by simp;lia
    rw[this,Bool.and_true]
   rw[z];lia
def zF(n:Nat)(p:Nat->Bool):cnt n p<=n:=by
 unfold cnt;have:=List.length_filter_le p (List.range n);rw[List.length_range]at this;exact this
def fN(av:Addr->Prop)(H:Hp)(v:V)(es:List Int):Prop:=∃ a,v=↥a/\¬ av a/\H a=⇑(.lst (es.map V.int))
def iX(av:Addr->Prop)(H:Hp)(r:Addr)(rows:cK):Prop:=∃ vs,H r=⇑(.lst vs)/\bV (fN av H) vs rows
theorem fN.keep{av:Addr->Prop}{H H':Hp}{v:V}{es:List Int}(k:∀ a o,¬ av a->H a=⇑o->H' a=⇑o):fN av H v es->fN av H' v es:=λ⟨a,e,n,h⟩=>⟨a,e,n,k a _ n h⟩
theorem iX.same{av:Addr->Prop}{H H':Hp}{r:Addr}{rows:cK}(s:aH H H'):iX av H r rows->iX av H' r rows:=λ⟨vs,h,t⟩=>⟨vs,s _ _ h,t.mono λ_ _=>fN.keep λa o _ e=>s a o e⟩
def iX.get{av:Addr->Prop}{H:Hp}{r:Addr}{rows:cK}{i:Nat}{es:List Int}(h:iX av H r rows)(e:rows[i]?=⇑es):∃ vs a,H r=⇑(.lst vs)/\vs[i]?=⇑↥a/\H a=⇑(.lst (es.map V.int))/\↑vs=↑rows:=by
 let⟨vs,hr,t⟩:=h;let⟨v,ev,a,rfl,_,ha⟩:=t.get' e;exact⟨vs,a,hr,ev,ha,t.len⟩
def Dk(x:Int)(xs:List Int):inV (.int x) (xs.map V.int)=decide (x∈xs):=by
 unfold inV
 induction xs with
 | nil=>rfl
 | cons y ys ih =>
  rw[jh,List.any_cons,ih];show ((y == x) || decide (x∈ys))=_;by_cases h:y=x
  ·simp[h]
  ·have h2:¬ x=y:=λz=>h z.symm;simp[h,h2]
def rC(xs:List Int):(xs.map V.int).all uE=true:=by
 rw[List.all_eq_true];intro v hv;let⟨i,_,rfl⟩:=List.mem_map.mp hv;rfl
def xY(rows:cK):Prop:=∃ rk:Int->Nat,(∀ x,rk x<=40)/\∀ x y,kg rows x y->rk y<rk x
theorem fN.at{av:Addr->Prop}{H:Hp}{v:V}{es:List Int}{q:Addr}(o:HO)(hq:av q):fN av H v es->fN av (aO H q o) v es:=fN.keep λa u n e=>by
 rw[aK (λz=>n (by rw[z];exact hq))];exact e
theorem fN.same{av:Addr->Prop}{H H':Hp}{v:V}{es:List Int}(s:aH H H'):fN av H v es->fN av H' v es:=fN.keep λa u _ e=>s a u e
def seen(kvs:List (eV × V))(x:Int):Prop:=(cz kvs (Sum.inl x)).isSome=true
def nG(n:Nat)(kvs:List (eV × V)):Nat:=cnt n λi=>(cz kvs (Sum.inl (i:Int))).isNone
def Fx{kvs:List (eV × V)}{y x:Int}(v:V):seen (ef kvs (Sum.inl y) v) x↔x=y\/seen kvs x:=by
 unfold seen;rw[j3];by_cases h:x=y
 ·rw[if_pos (by rw[h]),h];simp
 ·rw[if_neg (λz=>h (Sum.inl.inj z))];simp[h]
def Fy{n:Nat}{kvs:List (eV × V)}{y:Int}(v:V)(h0:0<=y)(h1:y<n)(hn:cz kvs (Sum.inl y)=none):nG n (ef kvs (Sum.inl y) v)+1=nG n kvs:=by
 refine uT y.toNat n ∅ ?_ λi=>?_
 ·show (cz kvs (Sum.inl (y.toNat:Int))).isNone=true;rw[show ((y.toNat:Nat):Int)=y by lia,hn];rfl
 ·show (cz (ef kvs (Sum.inl y) v) (Sum.inl (i:Int))).isNone=((cz kvs (Sum.inl (i:Int))).isNone&&decide (i≠y.toNat));rw[j3];by_cases h:(i:Int)=y
  ·rw[if_pos (by rw[h])];have:decide (i≠y.toNat)=false:=by simp;lia
   rw[this,Bool.and_false];rfl
  ·rw[if_neg (λz=>h (Sum.inl.inj z))];have:decide (i≠y.toNat)=true:=by simp;lia
   rw[this,Bool.and_true]
def J9(lo:Int)(n:Nat):↑(run lo n)=n:=by
 induction n generalizing lo with
 | zero=>rfl
 | succ n ih=>rw[run,jS,ih]
theorem Ow:∀ {n:Nat} {lo y:Int},y∈run lo n->lo<=y/\y<lo+n
 | 0,_,_,h=>by cases h
 | n+1,lo,y,h=>by
  rcases List.mem_cons.mp h with rfl|z
  ·lia
  ·have:=Ow z;lia
theorem bV.new{H2:Hp}{q t:Addr}{vs:List V}{aQ:List aR}{it:aR}{ys:List V}(dH:H2 q=⇑(.lst ys))(hb:bV (cC H2) vs aQ)(ht:H2 t=none)(zs:List V) :
  bV (cC (aO (aO H2 t (.tup (zE it))) q (.lst zs))) (vs++[↥t]) (aQ++[it]):=by
 have Oa:q≠t:=aB dH ht;have s1:aH H2 (aO H2 t (.tup (zE it))):=ao ht _;refine bV.snoc (hb.mono λv i h=>(h.same s1).keep (s1 _ _ dH) (aF q _ _)) ⟨t,rfl,?_⟩;rw[aK Oa.symm,af]
end fV
namespace Vy
open Spec Rows L2 cD
section
variable {M:Model} {A:Around} {E:Value->Shared->Prop} {s:Shared}
def Dl{a b:Value}{Q:Value->Shared->Prop}(ha:s.TypeIs a "list")(hb:s.TypeIs b "list")(hc:wpAny M A (call (.builtin "list.__iadd__") [a,b]) Q E s):wpAny M A (inplaceOp .Add a b) Q E s:=by
 unfold inplaceOp;refine wpAny_holding ?_;have hq:isSeqSlot (⇑(.builtin "list.__iadd__"))=true:=by decide +kernel
 have hfi:fillsInplaceSlot (.type "list") "add" (Operator.Add == .Add)=pure false:=by
  unfold fillsInplaceSlot;show (typeLookup (.type "list") (dunderI "add") >>= λfi=>pure (fi.isSome&&!isSeqSlot fi))=pure false;rw[PySem.F.slot_list_iadd.lookup,pure_bind,hq];rfl
 have hsi:seqSlot? (.type "list") (dunderI "add")=pure (⇑(.builtin "list.__iadd__")):=PySem.seqSlot_of PySem.F.slot_list_iadd.lookup hq;refine wpAny_bind (wpAny_typeOf ha (wpAny_bind (wpAny_of_eq hfi ?_)));show wpAny M A (if false=true then _ else _) Q E s;rw[if_neg fL];refine wpAny_bind (binaryOp1_none (nm:="add") ha hb PySem.noFill_list_add ?_);refine wpAny_bind (wpAny_of_eq hsi ?_);exact wpAny_bind (wpAny_rule hc)
end
section
variable {X:Cx}
def TU:V->V->Hp->VK->Prop:=λx y H Q=>∃ l b xs zs,x=↥l/\y=↥b/\H l=⇑(.lst xs)/\H b=⇑(.lst zs)/\↑xs+↑zs<=sizeLine/\Q ↥l (aO H l (.lst (xs++zs)))
def zG:PIp X .Add TU:=by
 intro ak s σ H x y v u Q I rx ry h;let⟨l,b,xs,zs,rfl,rfl,hH,hB,hz,q⟩:=h;cases rx;cases ry;let⟨z,aQ,n,r,hl,e⟩:=I.xV hH;let⟨z2,its2,n2,r2,C0,e2⟩:=I.xV hB;have hsz:aQ.toArray.size+its2.toArray.size<=sizeLine:=by rw[gG,gG];lia
 have EY:¬ (!aQ.toArray.isEmpty&&Builtin.List.listTooLong (aQ.toArray.size+its2.toArray.size))=true:=by
  rw[za hsz,Bool.and_false];exact fL
 refine Dl ⟨_,e,rfl⟩ ⟨_,e2,rfl⟩ ?_;refine call_meets PySem.F.slot_list_iadd ⟨_,e,rfl⟩ PySem.F.entry_list_iadd (PySem.F.args_list_iadd_2 _ _) (AutoSeq1.list___iadd___list_list_0 l aQ.toArray n b its2.toArray n2 EY (by rw[gG];lia) ∅) ⟨e,e2,?_⟩;refine⟨↥l,_,I.ND (its':=aQ++its2) hH e (by simp) (r.append r2) ?_,rfl,q⟩;rw[dM];lia
section
variable {N:List Str} {scope:Scope} {cl:List (Str × Addr)} {C:Addr} {s₀:Shared} {H₀:Hp} {ex:List Addr} {pn:List (Addr × Obj)}
theorem Il:jF (iR X N scope cl C s₀ H₀ ex pn) (.type "list") (Yt X.K):=fP
end
theorem Im:Yk X .Add TU:=λak s σ H x y u v Q I rx ry h=>zG ak s σ H x y u v Q I rx ry h
end
def RD{p q A B T:Prop} [Decidable p] [Decidable q] (w:p->(if decide q=true then A else B)->T) (h1:p/\q->A) (h2:¬ (p/\q)->B):if decide p=true then T else (if false=true then A else B):=by
 by_cases a:p
 ·rw[if_pos (decide_eq_true a)];by_cases b:q
  ·exact w a (by rw[if_pos (decide_eq_true b)];exact h1 ⟨a,b⟩)
  ·exact w a (by rw[decide_eq_false b,if_neg fL];exact h2 λz=>b z.2)
 ·rw[decide_eq_false a,if_neg fL,if_neg fL];exact h2 λz=>a z.1
end Vy
namespace fV
open Spec Rows L2 cD eY xX
def mT(r:Row):Prop:=∀ p∈r,0<=p.1/\p.1<=p.2
def jr(r:Row):Prop:=∀ p∈r,0<=p.1/\p.1<p.2
def BU{t:Row}{s e:Int}(h:jr t)(h0:0<=s)(h1:s<e):jr (iV t s e):=by
 have add:jr (t++[(s,e)]):=λp hp=>by
  rcases List.mem_append.mp hp with z|z
  ·exact h p z
  ·rw[List.mem_singleton.mp z];exact⟨h0,h1⟩
 unfold iV;rcases mE t with rfl|⟨t',l,rfl⟩
 ·exact add
 ·rw[ki]at h add ⊢;rw[m7];show jr (if l.2=s then (t'++[l]).dropLast++[(l.1,e)] else t'++[l]++[(s,e)]);by_cases c:l.2=s
  ·rw[if_pos c,List.dropLast_concat];intro p hp;rcases List.mem_append.mp hp with z|z
   ·exact h p (pV _ z)
   ·have:=h l (by simp);rw[List.mem_singleton.mp z];exact⟨this.1,by show l.1<e;lia⟩
  ·rw[if_neg c];exact add
def oh{r:Row}(h:mT r):jr (cB r):=by
 have z:∀ (r t:Row),mT r->jr t->jr (r.foldl cY t):=by
  intro r
  induction r with
  | nil=>intro t _ g;exact g
  | cons p r ih =>
   intro t h g;rw[kj];refine ih _ (λq hq=>h q (nO _ hq)) ?_;unfold cY;have hp:=h p (by simp);by_cases c:p.1=p.2
   ·rw[if_pos c];exact g
   ·rw[if_neg c];exact BU g hp.1 ∅
 exact z r [] h λp hp=>by cases hp
def BV{ns:List Int}(h:∀ x∈ns,0<=x):jr (cR ns):=by
 have z:∀ (ns:List Int) (t:Row),(∀ x∈ns,0<=x)->jr t->jr (ns.foldl (λt n=>iV t n (n+1)) t):=by
  intro ns
  induction ns with
  | nil=>intro t _ g;exact g
  | cons n ns ih =>
   intro t h g;rw[kj];exact ih _ (λx hx=>h x (nO _ hx)) (BU g (h n (by simp)) ∅)
 exact z ns [] h λp hp=>by cases hp
theorem jr.nn{r:Row}(h:jr r):mT r:=λp hp=>⟨(h p hp).1,by have:=(h p hp).2;lia⟩
theorem Io(a b:Int):∀ (r:Row) (h:Int),mT r->mT (rO a b h r)
 | [],_,_=>λp hp=>by cases hp
 | q::r,h,g=>by
  intro p hp;rw[rO]at hp;rcases List.mem_append.mp hp with z|z
  ·have gq:=g q (by simp);refine⟨?_,Oi a b h q p z⟩;unfold Oh at z;split at z
   ·rw[List.mem_singleton.mp z];show 0<=q.1+max (a-h) 0;lia
   ·cases z
  ·exact Io a b r _ (λx hx=>g x (nO _ hx)) p z
end fV
namespace RE
open Spec Rows L2 cD
def Le(p q:Int × Int):Prop:=p.1<q.1\/(p.1=q.1/\p.2<=q.2)
instance (p q:Int × Int):Decidable (Le p q):=by unfold Le;infer_instance
def less(p q:Int × Int):Bool:=decide (¬ Le q p)
theorem LK(t:Bool)(x y:Value):keyLt' (tuples' t) x y=(do
  let xs ← Builtin.List.listItems x
  let ys ← Builtin.List.listItems y
  for ((p,q),i) in (xs.toList.zip ys.toList).zipIdx do
   if !(← eqBool p q) then return ← oneLt' (t&&i == 0) p q
  return decide (xs.size<ys.size)):=rfl
def BW{prog:Program}{w:World}{A:Around}{E:Value->Shared->Prop}{s:Shared}{a b:Int}{t u:Tok}{Q:Bool->Shared->Prop}(k:Bool)(h:Q (decide (a<b)) s):wpAny (model prog w) A (oneLt' k (.int a t) (.int b u)) Q E s:=by
 cases k with
 | true=>exact oneLt_int h
 | false =>
  rw[oneLt'_eq];simp only[Bool.false_eq_true,if_false];refine wpAny_bind ((PyProof.Rows.lt_int ?_:wpAny (model prog w) A (compareOp .Lt (.int a t) (.int b u)) _ E s));exact wpAny_truthy_bool h
def jt(h:Heap)(v:Value)(p:Int × Int):Prop:=∃ a t u,v=↥a/\IsTup h a #[.int p.1 t,.int p.2 u]
def Ip{prog:Program}{w:World}{A:Around}{E:Value->Shared->Prop}{s:Shared}{x y:Value}{p q:Int × Int}{Q:Bool->Shared->Prop}(hx:jt s.heap x p)(hy:jt s.heap y q)(h:Q (less p q) s):wpAny (model prog w) A (keyLt' (tuples' true) x y) Q E s:=by
 let⟨a,t1,t2,rfl,ha⟩:=hx;let⟨b,u1,u2,rfl,hb⟩:=hy;let⟨oa,ha1,ha2,na,ha3⟩:=id ha;let⟨ob,ED,Qq,nb,TV⟩:=id hb;rw[LK];refine wpAny_bind (listItems_at ha1 ha3 ?_);refine wpAny_bind (listItems_at ED TV ?_);have e:((#[Value.int p.1 t1,.int p.2 t2]:Array Value).toList.zip (#[Value.int q.1 u1,.int q.2 u2]:Array Value).toList).zipIdx=[((.int p.1 t1,.int q.1 u1),0),((.int p.2 t2,.int q.2 u2),1)]:=rfl;rw[e];simp only[List.forIn_cons,List.forIn_nil];refine wpAny_bind (wpAny_bind (wpAny_bind (SeqAt.EqAt.int_int p.1 t1 q.1 u1 prog w _ _ ?_)));by_cases c1:p.1=q.1
 ·have d1:(!p.1 == q.1)=false:=by simp[c1]
  rw[d1,if_neg fL];refine wpAny_pure (wpAny_bind (wpAny_bind (SeqAt.EqAt.int_int p.2 t2 q.2 u2 prog w _ _ ?_)));by_cases c2:p.2=q.2
  ·have d2:(!p.2 == q.2)=false:=by simp[c2]
   rw[d2,if_neg fL];refine wpAny_pure (wpAny_pure (wpAny_pure ?_));have:less p q=false:=by unfold less Le;simp[c1,c2]
   rw[this]at h;exact h
  ·have d2:(!p.2 == q.2)=true:=by simp[c2]
   rw[d2,if_pos rfl];refine wpAny_bind (BW _ (wpAny_pure (wpAny_pure (wpAny_pure ?_))));have:less p q=decide (p.2<q.2):=by unfold less Le;simp[c1]
   rw[← this];exact h
 ·have d1:(!p.1 == q.1)=true:=by simp[c1]
  rw[d1,if_pos rfl];refine wpAny_bind (BW _ (wpAny_pure (wpAny_pure (wpAny_pure ?_))))
  have:less p q=decide (p.1<q.1):=by
   unfold less Le;congr 1;apply propext;lia
  rw[← this];exact h
section
variable {prog:Program} {w:World} {A:Around} {E:Value->Shared->Prop} {s:Shared} {z:Array Keyed} {key:Value->Int × Int}
def kp(key:Value->Int × Int)(xs:Array Keyed)(i:Nat):Int × Int:=(xs[i]?.map λr=>key r.1).getD (0,0)
def TX{xs ys:Array Keyed}{i j:Nat}(h:xs[i]?=ys[j]?):kp key xs i=kp key ys j:=by unfold kp;rw[h]
def Up(key:Value->Int × Int)(xs:Array Keyed)(n:Nat):Prop:=∀ i j,i<=j->j<n->Le (kp key xs i) (kp key xs j)
def Dn(key:Value->Int × Int)(xs:Array Keyed)(n:Nat):Prop:=∀ i j,i<=j->j<n->Le (kp key xs j) (kp key xs i)
theorem Le.rfl'(p:Int × Int):Le p p:=.inr ⟨rfl,Int.le_refl _⟩
def Le.tr{p q r:Int × Int}(h:Le p q)(g:Le q r):Le p r:=by unfold Le at *;lia
def Le.anti{p q:Int × Int}(h:Le p q)(g:Le q p):p=q:=by
 unfold Le at *;exact Prod.ext ∅ ∅
def Le.Vz{p q:Int × Int}(h:¬ Le p q):Le q p:=by unfold Le at *;lia
theorem VA{p q:Int × Int}(h:less p q=true):¬ Le q p:=of_decide_eq_true h
def VB{p q:Int × Int}(h:less p q=false):Le q p:=by
 unfold less at h;exact Classical.byContradiction λc=>by rw[decide_eq_true c]at h;cases h
structure Iq(z:Array Keyed)(st:SortSt):Prop where
 pm:(arrOf st).Perm z
 kd:kindOf st=tuples' true
 fl:failedOf st=none
 pd:pendingOf st=#[]
theorem Iq.sz{st:SortSt}(b:Iq z st):(arrOf st).size=z.size:=b.pm.size_eq
theorem Iq.put{st:SortSt}(b:Iq z st){xs:Array Keyed}(h:xs.Perm (arrOf st)):Iq z (setArr st xs):=⟨h.trans b.pm,b.kd,b.fl,b.pd⟩
def Xk(prog:Program)(w:World)(A:Around)(s:Shared)(key:Value->Int × Int)(z:Array Keyed):Prop :=
 ∀ r∈z.toList,∀ o∈z.toList,∀ (E:Value->Shared->Prop) (Q:Bool->Shared->Prop),Q (less (key r.1) (key o.1)) s->wpAny (model prog w) A (keyLt' (tuples' true) r.1 o.1) Q E s
def Iq.get{st:SortSt}(b:Iq z st){i:Nat}(hi:i<z.size):∃ r∈z.toList,(arrOf st)[i]?=⇑r/\kp key (arrOf st) i=key r.1:=by
 have Xj:i<(arrOf st).size:=by rw[b.sz];exact hi
 exists (arrOf st)[i],(Array.perm_iff_toList_perm.mp b.pm).mem_iff.mp (by simp),getElem?_pos _ i Xj;unfold kp;rw[getElem?_pos _ i Xj];rfl
theorem cmp{st:SortSt}{i j:Nat}{Q:Option Bool->SortSt->Prop}(C:Xk prog w A s key z)(b:Iq z st)(hi:i<z.size)(hj:j<z.size)
  (h:Q (⇑(less (kp key (arrOf st) i) (kp key (arrOf st) j))) st):wpS (model prog w) A E s (ltAt' i j) Q st:=by
 let⟨r,hr,e1,k1⟩:=b.get (key:=key) hi;let⟨o,ho,e2,k2⟩:=b.get (key:=key) hj;rw[k1,k2]at h;rw[ltAt'_eq];refine wpS_bind (wpS_get ?_);show wpS _ _ _ _ (do let u ← elem' (arrOf st) i;let v ← elem' (arrOf st) j;lt' u v) Q st;rw[elem'_eq,elem'_eq,e1,e2];refine wpS_bind (wpS_pure (wpS_bind (wpS_pure ?_)));rw[lt'_eq];refine wpS_bind (wpS_get ?_);rw[b.kd];refine wpS_bind (wpS_lift (wpAny_attempt (C r hr o ho _ _ ?_)));exact⟨rfl,wpS_pure h⟩
def Ka{xs:Array Keyed}{i j:Nat}(hj:j<=xs.size)(k:Nat):kp key (mirror xs i j ((j-i) / 2)) k=if i<=k/\k<j then kp key xs (i+j-1-k) else kp key xs k:=by
 have e:=getElem?_mirror_all (i:=i) hj k;split at e
 ·rename_i c;rw[if_pos c];exact TX e
 ·rename_i c;rw[if_neg c];exact TX e
def Up.more{xs:Array Keyed}{n:Nat}(h:Up key xs n)(g:n=0\/Le (kp key xs (n-1)) (kp key xs n)):Up key xs (n+1):=by
 intro i j ij hj;by_cases c:j<n
 ·exact h i j ij c
 ·have e:j=n:=by lia
  subst e;by_cases d:i=j
  ·subst d;exact Le.rfl' _
  ·exact (h i (j-1) ∅ ∅).tr (g.resolve_left ∅)
theorem Up.one(xs:Array Keyed):Up key xs 1:=λi j ij hj=>by
 have:i=j:=by lia
 subst this;exact Le.rfl' _
theorem Ox{st:SortSt}{a n:Nat}{Q:AscSt->SortSt->Prop}(C:Xk prog w A s key z)(hn:n<=z.size)(ha:1<=a)(an:a<=n)(b:Iq z st)(u:Up key (arrOf st) a)
  (h:∀ m,a<=m->m<=n->Up key (arrOf st) m->(m=n\/¬ Le (kp key (arrOf st) (m-1)) (kp key (arrOf st) m))->Q (none,m) st):wpS (model prog w) A E s (ascLoop a n) Q st:=by
 unfold ascLoop;refine wpS_forRange (I:=λx c t=>t=st/\c=(none,x)/\Up key (arrOf st) x) ?oH ?tS ⟨V,u⟩
 case tS =>
  rintro c t ⟨rfl,rfl,u'⟩;have e:max a n=n:=by lia
  rw[e]at u' ⊢;exact h n an (fK _) u' (.inl rfl)
 case oH =>
  rintro x c t ax xn ⟨rfl,rfl,u'⟩;dsimp only;refine wpS_bind (cmp C b ∅ ∅ ?_)
  cases e:less (kp key (arrOf t) x) (kp key (arrOf t) (x-1)) with
  | true =>
   simp only[if_true];exact wpS_pure (h x ax ∅ u' (.inr (VA e)))
  | false =>
   simp only[Bool.false_eq_true,if_false];exact wpS_pure ⟨V,u'.more (.inr (VB e))⟩
theorem LL{st:SortSt}{Q:Option Nat->SortSt->Prop}(C:Xk prog w A s key z)(hn:z.size=2)(b:Iq z st)(d:Le (kp key (arrOf st) 1) (kp key (arrOf st) 0))
  (h:∀ t,Iq z t->Up key (arrOf t) 2->Q (some 2) t):wpS (model prog w) A E s (descPart 1 2) Q st:=by
 unfold descPart;refine wpS_bind (wpS_lift (wpAny_rule ⟨rfl,?_⟩));unfold descLoop;refine wpS_bind (wpS_mono (wpS_forRange (I:=λ_ c t=>c=(none,2,0)/\t=st) (Q:=λc t=>c=(none,2,0)/\t=st) (λx c t a b=>by lia) (λ_ _ e=>e) ⟨V⟩) ?_);rintro c t ⟨rfl,rfl⟩;dsimp only;rw[if_neg (Nat.lt_irrefl 0)];unfold tail3;have hs:2<=(arrOf t).size:=by rw[b.sz,hn];exact fK _
 refine wpS_bind (wpS_reverse ?_);have b':=b.put (mirror_perm (arrOf t) 0 2 ((2-0) / 2));refine wpS_bind (Ox C ∅ ∅ (fK 2) b' (λi j ij hj=>?_) λk k1 k2 u _=>?_)
 ·show Le (kp key (mirror (arrOf t) 0 2 ((2-0) / 2)) i) (kp key (mirror (arrOf t) 0 2 ((2-0) / 2)) j);rw[Ka hs,Ka hs,if_pos ⟨E,E⟩,if_pos ⟨E,E⟩];have ca:i=j\/(i=0/\j=1):=by lia
  rcases ca with rfl|⟨rfl,rfl⟩
  ·exact Le.rfl' _
  ·exact d
 ·have e:k=2:=by lia
  subst e;exact wpS_pure (h _ b' u)
theorem LM{st:SortSt}{Q:Option Nat->SortSt->Prop}(C:Xk prog w A s key z)(hn:z.size=2)(b:Iq z st)
  (h:∀ t,Iq z t->Up key (arrOf t) 2->Q (some 2) t):wpS (model prog w) A E s (countRun' 0 2) Q st:=by
 rw[countRun0_eq];refine wpS_bind (Ox C ∅ (fK 1) ∅ b (Up.one _) λm m1 mn u g=>?_);dsimp only;by_cases c:m=2
 ·subst c;exact wpS_pure (h st b u)
 ·have e:m=1:=by lia
  subst e;exact LL C hn b (Le.Vz (g.resolve_left c)) h
def Y3(key:Value->Int × Int)(z:Array Keyed)(st:SortSt):Prop:=(arrOf st).Perm z/\failedOf st=none/\pendingOf st=#[(0,2,0)]/\Up key (arrOf st) 2
theorem adp{st:SortSt}{Q:Unit->SortSt->Prop}(C:Xk prog w A s key z)(b:Iq z st)(h2:2<=z.size)(Xl:z.size<3)
  (h:∀ t,(arrOf t).Perm z->failedOf t=none->Up key (arrOf t) z.size->Q () t):wpS (model prog w) A E s sortRuns' Q st:=by
 have zz:z.size=2:=by lia
 rw[zz]at h;rw[sortRuns'_eq];refine wpS_bind (wpS_get ?_);dsimp only;simp only[b.sz,zz];refine wpS_bind (wpS_mono (wpS_forRange (I:=λx c t=>(x=0/\c=(none,0)/\Iq z t)\/(1<=x/\c=(none,2)/\Y3 key z t)) (Q:=λc t=>c=(none,2)/\Y3 key z t) ?oH ?tS (.inl ⟨V,b⟩)) ?aft)
 case tS =>
  rintro c t (⟨x0,_,_⟩|⟨_,e,f⟩)
  ·lia
  ·exact⟨e,f⟩
 case oH =>
  rintro x c t _ xn (⟨rfl,rfl,b'⟩|⟨x1,rfl,f⟩)
  ·refine wpS_bind (LM C zz b' λt2 b2 u2=>?_);refine wpS_bind (wpS_get ?_);have p2:=b2.pd;rw[show (pendingOf t2).back?=none by rw[p2];rfl];refine wpS_bind (wpS_modify (wpS_pure (.inr ⟨E,rfl,b2.pm,b2.fl,?_,u2⟩)));show (pendingOf t2).push _=_;rw[p2];rfl
  ·exact wpS_pure ⟨rfl,f⟩
 case aft =>
  rintro c t ⟨rfl,f⟩;dsimp only;refine wpS_bind (wpS_mono (wpS_forRange (I:=λ_ c t'=>t'=t/\c=(none,())) (Q:=λc t'=>t'=t/\c=(none,())) ?_ (λ_ _ e=>e) ⟨V⟩) ?_)
  ·rintro x c t' _ _ ⟨rfl,rfl⟩;refine wpS_bind (wpS_get ?_);rw[if_pos (by rw[f.2.2.1];exact fK 1)];exact wpS_pure ⟨V⟩
  ·rintro c t' ⟨rfl,rfl⟩;exact wpS_pure (h _ f.1 f.2.1 f.2.2.2)
theorem Oz(v:Value):firstOfTuple' v=(do
  if (← typeOf v) != .type "tuple" then return none
  return (← Builtin.List.listItems v)[0]?):=rfl
def Ir{M:Model}{v:Value}{p:Int × Int}{Q:Option Value->Shared->Prop}(h:jt s.heap v p)(g:∀ t,Q (⇑(.int p.1 t)) s):wpAny M A (firstOfTuple' v) Q E s:=by
 let⟨a,t1,t2,rfl,ha⟩:=h;let⟨o,h1,h2,n,h3⟩:=id ha;rw[Oz];refine wpAny_bind (wpAny_typeOf (T:="tuple") ⟨o,h1,h2⟩ ?_);have e:(Value.type "tuple" != Value.type "tuple")=false:=by rfl
 rw[e,if_neg fL];exact wpAny_bind (listItems_at h1 h3 (wpAny_pure (g t1)))
abbrev OA(h:Heap):List Value->List (Int × Int)->Prop:=Paired (jt h)
theorem OB{M:Model}:∀ {vs:List Value} {ps:List (Int × Int)} {Q:List (Option Value)->Shared->Prop},OA s.heap vs ps->(∀ us:List Value,IntsAre us (ps.map (·.1))->Q (us.map some) s)->wpAny M A (vs.mapM firstOfTuple') Q E s
 | _,_,_,.nil,g=>by
  rw[List.mapM_nil];exact wpAny_pure (g [] .nil)
 | _,_,_,.cons h r,g=>by
  rw[List.mapM_cons];refine wpAny_bind (Ir h λt=>wpAny_bind (OB r λus hu=>wpAny_pure ?_));exact g _ (.cons _ t hu)
def Iu{M:Model}{vs:List Value}{ps:List (Int × Int)}{Q:SortKind->Shared->Prop}(h:OA s.heap vs ps)(n:vs≠[])(g:Q (tuples' true) s):wpAny M A (keyKind' vs.toArray) Q E s:=by
 rw[keyKind'_eq,List.mapM_toArray];refine wpAny_bind ?_;show wpAny M A (List.toArray <$> vs.mapM firstOfTuple') _ E s;rw[map_eq_pure_bind];refine wpAny_bind (OB h λus hu=>wpAny_pure ?_);have e1:(us.map some).toArray.all (·.isSome)=true:=by simp
 rw[if_pos e1];refine wpAny_bind (wpAny_rule ?_);have e2:(us.map some).toArray.filterMap id=us.toArray:=by simp
 rw[e2,oneTypeOnly'_eq,List.mapM_toArray,mapM_typeOf_ints hu];simp only[map_pure,pure_bind]
 have un:us≠[]:=by
  intro z;subst z
  cases h with
  | nil=>exact n rfl
  | cons _ _=>cases hu
 let⟨u0,ur,rfl⟩:=List.exists_cons_of_ne_nil un;have e3:(List.map (λ_=>Value.type "int") (u0::ur)).toArray[0]?=⇑(Value.type "int"):=by simp
 rw[e3]
 have e4:((List.map (λ_=>Value.type "int") (u0::ur)).toArray.all λx=>x == Value.type "int")=true:=by
  simp only[List.all_toArray,List.all_map,List.all_eq_true];intro _ _;rfl
 simp only[e4,if_true];refine wpAny_bind (wpAny_pure (wpAny_pure ?_));exact g
def jt.inj{h:Heap}{v:Value}{p q:Int × Int}(a:jt h v p)(b:jt h v q):p=q:=by
 let⟨x,t1,t2,rfl,o,h1,_,n,h3⟩:=a;let⟨y,u1,u2,e,o',g1,_,m,g3⟩:=b;cases e;rw[h1]at g1;cases g1;rw[h3]at g3;injection g3 with g4 _;have g5:=congrArg Array.toList g4;injection g5 with g6 g7;injection g7 with g8 _;injection g6 with g9 _;injection g8 with g10 _;exact Prod.ext g9 g10
open Classical in
noncomputable def iA (h:Heap) (v:Value):Int × Int:=if c:∃ p,jt h v p then c.choose else (0,0)
def oj{h:Heap}{v:Value}{p:Int × Int}(a:jt h v p):iA h v=p:=by
 have c:∃ p,jt h v p:=⟨p,a⟩;unfold iA;rw[dif_pos c];exact c.choose_spec.inj a
def jt.keep{h h':Heap}{v:Value}{p:Int × Int}(a:jt h v p)(k:∀ b o,o.cls=.type "tuple"->h.get? b=⇑o->h'.get? b=⇑o):jt h' v p:=by
 let⟨x,t1,t2,e,o,h1,h2,r⟩:=a;exact⟨x,t1,t2,e,o,k x o h2 h1,h2,r⟩
theorem OA.mem{h:Heap}:∀ {vs:List Value} {ps:List (Int × Int)} {v:Value},OA h vs ps->v∈vs->∃ p,jt h v p
 | _,_,_,.nil,m=>by cases m
 | _,_,_,.cons a r,m=>by
  rcases List.mem_cons.mp m with e|e
  ·exact⟨_,by rw[e];exact a⟩
  ·exact OA.mem r e
def yH{vs:List Value}{r:Value × Value}(h:r∈vs.zip vs):r.1∈vs/\r.2=r.1:=by
 let⟨i,hi,e⟩:=List.getElem_of_mem h;rw[List.getElem_zip]at e;rw[← e];exact⟨List.getElem_mem _,rfl⟩
theorem xZ{a:Addr}{vs:List Value}{ps:List (Int × Int)}{n:Nat}{P:Fin->Shared->Prop}(hl:s.heap.get? a=⇑(seqObj "list" vs.toArray n))(hp:OA s.heap vs ps)(Xl:↑vs<3)
  (iH:∀ st:SortSt,(arrOf st).Perm (pairsOf vs)->Up (iA s.heap) (arrOf st) (pairsOf vs).size->P (.done (.ret .none)) { s with heap:=sortedHeap s.heap a vs ((arrOf st).map (·.2)) }) :
  wpAny (model prog w) A (Builtin.«list.sort» ⟨[↥a],[]⟩) P E s:=by
 rw[list_sort_plain];have al:a<s.heap.objs.size:=Heap.lt_size hl;refine wpAny_bind (listItems_at hl rfl ?_);refine wpAny_bind (listUpdate_at hl rfl ?_);obtain⟨c1,RG⟩:∃ c1,(s.heap.update a (Obj.mapSeq λ_=>#[])).get? a=⇑(seqObj "list" #[] c1):=⟨_,get?_update_seq hl (λ_=>#[])⟩;refine wpAny_bind (seqEpoch_at RG rfl ?_);refine wpAny_bind (wpAny_newTuple (wpAny_bind (wpAny_newList (wpAny_holding ?_))));generalize hg:((s.heap.update a (Obj.mapSeq λ_=>#[])).push (seqObj "tuple" vs.toArray 0)).push (seqObj "list" #[] 0)=g
 have ga:g.get? a=⇑(seqObj "list" #[] c1):=by
  rw[← hg,Heap.get?_push_ne _ _ _ (by rw[size_push',Heap.size_update];exact jC (Nat.lt_succ_of_lt al)),Heap.get?_push_ne _ _ _ (by rw[Heap.size_update];exact jC al)];exact RG
 have gk:∀ b o,o.cls=.type "tuple"->s.heap.get? b=⇑o->g.get? b=⇑o:=λb o oc ob=>by
  have nb:b≠a:=λz=>by
   rw[z,hl]at ob;cases ob;have q:Value.type "list"=Value.type "tuple":=oc;simp at q
  rw[← hg];exact Heap.get?_push_of_some _ (Heap.get?_push_of_some _ (by rw[Heap.get?_update_ne _ _ _ _ nb];exact ob))
 have sh:sortedHeap s.heap a vs=λtS=>g.update a (Obj.mapSeq λ_=>tS):=by rw[← hg];rfl
 rw[sh]at iH;dsimp only;have vz:vs.toArray.size=↑vs:=by simp
 by_cases h2:vs.toArray.size<2
 ·rw[if_pos h2,if_pos h2];refine wpAny_bind (wpAny_pure ?_);rw[StateT.run_pure];refine wpAny_bind (wpAny_pure ?_);dsimp only;refine wpAny_bind (seqEpoch_at ga rfl (wpAny_bind (listUpdate_at ga rfl ?_ (hsz2:=by rw[Array.size_map];show (pairsOf vs).size<=_;rw[pairsOf_size,sizeLine_eq];lia))));simp only[bne_self_eq_false,Bool.false_eq_true,if_false];refine wpAny_pure (iH (SortSt.mk' general' (vs.toArray.zip vs.toArray) #[] 7 none) (Array.Perm.refl _) λi j ij hj=>?_);have:i=j:=by rw[pairsOf_size]at hj;lia
  subst this;exact Le.rfl' _
 ·rw[if_neg h2,if_neg h2];have vn:vs≠[]:=λz=>by rw[z]at h2;simp at h2
  have MT:OA g vs ps:=L2.Paired.CK hp λv p q=>q.keep gk;refine wpAny_bind (Iu (s:={ s with heap:=g }) MT vn ?_)
  have can:Xk prog w A { s with heap:=g } (iA s.heap) (pairsOf vs):=λr hr o ho E' Q' h'=>by
   rw[pairsOf_toList]at hr ho;let⟨p,RH⟩:=hp.mem (yH hr).1;let⟨q,Qs⟩:=hp.mem (yH ho).1;rw[oj RH,oj Qs]at h';exact Ip (RH.keep gk) (Qs.keep gk) h'
  refine wpAny_bind (wpAny_mono (adp (key:=iA s.heap) (z:=pairsOf vs) (st:=SortSt.mk' (tuples' true) (vs.toArray.zip vs.toArray) #[] 7 none) (Q:=λ_ t=>(arrOf t).Perm (pairsOf vs)/\failedOf t=none/\Up (iA s.heap) (arrOf t) (pairsOf vs).size) can ⟨Array.Perm.refl _,V,rfl⟩ (by rw[pairsOf_size];lia) (by rw[pairsOf_size];exact Xl) λt a1 a2 a3=>⟨a1,a2,a3⟩) ?_ λ_ _ e=>e);rintro⟨⟨⟩,t⟩ s' ⟨rfl,pm,fl,up⟩;dsimp only;refine wpAny_bind (seqEpoch_at ga rfl (wpAny_bind (listUpdate_at ga rfl ?_ (hsz2:=by refine jf (Nat.le_of_eq ((Array.size_map ..).trans (pm.size_eq.trans (pairsOf_size _)))) ?_;rw[sizeLine_eq];lia))));rw[fl];simp only[bne_self_eq_false,Bool.false_eq_true,if_false];exact wpAny_pure (iH t pm up)
theorem Dm{l:Addr}{vs:List Value}{ps:List (Int × Int)}{Q:Value->Shared->Prop}(hl:s.heap.IsList l vs.toArray)(hp:OA s.heap vs ps)(Xl:↑vs<3)
  (iH:∀ st:SortSt,(arrOf st).Perm (pairsOf vs)->Up (iA s.heap) (arrOf st) (pairsOf vs).size->Q (.ref (s.heap.objs.size+1)) { s with heap:=sortedAll s.heap vs ((arrOf st).map (·.2)) }) :
  wpAny (model prog w) A (call (.builtin "sorted") [↥l]) Q E s:=by
 refine Calls.call_function_entry kind_sorted plain_sorted entry_sorted (args_sorted1 _) ?_;unfold Builtin.«sorted»;refine wpAny_bind (m:=checkCount "sorted" 1 1 _) (wpAny_pure ?_);refine wpAny_bind (collect_list hl ?_ (by have:=(show (3:Nat)<=sizeLine by decide);lia));refine wpAny_bind (wpAny_newList ?_);generalize hg:(s.heap.push (seqObj "list" #[] 0)).update s.heap.objs.size (Obj.mapSeq (·++vs.toArray))=g;have gz:g.objs.size=s.heap.objs.size+1:=by rw[← hg,Heap.size_update,size_push']
 have gk:∀ b o,s.heap.get? b=⇑o->g.get? b=⇑o:=λb o ob=>by
  have lt:=Heap.lt_size ob;rw[← hg,Heap.get?_update_ne _ _ _ _ (jC lt)];exact Heap.get?_push_of_some _ ob
 have kk:∀ b o,s.heap.get? b=⇑o->(g.push (seqObj "list" vs.toArray 0)).get? b=⇑o:=λb o ob=>Heap.get?_push_of_some _ (gk b o ob);have at1:(g.push (seqObj "list" vs.toArray 0)).get? (s.heap.objs.size+1)=⇑(seqObj "list" vs.toArray 0):=by rw[← gz];exact Heap.get?_push_size _ rfl
 show wpAny _ _ _ _ _ { s with heap:=g.push (seqObj "list" vs.toArray 0) };rw[gz];have MT:OA (g.push (seqObj "list" vs.toArray 0)) vs ps:=L2.Paired.CK hp λv p q=>q.keep λb o _ ob=>kk b o ob
 have ke:∀ v∈vs,iA (g.push (seqObj "list" vs.toArray 0)) v=iA s.heap v:=λv hv=>by
  let⟨p,q⟩:=hp.mem hv;rw[oj q,oj (q.keep λb o _ ob=>kk b o ob)]
 refine wpAny_bind (wpAny_holding (wpAny_call_entry slot_list_sort ⟨_,at1,rfl⟩ entry_list_sort (xZ (s:={ s with heap:=g.push (seqObj "list" vs.toArray 0) }) at1 MT Xl λst pm up=>⟨Y,wpAny_pure ⟨Y,?_⟩⟩) (args_list_sort _)))
 have up':Up (iA s.heap) (arrOf st) (pairsOf vs).size:=λi j ij hj=>by
  have e:∀ k,k<(pairsOf vs).size->kp (iA s.heap) (arrOf st) k=kp (iA (g.push (seqObj "list" vs.toArray 0))) (arrOf st) k:=λk hk=>by
   have hk2:k<(arrOf st).size:=by rw[pm.size_eq];exact hk
   have mm:(arrOf st)[k]∈(pairsOf vs).toList:=(Array.perm_iff_toList_perm.mp pm).mem_iff.mp (by simp);rw[pairsOf_toList]at mm;unfold kp;rw[getElem?_pos _ k hk2];show iA s.heap _=iA _ _;rw[ke _ (yH mm).1]
  rw[e i ∅,e j hj];exact up i j ij hj
 have z:=iH st pm up';unfold sortedAll at z;rw[hg]at z;exact z
end
end RE
namespace fV
open Spec Rows L2 cD eY xX RE
theorem zH{X:Cx}{σ:L2.St}{H:Hp}{s:Shared}(I:L2.Inv X ak σ H s):∀ {as:List Addr} {row:Row},br H as row->OA s.heap (as.map Value.ref) row
 | _,_,.nil=>.nil
 | _,_,.cons (a:=a) (b:=p) h r=>by
  refine .cons ?_ (zH I r);let⟨aQ,vr,pl,_⟩:=I.tuple (dN.of h);let⟨o,h1,h2,n,h3⟩:=pl
  cases vr with
  | cons e1 vr =>
   cases vr with
   | cons e2 vr =>
    cases vr;let⟨t1,rfl⟩:=e1;let⟨t2,rfl⟩:=e2;exact⟨a,t1,t2,rfl,o,h1,h2,n,h3⟩
theorem BX:∀ {as:List Addr} {aQ:List Value},bZ (as.map V.ref) aQ->aQ=as.map Value.ref
 | [],_,.nil=>rfl
 | _::as,_,.cons e r=>by
  cases e;rw[BX r];rfl
theorem BY:∀ as:List Addr,bZ (as.map V.ref) (as.map Value.ref)
 | []=>.nil
 | _::as=>.cons rfl (BY as)
def Xm:Value->Addr
 | .ref a=>a
 | _=>0
theorem br.OC{H:Hp}:∀ {as:List Addr} {row:Row} {a:Addr},br H as row->a∈as->∃ p,kF H a p
 | _,_,_,.nil,m=>by cases m
 | _,_,_,.cons h r,m=>by
  rcases List.mem_cons.mp m with e|e
  ·exact⟨_,by rw[e];exact h⟩
  ·exact br.OC r e
theorem Dp{X:Cx}:jF X (.builtin "sorted") (λxs H Q=>∃ (p:Addr) (as:List Addr) (row:Row),xs=[↥p]/\H p=⇑(.lst (as.map V.ref))/\br H as row/\↑row<3/\
  ∀ (l:Addr) (bs:List Addr) (Fz:Row),H l=none->Fz.Perm row->Fz.Pairwise Le->br H bs Fz->Q ↥l (aO H l (.lst (bs.map V.ref)))):=by
 intro ak s σ H xs us Q I r h;let⟨p,as,row,rfl,hH,hp,Xl,q⟩:=h;let⟨u,rfl,rx⟩:=vals1 r;cases rx;let⟨z,aQ,n,rv,hl,e⟩:=I.xV hH;have ei:=BX rv;subst ei;have pr:=zH I hp;have al:=hp.len;have v64:↑(as.map Value.ref)<3:=by rw[bW,al];exact Xl
 refine Dm (vs:=as.map Value.ref) ⟨_,e,rfl,n,rfl⟩ pr v64 λst pm up=>?_;have pl:=Array.perm_iff_toList_perm.mp pm;rw[pairsOf_toList]at pl
 have each:∀ x∈(arrOf st).toList,∃ a∈as,x.1=↥a/\x.2=↥a/\kF H a (iA s.heap x.1):=λx hx=>by
  let⟨m1,m2⟩:=yH (pl.mem_iff.mp hx);let⟨a,ha,ea⟩:=List.mem_map.mp m1;let⟨pa,hpa⟩:=hp.OC ha;have k1:=zH I (.cons hpa .nil:br H [a] [pa])
  cases k1 with
  | cons k1 _ =>
   refine⟨a,ha,ea.symm,by rw[m2,ea],?_⟩;rw[← ea,oj k1];exact hpa
 have adt:((arrOf st).map (·.2)).toList=((arrOf st).toList.map λx=>Xm x.1).map Value.ref:=by
  rw[Array.toList_map,List.map_map];refine List.map_congr_left λx hx=>?_;let⟨a,_,e1,e2,_⟩:=each x hx;show x.2=Value.ref (Xm x.1);rw[e1,e2];rfl
 have pairs:∀ L:List Keyed,(∀ x∈L,∃ a∈as,x.1=↥a/\x.2=↥a/\kF H a (iA s.heap x.1))->br H (L.map λx=>Xm x.1) (L.map λx=>iA s.heap x.1):=by
  intro L
  induction L with
  | nil=>intro _;exact .nil
  | cons x L ih =>
   intro g;let⟨a,_,e1,_,e3⟩:=g x (by simp);refine .cons ?_ (ih λy hy=>g y (nO _ hy));rw[e1]at e3;show kF H (Xm x.1) (iA s.heap x.1);rw[e1];exact e3
 have AK:∀ {vs:List Value} {row:Row},OA s.heap vs row->(vs.zip vs).map (λx=>iA s.heap x.1)=row:=by
  intro vs
  induction vs with
  | nil=>intro row h;cases h;rfl
  | cons v vs ih =>
   intro row h
   cases h with
   | cons h1 h2 =>
    rw[List.zip_cons_cons,jh,ih h2,oj h1]
 have RI:((arrOf st).toList.map λx=>iA s.heap x.1).Perm row:=by
  have z2:=pl.map λx=>iA s.heap x.1;rw[AK pr]at z2;exact z2
 have srt:((arrOf st).toList.map λx=>iA s.heap x.1).Pairwise Le:=by
  rw[List.pairwise_iff_getElem];intro i j hi hj hij;rw[bW,Array.length_toList]at hi hj;have z3:=up i j (iC hij) (by rw[← pm.size_eq];exact hj);unfold kp at z3;rw[getElem?_pos _ i hi,getElem?_pos _ j hj]at z3;simpa using z3
 let⟨c,hc⟩:=sortedAll_at s.heap (as.map Value.ref) ((arrOf st).map (·.2))
 have ll:↑((arrOf st).toList.map λx=>Xm x.1)<=sizeLine:=by
  rw[bW,Array.length_toList,pm.size_eq,pairsOf_size];have:(64:Nat)<=sizeLine:=by decide
  lia
 refine⟨.ref (s.heap.objs.size+1),_,I.laid (t':=s.toks) (λb o ob=>sortedAll_old ob) (Nat.le_succ _) (show fF X.prog X.w _ _ _ (.lst (((arrOf st).toList.map λx=>Xm x.1).map V.ref)) from ⟨by rw[bW];exact ll,_,c,BY _,?_⟩),rfl,q _ _ _ (I.hok.fresh (Nat.le_succ _)) RI srt (pairs _ each)⟩;rw[hc,← adt]
end fV
namespace fV
open Spec Rows L2 cD eY xX RE
def In(r:Row)(x:Int):Prop:=∃ p∈r,p.1<=x/\x<p.2
def Ok(r:Row):Prop:=∀ p∈r,p.1<=p.2
theorem yI:∀ {n:Nat} {s x:Int},x∈run s n↔s<=x/\x<s+n
 | 0,s,x=>by simp[run]
 | n+1,s,x=>by
  rw[run,List.mem_cons,yI];lia
def j5{p:Int × Int}{x:Int}:x∈fE p↔p.1<=x/\x<p.2:=by
 unfold fE;rw[yI];lia
def BZ{r:Row}{x:Int}:x∈bI r↔In r x:=by
 unfold bI In;rw[List.mem_flatMap];exact⟨λ⟨p,a,b⟩=>⟨p,a,j5.mp b⟩,λ⟨p,a,b⟩=>⟨p,a,j5.mpr b⟩⟩
theorem Dq{x:Int}:¬ In [] x:=λ⟨_,h,_⟩=>by cases h
def rD{r q:Row}{x:Int}:In (r++q) x↔In r x\/In q x:=by
 unfold In;constructor
 ·rintro⟨p,hp,h⟩;exact (List.mem_append.mp hp).elim (λz=>.inl ⟨p,z,h⟩) λz=>.inr ⟨p,z,h⟩
 ·rintro (⟨p,hp,h⟩|⟨p,hp,h⟩)
  ·exact⟨p,pV _ hp,h⟩
  ·exact⟨p,nP _ hp,h⟩
def Iv{p:Int × Int}{x:Int}:In [p] x↔p.1<=x/\x<p.2:=by
 unfold In;constructor
 ·rintro⟨q,hq,h⟩;rw[List.mem_singleton.mp hq]at h;exact h
 ·intro h;exact⟨p,by simp,h⟩
def RJ{r q:Row}(h:r.Perm q){x:Int}:In r x↔In q x:=by
 unfold In;constructor
 ·rintro⟨p,hp,g⟩;exact⟨p,h.mem_iff.mp hp,g⟩
 ·rintro⟨p,hp,g⟩;exact⟨p,h.mem_iff.mpr hp,g⟩
def OD{r:Row}(ok:Ok r){x:Int}:In (cB r) x↔In r x:=by rw[← BZ,← BZ,j0 r ok]
def LN(r:Row):Prop:=r.Pairwise (λp q=>p.2<q.1)/\∀ p∈r,p.1<p.2
def eK(t:Row)(p:Int × Int):Row :=
 match t.getLast? with
 | some l=>if p.1<=l.2 then t.dropLast++[(l.1,if p.2 > l.2 then p.2 else l.2)] else t++[p]
 | none=>t++[p]
def tV(t:Row){l p:Int × Int}(h:p.1<=l.2):eK (t++[l]) p=t++[(l.1,if p.2 > l.2 then p.2 else l.2)]:=by
 unfold eK;rw[m7];show (if p.1<=l.2 then (t++[l]).dropLast++[(l.1,if p.2 > l.2 then p.2 else l.2)] else _)=_;rw[if_pos h,List.dropLast_concat]
def tW(t:Row){l p:Int × Int}(h:¬ p.1<=l.2):eK (t++[l]) p=t++[l]++[p]:=by
 unfold eK;rw[m7];show (if p.1<=l.2 then (t++[l]).dropLast++[(l.1,if p.2 > l.2 then p.2 else l.2)] else t++[l]++[p])=_;rw[if_neg h]
def OE(L:Row):∀ t:Row,↑(L.foldl eK t)<=↑t+↑L:=by
 induction L with
 | nil=>intro t;simp
 | cons p L ih =>
  intro t;rw[kj,jS];have a:=ih (eK t p)
  have b:↑(eK t p)<=↑t+1:=by
   rcases mE t with rfl|⟨t',q,rfl⟩
   ·exact fK _
   ·rw[ki];by_cases c:p.1<=q.2
    ·rw[tV _ c,dM,dM,gF,gF];lia
    ·rw[tW _ c,dM,dM];exact fK _
  lia
def RK:∀ (L t:Row),L.Pairwise Le->(∀ p∈L,p.1<p.2)->LN t->(∀ l∈t.getLast?,∀ p∈L,l.1<=p.1)->LN (L.foldl eK t)/\∀ x,In (L.foldl eK t) x↔In t x\/In L x:=by
 intro L
 induction L with
 | nil=>intro t _ _ h _;exact⟨h,λx=>⟨.inl,λz=>z.elim id λw=>absurd w Dq⟩⟩
 | cons p L ih =>
  intro t hs hp ht hl;let⟨s1,s2⟩:=List.pairwise_cons.mp hs;have pp:=hp p (by simp);have lo:∀ q∈L,p.1<=q.1:=λq hq=>by have:=s1 q hq;unfold Le at this;lia
  have step:LN (eK t p)/\(∀ x,In (eK t p) x↔In t x\/In [p] x)/\∀ l∈(eK t p).getLast?,l.1<=p.1:=by
   rcases mE t with rfl|⟨t',q,rfl⟩
   ·refine⟨⟨by simp[eK],λr hr=>by rw[List.mem_singleton.mp hr];exact pp⟩,λx=>?_,λl h=>?_⟩
    ·show In [p] x↔_;exact⟨.inr,λz=>z.elim (λw=>absurd w Dq) id⟩
    ·have:p=l:=by simpa [eK] using h
     rw[← this];exact Int.le_refl _
   ·rw[ki]at ht hl ⊢;let⟨h1,h2⟩:=ht;let⟨p1,p2,p3⟩:=List.pairwise_append.mp h1;have qq:=h2 q (by simp);have ql:=hl q (by rw[m7];rfl) p (by simp);by_cases c:p.1<=q.2
    ·rw[tV _ c];refine⟨⟨List.pairwise_append.mpr ⟨p1,by simp,λa ha b hb=>?_⟩,λr hr=>?_⟩,λx=>?_,λl h=>?_⟩
     ·rw[List.mem_singleton.mp hb];exact p3 a ha q (by simp)
     ·rcases List.mem_append.mp hr with e|e
      ·exact h2 r (pV _ e)
      ·rw[List.mem_singleton.mp e];show q.1<(if p.2 > q.2 then p.2 else q.2)
       split <;> lia
     ·rw[rD,rD,Iv,Iv,Iv];show In t' x\/(q.1<=x/\x<(if p.2 > q.2 then p.2 else q.2))↔_;constructor
      ·rintro (z|z)
       ·exact .inl (.inl z)
       ·by_cases d:x<q.2
        ·exact .inl (.inr ⟨z.1,d⟩)
        ·refine .inr ⟨E,?_⟩;have:=z.2
         split at this <;> lia
      ·rintro ((z|z)|z)
       ·exact .inl z
       ·refine .inr ⟨z.1,?_⟩
        split <;> lia
       ·refine .inr ⟨E,?_⟩
        split <;> lia
     ·rw[m7]at h;have:(q.1,if p.2 > q.2 then p.2 else q.2)=l:=by simpa using h
      rw[← this];exact ql
    ·rw[tW _ c];refine⟨⟨List.pairwise_append.mpr ⟨h1,by simp,λa ha b hb=>?_⟩,λr hr=>?_⟩,λx=>rD,λl h=>?_⟩
     ·rw[List.mem_singleton.mp hb];rcases List.mem_append.mp ha with e|e
      ·have:=p3 a e q (by simp);lia
      ·rw[List.mem_singleton.mp e];lia
     ·rcases List.mem_append.mp hr with e|e
      ·exact h2 r e
      ·rw[List.mem_singleton.mp e];exact pp
     ·rw[m7]at h;have:p=l:=by simpa using h
      rw[← this];exact Int.le_refl _
  let⟨r1,r2⟩:=ih (eK t p) s2 (λq hq=>hp q (nO _ hq)) step.1 λl h q hq=>Int.le_trans (step.2.2 l h) (lo q hq);refine⟨r1,λx=>?_⟩;rw[kj,r2,step.2.1];have e:In (p::L) x↔In [p] x\/In L x:=rD (r:=[p]) (q:=L);rw[e];exact or_assoc
def LO{L row:Row}(h:L.Perm row)(g:L.Pairwise Le)(ok:∀ p∈row,p.1<p.2):LN (L.foldl eK [])/\∀ x,In (L.foldl eK []) x↔In row x:=by
 let⟨a,b⟩:=RK L [] g (λp hp=>ok p (h.mem_iff.mp hp)) ⟨.nil,λp hp=>by cases hp⟩ (λl hl=>by simp at hl);refine⟨a,λx=>?_⟩;rw[b,RJ h];exact⟨λz=>z.elim (λw=>absurd w Dq) id,.inr⟩
end fV
namespace fV
open Spec Rows L2 cD eY xX RE
def Qt(r:Row)(x:Int):Bool:=r.any λp=>decide (p.1<=x)&&decide (x<p.2)
def rE{r:Row}{x:Int}:Qt r x=true↔In r x:=by
 unfold Qt In;rw[List.any_eq_true];constructor
 ·rintro⟨p,hp,h⟩;rw[Bool.and_eq_true]at h;exact⟨p,hp,of_decide_eq_true h.1,of_decide_eq_true h.2⟩
 ·rintro⟨p,hp,h1,h2⟩;exact⟨p,hp,by rw[Bool.and_eq_true];exact⟨decide_eq_true h1,decide_eq_true h2⟩⟩
def iB(r:Row)(xs:List Int):List Int:=xs.filter λx=>!Qt r x
def wG{r:Row}{xs:List Int}(h:∀ x∈xs,¬ In r x):iB r xs=xs:=by
 unfold iB;rw[List.filter_eq_self];intro x hx
 cases e:Qt r x with
 | false=>rfl
 | true=>exact absurd (rE.mp e) (h x hx)
def Iw{r:Row}{xs:List Int}(h:∀ x∈xs,In r x):iB r xs=[]:=by
 unfold iB;rw[List.filter_eq_nil_iff];intro x hx;rw[rE.mpr (h x hx)];simp
def qB{r q:Row}{xs:List Int}(h:∀ x∈xs,In r x↔In q x):iB r xs=iB q xs:=by
 unfold iB;refine List.filter_congr λx hx=>?_
 cases e:Qt r x with
 | true=>rw[rE.mpr ((h x hx).mp (rE.mp e))]
 | false =>
  cases e2:Qt q x with
  | true=>rw[rE.mpr ((h x hx).mpr (rE.mp e2))]at e;cases e
  | false=>rfl
def uU(r:Row)(a b:List Int):iB r (a++b)=iB r a++iB r b:=by unfold iB;rw[List.filter_append]
def lo(b:Int):Int->Row->Row
 | l,[]=>[(l,b)]
 | l,p::r=>if p.1<b then (l,if p.1 > l then p.1 else l)::lo b (if b<p.2 then b else p.2) r else [(l,b)]
def FA{a b c:Int}(h:a<=b)(g:b<=c):fE (a,c)=fE (a,b)++fE (b,c):=by
 unfold fE;show run a (c-a).toNat=run a (b-a).toNat++run b (c-b).toNat;have e:(c-a).toNat=(b-a).toNat+(c-b).toNat:=by lia
 rw[e]
 have z:∀ (n m:Nat) (s:Int),run s (n+m)=run s n++run (s+n) m:=by
  intro n
  induction n with
  | zero=>intro m s;simp[run]
  | succ n ih =>
   intro m s;rw[Nat.succ_add,run,run,ih,List.cons_append];congr 3;lia
 rw[z];congr 2;lia
theorem TY(b:Int):∀ (r:Row) (l:Int),l<=b->(∀ p∈r,l<p.2)->LN r->Ok (lo b l r)/\bI (lo b l r)=iB r (fE (l,b))/\(∀ p∈lo b l r,l<=p.1)
 | [],l,h,_,_=>by
  refine⟨λp hp=>?_,?_,λp hp=>?_⟩
  ·rw[List.mem_singleton.mp hp];exact h
  ·rw[wG λx _=>Dq];exact eX _
  ·rw[List.mem_singleton.mp hp];exact Int.le_refl _
 | p::r,l,h,g,R=>by
  rw[lo];have pp:=R.2 p (by simp);have lp:=g p (by simp);let⟨r1,r2⟩:=List.pairwise_cons.mp R.1;by_cases c:p.1<b
  ·rw[if_pos c];obtain⟨m,hm⟩:∃ m,m=(if p.1 > l then p.1 else l):=⟨Y⟩;obtain⟨k,hk⟩:∃ k,k=(if b<p.2 then b else p.2):=⟨Y⟩;rw[← hm,← hk]
   have m1:l<=m/\m<=k/\k<=b/\p.1<=m/\k<=p.2/\(m=l\/m=p.1)/\(k=b\/k=p.2):=by
    rw[hm,hk]
    split <;> split <;> lia
   let⟨i1,i2,i3⟩:=TY b r k m1.2.2.1 (λq hq=>by have:=r1 q hq;have:=R.2 q (nO _ hq);lia) ⟨r2,λq hq=>R.2 q (nO _ hq)⟩;refine⟨λq hq=>?_,?_,λq hq=>?_⟩
   ·rcases List.mem_cons.mp hq with e|e
    ·rw[e];exact m1.1
    ·exact i1 q e
   ·have e:bI ((l,m)::lo b k r)=fE (l,m)++bI (lo b k r):=by unfold bI;rw[mF]
    rw[e,i2,FA (a:=l) (b:=m) (c:=b) m1.1 ∅,FA (a:=m) (b:=k) (c:=b) m1.2.1 m1.2.2.1,uU,uU]
    have o1:iB (p::r) (fE (l,m))=fE (l,m):=wG λx hx=>by
     have hx':=j5.mp hx;rintro⟨q,hq,q1,q2⟩;rcases List.mem_cons.mp hq with e2|e2
     ·rw[e2]at q1;simp only at hx';lia
     ·have:=r1 q e2;simp only at hx';lia
    have o2:iB (p::r) (fE (m,k))=[]:=Iw λx hx=>⟨p,by simp,by have:=(j5.mp hx).1;simp only at this;lia,by have:=(j5.mp hx).2;simp only at this;lia⟩
    have o3:iB (p::r) (fE (k,b))=iB r (fE (k,b)):=qB λx hx=>by
     have hx':=j5.mp hx;simp only at hx';constructor
     ·rintro⟨q,hq,q1,q2⟩;rcases List.mem_cons.mp hq with e2|e2
      ·rw[e2]at q2;lia
      ·exact⟨q,e2,q1,q2⟩
     ·rintro⟨q,hq,z⟩;exact⟨q,nO _ hq,z⟩
    rw[o1,o2,o3,List.nil_append]
   ·rcases List.mem_cons.mp hq with e|e
    ·rw[e];exact Int.le_refl _
    ·have:=i3 q e;lia
  ·rw[if_neg c];refine⟨λq hq=>?_,?_,λq hq=>?_⟩
   ·rw[List.mem_singleton.mp hq];exact h
   ·rw[wG λx hx=>?_]
    ·exact eX _
    ·have hx':=j5.mp hx;simp only at hx';rintro⟨q,hq,q1,q2⟩;rcases List.mem_cons.mp hq with e2|e2
     ·rw[e2]at q1;lia
     ·have:=r1 q e2;lia
   ·rw[List.mem_singleton.mp hq];exact Int.le_refl _
theorem OF(b:Int):∀ (r:Row) (l:Int),↑(lo b l r)<=↑r+1
 | [],_=>fK _
 | p::r,l=>by
  rw[lo];split
  ·rw[jS,jS];have:=OF b r (if b<p.2 then b else p.2);lia
  ·simp
def Fst(bL:Row)(x:Int)(n:Nat):Prop:=n<=↑bL/\(∀ i p,bL[i]?=⇑p->i<n->p.2<=x)/\∀ i p,bL[i]?=⇑p->n<=i->x<p.2
def Fst.drop{bL:Row}{x:Int}{n:Nat}(h:Fst bL x n):(∀ p∈bL.drop n,x<p.2)/\∀ y,x<=y->(In bL y↔In (bL.drop n) y):=by
 refine⟨λp hp=>?_,λy hy=>⟨λz=>?_,λz=>?_⟩⟩
 ·let⟨i,hi⟩:=List.getElem?_of_mem hp;rw[List.getElem?_drop]at hi;exact h.2.2 _ p hi ∅
 ·let⟨p,hp,a,b⟩:=z;let⟨i,hi⟩:=List.getElem?_of_mem hp;by_cases c:i<n
  ·have:=h.2.1 i p hi c;lia
  ·refine⟨p,m6 (i:=i-n) ?_,a,b⟩;rw[List.getElem?_drop,show n+(i-n)=i by lia];exact hi
 ·let⟨p,hp,q⟩:=z;exact⟨p,List.mem_of_mem_drop hp,q⟩
theorem LN.drop{r:Row}(h:LN r)(n:Nat):LN (r.drop n):=⟨h.1.drop,λp hp=>h.2 p (List.mem_of_mem_drop hp)⟩
class inductive OG
 | mk (r:Addr) (row:Row) (_:vs=[↥r]) (_:b5 H r row) (_:↑row<3) (_:Ok row) (_ :
 ∀ (q:Addr) (R:Row) (H':Hp),b5 H' q R->LN R->(∀ x,In R x↔In row x)->↑R<=↑row->aH H H'->H q=none->Q ↥q H')
class inductive Kc
 | mk (r:Addr) (bL:Row) (x:Int) (_:vs=[↥r,.int x]) (_:b5 H r bL) (_:LN bL) (_: ∀ n:Nat,Fst bL x n->Q (.int n) H)
class inductive VC
 | mk (r:Addr) (bL:Row) (a b:Int) (_:vs=[.int a,.int b,↥r]) (_:b5 H r bL) (_:LN bL) (_:↑bL<=100000) (_:a<=b) (_ :
 ∀ (q:Addr) (L:Row) (H':Hp),b5 H' q L->Ok L->bI L=iB bL (fE (a,b))->(∀ p∈L,a<=p.1)->↑L<=↑bL+1->aH H H'->H q=none->Q ↥q H')
end fV
namespace fV
open Spec Rows L2 cD eY xX Vy
structure cI(K:PySem.W.Frag)(C:Addr)(m cP:Str)(st:Stmt)(ps:List Str)(a:Addr)(d:FuncData):Prop where
 F:NL K m cP st a d
 b:Binds K d ps []
 mt:Nm K C m a
structure ClsAt(K:PySem.W.Frag)(mg:Str->Option Value)(x:Str)(C fi:Addr):Prop where
 cl:MP K C
 m:mg x=⇑↥C
 Xn:Mk K C fi
structure Y4(K:PySem.W.Frag)(mg:Str->Option Value)(x:Str)(C:Addr):Prop where
 m:mg x=⇑↥C
 x:PySem.W.excIn K C [.type "ValueError",.type "Exception",.type "BaseException",.type "object"] "ValueError.__new__"=true
 h:PySem.W.exmOne K ↥C ↥C=⇑true
end fV
namespace fV
open L2 cD eY
section
variable {p:List Value->Prop}
theorem us0(h:p []):∀ us:List Value,↑us=0->p us:=λus e=>by rw[List.length_eq_zero_iff.mp e];exact h
def Xo{n:Nat}(h:∀ a (us:List Value),↑us=n->p (a::us)):∀ us:List Value,↑us=n+1->p us:=by
 intro us e
 cases us with
 | nil=>cases e
 | cons a us=>exact h a us (Nat.succ.inj e)
theorem us1(h:∀ a,p [a]):∀ us:List Value,↑us=1->p us:=Xo λa=>us0 (p:=λus=>p (a::us)) (h a)
theorem us2(h:∀ a b,p [a,b]):∀ us:List Value,↑us=2->p us:=Xo λa=>us1 (p:=λus=>p (a::us)) (h a)
theorem us3(h:∀ a b c,p [a,b,c]):∀ us:List Value,↑us=3->p us:=Xo λa=>us2 (p:=λus=>p (a::us)) (h a)
theorem us4(h:∀ a b c d,p [a,b,c,d]):∀ us:List Value,↑us=4->p us:=Xo λa=>us3 (p:=λus=>p (a::us)) (h a)
theorem us5(h:∀ a b c d e,p [a,b,c,d,e]):∀ us:List Value,↑us=5->p us:=Xo λa=>us4 (p:=λus=>p (a::us)) (h a)
theorem us6(h:∀ a b c d e f,p [a,b,c,d,e,f]):∀ us:List Value,↑us=6->p us:=Xo λa=>us5 (p:=λus=>p (a::us)) (h a)
end
section
variable {K:PySem.W.Frag} {mg:Str->Option Value} {h:Heap} {x cP:Str} {st:Stmt} {f C:Addr} {ps:List Str}
def DI.d(q:DI K x st f)(X:K.In h)(G:h.Ns mainGlobals mg)(b:∀ (kV vY pm:Value) (an:Option Addr) (cH ct:Value) (us:List Value),↑us=↑ps->bindArgs (fnOf x x (mL st) (ig st) (az st) .none kV vY pm an cH ct) ⟨us,[]⟩=pure (ps.zip us):=by intro _ _ _ _ _ _;first|exact us1 λ_=>rfl|exact us2 λ_ _=>rfl|exact us3 λ_ _ _=>rfl|exact us4 λ_ _ _ _=>rfl|exact us5 λ_ _ _ _ _=>rfl|exact us6 λ_ _ _ _ _ _=>rfl|exact us0 rfl):∃ fd,bX K mg x st ps f fd:=by
 let⟨a,l,c,k⟩:=q;have F:=HM l c k;exact⟨_,F,F.binds b,mg_of X G a⟩
def MI.d(q:MI K C x cP st f)(b:∀ (kV vY pm:Value) (an:Option Addr) (cH ct:Value) (us:List Value),↑us=↑ps->bindArgs (fnOf x cP (mL st) (ig st) (az st) .none kV vY pm an cH ct) ⟨us,[]⟩=pure (ps.zip us):=by intro _ _ _ _ _ _;first|exact us1 λ_=>rfl|exact us2 λ_ _=>rfl|exact us3 λ_ _ _=>rfl|exact us4 λ_ _ _ _=>rfl|exact us5 λ_ _ _ _ _=>rfl|exact us6 λ_ _ _ _ _ _=>rfl|exact us0 rfl):∃ fd,cI K C x cP st ps f fd:=by
 let⟨a,i,l,c,k⟩:=q;have F:=HM l c k;exact⟨_,F,F.binds b,⟨a,i,k⟩⟩
def CI.d(q:CI K x C)(X:K.In h)(G:h.Ns mainGlobals mg)(m:Nm K C "__init__" fi):ClsAt K mg x C fi:=by
 let⟨a,pg,hd,po,sa,mk,kc⟩:=q;let⟨a1,i1,k1⟩:=m;exact⟨⟨pg,hd,po,sa⟩,mg_of X G a,⟨mk,a1,i1,kc⟩⟩
def XI.d(q:XI K x C)(X:K.In h)(G:h.Ns mainGlobals mg):Y4 K mg x C:=by
 let⟨a,b,c⟩:=q;exact⟨mg_of X G a,b,c⟩
end
end fV
namespace cD
open Spec Rows L2
theorem tX{α β:Type}{F:α->β->Prop}:∀ {xs:List α} {ys:List β} {i:Nat} {x:α},Paired F xs ys->xs[i]?=⇑x->∃ y,ys[i]?=⇑y/\F x y
 | _,_,_,_,.nil,e=>by simp at e
 | _,_,0,_,.cons r _,e=>by simp at e;subst e;exact⟨Y,r⟩
 | _,_,i+1,x,.cons _ t,e=>by
  let⟨y,h1,h2⟩:=tX (i:=i) (x:=x) t (by simpa using e);exact⟨y,by simpa using h1,h2⟩
theorem xH{α β:Type}{F:α->β->Prop}:∀ {xs:List α} {ys:List β} {i:Nat} {y:β},Paired F xs ys->ys[i]?=⇑y->∃ x,xs[i]?=⇑x/\F x y
 | _,_,_,_,.nil,e=>by simp at e
 | _,_,0,_,.cons r _,e=>by simp at e;subst e;exact⟨Y,r⟩
 | _,_,i+1,y,.cons _ t,e=>by
  let⟨x,h1,h2⟩:=xH (i:=i) (y:=y) t (by simpa using e);exact⟨x,by simpa using h1,h2⟩
section
variable {X:Cx} {N:List Str} {scope:Scope} {cl:List (Str × Addr)} {C:Addr} {s₀:Shared} {H₀:Hp} {ex:List Addr} {pn:List (Addr × Obj)} {e:Expr} {ta:TE} {f:Str} {pos:Pos}
theorem Kd(he:PE (iR X N scope cl C s₀ H₀ ex pn) e ta)(hb:attributeBase e f (iR X N scope cl C s₀ H₀ ex pn).env (eval e (iR X N scope cl C s₀ H₀ ex pn).env)=eval e (iR X N scope cl C s₀ H₀ ex pn).env):PE (iR X N scope cl C s₀ H₀ ex pn) (.Attribute e f pos) (Yj X.K ta f):=cU he hb
end
end cD
namespace cD
open Spec Rows L2 fV xX
def VD(td ty tx:TE):TE:=fun σ H Q=>td σ H λx H1=>∃ a,x=↥a/\IsD H1 a/\ty σ H1 λy H2=>tx σ H2 λz H3=>∃ kvs k,H3 a=⇑(.dK kvs)/\y=kV k/\↑kvs<sizeLine/\
 (∀ v,cz kvs k=⇑v->Q v H3)/\(cz kvs k=none->Q z (aO H3 a (.dK (ef kvs k z))))
def OH{X:Cx}{e f:Expr}{td ty tx:TE}(ho:PE X o td)(he:PE X e ty)(hf:PE X f tx)(m:M2 X o "setdefault" kY e f mG):PE X (.Call (.Attribute o "setdefault" kY) [e,f] [] mG) (VD td ty tx):=by
 intro ak s σ H Q I h;refine wpAny_Call_method m.zt m.few m.line PySem.F.plainAttrs_dict PySem.F.slot_dict_setdefault PySem.F.type_dict_setdefault (cL (ho ak s σ H _ I h) λu s1 AG=>?_);let⟨x,H1,I1,rx,a,ex,d,q1⟩:=AG;subst ex;obtain rfl:u=Value.ref a:=rx;let⟨t1,t2,_⟩:=Vw I1 d;exists t1,t2;rw[m.trees]
 refine Calls.callWith_builtin rfl (Calls.evalArgs_plain (Calls.spliced_cons (cL (he ak s1 σ H1 _ I1 q1) λiv s2 ⟨y,H2,I2,ry,q2⟩ =>
  Calls.spliced_cons (cL (hf ak s2 σ H2 _ I2 q2) λfv s3 ⟨z,H3,I3,rz,kvs,k,ea,ey,cX,g1,g2⟩=>Calls.spliced_nil ?_))))
 subst ey;let⟨hz,hd,vs,xD,dd⟩:=Oo I3.hok ea;have len:=↑xD;refine call_meetsIn PySem.F.slot_dict_setdefault dd.typeIs PySem.F.entry_dict_setdefault (PySem.F.args_dict_setdefault_3 _ _ _) (kt_meets_setdefault (fO X.prog X.w) a (BN ry) hd fv) ⟨vs,dd,E,λv hv=>?_,λhn h' Qp hs=>?_⟩
 ·have r:=xD.val k;rw[hv]at r
  cases ev:cz kvs k with
  | none=>rw[ev]at r;exact (show False from r).elim
  | some w =>
   rw[ev]at r;exact⟨w,H3,I3.tok _,r,g1 w ev⟩
 ·have r:=xD.val k;rw[hn]at r
  cases ev:cz kvs k with
  | some w=>rw[ev]at r;exact (show False from r).elim
  | none =>
   have hl:↑(ef kvs k z)<=sizeLine:=by have:=gS kvs k z;lia
   have he':∃ q,h'.get? a=⇑q:=let ⟨q,Q,hq,_⟩:=Qp;⟨q,hq⟩;exact⟨z,_,yF I3 (by rw[ea];exact True.intro) hs he' (Ig hl hd (xD.put k rz) Qp),rz,g2 ev⟩
end cD
namespace cD
open Spec Rows L2
end cD
namespace cD
open Spec Rows L2 fV xX
end cD
namespace eY
open Spec Rows PySem.W L2
end eY
namespace cD
open Spec Rows L2 eY
def AB(c:Nat):V:=.str ⟨#[c]⟩
def dP(cs:List Nat):Str:=⟨cs.toArray⟩
def qC(x:Str):dP x.cps.toList=x:=by cases x;rfl
def ly(cs:List Nat):↑(dP cs)=↑cs:=by show (cs.toArray).size=_;simp
def RM{a b:List Nat}(h:dP a=dP b):a=b:=by
 have e:=congrArg (λx:Str=>x.cps.toList) h;simpa [dP] using e
theorem Ke:∀ {cs:List Nat} {us:List Value},bZ (cs.map AB) us->StrsAre us (cs.map λc=>(⟨#[c]⟩:Str))
 | [],_,.nil=>.nil
 | c::cs,_,.cons ⟨t,e⟩ r=>by
  subst e;exact .cons _ t (Ke r)
def Iz(cs:List Nat):Txt.join (Str.ofString "") (cs.map λc=>(⟨#[c]⟩:Str))=dP cs:=by
 have e:Txt.join (Str.ofString "") (cs.map λc=>(⟨#[c]⟩:Str))=Str.join (Str.ofString "") (cs.map λc=>(⟨#[c]⟩:Str)):=by
  have z:=join_plain_closes (Str.ofString "") (cs.map λc=>(⟨#[c]⟩:Str));exact beq_iff_eq.mp z
 rw[e];have em:(Str.ofString "")=(⟨#[]⟩:Str):=by decide +kernel
 rw[em];clear e em
 induction cs with
 | nil=>rfl
 | cons c cs ih =>
  cases cs with
  | nil=>rfl
  | cons d cs =>
   rw[jh]at ih;have s:Str.join ⟨#[]⟩ ((c::d::cs).map λc=>(⟨#[c]⟩:Str))=Str.append (Str.append ⟨#[c]⟩ ⟨#[]⟩) (Str.join ⟨#[]⟩ ((⟨#[d]⟩:Str)::cs.map λc=>(⟨#[c]⟩:Str))):=rfl;rw[s,ih];show (⟨(#[c]++#[])++(d::cs).toArray⟩:Str)=⟨(c::d::cs).toArray⟩;simp
theorem B0:∀ cs:List Nat,(cs.map ((λx:Str=>↑x) ∘ λc=>(⟨#[c]⟩:Str))).sum=↑cs
 | []=>rfl
 | c::cs=>by rw[jh,List.sum_cons,B0 cs,jS];show 1+_=_;lia
theorem all_range:∀ bs:List Bool,(List.range ↑bs).all (λi=>bs.getD i false)=bs.all id
 | []=>rfl
 | b::bs=>by
  rw[jS,List.range_succ_eq_map,List.all_cons,List.all_map,List.all_cons,← all_range bs];rfl
section
variable {X:Cx}
def AL(hc:X.calm=true):jF X (.type "list") (λxs H Q=>∃ cs:List Nat,xs=[.str (dP cs)]/\↑cs<=sizeLine/\∀ l,H l=none->Q ↥l (aO H l (.lst (cs.map AB)))):=by
 intro ak s σ H xs us Q I r h;let⟨cs,rfl,hz,q⟩:=h;let⟨u,rfl,t,rfl⟩:=r.one;refine call_list_str (I.ok.hd hc) (dP cs) t (hn:=by show cs.toArray.size<=_;simpa using hz) λh' tk pX c' hk hS cu=>?_;refine⟨↥s.heap.objs.size,_,I.laid (o:=.lst (cs.map AB)) (t':=tk) hk (fK _) ⟨by rw[bW];exact hz,pX.toList,c',?_,by simpa using hS⟩,rfl,q _ (I.hok.fresh (fK _))⟩
 have key:∀ (cs:List Nat) (us:List Value),↑us=↑cs->(∀ (j:Nat) (v:Value),us[j]?=⇑v->∃ c u,cs[j]?=⇑c/\v=Value.str ⟨#[c]⟩ u)->bZ (cs.map AB) us:=by
  intro cs
  induction cs with
  | nil=>intro us hl _;cases us with
   | nil=>exact .nil
   | cons=>simp at hl
  | cons c cs ih=>intro us hl hp;cases us with
   | nil=>simp at hl
   | cons u us =>
    let⟨c',t',e1,e2⟩:=hp 0 u rfl;refine .cons ?_ (ih us (by simpa using hl) λj v e=>by simpa using hp (j+1) v (by simpa using e));have:c=c':=by simpa using e1
    subst this;exact⟨t',e2⟩
 refine key cs pX.toList (by have:=cu.1;simpa [dP] using this) λj v e=>?_;let⟨c,u,e1,e2⟩:=cu.2 j v (by simpa using e);exact⟨c,u,by simpa [dP] using e1,e2⟩
def FD:U0 X "str.join" (λx xs H Q=>∃ (l:Addr) (cs:List Nat),x=.str ""/\xs=[↥l]/\H l=⇑(.lst (cs.map AB))/\↑cs<=1000000/\Q (.str (dP cs)) H):=by
 intro ak s σ H x xs v us Q I rx rs h;let⟨l,cs,rfl,rfl,hl,hz,q⟩:=h;let⟨t,rfl⟩:=rx;let⟨u,rfl,ru⟩:=rs.one;cases (show u=Value.ref l from ru);let⟨aQ,rv,pl,_⟩:=I.list (bG.of (K:=X.K) hl);refine join_list pl.isList (Ke rv) ?_ λt' k=>?_
 ·rw[List.map_map];have e1:↑(Str.ofString "")=0:=by decide +kernel
  have e2:=B0 cs;rw[e1,e2];lia
 ·rw[Iz];exact⟨.str (dP cs),H,I.tok _,⟨t',rfl⟩,q⟩
def LP(hc:X.calm=true):jF X (.builtin "all") (λxs H Q=>∃ (p:Addr) (bs:List Bool),xs=[↥p]/\bG X.K H p (bs.map V.bl)/\Q (.bl (bs.all id)) H):=by
 intro ak s σ H xs us Q I r h;let⟨p,bs,rfl,hq,q⟩:=h;let⟨u,rfl,rx⟩:=r.one;cases (show u=Value.ref p from rx);let⟨aQ,rv,pl,hz⟩:=I.list hq;have len:=↑rv;rw[bW]at len;have xx:=pl.isList
 have plt:p<s.heap.objs.size:=by
  let⟨o,ho,_⟩:=xx;exact Heap.lt_size ho
 refine call_all_walk (wpAny_pyIter_list xx ?_);refine⟨s.heap.objs.size,[s.heap.objs.size,p],[s.heap.objs.size],aQ.toArray.size,Q,λi=>bs.getD i false,rfl,Walks.list (A:=X.A.in1) (I.ok.hd hc) s.heap.objs.size p (jC plt) aQ.toArray,⟨⟨_,Heap.get?_push_size _ rfl,V⟩,xx.at λo e=>Heap.get?_push_of_some _ e⟩,λi v s' Q' E' hP hQ=>?_,λh' tk hk=>?_⟩
 ·have hv:aQ[i]?=⇑v:=by simpa using hP
  let⟨x,ex,er⟩:=xH rv hv;rw[kU]at ex;let⟨b,eb,rfl⟩:=Option.map_eq_some_iff.mp ex;cases (show v=Value.bool b from er);refine wpAny_truthy_bool ?_;have e:bs.getD i false=b:=by rw[List.getD_eq_getElem?_getD,eb];rfl
  have hQ':Q' (bs.getD i false) s':=hQ;rw[e]at hQ';exact hQ'
 ·have e:(List.range aQ.toArray.size).all (λi=>bs.getD i false)=bs.all id:=by
   rw[gG,← len];exact all_range bs
  rw[e];exact⟨.bl (bs.all id),H,I.kept λb o e=>hk b o (λz=>by rw[List.mem_singleton.mp z]at e;exact absurd (Heap.lt_size e) (Nat.lt_irrefl _)) (Heap.get?_push_of_some _ e),rfl,q⟩
def OI(r r' r2:R2)(ta tb tc td:TE):TE:=fun σ H Q=>ta σ H λx H1=>tb σ H1 λy H2=>r x y H2 λz H3=>∃ k,z=.bl k/\
 (if k=true then tc σ H3 λu H4=>r' y u H4 λz' H5=>∃ k',z'=.bl k'/\(if k'=true then td σ H5 λv H6=>r2 u v H6 Q else Q (.bl false) H5) else Q (.bl false) H3)
theorem LQ{op G5 Vs:CmpOp}{r r' r2:R2}{a b c d:Expr}{ta tb tc td:TE}(ho:sV X (compareOp op) r)(KR:sV X (compareOp G5) r')(ho2:sV X (compareOp Vs) r2)(ha:PE X a ta)(hb:PE X b tb)(hc:PE X c tc)(hd:PE X d td)
  (hm:lastMarks [op,G5,Vs] [b,c,d]=false:=by with_unfolding_all rfl):PE X (.Compare a [op,G5,Vs] [b,c,d] pos) (OI r r' r2 ta tb tc td):=by
 intro ak s σ H Q I h
 refine Compare_chain (cL (ha ak s σ H _ I h) λv s1 ⟨x,H1,I1,r1,q1⟩=>chain_link (cL (hb ak s1 σ H1 _ I1 q1) λu s2 ⟨y,H2,I2,r2',q2⟩ =>
  cL (ho ak s2 σ H2 x y v u _ I2 r1 r2' q2) λz s3 ⟨z',H3,I3,r3,k,e,q3⟩=>?_)) hm
 subst e;cases r3;refine wpAny_truthy_bool ?_
 cases k with
 | false=>exact ite_ff ⟨.bl false,H3,I3,rfl,q3⟩
 | true =>
  refine ite_tt (chain_link (cL (hc ak s3 σ H3 _ I3 q3) λv4 s4 ⟨x4,H4,I4,r4,q4⟩=>cL (KR ak s4 σ H4 y x4 u v4 _ I4 r2' r4 q4) λz5 s5 EN=>?_));let⟨x5,H5,I5,r5,k5,e5,q5⟩:=EN;subst e5;cases r5;refine wpAny_truthy_bool ?_
  cases k5 with
  | false=>exact ite_ff ⟨.bl false,H5,I5,rfl,q5⟩
  | true=>exact ite_tt (chain_last (cL (hd ak s5 σ H5 _ I5 q5) λv6 s6 ⟨x6,H6,I6,r6,q6⟩=>ho2 ak s6 σ H6 x4 x6 v4 v6 Q I6 r4 r6 q6))
end
def Its(cs:List Nat):It:=⟨λi _=>i<↑cs,λi H x H'=>H'=H/\∃ c,cs[i]?=⇑c/\x=AB c,λi _=>i=↑cs⟩
theorem FE{P:Program}{w:World}{K:PySem.W.Frag}{it:Addr}{cs:List Nat}{t:Tok}{ty:String}(W:∀ A':Around,A'.handled=none->Walks P w A' it [it] [it] (dP cs).cps.size (SignAt (dP cs)) (λi h=>h.IsStrIter it ty (dP cs) t i))
  (hs:∀ (A:Around) (i:Nat) (s:Shared) (Q:Value->Shared->Prop) (E:Value->Shared->Prop),s.heap.IsStrIter it ty (dP cs) t i->Q ↥it s->wpAny (model P w) A (pyIter ↥it) Q E s)
  (hn:["enumerate","zip","dict_itemiterator","dict_reverseitemiterator","odict_iterator","itertools.zip_longest","itertools.pairwise"].contains ty=false):Hs P w K tg (Its cs) [it] it (λi h=>h.IsStrIter it ty (dP cs) t i) where
 mem:=by simp
 obj:=λi h st b hb=>by
  have e:b=it:=by simpa using hb
  subst e;let⟨o,e,c,d⟩:=st;exact⟨o,e,λv z=>by rw[d]at z;cases z⟩
 keep:=λi h h' st k=>by
  let⟨o,e,r⟩:=st;exact⟨o,k it (by simp) o e,r⟩
 item:=by
  intro X hP hw hK hc i ak s σ H E I hf st hg;subst hP hw hK;let⟨f0,f1,f2,f3,f4,f5⟩:=hf it (by simp)
  have hi:i<(dP cs).cps.size:=by
   show i<cs.toArray.size;rw[gG];exact hg
  refine (W X.A (I.ok.hd hc)).item i s _ _ hi st λv h' tk hv CP kk=>?_;let⟨c,u,ec,rfl⟩:=hv;have I1:Inv X ak σ H { s with heap:=h',toks:=tk }:=I.turned (λb o hb e=>kk b o (by simpa using hb) e) f0 f1 f3 f4 f5;let⟨oi,ei,ci,di⟩:=id CP;exact⟨Y,EU (s:={ s with heap:=h',toks:=tk }) ei ci di hn ⟨AB c,H,I1,⟨u,rfl⟩,⟨rfl,c,by simpa [dP] using ec,rfl⟩,CP,λb hb=>(hf b hb).1⟩⟩
 done:=by
  intro X hP hw hK hc i ak s σ H E I hf st hg;subst hP hw hK;let⟨f0,f1,f2,f3,f4,f5⟩:=hf it (by simp)
  have e:i=(dP cs).cps.size:=by
   show i=cs.toArray.size;rw[gG];exact hg
  rw[e]at st;exact (W X.A (I.ok.hd hc)).done s _ _ st λh' tk kk=>⟨rfl,I.turned (λb o hb e=>kk b o (by simpa using hb) e) f0 f1 f3 f4 f5⟩
 self:=hs
def adE(tl:TE):TI:=fun σ H R=>tl σ H λx H1=>∃ cs,x=.str (dP cs)/\R (Its cs) H1
def OJ{X:Cx}{l:Expr}{tl:TE}(hl:PE X l tl):PI X tg l (adE tl):=by
 intro ak s σ H R I h;refine cL (hl ak s σ H _ I h) λv s1 EO=>?_;let⟨x,H1,I1,r1,q1⟩:=EO;let⟨cs,e,q⟩:=q1;subst e;let⟨t,rfl⟩:=r1
 have fp:∀ b∈[s1.heap.objs.size],oJ X ak H1 b:=λb hb=>by
  have e:b=s1.heap.objs.size:=by simpa using hb
  subst e;exact I1.KU (fK _) (I1.hok.fresh (fK _))
 cases ha:(dP cs).cps.all (·<128) with
 | true=>exact wpAny_pyIter_ascii ha ⟨s1.heap.objs.size,[s1.heap.objs.size],Q,H1,rfl,I1.kept (t':=s1.toks) λb o e=>Heap.get?_push_of_some _ e,FE (t:=t) (λA' hA=>Walks.strAscii hA _ _ t) (λ_ _ _ _ _ st h=>wpAny_pyIter_striter_ascii st h) (by decide),⟨_,Heap.get?_push_size _ rfl,V⟩,fp,q⟩
 | false=>exact wpAny_pyIter_wide ha ⟨s1.heap.objs.size,[s1.heap.objs.size],Q,H1,rfl,I1.kept (t':=s1.toks) λb o e=>Heap.get?_push_of_some _ e,FE (t:=t) (λA' hA=>Walks.strWide hA _ _ t) (λ_ _ _ _ _ st h=>wpAny_pyIter_striter_wide st h) (by decide),⟨_,Heap.get?_push_size _ rfl,V⟩,fp,q⟩
theorem B3{cs:List Nat}{g:TG}{tt:TT}{te:TE}{σ0:L2.St}{H:Hp}{Q:VK}(Pv:Nat->L2.St->Hp->Prop)(h0:Pv 0 σ0 H)
  (hs:∀ (i:Nat) c σ H,cs[i]?=⇑c->Pv i σ H->g (AB c) σ H fun σ2 H2=>tt σ2 H2 λb H3=>if b=true then te σ2 H3 λv H4=>∃ ys,H4 acc=⇑(.lst ys)/\↑ys<sizeLine/\Pv (i+1) σ2 (aO H4 acc (.lst (ys++[v]))) else Pv (i+1) σ2 H3)
  (hd:∀ σ H,Pv ↑cs σ H->Q ↥acc H):yG (Its cs) acc g tt te σ0 H Q:=by
 refine⟨λi m σ H=>m=↑cs-i/\i<=↑cs/\Pv i σ H,⟨↑cs,by simp,Nat.zero_le _,h0⟩,?_⟩;rintro i m σ H ⟨rfl,hi,p⟩;by_cases pJ:i<↑cs
 ·refine .inr ⟨pJ,Pv (i+1),fun σ' H' p'=>⟨↑cs-(i+1),E,rfl,pJ,p'⟩,λx H' y=>?_⟩;let⟨e,c,y,ex⟩:=y;subst e ex;exact hs i c σ _ y p
 ·have e:i=↑cs:=by lia
  subst e;exact .inl ⟨rfl,hd σ H p⟩
end cD
namespace cD
open Spec Rows L2 eY fV
section
variable {X:Cx}
def Dr(a b:List Nat):dP a++dP b=dP (a++b):=by
 show (⟨a.toArray++b.toArray⟩:Str)=⟨(a++b).toArray⟩;simp
end
end cD
namespace tY
end tY
namespace tY
open Spec Rows
end tY
namespace tY
open Spec Rows
end tY
namespace tY
open Spec Rows
end tY
namespace tY
open Spec Rows
end tY
namespace tY
open Spec Rows
end tY
namespace tY
open Spec Rows
end tY
namespace tY
open Spec Rows L2
end tY
namespace gB
open Spec Rows L2 cD Builtin Builtin.Str
def pB(cs:List Nat):(dP cs).cps.toList=cs:=by simp[dP]
def jn(c:Nat):jb->List Nat
 | []=>[]
 | [x]=>x
 | x::y::r=>x++c::jn c (y::r)
theorem OL(c:Nat):∀ ps:jb,Str.join ⟨#[c]⟩ (ps.map dP)=dP (jn c ps)
 | []=>rfl
 | [x]=>rfl
 | x::y::r=>by
  show dP x++⟨#[c]⟩++Str.join ⟨#[c]⟩ ((y::r).map dP)=_;rw[OL c (y::r)];refine ext_toList ?_;rw[pB];show ((dP x).cps++#[c]++(dP (jn c (y::r))).cps).toList=_;rw[Array.toList_append,Array.toList_append,pB,pB];simp[jn]
end gB
namespace gB
open Spec Rows L2 cD Builtin Builtin.Str
section
variable {X:Cx}
theorem B4:∀ {ys:List Str} {us:List Value},bZ (ys.map V.str) us->StrsAre us ys
 | [],_,.nil=>.nil
 | _::_,_,.cons r t=>by
  let⟨t',rfl⟩:=r;exact .cons _ t' (B4 t)
def FF:U0 X "str.join" (λx xs H Q=>∃ (l:Addr) (c:Nat) (ps:jb),x=.str ⟨#[c]⟩/\xs=[↥l]/\H l=⇑(.lst (ps.map λw=>V.str (dP w)))/\(ps.map List.length).sum+↑ps<=1000000/\Q (.str (dP (jn c ps))) H):=by
 intro ak s σ H x xs v us Q I rx rs h;let⟨l,c,ps,rfl,rfl,hl,hz,q⟩:=h;let⟨t,rfl⟩:=rx;let⟨u,rfl,ru⟩:=rs.one;cases (show u=Value.ref l from ru);let⟨aQ,rv,pl,_⟩:=I.list (bG.of (K:=X.K) hl);have rv':bZ ((ps.map dP).map V.str) aQ:=by rw[List.map_map];exact rv
 refine join_list pl.isList (B4 rv') ?_ λt' k=>?_
 ·rw[List.map_map,bW];have e1:↑(⟨#[c]⟩:Str)=1:=rfl;have e2:ps.map ((λx:Str=>↑x) ∘ dP)=ps.map List.length:=List.map_congr_left λp _=>ly p;rw[e1,e2];lia
 ·have e:Txt.join ⟨#[c]⟩ (ps.map dP)=dP (jn c ps):=by
   show glued _ _=_;rw[StrLaws.glued_eq_join,OL]
  rw[e];exact⟨.str (dP (jn c ps)),H,I.tok _,⟨t',rfl⟩,q⟩
abbrev TJV:=L2.St->Hp->Str->(Str->Hp->Prop)->Prop
def Xp(X:Cx)(es:List Expr)(m:Nat)(t:TJV):Prop:=∀ (ak:List (Addr × Obj)) (s:Shared) (σ:L2.St) (H:Hp) (tS:Str) (Q:Str->Hp->Prop),L2.Inv X ak σ H s->t σ H tS Q->↑tS+m<=1000000->
 wpAny (model X.prog X.w) X.A (joinParts tS (evalEach es X.env)) (λu s'=>∃ x tk H',u=.str x tk/\L2.Inv X ak σ H' s'/\Q x H') X.xe s
theorem RN:Xp X [] 0 (λ_ H tS Q=>Q tS H):=λak s σ H tS Q I h hl =>
 joinParts_nil ⟨tS,_,H,rfl,I.tok _,h⟩ (iC (Nat.lt_of_le_of_lt hl (by decide)))
def RO{x:Str}{j:Nat}{es:List Expr}{m:Nat}{t:TJV}(h:Xp X es m t):Xp X (.Constant (.str x) j pos::es) (↑x+m) (fun σ H tS Q=>t σ H (tS++x) Q):=by
 intro ak s σ H tS Q I q hl;refine joinParts_consE (joinParts_cons (Calls.Constant_str ?_));have z:=eY.yE (y:=x) hl (fK _);exact⟨z.1,h ak _ σ H _ Q (I.tok _) q z.2⟩
def Kf{e:Expr}{te:TE}{es:List Expr}{m:Nat}{t:TJV}(he:PE X e te)(h:Xp X es m t):Xp X (.FormattedValue e (-1) none pos::es) (1921+m) (fun σ H tS Q=>te σ H λv H1=>∃ i:Int,v=.int i/\i.natAbs.log2<1920/\t σ H1 (tS++Str.ofString (toString i)) Q):=by
 intro ak s σ H tS Q I q hl;refine joinParts_consE (joinParts_cons (FormattedValue_plain (cL (he ak s σ H _ I q) λv s1 AF=>?_)));let⟨x,H1,I1,r1,i,e1,hi,q1⟩:=AF;subst e1;let⟨tk,rfl⟩:=r1;refine formatField_int_small hi ?_;have z:=eY.yE (y:=Str.ofString (toString i)) hl (int_text_len_1921 hi);exact⟨z.1,h ak _ σ H1 _ Q (I1.tok _) q1 z.2⟩
def OM{m:Nat}{t:TJV}(h:Xp X (v1::v2::sQ) m t)(hm:m<=1000000:=by decide +kernel):PE X (.JoinedStr (v1::v2::sQ) pos) (fun σ H Q=>t σ H Str.empty λx H1=>Q (.str x) H1):=by
 intro ak s σ H Q I q;refine JoinedStr_many (cL (h ak s σ H Str.empty _ I q (by show 0+m<=_;lia)) λu s1 EM=>?_);let⟨x,tk,H1,e,I1,q1⟩:=EM;subst e;exact⟨.str x,H1,I1,⟨Y⟩,q1⟩
end
end gB
namespace gB
open Spec Rows L2 cD Builtin Builtin.Str
def AM(cs:List Nat)(lo hi:Option Int):List Nat:=(cs.drop (HT.gv ↑cs 0 lo)).take (HT.gv ↑cs ↑cs hi-HT.gv ↑cs 0 lo)
def FG(lo hi:Option Int)(n:Nat):strSliceIndices lo hi 1 n=(List.range (HT.gv n n hi-HT.gv n 0 lo)).map (HT.gv n 0 lo+·):=by
 let⟨h1,h2,h3⟩:=uD lo hi n;have e:strSliceIndices lo hi 1 n=sliceRange (sliceBounds lo hi none n).1 (sliceBounds lo hi none n).2.1 1:=rfl;rw[e,h1,h2,sliceRange_one]
def VE{X:Cx}:SlR X (λx lo hi H Q=>∃ cs:List Nat,x=.str (dP cs)/\↑cs<=1000000/\Q (.str (dP (AM cs lo hi))) H):=by
 intro ak s σ H x v vl vu lo hi sl Q I rx hs pl pu h;let⟨cs,rfl,hz,q⟩:=h;let⟨t,rfl⟩:=rx;exists "str",_,F.slot_str_getitem.lookup,typeIs_str _ _ _
 obtain⟨l,rfl,el⟩:∃ l:Option (Int × Tok),vl=partValue l/\l.map (·.1)=lo:=by
  cases pl with
  | none=>exact⟨none,V⟩
  | int i t=>exact⟨⇑(i,t),V⟩
 obtain⟨u,rfl,eu⟩:∃ u:Option (Int × Tok),vu=partValue u/\u.map (·.1)=hi:=by
  cases pu with
  | none=>exact⟨none,V⟩
  | int i t=>exact⟨⇑(i,t),V⟩
 refine wpAny_getItem_str_slice (l:=l) (u:=u) (st:=none) hs rfl ?_
 have ep:slicePicked (dP cs) l u none=(List.range (HT.gv ↑cs ↑cs hi-HT.gv ↑cs 0 lo)).map (HT.gv ↑cs 0 lo+·):=by
  unfold slicePicked;rw[el,eu,ly];exact FG lo hi ↑cs
 have ec:((slicePicked (dP cs) l u none).filterMap ((dP cs).cps[·]?))=AM cs lo hi:=by
  rw[ep];unfold AM;have:∀ i,(dP cs).cps[i]?=cs[i]?:=λi=>by rw[← Array.getElem?_toList,pB]
  simp only[this];have z:=pick_run cs.toArray (HT.gv ↑cs 0 lo) (HT.gv ↑cs ↑cs hi-HT.gv ↑cs 0 lo);simpa using z
 unfold sliceMade;split
 ·rename_i hc
  have e2:AM cs lo hi=cs:=by
   rw[ep]at hc;simp only[bW,List.length_range,Bool.and_eq_true,beq_iff_eq,ly]at hc;unfold AM;have:=hc.2
   have a1:HT.gv ↑cs 0 lo=0:=by
    have:HT.gv ↑cs ↑cs hi<=↑cs:=by
     cases hi with
     | none=>exact fK _
     | some k =>
      simp only[HT.gv]
      split <;> lia
    have:HT.gv ↑cs 0 lo<=↑cs:=by
     cases lo with
     | none=>exact Nat.zero_le _
     | some k =>
      simp only[HT.gv]
      split <;> lia
    lia
   rw[a1,List.drop_zero,yM ∅]
  rw[e2]at q;exact⟨.str (dP cs),H,I,⟨t,rfl⟩,q⟩
 ·exists ?_
  ·show (((slicePicked (dP cs) l u none).filterMap ((dP cs).cps[·]?)).toArray).size<=sizeLine;rw[ec,gG];unfold AM;rw[gx,sP];exact jf (show _<=1000000 by lia) (by decide)
  ·rw[ec];exact⟨.str (dP (AM cs lo hi)),H,I.tok _,⟨Y⟩,q⟩
end gB
namespace gB
open Spec Rows L2 cD Builtin Builtin.Str fV
def dg(n:Int):List Nat:=(Nat.toDigits 10 n.toNat).map Char.toNat
def yJ{n:Int}(h:0<=n):Str.ofString (toString n)=dP (dg n):=by
 refine ext_toList ?_;rw[pB];obtain⟨m,rfl⟩:∃ m:Nat,n=(m:Int):=⟨n.toNat,E⟩;exact PySem.W.KIN.signs_num m
def IA{n:Int}(h0:0<=n)(h1:n<10^60):↑(dg n)<=60:=by
 have:=toString_length_le h0 (k:=60) (by decide) h1;rw[yJ h0,ly]at this;exact this
end gB
namespace ON
open Spec Rows PySem.W L2 cD eY
end ON
namespace ON
open Spec Rows PySem.W L2 cD eY
end ON
namespace gB
open Spec Rows L2 cD Builtin Builtin.Str fV
end gB
namespace ON
open Spec Rows PySem.W L2 cD eY
end ON
namespace zI
open Spec Rows L2 cD eY fV
end zI
namespace zI
open Spec Rows L2 cD eY fV PySem.W
section
variable {X:Cx}
def Y5{e:Expr}{te:TE}(he:PE X e te):PE X (.JoinedStr [.FormattedValue e (-1) none pos] iJ) (fun σ H Q=>te σ H λv H1=>(∃ i:Int,v=.int i/\i.natAbs.log2<1920/\Q (.str (Str.ofString (toString i))) H1)\/∃ cs:List Nat,v=.str (dP cs)/\↑cs<=100000/\Q (.str (dP cs)) H1):=by
 intro ak s σ H Q I q;refine JoinedStr_one (FormattedValue_plain (cL (he ak s σ H _ I q) λv s1 AG=>?_));let⟨x,H1,I1,r1,h1⟩:=AG;rcases h1 with ⟨i,rfl,hi,q1⟩|⟨cs,rfl,hc,q1⟩
 ·let⟨tk,rfl⟩:=r1;exact formatField_int_small hi ⟨.str _,H1,I1.tok _,⟨Y⟩,q1⟩
 ·let⟨tk,rfl⟩:=r1;exact formatField_str (λt' k=>⟨.str _,H1,I1.tok _,⟨Y⟩,q1⟩) (by rw[ly];exact jf hc (by decide))
end
end zI
namespace zI
open Spec Rows L2 cD eY fV gB Builtin Builtin.Str
end zI
namespace zI
open Spec Rows L2 cD Builtin Builtin.Str fV
end zI
namespace eY
open Spec Rows PySem.W L2
section
variable {X:Cx} {ak:List (Addr × Obj)} {σ:L2.St} {H:Hp} {s:Shared} {a:Addr}
variable {x m:Str} {st:Stmt} {ps:List Str} {f C:Addr} {fd:FuncData} {j k:Nat} {sp:Sp} {e o:Expr} {es:List Expr} {ta:TE} {t:TA} {p kY pos:Pos} {pl:Sem Bool}
variable {te:TEx} {i:Nat} {z:Str} {iJ:Pos} {c:Expr} {tc:TT} {tx ty:TSx} {a b:Stmt} {hs:List Hd}
theorem uV{y:Str}(d:fV.bX X.K X.mg x st ps f fd)(hm:X.mg y=⇑↥f)(G:aX X.prog X.w X.K X.mg X.zt cO k f fd ps sp)(hr:gK j X.A)
  (ha:PA X (e::es) t) (Lp:k<=j:=by first|decide|lia) (hg:Gl X y:=by rfl) (yZ:(y == ("__debug__":Str))=false:=by decide) (he:starEach (e::es) X.env=(false,eval e X.env)::starEach es X.env:=by rfl)
  (xx:(backTo pos (starEach es X.env)).any (·.1)=false:=by rfl):PE X (.Call (.Name y p) (e::es) [] pos) (EV sp [] E0 t) :=
 CU G (hr.mono Lp) hg hm d.F.kp d.b .nil bS ha yZ he xx
end
end eY
namespace pC
open Spec Rows PySem.W L2 cD eY
end pC
namespace pC
open Spec Rows PySem.W L2 cD eY
open Builtin Builtin.ObjectAttr
end pC
namespace pC
open Spec Rows PySem.W L2 cD eY
open Builtin Builtin.ObjectAttr
end pC
namespace pC
open Spec Rows PySem.W L2 cD eY
end pC
namespace pC
open Spec Rows PySem.W L2 cD eY
open Builtin Builtin.ObjectAttr
end pC
namespace pC
open Spec Rows PySem.W L2 cD eY
end pC
namespace pC
open Spec Rows PySem.W L2 cD eY
end pC
namespace pC
open Spec Rows PySem.W L2 cD eY
end pC
namespace pC
open Spec Rows PySem.W L2 cD eY
end pC
namespace pC
open Spec Rows PySem.W L2 cD eY
end pC
namespace fV
open Spec Rows L2 cD eY xX
theorem fC{N P:List Str}{sc:Scope}(a:sc.kind=.function:=by rfl)(b:sc.isCoroutine=false:=by rfl)(c:sc.isGenerator=false:=by rfl)(d:N.Nodup:=by decide +kernel)(e:N.take ↑P=P:=by rfl)(f:∀ x∈P,sc.names.lookup x=⇑.local\/sc.names.lookup x=⇑.cell:=by decide +kernel)(g:∀ y∈sc.names,y.2≠.free:=by decide +kernel):aG N P sc:=⟨a,b,c,d,e,f,g⟩
section
variable {P:Program} {w:World} {K:PySem.W.Frag} {mg:Str->Option Value} {zt:Heap}
theorem fX{x cP:Str}{st:Stmt}{f:Addr}{N ps:List Str}{k:Nat}{sp:Sp}(F:NL K x cP st f fd)(S:aG N ps (az st))
  (uA:∀ (cH:Value) (A:Around) (zn:List Env) (s:Shared) (H:Hp) (vs:List V) (Q:VK) (E:XK),gK k (A.deeper (envOfC cP (az st) s.heap.objs.size f cH))->sp vs H Q E->
   ∃ t,EA (EW cO P w K mg zt N cP (az st) f cH A zn s H E).Hq (ig st) t/\t { nx:=λ_ H'=>Q .gj H',rt:=Q } (L2.start N vs) H) (len:∀ vs H Q E,sp vs H Q E->↑vs=↑ps:=by intro _ _ _ _ h;cases h;subst_vars;rfl):aX P w K mg zt cO (k+1) f fd ps sp:=F.ok S len uA
theorem Xq{x cP:Str}{st:Stmt}{f:Addr}{N ps:List Str}{k:Nat}{sp:Sp}(F:NL K x cP st f fd)(S:aG N ps (az st))
  (uA:∀ (cH:Value) (A:Around) (zn:List Env) (s:Shared) (H:Hp) (vs:List V) (Q:VK) (E:XK),gK k (A.deeper (envOfC cP (az st) s.heap.objs.size f cH))->sp vs H Q E->
   ∃ t,EA (Lx P w K mg zt N cP (az st) f cH A zn s H E) (ig st) t/\t { nx:=λ_ H'=>Q .gj H',rt:=Q } (L2.start N vs) H) (len:∀ vs H Q E,sp vs H Q E->↑vs=↑ps:=by intro _ _ _ _ h;cases h;subst_vars;rfl):aX P w K mg zt (EC P w) (k+1) f fd ps sp:=okX F S len uA
end
section
variable {X:Cx}
theorem bx{i:Nat}{x:Str}{e:Expr}{te:TE}{pos:Pos}(hN:X.N.Nodup)(he:PE X e te)(hi:X.N[i]?=⇑x:=by rfl)(hx:Loc X.env.scope x:=by first|exact Or.inl rfl|exact Or.inr rfl)(hs:swapsWith e (some (.Name x iJ)) pos.line X.env=pure false:=by rfl)(hf:X.fn x=true\/X.env.scope.names.lookup x=⇑.local:=by first|exact .inl rfl|exact .inr rfl|assumption) :
  PS X (.Assign [.Name x iJ] e pos) (M9 te (rX i)):=UH hN hi hx he hs hf
theorem bY{i:Nat}{x:Str}(hN:X.N.Nodup)(hi:X.N[i]?=⇑x:=by rfl)(hx:Loc X.env.scope x:=by first|exact Or.inl rfl|exact Or.inr rfl)(hf:X.fn x=true\/X.env.scope.names.lookup x=⇑.local:=by first|exact .inl rfl|exact .inr rfl|assumption):PG X (.Name x pos) (rX i):=QJ hN hi hx hf
def aN{r:R2}{a b:Expr}{ta tb:TE}(hr:Yo X r)(ha:PE X a ta)(hb:PE X b tb)(hs:JQ b:=by exact λ_ _=>rfl):PE X (.Subscript a b pos) (Yc r ta tb):=Yp hr ha hb hs
def gi{i:Expr}{td ty:TE}(hu:X.A.units+1<cLine)(ho:PE X o td)(hi:PE X i ty)(hs:Vu i:=by exact λ_ _=>rfl):PE X (.Subscript o i pos) (TQ td ty):=Rx hu ho hi hs
theorem eE{e:Expr}{te:TE}{p:Pos}(hm:X.mg "len"=none)(he:PE X e te)(hg:Gl X "len":=by rfl)(vQ:starEach [e] X.env=(false,eval e X.env)::starEach [] X.env:=by rfl):PE X (.Call (.Name "len" p) [e] [] pos) (tCB (UY X.K) (Nn te yX)):=b8 CY hg hm PySem.boot_len (aa he ah (hs:=vQ)) (by decide) (by decide) vQ rfl
variable {CX:Lf} {j k:Nat} {f C fi:Addr} {fd:FuncData} {ps:List Str} {sp:Sp} {E:XK} {m cn q:Str} {st:Stmt} {pos kY:Pos} {e o:Expr} {es:List Expr} {ta:TE} {t:TA} {pl:Sem Bool}
def cJ(he:PE X o ta)(c:ClsAt X.K X.mg cn C fi)(d:cI X.K C m q st ps f fd)(F:aX X.prog X.w X.K X.mg X.zt CX k f fd ps sp)(hr:gK j X.A)(hx:jK CX X E)(ha:PA X (e::es) t)(Lp:k<=j:=by first|decide|lia)
  (vQ:starEach (e::es) X.env=(false,eval e X.env)::starEach es X.env:=by rfl) (xx:(backTo pos (starEach es X.env)).any (·.1)=false:=by rfl)
  (ht:eval (.Call (.Attribute o m kY) (e::es) [] pos) X.env=(do
   let ov ← eval o X.env
   standAt kY.atName
   let (f,first) ← holding [ov] (getMethod ov m pl)
   callWith pos f first (backTo pos (starEach (e::es) X.env)) (backToKw pos (keywordEach [] X.env))):=by rfl) :
  PE X (.Call (.Attribute o m kY) (e::es) [] pos) (JI C m sp [] E ta t):=QT he c.cl d.mt F (hr.mono Lp) d.b .nil hx ha vQ xx ht
def eL(he:PE X o ta)(c:ClsAt X.K X.mg cn C fi)(d:cI X.K C m q st ps f fd)(F:aX X.prog X.w X.K X.mg X.zt CX k f fd ps sp)(hr:gK j X.A)(hx:jK CX X E)(Lp:k<=j:=by first|decide|lia)
  (ht:eval (.Call (.Attribute o m kY) [] [] pos) X.env=(do
   let ov ← eval o X.env
   standAt kY.atName
   let (f,first) ← holding [ov] (getMethod ov m pl)
   callWith pos f first (backTo pos (starEach [] X.env)) (backToKw pos (keywordEach [] X.env))):=by rfl) :
  PE X (.Call (.Attribute o m kY) [] [] pos) (JI C m sp [] E ta yX):=Nq he c.cl d.mt F (hr.mono Lp) d.b .nil hx ht
end
def iY:0<=sizeLine:=by decide
def kG:1<=sizeLine:=by decide
def jL:2<=sizeLine:=by decide
def IB:3<=sizeLine:=by decide
def FH:4<=sizeLine:=by decide
def Y6:6<=sizeLine:=by decide
theorem FI{x:V}{r:List V}:qm (x::r) 0=⇑x:=cQ (j:=0) rfl
theorem LR{x y:V}{r:List V}:qm (x::y::r) 1=⇑y:=cQ (j:=1) rfl
theorem LS{x y z:V}{r:List V}:qm (x::y::z::r) 2=⇑z:=cQ (j:=2) rfl
theorem LV{x y z u:V}{r:List V}:qm (x::y::z::u::r) 3=⇑u:=cQ (j:=3) rfl
theorem Y7{x y z u v:V}{r:List V}:qm (x::y::z::u::v::r) 4=⇑v:=cQ (j:=4) rfl
theorem Y8{x y z u v w:V}{r:List V}:qm (x::y::z::u::v::w::r) 5=⇑w:=cQ (j:=5) rfl
end fV
namespace Y9
open Spec Rows L2 cD
end Y9
namespace fV
open Spec Rows L2 cD eY xX Y9
end fV
namespace zI
open Spec Rows L2 cD eY fV PySem.W
section
variable {X:Cx}
def eq_int(a b:Int):Nv (.int a) (.int b)=decide (a=b):=by
 by_cases h:a=b
 ·subst h;simp[Nv]
 ·rw[decide_eq_false h];simp[Nv,h]
def LW:U0 X "list.index" (λx xs H Q=>∃ (l:Addr) (k:Int) (a b:List Int),x=↥l/\xs=[.int k]/\H l=⇑(.lst ((a++k::b).map V.int))/\k∉a/\↑a<=1000000/\Q (.int ↑a) H):=by
 intro ak s σ H x xs v us Q I rx rs h;let⟨l,k,a,b,rfl,rfl,hl,na,la,q⟩:=h;cases (show v=Value.ref l from rx);let⟨u,rfl,ru⟩:=rs.one;have ru':=ru;let⟨t,rfl⟩:=ru;let⟨_,aQ,n,rv,hln,ho⟩:=I.xV hl
 have at':∀ (j:Nat) (hj:j<↑aQ),∃ w,(a++k::b)[j]?=⇑w/\CV (.int k) aQ[j]=decide (w=k):=λj hj=>by
  have hj':j<↑(a++k::b):=by rw[bW]at hln;lia
  let⟨u,eu,ru⟩:=rv.get (i:=j) (x:=V.int (a++k::b)[j]) (by rw[kU,nM hj'];rfl);exists (a++k::b)[j],nM hj';have:aQ[j]=u:=by rw[nM hj]at eu;exact rL eu
  rw[this,HJ ru rfl];exact eq_int _ _
 have ll:↑a<↑aQ:=by rw[bW,dM,jS]at hln;lia
 refine call_meets F.slot_list_index ⟨_,ho,rfl⟩ F.entry_list_index (F.args_list_index_2 _ _) (SeqAt.list_indexAt l aQ.toArray n none _ (.int k t) (CV (.int k)) ↑a (by simpa using ll) ∅ ?_ λm hm pJ=>?_) ⟨ho,λy hy=>nV ru' rfl rv (rC _) y (by simpa using hy),?_⟩
 ·let⟨w,ew,e⟩:=at' ↑a ll;have:w=k:=by simpa using ew.symm
  show CV _ aQ[↑a]=true;rw[e,decide_eq_true this]
 ·let⟨w,ew,e⟩:=at' m (by simpa using hm);rw[List.getElem?_append_left pJ]at ew;have:w≠k:=λz=>na (z ▸ m6 ew);show CV _ aQ[m]=false;rw[e,decide_eq_false this]
 ·exact (show EP X ak σ Q _ _ from ⟨.int _,H,I.tok _,⟨Y⟩,q⟩)
end
end zI
set_option Elab.async false
set_option linter.all false
set_option maxRecDepth 100000
namespace fV
open L2 cD eY xX Vy
structure Nms(mg:Str->Option Value):Prop where
 d8:mg "len"=none
 iZ:mg "list"=none
 Kg:mg "tuple"=none
 TZ:mg "int"=none
 IC:mg "bool"=none
 T3:mg "str"=none
 jQ:mg "range"=none
 Za:mg "zip"=none
 cT:mg "isinstance"=none
 T4:mg "sum"=none
 FJ:mg "min"=none
 Ca:mg "max"=none
 Zb:mg "all"=none
 OO:mg "sorted"=none
 nH:∀ f,mg "size"=⇑↥f->mg "size_spans"=⇑↥f
 zJ:∀ f,mg "shown"=⇑↥f->mg "shown_weave"=⇑↥f
 ya:∀ f,mg "weight"=⇑↥f->mg "weight_weave"=⇑↥f
section
variable {P:Program} {w:World} {K:PySem.W.Frag} {mg:Str->Option Value} {zt:Heap}
theorem ID:aG ["_law_script"] ["_law_script"] (az v7):=fC
structure Gbs(mg:Str->Option Value):Prop where
 s:∃ t,mg "MOST_SHEETS"=⇑(.int 40 t)
 w:∃ t,mg "MOST_WEIGHT"=⇑(.int 200 t)
 h:∃ t,mg "HIDDEN"=⇑(.str "#" t)
structure Ds(K:PySem.W.Frag)(mg:Str->Option Value)(aY:Nat->Addr)(bq:Nat->FuncData)(C CS CW CB CT CD aA:Addr):Prop where
 T:Nms mg
 G:Gbs mg
 aP:ClsAt K mg "Library" C (aY 50)
 cF:ClsAt K mg "Shelf" CS (aY 34)
 iM:ClsAt K mg "Well" CW (aY 45)
 tZ:ClsAt K mg "Blots" CB (aY 9)
 Cb:ClsAt K mg "Ties" CT (aY 43)
 FL:ClsAt K mg "Dues" CD (aY 44)
 jO:fM K CS "states"
 nX:fM K CS "openings"
 tQ:fM K CW "signs"
 uK:fM K CW "owners"
 nY:fM K CW "pourings"
 uL:fM K CB "stains"
 C7:fM K CT "given"
 C8:fM K CT "pairs"
 JV:fM K CD "sums"
 xA:fM K C "well"
 gm:fM K C "shelf"
 zd:fM K C "blots"
 C9:fM K C "knots"
 JW:fM K C "dues"
 E3:fM K C "book"
 lK:Y4 K mg "TooHeavy" aA
 dq0:bX K mg "_law_src" v7 ["_law_script"] (aY 0) (bq 0)
 IE:bX K mg "_law_next" sW zl3 (aY 1) (bq 1)
 dq2:bX K mg "_law_whole" qo ["_law_found"] (aY 2) (bq 2)
 Qu:bX K mg "_law_same" sX zl4 (aY 3) (bq 3)
 Zc:bX K mg "plain" HN ["row"] (aY 4) (bq 4)
 VF:bX K mg "size" JS ["row"] (aY 5) (bq 5)
 dq6:bX K mg "check_places" nj zl5 (aY 6) (bq 6)
 dq7:bX K mg "pieces" C1 zl5 (aY 7) (bq 7)
 dq8:bX K mg "part" NP zl5 (aY 8) (bq 8)
 dq9:cI K CB "__init__" "Blots.__init__" kq G4 (aY 9) (bq 9)
 Zd:bX K mg "addresses" oM ["row"] (aY 10) (bq 10)
 Ze:bX K mg "spread" C2 ["row"] (aY 11) (bq 11)
 VG:bX K mg "first_reaching" ku ["holes","start"] (aY 12) (bq 12)
 Zf:bX K mg "left_over" sY ["start","stop","holes"] (aY 13) (bq 13)
 VH:bX K mg "windows" uH ["items"] (aY 14) (bq 14)
 VI:bX K mg "below" C3 ["rows","sheets"] (aY 15) (bq 15)
 Zg:bX K mg "way_between" oN ["rows","start","goal"] (aY 16) (bq 16)
 Zh:bX K mg "ring" NQ zl6 (aY 17) (bq 17)
 Zi:bX K mg "item_weight" oO ["item","weights"] (aY 18) (bq 18)
 VJ:bX K mg "weights_below" jk ["rows","sheets"] (aY 19) (bq 19)
 VL:bX K mg "weight" C4 zl6 (aY 20) (bq 20)
 VM:bX K mg "item_row" v8 ["item","views"] (aY 21) (bq 21)
 VN:bX K mg "views_below" lg ["rows","sheets"] (aY 22) (bq 22)
 VO:bX K mg "shown" HP zl6 (aY 23) (bq 23)
 Zj:bX K mg "goes_on" zb ["one","other"] (aY 24) (bq 24)
 RP:bX K mg "plain_items" oQ ["items"] (aY 25) (bq 25)
 LX:bX K mg "inked" C5 ["row"] (aY 26) (bq 26)
 Zk:bX K mg "dealt" HQ ["items","views"] (aY 27) (bq 27)
 Zl:bX K mg "put_among" sZ ["items","views","place","others"] (aY 28) (bq 28)
 RQ:bX K mg "put_items" tD ["rows","sheet","place","items"] (aY 29) (bq 29)
 Zm:bX K mg "struck_items" nu ["rows","sheet","ink"] (aY 30) (bq 30)
 RT:bX K mg "ink_words" oR ["row"] (aY 31) (bq 31)
 Zn:bX K mg "shown_deed" qp ["deed"] (aY 32) (bq 32)
 VP:bX K mg "changed" zc ["state","sheet","items"] (aY 33) (bq 33)
 Zo:cI K CS "__init__" "Shelf.__init__" kB G4 (aY 34) (bq 34)
 OP:cI K CS "now" "Shelf.now" tE G4 (aY 35) (bq 35)
 VQ:cI K CS "many" "Shelf.many" qt G4 (aY 36) (bq 36)
 Zp:cI K CS "step" "Shelf.step" qu ["self","changes"] (aY 37) (bq 37)
 IF:cI K CS "check_sheet" "Shelf.check_sheet" iU Tj (aY 38) (bq 38)
 Zq:cI K CS "check_moment" "Shelf.check_moment" iD ["self","moment"] (aY 39) (bq 39)
 Zr:cI K CS "rows_then" "Shelf.rows_then" ir ["self","moment"] (aY 40) (bq 40)
 FN:cI K CS "rows" "Shelf.rows" qv G4 (aY 41) (bq 41)
 Zs:cI K CS "row" "Shelf.row" tF Tj (aY 42) (bq 42)
 Zt:cI K CT "__init__" "Ties.__init__" lP G4 (aY 43) (bq 43)
 Zu:cI K CD "__init__" "Dues.__init__" lQ G4 (aY 44) (bq 44)
 Zv:cI K CW "__init__" "Well.__init__" lR G4 (aY 45) (bq 45)
 LY:cI K CW "size" "Well.size" tG G4 (aY 46) (bq 46)
 Zw:cI K CW "pour" "Well.pour" tH zl2 (aY 47) (bq 47)
 Zx:cI K CW "holds" "Well.holds" mO ["self","row"] (aY 48) (bq 48)
 Zy:bX K mg "check_weave" oS zl6 (aY 49) (bq 49)
 Zz:cI K C "__init__" "Library.__init__" jm G4 (aY 50) (bq 50)
 RU:cI K C "enter" "Library.enter" lS ["self","deed","changes"] (aY 51) (bq 51)
 OQ:cI K C "change" "Library.change" kC ["self","deed","sheet","items"] (aY 52) (bq 52)
 VR:cI K C "many" "Library.many" ny G4 (aY 53) (bq 53)
 ZA:cI K C "now" "Library.now" oU G4 (aY 54) (bq 54)
 ZC:cI K C "begin" "Library.begin" lT ["self","deed","items"] (aY 55) (bq 55)
 VS:cI K C "fresh" "Library.fresh" lU G4 (aY 56) (bq 56)
 ZD:cI K C "ink" "Library.ink" oV G4 (aY 57) (bq 57)
 VT:cI K C "check_held" "Library.check_held" iE ["self","row"] (aY 58) (bq 58)
 RV:cI K C "pour" "Library.pour" nA zl2 (aY 59) (bq 59)
 ZE:cI K C "put" "Library.put" oW ["self","sheet","place","row"] (aY 60) (bq 60)
 LZ:cI K C "shown" "Library.shown" lV Tj (aY 61) (bq 61)
 ZF:cI K C "quote" "Library.quote" lW ["self","target","place","source","start","stop"] (aY 62) (bq 62)
 ZG:cI K C "row" "Library.row" oX Tj (aY 63) (bq 63)
 ZH:cI K C "window" "Library.window" kD ["self","target","place","source"] (aY 64) (bq 64)
 ZI:cI K C "weight" "Library.weight" kE Tj (aY 65) (bq 65)
 ZJ:cI K C "strike" "Library.strike" iP ["self","row"] (aY 66) (bq 66)
 ZK:bX K mg "within" C6 ["holes","address"] (aY 67) (bq 67)
 ZL:cI K CB "hides" "Blots.hides" oY ["self","address"] (aY 68) (bq 68)
 ZM:cI K CW "check_address" "Well.check_address" iF ["self","address"] (aY 69) (bq 69)
 ZN:cI K CW "sign" "Well.sign" tK ["self","address"] (aY 70) (bq 70)
 ZO:cI K C "veiled" "Library.veiled" iQ ["self","row","veil"] (aY 71) (bq 71)
 ZP:cI K C "text" "Library.text" nB Tj (aY 72) (bq 72)
 ZQ:cI K C "size" "Library.size" nC Tj (aY 73) (bq 73)
 RW:bX K mg "_law_world" mP [] (aY 74) (bq 74)
 L0:bX K mg "_law_keep" tL ["_law_world_here","_law_rows"] (aY 75) (bq 75)
 VU:bX K mg "_law_swap" tM zl7 (aY 76) (bq 76)
 ZR:bX K mg "_law_spell" qw ["_law_row"] (aY 77) (bq 77)
 FO:bX K mg "_law_show" tN Xa (aY 78) (bq 78)
 VW:bX K mg "_law_reached" nE Xa (aY 79) (bq 79)
 ZS:bX K mg "_law_pieces" oZ ["_law_rows","_law_entry"] (aY 80) (bq 80)
 OR:bX K mg "_law_put" wc zl9 (aY 81) (bq 81)
 ZT:bX K mg "_law_cut" Bw ["_law_rows","_law_sheet","_law_start","_law_stop"] (aY 82) (bq 82)
 OS:bX K mg "_law_weighed" nF Xa (aY 83) (bq 83)
 ZU:bX K mg "_law_row_of" o6 ["_law_numbers"] (aY 84) (bq 84)
 ZV:bX K mg "_law_items_of" lY ["_law_entries"] (aY 85) (bq 85)
 ZW:bX K mg "_law_fits" o7 Xa (aY 86) (bq 86)
 ZX:bX K mg "_law_after" qx ["_law_world_here","_law_deed"] (aY 87) (bq 87)
 adF:cI K C "cut" "Library.cut" uI ["self","sheet","start","stop"] (aY 88) (bq 88)
 adG:cI K C "move" "Library.move" rY ["self","sheet","start","stop","to"] (aY 89) (bq 89)
 adH:cI K C "fix" "Library.fix" uJ Tj (aY 90) (bq 90)
 adI:cI K C "back" "Library.back" rZ ["self","sheet","moment"] (aY 91) (bq 91)
 VX:bX K mg "_law_done" tO ["_law_house","_law_deed"] (aY 92) (bq 92)
 ZY:bX K mg "_law_great" mQ XM (aY 93) (bq 93)
 ZZ:bX K mg "_law_heavy" qy XN (aY 94) (bq 94)
 Z0:bX K mg "_law_begin" mR XO (aY 95) (bq 95)
 Z1:bX K mg "_law_read" tP ["_law_world_here","_law_numbers"] (aY 96) (bq 96)
 Z3:bX K mg "_law_sheet_right" jo XQ (aY 97) (bq 97)
 Z4:bX K mg "_law_seen" pA ["_law_world_here","_law_house"] (aY 98) (bq 98)
def nth{α:Type}:List α->α->Nat->α
 | [],d,_=>d
 | a::_,_,0=>a
 | _::l,d,n+1=>nth l d n
theorem IG:‹(1,0,["_law_script"],(TH K))›:=λD=>by
 specialize fX D.dq0.F ID;let⟨a,ns,rfl,hS,k⟩:=h;exists _,(au (aL (bO (aa (d7 fP rfl D.T.iZ sN (aa (jV rj (pv 0) oK (kZ ay)) ah)) (aa ay (aa ay (aa ay ah)))))));refine⟨Y,Y,a,Y,hS,λp hp=>?_⟩;refine⟨p,Y,.inl (bG.of af),λc hc=>?_⟩;refine⟨FH,λl hl=>?_⟩;let⟨ms,em⟩:=N6 ns none (some 63);have G8:c≠l:=aB (H:=aO (aO H p _) c _) af hl;have s1:aH H (aO H p (.lst (jW (ns.map V.int) none (some 63)))):=ao hp _;have s2:=s1.trans (ao hc (.lst (jW (ns.map V.int) none (some 63))));refine k l c _ ⟨G8,ms,0,0,1,af,?_,by decide,by decide,by decide⟩ (s2.trans (ao hl _)) (s2.free hl) (s1.free hc);rw[aK G8,af,em]
theorem mU:aG ["_law_src_here","_law_base","_law_cell","_law_digit"] ["_law_src_here","_law_base"] (az sW):=fC
theorem mV:‹(1,1,["_law_src_here","_law_base"],Dc)›:=λD=>by
 specialize fX D.IE.F mU;let⟨l,c,b,rfl,S,hb0,ED,k⟩:=h;exists _,(aj (zh (t':=Ve) (bN (aU ji (aN bz (pv 0) ay) ay (bu _)) (aj (bx (i:=2) mU.nd ay) (aj (zh (t':=Vf) (bN (aU lO (aN bz (pv 0) ay) (eE D.T.d8 (aN bz (pv 0) ay)) (bu _)) (aj (bx (i:=2) mU.nd (aN bz (aN bz (pv 0) ay) (aN bz (pv 0) ay))) (au (lN (bP fj (aN bz (pv 0) ay) ay) (nh (pv 0) ay iK)))) aW) ?b2) (aj (lN (bP yS (bP fj (bP fj (bP Nf (aN bz (pv 0) ay) ay) (bP yS (pv 2) ay)) ay) ay) (nh (pv 0) ay iK)) (au (bN (aU Nj (pv 2) (bP Ng ay ay) (bu _)) (au (lN (pv 2) (nh (pv 0) ay iK))) aW))))) aW) ?b1) (aj (bN (aU uy (aN bz (pv 0) ay) ay (bu _)) (aj (bx (i:=3) mU.nd (bP yS (aN bz (pv 0) ay) (pv 1))) (aj (lN (bP ze (aN bz (pv 0) ay) (pv 1)) (nh (pv 0) ay iK)) (au (aL (pv 3))))) aW) (au (aL (bP yS (bP ze (bP yS (bP Nf (aN bz (pv 0) ay) ay) ay) ay) (pv 1))))))
 case b2 =>
  rintro D σ H ⟨l,c,b,rfl,⟨G8,ns,i,d,r,hl,hc,hi,Dt,i9⟩,k⟩;exists Y,l,K,V,bG.of hl,Vd,Y,l,K,V,bG.of hl,YB,c,Y,.inl (bG.of hc),Z,Y;refine cM (λc2=>?_) (λc2=>?_)
  ·have c3:i<(↑ns:Int):=by
    have z:=of_decide_eq_true c2;rwa [bW]at z
   let⟨v,hv⟩:=Rf hi c3;exists Y,l,K,V,bG.of hl,YB,Y,l,K,V,bG.of hl,Vd,c,K,V,bG.of hc,hv;exists Y,l,K,V,bG.of hl,Vd,Z,Y,l,Q,1,V,hl,rfl;exact k v _ ⟨G8,ns,i+1,d,r,af,by rw[aK G8];exact hc,E,Dt,i9⟩ λa ha=>aK ha
  ·exact k 7 H ⟨G8,ns,i,d,r,hl,hc,hi,Dt,i9⟩ λa _=>rfl
 case b1 =>
  rintro D σ H ⟨l,c,b,rfl,S,k⟩;let⟨G8,ns,i,d,r,hl,hc,hi,Dt,i9⟩:=id S;exists Y,l,K,V,bG.of hl,Q7,Z,Y;refine cM (λc1=>?_) (λc1=>?_)
  ·refine⟨l,c,b,rfl,S,λcell H1 S1 k1=>?_⟩;let⟨_,ns1,i1,d1,r1,HU,RG,hi1,Kh,L6⟩:=id S1;exists Y,l,K,V,bG.of HU,YC,Z,.inl ⟨E,E⟩,Y,Z,(by show (0:Int)<998244353;decide),Z,Z,Z,(by show (0:Int)<2147483647;decide),Y,l,Q,3,V,HU,rfl;exists Y,Z,⟨by decide,by decide,by decide⟩,Z,Y;have b0:0<=(r1*48271+cell % 998244353+1) % 2147483647:=Int.emod_nonneg _ (by decide);have b1:(r1*48271+cell % 998244353+1) % 2147483647<2147483647:=Int.emod_lt_of_pos _ (by decide);refine cM (λc2=>?_) (λc2=>?_)
   ·exists Y,Y,l,Q,2,V,af,rfl;refine k _ _ ⟨G8,ns1,i1,cell,_,af,?_,hi1,b0,b1⟩ λa ha=>?_
    ·rw[aK G8,aK G8];exact RG
    ·rw[aK ha,aK ha];exact k1 a ha
   ·refine k _ _ ⟨G8,ns1,i1,d1,_,af,?_,hi1,b0,b1⟩ λa ha=>?_
    ·rw[aK G8];exact RG
    ·rw[aK ha];exact k1 a ha
  ·exact k none H S λa _=>rfl
 refine⟨l,c,b,rfl,S,λcell H1 S1 k1=>?_⟩;let⟨G8,ns,i,d,r,hl,hc,hi,Dt,i9⟩:=S1;exists Y,l,K,V,bG.of hl,Q7,Z,Y;refine cM (λc1=>?_) (λc1=>?_)
 ·exists Y,l,K,V,bG.of hl,Q7,Y,Z,hb0;exists Y,l,K,V,bG.of hl,Q7,Y,Z,⟨hb0,ED⟩,Y,l,Q,2,V,hl,rfl;exists Y;refine k (d % b) _ (Int.emod_nonneg _ ∅) (Int.emod_lt_of_pos _ hb0) ⟨G8,ns,i,d / b,r,af,?_,hi,Dt,i9⟩ λa ha=>?_
  ·rw[aK G8];exact hc
  ·rw[aK ha];exact k1 a ha
 ·exists Y,l,K,V,bG.of hl,YC,Z,.inl ⟨E,E⟩,Z,(by show (0:Int)<2147483399;decide),Z,⟨by decide,by decide⟩,Y,Z,hb0;exact k _ _ (Int.emod_nonneg _ ∅) (Int.emod_lt_of_pos _ hb0) ⟨G8,ns,i,d,r,hl,hc,hi,Dt,i9⟩ k1
theorem Du:aG ["_law_found"] ["_law_found"] (az qo):=fC
theorem qD:aG ["_law_found","_law_due","_law_one","_law_other"] ["_law_found","_law_due"] (az sX):=fC
theorem Dv:‹(1,2,["_law_found"],J1)›:=λD=>by
 specialize fX D.dq2.F Du;let⟨i,rfl,k⟩:=h;exists _,(au (aL (sR (b8 dG rfl D.T.cT xU (aa (pv 0) (aa (pK rfl D.T.TZ PyProof.Rows.boot_int) ah))) (vO (UB (b8 dG rfl D.T.cT xU (aa (pv 0) (aa (pK rfl D.T.IC PyProof.Rows.boot_bool) ah))))))));exact⟨Y,K,Y,jU.int i,YF K,Y,jg ⟨Y,K,Y,jU.int i,YE K,Y,k⟩⟩
def AN(D:Ds K mg aY bq C CS CW CB CT CD aA){n:Nat}(FP:aX P w K mg zt cO 1 (aY 2) (bq 2) ["_law_found"] J1)(fD:aX P w K mg zt cO (n+1) (aY 3) (bq 3) ["_law_found","_law_due"] (wg n)):aX P w K mg zt cO (n+2) (aY 3) (bq 3) ["_law_found","_law_due"] (wg (n+1)):=by
 refine D.Qu.F.ok qD (λvs H Q E h=>?_) (λcH A zn s H vs Q E hr h=>?_)
 ·let⟨x,y,rfl,_⟩:=h;rfl
 let⟨x,y,rfl,h,k⟩:=h;exists _,(aj (bN (CO (M7 (pv 1))) (au (aL (UA (M7 (pv 0))))) aW) (aj (bN (gM (b8 dG rfl D.T.cT xU (aa (pv 1) (aa (pK rfl D.T.IC PyProof.Rows.boot_bool) ah)))) (au (aL (sR (b8 dG rfl D.T.cT xU (aa (pv 0) (aa (pK rfl D.T.IC PyProof.Rows.boot_bool) ah))) (vO (iO cW (pv 0) (pv 1) (bu _)))))) aW) (aj (bN (gM (b8 dG rfl D.T.cT xU (aa (pv 1) (aa (pK rfl D.T.TZ PyProof.Rows.boot_int) ah)))) (au (aL (sR (aM D.dq2 FP hr (aa (pv 0) ah)) (vO (iO cW (pv 0) (pv 1) (bu _)))))) aW) (aj (bN (gM (b8 dG rfl D.T.cT xU (aa (pv 1) (aa (pK rfl D.T.T3 PyProof.Rows.boot_str) ah)))) (au (aL (sR (b8 dG rfl D.T.cT xU (aa (pv 0) (aa (pK rfl D.T.T3 PyProof.Rows.boot_str) ah))) (vO (iO cW (pv 0) (pv 1) (bu _)))))) aW) (aj (bN (PW.pt (M8 (aU Ni (b8 dG rfl D.T.cT xU (aa (pv 1) (aa (pK rfl D.T.iZ sN) ah))) (b8 dG rfl D.T.cT xU (aa (pv 0) (aa (pK rfl D.T.iZ sN) ah))) (bu _)) (Hl (aU Ni (b8 dG rfl D.T.cT xU (aa (pv 1) (aa (pK rfl D.T.Kg PyProof.Rows.boot_tuple) ah))) (b8 dG rfl D.T.cT xU (aa (pv 0) (aa (pK rfl D.T.Kg PyProof.Rows.boot_tuple) ah))) (bu _))))) (au (aL kW)) aW) (aj (bN (aU Ni (eE D.T.d8 (pv 0)) (eE D.T.d8 (pv 1)) (bu _)) (au (aL kW)) aW) (aj (d9 PassesOwn.never rfl (Vc rfl D.T.Za (aa (pv 0) (aa (pv 1) ah))) (oG (n:=2) rfl (cj (bY (i:=2) qD.nd) (cj (bY (i:=3) qD.nd) ie))) (au (bN (gO (gM (aM D.Qu fD hr (aa (pv 2) (aa (pv 3) ah))))) (au (aL kW)) aW))) (au (aL kW)))))))));have kk:=k H (aH.refl H);rcases h with ⟨hf,rfl⟩|⟨kd,a,b,xs,ys,rfl,rfl,h1,h2,hl,hi⟩
 ·cases x with
  | gj =>
   refine⟨Y,Y,cM (λ_=>?_) (λc=>absurd (decide_eq_true rfl) c)⟩;exact⟨Y,tt rfl kk⟩
  | bl v =>
   refine⟨Y,Y,cM (λc=>absurd (of_decide_eq_true c) (λz=>nomatch z)) (λ_=>?_)⟩;refine⟨Y,K,Y,jU.bl v,YD K,Y,jg ?_⟩;exact⟨Y,K,Y,jU.bl v,YD K,Y,jg ⟨Y,Y,rfl,tt rfl kk⟩⟩
  | int i =>
   refine⟨Y,Y,cM (λc=>absurd (of_decide_eq_true c) (λz=>nomatch z)) (λ_=>?_)⟩;refine⟨Y,K,Y,jU.int i,YE K,Y,dF ?_⟩;refine⟨Y,K,Y,jU.int i,YF K,Y,jg ?_⟩;exact⟨Y,i,rfl,Y,jg ⟨Y,Y,rfl,tt rfl kk⟩⟩
  | str v =>
   refine⟨Y,Y,cM (λc=>absurd (of_decide_eq_true c) (λz=>nomatch z)) (λ_=>?_)⟩;refine⟨Y,K,Y,jU.str v,acT K,Y,dF ?_⟩;refine⟨Y,K,Y,jU.str v,acU K,Y,dF ?_⟩;refine⟨Y,K,Y,jU.str v,YG K,Y,jg ?_⟩;exact⟨Y,K,Y,jU.str v,YG K,Y,jg ⟨Y,Y,rfl,tt rfl kk⟩⟩
  | _=>cases hf
 ·refine⟨Y,Y,cM (λc=>absurd (of_decide_eq_true c) (λz=>nomatch z)) (λ_=>?_)⟩;refine⟨Y,K,Y,h2.ty,ac3 K kd,Y,dF ?_⟩;refine⟨Y,K,Y,h2.ty,ac4 K kd,Y,dF ?_⟩;refine⟨Y,K,Y,h2.ty,ac5 K kd,Y,dF ?_⟩;refine⟨Y,K,Y,h2.ty,YI K kd,Y,K,Y,h1.ty,YI K kd,rfl,Y,NN rfl ?_⟩;refine⟨Y,K,Y,h2.ty,YJ K kd,Y,K,Y,h1.ty,YJ K kd,rfl,Y,NN rfl ?_⟩;refine⟨Y,a,Y,h1.or,Y,b,Y,h2.or,rfl,Y,NN (by rw[hl]) ?_⟩;refine⟨Y,Y,kd,a,b,xs,ys,rfl,h1.sq,h2.sq,Q5 (λi σ H2=>∃ u v,σ=[⇑↥a,⇑↥b,u,v]/\aH H H2) hl ⟨none,none,rfl,aH.refl H⟩ (by rintro i σ H2 _ ⟨_,_,_,s⟩;exact⟨(h1.same s).sq,(h2.same s).sq⟩) ?_ ?_⟩
  ·rintro i u v p σ H2 eu ev hp ⟨_,_,rfl,s⟩;exists p,Y,dN.of af,rfl,u,[v],rfl,v,[],V;have s2:=s.trans (ao hp (.tup [u,v]));refine⟨Y,Y,u,v,rfl,Eqv.same s2 (hi i u v eu ev),λH4 s4=>⟨Y,dF ?_⟩⟩;exact⟨Q,rfl,s2.trans s4⟩
  ·rintro σ H2 ⟨_,_,rfl,s⟩;exact k H2 s
theorem qE(D:Ds K mg aY bq C CS CW CB CT CD aA):∀ n:Nat,aX P w K mg zt cO (n+1) (aY 3) (bq 3) ["_law_found","_law_due"] (wg n)
 | 0=>by
  have no:∀ vs H Q E,¬ wg 0 vs H Q E:=λvs H Q E h=>by
   let⟨x,y,_,h,_⟩:=h;exact h
  exact⟨λvs H Q E h=>absurd h (no vs H Q E),λA zn s H args us vs Q E _ _ _ _ h=>absurd h (no vs H Q E)⟩
 | n+1=>AN D (Dv D) (qE D n)
theorem yK:aG ["row","told","start","stop"] ["row"] (az HN):=fC
theorem uW:‹(1,4,["row"],Rc)›:=λD=>by
 specialize fX D.Zc.F yK;let⟨r,row,rfl,⟨as,i9,hp⟩,cX,k⟩:=h;refine⟨_,(aj (bx (i:=1) yK.nd (bO ah)) (aj (d9 PassesOwn.never rfl (ck (pv 0)) (oG (n:=2) rfl (cj (bY (i:=2) yK.nd) (cj (bY (i:=3) yK.nd) ie))) (aj (bN (aU cW (pv 2) (pv 3) (bu _)) (au ET) aW) (au (bN (PW.pt (oF (jj (pv 1) (λ_=>rfl)) (mK (aU cW (aN aT (aN bz (pv 1) (fG dc ay)) ay) (pv 2) (bu _))))) (au (lN (cG (aa (aN aT (aN bz (pv 1) (fG dc ay)) ay) (aa (pv 3) ah))) (nh (pv 1) (fG dc ay) iK))) (au (aV (dm pI jA jB bT (pv 1) (aa (cG (aa (pv 2) (aa (pv 3) ah))) ah)))))))) (au (aL (pv 1))))),?_⟩;refine⟨iY,λq hq=>?_⟩;have s0:aH H (aO H q (.lst [])):=ao hq _;refine⟨Y,r,rfl,⟨_,bG.of (s0 _ _ i9)⟩,cV (K:=K) (a:=r) (xs:=as.map V.ref) (λi σ H2=>∃ (bs:List Addr) (u v:Option V),σ=[⇑↥r,⇑↥q,u,v]/\H2 q=⇑(.lst (bs.map V.ref))/\br H2 bs ((row.take i).foldl cY [])/\aH H H2) ⟨[],none,none,rfl,af,.nil,s0⟩ (by rintro i σ H2 _ ⟨_,_,_,_,_,_,s⟩;exact bG.of (s _ _ i9)) ?_ ?_⟩
 ·rintro i x σ H2 hi ⟨bs,u,v,rfl,dH,hb,s⟩;rw[kU]at hi;let⟨a,ea,rfl⟩:=Option.map_eq_some_iff.mp hi;let⟨⟨st,en⟩,ep,ha⟩:=hp.get ea;have step:=BH (f:=cY) ep
  have bl:↑bs<sizeLine:=by
   have z:=hb.len;have z2:=Fc (row.take i) [];rw[gx]at z2;exact aS (by simp only[m9]at z2;lia)
  exists a,Y,dN.of (s _ _ ha),rfl,Q,rfl,Z;refine⟨Y,Y,rfl,Y,cM (λc=>?_) (λc=>?_)⟩
  ·have e:st=en:=V.int.inj (of_decide_eq_true c);refine⟨bs,Q,rfl,dH,?_,s⟩;rw[step,cY,if_pos e];exact hb
  ·have e:¬ st=en:=λz=>c (decide_eq_true (congrArg V.int z));rw[cY,if_neg e]at step;rcases mE ((row.take i).foldl cY []) with hn|⟨rw0,q0,hn⟩
   ·rw[hn]at hb step;have Z5:bs=[]:=List.eq_nil_of_length_eq_zero hb.len;subst Z5;refine⟨Y,false,.inl ⟨_,bG.of dH,rfl⟩,dF (dF ?_)⟩;refine⟨Y,.inl ⟨rfl,_,bG.of dH⟩,Y,Y,jL,λt ht=>⟨q,Z,ao ht _ _ _ dH,(by show 0<sizeLine;decide),?_⟩⟩;let⟨g1,g2,g3⟩:=zm (st:=st) (en:=en) hq s dH hb ht;refine⟨[]++[t],Q,rfl,g1,?_,g3⟩;rw[step,jX];exact g2
   ·rw[ki]at hn;rw[hn]at hb step;let⟨cs,a0,rfl,hc,Cc⟩:=hb.split;have vI:H2 q=⇑(.lst (cs.map V.ref++[↥a0])):=by rw[dH,gC];rfl
    refine⟨Y,true,.inl ⟨_,bG.of vI,by simp⟩,jg ?_⟩;refine⟨Y,Y,q,K,V,bG.of vI,dO _ _,a0,K,V,dN.of Cc,HY,Y,rfl,Y,cM (λc2=>?_) (λc2=>?_)⟩
    ·have e2:q0.2=st:=V.int.inj (of_decide_eq_true c2);refine⟨Y,Y,q,K,V,bG.of vI,dO _ _,a0,K,V,dN.of Cc,N4,Y,jL,λt ht=>?_⟩;exists Y,Y,q,Q,↑cs,V,ao ht _ _ _ vI,Ic cs a0;let⟨g1,g2,g3⟩:=turned (st:=q0.1) (en:=en) hq s vI hc ht;refine⟨cs++[t],Q,rfl,g1,?_,g3⟩;rw[step,jY _ e2];exact g2
    ·have e2:¬ q0.2=st:=λz=>c2 (decide_eq_true (congrArg V.int z));refine⟨Y,.inl ⟨rfl,_,bG.of dH⟩,Y,Y,jL,λt ht=>⟨q,Z,ao ht _ _ _ dH,(by rw[bW];exact bl),?_⟩⟩;let⟨g1,g2,g3⟩:=zm (st:=st) (en:=en) hq s dH hb ht;refine⟨cs++[a0]++[t],Q,rfl,g1,?_,g3⟩;rw[step,jZ _ e2];exact g2
 ·rintro σ H2 ⟨bs,u,v,rfl,dH,hb,s⟩;refine⟨Y,k q H2 ⟨bs,dH,?_⟩ s hq⟩;rw[bW,hp.len,gy]at hb;exact hb
theorem VY:aG ["row"] ["row"] (az JS):=fC
theorem Dw:‹(1,5,["row"],Vk)›:=λD=>by
 specialize fX D.VF.F VY;let⟨r,row,rfl,⟨as,i9,hp⟩,cX,k⟩:=h;refine⟨_,(au (aL (b8 (E6 rfl) rfl D.T.T4 PyProof.Rows.boot_sum (aa (fR (N:=["start","stop"]) (jG (sc:=az JS) (NX:=["row"]) (jx:=[none,none]) rfl rfl rfl nofun nofun rfl nofun rfl nofun) rfl (ck (pv 0)) (λ_ _ _ _ _ _=>(uR (n:=2) rfl (cj (bY (i:=0) (show List.Nodup (["start","stop"]:List Str) by decide +kernel)) (cj (bY (i:=1) (show List.Nodup (["start","stop"]:List Str) by decide +kernel)) ie)))) (λ_ _ _ _ _ _=>fQ) (λ_ _ _ _ _ _=>(bP dY (pv 1) (pv 0)))) ah)))),?_⟩;refine⟨Y,r,rfl,⟨_,bG.of i9⟩,λacc cu=>fk (K:=K) (a:=r) (xs:=as.map V.ref) (λi σ H2=>∃ u v:Option V,σ=[u,v]/\H2 acc=⇑(.lst (((row.take i).map λp=>p.2-p.1).map V.int))/\aH H H2) ⟨none,none,rfl,af,ao cu _⟩ (by rintro i σ H2 _ ⟨_,_,_,_,s⟩;exact bG.of (s _ _ i9)) ?_ ?_⟩
 ·rintro i x σ H2 hi ⟨u,v,rfl,ha,s⟩;rw[kU]at hi;let⟨a,ea,rfl⟩:=Option.map_eq_some_iff.mp hi;let⟨⟨st,en⟩,ep,hpa⟩:=hp.get ea;refine⟨a,Y,dN.of (s _ _ hpa),rfl,Q,rfl,Z,Xi (jg ?_)⟩;refine⟨Y,Y,Z,_,ha,?_,Q,rfl,?_,bJ cu s (aF acc _ _)⟩
  ·rw[bW,bW,gx];exact aS ∅
  ·rw[af,take_snoc ep,gC,gC];rfl
 ·rintro σ H2 ⟨u,v,rfl,ha,s⟩;rw[bW,hp.len,gy]at ha;exact⟨acc,Y,bG.of ha,k H2 s⟩
class inductive OT
 | mk (r:Addr) (row:Row) (a b:Int) (_:vs=[↥r,.int a,.int b]) (_:b5 H r row) (_:↑row<=1000000) (_:YT a b (lu row)) (_:∀ H',aH H H'->Q .gj H')
theorem zK:aG ["row","start","stop"] ["row","start","stop"] (az nj):=fC
theorem kJ:‹(2,6,["row","start","stop"],OT)›:=λD=>by
 specialize fX D.dq6.F zK;let⟨r,row,a,b,rfl,R,hl,z,k⟩:=h;exists _,(au (bN (gO (Ly ji ji ji ay (pv 1) (pv 2) (eY.uV D.VF (D.T.nH _ D.VF.m) (Dw D) hr (aa (pv 0) ah)))) (au jT) aW));exists Y,Z,Y;rw[decide_eq_true z.1];refine cM (λ_=>?_) (λc=>absurd rfl c);exists Y,Z,Y;rw[decide_eq_true z.2.1];refine cM (λ_=>?_) (λc=>absurd rfl c);refine⟨Y,r,row,rfl,R,hl,λH1 s1=>⟨Z,Y,?_⟩⟩;rw[decide_eq_true z.2.2];exact dF (k H1 s1)
theorem j6:aG ["row","start","stop","told","ahead","first","last","low","high"] ["row","start","stop"] (az C1):=fC
theorem wH:‹(1,7,["row","start","stop"],Ol)›:=λD=>by
 specialize fX D.dq7.F j6;let⟨r,row,a,b,rfl,⟨as,i9,hp⟩,cX,k⟩:=h;exists _,(aj (bx (i:=3) j6.nd (bO ah)) (aj (bx (i:=4) j6.nd ay) (aj (d9 PassesOwn.never rfl (ck (pv 0)) (oG (n:=2) rfl (cj (bY (i:=5) j6.nd) (cj (bY (i:=6) j6.nd) ie))) (aj (bx (i:=7) j6.nd (b8 (vV rfl) rfl D.T.Ca PyProof.Rows.boot_max (aa (bP dY (pv 1) (pv 4)) (aa ay ah)))) (aj (bx (i:=8) j6.nd (b8 (nR rfl) rfl D.T.FJ PyProof.Rows.boot_min (aa (bP dY (pv 2) (pv 4)) (aa (bP dY (pv 6) (pv 5)) ah)))) (aj (bN (aU lO (pv 7) (pv 8) (bu _)) (au (aV (dm pI jA jB bT (pv 3) (aa (cG (aa (bP fj (pv 5) (pv 7)) (aa (bP fj (pv 5) (pv 8)) ah))) ah)))) aW) (au (vR (i:=4) j6.nd rfl (Or.inl rfl) (bP dY (pv 6) (pv 5)) Na)))))) (au (aL (pv 3))))));refine⟨iY,λq hq=>?_⟩;have s0:aH H (aO H q (.lst [])):=ao hq _;refine⟨Y,r,rfl,⟨_,bG.of (s0 _ _ i9)⟩,cV (K:=K) (a:=r) (xs:=as.map V.ref) (λi σ H2=>∃ (bs:List Addr) (t:Int) (u v x y:Option V),σ=[⇑↥r,⇑(.int a),⇑(.int b),⇑↥q,⇑(.int t),u,v,x,y]/\t=lu (row.take i)/\H2 q=⇑(.lst (bs.map V.ref))/\br H2 bs (rO a b 0 (row.take i))/\aH H H2) ⟨[],0,none,none,none,none,V,af,.nil,s0⟩ (by rintro i σ H2 _ ⟨_,_,_,_,_,_,_,_,_,_,s⟩;exact bG.of (s _ _ i9)) ?_ ?_⟩
 ·rintro i x σ H2 hi ⟨bs,t,u,v,x1,y1,rfl,et,dH,hb,s⟩;rw[kU]at hi;let⟨ad,ea,rfl⟩:=Option.map_eq_some_iff.mp hi;let⟨⟨st,en⟩,ep,ha⟩:=hp.get ea;have step:=Ff a b (st,en) (row.take i) 0;rw[← take_snoc ep,Int.zero_add,← et]at step;have et2:t+(en-st)=lu (row.take (i+1)):=by rw[take_snoc ep,N3,et]
  have bl:↑bs<sizeLine:=by
   have z:=hb.len;have z2:=wj a b (row.take i) 0;rw[gx]at z2;exact aS ∅
  have e1:(if (0:Int) > a-t then (0:Int) else a-t)=max (a-t) 0:=by split <;> lia
  have e2:(if en-st<b-t then en-st else b-t)=min (b-t) (en-st):=by split <;> lia
  exists ad,Y,dN.of (s _ _ ha),rfl,Q,rfl,Z;exists Y,Y,Z,Q,rfl;exists Y,Y,Z,Y,Y,Z,Q,rfl;rw[e1,e2];refine⟨Y,Y,Z,Y,cM (λc=>?_) (λc=>?_)⟩
  ·have c':max (a-t) 0<min (b-t) (en-st):=of_decide_eq_true c;unfold Oh at step;rw[if_pos c']at step;refine⟨Y,.inl ⟨rfl,_,bG.of dH⟩,Y,Y,Z,Y,Y,Z,jL,λtu htu=>⟨q,Z,ao htu _ _ _ dH,(by rw[bW];exact bl),?_⟩⟩;let⟨g1,g2,g3⟩:=zm (st:=st+max (a-t) 0) (en:=st+min (b-t) (en-st)) hq s dH hb htu;exists Y,Y,Y,Z,Z;refine⟨bs++[tu],K,Q,rfl,et2,g1,?_,g3⟩;rw[step];exact g2
  ·have c':¬ max (a-t) 0<min (b-t) (en-st):=λz=>c (decide_eq_true z);unfold Oh at step;rw[if_neg c',iS]at step;exists Y,Y,Y,Z,Z;refine⟨bs,K,Q,rfl,et2,dH,?_,s⟩;rw[step];exact hb
 ·rintro σ H2 ⟨bs,t,u,v,x1,y1,rfl,et,dH,hb,s⟩;rw[bW,hp.len,gy]at hb;exact⟨Y,k q H2 ⟨bs,dH,hb⟩ s hq⟩
class inductive RX
 | mk (r:Addr) (row:Row) (a b:Int) (_:vs=[↥r,.int a,.int b]) (_:b5 H r row) (_:↑row<=1000000) (_:YT a b (lu row)) (_:∀ (q:Addr) (H':Hp),b5 H' q (cB (rO a b 0 row))->aH H H'->H q=none->Q ↥q H')
theorem VZ:aG ["row","start","stop"] ["row","start","stop"] (az NP):=fC
theorem RY:‹(3,8,["row","start","stop"],RX)›:=λD=>by
 specialize fX D.dq8.F VZ;let⟨r,row,a,b,rfl,R,hl,z,k⟩:=h;exists _,(aj (aV (aM D.dq6 (kJ D) hr (aa (pv 0) (aa (pv 1) (aa (pv 2) ah))))) (au (aL (aM D.Zc (uW D) hr (aa (aM D.dq7 (wH D) hr (aa (pv 0) (aa (pv 1) (aa (pv 2) ah)))) ah)))));refine⟨Y,Y,Y,r,row,a,b,rfl,R,hl,z,λH1 s1=>?_⟩;refine⟨Y,Y,Y,r,row,a,b,rfl,R.same s1,hl,λq H2 R2 s2 hq=>?_⟩;refine⟨q,Y,R2,jf (wj a b row 0) hl,λq3 H3 R3 s3 vI=>?_⟩;exact k q3 H3 R3 (s1.trans (s2.trans s3)) (bw (s1.trans s2) vI)
def Bl(CB:Addr)(H:Hp)(x d t:Addr):Prop:=H x=⇑(.ins CB d [("stains",↥t)])
class inductive RZ(CB:Addr)
 | mk (x d:Addr) (_:vs=[↥x]) (_:H x=⇑(.ins CB d [])) (_: ∀ (t:Addr) (H':Hp),Bl CB H' x d t->b5 H' t []->cy x H H'->H t=none->Q .gj H')
theorem wI:aG ["self"] ["self"] (az kq):=fC
theorem uX:‹(1,9,["self"],(RZ CB))›:=λD=>by
 specialize fX D.dq9.F wI;let⟨x,d,rfl,hx,k⟩:=h;exists _,(au (iT (pv 0) (bO ah) rfl));refine⟨iY,λt ht=>?_⟩;have nt:t≠x:=(aB hx ht).symm;refine⟨Y,x,CB,d,Y,ao ht _ _ _ hx,D.tZ.cl,D.uL,by decide,?_⟩;exact k t _ af ⟨[],by rw[aK nt,af];rfl,.nil⟩ (λa o e n=>by rw[aK n];exact ao ht _ a o e) ht
theorem FQ:aG ["row"] ["row"] (az oM):=fC
theorem Dy:‹(1,10,["row"],Rk)›:=λD=>by
 specialize fX D.Zd.F FQ;let⟨r,row,rfl,⟨as,i9,hp⟩,hok,cX,k⟩:=h;refine⟨_,(au (aL (BS (N:=["start","stop","address"]) (jG (sc:=az oM) (NX:=["row"]) (jx:=[none,none,none]) rfl rfl rfl nofun nofun rfl nofun rfl nofun) rfl (ck (pv 0)) (λ_ _ _ _ _ _=>(uR (n:=2) rfl (cj (bY (i:=0) (show List.Nodup (["start","stop","address"]:List Str) by decide +kernel)) (cj (bY (i:=1) (show List.Nodup (["start","stop","address"]:List Str) by decide +kernel)) ie)))) (λ_ _ _ _ _ _=>fQ) (λ_ _ _ _ _ _=>(Lv rfl D.T.jQ (aa (pv 0) (aa (pv 1) ah)))) (λ_ _ _ _ _ _=>(bY (i:=2) (show List.Nodup (["start","stop","address"]:List Str) by decide +kernel))) (λ_ _ _ _ _ _=>fQ) (λ_ _ _ _ _ _=>(pv 2))))),?_⟩;refine⟨Y,r,rfl,⟨_,bG.of i9⟩,λacc cu=>xG (K:=K) (a:=r) (xs:=as.map V.ref) (λi σ H2=>∃ u v z:Option V,σ=[u,v,z]/\H2 acc=⇑(.lst ((bI (row.take i)).map V.int))/\aH H H2) ⟨none,none,none,rfl,af,ao cu _⟩ (by rintro i σ H2 _ ⟨_,_,_,_,_,s⟩;exact bG.of (s _ _ i9)) ?_ ?_⟩
 ·rintro i x σ H2 hi ⟨u,v,z,rfl,ha,s⟩;rw[kU]at hi;let⟨a,ea,rfl⟩:=Option.map_eq_some_iff.mp hi;let⟨⟨st,en⟩,ep,hpa⟩:=hp.get ea;have b2:st<=en:=hok _ (m6 ep);have step:=zl ep
  have lz:↑(bI (row.take i))+(en-st).toNat<=1000000:=by
   have z:=sF row (i+1);rw[step,dM,fE,gA]at z;exact jf z cX
  refine⟨a,Y,dN.of (s _ _ hpa),rfl,Q,rfl,Z,Xi (jg ?_)⟩;refine⟨Y,Y,st,en,rfl,Fb (lo:=st) (k:=(en-st).toNat) (λj σ H3=>∃ z:Option V,σ=[⇑(.int st),⇑(.int en),z]/\H3 acc=⇑(.lst ((bI (row.take i)++run st j).map V.int))/\aH H H3) ⟨z,rfl,?_,s⟩ ?_ ?_⟩
  ·rw[run,iS];exact ha
  ·rintro j σ H3 hj ⟨z,rfl,h3,s3⟩;refine Rj ?_;refine jg ?_;refine⟨Y,_,h3,?_,Y,?_,bJ cu s3 (aF acc _ _)⟩
   ·rw[bW,dM,gA];exact aS ∅
   ·rw[af,uN,← m8];simp
  ·rintro σ H3 ⟨z,rfl,h3,s3⟩;refine⟨K,rfl,?_,s3⟩;rw[step];exact h3
 ·rintro σ H2 ⟨u,v,z,rfl,ha,s⟩;rw[bW,hp.len,gy]at ha;exact k acc H2 ha s cu
theorem uY:aG ["row","told","start","stop"] ["row"] (az C2):=fC
theorem L7:‹(2,11,["row"],OG)›:=λD=>by
 specialize fX D.Ze.F uY;let⟨r,row,rfl,R,cX,ok,k⟩:=h;refine⟨_,(aj (bx (i:=1) uY.nd (bO ah)) (aj (d9 PassesOwn.never rfl (ck (b8 Dp rfl D.T.OO PyProof.Rows.boot_sorted (aa (aM D.Zc (uW D) hr (aa (pv 0) ah)) ah))) (oG (n:=2) rfl (cj (bY (i:=2) uY.nd) (cj (bY (i:=3) uY.nd) ie))) (au (bN (PW.pt (oF (jj (pv 1) (λ_=>rfl)) (mK (aU ji (pv 2) (aN aT (aN bz (pv 1) (fG dc ay)) ay) (bu _))))) (au (lN (cG (aa (aN aT (aN bz (pv 1) (fG dc ay)) ay) (aa (b8 (vV rfl) rfl D.T.Ca PyProof.Rows.boot_max (aa (aN aT (aN bz (pv 1) (fG dc ay)) ay) (aa (pv 3) ah))) ah))) (nh (pv 1) (fG dc ay) iK))) (au (aV (dm pI jA jB bT (pv 1) (aa (cG (aa (pv 2) (aa (pv 3) ah))) ah))))))) (au (aL (pv 1))))),?_⟩;refine⟨iY,λq hq=>?_⟩;have s0:aH H (aO H q (.lst [])):=ao hq _;refine⟨Y,r,row,rfl,R.same s0,E,λq1 H1 R1 s1 Qs=>?_⟩;let⟨as1,h1,p1⟩:=R1;have pl:=lJ row;refine⟨q1,as1,cB row,rfl,h1,p1,E,λl bs L hl RI srt pL=>?_⟩;have s2:aH H1 (aO H1 l (.lst (bs.map V.ref))):=ao hl _;have pL2:=pL.same s2;have Z6:=s0.trans (s1.trans s2);have dH:=(s1.trans s2) _ _ (af (H:=H) (a:=q) (o:=.lst []))
 have plt:∀ p∈cB row,p.1<p.2:=λp hp=>by
  have z:∀ (r t:Row),Ok r->(∀ p∈t,p.1<p.2)->∀ p∈r.foldl cY t,p.1<p.2:=by
   intro r
   induction r with
   | nil=>intro t _ g;exact g
   | cons a r ih =>
    intro t h g;rw[kj];refine ih _ (λb hb=>h b (nO _ hb)) ?_;have ha:=h a (by simp);unfold cY;by_cases c:a.1=a.2
    ·rw[if_pos c];exact g
    ·rw[if_neg c];rcases mE t with rfl|⟨t',b,rfl⟩
     ·rw[jX];intro p hp;rw[List.mem_singleton.mp hp];show a.1<a.2;lia
     ·rw[ki]at g ⊢;have gb:=g b (by simp);by_cases d:b.2=a.1
      ·rw[jY _ d];intro p hp;rcases List.mem_append.mp hp with e|e
       ·exact g p (pV _ e)
       ·rw[List.mem_singleton.mp e];show b.1<a.2;lia
      ·rw[jZ _ d];intro p hp;rcases List.mem_append.mp hp with e|e
       ·exact g p e
       ·rw[List.mem_singleton.mp e];show a.1<a.2;lia
  exact z row [] ok (λp hp=>by cases hp) p hp
 let⟨FT,mem⟩:=LO RI srt plt;have nlq:l≠q:=(aB (s1 _ _ af) hl).symm;have aja:=RI.length_eq;refine⟨l,rfl,⟨_,bG.of af⟩,cV (K:=K) (a:=l) (xs:=bs.map V.ref) (λi σ H2=>∃ (cs:List Addr) (u v:Option V),σ=[⇑↥r,⇑↥q,u,v]/\H2 q=⇑(.lst (cs.map V.ref))/\br H2 cs ((L.take i).foldl eK [])/\cy q (aO H1 l (.lst (bs.map V.ref))) H2) ⟨[],none,none,rfl,dH,.nil,cy.refl _ _⟩ (by rintro i σ H2 _ ⟨_,_,_,_,_,_,k2⟩;exact bG.of (k2 _ _ af nlq)) ?_ ?_⟩
 ·rintro i x σ H2 hi ⟨cs,u,v,rfl,vI,hb,k2⟩;rw[kU]at hi;let⟨a,ea,rfl⟩:=Option.map_eq_some_iff.mp hi;let⟨⟨st,en⟩,ep,Cc⟩:=pL2.get ea
  have ha:kF H2 a (st,en):=k2 _ _ Cc (λz=>by
   have w:=Cc;unfold kF at w;rw[z,dH]at w
   cases w)
  have step:=BH (f:=eK) ep
  have bl:↑cs<sizeLine:=by
   have z:=hb.len;have z2:=OE (L.take i) [];rw[gx,m9]at z2;exact aS ∅
  exists a,Y,dN.of ha,rfl,Q,rfl,Z
  have add:eK ((L.take i).foldl eK []) (st,en)=(L.take i).foldl eK []++[(st,en)]->∀ t,H2 t=none->∃ (cs':List Addr) (u' v':Option V),[⇑(V.ref r),⇑↥q,⇑(.int st),⇑(.int en)]=[⇑↥r,⇑↥q,u',v']/\(aO (aO H2 t (.tup [.int st,.int en])) q (.lst (cs.map V.ref++[↥t]))) q=⇑(.lst (cs'.map V.ref))/\br (aO (aO H2 t (.tup [.int st,.int en])) q (.lst (cs.map V.ref++[↥t]))) cs' ((L.take (i+1)).foldl eK [])/\cy q (aO H1 l (.lst (bs.map V.ref))) (aO (aO H2 t (.tup [.int st,.int en])) q (.lst (cs.map V.ref++[↥t]))):=λe t ht=>by
   have n1:aH H2 (aO H2 t (.tup [.int st,.int en])):=ao ht _;have Oa:t≠q:=(aB vI ht).symm;refine⟨cs++[t],Q,rfl,by rw[af,gC];rfl,?_,λb o eb nb=>aF q _ _ b o (n1 _ _ (k2 b o eb nb)) nb⟩;rw[step,e];refine br.snoc ((hb.same n1).keep (n1 _ _ vI) (aF q _ _)) ?_;show aO _ _ _ t=_;rw[aK Oa,af]
  rcases mE ((L.take i).foldl eK []) with hn|⟨rw0,q0,hn⟩
  ·have Z5:cs=[]:=by rw[hn]at hb;exact List.eq_nil_of_length_eq_zero hb.len
   subst Z5;refine⟨Y,false,.inl ⟨_,bG.of vI,rfl⟩,dF (dF ?_)⟩;exact⟨Y,.inl ⟨rfl,_,bG.of vI⟩,Y,Y,jL,λt ht=>⟨q,Z,ao ht _ _ _ vI,(by show 0<sizeLine;decide),add (by rw[hn];rfl) t ht⟩⟩
  ·rw[ki]at hn;have hb':=hb;rw[hn]at hb';let⟨ds,a0,rfl,hc,ha1⟩:=hb'.split;have MW:H2 q=⇑(.lst (ds.map V.ref++[↥a0])):=by rw[vI,gC];rfl
   refine⟨Y,true,.inl ⟨_,bG.of MW,by simp⟩,jg ?_⟩;refine⟨Y,Y,Y,q,K,V,bG.of MW,dO _ _,a0,K,V,dN.of ha1,HY,Z,Y,cM (λc2=>?_) (λc2=>?_)⟩
   ·have c:st<=q0.2:=of_decide_eq_true c2;refine⟨Y,Y,q,K,V,bG.of MW,dO _ _,a0,K,V,dN.of ha1,N4,Y,Y,q,K,V,bG.of MW,dO _ _,a0,K,V,dN.of ha1,HY,Y,Q,rfl,jL,λt ht=>?_⟩;exists Y,Y,q,Q,↑ds,V,ao ht _ _ _ MW,Ic ds a0;have n1:aH H2 (aO H2 t (.tup [.int q0.1,.int (if en > q0.2 then en else q0.2)])):=ao ht _;have Oa:t≠q:=(aB MW ht).symm
    have es:(ds.map V.ref++[V.ref a0]).set ↑ds ↥t=(ds++[t]).map V.ref:=by
     have z:=uO (ds.map V.ref) (V.ref a0) (V.ref t);rw[bW]at z;rw[z,gC];rfl
    rw[es];refine⟨ds++[t],Q,rfl,af,?_,λb o eb nb=>aF q _ _ b o (n1 _ _ (k2 b o eb nb)) nb⟩;rw[step,hn,tV _ c];refine br.snoc ((hc.same n1).keep (n1 _ _ MW) (aF q _ _)) ?_;show aO _ _ _ t=_;rw[aK Oa,af]
   ·have c:¬ st<=q0.2:=λz=>c2 (decide_eq_true z);exact⟨Y,.inl ⟨rfl,_,bG.of vI⟩,Y,Y,jL,λt ht=>⟨q,Z,ao ht _ _ _ vI,(by rw[bW];exact bl),add (by rw[hn,tW _ c]) t ht⟩⟩
 ·rintro σ H2 ⟨cs,u,v,rfl,vI,hb,k2⟩;rw[bW,pL2.len,gy]at hb;have sl:=OE L [];rw[m9]at sl;refine⟨Y,k q _ H2 ⟨cs,vI,hb⟩ FT (λx=>by rw[mem,OD ok]) ∅ (λb o e=>k2 b o (Z6 _ _ e) (aB e hq)) hq⟩
theorem eZ:aG ["holes","start","low","high","middle"] ["holes","start"] (az ku):=fC
def FU{bL:Row}(h:LN bL){i j:Nat}{p q:Int × Int}(hp:bL[i]?=⇑p)(hq:bL[j]?=⇑q)(ij:i<=j):p.2<=q.2:=by
 by_cases c:i=j
 ·subst c;rw[hp]at hq;cases hq;exact Int.le_refl _
 ·let⟨hi,ei⟩:=List.getElem?_eq_some_iff.mp hp;let⟨hj,ej⟩:=List.getElem?_eq_some_iff.mp hq;have:=List.pairwise_iff_getElem.mp h.1 i j hi hj ∅;rw[ei,ej]at this;have:=h.2 q (m6 hq);lia
theorem mW:‹(1,12,["holes","start"],Kc)›:=λD=>by
 specialize fX D.VG.F eZ;let⟨r,bL,x,rfl,⟨as,h1,p1⟩,FT,k⟩:=h;have n1:=p1.len;exists _,(aj (bx (i:=2) eZ.nd ay) (aj (bx (i:=3) eZ.nd (eE D.T.d8 (pv 0))) (aj (qj PassesOwn.never (aU lO (pv 2) (pv 3) (bu _)) (aj (bx (i:=4) eZ.nd (bP ze (bP fj (pv 2) (pv 3)) ay)) (au (bN (aU uy (aN aT (aN bz (pv 0) (pv 4)) ay) (pv 1) (bu _)) (au (bx (i:=3) eZ.nd (pv 4))) (au (bx (i:=2) eZ.nd (bP fj (pv 4) ay))))))) (au (aL (pv 2))))));exists Y,r,Y,.inl (bG.of h1);rw[bW,n1];refine⟨λm σ H2=>∃ (lo hi:Nat) (u:Option V),σ=[⇑↥r,⇑(.int x),⇑(.int lo),⇑(.int hi),u]/\H2=H/\m=hi-lo/\lo<=hi/\hi<=↑bL/\(∀ i p,bL[i]?=⇑p->i<lo->p.2<=x)/\(∀ i p,bL[i]?=⇑p->hi<=i->x<p.2),⟨_,0,↑bL,none,V,rfl,E,fK _,λi p _ h=>by lia,λi p h1 h2=>by rw[List.getElem?_eq_none h2]at h1;cases h1⟩,?_⟩;rintro m σ H2 ⟨lo,hi,u,rfl,rfl,rfl,lh,hl,b1,b2⟩;refine⟨Y,Y,Z,Y,cM (λc=>?_) (λc=>?_)⟩
 ·have c':(lo:Int)<hi:=of_decide_eq_true c;refine⟨fun σ' H'=>∃ m',m'<hi-lo/\∃ (lo hi:Nat) (u:Option V),σ'=[⇑↥r,⇑(.int x),⇑(.int lo),⇑(.int hi),u]/\H'=H2/\m'=hi-lo/\lo<=hi/\hi<=↑bL/\(∀ i p,bL[i]?=⇑p->i<lo->p.2<=x)/\(∀ i p,bL[i]?=⇑p->hi<=i->x<p.2),fun σ' H' z=>z,?_⟩;have em:((lo:Int)+hi) / 2=((lo+hi) / 2:Nat):=by lia
  refine⟨Y,Y,Z,Z,⟨by decide,by decide⟩,?_⟩;obtain⟨mid,hm⟩:∃ mid,mid=(lo+hi) / 2:=⟨Y⟩;have eP:bL[mid]?=⇑bL[mid]:=nM ∅;have eA:as[mid]?=⇑as[mid]:=nM ∅;let⟨pp,T5,hpp⟩:=p1.get eA;rw[eP]at T5;cases T5
  have ix:qm (as.map V.ref) (((lo:Int)+hi) / 2)=⇑(.ref as[mid]):=by
   rw[em,← hm];exact cQ (by rw[kU,eA];rfl)
  refine⟨Y,Y,r,K,V,bG.of h1,ix,as[mid],K,V,dN.of hpp,HY,Y,Z,Y,cM (λc2=>?_) (λc2=>?_)⟩
  ·have d:x<bL[mid].2:=of_decide_eq_true c2;refine⟨Y,mid-lo,E,lo,mid,⇑(.int (((lo:Int)+hi) / 2)),?_,V,E,E,b1,λi p hp YM=>?_⟩
   ·rw[hm,← em];rfl
   ·have:=FU FT eP hp YM;lia
  ·have d:¬ x<bL[mid].2:=λz=>c2 (decide_eq_true z);refine⟨Y,Z,hi-(mid+1),E,mid+1,hi,⇑(.int (((lo:Int)+hi) / 2)),?_,V,E,hl,λi p hp YM=>?_,b2⟩
   ·have:((lo:Int)+hi) / 2+1=((mid+1:Nat):Int):=by lia
    rw[← this];rfl
   ·have:=FU FT hp eP ∅;lia
 ·have c':¬ (lo:Int)<hi:=λz=>c (decide_eq_true z);have e:hi=lo:=by lia
  subst e;exact⟨Y,k hi ⟨hl,b1,b2⟩⟩
theorem je:aG ["start","stop","holes","told","left","hole"] ["start","stop","holes"] (az sY):=fC
theorem Dz:‹(2,13,["start","stop","holes"],VC)›:=λD=>by
 specialize fX D.Zf.F je;let⟨r,bL,a,b,rfl,R,FT,cX,ab,k⟩:=h;exists _,(aj (bx (i:=3) je.nd (bO ah)) (aj (bx (i:=4) je.nd (pv 0)) (aj (bx (i:=5) je.nd (aM D.VG (mW D) hr (aa (pv 2) (aa (pv 0) ah)))) (aj (qj PassesOwn.never (PW.pt (oF (aU lO (pv 5) (eE D.T.d8 (pv 2)) (bu _)) (mK (aU lO (aN aT (aN bz (pv 2) (pv 5)) ay) (pv 1) (bu _))))) (aj (aV (dm pI jA jB bT (pv 3) (aa (cG (aa (pv 4) (aa (b8 (vV rfl) rfl D.T.Ca PyProof.Rows.boot_max (aa (pv 4) (aa (aN aT (aN bz (pv 2) (pv 5)) ay) ah))) ah))) ah))) (aj (bx (i:=4) je.nd (b8 (nR rfl) rfl D.T.FJ PyProof.Rows.boot_min (aa (aN aT (aN bz (pv 2) (pv 5)) ay) (aa (pv 1) ah)))) (au (vR (i:=5) je.nd rfl (Or.inl rfl) ay Na))))) (aj (aV (dm pI jA jB bT (pv 3) (aa (cG (aa (pv 4) (aa (pv 1) ah))) ah))) (au (aL (pv 3))))))));refine⟨iY,λq hq=>?_⟩;have s0:aH H (aO H q (.lst [])):=ao hq _;refine⟨Y,Y,Y,r,bL,a,rfl,R.same s0,FT,λn fn=>?_⟩;let⟨as,h1,p1⟩:=id R;have n1:=p1.len;let⟨d1,d2⟩:=fn.drop;have fnl:=fn.1;let⟨o1,o2,o3⟩:=TY b (bL.drop n) a ab d1 (FT.drop n);have ol:=OF b (bL.drop n) a;rw[sP]at ol
 have res:bI (lo b a (bL.drop n))=iB bL (fE (a,b)):=by
  rw[o2];refine qB λx hx=>(d2 x ?_).symm;have:=(j5.mp hx).1;simpa using this
 exists λm σ H2=>∃ (i:Nat) (l:Int) (ts:List Addr) (kK:Row),σ=[⇑(.int a),⇑(.int b),⇑↥r,⇑↥q,⇑(.int l),⇑(.int i)]/\H2 q=⇑(.lst (ts.map V.ref))/\br H2 ts kK/\kK++lo b l (bL.drop i)=lo b a (bL.drop n)/\n<=i/\i<=↑bL/\m=↑bL-i/\aH H H2,⟨_,n,a,[],[],rfl,af,.nil,rfl,fK _,fnl,rfl,s0⟩;rintro m σ H2 ⟨i,l,ts,kK,rfl,dH,hb,eq,ni,il,rfl,s2⟩;have tl:=hb.len;have el:=congrArg List.length eq;rw[dM]at el;have TF:=s2 _ _ h1;exists Y,Y,r,Y,.inl (bG.of TF),Z,Y;rw[bW,n1];refine RD (p:=(i:Int)<↑bL) (q:=(bL.getD i (0,0)).1<b) (λpi z=>?_) (λc=>?_) (λc=>?_)
 ·have li:i<↑bL:=by lia
  have eP:bL[i]?=⇑bL[i]:=nM li;have eA:as[i]?=⇑as[i]:=nM ∅;let⟨pp,T5,hpp⟩:=p1.get eA;rw[eP]at T5;cases T5;have gd:bL.getD i (0,0)=bL[i]:=by rw[List.getD_eq_getElem?_getD,eP];rfl
  rw[gd]at z;exact⟨Y,Y,r,K,V,bG.of TF,cQ (by rw[kU,eA];rfl),as[i],K,V,dN.of (s2 _ _ hpp),N4,Y,Z,Y,z⟩
 ·let⟨pi,c2⟩:=c;have li:i<↑bL:=by lia
  have eP:bL[i]?=⇑bL[i]:=nM li;have eA:as[i]?=⇑as[i]:=nM ∅;let⟨pp,T5,hpp⟩:=p1.get eA;rw[eP]at T5;cases T5;have gd:bL.getD i (0,0)=bL[i]:=by rw[List.getD_eq_getElem?_getD,eP];rfl
  rw[gd]at c2;have dr:bL.drop i=bL[i]::bL.drop (i+1):=List.drop_eq_getElem_cons li;have ix:qm (as.map V.ref) (i:Int)=⇑(.ref as[i]):=cQ (by rw[kU,eA];rfl)
  have eq2:kK++[(l,if bL[i].1 > l then bL[i].1 else l)]++lo b (if b<bL[i].2 then b else bL[i].2) (bL.drop (i+1))=lo b a (bL.drop n):=by
   rw[← eq,dr,lo,if_pos c2,m8];rfl
  refine⟨fun σ' H'=>∃ m',m'<↑bL-i/\∃ (i:Nat) (l:Int) (ts:List Addr) (kK:Row),σ'=[⇑(.int a),⇑(.int b),⇑↥r,⇑↥q,⇑(.int l),⇑(.int i)]/\H' q=⇑(.lst (ts.map V.ref))/\br H' ts kK/\kK++lo b l (bL.drop i)=lo b a (bL.drop n)/\n<=i/\i<=↑bL/\m'=↑bL-i/\aH H H',fun σ' H' z=>z,?_⟩;refine⟨Y,.inl ⟨rfl,_,bG.of dH⟩,Y,Y,Y,Y,r,K,V,bG.of TF,ix,as[i],K,V,dN.of (s2 _ _ hpp),N4,Q,rfl,jL,λt ht=>⟨q,Z,ao ht _ _ _ dH,(by rw[bW];exact aS ∅),?_⟩⟩;let⟨g1,g2,g3⟩:=zm (st:=l) (en:=if bL[i].1 > l then bL[i].1 else l) hq s2 dH hb ht;generalize aO (aO H2 t (.tup [.int l,.int (if bL[i].1 > l then bL[i].1 else l)])) q (.lst (ts.map V.ref++[↥t]))=H3 at g1 g2 g3;exists Y,Y,r,K,V,bG.of (g3 _ _ h1),ix,as[i],K,V,dN.of (g3 _ _ hpp),HY,Y,Q,rfl;refine⟨Y,Z,↑bL-(i+1),E,i+1,_,ts++[t],Y,g1,g2,eq2,E,E,rfl,g3⟩
 ·have last:lo b l (bL.drop i)=[(l,b)]:=by
   by_cases li:i<↑bL
   ·have dr:bL.drop i=bL[i]::bL.drop (i+1):=List.drop_eq_getElem_cons li;have gd:bL.getD i (0,0)=bL[i]:=by rw[List.getD_eq_getElem?_getD,nM li];rfl
    rw[dr,lo,if_neg (λz=>c ⟨E,by rw[gd];exact z⟩)]
   ·rw[List.drop_of_length_le ∅];rfl
  rw[last]at eq;refine⟨Y,.inl ⟨rfl,_,bG.of dH⟩,Y,Y,jL,λt ht=>⟨q,Z,ao ht _ _ _ dH,(by rw[bW];exact aS ∅),?_⟩⟩;let⟨g1,g2,g3⟩:=zm (st:=l) (en:=b) hq s2 dH hb ht;rw[eq]at g2;exact⟨Y,k q _ _ ⟨_,g1,g2⟩ o1 res o3 ∅ g3 hq⟩
theorem Ma(aQ:List aR):↑(eG aQ)<=↑aQ:=List.length_filterMap_le _ aQ
class inductive V0
 | mk (r:Addr) (aQ:List aR) (_:vs=[↥r]) (_:bQ H ↥r aQ) (_:↑aQ<=100000) (_ :
 ∀ (o:Addr) (H':Hp),H' o=⇑(.lst ((eG aQ).map V.int))->aH H H'->H o=none->Q ↥o H')
theorem Mb:aG ["items"] ["items"] (az uH):=fC
theorem zL:‹(1,14,["items"],V0)›:=λD=>by
 specialize fX D.VH.F Mb;let⟨r,aQ,rfl,⟨a,vs,e,i9,hp⟩,cX,k⟩:=h;cases e;refine⟨_,(au (aL (fR (N:=["item"]) (jG (sc:=az uH) (NX:=["items"]) (jx:=[none]) rfl rfl rfl nofun nofun rfl nofun rfl nofun) rfl (ck (pv 0)) (λ_ _ _ _ _ _=>(bY (i:=0) (show List.Nodup (["item"]:List Str) by decide +kernel))) (λ_ _ _ _ _ _=>yD (aU cW (aN J6 (pv 0) ay) bh (bu _))) (λ_ _ _ _ _ _=>(aN J6 (pv 0) ay))))),?_⟩;refine⟨Y,r,rfl,⟨_,bG.of i9⟩,λacc cu=>fk (K:=K) (a:=r) (xs:=vs) (λi σ H2=>∃ u:Option V,σ=[u]/\H2 acc=⇑(.lst ((eG (aQ.take i)).map V.int))/\aH H H2) ⟨none,rfl,af,ao cu _⟩ (by rintro i σ H2 _ ⟨_,_,_,s⟩;exact bG.of (s _ _ i9)) ?_ ?_⟩
 ·rintro i x σ H2 hi ⟨u,rfl,ha,s⟩;let⟨it,ei,b,rfl,hb⟩:=hp.get hi;have step:eG (aQ.take (i+1))=eG (aQ.take i)++eG [it]:=by rw[take_snoc ei,fZ]
  have bl:↑(eG (aQ.take i))<=100000:=by
   have z:=Ma (aQ.take i);rw[gx]at z;lia
  cases it with
  | win n =>
   refine⟨Y,b,K,V,dN.of (s _ _ hb),V,Y,cM (λ_=>?_) (λz=>absurd (by decide) z)⟩;refine⟨Y,b,K,V,dN.of (s _ _ hb),rfl,_,ha,(by rw[bW];exact aS ∅),Y,?_,bJ cu s (aF acc _ _)⟩;rw[af,step,gC];rfl
  | aJ p q =>
   refine⟨Y,b,K,V,dN.of (s _ _ hb),V,Y,cM (λz=>absurd z (by decide)) (λ_=>?_)⟩;refine⟨Y,?_,s⟩;rw[ha,step];show _=⇑(HO.lst ((eG (aQ.take i)++[]).map V.int));rw[iS]
 ·rintro σ H2 ⟨u,rfl,ha,s⟩;rw[hp.len,gy]at ha;exact k acc H2 ha s cu
structure Mc(rows:cK)(ks:List Int):Prop where
 Ez:∀ x∈ks,0<=x/\x<↑rows
 dn:∀ (i:Nat) (x:Int),ks[i]?=⇑x->∀ y,kg rows x y->y∈ks.take i
class inductive R0
 | mk (r L:Addr) (rows:cK) (ss:List Int) (_:vs=[↥r,↥L]) (_:gn H r (rows.map aI)) (_:H L=⇑(.lst (ss.map V.int))) (_:↑ss<=1000) (_:↑rows<=1000) (_:(∀ es∈rows,↑es<=1000)) (_:gw rows) (_:xY rows) (_:(∀ s∈ss,0<=s/\s<↑rows)) (_ :
 ∀ (ks:List Int) (o:Addr) (H':Hp),H' o=⇑(.lst (ks.map V.int))->aH H H'->Mc rows ks->(∀ s∈ss,s∈ks)->↑ks<=1000->H o=none->Q ↥o H')
def Mc.snoc{rows:cK}{ks:List Int}{x:Int}(h:Mc rows ks)(h0:0<=x)(h1:x<↑rows)(hx:∀ y,kg rows x y->y∈ks):Mc rows (ks++[x]):=by
 refine⟨λy hy=>?_,λi y hi z hz=>?_⟩
 ·rcases List.mem_append.mp hy with q|q
  ·exact h.Ez y q
  ·have:y=x:=by simpa using q
   lia
 ·by_cases c:i<↑ks
  ·rw[List.getElem?_append_left c]at hi;rw[List.take_append_of_le_length ∅];exact h.dn i y hi z hz
  ·have c2:i=↑ks:=by
    rcases Nat.lt_or_ge i ↑(ks++[x]) with q|q
    ·rw[dM,gF]at q;lia
    ·rw[List.getElem?_eq_none q]at hi;cases hi
   subst c2;rw[List.getElem?_append_right (fK _),Nat.sub_self]at hi;cases hi;rw[List.take_append_of_le_length (fK _),gy];exact hx z hz
def Cd{kvs:List (eV × V)}{ks:List Int}(h:kvs.map (·.1)=ks.map Sum.inl)(x:Int):seen kvs x↔x∈ks:=by
 unfold seen;rw[← l9,List.any_eq_true];constructor
 ·rintro⟨p,hp,e⟩;have e':p.1=Sum.inl x:=of_decide_eq_true e;have:p.1∈ks.map (Sum.inl:Int->eV):=by rw[← h];exact List.mem_map_of_mem hp
  rw[e',List.mem_map]at this;let⟨y,hy,ey⟩:=this;rw[Sum.inl.inj ey]at hy;exact hy
 ·intro hx;have:(Sum.inl x:eV)∈kvs.map (·.1):=by rw[h];exact List.mem_map_of_mem hx
  let⟨p,hp,e⟩:=List.mem_map.mp this;exact⟨p,hp,decide_eq_true e⟩
structure Bel(rows:cK)(rk:Int->Nat)(H:Hp)(W S:Addr)(ss:List Int)(H2:Hp)(bs ps ks:List Int)(kvs:List (eV × V)):Prop where
 hW:H2 W=⇑(.lst ((bs++ps).map V.int))
 hS:H2 S=⇑(.dK kvs)
 sm:aH H H2
 ky:kvs.map (·.1)=ks.map Sum.inl
 tp:Mc rows ks
 rg:∀ x∈bs++ps,0<=x/\x<↑rows
 ns:∀ x∈ps,¬ seen kvs x
 pw:ps.Pairwise λa b=>rk b<rk a
 rb:∀ (i:Nat) (x:Int),ps[i]?=⇑x->rk x+i<=40
 st:∀ s∈ss,s∈bs\/s∈ks
 kl:↑kvs+nG ↑rows kvs<=↑rows
 bl:↑bs<=1000
def Ce{kvs:List (eV × V)}{k:eV}(v:V)(h:(cz kvs k).isSome=true):(ef kvs k v).map (·.1)=kvs.map (·.1):=by
 unfold ef;rw[if_pos (by rw[l9];exact h),List.map_map];refine List.map_congr_left λp _=>?_;show (if p.1=k then (p.1,v) else p).1=p.1
 split <;> rfl
def II{rk:Int->Nat}{ps:List Int}(rb:∀ (i:Nat) (x:Int),ps[i]?=⇑x->rk x+i<=40):↑ps<=41:=by
 rcases mE ps with rfl|⟨p',n,rfl⟩
 ·simp
 ·rw[ki]at rb ⊢;have:=rb ↑p' n (by rw[List.getElem?_append_right (fK _),Nat.sub_self];rfl);rw[dM,gF];lia
structure Top(rk:Int->Nat)(ss bs ps ks:List Int)(kvs:List (eV × V))(AO uZ:List Int)(n:Int):Prop where
 eq:bs++ps=AO++uZ++[n]
 ns:∀ x∈uZ,¬ seen kvs x/\x≠n
 pw:uZ.Pairwise λa b=>rk b<rk a
 rb:∀ (i:Nat) (x:Int),uZ[i]?=⇑x->rk x+i<=40
 st:∀ s∈ss,s∈AO\/s=n\/s∈ks
 old:seen kvs n->AO.length+50-↑uZ<↑bs+50-↑ps
 le:AO.length+50-↑uZ<=↑bs+51-↑ps
 bl:AO.length<=↑bs
 up:∀ y:Int,rk y<=40->rk y<rk n->(ps++[y]).Pairwise (λa b=>rk b<rk a)/\∀ (i:Nat) (x:Int),(ps++[y])[i]?=⇑x->rk x+i<=40
def Bel.top{rows:cK}{rk:Int->Nat}{H:Hp}{W S:Addr}{ss:List Int}{H2:Hp}{bs ps ks:List Int}{kvs:List (eV × V)}(B:Bel rows rk H W S ss H2 bs ps ks kvs):bs++ps=[]\/∃ AO uZ n,Top rk ss bs ps ks kvs AO uZ n:=by
 have OU:∀ (qs:List Int) (y:Int),(∀ (i:Nat) (x:Int),qs[i]?=⇑x->rk x+i<=40)->rk y+↑qs<=40->∀ (i:Nat) (x:Int),(qs++[y])[i]?=⇑x->rk x+i<=40:=by
  intro qs y h1 h2 i x hx;rcases Nat.lt_or_ge i ↑qs with q|q
  ·rw[List.getElem?_append_left q]at hx;exact h1 i x hx
  ·have qi:i=↑qs:=by
    rcases Nat.lt_or_ge i ↑(qs++[y]) with w|w
    ·rw[dM,gF]at w;lia
    ·rw[List.getElem?_eq_none w]at hx;cases hx
   subst qi;rw[List.getElem?_append_right (fK _),Nat.sub_self]at hx;cases hx;exact h2
 rcases mE ps with rfl|⟨uZ,n,rfl⟩
 ·rcases mE bs with rfl|⟨AO,n,rfl⟩
  ·exact .inl rfl
  ·rw[ki]at B ⊢;refine .inr ⟨AO,[],n,by simp,by simp,by simp,by simp,λs hs=>?_,λ_=>?_,?_,?_,λy h1 h2=>⟨by simp,OU [] y (by simp) (by simpa using h1)⟩⟩
   ·rcases B.st s hs with z|z
    ·rcases List.mem_append.mp z with z|z
     ·exact .inl z
     ·exact .inr (.inl (by simpa using z))
    ·exact .inr (.inr z)
   ·rw[dM,gF];simp only[m9];lia
   ·rw[dM,gF];simp only[m9];lia
   ·rw[dM,gF];lia
 ·rw[ki]at B ⊢;have pwd:=List.pairwise_append.mp B.pw;have rbn:=B.rb ↑uZ n (by rw[List.getElem?_append_right (fK _),Nat.sub_self];rfl);refine .inr ⟨bs,uZ,n,by rw[m8],λx hx=>⟨B.ns x (pV _ hx),λe=>?_⟩,pwd.1,λi x hx=>?_,λs hs=>(B.st s hs).elim .inl λz=>.inr (.inr z),λz=>absurd z (B.ns n (by simp)),?_,fK _,λy h1 h2=>⟨?_,OU _ y B.rb ?_⟩⟩
  ·subst e;exact Nat.lt_irrefl _ (pwd.2.2 x hx x (by simp))
  ·refine B.rb i x ?_;rw[List.getElem?_append_left]
   ·exact hx
   ·rcases Nat.lt_or_ge i ↑uZ with q|q
    ·exact q
    ·rw[List.getElem?_eq_none q]at hx;cases hx
  ·rw[dM,gF];lia
  ·rw[List.pairwise_append];refine⟨B.pw,by simp,λa ha c hc=>?_⟩;have:c=y:=by simpa using hc
   subst this;rcases List.mem_append.mp ha with q|q
   ·have:=pwd.2.2 a q n (by simp);lia
   ·have:a=n:=by simpa using q
    subst this;exact h2
  ·rw[dM,gF];lia
def T6(rows:cK)(rk:Int->Nat)(H:Hp)(r L W S:Addr)(ss:List Int)(m:Nat)(σ:L2.St)(H2:Hp):Prop:=∃ (bs ps ks:List Int) (kvs:List (eV × V)) (u v:Option V),σ=[⇑↥r,⇑↥L,⇑↥S,⇑↥W,u,v]/\Bel rows rk H W S ss H2 bs ps ks kvs/\m=100*nG ↑rows kvs+(↑bs+50-↑ps)
theorem vc:aG ["rows","sheets","told","waiting","number","missing"] ["rows","sheets"] (az C3):=fC
theorem FW:‹(2,15,["rows","sheets"],R0)›:=λD=>by
 refine fX D.VI.F vc λcH A zn s0 H vs Q E hr h=>?_;let⟨r,L,rows,ss,rfl,hR,hL,hsl,cX,hes,vJ,⟨rk,hrb,yL⟩,hin,k⟩:=h;have hu:=jc hr;refine⟨_,(aj (bx (i:=2) vc.nd mh) (aj (bx (i:=3) vc.nd (d7 fP rfl D.T.iZ sN (aa (pv 1) ah))) (aj (qj PassesOwn.never (jj (pv 3) (λ_=>rfl)) (aj (bx (i:=4) vc.nd (aN bz (pv 3) (fG dc ay))) (aj (Di (N:=["other","told"]) (i:=5) (jG (sc:=az C3) (NX:=["rows","sheets","told","waiting","number","missing"]) (jx:=[none,some 2]) rfl rfl rfl nofun nofun rfl nofun rfl nofun) rfl vc.nd rfl rfl (ck (aM D.VH (zL D) hr (aa (aN bz (pv 0) (pv 4)) ah))) (λ_ _ _ _ _ _=>(bY (i:=0) (show List.Nodup (["other","told"]:List Str) by decide +kernel))) (λ_ _ _ _ _ _=>yD (CO (BP hu (pv 0) (pv 1)))) (λ_ _ _ _ _ _=>(pv 0))) (au (bN (jj (pv 5) (λ_=>rfl)) (au (aV (dm pI jA jB bT (pv 3) (aa (aN bz (pv 5) ay) ah)))) (aj (uP hu (pv 2) (pv 4) kW rfl) (au (aV (Nz pI PySem.F.slot_list_pop PySem.F.type_list_pop NF (pv 3)))))))))) (au (aL (d7 (Ik rfl) rfl D.T.iZ sN (aa (pv 2) ah))))))),?_⟩;intro S hS;have s1:aH H (aO H S (.dK [])):=ao hS _;refine⟨Y,L,Y,.inl (bG.of (s1 _ _ hL)),λW hW=>?_⟩;have s2:=s1.trans (ao hW (.lst (ss.map V.int)))
 have R4:H W=none:=by
  cases e:H W with
  | none=>rfl
  | some o=>exact absurd ((s1 _ _ e).symm.trans hW) (by simp)
 have T7:W≠S:=(aB af hW).symm;refine⟨T6 rows rk H r L W S ss,⟨_,ss,[],[],[],none,none,rfl,⟨(by rw[af,iS]),ao hW _ _ _ af,s2,rfl,⟨(λx hx=>by cases hx),λi x hi=>by simp at hi⟩,(λx hx=>hin x (by simpa using hx)),by simp,by simp,by simp,(λs hs=>.inl hs),?_,hsl⟩,rfl⟩,?_⟩
 ·have:=zF ↑rows (λi=>(cz ([]:List (eV × V)) (Sum.inl (i:Int))).isNone);show 0+cnt ↑rows _<=_;lia
 rintro m σ H2 ⟨bs,ps,ks,kvs,u,v,rfl,B,rfl⟩;exists Y,!((bs++ps).map V.int).isEmpty,.inl ⟨_,bG.of B.hW,rfl⟩;rcases B.top with en|⟨AO,uZ,n,t⟩
 ·have e2:(!((bs++ps).map V.int).isEmpty)=false:=by rw[en];rfl
  rw[e2];refine dF ?_
  have ek:kvs.map (λp=>kV p.1)=ks.map V.int:=by
   have z:kvs.map (λp=>kV p.1)=(kvs.map (·.1)).map kV:=by rw[List.map_map];rfl
   rw[z,B.ky,List.map_map];rfl
  have kl:↑ks=↑kvs:=by
   have z:=congrArg List.length B.ky;rw[bW,bW]at z;exact z.symm
  have Z7:=B.kl;refine⟨Y,S,kvs,rfl,B.hS,λl hl=>?_⟩;refine k ks l _ (by rw[af,ek]) (B.sm.trans (ao hl _)) B.tp (λs hs=>(B.st s hs).elim (λz=>?_) id) ∅ ?_
  ·rw[(List.append_eq_nil_iff.mp en).1]at z;cases z
  cases e:H l with
  | none=>rfl
  | some o=>exact absurd ((B.sm _ _ e).symm.trans hl) (by simp)
 have eW:=B.hW;rw[t.eq]at eW;rw[t.eq];refine cM (λ_=>?_) (λz=>absurd (by simp) z);refine⟨fun σ' H'=>∃ m',m'<100*nG ↑rows kvs+(↑bs+50-↑ps)/\T6 rows rk H r L W S ss m' σ' H',fun σ' H' z=>z,?_⟩;have an:qm ((AO++uZ++[n]).map V.int) (-1)=⇑(.int n):=by rw[gC];exact dO _ _
 let⟨n0,n1⟩:=B.rg n (by rw[t.eq];simp);have tl:=t.le;have QE:=t.bl;have pl:=II B.rb;have pl':=II t.rb;have bbl:=B.bl;obtain⟨es,gc⟩:∃ es,rows[n.toNat]?=⇑es:=⟨_,nM ∅⟩;have Wa:=hes es (m6 gc);let⟨AD,Kh,vd⟩:=hR.same B.sm;let⟨vi,DA,hI⟩:=vd.get' (i:=n.toNat) (b:=aI es) (by rw[kU,gc];rfl);let⟨b,IJ,rfl,hb,qA⟩:=id hI;have hil:=n6 es []
 have yb:qm AD n=⇑↥b:=by
  have z:=cQ DA;rw[show ((n.toNat:Nat):Int)=n by lia]at z;exact z
 exists Y,Y,W,K,V,bG.of eW,an;refine⟨Y,Y,r,K,V,bG.of Kh,yb,b,aI es,rfl,hI,?_,λz H4 hz s4 nz=>?_⟩
 ·show ↑(es.foldl aZ [])<=_;simp only[m9]at hil;lia
 rw[iu]at hz;have adM:↑(dz es)<=↑es:=List.length_filterMap_le _ es;have Z8:=s4 _ _ B.hS;have hW4:=s4 _ _ eW;refine⟨z,rfl,⟨_,bG.of hz⟩,λacc cu=>fk (K:=K) (a:=z) (xs:=(dz es).map V.int) (λi σ H5=>∃ u:Option V,σ=[u,⇑↥S]/\H5 acc=⇑(.lst ((((dz es).take i).filter (λy=>(cz kvs (Sum.inl y)).isNone)).map V.int))/\aH H4 H5) ⟨none,rfl,af,ao cu _⟩ (by rintro i σ H5 _ ⟨_,_,_,s5⟩;exact bG.of (s5 _ _ hz)) ?_ ?_⟩
 ·rintro i x σ H5 hi ⟨u,rfl,h5,s5⟩;rw[kU]at hi;let⟨y,ey,rfl⟩:=Option.map_eq_some_iff.mp hi;have st:=take_snoc ey
  have bl:↑(((dz es).take i).filter (λy=>(cz kvs (Sum.inl y)).isNone))<=1000:=by
   have z:=List.length_filter_le (λy=>(cz kvs (Sum.inl y)).isNone) ((dz es).take i);rw[gx]at z;lia
  exists Y,Y,S,Y,gT.k (k:=Sum.inl y) (s5 _ _ Z8),Y
  cases ev:cz kvs (Sum.inl y) with
  | none =>
   refine jg ⟨Y,_,h5,(by rw[bW];exact aS ∅),Y,?_,bJ cu s5 (aF acc _ _)⟩;rw[af,st,List.filter_append,List.filter_cons_of_pos (p:=λy=>(cz kvs (Sum.inl y)).isNone) (by rw[ev];rfl),gC];rfl
  | some o =>
   refine dF ⟨Y,?_,s5⟩;rw[st,List.filter_append,List.filter_cons_of_neg (p:=λy=>(cz kvs (Sum.inl y)).isNone) (by rw[ev];exact fL),List.filter_nil,iS];exact h5
 rintro σ H5 ⟨u,rfl,h5,s5⟩;rw[bW,gy]at h5;have hS5:=s5 _ _ Z8;have hW5:=s5 _ _ hW4;have sm5:=B.sm.trans (s4.trans s5);have Z7:=B.kl;exists Y,_,.inl ⟨_,bG.of h5,rfl⟩
 cases em:(dz es).filter (λy=>(cz kvs (Sum.inl y)).isNone) with
 | nil =>
  refine dF ?_
  have adP:∀ y,kg rows n y->y∈ks:=by
   rintro y ⟨_,Bj,he',hy⟩;rw[gc]at he';cases he';rw[← Cd B.ky];have z:=List.filter_eq_nil_iff.mp em y hy;unfold seen
   cases q:cz kvs (Sum.inl y) with
   | none=>rw[q]at z;exact absurd rfl z
   | some o=>rfl
  refine⟨Y,Y,S,Y,Df.k (k:=Sum.inl n) hS5 (aS ∅),?_⟩;have Qv:(aO H5 S (.dK (ef kvs (Sum.inl n) (.bl true)))) W=⇑(.lst ((AO++uZ++[n]).map V.int)):=by rw[aK T7];exact hW5
  refine⟨Y,.inl ⟨rfl,_,bG.of Qv⟩,W,_,.int n,V,Qv,(by simp),?_⟩;have ee:((AO++uZ++[n]).map V.int).dropLast=(AO++uZ).map V.int:=by rw[gC (l₁:=AO++uZ),List.map_singleton,List.dropLast_concat]
  rw[ee];have rg':∀ x∈AO++uZ,0<=x/\x<↑rows:=λx hx=>B.rg x (by rw[t.eq];exact pV _ hx)
  cases en:cz kvs (Sum.inl n) with
  | none =>
   have mp:=Fy (n:=↑rows) (.bl true) n0 n1 en;refine⟨100*nG ↑rows (ef kvs (Sum.inl n) (.bl true))+(AO.length+50-↑uZ),E,AO,uZ,ks++[n],ef kvs (Sum.inl n) (.bl true),Q,rfl,⟨af,(by rw[aK T7.symm,af]),bJ R4 (bJ hS sm5 (aF S _ _)) (aF W _ _),?_,B.tp.snoc n0 n1 adP,rg',λx hx=>?_,t.pw,t.rb,λs hs=>?_,?_,E⟩,rfl⟩
   ·rw[zy _ en,gC,B.ky,gC];rfl
   ·intro q;rcases (Fx _).mp q with e|e
    ·exact (t.ns x hx).2 e
    ·exact (t.ns x hx).1 e
   ·rcases t.st s hs with q|q|q
    ·exact .inl q
    ·exact .inr (by rw[q];simp)
    ·exact .inr (pV _ q)
   ·rw[zy _ en,dM,gF]at *;lia
  | some o =>
   have sn:seen kvs n:=by unfold seen;rw[en];rfl
   have so:=t.old sn
   have sp:∀ x,seen (ef kvs (Sum.inl n) (.bl true)) x↔seen kvs x:=λx=>by
    rw[Fx];exact⟨λz=>z.elim (λe=>by rw[e];exact sn) id,.inr⟩
   have ms:nG ↑rows (ef kvs (Sum.inl n) (.bl true))=nG ↑rows kvs:=by
    refine Ov _ λi _=>?_;have z:=sp (i:Int);unfold seen at z
    cases q1:cz (ef kvs (Sum.inl n) (.bl true)) (Sum.inl (i:Int)) with
    | none =>
     cases q2:cz kvs (Sum.inl (i:Int)) with
     | none=>rfl
     | some o2=>rw[q1,q2]at z;exact absurd (z.mpr rfl) fL
    | some o1 =>
     cases q2:cz kvs (Sum.inl (i:Int)) with
     | none=>rw[q1,q2]at z;exact absurd (z.mp rfl) fL
     | some o2=>rfl
   have kn:n∈ks:=(Cd B.ky n).mp sn;refine⟨100*nG ↑rows (ef kvs (Sum.inl n) (.bl true))+(AO.length+50-↑uZ),by rw[ms];lia,AO,uZ,ks,ef kvs (Sum.inl n) (.bl true),Q,rfl,⟨af,(by rw[aK T7.symm,af]),bJ R4 (bJ hS sm5 (aF S _ _)) (aF W _ _),?_,B.tp,rg',λx hx q=>(t.ns x hx).1 ((sp x).mp q),t.pw,t.rb,λs hs=>?_,?_,E⟩,rfl⟩
   ·rw[Ce _ (by rw[en];rfl),B.ky]
   ·rcases t.st s hs with q|q|q
    ·exact .inl q
    ·exact .inr (by rw[q];exact kn)
    ·exact .inr q
   ·have z:=congrArg List.length (Ce (kvs:=kvs) (k:=Sum.inl n) (.bl true) (by rw[en];rfl));rw[bW,bW]at z;rw[z,ms];exact Z7
 | cons y ts =>
  refine jg ?_;rw[em]at h5;have ym:y∈(dz es).filter (λy=>(cz kvs (Sum.inl y)).isNone):=by rw[em];simp
  let⟨yw,yn⟩:=List.mem_filter.mp ym;have G9:kg rows n y:=⟨n0,es,gc,yw⟩;let⟨y0,y1⟩:=vJ.J8 G9;let⟨up1,up2⟩:=t.up y (hrb y) (yL n y G9);have wl:=congrArg List.length t.eq;rw[dM]at wl;refine⟨Y,.inl ⟨rfl,_,bG.of hW5⟩,Y,acc,K,V,bG.of h5,cQ (xs:=V.int y::ts.map V.int) (j:=0) rfl,W,Z,hW5,(by rw[bW,← wl];exact aS ∅),?_⟩;have pl2:=II up2;rw[dM,gF]at pl2;refine⟨100*nG ↑rows kvs+(↑bs+50-↑(ps++[y])),?_,bs,ps++[y],ks,kvs,Q,rfl,⟨(by rw[af,← m8,t.eq,gC (l₁:=AO++uZ++[n])];rfl),(by rw[aK T7.symm];exact hS5),bJ R4 sm5 (aF W _ _),B.ky,B.tp,λx hx=>?_,λx hx=>?_,up1,up2,B.st,Z7,bbl⟩,rfl⟩
  ·rw[dM,gF];lia
  ·rw[← m8]at hx;rcases List.mem_append.mp hx with q|q
   ·exact B.rg x q
   ·have:x=y:=by simpa using q
    subst this;exact⟨y0,y1⟩
  ·rcases List.mem_append.mp hx with q|q
   ·exact B.ns x q
   ·have:x=y:=by simpa using q
    subst this;intro q;unfold seen at q
    cases w:cz kvs (Sum.inl x) with
    | none=>rw[w]at q;cases q
    | some o=>rw[w]at yn;cases yn
structure Bfs(rows:cK)(H:Hp)(W S:Addr)(s:Int)(H2:Hp)(vs:List V)(wl:cK)(kvs:List (eV × V)):Prop where
 hW:H2 W=⇑(.lst vs)
 hl:bV (fN (λa=>a=W\/a=S) H2) vs wl
 hS:H2 S=⇑(.dK kvs)
 sm:aH H H2
 wk:∀ w∈wl,↑w<=↑kvs+1/\∃ e,w.getLast?=⇑e/\0<=e/\e<↑rows/\(e=s\/Reach (kg rows) s e)
 kl:↑kvs+nG ↑rows kvs<=↑rows
class inductive T8
 | mk (r:Addr) (rows:cK) (s g:Int) (_:vs=[↥r,.int s,.int g]) (_:gn H r (rows.map aI)) (_:↑rows<=1000) (_:(∀ es∈rows,↑es<=1000)) (_:gw rows) (_:0<=s) (_:s<↑rows) (_:¬ Reach (kg rows) s g) (_:∀ H',aH H H'->Q .gj H')
theorem iN:aG ["rows","start","goal","ways","seen","way","number"] ["rows","start","goal"] (az oN):=fC
def muW(n:Nat)(W S:Addr):L2.St->Hp->Nat:=λ_ H=>match H W,H S with
 | some (.lst vs),some (.dK kvs)=>2*nG n kvs+↑vs
 | _,_=>0
def OV{n:Nat}{W S:Addr}{σ:L2.St}{H:Hp}{vs:List V}{kvs:List (eV × V)}(h1:H W=⇑(.lst vs))(h2:H S=⇑(.dK kvs)):muW n W S σ H=2*nG n kvs+↑vs:=by
 unfold muW;rw[h1,h2]
def T9(rows:cK)(H:Hp)(r W S:Addr)(s g:Int)(σ:L2.St)(H2:Hp):Prop:=∃ (vs:List V) (wl:cK) (kvs:List (eV × V)) (u v:Option V),σ=[⇑↥r,⇑(.int s),⇑(.int g),⇑↥W,⇑↥S,u,v]/\Bfs rows H W S s H2 vs wl kvs/\↑vs+2*nG ↑rows kvs<=2*↑rows+1
theorem zM:‹(2,16,["rows","start","goal"],T8)›:=λD=>by
 refine fX D.Zg.F iN λcH A zn s0 H vs Q E hr h=>?_;let⟨r,rows,s,g,rfl,hR,cX,hes,vJ,h0,h1,nr,kN⟩:=h;have hu:=jc hr;refine⟨_,(aj (bx (i:=3) iN.nd (bO (aa (bO (aa (pv 1) ah)) ah))) (aj (bx (i:=4) iN.nd mh) (aj (qj PassesOwn.never (jj (pv 3) (λ_=>rfl)) (aj (bx (i:=5) iN.nd (dm pI PySem.F.slot_list_pop PySem.F.type_list_pop NG (pv 3) (aa ay ah))) (au (d9 PassesOwn.never rfl (ck (aM D.VH (zL D) hr (aa (aN bz (pv 0) (aN bz (pv 5) (fG dc ay))) ah))) (bY (i:=6) iN.nd) (aj (bN (aU cW (pv 6) (pv 2) (bu _)) (au (aL (bP ko (pv 5) (bO (aa (pv 2) ah))))) aW) (au (bN (CO (BP hu (pv 6) (pv 4))) (aj (uP hu (pv 4) (pv 6) kW rfl) (au (aV (dm pI jA jB bT (pv 3) (aa (bP ko (pv 5) (bO (aa (pv 6) ah))) ah))))) aW))))))) (au (aL Uz))))),?_⟩;refine⟨Y,kG,λa0 Cc=>⟨kG,λW hW=>?_⟩⟩;intro S hS;have s1:aH H (aO H a0 (.lst [.int s])):=ao Cc _;have s2:=s1.trans (ao hW (.lst [↥a0]));have s3:=s2.trans (ao hS (.dK []))
 have R4:H W=none:=by
  cases e:H W with
  | none=>rfl
  | some o=>exact absurd ((s1 _ _ e).symm.trans hW) (by simp)
 have H0S:H S=none:=by
  cases e:H S with
  | none=>rfl
  | some o=>exact absurd ((s2 _ _ e).symm.trans hS) (by simp)
 have T7:W≠S:=aB af hS;have n0W:a0≠W:=aB af hW;have n0S:a0≠S:=aB (ao hW _ _ _ af) hS;exists λm σ H2=>m=muW ↑rows W S σ H2/\T9 rows H r W S s g σ H2,⟨Y,?_⟩
 ·have cl:=zF ↑rows (λi=>(cz ([]:List (eV × V)) (Sum.inl (i:Int))).isNone);refine⟨[↥a0],[[s]],[],none,none,rfl,⟨ao hS _ _ _ af,.cons ⟨a0,rfl,(λz=>z.elim n0W n0S),ao hS _ _ _ (ao hW _ _ _ af)⟩ .nil,af,s3,?_,?_⟩,?_⟩
  ·intro w hw;have:w=[s]:=by simpa using hw
   subst this;exact⟨by simp,s,rfl,h0,h1,.inl rfl⟩
  ·show 0+nG ↑rows []<=↑rows;unfold nG;lia
  ·show 1+2*nG ↑rows []<=_;unfold nG;lia
 ·rintro m σ H2 ⟨rfl,vs,wl,kvs,u,v,rfl,B,hml⟩;rw[OV B.hW B.hS];exists Y,!vs.isEmpty,.inl ⟨vs,bG.of B.hW,rfl⟩
  cases vs with
  | nil =>
   exact dF (kN H2 B.sm)
  | cons v0 Dj =>
   refine jg ⟨fun σ' H'=>T9 rows H r W S s g σ' H'/\muW ↑rows W S σ' H'<2*nG ↑rows kvs+↑(v0::Dj),fun σ' H' ⟨p,l⟩=>⟨_,l,rfl,p⟩,?_⟩;let⟨Z9,C0,Vx,sm2,wk2,kl2⟩:=id B
   cases C0 with
   | @cons _ w0 _ Xr hv0 adS =>
   let⟨wa,rfl,nwa,hwa⟩:=id hv0;let⟨wlw,e,hle,e0,e1,Hf⟩:=wk2 w0 (by simp)
   have wal:∃ w1,w0=w1++[e]:=by
    rw[List.getLast?_eq_some_iff]at hle;exact hle
   let⟨w1,rfl⟩:=wal;obtain⟨es,gc⟩:∃ es,rows[e.toNat]?=⇑es:=⟨_,nM ∅⟩;have adT:es∈rows:=m6 gc;have Wa:=hes es adT;exists Y,.inl ⟨rfl,_,bG.of Z9⟩,W,_,0,0,↥wa,V,Z9,by decide,by decide,(by simp[seqIndex?]),rfl;have ee:(V.ref wa::Dj).eraseIdx 0=Dj:=rfl;rw[ee];have aaa:∀ {v:V} {ns:List Int},fN (λa=>a=W\/a=S) H2 v ns->fN (λa=>a=W\/a=S) (aO H2 W (.lst Dj)) v ns:=λh=>h.at _ (.inl rfl);have OW:aH H (aO H2 W (.lst Dj)):=bJ R4 sm2 (aF W _ _);let⟨AD,L6,vd⟩:=hR.same OW;let⟨vi,DA,hI⟩:=vd.get' (i:=e.toNat) (b:=aI es) (by rw[kU,gc];rfl);let⟨b,IJ,rfl,hb,qA⟩:=id hI
   have adU:(aO H2 W (.lst Dj)) wa=⇑(.lst (w1.map V.int++[.int e])):=by
    rw[aK (λz=>nwa (.inl z)),hwa,gC];rfl
   have hil:=n6 es [];refine⟨Y,Y,Y,wa,K,V,bG.of adU,dO _ _,r,K,V,bG.of L6,?_,b,aI es,rfl,hI,?_,λz H4 hz s4 nz=>?_⟩
   ·have z:=cQ DA;rw[show ((e.toNat:Nat):Int)=e by lia]at z;exact z
   ·show ↑(es.foldl aZ [])<=_;simp only[m9]at hil;lia
   rw[iu]at hz;have hW3:(aO H2 W (.lst Dj)) W=⇑(.lst Dj):=af;have Me:(aO H2 W (.lst Dj)) S=⇑(.dK kvs):=by rw[aK T7.symm];exact Vx
   have nzW:z≠W:=(aB hW3 nz).symm;have nzS:z≠S:=(aB Me nz).symm;have adM:↑(dz es)<=↑es:=List.length_filterMap_le _ es;refine⟨z,rfl,⟨_,bG.of hz⟩,cV (K:=K) (a:=z) (xs:=(dz es).map V.int) (λi σ H5=>∃ (Qw:List V) (Xs:cK) (pY:List (eV × V)) (v:Option V),σ=[⇑↥r,⇑(.int s),⇑(.int g),⇑↥W,⇑↥S,⇑↥wa,v]/\ Bfs rows H W S s H5 Qw Xs pY/\fN (λa=>a=W\/a=S) H5 ↥wa (w1++[e])/\fN (λa=>a=W\/a=S) H5 ↥z (dz es)/\Qw.length+2*nG ↑rows pY<=Dj.length+2*nG ↑rows kvs/\↑kvs<=↑pY) ?_ ?_ ?_ ?_⟩
   ·refine⟨Dj,Xr,kvs,Y,⟨s4 _ _ hW3,adS.mono λ_ _ h=>(aaa h).same s4,s4 _ _ Me,OW.trans s4,λw hw=>wk2 w (nO _ hw),kl2⟩,(aaa hv0).same s4,⟨z,rfl,λq=>q.elim nzW nzS,hz⟩,fK _,fK _⟩
   ·rintro i σ H5 _ ⟨_,_,_,_,_,_,_,⟨a,ea,_,ha⟩,_⟩;cases ea;exact bG.of ha
   ·rintro i x σ H5 hi ⟨Qw,Xs,pY,v,rfl,B5,Sb,hz5,Xu,hk5⟩;rw[kU]at hi;let⟨y,ey,rfl⟩:=Option.map_eq_some_iff.mp hi;have G9:kg rows e y:=⟨e0,es,gc,m6 ey⟩;let⟨y0,y1⟩:=vJ.J8 G9
    have sy:Reach (kg rows) s y:=by
     rcases Hf with rfl|q
     ·exact .one G9
     ·exact .step q G9
    let⟨wa',ewa,adW,aab⟩:=id Sb;cases ewa;have wl0:↑(w1++[e])<=2000:=by have:=B5.kl;lia
    refine⟨Y,Y,rfl,Y,cM (λc=>?_) (λc=>?_)⟩
    ·have eg:y=g:=V.int.inj (of_decide_eq_true c);exact absurd (eg ▸ sy) nr
    ·exists Y,Y,S,Y,gT.k (k:=Sum.inl y) B5.hS,Y
     cases ev:cz pY (Sum.inl y) with
     | some o1 =>
      refine dF ?_;exact⟨Qw,Xs,pY,Y,B5,Sb,hz5,Xu,hk5⟩
     | none =>
      refine jg ?_;have Z7:=B5.kl;refine⟨Y,Y,S,Y,Df.k (k:=Sum.inl y) B5.hS (aS ∅),?_⟩;have e6:∀ {v:V} {ns:List Int},fN (λa=>a=W\/a=S) H5 v ns->fN (λa=>a=W\/a=S) (aO H5 S (.dK (ef pY (Sum.inl y) (.bl true)))) v ns:=λh=>h.at _ (.inr rfl);have s6:aH H (aO H5 S (.dK (ef pY (Sum.inl y) (.bl true)))):=bJ H0S B5.sm (aF S _ _);have Qv:(aO H5 S (.dK (ef pY (Sum.inl y) (.bl true)))) W=⇑(.lst Qw):=by rw[aK T7];exact B5.hW
      have aac:(aO H5 S (.dK (ef pY (Sum.inl y) (.bl true)))) wa=⇑(.lst ((w1++[e]).map V.int)):=by rw[aK (λq=>adW (.inr q))];exact aab
      have Wb:(aO H5 S (.dK (ef pY (Sum.inl y) (.bl true)))) S=⇑(.dK (ef pY (Sum.inl y) (.bl true))):=af;generalize aO H5 S (.dK (ef pY (Sum.inl y) (.bl true)))=H6 at e6 s6 Qv aac Wb;have vl:Qw.length<sizeLine:=aS (by simp only[jS]at hml;lia);refine⟨Y,.inl ⟨rfl,_,bG.of Qv⟩,Y,Y,kG,λb1 ED=>⟨wa,b1,Z,ao ED _ _ _ aac,af,iC (aS (by rw[bW];simp at wl0 ⊢;lia)),λo ho=>⟨W,Z,ao ho _ _ _ (ao ED _ _ _ Qv),vl,?_⟩⟩⟩;have s7:aH H6 (aO H6 b1 (.lst [.int y])):=ao ED _;have s8:=s7.trans (ao ho (.lst ((w1++[e]).map V.int++[.int y])));have noW:o≠W:=(aB (s7 _ _ Qv) ho).symm;have noS:o≠S:=(aB (s7 _ _ Wb) ho).symm;have e9:∀ {v:V} {ns:List Int},fN (λa=>a=W\/a=S) H5 v ns->fN (λa=>a=W\/a=S) (aO (aO (aO H6 b1 (.lst [.int y])) o (.lst ((w1++[e]).map V.int++[.int y]))) W (.lst (Qw++[↥o]))) v ns:=λh=>((e6 h).same s8).at _ (.inl rfl);have mp:=Fy (n:=↑rows) (.bl true) y0 y1 ev;have pl:↑(ef pY (Sum.inl y) (.bl true))=↑pY+1:=by rw[zy _ ev];simp
      exists Qw++[↥o],Xs++[w1++[e]++[y]],ef pY (Sum.inl y) (.bl true),Y,⟨af,bV.snoc (B5.hl.mono λ_ _ h=>e9 h) ⟨o,rfl,λq=>q.elim noW noS,?_⟩,?_,bJ R4 (s6.trans s8) (aF W _ _),?_,?_⟩,e9 Sb,e9 hz5,?_
      ·rw[aK noW,af,gC (l₁:=w1++[e])];rfl
      ·rw[aK T7.symm];exact s8 _ _ Wb
      ·intro w hw;rcases List.mem_append.mp hw with q|q
       ·let⟨q2,q3⟩:=B5.wk w q;exact⟨E,q3⟩
       ·have:w=w1++[e]++[y]:=by simpa using q
        subst this;refine⟨?_,y,by simp,y0,y1,.inr sy⟩;rw[dM,gF,pl];lia
      ·lia
      ·rw[dM,gF];lia
      ·lia
   ·rintro σ H5 ⟨Qw,Xs,pY,v,rfl,B5,Sb,hz5,Xu,hk5⟩;simp only[jS]at hml;exists ⟨Qw,Xs,pY,Q,rfl,B5,E⟩;rw[OV B5.hW B5.hS,jS];lia
class inductive Wc
 | mk (r:Addr) (s:Int) (_:vs=[↥r,.int s]) (_:T8 [↥r,.int s,.int s] H Q E)
theorem Wd:aG ["rows","sheet"] ["rows","sheet"] (az NQ):=fC
theorem Sd:‹(3,17,["rows","sheet"],Wc)›:=λD=>by
 specialize fX D.Zh.F Wd;let⟨r,s,rfl,h⟩:=h;exists _,(au (aL (aM D.Zg (zM D) hr (aa (pv 0) (aa (pv 1) (aa (pv 1) ah))))));exists Y,Y,Y;let⟨r',rows,s',g,e,h1,h2,h3,h4,h5,h6,nr,kN⟩:=h;cases e;exact⟨r,rows,s,s,rfl,h1,h2,h3,h4,h5,h6,nr,kN⟩
def dX(f:Int->Int)(es:List Int):Int:=(es.map λe=>if e<0 then 1+f (-1-e) else 1).sum
def DB(f:Int->Int):aR->Int
 | .win n=>1+f n
 | .aJ a b=>b-a
def FY(f:Int->Int)(aQ:List aR):Int:=(aQ.map (DB f)).sum
def mj(f:Int->Int)(a b:List aR):FY f (a++b)=FY f a+FY f b:=by unfold FY;rw[gC,List.sum_append]
def OX(f:Int->Int)(t:List aR)(e:Int):FY f (aZ t e)=FY f t+(if e<0 then 1+f (-1-e) else 1):=by
 unfold aZ;by_cases h:e<0
 ·rw[if_pos h,if_pos h,mj];simp[FY,DB]
 ·rw[if_neg h,if_neg h];rcases mE t with rfl|⟨t',l,rfl⟩
  ·simp[FY,DB];lia
  ·rw[ki,m7]
   cases l with
   | win n =>
    show FY f (t'++[aR.win n]++[.aJ e (e+1)])=_;rw[mj];simp[FY,DB];lia
   | aJ a b =>
    show FY f (if b=e then (t'++[aR.aJ a b]).dropLast++[.aJ a (e+1)] else (t'++[aR.aJ a b])++[.aJ e (e+1)])=_;by_cases hb:b=e
    ·rw[if_pos hb,List.dropLast_concat,mj,mj];simp[FY,DB];lia
    ·rw[if_neg hb,mj];simp[FY,DB];lia
def Mf(f:Int->Int)(es:List Int):FY f (aI es)=dX f es:=by
 have z:∀ t:List aR,FY f (es.foldl aZ t)=FY f t+dX f es:=by
  induction es with
  | nil=>intro t;simp[dX]
  | cons e es ih =>
   intro t;rw[kj,ih,OX];unfold dX;rw[jh,List.sum_cons];lia
 have:=z [];unfold aI;rw[this];simp[FY]
def Weighs(rows:cK)(f:Int->Int):Prop:=∀ (x:Int) (es:List Int),0<=x->rows[x.toNat]?=⇑es->f x=dX f es
def wF(rows:cK):Nat->Int->Int
 | 0,_=>0
 | k+1,x=>match rows[x.toNat]? with
  | some es=>dX (wF rows k) es
  | none=>0
def t6{f g:Int->Int}{es:List Int}(h:∀ y∈dz es,f y=g y):dX f es=dX g es:=by
 unfold dX;congr 1;refine List.map_congr_left λe he=>?_;by_cases c:e<0
 ·rw[if_pos c,if_pos c,h (-1-e) (bM.mpr ⟨E,by rw[show -1-(-1-e)=e by lia];exact he⟩)]
 ·rw[if_neg c,if_neg c]
def Cf{rows:cK}(h:xY rows):∃ f,Weighs rows f:=by
 let⟨rk,hb,hd⟩:=h
 have key:∀ (k:Nat) (x:Int),0<=x->rk x<k->wF rows k x=wF rows (k+1) x:=by
  intro k
  induction k with
  | zero=>intro x _ h;lia
  | succ k ih =>
   intro x x0 hx
   cases e:rows[x.toNat]? with
   | none=>simp[wF,e]
   | some es =>
    have e1:wF rows (k+1) x=dX (wF rows k) es:=by simp[wF,e]
    have e2:wF rows (k+1+1) x=dX (wF rows (k+1)) es:=by
     show (match rows[x.toNat]? with|some es=>dX (wF rows (k+1)) es|none=>0)=_;rw[e]
    rw[e1,e2];refine t6 λy hy=>ih y (bM.mp hy).1 ?_;have:=hd x y ⟨x0,es,e,hy⟩;lia
 refine⟨wF rows 41,λx es x0 he=>?_⟩;rw[key 41 x x0 (by have:=hb x;lia)];show (match rows[x.toNat]? with|some es=>dX (wF rows 41) es|none=>0)=_;rw[he]
class inductive adX
 | mk (v:V) (it:aR) (S:Addr) (kvs:List (eV × V)) (f:Int->Int) (_:vs=[v,↥S]) (_:cC H v it) (_:H S=⇑(.dK kvs)) (_:(∀ n,it=.win n->cz kvs (Sum.inl n)=⇑(.int (f n)))) (_:Q (.int (DB f it)) H)
theorem AQ:aG ["item","weights"] ["item","weights"] (az oO):=fC
theorem zN:‹(1,18,["item","weights"],adX)›:=λD=>by
 specialize fX D.Zi.F AQ;let⟨v,it,S,kvs,f,rfl,⟨a,rfl,ha⟩,hS,hw,k⟩:=h;have hu:=jc hr;exists _,(aj (bN (aU cW (aN aT (pv 0) ay) bh (bu _)) (au (aL (bP fj ay (gi hu (pv 1) (aN aT (pv 0) ay))))) aW) (au (aL (bP dY (aN aT (pv 0) ay) (aN aT (pv 0) ay)))))
 cases it with
 | win n =>
  refine⟨Y,a,K,V,dN.of ha,V,Y,cM (λ_=>?_) (λz=>absurd (by decide) z)⟩;have z:=gT.k (k:=Sum.inl n) hS;rw[hw n rfl]at z;exact⟨Y,Y,a,K,V,dN.of ha,rfl,S,Y,z,Z,k⟩
 | aJ p q =>
  refine⟨Y,a,K,V,dN.of ha,V,Y,cM (λz=>absurd z (by decide)) (λ_=>?_)⟩;exact⟨Y,a,K,V,dN.of ha,rfl,Y,a,K,V,dN.of ha,rfl,Z,k⟩
class inductive IK
 | mk (r L:Addr) (rows:cK) (ss:List Int) (f:Int->Int) (_:vs=[↥r,↥L]) (_:gn H r (rows.map aI)) (_:H L=⇑(.lst (ss.map V.int))) (_:↑ss<=1000) (_:↑rows<=1000) (_:(∀ es∈rows,↑es<=1000)) (_:gw rows) (_:xY rows) (_:(∀ s∈ss,0<=s/\s<↑rows)) (_:Weighs rows f) (_ :
 ∀ (S:Addr) (kvs:List (eV × V)) (H':Hp),H' S=⇑(.dK kvs)->(∀ s∈ss,cz kvs (Sum.inl s)=⇑(.int (f s)))->aH H H'->H S=none->Q ↥S H')
theorem kM:aG ["rows","sheets","weights","number"] ["rows","sheets"] (az jk):=fC
theorem om:‹(3,19,["rows","sheets"],IK)›:=λD=>by
 refine fX D.VJ.F kM λcH A zn s0 H vs Q E hr h=>?_;let⟨r,L,rows,ss,f,rfl,hR,hL,hsl,cX,hes,vJ,yL,hin,hf,k⟩:=h;have hu:=jc hr;refine⟨_,(aj (bx (i:=2) kM.nd mh) (aj (d9 PassesOwn.never rfl (ck (aM D.VI (FW D) hr (aa (pv 0) (aa (pv 1) ah)))) (bY (i:=3) kM.nd) (au (uP hu (pv 2) (pv 3) (b8 (E6 rfl) rfl D.T.T4 PyProof.Rows.boot_sum (aa (fR (N:=["item","weights"]) (jG (sc:=az jk) (NX:=["rows","sheets","weights","number"]) (jx:=[none,some 2]) rfl rfl rfl nofun nofun rfl nofun rfl nofun) rfl (ck (aN bz (pv 0) (pv 3))) (λ_ _ _ _ _ _=>(bY (i:=0) (show List.Nodup (["item","weights"]:List Str) by decide +kernel))) (λ_ _ _ _ _ _=>fQ) (λ_ _ _ _ _ _=>(aM D.Zi (zN D) hr (aa (pv 0) (aa (pv 1) ah))))) ah)) rfl))) (au (aL (pv 2))))),?_⟩;intro S hS;have s1:aH H (aO H S (.dK [])):=ao hS _;refine⟨Y,Y,r,L,rows,ss,rfl,hR.same s1,s1 _ _ hL,hsl,cX,hes,vJ,yL,hin,λks o H2 ho s2 tp sk kl Tv=>?_⟩;have Vx:=s2 _ _ (af (H:=H) (a:=S) (o:=.dK []));have noS:o≠S:=(aB af Tv).symm;refine⟨o,rfl,⟨_,bG.of ho⟩,cV (K:=K) (a:=o) (xs:=ks.map V.int) (λi σ H3=>∃ (kvs:List (eV × V)) (u:Option V),σ=[⇑↥r,⇑↥L,⇑↥S,u]/\H3 S=⇑(.dK kvs)/\(∀ y∈ks.take i,cz kvs (Sum.inl y)=⇑(.int (f y)))/\↑kvs<=i/\(∀ a ob,a≠S->H2 a=⇑ob->H3 a=⇑ob)) ⟨[],none,rfl,Vx,(λy hy=>by simp at hy),fK _,λ_ _ _ e=>e⟩ ?_ ?_ ?_⟩
 ·rintro i σ H3 _ ⟨_,_,_,_,_,_,k3⟩;exact bG.of (k3 o _ noS ho)
 ·rintro i x σ H3 hi ⟨kvs,u,rfl,Me,MX,hk3,k3⟩;rw[kU]at hi;let⟨x,ex,rfl⟩:=Option.map_eq_some_iff.mp hi;let⟨x0,x1⟩:=tp.Ez x (m6 ex);obtain⟨es,gc⟩:∃ es,rows[x.toNat]?=⇑es:=⟨_,nM ∅⟩;have Wa:=hes es (m6 gc);have OW:aH H H3:=λa ob e=>k3 a ob (aB e hS) (s2 _ _ (s1 _ _ e));let⟨AD,L6,vd⟩:=hR.same OW;let⟨vi,DA,hI⟩:=vd.get' (i:=x.toNat) (b:=aI es) (by rw[kU,gc];rfl);let⟨b,IJ,rfl,hb,qA⟩:=id hI;have hil:=n6 es []
  have ajp:↑(aI es)<=1000:=by
   show ↑(es.foldl aZ [])<=_;simp only[m9]at hil;lia
  have yb:qm AD x=⇑↥b:=by
   have z:=cQ DA;rw[show ((x.toNat:Nat):Int)=x by lia]at z;exact z
  refine⟨Y,Y,r,K,V,bG.of L6,yb,b,rfl,⟨_,bG.of hb⟩,λacc cu=>fk (K:=K) (a:=b) (xs:=IJ) (λj σ H5=>∃ u:Option V,σ=[u,⇑↥S]/\H5 acc=⇑(.lst ((((aI es).take j).map (DB f)).map V.int))/\aH H3 H5) ⟨none,rfl,af,ao cu _⟩ (λj σ H5 _ ⟨K,s5⟩=>bG.of (s5 _ _ hb)) ?_ ?_⟩
  ·rintro j v σ H5 hj ⟨u,rfl,h5,s5⟩;let⟨it,ei,hiv⟩:=qA.get hj;have st:=take_snoc ei;unfold rX N7;refine jg ⟨Y,Y,v,it,S,kvs,f,rfl,hiv.same s5,s5 _ _ Me,λn hn=>?_,?_⟩
   ·subst hn;refine MX n (tp.dn i x ex n ⟨x0,es,gc,?_⟩);rw[← iu];unfold eG;rw[List.mem_filterMap];exact⟨.win n,m6 ei,rfl⟩
   ·refine⟨_,h5,(by rw[bW,bW,gx];exact aS ∅),Y,?_,bJ cu s5 (aF acc _ _)⟩;rw[af,st,gC,gC];rfl
  ·rintro σ H5 ⟨u,rfl,h5,s5⟩;rw[qA.len,gy]at h5;have es1:((aI es).map (DB f)).sum=f x:=by rw[hf x es x0 gc];exact Mf f es
   have hS5:=s5 _ _ Me
   have kvl:i<↑ks:=by
    rcases Nat.lt_or_ge i ↑ks with q|q
    ·exact q
    ·rw[List.getElem?_eq_none q]at ex;cases ex
   exists acc,Y,bG.of h5;rw[es1];refine⟨Y,Y,S,Y,Df.k (k:=Sum.inl x) hS5 (aS ∅),?_⟩;refine⟨ef kvs (Sum.inl x) (.int (f x)),Y,af,λy hy=>?_,?_,λa ob n e=>?_⟩
   ·rw[j3];rw[take_snoc ex]at hy;by_cases c:y=x
    ·rw[if_pos (by rw[c]),c]
    ·rw[if_neg (λz=>c (Sum.inl.inj z))];rcases List.mem_append.mp hy with q|q
     ·exact MX y q
     ·exact absurd (by simpa using q) c
   ·have:=gS kvs (Sum.inl x) (V.int (f x));lia
   ·rw[aK n];exact s5 _ _ (k3 a ob n e)
 ·rintro σ H3 ⟨kvs,u,rfl,Me,MX,hk3,k3⟩;rw[bW,gy]at MX;exact⟨Y,k S kvs H3 Me (λs hs=>MX s (sk s hs)) (λa ob e=>k3 a ob (aB e hS) (s2 _ _ (s1 _ _ e))) hS⟩
class inductive OY
 | mk (r:Addr) (rows:cK) (s:Int) (f:Int->Int) (_:vs=[↥r,.int s]) (_:gn H r (rows.map aI)) (_:↑rows<=1000) (_:(∀ es∈rows,↑es<=1000)) (_:gw rows) (_:xY rows) (_:0<=s) (_:s<↑rows) (_:Weighs rows f) (_ :
 ∀ H':Hp,aH H H'->Q (.int (f s)) H')
theorem OZ:aG ["rows","sheet"] ["rows","sheet"] (az C4):=fC
theorem Mg:‹(4,20,["rows","sheet"],OY)›:=λD=>by
 refine fX D.VL.F OZ λcH A zn s0 H vs Q E hr h=>?_;let⟨r,rows,s,f,rfl,hR,cX,hes,vJ,yL,h0,h1,hf,k⟩:=h;have hu:=jc hr;exists _,(au (aL (gi hu (aM D.VJ (om D) hr (aa (pv 0) (aa (bO (aa (pv 1) ah)) ah))) (pv 1))));refine⟨Y,Y,kG,λL hL=>?_⟩;have s1:aH H (aO H L (.lst [.int s])):=ao hL _;refine⟨r,L,rows,[s],f,rfl,hR.same s1,af,(by simp),cX,hes,vJ,yL,(λx hx=>by rw[List.mem_singleton.mp hx];exact⟨h0,h1⟩),hf,λS kvs H' hS hv s' _=>?_⟩;have z:=gT.k (k:=Sum.inl s) hS;rw[hv s (by simp)]at z;exact⟨Y,S,Y,z,k H' (s1.trans s')⟩
def pM(g:Int->Row):aR->Row
 | .win n=>g n
 | .aJ a b=>[(a,b)]
def cN(sh:Int->List Int)(e:Int):List Int:=if e<0 then sh (-1-e) else [e]
def bK(sh:Int->List Int)(es:List Int):List Int:=es.flatMap (cN sh)
def qF(rows:cK)(sh:Int->List Int):Prop:=∀ (x:Int) (es:List Int),0<=x->rows[x.toNat]?=⇑es->sh x=bK sh es
def bR(sh:Int->List Int)(aQ:List aR):Row:=aQ.flatMap (pM λn=>cR (sh n))
def sH(t:List aR):Prop:=∀ a b,aR.aJ a b∈t->a<b
def eT(sh:Int->List Int)(a b:List aR):bR sh (a++b)=bR sh a++bR sh b:=by unfold bR;rw[List.flatMap_append]
def jM(sh:Int->List Int)(it:aR):bR sh [it]=pM (λn=>cR (sh n)) it:=by simp[bR]
def Mh(sh:Int->List Int)(t:List aR)(e:Int)(ok:sH t):bI (bR sh (aZ t e))=bI (bR sh t)++cN sh e/\sH (aZ t e):=by
 have add:∀ it:aR,(∀ a b,it=.aJ a b->a<b)->sH (t++[it]):=λit h a b hm=>by
  rcases List.mem_append.mp hm with z|z
  ·exact ok a b z
  ·exact h a b (List.mem_singleton.mp z).symm
 unfold aZ;by_cases h:e<0
 ·rw[if_pos h];refine⟨?_,add _ λa b z=>by cases z⟩;rw[eT,cS,jM];show _++bI (cR (sh (-1-e)))=_;rw[eS];unfold cN;rw[if_pos h]
 ·rw[if_neg h]
  have one:bI [(e,e+1)]=[e]:=by
   rw[eX];unfold fE;have:(e+1-e).toNat=1:=by lia
   show run e (e+1-e).toNat=_;rw[this];rfl
  have es1:cN sh e=[e]:=by unfold cN;rw[if_neg h]
  have ve:bI (bR sh (t++[.aJ e (e+1)]))=bI (bR sh t)++cN sh e/\sH (t++[.aJ e (e+1)]):=by
   refine⟨?_,add _ λa b z=>by cases z;lia⟩;rw[eT,cS,jM,es1];show _++bI [(e,e+1)]=_;rw[one]
  rcases mE t with rfl|⟨t',l,rfl⟩
  ·exact ve
  ·rw[ki]at ok add ve ⊢;rw[m7]
   cases l with
   | win n=>exact ve
   | aJ a b =>
    show bI (bR sh (if b=e then (t'++[aR.aJ a b]).dropLast++[.aJ a (e+1)] else (t'++[aR.aJ a b])++[.aJ e (e+1)]))=_/\sH (if b=e then (t'++[aR.aJ a b]).dropLast++[.aJ a (e+1)] else (t'++[aR.aJ a b])++[.aJ e (e+1)]);by_cases hb:b=e
    ·subst hb;have ab:=ok a b (by simp);rw[if_pos rfl,List.dropLast_concat];refine⟨?_,λp q hm=>?_⟩
     ·rw[eT,eT,cS,cS,jM,jM,es1,m8];congr 1;show bI [(a,b+1)]=bI [(a,b)]++[b];rw[eX,eX];unfold fE;show run a (b+1-a).toNat=run a (b-a).toNat++[b];have:(b+1-a).toNat=(b-a).toNat+1:=by lia
      rw[this,uN];congr 2;lia
     ·rcases List.mem_append.mp hm with z|z
      ·exact ok p q (pV _ z)
      ·have z':aR.aJ p q=aR.aJ a (b+1):=by simpa using z
       cases z';lia
    ·rw[if_neg hb];exact ve
def zO(sh:Int->List Int)(es:List Int):bI (bR sh (aI es))=bK sh es/\sH (aI es):=by
 have z:∀ t:List aR,sH t->bI (bR sh (es.foldl aZ t))=bI (bR sh t)++bK sh es/\sH (es.foldl aZ t):=by
  induction es with
  | nil=>intro t ok;exact⟨by simp[bK],ok⟩
  | cons e es ih =>
   intro t ok;let⟨h1,h2⟩:=Mh sh t e ok;let⟨h3,h4⟩:=ih _ h2;refine⟨?_,h4⟩;rw[kj,h3,h1,m8];unfold bK;rw[mF]
 have q:=z [] (λa b h=>by cases h);refine⟨?_,q.2⟩;unfold aI;rw[q.1];rfl
def Mi(sh:Int->List Int)(it:aR)(h:∀ a b,it=.aJ a b->a<b):↑(pM (λn=>cR (sh n)) it)<=↑(bI (pM (λn=>cR (sh n)) it)):=by
 cases it with
 | win n =>
  show ↑(cR (sh n))<=↑(bI (cR (sh n)));rw[eS];have z:=zo (sh n) [];simpa [cR] using z
 | aJ a b =>
  have ab:=h a b rfl;show 1<=↑(bI [(a,b)]);rw[eX];unfold fE;show 1<=↑(run a (b-a).toNat);rw[J9];lia
theorem t7(sh:Int->List Int):∀ aQ:List aR,sH aQ->↑(bR sh aQ)<=↑(bI (bR sh aQ))
 | [],_=>by simp[bR]
 | it::aQ,h=>by
  have e:bR sh (it::aQ)=pM (λn=>cR (sh n)) it++bR sh aQ:=by unfold bR;rw[mF]
  rw[e,cS,dM,dM];have a:=Mi sh it (λa b z=>h a b (by rw[← z];simp));have b:=t7 sh aQ (λa b z=>h a b (nO _ z));lia
def Mj(sh:Int->List Int)(aQ:List aR)(h:sH aQ):∀ p∈bR sh aQ,p.1<=p.2:=by
 intro p hp;unfold bR at hp;let⟨it,hi,hm⟩:=List.mem_flatMap.mp hp
 cases it with
 | win n=>exact nZ _ p hm
 | aJ a b =>
  have:p=(a,b):=by simpa [pM] using hm
  subst this;have:=h a b hi;show a<=b;lia
class inductive Ml
 | mk (v:V) (it:aR) (S:Addr) (kvs:List (eV × V)) (g:Int->Row) (_:vs=[v,↥S]) (_:cC H v it) (_:H S=⇑(.dK kvs)) (_:(∀ n,it=.win n->∃ a,cz kvs (Sum.inl n)=⇑↥a/\b5 H a (g n))) (_ :
 ∀ (a:Addr) (H':Hp),b5 H' a (pM g it)->aH H H'->((∃ n,it=.win n/\cz kvs (Sum.inl n)=⇑↥a)\/H a=none)->Q ↥a H')
theorem IL:aG ["item","views"] ["item","views"] (az v8):=fC
theorem xJ:‹(1,21,["item","views"],Ml)›:=λD=>by
 specialize fX D.VM.F IL;let⟨v,it,S,kvs,g,rfl,⟨a,rfl,ha⟩,hS,hw,k⟩:=h;have hu:=jc hr;exists _,(aj (bN (aU cW (aN aT (pv 0) ay) bh (bu _)) (au (aL (gi hu (pv 1) (aN aT (pv 0) ay)))) aW) (au (aL (bO (aa (cG (aa (aN aT (pv 0) ay) (aa (aN aT (pv 0) ay) ah))) ah)))))
 cases it with
 | win n =>
  refine⟨Y,a,K,V,dN.of ha,V,Y,cM (λ_=>?_) (λz=>absurd (by decide) z)⟩;let⟨b,hb,Rb⟩:=hw n rfl;have z:=gT.k (k:=Sum.inl n) hS;rw[hb]at z;exact⟨Y,Y,a,K,V,dN.of ha,rfl,S,Y,z,k b H Rb (aH.refl H) (.inl ⟨n,rfl,hb⟩)⟩
 | aJ p q =>
  refine⟨Y,a,K,V,dN.of ha,V,Y,cM (λz=>absurd z (by decide)) (λ_=>?_)⟩;refine⟨Y,a,K,V,dN.of ha,rfl,Y,a,K,V,dN.of ha,rfl,jL,λt ht=>⟨kG,λl hl=>?_⟩⟩;have s1:aH H (aO H t (.tup [.int p,.int q])):=ao ht _;have s2:=s1.trans (ao hl (.lst [↥t]));refine k l _ ⟨[t],af,.cons ?_ .nil⟩ s2 (.inr ?_)
  ·exact ao hl _ _ _ af
  ·cases e:H l with
   | none=>rfl
   | some o=>exact absurd ((s1 _ _ e).symm.trans hl) (by simp)
theorem br.FZ{H H':Hp}{S:Addr}{kvs:List (eV × V)}(hS:H S=⇑(.dK kvs))(k:∀ a ob,a≠S->H a=⇑ob->H' a=⇑ob):∀ {as:List Addr} {r:Row},br H as r->br H' as r
 | _,_,.nil=>.nil
 | _,_,.cons r t=>.cons (k _ _ (λz=>by
   have r':=r;unfold kF at r';rw[z,hS]at r'
   cases r') r) (br.FZ hS k t)
def b5.FZ{H H':Hp}{S a:Addr}{kvs:List (eV × V)}{row:Row}(hS:H S=⇑(.dK kvs))(n:a≠S)(k:∀ a ob,a≠S->H a=⇑ob->H' a=⇑ob)(R:b5 H a row):b5 H' a row:=by
 let⟨as,h,p⟩:=R;exact⟨as,k _ _ n h,p.FZ hS k⟩
def Kl(H:Hp)(kvs:List (eV × V))(sh:Int->List Int)(xs:List Int):Prop:=∀ x∈xs,∃ a,cz kvs (Sum.inl x)=⇑↥a/\b5 H a (cR (sh x))
class inductive Se
 | mk (r L:Addr) (rows:cK) (ss:List Int) (sh:Int->List Int) (_:vs=[↥r,↥L]) (_:gn H r (rows.map aI)) (_:H L=⇑(.lst (ss.map V.int))) (_:↑ss<=1000) (_:↑rows<=1000) (_:(∀ es∈rows,↑es<=1000)) (_:gw rows) (_:xY rows) (_:(∀ s∈ss,0<=s/\s<↑rows)) (_:qF rows sh) (_:(∀ x:Int,0<=x->x<↑rows->↑(sh x)<=10000)) (_ :
 ∀ (S:Addr) (kvs:List (eV × V)) (ks:List Int) (H':Hp),H' S=⇑(.dK kvs)->Kl H' kvs sh ks->Mc rows ks->(∀ s∈ss,s∈ks)->(∀ x∈ks,∀ a,cz kvs (Sum.inl x)=⇑↥a->H a=none)->aH H H'->H S=none->Q ↥S H')
theorem nI:aG ["rows","sheets","views","number"] ["rows","sheets"] (az lg):=fC
theorem qG:‹(3,22,["rows","sheets"],Se)›:=λD=>by
 refine fX D.VN.F nI λcH A zn s0 H vs Q E hr h=>?_;let⟨r,L,rows,ss,sh,rfl,hR,hL,hsl,cX,hes,vJ,yL,hin,EZ,hbd,k⟩:=h;have hu:=jc hr;refine⟨_,(aj (bx (i:=2) nI.nd mh) (aj (d9 PassesOwn.never rfl (ck (aM D.VI (FW D) hr (aa (pv 0) (aa (pv 1) ah)))) (bY (i:=3) nI.nd) (au (uP hu (pv 2) (pv 3) (aM D.Zc (uW D) hr (aa (BS (N:=["item","stretch","views"]) (jG (sc:=az lg) (NX:=["rows","sheets","views","number"]) (jx:=[none,none,some 2]) rfl rfl rfl nofun nofun rfl nofun rfl nofun) rfl (ck (aN bz (pv 0) (pv 3))) (λ_ _ _ _ _ _=>(bY (i:=0) (show List.Nodup (["item","stretch","views"]:List Str) by decide +kernel))) (λ_ _ _ _ _ _=>fQ) (λ_ _ _ _ _ _=>(Ft (aM D.VM (xJ D) hr (aa (pv 0) (aa (pv 2) ah))))) (λ_ _ _ _ _ _=>(bY (i:=1) (show List.Nodup (["item","stretch","views"]:List Str) by decide +kernel))) (λ_ _ _ _ _ _=>fQ) (λ_ _ _ _ _ _=>(pv 1))) ah)) rfl))) (au (aL (pv 2))))),?_⟩;intro S hS;have s1:aH H (aO H S (.dK [])):=ao hS _;refine⟨Y,Y,r,L,rows,ss,rfl,hR.same s1,s1 _ _ hL,hsl,cX,hes,vJ,yL,hin,λks o H2 ho s2 tp sk kl Tv=>?_⟩;have Vx:=s2 _ _ (af (H:=H) (a:=S) (o:=.dK []));have noS:o≠S:=(aB af Tv).symm;refine⟨o,rfl,⟨_,bG.of ho⟩,cV (K:=K) (a:=o) (xs:=ks.map V.int) (λi σ H3=>∃ (kvs:List (eV × V)) (u:Option V),σ=[⇑↥r,⇑↥L,⇑↥S,u]/\H3 S=⇑(.dK kvs)/\Kl H3 kvs sh (ks.take i)/\↑kvs<=i/\(∀ x a,cz kvs (Sum.inl x)=⇑↥a->H a=none/\a≠S)/\(∀ a ob,a≠S->H2 a=⇑ob->H3 a=⇑ob)) ⟨[],none,rfl,Vx,(λy hy=>by simp at hy),fK _,(λx a e=>by cases e),λ_ _ _ e=>e⟩ ?_ ?_ ?_⟩
 ·rintro i σ H3 _ ⟨_,_,_,_,_,_,_,k3⟩;exact bG.of (k3 o _ noS ho)
 ·rintro i x σ H3 hi ⟨kvs,u,rfl,Me,MX,hk3,hn3,k3⟩;rw[kU]at hi;let⟨x,ex,rfl⟩:=Option.map_eq_some_iff.mp hi;let⟨x0,x1⟩:=tp.Ez x (m6 ex);obtain⟨es,gc⟩:∃ es,rows[x.toNat]?=⇑es:=⟨_,nM ∅⟩;have OW:aH H H3:=λa ob e=>k3 a ob (aB e hS) (s2 _ _ (s1 _ _ e));let⟨AD,L6,vd⟩:=hR.same OW;let⟨vi,DA,hI⟩:=vd.get' (i:=x.toNat) (b:=aI es) (by rw[kU,gc];rfl);let⟨b,IJ,rfl,hb,qA⟩:=id hI;let⟨Hz,hok⟩:=zO sh es;have shx:=EZ x es x0 gc
  have lu:↑(bR sh (aI es))<=10000:=by
   have z:=t7 sh (aI es) hok;rw[Hz,← shx]at z;have:=hbd x x0 x1;lia
  have part:∀ j,↑(bR sh ((aI es).take j))<=10000:=λj=>by
   have e:bR sh (aI es)=bR sh ((aI es).take j)++bR sh ((aI es).drop j):=by rw[← eT,List.take_append_drop]
   rw[e,dM]at lu;lia
  have yb:qm AD x=⇑↥b:=by
   have z:=cQ DA;rw[show ((x.toNat:Nat):Int)=x by lia]at z;exact z
  refine⟨Y,Y,r,K,V,bG.of L6,yb,b,rfl,⟨_,bG.of hb⟩,λacc cu=>xG (K:=K) (a:=b) (xs:=IJ) (λj σ H5=>∃ (u v:Option V) (as:List Addr),σ=[u,v,⇑↥S]/\H5 acc=⇑(.lst (as.map V.ref))/\br H5 as (bR sh ((aI es).take j))/\aH H3 H5) ⟨none,none,[],rfl,af,.nil,ao cu _⟩ (λj σ H5 _ ⟨K,K,s5⟩=>bG.of (s5 _ _ hb)) ?_ ?_⟩
  ·rintro j v σ H5 hj ⟨u,u2,as,rfl,h5,p5,s5⟩;let⟨it,ei,hiv⟩:=qA.get hj;have st:bR sh ((aI es).take (j+1))=bR sh ((aI es).take j)++pM (λn=>cR (sh n)) it:=by rw[take_snoc ei,eT,jM]
   refine Rj ?_;refine jg ?_;refine⟨Y,Y,v,it,S,kvs,(λn=>cR (sh n)),rfl,hiv.same s5,s5 _ _ Me,λn hn=>?_,λa2 H6 R6 s6 hor=>?_⟩
   ·subst hn
    let⟨a,ha,Ra⟩:=MX n (tp.dn i x ex n ⟨x0,es,gc,by
     rw[← iu];unfold eG;rw[List.mem_filterMap]
     exact⟨.win n,m6 ei,rfl⟩⟩)
    exact⟨a,ha,Ra.same s5⟩
   let⟨Wf,h6a,p6⟩:=id R6
   have na2:a2≠acc:=by
    rcases hor with ⟨n,hn,hv⟩|hn
    ·subst hn
     let⟨a,ha,as0,h0',_⟩:=MX n (tp.dn i x ex n ⟨x0,es,gc,by
      rw[← iu];unfold eG;rw[List.mem_filterMap]
      exact⟨.win n,m6 ei,rfl⟩⟩)
     rw[hv]at ha;cases ha;exact aB h0' cu
    ·exact (aB h5 hn).symm
   have h6:=s6 _ _ h5;have pl:=part (j+1);rw[st,dM]at pl;have al:=p5.len;have al2:=p6.len;refine⟨a2,rfl,⟨_,bG.of h6a⟩,Ij (K:=K) (a:=a2) (acc:=acc) (g:=rX 1) (tt:=N7) (te:=Ux 1) (xs:=Wf.map V.ref) (λl σ H7=>∃ v2:Option V,σ=[⇑v,v2,⇑↥S]/\H7 acc=⇑(.lst ((as++Wf.take l).map V.ref))/\br H7 (as++Wf.take l) (bR sh ((aI es).take j)++(pM (λn=>cR (sh n)) it).take l)/\cy acc H6 H7/\aH H3 H7) ?_ ?_ ?_ ?_⟩
   ·exact⟨u2,rfl,(by simpa using h6),(by simpa using p5.same s6),(λ_ _ e _=>e),s5.trans s6⟩
   ·rintro l σ H7 _ ⟨_,_,_,_,K7,_⟩;exact bG.of (K7 a2 _ h6a na2)
   ·rintro l y σ H7 hl ⟨v2,rfl,h7,p7,K7,s7⟩;rw[kU]at hl;let⟨t,et,rfl⟩:=Option.map_eq_some_iff.mp hl;let⟨pr,epr,hpr⟩:=p6.get et
    have ll:l<Wf.length:=by
     rcases Nat.lt_or_ge l Wf.length with q|q
     ·exact q
     ·rw[List.getElem?_eq_none q]at et;cases et
    have aaf:kF H7 t pr:=K7 t _ hpr (λz=>by
     have q:H6 acc=⇑(.tup [.int pr.1,.int pr.2]):=by rw[← z];exact hpr
     rw[h6]at q
     cases q)
    have K8:cy acc H7 (aO H7 acc (.lst ((as++Wf.take l).map V.ref++[↥t]))):=aF acc _ _;refine Rj ?_;refine jg ?_;refine⟨Y,_,h7,?_,Y,?_,?_,?_,bJ cu s7 K8⟩
    ·rw[bW,dM,gx];exact aS ∅
    ·rw[af,take_snoc et,← m8,gC (l₁:=as++Wf.take l)];rfl
    ·rw[take_snoc et,take_snoc epr,← m8,← m8]
     exact br.snoc (p7.keep h7 K8) (K8 t _ aaf (λz=>by
      have q:H7 acc=⇑(.tup [.int pr.1,.int pr.2]):=by rw[← z];exact aaf
      rw[h7]at q
      cases q))
    ·exact λa ob e n=>K8 a ob (K7 a ob e n) n
   ·rintro σ H7 ⟨v2,rfl,h7,p7,K7,s7⟩;rw[bW,gy]at h7 p7;rw[al2,gy]at p7;exact⟨K,rfl,h7,(by rw[st];exact p7),s7⟩
  ·rintro σ H5 ⟨u,u2,as,rfl,h5,p5,s5⟩;rw[qA.len,gy]at p5
   have kvl:i<↑ks:=by
    rcases Nat.lt_or_ge i ↑ks with q|q
    ·exact q
    ·rw[List.getElem?_eq_none q]at ex;cases ex
   refine⟨acc,Y,⟨as,h5,p5⟩,E,λq H6 R6 s6 hq=>?_⟩;have Wb:=s6 _ _ (s5 _ _ Me);have nqS:q≠S:=(aB (s5 _ _ Me) hq).symm;have er:cB (bR sh (aI es))=cR (sh x):=by rw[E7 _ (Mj sh _ hok),Hz,shx]
   rw[er]at R6;have k7:∀ a ob,a≠S->H6 a=⇑ob->aO H6 S (.dK (ef kvs (Sum.inl x) ↥q)) a=⇑ob:=λa ob n e=>by rw[aK n];exact e
   refine⟨Y,Y,S,Y,Df.k (k:=Sum.inl x) Wb (aS ∅),?_⟩;refine⟨ef kvs (Sum.inl x) ↥q,Y,af,λy hy=>?_,?_,λy a e=>?_,λa ob n e=>k7 a ob n (s6 _ _ (s5 _ _ (k3 a ob n e)))⟩
   ·rw[j3];by_cases c:y=x
    ·rw[if_pos (by rw[c]),c];exact⟨q,rfl,R6.FZ Wb nqS k7⟩
    ·rw[if_neg (λz=>c (Sum.inl.inj z))];rw[take_snoc ex]at hy;rcases List.mem_append.mp hy with z|z
     ·let⟨a,ha,Ra⟩:=MX y z;exact⟨a,ha,((Ra.same s5).same s6).FZ Wb (hn3 y a ha).2 k7⟩
     ·exact absurd (by simpa using z) c
   ·have:=gS kvs (Sum.inl x) (V.ref q);lia
   ·rw[j3]at e;by_cases c:y=x
    ·rw[if_pos (by rw[c])]at e;cases e;refine⟨?_,nqS⟩
     cases z:H q with
     | none=>rfl
     | some ob=>exact absurd ((s5 _ _ (OW _ _ z)).symm.trans hq) (by simp)
    ·rw[if_neg (λz=>c (Sum.inl.inj z))]at e;exact hn3 y a e
 ·rintro σ H3 ⟨kvs,u,rfl,Me,MX,hk3,hn3,k3⟩;rw[bW,gy]at MX;exact⟨Y,k S kvs ks H3 Me MX tp sk (λx _ a e=>(hn3 x a e).1) (λa ob e=>k3 a ob (aB e hS) (s2 _ _ (s1 _ _ e))) hS⟩
class inductive Sf
 | mk (r:Addr) (rows:cK) (s:Int) (sh:Int->List Int) (_:vs=[↥r,.int s]) (_:gn H r (rows.map aI)) (_:↑rows<=1000) (_:(∀ es∈rows,↑es<=1000)) (_:gw rows) (_:xY rows) (_:0<=s) (_:s<↑rows) (_:qF rows sh) (_:(∀ x:Int,0<=x->x<↑rows->↑(sh x)<=10000)) (_ :
 ∀ (o:Addr) (H':Hp),b5 H' o (cR (sh s))->aH H H'->H o=none->Q ↥o H')
theorem Sg:aG ["rows","sheet"] ["rows","sheet"] (az HP):=fC
theorem O0:‹(4,23,["rows","sheet"],Sf)›:=λD=>by
 refine fX D.VO.F Sg λcH A zn s0 H vs Q E hr h=>?_;let⟨r,rows,s,sh,rfl,hR,cX,hes,vJ,yL,h0,h1,EZ,hbd,k⟩:=h;have hu:=jc hr;exists _,(au (aL (gi hu (aM D.VN (qG D) hr (aa (pv 0) (aa (bO (aa (pv 1) ah)) ah))) (pv 1))));refine⟨Y,Y,kG,λL hL=>?_⟩;have s1:aH H (aO H L (.lst [.int s])):=ao hL _;refine⟨r,L,rows,[s],sh,rfl,hR.same s1,af,(by simp),cX,hes,vJ,yL,(λx hx=>by rw[List.mem_singleton.mp hx];exact⟨h0,h1⟩),EZ,hbd,λS kvs ks H' hS hv tp sk hn s' _=>?_⟩;have sk:=sk s (by simp);let⟨a,ha,Ra⟩:=hv s sk;have z:=gT.k (k:=Sum.inl s) hS;rw[ha]at z;exact⟨Y,S,Y,z,k a H' Ra (s1.trans s') (bw s1 (hn s sk a ha))⟩
def Wg:aR->aR->Bool
 | .aJ _ b,.aJ c _=>decide (b=c)
 | _,_=>false
class inductive Wh
 | mk (x y:V) (i j:aR) (_:vs=[x,y]) (_:cC H x i) (_:cC H y j) (_:Q (.bl (Wg i j)) H)
theorem Mm:aG ["one","other"] ["one","other"] (az zb):=fC
theorem IM:‹(1,24,["one","other"],Wh)›:=λD=>by
 specialize fX D.Zj.F Mm;let⟨x,y,i,j,rfl,⟨a,rfl,ha⟩,⟨b,rfl,hb⟩,k⟩:=h;exists _,(au (aL (sR (iO cW (aN aT (pv 0) ay) bh (bu _)) (sR (iO cW (aN aT (pv 1) ay) bh (bu _)) (vO (iO cW (aN aT (pv 0) ay) (aN aT (pv 1) ay) (bu _)))))))
 cases i with
 | win n=>exact⟨Y,a,K,V,dN.of ha,V,Y,cM (λz=>absurd z (by decide)) (λ_=>k)⟩
 | aJ p q =>
  refine⟨Y,a,K,V,dN.of ha,V,Y,cM (λ_=>?_) (λz=>absurd (by decide) z)⟩
  cases j with
  | win n=>exact⟨Y,b,K,V,dN.of hb,V,Y,cM (λz=>absurd z (by decide)) (λ_=>k)⟩
  | aJ u v =>
   refine⟨Y,b,K,V,dN.of hb,V,Y,cM (λ_=>?_) (λz=>absurd (by decide) z)⟩;exists Y,a,K,V,dN.of ha,rfl,Y,b,K,V,dN.of hb,V
   have e:decide (V.int q=V.int u)=decide (q=u):=by
    by_cases c:q=u
    ·rw[c];simp
    ·have c2:¬ V.int q=V.int u:=λz=>c (V.int.inj z);rw[decide_eq_false c,decide_eq_false c2]
   rw[e];exact k
def bU(t:List aR)(it:aR):List aR :=
 match t.getLast?,it with
 | some (.aJ a b),.aJ c d=>if b=c then t.dropLast++[.aJ a d] else t++[it]
 | _,_=>t++[it]
def IP(aQ:List aR):List aR:=aQ.foldl bU []
def IQ(aQ:List aR):∀ t:List aR,↑(aQ.foldl bU t)<=↑t+↑aQ:=by
 induction aQ with
 | nil=>intro t;simp
 | cons e aQ ih =>
  intro t;rw[kj];have z:=ih (bU t e)
  have z2:↑(bU t e)<=↑t+1:=by
   unfold bU;split
   ·split
    ·rw[dM,List.length_dropLast,gF];lia
    ·simp
   ·simp
  rw[jS];lia
class inductive DC
 | mk (r:Addr) (aQ:List aR) (_:vs=[↥r]) (_:bQ H ↥r aQ) (_:↑aQ<=1000000) (_ :
 ∀ (o:Addr) (H':Hp),bQ H' ↥o (IP aQ)->aH H H'->H o=none->Q ↥o H')
theorem nJ:aG ["items","told","item"] ["items"] (az oQ):=fC
theorem mq:‹(2,25,["items"],DC)›:=λD=>by
 specialize fX D.RP.F nJ;let⟨r,aQ,rfl,⟨a,IJ,e,i9,qA⟩,cX,k⟩:=h;cases e;refine⟨_,(aj (bx (i:=1) nJ.nd (bO ah)) (aj (d9 PassesOwn.never rfl (ck (pv 0)) (bY (i:=2) nJ.nd) (au (bN (PW.pt (oF (jj (pv 1) (λ_=>rfl)) (mK (gM (aM D.Zj (IM D) hr (aa (aN bz (pv 1) (fG dc ay)) (aa (pv 2) ah))))))) (au (lN (cG (aa bh (aa (aN aT (aN bz (pv 1) (fG dc ay)) ay) (aa (aN aT (pv 2) ay) ah)))) (nh (pv 1) (fG dc ay) iK))) (au (aV (dm pI jA jB bT (pv 1) (aa (pv 2) ah))))))) (au (aL (pv 1))))),?_⟩;refine⟨iY,λq hq=>?_⟩;have s0:aH H (aO H q (.lst [])):=ao hq _;refine⟨Y,r,rfl,⟨_,bG.of (s0 _ _ i9)⟩,cV (K:=K) (a:=r) (xs:=IJ) (λi σ H2=>∃ (vs:List V) (u:Option V),σ=[⇑↥r,⇑↥q,u]/\H2 q=⇑(.lst vs)/\bV (cC H2) vs ((aQ.take i).foldl bU [])/\aH H H2) ⟨[],none,rfl,af,.nil,s0⟩ (by rintro i σ H2 _ ⟨_,_,_,_,_,s⟩;exact bG.of (s _ _ i9)) ?_ ?_⟩
 ·rintro i x σ H2 hi ⟨vs,u,rfl,dH,hb,s⟩;let⟨it,ei,hiv⟩:=qA.get hi;have hx2:=hiv.same s;have step:(aQ.take (i+1)).foldl bU []=bU ((aQ.take i).foldl bU []) it:=by rw[take_snoc ei,List.foldl_append];rfl
  have bl:↑vs<sizeLine:=by
   have z:=hb.len;have z2:=IQ (aQ.take i) [];rw[gx,m9]at z2;exact aS ∅
  have app:bU ((aQ.take i).foldl bU []) it=(aQ.take i).foldl bU []++[it]->∃ (Dj:List V) (u':Option V),[⇑(V.ref r),⇑↥q,⇑x]=[⇑↥r,⇑↥q,u']/\(aO H2 q (.lst (vs++[x]))) q=⇑(.lst Dj)/\bV (cC (aO H2 q (.lst (vs++[x])))) Dj ((aQ.take (i+1)).foldl bU [])/\aH H (aO H2 q (.lst (vs++[x]))):=λe=>by
   refine⟨Q,rfl,af,?_,bJ hq s (aF q _ _)⟩;rw[step,e];exact bV.snoc (hb.mono λv i h=>h.keep dH (aF q _ _)) (hx2.keep dH (aF q _ _))
  rcases mE ((aQ.take i).foldl bU []) with hn|⟨t0,l0,hn⟩
  ·have hvs:vs=[]:=by
    rw[hn]at hb;exact List.eq_nil_of_length_eq_zero hb.len
   subst hvs;refine⟨Y,false,.inl ⟨_,bG.of dH,rfl⟩,dF (dF ?_)⟩;refine⟨Y,.inl ⟨rfl,_,bG.of dH⟩,Y,q,Z,dH,bl,app ?_⟩;rw[hn];rfl
  ·rw[ki]at hn;have hb':=hb;rw[hn]at hb';let⟨us,v0,rfl,hb0,hv0⟩:=hb'.split;let⟨a0,rfl,Cc⟩:=id hv0;refine⟨Y,true,.inl ⟨_,bG.of dH,by simp⟩,jg ?_⟩;exists Y,Y,q,K,V,bG.of dH,dO _ _,Y,Q,l0,it,rfl,hv0,hx2,Y
   cases l0 with
   | win n =>
    refine dF ?_;refine⟨Y,.inl ⟨rfl,_,bG.of dH⟩,Y,q,Z,dH,bl,app ?_⟩;rw[hn];unfold bU;rw[m7]
   | aJ p1 p2 =>
    cases it with
    | win n =>
     refine dF ?_;refine⟨Y,.inl ⟨rfl,_,bG.of dH⟩,Y,q,Z,dH,bl,app ?_⟩;rw[hn];unfold bU;rw[m7]
    | aJ c d =>
     refine cM (λz=>?_) (λz=>?_)
     ·have e2:p2=c:=of_decide_eq_true z;let⟨ax,rfl,hax⟩:=id hx2;refine⟨Y,Y,q,K,V,bG.of dH,dO _ _,a0,K,V,dN.of Cc,rfl,Y,ax,K,V,dN.of hax,rfl,IB,λt ht=>?_⟩;refine⟨Y,Y,q,Q,↑us,V,ao ht _ _ _ dH,(by rw[dM];exact zj _),?_⟩;rw[uO];refine⟨Q,rfl,af,?_,bJ hq (s.trans (ao ht _)) (aF q _ _)⟩
      have e3:(aQ.take (i+1)).foldl bU []=t0++[.aJ p1 d]:=by
       rw[step,hn];unfold bU;rw[m7,List.dropLast_concat];show (if p2=c then t0++[aR.aJ p1 d] else _)=_;rw[if_pos e2]
      rw[e3];exact bV.new (it:=.aJ p1 d) dH hb0 ht _
     ·have e2:¬ p2=c:=λw=>z (decide_eq_true w);refine⟨Y,.inl ⟨rfl,_,bG.of dH⟩,Y,q,Z,dH,bl,app ?_⟩;rw[hn];unfold bU;rw[m7];show (if p2=c then _ else t0++[aR.aJ p1 p2]++[aR.aJ c d])=_;rw[if_neg e2]
 ·rintro σ H2 ⟨vs,u,rfl,dH,hb,s⟩;rw[qA.len,gy]at hb;exact⟨Y,k q H2 ⟨q,vs,rfl,dH,hb⟩ s hq⟩
def fH(r:Row):List aR:=r.map λp=>.aJ p.1 p.2
class inductive Si
 | mk (r:Addr) (row:Row) (_:vs=[↥r]) (_:b5 H r row) (_:↑row<=100000) (_ :
 ∀ (o:Addr) (H':Hp),bQ H' ↥o (fH (cB row))->aH H H'->H o=none->Q ↥o H')
theorem Sj:aG ["row"] ["row"] (az C5):=fC
theorem qH:‹(2,26,["row"],Si)›:=λD=>by
 specialize fX D.LX.F Sj;let⟨r,row,rfl,R,cX,k⟩:=h;refine⟨_,(au (aL (fR (N:=["start","stop"]) (jG (sc:=az C5) (NX:=["row"]) (jx:=[none,none]) rfl rfl rfl nofun nofun rfl nofun rfl nofun) rfl (ck (aM D.Zc (uW D) hr (aa (pv 0) ah))) (λ_ _ _ _ _ _=>(uR (n:=2) rfl (cj (bY (i:=0) (show List.Nodup (["start","stop"]:List Str) by decide +kernel)) (cj (bY (i:=1) (show List.Nodup (["start","stop"]:List Str) by decide +kernel)) ie)))) (λ_ _ _ _ _ _=>fQ) (λ_ _ _ _ _ _=>(cG (aa bh (aa (pv 0) (aa (pv 1) ah)))))))),?_⟩;refine⟨Y,r,row,rfl,R,E,λq H1 R1 s1 hq=>?_⟩;let⟨as,h1,p1⟩:=id R1;have pl:=lJ row;refine⟨q,rfl,⟨_,bG.of h1⟩,λacc cu=>fk (K:=K) (a:=q) (xs:=as.map V.ref) (λi σ H2=>∃ (u v:Option V) (vs:List V),σ=[u,v]/\H2 acc=⇑(.lst vs)/\bV (cC H2) vs (fH ((cB row).take i))/\aH H1 H2) ⟨none,none,[],rfl,af,.nil,ao cu _⟩ (by rintro i σ H2 _ ⟨_,_,_,_,_,_,s⟩;exact bG.of (s _ _ h1)) ?_ ?_⟩
 ·rintro i x σ H2 hi ⟨u,v,vs,rfl,ha,t2,s⟩;rw[kU]at hi;let⟨a,ea,rfl⟩:=Option.map_eq_some_iff.mp hi;let⟨⟨st,en⟩,ep,hpa⟩:=p1.get ea;have bl:=t2.len;unfold fH at bl;rw[bW,gx]at bl;refine⟨a,Y,dN.of (s _ _ hpa),rfl,Q,rfl,Z,Xi (jg ?_)⟩;refine⟨Y,Y,IB,λt ht=>?_⟩;refine⟨vs,ao ht _ _ _ ha,aS ∅,K,rfl,af,?_,bJ cu (s.trans (ao ht _)) (aF acc _ _)⟩
  have e:fH ((cB row).take (i+1))=fH ((cB row).take i)++[.aJ st en]:=by
   rw[take_snoc ep];unfold fH;rw[gC];rfl
  rw[e];exact bV.new (it:=.aJ st en) ha t2 ht _
 ·rintro σ H2 ⟨u,v,vs,rfl,ha,t2,s⟩;rw[bW,p1.len,gy]at t2;refine k acc H2 ⟨acc,vs,rfl,ha,t2⟩ (s1.trans s) ?_
  cases e:H acc with
  | none=>rfl
  | some o=>exact absurd ((s1 _ _ e).symm.trans cu) (by simp)
def jH:aR->List Int
 | .win n=>[-1-n]
 | .aJ a b=>run a (b-a).toNat
def eN(aQ:List aR):List Int:=aQ.flatMap jH
def pN:aR->Prop
 | .win n=>0<=n
 | .aJ a b=>0<=a/\a<b
def gD(aQ:List aR):Prop:=∀ it∈aQ,pN it
def dI(a b:List aR):eN (a++b)=eN a++eN b:=by unfold eN;rw[List.flatMap_append]
def j7(a:aR):eN [a]=jH a:=by simp[eN]
theorem gD.append{a b:List aR}(h:gD a)(g:gD b):gD (a++b):=λit hm=>(List.mem_append.mp hm).elim (h it) (g it)
theorem gD.one{a:aR}(h:pN a):gD [a]:=λit hm=>by rw[List.mem_singleton.mp hm];exact h
def O1(t:List aR){n:Int}(h:0<=n):aZ t (-1-n)=t++[.win n]:=by
 unfold aZ;rw[if_pos ∅];congr 3;lia
def Mn(t:List aR)(p s:Int)(h:0<=s):aZ (t++[.aJ p s]) s=t++[.aJ p (s+1)]:=by
 unfold aZ;rw[if_neg ∅,m7];show (if s=s then (t++[aR.aJ p s]).dropLast++[.aJ p (s+1)] else _)=_;rw[if_pos rfl,List.dropLast_concat]
theorem Cg(t:List aR)(p:Int):∀ (n:Nat) (s:Int),0<=s->(run s n).foldl aZ (t++[.aJ p s])=t++[.aJ p (s+n)]
 | 0,s,_=>by simp[run]
 | n+1,s,h=>by
  rw[run,kj,Mn t p s h,Cg t p n (s+1) ∅];congr 3;lia
def IS(t:List aR)(it:aR)(h:pN it):bU t it=(jH it).foldl aZ t:=by
 cases it with
 | win n =>
  show bU t (.win n)=aZ t (-1-n);rw[O1 t h];unfold bU
  cases t.getLast? with
  | none=>rfl
  | some l=>cases l <;> rfl
 | aJ a b =>
  let⟨a0,ab⟩:=h;have e:(b-a).toNat=(b-(a+1)).toNat+1:=by lia
  show bU t (.aJ a b)=(run a (b-a).toNat).foldl aZ t;rw[e,run,kj]
  have iH:∀ (u:List aR) (p:Int),(run (a+1) (b-(a+1)).toNat).foldl aZ (u++[.aJ p (a+1)])=u++[.aJ p b]:=λu p=>by
   rw[Cg u p _ _ ∅];congr 3;lia
  unfold bU aZ;rw[if_neg ∅]
  cases t.getLast? with
  | none=>exact (iH t a).symm
  | some l =>
   cases l with
   | win n=>exact (iH t a).symm
   | aJ p q =>
    show (if q=a then t.dropLast++[aR.aJ p b] else t++[aR.aJ a b])=List.foldl aZ (if q=a then t.dropLast++[aR.aJ p (a+1)] else t++[aR.aJ a (a+1)]) _;by_cases c:q=a
    ·rw[if_pos c,if_pos c,iH]
    ·rw[if_neg c,if_neg c,iH]
def qI(aQ:List aR)(h:gD aQ):IP aQ=aI (eN aQ):=by
 unfold IP aI eN;rw[lZ]
 have z:∀ (aQ:List aR) (t:List aR),gD aQ->aQ.foldl bU t=aQ.foldl (λc a=>(jH a).foldl aZ c) t:=by
  intro aQ
  induction aQ with
  | nil=>intro t _;rfl
  | cons it aQ ih =>
   intro t h;rw[kj,kj,IS t it (h it (by simp))];exact ih _ λi hi=>h i (nO _ hi)
 exact z aQ [] h
def Mp(t:List aR)(e:Int)(h:gD t):eN (aZ t e)=eN t++[e]/\gD (aZ t e):=by
 unfold aZ;by_cases c:e<0
 ·rw[if_pos c,dI,j7];refine⟨?_,h.append (gD.one (by show 0<=-1-e;lia))⟩;show eN t++[-1-(-1-e)]=_;rw[show -1-(-1-e)=e by lia]
 ·rw[if_neg c]
  have pl:eN (t++[.aJ e (e+1)])=eN t++[e]/\gD (t++[.aJ e (e+1)]):=by
   refine⟨?_,h.append (gD.one ⟨E,E⟩)⟩;rw[dI,j7];show _++run e (e+1-e).toNat=_;rw[show (e+1-e).toNat=1 by lia];rfl
  rcases mE t with rfl|⟨t',l,rfl⟩
  ·exact pl
  ·rw[ki]at h pl ⊢;rw[m7]
   cases l with
   | win n=>exact pl
   | aJ a b =>
    show eN (if b=e then (t'++[aR.aJ a b]).dropLast++[.aJ a (e+1)] else (t'++[aR.aJ a b])++[.aJ e (e+1)])=_/\gD (if b=e then (t'++[aR.aJ a b]).dropLast++[.aJ a (e+1)] else (t'++[aR.aJ a b])++[.aJ e (e+1)]);by_cases hb:b=e
    ·subst hb;obtain⟨a0,ab⟩:0<=a/\a<b:=h (.aJ a b) (by simp);rw[if_pos rfl,List.dropLast_concat];refine⟨?_,gD.append (λi hi=>h i (pV _ hi)) (gD.one ⟨a0,E⟩)⟩;rw[dI,dI,j7,j7,m8];congr 1;show run a (b+1-a).toNat=run a (b-a).toNat++[b];rw[show (b+1-a).toNat=(b-a).toNat+1 by lia,uN];congr 2;lia
    ·rw[if_neg hb];exact pl
def pD(es:List Int):eN (aI es)=es/\gD (aI es):=by
 have z:∀ (es:List Int) (t:List aR),gD t->eN (es.foldl aZ t)=eN t++es/\gD (es.foldl aZ t):=by
  intro es
  induction es with
  | nil=>intro t h;exact⟨by simp,h⟩
  | cons e es ih =>
   intro t h;let⟨h1,h2⟩:=Mp t e h;let⟨h3,h4⟩:=ih _ h2;exact⟨by rw[kj,h3,h1,m8];rfl,h4⟩
 let⟨h1,h2⟩:=z es [] (λi hi=>by cases hi);exact⟨by unfold aI;rw[h1];rfl,h2⟩
def qJ(r:Row):eN (fH r)=bI r:=by
 unfold eN fH bI;rw[List.flatMap_map];rfl
def vf{r:Row}(h:jr r):gD (fH r):=by
 intro it hm;unfold fH at hm;let⟨p,hp,rfl⟩:=List.mem_map.mp hm;exact h p hp
abbrev vg:=aR × Row × Int × Int
def gE(sh:Int->List Int)(it:aR):Row:=pM (λn=>cR (sh n)) it
def eU(sh:Int->List Int):Int->List aR->List vg
 | _,[]=>[]
 | f,it::r=>(it,gE sh it,f,f+lu (gE sh it))::eU sh (f+lu (gE sh it)) r
theorem vh(sh:Int->List Int)(b:List aR):∀ (a:List aR) (f:Int),eU sh f (a++b)=eU sh f a++eU sh (f+lu (bR sh a)) b
 | [],f=>by simp[eU,bR,lu]
 | it::a,f=>by
  rw[List.cons_append,eU,eU,vh sh b a,List.cons_append];have e:bR sh (it::a)=gE sh it++bR sh a:=by unfold bR;rw[mF];rfl
  rw[e,zg,Int.add_assoc]
theorem Ci(sh:Int->List Int):∀ (a:List aR) (f:Int),↑(eU sh f a)=↑a
 | [],_=>rfl
 | _::a,f=>by rw[eU,jS,jS,Ci sh a]
def mw(N:Addr->Prop)(H:Hp)(v:V)(d:vg):Prop:=∃ (a ra:Addr) (x:V),v=↥a/\H a=⇑(.tup [x,↥ra,.int d.2.2.1,.int d.2.2.2])/\cC H x d.1/\b5 H ra d.2.1/\N ra
theorem mw.same{N:Addr->Prop}{H H':Hp}{v:V}{d:vg}(s:aH H H'):mw N H v d->mw N H' v d:=λ⟨a,ra,x,e,h,i,r,n⟩=>⟨a,ra,x,e,s _ _ h,i.same s,r.same s,n⟩
theorem mw.keep{N:Addr->Prop}{H H':Hp}{v:V}{d:vg}{q:Addr}{xs:List V}(hq:H q=⇑(.lst xs))(nq:∀ a,N a->a≠q)(k:cy q H H'):mw N H v d->mw N H' v d:=λ⟨a,ra,x,e,h,i,r,n⟩=>⟨a,ra,x,e,k a _ h (by
 intro z;rw[z,hq]at h
 cases h),i.keep hq k,r.keep hq (nq ra n) k,n⟩
def zP(H:Hp)(kvs:List (eV × V))(sh:Int->List Int)(aQ:List aR):Prop:=∀ n,aR.win n∈aQ->∃ a,cz kvs (Sum.inl n)=⇑↥a/\b5 H a (cR (sh n))
theorem zP.same{H H':Hp}{kvs:List (eV × V)}{sh:Int->List Int}{aQ:List aR}(s:aH H H')(h:zP H kvs sh aQ):zP H' kvs sh aQ:=λn hn=>by
 let⟨a,e,r⟩:=h n hn;exact⟨a,e,r.same s⟩
def aD(p:Int)(d:vg):List aR:=if d.2.2.2<=p then [d.1] else if p<=d.2.2.1 then [] else fH (cB (rO 0 (p-d.2.2.1) 0 d.2.1))
def bD(p:Int)(d:vg):List aR:=if d.2.2.2<=p then [] else if p<=d.2.2.1 then [d.1] else fH (cB (rO (p-d.2.2.1) (d.2.2.2-d.2.2.1) 0 d.2.1))
def aE(sh:Int->List Int)(p:Int):Int->List Int->List Int
 | _,[]=>[]
 | f,e::r=>(if f+↑(cN sh e)<=p then [e] else if p<=f then [] else (cN sh e).take (p-f).toNat)++aE sh p (f+↑(cN sh e)) r
def bE(sh:Int->List Int)(p:Int):Int->List Int->List Int
 | _,[]=>[]
 | f,e::r=>(if f+↑(cN sh e)<=p then [] else if p<=f then [e] else (cN sh e).drop (p-f).toNat)++bE sh p (f+↑(cN sh e)) r
def dQ(sh:Int->List Int)(e:Int)(r:List Int):bK sh (e::r)=cN sh e++bK sh r:=by unfold bK;rw[mF]
def DE(sh:Int->List Int)(a b:List Int):bK sh (a++b)=bK sh a++bK sh b:=by unfold bK;rw[List.flatMap_append]
theorem wJ(sh:Int->List Int)(p:Int)(y:List Int):∀ (x:List Int) (f:Int),aE sh p f (x++y)=aE sh p f x++aE sh p (f+↑(bK sh x)) y
 | [],f=>by simp[aE,bK]
 | e::x,f=>by
  rw[List.cons_append,aE,aE,wJ sh p y x,m8,dQ,dM,Int.add_assoc]
  push_cast
  rfl
theorem wK(sh:Int->List Int)(p:Int)(y:List Int):∀ (x:List Int) (f:Int),bE sh p f (x++y)=bE sh p f x++bE sh p (f+↑(bK sh x)) y
 | [],f=>by simp[bE,bK]
 | e::x,f=>by
  rw[List.cons_append,bE,bE,wK sh p y x,m8,dQ,dM,Int.add_assoc]
  push_cast
  rfl
def DF(sh:Int->List Int){e:Int}(h:0<=e):cN sh e=[e]:=by unfold cN;rw[if_neg ∅]
theorem rF(sh:Int->List Int):∀ (n:Nat) (a:Int),0<=a->bK sh (run a n)=run a n
 | 0,_,_=>rfl
 | n+1,a,h=>by rw[run,dQ,DF sh h,rF sh n (a+1) ∅];rfl
theorem O4(sh:Int->List Int)(p:Int):∀ (n:Nat) (a f:Int),0<=a->aE sh p f (run a n)=(run a n).take (p-f).toNat
 | 0,_,_,_=>by simp[run,aE]
 | n+1,a,f,h=>by
  rw[run,aE,O4 sh p n (a+1) _ ∅,DF sh h];show (if f+1<=p then [a] else if p<=f then [] else _)++(run (a+1) n).take (p-(f+1)).toNat=_;by_cases c:f+1<=p
  ·rw[if_pos c,show (p-f).toNat=(p-(f+1)).toNat+1 by lia];rfl
  ·rw[if_neg c,if_pos ∅,show (p-f).toNat=0 by lia,show (p-(f+1)).toNat=0 by lia];rfl
theorem O5(sh:Int->List Int)(p:Int):∀ (n:Nat) (a f:Int),0<=a->bE sh p f (run a n)=(run a n).drop (p-f).toNat
 | 0,_,_,_=>by simp[run,bE]
 | n+1,a,f,h=>by
  rw[run,bE,O5 sh p n (a+1) _ ∅,DF sh h];show (if f+1<=p then [] else if p<=f then [a] else _)++(run (a+1) n).drop (p-(f+1)).toNat=_;by_cases c:f+1<=p
  ·rw[if_pos c,show (p-f).toNat=(p-(f+1)).toNat+1 by lia];rfl
  ·rw[if_neg c,if_pos ∅,show (p-f).toNat=0 by lia,show (p-(f+1)).toNat=0 by lia];rfl
def O6(sh:Int->List Int){n:Int}(h:0<=n):cN sh (-1-n)=sh n:=by
 unfold cN;rw[if_pos ∅,show -1-(-1-n)=n by lia]
def DG(sh:Int->List Int)(it:aR)(h:pN it):∀ q∈gE sh it,q.1<=q.2:=by
 cases it with
 | win n=>exact nZ _
 | aJ a b =>
  intro q hq;have:q=(a,b):=by simpa [gE,pM] using hq
  subst this;have:=h.2;show a<=b;lia
def t9(sh:Int->List Int)(it:aR)(h:pN it):bI (gE sh it)=bK sh (jH it):=by
 cases it with
 | win n =>
  show bI (cR (sh n))=bK sh [-1-n];rw[eS,dQ,O6 sh h];simp[bK]
 | aJ a b =>
  show bI [(a,b)]=bK sh (run a (b-a).toNat);rw[eX,rF sh _ _ h.1];rfl
def vj(sh:Int->List Int)(it:aR)(h:pN it):lu (gE sh it)=↑(bK sh (jH it)):=by
 rw[← t9 sh it h,rm _ (DG sh it h)]
def aag(sh:Int->List Int)(p f:Int)(it:aR)(h:pN it):eN (aD p (it,gE sh it,f,f+lu (gE sh it)))=aE sh p f (jH it):=by
 have tt:=vj sh it h
 have sp:eN (fH (cB (rO 0 (p-f) 0 (gE sh it))))=(bK sh (jH it)).take (p-f).toNat:=by
  rw[qJ,tT _ _ _ (DG sh it h),t9 sh it h];rfl
 unfold aD;show eN (if f+lu (gE sh it)<=p then [it] else if p<=f then [] else fH (cB (rO 0 (p-f) 0 (gE sh it))))=_;rw[tt]
 cases it with
 | win n =>
  have e1:bK sh (jH (.win n))=cN sh (-1-n):=by show bK sh [-1-n]=_;rw[dQ];simp[bK]
  rw[e1]at sp ⊢;show _=aE sh p f [-1-n];rw[aE,aE,iS];split
  ·rfl
  ·split
   ·rfl
   ·exact sp
 | aJ a b =>
  have e1:bK sh (jH (.aJ a b))=run a (b-a).toNat:=rF sh _ _ h.1;rw[e1]at sp ⊢;show _=aE sh p f (run a (b-a).toNat);rw[O4 sh p _ _ _ h.1];have rl:=gA a (b-a).toNat;split
  ·rename_i c;rw[j7,yM ∅];rfl
  ·split
   ·rename_i c;rw[show (p-f).toNat=0 by lia];rfl
   ·exact sp
def aah(sh:Int->List Int)(p f:Int)(it:aR)(h:pN it):eN (bD p (it,gE sh it,f,f+lu (gE sh it)))=bE sh p f (jH it):=by
 have tt:=vj sh it h
 have sp:eN (fH (cB (rO (p-f) (f+lu (gE sh it)-f) 0 (gE sh it))))=(bK sh (jH it)).drop (p-f).toNat:=by
  rw[qJ,tT _ _ _ (DG sh it h),t9 sh it h,yM (by rw[tt];lia)]
 unfold bD;show eN (if f+lu (gE sh it)<=p then [] else if p<=f then [it] else fH (cB (rO (p-f) (f+lu (gE sh it)-f) 0 (gE sh it))))=_;have c1:(f+lu (gE sh it)<=p)=(f+↑(bK sh (jH it))<=p):=by rw[tt]
 simp only[c1]
 cases it with
 | win n =>
  have e1:bK sh (jH (.win n))=cN sh (-1-n):=by show bK sh [-1-n]=_;rw[dQ];simp[bK]
  rw[e1]at sp ⊢;show _=bE sh p f [-1-n];rw[bE,bE,iS];split
  ·rfl
  ·split
   ·rfl
   ·exact sp
 | aJ a b =>
  have e1:bK sh (jH (.aJ a b))=run a (b-a).toNat:=rF sh _ _ h.1;rw[e1]at sp ⊢;show _=bE sh p f (run a (b-a).toNat);rw[O5 sh p _ _ _ h.1];have rl:=gA a (b-a).toNat;split
  ·rename_i c;rw[List.drop_of_length_le ∅];rfl
  ·split
   ·rename_i c;rw[j7,show (p-f).toNat=0 by lia];rfl
   ·exact sp
theorem F0(sh:Int->List Int)(p:Int):∀ (aQ:List aR) (f:Int),gD aQ->eN ((eU sh f aQ).flatMap (aD p))=aE sh p f (eN aQ)
 | [],f,_=>rfl
 | it::r,f,h=>by
  have h1:=h it (by simp);rw[eU,mF,dI,aag sh p f it h1,F0 sh p r _ λi hi=>h i (nO _ hi)];have e:eN (it::r)=jH it++eN r:=by unfold eN;rw[mF]
  rw[e,wJ,vj sh it h1]
theorem Cj(sh:Int->List Int)(p:Int):∀ (aQ:List aR) (f:Int),gD aQ->eN ((eU sh f aQ).flatMap (bD p))=bE sh p f (eN aQ)
 | [],f,_=>rfl
 | it::r,f,h=>by
  have h1:=h it (by simp);rw[eU,mF,dI,aah sh p f it h1,Cj sh p r _ λi hi=>h i (nO _ hi)];have e:eN (it::r)=jH it++eN r:=by unfold eN;rw[mF]
  rw[e,wK,vj sh it h1]
def aai(sh:Int->List Int)(aQ:List aR):Prop:=∀ n,aR.win n∈aQ->∀ x∈sh n,0<=x
def Sk(sh:Int->List Int)(it:aR)(h:pN it)(g:∀ n,it=.win n->∀ x∈sh n,0<=x):mT (gE sh it):=by
 cases it with
 | win n=>exact (BV (g n rfl)).nn
 | aJ a b =>
  intro q hq;have:q=(a,b):=by simpa [gE,pM] using hq
  subst this;exact⟨h.1,by have:=h.2;show a<=b;lia⟩
theorem Km(sh:Int->List Int):∀ (aQ:List aR) (f:Int),gD aQ->aai sh aQ->∀ d∈eU sh f aQ,pN d.1/\mT d.2.1
 | [],_,_,_=>λd hd=>by cases hd
 | it::r,f,h,g=>by
  intro d hd;rw[eU]at hd;rcases List.mem_cons.mp hd with rfl|z
  ·exact⟨h it (by simp),Sk sh it (h it (by simp)) λn e=>g n (by rw[e];simp)⟩
  ·exact Km sh r _ (λi hi=>h i (nO _ hi)) (λn hn=>g n (nO _ hn)) d z
theorem F1{a b:Int}{r:Row}(h:mT r):gD (fH (cB (rO a b 0 r))):=vf (oh (Io a b r 0 h))
def aaj{p:Int}{d:vg}(h:pN d.1)(g:mT d.2.1):gD (aD p d):=by
 unfold aD;split
 ·exact gD.one h
 ·split
  ·exact λi hi=>by cases hi
  ·exact F1 g
def aak{p:Int}{d:vg}(h:pN d.1)(g:mT d.2.1):gD (bD p d):=by
 unfold bD;split
 ·exact λi hi=>by cases hi
 ·split
  ·exact gD.one h
  ·exact F1 g
theorem Kn{g:vg->List aR}{l:List vg}(h:∀ d∈l,gD (g d)):gD (l.flatMap g):=λit hm=>by
 let⟨d,hd,hm⟩:=List.mem_flatMap.mp hm;exact h d hd it hm
def DH(r:Row):↑(fH r)=↑r:=by unfold fH;rw[bW]
def wL(a b:Int)(r:Row):↑(fH (cB (rO a b 0 r)))<=↑r:=by
 rw[DH];exact jf (lJ _) (wj a b r 0)
theorem zQ(sh:Int->List Int){g:vg->List aR}(hg:∀ d,↑(g d)<=↑d.2.1+1):∀ (aQ:List aR) (f:Int),↑((eU sh f aQ).flatMap g)<=↑(bR sh aQ)+↑aQ
 | [],_=>by simp[eU]
 | it::r,f=>by
  rw[eU,mF,dM];have a:=hg (it,gE sh it,f,f+lu (gE sh it));have b:=zQ sh hg r (f+lu (gE sh it));have e:bR sh (it::r)=gE sh it++bR sh r:=by unfold bR;rw[mF];rfl
  rw[e,dM,jS];simp only at a;lia
def Wi(p:Int)(d:vg):↑(aD p d)<=↑d.2.1+1:=by
 unfold aD;split
 ·simp
 ·split
  ·simp
  ·exact jf (wL _ _ _) ∅
def Wj(p:Int)(d:vg):↑(bD p d)<=↑d.2.1+1:=by
 unfold bD;split
 ·simp
 ·split
  ·simp
  ·exact jf (wL _ _ _) ∅
def oq{α β:Type}(g:α->List β)(l:List α)(i:Nat):↑((l.take i).flatMap g)<=↑(l.flatMap g):=by
 have e:l.flatMap g=(l.take i).flatMap g++(l.drop i).flatMap g:=by rw[← List.flatMap_append,List.take_append_drop]
 rw[e,dM];lia
def Ck{α β:Type}(g:α->List β){l:List α}{i:Nat}{a:α}(h:l[i]?=⇑a):(l.take (i+1)).flatMap g=(l.take i).flatMap g++g a:=by
 rw[take_snoc h,List.flatMap_append];simp
def F2(sh:Int->List Int){aQ:List aR}{it:aR}(h:it∈aQ):↑(gE sh it)<=↑(bR sh aQ):=by
 let⟨a,b,rfl⟩:=List.append_of_mem h;rw[eT];have e:bR sh (it::b)=gE sh it++bR sh b:=by unfold bR;rw[mF];rfl
 rw[e,dM,dM];lia
def Ko(A B:Addr)(H H':Hp):Prop:=∀ a o,H a=⇑o->a≠A->a≠B->H' a=⇑o
theorem Ko.tup{A B:Addr}{H H':Hp}{xs ys:List V}(k:Ko A B H H')(hA:H A=⇑(.lst xs))(hB:H B=⇑(.lst ys)):∀ a zs,H a=⇑(.tup zs)->H' a=⇑(.tup zs):=λa zs h=>k a _ h (λz=>by
 rw[z,hA]at h;cases h) (λz=>by
 rw[z,hB]at h
 cases h)
theorem cC.tups{H H':Hp}{v:V}{it:aR}(t:∀ a xs,H a=⇑(.tup xs)->H' a=⇑(.tup xs)):cC H v it->cC H' v it:=λ⟨a,e,h⟩=>⟨a,e,t a _ h⟩
theorem mw.aal{N:Addr->Prop}{A B:Addr}{H H':Hp}{v:V}{d:vg}{xs ys:List V}(hA:H A=⇑(.lst xs))(hB:H B=⇑(.lst ys))(n:∀ a,N a->a≠A/\a≠B)(k:Ko A B H H'):mw N H v d->mw N H' v d:=λ⟨a,ra,x,e,h,i,⟨as,hr,hp⟩,hn⟩ =>
 ⟨a,ra,x,e,k.tup hA hB _ _ h,i.tups (k.tup hA hB),⟨as,k _ _ hr (n ra hn).1 (n ra hn).2,hp.tups (k.tup hA hB)⟩,hn⟩
def bV.app{α β:Type}{R:α->β->Prop}{as cs:List α}{bs ds:List β}(h:bV R as bs)(t:bV R cs ds):bV R (as++cs) (bs++ds):=by
 induction h with
 | nil=>exact t
 | cons e _ ih=>exact .cons e ih
structure sI(H1:Hp)(A B:Addr)(l1 l2:List aR)(H2:Hp):Prop where
 a:∃ vs,H2 A=⇑(.lst vs)/\bV (cC H2) vs l1
 b:∃ vs,H2 B=⇑(.lst vs)/\bV (cC H2) vs l2
 k:Ko A B H1 H2
def sI.same{H1 H2 H3:Hp}{A B:Addr}{l1 l2:List aR}(p:sI H1 A B l1 l2 H2)(s:aH H2 H3):sI H1 A B l1 l2 H3:=by
 let⟨⟨v1,h1,t1⟩,⟨v2,h2,t2⟩,k⟩:=p;exact⟨⟨v1,s _ _ h1,t1.mono λ_ _ h=>h.same s⟩,⟨v2,s _ _ h2,t2.mono λ_ _ h=>h.same s⟩,λa o e n m=>s _ _ (k a o e n m)⟩
def sI.Ua{H1 H2:Hp}{A B:Addr}{l1 l2 l3:List aR}{v1 v3:List V}(p:sI H1 A B l1 l2 H2)(n:A≠B)(h1:H2 A=⇑(.lst v1))(t3:bV (cC H2) v3 l3):sI H1 A B (l1++l3) l2 (aO H2 A (.lst (v1++v3))):=by
 let⟨⟨v1',h1',t1⟩,⟨v2,h2,t2⟩,k⟩:=p;rw[h1]at h1';cases h1';have kp:∀ v i,cC H2 v i->cC (aO H2 A (.lst (v1++v3))) v i:=λv i h=>h.keep h1 (aF A _ _);refine⟨⟨_,af,(t1.mono kp).app (t3.mono kp)⟩,⟨v2,by rw[aK n.symm];exact h2,t2.mono kp⟩,λa o e m1 m2=>?_⟩;rw[aK m1];exact k a o e m1 m2
def sI.Ub{H1 H2:Hp}{A B:Addr}{l1 l2 l3:List aR}{v2 v3:List V}(p:sI H1 A B l1 l2 H2)(n:A≠B)(h2:H2 B=⇑(.lst v2))(t3:bV (cC H2) v3 l3):sI H1 A B l1 (l2++l3) (aO H2 B (.lst (v2++v3))):=by
 let⟨⟨v1,h1,t1⟩,⟨v2',h2',t2⟩,k⟩:=p;rw[h2]at h2';cases h2';have kp:∀ v i,cC H2 v i->cC (aO H2 B (.lst (v2++v3))) v i:=λv i h=>h.keep h2 (aF B _ _);refine⟨⟨v1,by rw[aK n];exact h1,t1.mono kp⟩,⟨_,af,(t2.mono kp).app (t3.mono kp)⟩,λa o e m1 m2=>?_⟩;rw[aK m2];exact k a o e m1 m2
def F3{rows:cK}{sh:Int->List Int}(vJ:gw rows)(yL:xY rows)(EZ:qF rows sh):∀ x:Int,0<=x->x<↑rows->∀ y∈sh x,0<=y:=by
 let⟨rk,hb,hd⟩:=yL
 have key:∀ (k:Nat) (x:Int),rk x<k->0<=x->x<↑rows->∀ y∈sh x,0<=y:=by
  intro k
  induction k with
  | zero=>intro x h;lia
  | succ k ih =>
   intro x hx x0 x1 y hy;have he:rows[x.toNat]?=⇑rows[x.toNat]:=nM ∅;rw[EZ x _ x0 he]at hy;unfold bK at hy;let⟨e,hm,hy⟩:=List.mem_flatMap.mp hy;unfold cN at hy;by_cases c:e<0
   ·rw[if_pos c]at hy;have nx:kg rows x (-1-e):=⟨x0,_,he,bM.mpr ⟨E,by rw[show -1-(-1-e)=e by lia];exact hm⟩⟩;let⟨a,b⟩:=vJ.J8 nx;have:=hd _ _ nx;exact ih _ ∅ a b y hy
   ·rw[if_neg c]at hy;rw[List.mem_singleton.mp hy];lia
 exact λx=>key (rk x+1) x (Nat.lt_succ_self _)
def Kp{rows:cK}{s n:Int}{es:List Int}(h0:0<=s)(he:rows[s.toNat]?=⇑es)(h:aR.win n∈aI es):kg rows s n:=by
 exists h0,es,he;rw[← iu];unfold eG;rw[List.mem_filterMap];exact⟨.win n,h,rfl⟩
structure ua(H:Hp)(r:Addr)(rows:cK)(sh:Int->List Int):Prop where
 at_:gn H r (rows.map aI)
 len:↑rows<=1000
 ents:∀ es∈rows,↑es<=1000
 snd:gw rows
 rk:xY rows
 shw:qF rows sh
 bd:∀ x:Int,0<=x->x<↑rows->↑(sh x)<=10000
theorem ua.same{H H':Hp}{r:Addr}{rows:cK}{sh:Int->List Int}(s:aH H H')(h:ua H r rows sh):ua H' r rows sh:={ h with at_:=h.at_.same s }
structure aam(H:Hp)(r:Addr)(rows:cK)(sh:Int->List Int)(s:Int)(es:List Int)(AD:List V)(b:Addr):Prop where
 he:rows[s.toNat]?=⇑es
 hr:H r=⇑(.lst AD)
 ix:qm AD s=⇑↥b
 it:bQ H ↥b (aI es)
 il:↑(aI es)<=1000
 rl:↑(bR sh (aI es))<=10000
 tt:lu (cR (sh s))=↑(sh s)
 se:sh s=bK sh es
def ua.one{H:Hp}{r:Addr}{rows:cK}{sh:Int->List Int}{s:Int}(h:ua H r rows sh)(h0:0<=s)(h1:s<↑rows):∃ es AD b,aam H r rows sh s es AD b:=by
 have gc:rows[s.toNat]?=⇑rows[s.toNat]:=nM ∅;let⟨AD,Kh,vd⟩:=h.at_;let⟨vi,DA,hI⟩:=vd.get' (i:=s.toNat) (b:=aI rows[s.toNat]) (by rw[kU,gc];rfl);let⟨b,IJ,rfl,hb,qA⟩:=id hI;have z:=cQ DA;rw[show ((s.toNat:Nat):Int)=s by lia]at z;have hil:=n6 rows[s.toNat] [];have hel:=h.ents _ (m6 gc);let⟨Hz,hok⟩:=zO sh rows[s.toNat];have se:=h.shw s _ h0 gc;refine⟨_,AD,b,gc,Kh,z,hI,?_,?_,?_,se⟩
 ·show ↑(rows[s.toNat].foldl aZ [])<=_;simp only[m9]at hil;lia
 ·have q:=t7 sh (aI rows[s.toNat]) hok;rw[Hz,← se]at q;have:=h.bd s h0 h1;lia
 ·rw[← rm _ (nZ _),eS]
def rG(ns:List Int):↑(cR ns)<=↑ns:=by
 have z:=zo ns [];simpa [cR] using z
def gf(sh:Int->List Int)(p:Int)(es new:List Int):List Int:=if new=[] then es else aE sh p 0 es++new++bE sh p 0 es
class inductive Sm
 | mk (r S:Addr) (aQ:List aR) (kvs:List (eV × V)) (sh:Int->List Int) (N:Addr->Prop) (_:vs=[↥r,↥S]) (_:bQ H ↥r aQ) (_:H S=⇑(.dK kvs)) (_:zP H kvs sh aQ) (_:↑aQ<=100000) (_:(∀ it∈aQ,↑(gE sh it)<=100000)) (_:(∀ n a,aR.win n∈aQ->cz kvs (Sum.inl n)=⇑↥a->N a)) (_:(∀ a,H a=none->N a)) (_ :
 ∀ (o:Addr) (Dj:List V) (H':Hp),H' o=⇑(.lst Dj)->bV (mw N H') Dj (eU sh 0 aQ)->aH H H'->H o=none->Q ↥o H')
theorem pF:aG ["items","views","told","first","item","row","last"] ["items","views"] (az HQ):=fC
theorem O7:‹(2,27,["items","views"],Sm)›:=λD=>by
 specialize fX D.Zk.F pF;let⟨r,S,aQ,kvs,sh,N,rfl,⟨r',IJ,e,i9,qA⟩,hS,hW,cX,hrl,nW,nN,k⟩:=h;cases e;exists _,(aj (bx (i:=2) pF.nd (bO ah)) (aj (bx (i:=3) pF.nd ay) (aj (d9 PassesOwn.never rfl (ck (pv 0)) (bY (i:=4) pF.nd) (aj (bx (i:=5) pF.nd (aM D.VM (xJ D) hr (aa (pv 4) (aa (pv 1) ah)))) (aj (bx (i:=6) pF.nd (bP fj (pv 3) (eY.uV D.VF (D.T.nH _ D.VF.m) (Dw D) hr (aa (pv 5) ah)))) (aj (aV (dm pI jA jB bT (pv 2) (aa (cG (aa (pv 4) (aa (pv 5) (aa (pv 3) (aa (pv 6) ah))))) ah))) (au (bx (i:=3) pF.nd (pv 6))))))) (au (aL (pv 2))))));refine⟨iY,λq hq=>?_⟩;have s0:aH H (aO H q (.lst [])):=ao hq _;refine⟨Y,r,rfl,⟨_,bG.of (s0 _ _ i9)⟩,cV (K:=K) (a:=r) (xs:=IJ) (λi σ H2=>∃ (vs:List V) (u1 u2 u3:Option V),σ=[⇑↥r,⇑↥S,⇑↥q,⇑(.int (0+lu (bR sh (aQ.take i)))),u1,u2,u3]/\H2 q=⇑(.lst vs)/\bV (mw (λa=>N a/\a≠q) H2) vs (eU sh 0 (aQ.take i))/\aH H H2) ⟨[],none,none,none,rfl,af,.nil,s0⟩ (by rintro i σ H2 _ ⟨_,_,_,_,_,_,_,s⟩;exact bG.of (s _ _ i9)) ?_ ?_⟩
 ·rintro i x σ H2 hi ⟨vs,u1,u2,u3,rfl,dH,hb,s⟩;let⟨it,ei,hiv⟩:=qA.get hi;have im:=m6 ei;have bl:=hb.len;rw[Ci,gx]at bl;refine⟨Y,Y,x,it,S,kvs,λn=>cR (sh n),rfl,hiv.same s,s _ _ hS,λn hn=>(hW.same s) n (by rw[← hn];exact im),λa H3 R3 s3 w3=>?_⟩
  have na:N a/\a≠q:=by
   rcases w3 with ⟨n,rfl,hv⟩|h0
   ·exists nW n a im hv;let⟨b,ED,⟨as,Qq,_⟩⟩:=hW n im;rw[hv]at ED;cases ED;exact aB Qq hq
   ·exact⟨nN a (bw s h0),(aB dH h0).symm⟩
  refine⟨Y,Y,a,gE sh it,rfl,R3,jf (hrl it im) (by decide),λH4 s4=>⟨Z,?_⟩⟩;have MW:=s4 _ _ (s3 _ _ dH);refine⟨Y,.inl ⟨rfl,_,bG.of MW⟩,Y,Y,Y,Y,FH,λt ht=>?_⟩;have Wk:=ao ht (.tup [x,↥a,.int (0+lu (bR sh (aQ.take i))),.int (0+lu (bR sh (aQ.take i))+lu (gE sh it))]) _ _ MW;refine⟨q,Z,Wk,aS ∅,?_⟩;refine⟨Y,_,⇑x,⇑↥a,⇑(.int (0+lu (bR sh (aQ.take i))+lu (gE sh it))),?_,af,?_,bJ hq (s.trans (s3.trans (s4.trans (ao ht _)))) (aF q _ _)⟩
  ·have e:bR sh (aQ.take (i+1))=bR sh (aQ.take i)++gE sh it:=by rw[take_snoc ei,eT,jM];rfl
   rw[e,zg,← Int.add_assoc];rfl
  ·have e:eU sh 0 (aQ.take (i+1))=eU sh 0 (aQ.take i)++[(it,gE sh it,0+lu (bR sh (aQ.take i)),0+lu (bR sh (aQ.take i))+lu (gE sh it))]:=by rw[take_snoc ei,vh];rfl
   rw[e];have Oa:t≠q:=(aB MW ht).symm;refine bV.snoc (hb.mono λv d h=>(((h.same s3).same s4).same (ao ht _)).keep Wk (λa h=>h.2) (aF q _ _)) ⟨t,a,x,rfl,?_,?_,?_,na⟩
   ·rw[aK Oa,af]
   ·exact ((((hiv.same s).same s3).same s4).same (ao ht _)).keep Wk (aF q _ _)
   ·exact (((R3.same s4).same (ao ht _))).keep Wk na.2 (aF q _ _)
 ·rintro σ H2 ⟨vs,u1,u2,u3,rfl,dH,hb,s⟩;rw[qA.len,gy]at hb;exact⟨Y,k q vs H2 dH (hb.mono λv d ⟨a,ra,x,e,h,i,r,n⟩=>⟨a,ra,x,e,h,i,r,n.1⟩) s hq⟩
class inductive IT
 | mk (r S o:Addr) (p:Int) (aQ MV:List aR) (kvs:List (eV × V)) (sh:Int->List Int) (_:vs=[↥r,↥S,.int p,↥o]) (_:bQ H ↥r aQ) (_:H S=⇑(.dK kvs)) (_:zP H kvs sh aQ) (_:bQ H ↥o MV) (_:gD aQ) (_:gD MV) (_:aai sh aQ) (_:↑aQ<=50000) (_:↑(bR sh aQ)<=50000) (_:MV.length<=50000) (_ :
 ∀ (q:Addr) (H':Hp),bQ H' ↥q (aI (aE sh p 0 (eN aQ)++eN MV++bE sh p 0 (eN aQ)))->aH H H'->H q=none->Q ↥q H')
theorem fT:aG ["items","views","place","others","ahead","behind","item","row","first","last"] ["items","views","place","others"] (az sZ):=fC
theorem DJ:‹(3,28,["items","views","place","others"],IT)›:=λD=>by
 specialize fX D.Zl.F fT;let⟨r,S,o,p,aQ,MV,kvs,sh,rfl,hI,hS,hW,hO,ok1,ok2,nn,l1,l2,l3,k⟩:=h;exists _,(aj (bx (i:=4) fT.nd (bO ah)) (aj (bx (i:=5) fT.nd (bO ah)) (aj (d9 PassesOwn.never rfl (ck (aM D.Zk (O7 D) hr (aa (pv 0) (aa (pv 1) ah)))) (oG (n:=4) rfl (cj (bY (i:=6) fT.nd) (cj (bY (i:=7) fT.nd) (cj (bY (i:=8) fT.nd) (cj (bY (i:=9) fT.nd) ie))))) (au (bN (aU ji (pv 9) (pv 2) (bu _)) (au (aV (dm pI jA jB bT (pv 4) (aa (pv 6) ah)))) (au (bN (aU ji (pv 2) (pv 8) (bu _)) (au (aV (dm pI jA jB bT (pv 5) (aa (pv 6) ah)))) (aj (vR (i:=4) fT.nd rfl (Or.inl rfl) (aM D.LX (qH D) hr (aa (aM D.dq7 (wH D) hr (aa (pv 7) (aa ay (aa (bP dY (pv 2) (pv 8)) ah)))) ah)) zG) (au (vR (i:=5) fT.nd rfl (Or.inl rfl) (aM D.LX (qH D) hr (aa (aM D.dq7 (wH D) hr (aa (pv 7) (aa (bP dY (pv 2) (pv 8)) (aa (bP dY (pv 9) (pv 8)) ah)))) ah)) zG)))))))) (au (aL (aM D.RP (mq D) hr (aa (bP ko (bP ko (pv 4) (pv 3)) (pv 5)) ah)))))));refine⟨iY,λA hA=>⟨iY,λB hB=>?_⟩⟩;have sA:aH H (aO H A (.lst [])):=ao hA _;have sB:aH _ (aO (aO H A (.lst [])) B (.lst [])):=ao hB _;have s0:=sA.trans sB;have Qx:A≠B:=aB af hB;have hB0:=bw sA hB;refine⟨Y,Y,r,S,aQ,kvs,sh,λa=>a≠A/\a≠B,rfl,hI.same s0,s0 _ _ hS,hW.same s0,E,(λit hi=>by have:=F2 sh hi;lia),?_,?_,λD dv H1 hD Xf s1 _=>?_⟩
 ·intro n a hn hv;let⟨b,e,as,hb,_⟩:=hW n hn;rw[hv]at e;cases e;exact⟨aB hb hA,aB hb hB0⟩
 ·intro a ha;exact⟨(aB (sB _ _ af) ha).symm,(aB af ha).symm⟩
 have hA1:=s1 _ _ (sB _ _ (af (H:=H) (a:=A) (o:=.lst [])));have hB1:=s1 _ _ (af (H:=aO H A (.lst [])) (a:=B) (o:=.lst []))
 have nD:D≠A/\D≠B:=by
  rename_i hD0;exact⟨(aB (sB _ _ af) hD0).symm,(aB af hD0).symm⟩
 have aju:=zQ sh (Wi p) aQ 0;have ajv:=zQ sh (Wj p) aQ 0;have dok:=Km sh aQ 0 ok1 nn;refine⟨D,rfl,⟨_,bG.of hD⟩,cV (K:=K) (a:=D) (xs:=dv) (λi σ H2=>∃ u1 u2 u3 u4:Option V,σ=[⇑↥r,⇑↥S,⇑(.int p),⇑↥o,⇑↥A,⇑↥B,u1,u2,u3,u4]/\sI H1 A B (((eU sh 0 aQ).take i).flatMap (aD p)) (((eU sh 0 aQ).take i).flatMap (bD p)) H2) ⟨none,none,none,none,rfl,⟨_,hA1,.nil⟩,⟨_,hB1,.nil⟩,λ_ _ e _ _=>e⟩ (by rintro i σ H2 _ ⟨_,_,_,_,_,pv⟩;exact bG.of (pv.k _ _ hD nD.1 nD.2)) ?_ ?_⟩
 ·rintro i x σ H2 hi ⟨u1,u2,u3,u4,rfl,pv⟩;let⟨d,ed,TR⟩:=Xf.get hi;have hd2:=TR.aal hA1 hB1 (λa h=>h) pv.k;let⟨a,ra,xi,rfl,hta,hxi,hra,nra⟩:=hd2;have eA:=Ck (aD p) ed;have eB:=Ck (bD p) ed;have bA:=oq (aD p) (eU sh 0 aQ) i;have bB:=oq (bD p) (eU sh 0 aQ) i;have bA1:=oq (aD p) (eU sh 0 aQ) (i+1);have bB1:=oq (bD p) (eU sh 0 aQ) (i+1);let⟨v1,hv1,t1⟩:=pv.a;let⟨v2,hv2,t2⟩:=pv.b;have z1:=t1.len;have z2:=t2.len;let⟨it,row,fi,la⟩:=d
  have rl:↑row<=50000:=by
   have z:=m6 ed
   have:∃ Vh∈aQ,row=gE sh Vh:=by
    have q:∀ (aQ:List aR) (f:Int),(it,row,fi,la)∈eU sh f aQ->∃ Vh∈aQ,row=gE sh Vh:=by
     intro aQ
     induction aQ with
     | nil=>intro f h;cases h
     | cons i0 r0 ih =>
      intro f h;rw[eU]at h;rcases List.mem_cons.mp h with e|e
      ·cases e;exact⟨it,by simp,rfl⟩
      ·let⟨i1,m1,e1⟩:=ih _ e;exact⟨i1,nO _ m1,e1⟩
    exact q aQ 0 z
   let⟨i1,m1,rfl⟩:=this;have:=F2 sh m1;lia
  exists a,Y,dN.of hta,rfl,Q,rfl,Q,rfl,Q,rfl,Z;refine⟨Y,Y,Z,Y,cM (λc=>?_) (λc=>?_)⟩
  ·have c':la<=p:=of_decide_eq_true c;refine⟨Y,.inl ⟨rfl,_,bG.of hv1⟩,Y,A,Z,hv1,aS ∅,?_⟩;exists K,Y;rw[eA,eB];have e1:aD p (it,row,fi,la)=[it]:=by unfold aD;rw[if_pos c']
   have e2:bD p (it,row,fi,la)=[]:=by unfold bD;rw[if_pos c']
   rw[e1,e2,iS];exact pv.Ua Qx hv1 (.cons hxi .nil)
  ·have c':¬ la<=p:=λz=>c (decide_eq_true z);refine⟨Y,Y,Z,Y,cM (λc2=>?_) (λc2=>?_)⟩
   ·have Qy:p<=fi:=of_decide_eq_true c2;refine⟨Y,.inl ⟨rfl,_,bG.of hv2⟩,Y,B,Z,hv2,aS ∅,?_⟩;exists K,Y;rw[eA,eB];have e1:aD p (it,row,fi,la)=[]:=by unfold aD;rw[if_neg c',if_pos Qy]
    have e2:bD p (it,row,fi,la)=[it]:=by unfold bD;rw[if_neg c',if_pos Qy]
    rw[e1,e2,iS];exact pv.Ub Qx hv2 (.cons hxi .nil)
   ·have Qy:¬ p<=fi:=λz=>c2 (decide_eq_true z);have e1:aD p (it,row,fi,la)=fH (cB (rO 0 (p-fi) 0 row)):=by unfold aD;rw[if_neg c',if_neg Qy]
    have e2:bD p (it,row,fi,la)=fH (cB (rO (p-fi) (la-fi) 0 row)):=by unfold bD;rw[if_neg c',if_neg Qy]
    rw[eA,e1,dM]at bA1;rw[eB,e2,dM]at bB1;refine⟨Y,Y,Y,Y,Z,ra,row,0,p-fi,rfl,hra,E,λq1 H3 R3 s3 Qs=>⟨q1,Y,R3,jf (wj _ _ _ _) ∅,λq2 H4 I4 s4 dH=>?_⟩⟩;let⟨q2',v3,e3,h3,t3⟩:=I4;cases e3;have z3:=t3.len;have Wl:=s4 _ _ (s3 _ _ hv1);refine⟨A,q2,Z,Wl,h3,iC (aS ∅),?_⟩;have pv5:=((pv.same s3).same s4).Ua Qx Wl t3;have ad1:b5 (aO H4 A (.lst (v1++v3))) ra row:=((hra.same s3).same s4).keep Wl nra.1 (aF A _ _);have ad2:(aO H4 A (.lst (v1++v3))) B=⇑(.lst v2):=by rw[aK Qx.symm];exact s4 _ _ (s3 _ _ hv2)
    refine⟨Y,Y,Y,Y,Z,Y,Y,Z,ra,row,p-fi,la-fi,rfl,ad1,E,λq3 H6 R6 s6 vI=>⟨q3,Y,R6,jf (wj _ _ _ _) ∅,λq4 H7 I7 s7 MW=>?_⟩⟩;let⟨q4',v4,e4,h4,t4⟩:=I7;cases e4;have z4:=t4.len;have Uc:=s7 _ _ (s6 _ _ ad2);refine⟨B,q4,Z,Uc,h4,iC (aS ∅),?_⟩;exists K,Y;rw[eA,eB,e1,e2];exact ((pv5.same s6).same s7).Ub Qx Uc t4
 ·rintro σ H2 ⟨u1,u2,u3,u4,rfl,pv⟩;have dl:=Xf.len;rw[dl,gy]at pv;let⟨v1,hv1,t1⟩:=pv.a;let⟨v2,hv2,t2⟩:=pv.b;have z1:=t1.len;have z2:=t2.len;have sm:aH H H2:=λa ob e=>pv.k a ob (s1 _ _ (s0 _ _ e)) (aB e hA) (aB e hB0);let⟨o',v3,e3,h3,t3⟩:=hO.same sm;cases e3;have z3:=t3.len;refine⟨Y,Y,A,o,Z,hv1,h3,iC (aS ∅),λc1 RG=>?_⟩;have n1:aH H2 (aO H2 c1 (.lst (v1++v3))):=ao RG _;refine⟨Y,c1,B,Z,af,n1 _ _ hv2,iC (aS (by rw[dM];lia)),λc2 Wm=>?_⟩;have n2:aH _ (aO (aO H2 c1 (.lst (v1++v3))) c2 (.lst (v1++v3++v2))):=ao Wm _;have Vi:=n1.trans n2;refine⟨c2,Y,⟨c2,Y,af,((t1.app t3).app t2).mono λv i h=>h.same Vi⟩,by rw[dM,dM];lia,λq H9 I9 s9 hq9=>?_⟩;have okA:gD ((eU sh 0 aQ).flatMap (aD p)):=Kn λd hd=>aaj (dok d hd).1 (dok d hd).2;have okB:gD ((eU sh 0 aQ).flatMap (bD p)):=Kn λd hd=>aak (dok d hd).1 (dok d hd).2;rw[qI _ ((okA.append ok2).append okB),dI,dI,F0 sh p aQ 0 ok1,Cj sh p aQ 0 ok1]at I9;exact k q H9 I9 (sm.trans (Vi.trans s9)) (bw (sm.trans Vi) hq9)
class inductive xK
 | mk (r o:Addr) (rows:cK) (s p:Int) (aQ:List aR) (sh:Int->List Int) (_:vs=[↥r,.int s,.int p,↥o]) (_:ua H r rows sh) (_:0<=s) (_:s<↑rows) (_:bQ H ↥o aQ) (_:gD aQ) (_:↑aQ<=10000) (_:0<=p/\p<=↑(sh s)) (_:(∀ (es:List Int) (q:Addr) (H':Hp),rows[s.toNat]?=⇑es->bQ H' ↥q (aI (gf sh p es (eN aQ)))->aH H H'->H q=none->Q ↥q H'))
def O8{aQ:List aR}(h:gD aQ):eN aQ=[]↔aQ=[]:=by
 refine⟨λe=>?_,λe=>by rw[e];rfl⟩
 cases aQ with
 | nil=>rfl
 | cons it r =>
  have e1:eN (it::r)=jH it++eN r:=by unfold eN;rw[mF]
  rw[e1]at e;have e2:=(List.append_eq_nil_iff.mp e).1
  cases it with
  | win n=>cases e2
  | aJ a b =>
   have ab:a<b:=(h (.aJ a b) (by simp)).2;have:=gA a (b-a).toNat;have e3:run a (b-a).toNat=[]:=e2;rw[e3]at this;simp only[m9]at this;lia
theorem xM:aG ["rows","sheet","place","items","views"] ["rows","sheet","place","items"] (az tD):=fC
theorem pG:‹(4,29,["rows","sheet","place","items"],xK)›:=λD=>by
 refine fX D.RQ.F xM λcH A zn s0 H vs Q E hr h=>?_;let⟨r,o,rows,s,p,aQ,sh,rfl,R,h0,h1,hO,ok,ol,hp,k1⟩:=h;have hu:=jc hr;refine⟨_,(aj (bx (i:=4) xM.nd (aM D.VN (qG D) hr (aa (pv 0) (aa (bO (aa (pv 1) ah)) ah)))) (aj (aV (aM D.dq6 (kJ D) hr (aa (gi hu (pv 4) (pv 1)) (aa (pv 2) (aa (pv 2) ah))))) (aj (bN (gO (jj (pv 3) (λ_=>rfl))) (au (aL (aM D.RP (mq D) hr (aa (aN bz (pv 0) (pv 1)) ah)))) aW) (au (aL (aM D.Zl (DJ D) hr (aa (aN bz (pv 0) (pv 1)) (aa (pv 4) (aa (pv 2) (aa (pv 3) ah)))))))))),?_⟩;refine⟨Y,Y,kG,λL hL=>?_⟩;have s1:aH H (aO H L (.lst [.int s])):=ao hL _;refine⟨r,L,rows,[s],sh,rfl,R.at_.same s1,af,by simp,R.len,R.ents,R.snd,R.rk,(λx hx=>by rw[List.mem_singleton.mp hx];exact⟨h0,h1⟩),R.shw,R.bd,λS kvs ks H2 hS hv tp sk hn s2 hS0=>?_⟩;have sk1:=sk s (by simp);let⟨a,ha,Ra⟩:=hv s sk1;have z:=gT.k (k:=Sum.inl s) hS;rw[ha]at z;have qg:=s1.trans s2;have shl:=R.bd s h0 h1;have rol:=rG (sh s);let⟨es,AD,b,O⟩:=(R.same qg).one h0 h1;refine⟨Y,Y,S,Y,z,Y,Y,a,cR (sh s),p,p,rfl,Ra,E,⟨hp.1,Int.le_refl _,by rw[O.tt];exact hp.2⟩,λH3 s3=>?_⟩
 ·let⟨Bj,ajE,b',O3⟩:=(R.same (qg.trans s3)).one h0 h1;have ee:es=Bj:=rL (O.he.symm.trans O3.he);subst ee;have hO3:=hO.same (qg.trans s3);let⟨o',ovs,eo,ho,to⟩:=id hO3;cases eo;exists Y,!ovs.isEmpty,.inl ⟨_,bG.of ho,rfl⟩;have el:=to.len
  cases aQ with
  | nil =>
   have:ovs=[]:=List.eq_nil_of_length_eq_zero (by simpa using el);subst this;refine jg ?_;refine⟨Y,Y,r,K,V,bG.of O3.hr,O3.ix,b',aI es,rfl,O3.it,jf O3.il (by decide),λq H4 I4 s4 hq=>?_⟩;refine k1 es q H4 O.he ?_ (qg.trans (s3.trans s4)) (bw (qg.trans s3) hq);let⟨e1,e2⟩:=pD es;rw[qI _ e2,e1]at I4;exact I4
  | cons it r0 =>
   have:(!ovs.isEmpty)=true:=by
    cases ovs with
    | nil=>simp at el
    | cons _ _=>rfl
   rw[this];refine dF ?_;refine⟨Y,Y,r,K,V,bG.of O3.hr,O3.ix,Y,Y,Y,b',S,o,p,aI es,it::r0,kvs,sh,rfl,O3.it,s3 _ _ hS,λn hn=>?_,hO3,(pD es).2,ok,λn hn=>?_,jf O3.il (by decide),jf O3.rl (by decide),jf ol (by decide),λq H4 I4 s4 hq=>?_⟩
   ·have nx:=Kp h0 O.he hn;let⟨i,hi⟩:=List.getElem?_of_mem sk1;let⟨a2,e2,R2⟩:=hv n (List.mem_of_mem_take (tp.dn i s hi n nx));exact⟨a2,e2,R2.same s3⟩
   ·have nx:=Kp h0 O.he hn;let⟨n0,n1⟩:=R.snd.J8 nx;exact F3 R.snd R.rk R.shw n n0 n1
   ·refine k1 es q H4 O.he ?_ (qg.trans (s3.trans s4)) (bw (qg.trans s3) hq);rw[(pD es).1]at I4;unfold gf;rw[if_neg (λz=>by cases (O8 ok).mp z)];exact I4
def ju(aJ:Row)(es:List Int):List Int:=es.filter λe=>decide (e<0) || !Qt aJ e
def xN(aJ:Row)(a b:List Int):ju aJ (a++b)=ju aJ a++ju aJ b:=by unfold ju;rw[List.filter_append]
def Sn(aJ:Row){es:List Int}(h:∀ e∈es,0<=e):ju aJ es=iB aJ es:=by
 unfold ju iB;refine List.filter_congr λe he=>?_;have:=h e he;rw[decide_eq_false ∅,Bool.false_or]
def O9(aJ:Row){n:Int}(h:0<=n):ju aJ [-1-n]=[-1-n]:=by
 unfold ju;rw[List.filter_cons_of_pos (by rw[decide_eq_true ∅];rfl)];rfl
def IU(aJ:Row)(aQ kK:List aR):Prop:=eN kK=ju aJ (eN aQ)/\gD kK
def IU.win{aJ:Row}{aQ kK:List aR}(h:IU aJ aQ kK){n:Int}(n0:0<=n):IU aJ (aQ++[.win n]) (kK++[.win n]):=by
 refine⟨?_,h.2.append (gD.one n0)⟩;rw[dI,dI,xN,h.1,j7];show _++[-1-n]=_++ju aJ [-1-n];rw[O9 aJ n0]
def IU.aJ{aJ L:Row}{aQ kK:List aR}(h:IU aJ aQ kK){a b:Int}(a0:0<=a)(ok:Ok L)(sp:bI L=iB aJ (fE (a,b)))(lo:∀ p∈L,a<=p.1):IU aJ (aQ++[.aJ a b]) (kK++fH (cB L)):=by
 refine⟨?_,h.2.append (vf (oh λp hp=>⟨by have:=lo p hp;lia,ok p hp⟩))⟩;rw[dI,dI,xN,h.1,j7,qJ,j0 L ok,sp];congr 1;show iB aJ (fE (a,b))=ju aJ (run a (b-a).toNat);rw[Sn aJ λe he=>by have:=(yI.mp he).1;lia];rfl
class inductive Pa
 | mk (r k:Addr) (rows:cK) (s:Int) (sh:Int->List Int) (aJ:Row) (_:vs=[↥r,.int s,↥k]) (_:ua H r rows sh) (_:0<=s) (_:s<↑rows) (_:b5 H k aJ) (_:↑aJ<3) (_:Ok aJ) (_ :
 ∀ (es:List Int) (o:Addr) (H':Hp),rows[s.toNat]?=⇑es->bQ H' ↥o (aI (ju aJ es))->aH H H'->H o=none->Q ↥o H')
theorem gU:aG ["rows","sheet","ink","holes","told","item"] ["rows","sheet","ink"] (az nu):=fC
theorem yc:‹(3,30,["rows","sheet","ink"],Pa)›:=λD=>by
 refine fX D.Zm.F gU λcH A zn s0 H vs Q E hr h=>?_;let⟨r,kk,rows,s,sh,aJ,rfl,R,h0,h1,KI,kl,ok,k⟩:=h;exists _,(aj (bx (i:=3) gU.nd (aM D.Ze (L7 D) hr (aa (pv 2) ah))) (aj (bx (i:=4) gU.nd (bO ah)) (aj (d9 PassesOwn.never rfl (ck (aN bz (pv 0) (pv 1))) (bY (i:=5) gU.nd) (au (bN (aU cW (aN aT (pv 5) ay) bh (bu _)) (au (aV (dm pI jA jB bT (pv 4) (aa (pv 5) ah)))) (au (vR (i:=4) gU.nd rfl (Or.inl rfl) (aM D.LX (qH D) hr (aa (aM D.Zf (Dz D) hr (aa (aN aT (pv 5) ay) (aa (aN aT (pv 5) ay) (aa (pv 3) ah)))) ah)) zG))))) (au (aL (aM D.RP (mq D) hr (aa (pv 4) ah)))))));refine⟨Y,kk,aJ,rfl,KI,kl,ok,λS bL H1 RS FT mem hll s1 hS=>?_⟩;refine⟨iY,λq hq=>?_⟩;have s2:aH H1 (aO H1 q (.lst [])):=ao hq _;have qg:=s1.trans s2;let⟨es,AD,b,O⟩:=(R.same qg).one h0 h1;let⟨b',IJ,eb,hb,qA⟩:=id O.it;cases eb;let⟨e1,e2⟩:=pD es;have il:=O.il
 have nSq:S≠q:=by
  let⟨_,hx,_⟩:=id RS;exact aB hx hq
 have Vj:=bw s1 hq;refine⟨Y,Y,r,K,V,bG.of O.hr,O.ix,b,rfl,⟨_,bG.of hb⟩,cV (K:=K) (a:=b) (xs:=IJ) (λi σ H3=>∃ (u:Option V) (vs:List V) (kK:List aR),σ=[⇑↥r,⇑(.int s),⇑↥kk,⇑↥S,⇑↥q,u]/\H3 q=⇑(.lst vs)/\bV (cC H3) vs kK/\IU aJ ((aI es).take i) kK/\↑kK<=65*i/\aH H1 H3) ⟨none,[],[],rfl,af,.nil,⟨rfl,λi hi=>by cases hi⟩,by simp,s2⟩ (λi σ H3 _ ⟨K,K,Q,s3⟩=>?_) ?_ ?_⟩
 ·let⟨_,_,b2,O2⟩:=(R.same (s1.trans s3)).one h0 h1
  have eb:b2=b:=by
   have i9:=R.at_;let⟨w,hw,_⟩:=i9;have x1:=qg _ _ hw;have x2:=(s1.trans s3) _ _ hw;rw[O.hr]at x1;rw[O2.hr]at x2;cases x1;cases x2;have:=O.ix.symm.trans O2.ix;cases this;rfl
  let⟨bb,iv2,e3,Qq,_⟩:=id O2.it;cases e3;rw[eb]at Qq
  have nbq:b≠q:=by
   let⟨w,hw,tw⟩:=R.at_;have x1:=qg _ _ hw;rw[O.hr]at x1;cases x1;let⟨vi,DA,hI⟩:=tw.get' (i:=s.toNat) (b:=aI es) (by rw[kU,O.he];rfl);have z:=cQ DA;rw[show ((s.toNat:Nat):Int)=s by lia,O.ix]at z;cases z;let⟨b3,_,e4,TV,_⟩:=hI;cases e4;exact aB TV Vj
  have ED:H1 b=⇑(.lst IJ):=by rw[aK nbq]at hb;exact hb
  exact bG.of (s3 _ _ ED)
 ·rintro i x σ H3 hi ⟨u,vs,kK,rfl,h3,t3,lf,tl,s3⟩;let⟨it,ei,hiv⟩:=qA.get hi
  have ad3:∀ v it,cC (aO H1 q (.lst [])) v it->cC H1 v it:=λv it ⟨a,e,h⟩=>⟨a,e,by
   rw[aK (λz=>by rw[z,af]at h;cases h)]at h
   exact h⟩
  let⟨a,rfl,ha⟩:=(ad3 x it hiv).same s3;have io:=e2 it (m6 ei);have vl:=t3.len
  have i1:i<↑(aI es):=by
   rcases Nat.lt_or_ge i ↑(aI es) with z|z
   ·exact z
   ·rw[List.getElem?_eq_none z]at ei;cases ei
  have st:=take_snoc ei
  cases it with
  | win n =>
   refine⟨Y,a,K,V,dN.of ha,V,Y,cM (λ_=>?_) (λz=>absurd (by decide) z)⟩;refine⟨Y,.inl ⟨rfl,_,bG.of h3⟩,Y,q,Z,h3,aS ∅,?_⟩;refine⟨Q,kK++[.win n],rfl,af,bV.snoc (t3.mono λv j h=>h.keep h3 (aF q _ _)) (cC.keep h3 (aF q _ _) ⟨a,rfl,ha⟩),by rw[st];exact lf.win io,by rw[dM,gF];lia,bJ hq s3 (aF q _ _)⟩
  | aJ p p2 =>
   refine⟨Y,a,K,V,dN.of ha,V,Y,cM (λz=>absurd z (by decide)) (λ_=>?_)⟩;let⟨p0,pp⟩:=io;refine⟨Y,Y,a,K,V,dN.of ha,rfl,Y,a,K,V,dN.of ha,rfl,Y,S,bL,p,p2,rfl,RS.same s3,FT,E,E,λw1 L H4 RL okL spL loL lL s4 hw1=>?_⟩;refine⟨w1,L,rfl,RL,E,λw2 H5 I5 s5 hw2=>?_⟩;let⟨w2',v2,e5,h5,t5⟩:=I5;cases e5;have h35:=s5 _ _ (s4 _ _ h3);have z5:=t5.len
   have l5:↑(fH (cB L))<=64:=by
    unfold fH;rw[bW];have:=lJ L;lia
   refine⟨q,w2,Z,h35,h5,iC (aS ∅),?_⟩;refine⟨Q,kK++fH (cB L),rfl,af,?_,?_,by rw[dM];lia,bJ hq (s3.trans (s4.trans s5)) (aF q _ _)⟩
   ·exact (t3.mono λv j h=>((h.same s4).same s5).keep h35 (aF q _ _)).app (t5.mono λv j h=>h.keep h35 (aF q _ _))
   ·rw[st];refine lf.aJ p0 okL ?_ loL;rw[spL];exact qB λx _=>mem x
 ·rintro σ H3 ⟨u,vs,kK,rfl,h3,t3,lf,tl,s3⟩;rw[qA.len,gy]at lf;rw[qA.len]at tl;refine⟨Y,q,kK,rfl,⟨q,vs,rfl,h3,t3⟩,E,λo H4 I4 s4 ho=>?_⟩;rw[qI _ lf.2,lf.1,e1]at I4;exact k es o H4 O.he I4 (s1.trans (s3.trans s4)) (bw (s1.trans s3) ho)
abbrev kO(ws:jb):HO:=.lst (ws.map λw=>V.str (dP w))
abbrev Wn:List (Str × Int):=[(Str.ofString "fresh",0),(Str.ofString "cut",3),(Str.ofString "move",4),(Str.ofString "quote",5),(Str.ofString "window",3),(Str.ofString "fix",1),(Str.ofString "back",2),(Str.ofString "fork",2),(Str.ofString "untie",1),(Str.ofString "read",1)]
abbrev Xv:List (Str × Int):=[(Str.ofString "put",2),(Str.ofString "strike",0),(Str.ofString "blot",1),(Str.ofString "lift",1)]
def mX(D:List (Str × Int))(n:List Nat):Option Int:=(D.find? λp=>decide (dP n=p.1)).map (·.2)
def zR{D:List (Str × Int)}{n:List Nat}{i:Int}(h:mX D n=⇑i):(D.find? λp=>decide (dP n=p.1))=⇑(dP n,i):=by
 unfold mX at h;let⟨⟨x,j⟩,e,rfl⟩:=Option.map_eq_some_iff.mp h;have z:=List.find?_some e;have:dP n=x:=of_decide_eq_true z;rw[e,this]
abbrev F4:List Nat:=[116,105,101]
inductive jE where
 | zS (h:Int) (t:List Nat)
 | plain (n:List Nat) (ns:List Int)
 | pO (n:List Nat) (ns:List Int) (r:Row)
def jE.At(H:Hp)(p:Addr):jE->Prop
 | .zS h t=>H p=⇑(.tup [.str "pour",.int h,.str (dP t)])
 | .plain n ns=>H p=⇑(.tup (.str (dP n)::ns.map V.int))
 | .pO n ns r=>∃ q,H p=⇑(.tup (.str (dP n)::ns.map V.int++[↥q]))/\b5 H q r
def qK(n:Int):Prop:=0<=n/\n<10^60
def Mq(r:Row):Prop:=↑r<=29/\∀ p∈r,qK p.1/\qK p.2
def jE.Ok:jE->Prop
 | .zS h t=>qK h/\↑t<=200
 | .plain n ns=>mX Wn n=⇑(↑ns:Int)/\∀ x∈ns,qK x
 | .pO n ns r=>mX Xv n=⇑(↑ns:Int)/\(∀ x∈ns,qK x)/\Mq r
abbrev vm(p:Int × Int):List Nat:=gB.dg p.1++45::gB.dg p.2
def Mr{p:Int × Int}(h:qK p.1/\qK p.2):↑(vm p)<=121:=by
 rw[dM,jS];have a:=gB.IA h.1.1 h.1.2;have b:=gB.IA h.2.1 h.2.2;lia
def DK{n:Int}(h:qK n):n.natAbs.log2<1920:=by
 let⟨h0,h1⟩:=h;by_cases z:n.natAbs=0
 ·rw[z];decide
 ·rw[Nat.log2_lt z];have a:n.natAbs<10^60:=by lia
  exact pW a (jf (show (10:Nat)^60<=2^200 by decide) (Nat.pow_le_pow_right (by decide) (by decide)))
inductive gV where
 | num (x:Int)
 | tx (t:List Nat)
 | row (r:Row)
def gV.At(H:Hp)(v:V):gV->Prop
 | .num x=>v=.int x
 | .tx t=>v=.str (dP t)
 | .row r=>∃ q,v=↥q/\b5 H q r
def gV.Ok:gV->Prop
 | .num x=>qK x
 | .tx t=>↑t<=200
 | .row r=>Mq r
abbrev F5(r:Row):List Nat:=r.flatMap λp=>32::vm p
def gV.line:gV->List Nat
 | .num x=>32::gB.dg x
 | .tx t=>32::t
 | .row r=>F5 r
def Pb{r:Row}(h:Mq r):↑(F5 r)<=4000:=by
 have key:∀ l:Row,(∀ p∈l,qK p.1/\qK p.2)->↑(F5 l)<=122*↑l:=by
  intro l
  induction l with
  | nil=>intro _;exact fK _
  | cons p l ih =>
   intro g;have z:=ih λq hq=>g q (nO _ hq);have z2:=Mr (g p uv);show ↑((32::vm p)++F5 l)<=_;rw[dM,jS,jS];lia
 have:=key r h.2;have:=h.1;lia
def gV.F6{p:gV}(h:p.Ok):↑p.line<=4000:=by
 cases p with
 | num x=>have:=gB.IA h.1 h.2;show ↑(32::gB.dg x)<=_;rw[jS];lia
 | tx t=>have h':↑t<=200:=h;show ↑(32::t)<=_;rw[jS];lia
 | row r=>exact Pb h
def jE.nm:jE->List Nat
 | .zS _ _=>[112,111,117,114]
 | .plain n _=>n
 | .pO n _ _=>n
def jE.parts:jE->List gV
 | .zS h t=>[.num h,.tx t]
 | .plain _ ns=>ns.map .num
 | .pO _ ns r=>ns.map .num++[.row r]
def jE.line:jE->List Nat
 | d=>d.nm++d.parts.flatMap gV.line
def Pc{H:Hp}{p:Addr}{d:jE}(h:d.At H p):∃ vs,H p=⇑(.tup (.str (dP d.nm)::vs))/\bV (λv q=>gV.At H v q) vs d.parts:=by
 have nums:∀ ns:List Int,bV (λv q=>gV.At H v q) (ns.map V.int) (ns.map gV.num):=λns=>by
  induction ns with
  | nil=>exact .nil
  | cons x ns ih=>exact .cons rfl ih
 cases d with
 | zS x t=>exact⟨_,by rw[h,show Str.ofString "pour"=dP [112,111,117,114] by decide +kernel];rfl,.cons rfl (.cons rfl .nil)⟩
 | plain n ns=>exact⟨_,h,nums ns⟩
 | pO n ns r =>
  let⟨q,e,z⟩:=h;exact⟨ns.map V.int++[↥q],by rw[e];rfl,(nums ns).snoc ⟨q,rfl,z⟩⟩
def Ms{d:jE}(h:d.Ok):∀ q∈d.parts,q.Ok:=by
 cases d with
 | zS x t =>
  intro q hq;rcases List.mem_cons.mp hq with z|z
  ·rw[z];exact h.1
  ·rw[List.mem_singleton.mp z];exact h.2
 | plain n ns =>
  intro q hq;let⟨x,hx,rfl⟩:=List.mem_map.mp hq;exact h.2 x hx
 | pO n ns r =>
  intro q hq;rcases List.mem_append.mp hq with z|z
  ·let⟨x,hx,rfl⟩:=List.mem_map.mp z;exact h.2.1 x hx
  ·rw[List.mem_singleton.mp z];exact h.2.2
theorem F7{H:Hp}:∀ {vs:List V} {ps:List gV} {i:Nat} {v:V},bV (λv q=>gV.At H v q) vs ps->vs[i]?=⇑v->∃ q,ps[i]?=⇑q/\q.At H v
 | _,_,_,_,.nil,h=>by simp at h
 | _,_,0,_,.cons o t,h=>by
  have e:=rL h;subst e;exact⟨Y,o⟩
 | _,_,i+1,_,.cons o t,h=>by
  let⟨q,e,z⟩:=F7 (i:=i) t (by simpa using h);exact⟨q,by simpa using e,z⟩
def Cm{ps:List gV}(h:∀ q∈ps,q.Ok):↑(ps.flatMap gV.line)<=4000*↑ps:=by
 induction ps with
 | nil=>exact Nat.zero_le _
 | cons p ps ih =>
  have z:=ih λq hq=>h q (nO _ hq);have z2:=gV.F6 (h p uv);rw[mF,dM,jS,Nat.mul_add,Nat.mul_one];lia
def So(n:List Nat):∀ ws:jb,gB.jn 32 (n::ws)=n++ws.flatMap (λw=>32::w):=by
 intro ws
 induction ws generalizing n with
 | nil=>show n=_;simp
 | cons w ws ih =>
  show n++32::gB.jn 32 (w::ws)=_;rw[ih w,mF];simp
def F8{D:List (Str × Int)}{n:List Nat}{k:Int}(hD:∀ p∈D,32∉p.1.cps.toList/\p.1.cps.toList≠[112,111,117,114]/\p.1.cps.toList≠F4/\↑p.1.cps.toList<=10)(h:mX D n=⇑k):32∉n/\n≠[112,111,117,114]/\n≠F4/\↑n<=10:=by
 have z:=hD _ (List.mem_of_find?_eq_some (zR h));have e:(dP n).cps.toList=n:=gB.pB n;rw[show ((dP n,k):Str × Int).1=dP n from rfl,e]at z;exact z
theorem Pd{n:List Nat}{k:Int}(h:mX Wn n=⇑k):32∉n/\n≠[112,111,117,114]/\n≠F4/\↑n<=10:=F8 nofun h
theorem Pe{n:List Nat}{k:Int}(h:mX Xv n=⇑k):32∉n/\n≠[112,111,117,114]/\n≠F4/\↑n<=10:=F8 nofun h
def Pf(r:Row):F5 r=(r.map vm).flatMap λw=>32::w:=by
 induction r with
 | nil=>rfl
 | cons x r ih=>rw[jh,mF,← ih];rfl
def jE.At.same{H H':Hp}{p:Addr}{d:jE}(h:d.At H p)(s:aH H H'):d.At H' p:=by
 cases d with
 | zS x t=>exact s _ _ h
 | plain n ns=>exact s _ _ h
 | pO n ns r=>let⟨q,e,r1⟩:=h;exact⟨q,s _ _ e,r1.same s⟩
def Mt{n:List Nat}{k:Int}(h:mX Wn n=⇑k):k<=5:=by
 have z:∀ p∈Wn,p.2<=5:=by decide +kernel
 exact z _ (List.mem_of_find?_eq_some (zR h))
def Mu{n:List Nat}{k:Int}(h:mX Xv n=⇑k):k<=5:=by
 have z:∀ p∈Xv,p.2<=5:=by decide +kernel
 exact z _ (List.mem_of_find?_eq_some (zR h))
def IV{d:jE}(ok:d.Ok):d.nm≠F4/\↑d.nm<=10/\↑d.parts<=10:=by
 cases d with
 | zS x t=>exact⟨by show [112,111,117,114]≠F4;decide,by show 4<=10;decide,by show 2<=10;decide⟩
 | plain n ns =>
  let⟨_,_,f3,f4⟩:=Pd ok.1;have:=Mt ok.1;exact⟨f3,f4,by show ↑(ns.map gV.num)<=10;rw[bW];lia⟩
 | pO n ns r =>
  let⟨_,_,f3,f4⟩:=Pe ok.1;have:=Mu ok.1;exact⟨f3,f4,by show ↑(ns.map gV.num++[gV.row r])<=10;rw[dM,bW];show ↑ns+1<=10;lia⟩
class inductive zT
 | mk (q:Addr) (r:Row) (_:vs=[↥q]) (_:b5 H q r) (_:Mq r) (_: ∀ (a:Addr) (H':Hp),H' a=⇑(kO (r.map vm))->aH H H'->H a=none->Q ↥a H')
theorem F9:aG ["row"] ["row"] (az oR):=fC
def Pg{a b:Int}(ha:0<=a)(hb:0<=b):(Str.empty++Str.ofString (toString a)++Str.ofString "-"++Str.ofString (toString b))=dP (vm (a,b)):=by
 rw[gB.yJ ha,gB.yJ hb,show Str.ofString "-"=dP [45] by decide +kernel,show Str.empty=dP [] from rfl,Dr,Dr,Dr];simp
theorem DL:‹(1,31,["row"],zT)›:=λD=>by
 specialize fX D.RT.F F9;let⟨q,r,rfl,⟨as,hq,pa⟩,⟨lr,fr⟩,k⟩:=h;refine⟨_,(au (aL (fR (N:=["start","stop"]) (jG (sc:=az oR) (NX:=["row"]) (jx:=[none,none]) rfl rfl rfl nofun nofun rfl nofun rfl nofun) rfl (ck (pv 0)) (λ_ _ _ _ _ _=>(uR (n:=2) rfl (cj (bY (i:=0) (show List.Nodup (["start","stop"]:List Str) by decide +kernel)) (cj (bY (i:=1) (show List.Nodup (["start","stop"]:List Str) by decide +kernel)) ie)))) (λ_ _ _ _ _ _=>fQ) (λ_ _ _ _ _ _=>(gB.OM (gB.Kf (pv 0) (gB.RO (gB.Kf (pv 1) gB.RN)))))))),?_⟩;have lp:=Paired.length pa;refine⟨Y,q,rfl,⟨_,bG.of hq⟩,λacc cu=>fk (K:=K) (a:=q) (xs:=as.map V.ref) (λi σ H2=>∃ u0 u1:Option V,σ=[u0,u1]/\H2 acc=⇑(kO ((r.take i).map vm))/\aH H H2) ⟨none,none,rfl,af,ao cu _⟩ (by rintro i σ H2 _ ⟨_,_,_,_,s2⟩;exact bG.of (s2 _ _ hq)) ?_ ?_⟩
 ·rintro i y σ H2 hi ⟨u0,u1,rfl,h2,s2⟩;rw[kU]at hi;let⟨a,ei,rfl⟩:=Option.map_eq_some_iff.mp hi;let⟨p,ep,hp⟩:=pa.get ei;have fp:=fr p (m6 ep);have il:=(List.getElem?_eq_some_iff.mp ep).1;exists a,Y,dN.of (s2 _ _ hp),rfl,Q,rfl,Z;refine⟨Y,Y,DK fp.1,Y,Y,DK fp.2,_,h2,aS (by rw[bW,bW,gx];lia),Q,rfl,?_,bJ cu s2 (aF acc _ _)⟩;rw[af,take_snoc ep,gC,jh,List.map_nil,Pg fp.1.1 fp.2.1];show some (HO.lst _)=⇑(HO.lst _);rw[gC];rfl
 ·rintro σ H2 ⟨u0,u1,rfl,h2,s2⟩;rw[bW,lp,gy]at h2;exact k acc H2 h2 s2 cu
def gV.words:gV->jb
 | .num x=>[gB.dg x]
 | .tx t=>[t]
 | .row r=>r.map vm
def uc(ps:List gV):(ps.flatMap gV.words).flatMap (λw=>32::w)=ps.flatMap gV.line:=by
 induction ps with
 | nil=>rfl
 | cons p ps ih =>
  rw[mF,mF,List.flatMap_append,ih];congr 1
  cases p with
  | num x=>show (32::gB.dg x)++[]=32::gB.dg x;rw[iS]
  | tx t=>show (32::t)++[]=32::t;rw[iS]
  | row r=>exact (Pf r).symm
class inductive Ph
 | mk (p:Addr) (d:jE) (_:vs=[↥p]) (_:d.At H p) (_:d.Ok) (_:d.nm≠F4/\↑d.nm<=10/\↑d.parts<=10) (_: ∀ H',aH H H'->Q (.str (dP d.line)) H')
theorem lC:aG ["deed","words","thing"] ["deed"] (az qp):=fC
def Ga(W:jb):(W.map List.length).sum+↑W=↑(W.flatMap λw=>32::w):=by
 induction W with
 | nil=>rfl
 | cons x W ih =>
  rw[jh,List.sum_cons,jS,mF,dM,jS,← ih];lia
theorem Mv(a b:jb):(a.map λw=>V.str (dP w))++(b.map λw=>V.str (dP w))=(a++b).map λw=>V.str (dP w):=List.map_append.symm
theorem AR:‹(2,32,["deed"],Ph)›:=λD=>by
 have ud:aX P w K mg zt cO 1 _ _ ["row"] zT:=DL D;specialize fX D.Zn.F lC;let⟨p,d,rfl,hd,ok,nn,k⟩:=h;exists _,(aj (bN (aU cW (aN aT (pv 0) ay) bh (bu _)) (au (aL (dm PySem.F.plainAttrs_str PySem.F.slot_str_join PySem.F.type_str_join gB.FF bh (aa (bP ko (bP ko (bP ko (bO (aa bh ah)) (aM D.RT ud hr (aa (aN aT (pv 0) ay) ah))) (bO (aa bh ah))) (aM D.RT ud hr (aa (aN aT (pv 0) ay) ah))) ah)))) aW) (aj (bx (i:=1) lC.nd (bO (aa (aN aT (pv 0) ay) ah))) (aj (d9 PassesOwn.never rfl (UJ (jV UU (pv 0) (kZ ay) oK)) (bY (i:=2) lC.nd) (au (vR (i:=1) lC.nd rfl (Or.inl rfl) (ER (gM (b8 dG rfl D.T.cT xU (aa (pv 2) (aa (pK rfl D.T.iZ sN) ah)))) (aM D.RT ud hr (aa (pv 2) ah)) (bO (aa (zI.Y5 (pv 2)) ah))) zG))) (au (aL (dm PySem.F.plainAttrs_str PySem.F.slot_str_join PySem.F.type_str_join gB.FF bh (aa (pv 1) ah)))))));have tt:Str.ofString "tie"=dP F4:=by decide +kernel
 have kil:kitOne K (.type "int") (.type "list")=⇑false:=by kernel_rfl
 have ksl:kitOne K (.type "str") (.type "list")=⇑false:=by kernel_rfl
 let⟨vs,hp,al⟩:=Pc hd;let⟨n1,n2,n3⟩:=nn;have pk:=Ms ok;have lv:=al.len;have ln:d.line=d.nm++d.parts.flatMap gV.line:=rfl;exists Y,p,K,V,dN.of hp,FI;refine⟨rfl,Y,cM (λc=>absurd (of_decide_eq_true c) (by rw[tt];intro z;exact n1 (RM (V.str.inj z)))) (λ_=>?_)⟩;refine⟨Y,p,K,V,dN.of hp,FI,kG,λwl fwl=>?_⟩;have s0:=ao fwl (.lst [.str (dP d.nm)]);have h0:(aO H wl (.lst [.str (dP d.nm)])) wl=⇑(kO [d.nm]):=af;refine⟨Y,Y,p,Y,dN.of (s0 _ _ hp),?_,λtp htp=>?_⟩
 ·rintro⟨z,_⟩;have e:HT.gv ↑(V.str (dP d.nm)::vs) 0 (some 1)=min 1 ↑(V.str (dP d.nm)::vs):=HT.JJ _ _ 1;have z':HT.gv ↑(V.str (dP d.nm)::vs) 0 (some 1)=0:=z;rw[e,jS]at z';lia
 have ec:jW (V.str (dP d.nm)::vs) (some 1) none=vs:=by
  unfold jW;have e:HT.gv ↑(V.str (dP d.nm)::vs) 0 (some 1)=1:=(HT.JJ _ _ 1).trans (by rw[jS];lia);have e2:HT.gv ↑(V.str (dP d.nm)::vs) ↑(V.str (dP d.nm)::vs) none=↑vs+1:=rfl;rw[e,e2];show vs.take (↑vs+1-1)=vs;exact yM ∅
 rw[ec];change (aO H wl (.lst [.str (dP d.nm)])) tp=none at htp;have s1':=ao htp (.tup vs);have h1:(aO (aO H wl (.lst [.str (dP d.nm)])) tp (.tup vs)) tp=⇑(.tup vs):=af;have h1w:=s1' _ _ h0;have s1:=s0.trans s1';have nwt:wl≠tp:=aB h0 htp;generalize aO (aO H wl (.lst [.str (dP d.nm)])) tp (.tup vs)=H1 at s1 h1 h1w;refine⟨tp,rfl,⟨_,dN.of h1⟩,QK (K:=K) (a:=tp) (xs:=vs) (λi σ H2=>∃ u:Option V,σ=[⇑↥p,⇑↥wl,u]/\H2 wl=⇑(kO (d.nm::(d.parts.take i).flatMap gV.words))/\H2 tp=⇑(.tup vs)/\aH H H2) ⟨none,rfl,by rw[List.take_zero,List.flatMap_nil];exact h1w,h1,s1⟩ (by rintro i σ H2 _ ⟨_,_,_,h2,_⟩;exact dN.of h2) ?_ ?_⟩
 ·rintro i v σ H2 hi ⟨u,rfl,h2,h2t,s2⟩;let⟨q,eq,hq⟩:=F7 al hi;have qk:=pk q (m6 eq);have ql:=gV.F6 qk;have fl:=Cm (ps:=d.parts.take i) λq hq=>pk q (List.mem_of_mem_take hq);have ft:↑(d.parts.take i)<=10:=by rw[gx];lia
  have fs:=Ga ((d.parts.take i).flatMap gV.words);rw[uc]at fs
  have nx:d.nm::(d.parts.take (i+1)).flatMap gV.words=(d.nm::(d.parts.take i).flatMap gV.words)++q.words:=by
   rw[take_snoc eq,List.flatMap_append,mF,List.flatMap_nil,iS,List.cons_append]
  have lB:↑(d.nm::(d.parts.take i).flatMap gV.words)<=50000:=by rw[jS];lia
  have lq:↑q.words<=29:=by
   cases q with
   | num x=>show 1<=29;decide
   | tx t=>show 1<=29;decide
   | row r=>show ↑(r.map vm)<=29;rw[bW];exact qk.1
  have iH:∀ (t:Addr) (H3:Hp) (v':V),aH H2 H3->H2 t=none->H3 t=⇑(kO q.words)->∃ (l b:Addr) (xs zs:List V),V.ref wl=↥l/\V.ref t=↥b/\H3 l=⇑(.lst xs)/\H3 b=⇑(.lst zs)/\↑xs+↑zs<=sizeLine/\∃ u:Option V,([⇑↥p,⇑↥wl,⇑v']:List (Option V)).set 1 (⇑↥l)=[⇑↥p,⇑↥wl,u]/\(aO H3 l (.lst (xs++zs))) wl=⇑(kO (d.nm::(d.parts.take (i+1)).flatMap gV.words))/\(aO H3 l (.lst (xs++zs))) tp=⇑(.tup vs)/\aH H (aO H3 l (.lst (xs++zs))):=by
   intro t H3 v' s3 J5 h3;exists wl,t,Z,s3 _ _ h2,h3,iC (aS (by rw[bW,bW];lia)),Y,?_,?_
   ·rw[Mv,af,nx]
   ·rw[aK nwt.symm];exact s3 _ _ h2t
   ·exact bJ fwl (s2.trans s3) (aF wl _ _)
  cases q with
  | num x =>
   cases (show v=.int x from hq);refine⟨Y,Y,_,"list",Q,rfl,.int x,kil,Y,dF ⟨Y,.inl ⟨x,rfl,DK qk,?_⟩⟩⟩;rw[gB.yJ qk.1];exact⟨kG,λt J5=>iH t _ (.int x) (ao J5 _) J5 af⟩
  | tx t =>
   cases (show v=.str (dP t) from hq);have lt:↑t<=200:=qk;refine⟨Y,Y,_,"list",Q,rfl,.str _,ksl,Y,dF ⟨Y,.inr ⟨t,rfl,E,?_⟩⟩⟩;exact⟨kG,λt' J5=>iH t' _ (.str (dP t)) (ao J5 _) J5 af⟩
  | row r =>
   let⟨qa,rfl,hr⟩:=hq;have Kh:=hr.same s2;let⟨as,has,_⟩:=id Kh;refine⟨Y,Y,_,"list",Q,rfl,.lst has,YH K,Y,jg ?_⟩;exact⟨Y,qa,r,rfl,Kh,qk,λt H3 h3 s3 J5=>iH t H3 ↥qa s3 J5 h3⟩
 ·rintro σ H2 ⟨u,rfl,h2,h2t,s2⟩;rw[lv,gy]at h2;have fs:=Ga (d.parts.flatMap gV.words);rw[uc]at fs;have fl:=Cm (ps:=d.parts) pk;exists rfl,Y,wl,32,_,by rw[show Str.ofString " "=⟨#[32]⟩ by decide +kernel],rfl,h2,?_
  ·rw[jh,List.sum_cons,jS];lia
  rw[So,uc,← ln];exact k H2 s2
structure aao(S:Addr->Prop)(H:Hp)(st op r:Addr)(aQ:List aR):Prop where
 own:S r
 ne:r≠st/\r≠op
 at':bQ H ↥r aQ
def IW(S:Addr->Prop)(H:Hp)(st op a:Addr)(rows:List (List aR)):Prop:=S a/\a≠st/\a≠op/\∃ rs:List Addr,H a=⇑(.lst (rs.map V.ref))/\bV (aao S H st op) rs rows
abbrev j8:=List (List (List aR))
structure Opn(bH:j8)(ops:List Int):Prop where
 Cn:∃ last,bH.getLast?=⇑last/\↑ops=↑last
 fit:∀ (s:Nat) (o:Int),ops[s]?=⇑o->0<=o/\o<↑bH/\∀ (m:Nat) (rows:List (List aR)),bH[m]?=⇑rows->(o<=m↔s<↑rows)
 less:∀ (m:Nat) (rows:List (List aR)),bH[m]?=⇑rows->↑rows<=↑ops
structure Sh(C:Addr)(S:Addr->Prop)(H:Hp)(x d st op:Addr)(bH:j8)(ops:List Int):Prop where
 sx:S x
 ss:S st
 so:S op
 al:∀ a,S a->∃ ob,H a=⇑ob
 hx:H x=⇑(.ins C d [("states",↥st),("openings",↥op)])
 hs:∃ as:List Addr,H st=⇑(.lst (as.map V.ref))/\bV (IW S H st op) as bH
 ho:H op=⇑(.lst (ops.map V.int))
 ne:st≠op
 Qz:Opn bH ops
def bQ.fr{H H':Hp}{r:Addr}{aQ:List aR}(h:bQ H ↥r aQ)(k:∀ xs,H r=⇑(.lst xs)->H' r=⇑(.lst xs))(t:∀ a xs,H a=⇑(.tup xs)->H' a=⇑(.tup xs)):bQ H' ↥r aQ:=by
 let⟨a,vs,e,h1,h2⟩:=h;cases e;exact⟨r,vs,rfl,k _ h1,h2.mono λv it ⟨b,e,hb⟩=>⟨b,e,t _ _ hb⟩⟩
def IW.fr{S S':Addr->Prop}{H H':Hp}{st a:Addr}{rows:List (List aR)}(h:IW S H st op a rows)(sub:∀ a,S a->S' a)(k:∀ a ob,H a=⇑ob->S a->a≠st->a≠op->H' a=⇑ob)(t:∀ a xs,H a=⇑(.tup xs)->H' a=⇑(.tup xs)):IW S' H' st op a rows:=by
 let⟨sa,n1,n2,rs,hr,al⟩:=h;exact⟨sub _ sa,n1,n2,rs,k _ _ hr sa n1 n2,al.mono λr aQ q=>⟨sub _ q.own,q.ne,q.at'.fr (λxs e=>k _ _ e q.own q.ne.1 q.ne.2) t⟩⟩
def Sh.fr{S:Addr->Prop}{H H':Hp}{x d st:Addr}{bH:j8}{ops:List Int}(h:Sh C S H x d st op bH ops)(k:∀ a ob,H a=⇑ob->S a->H' a=⇑ob)(t:∀ a xs,H a=⇑(.tup xs)->H' a=⇑(.tup xs)):Sh C S H' x d st op bH ops:=by
 let⟨sx,ss,so,al,hx,⟨as,hs,a2⟩,ho,ne,Qz⟩:=h;refine⟨sx,ss,so,λa z=>?_,k _ _ hx sx,⟨as,k _ _ hs ss,a2.mono λa rows q=>q.fr (λ_ z=>z) (λa ob e z _ _=>k _ _ e z) t⟩,k _ _ ho so,ne,Qz⟩;let⟨ob,e⟩:=al a z;exact⟨ob,k _ _ e z⟩
theorem Sh.same{S:Addr->Prop}{H H':Hp}{x d st:Addr}{bH:j8}{ops:List Int}(h:Sh C S H x d st op bH ops)(k:aH H H'):Sh C S H' x d st op bH ops:=h.fr (λa ob e _=>k a ob e) (λa xs e=>k _ _ e)
theorem Sh.keep{S:Addr->Prop}{H H':Hp}{x d st l:Addr}{bH:j8}{ops:List Int}{ls:List V}(h:Sh C S H x d st op bH ops)(hl:H l=⇑(.lst ls))(nl:¬ S l)(k:cy l H H'):Sh C S H' x d st op bH ops :=
 h.fr (λa ob e z=>k a ob e (λq=>nl (by rw[← q];exact z))) (λa xs e=>k _ _ e (dB e hl))
theorem zU:∀ {as bs:List Addr},as.map V.ref=bs.map V.ref->as=bs
 | [],[],_=>rfl
 | [],_::_,h=>by cases h
 | _::_,[],h=>by cases h
 | a::as,b::bs,h=>by
  rw[jh,jh]at h;injection h with h1 h2;cases h1;rw[zU h2]
def Sh.last{S:Addr->Prop}{H:Hp}{x d st:Addr}{bH:j8}{ops:List Int}(h:Sh C S H x d st op bH ops){as:List Addr}(ha:H st=⇑(.lst (as.map V.ref))):∃ Ou a,as=Ou++[a]/\∀ last,bH.getLast?=⇑last->IW S H st op a last:=by
 let⟨bs,hb,a2⟩:=h.hs
 have e:as=bs:=by
  rw[ha]at hb;have:=HO.lst.inj (rL hb);exact zU this
 subst e;let⟨last,hl,_⟩:=h.Qz.Cn
 obtain⟨p',rfl⟩:∃ p',bH=p'++[last]:=by
  rcases mE bH with rfl|⟨p',l,rfl⟩
  ·cases hl
  ·rw[ki,m7]at hl;cases hl;exact⟨p',ki⟩
 let⟨Ou,a,rfl,_,r⟩:=a2.split;refine⟨Ou,a,rfl,λl e=>?_⟩;rw[hl]at e;cases e;exact r
def zV(xs:List V){p:Int}(h:0<=p):jW xs none (⇑p)=xs.take p.toNat:=by
 unfold jW;have e1:HT.gv ↑xs 0 none=0:=rfl
 have e2:HT.gv ↑xs ↑xs (⇑p)=min p.toNat ↑xs:=by
  show (if p<0 then (p+(↑xs:Int)).toNat else min p.toNat ↑xs)=_;rw[if_neg ∅]
 rw[e1,e2,List.drop_zero,Nat.sub_zero];rcases Nat.le_total p.toNat ↑xs with z|z
 ·rw[Nat.min_eq_left z]
 ·rw[Nat.min_eq_right z,yM (fK _),yM z]
def Co(xs:List V){p:Int}(h:0<=p):jW xs (⇑p) none=xs.drop p.toNat:=by
 unfold jW;have e1:HT.gv ↑xs ↑xs none=↑xs:=rfl
 have e2:HT.gv ↑xs 0 (⇑p)=min p.toNat ↑xs:=by
  show (if p<0 then (p+(↑xs:Int)).toNat else min p.toNat ↑xs)=_;rw[if_neg ∅]
 rw[e1,e2];rcases Nat.le_total p.toNat ↑xs with z|z
 ·rw[Nat.min_eq_left z,yM (by rw[sP];lia)]
 ·rw[Nat.min_eq_right z,List.drop_of_length_le (fK _),List.drop_of_length_le z];simp
class inductive Mw
 | mk (a r:Addr) (rs:List V) (s:Nat) (_:vs=[↥a,.int (s:Nat),↥r]) (_:H a=⇑(.lst rs)) (_:s<=↑rs) (_:↑rs<=1000) (_: ∀ (p:Addr) (H':Hp),H' p=⇑(.lst (rs.take s++[↥r]++rs.drop (s+1)))->aH H H'->H p=none->Q ↥p H')
class inductive Sq(C:Addr)
 | mk (x d:Addr) (_:vs=[↥x]) (_:H x=⇑(.ins C d [])) (_: ∀ (st op z:Addr) (H':Hp),Sh C (λa=>a=x\/a=st\/a=op\/a=z) H' x d st op [[]] []->cy x H H'->H st=none->H op=none->H z=none->Q .gj H')
class inductive aap(C:Addr)
 | mk (x d st op:Addr) (as:List V) (_:vs=[↥x]) (_:H x=⇑(.ins C d [("states",↥st),("openings",↥op)])) (_:H st=⇑(.lst as)) (_:Q (.int ((↑as:Nat)-1)) H)
class inductive Wq(C:Addr)
 | mk (S:Addr->Prop) (x d st op:Addr) (bH:j8) (ops:List Int) (_:vs=[↥x]) (_:Sh C S H x d st op bH ops) (_:Q (.int (↑ops:Nat)) H)
theorem Mx:aG ["state","sheet","items"] ["state","sheet","items"] (az zc):=fC
theorem wM:aG ["self"] ["self"] (az kB):=fC
theorem Gb:aG ["self"] ["self"] (az tE):=fC
theorem DM:aG ["self"] ["self"] (az qt):=fC
theorem zW:‹(1,33,["state","sheet","items"],Mw)›:=λD=>by
 specialize fX D.VP.F Mx;let⟨a,r,rs,s,rfl,ha,sl,l1,k⟩:=h;exists _,(aj (bN (gO (uz ji ji ay (pv 1) (eE D.T.d8 (pv 0)))) (au jT) aW) (au (aL (bP ko (bP ko (jV rj (pv 0) oK (kZ (pv 1))) (bO (aa (pv 2) ah))) (jV rj (pv 0) (kZ (bP fj (pv 1) ay)) oK)))));refine⟨Y,Z,Y,cM (λc0=>?_) (λc0=>absurd (decide_eq_true ∅) c0)⟩;exists Y,a,Y,.inl (bG.of ha),Z,Y;rw[decide_eq_true (show ((s:Nat):Int)<=((↑rs:Nat):Int) by lia)];refine dF ?_;refine⟨Y,Y,Y,a,Y,bG.of ha,λp1 RH=>?_⟩;rw[zV _ ∅,sO];have s1:aH H (aO H p1 (.lst (rs.take s))):=ao RH _;have h1:(aO H p1 (.lst (rs.take s))) p1=⇑(.lst (rs.take s)):=af;generalize aO H p1 (.lst (rs.take s))=H1 at s1 h1;refine⟨Y,kG,λp2 Rt=>?_⟩;have s2:aH H1 (aO H1 p2 (.lst [↥r])):=ao Rt _;have h2:(aO H1 p2 (.lst [↥r])) p2=⇑(.lst [↥r]):=af;generalize aO H1 p2 (.lst [↥r])=H2 at s2 h2;refine⟨p1,p2,Z,s2 _ _ h1,h2,(by rw[gx];exact iC (aS (by simp only[gF];lia))),λp3 Ud=>?_⟩;have s3:aH H2 (aO H2 p3 (.lst (rs.take s++[↥r]))):=ao Ud _;have h3:(aO H2 p3 (.lst (rs.take s++[↥r]))) p3=⇑(.lst (rs.take s++[↥r])):=af;generalize aO H2 p3 (.lst (rs.take s++[↥r]))=H3 at s3 h3;have QA:=s1.trans (s2.trans s3);refine⟨Y,Y,Z,Y,a,Y,bG.of (QA _ _ ha),λp4 hp4=>?_⟩;rw[Co _ ∅,show (((s:Nat):Int)+1).toNat=s+1 by lia];have s4:aH H3 (aO H3 p4 (.lst (rs.drop (s+1)))):=ao hp4 _;have h4:(aO H3 p4 (.lst (rs.drop (s+1)))) p4=⇑(.lst (rs.drop (s+1))):=af;generalize aO H3 p4 (.lst (rs.drop (s+1)))=H4 at s4 h4;refine⟨p3,p4,Z,s4 _ _ h3,h4,(by rw[dM,gx,sP];exact iC (aS (by simp only[gF];lia))),λp5 hp5=>?_⟩;have s04:=QA.trans s4;exact k p5 _ af (s04.trans (ao hp5 _)) (bw s04 hp5)
theorem vo:‹(1,34,["self"],(Sq CS))›:=λD=>by
 specialize fX D.Zo.F wM;let⟨x,d,rfl,hx,k⟩:=h;exists _,(aj (iT (pv 0) (bO (aa (bO ah) ah)) rfl) (au (iT (pv 0) (bO ah) rfl)));refine⟨iY,λz hz=>?_⟩;have a0:aH H (aO H z (.lst [])):=ao hz _;have z0:(aO H z (.lst [])) z=⇑(.lst []):=af;generalize aO H z (.lst [])=H0 at a0 z0;refine⟨kG,λst vQ=>?_⟩;have a1:aH H0 (aO H0 st (.lst [↥z])):=ao vQ _;have b1:(aO H0 st (.lst [↥z])) st=⇑(.lst [↥z]):=af;generalize aO H0 st (.lst [↥z])=H1 at a1 b1;have a01:=a0.trans a1;refine⟨Y,x,CS,d,Y,a01 _ _ hx,D.cF.cl,D.jO,by decide,?_⟩;have k2:cy x H1 (aO H1 x (.ins CS d (L2.dJ "states" ↥st []))):=aF x _ _;have h2:(aO H1 x (.ins CS d (L2.dJ "states" ↥st []))) x=⇑(.ins CS d [("states",↥st)]):=af;generalize aO H1 x (.ins CS d (L2.dJ "states" ↥st []))=H2 at k2 h2;have Wr:st≠x:=(aB (a0 _ _ hx) vQ).symm;have nzx:z≠x:=(aB hx hz).symm;have nzs:z≠st:=aB z0 vQ;have b2:=k2 _ _ b1 Wr;have z2:=k2 _ _ (a1 _ _ z0) nzx;refine⟨iY,λop Qn=>?_⟩;have Hq:op≠x:=(aB h2 Qn).symm;have nso:st≠op:=aB b2 Qn;have nzo:z≠op:=aB z2 Qn;refine⟨Y,x,CS,d,Y,ao Qn _ _ _ h2,D.cF.cl,D.nX,(by show 1<1000;decide),?_⟩
 have k5:cy x H (aO (aO H2 op (.lst [])) x (.ins CS d (L2.dJ "openings" ↥op [("states",↥st)]))):=λa ob e n=>by
  rw[aK n];exact ao Qn _ _ _ (k2 _ _ (a01 _ _ e) n)
 have z5:(aO (aO H2 op (.lst [])) x (.ins CS d (L2.dJ "openings" ↥op [("states",↥st)]))) z=⇑(.lst []):=by rw[aK nzx];exact ao Qn _ _ _ z2
 have s5:(aO (aO H2 op (.lst [])) x (.ins CS d (L2.dJ "openings" ↥op [("states",↥st)]))) st=⇑(.lst [↥z]):=by rw[aK Wr];exact ao Qn _ _ _ b2
 have o5:(aO (aO H2 op (.lst [])) x (.ins CS d (L2.dJ "openings" ↥op [("states",↥st)]))) op=⇑(.lst []):=by rw[aK Hq];exact af
 have x5:(aO (aO H2 op (.lst [])) x (.ins CS d (L2.dJ "openings" ↥op [("states",↥st)]))) x=⇑(.ins CS d [("states",↥st),("openings",↥op)]):=af;generalize aO (aO H2 op (.lst [])) x (.ins CS d (L2.dJ "openings" ↥op [("states",↥st)]))=H5 at k5 z5 s5 o5 x5
 refine k st op z _ ⟨.inl rfl,.inr (.inl rfl),.inr (.inr (.inl rfl)),λa w=>?_,x5,⟨[z],s5,.cons ⟨.inr (.inr (.inr rfl)),nzs,nzo,[],z5,.nil⟩ .nil⟩,o5,nso,⟨⟨[],V⟩,λs o e=>(by cases s <;> cases e),λm rows e=>?_⟩⟩ k5 (bw a0 vQ) ?_ hz
 ·rcases w with rfl|rfl|rfl|rfl
  ·exact⟨_,x5⟩
  ·exact⟨_,s5⟩
  ·exact⟨_,o5⟩
  ·exact⟨_,z5⟩
 ·match m,e with
  | 0,e=>cases e;exact fK _
  | m+1,e=>cases e
 ·exact bw a01 (jd k2 Hq Qn)
theorem lD:‹(1,35,["self"],(aap CS))›:=λD=>by
 specialize fX D.OP.F Gb;let⟨x,d,st,op,as,rfl,hx,hs,k⟩:=h;exists _,(au (aL (bP dY (eE D.T.d8 (cU (pv 0) rfl)) ay)));exact⟨Y,x,CS,d,_,↥st,rfl,hx,D.cF.cl,D.jO,rfl,st,Y,.inl (bG.of hs),Z,k⟩
theorem sJ:‹(1,36,["self"],(Wq CS))›:=λD=>by
 specialize fX D.VQ.F DM;let⟨S,x,d,st,op,bH,ops,rfl,W,k⟩:=h;let⟨as,hs,a2⟩:=W.hs;let⟨last,hl,ol⟩:=W.Qz.Cn;exists _,(au (aL (eE D.T.d8 (aN bz (cU (pv 0) rfl) (fG dc ay)))));let⟨Ou,a,rfl,r⟩:=W.last hs;refine⟨Y,x,CS,d,_,↥st,rfl,W.hx,D.cF.cl,D.jO,rfl,Y,st,Q,↥a,V,bG.of hs,(by rw[gC];exact dO _ _),?_⟩;let⟨_,_,_,rs,ha,al⟩:=r last hl;exists a,Y,.inl (bG.of ha);rw[bW,al.len,← ol];exact k
def Ws(rows:List (List aR))(ch:Nat × List aR):List (List aR):=rows.take ch.1++[ch.2]++rows.drop (ch.1+1)
def lE(rows:List (List aR))(pP:List (Nat × List aR)):List (List aR):=pP.foldl Ws rows
def Wu(rows:List (List aR))(pP:List (Nat × List aR)):Prop:=∀ (i:Nat) (ch:Nat × List aR),pP[i]?=⇑ch->ch.1<=↑(lE rows (pP.take i))
def Ss{rows:List (List aR)}{ch:Nat × List aR}(h:ch.1<=↑rows):↑rows<=↑(Ws rows ch)/\↑(Ws rows ch)<=↑rows+1:=by
 unfold Ws;rw[dM,dM,gx,sP];simp only[gF];lia
def Cp{rows:List (List aR)}{pP:List (Nat × List aR)}{i:Nat}{ch:Nat × List aR}(h:pP[i]?=⇑ch):lE rows (pP.take (i+1))=Ws (lE rows (pP.take i)) ch:=by
 unfold lE;rw[take_snoc h,List.foldl_append];rfl
theorem zX{rows:List (List aR)}{pP:List (Nat × List aR)}(ok:Wu rows pP):∀ i,i<=↑pP->↑rows<=↑(lE rows (pP.take i))/\↑(lE rows (pP.take i))<=↑rows+i
 | 0,_=>⟨Nat.le_refl _,fK _⟩
 | i+1,h=>by
  have e:pP[i]?=⇑pP[i]:=nM ∅;have a:=zX ok i ∅;have b:=Ss (ok i _ e);rw[Cp e];lia
def Opn.step{bH:j8}{ops:List Int}{last rows:List (List aR)}(h:Opn bH ops)(hl:bH.getLast?=⇑last)(le:↑last<=↑rows):Opn (bH++[rows]) (ops++List.replicate (↑rows-↑last) ((↑bH:Nat):Int)):=by
 let⟨⟨l',hl',ol⟩,fit,less⟩:=h;rw[hl]at hl';cases hl'
 have get:∀ (m:Nat) (r:List (List aR)),(bH++[rows])[m]?=⇑r->bH[m]?=⇑r/\m<↑bH\/m=↑bH/\r=rows:=λm r e=>by
  by_cases c:m<↑bH
  ·rw[List.getElem?_append_left c]at e;exact .inl ⟨e,c⟩
  ·rw[List.getElem?_append_right ∅]at e
   match hm:m-↑bH,e with
   | 0,e=>cases e;exact .inr ⟨E,rfl⟩
   | k+1,e=>cases e
 refine⟨⟨rows,m7,by rw[dM,List.length_replicate];lia⟩,λs o e=>?_,λm r e=>?_⟩
 ·by_cases c:s<↑ops
  ·rw[List.getElem?_append_left c]at e;let⟨f0,f1,f2⟩:=fit s o e;refine⟨f0,by rw[dM];simp only[gF];lia,λm r em=>?_⟩;rcases get m r em with ⟨q,_⟩|⟨rfl,rfl⟩
   ·exact f2 m r q
   ·constructor
    ·intro _;lia
    ·intro _;lia
  ·rw[List.getElem?_append_right ∅,List.getElem?_replicate]at e;split at e
   ·cases e;refine⟨E,by rw[dM];simp only[gF];lia,λm r em=>?_⟩;rcases get m r em with ⟨q,lt⟩|⟨rfl,rfl⟩
    ·have:=less m r q;constructor
     ·intro z;lia
     ·intro z;lia
    ·constructor
     ·intro _;lia
     ·intro _;lia
   ·cases e
 ·rw[dM,List.length_replicate];rcases get m r e with ⟨q,_⟩|⟨rfl,rfl⟩
  ·have:=less m r q;lia
  ·lia
theorem bV.take{α β:Type}{R:α->β->Prop}:∀ {as:List α} {bs:List β} (n:Nat),bV R as bs->bV R (as.take n) (bs.take n)
 | _,_,0,_=>by rw[List.take_zero,List.take_zero];exact .nil
 | _,_,n+1,.nil=>.nil
 | _,_,n+1,.cons e r=>.cons e (r.take n)
theorem bV.drop{α β:Type}{R:α->β->Prop}:∀ {as:List α} {bs:List β} (n:Nat),bV R as bs->bV R (as.drop n) (bs.drop n)
 | _,_,0,h=>h
 | _,_,n+1,.nil=>.nil
 | _,_,n+1,.cons _ r=>r.drop n
theorem Ge(v:V):∀ n:Nat,(List.replicate n [v]).flatten=List.replicate n v
 | 0=>rfl
 | n+1=>by rw[List.replicate_succ,List.flatten_cons,Ge v n,List.replicate_succ];rfl
def Su{H:Hp}{a:Addr}{ob:HO}(h:H a=⇑ob):aO H a ob=H:=by
 funext b;by_cases e:b=a
 ·rw[e,af,h]
 ·rw[aK e]
def IX(H:Hp)(a:Addr)(ch:Nat × List aR):Prop:=∃ r:Addr,H a=⇑(.tup [.int (ch.1:Nat),↥r])/\bQ H ↥r ch.2
theorem IX.same{H H':Hp}{a:Addr}{ch:Nat × List aR}(s:aH H H'):IX H a ch->IX H' a ch:=λ⟨r,h1,h2⟩=>⟨r,s _ _ h1,h2.same s⟩
class inductive Pj(C:Addr)
 | mk (S:Addr->Prop) (x d st op c:Addr) (bH:j8) (ops:List Int) (cs:List Addr) (pP:List (Nat × List aR)) (last:List (List aR)) (_:vs=[↥x,↥c]) (_:Sh C S H x d st op bH ops) (_:H c=⇑(.lst (cs.map V.ref))) (_:bV (IX H) cs pP) (_:bH.getLast?=⇑last) (_:Wu last pP) (_:↑pP<=200) (_:↑last<=500) (_:↑bH<=1000) (_ :
 ∀ (S':Addr->Prop) (H':Hp),Sh C S' H' x d st op (bH++[lE last pP]) (ops++List.replicate (↑(lE last pP)-↑last) ((↑bH:Nat):Int))->(∀ a,S' a->S a\/H a=none)->(∀ a ob,H a=⇑ob->¬ S a->H' a=⇑ob)->(∀ a xs,H a=⇑(.tup xs)->H' a=⇑(.tup xs))->Q .gj H')
theorem iy:aG ["self","changes","state","ahead","sheet","items"] ["self","changes"] (az qu):=fC
theorem AS:‹(2,37,["self","changes"],(Pj CS))›:=λD=>by
 specialize fX D.Zp.F iy;let⟨S,x,d,st,op,c,bH,ops,cs,pP,last,rfl,W,hc,a2,hl,okc,lc,ll,lp,k⟩:=h;exists _,(aj (bx (i:=2) iy.nd (aN bz (cU (pv 0) rfl) (fG dc ay))) (aj (bx (i:=3) iy.nd (eE D.T.d8 (pv 2))) (aj (d9 PassesOwn.never rfl (ck (pv 1)) (oG (n:=2) rfl (cj (bY (i:=4) iy.nd) (cj (bY (i:=5) iy.nd) ie))) (au (bx (i:=2) iy.nd (aM D.VP (zW D) hr (aa (pv 2) (aa (pv 4) (aa (d7 fP rfl D.T.iZ sN (aa (pv 5) ah)) ah))))))) (aj (aV (dm pI jA jB bT (cU (pv 0) rfl) (aa (pv 2) ah))) (au (vX (pv 0) (bP NH (bO (aa (eL (pv 0) D.cF D.OP (lD D) hr bS) ah)) (bP dY (eE D.T.d8 (pv 2)) (pv 3))) Im))))));let⟨as,hs,al⟩:=id W.hs;let⟨Ou,a,ea,r⟩:=W.last hs;let⟨Sa,na1,na2,rs,ha,ar⟩:=r last hl;have lal:=al.len;refine⟨Y,x,CS,d,_,↥st,rfl,W.hx,D.cF.cl,D.jO,rfl,Y,st,Q,↥a,V,bG.of hs,(by rw[ea,gC];exact dO _ _),?_⟩;exists Y,a,Y,.inl (bG.of ha);rw[bW,ar.len];have vQ:∀ q,H q=none->q≠st/\q≠op:=λq hq=>⟨λz=>(by rw[z,hs]at hq;cases hq),λz=>(by rw[z,W.ho]at hq;cases hq)⟩;refine⟨Y,c,rfl,⟨_,bG.of hc⟩,cV (K:=K) (a:=c) (xs:=cs.map V.ref) (λi σ H1=>∃ (u4 u5:Option V) (S1:Addr->Prop) (ai:Addr),σ=[⇑↥x,⇑↥c,⇑↥ai,⇑(.int (↑last:Nat)),u4,u5]/\aH H H1/\(∀ q,S q->S1 q)/\(∀ q,S1 q->S q\/H q=none)/\(∀ q,S1 q->∃ ob,H1 q=⇑ob)/\IW S1 H1 st op ai (lE last (pP.take i))) ⟨none,none,S,a,rfl,aH.refl _,λ_ z=>z,λ_ z=>.inl z,W.al,r last hl⟩ (by rintro i σ H1 _ ⟨_,_,_,_,_,s,_⟩;exact bG.of (s _ _ hc)) ?_ ?_⟩
 ·rintro i y σ H1 hi ⟨u4,u5,S1,ai,rfl,s1,up,sub,al1,sa1⟩;rw[kU]at hi;let⟨t,et,rfl⟩:=Option.map_eq_some_iff.mp hi;let⟨ch,ech,q⟩:=a2.get et;have il:=(List.getElem?_eq_some_iff.mp ech).1;let⟨ri,ht,hri⟩:=q.same s1;let⟨b,vs,eb,hb,itb⟩:=id hri;cases eb;let⟨Sai,aar,aeb,rsi,hai,ari⟩:=id sa1;exists t,Y,dN.of ht,rfl,Q,rfl,Z;refine⟨Y,Y,Y,ri,Y,.inl (bG.of hb),λz hz=>?_⟩;have s2:aH H1 (aO H1 z (.lst vs)):=ao hz _;have z2:(aO H1 z (.lst vs)) z=⇑(.lst vs):=af;generalize aO H1 z (.lst vs)=H2 at s2 z2;have lens:=zX okc i ∅;have aec:=okc i ch ech;have lri:=ari.len;refine⟨ai,z,_,ch.1,rfl,s2 _ _ hai,by rw[bW,lri];exact aec,by rw[bW,lri];lia,λp H3 Ud s3 fp=>?_⟩;have s23:=s2.trans s3;have fz:H z=none:=bw s1 hz;have fp':H p=none:=bw (s1.trans s2) fp;exists Q,λq=>S1 q\/q=z\/q=p,p,rfl,s1.trans s23,λq z=>.inl (up q z),λq w=>?_,λq w=>?_,.inr (.inr rfl),(vQ p fp').1,(vQ p fp').2,rsi.take ch.1++[z]++rsi.drop (ch.1+1),?_
  ·rcases w with w|rfl|rfl
   ·exact sub q w
   ·exact .inr fz
   ·exact .inr fp'
  ·rcases w with w|rfl|rfl
   ·let⟨ob,e⟩:=al1 q w;exact⟨ob,s23 _ _ e⟩
   ·exact⟨_,s3 _ _ z2⟩
   ·exact⟨_,Ud⟩
  ·rw[Ud];simp only[gC,List.map_take,List.map_drop,jh,List.map_nil]
  ·rw[Cp ech];have mv:bV (aao (λq=>S1 q\/q=z\/q=p) H3 st op) rsi (lE last (pP.take i)):=ari.mono λr aQ q=>⟨.inl q.own,q.ne,q.at'.same s23⟩;refine ((mv.take ch.1).app (.cons ⟨.inr (.inl rfl),vQ z fz,⟨z,vs,rfl,s3 _ _ z2,itb.mono λv it q=>q.same s23⟩⟩ .nil)).app (mv.drop (ch.1+1))
 ·rintro σ H1 ⟨u4,u5,S1,ai,rfl,s1,up,sub,al1,sa1⟩;have lcs:↑(cs.map V.ref)=↑pP:=by rw[bW,a2.len]
  rw[lcs,gy]at sa1;have lens:=zX okc ↑pP (fK _);rw[gy]at lens;let⟨Sai,aar,aeb,rsi,hai,ari⟩:=id sa1;have lri:=ari.len;have W1:=W.same s1;have Ww:=s1 _ _ hs;refine⟨Y,x,CS,d,_,↥st,rfl,W1.hx,D.cF.cl,D.jO,rfl,.inl ⟨rfl,_,bG.of Ww⟩,Y,st,Z,Ww,(by rw[bW];exact aS ∅),?_⟩;rw[show as.map V.ref++[↥ai]=(as++[ai]).map V.ref by rw[gC];rfl];have k2:cy st H1 (aO H1 st (.lst ((as++[ai]).map V.ref))):=aF st _ _;have st2:(aO H1 st (.lst ((as++[ai]).map V.ref))) st=⇑(.lst ((as++[ai]).map V.ref)):=af;generalize aO H1 st (.lst ((as++[ai]).map V.ref))=H2 at k2 st2;have nxs:x≠st:=dB W1.hx Ww;have nxo:x≠op:=dB W1.hx W1.ho;have x2:=k2 _ _ W1.hx nxs;have o2:=k2 _ _ W1.ho W.ne.symm;have ai2:=k2 _ _ hai aar
  have lmn:(↑((as++[ai]).map V.ref):Int)-1=((↑bH:Nat):Int):=by
   rw[bW,dM,lal];simp only[gF];lia
  exists Y,x,CS,d,_,↥op,rfl,x2,D.cF.cl,D.nX,rfl,Y,x,d,Y,x2,rfl,x,d,st,op,Y,x2,st2;rw[lmn];refine⟨kG,λt2 MU=>?_⟩;have s3:aH H2 (aO H2 t2 (.lst [.int (↑bH:Nat)])):=ao MU _;have b3:(aO H2 t2 (.lst [.int (↑bH:Nat)])) t2=⇑(.lst [.int (↑bH:Nat)]):=af;generalize aO H2 t2 (.lst [.int (↑bH:Nat)])=H3 at s3 b3;exists Y,ai,Y,.inl (bG.of (s3 _ _ ai2)),Y,Z;rw[bW,lri];have ek:((↑(lE last pP):Nat):Int)-((↑last:Nat):Int)=((↑(lE last pP)-↑last:Nat):Int):=by lia
  show Yv _ (V.int (((↑(lE last pP):Nat):Int)-((↑last:Nat):Int))) _ _;rw[ek];refine⟨t2,Z,b3,E,E,(by simp only[gF];exact iC (aS ∅)),λt3 Xw=>?_⟩;rw[sO,Ge];generalize hk:↑(lE last pP)-↑last=kk;have s4:aH H3 (aO H3 t3 (.lst (List.replicate kk (V.int (↑bH:Nat))))):=ao Xw _;have b4:(aO H3 t3 (.lst (List.replicate kk (V.int (↑bH:Nat))))) t3=⇑(.lst (List.replicate kk (V.int (↑bH:Nat)))):=af;generalize aO H3 t3 (.lst (List.replicate kk (V.int (↑bH:Nat))))=H4 at s4 b4;have s24:=s3.trans s4
  have lo:↑ops<=700:=by
   let⟨l',hl',ol⟩:=W.Qz.Cn;rw[hl]at hl';cases hl';lia
  refine⟨op,t3,Z,s24 _ _ o2,b4,(by rw[bW,List.length_replicate];exact iC (aS ∅)),?_⟩;rw[show ops.map V.int++List.replicate kk (V.int (↑bH:Nat))=(ops++List.replicate kk ((↑bH:Nat):Int)).map V.int by rw[gC,List.map_replicate]];have k5:cy op H4 (aO H4 op (.lst ((ops++List.replicate kk ((↑bH:Nat):Int)).map V.int))):=aF op _ _;have o5:(aO H4 op (.lst ((ops++List.replicate kk ((↑bH:Nat):Int)).map V.int))) op=⇑(.lst ((ops++List.replicate kk ((↑bH:Nat):Int)).map V.int)):=af;generalize aO H4 op (.lst ((ops++List.replicate kk ((↑bH:Nat):Int)).map V.int))=H5 at k5 o5;have x5:=k5 _ _ (s24 _ _ x2) nxo;refine⟨d,_,x5,(by show 2<1000;decide),?_⟩;have e5:aO H5 x (.ins CS d (L2.dJ "openings" ↥op ([("states",↥st),("openings",↥op)]:List (Str × V))))=H5:=Su x5;rw[e5];have k15:∀ q ob,H1 q=⇑ob->q≠st->q≠op->H5 q=⇑ob:=λq ob e m1 m2=>k5 _ _ (s24 _ _ (k2 _ _ e m1)) m2;have t15:∀ q xs,H1 q=⇑(.tup xs)->H5 q=⇑(.tup xs):=λq xs e=>k15 _ _ e (dB e Ww) (dB e W1.ho);have Xe:=k5 _ _ (s24 _ _ st2) W.ne;refine k S1 H5 ⟨up _ W.sx,up _ W.ss,up _ W.so,λq w=>?_,x5,⟨as++[ai],Xe,?_⟩,by rw[hk];exact o5,W.ne,W.Qz.step hl lens.1⟩ sub (λq ob e n=>?_) (λq xs e=>t15 _ _ (s1 _ _ e))
  ·by_cases z1:q=st
   ·rw[z1];exact⟨_,Xe⟩
   by_cases z2:q=op
   ·rw[z2];exact⟨_,o5⟩
   let⟨ob,e⟩:=al1 q w;exact⟨ob,k15 _ _ e z1 z2⟩
  ·refine (bV.mono (λa rows q=>?_) al).app (.cons (sa1.fr (λ_ z=>z) (λq ob e _ m1 m2=>k15 _ _ e m1 m2) t15) .nil);exact q.fr up (λq ob e _ m1 m2=>k15 _ _ (s1 _ _ e) m1 m2) (λq xs e=>t15 _ _ (s1 _ _ e))
  ·exact k15 _ _ (s1 _ _ e) (λz=>n (by rw[z];exact W.ss)) (λz=>n (by rw[z];exact W.so))
def rP(n:Nat)(a:Int):Prop:=0<=a/\a<(n:Nat)
def rP.get{n:Nat}{a:Int}(h:rP n a):∃ j:Nat,a=j/\j<n:=by
 let⟨h0,h1⟩:=h;exact⟨a.toNat,E,E⟩
def aat(bH:j8)(ops:List Int):Prop:=↑bH<=1000/\↑ops<=1000
class inductive Cq(C:Addr)
 | mk (S:Addr->Prop) (x d st op:Addr) (bH:j8) (ops:List Int) (s:Int) (_:vs=[↥x,.int s]) (_:Sh C S H x d st op bH ops) (_:rP ↑ops s) (_:Q .gj H)
class inductive My(C:Addr)
 | mk (S:Addr->Prop) (x d st op:Addr) (bH:j8) (ops:List Int) (m:Int) (_:vs=[↥x,.int m]) (_:Sh C S H x d st op bH ops) (_:rP ↑bH m) (_:Q .gj H)
def Told(H:Hp)(aQ:List aR)(Q:V->Hp->Prop):Prop:=∀ (q:Addr) (H':Hp),bQ H' ↥q aQ->aH H H'->H q=none->Q ↥q H'
class inductive Wx(C:Addr)
 | mk (S:Addr->Prop) (x d st op:Addr) (bH:j8) (ops:List Int) (s:Int) (_:vs=[↥x,.int s]) (_:Sh C S H x d st op bH ops) (_:rP ↑ops s) (_:(∀ (si:Nat) (last:List (List aR)) (aQ:List aR),s=si->bH.getLast?=⇑last->last[si]?=⇑aQ->Told H aQ Q))
def Sv(H H':Hp)(q:Addr)(rows:List (List aR)):Prop:=H q=none/\∃ rs:List Addr,H' q=⇑(.lst (rs.map V.ref))/\bV (λr aQ=>H r=none/\r≠q/\bQ H' ↥r aQ) rs rows
class inductive Gf(C:Addr)
 | mk (S:Addr->Prop) (x d st op:Addr) (bH:j8) (ops:List Int) (m:Int) (_:vs=[↥x,.int m]) (_:Sh C S H x d st op bH ops) (_:aat bH ops) (_:rP ↑bH m) (_:(∀ (mi:Nat) (rows:List (List aR)),m=mi->bH[mi]?=⇑rows->∀ (q:Addr) (H':Hp),Sv H H' q rows->aH H H'->Q ↥q H'))
class inductive Pk(C:Addr)
 | mk (S:Addr->Prop) (x d st op:Addr) (bH:j8) (ops:List Int) (_:vs=[↥x]) (_:Sh C S H x d st op bH ops) (_:aat bH ops) (_:(∀ (rows:List (List aR)),bH.getLast?=⇑rows->∀ (q:Addr) (H':Hp),Sv H H' q rows->aH H H'->Q ↥q H'))
theorem rQ:aG ["self","sheet"] ["self","sheet"] (az iU):=fC
theorem qL:aG ["self","moment"] ["self","moment"] (az iD):=fC
theorem Gg:aG ["self","sheet"] ["self","sheet"] (az tF):=fC
theorem vp:aG ["self","moment"] ["self","moment"] (az ir):=fC
theorem DN:aG ["self"] ["self"] (az qv):=fC
theorem cZ:‹(2,38,["self","sheet"],(Cq CS))›:=λD=>by
 specialize fX D.IF.F rQ;let⟨S,x,d,st,op,bH,ops,a,rfl,W,iw,k1⟩:=h;exists _,(au (bN (gO (uz ji lO ay (pv 1) (eL (pv 0) D.cF D.VQ (sJ D) hr bS))) (au jT) aW));exists Y,Z,Y;rw[decide_eq_true iw.1];refine cM (λ_=>?_) (λc=>absurd rfl c);exists Y,x,d,Y,W.hx,rfl,S,x,d,st,op,bH,ops,rfl,W,Z,Y;rw[decide_eq_true iw.2];exact dF k1
theorem pZ:‹(2,39,["self","moment"],(My CS))›:=λD=>by
 specialize fX D.Zq.F qL;let⟨S,x,d,st,op,bH,ops,a,rfl,W,iw,k1⟩:=h;let⟨as,hs,al⟩:=W.hs;exists _,(au (bN (gO (uz ji ji ay (pv 1) (eL (pv 0) D.cF D.OP (lD D) hr bS))) (au jT) aW));exists Y,Z,Y;rw[decide_eq_true iw.1];refine cM (λ_=>?_) (λc=>absurd rfl c);exists Y,x,d,Y,W.hx,rfl,x,d,st,op,Y,W.hx,hs,Z,Y;rw[decide_eq_true (show a<=(↑(as.map V.ref):Int)-1 by rw[bW,al.len];exact Int.le_sub_one_of_lt iw.2)];exact dF k1
def Sh.at'{S:Addr->Prop}{H:Hp}{x d st:Addr}{bH:j8}{ops:List Int}(h:Sh C S H x d st op bH ops){as:List Addr}(ha:H st=⇑(.lst (as.map V.ref))){i:Nat}{rows:List (List aR)}(e:bH[i]?=⇑rows):∃ a,as[i]?=⇑a/\IW S H st op a rows:=by
 let⟨bs,hb,a2⟩:=h.hs
 have e':as=bs:=by
  rw[ha]at hb;exact zU (HO.lst.inj (rL hb))
 subst e';exact a2.get' e
def Sh.Ue{S:Addr->Prop}{H:Hp}{x d st:Addr}{bH:j8}{ops:List Int}(h:Sh C S H x d st op bH ops):∃ last,bH.getLast?=⇑last/\bH[↑bH-1]?=⇑last/\↑ops=↑last:=by
 let⟨last,hl,ol⟩:=h.Qz.Cn;refine⟨last,hl,?_,ol⟩;rw[List.getLast?_eq_getElem?]at hl;exact hl
theorem DO:‹(3,42,["self","sheet"],(Wx CS))›:=λD=>by
 specialize fX D.Zs.F Gg;let⟨S,x,d,st,op,bH,ops,a,rfl,W,ia,k1⟩:=h;exists _,(aj (aV (cJ (pv 0) D.cF D.IF (cZ D) hr bS (aa (pv 1) ah))) (au (aL (d7 fP rfl D.T.iZ sN (aa (aN bz (aN bz (cU (pv 0) rfl) (fG dc ay)) (pv 1)) ah)))));exists Y,x,d,Y,W.hx,rfl,Y,S,x,d,st,op,bH,ops,a,rfl,W,ia;let⟨j,rfl,jl⟩:=ia.get;let⟨as,hs,al⟩:=id W.hs;let⟨Ou,b,ea,r⟩:=W.last hs;let⟨last,hl,_,ol⟩:=W.Ue;let⟨_,_,_,rs,hb,ar⟩:=r last hl;have el:last[j]?=⇑last[j]:=nM ∅;let⟨ri,eri,fc⟩:=ar.get' el;let⟨c,vs,ec,hc,it⟩:=fc.at';cases ec;refine⟨Y,x,CS,d,_,↥st,rfl,W.hx,D.cF.cl,D.jO,rfl,Y,st,Q,↥b,V,bG.of hs,(by rw[ea,gC];exact dO _ _),Y,b,Q,↥ri,V,bG.of hb,cQ (by rw[kU,eri];rfl),ri,Y,.inl (bG.of hc),λq hq=>?_⟩;exact k1 j last _ rfl hl el q _ ⟨q,vs,rfl,af,it.mono λv i z=>z.same (ao hq _)⟩ (ao hq _) hq
theorem ue:‹(3,40,["self","moment"],(Gf CS))›:=λD=>by
 specialize fX D.Zr.F vp;let⟨S,x,d,st,op,bH,ops,m,rfl,W,ok,im,k1⟩:=h;let⟨as,hs,al⟩:=id W.hs;refine⟨_,(aj (aV (cJ (pv 0) D.cF D.Zq (pZ D) hr bS (aa (pv 1) ah))) (au (aL (fR (N:=["items"]) (jG (sc:=az ir) (NX:=["self","moment"]) (jx:=[none]) rfl rfl rfl nofun nofun rfl nofun rfl nofun) rfl (ck (aN bz (cU (pv 0) rfl) (pv 1))) (λ_ _ _ _ _ _=>(bY (i:=0) (show List.Nodup (["items"]:List Str) by decide +kernel))) (λ_ _ _ _ _ _=>fQ) (λ_ _ _ _ _ _=>(d7 Il rfl D.T.iZ sN (aa (pv 0) ah))))))),?_⟩;exists Y,x,d,Y,W.hx,rfl,Y,S,x,d,st,op,bH,ops,m,rfl,W,im;let⟨i,rfl,il⟩:=im.get;have er:bH[i]?=⇑bH[i]:=nM il;generalize bH[i]=rows at er;let⟨b,eb,_,_,_,rs,hb,ar⟩:=W.at' hs er;have lr:=ar.len;have lo:=W.Qz.less i rows er;have ok2:=ok.2;refine⟨Y,x,CS,d,_,↥st,rfl,W.hx,D.cF.cl,D.jO,rfl,Y,st,Q,↥b,V,bG.of hs,cQ (by rw[kU,eb];rfl),?_⟩;refine⟨b,rfl,⟨_,bG.of hb⟩,λacc cu=>fk (K:=K) (a:=b) (xs:=rs.map V.ref) (λj σ H1=>∃ (u:Option V) (qs:List Addr),σ=[u]/\H1 acc=⇑(.lst (qs.map V.ref))/\aH H H1/\bV (λr aQ=>H r=none/\r≠acc/\bQ H1 ↥r aQ) qs (rows.take j)) ⟨none,[],rfl,af,ao cu _,by rw[List.take_zero];exact .nil⟩ (λj σ H1 _ ⟨K,_,s,_⟩=>bG.of (s _ _ hb)) ?_ ?_⟩
 ·rintro j y σ H1 hj ⟨u,qs,rfl,ha,s1,aq⟩;rw[kU]at hj;let⟨ri,eri,rfl⟩:=Option.map_eq_some_iff.mp hj;let⟨aQ,aeg,fc⟩:=ar.get eri;let⟨c,vs,ec,hc,it⟩:=fc.at';cases ec;refine⟨Y,ri,Y,.inl (bG.of (s1 _ _ hc)),λz hz=>⟨_,ao hz _ _ _ ha,?_,_,qs++[z],rfl,?_,?_,?_⟩⟩
  ·have:=aq.len;rw[gx]at this;rw[bW];exact aS ∅
  ·rw[af,gC];rfl
  ·intro q ob e;rw[aK (aB e cu)];exact ao hz _ _ _ (s1 _ _ e)
  ·have nza:z≠acc:=(aB ha hz).symm
   have fr:∀ q ob,H1 q=⇑ob->q≠acc->(aO (aO H1 z (.lst vs)) acc (.lst (qs.map V.ref++[↥z]))) q=⇑ob:=λq ob e n=>by
    rw[aK n];exact ao hz _ _ _ e
   have tu:∀ q xs,H1 q=⇑(.tup xs)->(aO (aO H1 z (.lst vs)) acc (.lst (qs.map V.ref++[↥z]))) q=⇑(.tup xs):=λq xs e=>fr _ _ e (dB e ha (by intro w;cases w));rw[take_snoc aeg];refine bV.snoc (aq.mono λr aQ ⟨h1,h2,h3⟩=>⟨h1,h2,h3.fr (λxs e=>fr _ _ e h2) tu⟩) ⟨bw s1 hz,nza,z,vs,rfl,?_,it.mono λv i ⟨q,e,hq⟩=>⟨q,e,tu _ _ (s1 _ _ hq)⟩⟩;rw[aK nza];exact af
 ·rintro σ H1 ⟨u,qs,rfl,ha,s1,aq⟩;rw[bW,lr,gy]at aq;exact k1 i rows rfl er acc H1 ⟨cu,qs,ha,aq⟩ s1
theorem gh:‹(4,41,["self"],(Pk CS))›:=λD=>by
 specialize fX D.FN.F DN;let⟨S,x,d,st,op,bH,ops,rfl,W,ok,k⟩:=h;let⟨as,hs,al⟩:=id W.hs;let⟨last,hl,C0,_⟩:=W.Ue;have lp:↑bH-1<↑bH:=(List.getElem?_eq_some_iff.mp C0).1;have ok1:=ok.1;have la:((↑(as.map V.ref):Nat):Int)-1=((↑bH-1:Nat):Int):=by rw[bW,al.len];lia
 exists _,(au (aL (cJ (pv 0) D.cF D.Zr (ue D) hr bS (aa (eL (pv 0) D.cF D.OP (lD D) hr bS) ah))));exists Y,x,d,Y,W.hx,rfl,Y,x,d,Y,W.hx,rfl,x,d,st,op,Y,W.hx,hs;rw[la];refine⟨S,x,d,st,op,bH,ops,Y,W,ok,⟨E,E⟩,λmi rows em er q H1 fs s1=>?_⟩;have:mi=↑bH-1:=by lia
 subst this;rw[C0]at er;cases er;exact k last hl q H1 fs s1
class inductive Kq(C:Addr)
 | mk (x d:Addr) (_:vs=[↥x]) (_:H x=⇑(.ins C d [])) (_: ∀ (fs:List (Str × V)) (H':Hp),H' x=⇑(.ins C d fs)->cy x H H'->Q .gj H')
theorem yd:aG ["self"] ["self"] (az lP):=fC
theorem ye:aG ["self"] ["self"] (az lQ):=fC
theorem Gh{x z:Addr}{H:Hp}{o o':HO}(hz:H z=none):cy x H (aO (aO H z o) x o'):=λa ob e n=>by
 rw[aK n];exact ao hz o a ob e
theorem wN:‹(1,44,["self"],(Kq CD))›:=λD=>by
 specialize fX D.Zu.F ye;let⟨x,d,rfl,hx,k⟩:=h;exists _,(au (iT (pv 0) mh rfl));intro z hz;exact⟨Y,x,CD,d,Y,ao hz _ _ _ hx,D.FL.cl,D.JV,by decide,k _ _ af (Gh hz)⟩
theorem wO:‹(1,43,["self"],(Kq CT))›:=λD=>by
 specialize fX D.Zt.F yd;let⟨x,d,rfl,hx,k⟩:=h;exists _,(aj (iT (pv 0) ay rfl) (au (iT (pv 0) mh rfl)));refine⟨Y,x,CT,d,Y,hx,D.Cb.cl,D.C7,by decide,?_⟩;have k1:cy x H (aO H x (.ins CT d (L2.dJ "given" (.int 0) []))):=aF x _ _;have h1:(aO H x (.ins CT d (L2.dJ "given" (.int 0) []))) x=⇑(.ins CT d (L2.dJ "given" (.int 0) [])):=af;generalize aO H x (.ins CT d (L2.dJ "given" (.int 0) []))=H1 at k1 h1;intro z hz;exact⟨Y,x,CT,d,Y,ao hz _ _ _ h1,D.Cb.cl,D.C8,(by show 1<1000;decide),k _ _ af (k1.trans (Gh hz))⟩
def Pn(aJ:iz):List V:=aJ.map λp=>AB p.2
def JL(aJ:iz):List V:=aJ.map λp=>V.int p.1
def oB(h:Int)(cs:List Nat):iz:=cs.map λc=>(h,c)
theorem mY(h:Int)(cs:List Nat):↑(oB h cs)=↑cs:=bW ..
def Sw(aJ:iz)(h:Int)(cs:List Nat):Pn (aJ++oB h cs)=Pn aJ++cs.map AB:=by
 unfold Pn oB;rw[gC,List.map_map];rfl
theorem DP(v:V):∀ n:Nat,(List.replicate n [v]).flatten=List.replicate n v
 | 0=>rfl
 | n+1=>by rw[List.replicate_succ,List.flatten_cons,DP v n,List.replicate_succ];rfl
def Sx(aJ:iz)(h:Int)(cs:List Nat):JL (aJ++oB h cs)=JL aJ++(List.replicate ↑cs [V.int h]).flatten:=by
 rw[DP];unfold JL oB;rw[gC,List.map_map];congr 1;exact List.map_eq_replicate_iff.mpr λc _=>rfl
def uf(h:Int):Nat->iz->List Int
 | _,[]=>[]
 | i,p::r=>if p.1=h then (i:Int)::uf h (i+1) r else uf h (i+1) r
theorem mz(h:Int):∀ (a b:iz) (i:Nat),uf h i (a++b)=uf h i a++uf h (i+↑a) b
 | [],b,i=>rfl
 | p::a,b,i=>by
  rw[List.cons_append,uf,uf,jS,mz h a b (i+1),show i+1+↑a=i+(↑a+1) by lia]
  split <;> rfl
theorem wQ(h:Int):∀ (cs:List Nat) (i:Nat),uf h i (oB h cs)=run (i:Int) ↑cs
 | [],i=>rfl
 | c::cs,i=>by
  show uf h i ((h,c)::oB h cs)=_;rw[uf,if_pos rfl,wQ h cs (i+1),jS,run,show ((i+1:Nat):Int)=(i:Int)+1 by lia]
theorem mC{h g:Int}(n:g≠h):∀ (cs:List Nat) (i:Nat),uf h i (oB g cs)=[]
 | [],i=>rfl
 | c::cs,i=>by
  show uf h i ((g,c)::oB g cs)=_;rw[uf,if_neg n,mC n cs (i+1)]
def zY(a b:Int)(k:Nat)(e:b=a+k):bI [(a,b)]=run a k:=by
 show fE (a,b)++[]=_;rw[iS];show run a (b-a).toNat=_;rw[show (b-a).toNat=k by lia]
structure Pw(S:Addr->Prop)(H:Hp)(s o:Addr)(n:Nat)(kvs:List (eV × V))(aJ:iz):Prop where
 got:∀ h v,cz kvs (Sum.inl h)=⇑v->∃ (l:Addr) (row:Row),v=↥l/\S l/\l≠s/\l≠o/\b5 H l row/\(∀ p∈row,p.1<=p.2)/\bI row=uf h 0 aJ/\↑row<=n
 gj:∀ h,cz kvs (Sum.inl h)=none->uf h 0 aJ=[]
 one:∀ h g v,cz kvs (Sum.inl h)=⇑v->cz kvs (Sum.inl g)=⇑v->h=g
 len:↑kvs<=n
structure We(C:Addr)(S:Addr->Prop)(H:Hp)(x d s o p:Addr)(n:Nat)(aJ:iz):Prop where
 sx:S x
 ss:S s
 so:S o
 sp:S p
 al:∀ a,S a->∃ ob,H a=⇑ob
 hx:H x=⇑(.ins C d [("signs",↥s),("owners",↥o),("pourings",↥p)])
 hs:H s=⇑(.lst (Pn aJ))
 ho:H o=⇑(.lst (JL aJ))
 ne:s≠o
 dk:∃ kvs,H p=⇑(.dK kvs)/\Pw S H s o n kvs aJ
def b5.two{H H':Hp}{r:Addr}{row:Row}(h:b5 H r row)(k:∀ xs,H r=⇑(.lst xs)->H' r=⇑(.lst xs))(t:∀ a xs,H a=⇑(.tup xs)->H' a=⇑(.tup xs)):b5 H' r row:=by
 let⟨as,h1,h2⟩:=h;exact⟨as,k _ h1,h2.tups t⟩
def We.fr{S:Addr->Prop}{H H':Hp}{x d s p:Addr}{n:Nat}{aJ:iz}(h:We C S H x d s o p n aJ)(k:∀ a ob,H a=⇑ob->S a->H' a=⇑ob)(t:∀ a xs,H a=⇑(.tup xs)->H' a=⇑(.tup xs)):We C S H' x d s o p n aJ:=by
 let⟨sx,ss,so,sp,al,hx,hs,ho,ne,kvs,hp,pw⟩:=h;refine⟨sx,ss,so,sp,λa z=>?_,k _ _ hx sx,k _ _ hs ss,k _ _ ho so,ne,kvs,k _ _ hp sp,λh v e=>?_,pw.gj,pw.one,pw.len⟩
 ·let⟨ob,e⟩:=al a z;exact⟨ob,k _ _ e z⟩
 ·let⟨l,row,e1,e2,e3,e4,e5,r⟩:=pw.got h v e;exact⟨l,row,e1,e2,e3,e4,e5.two (λxs q=>k _ _ q e2) t,r⟩
theorem We.same{S:Addr->Prop}{H H':Hp}{x d s p:Addr}{n:Nat}{aJ:iz}(h:We C S H x d s o p n aJ)(k:aH H H'):We C S H' x d s o p n aJ:=h.fr (λa ob e _=>k a ob e) (λa xs e=>k _ _ e)
theorem Kr(aJ:iz):↑(Pn aJ)=↑aJ:=bW ..
theorem Sy(aJ:iz):↑(JL aJ)=↑aJ:=bW ..
def Po{H:Hp}{a:Addr}{ob:HO}(h:H a=⇑ob):aO H a ob=H:=by
 funext b;by_cases e:b=a
 ·rw[e,af,h]
 ·rw[aK e]
class inductive Sz(C:Addr)
 | mk (x d:Addr) (_:vs=[↥x]) (_:H x=⇑(.ins C d [])) (_: ∀ (s o p:Addr) (H':Hp),We C (λa=>a=x\/a=s\/a=o\/a=p) H' x d s o p 0 []->cy x H H'->H s=none->H o=none->H p=none->Q .gj H')
class inductive SD(C:Addr)
 | mk (x d s o p:Addr) (aJ:iz) (_:vs=[↥x]) (_:H x=⇑(.ins C d [("signs",↥s),("owners",↥o),("pourings",↥p)])) (_:H s=⇑(.lst (Pn aJ))) (_:Q (.int (↑aJ:Nat)) H)
class inductive Wy(C:Addr)
 | mk (S:Addr->Prop) (x d s o p:Addr) (n:Nat) (aJ:iz) (h:Int) (cs:List Nat) (_:vs=[↥x,.int h,.str (dP cs)]) (_:We C S H x d s o p n aJ) (_:↑aJ+↑cs<=100000) (_:n<=1000) (_ :
 ∀ (S':Addr->Prop) (q:Addr) (H':Hp),We C S' H' x d s o p (n+1) (aJ++oB h cs)->H' q=⇑(.tup [.int (↑aJ:Nat),.int (↑(aJ++oB h cs):Nat)])->(∀ a,S' a->S a\/H a=none)->(∀ a ob,H a=⇑ob->¬ S a->H' a=⇑ob)->(∀ a xs,H a=⇑(.tup xs)->H' a=⇑(.tup xs))->Q ↥q H')
theorem yf:aG ["self"] ["self"] (az lR):=fC
theorem Gi:aG ["self"] ["self"] (az tG):=fC
theorem qM:aG ["self","hand","text","start","stretch"] ["self","hand","text"] (az tH):=fC
theorem wR:‹(1,45,["self"],(Sz CW))›:=λD=>by
 specialize fX D.Zv.F yf;let⟨x,d,rfl,hx,k⟩:=h;exists _,(aj (iT (pv 0) (bO ah) rfl) (aj (iT (pv 0) (bO ah) rfl) (au (iT (pv 0) mh rfl))));refine⟨iY,λs hs=>?_⟩;have a1:aH H (aO H s (.lst [])):=ao hs _;have b1:(aO H s (.lst [])) s=⇑(.lst []):=af;generalize aO H s (.lst [])=H1 at a1 b1;refine⟨Y,x,CW,d,Y,a1 _ _ hx,D.iM.cl,D.tQ,by decide,?_⟩;have k2:cy x H1 (aO H1 x (.ins CW d (L2.dJ "signs" ↥s []))):=aF x _ _;have h2:(aO H1 x (.ins CW d (L2.dJ "signs" ↥s []))) x=⇑(.ins CW d [("signs",↥s)]):=af;generalize aO H1 x (.ins CW d (L2.dJ "signs" ↥s []))=H2 at k2 h2;have Wr:s≠x:=(aB hx hs).symm;have b2:=k2 _ _ b1 Wr;refine⟨iY,λo ho=>?_⟩;have a3:aH H2 (aO H2 o (.lst [])):=ao ho _;have c3:(aO H2 o (.lst [])) o=⇑(.lst []):=af;generalize aO H2 o (.lst [])=H3 at a3 c3;refine⟨Y,x,CW,d,Y,a3 _ _ h2,D.iM.cl,D.uK,(by show 1<1000;decide),?_⟩;have k4:cy x H3 (aO H3 x (.ins CW d (L2.dJ "owners" ↥o [("signs",↥s)]))):=aF x _ _;have h4:(aO H3 x (.ins CW d (L2.dJ "owners" ↥o [("signs",↥s)]))) x=⇑(.ins CW d [("signs",↥s),("owners",↥o)]):=af;generalize aO H3 x (.ins CW d (L2.dJ "owners" ↥o [("signs",↥s)]))=H4 at k4 h4;have Hq:o≠x:=(aB h2 ho).symm;have c4:=k4 _ _ c3 Hq;have b4:=k4 _ _ (a3 _ _ b2) Wr;intro p hp;have npx:p≠x:=(aB h4 hp).symm;refine⟨Y,x,CW,d,Y,ao hp _ _ _ h4,D.iM.cl,D.nY,(by show 2<1000;decide),?_⟩
 have k5:cy x H (aO (aO H4 p (.dK [])) x (.ins CW d (L2.dJ "pourings" ↥p [("signs",↥s),("owners",↥o)]))):=λa ob e n=>by
  rw[aK n];exact ao hp _ _ _ (k4 _ _ (a3 _ _ (k2 _ _ (a1 _ _ e) n)) n)
 refine k s o p _ ⟨.inl rfl,.inr (.inl rfl),.inr (.inr (.inl rfl)),.inr (.inr (.inr rfl)),λa z=>?_,af,?_,?_,aB b2 ho,[],?_,?_⟩ k5 hs ?_ ?_
 ·rcases z with rfl|rfl|rfl|rfl
  ·exact⟨_,af⟩
  ·exact⟨_,by rw[aK Wr];exact ao hp _ _ _ b4⟩
  ·exact⟨_,by rw[aK Hq];exact ao hp _ _ _ c4⟩
  ·exact⟨_,by rw[aK npx];exact af⟩
 ·rw[aK Wr];exact ao hp _ _ _ b4
 ·rw[aK Hq];exact ao hp _ _ _ c4
 ·rw[aK npx];exact af
 ·exact⟨λh v e=>(by cases e),λh e=>rfl,λh g v e=>(by cases e),fK _⟩
 ·exact bw a1 (jd k2 Hq ho)
 ·exact bw a1 (jd k2 npx (bw a3 (jd k4 npx hp)))
theorem jv:‹(1,46,["self"],(SD CW))›:=λD=>by
 specialize fX D.LY.F Gi;let⟨x,d,s,o,p,aJ,rfl,hx,hs,k⟩:=h;exists _,(au (aL (eE D.T.d8 (cU (pv 0) rfl))));exists Y,x,CW,d,_,↥s,rfl,hx,D.iM.cl,D.tQ,rfl,s,Y,.inl (bG.of hs);rw[Kr];exact k
theorem DQ:‹(2,47,["self","hand","text"],(Wy CW))›:=λD=>by
 specialize fX D.Zw.F qM;let⟨S,x,d,s,o,p,n,aJ,h,cs,rfl,W,len,nn,k⟩:=h;have hu:=jc hr;exists _,(aj (bx (i:=3) qM.nd (eL (pv 0) D.iM D.LY (jv D) hr bS)) (aj (vX (pv 0) (d7 (AL rfl) rfl D.T.iZ sN (aa (pv 2) ah)) Im) (aj (vX (pv 0) (bP NH (bO (aa (pv 1) ah)) (b8 CZ rfl D.T.d8 PySem.boot_len (aa (pv 2) ah))) Im) (aj (bx (i:=4) qM.nd (cG (aa (pv 3) (aa (eL (pv 0) D.iM D.LY (jv D) hr bS) ah)))) (aj (aV (dm pI jA jB bT (OH (cU (pv 0) rfl) (pv 1) (bO ah) ⟨V,V⟩) (aa (pv 4) ah))) (au (aL (pv 4))))))));exists Y,x,d,Y,W.hx,rfl,x,d,s,o,p,aJ,rfl,W.hx,W.hs;let⟨sx,ss,so,sp,al,hx,hs,ho,ne,kvs,hp,pw⟩:=id W;have nxs:x≠s:=dB hx hs;have nxo:x≠o:=dB hx ho;have nxp:x≠p:=dB hx hp;have nps:p≠s:=dB hp hs;have npo:p≠o:=dB hp ho;refine⟨Y,x,CW,d,_,↥s,rfl,hx,D.iM.cl,D.tQ,rfl,Y,cs,rfl,iC (aS ∅),λt ht=>?_⟩;have a1:aH H (aO H t (.lst (cs.map AB))):=ao ht _;have b1:(aO H t (.lst (cs.map AB))) t=⇑(.lst (cs.map AB)):=af;generalize aO H t (.lst (cs.map AB))=H1 at a1 b1;refine⟨s,t,Z,a1 _ _ hs,b1,(by rw[Kr,bW];exact iC (aS ∅)),?_⟩;rw[← Sw aJ h cs];have k2:cy s H1 (aO H1 s (.lst (Pn (aJ++oB h cs)))):=aF s _ _;have s2:(aO H1 s (.lst (Pn (aJ++oB h cs)))) s=⇑(.lst (Pn (aJ++oB h cs))):=af;generalize aO H1 s (.lst (Pn (aJ++oB h cs)))=H2 at k2 s2;have k02:cy s H H2:=λa ob e m=>k2 _ _ (a1 _ _ e) m;have x2:=k02 _ _ hx nxs;refine⟨d,_,x2,(by show 3<1000;decide),?_⟩;have e3:aO H2 x (.ins CW d (L2.dJ "signs" ↥s ([("signs",↥s),("owners",↥o),("pourings",↥p)]:List (Str × V))))=H2:=Po x2;rw[e3];refine⟨Y,x,CW,d,_,↥o,rfl,x2,D.iM.cl,D.uK,rfl,Y,kG,λt2 MU=>?_⟩;have a3:aH H2 (aO H2 t2 (.lst [.int h])):=ao MU _;have b3:(aO H2 t2 (.lst [.int h])) t2=⇑(.lst [.int h]):=af;generalize aO H2 t2 (.lst [.int h])=H3 at a3 b3;refine⟨Y,dP cs,rfl,(by rw[ly];exact iC (aS ∅)),?_⟩;rw[ly];refine⟨t2,Z,b3,E,E,(by simp only[gF];exact iC (aS ∅)),λt3 Xw=>?_⟩;rw[sO];have a4:aH H3 (aO H3 t3 (.lst (List.replicate ↑cs [V.int h]).flatten)):=ao Xw _;have b4:(aO H3 t3 (.lst (List.replicate ↑cs [V.int h]).flatten)) t3=⇑(.lst (List.replicate ↑cs [V.int h]).flatten):=af;generalize aO H3 t3 (.lst (List.replicate ↑cs [V.int h]).flatten)=H4 at a4 b4;have k04:cy s H H4:=λa ob e m=>a4 _ _ (a3 _ _ (k02 _ _ e m));refine⟨o,t3,Z,k04 _ _ ho ne.symm,b4,(by rw[Sy,DP,List.length_replicate];exact iC (aS ∅)),?_⟩;rw[← Sx aJ h cs];have k5:cy o H4 (aO H4 o (.lst (JL (aJ++oB h cs)))):=aF o _ _;have o5:(aO H4 o (.lst (JL (aJ++oB h cs)))) o=⇑(.lst (JL (aJ++oB h cs))):=af;generalize aO H4 o (.lst (JL (aJ++oB h cs)))=H5 at k5 o5;have k05:∀ a ob,H a=⇑ob->a≠s->a≠o->H5 a=⇑ob:=λa ob e m m2=>k5 _ _ (k04 _ _ e m) m2;have x5:=k05 _ _ hx nxs nxo;have s5:=k5 _ _ (a4 _ _ (a3 _ _ s2)) ne;refine⟨d,_,x5,(by show 3<1000;decide),?_⟩;have e5:aO H5 x (.ins CW d (L2.dJ "owners" ↥o ([("signs",↥s),("owners",↥o),("pourings",↥p)]:List (Str × V))))=H5:=Po x5;rw[e5]
 have UK:∀ q,H5 q=none->H q=none:=λq hq=>by
  cases e:H q with
  | none=>rfl
  | some ob =>
   by_cases z1:q=s
   ·rw[z1,s5]at hq;cases hq
   by_cases z2:q=o
   ·rw[z2,o5]at hq;cases hq
   rw[k05 _ _ e z1 z2]at hq;cases hq
 exists Y,Y,x,d,Y,x5,rfl,x,d,s,o,p,Y,x5,s5;refine⟨jL,λq hq=>?_⟩;have a6:aH H5 (aO H5 q (.tup [.int (↑aJ:Nat),.int (↑(aJ++oB h cs):Nat)])):=ao hq _;have b6:(aO H5 q (.tup [.int (↑aJ:Nat),.int (↑(aJ++oB h cs):Nat)])) q=⇑(.tup [.int (↑aJ:Nat),.int (↑(aJ++oB h cs):Nat)]):=af;generalize aO H5 q (.tup [.int (↑aJ:Nat),.int (↑(aJ++oB h cs):Nat)])=H6 at a6 b6;have p6:=a6 _ _ (k05 _ _ hp nps npo);have Qo:∀ q,H6 q=none->H q=none:=λq hq=>UK q (bw a6 hq);refine⟨Y,x,CW,d,_,↥p,rfl,a6 _ _ x5,D.iM.cl,D.nY,rfl,p,rfl,.inl ⟨_,.inl p6⟩,Y,iY,λz hz=>?_⟩;have a7:aH H6 (aO H6 z (.lst [])):=ao hz _;have b7:(aO H6 z (.lst [])) z=⇑(.lst []):=af;generalize aO H6 z (.lst [])=H7 at a7 b7;have lp:=pw.len;refine⟨kvs,Sum.inl h,a7 _ _ p6,rfl,aS ∅,λv hv=>?_,λhv=>?_⟩
 ·let⟨l,row,rfl,Sl,ls,lo,⟨as,hl,pa⟩,ok,sp1,rl⟩:=pw.got h v hv;have k07:∀ a ob,H a=⇑ob->a≠s->a≠o->H7 a=⇑ob:=λa ob e m m2=>a7 _ _ (a6 _ _ (k05 _ _ e m m2));have l7:=k07 _ _ hl ls lo;have nxl:x≠l:=dB hx hl;have npl:p≠l:=dB hp hl;have la:=pa.len;refine⟨.inl ⟨rfl,_,bG.of l7⟩,Y,l,Z,l7,(by rw[bW];exact aS ∅),?_⟩;have k8:cy l H7 (aO H7 l (.lst (as.map V.ref++[↥q]))):=aF l _ _;have l8:(aO H7 l (.lst (as.map V.ref++[↥q]))) l=⇑(.lst (as.map V.ref++[↥q])):=af;generalize aO H7 l (.lst (as.map V.ref++[↥q]))=H8 at k8 l8;have t07:∀ a xs,H a=⇑(.tup xs)->H7 a=⇑(.tup xs):=λa xs e=>k07 _ _ e (dB e hs) (dB e ho);have Wz:∀ a xs,H7 a=⇑(.tup xs)->H8 a=⇑(.tup xs):=λa xs e=>k8 _ _ e (dB e l7);have s8:=k8 _ _ (a7 _ _ (a6 _ _ s5)) ls.symm;have o8:=k8 _ _ (a7 _ _ (a6 _ _ o5)) lo.symm;refine⟨Y,k S q H8 ⟨sx,ss,so,sp,λa z=>?_,k8 _ _ (a7 _ _ (a6 _ _ x5)) nxl,s8,o8,ne,kvs,k8 _ _ (a7 _ _ p6) npl,λg v e=>?_,λg e=>?_,pw.one,E⟩ (Wz _ _ (a7 _ _ b6)) (λa z=>.inl z) (λa ob e m=>?_) (λa xs e=>Wz _ _ (t07 _ _ e))⟩
  ·by_cases z1:a=s
   ·rw[z1];exact⟨_,s8⟩
   by_cases z2:a=o
   ·rw[z2];exact⟨_,o8⟩
   by_cases z3:a=l
   ·rw[z3];exact⟨_,l8⟩
   let⟨ob,e⟩:=al a z;exact⟨ob,k8 _ _ (k07 _ _ e z1 z2) z3⟩
  ·by_cases c:g=h
   ·subst c;rw[hv]at e;cases e;exists l,row++([(((↑aJ:Nat):Int),((↑(aJ++oB g cs):Nat):Int))]:Row),rfl,Sl,ls,lo,⟨as++[q],by rw[gC];exact l8,?_⟩,?_,?_
    ·exact br.append (pa.tups λa xs e=>Wz _ _ (t07 _ _ e)) (.cons (b:=(((↑aJ:Nat):Int),((↑(aJ++oB g cs):Nat):Int))) (Wz _ _ (a7 _ _ b6)) .nil)
    ·intro r hr;rcases List.mem_append.mp hr with z|z
     ·exact ok r z
     ·rw[List.mem_singleton.mp z];show ((↑aJ:Nat):Int)<=(↑(aJ++oB g cs):Nat);rw[dM];lia
    ·rw[cS,sp1,mz,wQ,Nat.zero_add];congr 1;refine zY _ _ _ ?_;rw[dM,mY];lia
    ·rw[dM];simp only[gF];lia
   ·let⟨l',Fz,e1,e2,e3,e4,e5,e6,e7,e8⟩:=pw.got g v e;subst e1;have nl:l'≠l:=λz=>c (pw.one g h _ e (by rw[z];exact hv));refine⟨l',Fz,rfl,e2,e3,e4,e5.two (λxs q=>k8 _ _ (k07 _ _ q e3 e4) nl) (λa xs e=>Wz _ _ (t07 _ _ e)),e6,?_,E⟩;rw[e7,mz,mC (λz=>c z.symm),iS]
  ·have c:g≠h:=λz=>by rw[z,hv]at e;cases e
   rw[mz,pw.gj g e,mC (λz=>c z.symm),iS]
  ·have z1:a≠s:=λz=>m (by rw[z];exact ss);have z2:a≠o:=λz=>m (by rw[z];exact so);have z3:a≠l:=λz=>m (by rw[z];exact Sl);exact k8 _ _ (k07 _ _ e z1 z2) z3
 ·have fz:H z=none:=Qo z hz;have p7:=a7 _ _ p6;have k8:cy p H7 (aO H7 p (.dK (ef kvs (Sum.inl h) ↥z))):=aF p _ _;have p8:(aO H7 p (.dK (ef kvs (Sum.inl h) ↥z))) p=⇑(.dK (ef kvs (Sum.inl h) ↥z)):=af;generalize aO H7 p (.dK (ef kvs (Sum.inl h) ↥z))=H8 at k8 p8;have z8:=k8 _ _ b7 (dB b7 p7);refine⟨.inl ⟨rfl,_,bG.of z8⟩,Y,z,Z,z8,(by show 0<sizeLine;decide),?_⟩;have k9:cy z H8 (aO H8 z (.lst ([]++[↥q]))):=aF z _ _;have z9:(aO H8 z (.lst ([]++[↥q]))) z=⇑(.lst ([]++[↥q])):=af;generalize aO H8 z (.lst ([]++[↥q]))=H9 at k9 z9;have k69:∀ a ob,H6 a=⇑ob->a≠p->H9 a=⇑ob:=λa ob e m=>k9 _ _ (k8 _ _ (a7 _ _ e) m) (aB e hz);have k09:∀ a ob,H a=⇑ob->a≠s->a≠o->a≠p->H9 a=⇑ob:=λa ob e m m2 m3=>k69 _ _ (a6 _ _ (k05 _ _ e m m2)) m3;have t69:∀ a xs,H6 a=⇑(.tup xs)->H9 a=⇑(.tup xs):=λa xs e=>k69 _ _ e (dB e p6);have t09:∀ a xs,H a=⇑(.tup xs)->H9 a=⇑(.tup xs):=λa xs e=>k09 _ _ e (dB e hs) (dB e ho) (dB e hp);have s9:=k69 _ _ (a6 _ _ s5) nps.symm;have o9:=k69 _ _ (a6 _ _ o5) npo.symm;have p9:=k9 _ _ p8 (dB p7 b7)
  have nz:∀ a,S a->a≠z:=λa sa=>by
   let⟨ob,e⟩:=al a sa;exact aB e fz
  refine⟨Y,k (λa=>S a\/a=z) q H9 ⟨.inl sx,.inl ss,.inl so,.inl sp,λa w=>?_,k69 _ _ (a6 _ _ x5) nxp,s9,o9,ne,_,p9,λg v e=>?_,λg e=>?_,λg g' v e e'=>?_,(by have:=gS kvs (Sum.inl h:eV) (V.ref z);lia)⟩ (t69 _ _ b6) (λa w=>w.imp id λy=>by rw[y];exact fz) (λa ob e m=>?_) (λa xs e=>t09 _ _ e)⟩
  ·rcases w with w|w
   ·by_cases z1:a=s
    ·rw[z1];exact⟨_,s9⟩
    by_cases z2:a=o
    ·rw[z2];exact⟨_,o9⟩
    by_cases z3:a=p
    ·rw[z3];exact⟨_,p9⟩
    let⟨ob,e⟩:=al a w;exact⟨ob,k09 _ _ e z1 z2 z3⟩
   ·rw[w];exact⟨_,z9⟩
  ·rw[j3]at e;by_cases c:g=h
   ·subst c;rw[if_pos rfl]at e;cases e;exists z,([(((↑aJ:Nat):Int),((↑(aJ++oB g cs):Nat):Int))]:Row),rfl,.inr rfl,(nz _ ss).symm,(nz _ so).symm,⟨[q],z9,.cons (t69 _ _ b6) .nil⟩,?_,?_
    ·intro r hr;rw[List.mem_singleton.mp hr];show ((↑aJ:Nat):Int)<=(↑(aJ++oB g cs):Nat);rw[dM];lia
    ·rw[mz,pw.gj g hv,wQ,Nat.zero_add,List.nil_append];refine zY _ _ _ ?_;rw[dM,mY];lia
    ·simp only[gF];lia
   ·rw[if_neg (λz=>c (Sum.inl.inj z))]at e;let⟨l',Fz,e1,e2,e3,e4,e5,e6,e7,e8⟩:=pw.got g v e;subst e1;refine⟨l',Fz,rfl,.inl e2,e3,e4,e5.two (λxs q=>k09 _ _ q e3 e4 (dB q hp)) (λa xs e=>t09 _ _ e),e6,?_,E⟩;rw[e7,mz,mC (λz=>c z.symm),iS]
  ·rw[j3]at e;have c:g≠h:=λz=>by rw[z,if_pos rfl]at e;cases e
   rw[if_neg (λz=>c (Sum.inl.inj z))]at e;rw[mz,pw.gj g e,mC (λz=>c z.symm),iS]
  ·have other:∀ g v,g≠h->cz kvs (Sum.inl g)=⇑v->v≠.ref z:=λg v c e y=>by
    let⟨l',Fz,e1,e2,_⟩:=pw.got g v e;rw[e1]at y;cases y;exact nz _ e2 rfl
   rw[j3]at e e';by_cases c:g=h
   ·by_cases c':g'=h
    ·rw[c,c']
    ·rw[c,if_pos rfl]at e;rw[if_neg (λz=>c' (Sum.inl.inj z))]at e';cases e;exact absurd rfl (other _ _ c' e')
   ·rw[if_neg (λz=>c (Sum.inl.inj z))]at e;by_cases c':g'=h
    ·rw[c',if_pos rfl]at e';cases e';exact absurd rfl (other _ _ c e)
    ·rw[if_neg (λz=>c' (Sum.inl.inj z))]at e';exact pw.one _ _ _ e e'
  ·have z1:a≠s:=λz=>m (by rw[z];exact ss);have z2:a≠o:=λz=>m (by rw[z];exact so);have z3:a≠p:=λz=>m (by rw[z];exact sp);exact k09 _ _ e z1 z2 z3
def Pp(xs:List V){p q:Int}(h:0<=p)(g:0<=q):jW xs (⇑p) (⇑q)=(xs.take q.toNat).drop p.toNat:=by
 unfold jW
 have e:∀ r:Int,0<=r->∀ d,HT.gv ↑xs d (⇑r)=min r.toNat ↑xs:=λr hr d=>by
  show (if r<0 then (r+(↑xs:Int)).toNat else min r.toNat ↑xs)=_;rw[if_neg ∅]
 rw[e p h,e q g,List.drop_take];rcases Nat.le_total p.toNat ↑xs with z|z
 ·rw[Nat.min_eq_left z];rcases Nat.le_total q.toNat ↑xs with y|y
  ·rw[Nat.min_eq_left y]
  ·rw[Nat.min_eq_right y,yM (by rw[sP];lia),yM (by rw[sP];lia)]
 ·rw[Nat.min_eq_right z,List.drop_of_length_le (fK _),List.drop_of_length_le z];simp
def QB(n:Nat)(p:Int × Int):Bool:=decide (0<=p.1)&&decide (p.1<p.2)&&decide (p.2<=(n:Int))
def qN(n:Nat)(row:Row):Bool:=row.all (QB n)
class inductive SE(C:Addr)
 | mk (S:Addr->Prop) (x d s o p r:Addr) (n:Nat) (aJ:iz) (row:Row) (_:vs=[↥x,↥r]) (_:We C S H x d s o p n aJ) (_:b5 H r row) (_:↑row<=1000) (_: ∀ H',aH H H'->Q (.bl (qN ↑aJ row)) H')
theorem DR:aG ["self","row"] ["self","row"] (az mO):=fC
theorem AU:‹(2,48,["self","row"],(SE CW))›:=λD=>by
 specialize fX D.Zx.F DR;let⟨S,x,d,s,o,p,r,n,aJ,row,rfl,W,R,len,k⟩:=h;refine⟨_,(au (aL (b8 (LP rfl) rfl D.T.Zb PyProof.Rows.boot_all (aa (fR (N:=["start","stop","self"]) (jG (sc:=az mO) (NX:=["self","row"]) (jx:=[none,none,some 0]) rfl rfl rfl nofun nofun rfl nofun rfl nofun) rfl (ck (pv 1)) (λ_ _ _ _ _ _=>(uR (n:=2) rfl (cj (bY (i:=0) (show List.Nodup (["start","stop","self"]:List Str) by decide +kernel)) (cj (bY (i:=1) (show List.Nodup (["start","stop","self"]:List Str) by decide +kernel)) ie)))) (λ_ _ _ _ _ _=>fQ) (λ_ _ _ _ _ _=>(LQ ji lO ji ay (pv 0) (pv 1) (eL (pv 2) D.iM D.LY (jv D) hr bS)))) ah)))),?_⟩;let⟨as,i9,pa⟩:=id R;have la:=pa.len;refine⟨Y,r,rfl,⟨_,bG.of i9⟩,λacc cu=>fk (K:=K) (a:=r) (xs:=as.map V.ref) (λi σ H1=>∃ u w:Option V,σ=[u,w,⇑↥x]/\H1 acc=⇑(.lst (((row.take i).map (QB ↑aJ)).map V.bl))/\aH H H1) ⟨none,none,rfl,af,ao cu _⟩ (by rintro i σ H1 _ ⟨_,_,_,_,s⟩;exact bG.of (s _ _ i9)) ?_ ?_⟩
 ·rintro i y σ H1 hi ⟨u,w,rfl,ha,s1⟩;rw[kU]at hi;let⟨t,et,rfl⟩:=Option.map_eq_some_iff.mp hi;let⟨q,eq,ht⟩:=tX pa et;have W1:=W.same s1;exists t,Y,dN.of (s1 _ _ ht),rfl,Q,rfl,Z
  have iH:∀ v:Bool,QB ↑aJ q=v->∃ ys,H1 acc=⇑(.lst ys)/\↑ys<sizeLine/\∃ u w:Option V,[⇑(V.int q.1),⇑(V.int q.2),⇑↥x]=[u,w,⇑↥x]/\(aO H1 acc (.lst (ys++[.bl v]))) acc=⇑(.lst (((row.take (i+1)).map (QB ↑aJ)).map V.bl))/\aH H (aO H1 acc (.lst (ys++[.bl v]))):=λv hv=>by
   exists _,ha,?_,Q,rfl,?_
   ·rw[bW,bW,gx];exact aS ∅
   ·rw[af,take_snoc eq,gC,gC,← hv];rfl
   ·intro b ob e;rw[aK (aB e cu)];exact s1 _ _ e
  refine⟨Y,Z,Y,cM (λc1=>?_) (λc1=>iH false ?_)⟩
  ·refine⟨Y,Z,Y,cM (λc2=>?_) (λc2=>iH false ?_)⟩
   ·refine⟨Y,x,d,Y,W1.hx,rfl,x,d,s,o,p,aJ,rfl,W1.hx,W1.hs,Z,iH _ ?_⟩;unfold QB;rw[c1,c2];rfl
   ·unfold QB;rw[c1,Bool.eq_false_iff.mpr c2];rfl
  ·unfold QB;rw[Bool.eq_false_iff.mpr c1];rfl
 ·rintro σ H1 ⟨u,w,rfl,ha,s1⟩;rw[bW,la,gy]at ha;exists acc,Y,bG.of ha
  have e:(row.map (QB ↑aJ)).all id=qN ↑aJ row:=by
   unfold qN;rw[List.all_map];rfl
  rw[e];exact k H1 s1
def xY.irr{rows:cK}(h:xY rows){s:Int}:¬ Reach (kg rows) s s:=by
 let⟨rk,_,hr⟩:=h
 have key:∀ g,Reach (kg rows) s g->rk g<rk s:=by
  intro g r
  induction r with
  | one e=>exact hr _ _ e
  | step _ e ih=>exact Nat.lt_trans (hr _ _ e) ih
 exact λz=>Nat.lt_irrefl _ (key s z)
structure xO(rows:cK)(f:Int->Int):Prop where
 len:↑rows<=100
 es:∀ es∈rows,↑es<=1000
 sd:gw rows
 rk:xY rows
 wt:Weighs rows f
 most:∀ x:Int,0<=x->x<↑rows->f x<=200
structure Wv(rows:cK)(f:Int->Int):Prop where
 len:↑rows<=100
 es:∀ es∈rows,↑es<=1000
 sd:gw rows
 rk:xY rows
 wt:Weighs rows f
 big:∀ x:Int,0<=x->x<↑rows->f x<=1000000
def Cr(rows:cK)(f:Int->Int):Prop:=∀ x:Int,0<=x->x<↑rows->f x<=200
def Cs(rows:cK)(f:Int->Int):Prop:=∃ x:Int,0<=x/\x<↑rows/\200<f x
theorem xO.wv{rows:cK}{f:Int->Int}(B:xO rows f):Wv rows f:=⟨B.len,B.es,B.sd,B.rk,B.wt,λx h0 h1=>by have:=B.most x h0 h1;lia⟩
class inductive Mz(XH:Addr)
 | mk (r:Addr) (rows:cK) (s:Int) (f:Int->Int) (_:vs=[↥r,.int s]) (_:gn H r (rows.map aI)) (_:Wv rows f) (_:0<=s) (_:s<↑rows) (_:Cr rows f->∀ H',aH H H'->Q .gj H') (_:Cs rows f->∀ H',aH H H'->E ↥XH none H')
theorem jR:aG ["rows","sheet","way","weights","number"] ["rows","sheet"] (az oS):=fC
def zZ(D:Ds K mg aY bq C CS CW CB CT CD aA):aX P w K mg zt (EC P w) 4 (aY 49) (bq 49) ["rows","sheet"] (Mz aA):=by
 refine Xq D.Zy.F jR λcH A zn s0 H vs Q E hr h=>?_;let⟨r,rows,s,f,rfl,hR,B,h0,h1,k,kh⟩:=h;have hu:=jc hr;let⟨DS,DT⟩:=D.G.w;have bl:=B.len;exists _,(aj (bx (i:=2) jR.nd (aM D.Zh (Sd D) hr (aa (pv 0) (aa (pv 1) ah)))) (aj (bN (CO (QI (pv 2))) (au jT) aW) (aj (bx (i:=3) jR.nd (aM D.VJ (om D) hr (aa (pv 0) (aa (d7 (su rfl) rfl D.T.iZ sN (aa (d7 Dg rfl D.T.jQ PyProof.Rows.boot_range (aa (eE D.T.d8 (pv 0)) ah)) ah)) ah)))) (au (d9 PassesOwn.leaving rfl (jJ rfl D.T.jQ (aa (eE D.T.d8 (pv 0)) ah)) (bY (i:=4) jR.nd) (au (bN (aU uy (gi hu (pv 3) (pv 4)) (CN (v:=.int 200) rfl DT ⟨DS,rfl⟩) (bu _)) (au (Od PySem.F.excBase_ValueError D.lK.x D.lK.m rfl Vl (aa (Rp (Of (Og (pv 4) (Of (Og (gi hu (pv 3) (pv 4)) Vr))))) ah))) aW)))))));refine⟨Y,Y,r,s,rfl,r,rows,s,s,rfl,hR,E,B.es,B.sd,h0,h1,B.rk.irr,λH1 s1=>?_⟩;refine⟨Y,false,rfl,dF ?_⟩;have hR1:=hR.same s1;let⟨vs,i9,al⟩:=id hR1;have lv:↑vs=↑rows:=by rw[al.len,bW]
 refine⟨Y,Y,r,Y,.inl (bG.of i9),Y,λp1 RH=>⟨p1,Q,rfl,af,⟨E,E,E,E⟩,iC (aS ∅),λL hL=>?_⟩⟩;rw[zk,lv,show ((↑rows:Int)-0).toNat=↑rows by lia];rw[lv]at hL;have s2:=s1.trans ((ao RH (.Ez 0 ((↑rows:Nat):Int))).trans (ao hL (.lst ((run 0 ↑rows).map V.int))));have hL2:(aO (aO H1 p1 (.Ez 0 ((↑rows:Nat):Int))) L (.lst ((run 0 ↑rows).map V.int))) L=⇑(.lst ((run 0 ↑rows).map V.int)):=af;generalize aO (aO H1 p1 (.Ez 0 ((↑rows:Nat):Int))) L (.lst ((run 0 ↑rows).map V.int))=H2 at s2 hL2;refine⟨r,L,rows,run 0 ↑rows,f,rfl,hR.same s2,hL2,by rw[J9];lia,E,B.es,B.sd,B.rk,(λx hx=>by have:=Ow hx;lia),B.wt,λS kvs H3 hS hv s3 _=>?_⟩;have QA:=s2.trans s3;let⟨vs3,L6,al3⟩:=hR.same QA;have lv3:↑vs3=↑rows:=by rw[al3.len,bW]
 exists Y,r,Y,.inl (bG.of L6),Y,E,E;refine vS (lo:=0) (n:=((↑vs3:Nat):Int).toNat) (λi σ H4=>∃ u:Option V,σ=[⇑↥r,⇑(.int s),⇑.gj,⇑↥S,u]/\aH H H4/\H4 S=⇑(.dK kvs)/\∀ x:Int,0<=x->x<i->f x<=200) ⟨none,rfl,QA,hS,λx z1 z2=>by lia⟩ ?_ ?_
 ·rintro i σ H4 hi ⟨u,rfl,s4,Z8,al4⟩;have il:i<↑rows:=by lia
  have z:=gT.k (k:=Sum.inl (0+(i:Int))) Z8;rw[hv (0+(i:Int)) (by rw[show (0:Int)+(i:Int)=0+i from rfl];exact m6 (J4 0 ↑rows i il))]at z;have bg:=B.big (0+(i:Int)) ∅ ∅;exists Y,Y,S,Y,z,Z,Y;by_cases c:f (0+(i:Int)) > 200
  ·rw[decide_eq_true c];refine jg ?_;have fi:Dd (0+(i:Int)):=⟨E,E⟩;have ff:Dd (f (0+(i:Int))):=⟨E,E⟩;exact⟨Y,Y,fi.log,Y,Y,S,Y,z,Y,ff.log,λy=>⟨kG,kh ⟨_,E,E,c⟩ H4 s4⟩⟩
  ·rw[decide_eq_false c];refine dF ⟨Y,s4,Z8,λx z1 z2=>?_⟩;by_cases e:x<i
   ·exact al4 x z1 e
   ·rw[show x=0+(i:Int) by lia];lia
 ·rintro σ H4 ⟨u,rfl,s4,_,al4⟩;exact k (λx z1 z2=>al4 x z1 ∅) H4 s4
structure fJ(C CS:Addr)(S:Addr->Prop)(H:Hp)(x d wl sh bl kn du bk dS st op:Addr)(bH:j8)(ops:List Int)(aC:jb):Prop where
 hx:H x=⇑(.ins C d [("well",↥wl),("shelf",↥sh),("blots",↥bl),("knots",↥kn),("dues",↥du),("book",↥bk)])
 W:Sh CS S H sh dS st op bH ops
 hb:H bk=⇑(kO aC)
 nx:¬ S x
 nb:¬ S bk
def Fr(S S':Addr->Prop)(bk:Addr)(H H':Hp):Prop:=(∀ a,S' a->S a\/H a=none)/\(∀ a ob,H a=⇑ob->¬ S a->a≠bk->H' a=⇑ob)/\∀ a xs,H a=⇑(.tup xs)->H' a=⇑(.tup xs)
theorem Fr.same{S S':Addr->Prop}{bk:Addr}{H0 H H':Hp}(s:aH H0 H)(f:Fr S S' bk H H'):Fr S S' bk H0 H' :=
 ⟨λa z=>(f.1 a z).imp id λy=>bw s y,λa ob e n1 n2=>f.2.1 a ob (s _ _ e) n1 n2,λa xs e=>f.2.2 a xs (s _ _ e)⟩
theorem fJ.same{S:Addr->Prop}{H H':Hp}{x d wl sh bl du bk st:Addr}{bH:j8}{ops:List Int}{aC:jb}(L:fJ C CS S H x d wl sh bl kn du bk dS st op bH ops aC)(s:aH H H'):fJ C CS S H' x d wl sh bl kn du bk dS st op bH ops aC :=
 ⟨s _ _ L.hx,L.W.same s,s _ _ L.hb,L.nx,L.nb⟩
theorem fJ.neb{S:Addr->Prop}{H:Hp}{x d wl sh bl du bk st:Addr}{bH:j8}{ops:List Int}{aC:jb}(L:fJ C CS S H x d wl sh bl kn du bk dS st op bH ops aC):x≠bk:=λe=>by
 have z:=L.hx;rw[e,L.hb]at z;cases z
class inductive SG(C CS:Addr)
 | mk (S:Addr->Prop) (x d wl sh bl kn du bk dS st op:Addr) (bH:j8) (ops:List Int) (aC:jb) (_:vs=[↥x]) (_:fJ C CS S H x d wl sh bl kn du bk dS st op bH ops aC) (_:Q (.int (↑ops:Nat)) H)
class inductive WA(C CS:Addr)
 | mk (S:Addr->Prop) (x d wl sh bl kn du bk dS st op:Addr) (bH:j8) (ops:List Int) (aC:jb) (_:vs=[↥x]) (_:fJ C CS S H x d wl sh bl kn du bk dS st op bH ops aC) (_:Q (.int ((↑bH:Nat)-1)) H)
class inductive SH(C CS:Addr)
 | mk (S:Addr->Prop) (x d wl sh bl kn du bk dS st op:Addr) (bH:j8) (ops:List Int) (aC:jb) (dd c:Addr) (e:jE) (cs:List Addr) (pP:List (Nat × List aR)) (last:List (List aR)) (_:vs=[↥x,↥dd,↥c]) (_:fJ C CS S H x d wl sh bl kn du bk dS st op bH ops aC) (_:e.At H dd) (_:e.Ok) (_:H c=⇑(.lst (cs.map V.ref))) (_:c≠bk) (_:bV (IX H) cs pP) (_:(∀ a∈cs,∀ (s:Int) (r:Addr),H a=⇑(.tup [.int s,↥r])->r≠bk)) (_:bH.getLast?=⇑last) (_:Wu last pP) (_:↑pP<=200) (_:↑last<=500) (_:↑bH<=1000) (_:↑aC<=1000) (_ :
 ∀ (S':Addr->Prop) (H':Hp),fJ C CS S' H' x d wl sh bl kn du bk dS st op (bH++[lE last pP]) (ops++List.replicate (↑(lE last pP)-↑last) ((↑bH:Nat):Int)) (aC++[e.line])->Fr S S' bk H H'->Q .gj H')
theorem yg:aG ["self","deed","changes"] ["self","deed","changes"] (az lS):=fC
theorem Aa:aG ["self"] ["self"] (az ny):=fC
theorem AV:aG ["self"] ["self"] (az oU):=fC
theorem pQ:‹(2,53,["self"],(SG C CS))›:=λD=>by
 specialize fX D.VR.F Aa;let⟨S,x,d,wl,sh,bl,kn,du,bk,dS,st,op,bH,ops,aC,rfl,L,k⟩:=h;exists _,(au (aL (eL (cU (pv 0) rfl) D.cF D.VQ (sJ D) hr bS)));exact⟨Y,x,C,d,_,↥sh,rfl,L.hx,D.aP.cl,D.gm,rfl,sh,dS,Y,L.W.hx,rfl,S,sh,dS,st,op,bH,ops,rfl,L.W,k⟩
theorem Ab:‹(2,54,["self"],(WA C CS))›:=λD=>by
 specialize fX D.ZA.F AV;let⟨S,x,d,wl,sh,bl,kn,du,bk,dS,st,op,bH,ops,aC,rfl,L,k⟩:=h;let⟨as,hs,al⟩:=L.W.hs;exists _,(au (aL (eL (cU (pv 0) rfl) D.cF D.OP (lD D) hr bS)));exists Y,x,C,d,_,↥sh,rfl,L.hx,D.aP.cl,D.gm,rfl,sh,dS,Y,L.W.hx,rfl,sh,dS,st,op,Y,L.W.hx,hs;rw[bW,al.len];exact k
theorem jN:‹(3,51,["self","deed","changes"],(SH C CS))›:=λD=>by
 specialize fX D.RU.F yg;let⟨S,x,d,wl,sh,bl,kn,du,bk,dS,st,op,bH,ops,aC,dd,c,e,cs,pP,last,rfl,L,de,ok,hc,ncb,al,nr,hl,oc,l1,l2,l3,l4,k⟩:=h;exists _,(aj (aV (dm pI jA jB bT (cU (pv 0) rfl) (aa (aM D.Zn (AR D) hr (aa (pv 1) ah)) ah))) (au (aV (cJ (cU (pv 0) rfl) D.cF D.Zp (AS D) hr bS (aa (pv 2) ah)))));refine⟨Y,x,C,d,_,↥bk,rfl,L.hx,D.aP.cl,D.E3,rfl,.inl ⟨rfl,_,bG.of L.hb⟩,Y,dd,e,rfl,de,ok,IV ok,λH1 s1=>?_⟩;refine⟨bk,Z,s1 _ _ L.hb,aS (by rw[bW];lia),?_⟩;have e2:(aC.map λw=>V.str (dP w))++[V.str (dP e.line)]=(aC++[e.line]).map λw=>V.str (dP w):=by rw[gC];rfl
 rw[e2]
 have k2:cy bk H (aO H1 bk (kO (aC++[e.line]))):=λa o q n=>by
  rw[aK n];exact s1 _ _ q
 have Qq:(aO H1 bk (kO (aC++[e.line]))) bk=⇑(kO (aC++[e.line])):=af
 have fr2:∀ a,(aO H1 bk (kO (aC++[e.line]))) a=none->H a=none:=λa q=>by
  by_cases z:a=bk
  ·rw[z,af]at q;cases q
  ·rw[aK z]at q;exact bw s1 q
 generalize aO H1 bk (kO (aC++[e.line]))=H2 at k2 Qq fr2;have t2:∀ a xs,H a=⇑(.tup xs)->H2 a=⇑(.tup xs):=λa xs q=>k2 _ _ q (dB q L.hb);have W2:Sh CS S H2 sh dS st op bH ops:=L.W.keep L.hb L.nb k2;have x2:=k2 _ _ L.hx L.neb;refine⟨Y,x,C,d,_,↥sh,rfl,x2,D.aP.cl,D.gm,rfl,sh,dS,Y,W2.hx,rfl,Y,S,sh,dS,st,op,c,bH,ops,cs,pP,last,rfl,W2,k2 _ _ hc ncb,?_,hl,oc,l1,l2,l3,λS' H3 W3 sub fr tp=>?_⟩
 ·have key:∀ {as:List Addr} {ds:List (Nat × List aR)},bV (IX H) as ds->(∀ a∈as,a∈cs)->bV (IX H2) as ds:=by
   intro as ds q
   induction q with
   | nil=>intro _;exact .nil
   | cons o t ih =>
    intro sub;refine .cons ?_ (ih λa ha=>sub a (nO _ ha));let⟨r,ha,it⟩:=o;have nrb:=nr _ (sub _ uv) _ r ha;exact⟨r,t2 _ _ ha,it.fr (λxs q=>k2 _ _ q nrb) t2⟩
  exact key al λ_ z=>z
 ·refine k S' H3 ⟨fr _ _ x2 L.nx,W3,fr _ _ Qq L.nb,λz=>?_,λz=>?_⟩ ⟨λa z=>(sub a z).imp id λq=>fr2 a q,λa ob q n n'=>fr _ _ (k2 _ _ q n') n,λa xs q=>tp _ _ (t2 _ _ q)⟩
  ·rcases sub _ z with q|q
   ·exact L.nx q
   ·rw[x2]at q;cases q
  ·rcases sub _ z with q|q
   ·exact L.nb q
   ·rw[Qq]at q;cases q
abbrev mH(pe:iI):j8:=pe.map λrows=>rows.map aI
def ja(rows:cK)(s:Nat)(es:List Int):cK:=rows.take s++[es]++rows.drop (s+1)
def SJ(rows:cK)(s:Nat)(es:List Int):lE (rows.map aI) [(s,aI es)]=(ja rows s es).map aI:=by
 show (rows.map aI).take s++[aI es]++(rows.map aI).drop (s+1)=_;unfold ja;rw[gC,gC,List.map_take,List.map_drop];rfl
def Gj{rows:cK}{s:Nat}{es:List Int}(h:s<=↑rows):↑(ja rows s es)=if s=↑rows then ↑rows+1 else ↑rows:=by
 unfold ja;rw[dM,dM,gx,sP];show min s ↑rows+1+_=_
 split <;> lia
def Pq(ops:List Int)(n s m:Nat):List Int:=ops++if s=n then [(m:Int)] else []
def WB{rows:cK}{s:Nat}{es:List Int}{ops:List Int}{m:Nat}(h:s<=↑rows):ops++List.replicate (↑((ja rows s es).map aI)-↑(rows.map aI)) (m:Int)=Pq ops ↑rows s m:=by
 rw[bW,bW,Gj h];unfold Pq;by_cases c:s=↑rows
 ·rw[if_pos c,if_pos c,show ↑rows+1-↑rows=1 by lia];rfl
 ·rw[if_neg c,if_neg c,Nat.sub_self];rfl
class inductive Ct(C CS XH:Addr)
 | mk (S:Addr->Prop) (x d wl sh bl kn du bk dS st op:Addr) (pe:iI) (ops:List Int) (aC:jb) (dd r:Addr) (e:jE) (s:Nat) (es:List Int) (rows:cK) (f:Int->Int) (_:vs=[↥x,↥dd,.int (s:Nat),↥r]) (_:fJ C CS S H x d wl sh bl kn du bk dS st op (mH pe) ops aC) (_:e.At H dd) (_:e.Ok) (_:bQ H ↥r (aI es)) (_:r≠bk) (_:pe.getLast?=⇑rows) (_:s<=↑rows) (_:↑rows<=50) (_:↑pe<=900) (_:↑aC<=900) (_:Wv (ja rows s es) f) (_:Cr (ja rows s es) f->
 ∀ (S':Addr->Prop) (H':Hp),fJ C CS S' H' x d wl sh bl kn du bk dS st op (mH (pe++[ja rows s es])) (Pq ops ↑rows s ↑pe) (aC++[e.line])->Fr S S' bk H H'->Q .gj H') (_:Cs (ja rows s es) f->∀ H',aH H H'->E ↥XH none H')
theorem wU:aG ["self","deed","sheet","items"] ["self","deed","sheet","items"] (az kC):=fC
def gW{pe:iI}{rows:cK}(h:pe.getLast?=⇑rows):(mH pe).getLast?=⇑(rows.map aI):=by
 rw[List.getLast?_map,h];rfl
def Pr{H H':Hp}{rs:List Addr}{rows:List (List aR)}{r:Addr}{aQ:List aR}{s:Nat}(al:bV (λq i=>bQ H' ↥q i) rs rows)(it:bQ H' ↥r aQ):bV (bQ H') ((rs.map V.ref).take s++[↥r]++(rs.map V.ref).drop (s+1)) (rows.take s++[aQ]++rows.drop (s+1)):=by
 have key:bV (bQ H') (rs.map V.ref) rows:=by
  induction al with
  | nil=>exact .nil
  | cons o t ih=>exact .cons o ih
 exact ((key.take s).app (.cons it .nil)).app (key.drop (s+1))
def gJ(D:Ds K mg aY bq C CS CW CB CT CD aA):aX P w K mg zt (EC P w) 5 (aY 52) (bq 52) ["self","deed","sheet","items"] (Ct C CS aA):=by
 specialize Xq D.OQ.F wU;let⟨S,x,d,wl,sh,bl,kn,du,bk,dS,st,op,pe,ops,aC,dd,r,e,s,es,rows,f,rfl,L,de,ok,hi,nrb,hl,sl,l1,l2,l3,B,k,kh⟩:=h;have hl':=gW hl;have lp:↑(mH pe)=↑pe:=bW _
 have lo:↑ops=↑rows:=by
  let⟨last,z1,z2⟩:=L.W.Qz.Cn;rw[hl']at z1;cases z1;rw[z2,bW]
 exists _,(aj (aV (Rn D.Zy (zZ D) hr zw (aa (aM D.VP (zW D) hr (aa (eL (cU (pv 0) rfl) D.cF D.FN (gh D) hr bS) (aa (pv 2) (aa (pv 3) ah)))) (aa (pv 2) ah)))) (au (aV (cJ (pv 0) D.aP D.RU (jN D) hr bS (aa (pv 1) (aa (bO (aa (cG (aa (pv 2) (aa (pv 3) ah))) ah)) ah))))));refine⟨Y,x,C,d,_,↥sh,rfl,L.hx,D.aP.cl,D.gm,rfl,sh,dS,Y,L.W.hx,rfl,S,sh,dS,st,op,mH pe,ops,rfl,L.W,⟨E,E⟩,λrws el q H1 fs s1=>?_⟩;rw[hl']at el;cases el;let⟨fq,rs,hq,al⟩:=fs;have lr:↑rs=↑rows:=by rw[al.len,bW]
 have hi1:=hi.same s1;have L1:=L.same s1;refine⟨Y,Y,q,r,_,s,rfl,hq,by rw[bW,lr];exact sl,by rw[bW,lr];lia,λp2 H2 Rt s2 f2=>?_⟩
 refine⟨Y,p2,ja rows s es,(s:Int),f,rfl,⟨_,Rt,?_⟩,B,E,by rw[Gj sl];split <;> lia,λlt H3 s3=>?_,λhv H3 s3=>kh hv H3 (s1.trans (s2.trans s3))⟩
 ·have z:=Pr (H:=H) (H':=H2) (s:=s) (al.mono λq' i' w'=>(w'.2.2).same s2) (hi1.same s2)
  have e':(rows.map aI).take s++[aI es]++(rows.map aI).drop (s+1)=(ja rows s es).map aI:=by
   unfold ja;rw[gC,gC,List.map_take,List.map_drop];rfl
  rw[e']at z;exact z
 have xF:=s1.trans (s2.trans s3);have L3:=L.same xF;refine⟨Y,x,d,Y,L3.hx,rfl,Y,Y,Y,jL,λt ht=>⟨kG,λc hc=>?_⟩⟩;have s4:aH H3 (aO (aO H3 t (.tup [.int (s:Nat),↥r])) c (.lst [↥t])):=(ao ht _).trans (ao hc _);have ht4:(aO (aO H3 t (.tup [.int (s:Nat),↥r])) c (.lst [↥t])) t=⇑(.tup [.int (s:Nat),↥r]):=ao hc _ _ _ af;have hc4:(aO (aO H3 t (.tup [.int (s:Nat),↥r])) c (.lst [↥t])) c=⇑(.lst ([t].map V.ref)):=af
 have nc:c≠bk:=λz=>by
  have:=ao ht (.tup [.int (s:Nat),↥r]) _ _ L3.hb;rw[← z,hc]at this;cases this
 generalize aO (aO H3 t (.tup [.int (s:Nat),↥r])) c (.lst [↥t])=H4 at s4 ht4 hc4;have Ks:=xF.trans s4;refine⟨S,x,d,wl,sh,bl,kn,du,bk,dS,st,op,mH pe,ops,aC,dd,c,e,[t],[(s,aI es)],rows.map aI,rfl,L.same Ks,de.same Ks,ok,hc4,nc,.cons ⟨r,ht4,hi.same Ks⟩ .nil,?_,hl',?_,(by show 1<=200;decide),by rw[bW];lia,E,E,λS' H' L' fr=>?_⟩
 ·intro a ha s' r' e';rw[List.mem_singleton.mp ha,ht4]at e';cases e';exact nrb
 ·intro i ch ei
  match i,ei with
  | 0,ei =>
   cases ei;show s<=↑(rows.map aI);rw[bW];exact sl
  | i+1,ei=>cases ei
 ·rw[SJ,WB sl,lp]at L';refine k lt S' H' ?_ (fr.same Ks)
  have ep:mH (pe++[ja rows s es])=mH pe++[(ja rows s es).map aI]:=by
   show (pe++[ja rows s es]).map _=_;rw[gC];rfl
  rw[ep];exact L'
class inductive SK(C CS:Addr)
 | mk (S:Addr->Prop) (x d wl sh bl kn du bk dS st op:Addr) (pe:iI) (ops:List Int) (aC:jb) (dd r:Addr) (e:jE) (es:List Int) (rows:cK) (_:vs=[↥x,↥dd,↥r]) (_:fJ C CS S H x d wl sh bl kn du bk dS st op (mH pe) ops aC) (_:e.At H dd) (_:e.Ok) (_:bQ H ↥r (aI es)) (_:r≠bk) (_:pe.getLast?=⇑rows) (_:↑rows<=50) (_:↑pe<=900) (_:↑aC<=900) (_:↑rows<40) (_:((∃ f,xO (rows++[es]) f)/\∀ (S':Addr->Prop) (H':Hp),fJ C CS S' H' x d wl sh bl kn du bk dS st op (mH (pe++[rows++[es]])) (ops++[((↑pe:Nat):Int)]) (aC++[e.line])->Fr S S' bk H H'->Q (.int (↑rows:Nat)) H'))
theorem pR:aG ["self","deed","items","sheet"] ["self","deed","items"] (az lT):=fC
def Ac(rows:cK)(es:List Int):ja rows ↑rows es=rows++[es]:=by
 unfold ja;rw[gy,List.drop_of_length_le ∅,iS]
def pH{S:Addr->Prop}{H:Hp}{x d wl sh bl du bk st:Addr}{pe:iI}{ops:List Int}{aC:jb}{rows:cK}(L:fJ C CS S H x d wl sh bl kn du bk dS st op (mH pe) ops aC)(hl:pe.getLast?=⇑rows):↑ops=↑rows:=by
 let⟨last,z1,z2⟩:=L.W.Qz.Cn;rw[gW hl]at z1;cases z1;rw[z2,bW]
theorem wV:‹(6,55,["self","deed","items"],(SK C CS))›:=λD=>by
 let⟨DU,DV⟩:=D.G.s;specialize fX D.ZC.F pR;let⟨S,x,d,wl,sh,bl,kn,du,bk,dS,st,op,pe,ops,aC,dd,r,e,es,rows,rfl,L,de,ok,hi,nrb,hl,l1,l2,l3,lt,k2⟩:=h;have lo:=pH L hl;exists _,(aj (bx (i:=3) pR.nd (eL (pv 0) D.aP D.VR (pQ D) hr bS)) (aj (bN (aU Nj (pv 3) (CN (v:=.int 40) rfl DV ⟨DU,rfl⟩) (bu _)) (au jT) aW) (aj (aV (cJ (pv 0) D.aP D.OQ (gJ D) hr YU (aa (pv 1) (aa (pv 3) (aa (pv 2) ah))))) (au (aL (pv 3))))));exists Y,x,d,Y,L.hx,rfl,S,x,d,wl,sh,bl,kn,du,bk,dS,st,op,mH pe,ops,aC,rfl,L;rw[lo];refine⟨Y,Z,Y,cM (λc=>?_) (λc=>?_)⟩
 ·exact absurd (of_decide_eq_true c) ∅
 ·let⟨⟨f,B⟩,k3⟩:=k2;refine⟨Y,x,d,Y,L.hx,rfl,Y,Y,Y,S,x,d,wl,sh,bl,kn,du,bk,dS,st,op,pe,ops,aC,dd,r,e,↑rows,es,rows,f,rfl,L,de,ok,hi,nrb,hl,fK _,l1,l2,l3,by rw[Ac];exact B.wv,λ_ S' H' L' fr=>?_,λ⟨y,y0,y1,y2⟩ H' _=>(by rw[Ac]at y1;have:=B.most y y0 y1;lia)⟩;rw[Ac]at L';have eo:Pq ops ↑rows ↑rows ↑pe=ops++[((↑pe:Nat):Int)]:=by unfold Pq;rw[if_pos rfl]
  rw[eo]at L';exact⟨Y,k3 S' H' L' fr⟩
abbrev frW:List Nat:=(Str.ofString "fresh").cps.toList
theorem Pu:(jE.plain frW []).Ok:=⟨by decide +kernel,λ_ z=>by cases z⟩
class inductive SM(C CS:Addr)
 | mk (S:Addr->Prop) (x d wl sh bl kn du bk dS st op:Addr) (pe:iI) (ops:List Int) (aC:jb) (rows:cK) (_:vs=[↥x]) (_:fJ C CS S H x d wl sh bl kn du bk dS st op (mH pe) ops aC) (_:pe.getLast?=⇑rows) (_:↑rows<=50) (_:↑pe<=900) (_:↑aC<=900) (_:↑rows<40) (_:((∃ f,xO (rows++[[]]) f)/\∀ (S':Addr->Prop) (H':Hp),fJ C CS S' H' x d wl sh bl kn du bk dS st op (mH (pe++[rows++[[]]])) (ops++[((↑pe:Nat):Int)]) (aC++[(jE.plain frW []).line])->Fr S S' bk H H'->Q (.int (↑rows:Nat)) H'))
theorem yh:aG ["self"] ["self"] (az lU):=fC
theorem wW:‹(7,56,["self"],(SM C CS))›:=λD=>by
 specialize fX D.VS.F yh;let⟨S,x,d,wl,sh,bl,kn,du,bk,dS,st,op,pe,ops,aC,rows,rfl,L,hl,l1,l2,l3,lt,k2⟩:=h;exists _,(au (aL (cJ (pv 0) D.aP D.ZC (wV D) hr bS (aa (cG (aa bh ah)) (aa (bO ah) ah)))));refine⟨Y,x,d,Y,L.hx,rfl,kG,λt ht=>⟨iY,λr Dt=>?_⟩⟩;have s1:aH H (aO (aO H t (.tup [.str "fresh"])) r (.lst [])):=(ao ht _).trans (ao Dt _);have ht1:(aO (aO H t (.tup [.str "fresh"])) r (.lst [])) t=⇑(.tup [.str "fresh"]):=ao Dt _ _ _ af;have i9:(aO (aO H t (.tup [.str "fresh"])) r (.lst [])) r=⇑(.lst []):=af
 have nr:r≠bk:=λz=>by
  have:=ao ht (.tup [.str "fresh"]) _ _ L.hb;rw[← z,Dt]at this;cases this
 generalize aO (aO H t (.tup [.str "fresh"])) r (.lst [])=H1 at s1 ht1 i9;exists S,x,d,wl,sh,bl,kn,du,bk,dS,st,op,pe,ops,aC,t,r,.plain frW [],[],rows,rfl,L.same s1,by show H1 t=_;rw[ht1,qC];rfl,Pu,⟨r,[],rfl,i9,.nil⟩,nr,hl,l1,l2,l3,lt;let⟨B,k3⟩:=k2;exact⟨B,λS' H' L' fr=>k3 S' H' L' (fr.same s1)⟩
theorem lM{H H1:Hp}{dw:Addr}{o:HO}(h1:H xw=none)(h2:H dw=none)(k:cy xw (aO (aO H dw (.own xw)) xw o) H1):aH H H1:=λa ob e=>k a ob (by rw[aK (aB e h1),aK (aB e h2)];exact e) (aB e h1)
theorem Sh.j9{S:Addr->Prop}{H H':Hp}{x d st l:Addr}{bH:j8}{ops:List Int}{fs:List (Str × V)}(h:Sh C S H x d st op bH ops)(hl:H l=⇑(.ins C' d' fs))(nl:¬ S l)(k:cy l H H'):Sh C S H' x d st op bH ops :=
 h.fr (λa ob e z=>k a ob e (λq=>nl (by rw[← q];exact z))) (λa xs e=>k _ _ e (dB e hl))
structure Seen(rows:cK)(sh:Int->List Int):Prop where
 es:∀ es∈rows,↑es<=1000
 sd:gw rows
 rk:xY rows
 ss:qF rows sh
 ln:∀ x:Int,0<=x->x<↑rows->↑(sh x)<=10000
def Sv.at_{H H':Hp}{q:Addr}{rows:List (List aR)}(h:Sv H H' q rows):gn H' q rows:=by
 let⟨_,rs,hq,al⟩:=h;exists rs.map V.ref,hq
 have key:∀ {as:List Addr} {ds:List (List aR)},bV (λr aQ=>H r=none/\r≠q/\bQ H' ↥r aQ) as ds->bV (bQ H') (as.map V.ref) ds:=by
  intro as ds z
  induction z with
  | nil=>exact .nil
  | cons o t ih=>exact .cons o.2.2 ih
 exact key al
def fJ.rws{S:Addr->Prop}{H:Hp}{x d wl sh bl du bk st:Addr}{pe:iI}{ops:List Int}{aC:jb}{rows:cK}{Q:VK}{E:XK}(L:fJ C CS S H x d wl sh bl kn du bk dS st op (mH pe) ops aC)(hl:pe.getLast?=⇑rows)(l1:↑rows<=50)(l2:↑pe<=900)(k:∀ (q:Addr) (H':Hp),gn H' q (rows.map aI)->aH H H'->Q ↥q H'):Pk CS [↥sh] H Q E:=by
 have lo:=pH L hl;have lp:↑(mH pe)=↑pe:=bW _;refine⟨S,sh,dS,st,op,mH pe,ops,rfl,L.W,⟨E,E⟩,λrws el q H1 fs s=>?_⟩;rw[gW hl]at el;cases el;exact k q H1 fs.at_ s
theorem fJ.chk{S:Addr->Prop}{H:Hp}{x d wl sh bl du bk st:Addr}{pe:iI}{ops:List Int}{aC:jb}{rows:cK}{s:Int}{Q:VK}{E:XK}(L:fJ C CS S H x d wl sh bl kn du bk dS st op (mH pe) ops aC)(hl:pe.getLast?=⇑rows)(ia:rP ↑rows s)(k:Q .gj H):Cq CS [↥sh,.int s] H Q E:=⟨S,sh,dS,st,op,mH pe,ops,s,rfl,L.W,by rw[pH L hl];exact ia,k⟩
class inductive Px(C CS:Addr)
 | mk (S:Addr->Prop) (x d wl sh bl kn du bk dS st op:Addr) (pe:iI) (ops:List Int) (aC:jb) (rows:cK) (s:Int) (_:vs=[↥x,.int s]) (_:fJ C CS S H x d wl sh bl kn du bk dS st op (mH pe) ops aC) (_:pe.getLast?=⇑rows) (_:↑rows<=50) (_:↑pe<=900) (_:rP ↑rows s) (_:(∃ f,Seen rows f/\∀ (o:Addr) (H':Hp),b5 H' o (cR (f s))->aH H H'->H o=none->Q ↥o H'))
theorem yi:aG ["self","sheet"] ["self","sheet"] (az lV):=fC
theorem gp:‹(5,61,["self","sheet"],(Px C CS))›:=λD=>by
 specialize fX D.LZ.F yi;let⟨S,x,d,wl,sh,bl,kn,du,bk,dS,st,op,pe,ops,aC,rows,s,rfl,L,hl,l1,l2,ia,k2⟩:=h;exists _,(aj (aV (cJ (cU (pv 0) rfl) D.cF D.IF (cZ D) hr bS (aa (pv 1) ah))) (au (aL (eY.uV D.VO (D.T.zJ _ D.VO.m) (O0 D) hr (aa (eL (cU (pv 0) rfl) D.cF D.FN (gh D) hr bS) (aa (pv 1) ah))))));refine⟨Y,x,C,d,_,↥sh,rfl,L.hx,D.aP.cl,D.gm,rfl,sh,dS,Y,L.W.hx,rfl,Y,L.chk hl ia ?_⟩;let⟨f0,sn,k3⟩:=k2;refine⟨Y,x,C,d,_,↥sh,rfl,L.hx,D.aP.cl,D.gm,rfl,sh,dS,Y,L.W.hx,rfl,L.rws hl l1 l2 λq H1 fs1 s1=>?_⟩;have hR:=fs1;exact⟨Y,q,rows,s,f0,rfl,hR,E,sn.es,sn.sd,sn.rk,ia.1,ia.2,sn.ss,sn.ln,λo H2 ho s2 fo=>k3 o H2 ho (s1.trans s2) (bw s1 fo)⟩
theorem fJ.fr{S:Addr->Prop}{H H':Hp}{x d wl sh bl du bk st:Addr}{bH:j8}{ops:List Int}{aC:jb}(L:fJ C CS S H x d wl sh bl kn du bk dS st op bH ops aC)(k:∀ a ob,H a=⇑ob->(S a\/a=bk\/a=x)->H' a=⇑ob)(t:∀ a xs,H a=⇑(.tup xs)->H' a=⇑(.tup xs)):fJ C CS S H' x d wl sh bl kn du bk dS st op bH ops aC :=
 ⟨k _ _ L.hx (.inr (.inr rfl)),L.W.fr (λa ob e z=>k a ob e (.inl z)) t,k _ _ L.hb (.inr (.inl rfl)),L.nx,L.nb⟩
structure yj(C CS CW CB:Addr)(U S SW:Addr->Prop)(H:Hp)(x d wl sh bl kn du bk dS st op dw sg ow pw db tb:Addr)(pe:iI)(ops:List Int)(aC:jb)(aJ:iz)(nW:Nat)(b9:Row):Prop where
 L:fJ C CS S H x d wl sh bl kn du bk dS st op (mH pe) ops aC
 W:We CW SW H wl dw sg ow pw nW aJ
 B:Bl CB H bl db tb
 R:b5 H tb b9
 FT:LN b9
 dj:∀ a,SW a->¬ S a/\a≠bk/\a≠x
 db:¬ S bl/\¬ SW bl/\bl≠bk
 dt:¬ S tb/\¬ SW tb/\tb≠bk
 u:∀ a,U a↔S a\/SW a\/a=bk\/a=x\/a=bl\/a=tb
inductive rR(C CS CW CB:Addr)(U:Addr->Prop)(H:Hp)(x:Addr)(pe:iI)(aC:jb)(aJ:iz)(nW:Nat)(b9:Row):Prop
 | mk (S SW:Addr->Prop) (d wl sh bl kn du bk dS st op dw sg ow pw db tb:Addr) (ops:List Int) (_:yj C CS CW CB U S SW H x d wl sh bl kn du bk dS st op dw sg ow pw db tb pe ops aC aJ nW b9)
def MY(U U':Addr->Prop)(H H':Hp):Prop:=(∀ a,U' a->U a\/H a=none)/\(∀ a ob,H a=⇑ob->¬ U a->H' a=⇑ob)/\∀ a xs,H a=⇑(.tup xs)->H' a=⇑(.tup xs)
theorem MY.pre{U U':Addr->Prop}{H0 H H':Hp}(s:aH H0 H)(f:MY U U' H H'):MY U U' H0 H':=⟨λa z=>(f.1 a z).imp id λy=>bw s y,λa ob e n=>f.2.1 a ob (s _ _ e) n,λa xs e=>f.2.2 a xs (s _ _ e)⟩
def yj.fr{U S SW:Addr->Prop}{H H':Hp}{x d wl sh bl du bk st dw ow pw db:Addr}{pe:iI}{ops:List Int}{aC:jb}{aJ:iz}{nW:Nat}{b9:Row}(h:yj C CS CW CB U S SW H x d wl sh bl kn du bk dS st op dw sg ow pw db tb pe ops aC aJ nW b9)(k:∀ a ob,H a=⇑ob->U a->H' a=⇑ob)(t:∀ a xs,H a=⇑(.tup xs)->H' a=⇑(.tup xs)):yj C CS CW CB U S SW H' x d wl sh bl kn du bk dS st op dw sg ow pw db tb pe ops aC aJ nW b9:=by
 let⟨L,W,B,R,FT,dj,db',dt,u⟩:=h;refine⟨L.fr (λa ob e z=>k a ob e ((u a).mpr ?_)) t,W.fr (λa ob e z=>k a ob e ((u a).mpr (.inr (.inl z)))) t,k _ _ B ((u _).mpr (.inr (.inr (.inr (.inr (.inl rfl)))))),R.two (λxs e=>k _ _ e ((u _).mpr (.inr (.inr (.inr (.inr (.inr rfl))))))) t,FT,dj,db',dt,u⟩;rcases z with z|z|z
 ·exact .inl z
 ·exact .inr (.inr (.inl z))
 ·exact .inr (.inr (.inr (.inl z)))
theorem yj.same{U S SW:Addr->Prop}{H H':Hp}{x d wl sh bl du bk st dw ow pw db:Addr}{pe:iI}{ops:List Int}{aC:jb}{aJ:iz}{nW:Nat}{b9:Row}(h:yj C CS CW CB U S SW H x d wl sh bl kn du bk dS st op dw sg ow pw db tb pe ops aC aJ nW b9)(s:aH H H'):yj C CS CW CB U S SW H' x d wl sh bl kn du bk dS st op dw sg ow pw db tb pe ops aC aJ nW b9:=h.fr (λa ob e _=>s a ob e) λa xs e=>s _ _ e
def rR.fr{U:Addr->Prop}{H H':Hp}{x:Addr}{pe:iI}{aC:jb}{aJ:iz}{nW:Nat}{b9:Row}(h:rR C CS CW CB U H x pe aC aJ nW b9)(k:∀ a ob,H a=⇑ob->U a->H' a=⇑ob)(t:∀ a xs,H a=⇑(.tup xs)->H' a=⇑(.tup xs)):rR C CS CW CB U H' x pe aC aJ nW b9:=by
 let⟨S,SW,d,wl,sh,bl,kn,du,bk,dS,st,op,dw,sg,ow,pw,db,tb,ops,z⟩:=h;exact⟨S,SW,d,wl,sh,bl,kn,du,bk,dS,st,op,dw,sg,ow,pw,db,tb,ops,z.fr k t⟩
theorem rR.same{U:Addr->Prop}{H H':Hp}{x:Addr}{pe:iI}{aC:jb}{aJ:iz}{nW:Nat}{b9:Row}(h:rR C CS CW CB U H x pe aC aJ nW b9)(s:aH H H'):rR C CS CW CB U H' x pe aC aJ nW b9:=h.fr (λa ob e _=>s a ob e) λa xs e=>s _ _ e
def yj.vq{U S S' SW:Addr->Prop}{H H':Hp}{x d wl sh bl du bk st dw ow pw db:Addr}{pe Xx:iI}{ops IY:List Int}{aC iG:jb}{aJ:iz}{nW:Nat}{b9:Row}(h:yj C CS CW CB U S SW H x d wl sh bl kn du bk dS st op dw sg ow pw db tb pe ops aC aJ nW b9)(L':fJ C CS S' H' x d wl sh bl kn du bk dS st op (mH Xx) IY iG)(fr:Fr S S' bk H H'):∃ U',rR C CS CW CB U' H' x Xx iG aJ nW b9/\MY U U' H H':=by
 let⟨L,W,B,R,FT,dj,db',dt,u⟩:=h;let⟨as,hR,_⟩:=id R
 have nS':∀ a ob,H a=⇑ob->¬ S a->¬ S' a:=λa ob e n z=>by
  rcases fr.1 a z with y|y
  ·exact n y
  ·rw[e]at y;cases y
 refine⟨λa=>S' a\/SW a\/a=bk\/a=x\/a=bl\/a=tb,⟨S',SW,d,wl,sh,bl,kn,du,bk,dS,st,op,dw,sg,ow,pw,db,tb,IY,L',W.fr (λa ob e z=>fr.2.1 _ _ e (dj a z).1 (dj a z).2.1) fr.2.2,fr.2.1 _ _ B db'.1 db'.2.2,R.two (λxs e=>fr.2.1 _ _ e dt.1 dt.2.2) fr.2.2,FT,λa z=>?_,⟨nS' _ _ B db'.1,db'.2⟩,⟨nS' _ _ hR dt.1,dt.2⟩,λa=>Iff.rfl⟩,λa z=>?_,λa ob e n=>?_,fr.2.2⟩
 ·let⟨ob,e⟩:=W.al a z;exact⟨nS' _ _ e (dj a z).1,(dj a z).2⟩
 ·rcases z with z|z
  ·exact (fr.1 a z).imp (λy=>(u a).mpr (.inl y)) id
  ·exact .inl ((u a).mpr (.inr z))
 ·exact fr.2.1 a ob e (λz=>n ((u a).mpr (.inl z))) (λz=>n ((u a).mpr (.inr (.inr (.inl z)))))
def Chg(C CS CW CB XH:Addr)(U:Addr->Prop)(H:Hp)(x:Addr)(pe:iI)(aC:jb)(aJ:iz)(nW:Nat)(b9:Row)(rows:cK)(t:Nat)(es:List Int)(ln:List Nat)(Q:VK)(E:XK):Prop:=∃ f,Wv (ja rows t es) f/\(Cr (ja rows t es) f->∀ (U':Addr->Prop) (H':Hp),rR C CS CW CB U' H' x (pe++[ja rows t es]) (aC++[ln]) aJ nW b9->MY U U' H H'->Q .gj H')/\(Cs (ja rows t es) f->∀ H',aH H H'->E ↥XH none H')
theorem fnN:∀ y∈([]:List Int),qK y:=λ_ z=>by cases z
theorem Ug{x:Int}{l:List Int}(a:0<=x)(b:x<10^60)(g:∀ y∈l,qK y):∀ y∈x::l,qK y:=λy z=>(List.mem_cons.mp z).elim (λe=>by rw[e];exact⟨a,b⟩) (g y)
def yj.chg{U S SW:Addr->Prop}{H H3:Hp}{x d wl sh bl du bk st dw ow pw db t q2:Addr}{pe:iI}{ops:List Int}{aC:jb}{aJ:iz}{nW:Nat}{b9:Row}{rows:cK}{nm:Str}{n:List Nat}{ns es:List Int}{s:Int}{Q:VK}{E:XK}(LU:yj C CS CW CB U S SW H x d wl sh bl kn du bk dS st op dw sg ow pw db tb pe ops aC aJ nW b9)(sm:aH H H3)(ht:H3 t=⇑(.tup (.str nm::ns.map V.int)))(hn:nm=dP n)(hk:mX Wn n=⇑(↑ns:Int))(hf:∀ y∈ns,qK y)(hq:bQ H3 ↥q2 (aI es))(fq:H q2=none)(hl:pe.getLast?=⇑rows)(l1:↑rows<=50)(l2:↑pe<=900)(l3:↑aC<=900)(ia:rP ↑rows s)(B:Chg C CS CW CB XH U H x pe aC aJ nW b9 rows s.toNat es (jE.plain n ns).line Q E):Ct C CS XH [↥x,↥t,.int s,↥q2] H3 Q E:=by
 subst hn;have i1:=ia.1;have i2:=ia.2;have ss:((s.toNat:Nat):Int)=s:=by lia
 let⟨fB,B,k,kh⟩:=B;refine⟨S,x,d,wl,sh,bl,kn,du,bk,dS,st,op,pe,ops,aC,t,q2,.plain n ns,s.toNat,es,rows,fB,by rw[ss],(LU.same sm).L,ht,⟨hk,hf⟩,hq,(λe=>by have:=LU.L.hb;rw[← e,fq]at this;cases this),hl,E,l1,l2,l3,B,λlt S' H8 L8 EB=>?_,λhv H8 s8=>kh hv H8 (sm.trans s8)⟩;let⟨U',hL',f'⟩:=(LU.same sm).vq L8 EB;exact k lt U' H8 hL' (f'.pre sm)
class inductive Ku(C CS CW CB:Addr)
 | mk (U:Addr->Prop) (x:Addr) (pe:iI) (aC:jb) (aJ:iz) (nW:Nat) (b9:Row) (h:Int) (cs:List Nat) (rows:cK) (_:vs=[↥x,.int h,.str (dP cs)]) (_:rR C CS CW CB U H x pe aC aJ nW b9) (_:qK h) (_:↑cs<=200) (_:↑aJ<=90000) (_:nW<=900) (_:pe.getLast?=⇑rows) (_:↑rows<=50) (_:↑pe<=900) (_:↑aC<=900) (_ :
 ∀ (U':Addr->Prop) (q:Addr) (H':Hp),rR C CS CW CB U' H' x (pe++[rows]) (aC++[(jE.zS h cs).line]) (aJ++oB h cs) (nW+1) b9->MY U U' H H'->H' q=⇑(.tup [.int (↑aJ:Nat),.int (↑(aJ++oB h cs):Nat)])->Q ↥q H')
theorem qO:aG ["self","hand","text","stretch"] ["self","hand","text"] (az nA):=fC
theorem pS:‹(4,59,["self","hand","text"],(Ku C CS CW CB))›:=λD=>by
 specialize fX D.RV.F qO;let⟨U,x,pe,aC,aJ,nW,b9,h,cs,rows,rfl,⟨S,SW,d,wl,sh,bl,kn,du,bk,dS,st,op,dw,sg,ow,pw,db,tb,ops,LU⟩,fh,lc,li,ln,hl,l1,l2,l3,k⟩:=h;let⟨L,W,B,R,FT,dj,db',dt,u⟩:=id LU;exists _,(aj (bx (i:=3) qO.nd (cJ (cU (pv 0) rfl) D.iM D.Zw (DQ D) hr bS (aa (pv 1) (aa (pv 2) ah)))) (aj (aV (cJ (pv 0) D.aP D.RU (jN D) hr bS (aa (cG (aa bh (aa (pv 1) (aa (pv 2) ah)))) (aa (bO ah) ah)))) (au (aL (pv 3)))));refine⟨Y,x,C,d,_,↥wl,rfl,L.hx,D.aP.cl,D.xA,rfl,wl,dw,Y,W.hx,rfl,Y,Y,SW,wl,dw,sg,ow,pw,nW,aJ,h,cs,rfl,W,E,E,λWC q H1 W1 hq sub fr tp=>?_⟩
 have nSW:∀ a ob,H a=⇑ob->¬ SW a->¬ WC a:=λa ob e n z=>by
  rcases sub a z with y|y
  ·exact n y
  ·rw[e]at y;cases y
 have nk1:∀ a ob,H a=⇑ob->(S a\/a=bk\/a=x)->¬ SW a:=λa ob e z y=>by
  let⟨y1,y2,y3⟩:=dj a y;rcases z with z|z|z
  ·exact y1 z
  ·exact y2 z
  ·exact y3 z
 have L1:fJ C CS S H1 x d wl sh bl kn du bk dS st op (mH pe) ops aC:=L.fr (λa ob e z=>fr _ _ e (nk1 a ob e z)) tp;let⟨as,hR,_⟩:=id R
 have LU1:yj C CS CW CB (λa=>S a\/WC a\/a=bk\/a=x\/a=bl\/a=tb) S WC H1 x d wl sh bl kn du bk dS st op dw sg ow pw db tb pe ops aC (aJ++oB h cs) (nW+1) b9:=by
  refine⟨L1,W1,fr _ _ B db'.2.1,R.two (λxs e=>fr _ _ e dt.2.1) tp,FT,λa z=>?_,⟨db'.1,nSW _ _ B db'.2.1,db'.2.2⟩,⟨dt.1,nSW _ _ hR dt.2.1,dt.2.2⟩,λa=>Iff.rfl⟩;rcases sub a z with y|y
  ·exact dj a y
  ·refine⟨λq'=>?_,λq'=>?_,λq'=>?_⟩
   ·let⟨ob,e⟩:=L.W.al a q';rw[y]at e;cases e
   ·rw[q',L.hb]at y;cases y
   ·rw[q',L.hx]at y;cases y
 refine⟨Y,x,d,Y,L1.hx,rfl,Y,Y,IB,λt ht=>⟨iY,λc hc=>?_⟩⟩;have s2:aH H1 (aO (aO H1 t (.tup [.str "pour",.int h,.str (dP cs)])) c (.lst [])):=(ao ht _).trans (ao hc _);have MU:(aO (aO H1 t (.tup [.str "pour",.int h,.str (dP cs)])) c (.lst [])) t=⇑(.tup [.str "pour",.int h,.str (dP cs)]):=ao hc _ _ _ af;have Wm:(aO (aO H1 t (.tup [.str "pour",.int h,.str (dP cs)])) c (.lst [])) c=⇑(.lst (([]:List Addr).map V.ref)):=af
 have nc:c≠bk:=λz=>by
  have:=ao ht (.tup [.str "pour",.int h,.str (dP cs)]) _ _ L1.hb;rw[← z,hc]at this;cases this
 generalize aO (aO H1 t (.tup [.str "pour",.int h,.str (dP cs)])) c (.lst [])=H2 at s2 MU Wm;have lp:↑(mH pe)=↑pe:=bW _;have EE:=LU1.same s2;refine⟨S,x,d,wl,sh,bl,kn,du,bk,dS,st,op,mH pe,ops,aC,t,c,.zS h cs,[],[],rows.map aI,rfl,EE.L,MU,⟨fh,lc⟩,Wm,nc,.nil,(λ_ z=>by cases z),gW hl,(λi ch e=>by cases e),(by show 0<=200;decide),by rw[bW];lia,E,E,λS' H3 L3 K0=>?_⟩
 have ep:mH pe++[lE (rows.map aI) []]=mH (pe++[rows]):=by
  show _=(pe++[rows]).map _;rw[gC];rfl
 have eo:ops++List.replicate (↑(lE (rows.map aI) [])-↑(rows.map aI)) ((↑(mH pe):Nat):Int)=ops:=by
  show ops++List.replicate (↑(rows.map aI)-↑(rows.map aI)) _=ops;rw[Nat.sub_self];exact iS _
 rw[ep,eo]at L3;let⟨U',hL',f'⟩:=EE.vq L3 K0;refine⟨Y,k U' q H3 hL' ⟨λa z=>?_,λa ob e n=>?_,λa xs e=>f'.2.2 _ _ (s2 _ _ (tp _ _ e))⟩ (f'.2.2 _ _ (s2 _ _ hq))⟩
 ·rcases f'.1 a z with y|y
  ·rcases y with y|y|y
   ·exact .inl ((u a).mpr (.inl y))
   ·exact (sub a y).imp (λw=>(u a).mpr (.inr (.inl w))) id
   ·exact .inl ((u a).mpr (.inr (.inr y)))
  ·have y1:=bw s2 y
   cases e:H a with
   | none=>exact .inr rfl
   | some ob =>
    by_cases z2:SW a
    ·exact .inl ((u a).mpr (.inr (.inl z2)))
    ·rw[fr _ _ e z2]at y1;cases y1
 ·have n1:¬ SW a:=λz=>n ((u a).mpr (.inr (.inl z)));refine f'.2.1 a ob (s2 _ _ (fr _ _ e n1)) λz=>?_;rcases z with z|z|z
  ·exact n ((u a).mpr (.inl z))
  ·exact nSW _ _ e n1 z
  ·exact n ((u a).mpr (.inr (.inr z)))
class inductive Gk(C CS CW CB:Addr)
 | mk (U:Addr->Prop) (x:Addr) (pe:iI) (aC:jb) (aJ:iz) (nW:Nat) (b9:Row) (_:vs=[↥x]) (_:rR C CS CW CB U H x pe aC aJ nW b9) (_:Q (.int (↑aJ:Nat)) H)
class inductive Gm(C CS CW CB:Addr)
 | mk (U:Addr->Prop) (x r:Addr) (pe:iI) (aC:jb) (aJ:iz) (nW:Nat) (b9 row:Row) (_:vs=[↥x,↥r]) (_:rR C CS CW CB U H x pe aC aJ nW b9) (_:b5 H r row) (_:↑row<=1000) (_:qN ↑aJ row=true) (_:∀ H',aH H H'->Q .gj H')
theorem AW:aG ["self"] ["self"] (az oV):=fC
theorem qP:aG ["self","row"] ["self","row"] (az iE):=fC
theorem qQ:‹(2,57,["self"],(Gk C CS CW CB))›:=λD=>by
 specialize fX D.ZD.F AW;let⟨U,x,pe,aC,aJ,nW,b9,rfl,⟨S,SW,d,wl,sh,bl,kn,du,bk,dS,st,op,dw,sg,ow,pw,db,tb,ops,LU⟩,k⟩:=h;exists _,(au (aL (eL (cU (pv 0) rfl) D.iM D.LY (jv D) hr bS)));exact⟨Y,x,C,d,_,↥wl,rfl,LU.L.hx,D.aP.cl,D.xA,rfl,wl,dw,Y,LU.W.hx,rfl,wl,dw,sg,ow,pw,aJ,rfl,LU.W.hx,LU.W.hs,k⟩
theorem jI:‹(3,58,["self","row"],(Gm C CS CW CB))›:=λD=>by
 have SN:aX P w K mg zt cO 2 _ _ G4 (Gk C CS CW CB):=qQ D;specialize fX D.VT.F qP;let⟨U,x,r,pe,aC,aJ,nW,b9,row,rfl,LB,i9,lr,g,k1⟩:=h;let⟨S,SW,d,wl,sh,bl,kn,du,bk,dS,st,op,dw,sg,ow,pw,db,tb,ops,LU⟩:=id LB;exists _,(au (bN (gO (gM (cJ (cU (pv 0) rfl) D.iM D.Zx (AU D) hr bS (aa (pv 1) ah)))) (au jT) aW));refine⟨Y,x,C,d,_,↥wl,rfl,LU.L.hx,D.aP.cl,D.xA,rfl,wl,dw,Y,LU.W.hx,rfl,Y,SW,wl,dw,sg,ow,pw,r,nW,aJ,row,rfl,LU.W,i9,lr,λH1 s1=>⟨Y,?_⟩⟩;rw[g];exact dF (k1 H1 s1)
abbrev ptW:List Nat:=(Str.ofString "put").cps.toList
class inductive SO(C CS CW CB XH:Addr)
 | mk (U:Addr->Prop) (x r:Addr) (pe:iI) (aC:jb) (aJ:iz) (nW:Nat) (b9 row:Row) (s p:Int) (rows:cK) (_:vs=[↥x,.int s,.int p,↥r]) (_:rR C CS CW CB U H x pe aC aJ nW b9) (_:b5 H r row) (_:Mq row) (_:↑aJ<=100000) (_:pe.getLast?=⇑rows) (_:↑rows<=50) (_:↑pe<=900) (_:↑aC<=900) (_:Dd s) (_:Dd p) (_:rP ↑rows s) (_:qN ↑aJ row=true) (_:(∃ sh,Seen rows sh/\(0<=p/\p<=↑(sh s))/\((∀ es,rows[s.toNat]?=⇑es->Chg C CS CW CB XH U H x pe aC aJ nW b9 rows s.toNat (gf sh p es (eN (fH (cB row)))) (jE.pO ptW [s,p] row).line Q E))))
theorem sL:aG ["self","sheet","place","row","items"] ["self","sheet","place","row"] (az oW):=fC
def wX(ns:List Int):lu (cR ns)=(↑ns:Int):=by rw[← rm _ (nZ _),eS]
theorem Cu{n:Nat}{row:Row}(h:qN n row=true):∀ p∈row,0<=p.1/\p.1<p.2/\p.2<=n:=λp hp=>by
 have z:=List.all_eq_true.mp h p hp;unfold QB at z;simpa [and_assoc] using z
def Dd.big{s:Int}(h:Dd s):s<10^60:=by
 let⟨_,h1⟩:=h;lia
def Ad(D:Ds K mg aY bq C CS CW CB CT CD aA):aX P w K mg zt (EC P w) 6 (aY 60) (bq 60) ["self","sheet","place","row"] (SO C CS CW CB aA):=by
 refine Xq D.ZE.F sL λcH A zn s0 H vs Q E hr h=>?_;let⟨U,x,r,pe,aC,aJ,nW,b9,row,s,p,rows,rfl,LB,i9,fr,li,hl,l1,l2,l3,fs,fp,ia,g,k2⟩:=h;let⟨S,SW,d,wl,sh,bl,kn,du,bk,dS,st,op,dw,sg,ow,pw,db,tb,ops,LU⟩:=id LB;exists _,(aj (aV (aM D.dq6 (kJ D) hr (aa (cJ (pv 0) D.aP D.LZ (gp D) hr bS (aa (pv 1) ah)) (aa (pv 2) (aa (pv 2) ah))))) (aj (aV (cJ (pv 0) D.aP D.VT (jI D) hr bS (aa (pv 3) ah))) (aj (bx (i:=4) sL.nd (aM D.RQ (pG D) hr (aa (eL (cU (pv 0) rfl) D.cF D.FN (gh D) hr bS) (aa (pv 1) (aa (pv 2) (aa (aM D.LX (qH D) hr (aa (pv 3) ah)) ah)))))) (au (aV (cJ (pv 0) D.aP D.OQ (gJ D) hr zw (aa (cG (aa bh (aa (pv 1) (aa (pv 2) (aa (pv 3) ah))))) (aa (pv 1) (aa (pv 4) ah)))))))));exists Y,x,d,Y,LU.L.hx,rfl,Y,S,x,d,wl,sh,bl,kn,du,bk,dS,st,op,pe,ops,aC,rows,s,rfl,LU.L,hl,l1,l2,ia;let⟨f0,sn,hpp,k6⟩:=k2;have ls:↑(f0 s)<=10000:=sn.ln s ia.1 ia.2;have lr0:=rG (f0 s);refine⟨f0,sn,λo H1 ho s1 fo=>?_⟩;have z:YT p p (lu (cR (f0 s))):=by rw[wX];exact⟨hpp.1,Int.le_refl _,hpp.2⟩
 refine⟨Y,Y,o,cR (f0 s),p,p,rfl,ho,E,z,λH2 s2=>?_⟩;have qg:=s1.trans s2;have EE:=LU.same qg;have Kh:=i9.same qg;refine⟨Y,x,d,Y,EE.L.hx,rfl,Y,U,x,r,pe,aC,aJ,nW,b9,row,rfl,LB.same qg,Kh,by have:=fr.1;lia,g,λH3 s3=>?_⟩;have xF:=qg.trans s3;have LU3:=LU.same xF;have L6:=i9.same xF;have hp:=Cu g;have sl:s.toNat<↑rows:=by have:=ia.1;have:=ia.2;lia
 obtain⟨es,es1⟩:∃ es,rows[s.toNat]?=⇑es:=⟨_,nM sl⟩;let⟨fB,B,k7,kh⟩:=k6 _ es1;refine⟨Y,x,C,d,_,↥sh,rfl,LU3.L.hx,D.aP.cl,D.gm,rfl,sh,dS,Y,LU3.L.W.hx,rfl,LU3.L.rws hl l1 l2 λq H4 fs4 s4=>?_⟩;have hR:=fs4;have hr4:=L6.same s4;refine⟨Y,Y,Y,r,row,rfl,hr4,by have:=fr.1;lia,λoi H5 hoi s5 foi=>?_⟩;have nn:mT row:=λp' MT=>⟨(hp p' MT).1,by have:=(hp p' MT).2.1;lia⟩;refine⟨q,oi,rows,s,p,_,f0,rfl,⟨hR.same s5,E,sn.es,sn.sd,sn.rk,sn.ss,sn.ln⟩,ia.1,ia.2,hoi,vf (oh nn),?_,hpp,λes q2 H6 uu dH s6 Xy=>?_⟩
 ·unfold fH;rw[bW];have:=lJ row;have:=fr.1;lia
 rw[es1]at uu;cases uu;have s16:aH H H6:=xF.trans (s4.trans (s5.trans s6));have LU6:=LU.same s16
 have nq2:q2≠bk:=λe=>by
  have y:=(LU.same (xF.trans (s4.trans s5))).L.hb;rw[← e,Xy]at y;cases y
 refine⟨Y,x,d,Y,LU6.L.hx,rfl,Y,Y,Y,FH,λt ht=>?_⟩;have s7:=ao ht (.tup [.str "put",.int s,.int p,↥r]);have ht7:(aO H6 t (.tup [.str "put",.int s,.int p,↥r])) t=⇑(.tup [.str "put",.int s,.int p,↥r]):=af;generalize aO H6 t (.tup [.str "put",.int s,.int p,↥r])=H7 at s7 ht7;have SQ:=s16.trans s7;have LU7:=LU.same SQ;have ss:((s.toNat:Nat):Int)=s:=by have:=ia.1;lia
 refine⟨Y,Y,S,x,d,wl,sh,bl,kn,du,bk,dS,st,op,pe,ops,aC,t,q2,.pO ptW [s,p] row,s.toNat,_,rows,fB,by rw[ss];rfl,LU7.L,⟨r,by rw[ht7,qC];rfl,i9.same SQ⟩,⟨(by show mX Xv ptW=some 2;decide +kernel),?_,fr⟩,dH.same s7,nq2,hl,by have:=ia.2;have:=ia.1;lia,l1,l2,l3,B,λlt S' H8 L8 EB=>?_,λhv H8 s8=>kh hv H8 (SQ.trans s8)⟩
 ·intro y hy;have b1:=ia.1;have b2:=hpp.1;rcases List.mem_cons.mp hy with e|e
  ·rw[e];exact⟨b1,fs.big⟩
  ·rw[List.mem_singleton.mp e];exact⟨b2,fp.big⟩
 ·let⟨U',hL',f'⟩:=LU7.vq L8 EB;exact k7 lt U' H8 hL' (f'.pre SQ)
theorem We.j9{S:Addr->Prop}{H H':Hp}{x d s p l:Addr}{n:Nat}{aJ:iz}{fs:List (Str × V)}(h:We C S H x d s o p n aJ)(hl:H l=⇑(.ins C' d' fs))(nl:¬ S l)(k:cy l H H'):We C S H' x d s o p n aJ :=
 h.fr (λa ob e z=>k a ob e (λq=>nl (by rw[← q];exact z))) (λa xs e=>k _ _ e (dB e hl))
theorem b5.j9{H H':Hp}{r l:Addr}{row:Row}{fs:List (Str × V)}(h:b5 H r row)(hl:H l=⇑(.ins C' d' fs))(k:cy l H H'):b5 H' r row :=
 h.two (λxs e=>k _ _ e (dB e hl)) (λa xs e=>k _ _ e (dB e hl))
def ou{H:Hp}{dw a:Addr}{o:HO}(e:(aO (aO H dw (.own xw)) xw o) a=none):H a=none:=by
 by_cases z1:a=xw
 ·rw[z1,af]at e;cases e
 rw[aK z1]at e;by_cases z2:a=dw
 ·rw[z2,af]at e;cases e
 rw[aK z2]at e;exact e
class inductive Cv(C CS CW CB:Addr)
 | mk (x d:Addr) (_:vs=[↥x]) (_:H x=⇑(.ins C d [])) (_: ∀ (U:Addr->Prop) (H':Hp),rR C CS CW CB U H' x [[]] [] [] 0 []->(∀ a,U a->a=x\/H a=none)->cy x H H'->Q .gj H')
theorem ug:aG ["self"] ["self"] (az jm):=fC
theorem rS:‹(3,50,["self"],(Cv C CS CW CB))›:=λD=>by
 specialize fX D.Zz.F ug;let⟨x,d,rfl,hx,k⟩:=h;refine⟨_,(aj (iT (pv 0) (nS D.iM.Xn (wR D) (hr.mono (by decide)) rfl D.iM.m D.Zv.b .nil bS) rfl) (aj (iT (pv 0) (nS D.cF.Xn (vo D) (hr.mono (by decide)) rfl D.cF.m D.Zo.b .nil bS) rfl) (aj (iT (pv 0) (nS D.tZ.Xn (uX D) (hr.mono (by decide)) rfl D.tZ.m D.dq9.b .nil bS) rfl) (aj (iT (pv 0) (nS D.Cb.Xn (wO D) (hr.mono (by decide)) rfl D.Cb.m D.Zt.b .nil bS) rfl) (aj (iT (pv 0) (nS D.FL.Xn (wN D) (hr.mono (by decide)) rfl D.FL.m D.Zu.b .nil bS) rfl) (au (iT (pv 0) (bO ah) rfl))))))),?_⟩;intro wl dw hw1 hw2 _;refine⟨wl,dw,rfl,af,λsg ow pw H1 V1 k1 fsg fow fpw=>⟨rfl,?_⟩⟩;have s1:=lM hw1 hw2 k1
 have fW:∀ a,(a=wl\/a=sg\/a=ow\/a=pw)->H a=none:=λa e=>by
  rcases e with rfl|rfl|rfl|rfl
  ·exact hw1
  ·exact ou fsg
  ·exact ou fow
  ·exact ou fpw
 have WD:¬ (x=wl\/x=sg\/x=ow\/x=pw):=λe=>by
  have:=fW x e;rw[hx]at this;cases this
 refine⟨Y,x,C,d,Y,s1 _ _ hx,D.aP.cl,D.xA,by decide,?_⟩;have q2:cy x H (aO H1 x (.ins C d (L2.dJ "well" ↥wl []))):=cy.trans (fV.aH.keep s1) (aF x _ _);have x2:(aO H1 x (.ins C d (L2.dJ "well" ↥wl []))) x=⇑(.ins C d [("well",↥wl)]):=af;have kx2:cy x H1 (aO H1 x (.ins C d (L2.dJ "well" ↥wl []))):=aF x _ _;generalize aO H1 x (.ins C d (L2.dJ "well" ↥wl []))=H2 at q2 x2 kx2;have V2:=V1.j9 (s1 _ _ hx) WD kx2;intro sh dS Ww G6 _;refine⟨sh,dS,rfl,af,λst op z H3 W3 k3 fst fop fz=>⟨rfl,?_⟩⟩;have s3:=lM Ww G6 k3
 have up:∀ a,(aO (aO H2 dS (.own sh)) sh (.ins CS dS [])) a=none->H2 a=none:=λa e=>by
  by_cases z1:a=sh
  ·rw[z1,af]at e;cases e
  rw[aK z1]at e;by_cases z2:a=dS
  ·rw[z2,af]at e;cases e
  rw[aK z2]at e;exact e
 have fS:∀ a,(a=sh\/a=st\/a=op\/a=z)->H2 a=none:=λa e=>by
  rcases e with rfl|rfl|rfl|rfl
  ·exact Ww
  ·exact up _ fst
  ·exact up _ fop
  ·exact up _ fz
 have WE:¬ (x=sh\/x=st\/x=op\/x=z):=λe=>by
  have:=fS x e;rw[x2]at this;cases this
 have x3:=s3 _ _ x2;have V3:=V2.same s3;refine⟨Y,x,C,d,Y,x3,D.aP.cl,D.gm,(by show 1<1000;decide),?_⟩;have k4:cy x H3 (aO H3 x (.ins C d (L2.dJ "shelf" ↥sh [("well",↥wl)]))):=aF x _ _;have x4:(aO H3 x (.ins C d (L2.dJ "shelf" ↥sh [("well",↥wl)]))) x=⇑(.ins C d [("well",↥wl),("shelf",↥sh)]):=af;generalize aO H3 x (.ins C d (L2.dJ "shelf" ↥sh [("well",↥wl)]))=H4 at k4 x4;have W4:=W3.j9 x3 WE k4;have V4:=V3.j9 x3 WD k4;have q4:cy x H H4:=(q2.trans (fV.aH.keep s3)).trans k4;intro bl db ED Qq _;refine⟨bl,db,rfl,af,λtb H5 B5 R5 k5 ftb=>⟨rfl,?_⟩⟩;have s5:=lM ED Qq k5;have WG:=ou ftb;have x5:=s5 _ _ x4;have W5:=W4.same s5;have V5:=V4.same s5;have Py:bl≠x:=(aB x4 ED).symm;refine⟨Y,x,C,d,Y,x5,D.aP.cl,D.zd,(by show 2<1000;decide),?_⟩;have k6:cy x H5 (aO H5 x (.ins C d (L2.dJ "blots" ↥bl [("well",↥wl),("shelf",↥sh)]))):=aF x _ _;have x6:(aO H5 x (.ins C d (L2.dJ "blots" ↥bl [("well",↥wl),("shelf",↥sh)]))) x=⇑(.ins C d [("well",↥wl),("shelf",↥sh),("blots",↥bl)]):=af;generalize aO H5 x (.ins C d (L2.dJ "blots" ↥bl [("well",↥wl),("shelf",↥sh)]))=H6 at k6 x6;have W6:=W5.j9 x5 WE k6;have V6:=V5.j9 x5 WD k6;have B6:Bl CB H6 bl db tb:=k6 _ _ B5 Py;have R6:=R5.j9 x5 k6;have q6:cy x H H6:=(q4.trans (fV.aH.keep s5)).trans k6;intro kn dk hk1 hk2 _;refine⟨kn,dk,rfl,af,λfs7 H7 _ k7=>⟨rfl,?_⟩⟩;have s7:=lM hk1 hk2 k7;have x7:=s7 _ _ x6;have W7:=W6.same s7;have V7:=V6.same s7;have B7:Bl CB H7 bl db tb:=s7 _ _ B6;have R7:=R6.same s7;refine⟨Y,x,C,d,Y,x7,D.aP.cl,D.C9,(by show 3<1000;decide),?_⟩;have k8:cy x H7 (aO H7 x (.ins C d (L2.dJ "knots" ↥kn [("well",↥wl),("shelf",↥sh),("blots",↥bl)]))):=aF x _ _;have x8:(aO H7 x (.ins C d (L2.dJ "knots" ↥kn [("well",↥wl),("shelf",↥sh),("blots",↥bl)]))) x=⇑(.ins C d [("well",↥wl),("shelf",↥sh),("blots",↥bl),("knots",↥kn)]):=af;generalize aO H7 x (.ins C d (L2.dJ "knots" ↥kn [("well",↥wl),("shelf",↥sh),("blots",↥bl)]))=H8 at k8 x8;have W8:=W7.j9 x7 WE k8;have V8:=V7.j9 x7 WD k8;have B8:Bl CB H8 bl db tb:=k8 _ _ B7 Py;have R8:=R7.j9 x7 k8;have q8:cy x H H8:=(q6.trans (fV.aH.keep s7)).trans k8;intro du dd TR hd2 _;refine⟨du,dd,rfl,af,λfs9 H9 _ k9=>⟨rfl,?_⟩⟩;have s9:=lM TR hd2 k9;have x9:=s9 _ _ x8;have W9:=W8.same s9;have V9:=V8.same s9;have B9:Bl CB H9 bl db tb:=s9 _ _ B8;have R9:=R8.same s9;refine⟨Y,x,C,d,Y,x9,D.aP.cl,D.JW,(by show 4<1000;decide),?_⟩;have SR:cy x H9 (aO H9 x (.ins C d (L2.dJ "dues" ↥du [("well",↥wl),("shelf",↥sh),("blots",↥bl),("knots",↥kn)]))):=aF x _ _;have Xz:(aO H9 x (.ins C d (L2.dJ "dues" ↥du [("well",↥wl),("shelf",↥sh),("blots",↥bl),("knots",↥kn)]))) x=⇑(.ins C d [("well",↥wl),("shelf",↥sh),("blots",↥bl),("knots",↥kn),("dues",↥du)]):=af;generalize aO H9 x (.ins C d (L2.dJ "dues" ↥du [("well",↥wl),("shelf",↥sh),("blots",↥bl),("knots",↥kn)]))=MR at SR Xz;have W10:=W9.j9 x9 WE SR;have V10:=V9.j9 x9 WD SR;have B10:Bl CB MR bl db tb:=SR _ _ B9 Py;have R10:=R9.j9 x9 SR;have BA:cy x H MR:=(q8.trans (fV.aH.keep s9)).trans SR;refine⟨iY,λbk Uh=>⟨Y,x,C,d,Y,ao Uh _ _ _ Xz,D.aP.cl,D.E3,(by show 5<1000;decide),?_⟩⟩;have nbx:bk≠x:=(aB Xz Uh).symm
 have nSb:¬ (bk=sh\/bk=st\/bk=op\/bk=z):=λe=>by
  let⟨ob,w⟩:=W10.al bk e;rw[Uh]at w;cases w
 have vH:=ao Uh (.lst []);have WH:cy x (aO MR bk (.lst [])) (aO (aO MR bk (.lst [])) x (.ins C d (L2.dJ "book" ↥bk [("well",↥wl),("shelf",↥sh),("blots",↥bl),("knots",↥kn),("dues",↥du)]))):=aF x _ _;have W12:=(W10.same vH).j9 (vH _ _ Xz) WE WH;have V12:=(V10.same vH).j9 (vH _ _ Xz) WD WH;have B12:=WH _ _ (vH _ _ B10) Py;have R12:=(R10.same vH).j9 (vH _ _ Xz) WH;let⟨as5,hR5,_⟩:=id R5;have aaB:∀ a,(a=sh\/a=st\/a=op\/a=z)->a=x\/H a=none:=λa e=>.inr (jd q2 (λe'=>by rw[e']at e;exact WE e) (fS a e));refine k (λa=>(a=sh\/a=st\/a=op\/a=z)\/(a=wl\/a=sg\/a=ow\/a=pw)\/a=bk\/a=x\/a=bl\/a=tb) _ ⟨Q,d,wl,sh,bl,kn,du,bk,dS,st,op,dw,sg,ow,pw,db,tb,[],⟨af,W12,?_,WE,nSb⟩,V12,B12,R12,?_,?_,?_,?_,λa=>Iff.rfl⟩ ?_ ((BA.trans (fV.aH.keep vH)).trans WH)
 ·rw[aK nbx];exact af
 ·exact⟨.nil,λ_ z=>by cases z⟩
 ·intro a ea;let⟨ob,hob⟩:=V2.al a ea;refine⟨λes=>?_,λeb=>?_,λex=>?_⟩
  ·rw[fS a es]at hob;cases hob
  ·let⟨ob',w⟩:=V10.al a ea;rw[eb,Uh]at w;cases w
  ·rw[ex]at ea;exact WD ea
 ·refine⟨λes=>?_,λew=>?_,λeb=>?_⟩
  ·let⟨ob,w⟩:=W4.al bl es;rw[ED]at w;cases w
  ·let⟨ob,w⟩:=V4.al bl ew;rw[ED]at w;cases w
  ·rw[eb]at B10;have aaC:MR bk=⇑_:=B10;rw[Uh]at aaC;cases aaC
 ·refine⟨λes=>?_,λew=>?_,λeb=>?_⟩
  ·let⟨ob,w⟩:=W4.al tb es;rw[WG]at w;cases w
  ·let⟨ob,w⟩:=V4.al tb ew;rw[WG]at w;cases w
  ·let⟨as,hR,_⟩:=id R10;rw[eb,Uh]at hR;cases hR
 ·intro a ea;rcases ea with ea|ea|ea|ea|ea|ea
  ·exact aaB a ea
  ·exact .inr (fW a ea)
  ·rw[ea];exact .inr (jd BA nbx Uh)
  ·exact .inl ea
  ·rw[ea];exact .inr (jd q4 Py ED)
  ·by_cases ex:a=x
   ·exact .inl ex
   ·rw[ea]at ex ⊢;exact .inr (jd q4 ex WG)
abbrev qtW:List Nat:=(Str.ofString "quote").cps.toList
class inductive MA(C CS CW CB XH:Addr)
 | mk (U:Addr->Prop) (x:Addr) (pe:iI) (aC:jb) (aJ:iz) (nW:Nat) (b9:Row) (t p s a b:Int) (rows:cK) (_:vs=[↥x,.int t,.int p,.int s,.int a,.int b]) (_:rR C CS CW CB U H x pe aC aJ nW b9) (_:pe.getLast?=⇑rows) (_:↑rows<=50) (_:↑pe<=900) (_:↑aC<=900) (_:Dd t) (_:Dd p) (_:Dd s) (_:Dd a) (_:Dd b)
  (_:rP ↑rows t) (_:rP ↑rows s) (_:(∃ sh,Seen rows sh/\YT a b ↑(sh s)/\((0<=p/\p<=↑(sh t))/\(∀ es,rows[t.toNat]?=⇑es->Chg C CS CW CB XH U H x pe aC aJ nW b9 rows t.toNat (gf sh p es (((sh s).take b.toNat).drop a.toNat)) (jE.plain qtW [t,p,s,a,b]).line Q E))))
class inductive WI(C CS:Addr)
 | mk (S:Addr->Prop) (x d wl sh bl kn du bk dS st op:Addr) (pe:iI) (ops:List Int) (aC:jb) (rows:cK) (s:Int) (_:vs=[↥x,.int s]) (_:fJ C CS S H x d wl sh bl kn du bk dS st op (mH pe) ops aC) (_:pe.getLast?=⇑rows) (_:↑rows<=50) (_:↑pe<=900)
  (_:rP ↑rows s) (_:∀ es,rows[s.toNat]?=⇑es->∀ (q:Addr) (H':Hp),bQ H' ↥q (aI es)->aH H H'->H q=none->Q ↥q H')
theorem kQ:aG ["self","target","place","source","start","stop","row","items"] ["self","target","place","source","start","stop"] (az lW):=fC
def wY(D:Ds K mg aY bq C CS CW CB CT CD aA):aX P w K mg zt (EC P w) 6 (aY 62) (bq 62) ["self","target","place","source","start","stop"] (MA C CS CW CB aA):=by
 refine Xq D.ZF.F kQ λcH A zn s0 H vs Q E hr h=>?_;let⟨U,x,pe,aC,aJ,nW,b9,t,p,s,a,b,rows,rfl,LB,hl,l1,l2,l3,ft,fp,fs,fa,fb,it,ia,k4⟩:=h;let⟨S,SW,d,wl,sh,bl,kn,du,bk,dS,st,op,dw,sg,ow,pw,db,tb,ops,LU⟩:=id LB;exists _,(aj (aV (cJ (cU (pv 0) rfl) D.cF D.IF (cZ D) hr bS (aa (pv 1) ah))) (aj (bx (i:=6) kQ.nd (aM D.dq8 (RY D) hr (aa (cJ (pv 0) D.aP D.LZ (gp D) hr bS (aa (pv 3) ah)) (aa (pv 4) (aa (pv 5) ah))))) (aj (bx (i:=7) kQ.nd (aM D.RQ (pG D) hr (aa (eL (cU (pv 0) rfl) D.cF D.FN (gh D) hr bS) (aa (pv 1) (aa (pv 2) (aa (aM D.LX (qH D) hr (aa (pv 6) ah)) ah)))))) (au (aV (cJ (pv 0) D.aP D.OQ (gJ D) hr zw (aa (cG (aa bh (aa (pv 1) (aa (pv 2) (aa (pv 3) (aa (pv 4) (aa (pv 5) ah))))))) (aa (pv 1) (aa (pv 7) ah)))))))));refine⟨Y,x,C,d,_,↥sh,rfl,LU.L.hx,D.aP.cl,D.gm,rfl,sh,dS,Y,LU.L.W.hx,rfl,Y,LU.L.chk hl it ?_⟩;exists Y,x,d,Y,LU.L.hx,rfl,Y,S,x,d,wl,sh,bl,kn,du,bk,dS,st,op,pe,ops,aC,rows,s,rfl,LU.L,hl,l1,l2,ia;let⟨f0,sn,i3,ip,k8⟩:=k4;refine⟨f0,sn,λo H1 ho s1 fo=>?_⟩;have ls:↑(f0 s)<=10000:=sn.ln s ia.1 ia.2;have lr0:=rG (f0 s);have tt:lu (cR (f0 s))=↑(f0 s):=wX _;refine⟨Y,Y,o,cR (f0 s),a,b,rfl,ho,E,by rw[tt];exact i3,λq0 H2 Vj s2 fq0=>?_⟩;have qg:=s1.trans s2;have EE:=LU.same qg;refine⟨Y,x,C,d,_,↥sh,rfl,EE.L.hx,D.aP.cl,D.gm,rfl,sh,dS,Y,EE.L.W.hx,rfl,EE.L.rws hl l1 l2 λq H3 fs3 s3=>?_⟩;have xF:=qg.trans s3;have tl:t.toNat<↑rows:=by have:=it.1;have:=it.2;lia
 obtain⟨es,es1⟩:∃ es,rows[t.toNat]?=⇑es:=⟨_,nM tl⟩;have nnp:∀ {r:Row},jr r->mT r:=λh p hp=>⟨(h p hp).1,by have:=(h p hp).2;lia⟩;have nn0:mT (cR (f0 s)):=nnp (BV (F3 sn.sd sn.rk sn.ss s ia.1 ia.2));have nn1:mT (cB (rO a b 0 (cR (f0 s)))):=nnp (oh (Io a b _ 0 nn0))
 have lpl:↑(cB (rO a b 0 (cR (f0 s))))<=10000:=by
  have:=wL a b (cR (f0 s));rw[DH]at this;lia
 have epl:eN (fH (cB (cB (rO a b 0 (cR (f0 s))))))=((f0 s).take b.toNat).drop a.toNat:=by
  rw[qJ,j0 _ λq hq=>(nn1 q hq).2,tT _ _ _ (nZ _),eS]
 refine⟨Y,Y,Y,q0,Y,Vj.same s3,E,λoi H4 hoi s4 foi=>?_⟩;have Ks:=xF.trans s4;refine⟨q,oi,rows,t,p,_,f0,rfl,⟨fs3.same s4,E,sn.es,sn.sd,sn.rk,sn.ss,sn.ln⟩,it.1,it.2,hoi,vf (oh nn1),?_,ip,λBj q2 H5 uu dH s5 Xy=>?_⟩
 ·rw[DH];have:=lJ (cB (rO a b 0 (cR (f0 s))));lia
 rw[es1]at uu;cases uu;rw[epl]at dH;have B:=k8 es es1;have Hg:=Ks.trans s5;have LU5:=LU.same Hg;exact⟨Y,x,d,Y,LU5.L.hx,rfl,Y,Y,Y,Y,Y,Y6,λt' ht=>⟨Y,Y,LU.chg (Hg.trans (ao ht _)) af (qC _).symm (by show mX Wn qtW=some 5;decide +kernel) (Ug it.1 ft.big (Ug ip.1 fp.big (Ug ia.1 fs.big (Ug i3.1 fa.big (Ug (by have:=i3.1;have:=i3.2.1;lia) fb.big fnN))))) (dH.same (ao ht _)) (bw Ks Xy) hl l1 l2 l3 it B⟩⟩
theorem AX:aG ["self","sheet"] ["self","sheet"] (az oX):=fC
theorem Ae:‹(4,63,["self","sheet"],(WI C CS))›:=λD=>by
 refine fX D.ZG.F AX λcH A zn s0 H vs Q E hr h=>?_;let⟨S,x,d,wl,sh,bl,kn,du,bk,dS,st,op,pe,ops,aC,rows,s,rfl,L,hl,l1,l2,ia,k2⟩:=h;have lo:=pH L hl;have hl':=gW hl;have lp:↑(mH pe)=↑pe:=bW _;exists _,(au (aL (cJ (cU (pv 0) rfl) D.cF D.Zs (DO D) hr bS (aa (pv 1) ah))));refine⟨Y,x,C,d,_,↥sh,rfl,L.hx,D.aP.cl,D.gm,rfl,sh,dS,Y,L.W.hx,rfl,Y,S,sh,dS,st,op,mH pe,ops,s,rfl,L.W,by rw[lo];exact ia,λsi last aQ e1 e2 e3=>?_⟩;rw[hl']at e2;cases e2;rw[kU]at e3;let⟨es,e4,rfl⟩:=Option.map_eq_some_iff.mp e3;have il:=(List.getElem?_eq_some_iff.mp e4).1;exact λq H' hq s1 fq=>k2 es (by rw[e1,sO];exact e4) q H' hq s1 fq
abbrev wnW:List Nat:=(Str.ofString "window").cps.toList
class inductive Pz(C CS CW CB XH:Addr)
 | mk (U:Addr->Prop) (x:Addr) (pe:iI) (aC:jb) (aJ:iz) (nW:Nat) (b9:Row) (t p s:Int) (rows:cK) (_:vs=[↥x,.int t,.int p,.int s]) (_:rR C CS CW CB U H x pe aC aJ nW b9) (_:pe.getLast?=⇑rows) (_:↑rows<=50) (_:↑pe<=900) (_:↑aC<=900) (_:Dd t) (_:Dd p) (_:Dd s)
  (_:rP ↑rows t) (_:rP ↑rows s) (_:(∃ sh,Seen rows sh/\(0<=p/\p<=↑(sh t))/\(∀ es,rows[t.toNat]?=⇑es->Chg C CS CW CB XH U H x pe aC aJ nW b9 rows t.toNat (gf sh p es [-1-s]) (jE.plain wnW [t,p,s]).line Q E)))
theorem oz:aG ["self","target","place","source","items"] ["self","target","place","source"] (az kD):=fC
def vt(D:Ds K mg aY bq C CS CW CB CT CD aA):aX P w K mg zt (EC P w) 6 (aY 64) (bq 64) ["self","target","place","source"] (Pz C CS CW CB aA):=by
 refine Xq D.ZH.F oz λcH A zn s0 H vs Q E hr h=>?_;let⟨U,x,pe,aC,aJ,nW,b9,t,p,s,rows,rfl,LB,hl,l1,l2,l3,ft,fp,fs,it,ia,k4⟩:=h;let⟨S,SW,d,wl,sh,bl,kn,du,bk,dS,st,op,dw,sg,ow,pw,db,tb,ops,LU⟩:=id LB;exists _,(aj (aV (cJ (cU (pv 0) rfl) D.cF D.IF (cZ D) hr bS (aa (pv 1) ah))) (aj (aV (cJ (cU (pv 0) rfl) D.cF D.IF (cZ D) hr bS (aa (pv 3) ah))) (aj (bx (i:=4) oz.nd (aM D.RQ (pG D) hr (aa (eL (cU (pv 0) rfl) D.cF D.FN (gh D) hr bS) (aa (pv 1) (aa (pv 2) (aa (bO (aa (cG (aa bh (aa (pv 3) ah))) ah)) ah)))))) (au (aV (cJ (pv 0) D.aP D.OQ (gJ D) hr zw (aa (cG (aa bh (aa (pv 1) (aa (pv 2) (aa (pv 3) ah))))) (aa (pv 1) (aa (pv 4) ah)))))))));refine⟨Y,x,C,d,_,↥sh,rfl,LU.L.hx,D.aP.cl,D.gm,rfl,sh,dS,Y,LU.L.W.hx,rfl,Y,LU.L.chk hl it ?_⟩;refine⟨Y,x,C,d,_,↥sh,rfl,LU.L.hx,D.aP.cl,D.gm,rfl,sh,dS,Y,LU.L.W.hx,rfl,Y,LU.L.chk hl ia ?_⟩;let⟨f0,sn,ip,k8⟩:=k4;refine⟨Y,x,C,d,_,↥sh,rfl,LU.L.hx,D.aP.cl,D.gm,rfl,sh,dS,Y,LU.L.W.hx,rfl,LU.L.rws hl l1 l2 λq H1 fs1 s1=>?_⟩;have tl:t.toNat<↑rows:=by have:=it.1;have:=it.2;lia
 obtain⟨es,es1⟩:∃ es,rows[t.toNat]?=⇑es:=⟨_,nM tl⟩;refine⟨Y,Y,Y,jL,λt2 MU=>⟨kG,λo ho=>?_⟩⟩;have s2:=ao MU (.tup [.str "win",.int s]);have t2':(aO H1 t2 (.tup [.str "win",.int s])) t2=⇑(.tup [.str "win",.int s]):=af;generalize aO H1 t2 (.tup [.str "win",.int s])=H2 at s2 t2' ho;have s3:=ao ho (.lst [↥t2]);have o3:(aO H2 o (.lst [↥t2])) o=⇑(.lst [↥t2]):=af;show xK _ (aO H2 o (.lst [↥t2])) _ _;generalize aO H2 o (.lst [↥t2])=H3 at s3 o3;have xF:=s1.trans (s2.trans s3);have hoi:bQ H3 ↥o [.win s]:=⟨o,Y,o3,.cons ⟨t2,rfl,s3 _ _ t2'⟩ .nil⟩;refine⟨q,o,rows,t,p,[.win s],f0,rfl,⟨fs1.same (s2.trans s3),E,sn.es,sn.sd,sn.rk,sn.ss,sn.ln⟩,it.1,it.2,hoi,.one ia.1,(by show 1<=10000;decide),ip,λBj q2 H5 uu dH s5 Xy=>?_⟩;rw[es1]at uu;cases uu;rw[show eN [aR.win s]=[-1-s] from rfl]at dH;have B:=k8 es es1;have Hg:=xF.trans s5;have LU5:=LU.same Hg;exact⟨Y,x,d,Y,LU5.L.hx,rfl,Y,Y,Y,FH,λt' ht=>⟨Y,Y,LU.chg (Hg.trans (ao ht _)) af (qC _).symm (by show mX Wn wnW=some 3;decide +kernel) (Ug it.1 ft.big (Ug ip.1 fp.big (Ug ia.1 fs.big fnN))) (dH.same (ao ht _)) (bw xF Xy) hl l1 l2 l3 it B⟩⟩
class inductive MB(C CS:Addr)
 | mk (S:Addr->Prop) (x d wl sh bl kn du bk dS st op:Addr) (pe:iI) (ops:List Int) (aC:jb) (rows:cK) (si:Nat) (f:Int->Int) (_:vs=[↥x,.int (si:Nat)]) (_:fJ C CS S H x d wl sh bl kn du bk dS st op (mH pe) ops aC) (_:pe.getLast?=⇑rows) (_:↑rows<=50) (_:↑pe<=900) (_:si<↑rows) (_:xO rows f) (_:∀ H',aH H H'->Q (.int (f (si:Nat))) H')
theorem wZ:aG ["self","sheet"] ["self","sheet"] (az kE):=fC
theorem vv:‹(5,65,["self","sheet"],(MB C CS))›:=λD=>by
 specialize fX D.ZI.F wZ;let⟨S,x,d,wl,sh,bl,kn,du,bk,dS,st,op,pe,ops,aC,rows,si,f,rfl,L,hl,l1,l2,sl,B,k⟩:=h;have lo:=pH L hl;have lp:↑(mH pe)=↑pe:=bW _;have hl':=gW hl;exists _,(aj (aV (cJ (cU (pv 0) rfl) D.cF D.IF (cZ D) hr bS (aa (pv 1) ah))) (au (aL (eY.uV D.VL (D.T.ya _ D.VL.m) (Mg D) hr (aa (eL (cU (pv 0) rfl) D.cF D.FN (gh D) hr bS) (aa (pv 1) ah))))));exists Y,x,C,d,_,↥sh,rfl,L.hx,D.aP.cl,D.gm,rfl,sh,dS,Y,L.W.hx,rfl,Y,S,sh,dS,st,op,mH pe,ops,(si:Int),rfl,L.W,⟨E,E⟩;refine⟨Y,x,C,d,_,↥sh,rfl,L.hx,D.aP.cl,D.gm,rfl,sh,dS,Y,L.W.hx,rfl,S,sh,dS,st,op,mH pe,ops,rfl,L.W,⟨E,E⟩,λrws el q H1 fs1 s1=>?_⟩;rw[hl']at el;cases el;exact⟨Y,q,rows,(si:Int),f,rfl,fs1.at_,E,B.es,B.sd,B.rk,E,E,B.wt,λH2 s2=>k H2 (s1.trans s2)⟩
abbrev stW:List Nat:=(Str.ofString "strike").cps.toList
def IZ(X:List (List aR))(r:List (Nat × List aR))(c:Nat × List aR):lE X (r++[c])=Ws (lE X r) c:=by
 unfold lE;rw[List.foldl_append];rfl
def mZ(g:Nat->List aR)(n:Nat):List (Nat × List aR):=(List.range n).map λi=>(i,g i)
def Af{g:Nat->List aR}{n:Nat}:mZ g (n+1)=mZ g n++[(n,g n)]:=by
 unfold mZ;rw[List.range_succ,gC];rfl
theorem Ag{X:List (List aR)}{g:Nat->List aR}:∀ n:Nat,n<=↑X->lE X (mZ g n)=(List.range n).map g++X.drop n
 | 0,_=>rfl
 | n+1,h=>by
  rw[Af,IZ,Ag n ∅];have l:↑((List.range n).map g)=n:=by rw[bW,List.length_range]
  have e:X.drop n=X[n]::X.drop (n+1):=List.drop_eq_getElem_cons ∅;unfold Ws;rw[List.take_append_of_le_length ∅,yM ∅,List.drop_append,l,List.drop_of_length_le ∅,show n+1-n=1 by lia,e,List.drop_succ_cons,List.drop_zero,List.range_succ,gC,List.nil_append];rfl
class inductive Gn(C CS CW CB:Addr)
 | mk (U:Addr->Prop) (x r:Addr) (pe:iI) (aC:jb) (aJ:iz) (nW:Nat) (b9 row:Row) (rows:cK) (sh:Int->List Int) (_:vs=[↥x,↥r]) (_:rR C CS CW CB U H x pe aC aJ nW b9) (_:b5 H r row) (_:↑row<3) (_:Mq row) (_:pe.getLast?=⇑rows) (_:↑rows<=50) (_:↑pe<=900) (_:↑aC<=900) (_:qN ↑aJ row=true) (_:Seen rows sh) (_:∀ (U':Addr->Prop) (H':Hp),rR C CS CW CB U' H' x (pe++[rows.map (ju row)]) (aC++[(jE.pO stW [] row).line]) aJ nW b9->MY U U' H H'->Q .gj H')
theorem oA:aG ["self","row","rows"] ["self","row"] (az iP):=fC
theorem vA:‹(5,66,["self","row"],(Gn C CS CW CB))›:=λD=>by
 refine fX D.ZJ.F oA λcH A zn s0 H vs Q E hr h=>?_;let⟨U,x,r,pe,aC,aJ,nW,b9,row,rows,f0,rfl,LB,i9,r3,fr,hl,l1,l2,l3,g,sn,k⟩:=h;let⟨S,SW,d,wl,sh,bl,kn,du,bk,dS,st,op,dw,sg,ow,pw,db,tb,ops,LU⟩:=id LB;have lo:=pH LU.L hl;have hl':=gW hl;have lp:↑(mH pe)=↑pe:=bW _;refine⟨_,(aj (aV (cJ (pv 0) D.aP D.VT (jI D) hr bS (aa (pv 1) ah))) (aj (bx (i:=2) oA.nd (eL (cU (pv 0) rfl) D.cF D.FN (gh D) hr bS)) (au (aV (cJ (pv 0) D.aP D.RU (jN D) hr bS (aa (cG (aa bh (aa (pv 1) ah))) (aa (fR (N:=["sheet","row","rows"]) (jG (sc:=az iP) (NX:=["self","row","rows"]) (jx:=[none,some 1,some 2]) rfl rfl rfl nofun nofun rfl nofun rfl nofun) rfl (jJ rfl D.T.jQ (aa (eE D.T.d8 (pv 2)) ah)) (λ_ _ _ _ _ _=>(bY (i:=0) (show List.Nodup (["sheet","row","rows"]:List Str) by decide +kernel))) (λ_ _ _ _ _ _=>fQ) (λ_ _ _ _ _ _=>(cG (aa (pv 0) (aa (aM D.Zm (yc D) hr (aa (pv 2) (aa (pv 0) (aa (pv 1) ah)))) ah))))) ah))))))),?_⟩;refine⟨Y,x,d,Y,LU.L.hx,rfl,Y,U,x,r,pe,aC,aJ,nW,b9,row,rfl,LB,i9,by have:=fr.1;lia,g,λH1 s1=>?_⟩;have LU1:=LU.same s1;refine⟨Y,x,C,d,_,↥sh,rfl,LU1.L.hx,D.aP.cl,D.gm,rfl,sh,dS,Y,LU1.L.W.hx,rfl,S,sh,dS,st,op,mH pe,ops,rfl,LU1.L.W,⟨E,E⟩,λrws el q H2 fs2 s2=>?_⟩;rw[hl']at el;cases el;have R2:=fs2.at_;let⟨fq,rs,hq,al⟩:=fs2;have lrs:↑rs=↑rows:=by rw[al.len,bW]
 have qg:=s1.trans s2;have EE:=LU.same qg;refine⟨Y,x,d,Y,EE.L.hx,rfl,Y,jL,λt ht=>?_⟩;have s3:=ao ht (.tup [.str "strike",↥r]);have Xw:(aO H2 t (.tup [.str "strike",↥r])) t=⇑(.tup [.str "strike",↥r]):=af;generalize aO H2 t (.tup [.str "strike",↥r])=H3 at s3 Xw ⊢;have xF:=qg.trans s3;have vI:=s3 _ _ hq;have TV:=(LU.same xF).L.hb;have hp:=Cu g;obtain⟨gg,hgg⟩:∃ gg:Nat->List aR,gg=λi=>aI (ju row ((rows[i]?).getD [])):=⟨Y⟩
 have kI:∀ {H4 H5:Hp} {acc:Addr} {xs:List V} {v:V} {aQ:List aR},H4 acc=⇑(.lst xs)->cy acc H4 H5->v≠.ref acc->bQ H4 v aQ->bQ H5 v aQ:=λha kk n h=>by
  let⟨b,IJ,rfl,hb,al⟩:=h;exact⟨b,IJ,rfl,kk _ _ hb (λz=>n (by rw[z])),al.mono λv j h=>h.keep ha kk⟩
 refine⟨Y,q,Y,.inl (bG.of vI),Y,E,(by rw[bW];lia),λacc cu=>mS (lo:=0) (k:=((↑(rs.map V.ref):Nat):Int).toNat) (λi σ H4=>∃ (u:Option V) (cs:List Addr),σ=[u,⇑↥r,⇑↥q]/\H4 acc=⇑(.lst (cs.map V.ref))/\bV (λa ch=>∃ r',H4 a=⇑(.tup [.int (ch.1:Nat),↥r'])/\r'≠bk/\r'≠acc/\bQ H4 ↥r' ch.2) cs (mZ gg i)/\aH H3 H4) ⟨none,[],rfl,af,.nil,ao cu _⟩ ?_ ?_⟩
 ·rintro i σ H4 hi ⟨u,cs,rfl,h4,a4,s4⟩;rw[sO,bW,lrs]at hi;have lc:=a4.len;unfold mZ at lc;rw[bW,List.length_range]at lc;obtain⟨es,uu⟩:∃ es,rows[i]?=⇑es:=⟨_,nM hi⟩;have s34:=s3.trans s4;rw[Int.zero_add];refine Rj (jg ⟨Y,Y,Y,Y,q,r,rows,(i:Nat),f0,row,rfl,⟨R2.same s34,E,sn.es,sn.sd,sn.rk,sn.ss,sn.ln⟩,E,E,(i9.same xF).same s4,by have:=fr.1;lia,(λp h=>by have:=hp p h;lia),λes2 o H5 PB ho s5 fo=>?_⟩);rw[sO,uu]at PB;cases PB;have h5:=s5 _ _ h4;refine⟨jL,λtt htt=>?_⟩;have s6:=ao htt (.tup [.int (i:Nat),↥o]);have h6:=s6 _ _ h5;refine⟨_,h6,(by rw[bW];exact aS ∅),_,cs++[tt],rfl,?_,?_,bJ cu (s4.trans (s5.trans s6)) (aF acc _ _)⟩
  ·rw[af,gC];rfl
  have K7:=aF acc (aO H5 tt (.tup [.int (i:Nat),↥o])) (.lst (cs.map V.ref++[↥tt]));have noa:o≠acc:=(aB h4 fo).symm;rw[Af];refine bV.snoc (a4.mono λa ch ⟨r',e1,e2,e3,e4⟩=>⟨r',K7 _ _ (s6 _ _ (s5 _ _ e1)) (dB (s6 _ _ (s5 _ _ e1)) h6 (by intro z;cases z)),e2,e3,kI h6 K7 (λz=>e3 (V.ref.inj z)) ((e4.same s5).same s6)⟩) ⟨o,K7 _ _ af (aB h5 htt).symm,?_,noa,?_⟩
  ·exact (aB (s4 _ _ TV) fo).symm
  ·have eg:gg i=aI (ju row es):=by rw[hgg];show aI (ju row ((rows[i]?).getD []))=_;rw[uu];rfl
   show bQ _ ↥o (gg i);rw[eg];exact kI h6 K7 (λz=>noa (V.ref.inj z)) (ho.same s6)
 ·rintro σ H4 ⟨u,cs,rfl,h4,a4,s4⟩;rw[sO,bW,lrs]at a4;have Ks:=xF.trans s4;have LU4:=LU.same Ks;have lX:↑(rows.map aI)=↑rows:=bW _
  have eA:lE (rows.map aI) (mZ gg ↑rows)=(rows.map (ju row)).map aI:=by
   rw[Ag _ ∅,List.drop_of_length_le ∅,iS,List.map_map];refine List.ext_getElem? λj=>?_;rw[kU,kU];by_cases c:j<↑rows
   ·rw[List.getElem?_range c,hgg];show some (aI (ju row ((rows[j]?).getD [])))=_;rw[nM c];rfl
   ·rw[List.getElem?_eq_none (by rw[List.length_range];lia),List.getElem?_eq_none ∅];rfl
  have lA:↑(mZ gg ↑rows)=↑rows:=by unfold mZ;rw[bW,List.length_range]
  have nac:acc≠bk:=(aB TV cu).symm;refine⟨S,x,d,wl,sh,bl,kn,du,bk,dS,st,op,mH pe,ops,aC,t,acc,.pO stW [] row,cs,mZ gg ↑rows,rows.map aI,rfl,LU4.L,⟨r,by rw[s4 _ _ Xw,qC];rfl,i9.same Ks⟩,⟨(by show mX Xv stW=some 0;decide +kernel),(λ_ z=>by cases z),fr⟩,h4,nac,a4.mono λa ch ⟨r',e1,Q,e4⟩=>⟨r',e1,e4⟩,?_,hl',?_,E,E,E,E,λS' H5 L5 UK=>?_⟩
  ·intro a ha s r2 e;let⟨j,hj⟩:=List.mem_iff_getElem?.mp ha;let⟨ch,_,r',e1,e2,_⟩:=a4.get hj;rw[e1]at e;cases e;exact e2
  ·intro j ch ej;have jl:=(List.getElem?_eq_some_iff.mp ej).1;rw[lA]at jl
   have et:(mZ gg ↑rows).take j=mZ gg j:=by
    unfold mZ;rw[← List.map_take,List.take_range,Nat.min_eq_left ∅]
   have ec:ch.1=j:=by
    unfold mZ at ej;rw[kU,List.getElem?_range jl]at ej;cases ej;rfl
   rw[et,Ag _ ∅,ec,dM,bW,List.length_range];lia
  ·rw[eA]at L5
   have ep:mH pe++[(rows.map (ju row)).map aI]=mH (pe++[rows.map (ju row)]):=by
    show _=(pe++[rows.map (ju row)]).map _;rw[gC];rfl
   have eo:ops++List.replicate (↑((rows.map (ju row)).map aI)-↑(rows.map aI)) ((↑(mH pe):Nat):Int)=ops:=by
    rw[bW,bW,bW,Nat.sub_self];exact iS _
   rw[ep,eo]at L5;let⟨U',hL',f'⟩:=LU4.vq L5 UK;exact k U' H5 hL' (f'.pre Ks)
class inductive Gp
 | mk (r:Addr) (x:Int) (_:vs=[↥r,.int x]) (_:H r=⇑(.lst [])) (_:Q (.int 0) H)
def WJ{vs:List V}{H:Hp}{Q:VK}{E:XK}(h:Gp vs H Q E):Kc vs H Q E:=by
 let⟨r,x,rfl,h1,k⟩:=h;refine⟨r,[],x,rfl,⟨[],h1,.nil⟩,⟨.nil,λ_ z=>by cases z⟩,λn fn=>?_⟩;have:n=0:=Nat.le_zero.mp fn.1;subst this;exact k
class inductive MC
 | mk (r:Addr) (x:Int) (_:vs=[↥r,.int x]) (_:H r=⇑(.lst [])) (_:Q (.bl false) H)
theorem Gq:aG ["holes","address","hole"] ["holes","address"] (az C6):=fC
theorem MD:‹(2,67,["holes","address"],MC)›:=λD=>by
 have yk:aX P w K mg zt cO 1 (aY 12) (bq 12) ["holes","start"] Gp:=(mW D).imp λ_ _ _ _=>WJ;specialize fX D.ZK.F Gq;let⟨r,x,rfl,h1,k⟩:=h;exists _,(aj (bx (i:=2) Gq.nd (aM D.VG yk hr (aa (pv 0) (aa (pv 1) ah)))) (au (aL (sR (iO lO (pv 2) (eE D.T.d8 (pv 0)) (bu _)) (vO (iO ji (aN aT (aN bz (pv 0) (pv 2)) ay) (pv 1) (bu _)))))));exact⟨Y,Y,r,x,rfl,h1,Y,Y,r,Y,.inl (bG.of h1),Z,Y,cM (λc=>absurd c (by decide)) (λ_=>k)⟩
class inductive PD(CB:Addr)
 | mk (x d t:Addr) (a:Int) (_:vs=[↥x,.int a]) (_:Bl CB H x d t) (_:H t=⇑(.lst [])) (_:Q (.bl false) H)
theorem AY:aG ["self","address"] ["self","address"] (az oY):=fC
theorem Ah:‹(3,68,["self","address"],(PD CB))›:=λD=>by
 specialize fX D.ZL.F AY;let⟨x,d,t,a,rfl,hx,h1,k⟩:=h;exists _,(au (aL (aM D.ZK (MD D) hr (aa (cU (pv 0) rfl) (aa (pv 1) ah)))));exact⟨Y,x,CB,d,_,↥t,rfl,hx,D.tZ.cl,D.uL,rfl,Y,t,a,rfl,h1,k⟩
class inductive ME(C:Addr)
 | mk (S:Addr->Prop) (x d s o p:Addr) (n:Nat) (aJ:iz) (a:Int) (_:vs=[↥x,.int a]) (_:We C S H x d s o p n aJ) (_:0<=a) (_:a<(↑aJ:Nat)) (_:Q .gj H)
class inductive PF(C:Addr)
 | mk (S:Addr->Prop) (x d s o p:Addr) (n:Nat) (aJ:iz) (j:Nat) (q:Int × Nat) (_:vs=[↥x,.int (j:Nat)]) (_:We C S H x d s o p n aJ) (_:aJ[j]?=⇑q) (_:Q (AB q.2) H)
theorem qR:aG ["self","address"] ["self","address"] (az iF):=fC
theorem Gr:aG ["self","address"] ["self","address"] (az tK):=fC
theorem qb:‹(2,69,["self","address"],(ME CW))›:=λD=>by
 specialize fX D.ZM.F qR;let⟨S,x,d,s,o,p,n,aJ,a,rfl,W,a0,a1,k⟩:=h;exists _,(au (bN (gO (uz ji lO ay (pv 1) (eL (pv 0) D.iM D.LY (jv D) hr bS))) (au jT) aW));refine⟨Y,Z,Y,cM (λc0=>?_) (λc0=>absurd (decide_eq_true a0) c0)⟩;exists Y,x,d,Y,W.hx,rfl,x,d,s,o,p,aJ,rfl,W.hx,W.hs,Z,Y;rw[decide_eq_true a1];exact dF k
theorem DW:‹(3,70,["self","address"],(PF CW))›:=λD=>by
 specialize fX D.ZN.F Gr;let⟨S,x,d,s,o,p,n,aJ,j,q,rfl,W,eq,k⟩:=h;have jl:=(List.getElem?_eq_some_iff.mp eq).1;exists _,(aj (aV (cJ (pv 0) D.iM D.ZM (qb D) hr bS (aa (pv 1) ah))) (au (aL (aN bz (cU (pv 0) rfl) (pv 1)))));exists Y,x,d,Y,W.hx,rfl,Y,S,x,d,s,o,p,n,aJ,(j:Nat),rfl,W,E,E;exact⟨Y,x,CW,d,_,↥s,rfl,W.hx,D.iM.cl,D.tQ,rfl,Y,s,K,V,bG.of W.hs,(cQ (by unfold Pn;rw[kU,eq];rfl):_=⇑(AB q.2)),k⟩
def DX(aJ:iz)(a:Int):Nat:=((aJ[a.toNat]?).map Prod.snd).getD 0
class inductive PK(C CS CW CB:Addr)
 | mk (U:Addr->Prop) (x r:Addr) (pe:iI) (aC:jb) (aJ:iz) (nW:Nat) (row:Row) (v:V) (_:vs=[↥x,↥r,v]) (_:rR C CS CW CB U H x pe aC aJ nW []) (_:b5 H r row) (_:(∀ p∈row,p.1<=p.2)) (_:↑(bI row)<=100000) (_:(∀ a∈bI row,0<=a/\a<(↑aJ:Nat))) (_:∀ H',aH H H'->Q (.str (dP ((bI row).map (DX aJ)))) H')
class inductive PL(C CS CW CB:Addr)
 | mk (U:Addr->Prop) (x:Addr) (pe:iI) (aC:jb) (aJ:iz) (nW:Nat) (rows:cK) (s:Int) (sh:Int->List Int) (_:vs=[↥x,.int s]) (_:rR C CS CW CB U H x pe aC aJ nW []) (_:pe.getLast?=⇑rows) (_:↑pe<=900) (_:↑rows<=50) (_:rP ↑rows s) (_:Seen rows sh) (_:↑(sh s)<=200) (_:∀ a∈sh s,0<=a/\a<(↑aJ:Nat)) (_:∀ H',aH H H'->Q (.str (dP ((sh s).map (DX aJ)))) H')
theorem w9:aG ["self","row","veil"] ["self","row","veil"] (az iQ):=fC
theorem Ai:aG ["self","sheet"] ["self","sheet"] (az nB):=fC
theorem vB:‹(4,71,["self","row","veil"],(PK C CS CW CB))›:=λD=>by
 refine fX D.ZO.F w9 λcH A zn s0 H vs Q E hr h=>?_;let⟨U,x,r,pe,aC,aJ,nW,row,v,rfl,LB,i9,ok,ls,ia,k⟩:=h;let⟨S,SW,d,wl,sh,bl,kn,du,bk,dS,st,op,dw,sg,ow,pw,db,tb,ops,LU⟩:=id LB;refine⟨_,(au (aL (dm PySem.F.plainAttrs_str PySem.F.slot_str_join PySem.F.type_str_join FD bh (aa (fR (N:=["address","self","veil"]) (jG (sc:=az iQ) (NX:=["self","row","veil"]) (jx:=[none,some 0,some 2]) rfl rfl rfl nofun nofun rfl nofun rfl nofun) rfl (ck (aM D.Zd (Dy D) hr (aa (pv 1) ah))) (λ_ _ _ _ _ _=>(bY (i:=0) (show List.Nodup (["address","self","veil"]:List Str) by decide +kernel))) (λ_ _ _ _ _ _=>fQ) (λ_ _ _ _ _ _=>(ER (gM (cJ (Kd (pv 1) rfl) D.tZ D.ZL (Ah D) hr bS (aa (pv 0) ah))) (pv 2) (cJ (Kd (pv 1) rfl) D.iM D.ZN (DW D) hr bS (aa (pv 0) ah))))) ah)))),?_⟩;refine⟨rfl,Y,r,row,rfl,i9,ok,E,λn H1 hn s1 fn=>?_⟩;refine⟨n,rfl,⟨_,bG.of hn⟩,λacc cu=>fk (K:=K) (a:=n) (xs:=(bI row).map V.int) (λi σ H2=>∃ u:Option V,σ=[u,⇑↥x,⇑v]/\H2 acc=⇑(.lst ((((bI row).take i).map (DX aJ)).map AB))/\aH H1 H2) ⟨none,rfl,af,ao cu _⟩ (by rintro i σ H2 _ ⟨_,_,_,s2⟩;exact bG.of (s2 _ _ hn)) ?_ ?_⟩
 ·rintro i y σ H2 hi ⟨u,rfl,h2,s2⟩;rw[kU]at hi;let⟨a,ei,rfl⟩:=Option.map_eq_some_iff.mp hi;have il:=(List.getElem?_eq_some_iff.mp ei).1;let⟨a0,a1⟩:=ia a (m6 ei);have EE:=LU.same (s1.trans s2);obtain⟨q,eq⟩:∃ q,aJ[a.toNat]?=⇑q:=⟨_,nM ∅⟩;let⟨ts,ht,pt⟩:=id EE.R;cases pt;have ea:DX aJ a=q.2:=by unfold DX;rw[eq];rfl
  exists Y,x,C,d,_,↥bl,rfl,EE.L.hx,D.aP.cl,D.zd,rfl,bl,db,Y,EE.B,rfl,Y,bl,db,tb,a,rfl,EE.B,ht;refine⟨Y,dF ⟨Y,x,C,d,_,↥wl,rfl,EE.L.hx,D.aP.cl,D.xA,rfl,wl,dw,Y,EE.W.hx,rfl,Y,SW,wl,dw,sg,ow,pw,nW,aJ,a.toNat,q,by rw[show ((a.toNat:Nat):Int)=a by lia];rfl,EE.W,eq,?_⟩⟩;refine⟨_,h2,aS (by rw[bW,bW,gx];lia),Y,?_,bJ cu s2 (aF acc _ _)⟩;rw[af,take_snoc ei,gC,gC,← ea];rfl
 ·rintro σ H2 ⟨u,rfl,h2,s2⟩;rw[bW,gy]at h2;exact⟨acc,Y,rfl,h2,by rw[bW];lia,k H2 (s1.trans s2)⟩
theorem yl:‹(6,72,["self","sheet"],(PL C CS CW CB))›:=λD=>by
 let⟨SS,SV⟩:=D.G.h;refine fX D.ZP.F Ai λcH A zn s0 H vs Q E hr h=>?_;let⟨U,x,pe,aC,aJ,nW,rows,s,f0,rfl,LB,hl,l2,l1,ia,sn,ls,hin,k⟩:=h;let⟨S,SW,d,wl,sh,bl,kn,du,bk,dS,st,op,dw,sg,ow,pw,db,tb,ops,LU⟩:=id LB;exists _,(au (aL (cJ (pv 0) D.aP D.ZO (vB D) hr bS (aa (cJ (pv 0) D.aP D.LZ (gp D) hr bS (aa (pv 1) ah)) (aa (CN (v:=.str "#") rfl SV ⟨SS,rfl⟩) ah)))));refine⟨Y,x,d,Y,LU.L.hx,rfl,Y,x,d,Y,LU.L.hx,rfl,Y,S,x,d,wl,sh,bl,kn,du,bk,dS,st,op,pe,ops,aC,rows,s,rfl,LU.L,hl,l1,l2,ia,⟨f0,sn,λo H1 ho s1 fo=>?_⟩⟩;exact⟨U,x,o,pe,aC,aJ,nW,cR (f0 s),Y,LB.same s1,ho,nZ _,by rw[eS];lia,by rw[eS];exact hin,by rw[eS];exact λH2 s2=>k H2 (s1.trans s2)⟩
class inductive MF(C CS:Addr)
 | mk (S:Addr->Prop) (x d wl sh bl kn du bk dS st op:Addr) (pe:iI) (ops:List Int) (aC:jb) (rows:cK) (s:Int) (f:Int->List Int) (_:vs=[↥x,.int s]) (_:fJ C CS S H x d wl sh bl kn du bk dS st op (mH pe) ops aC) (_:pe.getLast?=⇑rows) (_:↑rows<=50) (_:↑pe<=900) (_:rP ↑rows s) (_:Seen rows f) (_:↑(f s)<=200) (_:∀ H',aH H H'->Q (.int (↑(f s):Nat)) H')
theorem Aj:aG ["self","sheet"] ["self","sheet"] (az nC):=fC
theorem yo:‹(6,73,["self","sheet"],(MF C CS))›:=λD=>by
 specialize fX D.ZQ.F Aj;let⟨S,x,d,wl,sh,bl,kn,du,bk,dS,st,op,pe,ops,aC,rows,s,f0,rfl,L,hl,l1,l2,ia,sn,lf,k⟩:=h;exists _,(au (aL (eY.uV D.VF (D.T.nH _ D.VF.m) (Dw D) hr (aa (cJ (pv 0) D.aP D.LZ (gp D) hr bS (aa (pv 1) ah)) ah))));refine⟨Y,x,d,Y,L.hx,rfl,Y,S,x,d,wl,sh,bl,kn,du,bk,dS,st,op,pe,ops,aC,rows,s,rfl,L,hl,l1,l2,ia,⟨f0,sn,λo H1 ho s1 _=>⟨o,Y,ho,?_,λH2 s2=>?_⟩⟩⟩
 ·have:=rG (f0 s);lia
 ·rw[wX];exact k H2 (s1.trans s2)
def DY{α β:Type}{F:α->β->Prop}{xs:List α}{ys:List β}{x:α}{y:β}(h:Paired F xs ys)(e:F x y):Paired F (xs++[x]) (ys++[y]):=by
 induction h with
 | nil=>exact .cons e .nil
 | cons r _ ih=>exact .cons r ih
def AZ{α β:Type}{F:α->β->Prop}{xs xs':List α}{ys ys':List β}(h:Paired F xs ys)(t:Paired F xs' ys'):Paired F (xs++xs') (ys++ys'):=by
 induction h with
 | nil=>exact t
 | cons e _ ih=>exact .cons e ih
def Cw(H:Hp)(a:Addr)(q:Int × Nat):Prop:=H a=⇑(.tup [.int q.1,AB q.2])
inductive DZ(H:Hp)(v:Addr)(aJ:iz):Prop
 | mk (as:List Addr) (_:H v=⇑(.lst (as.map V.ref))) (_:Paired (Cw H) as aJ)
abbrev kI:eV:=.inr (Str.ofString "ink")
abbrev kR:eV:=.inr (Str.ofString "rows")
abbrev kP:eV:=.inr (Str.ofString "past")
abbrev kVl:eV:=.inr (Str.ofString "veil")
abbrev qc(ik rw ps vl:Addr):List (eV × V):=[(kI,↥ik),(kR,↥rw),(kP,↥ps),(kVl,↥vl)]
def Ui(W:Addr->Prop)(ik ps:Addr)(H:Hp)(v:V)(es:List Int):Prop:=∃ b,v=↥b/\W b/\b≠ik/\b≠ps/\H b=⇑(.lst (es.map V.int))
def MG(W:Addr->Prop)(ik ps:Addr)(H:Hp)(a:Addr)(rows:cK):Prop:=W a/\a≠ik/\a≠ps/\∃ vs,H a=⇑(.lst vs)/\bV (Ui W ik ps H) vs rows
structure I0(W:Addr->Prop)(H:Hp)(w ik rw ps vl:Addr)(aJ:iz)(pe:iI)(rows:cK):Prop where
 ww:W w
 wi:W ik
 wp:W ps
 wv:W vl
 al:∀ a,W a->∃ ob,H a=⇑ob
 hw:H w=⇑(.dK (qc ik rw ps vl))
 hi:DZ H ik aJ
 hr:MG W ik ps H rw rows
 hp:∃ vs,H ps=⇑(.lst vs)/\bV (λv rs=>∃ a,v=↥a/\MG W ik ps H a rs) vs pe
 ne:ik≠ps
 lst:pe.getLast?=⇑rows
 hv:H vl=⇑(.lst [])
 nv:vl≠ik/\vl≠ps
def Wo(W:Addr->Prop)(H:Hp)(w:Addr)(aJ:iz)(pe:iI)(rows:cK):Prop:=∃ ik rw ps vl,I0 W H w ik rw ps vl aJ pe rows
theorem Ui.fr{W W':Addr->Prop}{H H':Hp}{v:V}{es:List Int}(s:∀ a,W a->W' a)(k:∀ a xs,H a=⇑(.lst xs)->W a->a≠ik->a≠ps->H' a=⇑(.lst xs)):Ui W ik ps H v es->Ui W' ik ps H' v es:=λ⟨b,e,w,n1,n2,h⟩=>⟨b,e,s _ w,n1,n2,k _ _ h w n1 n2⟩
theorem MG.fr{W W':Addr->Prop}{H H':Hp}{a:Addr}{rows:cK}(s:∀ a,W a->W' a)(k:∀ a xs,H a=⇑(.lst xs)->W a->a≠ik->a≠ps->H' a=⇑(.lst xs)):MG W ik ps H a rows->MG W' ik ps H' a rows:=λ⟨w,n1,n2,vs,h,al⟩=>⟨s _ w,n1,n2,vs,k _ _ h w n1 n2,al.mono λ_ _=>Ui.fr s k⟩
def DZ.two{H H':Hp}{aJ:iz}(h:DZ H v aJ)(k:∀ xs,H v=⇑(.lst xs)->H' v=⇑(.lst xs))(t:∀ a xs,H a=⇑(.tup xs)->H' a=⇑(.tup xs)):DZ H' v aJ:=by
 let⟨as,hv,pa⟩:=h;exact⟨as,k _ hv,Paired.CK pa λa q e=>t _ _ e⟩
def I0.fr{W:Addr->Prop}{H H':Hp}{w rw vl:Addr}{aJ:iz}{pe:iI}{rows:cK}(h:I0 W H w ik rw ps vl aJ pe rows)(k:∀ a ob,H a=⇑ob->W a->H' a=⇑ob)(t:∀ a xs,H a=⇑(.tup xs)->H' a=⇑(.tup xs)):I0 W H' w ik rw ps vl aJ pe rows:=by
 let⟨ww,wi,wp,wv,al,hw,hi,hr,⟨vs,hp,a2⟩,ne,lst,hv,nv⟩:=h;refine⟨ww,wi,wp,wv,λa z=>?_,k _ _ hw ww,hi.two (λxs e=>k _ _ e wi) t,hr.fr (λ_ z=>z) (λa xs e z _ _=>k _ _ e z),⟨vs,k _ _ hp wp,a2.mono λv rs ⟨a,e,z⟩=>⟨a,e,z.fr (λ_ y=>y) (λa xs e y _ _=>k _ _ e y)⟩⟩,ne,lst,k _ _ hv wv,nv⟩;let⟨ob,e⟩:=al a z;exact⟨ob,k _ _ e z⟩
def Wo.fr{W:Addr->Prop}{H H':Hp}{w:Addr}{aJ:iz}{pe:iI}{rows:cK}(h:Wo W H w aJ pe rows)(k:∀ a ob,H a=⇑ob->W a->H' a=⇑ob)(t:∀ a xs,H a=⇑(.tup xs)->H' a=⇑(.tup xs)):Wo W H' w aJ pe rows:=by
 let⟨ik,rw,ps,vl,z⟩:=h;exact⟨ik,rw,ps,vl,z.fr k t⟩
theorem Wo.same{W:Addr->Prop}{H H':Hp}{w:Addr}{aJ:iz}{pe:iI}{rows:cK}(h:Wo W H w aJ pe rows)(s:aH H H'):Wo W H' w aJ pe rows:=h.fr (λa ob e _=>s a ob e) λa xs e=>s _ _ e
def Kv:Sp:=λvs H Q _=>vs=[]/\∀ (W:Addr->Prop) (w:Addr) (H':Hp),Wo W H' w [] [[]] []->(∀ a,W a->H a=none)->aH H H'->Q ↥w H'
theorem D0:aG [] [] (az mP):=fC
theorem aaD{X:Cx}{s1 s2 s3 s4:Str}{a1 a2 a3 a4:Nat}{p1 p2 p3 p4 pos:Pos}{v1 v2 v3 v4:Expr}{t1 t2 t3 t4:TE}(h1:PE X v1 t1)(h2:PE X v2 t2)(h3:PE X v3 t3)(h4:PE X v4 t4) :
  PE X (.Dict [⇑(.Constant (.str s1) a1 p1),⇑(.Constant (.str s2) a2 p2),⇑(.Constant (.str s3) a3 p3),⇑(.Constant (.str s4) a4 p4)] [v1,v2,v3,v4] pos) (Oq [(tC (.str s1),t1),(tC (.str s2),t2),(tC (.str s3),t3),(tC (.str s4),t4)]) :=
 RA (uQ bh h1 (uQ bh h2 (uQ bh h3 (uQ bh h4 Rz)))) rfl rfl (by simp) (by show 4<=15;decide)
abbrev tWo:TE:=Oq [(tC (.str "ink"),Ld yX),(tC (.str "rows"),Ld yX),(tC (.str "past"),Ld (Nn (Ld yX) yX)),(tC (.str "veil"),Ld yX)]
theorem PM:∃ (e:Expr) (p:Pos),ig mP=[.Return (⇑e) p]/\∀ X:Cx,PE X e tWo :=
 ⟨Q,rfl,λX=>@aaD X _ _ _ _ _ _ _ _ _ _ _ _ _ _ _ _ _ _ _ _ _ (bO ah) (bO ah) (bO (aa (bO ah) ah)) (bO ah)⟩
theorem D3:‹(1,74,[],Kv)›:=λD=>by
 specialize fX D.RW.F D0;let⟨rfl,k⟩:=h;let⟨e,p,he,pw⟩:=PM;rw[he];exists _,au (aL (pw _));intro w hw;refine⟨iY,λik xg=>⟨iY,λrw hrw=>⟨iY,λz hz=>⟨kG,λps Kw=>⟨iY,λvl SX=>?_⟩⟩⟩⟩⟩;have s0:=ao hw (.dK []);have w0:(aO H w (.dK [])) w=⇑(.dK []):=af;generalize aO H w (.dK [])=H0 at s0 w0 xg hrw hz Kw SX;have s1:=ao xg (.lst []);have i1:(aO H0 ik (.lst [])) ik=⇑(.lst []):=af;generalize aO H0 ik (.lst [])=H1 at s1 i1 hrw hz Kw SX;have s2:=ao hrw (.lst []);have r2:(aO H1 rw (.lst [])) rw=⇑(.lst []):=af;generalize aO H1 rw (.lst [])=H2 at s2 r2 hz Kw SX;have s3:=ao hz (.lst []);have z3:(aO H2 z (.lst [])) z=⇑(.lst []):=af;generalize aO H2 z (.lst [])=H3 at s3 z3 Kw SX;have s4:=ao Kw (.lst [↥z]);have p4:(aO H3 ps (.lst [↥z])) ps=⇑(.lst [↥z]):=af;generalize aO H3 ps (.lst [↥z])=H4 at s4 p4 SX;have s5:=ao SX (.lst []);have v5:(aO H4 vl (.lst [])) vl=⇑(.lst []):=af;generalize aO H4 vl (.lst [])=H5 at s5 v5;have Hg:aH H1 H5:=s2.trans (s3.trans (s4.trans s5));have s05:aH H0 H5:=s1.trans Hg;have w5:=s05 _ _ w0;have i5:=Hg _ _ i1;have r5:=(s3.trans (s4.trans s5)) _ _ r2;have z5:=(s4.trans s5) _ _ z3;have p5:=s5 _ _ p4;have nl:∀ {a:Addr} {xs:List V},H5 a=⇑(.lst xs)->a≠w:=λ{a xs} e q=>by rw[q,w5]at e;cases e
 have n1:rw≠ik:=(aB i1 hrw).symm;have n2:rw≠ps:=aB (s3 _ _ r2) Kw;have n3:z≠ik:=(aB (s2 _ _ i1) hz).symm;have n4:z≠ps:=aB z3 Kw;have n5:ik≠ps:=aB ((s2.trans s3) _ _ i1) Kw;refine⟨w5,qc ik rw ps vl,rfl,(by show 4<=15;decide),?_⟩;rw[show wz [] (qc ik rw ps vl)=qc ik rw ps vl by kernel_rfl];have up:∀ {a:Addr} {xs:List V},H5 a=⇑(.lst xs)->(aO H5 w (.dK (qc ik rw ps vl))) a=⇑(.lst xs):=λ{a xs} e=>by rw[aK (nl e)];exact e
 have f0:∀ a,H0 a=none->H a=none:=λa e=>bw s0 e;refine k (λa=>a=w\/a=ik\/a=rw\/a=z\/a=ps\/a=vl) w _ ⟨ik,rw,ps,vl,.inl rfl,.inr (.inl rfl),.inr (.inr (.inr (.inr (.inl rfl)))),.inr (.inr (.inr (.inr (.inr rfl)))),λa e=>?_,af,⟨[],up i5,.nil⟩,⟨.inr (.inr (.inl rfl)),n1,n2,[],up r5,.nil⟩,⟨[↥z],up p5,.cons ⟨z,rfl,.inr (.inr (.inr (.inl rfl))),n3,n4,[],up z5,.nil⟩ .nil⟩,n5,rfl,up v5,(aB ((s2.trans (s3.trans s4)) _ _ i1) SX).symm,(aB p4 SX).symm⟩ (λa e=>?_) (bJ hw (s0.trans s05) (aF w _ _))
 ·rcases e with rfl|rfl|rfl|rfl|rfl|rfl
  ·exact⟨_,af⟩
  ·exact⟨_,up i5⟩
  ·exact⟨_,up r5⟩
  ·exact⟨_,up z5⟩
  ·exact⟨_,up p5⟩
  ·exact⟨_,up v5⟩
 ·rcases e with rfl|rfl|rfl|rfl|rfl|rfl
  ·exact hw
  ·exact f0 _ xg
  ·exact f0 _ (bw s1 hrw)
  ·exact f0 _ (bw s1 (bw s2 hz))
  ·exact f0 _ (bw s1 (bw s2 (bw s3 Kw)))
  ·exact f0 _ (bw s1 (bw s2 (bw s3 (bw s4 SX))))
class inductive PN
 | mk (W:Addr->Prop) (w r:Addr) (aJ:iz) (pe:iI) (rows rows':cK) (_:vs=[↥w,↥r]) (_:Wo W H w aJ pe rows) (_:↑pe<=1000) (_:(∀ ik ps,(∃ rw vl,H w=⇑(.dK (qc ik rw ps vl)))->MG W ik ps H r rows')) (_: ∀ (H':Hp),Wo W H' w aJ (pe++[rows']) rows'->(∀ a ob,H a=⇑ob->¬ W a->H' a=⇑ob)->(∀ a xs,H a=⇑(.tup xs)->H' a=⇑(.tup xs))->(∀ ik rw ps vl,H w=⇑(.dK (qc ik rw ps vl))->∀ a xs,H a=⇑(.lst xs)->a≠ps->H' a=⇑(.lst xs))->Q .gj H')
theorem Gs:aG ["_law_world_here","_law_rows"] ["_law_world_here","_law_rows"] (az tL):=fC
theorem qS:‹(1,75,["_law_world_here","_law_rows"],PN)›:=λD=>by
 specialize fX D.L0.F Gs;let⟨W,w,r,aJ,pe,rows,rows',rfl,⟨ik,rw,ps,vl,h⟩,lp,hr',k⟩:=h;have hu:=jc hr;exists _,(aj (uP hu (pv 0) bh (pv 1) rfl) (au (aV (dm pI jA jB bT (gi hu (pv 0) bh) (aa (pv 1) ah)))));have Kh:=hr' ik ps ⟨rw,vl,h.hw⟩;refine⟨Y,Y,w,Y,Df.k (k:=kR) h.hw (by show 4<sizeLine;decide),?_⟩;rw[show ef (qc ik rw ps vl) kR ↥r=qc ik r ps vl by kernel_rfl];let⟨WK,hp,al⟩:=h.hp;have k1:=aF w H (.dK (qc ik r ps vl));have w1:(aO H w (.dK (qc ik r ps vl))) w=⇑(.dK (qc ik r ps vl)):=af;have nw:∀ {a:Addr} {o:HO},H a=⇑o->(∀ kvs,o≠.dK kvs)->a≠w:=λ{a o} e n q=>by rw[q,h.hw]at e;cases e;exact n _ rfl
 generalize aO H w (.dK (qc ik r ps vl))=H1 at k1 w1;have RH:=k1 _ _ hp (nw hp (λ_ z=>by cases z));have z:=gT.k (k:=kP) w1;rw[show cz (qc ik r ps vl) kP=⇑↥ps by kernel_rfl]at z;have lpv:WK.length=↑pe:=al.len;refine⟨Y,w,Y,z,.inl ⟨rfl,_,bG.of RH⟩,Y,ps,Z,RH,aS ∅,?_⟩;have nps:w≠ps:=(nw hp (λ_ z=>by cases z)).symm
 have ls:∀ a xs,H a=⇑(.lst xs)->a≠ps->(aO H1 ps (.lst (WK++[↥r]))) a=⇑(.lst xs):=λa xs e n=>by
  rw[aK n];exact k1 _ _ e (nw e (λ_ z=>by cases z))
 have tp:∀ a xs,H a=⇑(.tup xs)->(aO H1 ps (.lst (WK++[↥r]))) a=⇑(.tup xs):=λa xs e=>by
  rw[aK (dB e hp)];exact k1 _ _ e (nw e (λ_ z=>by cases z))
 have rwf:∀ {a:Addr} {rs:cK},MG W ik ps H a rs->MG W ik ps (aO H1 ps (.lst (WK++[↥r]))) a rs:=λ{a rs} q=>q.fr (λ_ y=>y) λa xs e _ _ n=>ls a xs e n;have L6:=rwf Kh
 refine k _ ⟨ik,r,ps,vl,h.ww,h.wi,h.wp,h.wv,λa wa=>?_,?_,h.hi.two (λxs e=>ls _ _ e h.ne) tp,L6,⟨_,af,(al.mono λv rs ⟨a,e,q⟩=>⟨a,e,rwf q⟩).app (.cons ⟨r,rfl,L6⟩ .nil)⟩,h.ne,m7,ls _ _ h.hv h.nv.2,h.nv⟩ (λa ob e n=>?_) tp λik' rw2 uZ vl' ee a xs e n=>ls a xs e (by
  rw[h.hw]at ee;simp only[Option.some.injEq,HO.dK.injEq,qc,List.cons.injEq,Prod.mk.injEq,V.ref.injEq,true_and,and_true]at ee;rw[ee.2.2.1]
  exact n)
 ·by_cases e1:a=ps
  ·rw[e1];exact⟨_,af⟩
  rw[aK e1];by_cases e2:a=w
  ·rw[e2];exact⟨_,w1⟩
  ·let⟨ob,e⟩:=h.al a wa;exact⟨ob,k1 _ _ e e2⟩
 ·rw[aK nps];exact w1
 ·rw[aK (λq=>n (by rw[q];exact h.wp))];exact k1 _ _ e (λq=>n (by rw[q];exact h.ww))
def rR.al{U:Addr->Prop}{H:Hp}{x:Addr}{pe:iI}{aC:jb}{aJ:iz}{nW:Nat}{b9:Row}(h:rR C CS CW CB U H x pe aC aJ nW b9){a:Addr}(z:U a):∃ ob,H a=⇑ob:=by
 let⟨S,SW,d,wl,sh,bl,kn,du,bk,dS,st,op,dw,sg,ow,pw,db,tb,ops,L,W,B,R,FT,dj,db',dt,u⟩:=h;let⟨as,hR,_⟩:=R;rcases (u a).mp z with y|y|y|y|y|y
 ·exact L.W.al a y
 ·exact W.al a y
 ·rw[y];exact⟨_,L.hb⟩
 ·rw[y];exact⟨_,L.hx⟩
 ·rw[y];exact⟨_,B⟩
 ·rw[y];exact⟨_,hR⟩
def Wo.al{W:Addr->Prop}{H:Hp}{w:Addr}{aJ:iz}{pe:iI}{rows:cK}(h:Wo W H w aJ pe rows){a:Addr}(z:W a):∃ ob,H a=⇑ob:=by
 let⟨ik,rw,ps,vl,y⟩:=h;exact y.al a z
structure vK(C CS CW CB:Addr)(H:Hp)(l c w x:Addr)(U W:Addr->Prop)(pe:iI)(rows:cK)(pq:iI)(rq:cK)(aC:jb)(aJ:iz)(nW:Nat)(b9:Row):Prop where
 src:iL H l c
 MH:rR C CS CW CB U H x pe aC aJ nW b9
 lst:pe.getLast?=⇑rows
 wo:Wo W H w aJ pq rq
 du:∀ a,U a->¬ W a/\a≠l/\a≠c
 dw:∀ a,W a->a≠l/\a≠c
def FrS(l:Addr)(U W U' W':Addr->Prop)(H H':Hp):Prop:=(∀ a,U' a\/W' a->U a\/W a\/H a=none)/\(∀ a ob,H a=⇑ob->a≠l->¬ U a->¬ W a->H' a=⇑ob)/\∀ a xs,H a=⇑(.tup xs)->H' a=⇑(.tup xs)
def vK.mv{H H':Hp}{l c w x:Addr}{U W:Addr->Prop}{pe:iI}{rows:cK}{pq:iI}{rq:cK}{aC:jb}{aJ:iz}{nW:Nat}{b9:Row}(h:vK C CS CW CB H l c w x U W pe rows pq rq aC aJ nW b9)(k:cy l H H')(s:iL H' l c):vK C CS CW CB H' l c w x U W pe rows pq rq aC aJ nW b9:=by
 let⟨ls,hl⟩:=h.src.lst;have t:∀ a xs,H a=⇑(.tup xs)->H' a=⇑(.tup xs):=λa xs e=>k _ _ e (dB e hl);exact⟨s,h.MH.fr (λa ob e z=>k _ _ e (h.du a z).2.1) t,h.lst,h.wo.fr (λa ob e z=>k _ _ e (h.dw a z).1) t,h.du,h.dw⟩
theorem vK.same{H H':Hp}{l c w x:Addr}{U W:Addr->Prop}{pe:iI}{rows:cK}{pq:iI}{rq:cK}{aC:jb}{aJ:iz}{nW:Nat}{b9:Row}(h:vK C CS CW CB H l c w x U W pe rows pq rq aC aJ nW b9)(s:aH H H'):vK C CS CW CB H' l c w x U W pe rows pq rq aC aJ nW b9:=h.mv (λa o e _=>s a o e) (h.src.same s)
def vK.PR{W W':Addr->Prop}{H:Hp}{w rw vl:Addr}{aJ:iz}{pe:iI}{rows:cK}(h:I0 W H w ik rw ps vl aJ pe rows)(s:∀ a,W a->W' a)(al:∀ a,W' a->∃ ob,H a=⇑ob):I0 W' H w ik rw ps vl aJ pe rows:=by
 let⟨ww,wi,wp,wv,_,hw,hi,hr,⟨vs,hp,a2⟩,ne,lst,hv,nv⟩:=h;exact⟨s _ ww,s _ wi,s _ wp,s _ wv,al,hw,hi,hr.fr s (λa xs e _ _ _=>e),⟨vs,hp,a2.mono λv rs ⟨a,e,z⟩=>⟨a,e,z.fr s (λa xs e _ _ _=>e)⟩⟩,ne,lst,hv,nv⟩
def iL.fru{U U':Addr->Prop}{H H':Hp}{l c:Addr}(S:iL H l c)(fr:MY U U' H H')(nl:¬ U l)(nc:¬ U c):iL H' l c:=by
 let⟨n,ns,i,d,r,e1,e2,h3⟩:=S;exact⟨n,ns,i,d,r,fr.2.1 _ _ e1 nl,fr.2.1 _ _ e2 nc,h3⟩
def vK.WL{H H':Hp}{l c w x:Addr}{U U' W:Addr->Prop}{pe Xx:iI}{rows rows':cK}{pq:iI}{rq:cK}{aC iG:jb}{aJ:iz}{nW nW':Nat}{b9 Uj:Row}(St:vK C CS CW CB H l c w x U W pe rows pq rq aC aJ nW b9)(L':rR C CS CW CB U' H' x Xx iG aJ nW' Uj)(hl:Xx.getLast?=⇑rows')(fr:MY U U' H H'):vK C CS CW CB H' l c w x U' W Xx rows' pq rq iG aJ nW' Uj/\FrS l U W U' W H H':=by
 refine⟨⟨St.src.fru fr (λz=>(St.du l z).2.1 rfl) (λz=>(St.du c z).2.2 rfl),L',hl,St.wo.fr (λa ob e z=>fr.2.1 _ _ e (λy=>(St.du a y).1 z)) fr.2.2,λa z=>?_,St.dw⟩,λa z=>z.elim (λz=>(fr.1 a z).elim .inl λy=>.inr (.inr y)) (λz=>.inr (.inl z)),λa ob e _ u _=>fr.2.1 a ob e u,fr.2.2⟩;rcases fr.1 a z with y|y
 ·exact St.du a y
 ·have n:=St.src.ne y;refine⟨λz=>?_,n.1.symm,n.2.symm⟩;let⟨ob,e⟩:=St.wo.al z;rw[y]at e;cases e
def vK.kept{H H':Hp}{l c w x:Addr}{U W W':Addr->Prop}{pe:iI}{rows:cK}{pq pq':iI}{rq rq':cK}{aC:jb}{aJ:iz}{nW:Nat}{b9:Row}(St:vK C CS CW CB H l c w x U W pe rows pq rq aC aJ nW b9)(wo:Wo W' H' w aJ pq' rq')(dU:∀ a,U a->¬ W' a)(dW:∀ a,W' a->a≠l/\a≠c)(fr:∀ a ob,H a=⇑ob->¬ W' a->H' a=⇑ob)(tp:∀ a xs,H a=⇑(.tup xs)->H' a=⇑(.tup xs)):vK C CS CW CB H' l c w x U W' pe rows pq' rq' aC aJ nW b9:=by
 refine⟨?_,St.MH.fr (λa ob e z=>fr _ _ e (dU a z)) tp,St.lst,wo,λa z=>⟨dU a z,(St.du a z).2⟩,dW⟩;let⟨n,ns,i,d,r,e1,e2,h3⟩:=St.src;exact⟨n,ns,i,d,r,fr _ _ e1 (λz=>(dW l z).1 rfl),fr _ _ e2 (λz=>(dW c z).2 rfl),h3⟩
def vK.new{H:Hp}{l c w x a:Addr}{U W:Addr->Prop}{pe:iI}{rows:cK}{pq:iI}{rq:cK}{aC:jb}{aJ:iz}{nW:Nat}{b9:Row}(St:vK C CS CW CB H l c w x U W pe rows pq rq aC aJ nW b9)(h:H a=none):¬ U a/\¬ W a/\a≠l/\a≠c:=by
 have n:=St.src.ne h;refine⟨λz=>?_,λz=>?_,n.1.symm,n.2.symm⟩
 ·let⟨ob,e⟩:=St.MH.al z;rw[h]at e;cases e
 ·let⟨ob,e⟩:=St.wo.al z;rw[h]at e;cases e
def own(rows:cK)(x:Int):List Int:=(rows[x.toNat]?).getD []
def PU{rows:cK}{s:Nat}(es:List Int)(h:s<↑rows):ja rows s es=rows.set s es:=by
 unfold ja;rw[List.set_eq_take_append_cons_drop,if_pos h,m8];rfl
theorem Ak{k:Nat}:∀ {row:Row},(∀ p∈row,p.2<=p.1+(k:Nat))->↑(bI row)<=k*↑row
 | [],_=>Nat.zero_le _
 | p::r,h=>by
  have ih:=Ak (row:=r) λq hq=>h q (nO _ hq);have hp:=h p (uv ..);have e:bI (p::r)=fE p++bI r:=by unfold bI;rw[mF]
  rw[e,dM,jS,Nat.mul_add,Nat.mul_one];have:↑(fE p)<=k:=by unfold fE;rw[gA];lia
  lia
def Gu{n:Nat}{row:Row}(h:∀ p∈row,0<=p.1/\p.1<p.2/\p.2<=(n:Nat)){e:Int}(he:e∈bI row):0<=e/\e<(n:Nat):=by
 unfold bI at he;let⟨p,hp,hm⟩:=List.mem_flatMap.mp he;have b:=h p hp;have m:=yI.mp hm;lia
class inductive PV
 | mk (r e:Addr) (s:Nat) (xs:List V) (_:vs=[↥r,.int (s:Nat),↥e]) (_:H r=⇑(.lst xs)) (_:s<↑xs) (_:↑xs<=1000) (_:∀ (q:Addr) (H':Hp),H' q=⇑(.lst (xs.set s ↥e))->aH H H'->H q=none->Q ↥q H')
theorem xP:aG ["_law_rows","_law_sheet","_law_entries","_law_found"] ["_law_rows","_law_sheet","_law_entries"] (az tM):=fC
def SY{n:Nat}{i:Nat}(h1:i<n):JN n ((i:Nat):Int)=⇑i:=by
 unfold JN;rw[if_pos ∅,sO,if_pos ∅]
theorem xQ:‹(1,76,["_law_rows","_law_sheet","_law_entries"],PV)›:=λD=>by
 refine fX D.VU.F xP λcH A zn s0 H vs Q E hr h=>?_;let⟨r,e,s,xs,rfl,i9,hs,lx,k⟩:=h;exists _,(aj (bx (i:=3) xP.nd (d7 fP rfl D.T.iZ sN (aa (pv 0) ah))) (aj (lN (pv 2) (nh (pv 3) (pv 1) iK)) (au (aL (pv 3)))));refine⟨Y,r,Y,.inl (bG.of i9),λq hq=>?_⟩;refine⟨Y,Y,Y,q,Q,s,V,af,SY hs,Y,k q _ af (bJ hq (ao hq _) (aF q _ _)) hq⟩
def Wo.swap{W:Addr->Prop}{H:Hp}{w rw vl q e:Addr}{aJ:iz}{pq:iI}{rq:cK}{xs:List V}{s:Nat}{es:List Int}(wu:I0 W H w ik rw ps vl aJ pq rq)(hx:H rw=⇑(.lst xs))(hq:H q=⇑(.lst (xs.set s ↥e)))(he:H e=⇑(.lst (es.map V.int)))(nq:¬ W q)(ne:¬ W e):I0 (λa=>W a\/a=e\/a=q) H w ik rw ps vl aJ pq rq/\MG (λa=>W a\/a=e\/a=q) ik ps H q (rq.set s es):=by
 have Uk:I0 (λa=>W a\/a=e\/a=q) H w ik rw ps vl aJ pq rq:=vK.PR wu (λa z=>.inl z) (by
  rintro a (z|z|z)
  ·exact wu.al a z
  ·rw[z];exact⟨_,he⟩
  ·rw[z];exact⟨_,hq⟩)
 let⟨_,_,_,vs,hvs,al⟩:=id Uk.hr;rw[hx]at hvs;cases hvs;have ne':∀ {a b:Addr},W a->¬ W b->b≠a:=λwa nb z=>nb (by rw[z];exact wa);exists Uk,.inr (.inr rfl),ne' wu.wi nq,ne' wu.wp nq,_,hq
 have key:∀ {vs:List V} {rs:cK} (s:Nat),bV (Ui (λa=>W a\/a=e\/a=q) ik ps H) vs rs->bV (Ui (λa=>W a\/a=e\/a=q) ik ps H) (vs.set s ↥e) (rs.set s es):=by
  intro vs rs s z
  induction z generalizing s with
  | nil=>exact .nil
  | cons o t ih =>
   cases s with
   | zero=>exact .cons ⟨e,rfl,.inr (.inl rfl),ne' wu.wi ne,ne' wu.wp ne,he⟩ t
   | succ n=>exact .cons o (ih n)
 exact key s al
theorem lF:aG ["_law_row","_law_numbers","_law_start","_law_stop"] ["_law_row"] (az qw):=fC
theorem D4:‹(1,77,["_law_row"],(Q8 1000000))›:=λD=>by
 specialize fX D.ZR.F lF;let⟨r,row,rfl,⟨as,i9,hp⟩,hbd,cX,hrl,k⟩:=h;exists _,(aj (bx (i:=1) lF.nd (bO ah)) (aj (d9 PassesOwn.never rfl (ck (pv 0)) (oG (n:=2) rfl (cj (bY (i:=2) lF.nd) (cj (bY (i:=3) lF.nd) ie))) (au (aV (dm pI PySem.F.slot_list_extend PySem.F.type_list_extend lI (pv 1) (aa (d7 (su rfl) rfl D.T.iZ sN (aa (d7 E5 rfl D.T.jQ PyProof.Rows.boot_range (aa (pv 2) (aa (pv 3) ah))) ah)) ah))))) (au (aL (pv 1)))));refine⟨iY,λq hq=>?_⟩;have s0:aH H (aO H q (.lst [])):=ao hq _;refine⟨Y,r,rfl,⟨_,bG.of (s0 _ _ i9)⟩,cV (K:=K) (a:=r) (xs:=as.map V.ref) (λi σ H2=>∃ (u v:Option V),σ=[⇑↥r,⇑↥q,u,v]/\H2 q=⇑(.lst ((bI (row.take i)).map V.int))/\aH H H2) ⟨none,none,rfl,af,s0⟩ (by rintro i σ H2 _ ⟨_,_,_,_,s⟩;exact bG.of (s _ _ i9)) ?_ ?_⟩
 ·rintro i x σ H2 hi ⟨u,v,rfl,dH,s⟩;rw[kU]at hi;let⟨a,ea,rfl⟩:=Option.map_eq_some_iff.mp hi;let⟨⟨st,en⟩,ep,ha⟩:=hp.get ea;let⟨b1,b2,b3⟩:=hbd _ (m6 ep);simp only at b1 b2 b3;have step:=zl ep
  have lz:↑(bI (row.take i))+(en-st).toNat<=1000000:=by
   have z:=sF row (i+1);rw[step,dM,fE,gA]at z;exact jf z cX
  exists a,Y,dN.of (s _ _ ha),rfl,Q,rfl,Z;refine⟨Y,.inl ⟨rfl,_,bG.of dH⟩,Y,Y,Q,rfl,λp hp=>⟨p,Q,rfl,af,⟨E,E,E,E⟩,iC (aS ∅),λm hm=>?_⟩⟩;have s1:aH H2 (aO H2 p (.Ez st en)):=ao hp _;have s2:=s1.trans (ao hm (.lst (BF st (en-st).toNat)));exists q,m,Z,s2 _ _ dH,af,?_
  ·rw[bW,zk,bW,gA];exact iC (aS ∅)
  ·refine⟨Q,rfl,?_,bJ hq (s.trans s2) (aF q _ _)⟩;rw[af,step,gC,zk];rfl
 ·rintro σ H2 ⟨u,v,rfl,dH,s⟩;refine⟨Y,k q H2 ?_ s hq⟩;rw[bW,hp.len,gy]at dH;exact dH
class inductive D5(d:Nat)
 | mk (av:Addr->Prop) (r:Addr) (rows:cK) (x:Int) (sh:Int->List Int) (rk:Int->Nat) (_:vs=[↥r,.int x]) (_:iX av H r rows) (_:↑rows<=1000) (_:gw rows) (_:0<=x) (_:x<↑rows) (_:qF rows sh) (_:(∀ x:Int,0<=x->x<↑rows->↑(sh x)<=10000)) (_:(∀ x y,kg rows x y->rk y<rk x)) (_:rk x<d) (_ :
 ∀ (o:Addr) (H':Hp),H' o=⇑(.lst ((sh x).map V.int))->aH H H'->H o=none->Q ↥o H')
theorem qT:aG ["_law_rows","_law_sheet","_law_numbers","_law_entry"] ["_law_rows","_law_sheet"] (az tN):=fC
def A0(D:Ds K mg aY bq C CS CW CB CT CD aA){n:Nat}(Ja:aX P w K mg zt cO (n+1) (aY 78) (bq 78) ["_law_rows","_law_sheet"] (D5 n)):aX P w K mg zt cO (n+2) (aY 78) (bq 78) ["_law_rows","_law_sheet"] (D5 (n+1)):=by
 specialize fX D.FO.F qT;let⟨av,r,rows,x,sh,rk,rfl,R,cX,vJ,x0,x1,EZ,hbd,yL,hd,k⟩:=h;obtain⟨es,gc⟩:∃ es,rows[x.toNat]?=⇑es:=⟨_,nM ∅⟩;let⟨AD,b,Dt,DA,hb0,hrl⟩:=R.get gc
 have yb:qm AD x=⇑↥b:=by
  have z:=cQ DA;rw[show ((x.toNat:Nat):Int)=x by lia]at z;exact z
 have shx:=EZ x es x0 gc
 have part:∀ i,↑(bK sh (es.take i))<=10000:=λi=>by
  have z:=hbd x x0 x1
  have e:bK sh es=bK sh (es.take i)++bK sh (es.drop i):=by
   unfold bK;rw[← List.flatMap_append,List.take_append_drop]
  rw[shx,e,dM]at z;lia
 exists _,(aj (bx (i:=2) qT.nd (bO ah)) (aj (d9 PassesOwn.never rfl (ck (aN bz (pv 0) (pv 1))) (bY (i:=3) qT.nd) (au (bN (aU lO (pv 3) ay (bu _)) (au (aV (dm pI PySem.F.slot_list_extend PySem.F.type_list_extend lI (pv 2) (aa (aM D.FO Ja hr (aa (pv 0) (aa (bP dY (fG dc ay) (pv 3)) ah))) ah)))) (au (aV (dm pI jA jB bT (pv 2) (aa (pv 3) ah))))))) (au (aL (pv 2)))));refine⟨iY,λq hq=>?_⟩;have s0:aH H (aO H q (.lst [])):=ao hq _;refine⟨Y,Y,r,K,V,bG.of (s0 _ _ Dt),yb,b,rfl,⟨_,bG.of (s0 _ _ hb0)⟩,cV (K:=K) (a:=b) (xs:=es.map V.int) (λi σ H2=>∃ u:Option V,σ=[⇑↥r,⇑(.int x),⇑↥q,u]/\H2 q=⇑(.lst ((bK sh (es.take i)).map V.int))/\aH H H2) ⟨none,rfl,af,s0⟩ (by rintro i σ H2 _ ⟨_,_,_,s2⟩;exact bG.of (s2 _ _ hb0)) ?_ ?_⟩
 ·rintro i e σ H2 hi ⟨u,rfl,h2,s2⟩;rw[kU]at hi;let⟨e,ex,rfl⟩:=Option.map_eq_some_iff.mp hi
  have st:bK sh (es.take (i+1))=bK sh (es.take i)++cN sh e:=by
   rw[take_snoc ex];unfold bK;rw[List.flatMap_append];simp
  have pl:=part (i+1);rw[st,dM]at pl;refine⟨Y,Z,Y,cM (λc=>?_) (λc=>?_)⟩
  ·have c':e<0:=of_decide_eq_true c;have ee:cN sh e=sh (-1-e):=by unfold cN;rw[if_pos c']
   rw[ee]at st pl;have G9:kg rows x (-1-e):=⟨x0,es,gc,bM.mpr ⟨E,by rw[show -1-(-1-e)=e by lia];exact m6 ex⟩⟩;let⟨y0,y1⟩:=vJ.J8 G9;have rky:=yL _ _ G9;refine⟨Y,.inl ⟨rfl,_,bG.of h2⟩,Y,Y,Y,Z,av,r,rows,-1-e,sh,rk,rfl,R.same s2,cX,vJ,y0,y1,EZ,hbd,yL,E,λo H3 h3 s3 ho=>?_⟩;refine⟨q,o,Z,s3 _ _ h2,h3,iC (aS (by rw[bW,bW];lia)),?_⟩;refine⟨Y,?_,bJ hq (s2.trans s3) (aF q _ _)⟩;rw[af,st,gC]
  ·have c':¬ e<0:=λz=>c (decide_eq_true z);have ee:cN sh e=[e]:=by unfold cN;rw[if_neg c']
   rw[ee]at st pl;refine⟨Y,.inl ⟨rfl,_,bG.of h2⟩,Y,q,Z,h2,(by rw[bW];exact aS ∅),?_⟩;refine⟨Y,?_,bJ hq s2 (aF q _ _)⟩;rw[af,st,gC];rfl
 ·rintro σ H2 ⟨u,rfl,h2,s2⟩;rw[bW,gy,← shx]at h2;exact⟨Y,k q H2 h2 s2 hq⟩
theorem gX(D:Ds K mg aY bq C CS CW CB CT CD aA):∀ n:Nat,aX P w K mg zt cO (n+1) (aY 78) (bq 78) ["_law_rows","_law_sheet"] (D5 n)
 | 0=>by
  have no:∀ vs H Q E,¬ D5 0 vs H Q E:=λvs H Q E h=>by
   let⟨_,_,_,_,_,_,_,_,_,_,_,_,_,_,_,h,_⟩:=h;exact Nat.not_lt_zero _ h
  exact⟨λvs H Q E h=>absurd h (no vs H Q E),λA zn s H args us vs Q E _ _ _ _ h=>absurd h (no vs H Q E)⟩
 | n+1=>A0 D (gX D n)
def MZ(rows:cK):Nat->Int->List Int
 | 0,_=>[]
 | k+1,x=>match rows[x.toNat]? with
  | some es=>bK (MZ rows k) es
  | none=>[]
def Gv{f g:Int->List Int}{es:List Int}(h:∀ y∈dz es,f y=g y):bK f es=bK g es:=by
 unfold bK;rw[List.flatMap_def,List.flatMap_def];congr 1;refine List.map_congr_left λe he=>?_;unfold cN;by_cases c:e<0
 ·rw[if_pos c,if_pos c,h (-1-e) (bM.mpr ⟨E,by rw[show -1-(-1-e)=e by lia];exact he⟩)]
 ·rw[if_neg c,if_neg c]
def Gw{rows:cK}(h:xY rows):∃ sh,qF rows sh:=by
 let⟨rk,hb,hd⟩:=h
 have key:∀ (k:Nat) (x:Int),0<=x->rk x<k->MZ rows k x=MZ rows (k+1) x:=by
  intro k
  induction k with
  | zero=>intro x _ h;lia
  | succ k ih =>
   intro x x0 hx
   cases e:rows[x.toNat]? with
   | none=>simp[MZ,e]
   | some es =>
    have e1:MZ rows (k+1) x=bK (MZ rows k) es:=by simp[MZ,e]
    have e2:MZ rows (k+1+1) x=bK (MZ rows (k+1)) es:=by
     show (match rows[x.toNat]? with|some es=>bK (MZ rows (k+1)) es|none=>[])=_;rw[e]
    rw[e1,e2];refine Gv λy hy=>ih y (bM.mp hy).1 ?_;have:=hd x y ⟨x0,es,e,hy⟩;lia
 refine⟨MZ rows 41,λx es x0 he=>?_⟩;rw[key 41 x x0 (by have:=hb x;lia)];show (match rows[x.toNat]? with|some es=>bK (MZ rows 41) es|none=>[])=_;rw[he]
def Al(n:Nat)(L:List Int):Nat:=cnt n λi=>decide ((i:Int)∉L)
def MJ{n:Nat}{L:List Int}{y:Int}(h0:0<=y)(h1:y<n)(hn:y∉L):Al n (L++[y])+1=Al n L:=by
 refine uT y.toNat n ∅ ?_ λi=>?_
 ·show decide (((y.toNat:Nat):Int)∉L)=true;rw[show ((y.toNat:Nat):Int)=y by lia];exact decide_eq_true hn
 ·show decide ((i:Int)∉L++[y])=(decide ((i:Int)∉L)&&decide (i≠y.toNat));rw[← Bool.decide_and];congr 1;rw[List.mem_append,List.mem_singleton];apply propext;constructor
  ·intro h;exact⟨λq=>h (.inl q),λq=>h (.inr ∅)⟩
  ·rintro⟨a,b⟩ (q|q)
   ·exact a q
   ·exact b ∅
def D6(a b:List Int):dz (a++b)=dz a++dz b:=by unfold dz;rw[List.filterMap_append]
structure Dfs(rows:cK)(H:Hp)(Rr Wt:Addr)(s:Int)(aaG:Int->Prop)(H2:Hp)(L ws:List Int):Prop where
 hR:H2 Rr=⇑(.lst (L.map V.int))
 hW:H2 Wt=⇑(.lst (ws.map V.int))
 sm:aH H H2
 rc:∀ x∈L,Reach (kg rows) s x
 wr:∀ x∈ws,(x=s\/x∈L)/\0<=x/\x<↑rows
 kl:↑L+Al ↑rows L<=↑rows
 cl:∀ x,(x=s\/x∈L)->x∈ws\/aaG x\/∀ y,kg rows x y->y∈L
class inductive Cz
 | mk (av:Addr->Prop) (r:Addr) (rows:cK) (s:Int) (_:vs=[↥r,.int s]) (_:iX av H r rows) (_:↑rows<=1000) (_:(∀ es∈rows,↑es<=100000)) (_:gw rows) (_:0<=s) (_:s<↑rows) (_ :
 ∀ (L:List Int) (o:Addr) (H':Hp),H' o=⇑(.lst (L.map V.int))->aH H H'->(∀ x,x∈L↔Reach (kg rows) s x)->Q ↥o H')
theorem gY:aG ["_law_rows","_law_sheet","_law_reached_here","_law_waiting","_law_here","_law_entry"] ["_law_rows","_law_sheet"] (az nE):=fC
def muR(n:Nat)(L ws:List Int):Nat:=2*Al n L+↑ws
def Ul(rows:cK)(H:Hp)(r Rr Wt:Addr)(s:Int)(m:Nat)(σ:L2.St)(H2:Hp):Prop:=∃ (L ws:List Int) (u v:Option V),σ=[⇑↥r,⇑(.int s),⇑↥Rr,⇑↥Wt,u,v]/\Dfs rows H Rr Wt s (λ_=>False) H2 L ws/\↑ws+2*Al ↑rows L<=2*↑rows+1/\m=muR ↑rows L ws
theorem qU:‹(1,79,["_law_rows","_law_sheet"],Cz)›:=λD=>by
 refine fX D.VW.F gY λcH A zn s0 H vs Q E hr h=>?_;let⟨av,r,rows,s,rfl,hRw,cX,hes,vJ,h0,h1,k⟩:=h;have hu:=jc hr;exists _,(aj (bx (i:=2) gY.nd (bO ah)) (aj (bx (i:=3) gY.nd (bO (aa (pv 1) ah))) (aj (qj PassesOwn.never (aU uy (eE D.T.d8 (pv 3)) ay (bu _)) (aj (bx (i:=4) gY.nd (Nz pI PySem.F.slot_list_pop PySem.F.type_list_pop NF (pv 3))) (au (d9 PassesOwn.never rfl (ck (aN bz (pv 0) (pv 4))) (bY (i:=5) gY.nd) (au (bN (PW.pt (oF (aU lO (pv 5) ay (bu _)) (mK (aU uG (bP dY (fG dc ay) (pv 5)) (pv 2) rfl)))) (aj (aV (dm pI jA jB bT (pv 2) (aa (bP dY (fG dc ay) (pv 5)) ah))) (au (aV (dm pI jA jB bT (pv 3) (aa (bP dY (fG dc ay) (pv 5)) ah))))) aW)))))) (au (aL (pv 2))))));refine⟨iY,λRr hRr=>?_⟩;refine⟨Y,kG,λWt hWt=>?_⟩;have s1:aH H (aO H Rr (.lst [])):=ao hRr _;have s2:=s1.trans (ao hWt (.lst [.int s]))
 have R4:H Wt=none:=by
  cases e:H Wt with
  | none=>rfl
  | some o=>exact absurd ((s1 _ _ e).symm.trans hWt) (by simp)
 have nRW:Rr≠Wt:=aB af hWt;exists Ul rows H r Rr Wt s,⟨_,[],[s],none,none,rfl,⟨ao hWt _ _ _ af,af,s2,?_,?_,?_,?_⟩,?_,rfl⟩
 ·intro x hx;cases hx
 ·intro x hx;have:x=s:=by simpa using hx
  exact⟨.inl this,E,E⟩
 ·have:=zF ↑rows (λi=>decide ((i:Int)∉([]:List Int)));show 0+cnt ↑rows _<=_;lia
 ·rintro x (rfl|hx)
  ·exact .inl (by simp)
  ·cases hx
 ·have:=zF ↑rows (λi=>decide ((i:Int)∉([]:List Int)));show 1+2*cnt ↑rows _<=_;lia
 rintro m σ H2 ⟨L,ws,u,v,rfl,B,hml,rfl⟩;exists Y,Wt,Y,.inl (bG.of B.hW),Z,Y;rcases mE ws with rfl|⟨XA,h,rfl⟩
 ·refine dF ⟨Y,k L Rr H2 B.hR B.sm λx=>⟨λhx=>B.rc x hx,λhx=>?_⟩⟩
  have zt:∀ x,(x=s\/x∈L)->∀ y,kg rows x y->y∈L:=λx hx=>by
   rcases B.cl x hx with z|z|z
   ·cases z
   ·exact z.elim
   ·exact z
  exact Reach.closed (S:=λy=>y∈L) (zt s (.inl rfl)) (λx y hx=>zt x (.inr hx) y) hx
 rw[ki]at B hml ⊢;refine cM (λ_=>?_) (λz=>absurd (decide_eq_true (by simp)) z);let⟨hR2,Z9,sm2,rc2,wr2,kl2,cl2⟩:=id B;let⟨hh,e0,e1⟩:=wr2 h (by simp);obtain⟨es,gc⟩:∃ es,rows[h.toNat]?=⇑es:=⟨_,nM ∅⟩;have Wa:=hes es (m6 gc);refine⟨fun σ' H'=>∃ m',m'<muR ↑rows L (XA++[h])/\Ul rows H r Rr Wt s m' σ' H',fun σ' H' z=>z,?_⟩;refine⟨Y,.inl ⟨rfl,_,bG.of Z9⟩,Wt,_,.int h,V,Z9,(by simp),?_⟩;have ee:((XA++[h]).map V.int).dropLast=XA.map V.int:=by simp
 rw[ee];have OW:aH H (aO H2 Wt (.lst (XA.map V.int))):=bJ R4 sm2 (aF Wt _ _);let⟨AD,b,Dt,DA,hb0,hrl⟩:=hRw.get gc;have TV:=OW _ _ hb0;refine⟨Y,Y,r,K,V,bG.of (OW _ _ Dt),?_,b,rfl,⟨_,bG.of TV⟩,cV (K:=K) (a:=b) (xs:=es.map V.int) (λi σ H5=>∃ (L2 S0:List Int) (v:Option V),σ=[⇑↥r,⇑(.int s),⇑↥Rr,⇑↥Wt,⇑(.int h),v]/\ Dfs rows H Rr Wt s (λx=>x=h) H5 L2 S0/\(∀ y∈dz (es.take i),y∈L2)/\(∀ y∈L,y∈L2)/\S0.length+2*Al ↑rows L2<=XA.length+2*Al ↑rows L) ?_ ?_ ?_ ?_⟩
 ·have z:=cQ DA;rw[show ((h.toNat:Nat):Int)=h by lia]at z;exact z
 ·refine⟨L,XA,Y,⟨(by rw[aK nRW];exact hR2),af,OW,rc2,λx hx=>wr2 x (pV _ hx),kl2,λx hx=>?_⟩,(λy hy=>by simp[dz]at hy),λ_ q=>q,fK _⟩;rcases cl2 x hx with z|z|z
  ·rcases List.mem_append.mp z with q|q
   ·exact .inl q
   ·exact .inr (.inl (by simpa using q))
  ·exact z.elim
  ·exact .inr (.inr z)
 ·rintro i σ H5 _ ⟨_,_,_,_,B5,_⟩;exact bG.of (B5.sm _ _ hb0)
 ·rintro i x σ H5 hi ⟨L2,S0,v,rfl,B5,CA,hsub,Xu⟩;rw[kU]at hi;let⟨x,ex,rfl⟩:=Option.map_eq_some_iff.mp hi;have step:dz (es.take (i+1))=dz (es.take i)++dz [x]:=by rw[take_snoc ex,D6]
  refine⟨Y,Z,Y,cM (λc=>?_) (λc=>dF ?_)⟩
  ·have c':x<0:=of_decide_eq_true c;have wx:dz [x]=[-1-x]:=by simp[dz,c']
   have G9:kg rows h (-1-x):=⟨e0,es,gc,by
    rw[bM]
    exact⟨E,by rw[show -1-(-1-x)=x by lia];exact m6 ex⟩⟩
   let⟨y0,y1⟩:=vJ.J8 G9;exists Y,Y,Z,Y,Rr,Y,.inl (bG.of B5.hR),rfl,rC L2,Y;rw[Dk];by_cases hm:-1-x∈L2
   ·rw[decide_eq_true hm];refine dF ?_;refine⟨L2,S0,Y,B5,(λy hy=>?_),hsub,Xu⟩;rw[step,wx]at hy;rcases List.mem_append.mp hy with q|q
    ·exact CA y q
    ·have:y=-1-x:=by simpa using q
     rw[this];exact hm
   ·rw[decide_eq_false hm];refine jg ?_;have Z7:=B5.kl;have mp:=MJ y0 y1 hm;refine⟨Y,.inl ⟨rfl,_,bG.of B5.hR⟩,Y,Y,Z,Rr,Z,B5.hR,(by rw[bW];exact aS ∅),?_⟩;have Qv:(aO H5 Rr (.lst (L2.map V.int++[.int (-1-x)]))) Wt=⇑(.lst (S0.map V.int)):=by rw[aK nRW.symm];exact B5.hW
    refine⟨Y,.inl ⟨rfl,_,bG.of Qv⟩,Y,Y,Z,Wt,Z,Qv,(by rw[bW];rw[dM,gF]at hml;exact aS ∅),?_⟩;refine⟨L2++[-1-x],S0++[-1-x],Y,⟨?_,?_,bJ R4 (bJ hRr B5.sm (aF Rr _ _)) (aF Wt _ _),?_,?_,?_,?_⟩,?_,λy q=>pV _ (hsub y q),?_⟩
    ·rw[aK nRW,af,gC];rfl
    ·rw[af,gC];rfl
    ·intro y hy;rcases List.mem_append.mp hy with q|q
     ·exact B5.rc y q
     ·have:y=-1-x:=by simpa using q
      subst this;rcases hh with rfl|hh
      ·exact .one G9
      ·exact .step (B.rc h hh) G9
    ·intro y hy;rcases List.mem_append.mp hy with q|q
     ·let⟨q1,q2⟩:=B5.wr y q;exact⟨q1.imp id (pV _),q2⟩
     ·have:y=-1-x:=by simpa using q
      subst this;exact⟨.inr (by simp),y0,y1⟩
    ·rw[dM,gF];lia
    ·intro y hy;by_cases e:y=-1-x
     ·exact .inl (by rw[e];simp)
     ·have hy':y=s\/y∈L2:=hy.imp id λq=>by
       rcases List.mem_append.mp q with z|z
       ·exact z
       ·exact absurd (by simpa using z) e
      rcases B5.cl y hy' with q|q|q
      ·exact .inl (pV _ q)
      ·exact .inr (.inl q)
      ·exact .inr (.inr λz hz=>pV _ (q z hz))
    ·intro y hy;rw[step,wx]at hy;rcases List.mem_append.mp hy with q|q
     ·exact pV _ (CA y q)
     ·exact nP _ q
    ·rw[dM,gF];lia
  ·have c':¬ x<0:=λz=>c (decide_eq_true z);have wx:dz [x]=[]:=by simp[dz,c']
   exact⟨L2,S0,Y,B5,(by rw[step,wx,iS];exact CA),hsub,Xu⟩
 ·rintro σ H5 ⟨L2,S0,v,rfl,B5,CA,hsub,Xu⟩;rw[bW,gy]at CA;refine⟨_,?_,L2,S0,Q,rfl,⟨B5.hR,B5.hW,B5.sm,B5.rc,B5.wr,B5.kl,λx hx=>?_⟩,?_,rfl⟩
  ·unfold muR;rw[dM,gF];lia
  ·rcases B5.cl x hx with q|rfl|q
   ·exact .inl q
   ·refine .inr (.inr λy hy=>CA y ?_);let⟨_,Bj,he',hy'⟩:=hy;rw[gc]at he';cases he';exact hy'
   ·exact .inr (.inr q)
  ·rw[dM,gF]at hml;lia
theorem Am(sh:Int->List Int)(es:List Int)(i:Nat):↑(bK sh (es.take i))<=↑(bK sh es):=oq (cN sh) es i
class inductive CC(d:Nat)
 | mk (av:Addr->Prop) (r:Addr) (rows:cK) (e:Int) (sh:Int->List Int) (rk:Int->Nat) (_:vs=[↥r,.int e]) (_:iX av H r rows) (_:↑rows<=1000) (_:gw rows) (_:qF rows sh) (_:(∀ x:Int,0<=x->x<↑rows->↑(sh x)<=10000)) (_:(∀ x y,kg rows x y->rk y<rk x)) (_:(e<0->-1-e<↑rows/\rk (-1-e)<d)) (_ :
 ∀ (o:Addr) (H':Hp),H' o=⇑(.lst ((cN sh e).map V.int))->aH H H'->H o=none->Q ↥o H')
theorem A1:aG ["_law_rows","_law_entry"] ["_law_rows","_law_entry"] (az oZ):=fC
def A2(D:Ds K mg aY bq C CS CW CB CT CD aA){d:Nat}:aX P w K mg zt cO (d+2) (aY 80) (bq 80) ["_law_rows","_law_entry"] (CC d):=by
 specialize fX D.ZS.F A1;let⟨av,r,rows,e,sh,rk,rfl,R,cX,vJ,EZ,hbd,yL,hd,k⟩:=h;exists _,(aj (bN (aU lO (pv 1) ay (bu _)) (au (aL (aM D.FO (gX D d) hr (aa (pv 0) (aa (bP dY (fG dc ay) (pv 1)) ah))))) aW) (au (aL (bO (aa (pv 1) ah)))));refine⟨Y,Z,Y,cM (λc=>?_) (λc=>?_)⟩
 ·have c':e<0:=of_decide_eq_true c;let⟨d1,d2⟩:=hd c';refine⟨Y,Y,Y,Z,av,r,rows,-1-e,sh,rk,rfl,R,cX,vJ,E,d1,EZ,hbd,yL,d2,λo H' h s ho=>k o H' ?_ s ho⟩;unfold cN;rw[if_pos c'];exact h
 ·have c':¬ e<0:=λz=>c (decide_eq_true z);refine⟨Y,kG,λo ho=>k o _ ?_ (ao ho _) ho⟩;unfold cN;rw[if_neg c',af];rfl
theorem D7(sh:Int->List Int)(p:Int):∀ (es:List Int) (f:Int),↑(aE sh p f es)<=↑es+↑(bK sh es)
 | [],_=>by simp[aE]
 | e::r,f=>by
  rw[aE,dQ,dM,dM,jS];have a:=D7 sh p r (f+↑(cN sh e))
  have b:↑(if f+↑(cN sh e)<=p then [e] else if p<=f then [] else (cN sh e).take (p-f).toNat)<=1+↑(cN sh e):=by
   split
   ·simp
   ·split
    ·simp
    ·rw[gx];lia
  lia
theorem D8(sh:Int->List Int)(p:Int):∀ (es:List Int) (f:Int),↑(bE sh p f es)<=↑es+↑(bK sh es)
 | [],_=>by simp[bE]
 | e::r,f=>by
  rw[bE,dQ,dM,dM,jS];have a:=D8 sh p r (f+↑(cN sh e))
  have b:↑(if f+↑(cN sh e)<=p then [] else if p<=f then [e] else (cN sh e).drop (p-f).toNat)<=1+↑(cN sh e):=by
   split
   ·simp
   ·split
    ·simp
    ·rw[sP];lia
  lia
class inductive Jb(d:Nat)
 | mk (av:Addr->Prop) (r n:Addr) (rows:cK) (s p:Int) (new:List Int) (sh:Int->List Int) (rk:Int->Nat) (_:vs=[↥r,.int s,.int p,↥n]) (_:iX av H r rows) (_:↑rows<=1000) (_:(∀ es∈rows,↑es<=25000)) (_:gw rows) (_:qF rows sh) (_:(∀ x:Int,0<=x->x<↑rows->↑(sh x)<=10000)) (_:(∀ x y,kg rows x y->rk y<rk x)) (_:0<=s) (_:s<↑rows) (_:rk s<=d) (_:H n=⇑(.lst (new.map V.int))) (_:↑new<=25000) (_ :
 ∀ (es:List Int) (o:Addr) (H':Hp),rows[s.toNat]?=⇑es->H' o=⇑(.lst ((gf sh p es new).map V.int))->↑(gf sh p es new)<=100000->aH H H'->H o=none->Q ↥o H')
theorem gZ:aG ["_law_rows","_law_sheet","_law_place","_law_new","_law_ahead","_law_behind","_law_first","_law_entry","_law_pieces_here","_law_last"] ["_law_rows","_law_sheet","_law_place","_law_new"] (az wc):=fC
def Jc(D:Ds K mg aY bq C CS CW CB CT CD aA){d:Nat}:aX P w K mg zt cO (d+3) (aY 81) (bq 81) ["_law_rows","_law_sheet","_law_place","_law_new"] (Jb d):=by
 have D9:aX P w K mg zt cO (d+2) _ _ ["_law_rows","_law_entry"] (CC d):=A2 D;refine fX D.OR.F gZ λcH A zn s0 H vs Q E hr h=>?_;let⟨av,r,n,rows,s,p,new,sh,rk,rfl,R,cX,hes,vJ,EZ,hbd,yL,h0,h1,hd,hn,nl,k⟩:=h;obtain⟨es,gc⟩:∃ es,rows[s.toNat]?=⇑es:=⟨_,nM ∅⟩;have esl:=hes es (m6 gc);have shs:=EZ s es h0 gc;have shl:=hbd s h0 h1;rw[shs]at shl;let⟨AD,b,Dt,DA,hb0,hrl⟩:=R.get gc
 have yb:qm AD s=⇑↥b:=by
  have z:=cQ DA;rw[show ((s.toNat:Nat):Int)=s by lia]at z;exact z
 exists _,(aj (bN (aU cW (eE D.T.d8 (pv 3)) ay (bu _)) (au (aL (d7 fP rfl D.T.iZ sN (aa (aN bz (pv 0) (pv 1)) ah)))) aW) (aj (bx (i:=4) gZ.nd (bO ah)) (aj (bx (i:=5) gZ.nd (bO ah)) (aj (bx (i:=6) gZ.nd ay) (aj (d9 PassesOwn.never rfl (ck (aN bz (pv 0) (pv 1))) (bY (i:=7) gZ.nd) (aj (bx (i:=8) gZ.nd (aM D.ZS D9 hr (aa (pv 0) (aa (pv 7) ah)))) (aj (bx (i:=9) gZ.nd (bP fj (pv 6) (eE D.T.d8 (pv 8)))) (aj (bN (aU ji (pv 9) (pv 2) (bu _)) (au (aV (dm pI jA jB bT (pv 4) (aa (pv 7) ah)))) (au (bN (aU ji (pv 2) (pv 6) (bu _)) (au (aV (dm pI jA jB bT (pv 5) (aa (pv 7) ah)))) (aj (aV (dm pI PySem.F.slot_list_extend PySem.F.type_list_extend lI (pv 4) (aa (jV rj (pv 8) oK (kZ (bP dY (pv 2) (pv 6)))) ah))) (au (aV (dm pI PySem.F.slot_list_extend PySem.F.type_list_extend lI (pv 5) (aa (jV rj (pv 8) (kZ (bP dY (pv 2) (pv 6))) oK) ah)))))))) (au (bx (i:=6) gZ.nd (pv 9))))))) (au (aL (bP ko (bP ko (pv 4) (pv 3)) (pv 5)))))))));refine⟨Y,n,Y,.inl (bG.of hn),rfl,Y,cM (λc=>?_) (λc=>?_)⟩
 ·have c':new=[]:=by
   have z:V.int (↑(new.map V.int):Int)=V.int 0:=of_decide_eq_true c;have z2:=V.int.inj z;rw[bW]at z2;exact List.eq_nil_of_length_eq_zero ∅
  refine⟨Y,Y,r,K,V,bG.of Dt,yb,b,Y,.inl (bG.of hb0),λo ho=>k es o _ gc ?_ ?_ (ao ho _) ho⟩
  ·rw[af];unfold gf;rw[if_pos c']
  ·unfold gf;rw[if_pos c'];lia
 have c':¬ new=[]:=λz=>c (by rw[z];rfl);refine⟨iY,λA hA=>⟨iY,λB hB=>?_⟩⟩;have sA:aH H (aO H A (.lst [])):=ao hA _;have sB:aH _ (aO (aO H A (.lst [])) B (.lst [])):=ao hB _;have s1:=sA.trans sB;have Qx:A≠B:=aB af hB;have hB0:=bw sA hB;refine⟨Y,Y,r,K,V,bG.of (s1 _ _ Dt),yb,b,rfl,⟨_,bG.of (s1 _ _ hb0)⟩,cV (K:=K) (a:=b) (xs:=es.map V.int) (λi σ H2=>∃ u1 u2 u3:Option V,σ=[⇑↥r,⇑(.int s),⇑(.int p),⇑↥n,⇑↥A,⇑↥B,⇑(.int (0+(↑(bK sh (es.take i)):Int))),u1,u2,u3]/\H2 A=⇑(.lst ((aE sh p 0 (es.take i)).map V.int))/\H2 B=⇑(.lst ((bE sh p 0 (es.take i)).map V.int))/\aH H H2) ⟨none,none,none,rfl,sB _ _ af,af,s1⟩ (by rintro i σ H2 _ ⟨_,_,_,_,_,_,s2⟩;exact bG.of (s2 _ _ hb0)) ?_ ?_⟩
 ·rintro i x σ H2 hi ⟨u1,u2,u3,rfl,hA2,hB2,s2⟩;rw[kU]at hi;let⟨e,ex,rfl⟩:=Option.map_eq_some_iff.mp hi;have st:=take_snoc ex
  have eA:aE sh p 0 (es.take (i+1))=aE sh p 0 (es.take i)++(if 0+(↑(bK sh (es.take i)):Int)+↑(cN sh e)<=p then [e] else if p<=0+(↑(bK sh (es.take i)):Int) then [] else (cN sh e).take (p-(0+(↑(bK sh (es.take i)):Int))).toNat):=by
   rw[st,wJ,aE,aE,iS]
  have eB:bE sh p 0 (es.take (i+1))=bE sh p 0 (es.take i)++(if 0+(↑(bK sh (es.take i)):Int)+↑(cN sh e)<=p then [] else if p<=0+(↑(bK sh (es.take i)):Int) then [e] else (cN sh e).drop (p-(0+(↑(bK sh (es.take i)):Int))).toNat):=by
   rw[st,wK,bE,bE,iS]
  have eF:(0+(↑(bK sh (es.take (i+1))):Int))=0+(↑(bK sh (es.take i)):Int)+↑(cN sh e):=by
   rw[st,DE,dQ,dM,dM];simp[bK]
  have lA:=D7 sh p (es.take (i+1)) 0;have lB:=D8 sh p (es.take (i+1)) 0;have lA0:=D7 sh p (es.take i) 0;have lB0:=D8 sh p (es.take i) 0;have l1:=Am sh es (i+1);have l0:=Am sh es i;have t1:↑(es.take (i+1))<=↑es:=by rw[gx];lia
  have t0:↑(es.take i)<=↑es:=by rw[gx];lia
  refine⟨Y,Y,av,r,rows,e,sh,rk,rfl,R.same s2,cX,vJ,EZ,hbd,yL,λakz=>?_,λo H3 h3 s3 ho=>?_⟩
  ·have nx:kg rows s (-1-e):=⟨h0,es,gc,bM.mpr ⟨E,by rw[show -1-(-1-e)=e by lia];exact m6 ex⟩⟩;have:=yL _ _ nx;exact⟨(vJ.J8 nx).2,E⟩
  have XC:=s3 _ _ hA2;have hB3:=s3 _ _ hB2;exists Y,Y,o,Y,.inl (bG.of h3),Z;rw[bW];refine⟨Y,Y,Z,Y,cM (λc1=>?_) (λc1=>?_)⟩
  ·have c1':0+(↑(bK sh (es.take i)):Int)+(↑(cN sh e):Int)<=p:=of_decide_eq_true c1;rw[if_pos c1']at eA eB;refine⟨Y,.inl ⟨rfl,_,bG.of XC⟩,Y,A,Z,XC,aS (by rw[bW];lia),?_⟩;refine⟨Y,⇑(.int e),⇑↥o,⇑(.int (0+(↑(bK sh (es.take i)):Int)+(↑(cN sh e):Int))),?_,?_,?_,bJ hA (s2.trans s3) (aF A _ _)⟩
   ·rw[eF];rfl
   ·rw[af,eA,gC];rfl
   ·rw[aK Qx.symm,eB,iS];exact hB3
  ·have c1':¬ 0+(↑(bK sh (es.take i)):Int)+(↑(cN sh e):Int)<=p:=λz=>c1 (decide_eq_true z);rw[if_neg c1']at eA eB;refine⟨Y,Y,Z,Y,cM (λc2=>?_) (λc2=>?_)⟩
   ·have Qy:p<=0+(↑(bK sh (es.take i)):Int):=of_decide_eq_true c2;rw[if_pos Qy]at eA eB;refine⟨Y,.inl ⟨rfl,_,bG.of hB3⟩,Y,B,Z,hB3,aS (by rw[bW];lia),?_⟩;refine⟨Y,⇑(.int e),⇑↥o,⇑(.int (0+(↑(bK sh (es.take i)):Int)+(↑(cN sh e):Int))),?_,?_,?_,bJ hB0 (s2.trans s3) (aF B _ _)⟩
    ·rw[eF];rfl
    ·rw[aK Qx,eA,iS];exact XC
    ·rw[af,eB,gC];rfl
   ·have Qy:¬ p<=0+(↑(bK sh (es.take i)):Int):=λz=>c2 (decide_eq_true z);rw[if_neg Qy]at eA eB;rw[eA,dM]at lA;rw[eB,dM]at lB;refine⟨Y,.inl ⟨rfl,_,bG.of XC⟩,Y,Y,Y,Z,Y,o,Y,bG.of h3,λq1 Qs=>?_⟩;have n1:aH H3 (aO H3 q1 (.lst (jW ((cN sh e).map V.int) none (⇑(p-(0+(↑(bK sh (es.take i)):Int))))))):=ao Qs _;have e1:jW ((cN sh e).map V.int) none (⇑(p-(0+(↑(bK sh (es.take i)):Int))))=((cN sh e).take (p-(0+(↑(bK sh (es.take i)):Int))).toNat).map V.int:=by rw[zV _ ∅,List.map_take]
    refine⟨A,q1,Z,n1 _ _ XC,af,iC (aS (by rw[e1,bW,bW];lia)),?_⟩;have k4:cy A H3 (aO (aO H3 q1 (.lst (jW ((cN sh e).map V.int) none (⇑(p-(0+(↑(bK sh (es.take i)):Int))))))) A (.lst ((aE sh p 0 (es.take i)).map V.int++jW ((cN sh e).map V.int) none (⇑(p-(0+(↑(bK sh (es.take i)):Int))))))):=cy.trans (aH.keep n1) (aF A _ _);have no:o≠A:=(aB hA2 ho).symm;have nqA:q1≠A:=(aB XC Qs).symm;have hB4:=k4 _ _ hB3 Qx.symm;refine⟨Y,.inl ⟨rfl,_,bG.of hB4⟩,Y,Y,Y,Z,Y,o,Y,bG.of (k4 _ _ h3 no),λq2 dH=>?_⟩;have e2:jW ((cN sh e).map V.int) (⇑(p-(0+(↑(bK sh (es.take i)):Int)))) none=((cN sh e).drop (p-(0+(↑(bK sh (es.take i)):Int))).toNat).map V.int:=by rw[Co _ ∅,List.map_drop]
    refine⟨B,q2,Z,ao dH _ _ _ hB4,af,iC (aS (by rw[e2,bW,bW];lia)),?_⟩;exists Y,⇑(.int e),⇑↥o,⇑(.int (0+(↑(bK sh (es.take i)):Int)+(↑(cN sh e):Int))),?_,?_,?_
    ·rw[eF];rfl
    ·rw[aK Qx,ao dH _ _ _ af,eA,gC,e1]
    ·rw[af,eB,gC,e2]
    ·exact bJ hB0 ((bJ hA (s2.trans s3) k4).trans (ao dH _)) (aF B _ _)
 ·rintro σ H2 ⟨u1,u2,u3,rfl,hA2,hB2,s2⟩;rw[bW,gy]at hA2 hB2;have lA:=D7 sh p es 0;have lB:=D8 sh p es 0;refine⟨Y,Y,A,n,Z,hA2,s2 _ _ hn,iC (aS (by rw[bW,bW];lia)),λc1 RG=>?_⟩;have n1:aH H2 (aO H2 c1 (.lst ((aE sh p 0 es).map V.int++new.map V.int))):=ao RG _;refine⟨Y,c1,B,Z,af,n1 _ _ hB2,iC (aS (by rw[dM,bW,bW,bW];lia)),λc2 Wm=>?_⟩;refine k es c2 _ gc ?_ ?_ (s2.trans (n1.trans (ao Wm _))) (bw (s2.trans n1) Wm)
  ·rw[af];unfold gf;rw[if_neg c',gC,gC]
  ·unfold gf;rw[if_neg c',dM,dM];lia
class inductive rH(d:Nat)
 | mk (av:Addr->Prop) (r:Addr) (rows:cK) (x:Int) (f:Int->Int) (rk:Int->Nat) (_:vs=[↥r,.int x]) (_:iX av H r rows) (_:↑rows<=1000) (_:gw rows) (_:0<=x) (_:x<↑rows) (_:Weighs rows f) (_:(∀ x y,kg rows x y->rk y<rk x)) (_:rk x<d) (_:Q (.int (f x)) H)
theorem ic:aG ["_law_rows","_law_sheet","_law_total","_law_entry"] ["_law_rows","_law_sheet"] (az nF):=fC
def xh(D:Ds K mg aY bq C CS CW CB CT CD aA){n:Nat}(A3:aX P w K mg zt cO (n+1) (aY 83) (bq 83) ["_law_rows","_law_sheet"] (rH n)):aX P w K mg zt cO (n+2) (aY 83) (bq 83) ["_law_rows","_law_sheet"] (rH (n+1)):=by
 specialize fX D.OS.F ic;let⟨av,r,rows,x,f,rk,rfl,R,cX,vJ,x0,x1,hf,yL,hd,k⟩:=h;obtain⟨es,gc⟩:∃ es,rows[x.toNat]?=⇑es:=⟨_,nM ∅⟩;let⟨AD,b,Dt,DA,hb0,hrl⟩:=R.get gc
 have yb:qm AD x=⇑↥b:=by
  have z:=cQ DA;rw[show ((x.toNat:Nat):Int)=x by lia]at z;exact z
 exists _,(aj (bx (i:=2) ic.nd ay) (aj (d9 PassesOwn.never rfl (ck (aN bz (pv 0) (pv 1))) (bY (i:=3) ic.nd) (aj (bx (i:=2) ic.nd (bP fj (pv 2) ay)) (au (bN (aU lO (pv 3) ay (bu _)) (au (bx (i:=2) ic.nd (bP fj (pv 2) (aM D.OS A3 hr (aa (pv 0) (aa (bP dY (fG dc ay) (pv 3)) ah)))))) aW)))) (au (aL (pv 2)))));refine⟨Y,Y,r,K,V,bG.of Dt,yb,b,rfl,⟨_,bG.of hb0⟩,cV (K:=K) (a:=b) (xs:=es.map V.int) (λi σ H2=>∃ u:Option V,σ=[⇑↥r,⇑(.int x),⇑(.int (dX f (es.take i))),u]/\H2=H) ⟨none,V⟩ (λi σ H2 _ ⟨Q,e⟩=>by rw[e];exact bG.of hb0) ?_ ?_⟩
 ·rintro i e σ H2 hi ⟨u,rfl,rfl⟩;rw[kU]at hi;let⟨e,ex,rfl⟩:=Option.map_eq_some_iff.mp hi
  have st:dX f (es.take (i+1))=dX f (es.take i)+(if e<0 then 1+f (-1-e) else 1):=by
   rw[take_snoc ex];unfold dX;rw[gC,List.sum_append];simp
  exists Y,Z;refine⟨Y,Z,Y,cM (λc=>?_) (λc=>?_)⟩
  ·have c':e<0:=of_decide_eq_true c;have G9:kg rows x (-1-e):=⟨x0,es,gc,bM.mpr ⟨E,by rw[show -1-(-1-e)=e by lia];exact m6 ex⟩⟩;let⟨y0,y1⟩:=vJ.J8 G9;have rky:=yL _ _ G9;exists Y,Y,Y,Y,Z,av,r,rows,-1-e,f,rk,rfl,R,cX,vJ,y0,y1,hf,yL,E,Z;refine⟨⇑(.int e),?_,rfl⟩;rw[st,if_pos c'];show [⇑(V.ref r),⇑(V.int x),⇑(V.int (dX f (es.take i)+1+f (-1-e))),⇑(V.int e)]=_;rw[show dX f (es.take i)+1+f (-1-e)=dX f (es.take i)+(1+f (-1-e)) by lia]
  ·have c':¬ e<0:=λz=>c (decide_eq_true z);refine⟨⇑(.int e),?_,rfl⟩;rw[st,if_neg c'];rfl
 ·rintro σ H2 ⟨u,rfl,rfl⟩;rw[bW,gy,← hf x es x0 gc];exact⟨Y,k⟩
theorem jw(D:Ds K mg aY bq C CS CW CB CT CD aA):∀ n:Nat,aX P w K mg zt cO (n+1) (aY 83) (bq 83) ["_law_rows","_law_sheet"] (rH n)
 | 0=>by
  have no:∀ vs H Q E,¬ rH 0 vs H Q E:=λvs H Q E h=>by
   let⟨_,_,_,_,_,_,_,_,_,_,_,_,_,_,h,_⟩:=h;exact Nat.not_lt_zero _ h
  exact⟨λvs H Q E h=>absurd h (no vs H Q E),λA zn s H args us vs Q E _ _ _ _ h=>absurd h (no vs H Q E)⟩
 | n+1=>xh D (jw D n)
theorem nK:aG ["_law_numbers","_law_row","_law_number"] ["_law_numbers"] (az o6):=fC
theorem A4:‹(1,84,["_law_numbers"],Q9)›:=λD=>by
 specialize fX D.ZU.F nK;let⟨r,ns,rfl,i9,cX,k⟩:=h;exists _,(aj (bx (i:=1) nK.nd (bO ah)) (aj (d9 PassesOwn.never rfl (ck (pv 0)) (bY (i:=2) nK.nd) (au (bN (PW.pt (oF (aU uy (eE D.T.d8 (pv 1)) ay (bu _)) (mK (aU cW (aN aT (aN bz (pv 1) (fG dc ay)) ay) (pv 2) (bu _))))) (au (lN (cG (aa (aN aT (aN bz (pv 1) (fG dc ay)) ay) (aa (bP fj (pv 2) ay) ah))) (nh (pv 1) (fG dc ay) iK))) (au (aV (dm pI jA jB bT (pv 1) (aa (cG (aa (pv 2) (aa (bP fj (pv 2) ay) ah))) ah))))))) (au (aL (pv 1)))));refine⟨iY,λq hq=>?_⟩;have s0:aH H (aO H q (.lst [])):=ao hq _;refine⟨Y,r,rfl,⟨_,bG.of (s0 _ _ i9)⟩,cV (K:=K) (a:=r) (xs:=ns.map V.int) (λi σ H2=>∃ (bs:List Addr) (u:Option V),σ=[⇑↥r,⇑↥q,u]/\H2 q=⇑(.lst (bs.map V.ref))/\br H2 bs ((ns.take i).foldl (λt n=>iV t n (n+1)) [])/\aH H H2) ⟨[],none,rfl,af,.nil,s0⟩ (by rintro i σ H2 _ ⟨_,_,_,_,_,s⟩;exact bG.of (s _ _ i9)) ?_ ?_⟩
 ·rintro i x σ H2 hi ⟨bs,u,rfl,dH,hb,s⟩;rw[kU]at hi;let⟨m,em,rfl⟩:=Option.map_eq_some_iff.mp hi;have step:=foldl_take_succ (λt n=>iV t n (n+1)) ns [] i m em
  have bl:↑bs<sizeLine:=by
   have z:=hb.len;have z2:=zo (ns.take i) [];rw[gx]at z2;exact aS (by simp only[m9]at z2;lia)
  exists Y,q,Y,.inl (bG.of dH),Z,Y;rcases mE ((ns.take i).foldl (λt n=>iV t n (n+1)) []) with hn|⟨rw0,q0,hn⟩
  ·rw[hn]at hb step;have Z5:bs=[]:=List.eq_nil_of_length_eq_zero hb.len;subst Z5;refine dF (dF ?_);refine⟨Y,.inl ⟨rfl,_,bG.of dH⟩,Y,Y,Z,jL,λt ht=>⟨q,Z,ao ht _ _ _ dH,(by show 0<sizeLine;decide),?_⟩⟩;let⟨g1,g2,g3⟩:=zm (st:=m) (en:=m+1) hq s dH hb ht;refine⟨[]++[t],Y,g1,?_,g3⟩;rw[step,jX];exact g2
  ·rw[ki]at hn;rw[hn]at hb step;let⟨cs,a0,rfl,hc,Cc⟩:=hb.split;have vI:H2 q=⇑(.lst (cs.map V.ref++[↥a0])):=by rw[dH,gC];rfl
   refine cM (λ_=>?_) (λc=>absurd (decide_eq_true (by rw[bW,dM,gF];lia)) c);refine⟨Y,Y,q,K,V,bG.of vI,dO _ _,a0,K,V,dN.of Cc,HY,Y,rfl,Y,cM (λc2=>?_) (λc2=>?_)⟩
   ·have e2:q0.2=m:=V.int.inj (of_decide_eq_true c2);refine⟨Y,Y,q,K,V,bG.of vI,dO _ _,a0,K,V,dN.of Cc,N4,Y,Z,jL,λt ht=>?_⟩;exists Y,Y,q,Q,↑cs,V,ao ht _ _ _ vI,Ic cs a0;let⟨g1,g2,g3⟩:=turned (st:=q0.1) (en:=m+1) hq s vI hc ht;refine⟨cs++[t],Y,g1,?_,g3⟩;rw[step,jY _ e2];exact g2
   ·have e2:¬ q0.2=m:=λz=>c2 (decide_eq_true (congrArg V.int z));refine⟨Y,.inl ⟨rfl,_,bG.of dH⟩,Y,Y,Z,jL,λt ht=>⟨q,Z,ao ht _ _ _ dH,(by rw[bW];exact bl),?_⟩⟩;let⟨g1,g2,g3⟩:=zm (st:=m) (en:=m+1) hq s dH hb ht;refine⟨cs++[a0]++[t],Y,g1,?_,g3⟩;rw[step,jZ _ e2];exact g2
 ·rintro σ H2 ⟨bs,u,rfl,dH,hb,s⟩;refine⟨Y,k q H2 ⟨bs,dH,?_⟩ s hq⟩;rw[bW,gy]at hb;exact hb
class inductive S8
 | mk (e:Addr) (es:List Int) (_:vs=[↥e]) (_:H e=⇑(.lst (es.map V.int))) (_:↑es<=100000) (_ :
 ∀ (o:Addr) (H':Hp),bQ H' ↥o (aI es)->aH H H'->H o=none->Q ↥o H')
theorem kT:aG ["_law_entries","_law_items","_law_entry"] ["_law_entries"] (az lY):=fC
theorem yp:‹(1,85,["_law_entries"],S8)›:=λD=>by
 specialize fX D.ZV.F kT;let⟨e,es,rfl,he,cX,k⟩:=h;exists _,(aj (bx (i:=1) kT.nd (bO ah)) (aj (d9 PassesOwn.never rfl (ck (pv 0)) (bY (i:=2) kT.nd) (au (bN (aU lO (pv 2) ay (bu _)) (au (aV (dm pI jA jB bT (pv 1) (aa (cG (aa bh (aa (bP dY (fG dc ay) (pv 2)) ah))) ah)))) (au (bN (PW.pt (oF (aU uy (eE D.T.d8 (pv 1)) ay (bu _)) (oF (aU cW (aN aT (aN bz (pv 1) (fG dc ay)) ay) bh (bu _)) (mK (aU cW (aN aT (aN bz (pv 1) (fG dc ay)) ay) (pv 2) (bu _)))))) (au (lN (cG (aa bh (aa (aN aT (aN bz (pv 1) (fG dc ay)) ay) (aa (bP fj (pv 2) ay) ah)))) (nh (pv 1) (fG dc ay) iK))) (au (aV (dm pI jA jB bT (pv 1) (aa (cG (aa bh (aa (pv 2) (aa (bP fj (pv 2) ay) ah)))) ah))))))))) (au (aL (pv 1)))));refine⟨iY,λq hq=>?_⟩;have s0:aH H (aO H q (.lst [])):=ao hq _;refine⟨Y,e,rfl,⟨_,bG.of (s0 _ _ he)⟩,cV (K:=K) (a:=e) (xs:=es.map V.int) (λi σ H2=>∃ (vs:List V) (u:Option V),σ=[⇑↥e,⇑↥q,u]/\H2 q=⇑(.lst vs)/\bV (cC H2) vs ((es.take i).foldl aZ [])/\aH H H2) ⟨[],none,rfl,af,.nil,s0⟩ (by rintro i σ H2 _ ⟨_,_,_,_,_,s⟩;exact bG.of (s _ _ he)) ?_ ?_⟩
 ·rintro i x σ H2 hi ⟨vs,u,rfl,dH,hb,s⟩;rw[kU]at hi;let⟨x,ex,rfl⟩:=Option.map_eq_some_iff.mp hi;have step:(es.take (i+1)).foldl aZ []=aZ ((es.take i).foldl aZ []) x:=by rw[take_snoc ex,List.foldl_append];rfl
  have bl:↑vs<sizeLine:=by
   have z:=hb.len;have z2:=n6 (es.take i) [];rw[gx,m9]at z2;exact aS ∅
  refine⟨Y,Z,Y,cM (λc=>?_) (λc=>?_)⟩
  ·have c':x<0:=of_decide_eq_true c;rw[aZ,if_pos c']at step;refine⟨Y,.inl ⟨rfl,_,bG.of dH⟩,Y,Y,Z,jL,λt ht=>⟨q,Z,ao ht _ _ _ dH,bl,?_⟩⟩;refine⟨vs++[↥t],Y,af,?_,bJ hq (s.trans (ao ht _)) (aF q _ _)⟩;rw[step];exact bV.new (it:=.win (-1-x)) dH hb ht _
  ·have c':¬ x<0:=λz=>c (decide_eq_true z);rw[aZ,if_neg c']at step;rcases mE ((es.take i).foldl aZ []) with hn|⟨t0,l0,hn⟩
   ·rw[hn]at hb step;have hvs:vs=[]:=List.eq_nil_of_length_eq_zero hb.len;subst hvs;refine⟨Y,q,Y,.inl (bG.of dH),Z,Y,dF (dF ?_)⟩;refine⟨Y,.inl ⟨rfl,_,bG.of dH⟩,Y,Y,Z,IB,λt ht=>⟨q,Z,ao ht _ _ _ dH,bl,?_⟩⟩;refine⟨[]++[↥t],Y,af,?_,bJ hq (s.trans (ao ht _)) (aF q _ _)⟩;rw[step];exact bV.new (it:=.aJ x (x+1)) dH hb ht _
   ·rw[ki]at hn;rw[hn,m7,List.dropLast_concat]at step;rw[hn]at hb;let⟨us,v0,rfl,hb0,a0,rfl,Cc⟩:=hb.split;refine⟨Y,q,Y,.inl (bG.of dH),Z,Y,cM (λ_=>?_) (λz=>absurd (decide_eq_true (by simp)) z)⟩
    cases l0 with
    | win n =>
     refine⟨Y,Y,q,K,V,bG.of dH,dO _ _,a0,K,V,dN.of Cc,V,Y,cM (λz=>absurd z (by decide)) (λ_=>dF ?_)⟩;refine⟨Y,.inl ⟨rfl,_,bG.of dH⟩,Y,Y,Z,IB,λt ht=>⟨q,Z,ao ht _ _ _ dH,bl,?_⟩⟩;refine⟨Q,rfl,af,?_,bJ hq (s.trans (ao ht _)) (aF q _ _)⟩;rw[step];exact bV.new (it:=.aJ x (x+1)) dH hb ht _
    | aJ p1 p2 =>
     refine⟨Y,Y,q,K,V,bG.of dH,dO _ _,a0,K,V,dN.of Cc,V,Y,cM (λ_=>?_) (λz=>absurd (by decide) z)⟩;refine⟨Y,Y,q,K,V,bG.of dH,dO _ _,a0,K,V,dN.of Cc,rfl,Y,rfl,Y,cM (λc2=>?_) (λc2=>?_)⟩
     ·have e2:p2=x:=V.int.inj (of_decide_eq_true c2);refine⟨Y,Y,q,K,V,bG.of dH,dO _ _,a0,K,V,dN.of Cc,rfl,Y,Z,IB,λt ht=>?_⟩;refine⟨Y,Y,q,Q,↑us,V,ao ht _ _ _ dH,(by rw[dM];exact zj _),?_⟩;rw[uO];refine⟨Q,rfl,af,?_,bJ hq (s.trans (ao ht _)) (aF q _ _)⟩;rw[step];show bV _ _ (if p2=x then t0++[aR.aJ p1 (x+1)] else _);rw[if_pos e2];exact bV.new (it:=.aJ p1 (x+1)) dH hb0 ht _
     ·have e2:¬ p2=x:=λz=>c2 (decide_eq_true (congrArg V.int z));refine⟨Y,.inl ⟨rfl,_,bG.of dH⟩,Y,Y,Z,IB,λt ht=>⟨q,Z,ao ht _ _ _ dH,bl,?_⟩⟩;refine⟨Q,rfl,af,?_,bJ hq (s.trans (ao ht _)) (aF q _ _)⟩;rw[step];show bV _ _ (if p2=x then _ else t0++[aR.aJ p1 p2]++[aR.aJ x (x+1)]);rw[if_neg e2];exact bV.new (it:=.aJ x (x+1)) dH hb ht _
 ·rintro σ H2 ⟨vs,u,rfl,dH,hb,s⟩;rw[bW,gy]at hb;exact⟨Y,k q H2 ⟨q,vs,rfl,dH,hb⟩ s hq⟩
def Reach.trans{E:Int->Int->Prop}{a b c:Int}(h:Reach E a b)(g:Reach E b c):Reach E a c:=by
 induction g with
 | one e=>exact .step h e
 | step _ e ih=>exact .step ih e
theorem Gx{p q:Nat->Bool}(h:∀ i,p i=true->q i=true):∀ n,cnt n p<=cnt n q
 | 0=>fK _
 | n+1=>by
  rw[uS,uS];have ih:=Gx h n;by_cases c:p n=true
  ·rw[if_pos c,if_pos (h n c)];lia
  ·rw[if_neg c];lia
open Classical in
def WM{rows:cK}(sd:gw rows)(l:↑rows<=40)(h:∀ x,¬ Reach (kg rows) x x):xY rows:=by
 refine⟨λx=>cnt ↑rows λi=>decide (Reach (kg rows) x (i:Int)),λx=>jf (zF _ _) l,λx y n=>?_⟩;let⟨y0,y1⟩:=sd.J8 n;have yy:((y.toNat:Nat):Int)=y:=by lia
 have a:=Gx (p:=λi=>decide (Reach (kg rows) y (i:Int))) (q:=λi=>decide (Reach (kg rows) x (i:Int))&&decide (i≠y.toNat)) (λi hi=>by
  have r:=of_decide_eq_true hi;rw[Bool.and_eq_true];refine⟨decide_eq_true ((Reach.one n).trans r),decide_eq_true λz=>?_⟩;rw[z,yy]at r
  exact h _ r) ↑rows
 have b:=uT y.toNat ↑rows (p:=λi=>decide (Reach (kg rows) x (i:Int))) (q:=λi=>decide (Reach (kg rows) x (i:Int))&&decide (i≠y.toNat)) ∅ (decide_eq_true (by rw[yy];exact .one n)) (λ_=>rfl);show cnt _ _<cnt _ _;lia
def Kx{rows:cK}{s:Nat}{es:List Int}{x y:Int}(h:kg (rows.set s es) x y)(ne:x.toNat≠s):kg rows x y:=by
 let⟨x0,Bj,e,hy⟩:=h;rw[List.getElem?_set_ne (λz=>ne z.symm)]at e;exact⟨x0,Bj,e,hy⟩
def PX{rows:cK}{s:Int}{es:List Int}(s0:0<=s)(R:xY rows)(n:¬ Reach (kg (rows.set s.toNat es)) s s):∀ x,¬ Reach (kg (rows.set s.toNat es)) x x:=by
 have key:∀ {a b:Int},Reach (kg (rows.set s.toNat es)) a b->Reach (kg rows) a b\/((a=s\/Reach (kg (rows.set s.toNat es)) a s)/\Reach (kg (rows.set s.toNat es)) s b):=by
  intro a b r
  induction r with
  | one e =>
   by_cases c:a.toNat=s.toNat
   ·have q:a=s:=by have:=e.1;lia
    rw[q]at e;exact .inr ⟨.inl q,.one e⟩
   ·exact .inl (.one (Kx e c))
  | @step y z r e ih =>
   by_cases c:y.toNat=s.toNat
   ·have q:y=s:=by have:=e.1;lia
    rw[q]at r e;exact .inr ⟨.inr r,.one e⟩
   ·rcases ih with i|i
    ·exact .inl (.step i (Kx e c))
    ·exact .inr ⟨i.1,.step i.2 e⟩
 intro x r;rcases key r with z|⟨z|z,y⟩
 ·exact R.irr z
 ·rw[z]at y;exact n y
 ·exact n (y.trans z)
def gr(f:Int->Int)(e:Int)(r:List Int):dX f (e::r)=(if e<0 then 1+f (-1-e) else 1)+dX f r:=by unfold dX;rw[jh,List.sum_cons]
theorem Ea{sh:Int->List Int}{f:Int->Int}:∀ {es:List Int},(∀ y∈dz es,(↑(sh y):Int)<=f y)->(↑es:Int)<=dX f es/\(↑(bK sh es):Int)<=dX f es
 | [],_=>by simp[dX,bK]
 | e::r,h=>by
  have ih:=Ea (es:=r) λy hy=>h y (bM.mpr ⟨(bM.mp hy).1,nO _ (bM.mp hy).2⟩);rw[gr,dQ,dM,jS];unfold cN;by_cases c:e<0
  ·have z:=h (-1-e) (bM.mpr ⟨E,by rw[show -1-(-1-e)=e by lia];simp⟩);rw[if_pos c,if_pos c];lia
  ·rw[if_neg c,if_neg c,gF];lia
def vC{rows:cK}{sh:Int->List Int}{f:Int->Int}(sd:gw rows)(R:xY rows)(hs:qF rows sh)(hw:Weighs rows f):∀ x:Int,0<=x->∀ es,rows[x.toNat]?=⇑es->(↑es:Int)<=f x/\(↑(sh x):Int)<=f x:=by
 let⟨rk,_,hd⟩:=R
 have key:∀ (k:Nat) (x:Int),rk x<k->0<=x->∀ es,rows[x.toNat]?=⇑es->(↑es:Int)<=f x/\(↑(sh x):Int)<=f x:=by
  intro k
  induction k with
  | zero=>intro x h;lia
  | succ k ih =>
   intro x hx x0 es he;rw[hw x es x0 he,hs x es x0 he];refine Ea λy hy=>?_;have n:kg rows x y:=⟨x0,es,he,hy⟩;let⟨y0,y1⟩:=sd.J8 n;have:=hd _ _ n;exact (ih y ∅ y0 _ (nM ∅)).2
 exact λx=>key (rk x+1) x (Nat.lt_succ_self _)
def PY{rows:cK}{sh:Int->List Int}{N:Int->Prop}(vJ:gw rows)(yL:xY rows)(EZ:qF rows sh)(hN:∀ es∈rows,∀ e∈es,0<=e->N e):∀ x:Int,0<=x->x<↑rows->∀ y∈sh x,N y:=by
 let⟨rk,hb,hd⟩:=yL
 have key:∀ (k:Nat) (x:Int),rk x<k->0<=x->x<↑rows->∀ y∈sh x,N y:=by
  intro k
  induction k with
  | zero=>intro x h;lia
  | succ k ih =>
   intro x hx x0 x1 y hy;have he:rows[x.toNat]?=⇑rows[x.toNat]:=nM ∅;rw[EZ x _ x0 he]at hy;unfold bK at hy;let⟨e,hm,hy⟩:=List.mem_flatMap.mp hy;unfold cN at hy;by_cases c:e<0
   ·rw[if_pos c]at hy;have nx:kg rows x (-1-e):=⟨x0,_,he,bM.mpr ⟨E,by rw[show -1-(-1-e)=e by lia];exact hm⟩⟩;let⟨a,b⟩:=vJ.J8 nx;have:=hd _ _ nx;exact ih _ ∅ a b y hy
   ·rw[if_neg c]at hy;rw[List.mem_singleton.mp hy];exact hN _ (m6 he) e hm ∅
 exact λx=>key (rk x+1) x (Nat.lt_succ_self _)
def sM(n m:Nat)(e:Int):Prop:=(0<=e/\e<(n:Nat))\/(e<0/\-1-e<(m:Nat))
structure Good(n:Nat)(rows:cK):Prop where
 en:∀ es∈rows,∀ e∈es,sM n ↑rows e
 rk:xY rows
 ln:↑rows<=40
 wt:∃ f,Weighs rows f/\∀ x:Int,0<=x->x<↑rows->f x<=200
theorem qV{n:Nat}{rows:cK}(h:∀ es∈rows,∀ e∈es,sM n ↑rows e):gw rows:=λes he y hy=>by
 let⟨y0,hm⟩:=bM.mp hy;rcases h es he _ hm with z|z
 ·lia
 ·have:=z.2;lia
structure Gd(n:Nat)(rows:cK)(sh:Int->List Int):Prop where
 sn:Seen rows sh
 WN:∀ x:Int,0<=x->x<↑rows->∀ a∈sh x,0<=a/\a<(n:Nat)
 sl:∀ x:Int,0<=x->x<↑rows->↑(sh x)<=200
 es:∀ es∈rows,↑es<=200
 en:∀ es∈rows,∀ e∈es,sM n ↑rows e
 ln:↑rows<=40
def Good.es{n:Nat}{rows:cK}(h:Good n rows):∀ es∈rows,↑es<=200:=by
 let⟨en,rk,ln,f,hw,hm⟩:=h;let⟨sh,hs⟩:=Gw rk;intro es he;let⟨i,hi⟩:=List.mem_iff_getElem?.mp he;have il:=(List.getElem?_eq_some_iff.mp hi).1;have a:=vC (qV en) rk hs hw (i:Int) ∅ es (by rw[sO];exact hi);have:=hm (i:Int) ∅ ∅;lia
def Good.Ky{n:Nat}{rows:cK}(h:Good n rows):∃ sh,Gd n rows sh:=by
 have hes:=h.es;let⟨en,rk,ln,f,hw,hm⟩:=h;let⟨sh,hs⟩:=Gw rk;have sd:=qV en
 have sl:∀ x:Int,0<=x->x<↑rows->↑(sh x)<=200:=λx x0 x1=>by
  have a:=vC sd rk hs hw x x0 _ (nM ∅);have:=hm x x0 x1;lia
 refine⟨sh,⟨λes he=>by have:=hes es he;lia,sd,rk,hs,λx x0 x1=>by have:=sl x x0 x1;lia⟩,PY sd rk hs (λes he e hm e0=>?_),sl,hes,en,ln⟩;rcases en es he e hm with z|z
 ·exact z
 ·lia
def Good.bears{n:Nat}{rows:cK}(h:Good n rows):∃ f,xO rows f:=by
 have hes:=h.es;let⟨en,rk,ln,f,hw,hm⟩:=h;exact⟨f,E,λes he=>by have:=hes es he;lia,qV en,rk,hw,hm⟩
def PZ{n:Nat}{rows:cK}{s:Nat}{es:List Int}(h:∀ es∈rows,∀ e∈es,sM n ↑rows e)(g:∀ e∈es,sM n ↑rows e):∀ Bj∈rows.set s es,∀ e∈Bj,sM n ↑(rows.set s es) e:=by
 intro Bj hm;rw[List.length_set];rcases List.mem_or_eq_of_mem_set hm with z|z
 ·exact h Bj z
 ·rw[z];exact g
theorem P0{sh:Int->List Int}{N:Int->Prop}(hs:∀ e,N e->∀ x∈cN sh e,N x)(p:Int):∀ (es:List Int) (f:Int),(∀ e∈es,N e)->∀ x,x∈aE sh p f es\/x∈bE sh p f es->N x
 | [],_,_=>λx hx=>by rcases hx with z | z <;> cases z
 | e::r,f,h=>by
  intro x hx;rw[aE,bE,List.mem_append,List.mem_append]at hx;have he:=hs e (h e (by simp));have ih:=P0 hs p r (f+↑(cN sh e)) (λy hy=>h y (nO _ hy)) x;rcases hx with (z|z)|(z|z)
  ·split at z
   ·rw[List.mem_singleton.mp z];exact h e (by simp)
   ·split at z
    ·cases z
    ·exact he x (List.mem_of_mem_take z)
  ·exact ih (.inl z)
  ·split at z
   ·cases z
   ·split at z
    ·rw[List.mem_singleton.mp z];exact h e (by simp)
    ·exact he x (List.mem_of_mem_drop z)
  ·exact ih (.inr z)
def xj{sh:Int->List Int}{N:Int->Prop}(hs:∀ e,N e->∀ x∈cN sh e,N x){p:Int}{es new:List Int}(h:∀ e∈es,N e)(g:∀ e∈new,N e):∀ e∈gf sh p es new,N e:=by
 intro x hx;unfold gf at hx;split at hx
 ·exact h x hx
 ·rw[List.mem_append,List.mem_append]at hx;rcases hx with (z|z)|z
  ·exact P0 hs p es 0 h x (.inl z)
  ·exact g x z
  ·exact P0 hs p es 0 h x (.inr z)
def Gd.cl{n:Nat}{rows:cK}{sh:Int->List Int}(h:Gd n rows sh):∀ e,sM n ↑rows e->∀ x∈cN sh e,sM n ↑rows x:=by
 intro e he x hx;unfold cN at hx;rcases he with z|z
 ·rw[if_neg ∅]at hx;rw[List.mem_singleton.mp hx];exact .inl z
 ·rw[if_pos z.1]at hx;exact .inl (h.WN _ ∅ z.2 x hx)
def Gd.own{n:Nat}{rows:cK}{sh:Int->List Int}(h:Gd n rows sh)(s:Int):∀ e∈fV.own rows s,sM n ↑rows e:=by
 unfold fV.own
 cases e:rows[s.toNat]? with
 | none=>exact λ_ z=>nomatch z
 | some es=>exact h.en es (m6 e)
inductive LD
 | put (s p:Int) (r:Addr) (row:Row)
 | Tc (t p s a b:Int)
 | win (t p s:Int)
def LD.sh:LD->Int
 | .put s _ _ _=>s
 | .Tc t _ _ _ _=>t
 | .win t _ _=>t
def LD.At(H:Hp)(d:Addr):LD->Prop
 | .put s p r row=>H d=⇑(.tup [.str "put",.int s,.int p,↥r])/\b5 H r row
 | .Tc t p s a b=>H d=⇑(.tup [.str "quote",.int t,.int p,.int s,.int a,.int b])
 | .win t p s=>H d=⇑(.tup [.str "window",.int t,.int p,.int s])
def LD.Ok(n m:Nat)(sh:Int->List Int):LD->Prop
 | .put s p _ row=>rP m s/\(0<=p/\p<=↑(sh s))/\↑row<=3/\∀ q∈row,0<=q.1/\q.1<q.2/\q.2<=(n:Nat)/\q.2<=q.1+90
 | .Tc t p s a b=>rP m t/\(0<=p/\p<=↑(sh t))/\rP m s/\YT a b ↑(sh s)
 | .win t p s=>rP m t/\(0<=p/\p<=↑(sh t))/\rP m s
def LD.res(sh:Int->List Int)(rows:cK):LD->List Int
 | .put s p _ row=>gf sh p (own rows s) (bI row)
 | .Tc t p s a b=>gf sh p (own rows t) (((sh s).take b.toNat).drop a.toNat)
 | .win t p s=>gf sh p (own rows t) [-1-s]
def LD.WN{n m:Nat}{sh:Int->List Int}{dd:LD}(h:dd.Ok n m sh):rP m dd.sh:=by
 cases dd with
 | _=>exact h.1
def LD.P1{n:Nat}{rows:cK}{sh:Int->List Int}(g:Gd n rows sh){dd:LD}(h:dd.Ok n ↑rows sh):∀ e∈dd.res sh rows,sM n ↑rows e:=by
 have cl:=g.cl
 cases dd with
 | put s p r row =>
  refine xj cl (g.own s) λe he=>.inl (Gu (λq hq=>?_) he);have:=h.2.2.2 q hq;exact⟨this.1,this.2.1,this.2.2.1⟩
 | Tc t p s a b =>
  refine xj cl (g.own t) λe he=>.inl (g.WN s h.2.2.1.1 h.2.2.1.2 e (List.mem_of_mem_take (List.mem_of_mem_drop he)))
 | win t p s =>
  refine xj cl (g.own t) λe he=>.inr ?_;rw[List.mem_singleton.mp he];have:=h.2.2;unfold rP at this;lia
def LD.At.same{H H':Hp}{d:Addr}{dd:LD}(s:aH H H')(h:dd.At H d):dd.At H' d:=by
 cases dd with
 | put=>exact⟨s _ _ h.1,h.2.same s⟩
 | _=>exact s _ _ h
def xY.Jd{rows:cK}(h:xY rows)(s:Int):¬ Reach (kg rows) s s:=by
 let⟨rk,_,hd⟩:=h
 have z:∀ y,Reach (kg rows) s y->rk y<rk s:=λy hy=>by
  induction hy with
  | one e=>exact hd _ _ e
  | step _ e ih=>exact Nat.lt_trans (hd _ _ e) ih
 exact λq=>Nat.lt_irrefl _ (z s q)
def xm{X:Cx}(hc:X.calm=true):jF X (.builtin "max") (λxs H Q=>∃ (p:Addr) (ns:List Int),xs=[↥p]/\bG X.K H p (ns.map V.int)/\0<↑ns/\∀ M,M∈ns->(∀ a∈ns,a<=M)->Q (.int M) H):=by
 intro ak s σ H xs us Q I r h;let⟨p,ns,rfl,hq,ne,q⟩:=h;let⟨u,rfl,rx⟩:=r.one;cases (show u=Value.ref p from rx);let⟨aQ,rv,pl,hz⟩:=I.list hq;have hi:PyProof.Rows.IntsAre aQ ns:=intsAre_of rv;let⟨xs,e⟩:=hi.allInts.items;have hl:=pl.isList
 have MQ:ns=xs.toList.map (·.1):=by
  rw[← hi.numsOf,← PySem.nums_intItems,← e]
 have hsz:0<xs.size:=by
  have h3:=ne;rw[MQ,bW,Array.length_toList]at h3;exact h3
 rw[e]at hl;refine PySem.max_intList (I.ok.hd hc) hl hsz λv h' tk hv hk=>?_;let⟨t,rfl⟩:=PySem.intItems_at hv;let⟨h1,h2⟩:=PySem.argBest_gt (PySem.numAt xs) (xs.size-1);refine⟨.int _,H,I.kept hk,⟨t,rfl⟩,q _ ?_ λa ha=>?_⟩
 ·rw[MQ,PySem.numAt_eq];exact PySem.getD_mem (by rw[bW,Array.length_toList];lia)
 ·rw[MQ]at ha;let⟨j,hj,rfl⟩:=PySem.mem_getD ha;rw[bW,Array.length_toList]at hj;rw[← PySem.numAt_eq];exact h2 j ∅
class inductive P4
 | mk (av:Addr->Prop) (r:Addr) (rows:cK) (s:Int) (f:Int->Int) (_:vs=[↥r,.int s]) (_:iX av H r rows) (_:↑rows<=40) (_:∀ es∈rows,↑es<=100000) (_:gw rows) (_:0<=s) (_:s<↑rows) (_:xY rows) (_:Weighs rows f) (_:∀ (b:Bool) (H':Hp),aH H H'->(b=true->Cr rows f)->(b=false->Cs rows f)->Q (.bl b) H')
theorem Gy:aG ["_law_rows","_law_sheet"] ["_law_rows","_law_sheet"] (az o7):=fC
theorem Gz:‹(43,86,["_law_rows","_law_sheet"],P4)›:=λD=>by
 refine fX D.ZW.F Gy λcH A zn s0 H vs Q E hr h=>?_;let⟨av,r,rows,s,f,rfl,R,ln,he,sd,s0,s1,R1,hf,k⟩:=h;refine⟨_,(aj (bN (aU Bs (pv 1) (aM D.VW (qU D) hr (aa (pv 0) (aa (pv 1) ah))) rfl) (au (aL kW)) aW) (au (aL (iO ji (b8 (xm rfl) rfl D.T.Ca PyProof.Rows.boot_max (aa (fR (N:=["_law_other","_law_rows"]) (jG (sc:=az o7) (NX:=["_law_rows","_law_sheet"]) (jx:=[none,some 0]) rfl rfl rfl nofun nofun rfl nofun rfl nofun) rfl (jJ rfl D.T.jQ (aa (eE D.T.d8 (pv 0)) ah)) (λ_ _ _ _ _ _=>(bY (i:=0) (show List.Nodup (["_law_other","_law_rows"]:List Str) by decide +kernel))) (λ_ _ _ _ _ _=>fQ) (λ_ _ _ _ _ _=>(aM D.OS (jw D 41) hr (aa (pv 1) (aa (pv 0) ah))))) ah)) ay (bu _))))),?_⟩;refine⟨Y,Y,Y,av,r,rows,s,rfl,R,E,he,sd,s0,s1,λL o H1 ho sm iff=>?_⟩;exists o,Y,.inl (bG.of ho),rfl,rC L,Y;rw[Dk];rw[decide_eq_false λhm=>R1.Jd s ((iff s).mp hm)];refine dF ?_;let⟨rk,rb,dn⟩:=id R1;have Rs:=R.same sm;let⟨vs,i9,al⟩:=id Rs;have lv:=al.len;have gN:∀ i:Nat,↑((List.range i).map λj:Nat=>f (j:Int))=i:=λi=>by rw[bW,List.length_range]
 refine⟨Y,r,Y,.inl (bG.of i9),Y,E,E,λacc cu=>mS (lo:=0) (k:=((↑vs:Nat):Int).toNat) (λi σ H2=>∃ u:Option V,σ=[u,⇑↥r]/\H2 acc=⇑(.lst (((List.range i).map λj:Nat=>f (j:Int)).map V.int))/\aH H1 H2) ⟨none,rfl,af,ao cu _⟩ ?_ ?_⟩
 ·rintro i σ H2 hi ⟨u,rfl,ha,s2⟩;have il:i<↑rows:=by lia
  refine⟨Y,Y,av,r,rows,0+(i:Int),f,rk,rfl,Rs.same s2,E,sd,E,E,hf,dn,by have:=rb (0+(i:Int));lia,_,ha,(by rw[bW,gN];exact aS ∅),Y,?_,bJ cu s2 (aF acc _ _)⟩;rw[af,List.range_succ,gC,gC,Int.zero_add];rfl
 ·rintro σ H2 ⟨u,rfl,ha,s2⟩;refine⟨acc,Y,bG.of ha,by rw[gN];lia,λM hMm hM=>⟨Z,?_⟩⟩;refine k _ H2 (sm.trans s2) (λz x x0 x1=>?_) λz=>?_
  ·have y:=hM (f x) (List.mem_map.mpr ⟨x.toNat,List.mem_range.mpr ∅,by rw[show ((x.toNat:Nat):Int)=x by lia]⟩);have:=of_decide_eq_true z;lia
  ·let⟨j,hj,e⟩:=List.mem_map.mp hMm;have:=List.mem_range.mp hj;have:=of_decide_eq_false z;exact⟨(j:Int),E,E,by rw[e];lia⟩
def GA:Sp:=λ_ _ _ _=>False
theorem An{k:Nat}{f:Addr}{ps:List Str}:aX P w K mg zt cO k f fd ps GA:=⟨λvs H Q E h=>h.elim,λA zn s H args us vs Q E _ _ _ _ h=>h.elim⟩
def gu{a b:Str}(h:a≠b){A B:Prop}(z:B):if decide (V.str a=V.str b)=true then A else B:=by
 rw[if_neg λy=>h (V.str.inj (of_decide_eq_true y))];exact z
def rJ{a:Str}{A B:Prop}(z:A):if decide (V.str a=V.str a)=true then A else B:=by
 rw[if_pos (decide_eq_true rfl)];exact z
def MG.at_{W:Addr->Prop}{H:Hp}{a:Addr}{rows:cK}(h:MG W ik ps H a rows):iX (λ_=>False) H a rows:=by
 let⟨_,_,_,vs,hv,al⟩:=h;exact⟨vs,hv,al.mono λv es ⟨b,e,K,hb⟩=>⟨b,e,λz=>z,hb⟩⟩
def Ao{rows:cK}{s:Int}(h:rP ↑rows s):rows[s.toNat]?=⇑(own rows s):=by
 have:s.toNat<↑rows:=by have:=h.1;have:=h.2;lia
 unfold own;rw[nM this];rfl
class inductive Kz
 | mk (W:Addr->Prop) (w d:Addr) (aJ:iz) (pq:iI) (rows:cK) (n:Nat) (sh:Int->List Int) (dd:LD) (_:vs=[↥w,↥d]) (_:Wo W H w aJ pq rows) (_:dd.At H d) (_:Gd n rows sh) (_:dd.Ok n ↑rows sh) (_:n<=10000) (_:∀ (o:Addr) (H':Hp),H' o=⇑(.lst ((dd.res sh rows).map V.int))->↑(dd.res sh rows)<=100000->aH H H'->H o=none->Q ↥o H')
theorem jy:aG ["_law_world_here","_law_deed","_law_rows","_law_name","_law_kept","_law_taken"] ["_law_world_here","_law_deed"] (az qx):=fC
theorem Eb:‹(45,87,["_law_world_here","_law_deed"],Kz)›:=λD=>by
 have rK:aX P w K mg zt cO 44 _ _ zl9 (Jb 41):=Jc D;have CF:aX P w K mg zt cO 44 (aY 82) (bq 82) ["_law_rows","_law_sheet","_law_start","_law_stop"] GA:=An;refine fX D.ZX.F jy λcH A zn s0 H vs Q E hr h=>?_;let⟨W,w,d,aJ,pq,rows,n,sh,dd,rfl,wo,hd,g,ok,n10,k⟩:=h;have hu:=jc hr;exists _,(aj (bx (i:=2) jy.nd (gi hu (pv 0) bh)) (aj (bx (i:=3) jy.nd (aN aT (pv 1) ay)) (aj (bN (aU cW (pv 3) bh (bu _)) (au (aL (aM D.OR rK hr (aa (pv 2) (aa (aN aT (pv 1) ay) (aa (aN aT (pv 1) ay) (aa (aM D.ZR (D4 D) hr (aa (aN aT (pv 1) ay) ah)) ah))))))) aW) (aj (bN (aU cW (pv 3) bh (bu _)) (au (aL (aN bz (aM D.ZT CF hr (aa (pv 2) (aa (aN aT (pv 1) ay) (aa (aN aT (pv 1) ay) (aa (aN aT (pv 1) ay) ah))))) ay))) aW) (aj (bN (aU cW (pv 3) bh (bu _)) (aj (lN (aM D.ZT CF hr (aa (pv 2) (aa (aN aT (pv 1) ay) (aa (aN aT (pv 1) ay) (aa (aN aT (pv 1) ay) ah))))) (oG (n:=2) rfl (cj (bY (i:=4) jy.nd) (cj (bY (i:=5) jy.nd) ie)))) (au (aL (aM D.OR rK hr (aa (aM D.VU (xQ D) hr (aa (pv 2) (aa (aN aT (pv 1) ay) (aa (pv 4) ah)))) (aa (aN aT (pv 1) ay) (aa (aN aT (pv 1) ay) (aa (pv 5) ah)))))))) aW) (aj (bN (aU cW (pv 3) bh (bu _)) (au (aL (aM D.OR rK hr (aa (pv 2) (aa (aN aT (pv 1) ay) (aa (aN aT (pv 1) ay) (aa (jV rj (aM D.FO (gX D 41) hr (aa (pv 2) (aa (aN aT (pv 1) ay) ah))) (kZ (aN aT (pv 1) ay)) (kZ (aN aT (pv 1) ay))) ah))))))) aW) (aj (bN (aU cW (pv 3) bh (bu _)) (au (aL (aM D.OR rK hr (aa (pv 2) (aa (aN aT (pv 1) ay) (aa (aN aT (pv 1) ay) (aa (bO (aa (bP dY (fG dc ay) (aN aT (pv 1) ay)) ah)) ah))))))) aW) (aj (bN (aU cW (pv 3) bh (bu _)) (au (aL (aM D.FO (gX D 41) hr (aa (pv 2) (aa (aN aT (pv 1) ay) ah))))) aW) (au (aL (aN bz (aN bz (gi hu (pv 0) bh) (aN aT (pv 1) ay)) (aN aT (pv 1) ay))))))))))));let⟨ik,fc,ps,vl,wu⟩:=id wo;have zr:=gT.k (k:=kR) wu.hw;rw[show cz (qc ik fc ps vl) kR=⇑↥fc by kernel_rfl]at zr;have R:=wu.hr.at_;let⟨rk,rb,dn⟩:=g.sn.rk;have XD:=g.ln;have lr:↑rows<=1000:=by lia
 have rb':∀ s,rk s<=41:=λs=>by have:=rb s;lia
 have e25:∀ es∈rows,↑es<=25000:=λes he=>by have:=g.es es he;lia
 exists Y,w,Y,zr
 have iH:∀ {s p:Int} {new:List Int} {q o:Addr} {H1:Hp} {Q:VK} {E:XK},rP ↑rows s->iX (λ_=>False) H1 q rows->H1 o=⇑(.lst (new.map V.int))->↑new<=25000->aH H H1->(∀ (o:Addr) (H':Hp),H' o=⇑(.lst ((gf sh p (own rows s) new).map V.int))->↑(gf sh p (own rows s) new)<=100000->aH H H'->H o=none->Q ↥o H')->Jb 41 [↥q,.int s,.int p,↥o] H1 Q E:=by
  intro s p new q o H1 Q E is R1 ho ln s1 k1;refine⟨_,q,o,rows,s,p,new,sh,rk,rfl,R1,lr,e25,g.sn.sd,g.sn.ss,g.sn.ln,dn,is.1,is.2,rb' s,ho,ln,λes o2 H2 uu h2 l2 s2 f2=>?_⟩;rw[Ao is]at uu;cases uu;exact k1 o2 H2 h2 l2 (s1.trans s2) (bw s1 f2)
 cases dd with
 | put s p r row =>
  let⟨hd,WO⟩:=hd;let⟨is,ip,l2,hq⟩:=ok;exists Y,d,K,V,dN.of hd,FI;refine⟨Y,rfl,Y,rJ ?_⟩;have bd:=Ak (k:=90) (row:=row) λq h=>by have:=hq q h;lia
  refine⟨Y,Y,d,K,V,dN.of hd,LR,Y,d,K,V,dN.of hd,LS,Y,d,K,V,dN.of hd,LV,r,row,rfl,WO,λq h=>by have:=hq q h;lia,E,E,λo1 H1 h1 s1 f1=>?_⟩;exact iH is (R.same s1) h1 ∅ s1 k
 | Tc t p s a b =>
  let⟨it,ip,is,i3⟩:=ok;exists Y,d,K,V,dN.of hd,FI;refine⟨Y,rfl,Y,gu nofun ⟨Y,rfl,Y,gu nofun ⟨Y,rfl,Y,gu nofun ⟨Y,rfl,Y,rJ ?_⟩⟩⟩⟩;have ls:=g.sl s is.1 is.2;refine⟨Y,Y,d,K,V,dN.of hd,LR,Y,d,K,V,dN.of hd,LS,Y,Y,d,K,V,dN.of hd,LV,_,fc,rows,s,sh,rk,rfl,R,lr,g.sn.sd,is.1,is.2,g.sn.ss,g.sn.ln,dn,by have:=rb s;lia,λo1 H1 h1 s1 f1=>?_⟩;have TR:=s1 _ _ hd;refine⟨Y,d,K,V,dN.of TR,Y7,Y,Y,d,K,V,dN.of TR,Y8,Y,o1,Y,bG.of h1,λq hq=>?_⟩;have s2:=ao hq (.lst (jW ((sh s).map V.int) (⇑a) (⇑b)));have h2:(aO H1 q (.lst (jW ((sh s).map V.int) (⇑a) (⇑b)))) q=⇑(.lst ((((sh s).take b.toNat).drop a.toNat).map V.int)):=by rw[af,Pp _ i3.1 (by have:=i3.1;have:=i3.2.1;lia),List.map_drop,List.map_take]
  generalize aO H1 q (.lst (jW ((sh s).map V.int) (⇑a) (⇑b)))=H2 at s2 h2;exact iH it (R.same (s1.trans s2)) h2 (by rw[sP,gx];lia) (s1.trans s2) k
 | win t p s =>
  let⟨it,ip,is⟩:=ok;exists Y,d,K,V,dN.of hd,FI;refine⟨Y,rfl,Y,gu nofun ⟨Y,rfl,Y,gu nofun ⟨Y,rfl,Y,gu nofun ⟨Y,rfl,Y,gu nofun ⟨Y,rfl,Y,rJ ?_⟩⟩⟩⟩⟩;refine⟨Y,Y,d,K,V,dN.of hd,LR,Y,d,K,V,dN.of hd,LS,Y,Y,d,K,V,dN.of hd,LV,Z,kG,λq hq=>?_⟩;exact iH it (R.same (ao hq _)) af (by show 1<=25000;decide) (ao hq _) k
theorem GB{n:Nat}{row:Row}(h:∀ z∈row,0<=z.1/\z.1<z.2/\z.2<=(n:Nat)):qN n row=true:=List.all_eq_true.mpr λq hq=>by
 have:=h q hq;unfold QB;simp only[Bool.and_eq_true,decide_eq_true_eq];lia
def aaI{i:Int}(h0:0<=i)(h1:i<=20000):Dd i:=by
 have a:(20000:Int)<10^60:=by decide
 exact⟨E,E⟩
class inductive P5(C CS CW CB XH:Addr)
 | mk (U:Addr->Prop) (x d:Addr) (pe:iI) (aC:jb) (aJ:iz) (nW:Nat) (b9:Row) (rows:cK) (sh:Int->List Int) (dd:LD) (_:vs=[↥x,↥d]) (_:rR C CS CW CB U H x pe aC aJ nW b9) (_:pe.getLast?=⇑rows) (_:↑pe<=900) (_:↑aC<=900) (_:↑aJ<=10000) (_:dd.At H d) (_:Gd ↑aJ rows sh) (_:dd.Ok ↑aJ ↑rows sh) (f:Int->Int) (_:Wv (ja rows dd.sh.toNat (dd.res sh rows)) f) (_:Cr (ja rows dd.sh.toNat (dd.res sh rows)) f->∀ (U':Addr->Prop) (H':Hp) (iG:jb),↑iG=↑aC+1->rR C CS CW CB U' H' x (pe++[ja rows dd.sh.toNat (dd.res sh rows)]) iG aJ nW b9->MY U U' H H'->Q .gj H') (_:Cs (ja rows dd.sh.toNat (dd.res sh rows)) f->∀ H',aH H H'->E ↥XH none H')
theorem xR:aG ["_law_house","_law_deed","_law_name"] ["_law_house","_law_deed"] (az tO):=fC
def GC(D:Ds K mg aY bq C CS CW CB CT CD aA):aX P w K mg zt (EC P w) 7 (aY 92) (bq 92) ["_law_house","_law_deed"] (P5 C CS CW CB aA):=by
 have nL:aX P w K mg zt cO 4 (aY 59) (bq 59) ["self","hand","text"] GA:=An;have Aq:aX P w K mg zt cO 4 (aY 56) (bq 56) ["self"] GA:=An;have A5:aX P w K mg zt cO 4 (aY 91) (bq 91) ["self","sheet","moment"] GA:=An;have Ec:aX P w K mg zt cO 6 (aY 88) (bq 88) ["self","sheet","start","stop"] GA:=An;have A6:aX P w K mg zt cO 6 (aY 89) (bq 89) ["self","sheet","start","stop","to"] GA:=An;have Ed:aX P w K mg zt cO 6 (aY 90) (bq 90) ["self","sheet"] GA:=An;refine Xq D.VX.F xR λcH A zn s0 H vs Q E hr h=>?_;let⟨U,x,d,pe,aC,aJ,nW,b9,rows,sh,dd,rfl,LB,hl,l2,l3,l4,hd,g,ok,fw,B,k,kh⟩:=h;exists _,(aj (bx (i:=2) xR.nd (aN aT (pv 1) ay)) (aj (bN (aU cW (pv 2) bh (bu _)) (au (aL (cJ (pv 0) D.aP D.RV nL hr bS (aa (aN aT (pv 1) ay) (aa (aN aT (pv 1) ay) ah))))) aW) (aj (bN (aU cW (pv 2) bh (bu _)) (au (aL (eL (pv 0) D.aP D.VS Aq hr bS))) aW) (aj (bN (aU cW (pv 2) bh (bu _)) (au (aL (cJ (pv 0) D.aP D.ZE (Ad D) hr zw (aa (aN aT (pv 1) ay) (aa (aN aT (pv 1) ay) (aa (d7 fP rfl D.T.iZ sN (aa (aN aT (pv 1) ay) ah)) ah)))))) aW) (aj (bN (aU cW (pv 2) bh (bu _)) (au (aL (cJ (pv 0) D.aP D.adF Ec hr bS (aa (aN aT (pv 1) ay) (aa (aN aT (pv 1) ay) (aa (aN aT (pv 1) ay) ah)))))) aW) (aj (bN (aU cW (pv 2) bh (bu _)) (au (aL (cJ (pv 0) D.aP D.adG A6 hr bS (aa (aN aT (pv 1) ay) (aa (aN aT (pv 1) ay) (aa (aN aT (pv 1) ay) (aa (aN aT (pv 1) ay) ah))))))) aW) (aj (bN (aU cW (pv 2) bh (bu _)) (au (aL (cJ (pv 0) D.aP D.ZF (wY D) hr zw (aa (aN aT (pv 1) ay) (aa (aN aT (pv 1) ay) (aa (aN aT (pv 1) ay) (aa (aN aT (pv 1) ay) (aa (aN aT (pv 1) ay) ah)))))))) aW) (aj (bN (aU cW (pv 2) bh (bu _)) (au (aL (cJ (pv 0) D.aP D.ZH (vt D) hr zw (aa (aN aT (pv 1) ay) (aa (aN aT (pv 1) ay) (aa (aN aT (pv 1) ay) ah)))))) aW) (aj (bN (aU cW (pv 2) bh (bu _)) (au (aL (cJ (pv 0) D.aP D.adH Ed hr bS (aa (aN aT (pv 1) ay) ah)))) aW) (au (aL (cJ (pv 0) D.aP D.adI A5 hr bS (aa (aN aT (pv 1) ay) (aa (aN aT (pv 1) ay) ah))))))))))))));have XD:=g.ln;have l1:↑rows<=50:=by lia
 have sn:=g.sn;have one:∀ {l:List Nat},↑(aC++[l])=↑aC+1:=λ{l}=>by rw[dM];rfl
 have iH:∀ {s:Int},rP ↑rows s->Dd s:=λz=>aaI z.1 (by have:=z.2;lia);have fle:∀ {s p:Int},rP ↑rows s->0<=p->p<=↑(sh s)->Dd p:=λz p0 p1=>aaI p0 (by have:=g.sl _ z.1 z.2;lia);let⟨S',WC,d',Xr,M1,bl',kn',du',bk',dS',CP,G5,dw',sg',ow',pw',db',tb',IY,LU⟩:=id LB;have hx:=LU.L.hx
 cases dd with
 | put s p r row =>
  let⟨hd,WO⟩:=hd;let⟨is,ip,r2,hq⟩:=ok;have hh:=GB (n:=↑aJ) (row:=row) λz h=>by have:=hq z h;exact⟨this.1,this.2.1,this.2.2.1⟩
  let⟨as,ha,pa⟩:=id WO;exists Y,d,K,V,dN.of hd,FI;refine⟨Y,rfl,Y,gu nofun ⟨Y,rfl,Y,gu nofun ⟨Y,rfl,Y,rJ ?_⟩⟩⟩;refine⟨Y,x,d',Y,hx,rfl,Y,d,K,V,dN.of hd,LR,Y,d,K,V,dN.of hd,LS,Y,d,K,V,dN.of hd,LV,r,Y,.inl (bG.of ha),λq UR=>?_⟩;have s1:=ao UR (.lst (as.map V.ref));have Qs:b5 (aO H q (.lst (as.map V.ref))) q row:=⟨as,af,pa.same s1⟩;generalize aO H q (.lst (as.map V.ref))=H1 at s1 Qs;refine⟨U,x,q,pe,aC,aJ,nW,b9,row,s,p,rows,rfl,LB.same s1,Qs,⟨E,λz h=>by have:=hq z h;exact⟨⟨E,E⟩,⟨E,E⟩⟩⟩,E,hl,l1,l2,l3,iH is,fle is ip.1 ip.2,is,hh,⟨sh,sn,ip,λes uu=>?_⟩⟩;rw[Ao is]at uu;cases uu
  have ee:eN (fH (cB row))=bI row:=by
   rw[qJ,j0 _ λq h=>by have:=hq q h;lia]
  rw[ee];exact⟨fw,B,λlt U' H' L' fr=>k lt U' H' _ one L' (fr.pre s1),λhv H' s'=>kh hv H' (s1.trans s')⟩
 | Tc t p s a b =>
  let⟨it,ip,is,i3⟩:=ok;exists Y,d,K,V,dN.of hd,FI;refine⟨Y,rfl,Y,gu nofun ⟨Y,rfl,Y,gu nofun ⟨Y,rfl,Y,gu nofun ⟨Y,rfl,Y,gu nofun ⟨Y,rfl,Y,gu nofun ⟨Y,rfl,Y,rJ ?_⟩⟩⟩⟩⟩⟩;refine⟨Y,x,d',Y,hx,rfl,Y,d,K,V,dN.of hd,LR,Y,d,K,V,dN.of hd,LS,Y,d,K,V,dN.of hd,LV,Y,d,K,V,dN.of hd,Y7,Y,d,K,V,dN.of hd,Y8,U,x,pe,aC,aJ,nW,b9,t,p,s,a,b,rows,rfl,LB,hl,l1,l2,l3,iH it,fle it ip.1 ip.2,iH is,fle is i3.1 (by have:=i3.2.1;have:=i3.2.2;lia),fle is (by have:=i3.2.1;have:=i3.1;lia) i3.2.2,it,is,⟨sh,sn,i3,⟨ip,λes uu=>?_⟩⟩⟩;rw[Ao it]at uu;cases uu;exact⟨fw,B,λlt U' H' L' fr=>k lt U' H' _ one L' fr,kh⟩
 | win t p s =>
  let⟨it,ip,is⟩:=ok;exists Y,d,K,V,dN.of hd,FI;refine⟨Y,rfl,Y,gu nofun ⟨Y,rfl,Y,gu nofun ⟨Y,rfl,Y,gu nofun ⟨Y,rfl,Y,gu nofun ⟨Y,rfl,Y,gu nofun ⟨Y,rfl,Y,gu nofun ⟨Y,rfl,Y,rJ ?_⟩⟩⟩⟩⟩⟩⟩;refine⟨Y,x,d',Y,hx,rfl,Y,d,K,V,dN.of hd,LR,Y,d,K,V,dN.of hd,LS,Y,d,K,V,dN.of hd,LV,U,x,pe,aC,aJ,nW,b9,t,p,s,rows,rfl,LB,hl,l1,l2,l3,iH it,fle it ip.1 ip.2,iH is,it,is,⟨sh,sn,ip,λes uu=>?_⟩⟩;rw[Ao it]at uu;cases uu;exact⟨fw,B,λlt U' H' L' fr=>k lt U' H' _ one L' fr,kh⟩
def vD(f:Int->Int)(a b:List Int):dX f (a++b)=dX f a+dX f b:=by unfold dX;rw[gC,List.sum_append]
theorem vE(f:Int->Int):∀ {xs:List Int},(∀ x∈xs,0<=x)->dX f xs=(↑xs:Int)
 | [],_=>rfl
 | x::r,h=>by
  have:=h x (by simp);rw[gr,vE f λy hy=>h y (nO _ hy),if_neg ∅,jS];lia
theorem KA{sh:Int->List Int}{f:Int->Int}(p:Int):∀ (es:List Int) (n:Int),(∀ y∈dz es,(↑(sh y):Int)<=f y/\∀ a∈sh y,0<=a)->dX f (aE sh p n es)+dX f (bE sh p n es)<=dX f es
 | [],_,_=>by simp[aE,bE,dX]
 | e::r,n,h=>by
  have ih:=KA (sh:=sh) (f:=f) p r (n+↑(cN sh e)) λy hy=>h y (bM.mpr ⟨(bM.mp hy).1,nO _ (bM.mp hy).2⟩);rw[aE,bE,vD,vD,gr];by_cases c1:n+(↑(cN sh e):Int)<=p
  ·rw[if_pos c1,if_pos c1,gr];have:dX f []=0:=rfl;lia
  rw[if_neg c1,if_neg c1];by_cases c2:p<=n
  ·rw[if_pos c2,if_pos c2,gr];have:dX f []=0:=rfl;lia
  rw[if_neg c2,if_neg c2];by_cases c:e<0
  ·let⟨h1,h2⟩:=h (-1-e) (bM.mpr ⟨E,by rw[show -1-(-1-e)=e by lia];simp⟩);have Bj:cN sh e=sh (-1-e):=if_pos c;rw[Bj,vE f λx hx=>h2 x (List.mem_of_mem_take hx),vE f λx hx=>h2 x (List.mem_of_mem_drop hx),if_pos c,gx,sP];rw[Bj]at ih;lia
  ·have Bj:cN sh e=[e]:=if_neg c;rw[Bj]at c1;simp only[jS,m9]at c1;lia
def aaK{sh:Int->List Int}{f:Int->Int}{p:Int}{es new:List Int}(h:∀ y∈dz es,(↑(sh y):Int)<=f y/\∀ a∈sh y,0<=a):dX f (gf sh p es new)<=dX f es+dX f new:=by
 unfold gf;split
 ·rename_i e;rw[e];have:dX f []=0:=rfl;lia
 ·have:=KA p es 0 h;rw[vD,vD];lia
theorem GD{f g:Int->Int}{k:Int}(k1:1<=k):∀ {es:List Int},(∀ y∈dz es,1+g y<=k*(1+f y))->dX g es<=k*dX f es
 | [],_=>by simp[dX]
 | e::r,h=>by
  have ih:=GD (f:=f) (g:=g) k1 (es:=r) λy hy=>h y (bM.mpr ⟨(bM.mp hy).1,nO _ (bM.mp hy).2⟩);rw[gr,gr,Int.mul_add];by_cases c:e<0
  ·have:=h (-1-e) (bM.mpr ⟨E,by rw[show -1-(-1-e)=e by lia];simp⟩);rw[if_pos c,if_pos c];lia
  ·rw[if_neg c,if_neg c];lia
def aaL{rows:cK}{f g:Int->Int}{k:Int}{es:List Int}(R:xY (rows.set k.toNat es))(sd:gw (rows.set k.toNat es))(S:Weighs rows f)(S':Weighs (rows.set k.toNat es) g)(k0:0<=k):∀ x:Int,0<=x->x<↑rows->x≠k->¬ Reach (kg (rows.set k.toNat es)) x k->g x=f x:=by
 let⟨rk,rb,dn⟩:=R
 have key:∀ (m:Nat) (x:Int),rk x<m->0<=x->x<↑rows->x≠k->¬ Reach (kg (rows.set k.toNat es)) x k->g x=f x:=by
  intro m
  induction m with
  | zero=>intro x h;lia
  | succ m ih =>
   intro x hx x0 x1 nk nr;have he:rows[x.toNat]?=⇑rows[x.toNat]:=nM ∅;have he':(rows.set k.toNat es)[x.toNat]?=⇑rows[x.toNat]:=by rw[List.getElem?_set_ne (λz=>nk ∅)];exact he
   rw[S x _ x0 he,S' x _ x0 he'];refine t6 λy hy=>?_;have n:kg (rows.set k.toNat es) x y:=⟨x0,_,he',hy⟩;let⟨y0,y1⟩:=sd.J8 n;rw[List.length_set]at y1;have:=dn _ _ n;exact ih y ∅ y0 y1 (λz=>nr (by subst z;exact .one n)) λz=>nr ((Reach.one n).trans z)
 exact λx=>key (rk x+1) x (Nat.lt_succ_self _)
def aaM{rows:cK}{f g:Int->Int}{s:Int}{es:List Int}(hw:Weighs rows f)(m:∀ x:Int,0<=x->x<↑rows->0<=f x/\f x<=200)(R:xY (rows.set s.toNat es))(sd:gw (rows.set s.toNat es))(hg:Weighs (rows.set s.toNat es) g)(s0:0<=s)(s1:s<↑rows)(e6:dX f es<=600):∀ x:Int,0<=x->x<↑rows->g x<=1000000:=by
 have aaN:(rows.set s.toNat es)[s.toNat]?=⇑es:=by rw[List.getElem?_set,if_pos rfl,if_pos ∅]
 have gs:g s<=600:=by
  rw[hg s _ s0 aaN]
  have:dX g es=dX f es:=t6 λy hy=>by
   have n:kg (rows.set s.toNat es) s y:=⟨s0,_,aaN,hy⟩;let⟨y0,y1⟩:=sd.J8 n;rw[List.length_set]at y1;exact aaL R sd hw hg s0 y y0 y1 (λz=>R.Jd s (by subst z;exact .one n)) λz=>R.Jd s ((Reach.one n).trans z)
  lia
 let⟨rk,rb,dn⟩:=R
 have key:∀ (k:Nat) (x:Int),rk x<k->0<=x->x<↑rows->1+g x<=601*(1+f x):=by
  intro k
  induction k with
  | zero=>intro x h;lia
  | succ k ih =>
   intro x hx x0 x1;have fx:=m x x0 x1;by_cases c:x=s
   ·rw[c]at fx ⊢;lia
   have he:rows[x.toNat]?=⇑rows[x.toNat]:=nM ∅;have he':(rows.set s.toNat es)[x.toNat]?=⇑rows[x.toNat]:=by rw[List.getElem?_set_ne (λz=>c ∅)];exact he
   have z:=GD (f:=f) (g:=g) (k:=601) ∅ (es:=rows[x.toNat]) λy hy=>by
    have n:kg (rows.set s.toNat es) x y:=⟨x0,_,he',hy⟩;let⟨y0,y1⟩:=sd.J8 n;rw[List.length_set]at y1;have:=dn _ _ n;exact ih y ∅ y0 y1
   rw[← hw x _ x0 he,← hg x _ x0 he']at z;lia
 intro x x0 x1;have:=key (rk x+1) x (Nat.lt_succ_self _) x0 x1;have:=m x x0 x1;lia
theorem GF{k:Int}:∀ {ns:List Int},k∈ns->∃ a b,ns=a++k::b/\k∉a
 | x::r,h=>by
  by_cases c:x=k
  ·exact⟨[],r,by rw[c];rfl,λz=>by cases z⟩
  ·let⟨a,b,e,n⟩:=GF (ns:=r) ((List.mem_cons.mp h).resolve_left λz=>c z.symm);exact⟨x::a,b,by rw[e];rfl,λz=>(List.mem_cons.mp z).elim (λz=>c z.symm) n⟩
def GG{H:Hp}{q a:Addr}{as:List Addr}{row:Row}{i j:Int}(hq:H q=⇑(.lst (as.map V.ref)))(hp:br H as row)(ha:H a=none):(aO (aO H a (.tup [.int i,.int j])) q (.lst (as.map V.ref++[↥a]))) q=⇑(.lst ((as++[a]).map V.ref))/\br (aO (aO H a (.tup [.int i,.int j])) q (.lst (as.map V.ref++[↥a]))) (as++[a]) (row++[(i,j)]):=by
 have n:=aB hq ha;refine⟨by rw[af,gC];rfl,((hp.same (ao ha _)).keep (l:=q) (by rw[aK n];exact hq) (aF _ _ _)).snoc ?_⟩;show _=_;rw[aK n.symm,af]
def LD.New(H:Hp):LD->Prop
 | .put _ _ r _=>H r=none
 | _=>True
def aeC(X:PySem.W.Frag):TS:=λD σ H=>∃ (l w rw wt:Addr) (ns:List Int) (v s:Int),σ=[⇑↥l,⇑↥w,⇑↥rw,⇑↥wt,⇑(.int v),⇑(.int s),none,none,none,none,none,none,none]/\H wt=⇑(.lst (ns.map V.int))/\0<↑ns/\↑ns<=1000/\rP ↑ns s/\∀ s',rP ↑ns s'->D.nx [⇑↥l,⇑↥w,⇑↥rw,⇑↥wt,⇑(.int v),⇑(.int s'),none,none,none,none,none,none,none] H
def aeD:TS:=λD σ H=>∃ (u0 u1 u2 u3 u5 u6 u7 u8:Option V) (v m lf:Int),σ=[u0,u1,u2,u3,⇑(.int v),u5,u6,u7,u8,⇑(.int m),⇑(.int lf),none,none]/\1<=m/\m<=60/\lf<=201/\∀ m',1<=m'->m'<=201->D.nx [u0,u1,u2,u3,⇑(.int v),u5,u6,u7,u8,⇑(.int m'),⇑(.int lf),none,none] H
class inductive KC
 | mk (W:Addr->Prop) (l c w:Addr) (aJ:iz) (pq:iI) (rows:cK) (sh:Int->List Int) (f:Int->Int) (_:vs=[↥l,↥w]) (_:iL H l c) (_:Wo W H w aJ pq rows) (_:∀ a,W a->a≠l/\a≠c) (_:Gd ↑aJ rows sh) (_:Weighs rows f) (_:∀ x:Int,0<=x->x<↑rows->0<=f x/\f x<=200) (_:1<=↑rows) (_:110<=↑aJ) (_:↑aJ<=10000) (_:∀ (t:Addr) (dd:LD) (H':Hp),dd.At H' t->dd.Ok ↑aJ ↑rows sh->dd.New H->iL H' l c->cy l H H'->Q ↥t H')
theorem cE:aG ["_law_src_here","_law_world_here","_law_rows","_law_weights","_law_way","_law_sheet","_law_other","_law_room","_law_place","_law_many","_law_left","_law_start","_law_row"] ["_law_src_here","_law_world_here"] (az mQ):=fC
theorem Ef:‹(43,93,["_law_src_here","_law_world_here"],KC)›:=λD=>by
 have dR:aX P w K mg zt cO 1 _ _ zl3 Dc:=mV D;refine fX D.ZY.F cE λcH A zn s0 H vs Q E hr h=>?_;let⟨W,l,c,w,aJ,pq,rows,sh,f,rfl,S,wo,dw,g,hf,f2,r1,i0,i1,k⟩:=h;have hu:=jc hr;refine⟨_,(aj (bx (i:=2) cE.nd (gi hu (pv 1) bh)) (aj (Di (N:=["_law_one","_law_rows"]) (i:=3) (jG (sc:=az mQ) (NX:=["_law_src_here","_law_world_here","_law_rows","_law_weights","_law_way","_law_sheet","_law_other","_law_room","_law_place","_law_many","_law_left","_law_start","_law_row"]) (jx:=[none,some 2]) rfl rfl rfl nofun nofun rfl nofun rfl nofun) rfl cE.nd rfl rfl (jJ rfl D.T.jQ (aa (eE D.T.d8 (pv 2)) ah)) (λ_ _ _ _ _ _=>(bY (i:=0) (show List.Nodup (["_law_one","_law_rows"]:List Str) by decide +kernel))) (λ_ _ _ _ _ _=>fQ) (λ_ _ _ _ _ _=>(aM D.OS (jw D 41) hr (aa (pv 1) (aa (pv 0) ah))))) (aj (bx (i:=4) cE.nd (aM D.IE dR hr (aa (pv 0) (aa ay ah)))) (aj (bx (i:=5) cE.nd (aM D.IE dR hr (aa (pv 0) (aa (eE D.T.d8 (pv 2)) ah)))) (aj (zh (t':=aeC K) (bN (aU cW (pv 4) ay (bu _)) (au (bx (i:=5) cE.nd (dm pI PySem.F.slot_list_index PySem.F.type_list_index zI.LW (pv 3) (aa (b8 (xm rfl) rfl D.T.Ca PyProof.Rows.boot_max (aa (pv 3) ah)) ah)))) aW) ?b1) (aj (bx (i:=6) cE.nd (aM D.IE dR hr (aa (pv 0) (aa (eE D.T.d8 (pv 2)) ah)))) (aj (bx (i:=7) cE.nd (eE D.T.d8 (aM D.FO (gX D 41) hr (aa (pv 2) (aa (pv 6) ah))))) (aj (bx (i:=8) cE.nd (aN bz (bO (aa ay (aa (eE D.T.d8 (aM D.FO (gX D 41) hr (aa (pv 2) (aa (pv 5) ah)))) ah))) (aM D.IE dR hr (aa (pv 0) (aa ay ah))))) (aj (bN (aU cW (pv 4) ay (bu _)) (au (aL (cG (aa bh (aa (pv 5) (aa (pv 8) (aa (pv 6) (aa ay (aa (pv 7) ah))))))))) aW) (aj (bN (aU cW (pv 4) ay (bu _)) (au (aL (cG (aa bh (aa (pv 5) (aa (pv 8) (aa (pv 6) ah))))))) aW) (aj (bx (i:=9) cE.nd (bP fj ay (aM D.IE dR hr (aa (pv 0) (aa ay ah))))) (aj (bx (i:=10) cE.nd (bP fj (bP dY ay (b8 (xm rfl) rfl D.T.Ca PyProof.Rows.boot_max (aa (pv 3) ah))) (aM D.IE dR hr (aa (pv 0) (aa ay ah))))) (aj (zh (t':=aeD) (bN (PW.pt (oF (aU cW (pv 4) ay (bu _)) (mK (aU uy (pv 10) ay (bu _))))) (au (bx (i:=9) cE.nd (pv 10))) aW) ?b2) (aj (bx (i:=11) cE.nd (aM D.IE dR hr (aa (pv 0) (aa ay ah)))) (aj (bx (i:=12) cE.nd (bO (aa (cG (aa (pv 11) (aa (bP fj (pv 11) (b8 (nR rfl) rfl D.T.FJ PyProof.Rows.boot_min (aa (pv 9) (aa ay ah)))) ah))) ah))) (aj (bN (aU uy (pv 9) ay (bu _)) (au (aV (dm pI jA jB bT (pv 12) (aa (cG (aa ay (aa (b8 (nR rfl) rfl D.T.FJ PyProof.Rows.boot_min (aa (bP dY (pv 9) ay) (aa ay ah))) ah))) ah)))) aW) (aj (bN (aU uy (pv 9) ay (bu _)) (au (aV (dm pI jA jB bT (pv 12) (aa (cG (aa ay (aa (bP dY (pv 9) ay) ah))) ah)))) aW) (au (aL (cG (aa bh (aa (pv 5) (aa (pv 8) (aa (pv 12) ah)))))))))))))))))))))))),?_⟩
 case b1 =>
  rintro D σ H ⟨l,w,fc,wt,ns,v,s,rfl,hw,n0,n1,is,k⟩;refine⟨Y,rfl,Y,cM (λ_=>?_) (λ_=>k s is)⟩;refine⟨Y,.inl ⟨rfl,_,bG.of hw⟩,Y,wt,ns,rfl,bG.of hw,n0,λM hM _=>?_⟩;let⟨a,b,rfl,na⟩:=GF hM;rw[dM,jS]at n1 k;exact⟨wt,M,a,b,V,hw,na,E,k _ ⟨E,E⟩⟩
 case b2 =>
  rintro D σ H ⟨u0,u1,u2,u3,u5,u6,u7,u8,v,m,lf,rfl,m1,m2,l2,k⟩;refine⟨Y,rfl,Y,cM (λ_=>?_) (λ_=>dF (k m m1 ∅))⟩;refine⟨Y,Z,Y,cM (λc=>?_) (λ_=>k m m1 ∅)⟩;have:=of_decide_eq_true c;exact⟨Y,k lf ∅ l2⟩
 let⟨ik,fc,ps,vl,wu⟩:=id wo;have zr:=gT.k (k:=kR) wu.hw;rw[show cz (qc ik fc ps vl) kR=⇑↥fc by kernel_rfl]at zr;have XD:=g.ln;let⟨rk,rb,dn⟩:=id g.sn.rk;let⟨ls,hls⟩:=S.lst;have kp:∀ {H1:Hp},cy l H H1->iX (λ_=>False) H1 fc rows:=λ{H1} K1=>(wu.hr.fr (λ_ z=>z) λa xs e wa _ _=>K1 _ _ e (dw a wa).1).at_
 have lv:∀ {H1:Hp},cy l H H1->∃ xs,H1 fc=⇑(.lst xs)/\↑xs=↑rows:=λ{H1} K1=>by
  let⟨xs,e,al⟩:=kp K1;exact⟨xs,e,al.len⟩
 let⟨x0,e0,n0⟩:=lv (cy.refl l H);have Rs:=kp (cy.refl l H);have gN:∀ i:Nat,↑((List.range i).map λj:Nat=>f (j:Int))=i:=λi=>by rw[bW,List.length_range]
 exists Y,w,Y,zr;refine⟨Y,fc,Y,.inl (bG.of e0),Y,E,E,λacc cu=>mS (lo:=0) (k:=((↑x0:Nat):Int).toNat) (λi σ H2=>∃ u:Option V,σ=[u,⇑↥fc]/\H2 acc=⇑(.lst (((List.range i).map λj:Nat=>f (j:Int)).map V.int))/\aH H H2) ⟨none,rfl,af,ao cu _⟩ ?_ ?_⟩
 ·rintro i σ H2 hi ⟨u,rfl,ha,s2⟩;refine⟨Y,Y,_,fc,rows,0+(i:Int),f,rk,rfl,Rs.same s2,E,g.sn.sd,E,E,hf,dn,by have:=rb (0+(i:Int));lia,_,ha,(by rw[bW,gN];exact aS ∅),Y,?_,bJ cu s2 (aF acc _ _)⟩;rw[af,List.range_succ,gC,gC,Int.zero_add];rfl
 rintro σ H2 ⟨u,rfl,ha,s2⟩;rw[show ((↑x0:Nat):Int).toNat=↑rows by lia]at ha;have nal:acc≠l:=(S.ne cu).1.symm;have K2:cy l H H2:=fV.aH.keep s2;refine⟨Y,l,c,4,rfl,S.same s2,by decide,by decide,λv H3 v0 v1 S3 k3=>?_⟩;have K3:cy l H H3:=K2.trans (cA k3);let⟨x3,e3,n3⟩:=lv K3;refine⟨Y,Y,fc,Y,.inl (bG.of e3),l,c,Y,S3,E,E,λs H4 a0 a1 S4 k4=>?_⟩;have K4:cy l H H4:=K3.trans (cA k4);have K24:cy l H2 H4:=(cA k3).trans (cA k4);have ha4:=K24 _ _ ha nal;refine⟨l,w,fc,acc,_,v,s,rfl,ha4,by rw[gN];lia,by rw[gN];lia,by rw[gN];exact⟨a0,E⟩,λs' Um=>?_⟩;rw[gN]at Um;let⟨x4,e4,n4⟩:=lv K4;refine⟨Y,Y,fc,Y,.inl (bG.of e4),l,c,Y,S4,E,E,λo H5 o0 o1 S5 k5=>?_⟩;have K5:cy l H H5:=K4.trans (cA k5);have io:rP ↑rows o:=⟨o0,E⟩;have lso:=g.sl o io.1 io.2;have lss:=g.sl s' Um.1 Um.2;refine⟨Y,Y,_,fc,rows,o,sh,rk,rfl,kp K5,E,g.sn.sd,io.1,io.2,g.sn.ss,g.sn.ln,dn,by have:=rb o;lia,λq H6 hq s6 fq=>⟨q,Y,.inl (bG.of hq),?_⟩⟩;rw[bW];have K6:cy l H H6:=K5.trans (fV.aH.keep s6);refine⟨Y,Y,_,fc,rows,s',sh,rk,rfl,kp K6,E,g.sn.sd,Um.1,Um.2,g.sn.ss,g.sn.ln,dn,by have:=rb s';lia,λq7 H7 hq7 s7 fq7=>⟨q7,Y,.inl (bG.of hq7),?_⟩⟩;rw[bW];have K7:cy l H H7:=K6.trans (fV.aH.keep s7);have S7:=(S5.same s6).same s7;refine⟨jL,λz8 hz8=>⟨Y,l,c,2,rfl,S7.same (ao hz8 _),by decide,by decide,λv9 H9 b0 b1 S9 k9=>?_⟩⟩;have n8:=(S7.ne hz8).1.symm;have K8:cy l H H9:=(K7.trans (fV.aH.keep (ao hz8 _))).trans (cA k9);have hz9:H9 z8=⇑(.lst [.int 0,.int (↑(sh s'):Nat)]):=by rw[k9 _ n8,af]
 obtain⟨pl,p0,p1,ep⟩:∃ p:Int,0<=p/\p<=(↑(sh s'):Nat)/\qm [V.int 0,V.int (↑(sh s'):Nat)] v9=⇑(.int p):=by
  rcases (show v9=0\/v9=1 by lia) with rfl|rfl
  ·exact⟨0,E,E,rfl⟩
  ·exact⟨_,E,Int.le_refl _,rfl⟩
 exists z8,_,v9,Y,rfl,bG.of hz9,ep;have ip:0<=pl/\pl<=↑(sh s'):=⟨p0,p1⟩;refine⟨Y,rfl,Y,cM (λ_=>?_) (λ_=>?_)⟩
 ·exact⟨Y,Y,Y,Y,Y6,λt ht=>k t (.Tc s' pl o 0 ↑(sh o)) _ af ⟨Um,ip,io,by decide,E,Int.le_refl _⟩ trivial (S9.same (ao ht _)) (K8.trans (fV.aH.keep (ao ht _)))⟩
 refine⟨Y,rfl,Y,cM (λ_=>?_) (λ_=>?_)⟩
 ·exact⟨Y,Y,Y,FH,λt ht=>k t (.win s' pl o) _ af ⟨Um,ip,io⟩ trivial (S9.same (ao ht _)) (K8.trans (fV.aH.keep (ao ht _)))⟩
 refine⟨Y,l,c,60,rfl,S9,by decide,by decide,λm1 MR c0 c1 S10 SR=>⟨Z,?_⟩⟩;have K10:cy l H MR:=K8.trans (cA SR);have aeE:=((((((K24.trans (cA k5)).trans (fV.aH.keep s6)).trans (fV.aH.keep s7)).trans (fV.aH.keep (ao hz8 _))).trans (cA k9)).trans (cA SR)) _ _ ha nal;refine⟨Y,acc,Y,bG.of aeE,by rw[gN];lia,λM hM _=>⟨Z,Y,l,c,2,rfl,S10,by decide,by decide,λv11 YO d0 d1 S11 k11=>⟨Z,?_⟩⟩⟩;have K11:cy l H YO:=K10.trans (cA k11)
 have M0:0<=M:=by
  let⟨j,hj,rfl⟩:=List.mem_map.mp hM;have:=List.mem_range.mp hj;exact (f2 j ∅ ∅).1
 refine⟨K,K,Q,v,Q,rfl,E,E,E,λm m1 m2=>?_⟩;refine⟨Y,l,c,30,rfl,S11,by decide,by decide,λst MS t0 t1 S12 WH=>?_⟩;have K12:cy l H MS:=K11.trans (cA WH)
 have mn:∀ x:Int,1<=x->1<=(if (60:Int)<x then (60:Int) else x)/\(if (60:Int)<x then (60:Int) else x)<=60:=λx hx=>by split <;> lia
 have fr0:∀ {q:Addr},MS q=none->H q=none:=λ{q} e=>by
  cases z:H q with
  | none=>rfl
  | some o=>have y:=K12 _ _ z (S12.ne e).1.symm;rw[e]at y;cases y
 have iH:∀ {q:Addr} {H':Hp} {as:List Addr} {row:Row},MS q=none->H' q=⇑(.lst (as.map V.ref))->br H' as row->aH MS H'->↑row<=3->(∀ p∈row,0<=p.1/\p.1<p.2/\p.2<=110/\p.2<=p.1+90)->∀ t,H' t=none->Q ↥t (aO H' t (.tup [.str "put",.int s',.int pl,↥q])):=λ{q H' as row} fq hq hp ss r3 ro t ht =>
  k t (.put s' pl q row) _ ⟨af,b5.same ⟨as,hq,hp⟩ (ao ht _)⟩ ⟨Um,ip,r3,λp hp=>by have:=ro p hp;lia⟩ (fr0 fq) (S12.same (λa o e=>ao ht _ a o (ss a o e))) (K12.trans (fV.aH.keep λa o e=>ao ht _ a o (ss a o e)))
 refine⟨Y,Y,Y,Q,rfl,Z,jL,λp hp=>⟨kG,λq hq=>?_⟩⟩
 have fq:MS q=none:=by
  by_cases z:q=p
  ·rw[z];exact hp
  ·rw[aK z]at hq;exact hq
 let⟨b1,b2⟩:=mn m m1;have e1:(aO (aO MS p (.tup [.int st,.int (st+(if (60:Int)<m then 60 else m))])) q (.lst [↥p])) q=⇑(.lst (([p]:List Addr).map V.ref)):=af;have npq:p≠q:=λz=>by rw[z,af]at hq;cases hq
 have e2:br (aO (aO MS p (.tup [.int st,.int (st+(if (60:Int)<m then 60 else m))])) q (.lst [↥p])) [p] [(st,st+(if (60:Int)<m then 60 else m))]:=.cons (show _=_ by rw[aK npq,af]) .nil;have e3:aH MS (aO (aO MS p (.tup [.int st,.int (st+(if (60:Int)<m then 60 else m))])) q (.lst [↥p])):=(ao hp _).trans (ao hq _);generalize hG:aO (aO MS p (.tup [.int st,.int (st+(if (60:Int)<m then 60 else m))])) q (.lst [↥p])=G at e1 e2 e3 ⊢;generalize (if (60:Int)<m then 60 else m)=b at b1 b2 e2;have r1:0<=st/\st<st+b/\st+b<=110/\st+b<=st+90:=by lia
 refine⟨Y,Z,Y,cM (λc1=>?_) (λc1=>?_)⟩
 ·have c1:=of_decide_eq_true c1;let⟨b3,b4⟩:=mn (m-60) ∅;refine⟨Y,.inl ⟨rfl,_,bG.of e1⟩,Y,Z,Q,rfl,jL,λp2 Rt=>⟨q,Z,ao Rt _ _ _ e1,(by show 1<sizeLine;decide),?_⟩⟩;let⟨e4,e5⟩:=GG (i:=0) (j:=if (60:Int)<m-60 then 60 else m-60) e1 e2 Rt;have e6:=bJ fq (e3.trans (ao Rt (.tup [.int 0,.int (if (60:Int)<m-60 then 60 else m-60)]))) (aF q _ (.lst (([p]:List Addr).map V.ref++[↥p2])));generalize (if (60:Int)<m-60 then 60 else m-60)=b' at b3 b4 e4 e5 e6 ⊢;have rb':0<=(0:Int)/\0<b'/\b'<=110/\b'<=0+90:=by lia
  refine⟨Y,Z,Y,cM (λc2=>?_) (λc2=>?_)⟩
  ·have c2:=of_decide_eq_true c2;refine⟨Y,.inl ⟨rfl,_,bG.of e4⟩,Y,Z,jL,λp3 Ud=>⟨q,Z,ao Ud _ _ _ e4,(by show 2<sizeLine;decide),?_⟩⟩;let⟨e7,e8⟩:=GG (i:=0) (j:=m-120) e4 e5 Ud;exact⟨Y,Y,Y,FH,iH fq e7 e8 (bJ fq (e6.trans (ao Ud _)) (aF q _ _)) (by show 3<=3;decide) (List.forall_mem_cons.mpr ⟨r1,List.forall_mem_cons.mpr ⟨rb',List.forall_mem_cons.mpr ⟨(show 0<=(0:Int)/\0<m-120/\m-120<=110/\m-120<=0+90 by lia),λ_ z=>by cases z⟩⟩⟩)⟩
  ·exact⟨Y,Y,Y,FH,iH fq e4 e5 e6 (by show 2<=3;decide) (List.forall_mem_cons.mpr ⟨r1,List.forall_mem_cons.mpr ⟨rb',λ_ z=>by cases z⟩⟩)⟩
 ·refine⟨Y,Z,Y,cM (λc2=>absurd (decide_eq_true (show (60:Int)<m by have:=of_decide_eq_true c2;lia)) c1) (λ_=>?_)⟩;exact⟨Y,Y,Y,FH,iH fq e1 e2 e3 (by show 1<=3;decide) (List.forall_mem_cons.mpr ⟨r1,λ_ z=>by cases z⟩)⟩
class inductive KD(C CS CW CB XH:Addr)
 | mk (U:Addr->Prop) (x d:Addr) (b:Bool) (pe:iI) (aC:jb) (aJ:iz) (nW:Nat) (b9:Row) (rows:cK) (sh:Int->List Int) (dd:LD) (_:vs=[↥x,↥d,.bl b]) (_:rR C CS CW CB U H x pe aC aJ nW b9) (_:pe.getLast?=⇑rows) (_:↑pe<=900) (_:↑aC<=900) (_:↑aJ<=10000) (_:dd.At H d) (_:Gd ↑aJ rows sh) (_:dd.Ok ↑aJ ↑rows sh) (f:Int->Int) (_:Wv (ja rows dd.sh.toNat (dd.res sh rows)) f) (_:Cr (ja rows dd.sh.toNat (dd.res sh rows)) f->∀ (U':Addr->Prop) (H':Hp) (iG:jb),↑iG=↑aC+1->rR C CS CW CB U' H' x (pe++[ja rows dd.sh.toNat (dd.res sh rows)]) iG aJ nW b9->MY U U' H H'->Q (.bl false) H') (_:Cs (ja rows dd.sh.toNat (dd.res sh rows)) f->∀ H',aH H H'->Q (.bl true) H')
theorem lG:aG ["_law_house","_law_deed","_law_any_one","_law_name"] ["_law_house","_law_deed","_law_any_one"] (az qy):=fC
def Eg(D:Ds K mg aY bq C CS CW CB CT CD aA)(Z2:Om K mg aA XS)(Ar:aX P w K mg zt (EC P w) 7 (aY 92) (bq 92) ["_law_house","_law_deed"] (P5 C CS CW CB aA)):aX P w K mg zt cO 8 (aY 94) (bq 94) ["_law_house","_law_deed","_law_any_one"] (KD C CS CW CB aA):=by
 specialize fX D.ZZ.F lG;let⟨U,x,d,b,pe,aC,aJ,nW,b9,rows,sh,dd,rfl,L,hl,l1,l2,l3,da,g,ok,f,wv,kL,kH⟩:=h;refine⟨_,(aj (bx (i:=3) lG.nd bh) (aj (bN (jj (pv 2) (λ_=>rfl)) (au (J3 D.VX Ar hr (aa (pv 0) (aa (pv 1) ah)) Z2.m Z2.h (λ_=>(au (bx (i:=3) lG.nd bh))))) (au (J3 D.VX Ar hr (aa (pv 0) (aa (pv 1) ah)) D.lK.m D.lK.h (λ_=>(au (bx (i:=3) lG.nd bh)))))) (au (aL (iO cW (pv 3) bh (bu _)))))),?_⟩
 cases b with
 | true =>
  refine⟨Y,true,rfl,jg ?_⟩;exact⟨Y,Y,U,x,d,pe,aC,aJ,nW,b9,rows,sh,dd,rfl,L,hl,l1,l2,l3,da,g,ok,f,wv,λhL U' H' ln e L' fr=>⟨Y,rfl,kL hL U' H' ln e L' fr⟩,λhH H' s1=>⟨rfl,Y,rfl,kH hH H' s1⟩⟩
 | false =>
  refine⟨Y,false,rfl,dF ?_⟩;exact⟨Y,Y,U,x,d,pe,aC,aJ,nW,b9,rows,sh,dd,rfl,L,hl,l1,l2,l3,da,g,ok,f,wv,λhL U' H' ln e L' fr=>⟨Y,rfl,kL hL U' H' ln e L' fr⟩,λhH H' s1=>⟨rfl,Y,rfl,kH hH H' s1⟩⟩
abbrev e0(n:Nat):cK:=List.replicate n []
theorem Eh(n:Nat):e0 n++[[]]=e0 (n+1):=(List.replicate_succ').symm
theorem xo{n:Nat}{es:List Int}(h:es∈e0 n):es=[]:=(List.mem_replicate.mp h).2
theorem WQ{n:Nat}{x y:Int}:¬ kg (e0 n) x y:=λ⟨_,es,he,hy⟩=>by
 rw[xo (m6 he)]at hy;cases hy
theorem P6(n:Nat):gw (e0 n):=λes he y hy=>by
 rw[xo he]at hy;cases hy
theorem P7(n:Nat):xY (e0 n):=⟨λ_=>0,λ_=>Nat.zero_le _,λ_ _ z=>absurd z WQ⟩
def P8{n:Nat}(h:n<=100):xO (e0 n) λ_=>0:=by
 refine⟨by rw[List.length_replicate];exact h,λes he=>by rw[xo he];exact Nat.zero_le _,P6 n,P7 n,λx es _ he=>?_,λ_ _ _=>by decide⟩;rw[xo (m6 he)];rfl
open Spec Rows L2 cD Builtin Builtin.Str fV gB in
def P9(cs:List Nat):∀ n:Nat,(⟨(List.replicate n (dP cs).cps).foldl (·++·) #[]⟩:Str)=dP ((List.replicate n cs).flatten):=by
 have key:∀ (n:Nat) (acc:Array Nat),((List.replicate n (dP cs).cps).foldl (·++·) acc).toList=acc.toList++(List.replicate n cs).flatten:=by
  intro n
  induction n with
  | zero=>intro acc;simp
  | succ n ih =>
   intro acc;rw[List.replicate_succ,kj,ih,Array.toList_append,List.replicate_succ,List.flatten_cons,← m8];rfl
 intro n;refine ext_toList ?_;rw[pB];exact (key n #[]).trans (by simp)
open Spec Rows L2 cD Builtin Builtin.Str fV gB in
def KG{X:Cx}:sV X (binaryOp .Mult) (λx y H Q=>∃ (cs:List Nat) (n:Nat),x=.str (dP cs)/\y=.int n/\2<=n/\n<=1000/\2<=↑cs/\↑cs*n<=1000000/\Q (.str (dP ((List.replicate n cs).flatten))) H):=by
 intro ak s σ H x y v u Q I rx ry h;let⟨cs,n,rfl,rfl,h2,h3,hl,hm,q⟩:=h;let⟨t,rfl⟩:=rx;let⟨t',rfl⟩:=ry;have l1:↑(dP cs)=↑cs:=ly cs
 have hm':(↑cs:Int)*(n:Int)<=1000000:=by
  have z:((↑cs*n:Nat):Int)<=((1000000:Nat):Int):=Int.ofNat_le.mpr hm;rw[Int.natCast_mul]at z;exact z
 refine P.mul_str ?_ (λ_ _=>?_) (λ_ _=>?_) ?_
 ·rw[decide_eq_false ∅,decide_eq_false ∅];rfl
 ·rw[l1]
  have:(↑cs:Int)<=(2^63-1) / (n:Int):=by
   rw[Int.le_ediv_iff_mul_le ∅];lia
  lia
 ·rw[l1];unfold tooLong;refine decide_eq_false ?_;rw[sO];have:(1000000:Nat)<=sizeLine:=by decide
  lia
 ·rw[if_neg ∅,if_neg (by rw[l1,Bool.or_eq_true,beq_iff_eq,beq_iff_eq];lia),sO];have e:=P9 cs n;exists ?_
  ·have fl:∀ n:Nat,↑((List.replicate n cs).flatten)=n*↑cs:=λn=>by rw[List.length_flatten,List.map_replicate,List.sum_replicate_nat]
   have z:↑(⟨(List.replicate n (dP cs).cps).foldl (·++·) #[]⟩:Str)<=1000000:=by rw[e,ly,fl,Nat.mul_comm];exact hm
   first|exact jf z (by decide)|exact decide_eq_false (Nat.not_lt.mpr (jf z (by decide)))
  ·show EP X ak σ Q (.str (⟨(List.replicate n (dP cs).cps).foldl (·++·) #[]⟩:Str) _) _;rw[e];exact⟨.str _,H,I.tok _,⟨Y⟩,q⟩
def vK.Qa{H H3:Hp}{l c w x:Addr}{U U' W:Addr->Prop}{pe:iI}{rows:cK}{aC iG:jb}{aJ XE:iz}{nW nW':Nat}{b9:Row}(St:vK C CS CW CB H l c w x U W pe rows pe rows aC aJ nW b9)(WR:rR C CS CW CB U' H3 x (pe++[rows]) iG (aJ++XE) nW' b9)(K0:MY U U' H H3):∃ (ik fc:Addr) (as:List Addr),gT H3 w (kV kI) (⇑↥ik)/\H3 ik=⇑(.lst (as.map V.ref))/\↑as=↑aJ/\∀ (H7 H8:Hp) (bs:List Addr),aH H3 H7->Paired (Cw H7) bs XE->cy ik H7 H8->H8 ik=⇑(.lst ((as++bs).map V.ref))->gT H8 w (kV kR) (⇑↥fc)/\Wo W H8 w (aJ++XE) pe rows/\(∀ ik ps,(∃ rw vl,H8 w=⇑(.dK (qc ik rw ps vl)))->MG W ik ps H8 fc rows)/\∀ H9,Wo W H9 w (aJ++XE) (pe++[rows]) rows->(∀ a ob,H8 a=⇑ob->¬ W a->H9 a=⇑ob)->(∀ a xs,H8 a=⇑(.tup xs)->H9 a=⇑(.tup xs))->vK C CS CW CB H9 l c w x U' W (pe++[rows]) rows (pe++[rows]) rows iG (aJ++XE) nW' b9/\∀ a ob,H a=⇑ob->¬ U a->¬ W a->H9 a=⇑ob/\¬ U' a:=by
 have aeF:=St.src.fru K0 (λz=>(St.du l z).2.1 rfl) (λz=>(St.du c z).2.2 rfl);have wo3:=St.wo.fr (λa ob e z=>K0.2.1 _ _ e (λy=>(St.du a y).1 z)) K0.2.2
 have du3:∀ a,U' a->¬ W a/\a≠l/\a≠c:=λa z=>by
  rcases K0.1 a z with y|y
  ·exact St.du a y
  ·exact (St.new y).2
 let⟨ik,fc,ps,vl,wu⟩:=id wo3;let⟨as,xg,pa⟩:=id wu.hi;have zi:=gT.k (k:=kI) wu.hw;rw[show cz (qc ik fc ps vl) kI=⇑↥ik by kernel_rfl]at zi;refine⟨ik,fc,as,zi,xg,Paired.length pa,λH7 H8 bs s7 pb k8 i8=>?_⟩;have WS:=s7 _ _ xg;have Qc:∀ a ob,H3 a=⇑ob->a≠ik->H8 a=⇑ob:=λa ob e n=>k8 _ _ (s7 _ _ e) n;have t38:∀ a xs,H3 a=⇑(.tup xs)->H8 a=⇑(.tup xs):=λa xs e=>Qc _ _ e (dB e xg);have Wz:∀ a xs,H7 a=⇑(.tup xs)->H8 a=⇑(.tup xs):=λa xs e=>k8 _ _ e (dB e WS);have w8:H8 w=⇑(.dK (qc ik fc ps vl)):=Qc _ _ wu.hw (dB wu.hw xg);have hr8:MG W ik ps H8 fc rows:=wu.hr.fr (λ_ z=>z) λa xs e _ n _=>Qc _ _ e n;have zr:=gT.k (k:=kR) w8;rw[show cz (qc ik fc ps vl) kR=⇑↥fc by kernel_rfl]at zr
 have Td:I0 W H8 w ik fc ps vl (aJ++XE) pe rows:=by
  let⟨WK,hp,al⟩:=wu.hp;refine⟨wu.ww,wu.wi,wu.wp,wu.wv,λa z=>?_,w8,⟨as++bs,i8,AZ (Paired.CK pa λa q e=>t38 _ _ e) (Paired.CK pb λa q e=>Wz _ _ e)⟩,hr8,⟨WK,Qc _ _ hp wu.ne.symm,al.mono λv rs ⟨a,e,q⟩=>⟨a,e,q.fr (λ_ y=>y) λa xs e _ n _=>Qc _ _ e n⟩⟩,wu.ne,wu.lst,Qc _ _ wu.hv wu.nv.1,wu.nv⟩;by_cases e:a=ik
  ·rw[e];exact⟨_,i8⟩
  ·let⟨ob,e2⟩:=wu.al a z;exact⟨ob,Qc _ _ e2 e⟩
 refine⟨zr,⟨ik,fc,ps,vl,Td⟩,λik' uZ ⟨rw2,vl',e⟩=>?_,λH9 WT QC WU=>⟨⟨?_,(WR.fr (λa ob e z=>Qc _ _ e (λq=>(du3 a z).1 (by rw[q];exact wu.wi))) t38).fr (λa ob e z=>QC _ _ e (du3 a z).1) WU,m7,WT,du3,St.dw⟩,λa ob e nU nW=>⟨QC _ _ (Qc _ _ (K0.2.1 _ _ e nU) (λq=>nW (by rw[q];exact wu.wi))) nW,λz=>?_⟩⟩⟩
 ·rw[w8]at e;simp only[Option.some.injEq,HO.dK.injEq,qc,List.cons.injEq,Prod.mk.injEq,V.ref.injEq,true_and,and_true]at e;let⟨rfl,rfl,rfl,rfl⟩:=e;exact hr8
 ·let⟨n,ns,i,d,r,e1,e2,h3⟩:=aeF;exact⟨n,ns,i,d,r,QC _ _ (Qc _ _ e1 (λq=>(St.dw ik wu.wi).1 q.symm)) (λq=>(St.dw l q).1 rfl),QC _ _ (Qc _ _ e2 (λq=>(St.dw ik wu.wi).2 q.symm)) (λq=>(St.dw c q).2 rfl),h3⟩
 ·rcases K0.1 a z with y|y
  ·exact nU y
  ·rw[y]at e;cases e
def KH{H3 H7:Hp}{t:Addr}{h:Int}{cs:List Nat}{i ch:Nat}{bs:List Addr}(cu:H3 acc=none)(hi:cs[i]?=⇑ch)(hb:H7 acc=⇑(.lst (bs.map V.ref)))(pb:Paired (Cw H7) bs (oB h (cs.take i)))(s7:aH H3 H7)(ht:H7 t=none):(aO (aO H7 t (.tup [.int h,AB ch])) acc (.lst (bs.map V.ref++[↥t]))) acc=⇑(.lst ((bs++[t]).map V.ref))/\Paired (Cw (aO (aO H7 t (.tup [.int h,AB ch])) acc (.lst (bs.map V.ref++[↥t])))) (bs++[t]) (oB h (cs.take (i+1)))/\aH H3 (aO (aO H7 t (.tup [.int h,AB ch])) acc (.lst (bs.map V.ref++[↥t]))):=by
 refine⟨?_,?_,λb ob e=>?_⟩
 ·rw[af,gC];rfl
 ·have nta:t≠acc:=(aB hb ht).symm;rw[take_snoc hi];unfold oB;rw[gC];refine DY (Paired.CK pb λa q e=>?_) ?_
  ·show aO _ acc _ a=_;rw[aK (dB e hb)];exact ao ht _ _ _ e
  ·show aO _ acc _ t=_;rw[aK nta];exact af
 ·rw[aK (aB e cu)];exact ao ht _ _ _ (s7 _ _ e)
abbrev rtW:List Nat:=(Str.ofString "root ink#").cps.toList
class inductive KJ(C CS CW CB:Addr)
 | mk (l c w x:Addr) (U W:Addr->Prop) (_:vs=[↥l,↥w,↥x]) (_:vK C CS CW CB H l c w x U W [[]] [] [[]] [] [] [] 0 []) (_:∀ (U' W':Addr->Prop) (pe:iI) (n:Nat) (aJ:iz) (aC:jb) (H':Hp),2<=n->n<=4->↑aJ<=18->↑pe<=10->↑aC<=10->vK C CS CW CB H' l c w x U' W' pe (e0 n) pe (e0 n) aC aJ 2 []->Q (.bl true) H')
theorem lH:aG ["_law_src_here","_law_world_here","_law_house","_law_hand","_law_text","_law_k"] ["_law_src_here","_law_world_here","_law_house"] (az mR):=fC
theorem Ei:‹(8,95,["_law_src_here","_law_world_here","_law_house"],(KJ C CS CW CB))›:=λD=>by
 specialize fX D.Z0.F lH;let⟨l,c,w,x,U,W,rfl,St,k⟩:=h;have hu:=jc hr;refine⟨_,(aj (d9 PassesOwn.never rfl (ck (bO (aa ay (aa (bP Ng ay ay) ah)))) (bY (i:=3) lH.nd) (aj (bx (i:=4) lH.nd (jV gB.VE bh oK (kZ (aM D.IE (mV D) hr (aa (pv 0) (aa ay ah)))))) (aj (aV (cJ (pv 2) D.aP D.RV (pS D) hr bS (aa (pv 3) (aa (pv 4) ah)))) (aj (aV (dm pI PySem.F.slot_list_extend PySem.F.type_list_extend lI (gi hu (pv 1) bh) (aa (fR (N:=["_law_sign","_law_hand"]) (jG (sc:=az mR) (NX:=["_law_src_here","_law_world_here","_law_house","_law_hand","_law_text","_law_k"]) (jx:=[none,some 3]) rfl rfl rfl nofun nofun rfl nofun rfl nofun) rfl (OJ (pv 4)) (λ_ _ _ _ _ _=>(bY (i:=0) (show List.Nodup (["_law_sign","_law_hand"]:List Str) by decide +kernel))) (λ_ _ _ _ _ _=>fQ) (λ_ _ _ _ _ _=>(cG (aa (pv 1) (aa (pv 0) ah))))) ah))) (au (aV (aM D.L0 (qS D) hr (aa (pv 1) (aa (gi hu (pv 1) bh) ah))))))))) (aj (d9 PassesOwn.never rfl (jJ rfl D.T.jQ (aa (bP fj ay (aM D.IE (mV D) hr (aa (pv 0) (aa ay ah)))) ah)) (bY (i:=5) lH.nd) (aj (aV (eL (pv 2) D.aP D.VS (wW D) hr bS)) (au (aV (aM D.L0 (qS D) hr (aa (pv 1) (aa (bP ko (gi hu (pv 1) bh) (bO (aa (bO ah) ah))) ah))))))) (au (aL kW)))),?_⟩;refine⟨Z,⟨by decide,by decide,by decide⟩,jL,λa0 Cc=>⟨a0,rfl,⟨_,bG.of af⟩,?_⟩⟩;have n0:=St.new Cc;have St0:=St.same (ao Cc (.lst [.int 3,.int ((10:Int)^(50:Int).toNat)]));refine cV (K:=K) (a:=a0) (xs:=[.int 3,.int ((10:Int)^(50:Int).toNat)]) (λj σ H1=>∃ (u3 u4:Option V) (U1 W1:Addr->Prop) (pe:iI) (aJ:iz) (aC:jb),σ=[⇑↥l,⇑↥w,⇑↥x,u3,u4,none]/\vK C CS CW CB H1 l c w x U1 W1 pe [] pe [] aC aJ j []/\↑pe=j+1/\↑aJ<=9*j/\↑aC=j/\H1 a0=⇑(.lst [.int 3,.int ((10:Int)^(50:Int).toNat)])/\¬ U1 a0/\¬ W1 a0) ⟨none,none,U,W,K,rfl,St0,rfl,fK _,rfl,af,n0.1,n0.2.1⟩ (by rintro i σ H2 _ ⟨_,_,_,_,_,_,_,_,_,_,_,_,e,_⟩;exact bG.of e) ?_ ?_
 ·rintro j v σ H1 hj ⟨u3,u4,U1,W1,pe,aJ,aC,rfl,EF,lp,li,ll,ha,nU,nW⟩;have j2:j<2:=(List.getElem?_eq_some_iff.mp hj).1
  obtain⟨h,rfl,fh⟩:∃ h:Int,v=.int h/\qK h:=by
   rcases List.mem_cons.mp (m6 hj) with e|e
   ·exact⟨3,e,by decide,by decide⟩
   ·exact⟨_,List.mem_singleton.mp e,by decide,by decide⟩
  refine⟨Y,l,c,10,rfl,EF.src,by decide,by decide,λv H2 v0 v1 S2 k2=>⟨Y,rtW,congrArg V.str (qC _).symm,nofun,?_⟩⟩
  have lc:↑(gB.AM rtW none (⇑v))<=9:=by
   unfold gB.AM;rw[gx,sP,show ↑rtW=9 by decide +kernel];lia
  generalize gB.AM rtW none (⇑v)=cs at lc;have QD:=EF.mv (cA k2) S2;have ha2:=(k2 a0 n0.2.2.1).trans ha;let⟨S',WC,d',Xr,M1,bl',kn',du',bk',dS',CP,G5,dw',sg',ow',pw',db',tb',IY,LU⟩:=id QD.MH;refine⟨Y,x,d',Y,LU.L.hx,rfl,Y,Y,U1,x,pe,aC,aJ,j,[],h,cs,[],rfl,QD.MH,fh,E,E,E,QD.lst,by decide,E,E,λU' q H3 WR K0 hq=>?_⟩;let⟨ik,fc,as,zi,xg,la,P⟩:=QD.Qa WR K0;refine⟨Y,w,Y,zi,.inl ⟨rfl,_,bG.of xg⟩,Y,cs,rfl,λacc cu=>B3 (λj σ H7=>∃ (u:Option V) (bs:List Addr),σ=[u,⇑(.int h)]/\H7 acc=⇑(.lst (bs.map V.ref))/\Paired (Cw H7) bs (oB h (cs.take j))/\aH H3 H7) ⟨none,[],rfl,af,.nil,ao cu _⟩ ?_ ?_⟩
  ·rintro i ch σ H7 hi ⟨u,bs,rfl,hb,pb,s7⟩;have lb:=Paired.length pb;rw[mY,gx]at lb;refine⟨Y,Y,jL,λt ht=>⟨_,ao ht _ _ _ hb,(by rw[bW];exact aS ∅),_,bs++[t],rfl,KH cu hi hb pb s7 ht⟩⟩
  rintro σ H7 ⟨u,bs,rfl,hb,pb,s7⟩;rw[gy]at pb;have lb:=Paired.length pb;rw[mY]at lb;have WS:=s7 _ _ xg;refine⟨ik,acc,Z,WS,hb,(by rw[bW,bW];exact iC (aS ∅)),?_⟩;rw[← gC];let⟨zr,Td,rv,iH⟩:=P H7 _ bs s7 pb (aF ik _ _) af;refine⟨Y,Y,w,Y,zr,W1,w,fc,aJ++oB h cs,pe,[],[],rfl,Td,E,rv,λH9 WT QC WU _=>?_⟩;let⟨XF,off⟩:=iH H9 WT QC WU;let⟨ha9,nU9⟩:=off a0 _ ha2 nU nW;refine⟨Q,U',W1,pe++[[]],aJ++oB h cs,Y,XF,by rw[dM];simp only[jS,m9];lia,by rw[dM,mY];lia,by rw[dM];simp only[jS,m9];lia,ha9,nU9,nW⟩
 rintro σ H1 ⟨u3,u4,U1,W1,pe,aJ,aC,rfl,EF,lp,li,ll,_,_,_⟩;have lx:↑([V.int 3,.int ((10:Int)^(50:Int).toNat)])=2:=rfl;rw[lx]at EF lp li ll;refine⟨Y,l,c,3,rfl,EF.src,by decide,by decide,λv H2 v0 v1 S2 k2=>⟨Z,2+v,rfl,E,E,?_⟩⟩;have QD:=EF.mv (cA k2) S2;refine vS (lo:=0) (n:=(2+v).toNat) (λj σ H3=>∃ (u5:Option V) (U3 W3:Addr->Prop) (pe:iI) (aC:jb),σ=[⇑↥l,⇑↥w,⇑↥x,u3,u4,u5]/\vK C CS CW CB H3 l c w x U3 W3 pe (e0 j) pe (e0 j) aC aJ 2 []/\↑pe=j+3/\↑aC=j+2) ⟨none,U1,W1,pe,aC,rfl,QD,E,E⟩ ?_ ?_
 ·rintro j σ H3 hj ⟨u5,U3,W3,pe,aC,rfl,M3,lp,ll⟩;have j4:j<4:=by lia
  have l0:↑(e0 j)=j:=List.length_replicate;let⟨S',WC,d',Xr,M1,bl',kn',du',bk',dS',CP,G5,dw',sg',ow',pw',db',tb',IY,LU⟩:=id M3.MH;refine⟨Y,x,d',Y,LU.L.hx,rfl,S',x,d',Xr,M1,bl',kn',du',bk',dS',CP,G5,pe,IY,aC,e0 j,rfl,LU.L,M3.lst,E,E,E,E,⟨⟨_,by rw[Eh];exact P8 ∅⟩,λS'' H4 L4 fr4=>?_⟩⟩;rw[Eh]at L4;let⟨U',aeI,fu⟩:=LU.vq L4 fr4;let⟨M4,_⟩:=M3.WL aeI (rows':=e0 (j+1)) (by simp) fu;let⟨ik,fc,ps,vl,wu⟩:=id M4.wo;have zr:=gT.k (k:=kR) wu.hw;rw[show cz (qc ik fc ps vl) kR=⇑↥fc by kernel_rfl]at zr;let⟨_,_,_,vs,hvs,al⟩:=id wu.hr;have lv:=bV.len al;refine⟨Y,Y,w,Y,zr,iY,λe he=>⟨kG,λo ho=>?_⟩⟩;have s1:=ao he (.lst []);have e1:(aO H4 e (.lst [])) e=⇑(.lst []):=af;generalize aO H4 e (.lst [])=H5 at s1 e1 ho;have s2:=ao ho (.lst [↥e]);have o2:(aO H5 o (.lst [↥e])) o=⇑(.lst [↥e]):=af;show Yu _ _ (aO H5 o (.lst [↥e])) _;generalize aO H5 o (.lst [↥e])=H6 at s2 o2;have Z6:=s1.trans s2;refine⟨fc,o,Z,Z6 _ _ hvs,o2,(by rw[lv];exact iC (aS (by simp only[jS,m9];lia))),λr Kh=>?_⟩;have s3:=ao Kh (.lst (vs++[↥e]));have r3:(aO H6 r (.lst (vs++[↥e]))) r=⇑(.lst (vs++[↥e])):=af;generalize aO H6 r (.lst (vs++[↥e]))=H7 at s3 r3;have QA:=Z6.trans s3;have St7:=M4.same QA;have ne:=M4.new he;have nr:=M4.new (bw Z6 Kh);have e3:=s3 _ _ (s2 _ _ e1);have wu3:I0 W3 H7 w ik fc ps vl aJ pe (e0 j):=wu.fr (λa ob e _=>QA _ _ e) (λa xs e=>QA _ _ e)
  have Uk:I0 (λa=>W3 a\/a=e\/a=r) H7 w ik fc ps vl aJ pe (e0 j):=vK.PR wu3 (λa z=>.inl z) (by
   rintro a (z|z|z)
   ·exact wu3.al a z
   ·rw[z];exact⟨_,e3⟩
   ·rw[z];exact⟨_,r3⟩)
  have nn:∀ {a b:Addr},W3 a->¬ W3 b->b≠a:=λwa nb z=>nb (by rw[z];exact wa);refine⟨λa=>W3 a\/a=e\/a=r,w,r,aJ,pe,e0 j,e0 (j+1),rfl,⟨ik,fc,ps,vl,Uk⟩,E,λik' uZ ⟨rw2,vl',ee⟩=>?_,λH8 Td EB tp8 _=>?_⟩
  ·rw[wu3.hw]at ee;simp only[Option.some.injEq,HO.dK.injEq,qc,List.cons.injEq,Prod.mk.injEq,V.ref.injEq,true_and,and_true]at ee;let⟨rfl,rfl,rfl,rfl⟩:=ee;exists .inr (.inr rfl),nn wu.wi nr.2.1,nn wu.wp nr.2.1,_,r3;rw[← Eh];exact bV.snoc (al.mono λ_ _=>Ui.fr (λa z=>.inl z) (λa xs e _ _ _=>QA _ _ e)) ⟨e,rfl,.inr (.inl rfl),nn wu.wi ne.2.1,nn wu.wp ne.2.1,e3⟩
  refine⟨_,U',_,pe++[e0 (j+1)],Y,St7.kept Td (λa z y=>?_) (λa y=>?_) EB tp8,by rw[dM];simp only[jS,m9];lia,by rw[dM];simp only[jS,m9];lia⟩
  ·rcases y with y|y|y
   ·exact (M4.du a z).1 y
   ·exact ne.1 (by rw[← y];exact z)
   ·exact nr.1 (by rw[← y];exact z)
  ·rcases y with y|y|y
   ·exact M4.dw a y
   ·rw[y];exact ne.2.2
   ·rw[y];exact nr.2.2
 rintro σ H3 ⟨u5,U3,W3,pe,aC,rfl,M3,lp,ll⟩;exact k U3 W3 pe (2+v).toNat aJ aC H3 ∅ ∅ ∅ ∅ ∅ M3
def qd(p:Int->Bool)(es:List Int):List Int:=es.filter λe=>decide (e<0) || !p e
theorem Qd(row:Row):ju row=qd (Qt row):=rfl
theorem CG{sh:Int->List Int}{p:Int->Bool}:∀ es:List Int,bK (λs=>(sh s).filter λa=>!p a) (qd p es)=(bK sh es).filter λa=>!p a
 | []=>rfl
 | e::r=>by
  have ih:=CG (sh:=sh) (p:=p) r;rw[dQ,List.filter_append,← ih];unfold qd cN;by_cases c:e<0
  ·rw[List.filter_cons_of_pos (by rw[decide_eq_true c];rfl),dQ,if_pos c];unfold cN;rw[if_pos c]
  ·rw[if_neg c]
   cases z:p e with
   | true=>rw[List.filter_cons_of_neg (by rw[decide_eq_false c,z];exact fL),List.filter_cons_of_neg (by rw[z];exact fL)];rfl
   | false =>
    rw[List.filter_cons_of_pos (by rw[z,Bool.not_false,Bool.or_true]),List.filter_cons_of_pos (by rw[z];rfl),dQ];unfold cN;rw[if_neg c];rfl
def CH{p:Int->Bool}{es:List Int}{y:Int}:y∈dz (qd p es)↔y∈dz es:=by
 rw[bM,bM];refine and_congr_right λh=>?_;unfold qd;rw[List.mem_filter];exact⟨λz=>z.1,λz=>⟨z,by rw[decide_eq_true ∅];rfl⟩⟩
def Seen.Je{rows:cK}{sh:Int->List Int}(h:Seen rows sh)(p:Int->Bool):Seen (rows.map (qd p)) λs=>(sh s).filter λa=>!p a:=by
 have get:∀ {x:Int} {es:List Int},(rows.map (qd p))[x.toNat]?=⇑es->∃ Hf,rows[x.toNat]?=⇑Hf/\es=qd p Hf:=λe=>by
  rw[kU]at e;let⟨Hf,e0,rfl⟩:=Option.map_eq_some_iff.mp e;exact⟨Hf,e0,rfl⟩
 have nx:∀ {x y:Int},kg (rows.map (qd p)) x y->kg rows x y:=λ⟨x0,es,e,hy⟩=>by
  let⟨Hf,e0,rfl⟩:=get e;exact⟨x0,Hf,e0,CH.mp hy⟩
 let⟨rk,rb,dn⟩:=id h.rk;refine⟨λes he=>?_,λes he y hy=>?_,⟨rk,rb,λx y n=>dn x y (nx n)⟩,λx es x0 e=>?_,λx x0 x1=>?_⟩
 ·let⟨Hf,h0,rfl⟩:=List.mem_map.mp he;exact jf (List.length_filter_le ..) (h.es Hf h0)
 ·let⟨Hf,h0,rfl⟩:=List.mem_map.mp he;rw[bW];exact h.sd Hf h0 y (CH.mp hy)
 ·let⟨Hf,e0,rfl⟩:=get e;rw[CG,← h.ss x Hf x0 e0]
 ·rw[bW]at x1;exact jf (List.length_filter_le ..) (h.ln x x0 x1)
def rR.m{U:Addr->Prop}{H:Hp}{x:Addr}{pe:iI}{aC:jb}{aJ:iz}{nW:Nat}{b9:Row}{m:Str}{k:Prop}(L:rR C CS CW CB U H x pe aC aJ nW b9)(q:k)(h:∀ a b c d e f:V,List.lookup m [("well",a),("shelf",b),("blots",c),("knots",d),("dues",e),("book",f)]=none:=by intros;rfl):UQ C m ↥x H k:=by
 let⟨S',WC,d',Xr,M1,bl',kn',du',bk',dS',CP,G5,dw',sg',ow',pw',db',tb',IY,LU⟩:=id L;exact⟨x,d',Y,LU.L.hx,h ..,q⟩
def Qe{p:Int->Bool}{es:List Int}{e:Int}(h:(decide (e<0) || !p e)=true):qd p (es++[e])=qd p es++[e]:=by
 unfold qd;rw[List.filter_append,List.filter_cons_of_pos (p:=λe=>decide (e<0) || !p e) h,List.filter_nil]
def Te{p:Int->Bool}{es:List Int}{e:Int}(h:(decide (e<0) || !p e)=false):qd p (es++[e])=qd p es:=by
 unfold qd;rw[List.filter_append,List.filter_cons_of_neg (p:=λe=>decide (e<0) || !p e) (by rw[h];exact fL),List.filter_nil,iS]
theorem CJ{f g:Int->Int}{p:Int->Bool}:∀ {es:List Int},(∀ y∈dz es,g y<=f y)->dX g (qd p es)<=dX f es
 | [],_=>Int.le_refl _
 | e::r,h=>by
  have ih:=CJ (f:=f) (g:=g) (p:=p) (es:=r) λy hy=>h y (bM.mpr ⟨(bM.mp hy).1,nO _ (bM.mp hy).2⟩);rw[gr];unfold qd at ih ⊢;by_cases c:e<0
  ·rw[List.filter_cons_of_pos (by rw[decide_eq_true c];rfl),gr,if_pos c,if_pos c];have:=h (-1-e) (bM.mpr ⟨E,by rw[show -1-(-1-e)=e by lia];exact uv⟩);lia
  ·rw[if_neg c]
   cases z:p e with
   | true=>rw[List.filter_cons_of_neg (by rw[decide_eq_false c,z];exact fL)];lia
   | false=>rw[List.filter_cons_of_pos (by rw[z,Bool.not_false,Bool.or_true]),gr,if_neg c];lia
def Good.Je{n:Nat}{rows:cK}(h:Good n rows)(p:Int->Bool):Good n (rows.map (qd p)):=by
 let⟨sh,g⟩:=h.Ky;have sn:=g.sn.Je p;let⟨en,rk,ln,f,hw,hm⟩:=h;let⟨f',WV⟩:=Cf sn.rk;let⟨r,rb,dn⟩:=id rk
 have le:∀ (b:Nat) (x:Int),r x<b->0<=x->x<↑rows->f' x<=f x:=by
  intro b
  induction b with
  | zero=>intro x z;lia
  | succ b ih =>
   intro x z x0 x1;have e:rows[x.toNat]?=⇑rows[x.toNat]:=nM ∅;rw[hw x _ x0 e,WV x _ x0 (by rw[kU,e];rfl)];refine CJ λy hy=>?_;have d:=dn x y ⟨x0,_,e,hy⟩;have s:=g.sn.sd _ (m6 e) y hy;exact ih y ∅ (bM.mp hy).1 s
 refine⟨λes he e hm'=>?_,sn.rk,by rw[bW];exact ln,f',WV,λx x0 x1=>?_⟩
 ·let⟨Hf,h0,rfl⟩:=List.mem_map.mp he;rw[bW];exact en Hf h0 e (List.mem_filter.mp hm').1
 ·rw[bW]at x1;exact Int.le_trans (le (r x+1) x (Nat.lt_succ_self _) x0 x1) (hm x x0 x1)
open Spec Rows L2 cD eY fV PySem.W in
def WW{X:Cx}{N N2:List Str}{scope uh sc:Scope}{cl:List (Str × Addr)}{s₀:Shared}{H₀:Hp}{ex:List Addr}{pn:List (Addr × Obj)}{jx:List (Option Nat)}(e1:X.env.scope=sc)(e0:scope.kind=.function)(k:uh.kind=.function)(h1:∀ x∈uh.names,x.2≠.cell)(h2:∀ x∈uh.names,x.2=.local->uh.names.lookup x.1=⇑.local)(h3:sc.kind=.function)(h4:∀ x∈uh.names,x.2=.free->scope.names.lookup x.1=⇑.free/\sc.names.lookup x.1=⇑.cell)(h5:↑jx=N2.length)(h6:Dh N N2 uh jx=true):zC (iR X N scope cl C s₀ H₀ ex pn) N2 uh jx:=by
 refine⟨k,h1,h2,e0,λx hx hf=>?_,h5,λi j x a b=>?_⟩
 ·let⟨y1,y2⟩:=h4 x hx hf;have z:=jq (env:=X.env) y1
  have c:(NameKind.free == NameKind.free&&X.env.scope.kind == .function&&X.env.kindOf x.1 == some .cell)=true:=by
   have q:X.env.kindOf x.1=⇑.cell:=by rw[← e1]at y2;exact y2
   rw[e1,h3,q];rfl
  rw[if_pos c]at z;exact z
 ·unfold Dh at h6;rw[List.all_eq_true]at h6;have z:=h6 (⇑j,x) (m6 (i:=i) (by rw[List.getElem?_zip_eq_some];exact⟨a,b⟩));simp only[Bool.and_eq_true,decide_eq_true_eq]at z;exact z
class inductive Qf
 | mk (W:Addr->Prop) (w o:Addr) (aJ:iz) (pe:iI) (rows:cK) (ns:List Int) (_:vs=[↥w,↥o]) (_:Wo W H w aJ pe rows) (_:H o=⇑(.lst (ns.map V.int))) (_:↑ns<=1000) (_:∀ a∈ns,0<=a/\a<(↑aJ:Nat)) (_:∀ H',aH H H'->Q (.str (dP (ns.map (DX aJ)))) H')
theorem qW:aG ["_law_world_here","_law_numbers","_law_signs","_law_number"] ["_law_world_here","_law_numbers"] (az tP):=fC
theorem GH:‹(1,96,["_law_world_here","_law_numbers"],Qf)›:=λD=>by
 refine fX D.Z1.F qW λcH A zn s0 H vs Q E hr h=>?_;let⟨W,w,o,aJ,pe,rows,ns,rfl,wo,ho,ln,hin,k⟩:=h;have hu:=jc hr;exists _,(aj (bx (i:=2) qW.nd (bO ah)) (aj (d9 PassesOwn.never rfl (ck (pv 1)) (bY (i:=3) qW.nd) (au (bN (aU Bs (pv 3) (gi hu (pv 0) bh) rfl) (au (aV (dm pI jA jB bT (pv 2) (aa bh ah)))) (au (aV (dm pI jA jB bT (pv 2) (aa (aN aT (aN bz (gi hu (pv 0) bh) (pv 3)) ay) ah))))))) (au (aL (dm PySem.F.plainAttrs_str PySem.F.slot_str_join PySem.F.type_str_join FD bh (aa (pv 2) ah))))));let⟨ik,fc,ps,vl,wu⟩:=id wo;let⟨as,xg,pa⟩:=id wu.hi;refine⟨iY,λq hq=>?_⟩;have s1:=ao hq (.lst []);refine⟨Y,o,rfl,⟨_,bG.of (s1 _ _ ho)⟩,cV (K:=K) (a:=o) (xs:=ns.map V.int) (λi σ H2=>∃ u:Option V,σ=[⇑↥w,⇑↥o,⇑↥q,u]/\H2 q=⇑(.lst (((ns.take i).map (DX aJ)).map AB))/\aH H H2) ⟨none,rfl,af,s1⟩ (λi σ H2 _ h=>by let⟨_,_,_,s2⟩:=h;exact bG.of (s2 _ _ ho)) ?_ ?_⟩
 ·rintro i v σ H2 hi ⟨u,rfl,h2,s2⟩;rw[kU]at hi;let⟨a,ea,rfl⟩:=Option.map_eq_some_iff.mp hi;have il:=(List.getElem?_eq_some_iff.mp ea).1;let⟨a0,a1⟩:=hin a (m6 ea);obtain⟨t,et⟩:∃ t,as[a.toNat]?=⇑t:=⟨_,nM (by rw[Paired.length pa];lia)⟩;let⟨p,ep,ht⟩:=tX pa et;have zv:=gT.k (k:=kVl) (s2 _ _ wu.hw);rw[show cz (qc ik fc ps vl) kVl=⇑↥vl by kernel_rfl]at zv;have zi:=gT.k (k:=kI) (s2 _ _ wu.hw);rw[show cz (qc ik fc ps vl) kI=⇑↥ik by kernel_rfl]at zi;have XG:=cQ (xs:=as.map V.ref) (j:=a.toNat) (v:=↥t) (by rw[kU,et];rfl);rw[show ((a.toNat:Nat):Int)=a by lia]at XG;have ea2:DX aJ a=p.2:=by unfold DX;rw[ep];rfl
  refine⟨Y,Y,w,Y,zv,vl,[],rfl,.inl (bG.of (s2 _ _ wu.hv)),V,Y,dF ?_⟩;refine⟨Y,.inl ⟨rfl,_,bG.of h2⟩,Y,w,Y,zi,Y,ik,K,V,bG.of (s2 _ _ xg),XG,t,K,V,dN.of (s2 _ _ ht),HY,q,Z,h2,aS (by rw[bW,bW,gx];lia),Y,?_,bJ hq s2 (aF q _ _)⟩;rw[af,take_snoc ea,gC,gC,← ea2];rfl
 ·rintro σ H2 ⟨u,rfl,h2,s2⟩;rw[bW,gy]at h2;exact⟨rfl,Y,q,Y,rfl,h2,by rw[bW];lia,k H2 s2⟩
class inductive Jf(C CS CW CB:Addr)
 | mk (U W:Addr->Prop) (x w:Addr) (pe:iI) (aC:jb) (aJ:iz) (nW:Nat) (rows:cK) (sh:Int->List Int) (f:Int->Int) (s:Nat) (_:vs=[↥w,↥x,.int (s:Nat)]) (_:rR C CS CW CB U H x pe aC aJ nW []) (_:pe.getLast?=⇑rows) (_:↑pe<=900) (_:Wo W H w aJ pe rows) (_:Gd ↑aJ rows sh) (_:xO rows f) (_:s<↑rows) (_:∀ H',aH H H'->Q (.bl true) H')
theorem mD:aG ["_law_world_here","_law_house","_law_sheet","_law_numbers"] ["_law_world_here","_law_house","_law_sheet"] (az jo):=fC
theorem um:‹(43,97,["_law_world_here","_law_house","_law_sheet"],(Jf C CS CW CB))›:=λD=>by
 have fD:aX P w K mg zt cO 5 _ _ zl4 (wg 4):=qE D 4;refine fX D.Z3.F mD λcH A zn s0 H vs Q E hr h=>?_;let⟨U,W,x,w,pe,aC,aJ,nW,rows,sh,f,s,rfl,LB,hl,l2,wo,g,B,sr,k⟩:=h;have hu:=jc hr;have XD:=g.ln;exists _,(aj (bx (i:=3) mD.nd (aM D.FO (gX D 41) hr (aa (gi hu (pv 0) bh) (aa (pv 2) ah)))) (aj (bN (gO (gM (aM D.Qu fD hr (aa (cJ (pv 1) D.aP D.ZG (Ae D) hr bS (aa (pv 2) ah)) (aa (aM D.ZV (yp D) hr (aa (aN bz (gi hu (pv 0) bh) (pv 2)) ah)) ah))))) (au (aL kW)) aW) (aj (bN (gO (gM (aM D.Qu fD hr (aa (cJ (pv 1) D.aP D.LZ (gp D) hr bS (aa (pv 2) ah)) (aa (aM D.ZU (A4 D) hr (aa (pv 3) ah)) ah))))) (au (aL kW)) aW) (aj (bN (gO (gM (aM D.Qu fD hr (aa (cJ (pv 1) D.aP D.ZP (yl D) hr bS (aa (pv 2) ah)) (aa (aM D.Z1 (GH D) hr (aa (pv 0) (aa (pv 3) ah))) ah))))) (au (aL kW)) aW) (aj (bN (gO (gM (aM D.Qu fD hr (aa (cJ (pv 1) D.aP D.ZI (vv D) hr bS (aa (pv 2) ah)) (aa (aM D.OS (jw D 41) hr (aa (gi hu (pv 0) bh) (aa (pv 2) ah))) ah))))) (au (aL kW)) aW) (au (aL (aM D.Qu fD hr (aa (cJ (pv 1) D.aP D.ZQ (yo D) hr bS (aa (pv 2) ah)) (aa (eE D.T.d8 (pv 3)) ah))))))))));let⟨ik,fc,ps,vl,wu⟩:=id wo;have zr:∀ {H1:Hp},aH H H1->_:=λ{H1} s=>gT.k (k:=kR) (s _ _ wu.hw);rw[show cz (qc ik fc ps vl) kR=⇑↥fc by kernel_rfl]at zr;have R:=wu.hr.at_;let⟨xs,hxs,al⟩:=id R;have lv:=bV.len al;let⟨rk,rb,dn⟩:=id g.sn.rk;have is:rP ↑rows ((s:Nat):Int):=⟨E,E⟩;have ls:=g.sl _ is.1 is.2;let⟨S,SW,d,wl,M1,bl,kn,du,bk,dS,st,op,dw,sg,ow,pw,db,tb,ops,LU⟩:=id LB;obtain⟨es,uu⟩:∃ es,rows[s]?=⇑es:=⟨_,nM sr⟩;let⟨v,hv,b,rfl,_,hb⟩:=al.get' uu;have el:=g.es es (m6 uu);refine⟨Y,w,Y,zr (aH.refl _),Y,_,fc,rows,(s:Nat),sh,rk,rfl,R,E,g.sn.sd,is.1,is.2,g.sn.ss,g.sn.ln,dn,by have:=rb s;lia,λo H1 ho s1 fo=>?_⟩;have L1:=(LU.same s1).L;refine⟨Y,x,d,Y,L1.hx,rfl,Y,S,x,d,wl,M1,bl,kn,du,bk,dS,st,op,pe,ops,aC,rows,(s:Nat),rfl,L1,hl,E,l2,is,λes2 PB q2 H2 dH s2 Xy=>?_⟩;rw[sO,uu]at PB;cases PB;have qg:=s1.trans s2;refine⟨Y,w,Y,zr qg,Y,fc,K,V,bG.of (qg _ _ hxs),cQ hv,b,es,rfl,qg _ _ hb,E,λq3 H3 vI s3 f3=>⟨Q,rfl,bQ.eqv 1 (dH.same s3) vI,λH4 s4=>⟨true,rfl,dF ?_⟩⟩⟩;have Ks:=qg.trans (s3.trans s4);have L4:=(LU.same Ks).L;refine⟨Y,x,d,Y,L4.hx,rfl,Y,S,x,d,wl,M1,bl,kn,du,bk,dS,st,op,pe,ops,aC,rows,(s:Nat),rfl,L4,hl,E,l2,is,⟨sh,g.sn,λo5 H5 ho5 s5 fo5=>?_⟩⟩;have Hg:=Ks.trans s5;have aaO:=(s2.trans (s3.trans (s4.trans s5))) _ _ ho;refine⟨Y,o,sh (s:Nat),rfl,aaO,E,λr H6 hr6 s6 f6=>⟨Q,rfl,b5.eqv (ho5.same s6) hr6 1,λH7 s7=>⟨true,rfl,dF ?_⟩⟩⟩;have s57:=s6.trans s7;have SQ:=Hg.trans s57;have ho7:=s57 _ _ aaO;refine⟨Y,x,d,Y,(LU.same SQ).L.hx,rfl,Y,U,x,pe,aC,aJ,nW,rows,(s:Nat),sh,rfl,LB.same SQ,hl,l2,E,is,g.sn,ls,g.WN _ is.1 is.2,λH8 s8=>?_⟩;have s18:=SQ.trans s8;refine⟨Y,Y,W,w,o,aJ,pe,rows,sh (s:Nat),rfl,wo.same s18,s8 _ _ ho7,E,g.WN _ is.1 is.2,λH9 s9=>⟨Q,rfl,.inl ⟨V⟩,λHA sA=>⟨true,rfl,dF ?_⟩⟩⟩;have s8A:=s8.trans (s9.trans sA);have s1A:=SQ.trans s8A;have LA:=(LU.same s1A).L;refine⟨Y,x,d,Y,LA.hx,rfl,Y,S,x,d,wl,M1,bl,kn,du,bk,dS,st,op,pe,ops,aC,rows,s,f,rfl,LA,hl,E,l2,sr,B,λHB sB=>?_⟩;have s1B:=s1A.trans sB;refine⟨Y,w,Y,zr s1B,Y,_,fc,rows,(s:Nat),f,rk,rfl,R.same s1B,E,g.sn.sd,is.1,is.2,B.wt,dn,by have:=rb s;lia,⟨Q,rfl,.inl ⟨V⟩,λHC sC=>⟨true,rfl,dF ?_⟩⟩⟩;have s1C:=s1B.trans sC;have LC:=(LU.same s1C).L;refine⟨Y,x,d,Y,LC.hx,rfl,Y,S,x,d,wl,M1,bl,kn,du,bk,dS,st,op,pe,ops,aC,rows,(s:Nat),sh,rfl,LC,hl,E,l2,is,g.sn,ls,λHD sD=>?_⟩;exact⟨Y,o,Y,.inl (bG.of ((s8A.trans (sB.trans (sC.trans sD))) _ _ ho7)),Q,rfl,.inl ⟨rfl,by rw[bW]⟩,λHE sE=>k HE (s1C.trans (sD.trans sE))⟩
class inductive GI(C CS CW CB:Addr)
 | mk (U W:Addr->Prop) (x w:Addr) (pe:iI) (aC:jb) (aJ:iz) (nW:Nat) (rows:cK) (_:vs=[↥w,↥x]) (_:rR C CS CW CB U H x pe aC aJ nW []) (_:pe.getLast?=⇑rows) (_:↑pe<=900) (_:↑aJ<=1000) (_:Wo W H w aJ pe rows) (_:Good ↑aJ rows) (_:∀ H',aH H H'->Q (.bl true) H')
theorem xT:aG ["_law_world_here","_law_house","_law_many"] ["_law_world_here","_law_house"] (az pA):=fC
def GJ(D:Ds K mg aY bq C CS CW CB CT CD aA)(jz:aX P w K mg zt cO 43 (aY 97) (bq 97) ["_law_world_here","_law_house","_law_sheet"] (Jf C CS CW CB)):aX P w K mg zt cO 44 (aY 98) (bq 98) ["_law_world_here","_law_house"] (GI C CS CW CB):=by
 have fD:aX P w K mg zt cO 2 _ _ zl4 (wg 1):=qE D 1;refine fX D.Z4.F xT λcH A zn s0 H vs Q E hr h=>?_;let⟨U,W,x,w,pe,aC,aJ,nW,rows,rfl,LB,hl,l2,li,wo,gd,k⟩:=h;have hu:=jc hr;let⟨sh,g⟩:=gd.Ky;let⟨fb,B⟩:=gd.bears;have XD:=g.ln;refine⟨_,(aj (bx (i:=2) xT.nd (eE D.T.d8 (gi hu (pv 0) bh))) (aj (bN (PW.pt (M8 (gO (gM (aM D.Qu fD hr (aa (eL (pv 1) D.aP D.VR (pQ D) hr bS) (aa (pv 2) ah))))) (Hl (gO (gM (aM D.Qu fD hr (aa (eL (pv 1) D.aP D.ZA (Ab D) hr bS) (aa (bP dY (eE D.T.d8 (gi hu (pv 0) bh)) ay) ah)))))))) (au (aL kW)) aW) (aj (bN (gO (gM (aM D.Qu fD hr (aa (eL (pv 1) D.aP D.ZD (qQ D) hr bS) (aa (eE D.T.d8 (gi hu (pv 0) bh)) ah))))) (au (aL kW)) aW) (au (aL (iO cW (eE D.T.d8 (fR (N:=["_law_sheet","_law_world_here","_law_house"]) (jG (sc:=az pA) (NX:=["_law_world_here","_law_house","_law_many"]) (jx:=[none,some 0,some 1]) rfl rfl rfl nofun nofun rfl nofun rfl nofun) rfl (jJ rfl D.T.jQ (aa (pv 2) ah)) (λ_ _ _ _ _ _=>(bY (i:=0) (show List.Nodup (["_law_sheet","_law_world_here","_law_house"]:List Str) by decide +kernel))) (λ_ _ _ _ _ _=>yD (gO (gM (aM D.Z3 jz hr (aa (pv 1) (aa (pv 2) (aa (pv 0) ah))))))) (λ_ _ _ _ _ _=>(pv 0)))) ay (bu _))))))),?_⟩;let⟨ik,fc,ps,vl,wu⟩:=id wo;let⟨as,xg,pa⟩:=id wu.hi;have la:=Paired.length pa;let⟨xs,hxs,al⟩:=id wu.hr.at_;have lv:=bV.len al;let⟨WK,Kw,alp⟩:=id wu.hp;have lpv:=bV.len alp;have zr:=gT.k (k:=kR) wu.hw;rw[show cz (qc ik fc ps vl) kR=⇑↥fc by kernel_rfl]at zr;have zp:∀ {H1:Hp},aH H H1->_:=λ{H1} s=>gT.k (k:=kP) (s _ _ wu.hw);rw[show cz (qc ik fc ps vl) kP=⇑↥ps by kernel_rfl]at zp;have zi:∀ {H1:Hp},aH H H1->_:=λ{H1} s=>gT.k (k:=kI) (s _ _ wu.hw);rw[show cz (qc ik fc ps vl) kI=⇑↥ik by kernel_rfl]at zi;let⟨S,SW,d,wl,M1,bl,kn,du,bk,dS,st,op,dw,sg,ow,pw,db,tb,ops,LU⟩:=id LB;have lo:=pH LU.L hl;have lp:↑(mH pe)=↑pe:=bW _;exists Y,w,Y,zr,fc,Y,.inl (bG.of hxs);exists Y,x,d,Y,LU.L.hx,rfl,S,x,d,wl,M1,bl,kn,du,bk,dS,st,op,mH pe,ops,aC,rfl,LU.L;rw[lo,lv];refine⟨Y,Q,rfl,.inl ⟨V⟩,λH1 s1=>⟨true,rfl,dF ?_⟩⟩;have L1:=(LU.same s1).L;refine⟨Y,x,d,Y,L1.hx,rfl,S,x,d,wl,M1,bl,kn,du,bk,dS,st,op,mH pe,ops,aC,rfl,L1,Y,w,Y,zp s1,ps,Y,.inl (bG.of (s1 _ _ Kw)),Z,Q,rfl,.inl ⟨rfl,by rw[lp,lpv]⟩,λH2 s2=>⟨true,rfl,dF ?_⟩⟩;have qg:=s1.trans s2;refine⟨Y,(LB.same qg).m ⟨U,x,pe,aC,aJ,nW,[],rfl,LB.same qg,Y,w,Y,zi qg,ik,Y,.inl (bG.of (qg _ _ xg)),Q,rfl,.inl ⟨rfl,by rw[bW,la]⟩,λH3 s3=>⟨true,rfl,dF ?_⟩⟩⟩;have xF:=qg.trans s3;refine⟨Y,(↑rows:Nat),rfl,E,E,λacc cu=>mS (lo:=0) (k:=((↑rows:Nat):Int).toNat) (λi σ H4=>∃ u:Option V,σ=[u,⇑↥w,⇑↥x]/\H4 acc=⇑(.lst [])/\aH H H4) ⟨none,rfl,af,xF.trans (ao cu _)⟩ ?_ ?_⟩
 ·rintro j σ H4 hj ⟨u,rfl,h4,s4⟩;rw[Int.zero_add];refine⟨Y,Y,Y,U,W,x,w,pe,aC,aJ,nW,rows,sh,fb,j,rfl,LB.same s4,hl,l2,wo.same s4,g,B,E,λH5 s5=>⟨true,rfl,dF ⟨Y,s5 _ _ h4,s4.trans s5⟩⟩⟩
 ·rintro σ H4 ⟨u,rfl,h4,s4⟩;exact⟨acc,Y,.inl (bG.of h4),rfl,k H4 s4⟩
def Tf{n m:Nat}(h:m<=40):Good n (e0 m):=by
 refine⟨λes he e hm=>?_,P7 m,by rw[List.length_replicate];exact h,λ_=>0,λx es _ he=>?_,λ_ _ _=>(by decide:(0:Int)<=200)⟩
 ·rw[xo he]at hm;cases hm
 ·rw[xo (m6 he)];rfl
inductive I41(C CS CW CB l c x w:Addr)(n:Nat)(H:Hp):Prop
 | mk (U W:Addr->Prop) (pe:iI) (rows:cK) (aC:jb) (aJ:iz) (_:vK C CS CW CB H l c w x U W pe rows pe rows aC aJ 3 []) (_:2<=↑rows) (_:↑rows<=4) (_:↑pe<=n) (_:↑aC<=n) (_:110<=↑aJ) (_:↑aJ<=128) (_:Good ↑aJ rows)
def aeM(C CS CW CB:Addr):TS:=λD σ H=>∃ (a l c x w:Addr) (n:Nat) (u4 u5 u6 u7 u8 u9:Option V),σ=[⇑↥a,⇑↥l,⇑↥x,⇑↥w,u4,u5,u6,u7,u8,u9]/\n<=100/\I41 C CS CW CB l c x w n H/\∀ (u5 u6 u7:Option V) (H':Hp),I41 C CS CW CB l c x w (n+1) H'->D.nx [⇑↥a,⇑↥l,⇑↥x,⇑↥w,u4,u5,u6,u7,u8,u9] H'
def aaP{n:Nat}{rows:cK}{sh:Int->List Int}{f:Int->Int}{dd:LD}(g:Gd n rows sh)(hw:Weighs rows f)(m:∀ x:Int,0<=x->x<↑rows->0<=f x/\f x<=200)(ok:dd.Ok n ↑rows sh):dX f (dd.res sh rows)<=600/\↑(dd.res sh rows)<=600:=by
 have wl:∀ y:Int,0<=y->y<↑rows->(↑(sh y):Int)<=f y/\∀ a∈sh y,0<=a:=λy y0 y1=>⟨(vC g.sn.sd g.sn.rk g.sn.ss hw y y0 _ (nM ∅)).2,λa ha=>(g.WN y y0 y1 a ha).1⟩
 have ow:∀ {s p:Int} {new:List Int},rP ↑rows s->dX f new<=300->dX f (gf sh p (own rows s) new)<=600:=λ{s p new} is hn=>by
  have e:=Ao is;have:=aaK (sh:=sh) (f:=f) (p:=p) (es:=own rows s) (new:=new) λy hy=>wl y (bM.mp hy).1 (g.sn.sd _ (m6 e) y hy);have h1:=hw s _ is.1 e;have h2:=m s is.1 is.2;lia
 have r6:dX f (dd.res sh rows)<=600:=by
  cases dd with
  | put s p r row =>
   let⟨is,ip,l3,hq⟩:=ok;refine ow is ?_;have:=Ak (k:=90) (row:=row) λq h=>by have:=hq q h;lia
   rw[vE f λx hx=>(Gu (λq h=>by have:=hq q h;exact⟨this.1,this.2.1,this.2.2.1⟩) hx).1];lia
  | Tc t p s a b =>
   let⟨it,ip,is,i3⟩:=ok;refine ow it ?_;have:=g.sl s is.1 is.2;rw[vE f λx hx=>(wl s is.1 is.2).2 x (List.mem_of_mem_take (List.mem_of_mem_drop hx)),sP,gx];lia
  | win t p s =>
   let⟨it,ip,is⟩:=ok;refine ow it ?_;have:=m s is.1 is.2;rw[gr,if_pos (by have:=is.1;lia),show -1-(-1-s)=s by lia,show dX f []=0 from rfl];lia
 have:=(Ea (sh:=sh) (f:=f) (es:=dd.res sh rows) λy hy=>(wl y (bM.mp hy).1 (by
  have y0:=(bM.mp hy).1
  rcases LD.P1 g ok _ (bM.mp hy).2 with z|z <;> lia)).1).1
 exact⟨r6,E⟩
def LD.At.tup{H:Hp}{t:Addr}{dd:LD}(h:dd.At H t):∃ vs,H t=⇑(.tup vs)/\qm vs 1=⇑(.int dd.sh):=by
 cases dd with
 | put=>exact⟨_,h.1,rfl⟩
 | _=>exact⟨_,h,rfl⟩
def LD.At.kept{H H':Hp}{t:Addr}{dd:LD}(h:dd.At H t)(tp:∀ a xs,H a=⇑(.tup xs)->H' a=⇑(.tup xs))(kr:∀ s p r row,dd=.put s p r row->∀ xs,H r=⇑(.lst xs)->H' r=⇑(.lst xs)):dd.At H' t:=by
 cases dd with
 | put s p r row =>
  let⟨h1,as,ha,pa⟩:=h;exact⟨tp _ _ h1,as,kr _ _ _ _ rfl _ ha,pa.tups tp⟩
 | _=>exact tp _ _ h
abbrev abW:List Nat:=(Str.ofString "abcdefghij").cps.toList
theorem qX:aG ["_law_script","_law_src_here","_law_house","_law_world_here","_law_k","_law_start","_law_stop","_law_rows","_law_deed","_law_fit"] ["_law_script"] (az HR):=fC
def all_mk:Tw:=by
 intro P w K mg fa q;let⟨dZ,gI,gH,Bx,E2,bC,aA,XS,X,G,hfa,JT,jO,nX,NS,tQ,uK,nY,JU,uL,NT,C7,C8,NU,JV,By,xA,gm,zd,C9,JW,E3,q0,q1,q2,q3,q4,q5,q6,q7,q8,q9,BA,q11,q12,q13,q14,q15,q16,q17,q18,q19,q20,q21,q22,q23,q24,q25,q26,q27,q28,q29,q30,q31,q32,q33,q34,q35,q36,q37,q38,q39,q40,q41,q42,q43,q44,q45,q46,q47,q48,q49,q50,q51,q52,q53,q54,q55,q56,q57,q58,q59,q60,q61,q62,q63,q64,q65,q66,q67,q68,q69,q70,q71,q72,q73,q74,q75,q76,q77,q78,q79,q80,q81,q82,q83,q84,q85,q86,q87,q88,q89,q90,q91,q92,q93,q94,q95,q96,q97,q98,q99,z0,z1,z2,z3,z4,z5,z6,z7,z8,z9,z10,z11,z12,z13,BB,xS,r9,sf,E4,uM,sj,qz⟩:=q;let⟨al,ll,cl,kl⟩:=q99;have e:=hfa.symm.trans (mg_of X G al);cases e;obtain⟨fd,F,bF⟩:∃ fd,NL K "law" "law" HR fa fd/\∀ (s:Shared) (v:Value),BindsTo s fd ⟨[v],[]⟩ [("_law_script",v)]:=⟨_,HM (st:=HR) ll cl kl,λs v=>.of_eq rfl⟩;let⟨g0,MK⟩:=q0.d (ps:=["_law_script"]) X G;let⟨g1,Jg⟩:=q1.d (ps:=["_law_src_here","_law_base"]) X G;let⟨g2,GK⟩:=q2.d (ps:=["_law_found"]) X G;let⟨g3,Jh⟩:=q3.d (ps:=["_law_found","_law_due"]) X G;let⟨g4,WX⟩:=q4.d (ps:=["row"]) X G;let⟨g5,Uo⟩:=q5.d (ps:=["row"]) X G;let⟨g6,A7⟩:=q6.d (ps:=["row","start","stop"]) X G;let⟨g7,Tg⟩:=q7.d (ps:=["row","start","stop"]) X G;let⟨g8,aaQ⟩:=q8.d (ps:=["row","start","stop"]) X G;let⟨g9,pT⟩:=q9.d (ps:=["self"]);let⟨g10,Ji⟩:=BA.d (ps:=["row"]) X G;let⟨g11,Th⟩:=q11.d (ps:=["row"]) X G;let⟨g12,yq⟩:=q12.d (ps:=["holes","start"]) X G;let⟨g13,Jj⟩:=q13.d (ps:=["start","stop","holes"]) X G;let⟨g14,Qg⟩:=q14.d (ps:=["items"]) X G;let⟨g15,WY⟩:=q15.d (ps:=["rows","sheets"]) X G;let⟨g16,Ej⟩:=q16.d (ps:=["rows","start","goal"]) X G;let⟨g17,aaR⟩:=q17.d (ps:=["rows","sheet"]) X G;let⟨g18,Ek⟩:=q18.d (ps:=["item","weights"]) X G;let⟨g19,As⟩:=q19.d (ps:=["rows","sheets"]) X G;let⟨g20,KL⟩:=q20.d (ps:=["rows","sheet"]) X G;let⟨g21,ML⟩:=q21.d (ps:=["item","views"]) X G;let⟨g22,El⟩:=q22.d (ps:=["rows","sheets"]) X G;let⟨g23,Qh⟩:=q23.d (ps:=["rows","sheet"]) X G;let⟨g24,Qi⟩:=q24.d (ps:=["one","other"]) X G;let⟨g25,Em⟩:=q25.d (ps:=["items"]) X G;let⟨g26,WZ⟩:=q26.d (ps:=["row"]) X G;let⟨g27,W0⟩:=q27.d (ps:=["items","views"]) X G;let⟨g28,Jk⟩:=q28.d (ps:=["items","views","place","others"]) X G;let⟨g29,Jl⟩:=q29.d (ps:=["rows","sheet","place","items"]) X G;let⟨g30,A8⟩:=q30.d (ps:=["rows","sheet","ink"]) X G;let⟨g31,Jm⟩:=q31.d (ps:=["row"]) X G;let⟨g32,GL⟩:=q32.d (ps:=["deed"]) X G;let⟨g33,Qj⟩:=q33.d (ps:=["state","sheet","items"]) X G;let⟨g34,pU⟩:=q34.d (ps:=["self"]);let⟨g35,Jo⟩:=q35.d (ps:=["self"]);let⟨g36,GN⟩:=q36.d (ps:=["self"]);let⟨g37,GO⟩:=q37.d (ps:=["self","changes"]);let⟨g38,uo⟩:=q38.d (ps:=["self","sheet"]);let⟨g39,rT⟩:=q39.d (ps:=["self","moment"]);let⟨g40,xq⟩:=q40.d (ps:=["self","moment"]);let⟨g41,GP⟩:=q41.d (ps:=["self"]);let⟨g42,Jp⟩:=q42.d (ps:=["self","sheet"]);let⟨g43,qY⟩:=q43.d (ps:=["self"]);let⟨g44,qZ⟩:=q44.d (ps:=["self"]);let⟨g45,rf⟩:=q45.d (ps:=["self"]);let⟨g46,Jq⟩:=q46.d (ps:=["self"]);let⟨g47,Jr⟩:=q47.d (ps:=["self","hand","text"]);let⟨g48,GQ⟩:=q48.d (ps:=["self","row"]);let⟨g49,En⟩:=q49.d (ps:=["rows","sheet"]) X G;let⟨g50,m5⟩:=q50.d (ps:=["self"]);let⟨g51,Au⟩:=q51.d (ps:=["self","deed","changes"]);let⟨g52,yr⟩:=q52.d (ps:=["self","deed","sheet","items"]);let⟨g53,A9⟩:=q53.d (ps:=["self"]);let⟨g54,Eo⟩:=q54.d (ps:=["self"]);let⟨g55,Av⟩:=q55.d (ps:=["self","deed","items"]);let⟨g56,Aw⟩:=q56.d (ps:=["self"]);let⟨g57,Ep⟩:=q57.d (ps:=["self"]);let⟨g58,rV⟩:=q58.d (ps:=["self","row"]);let⟨g59,Ba⟩:=q59.d (ps:=["self","hand","text"]);let⟨g60,Er⟩:=q60.d (ps:=["self","sheet","place","row"]);let⟨g61,Ax⟩:=q61.d (ps:=["self","sheet"]);let⟨g62,Ay⟩:=q62.d (ps:=["self","target","place","source","start","stop"]);let⟨g63,Es⟩:=q63.d (ps:=["self","sheet"]);let⟨g64,yt⟩:=q64.d (ps:=["self","target","place","source"]);let⟨g65,yu⟩:=q65.d (ps:=["self","sheet"]);let⟨g66,yv⟩:=q66.d (ps:=["self","row"]);let⟨g67,Ti⟩:=q67.d (ps:=["holes","address"]) X G;let⟨g68,Et⟩:=q68.d (ps:=["self","address"]);let⟨g69,rW⟩:=q69.d (ps:=["self","address"]);let⟨g70,Js⟩:=q70.d (ps:=["self","address"]);let⟨g71,yx⟩:=q71.d (ps:=["self","row","veil"]);let⟨g72,Bb⟩:=q72.d (ps:=["self","sheet"]);let⟨g73,Bc⟩:=q73.d (ps:=["self","sheet"]);let⟨g74,GR⟩:=q74.d (ps:=[]) X G;let⟨g75,Jt⟩:=q75.d (ps:=["_law_world_here","_law_rows"]) X G;let⟨g76,Ju⟩:=q76.d (ps:=["_law_rows","_law_sheet","_law_entries"]) X G;let⟨g77,GS⟩:=q77.d (ps:=["_law_row"]) X G;let⟨g78,Jv⟩:=q78.d (ps:=["_law_rows","_law_sheet"]) X G;let⟨g79,Bd⟩:=q79.d (ps:=["_law_rows","_law_sheet"]) X G;let⟨g80,Eu⟩:=q80.d (ps:=["_law_rows","_law_entry"]) X G;let⟨g81,MM⟩:=q81.d (ps:=["_law_rows","_law_sheet","_law_place","_law_new"]) X G;let⟨g82,MN⟩:=q82.d (ps:=["_law_rows","_law_sheet","_law_start","_law_stop"]) X G;let⟨g83,Be⟩:=q83.d (ps:=["_law_rows","_law_sheet"]) X G;let⟨g84,Ew⟩:=q84.d (ps:=["_law_numbers"]) X G;let⟨g85,Az⟩:=q85.d (ps:=["_law_entries"]) X G;let⟨g86,Jw⟩:=q86.d (ps:=["_law_rows","_law_sheet"]) X G;let⟨g87,GU⟩:=q87.d (ps:=["_law_world_here","_law_deed"]) X G;let⟨g88,Ex⟩:=q88.d (ps:=["self","sheet","start","stop"]);let⟨g89,Bf⟩:=q89.d (ps:=["self","sheet","start","stop","to"]);let⟨g90,Ey⟩:=q90.d (ps:=["self","sheet"]);let⟨g91,Bg⟩:=q91.d (ps:=["self","sheet","moment"]);let⟨g92,Jx⟩:=q92.d (ps:=["_law_house","_law_deed"]) X G;let⟨g93,GV⟩:=q93.d (ps:=["_law_src_here","_law_world_here"]) X G;let⟨g94,GW⟩:=q94.d (ps:=["_law_house","_law_deed","_law_any_one"]) X G;let⟨g95,GX⟩:=q95.d (ps:=["_law_src_here","_law_world_here","_law_house"]) X G;let⟨g96,Jy⟩:=q96.d (ps:=["_law_world_here","_law_numbers"]) X G;let⟨g97,vF⟩:=q97.d (ps:=["_law_world_here","_law_house","_law_sheet"]) X G;let⟨g98,Jz⟩:=q98.d (ps:=["_law_world_here","_law_house"]) X G;have T:Nms mg:=⟨PySem.W.mg_none_of X G z0,vL X G z1,vL X G z2,vL X G z3,vL X G z4,vL X G z5,vL X G z6,vL X G z7,vL X G z8,vL X G z9,vL X G z10,vL X G z11,vL X G z12,vL X G z13,λf e=>(Uo.m).symm.trans e ▸ mg_of X G uM,λf e=>(Qh.m).symm.trans e ▸ mg_of X G sj,λf e=>(KL.m).symm.trans e ▸ mg_of X G qz⟩;have G_:Gbs mg:=⟨⟨_,mg_of X G r9⟩,⟨_,mg_of X G sf⟩,⟨_,mg_of X G E4⟩⟩;let⟨sm,sh⟩:=xS;have Z2:Om K mg aA XS:=⟨mg_of X G sm,sh⟩;have lK:=BB.d X G;have cF:=JT.d X G pU.mt;have iM:=NS.d X G rf.mt;have tZ:=JU.d X G pT.mt;have Cb:=NT.d X G qY.mt;have FL:=NU.d X G qZ.mt;have aP:=By.d X G m5.mt;obtain⟨aY,bq,D⟩:∃ aY bq,Ds K mg aY bq bC dZ gI gH Bx E2 aA:=⟨nth [_,_,_,_,_,_,_,_,_,_,_,_,_,_,_,_,_,_,_,_,_,_,_,_,_,_,_,_,_,_,_,_,_,_,_,_,_,_,_,_,_,_,_,_,_,_,_,_,_,_,_,_,_,_,_,_,_,_,_,_,_,_,_,_,_,_,_,_,_,_,_,_,_,_,_,_,_,_,_,_,_,_,_,_,_,_,_,_,_,_,_,_,_,_,_,_,_,_,_] 0,nth [g0,g1,g2,g3,g4,g5,g6,g7,g8,g9,g10,g11,g12,g13,g14,g15,g16,g17,g18,g19,g20,g21,g22,g23,g24,g25,g26,g27,g28,g29,g30,g31,g32,g33,g34,g35,g36,g37,g38,g39,g40,g41,g42,g43,g44,g45,g46,g47,g48,g49,g50,g51,g52,g53,g54,g55,g56,g57,g58,g59,g60,g61,g62,g63,g64,g65,g66,g67,g68,g69,g70,g71,g72,g73,g74,g75,g76,g77,g78,g79,g80,g81,g82,g83,g84,g85,g86,g87,g88,g89,g90,g91,g92,g93,g94,g95,g96,g97,g98] g0,T,G_,aP,cF,iM,tZ,Cb,FL,jO,nX,tQ,uK,nY,uL,C7,C8,JV,xA,gm,zd,C9,JW,E3,lK,MK,Jg,GK,Jh,WX,Uo,A7,Tg,aaQ,pT,Ji,Th,yq,Jj,Qg,WY,Ej,aaR,Ek,As,KL,ML,El,Qh,Qi,Em,WZ,W0,Jk,Jl,A8,Jm,GL,Qj,pU,Jo,GN,GO,uo,rT,xq,GP,Jp,qY,qZ,rf,Jq,Jr,GQ,En,m5,Au,yr,A9,Eo,Av,Aw,Ep,rV,Ba,Er,Ax,Ay,Es,yt,yu,yv,Ti,Et,rW,Js,yx,Bb,Bc,GR,Jt,Ju,GS,Jv,Bd,Eu,MM,MN,Be,Ew,Az,Jw,GU,Ex,Bf,Ey,Bg,Jx,GV,GW,GX,Jy,vF,Jz⟩;refine⟨fd,bF,λzt _ _=>?_⟩;have MO:aX P w K mg zt cO 1 _ _ ["_law_script"] (TH K):=IG D;have dR:aX P w K mg zt cO 1 _ _ zl3 Dc:=mV D;have vG:aX P w K mg zt cO 3 _ _ G4 (Cv bC dZ gI gH):=rS D;have GY:aX P w K mg zt cO 1 _ _ [] Kv:=D3 D;have uq:aX P w K mg zt cO 1 _ _ ["_law_world_here","_law_rows"] PN:=qS D;have GZ:aX P w K mg zt cO 8 _ _ XO (KJ bC dZ gI gH):=Ei D;have nL:aX P w K mg zt cO 4 _ _ zl2 (Ku bC dZ gI gH):=pS D;have yz:aX P w K mg zt cO 5 _ _ ["self","row"] (Gn bC dZ gI gH):=vA D;have G1:aX P w K mg zt cO 43 _ _ XM KC:=Ef D;have JA:aX P w K mg zt cO 1 _ _ zl7 PV:=xQ D;have G2:aX P w K mg zt cO 45 _ _ ["_law_world_here","_law_deed"] Kz:=Eb D;have Bh:aX P w K mg zt cO 1 _ _ Xa Cz:=qU D;have JB:aX P w K mg zt cO 43 _ _ Xa P4:=Gz D;have G3:aX P w K mg zt cO 8 _ _ XN (KD bC dZ gI gH aA):=Eg D Z2 (GC D);have jz:aX P w K mg zt cO 43 _ _ XQ (Jf bC dZ gI gH):=um D;have JC:aX P w K mg zt cO 44 _ _ ["_law_world_here","_law_house"] (GI bC dZ gI gH):=GJ D jz;refine fX F qX λcH A zn s H vs Q E hr h=>?_;let⟨a,ns,rfl,hS,h63,k⟩:=h;have hu:=jc hr;refine⟨_,(aj (bx (i:=1) qX.nd (aM D.dq0 MO hr (aa (pv 0) ah))) (aj (bx (i:=2) qX.nd (nS D.aP.Xn vG (hr.mono (by decide)) rfl D.aP.m D.Zz.b .nil bS)) (aj (bx (i:=3) qX.nd (Np GY (hr.mono (by decide)) rfl D.RW.m D.RW.F.kp D.RW.b .nil bS)) (aj (bN (gO (gM (aM D.Z0 GZ hr (aa (pv 1) (aa (pv 3) (aa (pv 2) ah)))))) (au (aL kW)) aW) (aj (aV (cJ (pv 2) D.aP D.RV nL hr bS (aa ay (aa (bP KG bh ay) ah)))) (aj (aV (dm pI PySem.F.slot_list_extend PySem.F.type_list_extend lI (gi hu (pv 3) bh) (aa (fR (N:=["_law_sign"]) (jG (sc:=az HR) (NX:=["_law_script","_law_src_here","_law_house","_law_world_here","_law_k","_law_start","_law_stop","_law_rows","_law_deed","_law_fit"]) (jx:=[none]) rfl rfl rfl nofun nofun rfl nofun rfl nofun) rfl (OJ (bP KG bh ay)) (λ_ _ _ _ _ _=>(bY (i:=0) (show List.Nodup (["_law_sign"]:List Str) by decide +kernel))) (λ_ _ _ _ _ _=>fQ) (λ_ _ _ _ _ _=>(cG (aa ay (aa (pv 0) ah))))) ah))) (aj (aV (aM D.L0 uq hr (aa (pv 3) (aa (gi hu (pv 3) bh) ah)))) (aj (d9 PassesOwn.never rfl (jJ rfl D.T.jQ (aa (aM D.IE dR hr (aa (pv 1) (aa ay ah))) ah)) (bY (i:=4) qX.nd) (aj (zh (t':=aeM bC dZ gI gH) (bN (aU cW (aM D.IE dR hr (aa (pv 1) (aa ay ah))) ay (bu _)) (aj (bx (i:=5) qX.nd (aM D.IE dR hr (aa (pv 1) (aa (eE D.T.d8 (gi hu (pv 3) bh)) ah)))) (aj (bx (i:=6) qX.nd (bP fj (bP fj (pv 5) ay) (aM D.IE dR hr (aa (pv 1) (aa (b8 (nR rfl) rfl D.T.FJ PyProof.Rows.boot_min (aa ay (aa (bP dY (eE D.T.d8 (gi hu (pv 3) bh)) (pv 5)) ah))) ah))))) (aj (aV (cJ (pv 2) D.aP D.ZJ yz hr bS (aa (bO (aa (cG (aa (pv 5) (aa (pv 6) ah))) ah)) ah))) (aj (Di (N:=["_law_row","_law_start","_law_stop"]) (i:=7) (jG (sc:=az HR) (NX:=["_law_script","_law_src_here","_law_house","_law_world_here","_law_k","_law_start","_law_stop","_law_rows","_law_deed","_law_fit"]) (jx:=[none,some 5,some 6]) rfl rfl rfl nofun nofun rfl nofun rfl nofun) rfl qX.nd rfl rfl (ck (gi hu (pv 3) bh)) (λ_ _ _ _ _ _=>(bY (i:=0) (show List.Nodup (["_law_row","_law_start","_law_stop"]:List Str) by decide +kernel))) (λ_ _ _ _ _ _=>fQ) (λ_ _ _ _ _ _=>(fR (N:=["_law_entry","_law_start","_law_stop"]) (WW (sc:=az HR) (jx:=[none,some 1,some 2]) rfl rfl rfl nofun nofun rfl nofun rfl nofun) rfl (Ft (pv 0)) (λ_ _ _ _ _ _=>(bY (i:=0) (show List.Nodup (["_law_entry","_law_start","_law_stop"]:List Str) by decide +kernel))) (λ_ _ _ _ _ _=>yD (PW.pt (M8 (aU lO (pv 0) (pv 1) (bu _)) (Hl (aU Nj (pv 0) (pv 2) (bu _)))))) (λ_ _ _ _ _ _=>(pv 0))))) (au (aV (aM D.L0 uq hr (aa (pv 3) (aa (pv 7) ah))))))))) aW) ?b1) (aj (bx (i:=8) qX.nd (aM D.ZY G1 hr (aa (pv 1) (aa (pv 3) ah)))) (aj (bx (i:=7) qX.nd (aM D.VU JA hr (aa (gi hu (pv 3) bh) (aa (aN aT (pv 8) ay) (aa (aM D.ZX G2 hr (aa (pv 3) (aa (pv 8) ah))) ah))))) (au (bN (aU uG (aN aT (pv 8) ay) (aM D.VW Bh hr (aa (pv 7) (aa (aN aT (pv 8) ay) ah))) rfl) (aj (bx (i:=9) qX.nd (aM D.ZW JB hr (aa (pv 7) (aa (aN aT (pv 8) ay) ah)))) (aj (bN (aU cW (aM D.ZZ G3 hr (aa (pv 2) (aa (pv 8) (aa (iO cW (aM D.IE dR hr (aa (pv 1) (aa ay ah))) ay (bu _)) ah)))) (pv 9) (bu _)) (au (aL kW)) aW) (au (bN (jj (pv 9) (λ_=>rfl)) (au (aV (aM D.L0 uq hr (aa (pv 3) (aa (pv 7) ah))))) aW)))) aW)))))) (au (aL (aM D.Z4 JC hr (aa (pv 3) (aa (pv 2) ah))))))))))))),?_⟩
 case b1 =>
  rintro D σ H ⟨a,l,c,x,w,n,u4,u5,u6,u7,u8,u9,rfl,n9,⟨U,W,pe,rows,aC,aJ,St,r2,r4,lp,ll,i0,i1,gd⟩,k⟩;refine⟨Y,l,c,6,rfl,St.src,by decide,by decide,λv H1 v0 v1 S1 k1=>⟨rfl,Y,cM (λ_=>?_) (λ_=>k _ _ _ H1 ⟨U,W,pe,rows,aC,aJ,St.mv (cA k1) S1,r2,r4,E,E,i0,i1,gd⟩)⟩⟩;have St:=St.mv (cA k1) S1
  have zz:∀ {H1:Hp} {ik fc ps vl:Addr},H1 w=⇑(.dK (qc ik fc ps vl))->gT H1 w (kV kI) (⇑↥ik)/\gT H1 w (kV kR) (⇑↥fc):=λ{H1 ik fc ps vl} e=>by
   have z1:=gT.k (k:=kI) e;have z2:=gT.k (k:=kR) e;rw[show cz (qc ik fc ps vl) kI=⇑↥ik by kernel_rfl]at z1;rw[show cz (qc ik fc ps vl) kR=⇑↥fc by kernel_rfl]at z2;exact⟨z1,z2⟩
  let⟨ik,fc,ps,vl,wu⟩:=id St.wo;let⟨as,xg,pa⟩:=id wu.hi;have la:=Paired.length pa;refine⟨Y,Y,w,Y,(zz wu.hw).1,ik,Y,.inl (bG.of xg),l,c,Y,St.src,by rw[bW];lia,by rw[bW];lia,λs H2 s0 s1 S2 k2=>?_⟩;rw[bW,la]at s1;have QD:=St.mv (cA k2) S2;clear wu xg pa la;let⟨ik,fc,ps,vl,wu⟩:=id QD.wo;let⟨as,xg,pa⟩:=id wu.hi;have la:=Paired.length pa;exists Y,Z,Y,Y,w,Y,(zz wu.hw).1,ik,Y,.inl (bG.of xg),Y,Z,Q,rfl;rw[bW,la]
  obtain⟨b,eb,b1,b2,b3⟩:∃ b:Int,(if ((↑aJ:Nat):Int)-s<9 then ((↑aJ:Nat):Int)-s else 9)=b/\1<=b/\b<=9/\b<=(↑aJ:Nat)-s:=⟨Y,by split <;> lia,by split <;> lia,by split <;> lia⟩
  rw[eb];refine⟨l,c,b,rfl,QD.src,E,E,λt H3 t0 t1 S3 k3=>⟨Z,?_⟩⟩;have M3:=QD.mv (cA k3) S3;clear wu xg pa la;generalize est:s+1+t=e;refine⟨Y,M3.MH.m ⟨Y,Y,jL,λp hp=>⟨kG,λr i9=>?_⟩⟩⟩;let⟨sh,g⟩:=gd.Ky;have XD:=g.ln;have npr:p≠r:=λz=>by rw[z,af]at i9;cases i9
  have aaS:b5 (aO (aO H3 p (.tup [.int s,.int e])) r (.lst [↥p])) r [(s,e)]:=⟨[p],af,.cons (show _=_ by rw[aK npr,af]) .nil⟩;have s4:aH H3 (aO (aO H3 p (.tup [.int s,.int e])) r (.lst [↥p])):=(ao hp _).trans (ao i9 _);generalize aO (aO H3 p (.tup [.int s,.int e])) r (.lst [↥p])=H4 at aaS s4 ⊢;have M4:=M3.same s4;have d1:∀ q∈([(s,e)]:Row),0<=q.1/\q.1<q.2/\q.2<=(↑aJ:Nat):=λq h=>by rw[List.mem_singleton.mp h];exact⟨s0,by show s<e;lia,by show e<=_;lia⟩
  refine⟨U,x,r,pe,aC,aJ,3,[],[(s,e)],rows,sh,rfl,M4.MH,aaS,(by show 1<3;decide),⟨(by show 1<=_;decide),λq h=>by have:=d1 q h;exact⟨⟨E,E⟩,⟨E,E⟩⟩⟩,M4.lst,E,E,E,GB d1,g.sn,λU' H' L' fr'=>?_⟩;have M5:=(M4.WL L' m7 fr').1;let⟨ik,fc,ps,vl,wu⟩:=id M5.wo;let⟨wrw,ni,np,xs,hxs,al⟩:=id wu.hr;have lv:=bV.len al;refine⟨Y,w,Y,(zz wu.hw).2,fc,rfl,⟨_,bG.of hxs⟩,λq hq=>fk (K:=K) (a:=fc) (xs:=xs) (λj σ H6=>∃ (u:Option V) (vs:List V),σ=[u,⇑(.int s),⇑(.int e)]/\H6 q=⇑(.lst vs)/\bV (λv es=>∃ b,v=↥b/\H' b=none/\b≠q/\H6 b=⇑(.lst (es.map V.int))) vs ((rows.take j).map (ju [(s,e)]))/\aH H' H6) ⟨none,[],rfl,af,.nil,ao hq _⟩ (λi σ H6 _ h=>by let⟨_,_,_,_,_,k4⟩:=h;exact bG.of (k4 _ _ hxs)) ?_ ?_⟩
  ·rintro j v σ H6 hj ⟨u,vs,rfl,h6,a6,s6⟩;let⟨es,uu,b0,rfl,_,_,_,hb0⟩:=bV.get al hj;have hb6:=s6 _ _ hb0;have le:=g.es es (m6 uu);refine⟨Y,b0,rfl,⟨_,bG.of hb6⟩,λacc cu=>fk (K:=K) (a:=b0) (xs:=es.map V.int) (λi σ H7=>∃ u:Option V,σ=[u,⇑(.int s),⇑(.int e)]/\H7 acc=⇑(.lst ((ju [(s,e)] (es.take i)).map V.int))/\aH H6 H7) ⟨none,rfl,af,ao cu _⟩ (λi σ H7 _ h=>by let⟨_,_,_,s7⟩:=h;exact bG.of (s7 _ _ hb6)) ?_ ?_⟩
   ·rintro i v σ H7 hi ⟨u,rfl,h7,s7⟩;rw[kU]at hi;let⟨y,ey,rfl⟩:=Option.map_eq_some_iff.mp hi;have il:=(List.getElem?_eq_some_iff.mp ey).1;have lf:↑(ju [(s,e)] (es.take i))<=↑(es.take i):=List.length_filter_le ..;rw[gx]at lf;have hin:Qt [(s,e)] y=(decide (s<=y)&&decide (y<e)):=Bool.or_false _
    have Xi:¬ (s<=y/\y<e)->ju [(s,e)] (es.take (i+1))=ju [(s,e)] (es.take i)++[y]:=λh=>by
     rw[take_snoc ey,Qd,Qe (by rw[hin,← Bool.decide_and,decide_eq_false h,Bool.not_false,Bool.or_true])]
    refine⟨Y,Y,Z,Y,cM (λc=>jg ⟨Y,_,h7,by rw[bW];exact aS ∅,Y,by rw[af,Xi (λz=>by have:=of_decide_eq_true c;lia),gC];rfl,bJ cu s7 (aF acc _ _)⟩) (λc=>⟨Y,Y,Z,Y,cM (λc2=>⟨Y,_,h7,by rw[bW];exact aS ∅,Y,by rw[af,Xi (λz=>by have:=of_decide_eq_true c2;lia),gC];rfl,bJ cu s7 (aF acc _ _)⟩) (λc2=>⟨Y,?_,s7⟩)⟩)⟩;have c':=of_decide_eq_false (eq_false_of_ne_true c);have Qy:=of_decide_eq_false (eq_false_of_ne_true c2);rw[take_snoc ey,Qd,Te (by rw[hin,decide_eq_false (show ¬ y<0 by lia),decide_eq_true (show s<=y by lia),decide_eq_true (show y<e by lia)];rfl)];exact h7
   ·rintro σ H7 ⟨u,rfl,h7,s7⟩;rw[bW,gy]at h7;have lv6:=bV.len a6;rw[bW,gx]at lv6;have nq:acc≠q:=(aB h6 cu).symm;refine⟨_,s7 _ _ h6,aS ∅,Q,rfl,af,?_,bJ hq (s6.trans s7) (aF q _ _)⟩;rw[take_snoc uu,gC];exact bV.snoc (a6.mono λv es ⟨b,e,n,nb,hb⟩=>⟨b,e,n,nb,by rw[aK nb];exact s7 _ _ hb⟩) ⟨acc,rfl,bw s6 cu,nq,by rw[aK nq];exact h7⟩
  rintro σ H6 ⟨u,vs,rfl,h6,a6,s6⟩;rw[lv,gy]at a6;have wu6:I0 W H6 w ik fc ps vl aJ pe rows:=wu.fr (λa ob e _=>s6 _ _ e) (λa xs e=>s6 _ _ e);have Uk:I0 (λa=>W a\/(H' a=none/\∃ ob,H6 a=⇑ob)) H6 w ik fc ps vl aJ pe rows:=vK.PR wu6 (λa z=>.inl z) λa z=>z.elim (wu6.al a) λy=>y.2;let⟨_,xg⟩:=wu.al _ wu.wi;let⟨_,Kw⟩:=wu.al _ wu.wp;refine⟨Y,Y,_,w,q,aJ,pe,rows,rows.map (ju [(s,e)]),rfl,⟨ik,fc,ps,vl,Uk⟩,E,λik' uZ ⟨rw2,vl',ee⟩=>?_,λH8 Td EB tp8 _=>?_⟩
  ·rw[wu6.hw]at ee;simp only[Option.some.injEq,HO.dK.injEq,qc,List.cons.injEq,Prod.mk.injEq,V.ref.injEq,true_and,and_true]at ee;let⟨rfl,rfl,rfl,rfl⟩:=ee;exact⟨.inr ⟨hq,_,h6⟩,(aB xg hq).symm,(aB Kw hq).symm,vs,h6,a6.mono λv es ⟨b,e,n,_,hb⟩=>⟨b,e,.inr ⟨n,_,hb⟩,(aB xg n).symm,(aB Kw n).symm,hb⟩⟩
  have St8:=(M5.same s6).kept Td (λa z y=>by
   rcases y with y|y
   ·exact (M5.du a z).1 y
   ·let⟨ob,e⟩:=M5.MH.al z;rw[y.1]at e;cases e) (λa z=>by
   rcases z with z|z
   ·exact M5.dw a z
   ·have n:=M5.src.ne z.1
    exact⟨n.1.symm,n.2.symm⟩) EB tp8
  exact k _ _ _ H8 ⟨K,Q,aJ,St8,by rw[bW];exact r2,by rw[bW];exact r4,by rw[dM];exact Nat.succ_le_succ lp,by rw[dM];exact Nat.succ_le_succ ll,i0,i1,gd.Je (Qt [(s,e)])⟩
 refine⟨Y,a,ns,rfl,hS,λl c H1 S1 s1 _ _=>?_⟩;intro x dx fx fdx _;refine⟨x,dx,rfl,af,λU H2 L2 fU k2=>⟨rfl,?_⟩⟩;have s2:=lM fx fdx k2;have S2:=S1.same s2
 have fU':∀ a,U a->H1 a=none:=λa z=>by
  rcases fU a z with y|y
  ·rw[y];exact fx
  ·exact ou y
 refine⟨rfl,λW w H3 wo3 fW s3=>?_⟩
 have M3:vK bC dZ gI gH H3 l c w x U W [[]] [] [[]] [] [] [] 0 []:=by
  refine⟨S2.same s3,L2.same s3,rfl,wo3,λa z=>⟨λy=>?_,?_⟩,λa z=>?_⟩
  ·let⟨ob,e⟩:=L2.al z;rw[fW a y]at e;cases e
  ·have n:=S1.ne (fU' a z);exact⟨n.1.symm,n.2.symm⟩
  ·have n:=S2.ne (fW a z);exact⟨n.1.symm,n.2.symm⟩
 refine⟨Y,Y,Y,l,c,w,x,U,W,rfl,M3,λU4 W4 pe n aJ aC H4 n2 n4 li lp ll St=>?_⟩;refine⟨true,rfl,dF ?_⟩;have aaU:↑((List.replicate 11 abW).flatten)=110:=by decide +kernel
 refine⟨Y,St.MH.m ⟨abW,11,congrArg V.str (qC _).symm,rfl,by decide,by decide,nofun,nofun,?_⟩⟩;generalize QU:(List.replicate 11 abW).flatten=cs at aaU;have le0:↑(e0 n)=n:=List.length_replicate;refine⟨U4,x,pe,aC,aJ,2,[],5,cs,e0 n,rfl,St.MH,⟨by decide,by decide⟩,E,E,by decide,St.lst,E,E,E,λU1 q H5 aeO UK hq=>?_⟩;let⟨ik,fc,as,zi,xg,la,P⟩:=St.Qa aeO UK;refine⟨Y,w,Y,zi,.inl ⟨rfl,_,bG.of xg⟩,abW,11,congrArg V.str (qC _).symm,rfl,by decide,by decide,nofun,nofun,cs,by rw[QU],λacc cu=>B3 (λj σ H7=>∃ (u:Option V) (bs:List Addr),σ=[u]/\H7 acc=⇑(.lst (bs.map V.ref))/\Paired (Cw H7) bs (oB 5 (cs.take j))/\aH H5 H7) ⟨none,[],rfl,af,.nil,ao cu _⟩ ?_ ?_⟩
 ·rintro i ch σ H7 hi ⟨u,bs,rfl,hb,pb,s7⟩;have lb:=Paired.length pb;rw[mY,gx]at lb;refine⟨Y,jL,λt ht=>⟨_,ao ht _ _ _ hb,(by rw[bW];exact aS ∅),_,bs++[t],rfl,KH cu hi hb pb s7 ht⟩⟩
 rintro σ H7 ⟨u,bs,rfl,hb,pb,s7⟩;rw[gy]at pb;have lb:=Paired.length pb;rw[mY]at lb;refine⟨ik,acc,Z,s7 _ _ xg,hb,(by rw[bW,bW];exact iC (aS ∅)),?_⟩;rw[← gC];let⟨zr,Td,rv,iH⟩:=P H7 _ bs s7 pb (aF ik _ _) af;refine⟨Y,Y,w,Y,zr,W4,w,fc,aJ++oB 5 cs,pe,e0 n,e0 n,rfl,Td,E,rv,λH9 WT QC WU _=>?_⟩;let⟨XF,_⟩:=iH H9 WT QC WU;have lm:↑(aJ++oB 5 cs)=↑aJ+110:=by rw[dM,mY,aaU]
 have p1:↑(pe++[e0 n])=↑pe+1:=dM;have q1:↑(aC++[(jE.zS 5 cs).line])=↑aC+1:=dM;refine⟨Y,l,c,15,rfl,XF.src,by decide,by decide,λv HA v0 v1 SA kA=>⟨v,rfl,E,E,?_⟩⟩;refine vS (lo:=0) (n:=v.toNat) (λj σ H6=>∃ u4 u5 u6 u7 u8 u9:Option V,σ=[⇑↥a,⇑↥l,⇑↥x,⇑↥w,u4,u5,u6,u7,u8,u9]/\I41 bC dZ gI gH l c x w (11+2*j) H6) ⟨none,none,none,none,none,none,rfl,U1,W4,K,_,XF.mv (cA kA) SA,E,E,E,E,E,E,(Tf ∅)⟩ ?_ ?_
 ·rintro j σ H6 hj ⟨u4,u5,u6,u7,u8,u9,rfl,i6⟩;refine⟨a,l,c,x,w,K,K,Y,E,i6,λu5 u6 u7 H7 i7=>?_⟩;let⟨U,W,pe,rows,aC,aJ,St,r2,r4,lp,ll,i0,i1,gd⟩:=i7;let⟨sh,g⟩:=gd.Ky;let⟨f,hw,hm⟩:=gd.wt;have XD:=g.ln
  have fm:∀ x:Int,0<=x->x<↑rows->0<=f x/\f x<=200:=λx x0 x1=>⟨by
   have:=(vC g.sn.sd g.sn.rk g.sn.ss hw x x0 _ (nM ∅)).1
   lia,hm x x0 x1⟩
  refine⟨Y,Y,W,l,c,w,aJ,pe,rows,sh,f,rfl,St.src,St.wo,St.dw,g,hw,fm,E,E,E,λt dd H1 XG ok nw S1 K1=>?_⟩;have EF:=St.mv K1 S1
  have zz:∀ {H1:Hp} {ik fc ps vl:Addr},H1 w=⇑(.dK (qc ik fc ps vl))->gT H1 w (kV kR) (⇑↥fc):=λ{H1 ik fc ps vl} e=>by
   have z2:=gT.k (k:=kR) e;rwa [show cz (qc ik fc ps vl) kR=⇑↥fc by kernel_rfl]at z2
  let⟨ik,fc,ps,vl,wu⟩:=id EF.wo;let⟨_,_,_,xs,hxs,al⟩:=id wu.hr;have lv:=bV.len al;let⟨tv,ht,ht1⟩:=XG.tup;have is:=LD.WN ok;have is1:=is.1;have is2:=is.2;have ss:((dd.sh.toNat:Nat):Int)=dd.sh:=by lia
  refine⟨Y,w,Y,zz wu.hw,Y,t,K,V,dN.of ht,ht1,Y,Y,W,w,t,aJ,pe,rows,↑aJ,sh,dd,rfl,EF.wo,XG,g,ok,E,λo H2 ho lo s2 fo=>?_⟩;refine⟨fc,o,dd.sh.toNat,xs,by rw[ss];rfl,s2 _ _ hxs,E,E,λq H3 hq s3 fq=>?_⟩;have xF:=s2.trans s3;have fq1:=bw s2 fq;have XJ:=PZ (s:=dd.sh.toNat) g.en (LD.P1 g ok);let⟨w6,l6⟩:=aaP g hw fm ok;have R3:iX (λ_=>False) H3 q (rows.set dd.sh.toNat (dd.res sh rows)):=⟨_,hq,bV.set _ (al.mono λv es ⟨b,e,K,hb⟩=>⟨b,e,λz=>z,xF _ _ hb⟩) ⟨o,rfl,λz=>z,s3 _ _ ho⟩⟩;have hl3:↑(rows.set dd.sh.toNat (dd.res sh rows))=↑rows:=List.length_set
  have es3:∀ es∈rows.set dd.sh.toNat (dd.res sh rows),↑es<=600:=λes he=>by
   rcases List.mem_or_eq_of_mem_set he with z|z
   ·have:=g.es es z;lia
   ·rw[z];exact l6
  have M3:=EF.same xF;have iH:∀ {H5:Hp},vK bC dZ gI gH H5 l c w x U W pe rows pe rows aC aJ 3 []->I41 bC dZ gI gH l c x w (11+2*(j+1)) H5:=λM5=>⟨U,W,pe,rows,aC,aJ,M5,r2,r4,E,E,i0,i1,gd⟩;refine⟨Y,t,K,V,dN.of (xF _ _ ht),ht1,Y,Y,t,K,V,dN.of (xF _ _ ht),ht1,_,q,_,dd.sh,rfl,R3,E,(λes he=>by have:=es3 es he;lia),qV XJ,is1,E,λL o4 H4 ho4 s4 iff=>?_⟩;have M4:=M3.same s4;exists o4,Y,.inl (bG.of ho4),rfl,rC L,Y;rw[Dk];by_cases hL:dd.sh∈L
  ·rw[decide_eq_true hL];exact dF ⟨K,K,rfl,iH M4⟩
  rw[decide_eq_false hL];refine jg ?_;have R5:=WM (qV XJ) ∅ (PX is1 g.sn.rk λz=>hL ((iff _).mpr z));let⟨f',WV⟩:=Cf R5;have wv:Wv (rows.set dd.sh.toNat (dd.res sh rows)) f':=⟨E,λes he=>by have:=es3 es he;lia,qV XJ,R5,WV,λy y0 y1=>aaM hw fm R5 (qV XJ) WV is1 is2 w6 y y0 ∅⟩;refine⟨Y,Y,t,K,V,dN.of (s4 _ _ (xF _ _ ht)),ht1,_,q,_,dd.sh,f',rfl,R3.same s4,E,(λes he=>by have:=es3 es he;lia),qV XJ,is1,E,R5,WV,λb H5 s5 bt bf=>?_⟩;have Hg:=xF.trans (s4.trans s5);have M5:=EF.same Hg;refine⟨Y,Y,Y,l,c,2,rfl,M5.src,by decide,by decide,λv2 H6 v0 v1 S6 k6=>?_⟩;have St6:=M5.mv (cA k6) S6
  have aeQ:dd.At H6 t:=(XG.same Hg).kept (λa xs e=>cA k6 _ _ e (by
   let⟨_,_,_,_,_,e1,_⟩:=M5.src
   exact dB e e1)) λs p r row ed xs' hr'=>by
   rw[ed]at nw;exact cA k6 _ _ hr' (St.new (show H7 r=none from nw)).2.2.1
  have ep:=PU (rows:=rows) (s:=dd.sh.toNat) (dd.res sh rows) ∅;refine⟨rfl,U,x,t,_,pe,aC,aJ,3,[],rows,sh,dd,rfl,St6.MH,St6.lst,E,E,E,aeQ,g,ok,f',by rw[ep];exact wv,λhL U' H8 iG e8 L8 EB=>?_,λhH H8 s8=>?_⟩
  ·rw[ep]at hL L8
   cases b with
   | false=>let⟨y,y0,y1,y2⟩:=bf rfl;have:=hL y y0 y1;lia
   | true =>
    have St8:=(St6.WL L8 (rows':=rows.set dd.sh.toNat (dd.res sh rows)) (by simp) EB).1;have nq:=EF.new fq1;have no:=EF.new fo;have up:∀ {b:Addr} {ob:HO},H5 b=⇑ob->b≠l->¬ U b->H8 b=⇑ob:=λe n m=>EB.2.1 _ _ (cA k6 _ _ e n) m
    have nU:∀ {b:Addr} {ob:HO},H5 b=⇑ob->b≠l->¬ U b->¬ U' b:=λe n m z=>by
     rcases EB.1 _ z with y|y
     ·exact m y
     ·rw[cA k6 _ _ e n]at y;cases y
    have Wk:=s5 _ _ (s4 _ _ hq);have ho5:=s5 _ _ (s4 _ _ (s3 _ _ ho))
    have wu8:I0 W H8 w ik fc ps vl aJ pe rows:=wu.fr (λa ob e wa=>up (Hg _ _ e) (EF.dw a wa).1 λy=>(EF.du a y).1 wa) λa xs e=>EB.2.2 _ _ (cA k6 _ _ (Hg _ _ e) (by
     let⟨_,_,_,_,_,e1,_⟩:=EF.src
     exact dB e e1))
    let⟨Uk,rv⟩:=Wo.swap wu8 (up (Hg _ _ hxs) (EF.dw _ wu.hr.1).1 λy=>(EF.du _ y).1 wu.hr.1) (up Wk nq.2.2.1 nq.1) (up ho5 no.2.2.1 no.1) nq.2.1 no.2.1;refine⟨Y,rfl,Y,dF ⟨Y,true,rfl,jg ⟨Y,Y,_,w,q,aJ,pe,rows,rows.set dd.sh.toNat (dd.res sh rows),rfl,⟨ik,fc,ps,vl,Uk⟩,E,λik' uZ ⟨rw2,vl',ee⟩=>?_,λH9 WT QC WU _=>?_⟩⟩⟩
    ·rw[wu8.hw]at ee;simp only[Option.some.injEq,HO.dK.injEq,qc,List.cons.injEq,Prod.mk.injEq,V.ref.injEq,true_and,and_true]at ee;let⟨rfl,rfl,rfl,rfl⟩:=ee;exact rv
    have XF:=St8.kept WT (λa z y=>by
     rcases y with y|y|y
     ·exact (St8.du a z).1 y
     ·exact nU ho5 no.2.2.1 no.1 (by rw[← y];exact z)
     ·exact nU Wk nq.2.2.1 nq.1 (by rw[← y];exact z)) (λa y=>by
     rcases y with y|y|y
     ·exact St8.dw a y
     ·rw[y];exact no.2.2
     ·rw[y];exact nq.2.2) QC WU
    have p2:↑(pe++[rows.set dd.sh.toNat (dd.res sh rows)])=↑pe+1:=dM;exact⟨K,K,rfl,U',K,iG,aJ,XF,E,E,E,E,i0,i1,⟨XJ,R5,E,f',WV,bt rfl⟩⟩
  ·rw[ep]at hH
   cases b with
   | true=>let⟨y,y0,y1,y2⟩:=hH;have:=bt rfl y y0 y1;lia
   | false =>
    exact⟨Y,rfl,Y,dF ⟨Y,false,rfl,dF ⟨K,K,rfl,iH (St6.same s8)⟩⟩⟩
 rintro σ HB ⟨u4,u5,u6,u7,u8,u9,rfl,U,W,pe,rows,aC,aJ,St,r2,r4,lp,ll,i0,i1,gd⟩;exact⟨Y,Y,U,W,x,w,pe,aC,aJ,3,rows,rfl,St.MH,St.lst,E,E,St.wo,gd,λH' _=>k H'⟩
end
end fV
theorem PySem.Challenge.cw_inkroot_k41_weights_bound_holds : PySem.Challenge.rw_inkroot_k41_weights_bound.Holds :=
 InkHd.hd2 fV.all_mk
