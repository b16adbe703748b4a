import PyProof.Rows.All
import KE.KIntText
import KE.KTryMore
import KE.KDictLaws
import KE.KItem
import Open.Pieces
import KE.RegKTryMore
import OpenK.KOwn
import Lean
import PyProof.EqAt
import PyProof.EqKinds
import PyProof.TupleCall
import PySem.Challenge.RW_inkroot_k48_strike
set_option Elab.async false
set_option linter.all false
set_option maxRecDepth 100000
set_option maxHeartbeats 4000000
abbrev iT:=List (List (List Int))
abbrev cU:=List (List Int)
abbrev iU:=List (List Nat)
abbrev iL:=List (Int × Nat)
abbrev E2:List PySem.Str:=["self"]
abbrev Ub:List PySem.Str:=["self","sheet"]
abbrev zl2:List PySem.Str:=["self","sheet","moment"]
abbrev XR:List PySem.Str:=["_law_src_here","_law_base"]
abbrev zl4:List PySem.Str:=["row","start","stop"]
abbrev Yu:List PySem.Str:=["rows","sheet"]
abbrev XS:List PySem.Str:=["_law_rows","_law_sheet"]
abbrev zl7:List PySem.Str:=["_law_rows","_law_entry"]
abbrev zl8:List PySem.Str:=["_law_rows","_law_sheet","_law_place","_law_new"]
abbrev zl9:List PySem.Str:=["_law_rows","_law_sheet","_law_start","_law_stop"]
abbrev Yv:List PySem.Str:=["_law_src_here","_law_world_here"]
abbrev Hz:List PySem.Str:=["_law_src_here","_law_world_here","_law_house"]
abbrev Vc:List PySem.Str:=["_law_world_here","_law_house"]
abbrev cy:=@List.length_map.{0,0}
abbrev cY:=@List.length_append.{0}
abbrev gw:=@List.map_append.{0,0}
abbrev fF:=@Nat.le_refl
abbrev mO:=@List.mem_cons_of_mem.{0}
abbrev pS:=@List.getElem?_eq_getElem.{0}
abbrev pQ:=@PySem.F.plainAttrs_list
abbrev oF:=@List.mem_of_getElem?.{0}
abbrev mY:=@List.getElem?_map.{0,0}
abbrev nY:=@Bool.false_ne_true
abbrev eY:=@List.length_cons.{0}
abbrev gM:=@List.length_singleton.{0}
abbrev jE:=@PySem.F.slot_list_append
abbrev jF:=@PySem.F.type_list_append
abbrev gx:=@List.length_take.{0}
abbrev gS:=@List.size_toArray.{0}
abbrev gO:=@List.take_length.{0}
abbrev gP:=@List.append_nil.{0}
abbrev kM:=@List.concat_eq_append.{0}
abbrev jo:=@List.flatMap_cons.{0,0}
abbrev mZ:=@List.eq_nil_or_concat.{0}
abbrev nU:=@List.getLast?_concat.{0}
abbrev gT:=@Nat.le_of_lt
abbrev gV:=@Nat.le_trans
abbrev pA:=@List.mem_append_right.{0}
abbrev kO:=@List.foldl_cons.{0,0}
abbrev jJ:=@List.map_cons.{0,0}
abbrev nV:=@List.append_assoc.{0}
abbrev qM:=@List.mem_append_left.{0}
abbrev j3:=@Nat.ne_of_lt
abbrev yu:=@PyProof.Rows.boot_isinstance
abbrev ua:=@List.take_of_length_le.{0}
abbrev uc:=@PyProof.Rows.boot_list
abbrev qN:=@Nat.lt_of_lt_of_le
abbrev ve:=@List.drop_of_length_le.{0}
abbrev qV:=@List.length_drop.{0}
abbrev qO:=@List.length_nil.{0}
abbrev qW:=@Option.some.inj.{0}
abbrev wC:=@PySem.W.mg_none_of
abbrev zg:=@List.length_replicate.{0}
noncomputable section
namespace PySem.W.Fast
local macro_rules |`(universe $i*)=>do return Lean.mkNullNode (←i.mapM fun x=>`(theorem $(Lean.mkIdent (.mkSimple s!"tw{((x.getId.toString.drop 1).foldl (fun n c=>n*62+(c.toNat-(if c≤'9' then 48 else if c≤'Z' then 55 else 61))) 0)}")):ident :True:=⟨⟩))
universe aBKWkXauObvt a53YKp6xty0x aFF1zgS7vH6W a15IwqC36oSI apkx8PRRTO aJX3QlsjxgzN a8wM3TuMom1m a7VgClcfnQrA aARF4QypOdLs aK5KRXQ5ULNf aL9BRmk2PdH1 aJdVNTQQp5lS a3SHTa6vqEMe aEtvHctsU7GR a3CLTjPxEkta aKCI9tICnje aCWmD3kq7I84 aL6TmKDTt60c a6kyckMAfzCW a8Wk28e7MDIM ahqyshk2g4c a6rXBlofKvEY aCvgKViHM57p aJLmKNb2dtpR a8IjXopB5Ui0 a5iqLxQwMtu aJ1M2awlFfwM a1LzcoePkPbn aJL3GsJsBaJT a5SI4G31hnus aI1pJtAHAOco a45NK3xfI4Bn a8aIavj6ajCK a8DIOTq3MSMJ aCWMuR7j5gnW aJhwfTZTKq2Q a3MLW1n1XeFW aIEMORn5bqmm a5C5eLPhOPzP aGZpNrTyE1SR aGRd7vcdBoG2 aGOI4CoXP4Lh aBq3icKeFH01 a317dCaxD5jC aJpUch4S4VLM aBBgq0lnaygn aDI8NJgCfBz8 a4cEgYM0LEK2 aH2dRdyk1WDa aLC42Zz6xHkn aBvsCAgzWxag aG8ulylLjdrg aEOOGRyb0izj aETJSCgfXVWc aJpDzXmbhm1X aF7KUKy8tfJE aBAKbHUpEaMo a6BUXzOsmrBO a2SkM9NDxCum aCoUkzyE2I7f a32Pxuk2ECAC a1tDxPgDc54C aEWYe2O0S5Dr a3voy2l9oNYB aGj8QBfL3zeP a3Ok5tjbPSHk a5N1vn5fjdlx aE9ocaRmGigk a8CMUP2oKR0n aJOwogxBBFak a6NfaRiaNbms aI7ZIP9pYwex aFryeGqU8YK5 aGPVtKQia1Bm aFiHGjRtCKnB a4OPl49wbLUz a4Hi0WJnT9Le a7E22tWWFDg2 aClEi2OqmQ2f aHXUQtVVGJex a7KT2NDZlIV9 a1f8BR9KYgrU aIuA8zZMFHTb a7g7QMTCnfTl aFTSJSHeYS17 a5mxFYITbZGr a6wsuMIbW5YJ aJhJPOBgn37w aG6vuq2KJtvN aKd93S9LcdI4 aC7SFgavhN45 aI9Fx5n8oTYH a2GxNbf1PCVv a8aXE3en2WYH a18U80QpMsu3 a7pMQ6hAcbgg aGOdsbAptmPf aGTk5yhfpYbk a5EpGk82iBW1 aFcMVMUjxjwh aHyrGwW0x90z aBZZXBEen5f0 aKV4ob8Jn1Jp aHs3Hk90eTG0 aAxEBPJunJts aExIOEsnoEH1 aABhX7RS2BX2 aGz07kdnrIbO a7peoBKchhmR aJV2L4trwkLO aCSj9Ma2fq0W a9Eoy2enTox2 aDjr153If3s a7ccpZH2KDws a9iYXUGvhvrX a7u0s6iJPQx0 aIXT5M9xMM1T aBXk30ph1s0I a2O97CwqBZhe a9oXiNq5ezhj a70Mmjy86fCz aBdVx83JoWxg a1usxpcaJfY7 aBSIPyXeBAax a8iHDUeHAW6W a1317d2ryn4S a2T73SJpQzua a3Mzrg3llD8C a75hv4qCiTjx aAbvlduQZfeA aI79Y0Xag0rx aGzGwi0VSFx8 a69U29r6KTuB aD0NsQpneQsH a7xuyU3S1QpU aHBM24jCg0wJ aGyafHyOtiwW aFtfiEozIgSP aFYSKu2k7L90 aHSkmfFVjkLP aEjgggo2fPHt aF7Sad5AaYcX aAj02Mb1HO3m a6XH6ZkJSX7q aKFTnFd4WXnW a38SEPz1o4pB aCkJkVbGyVtX a9mYQnStm6nB a1Vxpq5mHimA a25n2xqDiGQi aGaiwIdNcMg5 a9Tz83nyIgdi aLeMaC1v1xvB aIuEOSAYsxQq a6zdJhmyVGc6 a9WTOwWXGN6k a1v8CCFxYDr8 aQfElm8YBvw aeXdkJnbrrX aGkEnWDrjNSS a5EZAKR1FfjZ a11maUigdcC a3zWBejjHEzj aAmRjHyiXjJY a3uSc9rplfR2 aIDwgnp9XTli aHnRMiDt1trp a4tPFokVILRc aD7vXVOrOXCB a6RQUKOeCwBn a55o5kWZZ2Iy ayoskVgZvNO a7K04tYyIjVl a8IKFHtxyURB aEOmp8hPv0cU a20GVMQWj6kB aL0zUYqI5r5g a98fkDw6AA7h aF0jvy5OzKCA aNmc0TCVQQ aE6FCftKxQaz aIFMLGoirsRG a472UrYkBWxe a3ubi9ivsYbY aFl2XAaXBvTY a4xck6GcwtqE aLDI5P1uCrrM a9oVIvM4kaBd aFLgiWoE9ZaS a732wYSW0iqg aADmjz2ZXJn4 aBFcx7cdpz5n aBHyI4MPUkd9 aBn4cZXVOFOE aLCIxGpfwTJc aFVFx9eh9KU7 aC9JbcsvukNL aBHlFm0GwhAh a7tHdPGVAYVi aAgOOXVhMCPC aCvfzoYrKeNT a2seeaipkbKL aKJyQ6fWG8Pg aAufdBWO6EdZ aLVJmRk0WEkR aCznulDod4Gu aIBXz7JFv0Of aFjS0sgMldkv a2vR1Hc2wOLD add7bfpP7Lz a2ncf0SMDxy4 a1NTP1pO3CuF aAX8PPUCvwUB a8CM1XTLhDLp a8JIw6YSAkTc aHsflHSBc1Cy a88CwLJA4qq8 aLoTCr9wN8hs aAq8nDpuFnaS aHxEBEcMHwZH a1Tz1FfgGZlw aKEDmdGj4Blv aL6gCaEtMjj1 aEYqdVu4zWDD a8ahpSl0yIGU a7s9O4Q1s6iv aCrhIL8PNOJt a2yBRyaINVVk aIDDbx1S2vFO a7gqLPRM3fHq aCYSGWvTWYHv a6afZEfMpXLG aJe7LlrNZOLf aIeKDPIRzws9 a20fNHfUj6XC a6FExyFSinfQ aDCzKTO9xfvt a5IsfiwXwg8k aJpUhtimGSmv aF6MjLVvfT3m aAD7l08e91MK a5ytWPhUdlCq a7XgBnI6ZrK8 aK6v4ncZe2Dy aHGcWEtompUb aJCcuSNU3XCr aBq9T8MtBIpc a2nZmrzOZzYh aHCLzCJAjHN7 a6NHm4JVLD7R a6JFhfF5eqYf a1OUeCqP6PQR aE7TGaJtvqze aAFn27baGZnO a6Pl43GoJ5hL a2rBuhooOsgM a1eYz8AZkCfc aEIwWwSTs5Vz aCLGWZiuGrEk aBpiBvESmMj9 a9swRH6xdxJ aBJD8FpQDa1X a2pzSiKGIxW0 aLjh43ieAW1N aDVMck9jQF8G a2ka6uSNQzyz aKAhSY5cAjuT aGkUZdkBvBtB aLEzhHLWhXyZ aBIVdntC1izW a1vhtHFwJAYW a7q9tSSisnLD aHrWCjMNNz8Y aLZ1CYynWZ4g aJrAeMtcK7dS aJ1pMH7SoJat a6Jbl6xYoXIk aAmRwnmS4idW a9JRRqfcDx40 aEG8nuK8JQ0C aFgoZJ8EfkPH aJzfoVxxmxPv aFg2Hrw2GPlm aEhSEAhBiUUE aF5U6dGh1e a9DeItvrLdly a20CNAkDjfDH aKjuBB4MbYF6 aCwfxKNAV8tC aHMqJS4glzUY a80wkFCQnPll a5nosEfhx7oU a1Of0Y24uP8v aHfnYY1qFPPi a5yTbJB28aGa aHNuzwdIq6Wz aBXrAJBAcwBe aFg8SOudz18A aCEKzNb9XGLh a8vlfFSqe8f8 a1JTONGBTSuB aDxNinRp6RkY aNWKK25yFqm aKd2CFHG4xol aAu6UStEnms0 aCtdgTEL8xOo aLZAtLf4FHyw aBZnrfM3g6wH aAyNZobRcRPk a96TrlDOTHTx aFSWRDQ9Av7t a7LTFVtkIL6N aAfwjtDVxbp9 aIbKBCM5Kml5 a8eznaypADD4 a4cyCU2bFQl5 aClW453cRPKq aG1vpit4up9e aHzlHluFxqQr a2d6cz1mubrX aG1ugDnKmMdc a7htcVwueDWB aJrl1wBlen6j aFzgjGEE1KYn aLIY67uEzPi1 a8UDnkeMy1xX aLRAFE5qC1sC a4XJ1sUwTRz8 aK3LF2ASWhNy a1aGUFHydO4H a1btu9V7aV17 a6AxBOeaTT7t a5nChoPZ9q6f a7hNluzOldWz a7iwzyzL33y5 aKXsgvZGRXNK a2c9dFnWMm1u aLJWUAiLb9WM a3ATws4zQeC6 aClbU9UULIH5 aLNAUDW0VMsd a5anljM2vmY2 a1O07G4cMs8g a4RKHS8sxWiP aH9TWtXNAVH2 aCAiInd02iBN aBwB8AndEYtm aIDUMdJUVjtx a2X4kE6uZUjZ aE36G90fy1cW aECll5c0OlgX aAtsY3cPcZOM aATw2P0QDQZ6 a4sodC5v0jwD a87M85ZnTwTi aLYVHJME4ElC a8gevFITzoyE aHzLegTgm4Cf a1OVaS5ZOgLr aJG11UV6nn48 aINDXoqxCJQ3 a9dx1RjvCs87 a73XaDhgElLh a1QPES6SGxke a85CMaj4iMHe a3FOEW2qGNH9 aHDTkzNB36Zg aLjH8Igfocao a3onQaHCZ1za aIdOVigkWeNX aJvRdUaeRmZY a8jSwjsss0pL a2nTKZPKyzUH aHy9N08K1Fg aCy0TTmDN756 aLIjMxDHCyIW a7vm21a6wgM2 aGzu6IUZQIay a4FX2iYW24eH a4gj1fEAmHZj a9Alz7EzjrGL aL3RHPxOZ2XD a6D8TkqiQdrf aJlwzmek7EZE aLYyVOMqEzlI a6zByoF0xZf0 a5RyHp032C6o a8Y42CiorJrs a7lBbxCB4D55 aD0v9YQ8Lrqt aK1NqhUerSaV a9GYoq9Ybhal aKU6sTsMSe0z aJu3tczKqbm4 a276sISpBffC aCDXx9JqCGKv aCHlpocSPg7h aKiFdKs6NBWi a4EUwvyQTnCS a1ewAYDm7R8I a2miT30bOUM9 a8jC14FwJJQ3 a2M5aW10nbRn aF9CiOMxkNCC a4imX1qjQO1l a7PCCFKas3dN aEOUaNd91KK1 aBQLuRbV4qfd aHbZWghKYvmH aBHjhcn6YmXj a8Dka8YqUCLc a4fMpizw3N0i a2LH18aysXus a1TpaFWgTfpA aBYUNekk581w aLU5M2wbIdRa aHQF8jEcwdv9 avthsctbEkX a3dgS6xRgkiC a2gndWijy9f7 aJ4ldIMNhuBW aDfUG3MEHW7G aJGgsnddyFIm aYRC7AmmBqY aIPQPp6XVT7B a9AuHWmU4VjN aFe7gtrSHegE a1kyFz2HdOY5 aF1AI8o8Euex a7VcuA9aanB9 aIvzCm9sao6d avbyNTqh1DL a1dX9V80n3rV aDJLuUnKf4RT aJrD7TVXdcPL aBsXZemh3McJ a9inGcRKsutm a6owDY9eJltO aE62lz91p6gb aIVb0UcDpNZR aCiLi7C5SlZ4 aAutIJNS2OEw a1D2VgvbvFiw aGjOfNqvlUOD aJB2l0fdCrax aM9StQv8fVh a5jMTjd1muWz aGCLYw4CQlT7 a75eHCY31G70 a2dIb0go8yfc a6AdtOqBijiS aIND1vhldaDN a296gnoZ1DPW a1TIuZkGm9Pi a1YsFtXzZdpJ aKLYJ0meyb7j aGSP3ea2dKNG aHBBU1hR4gs5 a5zv0tDL68LS a9F3VCrhKl6d aE1rZX2xXjAd aFKyCk9NZo2X aKKsFxTgWuMl aCkMH6Er8vuQ aF41M3la2N6X aDP1mtCcjiW aL1d31hXaXGq a2AWsBA6kR8f aCBmWIyUyb3M a4AcMGVrPC4x a7M6rLYZtDdO a4jMhumd9VBt a3HPyRildply a7XDlzQ33a0e a9RJQEMzTQTB a4qvSEX1kwPD aIRpHSdWZOr5 aLcg2i9rnUD7 aLCaJDm6204h a4SUFqPLK5Iw aJ41jUNPfds0 a4LPbZXneJJ5 a1OqgsEryIgK a9bEPKdG61od a4rFbhDLvItD a5vEZLGEeBoE aBvZWkkKcfNH aGlCr4QoNthQ aBksc3s2Ul1V aKLhX0FAxCVs a8o9idacXK3b aKMPrfUqNv4p aK3nkpbhuaSn aCWTgCw2zurP a5Lkwsk5Ua6p a5V32eTT6mVs a1f08LtwdEBF a6cu8eOpfmjA aLta17MBI6Qs a68bnlVzkJEa aEG43jEw4ORI a2SovSyxIe2G aJKu8jSibgzO aFyaKiLbMXAf aJo5Ra8QsuTW a8yLABvHioWD aCJZf3MMAWw5 a88zsjJviKce aEifBmZ2T6T6 aKBnqqpHBisi a48OEIj7rNuW aKeTkCjo8NAs aGINqnPDWqso a15k1WwyO4ev
end PySem.W.Fast
end
namespace InkHd
open PySem PySem.W PyProof.Rows
def fr(o:Obj):=match o.data with|.freed=>none|_=>some o
noncomputable def pk(s:List Obj):Nat→List Nat→List (Option Obj):=s.rec (fun _ _=>[]) fun o _ h i l=>l.rec [] fun a r _=>(i.beq a).rec (h (i+1) l) (fr o::h (i+1) r)
theorem ps:∀(s:List Obj)(i:Nat)(K:Frag),pk s i (K.map (·.1))=K.map (some ·.2)→∀ a b,K.lookup a=some b→∃ n u,a=i+n∧s[n]?=some u∧fr u=some b
|_,_,[],_,_,_=>nofun
|[],_,_::_,e,_,_=>nomatch (id e:[]=_::_)
|o::s,i,(c,d)::K,e,a,b=>by
 have f:((i.beq c).rec (pk s (i+1) (((c,d)::K).map (·.1))) (fr o::pk s (i+1) (K.map (·.1))):List _)=((c,d)::K).map (some ·.2):=e
 have g:(∃ n u,a=i+1+n∧s[n]?=some u∧fr u=some b)→∃ n u,a=i+n∧(o::s)[n]?=some u∧fr u=some b:=fun⟨n,u,h,k⟩=>⟨n+1,u,by rw[h,Nat.add_assoc,Nat.add_comm 1],k⟩
 cases z:i.beq c with
 |false=>rw[z] at f;exact g∘ps s _ _ f a b
 |true=>
  rw[z] at f;injection (id f:fr o::_=some d::_) with p q;intro h;rw[List.lookup_cons] at h;split at h
  next t=>cases h;exact⟨0,o,(eq_of_beq t).trans (Nat.eq_of_beq_eq_true z).symm,rfl,p⟩
  next=>exact g (ps s _ K q a b h)
noncomputable def kF(K:Params→Frag)(l:List Addr)(e:∀P,l=(K P).map (·.1)):Hook where
 α:=List (Option Obj)
 obs s:=pk s.heap.objs.toList 0 l
 val w:=(K w.params).map (some ·.2)
 says:=InK K
 of w s h a o k:=by
  obtain⟨n,⟨_,_,d,_⟩,p,q,r⟩:=ps _ 0 _ (e w.params▸h) a o k
  rw[p,Nat.zero_add];unfold Heap.get?;rw[←Array.getElem?_toList,q];cases d<;>first|exact r|cases r
 keeps:=(kHook K l e).keeps
theorem kIn_of{K:Params→Frag}{e:∀P,l=(K P).map (·.1)}(Y:(kF K l e).says w h):(K w.params).In h:=Y
local macro_rules |`(tactic|o_head ($_:ident $K $l $e))=>`(tactic|o_head (kF $K $l $e : Hook))
set_option maxRecDepth 100000 in
set_option maxHeartbeats 0 in
open_top hd_k48 for PySem.Challenge.rw_inkroot_k48_strike
end InkHd
noncomputable section
local macro_rules |`(def $d:declId $s:optDeclSig $v:declVal)=>`(noncomputable def $d:declId $s:optDeclSig $v:declVal)
local macro_rules |`(abbrev $d:declId $s:optDeclSig $v:declVal)=>`(noncomputable abbrev $d:declId $s:optDeclSig $v:declVal)
open PySem
open PyProof
open PySem.W (Frag InstAt callWith_K callWith_K0 cellsFrom_some codeIn emptyDict findIn fnOf handedIn hasDictIn instObj isFn kIn_of keepIn kia_one kitOne kitx_dict kitx_list lookIn makesIn methodCall_KW methodObj mg_of mroIn nsIn plainGet plainGet_of plainOver takerIn typeIn)
local macro_rules
|`(⟨$a,*⟩)=>do
 let mut z:=#[]
 let mut c:=false
 for x in a.getElems do
  match x.raw.getId with
  |`Z=>c:=true;z:=z++#[<-`(_),<-`(_),<-`(rfl),<-`(rfl)]
  |`Y=>c:=true;z:=z++#[<-`(_),<-`(rfl)]
  |`V=>c:=true;z:=z++#[<-`(rfl),<-`(rfl)]
  |`K=>c:=true;z:=z++#[<-`(_),<-`(_),<-`(_)]
  |`P=>c:=true;z:=z++#[<-`(_),<-`(_)]
  |`Q=>c:=true;z:=z++#[<-`(by lia)]
  |`E=>c:=true;z:=z++#[<-`(by decide)]
  |_=>z:=z.push x
 if c then`(⟨$z,*⟩)else Lean.Macro.throwUnsupported
local macro_rules|`(tactic|exists $a,*)=>`(tactic|refine ⟨$a,*, ?_⟩)
set_option hygiene false in
local macro_rules|`(‹($a,$i,$p,$s)›)=>`(∀D:Ds K mg bf br C CS CW CB CT CD,bq P w K mg zt cL $a (bf $i) (br $i) $p $s)
set_option hygiene false in
local macro_rules|`(class inductive $n:declId $b:bracketedBinder* $c:ctor*)=>`(inductive $n $b* (vs:List V)(H:Hp)(Q:VK)(E:XK):Prop $c:ctor*)
set_option hygiene false in
local macro_rules|`(tactic|specialize $e)=>`(tactic|refine $e λcV A zn s H vs Q E hr h=>?_)
local macro_rules|`(nofun)=>`(by decide +kernel)
local macro_rules|`(∅)=>`(by lia)
namespace L2
open Spec Rows
abbrev fk:=Sum Int Str
def zh:fk->Value->Bool
 | .inl k,v=>Value.isInt k v
 | .inr x,v=>Value.isStrOf x v
def acn(w:World):fk->Int
 | .inl k=>hashInt k
 | .inr x=>hashStr w x
theorem fC:∀ {k:fk} {v:Value},zh k v=true->(∃ i t,k=Sum.inl i/\v=Value.int i t)\/(∃ x t,k=Sum.inr x/\v=Value.str x t)
 | .inl i,v,h=>by
  obtain⟨t,e⟩:=Value.isInt_shape (k:=i) (v:=v) h;exact .inl ⟨i,t,rfl,e⟩
 | .inr x,v,h=>by
  obtain⟨t,e⟩:=Value.isStrOf_shape (x:=x) (v:=v) h;exact .inr ⟨x,t,rfl,e⟩
theorem Ll(i:Int)(t:Tok):zh (.inl i) (.int i t)=true:=by simp[zh,Value.isInt]
theorem Lm(x:Str)(t:Tok):zh (.inr x) (.str x t)=true:=by simp[zh,Value.isStrOf]
theorem Vd(a b:Int):decide ((Sum.inl a:fk)=Sum.inl b)=(a == b):=by
 by_cases e:a=b
 ·subst e;simp
 ·have h:¬ (Sum.inl a:fk)=Sum.inl b:=λq=>e (Sum.inl.inj q);rw[decide_eq_false h];exact (beq_eq_false_iff_ne.mpr e).symm
theorem Ve(a b:Str):decide ((Sum.inr a:fk)=Sum.inr b)=decide (a=b):=by
 by_cases e:a=b
 ·subst e;simp
 ·have h:¬ (Sum.inr a:fk)=Sum.inr b:=λq=>e (Sum.inr.inj q);rw[decide_eq_false h,decide_eq_false e]
theorem Vf(a:Int)(b:Str):decide ((Sum.inl a:fk)=Sum.inr b)=false:=decide_eq_false (λq=>nomatch q)
theorem Vg(a:Str)(b:Int):decide ((Sum.inr a:fk)=Sum.inl b)=false:=decide_eq_false (λq=>nomatch q)
def fV(prog:Program)(w:World):PySem.KeyKind prog w fk where
 is:=zh
 hash:=acn w
 inj:=λv a b ha hb=>by
  rcases fC ha with ⟨i,t,rfl,rfl⟩|⟨x,t,rfl,rfl⟩
  ·rcases fC hb with ⟨j,u,rfl,e⟩|⟨y,u,rfl,e⟩
   ·injection e with e1 _;rw[e1]
   ·exact nomatch e
  ·rcases fC hb with ⟨j,u,rfl,e⟩|⟨y,u,rfl,e⟩
   ·exact nomatch e
   ·injection e with e1 _;rw[e1]
 byValue:=λk v h=>by
  rcases fC h with ⟨i,t,rfl,rfl⟩|⟨x,t,rfl,rfl⟩ <;> rfl
 pyHash:=λhv h=>by
  rcases fC hv with ⟨i,t,rfl,rfl⟩|⟨x,t,rfl,rfl⟩
  ·exact wpAny_pyHash_int h
  ·exact wpAny_pyHash_str h
 eqBool:=λhu hv h=>by
  rcases fC hu with ⟨i,t,rfl,rfl⟩|⟨x,t,rfl,rfl⟩
  ·rcases fC hv with ⟨j,u,rfl,rfl⟩|⟨y,u,rfl,rfl⟩
   ·rw[Vd]at h;exact wpAny_eqBool_int h
   ·rw[Vf]at h;exact SeqAt.EqAt.int_str i t y u _ _ _ _ h
  ·rcases fC hv with ⟨j,u,rfl,rfl⟩|⟨y,u,rfl,rfl⟩
   ·rw[Vg]at h;exact SeqAt.EqAt.str_int x t j u _ _ _ _ h
   ·rw[Ve]at h;exact wpAny_eqBool_str h
 «strs»:=λk x t v h=>by
  rcases fC h with ⟨i,u,rfl,e⟩|⟨y,u,rfl,e⟩
  ·exact nomatch e
  ·injection e with e1 _;subst e1
   cases v <;> rfl
theorem E3(prog:Program)(w:World)(i:Int)(t:Tok):(fV prog w).is (.inl i) (.int i t)=true:=Ll i t
theorem E4(prog:Program)(w:World)(x:Str)(t:Tok):(fV prog w).is (.inr x) (.str x t)=true:=Lm x t
end L2
namespace L2
open Spec Rows
inductive V where
 | gj | bl (b:Bool) | int (i:Int) | str (x:Str) | HA (b:Array UInt8) | Uc (b:UInt64) | ref (a:Addr) | ty (n:String)
 deriving DecidableEq
def RelV:V->Value->Prop
 | .gj,u=>u=Value.none
 | .bl b,u=>u=Value.bool b
 | .int i,u=>∃ t,u=Value.int i t
 | .str x,u=>∃ t,u=Value.str x t
 | .HA b,u=>∃ t,u=Value.bytes b t
 | .Uc b,u=>∃ t,u=Value.float b t
 | .ref a,u=>u=Value.ref a
 | .ty n,u=>u=Value.type n
abbrev cC:List V->List Value->Prop:=Paired RelV
theorem cC.length{xs:List V}{us:List Value}(r:cC xs us):xs.length=us.length:=Paired.length r
theorem cC.get:∀ {xs:List V} {us:List Value} {i:Nat} {x:V},cC xs us->xs[i]?=some x->∃ u,us[i]?=some u/\RelV x u
 | _,_,_,_,.nil,e=>by simp at e
 | _,_,0,_,.cons r _,e=>by simp at e;subst e;exact⟨Y,r⟩
 | _,_,i+1,x,.cons _ t,e=>by
  obtain⟨u,h1,h2⟩:=cC.get (i:=i) (x:=x) t (by simpa using e);exact⟨u,by simpa using h1,h2⟩
theorem cC.set{x:V}{u:Value}(r:RelV x u):∀ {xs:List V} {us:List Value} (i:Nat),cC xs us->cC (xs.set i x) (us.set i u)
 | _,_,_,.nil=>.nil
 | _,_,0,.cons _ t=>.cons r t
 | _,_,i+1,.cons q t=>.cons q (cC.set r i t)
theorem cC.append{xs ys:List V}{us ws:List Value}(h:cC xs us)(s:cC ys ws):cC (xs++ys) (us++ws):=by
 induction h with
 | nil=>exact s
 | cons r _ ih=>exact .cons r ih
theorem cC.take:∀ {xs:List V} {us:List Value} (n:Nat),cC xs us->cC (xs.take n) (us.take n)
 | _,_,0,_=>.nil
 | _,_,_+1,.nil=>.nil
 | _,_,n+1,.cons r t=>.cons r (cC.take n t)
theorem cC.drop:∀ {xs:List V} {us:List Value} (n:Nat),cC xs us->cC (xs.drop n) (us.drop n)
 | _,_,0,r=>r
 | _,_,_+1,.nil=>.nil
 | _,_,n+1,.cons _ t=>cC.drop n t
def sX:Option V->Option Value->Prop
 | some v,some u=>RelV v u
 | none,none=>True
 | _,_=>False
def KV{κ:Type}:List (κ × V)->List (κ × Value)->Prop:=Paired λ(p:κ × V) (q:κ × Value)=>p.1=q.1/\RelV p.2 q.2
def kV:fk->V
 | .inl i=>.int i
 | .inr x=>.str x
inductive HO where
 | lst (xs:List V)
 | tup (xs:List V)
 | dK (kvs:List (fk × V)) | dT (kvs:List (List fk × V))
 | set (S:Int->Bool) (n:Nat)
 | ins (C dx:Addr) (fs:List (Str × V))
 | own (x:Addr)
 | xd (fs:List (Str × V))
 | met (f x:Addr)
 | E5 (lo hi:Int)
 | JX (o:Obj) (u:HO)
 | Ud (ps:Array Value)
 | ext (φ:Heap->Prop)
abbrev Hp:=Addr->Option HO
def aN(H:Hp)(a:Addr)(o:HO):Hp:=λb=>if b=a then some o else H b
theorem af{H:Hp}{a:Addr}{o:HO}:aN H a o a=some o:=by unfold aN;rw[if_pos rfl]
theorem aK{H:Hp}{a b:Addr}{o:HO}(h:b≠a):aN H a o b=H b:=by unfold aN;rw[if_neg h]
theorem dY{H:Hp}{a b:Addr}{o u:HO}(h:H a=some o)(h':H b=some u)(d:o≠u:=by intro z;cases z):a≠b:=by
 intro e;subst e;rw[h]at h';exact d (qW h')
theorem az{H:Hp}{a b:Addr}{o:HO}(h:H a=some o)(h':H b=none):a≠b:=by
 intro e;subst e;rw[h]at h';cases h'
section
variable (P:Program) (w:World)
def fX(H:Hp)(h:Heap)(a:Addr):HO->Prop
 | .lst xs=>xs.length<=sizeLine/\∃ (aM:List Value) (n:Nat),cC xs aM/\h.get? a=some { cls:=.type "list",data:=.seq aM.toArray n }
 | .tup xs=>xs.length<=sizeLine/\∃ aM:List Value,cC xs aM/\IsTup h a aM.toArray
 | .dK kvs=>kvs.length<=sizeLine/\(a == sysModules)=false/\∃ vs,KV kvs vs/\h.DictOf (fV P w) a vs
 | .dT kvs=>kvs.length<=sizeLine/\(a == sysModules)=false/\∃ xs:List (List fk × Addr × Value),
   Paired (λ(p:List fk × V) (q:List fk × Addr × Value)=>p.1=q.1/\H q.2.1=some (.tup (p.1.map kV))/\RelV p.2 q.2.2) kvs xs/\
   ∃ o es ep,h.get? a=some o/\o.ExactDict/\o.data=.dict es ep/\es.toList=xs.map (entryOfKey (tupleKind (fV P w)))/\(xs.map (·.1)).Nodup
 | .set S n=>h.SetOf (intKind P w) a S n
 | .ins C dx fs=>H dx=some (.own a)/\fs.length<=1000/\dx≠a/\h.get? a=some (instObj C dx)/\
   ∃ mA,h.Ns1 dx mA/\(∀ f,sX (fs.lookup f) (mA f))/\PySem.Within mA (fs.map (·.1))
 | .own _=>∃ o,h.get? a=some o
 | .xd fs=>∃ mA,h.Ns1 a mA/\∀ f,sX (fs.lookup f) (mA f)
 | .E5 lo hi=>∃ t u v,h.get? a=some { cls:=.type "range",data:=.fields #[.int lo t,.int hi u,.int 1 v] }
 | .JX o u=>h.get? a=some o/\fX H h a u
 | .Ud ps=>h.get? a=some { cls:=.none,data:=.fields ps }
 | .met f x=>h.get? a=some (methodObj (.ref f) (.ref x))
 | .ext φ=>φ h/\(∃ o,h.get? a=some o)/\∀ h1 h2:Heap,φ h1->(∀ o,h1.get? a=some o->h2.get? a=some o)->φ h2
def vd(H:Hp)(h:Heap):Prop:=∀ a o,H a=some o->fX P w H h a o
end
section
variable {P:Program} {w:World} {H H':Hp} {h h':Heap} {a:Addr} {o:HO}
theorem fX.lt(x:fX P w H h a o):a<h.objs.size:=by
 cases o with
 | lst xs=>obtain⟨_,_,_,_,e⟩:=x;exact Heap.lt_size e
 | tup xs=>obtain⟨_,_,_,p⟩:=x;exact p.lt
 | dK kvs=>obtain⟨_,_,_,_,o,_,_,e,_⟩:=x;exact Heap.lt_size e
 | dT kvs=>obtain⟨_,_,_,_,o,_,_,e,_⟩:=x;exact Heap.lt_size e
 | set S n=>obtain⟨o,_,_,_,e,_⟩:=x;exact Heap.lt_size e
 | ins C dx fs=>obtain⟨_,_,_,e,_⟩:=x;exact Heap.lt_size e
 | own y=>obtain⟨_,e⟩:=x;exact Heap.lt_size e
 | xd fs=>obtain⟨_,⟨_,_,_,e,_⟩,_⟩:=x;exact Heap.lt_size e
 | E5 lo hi=>obtain⟨_,_,_,e⟩:=x;exact Heap.lt_size e
 | JX ob u=>obtain⟨e,_⟩:=x;exact Heap.lt_size e
 | Ud ps=>exact Heap.lt_size (show h.get? a=some _ from x)
 | met f y=>exact Heap.lt_size (show h.get? a=some _ from x)
 | ext φ=>obtain⟨_,⟨_,e⟩,_⟩:=x;exact Heap.lt_size e
theorem Paired.Df{α β:Type}{F G:α->β->Prop}{l₁:List α}{l₂:List β}(h:Paired F l₁ l₂)(f:∀ a b,F a b->G a b):Paired G l₁ l₂:=by
 induction h with
 | nil=>exact .nil
 | cons r _ ih=>exact .cons (f _ _ r) ih
theorem fX.stay(x:fX P w H h a o)(k:∀ b u,(b=a\/H b=some (.own a))->h.get? b=some u->h'.get? b=some u)
  (ho:∀ b,H b=some (.own a)->H' b=some (.own a)) (ht:∀ b xs,H b=some (.tup xs)->H' b=some (.tup xs)):fX P w H' h' a o:=by
 induction o with
 | lst xs=>obtain⟨z,aM,n,r,e⟩:=x;exact⟨z,aM,n,r,k _ _ (.inl rfl) e⟩
 | tup xs=>obtain⟨z,aM,r,ob,e,c⟩:=x;exact⟨z,aM,r,ob,k _ _ (.inl rfl) e,c⟩
 | dK kvs=>obtain⟨z,y,vs,r,ob,es,ep,e,c⟩:=x;exact⟨z,y,vs,r,ob,es,ep,k _ _ (.inl rfl) e,c⟩
 | dT kvs =>
  obtain⟨z,y,xs,r,ob,es,ep,e,c⟩:=x;exact⟨z,y,xs,Paired.Df r λp q z=>⟨z.1,ht _ _ z.2.1,z.2.2⟩,ob,es,ep,k _ _ (.inl rfl) e,c⟩
 | set S n=>obtain⟨ob,es,ep,t,e,c⟩:=x;exact⟨ob,es,ep,t,k _ _ (.inl rfl) e,c⟩
 | ins C dx fs =>
  obtain⟨d,z,ne,e,mA,⟨od,es,ep,e2,c⟩,r⟩:=x;exact⟨ho _ d,z,ne,k _ _ (.inl rfl) e,mA,⟨od,es,ep,k _ _ (.inr d) e2,c⟩,r⟩
 | own y=>obtain⟨ob,e⟩:=x;exact⟨ob,k _ _ (.inl rfl) e⟩
 | xd fs=>obtain⟨mA,⟨od,es,ep,e,c⟩,r⟩:=x;exact⟨mA,⟨od,es,ep,k _ _ (.inl rfl) e,c⟩,r⟩
 | E5 lo hi=>obtain⟨t,u,v,e⟩:=x;exact⟨t,u,v,k _ _ (.inl rfl) e⟩
 | JX ob u ih=>obtain⟨e,q⟩:=x;exact⟨k _ _ (.inl rfl) e,ih q⟩
 | Ud ps =>
  have e:h.get? a=some { cls:=.none,data:=.fields ps }:=x;show h'.get? a=some { cls:=.none,data:=.fields ps };exact k a _ (.inl rfl) e
 | met f y =>
  have e:h.get? a=some (methodObj (.ref f) (.ref y)):=x;show h'.get? a=some (methodObj (.ref f) (.ref y));exact k a _ (.inl rfl) e
 | ext φ=>obtain⟨p,⟨o,e⟩,st⟩:=x;exact⟨st _ _ p λo q=>k _ _ (.inl rfl) q,⟨o,k _ _ (.inl rfl) e⟩,st⟩
theorem vd.lt(x:vd P w H h)(e:H a=some o):a<h.objs.size:=(x a o e).lt
theorem vd.fresh(x:vd P w H h)(e:h.objs.size<=a):H a=none:=by
 cases q:H a with
 | none=>rfl
 | some u=>exact absurd (qN (x.lt q) e) (Nat.lt_irrefl _)
theorem vd.kept(x:vd P w H h)(k:∀ b u,h.get? b=some u->h'.get? b=some u):vd P w H h':=λa o e =>
 (x a o e).stay (λb u _ q=>k b u q) (λ_ q=>q) λ_ _ q=>q
theorem vd.laid(x:vd P w H h)(k:∀ b u,h.get? b=some u->h'.get? b=some u)(hp:h.objs.size<=a)(new:fX P w (aN H a o) h' a o):vd P w (aN H a o) h':=λb u e=>by
 have hn:=x.fresh hp;by_cases hb:b=a
 ·subst hb;rw[af]at e;cases e;exact new
 ·rw[aK hb]at e;exact (x b u e).stay (λc v _ q=>k c v q) (λc q=>by rw[aK (az q hn)];exact q) λc xs q=>by rw[aK (az q hn)];exact q
end
def Rd(H:Hp)(a:Addr)(u:HO):Prop:=H a=some u\/∃ o,H a=some (.JX o u)
theorem Rd.ok{P:Program}{w:World}{H:Hp}{h:Heap}{a:Addr}{u:HO}(r:Rd H a u)(x:vd P w H h):fX P w H h a u:=by
 rcases r with r|⟨o,r⟩
 ·exact x a u r
 ·obtain⟨_,q⟩:=x a _ r;exact q
def Yw:Option HO->Prop
 | some (.lst _)=>True
 | some (.dK _)=>True
 | some (.dT _)=>True
 | some (.set _ _)=>True
 | some (.ins _ _ _)=>True
 | some (.ext _)=>True
 | _=>False
section
variable {P:Program} {w:World} {H:Hp} {h h':Heap} {x e:Addr} {o':HO}
theorem vd.write(ok:vd P w H h)(mu:Yw (H x))(he:e=x\/H e=some (.own x))(k:∀ b u,b≠e->h.get? b=some u->h'.get? b=some u)(XT:∃ u,h'.get? e=some u)
  (new:fX P w (aN H x o') h' x o'):vd P w (aN H x o') h':=λb u q=>by
 have Yx:∀ c y,H c=some (.own y)->c≠x:=λc y r z=>by subst z;rw[r]at mu;exact mu
 have aco:∀ c xs,H c=some (.tup xs)->c≠x:=λc xs r z=>by subst z;rw[r]at mu;exact mu
 by_cases hb:b=x
 ·subst hb;rw[af]at q;cases q;exact new
 ·rw[aK hb]at q;by_cases Vh:b=e
  ·have q':H b=some (.own x):=by
    rcases he with z|z
    ·exact absurd (Vh.trans z) hb
    ·rw[Vh];exact z
   rw[q]at q';cases q';obtain⟨v,hv⟩:=XT;exact⟨v,by rw[Vh];exact hv⟩
  ·refine (ok b u q).stay (λc v hc r=>k c v ?_ r) (λc r=>by rw[aK (Yx c b r)];exact r) λc xs r=>by rw[aK (aco c xs r)];exact r
   rcases hc with rfl|hc
   ·exact Vh
   ·rintro rfl;rcases he with z|z
    ·exact Yx c b hc z
    ·rw[hc]at z;cases z;exact hb rfl
end
structure Un(fs ex:List Addr)(H H':Hp)(h h':Heap):Prop where
 keep:∀ b o,h.get? b=some o->H b=none->b∉fs->b∉ex->h'.get? b=some o
 slot:∀ b o,h.get? b=some o->H b=none->b∈fs->b∉ex->∃ sl,h'.get? b=some { o with slots:=sl }
 free:∀ b o,h.get? b=some o->H b=none->b∉ex->H' b=none
 there:∀ b o,h.get? b=some o->b∉ex->∃ o',h'.get? b=some o'
 tups:∀ b xs,H b=some (.tup xs)->H' b=some (.tup xs)
 Dg:∀ b o u,H b=some (.JX o u)->H' b=some (.JX o u)
 E6:∀ b ps,H b=some (.Ud ps)->∃ more,H' b=some (.Ud (ps++more))
section
variable {fs XU ex ex':List Addr} {H H1 H2:Hp} {h h1 h2 h':Heap} {a x e:Addr} {o:HO}
theorem Un.any(u:Un fs ex H H1 h h1){b:Addr}{ob:Obj}(q:h.get? b=some ob)(n:H b=none)(hx:b∉ex):∃ sl,h1.get? b=some { ob with slots:=sl }:=by
 by_cases hb:b∈fs
 ·exact u.slot b ob q n hb hx
 ·exact⟨ob.slots,u.keep b ob q n hb hx⟩
theorem Un.kept(k:∀ b u,h.get? b=some u->h'.get? b=some u):Un fs ex H H h h' :=
 ⟨λb ob q _ _ _=>k b ob q,λb ob q _ _ _=>⟨ob.slots,k b ob q⟩,λ_ _ _ n _=>n,λb ob q _=>⟨ob,k b ob q⟩,λ_ _ q=>q,λ_ _ _ q=>q,λ_ ps q=>⟨#[],by rw[q];simp⟩⟩
theorem Un.refl:Un fs ex H H h h:=Un.kept λ_ _ q=>q
theorem Un.laid(k:∀ b u,h.get? b=some u->h'.get? b=some u)(hp:h.objs.size<=a)(hn:H a=none):Un fs ex H (aN H a o) h h' where
 keep:=λb u q _ _ _=>k b u q
 slot:=λb u q _ _ _=>⟨u.slots,k b u q⟩
 free:=λb u q n _=>by rw[aK (j3 (qN (Heap.lt_size q) hp))];exact n
 there:=λb u q _=>⟨u,k b u q⟩
 tups:=λb xs q=>by rw[aK (az q hn)];exact q
 Dg:=λb u xs q=>by rw[aK (az q hn)];exact q
 E6:=λb ps q=>⟨#[],by rw[aK (az q hn),q];simp⟩
theorem Un.write(mu:Yw (H x))(he:e=x\/H e=some (.own x))(k:∀ b u,b≠e->h.get? b=some u->h'.get? b=some u)(XT:∃ u,h'.get? e=some u):Un fs ex H (aN H x o) h h':=by
 have hx:∀ b,H b=none->b≠x:=λb n z=>by subst z;rw[n]at mu;exact mu
 have hb:∀ b,H b=none->b≠e:=λb n z=>by
  subst z;rcases he with r|r
  ·exact hx b n r
  ·rw[n]at r;cases r
 have hm:∀ b u,H b=some u->¬ Yw (some u)->b≠x:=λb u q nm z=>by subst z;rw[q]at mu;exact nm mu
 refine⟨λb u q n _ _=>k b u (hb b n) q,λb u q n _ _=>⟨u.slots,k b u (hb b n) q⟩,λb u q n _=>by rw[aK (hx b n)];exact n,λb u q _=>?_, λb xs q=>by rw[aK (hm b _ q λz=>z)];exact q,λb u xs q=>by rw[aK (hm b _ q λz=>z)];exact q,λb ps q=>⟨#[],by rw[aK (hm b _ q λz=>z),q];simp⟩⟩;by_cases Vh:b=e
 ·subst Vh;exact XT
 ·exact⟨u,k b u Vh q⟩
end
def trk(h:Heap)(H:Hp):List Addr:=(List.range h.objs.size).filter λa=>(H a).isSome
def Dh(h:Heap)(H:Hp):Heap:=PySem.W.hideAll h (trk h H)
theorem Ln(h:Heap)(H:Hp):(Dh h H).objs.size=h.objs.size:=PySem.W.hideAll_size _ _
theorem Ny{h:Heap}{H:Hp}{b:Addr}{o:Obj}(e:h.get? b=some o)(n:H b=none):(Dh h H).get? b=some o :=
 PySem.W.hideAll_get _ e λhm=>by
  have q:(H b).isSome=true:=(List.mem_filter.mp hm).2;rw[n]at q;simp at q
theorem Q8{h:Heap}{H:Hp}{b:Addr}{o:Obj}(e:(Dh h H).get? b=some o):h.get? b=some o/\H b=none:=by
 have e':h.get? b=some o:=PySem.W.of_hideAll (trk h H) e;exists e'
 cases q:H b with
 | none=>rfl
 | some x =>
  have hm:b∈trk h H:=List.mem_filter.mpr ⟨List.mem_range.mpr (Heap.lt_size e'),by simp[q]⟩;have z:(Dh h H).get? b=none:=PySem.W.hideAll_none (trk h H) hm;rw[z]at e;cases e
end L2
namespace L2
open Spec Rows
structure Mod(K:Frag)(mg:Str->Option Value)(zt:Heap):Prop where
 kin:K.In zt
 glob:zt.Ns mainGlobals mg
 blt:∃ mb,zt.Ns builtinsNs mb/\∀ x:Str,x≠"__name__"->mb x=bootBuiltins x
 nolimit:zt.NoLimit
structure Cx where
 prog:Program
 w:World
 K:Frag
 mg:Str->Option Value
 zt:Heap
 A:Around
 N:List Str
 s₀:Shared
 H₀:Hp
 env:Env
 zn:List Env
 stack:List Env
 ex:List Addr
 fn:Str->Bool
 calm:Bool
 pn:List (Addr × Obj)
 xe:Value->Shared->Prop
def Nz(l:List Env):List Addr:=l.filterMap (·.frame)
abbrev Cx.fs(X:Cx):List Addr:=Nz X.zn
def Vis(sc:Scope)(x:Str):Prop:=sc.names.lookup x=some .local\/sc.names.lookup x=some .cell\/sc.names.lookup x=some .free
def Loc(sc:Scope)(x:Str):Prop:=sc.names.lookup x=some .local\/sc.names.lookup x=some .cell
def Look(env:Env)(h:Heap)(m:Str->Option Value)(x:Str)(u:Value):Prop :=
 (env.kindOf x=some .local/\m x=some u)\/((env.kindOf x=some .cell\/env.kindOf x=some .free)/\∃ c,env.cells.lookup x=some c/\h.IsCell c (some u))
structure Cx.Ok(X:Cx):Prop where
 mod:Mod X.K X.mg X.zt
 kind:X.env.scope.kind=.function
 glob:X.env.globals=mainGlobals
 blt:X.env.builtins=builtinsNs
 above:X.s₀.heap.objs.size<=X.env.locals
 inj:∀ x y c,X.env.cells.lookup x=some c->X.env.cells.lookup y=some c->x=y
 has:∀ x,(X.env.kindOf x=some .cell\/X.env.kindOf x=some .free)->∃ c,X.env.cells.lookup x=some c
 Yy:∀ x c,X.fn x=true->X.env.cells.lookup x=some c->X.s₀.heap.objs.size<=c
 hd:X.calm=true->X.A.handled=none
 frames:X.A.frames=some X.stack
 stk:X.stack=X.zn\/(X.stack=X.env::X.zn/\X.env.frame=some X.env.locals)
 exf:∀ b∈X.ex,b≠X.env.locals/\∀ x c,X.env.cells.lookup x=some c->c≠b
 bs:∀ b o,X.zt.get? b=some o->X.s₀.heap.get? b=some o/\X.H₀ b=none
 Ue:X.zt.objs.size<=X.s₀.heap.objs.size
 NB:∀ b o,X.zt.get? b=some o->b∉X.ex
 Q9:∀ b∈X.ex,b∉X.fs
 yv:X.s₀.heap.FunFrames X.zt X.zn
 Vi:∀ b∈X.fs,X.H₀ b=none
structure Inv(X:Cx)(ao:List (Addr × Obj))(σ:List (Option V))(H:Hp)(s:Shared):Prop where
 ok:X.Ok
 os:s.os=X.s₀.os
 bare:AllBare s.gens
 zt:Un X.fs X.ex X.H₀ H X.s₀.heap s.heap
 loc:∃ m,s.heap.Ns X.env.locals m/\∀ (i:Nat) (x:Str) (v:V),X.N[i]?=some x->σ[i]?=some (some v)->Vis X.env.scope x->∃ u,RelV v u/\Look X.env s.heap m x u
 cell:∀ x c,X.env.cells.lookup x=some c->∃ v,s.heap.IsCell c v
 free:H X.env.locals=none
 tM:∀ x c,X.env.cells.lookup x=some c->H c=none
 pin:∀ p∈X.pn++ao,s.heap.get? p.1=some p.2/\H p.1=none/\p.1≠X.env.locals/\p.1∉X.fs/\∀ v,p.2.data≠.cell v
 hok:vd X.prog X.w H s.heap
 len:σ.length=X.N.length
section
variable {X:Cx} {ao:List (Addr × Obj)} {σ:List (Option V)} {H H':Hp} {s:Shared} {h':Heap}
theorem Cx.Ok.acp(ok:X.Ok){b:Addr}{o:Obj}(e:X.zt.get? b=some o):b∉X.fs:=λhb=>by
 have:=(ok.yv.mem hb).1;rw[e]at this;cases this
theorem Inv.bs(I:Inv X ao σ H s):∀ b o,X.zt.get? b=some o->s.heap.get? b=some o/\H b=none:=λb o e =>
 ⟨I.zt.keep b o (I.ok.bs b o e).1 (I.ok.bs b o e).2 (I.ok.acp e) (I.ok.NB b o e),I.zt.free b o (I.ok.bs b o e).1 (I.ok.bs b o e).2 (I.ok.NB b o e)⟩
theorem Inv.bk(I:Inv X ao σ H s):∀ b o,X.zt.get? b=some o->s.heap.get? b=some o:=λb o e=>(I.bs b o e).1
theorem Inv.mod(I:Inv X ao σ H s):Mod X.K X.mg X.zt:=I.ok.mod
theorem Inv.xT(I:Inv X ao σ H s):X.K.In s.heap:=I.ok.mod.kin.keeps I.bk
theorem Inv.lt(I:Inv X ao σ H s):X.env.locals<s.heap.objs.size:=let ⟨_,hn,_⟩:=I.loc;hn.lt
theorem Inv.sz(I:Inv X ao σ H s):X.s₀.heap.objs.size<=s.heap.objs.size:=gV I.ok.above (gT I.lt)
theorem Inv.acq(I:Inv X ao σ H s){a:Addr}(h:s.heap.objs.size<=a):a∉X.fs:=λhb=>by
 obtain⟨_,o,ho,_⟩:=I.ok.yv.mem hb;exact absurd (qN (Heap.lt_size ho) (gV I.sz h)) (Nat.lt_irrefl _)
theorem Inv.Vj(I:Inv X ao σ H s):∀ x c,X.env.cells.lookup x=some c->c≠X.env.locals:=λx c e z=>by
 obtain⟨v,o,ho,hd⟩:=I.cell x c e;obtain⟨m,⟨o',es,ep,Lo,hd',_⟩,_⟩:=I.loc;rw[z,Lo]at ho;cases ho;rw[hd']at hd;cases hd
theorem Inv.yv(I:Inv X ao σ H s):s.heap.FunFrames X.zt X.zn:=by
 have all:∀ (l:List Env),(∀ b∈Nz l,b∈X.fs)->X.s₀.heap.FunFrames X.zt l->s.heap.FunFrames X.zt l:=by
  intro l
  induction l with
  | nil=>intro _ _;trivial
  | cons env r ih =>
   intro hs hl;obtain⟨hk,⟨L,o,hf,hn,ho,hd⟩,hr⟩:=hl;have hL:L∈X.fs:=hs L (by unfold Nz;rw[List.filterMap_cons,hf];exact List.mem_cons_self);obtain⟨sl,e⟩:=I.zt.slot L o ho (I.ok.Vi L hL) hL λz=>I.ok.Q9 L z hL;exact⟨hk,⟨L,_,hf,hn,e,hd⟩,ih (λb hb=>hs b (by unfold Nz;rw[List.filterMap_cons,hf];exact mO _ hb)) hr⟩
 exact all X.zn (λ_ hb=>hb) I.ok.yv
theorem Inv.stack(I:Inv X ao σ H s):s.heap.FunFrames X.zt X.stack:=by
 rcases I.ok.stk with e|⟨e,hf⟩
 ·rw[e];exact I.yv
 ·rw[e];obtain⟨m,hn,_⟩:=I.loc;refine .cons (by rw[I.ok.kind];decide) hf hn ?_ I.yv;exact Heap.get?_none_of_le (gV I.ok.Ue I.ok.above)
theorem Inv.wD(I:Inv X ao σ H s):∀ b∈Nz X.stack,b∈X.env.locals::X.fs:=λb hb=>by
 rcases I.ok.stk with e|⟨e,hf⟩
 ·rw[e]at hb;exact mO _ hb
 ·rw[e]at hb;unfold Nz at hb;rw[List.filterMap_cons,hf]at hb;exact hb
theorem Inv.JY(I:Inv X ao σ H s):∀ b∈Nz X.stack,H b=none:=λb hb=>by
 rcases List.mem_cons.mp (I.wD b hb) with e|hb
 ·rw[e];exact I.free
 ·obtain⟨_,o,ho,_⟩:=I.ok.yv.mem hb;exact I.zt.free b o ho (I.ok.Vi b hb) λz=>I.ok.Q9 b z hb
theorem Inv.step{g':Array GenState}{t':Nat}{d':Drawn}{ch:List Addr}(I:Inv X ao σ H s)
  (QS:∀ b∈ch,(b∈X.ex\/X.s₀.heap.objs.size<=b)/\b≠X.env.locals/\(∀ x c,X.env.cells.lookup x=some c->c≠b)/\∀ p∈X.pn++ao,p.1≠b)
  (keep:∀ b o,b≠X.env.locals->b∉X.fs->b∉ch->s.heap.get? b=some o->H b=none->h'.get? b=some o)
  (slot:∀ b o,b≠X.env.locals->b∈X.fs->b∉ch->s.heap.get? b=some o->H b=none->∃ sl,h'.get? b=some { o with slots:=sl }) (free:∀ b o,b∉ch->s.heap.get? b=some o->H b=none->H' b=none)
  (there:∀ b o,b∉ch->s.heap.get? b=some o->∃ o',h'.get? b=some o')
  (tups:∀ b xs,H b=some (.tup xs)->H' b=some (.tup xs)) (Dg:∀ b o u,H b=some (.JX o u)->H' b=some (.JX o u)) (E6:∀ b ps,H b=some (.Ud ps)->∃ more,H' b=some (.Ud (ps++more)))
  (ns:∀ m,s.heap.Ns X.env.locals m->h'.Ns X.env.locals m) (hok:vd X.prog X.w H' h') (hg:AllBare g') :
  Inv X ao σ H' { s with heap:=h',gens:=g',drawn:=d',toks:=t' }:=by
 have neL:∀ b o,X.s₀.heap.get? b=some o->b≠X.env.locals:=λb o e=>j3 (qN (Heap.lt_size e) I.ok.above)
 have neC:∀ b o,X.s₀.heap.get? b=some o->b∉X.ex->b∉ch:=λb o e hx hb=>by
  rcases (QS b hb).1 with z|z
  ·exact hx z
  ·exact absurd (qN (Heap.lt_size e) z) (Nat.lt_irrefl _)
 have cellK:∀ x c,X.env.cells.lookup x=some c->∀ v,s.heap.IsCell c v->h'.IsCell c v:=λx c e v ⟨o,ho,hd⟩=>by
  have Yz:c∉ch:=λz=>(QS c z).2.2.1 x c e rfl;by_cases hc:c∈X.fs
  ·obtain⟨sl,q⟩:=slot c o (I.Vj x c e) hc Yz ho (I.tM x c e);exact⟨_,q,hd⟩
  ·exact⟨o,keep c o (I.Vj x c e) hc Yz ho (I.tM x c e),hd⟩
 refine⟨I.ok,I.os,hg,⟨λb o e n hb hx=>?_,λb o e n hb hx=>?_,λb o e n hx=>?_,λb o e hx=>?_,λb xs e=>tups b xs (I.zt.tups b xs e),λb o xs e=>Dg b o xs (I.zt.Dg b o xs e),λb ps e=>?_⟩,?_,λx c e=>?_,?_,λx c e=>?_,λp hp=>?_,hok,I.len⟩
 ·exact keep b o (neL b o e) hb (neC b o e hx) (I.zt.keep b o e n hb hx) (I.zt.free b o e n hx)
 ·obtain⟨sl,e1⟩:=I.zt.slot b o e n hb hx;obtain⟨sl',e2⟩:=slot b _ (neL b o e) hb (neC b o e hx) e1 (I.zt.free b o e n hx);exact⟨sl',e2⟩
 ·obtain⟨o',e1⟩:=I.zt.there b o e hx;exact free b o' (neC b o e hx) e1 (I.zt.free b o e n hx)
 ·obtain⟨o',e1⟩:=I.zt.there b o e hx;exact there b o' (neC b o e hx) e1
 ·obtain⟨m1,e1⟩:=I.zt.E6 b ps e;obtain⟨m2,e2⟩:=E6 b _ e1;exact⟨m1++m2,by rw[e2,Array.append_assoc]⟩
 ·obtain⟨m,hn,hl⟩:=I.loc;refine⟨m,ns m hn,λi x v e1 e2 e3=>?_⟩;obtain⟨u,r,l⟩:=hl i x v e1 e2 e3;exists u,r;rcases l with l|⟨k,c,e,z⟩
  ·exact .inl l
  ·exact .inr ⟨k,c,e,cellK x c e _ z⟩
 ·obtain⟨v,z⟩:=I.cell x c e;exact⟨v,cellK x c e v z⟩
 ·obtain⟨m,⟨o,_,_,ho,_⟩,_⟩:=I.loc;exact free _ o (λz=>(QS _ z).2.1 rfl) ho I.free
 ·obtain⟨v,o,ho,hd⟩:=I.cell x c e;exact free c o (λz=>(QS c z).2.2.1 x c e rfl) ho (I.tM x c e)
 ·obtain⟨e,n,ne,nf,d⟩:=I.pin p hp;have Yz:p.1∉ch:=λz=>(QS p.1 z).2.2.2 p hp rfl;exact⟨keep p.1 p.2 ne nf Yz e n,free p.1 p.2 Yz e n,ne,nf,d⟩
theorem Inv.un{t':Nat}(I:Inv X ao σ H s)(u:Un X.fs [] H H' s.heap h')(hok:vd X.prog X.w H' h'):Inv X ao σ H' { s with heap:=h',toks:=t' }:=by
 obtain⟨m,⟨o,es,ep,ho,r⟩,_⟩:=id I.loc;obtain⟨sl,hL⟩:=u.any ho I.free (by simp)
 exact I.step (g':=s.gens) (d':=s.drawn) (ch:=[]) (λ_ z=>nomatch z) (λb o _ hb _ e n=>u.keep b o e n hb (by simp)) (λb o _ hb _ e n=>u.slot b o e n hb (by simp)) (λb o _ e n=>u.free b o e n (by simp)) (λb o _ e=>u.there b o e (by simp)) u.tups u.Dg u.E6 (λm' hm=>by
  obtain⟨o',wz,ep',Lo,r'⟩:=hm;rw[ho]at Lo;cases Lo
  exact⟨_,wz,ep',hL,r'⟩) hok I.bare
theorem Inv.call{g':Array GenState}{t':Nat}{d':Drawn}{ch:List Addr}(I:Inv X ao σ H s)(u:Un (Nz X.stack) ch H H' s.heap h')(hok:vd X.prog X.w H' h')(hg:AllBare g')
  (QS:∀ b∈ch,(b∈X.ex\/X.s₀.heap.objs.size<=b)/\b≠X.env.locals/\(∀ x c,X.env.cells.lookup x=some c->c≠b)/\∀ p∈X.pn++ao,p.1≠b) :
  Inv X ao σ H' { s with heap:=h',gens:=g',drawn:=d',toks:=t' }:=by
 obtain⟨m,⟨o,es,ep,ho,r⟩,_⟩:=id I.loc;obtain⟨sl,hL⟩:=u.any ho I.free λz=>(QS _ z).2.1 rfl
 exact I.step (ch:=ch) QS (λb o hL hb hc e n=>u.keep b o e n (λz=>(List.mem_cons.mp (I.wD b z)).elim hL hb) hc) (λb o _ _ hc e n=>u.any e n hc) (λb o hc e n=>u.free b o e n hc) (λb o hc e=>u.there b o e hc) u.tups u.Dg u.E6 (λm' hm=>by
  obtain⟨o',wz,ep',Lo,r'⟩:=hm;rw[ho]at Lo;cases Lo
  exact⟨_,wz,ep',hL,r'⟩) hok hg
theorem Inv.turned{t':Nat}{it:Addr}(I:Inv X ao σ H s)(k:∀ b o,b≠it->s.heap.get? b=some o->h'.get? b=some o)(hn:H it=none)(hL:it≠X.env.locals)
  (h1:it∈X.ex\/X.s₀.heap.objs.size<=it) (h2:∀ x c,X.env.cells.lookup x=some c->c≠it) (h3:∀ p∈X.pn++ao,p.1≠it):Inv X ao σ H { s with heap:=h',toks:=t' }:=by
 have Ug:∀ b u,H b=some u->b≠it:=λb u e z=>by rw[z,hn]at e;cases e
 refine I.step (g':=s.gens) (d':=s.drawn) (ch:=[it]) (λb hb=>?_) (λb o _ _ hc e _=>k b o (λz=>hc (by simp[z])) e) (λb o _ _ hc e _=>⟨o.slots,k b o (λz=>hc (by simp[z])) e⟩) (λ_ _ _ _ n=>n) (λb o hc e=>⟨o,k b o (λz=>hc (by simp[z])) e⟩) (λ_ _ e=>e) (λ_ _ _ e=>e) (λb ps e=>⟨#[],by rw[e];simp⟩) (λm hm=>?_) (λb u e=>?_) I.bare
 ·have e:b=it:=by simpa using hb
  subst e;exact⟨h1,hL,h2,h3⟩
 ·obtain⟨o,es,ep,ho,r⟩:=hm;exact⟨o,es,ep,k _ o (Ne.symm hL) ho,r⟩
 ·refine (I.hok b u e).stay (λc v hc q=>k c v ?_ q) (λ_ q=>q) λ_ _ q=>q;rcases hc with z|z
  ·rw[z];exact Ug b u e
  ·exact Ug c _ z
theorem Inv.tok(I:Inv X ao σ H s)(t:Nat):Inv X ao σ H { s with toks:=t }:=I.un (h':=s.heap) (t':=t) Un.refl I.hok
theorem Inv.kept{t':Nat}(I:Inv X ao σ H s)(k:∀ b u,s.heap.get? b=some u->h'.get? b=some u):Inv X ao σ H { s with heap:=h',toks:=t' }:=I.un (Un.kept k) (I.hok.kept k)
theorem Inv.laid{a:Addr}{o:HO}{t':Nat}(I:Inv X ao σ H s)(k:∀ b u,s.heap.get? b=some u->h'.get? b=some u)(hp:s.heap.objs.size<=a)(new:fX X.prog X.w (aN H a o) h' a o) :
  Inv X ao σ (aN H a o) { s with heap:=h',toks:=t' }:=I.un (Un.laid k hp (I.hok.fresh hp)) (I.hok.laid k hp new)
theorem Inv.write{x e:Addr}{o:HO}{t':Nat}(I:Inv X ao σ H s)(mu:Yw (H x))(he:e=x\/H e=some (.own x))(k:∀ b u,b≠e->s.heap.get? b=some u->h'.get? b=some u)(XT:∃ u,h'.get? e=some u)
  (new:fX X.prog X.w (aN H x o) h' x o):Inv X ao σ (aN H x o) { s with heap:=h',toks:=t' }:=I.un (Un.write mu he k XT) (I.hok.write mu he k XT new)
theorem Inv.JZ(I:Inv X ao σ H s)(h:∀ p∈Uh,s.heap.get? p.1=some p.2/\H p.1=none/\p.1≠X.env.locals/\p.1∉X.fs/\∀ v,p.2.data≠.cell v):Inv X Uh σ H s :=
 ⟨I.ok,I.os,I.bare,I.zt,I.loc,I.cell,I.free,I.tM,λp hp=>(List.mem_append.mp hp).elim (λz=>I.pin p (qM _ z)) (h p),I.hok,I.len⟩
theorem E7{N:List Str}(hN:N.Nodup){i j:Nat}{x:Str}(a:N[i]?=some x)(b:N[j]?=some x):i=j:=by
 obtain⟨h1,e1⟩:=List.getElem?_eq_some_iff.mp a;obtain⟨h2,e2⟩:=List.getElem?_eq_some_iff.mp b;exact (List.getElem_inj hN).mp (e1.trans e2.symm)
theorem BV{M:Model}{A:Around}{E:Value->Shared->Prop}{i:Nat}{x:Str}{v:V}{u:Value}{Q:Unit->Shared->Prop}(I:Inv X ao σ H s)(hN:X.N.Nodup)(hi:X.N[i]?=some x)(hx:Loc X.env.scope x)(r:RelV v u)
  (h:∀ s',Inv X ao (σ.set i (some v)) H s'->(∃ a,Heap.SameBut a s.heap s'.heap/\(a=X.env.locals\/X.env.cells.lookup x=some a))->Q () s') (hf:X.fn x=true\/X.env.scope.names.lookup x=some .local:=by first|exact .inl rfl|exact .inr rfl|assumption):wpAny M A (storeName X.env x u) Q E s:=by
 obtain⟨m,hn,hl⟩:=id I.loc;have hcls:(X.env.scope.kind == .class || (X.env.scope.kind == .module&&X.env.locals != X.env.globals))=false:=by rw[I.ok.kind];rfl
 have hiσ:i<σ.length:=by rw[I.len];exact (List.getElem?_eq_some_iff.mp hi).1
 have Vj:=I.Vj
 have tracked:∀ {a:Addr} {h':Heap},(∃ o,s.heap.get? a=some o/\H a=none)->Heap.SameBut a s.heap h'->vd X.prog X.w H h':=λ{a h'} ha hs b ob e=>by
  obtain⟨_,_,J1⟩:=ha;refine (I.hok b ob e).stay (λc w' hc q=>(hs.2 c ?_).trans q) (λ_ q=>q) λ_ _ q=>q;rintro rfl;rcases hc with rfl|hc
  ·rw[J1]at e;cases e
  ·rw[J1]at hc;cases hc
 rcases hx with hk|hk
 ·refine wpAny_storeName_local hk hn (λh' hn' hs=>?_) hcls;obtain⟨oL,_,_,hoL,_⟩:=id hn;refine h _ ⟨I.ok,I.os,I.bare,⟨λb o e n hb hx=>?_,λb o e n hb hx=>?_,I.zt.free,λb o e hx=>?_,I.zt.tups,I.zt.Dg,I.zt.E6⟩,⟨_,hn',λj y v' e1 e2 e3=>?_⟩,λy c e=>?_,I.free,I.tM,λp hp=>?_,tracked ⟨oL,hoL,I.free⟩ hs,by simpa using I.len⟩ ⟨_,hs,.inl rfl⟩
  ·exact (hs.2 b (j3 (qN (Heap.lt_size e) I.ok.above))).trans (I.zt.keep b o e n hb hx)
  ·obtain⟨sl,e1⟩:=I.zt.slot b o e n hb hx;exact⟨sl,(hs.2 b (j3 (qN (Heap.lt_size e) I.ok.above))).trans e1⟩
  ·obtain⟨o',e1⟩:=I.zt.there b o e hx;exact⟨o',(hs.2 b (j3 (qN (Heap.lt_size e) I.ok.above))).trans e1⟩
  ·by_cases hj:j=i
   ·subst hj;rw[hi]at e1;cases e1;rw[List.getElem?_set_self hiσ]at e2;cases e2;exact⟨u,r,.inl ⟨hk,by simp⟩⟩
   ·rw[List.getElem?_set_ne (Ne.symm hj)]at e2;obtain⟨u',r',q⟩:=hl j y v' e1 e2 e3;exists u',r';rcases q with ⟨k,e⟩|⟨k,c,e,z⟩
    ·refine .inl ⟨k,?_⟩;have:y≠x:=λe=>hj (E7 hN e1 (e ▸ hi));simp[this,e]
    ·exact .inr ⟨k,c,e,z.sameBut hs (Vj y c e)⟩
  ·obtain⟨w',z⟩:=I.cell y c e;exact⟨w',z.sameBut hs (Vj y c e)⟩
  ·obtain⟨e,n,ne,nf,d⟩:=I.pin p hp;exact⟨(hs.2 p.1 ne).trans e,n,ne,nf,d⟩
 ·have hfn:X.fn x=true:=by
   rcases hf with z|z
   ·exact z
   ·rw[z]at hk;cases hk
  obtain⟨c,hc⟩:=I.ok.has x (.inl hk);obtain⟨w',z⟩:=I.cell x c hc;refine wpAny_storeName_cell I.ok.kind hk hc z (λh' YA hs=>?_);obtain⟨oc,hoc,acu⟩:=id z;refine h { s with heap:=h' } ⟨I.ok,I.os,I.bare,⟨λb o e n hb hx=>?_,λb o e n hb hx=>?_,I.zt.free,λb o e hx=>?_,I.zt.tups,I.zt.Dg,I.zt.E6⟩,⟨m,hn.sameBut hs (Ne.symm (Vj x c hc)),λj y v' e1 e2 e3=>?_⟩,λy c' e=>?_,I.free,I.tM,λp hp=>?_,tracked ⟨oc,hoc,I.tM x c hc⟩ hs,by simpa using I.len⟩ ⟨c,hs,.inr hc⟩
  ·exact (hs.2 b (j3 (qN (Heap.lt_size e) (I.ok.Yy x c hfn hc)))).trans (I.zt.keep b o e n hb hx)
  ·obtain⟨sl,e1⟩:=I.zt.slot b o e n hb hx;exact⟨sl,(hs.2 b (j3 (qN (Heap.lt_size e) (I.ok.Yy x c hfn hc)))).trans e1⟩
  ·obtain⟨o',e1⟩:=I.zt.there b o e hx;exact⟨o',(hs.2 b (j3 (qN (Heap.lt_size e) (I.ok.Yy x c hfn hc)))).trans e1⟩
  ·by_cases hj:j=i
   ·subst hj;rw[hi]at e1;cases e1;rw[List.getElem?_set_self hiσ]at e2;cases e2;exact⟨u,r,.inr ⟨.inl hk,c,hc,YA⟩⟩
   ·rw[List.getElem?_set_ne (Ne.symm hj)]at e2;obtain⟨u',r',q⟩:=hl j y v' e1 e2 e3;exists u',r';rcases q with q|⟨k,c',e,z'⟩
    ·exact .inl q
    ·refine .inr ⟨k,c',e,z'.sameBut hs ?_⟩;rintro rfl;exact hj (E7 hN e1 (I.ok.inj _ _ _ e hc ▸ hi))
  ·by_cases hcc:c'=c
   ·subst hcc;exact⟨_,YA⟩
   ·obtain⟨w2,z2⟩:=I.cell y c' e;exact⟨w2,z2.sameBut hs hcc⟩
  ·obtain⟨e,n,ne,nf,d⟩:=I.pin p hp;refine⟨(hs.2 p.1 ?_).trans e,n,ne,nf,d⟩;intro q;rw[q,hoc]at e;have q':oc=p.2:=qW e;exact d w' (by rw[← q'];exact acu)
theorem zj{M:Model}{A:Around}{E:Value->Shared->Prop}{i:Nat}{x:Str}{v:V}{u:Value}{Q:Unit->Shared->Prop}(I:Inv X ao σ H s)(hN:X.N.Nodup)(hi:X.N[i]?=some x)(hx:Loc X.env.scope x)(r:RelV v u)
  (h:∀ s',Inv X ao (σ.set i (some v)) H s'->Q () s') (hf:X.fn x=true\/X.env.scope.names.lookup x=some .local:=by first|exact .inl rfl|exact .inr rfl|assumption):wpAny M A (storeName X.env x u) Q E s :=
 BV I hN hi hx r (λs' I' _=>h s' I') hf
theorem Inv.YB{s':Shared}{ch:List Addr}(I:Inv X ao σ H s)(ho:s'.os=s.os)(u:Un (Nz X.stack) ch H H' s.heap s'.heap)(hok:vd X.prog X.w H' s'.heap)(hg:AllBare s'.gens)
  (QS:∀ b∈ch,(b∈X.ex\/X.s₀.heap.objs.size<=b)/\b≠X.env.locals/\(∀ x c,X.env.cells.lookup x=some c->c≠b)/\∀ p∈X.pn++ao,p.1≠b):Inv X ao σ H' s':=by
 obtain⟨h',g',d',t',o'⟩:=s';have e:o'=s.os:=ho;subst e;exact I.call (g':=g') (t':=t') (d':=d') u hok hg QS
end
abbrev XK:=Value->Option Addr->Hp->Prop
abbrev St:=List (Option V)
abbrev VK:=V->Hp->Prop
abbrev TE:=St->Hp->VK->Prop
abbrev TT:=St->Hp->(Bool->Hp->Prop)->Prop
abbrev TA:=St->Hp->(List V->Hp->Prop)->Prop
structure Ends where
 nx:St->Hp->Prop
 rt:VK
 bk:St->Hp->Prop:=λ_ _=>False
 ct:St->Hp->Prop:=λ_ _=>False
abbrev TS:=Ends->St->Hp->Prop
inductive EP(X:Cx)(ao:List (Addr × Obj))(σ:St)(Q:VK)(u:Value)(s':Shared):Prop
 | mk (v:V) (H':Hp) (_:Inv X ao σ H' s') (_:RelV v u) (_:Q v H')
def TP(X:Cx)(ao:List (Addr × Obj))(σ:St)(Q:Bool->Hp->Prop)(b:Bool)(s':Shared):Prop:=∃ H',Inv X ao σ H' s'/\Q b H'
inductive AP(X:Cx)(ao:List (Addr × Obj))(σ:St)(Q:List V->Hp->Prop)(us:List Value)(s':Shared):Prop
 | mk (vs:List V) (H':Hp) (_:Inv X ao σ H' s') (_:cC vs us) (_:Q vs H')
def SP(X:Cx)(ao:List (Addr × Obj))(D:Ends)(f:Flow)(s':Shared):Prop :=
 match f with
 | .next=>∃ σ' H',Inv X ao σ' H' s'/\D.nx σ' H'
 | .brk=>∃ σ' H',Inv X ao σ' H' s'/\D.bk σ' H'
 | .cont=>∃ σ' H',Inv X ao σ' H' s'/\D.ct σ' H'
 | .ret u=>∃ v σ' H',Inv X ao σ' H' s'/\RelV v u/\D.rt v H'
def PE(X:Cx)(e:Expr)(t:TE):Prop :=
 ∀ (ao:List (Addr × Obj)) (s:Shared) (σ:St) (H:Hp) (Q:VK),Inv X ao σ H s->t σ H Q->wpAny (model X.prog X.w) X.A (eval e X.env) (EP X ao σ Q) X.xe s
def PT(X:Cx)(e:Expr)(t:TT):Prop :=
 ∀ (ao:List (Addr × Obj)) (s:Shared) (σ:St) (H:Hp) (Q:Bool->Hp->Prop),Inv X ao σ H s->t σ H Q->wpAny (model X.prog X.w) X.A (isTrue e X.env (eval e X.env)) (TP X ao σ Q) X.xe s
def PW(X:Cx)(e:Expr)(t:TT):Prop :=
 ∀ (zk:Sem Value) (ao:List (Addr × Obj)) (s:Shared) (σ:St) (H:Hp) (Q:Bool->Hp->Prop),Inv X ao σ H s->t σ H Q->wpAny (model X.prog X.w) X.A (isTrue e X.env zk) (TP X ao σ Q) X.xe s
theorem PW.pt{X:Cx}{e:Expr}{t:TT}(h:PW X e t):PT X e t:=h _
def PA(X:Cx)(es:List Expr)(t:TA):Prop :=
 ∀ (pos:Pos) (ao:List (Addr × Obj)) (s:Shared) (σ:St) (H:Hp) (Q:List V->Hp->Prop),Inv X ao σ H s->t σ H Q->wpAny (model X.prog X.w) X.A (spliced (backTo pos (starEach es X.env))) (AP X ao σ Q) X.xe s
def PS(X:Cx)(st:Stmt)(t:TS):Prop :=
 ∀ (ao:List (Addr × Obj)) (s:Shared) (σ:St) (H:Hp) (D:Ends),Inv X ao σ H s->t D σ H->wpAny (model X.prog X.w) X.A (exec st X.env) (SP X ao D) X.xe s
def J2(X:Cx)(st:List Stmt)(t:TS):Prop :=
 ∀ (ao:List (Addr × Obj)) (s:Shared) (σ:St) (H:Hp) (D:Ends),Inv X ao σ H s->t D σ H->wpAny (model X.prog X.w) X.A (execs st X.env) (SP X ao D) X.xe s
theorem dc{α:Type}{t:Sem α}{Q Q':α->Shared->Prop}{M:Model}{A:Around}{E:Value->Shared->Prop}{s:Shared}(h:wpAny M A t Q E s)(hQ:∀ a s,Q a s->Q' a s):wpAny M A t Q' E s:=wpAny_mono h hQ λ_ _ x=>x
end L2
namespace L2
open Spec Rows
section
variable {X:Cx}
inductive Vk(i:Nat)(σ:St)(H:Hp)(Q:VK):Prop
 | mk (v:V) (_:σ[i]?=some (some v)) (_:Q v H)
inductive isB(x:V)(H:Hp)(Q:Bool->Hp->Prop):Prop
 | mk (c:Bool) (_:x=.bl c) (_:Q c H)
inductive isI(x:V)(H:Hp)(Q:Option Int->Hp->Prop):Prop
 | mk (i:Int) (_:x=.int i) (_:Q (some i) H)
def tC(v:V):TE:=λ_ H Q=>Q v H
theorem Vl{i:Nat}{x:Str}(hN:X.N[i]?=some x)(hv:Vis X.env.scope x)(hd:(x == ("__debug__":Str))=false:=by decide)(NC:(x == ("__classdict__":Str))=false:=by decide):PE X (.Name x pos) (Vk i):=by
 intro ao s σ H Q I h;obtain⟨v,e,h⟩:=h;obtain⟨m,hn,hl⟩:=I.loc;obtain⟨u,r,l⟩:=hl i x v hN e hv;have jG:EP X ao σ Q u s:=⟨v,H,I,r,h⟩;rcases l with ⟨hk,hm⟩|⟨hk,c,hc,hcell⟩
 ·exact wpAny_Name (wpAny_loadName_local I.ok.kind hk hn hm jG) hd
 ·rcases hk with hk|hk
  ·exact wpAny_Name (wpAny_loadName_cell I.ok.kind hk hc hcell jG) hd
  ·exact wpAny_Name (wpAny_loadName_free I.ok.kind hk hc hcell jG NC) hd
theorem ay{i j pos}:PE X (.Constant (.int i) j pos) (tC (.int i)):=λ_ _ _ H _ I h=>wpAny_Constant_int ⟨.int i,H,I.tok _,⟨Y⟩,h⟩
theorem lY{b j pos}:PE X (.Constant (.bool b) j pos) (tC (.bl b)):=λ_ _ _ H _ I h=>Constant_bool ⟨.bl b,H,I,rfl,h⟩
theorem Vm{j pos}:PE X (.Constant .none j pos) (tC .gj):=λ_ _ _ H _ I h=>Constant_none ⟨.gj,H,I,rfl,h⟩
theorem bx{x j pos}:PE X (.Constant (.str x) j pos) (tC (.str x)):=λ_ _ _ H _ I h=>Calls.Constant_str ⟨.str x,H,I.tok _,⟨Y⟩,h⟩
def Gl(X:Cx)(x:Str):Prop:=X.env.kindOf x=some .globalImplicit
theorem yU{E:Value->Shared->Prop}{s:Shared}{σ:St}{H:Hp}{x:Str}{u:Value}{Q:Value->Shared->Prop}(I:Inv X ao σ H s)(hg:Gl X x)(hm:X.mg x=some u)(h:Q u s)
  (hd:(x == ("__debug__":Str))=false:=by decide):wpAny (model X.prog X.w) X.A (eval (.Name x pos) X.env) Q E s :=
 Calls.Name_function_global I.ok.kind hg (Calls.loadGlobal_global (by rw[I.ok.glob];exact I.mod.glob.keeps I.bk) hm h) hd
theorem zl{E:Value->Shared->Prop}{s:Shared}{σ:St}{H:Hp}{x:Str}{u:Value}{Q:Value->Shared->Prop}(I:Inv X ao σ H s)(hg:Gl X x)(hm:X.mg x=none)(hv:bootBuiltins x=some u)(h:Q u s)
  (hn:x≠"__name__":=by decide) (hd:(x == ("__debug__":Str))=false:=by decide):wpAny (model X.prog X.w) X.A (eval (.Name x pos) X.env) Q E s:=by
 obtain⟨mb,h1,h2⟩:=I.mod.blt;exact Calls.Name_function_global I.ok.kind hg (Calls.loadGlobal_builtin (by rw[I.ok.glob];exact I.mod.glob.keeps I.bk) hm (by rw[I.ok.blt];exact h1.keeps I.bk) ((h2 x hn).trans hv) h) hd
theorem J3{x:Str}{v:V}{u:Value}(hg:Gl X x)(hm:X.mg x=some u)(r:RelV v u)(hd:(x == ("__debug__":Str))=false:=by decide):PE X (.Name x pos) (tC v) :=
 λ_ _ _ H _ I h=>yU I hg hm ⟨v,H,I,r,h⟩ hd
theorem Rc{x:Str}{v:V}{u:Value}(hg:Gl X x)(hm:X.mg x=none)(hv:bootBuiltins x=some u)(r:RelV v u)(hn:x≠"__name__":=by decide)(hd:(x == ("__debug__":Str))=false:=by decide):PE X (.Name x pos) (tC v) :=
 λ_ _ _ H _ I h=>zl I hg hm hv ⟨v,H,I,r,h⟩ hn hd
variable {a b:Expr} {ta tb:TE} {pos:Pos}
def PC(X:Cx)(op:CmpOp)(a b:Expr)(t:TE):Prop :=
 ∀ (ao:List (Addr × Obj)) (s:Shared) (σ:St) (H:Hp) (Q:VK),Inv X ao σ H s->t σ H Q->
  wpAny (model X.prog X.w) X.A (eval a X.env) (λv s₁=>wpAny (model X.prog X.w) X.A (eval b X.env) (λu s₂=>wpAny (model X.prog X.w) X.A (compareOp op v u) (EP X ao σ Q) X.xe s₂) X.xe s₁) X.xe s
theorem E8(b:Expr){op:CmpOp}(h:op≠.In)(h2:op≠.NotIn):behindInMarks op b=false:=by
 have e1:(op == CmpOp.In)=false:=by cases op <;> first|rfl|exact absurd rfl h
 have e2:(op == CmpOp.NotIn)=false:=by cases op <;> first|rfl|exact absurd rfl h2
 cases b <;> simp[behindInMarks,e1,e2]
def acv(ta:TE):TE:=fun σ H Q=>ta σ H λx H1=>Q (.bl (decide (x=.gj))) H1
def YC(ta:TE):TE:=fun σ H Q=>ta σ H λx H1=>Q (.bl (!decide (x=.gj))) H1
theorem RelV.E9{x:V}{v:Value}(r:RelV x v):(v == Value.none)=decide (x=.gj):=by
 cases x with
 | gj=>cases r;rfl
 | bl _=>cases r;rfl
 | int _=>obtain⟨t,rfl⟩:=r;rfl
 | str _=>obtain⟨t,rfl⟩:=r;rfl
 | HA _=>obtain⟨t,rfl⟩:=r;rfl
 | Uc _=>obtain⟨t,rfl⟩:=r;rfl
 | ref _=>cases r;rfl
 | ty _=>cases r;rfl
theorem Di{j iV}(ha:PE X a ta):PC X .Is a (.Constant .none j iV) (acv ta):=by
 intro ao s σ H Q I h;refine dc (ha ao s σ H _ I h) λv s1 A9=>?_;obtain⟨x,H1,I1,r1,q1⟩:=A9;exact Constant_none (is_none_gen ⟨.bl _,H1,I1,by rw[r1.E9];rfl,q1⟩)
theorem Rf{j iV}(ha:PE X a ta):PC X .IsNot a (.Constant .none j iV) (YC ta):=by
 intro ao s σ H Q I h;refine dc (ha ao s σ H _ I h) λv s1 Fb=>?_;obtain⟨x,H1,I1,r1,q1⟩:=Fb;exact Constant_none (isnot_none_gen ⟨.bl _,H1,I1,by rw[r1.E9];rfl,q1⟩)
def tB(t:TE):TT:=fun σ H Q=>t σ H λx H1=>isB x H1 Q
theorem HD{op:CmpOp}{t:TE}(h:PC X op a b t)(h1:behindInMarks op b=false:=by first|exact E8 _ (by decide) (by decide)|rfl):PE X (.Compare a [op] [b] pos) t:=λao s σ H Q I hw=>wpAny_Compare1 (h ao s σ H Q I hw) h1
theorem Dj{op:CmpOp}{t:TE}(h:PC X op a b t)(h1:behindInMarks op b=false:=by first|exact E8 _ (by decide) (by decide)|rfl):PT X (.Compare a [op] [b] pos) (tB t):=by
 intro ao s σ H Q I hw;refine wpAny_isTrue_Compare1 (dc (h ao s σ H _ I hw) λv s1 h1=>dc h1 λu s2 h2=>dc h2 λc s3 ⟨x,H1,I1,r1,q1⟩=>?_) h1;obtain⟨d,rfl,q⟩:=q1;cases r1;exact wpAny_truthy_bool ⟨H1,I1,q⟩
theorem iM{e:Expr}{t:TE}(h:PE X e t)(he:∀ zk,isTrue e X.env zk=(do let v ← zk;standAt e.pos;holding [v] (truthy v)):=by intro _;rfl):PT X e (tB t):=by
 intro ao s σ H Q I hw;refine isTrue_plain (dc (h ao s σ H _ I hw) λv s1 ⟨x,H1,I1,r1,q1⟩=>?_) (he _);obtain⟨d,rfl,q⟩:=q1;cases r1;exact wpAny_truthy_bool ⟨H1,I1,q⟩
variable {tA tB':TT} {vf:List Expr}
def acw(t u:TT):TT:=fun σ H Q=>t σ H λc H1=>if c=true then u σ H1 Q else Q false H1
def tOr(t u:TT):TT:=fun σ H Q=>t σ H λc H1=>if c=true then Q true H1 else u σ H1 Q
def acy(t:TT):TT:=fun σ H Q=>t σ H λc H1=>Q (!c) H1
theorem kH(ha:PT X a tA):PW X (.BoolOp .And [a] pos) tA:=by
 intro wh ao s σ H Q I h;refine isTrue_and (dc (ha ao s σ H Q I h) λc s1 e=>?_)
 cases c with
 | true=>exact isTrue_and_nil e
 | false=>exact e
theorem wG(ha:PT X a tA):PW X (.BoolOp .Or [a] pos) tA:=by
 intro wh ao s σ H Q I h;refine isTrue_or (dc (ha ao s σ H Q I h) λc s1 e=>?_)
 cases c with
 | false=>exact isTrue_or_nil e
 | true=>exact e
theorem m6(ha:PT X a tA)(hb:PW X (.BoolOp .And (b::vf) pos) tB'):PW X (.BoolOp .And (a::b::vf) pos) (acw tA tB'):=by
 intro wh ao s σ H Q I h;refine isTrue_and (dc (ha ao s σ H _ I h) λc s1 Dk=>?_);obtain⟨H1,I1,q1⟩:=Dk
 cases c with
 | true=>exact hb wh ao s1 σ H1 Q I1 q1
 | false=>exact⟨H1,I1,q1⟩
theorem zm(ha:PT X a tA)(hb:PW X (.BoolOp .Or (b::vf) pos) tB'):PW X (.BoolOp .Or (a::b::vf) pos) (tOr tA tB'):=by
 intro wh ao s σ H Q I h;refine isTrue_or (dc (ha ao s σ H _ I h) λc s1 HE=>?_);obtain⟨H1,I1,q1⟩:=HE
 cases c with
 | true=>exact⟨H1,I1,q1⟩
 | false=>exact hb wh ao s1 σ H1 Q I1 q1
theorem gW(ha:PT X a tA):PT X (.UnaryOp .Not a pos) (acy tA):=by
 intro ao s σ H Q I h;exact isTrue_not (ha ao s σ H (λc H1=>Q (!c) H1) I h)
def YD(ta tb:TE):TE:=fun σ H Q=>ta σ H λx H1=>isB x H1 λc H1=>if c=true then tb σ H1 Q else Q (.bl false) H1
def YE(ta:TE):TE:=fun σ H Q=>ta σ H λx H1=>isB x H1 λc H1=>Q (.bl (!c)) H1
theorem ud{op}{t:TE}(h:PE X a t):PE X (.BoolOp op [a] pos) t:=λao s σ H Q I hw=>BoolOp_one (h ao s σ H Q I hw)
theorem qX(ha:PE X a ta)(hb:PE X (.BoolOp .And (b::vf) pos) tb):PE X (.BoolOp .And (a::b::vf) pos) (YD ta tb):=by
 intro ao s σ H Q I h;refine BoolOp_and (dc (ha ao s σ H _ I h) λv s1 HF=>?_);obtain⟨x,H1,I1,r1,q1⟩:=HF;obtain⟨c,rfl,q1⟩:=q1;cases r1;refine wpAny_truthy_bool ?_
 cases c with
 | true=>exact hb ao s1 σ H1 Q I1 q1
 | false=>exact⟨.bl false,H1,I1,rfl,q1⟩
theorem Vn(ha:PE X a ta):PE X (.UnaryOp .Not a pos) (YE ta):=by
 intro ao s σ H Q I h;refine UnaryOp_ (dc (ha ao s σ H _ I h) λv s1 HG=>?_);obtain⟨x,H1,I1,r1,q1⟩:=HG;obtain⟨c,rfl,q1⟩:=q1;cases r1;exact not_of (wpAny_truthy_bool ⟨.bl (!c),H1,I1,rfl,q1⟩)
def tIf(t:TT)(ta tb:TE):TE:=fun σ H Q=>t σ H λc H1=>if c=true then ta σ H1 Q else tb σ H1 Q
theorem ND{c:Expr}(hc:PT X c tA)(ha:PE X a ta)(hb:PE X b tb):PE X (.IfExp c a b pos) (tIf tA ta tb):=by
 intro ao s σ H Q I h;refine wpAny_IfExp (dc (hc ao s σ H _ I h) λd s1 A9=>?_);obtain⟨H1,I1,q1⟩:=A9
 cases d with
 | true=>exact ha ao s1 σ H1 Q I1 q1
 | false=>exact hb ao s1 σ H1 Q I1 q1
end
end L2
namespace L2
open Spec Rows
def bI(K:Frag)(H:Hp)(a:Addr)(xs:List V):Prop :=
 Rd H a (.lst xs)\/
  ∃ (o:Obj) (aM:Array Value) (n:Nat),K.lookup a=some o/\o.cls=.type "list"/\o.dict=none/\o.data=.seq aM n/\aM.size<=sizeLine/\cC xs aM.toList
def cX(K:Frag)(H:Hp)(a:Addr)(xs:List V):Prop :=
 Rd H a (.tup xs)\/
  ∃ (o:Obj) (aM:Array Value) (n:Nat),K.lookup a=some o/\o.cls=.type "tuple"/\o.data=.seq aM n/\aM.size<=sizeLine/\cC xs aM.toList
def acz:Value->Option V
 | .none=>some .gj
 | .bool b=>some (.bl b)
 | .int i _=>some (.int i)
 | .str x _=>some (.str x)
 | .bytes b _=>some (.HA b)
 | .float b _=>some (.Uc b)
 | .ref a=>some (.ref a)
 | .type n=>some (.ty n)
 | _=>none
theorem RelV.abs{x:V}{u:Value}(r:RelV x u):acz u=some x:=by
 cases x with
 | gj=>cases r;rfl
 | bl _=>cases r;rfl
 | int _=>obtain⟨t,rfl⟩:=r;rfl
 | str _=>obtain⟨t,rfl⟩:=r;rfl
 | HA _=>obtain⟨t,rfl⟩:=r;rfl
 | Uc _=>obtain⟨t,rfl⟩:=r;rfl
 | ref _=>cases r;rfl
 | ty _=>cases r;rfl
theorem RelV.inj{x y:V}{u:Value}(r:RelV x u)(q:RelV y u):x=y:=qW (r.abs.symm.trans q.abs)
theorem cC.inj:∀ {xs ys:List V} {us:List Value},cC xs us->cC ys us->xs=ys
 | _,_,_,.nil,.nil=>rfl
 | _,_,_,.cons r t,.cons r' t'=>by rw[r.inj r',cC.inj t t']
section
variable {X:Cx} {ao:List (Addr × Obj)} {σ:St} {H:Hp} {s:Shared} {a:Addr} {xs ys:List V}
theorem bI.of{K:Frag}(h:H a=some (.lst xs)):bI K H a xs:=.inl (.inl h)
theorem cX.of{K:Frag}(h:H a=some (.tup xs)):cX K H a xs:=.inl (.inl h)
theorem Inv.list(I:Inv X ao σ H s)(h:bI X.K H a xs):∃ aM:List Value,cC xs aM/\PlainL s.heap a aM.toArray/\xs.length<=sizeLine:=by
 rcases h with h|⟨o,aM,n,hk,hc,hd,hs,hz,r⟩
 ·obtain⟨z,aM,n,r,e⟩:=h.ok I.hok;exact⟨aM,r,⟨_,n,e,V,rfl⟩,z⟩
 ·refine⟨aM.toList,r,⟨o,n,I.xT a o hk,hc,hd,by simpa using hs⟩,?_⟩;have e:=r.length;simp only[Array.length_toList]at e;lia
theorem Inv.tuple(I:Inv X ao σ H s)(h:cX X.K H a xs):∃ aM:List Value,cC xs aM/\IsTup s.heap a aM.toArray/\xs.length<=sizeLine:=by
 rcases h with h|⟨o,aM,n,hk,hc,hs,hz,r⟩
 ·obtain⟨z,aM,r,p⟩:=h.ok I.hok;exact⟨aM,r,p,z⟩
 ·refine⟨aM.toList,r,⟨o,I.xT a o hk,hc,n,by simpa using hs⟩,?_⟩;have e:=r.length;simp only[Array.length_toList]at e;lia
theorem Inv.Fc(I:Inv X ao σ H s)(h:bI X.K H a xs)(h':bI X.K H a ys):xs=ys:=by
 obtain⟨aM,r,⟨o,n,e,_,_,d⟩,_⟩:=I.list h;obtain⟨its',r',⟨o',n',e',_,_,d'⟩,_⟩:=I.list h';rw[e]at e';cases e';rw[d]at d';injection d' with d1 _;have:aM=its':=by simpa using congrArg Array.toList d1
 subst this;exact r.inj r'
theorem Inv.BW(I:Inv X ao σ H s)(h:cX X.K H a xs)(h':cX X.K H a ys):xs=ys:=by
 obtain⟨aM,r,⟨o,e,_,n,d⟩,_⟩:=I.tuple h;obtain⟨its',r',⟨o',e',_,n',d'⟩,_⟩:=I.tuple h';rw[e]at e';cases e';rw[d]at d';injection d' with d1 _;have:aM=its':=by simpa using congrArg Array.toList d1
 subst this;exact r.inj r'
end
abbrev Cx.Ba(X:Cx)(E:Value->Shared->Prop):Cx:={ X with xe:=E }
abbrev Cx.Lp(X:Cx):Cx:=X.Ba λ_ _=>False
theorem Cx.Ok.Ba{X:Cx}(ok:X.Ok)(E:Value->Shared->Prop):(X.Ba E).Ok :=
 ⟨ok.mod,ok.kind,ok.glob,ok.blt,ok.above,ok.inj,ok.has,ok.Yy,ok.hd,ok.frames,ok.stk,ok.exf,ok.bs,ok.Ue,ok.NB,ok.Q9,ok.yv,ok.Vi⟩
theorem Cx.Ok.qY{X:Cx}{E:Value->Shared->Prop}(ok:(X.Ba E).Ok):X.Ok :=
 ⟨ok.mod,ok.kind,ok.glob,ok.blt,ok.above,ok.inj,ok.has,ok.Yy,ok.hd,ok.frames,ok.stk,ok.exf,ok.bs,ok.Ue,ok.NB,ok.Q9,ok.yv,ok.Vi⟩
section
variable {X:Cx} {ao:List (Addr × Obj)} {σ:St} {H:Hp} {s:Shared} {E:Value->Shared->Prop}
theorem Inv.Ba(I:Inv X ao σ H s)(E:Value->Shared->Prop):Inv (X.Ba E) ao σ H s:=⟨I.ok.Ba E,I.os,I.bare,I.zt,I.loc,I.cell,I.free,I.tM,I.pin,I.hok,I.len⟩
theorem Inv.qY(I:Inv (X.Ba E) ao σ H s):Inv X ao σ H s:=⟨I.ok.qY,I.os,I.bare,I.zt,I.loc,I.cell,I.free,I.tM,I.pin,I.hok,I.len⟩
theorem SP.qY{D:Ends}{f:Flow}{s':Shared}(h:SP (X.Ba E) ao D f s'):SP X ao D f s':=by
 cases f with
 | next=>obtain⟨σ',H',I,q⟩:=h;exact⟨σ',H',I.qY,q⟩
 | brk=>obtain⟨σ',H',I,q⟩:=h;exact⟨σ',H',I.qY,q⟩
 | cont=>obtain⟨σ',H',I,q⟩:=h;exact⟨σ',H',I.qY,q⟩
 | ret u=>obtain⟨v,σ',H',I,r,q⟩:=h;exact⟨v,σ',H',I.qY,r,q⟩
theorem J2.Lp{st:List Stmt}{t:TS}(h:J2 X.Lp st t):J2 X st t:=λao s σ H D I hw =>
 wpAny_mono (h ao s σ H D (I.Ba _) hw) (λ_ _ q=>q.qY) λ_ _ z=>False.elim z
end
section
variable {X:Cx} {st:Stmt} {vf:List Stmt} {t u:TS} {e:Expr} {te:TE} {pos:Pos}
def YF:TS:=λD σ H=>D.nx σ H
def acA(t u:TS):TS:=λD σ H=>t { D with nx:=u D } σ H
theorem bg:J2 X [] YF:=λ_ _ σ H _ I h=>wpAny_execs_nil ⟨σ,H,I,h⟩
theorem aj(h1:PS X st t)(h2:J2 X vf u):J2 X (st::vf) (acA t u):=by
 intro ao s σ H D I h;refine wpAny_execs_cons (dc (h1 ao s σ H { D with nx:=u D } I h) λf s1 q=>?_)
 cases f with
 | next =>
  obtain⟨σ',H',I',q⟩:=q;exact h2 ao s1 σ' H' D I' q
 | ret v=>exact q
 | brk=>exact q
 | cont=>exact q
theorem au(h1:PS X st t):J2 X [st] t:=by
 intro ao s σ H D I h;refine wpAny_execs_cons (dc (h1 ao s σ H D I h) λf s1 q=>?_)
 cases f with
 | next=>exact wpAny_execs_nil q
 | ret v=>exact q
 | brk=>exact q
 | cont=>exact q
def YG:TS:=λD σ H=>D.ct σ H
theorem Fd:PS X (.Continue pos) YG:=λ_ _ σ H _ I h=>wpAny_Continue ⟨σ,H,I,h⟩
theorem Inv.quiet{σ:St}{H:Hp}{s:Shared}(I:Inv X ao σ H s):interactive X.env=false:=by simp[interactive,I.ok.kind]
def YH(te:TE):TS:=λD σ H=>te σ H λ_ H1=>D.nx σ H1
theorem aU(he:PE X e te)(hs:swapsWith e none pos.line X.env=pure false:=by rfl):PS X (.Expr e pos) (YH te):=by
 intro ao s σ H D I h;exact wpAny_Expr_any (dc (he ao s σ H _ I h) λv s1 ⟨x,H1,I1,r1,q1⟩=>⟨σ,H1,I1,q1⟩) I.quiet hs
def acB(te:TE):TS:=λD σ H=>te σ H D.rt
theorem aJ(he:PE X e te):PS X (.Return (some e) pos) (acB te):=by
 intro ao s σ H D I h;exact wpAny_Return_some (dc (he ao s σ H _ I h) λv s1 ⟨x,H1,I1,r1,q1⟩=>⟨x,σ,H1,I1,r1,q1⟩)
def acC(c:TT)(t u:TS):TS:=λD σ H=>c σ H λb H1=>if b=true then t D σ H1 else u D σ H1
theorem bN{c:Expr}{a b:List Stmt}{tc:TT}(hc:PT X c tc)(ha:J2 X a t)(hb:J2 X b u):PS X (.If c a b pos) (acC tc t u):=by
 intro ao s σ H D I h;refine wpAny_If (dc (hc ao s σ H _ I h) λd s1 Fb=>?_);obtain⟨H1,I1,q1⟩:=Fb
 cases d with
 | true=>exact ha ao s1 σ H1 D I1 q1
 | false=>exact hb ao s1 σ H1 D I1 q1
def Vo:TS:=λ_ _ _=>False
theorem iW:PS X st Vo:=λ_ _ _ _ _ _ h=>h.elim
end
abbrev TG:=V->St->Hp->(St->Hp->Prop)->Prop
abbrev Vp:=List V->St->Hp->(St->Hp->Prop)->Prop
def PG(X:Cx)(wH:Expr)(t:TG):Prop :=
 ∀ (ao:List (Addr × Obj)) (s:Shared) (σ:St) (H:Hp) (v:V) (u:Value) (Q:St->Hp->Prop),Inv X ao σ H s->RelV v u->t v σ H Q->
  wpAny (model X.prog X.w) X.A (assign wH X.env u) (λ_ s'=>∃ σ' H',Inv X ao σ' H' s'/\Q σ' H') X.xe s
def YI(X:Cx)(ts:List Expr)(t:Vp):Prop :=
 ∀ (ao:List (Addr × Obj)) (s:Shared) (σ:St) (H:Hp) (vs:List V) (us:List Value) (Q:St->Hp->Prop),Inv X ao σ H s->cC vs us->t vs σ H Q->
  wpAny (model X.prog X.w) X.A (assignInOrder ((assignEach ts X.env).map (·.2)) us) (λ_ s'=>∃ σ' H',Inv X ao σ' H' s'/\Q σ' H') X.xe s
abbrev Vq:=V->V->V->Hp->(Hp->Prop)->Prop
def YJ(X:Cx)(t:Vq):Prop :=
 ∀ (ao:List (Addr × Obj)) (s:Shared) (σ:St) (H:Hp) (o i v:V) (ov iv u:Value) (Q:Hp->Prop),Inv X ao σ H s->RelV o ov->RelV i iv->RelV v u->t o i v H Q->
  wpAny (model X.prog X.w) X.A (setItem ov iv u) (λ_ s'=>∃ H',Inv X ao σ H' s'/\Q H') X.xe s
abbrev TIp:=V->V->Hp->VK->Prop
def PIp(X:Cx)(op:Operator)(t:TIp):Prop :=
 ∀ (ao:List (Addr × Obj)) (s:Shared) (σ:St) (H:Hp) (x y:V) (v u:Value) (Q:VK),Inv X ao σ H s->RelV x v->RelV y u->t x y H Q->
  wpAny (model X.prog X.w) X.A (inplaceOp op v u) (EP X ao σ Q) X.xe s
section
variable {X:Cx} {pos:Pos}
def tN(i:Nat):TG:=λv σ H Q=>Q (σ.set i (some v)) H
theorem Rg{i:Nat}{x:Str}(hN:X.N.Nodup)(hi:X.N[i]?=some x)(hx:Loc X.env.scope x)(hf:X.fn x=true\/X.env.scope.names.lookup x=some .local:=by first|exact .inl rfl|exact .inr rfl|assumption):PG X (.Name x pos) (tN i):=by
 intro ao s σ H v u Q I r h;exact wpAny_assign_Name (zj I hN hi hx r (λs' I'=>⟨_,H,I',h⟩) hf)
def acE:Vp:=λvs σ H Q=>vs=[]/\Q σ H
inductive YK(t:TG)(u:Vp)(vs:List V)(σ:St)(H:Hp)(Q:St->Hp->Prop):Prop
 | mk (v:V) (r:List V) (_:vs=v::r) (_:t v σ H fun σ' H'=>u r σ' H' Q)
theorem gR:YI X [] acE:=by
 intro ao s σ H vs us Q I r h;obtain⟨e,h⟩:=h;subst e;cases r;exact assignInOrder_nil ⟨σ,H,I,h⟩
theorem cj{e:Expr}{es:List Expr}{t:TG}{u:Vp}(h1:PG X e t)(h2:YI X es u)
  (hs:(assignEach (e::es) X.env).map (·.2)=assign e X.env::(assignEach es X.env).map (·.2):=by rfl):YI X (e::es) (YK t u):=by
 intro ao s σ H vs us Q I r h;obtain⟨v,vr,e1,h⟩:=h;subst e1
 cases r with
 | cons r rr =>
  rw[hs];refine assignInOrder_cons (dc (h1 ao s σ H _ _ _ I r h) λ_ s1 Dk=>?_);obtain⟨σ1,H1,I1,q1⟩:=Dk;exact h2 ao s1 σ1 H1 _ _ Q I1 rr q1
inductive Vr(K:Frag)(n:Nat)(t:Vp)(v:V)(σ:St)(H:Hp)(Q:St->Hp->Prop):Prop
 | mk (a:Addr) (xs:List V) (_:v=.ref a) (_:cX K H a xs) (_:xs.length=n) (_:t xs σ H Q):Vr K n t v σ H Q
theorem m7{es:List Expr}{k:Nat}{t:Vp}{n:Nat}(hc:X.calm=true)(h:YI X es t)
  (hn:(assignEach es X.env).length=n:=by rfl) (Dl:(assignEach es X.env).findIdx? (·.1)=none:=by rfl):PG X (.Tuple es k pos) (Vr X.K n t):=by
 intro ao s σ H v u Q I r hw;obtain⟨a,xs,e1,hq,hl,hw⟩:=hw;subst e1;cases r;obtain⟨aM,rv,ht,hz⟩:=I.tuple hq;refine assign_Tuple_tuple (I.ok.hd hc) ht (by simp[hn,← hl,rv.length]) Dl λh' hx=>?_;have I1:Inv X ao σ H { s with heap:=h' }:=I.kept (t':=s.toks) λb o e=>hx b o (j3 (Heap.lt_size e)) e;exact h ao _ σ H xs _ Q I1 (by simpa using rv) hw
def acF(to ti:TE)(t:Vq):TG:=λv σ H Q=>to σ H λo H1=>ti σ H1 λi H2=>t o i v H2 λH3=>Q σ H3
theorem oG{i:Expr}{to ti:TE}{t:Vq}(ho:PE X o to)(hi:PE X i ti)(hs:YJ X t)
  (ha:∀ v,assign (.Subscript o i pos) X.env v=(do
   let ov ← holding [v] (eval o X.env)
   let iv ← holding [v,ov] (eval i X.env)
   standAt pos
   holding [v,ov,iv] (setItem ov iv v)
   release [v,ov,iv] []):=by intro _;rfl):PG X (.Subscript o i pos) (acF to ti t):=by
 intro ao s σ H v u Q I r h;rw[ha];refine wpAny_bind (wpAny_holding (dc (ho ao s σ H _ I h) λov s1 HE=>?_));obtain⟨x,H1,I1,r1,q1⟩:=HE;refine wpAny_bind (wpAny_holding (dc (hi ao s1 σ H1 _ I1 q1) λiv s2 HF=>?_));obtain⟨y,H2,I2,r2,q2⟩:=HF;refine wpAny_bind (wpAny_standAt (wpAny_bind (wpAny_holding (dc (hs ao s2 σ H2 x y v ov iv u _ I2 r1 r2 r q2) λ_ s3 HH=>?_))));obtain⟨H3,I3,q3⟩:=HH;exact wpAny_release ⟨σ,H3,I3,q3⟩
def NF(te:TE)(g:TG):TS:=λD σ H=>te σ H λx H1=>g x σ H1 D.nx
theorem lJ{e:Expr}{te:TE}{g:TG}(he:PE X e te)(hg:PG X tg g)(hs:swapsWithSole [tg] e pos.line X.env=pure false:=by rfl)(hw:swappedStores [tg] e X.env=pure none:=by rfl)
  (h1:(assignEach [tg] X.env).map (·.2)=[assign tg X.env]:=by rfl):PS X (.Assign [tg] e pos) (NF te g):=by
 intro ao s σ H D I h;refine wpAny_Assign_stores (dc (he ao s σ H _ I h) λv s1 ⟨x,H1,I1,r1,q1⟩=>?_) hs hw;rw[h1];exact dc (hg ao s1 σ H1 x v _ I1 r1 q1) λ_ s2 q=>q
theorem Vs{i:Nat}{x:Str}{e:Expr}{te:TE}(hN:X.N.Nodup)(hi:X.N[i]?=some x)(hx:Loc X.env.scope x)(he:PE X e te)(hs:swapsWith e (some (.Name x iV)) pos.line X.env=pure false:=by rfl)(hf:X.fn x=true\/X.env.scope.names.lookup x=some .local:=by first|exact .inl rfl|exact .inr rfl|assumption) :
  PS X (.Assign [.Name x iV] e pos) (NF te (tN i)):=by
 intro ao s σ H D I h;refine wpAny_Assign_Name (dc (he ao s σ H _ I h) λv s1 ⟨y,H1,I1,r1,q1⟩=>?_) hs;exact zj I1 hN hi hx r1 (λs2 I2=>⟨_,H1,I2,q1⟩) hf
def acG(i:Nat)(te:TE)(ti:TIp):TS:=λD σ H=>∃ x,σ[i]?=some (some x)/\te σ H λy H1=>ti x y H1 λz H2=>D.nx (σ.set i (some z)) H2
theorem qZ{i:Nat}{x:Str}{e:Expr}{te:TE}{op:Operator}{ti:TIp}{iV:Pos}(hN:X.N.Nodup)(hi:X.N[i]?=some x)(hx:Loc X.env.scope x)(he:PE X e te)(ho:PIp X op ti)(hf:X.fn x=true\/X.env.scope.names.lookup x=some .local:=by first|exact .inl rfl|exact .inr rfl|assumption) :
  PS X (.AugAssign (.Name x iV) op e pos) (acG i te ti):=by
 intro ao s σ H D I h;obtain⟨v,e1,h⟩:=h;obtain⟨m,hn,hl⟩:=I.loc;have vis:Vis X.env.scope x:=by rcases hx with k|k;exact .inl k;exact .inr (.inl k)
 obtain⟨u,r,l⟩:=hl i x v hi e1 vis;refine wpAny_AugAssign_Name ?_
 have go:wpAny (model X.prog X.w) X.A (eval e X.env) (λw s₂=>wpAny (model X.prog X.w) X.A (inplaceOp op u w) (λr s₃=>wpAny (model X.prog X.w) X.A (storeName X.env x r) (λ_=>SP X ao D .next) X.xe s₃) X.xe s₂) X.xe s:=by
  refine dc (he ao s σ H _ I h) λw s1 A9=>?_;obtain⟨y,H1,I1,r1,q1⟩:=A9;refine dc (ho ao s1 σ H1 v y u w _ I1 r r1 q1) λz s2 Fb=>?_;obtain⟨zv,H2,I2,r2,q2⟩:=Fb;exact zj I2 hN hi hx r2 (λs3 I3=>⟨_,H2,I3,q2⟩) hf
 rcases l with ⟨hk,hm⟩|⟨hk,c,hc,hcell⟩
 ·exact wpAny_loadName_local I.ok.kind hk hn hm go
 ·rcases hk with hk|hk
  ·exact wpAny_loadName_cell I.ok.kind hk hc hcell go
  ·rcases hx with k|k
   ·have:X.env.scope.names.lookup x=some .free:=hk;rw[k]at this;cases this
   ·have:X.env.scope.names.lookup x=some .free:=hk;rw[k]at this;cases this
def ipI(f:Int->Int->Int):TIp:=λx y H Q=>∃ i j,x=.int i/\y=.int j/\Q (.int (f i j)) H
theorem NG:PIp X .Add (ipI λi j=>i+j):=by
 intro ao s σ H x y v u Q I r1 r2 h;obtain⟨i,j,e1,e2,q⟩:=h;subst e1;subst e2;obtain⟨t,rfl⟩:=r1;obtain⟨t',rfl⟩:=r2;exact iadd_int ⟨.int _,H,I.tok _,⟨Y⟩,q⟩
end
section
variable {X:Cx} {pos:Pos}
def Vt(c:TT)(tb:TS):TS:=λD σ H=>∃ W:Nat->St->Hp->Prop,(∃ m,W m σ H)/\∀ m σ H,W m σ H->
 c σ H λb H1=>if b=true then ∃ N:St->Hp->Prop,(∀ σ' H',N σ' H'->∃ m',m'<m/\W m' σ' H')/\tb { D with nx:=N,ct:=N,bk:=D.nx } σ H1 else D.nx σ H1
theorem rf{c:Expr}{tc:TT}{tb:TS}(hp:PassesOwn (model X.prog X.w) X.A X.env X.xe)(hc:PT X c tc)(hb:J2 X body tb):PS X (.While c body [] pos) (Vt tc tb):=by
 intro ao s σ H D I h;obtain⟨W,⟨m0,w0⟩,pT⟩:=h;refine wpAny_While (codeAny_whileLoop (λn s'=>∃ σ' H',Inv X ao σ' H' s'/\W n σ' H') ?_ m0 ⟨σ,H,I,w0⟩);rintro n s1 ⟨σ1,H1,I1,w1⟩;refine wpAny_passesOwn hp (dc (hc ao s1 σ1 H1 _ I1 (pT n σ1 H1 w1)) λb s2 HG=>?_);obtain⟨H2,I2,q2⟩:=HG
 cases b with
 | true =>
  obtain⟨N,hN,q2⟩:=q2;rw[if_pos rfl];refine wpAny_passesOwn hp (dc (hb ao s2 σ1 H2 _ I2 q2) λf s3 q3=>?_)
  cases f with
  | next =>
   obtain⟨σ3,H3,I3,n3⟩:=q3;obtain⟨m',hm,w3⟩:=hN σ3 H3 n3;exact⟨m',hm,σ3,H3,I3,w3⟩
  | cont =>
   obtain⟨σ3,H3,I3,n3⟩:=q3;obtain⟨m',hm,w3⟩:=hN σ3 H3 n3;exact⟨m',hm,σ3,H3,I3,w3⟩
  | brk=>exact q3
  | ret v=>exact q3
 | false =>
  rw[if_neg nY];exact wpAny_execs_nil ⟨σ1,H2,I2,q2⟩
end
structure It where
 go:Nat->Hp->Prop
 QT:Nat->Hp->V->Hp->Prop
 stop:Nat->Hp->Prop
def qP(X:Cx)(ao:List (Addr × Obj))(H:Hp)(b:Addr):Prop :=
 H b=none/\b≠X.env.locals/\b∉X.fs/\(b∈X.ex\/X.s₀.heap.objs.size<=b)/\(∀ x c,X.env.cells.lookup x=some c->c≠b)/\∀ p∈X.pn++ao,p.1≠b
theorem Inv.NH{X:Cx}{σ:St}{H H':Hp}{s:Shared}{b:Addr}(I:Inv X ao σ H s)(hb:s.heap.objs.size<=b)(hn:H' b=none):qP X ao H' b:=by
 refine⟨hn,Nat.ne_of_gt (qN I.lt hb),I.acq hb,.inr (gV I.sz hb),λx c e z=>?_,λp hp z=>?_⟩
 ·obtain⟨v,q⟩:=I.cell x c e;exact absurd (qN q.lt (by rw[z];exact hb)) (Nat.lt_irrefl _)
 ·exact absurd (qN (Heap.lt_size (I.pin p hp).1) (by rw[z];exact hb)) (Nat.lt_irrefl _)
structure Lq(P:Program)(w:World)(K:Frag)(tg:Expr)(J:It)(fp:List Addr)(it:Addr)(tn:Nat->Heap->Prop):Prop where
 mem:it∈fp
 obj:∀ i h,tn i h->∀ b∈fp,∃ o,h.get? b=some o/\∀ v,o.data≠.cell v
 keep:∀ i h h',tn i h->(∀ b∈fp,∀ o,h.get? b=some o->h'.get? b=some o)->tn i h'
 item:∀ (X:Cx),X.prog=P->X.w=w->X.K=K->X.calm=true->∀ (i:Nat) (ao:List (Addr × Obj)) (s:Shared) (σ:St) (H:Hp) (E:Value->Shared->Prop),Inv X ao σ H s->(∀ b∈fp,qP X ao H b)->tn i s.heap->J.go i H->
  wpAny (model P w) X.A (pyNext (.ref it)) (λr s1=>∃ u,r=some u/\
   wpAny (model P w) X.A (letOwnedTupleGo tg (.ref it) u) (λ_ s2=>∃ x H',Inv X ao σ H' s2/\RelV x u/\J.QT i H x H'/\tn (i+1) s2.heap/\∀ b∈fp,H' b=none) E s1) E s
 done:∀ (X:Cx),X.prog=P->X.w=w->X.K=K->X.calm=true->∀ (i:Nat) (ao:List (Addr × Obj)) (s:Shared) (σ:St) (H:Hp) (E:Value->Shared->Prop),Inv X ao σ H s->(∀ b∈fp,qP X ao H b)->tn i s.heap->J.stop i H->
  wpAny (model P w) X.A (pyNext (.ref it)) (λr s1=>r=none/\Inv X ao σ H s1) E s
 self:∀ (A:Around) (i:Nat) (s:Shared) (Q:Value->Shared->Prop) (E:Value->Shared->Prop),tn i s.heap->Q (.ref it) s->wpAny (model P w) A (pyIter (.ref it)) Q E s
abbrev TI:=St->Hp->(It->Hp->Prop)->Prop
def PIE(X:Cx)(ao:List (Addr × Obj))(σ:St)(tg:Expr)(R:It->Hp->Prop)(YL:Value)(s2:Shared):Prop :=
 ∃ (it:Addr) (fp:List Addr) (tn:Nat->Heap->Prop) (J:It) (H':Hp),YL=.ref it/\Inv X ao σ H' s2/\Lq X.prog X.w X.K tg J fp it tn/\tn 0 s2.heap/\(∀ b∈fp,qP X ao H' b)/\R J H'
def PI(X:Cx)(tg iter:Expr)(wi:TI):Prop :=
 ∀ (ao:List (Addr × Obj)) (s:Shared) (σ:St) (H:Hp) (R:It->Hp->Prop),Inv X ao σ H s->wi σ H R->
  wpAny (model X.prog X.w) X.A (eval iter X.env) (λv s1=>wpAny (model X.prog X.w) X.A (pyIter v) (PIE X ao σ tg R) X.xe s1) X.xe s
theorem J4{M:Model}{A:Around}{E:Value->Shared->Prop}{s:Shared}{it:Addr}{u:Value}{o:Obj}{n:String}{vs:Array Value}{Q:Unit->Shared->Prop}(ho:s.heap.get? it=some o)(hc:o.cls=.type n)(hd:o.data=.fields vs)
  (hn:["enumerate","zip","dict_itemiterator","dict_reverseitemiterator","odict_iterator","itertools.zip_longest","itertools.pairwise"].contains n=false) (hQ:Q () s):wpAny M A (letOwnedTupleGo tg (.ref it) u) Q E s:=by
 unfold letOwnedTupleGo
 cases tg <;> first
  | exact wpAny_pure hQ
  | (cases u <;> first
    | exact wpAny_pure hQ
    | (refine wpAny_bind (wpAny_load ho ?_);rw[hc,hd];show wpAny M A (if (["enumerate","zip","dict_itemiterator","dict_reverseitemiterator","odict_iterator","itertools.zip_longest","itertools.pairwise"].contains n&&vs[0]? == some (rawInt _))=true then _ else _) Q E s;rw[if_neg (by intro h;rw[hn,Bool.false_and]at h;cases h)];exact wpAny_pure hQ))
def QU(K:Frag)(a:Addr):It :=
 ⟨λi H=>∃ xs x,bI K H a xs/\xs[i]?=some x,λi H x H'=>H'=H/\∀ xs,bI K H a xs->xs[i]?=some x,λi H=>∃ xs,bI K H a xs/\xs.length<=i⟩
def YM(K:Frag)(a:Addr):It :=
 ⟨λi H=>∃ xs x,cX K H a xs/\xs[i]?=some x,λi H x H'=>H'=H/\∀ xs,cX K H a xs->xs[i]?=some x,λi H=>∃ xs,cX K H a xs/\xs.length<=i⟩
def Vu(lo:Int)(n:Nat):It:=⟨λi _=>i<n,λi H x H'=>H'=H/\x=.int (lo+i),λi _=>n<=i⟩
theorem Lr{P:Program}{w:World}{K:Frag}(a it:Addr):Lq P w K tg (QU K a) [it] it (λi h=>h.IsListIter it a i) where
 mem:=by simp
 obj:=λi h st b hb=>by
  have e:b=it:=by simpa using hb
  subst e;obtain⟨o,e,c,d⟩:=st;exact⟨o,e,λv z=>by rw[d]at z;cases z⟩
 keep:=λi h h' st k=>st.at λo e=>k it (by simp) o e
 item:=by
  intro X hP hw hK hc i ao s σ H E I hf st hg;subst hP hw hK;obtain⟨xs,x,hq,hx⟩:=hg;obtain⟨aM,rv,p,hz⟩:=I.list hq;obtain⟨u,hu,ru⟩:=rv.get hx;obtain⟨f0,f1,f2,f3,f4,f5⟩:=hf it (by simp);refine wpAny_pyNext_list_item st p.isList (x:=u) (by simpa using hu) λh' Hs sb=>?_;have I1:Inv X ao σ H { s with heap:=h' }:=I.turned (t':=s.toks) (λb o hb e=>(sb.2 b hb).trans e) f0 f1 f3 f4 f5;obtain⟨o,e,c,d⟩:=id Hs;exact⟨u,rfl,J4 (s:={ s with heap:=h' }) e c d (by decide) ⟨x,H,I1,ru,⟨rfl,λys hy=>by rw[I.Fc hy hq];exact hx⟩,Hs,λb hb=>(hf b hb).1⟩⟩
 done:=by
  intro X hP hw hK hc i ao s σ H E I hf st hg;subst hP hw hK;obtain⟨xs,hq,hx⟩:=hg;obtain⟨aM,rv,p,hz⟩:=I.list hq;obtain⟨f0,f1,f2,f3,f4,f5⟩:=hf it (by simp);have hl:=rv.length;exact wpAny_pyNext_list_end (I.ok.hd hc) st p.isList (by simp;lia) λh' eb=>⟨rfl,I.turned (t':=s.toks) (λb o hb e=>eb b o hb e) f0 f1 f3 f4 f5⟩
 self:=λ_ _ _ _ _ st h=>wpAny_pyIter_listiter st h
theorem HJ{P:Program}{w:World}{K:Frag}(a it:Addr):Lq P w K tg (YM K a) [it] it (λi h=>h.IsTupleIter it a i) where
 mem:=by simp
 obj:=λi h st b hb=>by
  have e:b=it:=by simpa using hb
  subst e;obtain⟨o,e,c,d⟩:=st;exact⟨o,e,λv z=>by rw[d]at z;cases z⟩
 keep:=λi h h' st k=>st.at λo e=>k it (by simp) o e
 item:=by
  intro X hP hw hK hc i ao s σ H E I hf st hg;subst hP hw hK;obtain⟨xs,x,hq,hx⟩:=hg;obtain⟨aM,rv,p,hz⟩:=I.tuple hq;obtain⟨u,hu,ru⟩:=rv.get hx;obtain⟨f0,f1,f2,f3,f4,f5⟩:=hf it (by simp);refine wpAny_pyNext_tuple_item st (show s.heap.IsTuple a aM.toArray from p) (x:=u) (by simpa using hu) λh' Hs sb=>?_;have I1:Inv X ao σ H { s with heap:=h' }:=I.turned (t':=s.toks) (λb o hb e=>(sb.2 b hb).trans e) f0 f1 f3 f4 f5;obtain⟨o,e,c,d⟩:=id Hs;exact⟨u,rfl,J4 (s:={ s with heap:=h' }) e c d (by decide) ⟨x,H,I1,ru,⟨rfl,λys hy=>by rw[I.BW hy hq];exact hx⟩,Hs,λb hb=>(hf b hb).1⟩⟩
 done:=by
  intro X hP hw hK hc i ao s σ H E I hf st hg;subst hP hw hK;obtain⟨xs,hq,hx⟩:=hg;obtain⟨aM,rv,p,hz⟩:=I.tuple hq;obtain⟨f0,f1,f2,f3,f4,f5⟩:=hf it (by simp);have hl:=rv.length;exact wpAny_pyNext_tuple_end (I.ok.hd hc) st (show s.heap.IsTuple a aM.toArray from p) (by simp;lia) λh' eb=>⟨rfl,I.turned (t':=s.toks) (λb o hb e=>eb b o hb e) f0 f1 f3 f4 f5⟩
 self:=λ_ _ _ _ _ st h=>wpAny_pyIter_tupleiter st h
theorem HK{P:Program}{w:World}{K:Frag}(it:Addr)(lo:Int)(n:Nat):Lq P w K tg (Vu lo n) [it] it (λi h=>IsRangeIter h it (lo+(i:Nat)*1) ((n:Int)-(i:Nat)) 1) where
 mem:=by simp
 obj:=λi h st b hb=>by
  have e:b=it:=by simpa using hb
  subst e
  exact⟨_,st,λv z=>by
   have z':Data.fields _=Data.cell v:=z
   cases z'⟩
 keep:=λi h h' st k=>k it (by simp) _ st
 item:=by
  intro X hP hw hK hc i ao s σ H E I hf st hg;subst hP hw hK;obtain⟨f0,f1,f2,f3,f4,f5⟩:=hf it (by simp);have W:=Walks.range (prog:=X.prog) (w:=X.w) (I.ok.hd hc) it lo 1 n;refine W.item i s _ _ hg st λv h' tk hv Hs kk=>?_;obtain⟨t,rfl⟩:=hv;have I1:Inv X ao σ H { s with heap:=h',toks:=tk }:=I.turned (λb o hb e=>kk b o (by simpa using hb) e) f0 f1 f3 f4 f5;refine⟨Y,J4 (s:={ s with heap:=h',toks:=tk }) (n:="range_iterator") Hs rfl rfl (by decide) ⟨.int (lo+i),H,I1,⟨t,?_⟩,⟨V⟩,Hs,λb hb=>(hf b hb).1⟩⟩;rw[Int.mul_one]
 done:=by
  intro X hP hw hK hc i ao s σ H E I hf st hg;subst hP hw hK;obtain⟨f0,f1,f2,f3,f4,f5⟩:=hf it (by simp);exact wpAny_pyNext_range_end (I.ok.hd hc) st (by have:n<=i:=hg;lia) λh' eb=>⟨rfl,I.turned (t':=s.toks) (λb o hb e=>eb b o hb e) f0 f1 f3 f4 f5⟩
 self:=λ_ _ _ _ _ st h=>wpAny_pyIter_rangeiter st h
end L2
namespace L2
open Spec Rows
section
variable {X:Cx} {tg:Expr}
inductive isL(K:Frag)(x:V)(H:Hp)(R:It->Hp->Prop):Prop
 | mk (a:Addr) (_:x=.ref a) (_:∃ xs,bI K H a xs) (_:R (QU K a) H)
def Ui(K:Frag)(tl:TE):TI:=fun σ H R=>tl σ H λx H1=>isL K x H1 R
def acH(K:Frag)(tl:TE):TI:=fun σ H R=>tl σ H λx H1=>∃ a,x=.ref a/\(∃ xs,cX K H1 a xs)/\R (YM K a) H1
theorem cF{l:Expr}{tl:TE}(hl:PE X l tl):PI X tg l (Ui X.K tl):=by
 intro ao s σ H R I h;refine dc (hl ao s σ H _ I h) λv s1 A9=>?_;obtain⟨x,H1,I1,r1,q1⟩:=A9;obtain⟨a,e,⟨xs,hq⟩,q⟩:=q1;subst e;cases r1;obtain⟨aM,rv,p,hz⟩:=I1.list hq;refine wpAny_pyIter_list p.isList ?_;refine⟨s1.heap.objs.size,[s1.heap.objs.size],P,H1,rfl,I1.kept (t':=s1.toks) λb o e=>Heap.get?_push_of_some _ e,Lr a _,⟨_,Heap.get?_push_size _ rfl,V⟩,λb hb=>?_,q⟩;have e:b=s1.heap.objs.size:=by simpa using hb
 subst e;exact I1.NH (fF _) (I1.hok.fresh (fF _))
theorem Vv{l:Expr}{tl:TE}(hl:PE X l tl):PI X tg l (acH X.K tl):=by
 intro ao s σ H R I h;refine dc (hl ao s σ H _ I h) λv s1 Fb=>?_;obtain⟨x,H1,I1,r1,q1⟩:=Fb;obtain⟨a,e,⟨xs,hq⟩,q⟩:=q1;subst e;cases r1;obtain⟨aM,rv,p,hz⟩:=I1.tuple hq;refine wpAny_pyIter_tuple (show s1.heap.IsTuple a aM.toArray from p) ?_;refine⟨s1.heap.objs.size,[s1.heap.objs.size],P,H1,rfl,I1.kept (t':=s1.toks) λb o e=>Heap.get?_push_of_some _ e,HJ a _,⟨_,Heap.get?_push_size _ rfl,V⟩,λb hb=>?_,q⟩;have e:b=s1.heap.objs.size:=by simpa using hb
 subst e;exact I1.NH (fF _) (I1.hok.fresh (fF _))
theorem NI{σ:St}{H:Hp}{s:Shared}{R:It->Hp->Prop}{E:Value->Shared->Prop}{lo hi:Int}{t u v:Tok}{tk:Nat}(I:Inv X ao σ H s)(h1:-(2^62)<=lo)(h2:lo<2^62)(h3:-(2^62)<=hi)(h4:hi<2^62)
  (q:R (Vu lo (hi-lo).toNat) H):wpAny (model X.prog X.w) X.A (pyIter (.ref s.heap.objs.size)) (PIE X ao σ tg R) E { s with heap:=s.heap.push { cls:=.type "range",data:=.fields #[.int lo t,.int hi u,.int 1 v] },toks:=tk }:=by
 refine wpAny_pyIter_range (IsRange.new ..) (small_one h1 h2 h3 h4) ?_;have I1:Inv X ao σ H { s with heap:=s.heap.push { cls:=.type "range",data:=.fields #[.int lo t,.int hi u,.int 1 v] },toks:=tk }:=I.kept λb o e=>Heap.get?_push_of_some _ e;refine⟨(s.heap.push { cls:=.type "range",data:=.fields #[.int lo t,.int hi u,.int 1 v] }).objs.size,[(s.heap.push { cls:=.type "range",data:=.fields #[.int lo t,.int hi u,.int 1 v] }).objs.size],P,H,rfl, I1.kept (t':=tk) λb o e=>Heap.get?_push_of_some _ e,HK _ lo (hi-lo).toNat,?_,λb hb=>?_,q⟩
 ·have e1:lo+((0:Nat):Int)*1=lo:=by simp
  have e2:(((hi-lo).toNat:Nat):Int)-((0:Nat):Int)=Builtin.Range.rangeSize lo hi 1:=by rw[rangeSize_one];split <;> lia
  show IsRangeIter _ _ (lo+((0:Nat):Int)*1) ((((hi-lo).toNat:Nat):Int)-((0:Nat):Int)) 1;rw[e1,e2];exact Heap.get?_push_size _ rfl
 ·have e:b=(s.heap.push { cls:=.type "range",data:=.fields #[.int lo t,.int hi u,.int 1 v] }).objs.size:=by simpa using hb
  subst e;exact I1.NH (fF _) (I1.hok.fresh (fF _))
inductive isR(vs:List V)(H:Hp)(R:It->Hp->Prop):Prop
 | mk (j:Int) (_:vs=[.int j]) (_:-(2^62)<=j) (_:j<2^62) (_:R (Vu 0 j.toNat) H)
def YN(ta:TA):TI:=fun σ H R=>ta σ H λvs H1=>isR vs H1 R
theorem gK{a:Expr}{ta:TA}{p:Pos}(hg:Gl X "range")(hm:X.mg "range"=none)(ha:PA X [a] ta)(hs:starEach [a] X.env=[(false,eval a X.env)]:=by rfl):PI X tg (.Call (.Name "range" p) [a] [] pos) (YN ta):=by
 intro ao s σ H R I h;refine Call_ (zl I hg hm boot_range (PyProof.Rows.callWith_type1 (dc (ha pos ao s σ H _ I h) λus s1 ⟨vs,H1,I1,r1,q1⟩=>?_) hs rfl));obtain⟨j,e,q1,q2,q⟩:=q1;subst e
 cases r1 with
 | cons r rr =>
  cases rr;obtain⟨t,rfl⟩:=r;exact call_range_1 (NI I1 ∅ ∅ q1 q2 (by simpa using q))
def acI(wi:TI)(g:TG)(tb:TS):TS:=λD σ H=>wi σ H λJ H1=>∃ W:Nat->Nat->St->Hp->Prop,(∃ m,W 0 m σ H1)/\∀ i m σ H,W i m σ H->
 (J.stop i H/\D.nx σ H)\/(J.go i H/\∃ N:St->Hp->Prop,(∀ σ' H',N σ' H'->∃ m',m'<m/\W (i+1) m' σ' H')/\∀ x H',J.QT i H x H'->g x σ H' fun σ2 H2=>tb { D with nx:=N,ct:=N,bk:=D.nx } σ2 H2)
def ue(fp:List Addr)(h:Heap):List (Addr × Obj):=fp.filterMap λb=>(h.get? b).map λo=>(b,o)
theorem gX{fp:List Addr}{h:Heap}{b:Addr}{o:Obj}(hb:b∈fp)(e:h.get? b=some o):(b,o)∈ue fp h:=List.mem_filterMap.mpr ⟨b,hb,by rw[e];rfl⟩
theorem Ls{fp:List Addr}{h:Heap}{p:Addr × Obj}(hp:p∈ue fp h):p.1∈fp/\h.get? p.1=some p.2:=by
 obtain⟨b,hb,e⟩:=List.mem_filterMap.mp hp
 cases q:h.get? b with
 | none=>rw[q]at e;cases e
 | some o =>
  rw[q]at e;have e':(b,o)=p:=qW e;subst e';exact⟨hb,q⟩
theorem Inv.pinned{σ:St}{H:Hp}{s:Shared}{fp:List Addr}(I:Inv X ao σ H s)(hf:∀ b∈fp,qP X ao H b)(ho:∀ b∈fp,∃ o,s.heap.get? b=some o/\∀ v,o.data≠.cell v):Inv X (ao++ue fp s.heap) σ H s :=
 I.JZ λp hp=>(List.mem_append.mp hp).elim (λz=>I.pin p (pA _ z)) λz=>by
  obtain⟨hb,e⟩:=Ls z;obtain⟨f0,f1,f2,_⟩:=hf p.1 hb;obtain⟨o,e',d⟩:=ho p.1 hb;rw[e]at e';cases e';exact⟨e,f0,f1,f2,d⟩
theorem Inv.pB{pl:List (Addr × Obj)}{σ:St}{H:Hp}{s:Shared}(I:Inv X (ao++pl) σ H s):Inv X ao σ H s:=I.JZ λp hp=>I.pin p (pA _ (qM _ hp))
theorem dQ{iter:Expr}{wi:TI}{g:TG}{tb:TS}(hp:PassesOwn (model X.prog X.w) X.A X.env X.xe)(hc:X.calm=true)(hi:PI X tg iter wi)(hg:PG X tg g)(hb:J2 X body tb)
  (hs:∀ x,foldedSetIterable iter X.env x=pure x:=by intro _;rfl):PS X (.For tg iter body [] pos) (acI wi g tb):=by
 intro ao s σ H D I h;refine wpAny_For (dc (hi ao s σ H _ I h) λv s1 h1=>dc h1 λYL s2 h2=>?_) hs;obtain⟨it,fp,tn,J,H2,e,I2,T,st2,f2,W,⟨m0,w0⟩,pT⟩:=h2;subst e;have uf:∀ {H':Hp},(∀ b∈fp,H' b=none)->∀ b∈fp,qP X ao H' b:=λhn b hb=>⟨hn b hb,(f2 b hb).2⟩;refine codeAny_forLoop_any (λn s'=>∃ i σ' H',Inv X ao σ' H' s'/\tn i s'.heap/\(∀ b∈fp,H' b=none)/\W i n σ' H') ?_ m0 ⟨0,σ,H2,I2,st2,λb hb=>(f2 b hb).1,w0⟩;rintro n s3 ⟨i,σ3,H3,I3,st3,fr3,w3⟩;rcases pT i n σ3 H3 w3 with ⟨stop,qn⟩|⟨go,N,hN,step⟩
 ·refine wpAny_passesOwn hp (dc (T.done X rfl rfl rfl hc i ao s3 σ3 H3 X.xe I3 (uf fr3) st3 stop) λr s4 Dk=>?_);obtain⟨hr,I4⟩:=Dk;subst hr;exact wpAny_execs_nil ⟨σ3,H3,I4,qn⟩
 ·refine wpAny_passesOwn hp (dc (T.item X rfl rfl rfl hc i ao s3 σ3 H3 X.xe I3 (uf fr3) st3 go) λr s4 HE=>?_);obtain⟨u,hr,h4⟩:=HE;subst hr;refine wpAny_passesOwn hp (dc h4 λ_ s5 HF=>?_);obtain⟨x,H5,I5,r5,y5,XW,QV⟩:=HF;have I5':=I5.pinned (uf QV) (T.obj _ _ XW);refine wpAny_passesOwn hp (dc (hg _ s5 σ3 H5 x u _ I5' r5 (step x H5 y5)) λ_ s6 HH=>?_);obtain⟨σ6,H6,I6,q6⟩:=HH;refine wpAny_passesOwn hp (dc (hb _ s6 σ6 H6 _ I6 q6) λf s7 q7=>?_)
  have again:∀ {σ7:St} {H7:Hp},Inv X (ao++ue fp s5.heap) σ7 H7 s7->N σ7 H7->∃ m,m<n/\∃ i σ' H',Inv X ao σ' H' s7/\tn i s7.heap/\(∀ b∈fp,H' b=none)/\W i m σ' H':=λ{σ7 H7} I7 n7=>by
   obtain⟨m',hm,w7⟩:=hN σ7 H7 n7;refine⟨m',hm,i+1,σ7,H7,I7.pB,T.keep _ _ _ XW λb hb o e=>(I7.pin (b,o) (pA _ (pA _ (gX hb e)))).1,λb hb=>?_,w7⟩;obtain⟨o,e,d⟩:=T.obj _ _ XW b hb;exact (I7.pin (b,o) (pA _ (pA _ (gX hb e)))).2.1
  cases f with
  | next=>obtain⟨σ7,H7,I7,n7⟩:=q7;exact again I7 n7
  | cont=>obtain⟨σ7,H7,I7,n7⟩:=q7;exact again I7 n7
  | brk=>obtain⟨σ7,H7,I7,q7⟩:=q7;exact⟨σ7,H7,I7.pB,q7⟩
  | ret v=>obtain⟨x7,σ7,H7,I7,r7,q7⟩:=q7;exact⟨x7,σ7,H7,I7.pB,r7,q7⟩
end
theorem dm{K:Frag}{a:Addr}{xs:List V}{g:TG}{tb:TS}{D:Ends}{σ:St}{H:Hp}(Pv:Nat->St->Hp->Prop)(h0:Pv 0 σ H)(hl:∀ i σ H,i<=xs.length->Pv i σ H->bI K H a xs)
  (hs:∀ i x σ H,xs[i]?=some x->Pv i σ H->g x σ H fun σ2 H2=>tb { D with nx:=Pv (i+1),ct:=Pv (i+1),bk:=D.nx } σ2 H2) (hd:∀ σ H,Pv xs.length σ H->D.nx σ H) :
  ∃ W:Nat->Nat->St->Hp->Prop,(∃ m,W 0 m σ H)/\∀ i m σ H,W i m σ H->
   ((QU K a).stop i H/\D.nx σ H)\/((QU K a).go i H/\∃ N:St->Hp->Prop,(∀ σ' H',N σ' H'->∃ m',m'<m/\W (i+1) m' σ' H')/\∀ x H',(QU K a).QT i H x H'->g x σ H' fun σ2 H2=>tb { D with nx:=N,ct:=N,bk:=D.nx } σ2 H2):=by
 refine⟨λi m σ H=>m=xs.length-i/\i<=xs.length/\Pv i σ H,⟨xs.length,by simp,Nat.zero_le _,h0⟩,?_⟩;rintro i m σ H ⟨rfl,hi,p⟩;have q:=hl i σ H hi p;by_cases tO:i<xs.length
 ·refine .inr ⟨⟨xs,xs[i],q,by simp[tO]⟩,Pv (i+1),fun σ' H' p'=>⟨xs.length-(i+1),Q,rfl,tO,p'⟩,λx H' y=>?_⟩;obtain⟨e,y⟩:=y;subst e;exact hs i x σ _ (y xs q) p
 ·have e:i=xs.length:=by lia
  subst e;exact .inl ⟨⟨xs,q,fF _⟩,hd σ H p⟩
theorem Rh{K:Frag}{a:Addr}{xs:List V}{g:TG}{tb:TS}{D:Ends}{σ:St}{H:Hp}(Pv:Nat->St->Hp->Prop)(h0:Pv 0 σ H)(hl:∀ i σ H,i<=xs.length->Pv i σ H->cX K H a xs)
  (hs:∀ i x σ H,xs[i]?=some x->Pv i σ H->g x σ H fun σ2 H2=>tb { D with nx:=Pv (i+1),ct:=Pv (i+1),bk:=D.nx } σ2 H2) (hd:∀ σ H,Pv xs.length σ H->D.nx σ H) :
  ∃ W:Nat->Nat->St->Hp->Prop,(∃ m,W 0 m σ H)/\∀ i m σ H,W i m σ H->
   ((YM K a).stop i H/\D.nx σ H)\/((YM K a).go i H/\∃ N:St->Hp->Prop,(∀ σ' H',N σ' H'->∃ m',m'<m/\W (i+1) m' σ' H')/\∀ x H',(YM K a).QT i H x H'->g x σ H' fun σ2 H2=>tb { D with nx:=N,ct:=N,bk:=D.nx } σ2 H2):=by
 refine⟨λi m σ H=>m=xs.length-i/\i<=xs.length/\Pv i σ H,⟨xs.length,by simp,Nat.zero_le _,h0⟩,?_⟩;rintro i m σ H ⟨rfl,hi,p⟩;have q:=hl i σ H hi p;by_cases tO:i<xs.length
 ·refine .inr ⟨⟨xs,xs[i],q,by simp[tO]⟩,Pv (i+1),fun σ' H' p'=>⟨xs.length-(i+1),Q,rfl,tO,p'⟩,λx H' y=>?_⟩;obtain⟨e,y⟩:=y;subst e;exact hs i x σ _ (y xs q) p
 ·have e:i=xs.length:=by lia
  subst e;exact .inl ⟨⟨xs,q,fF _⟩,hd σ H p⟩
theorem ki{lo:Int}{n:Nat}{g:TG}{tb:TS}{D:Ends}{σ:St}{H:Hp}(Pv:Nat->St->Hp->Prop)(h0:Pv 0 σ H)
  (hs:∀ i σ H,i<n->Pv i σ H->g (.int (lo+i)) σ H fun σ2 H2=>tb { D with nx:=Pv (i+1),ct:=Pv (i+1),bk:=D.nx } σ2 H2) (hd:∀ σ H,Pv n σ H->D.nx σ H) :
  ∃ W:Nat->Nat->St->Hp->Prop,(∃ m,W 0 m σ H)/\∀ i m σ H,W i m σ H->
   ((Vu lo n).stop i H/\D.nx σ H)\/((Vu lo n).go i H/\∃ N:St->Hp->Prop,(∀ σ' H',N σ' H'->∃ m',m'<m/\W (i+1) m' σ' H')/\∀ x H',(Vu lo n).QT i H x H'->g x σ H' fun σ2 H2=>tb { D with nx:=N,ct:=N,bk:=D.nx } σ2 H2):=by
 refine⟨λi m σ H=>m=n-i/\i<=n/\Pv i σ H,⟨n,by simp,Nat.zero_le _,h0⟩,?_⟩;rintro i m σ H ⟨rfl,hi,p⟩;by_cases tO:i<n
 ·refine .inr ⟨tO,Pv (i+1),fun σ' H' p'=>⟨n-(i+1),Q,rfl,tO,p'⟩,λx H' y=>?_⟩;obtain⟨e,y⟩:=y;subst e y;exact hs i σ _ tO p
 ·have e:i=n:=by lia
  subst e;exact .inl ⟨Nat.le_refl _,hd σ H p⟩
end L2
namespace L2
open Spec Rows
abbrev R2:=V->V->Hp->VK->Prop
def ug(X:Cx)(f:Value->Value->Sem Value)(r:R2):Prop :=
 ∀ (ao:List (Addr × Obj)) (s:Shared) (σ:St) (H:Hp) (x y:V) (v u:Value) (Q:VK),Inv X ao σ H s->RelV x v->RelV y u->r x y H Q->
  wpAny (model X.prog X.w) X.A (f v u) (EP X ao σ Q) X.xe s
def UnR(X:Cx)(f:Value->Sem Value)(r:V->Hp->VK->Prop):Prop :=
 ∀ (ao:List (Addr × Obj)) (s:Shared) (σ:St) (H:Hp) (x:V) (v:Value) (Q:VK),Inv X ao σ H s->RelV x v->r x H Q->
  wpAny (model X.prog X.w) X.A (f v) (EP X ao σ Q) X.xe s
def j7(X:Cx)(f:Value)(r:List V->Hp->VK->Prop):Prop :=
 ∀ (ao:List (Addr × Obj)) (s:Shared) (σ:St) (H:Hp) (xs:List V) (us:List Value) (Q:VK),Inv X ao σ H s->cC xs us->r xs H Q->
  wpAny (model X.prog X.w) X.A (call f us) (EP X ao σ Q) X.xe s
def acK(X:Cx)(r:V->Hp->(Bool->Hp->Prop)->Prop):Prop :=
 ∀ (ao:List (Addr × Obj)) (s:Shared) (σ:St) (H:Hp) (x:V) (v:Value) (Q:Bool->Hp->Prop),Inv X ao σ H s->RelV x v->r x H Q->
  wpAny (model X.prog X.w) X.A (truthy v) (TP X ao σ Q) X.xe s
def YO(r:R2)(ta tb:TE):TE:=fun σ H Q=>ta σ H λx H1=>tb σ H1 λy H2=>r x y H2 Q
def tUn(r:V->Hp->VK->Prop)(ta:TE):TE:=fun σ H Q=>ta σ H λx H1=>r x H1 Q
inductive rI(C:Int->Int->Prop)(g:Int->Int->V)(x y:V)(H:Hp)(Q:VK):Prop
 | mk (i j:Int) (_:x=.int i) (_:y=.int j) (_:C i j) (_:Q (g i j) H):rI C g x y H Q
inductive Uj(g:Int->Int->V)(x y:V)(H:Hp)(Q:VK):Prop
 | mk (i j:Int) (_:x=.int i) (_:y=.int j) (_:Q (g i j) H)
def rU(g:Int->V):V->Hp->VK->Prop:=λx H Q=>∃ i,x=.int i/\Q (g i) H
section
variable {X:Cx} {a b c:Expr} {ta tb tc:TE} {pos:Pos}
theorem Vw(ha:PE X a ta)(hb:PE X b tb){ao:List (Addr × Obj)}{s:Shared}{σ:St}{H:Hp}{R:V->V->Hp->Prop}(I:Inv X ao σ H s)
  (h:ta σ H λx H1=>tb σ H1 λy H2=>R x y H2) {Q:Value->Shared->Prop} {f:Value->Value->Sem Value}
  (hf:∀ v u s2 x y H2,Inv X ao σ H2 s2->RelV x v->RelV y u->R x y H2->wpAny (model X.prog X.w) X.A (f v u) Q X.xe s2) :
  wpAny (model X.prog X.w) X.A (eval a X.env) (λv s₁=>wpAny (model X.prog X.w) X.A (eval b X.env) (λu s₂=>wpAny (model X.prog X.w) X.A (f v u) Q X.xe s₂) X.xe s₁) X.xe s:=by
 refine dc (ha ao s σ H _ I h) λv s1 HG=>?_;obtain⟨x,H1,I1,r1,q1⟩:=HG;refine dc (hb ao s1 σ H1 _ I1 q1) λu s2 A9=>?_;obtain⟨y,H2,I2,r2,q2⟩:=A9;exact hf v u s2 x y H2 I2 r1 r2 q2
theorem bz{op:Operator}{r:R2}(ho:ug X (binaryOp op) r)(ha:PE X a ta)(hb:PE X b tb):PE X (.BinOp a op b pos) (YO r ta tb):=by
 intro ao s σ H Q I h;exact wpAny_BinOp (Vw ha hb I h λv u s2 x y H2 I2 rx ry q=>ho ao s2 σ H2 x y v u Q I2 rx ry q)
theorem fQ{op:UnaryOp}{r:V->Hp->VK->Prop}(ho:UnR X (unaryOp op) r)(ha:PE X a ta):PE X (.UnaryOp op a pos) (tUn r ta):=by
 intro ao s σ H Q I h;exact UnaryOp_ (dc (ha ao s σ H _ I h) λv s1 ⟨x,H1,I1,r1,q1⟩=>ho ao s1 σ H1 x v Q I1 r1 q1)
theorem opI{f:Value->Value->Sem Value}{C:Int->Int->Prop}{g:Int->Int->Int}
  (rule:∀ (i j:Int) (t u:Tok) (s:Shared) (Q:Value->Shared->Prop) (E:Value->Shared->Prop),C i j->Q (.int (g i j) s.toks) { s with toks:=s.toks+1 }->wpAny (model X.prog X.w) X.A (f (.int i t) (.int j u)) Q E s) :
  ug X f (rI C λi j=>.int (g i j)):=by
 intro ao s σ H x y v u Q I rx ry h;obtain⟨i,j,rfl,rfl,hc,q⟩:=h;obtain⟨t,rfl⟩:=rx;obtain⟨t',rfl⟩:=ry;exact rule i j t t' s _ _ hc ⟨.int (g i j),H,I.tok _,⟨Y⟩,q⟩
theorem YQ{f:Value->Value->Sem Value}{g:Int->Int->Int}
  (rule:∀ (i j:Int) (t u:Tok) (s:Shared) (Q:Value->Shared->Prop) (E:Value->Shared->Prop),Q (.int (g i j) s.toks) { s with toks:=s.toks+1 }->wpAny (model X.prog X.w) X.A (f (.int i t) (.int j u)) Q E s) :
  ug X f (Uj λi j=>.int (g i j)):=by
 intro ao s σ H x y v u Q I rx ry h;obtain⟨i,j,rfl,rfl,q⟩:=h;obtain⟨t,rfl⟩:=rx;obtain⟨t',rfl⟩:=ry;exact rule i j t t' s _ _ ⟨.int (g i j),H,I.tok _,⟨Y⟩,q⟩
theorem Ri{f:Value->Value->Sem Value}{g:Int->Int->Bool}
  (rule:∀ (i j:Int) (t u:Tok) (s:Shared) (Q:Value->Shared->Prop) (E:Value->Shared->Prop),Q (.bool (g i j)) s->wpAny (model X.prog X.w) X.A (f (.int i t) (.int j u)) Q E s) :
  ug X f (Uj λi j=>.bl (g i j)):=by
 intro ao s σ H x y v u Q I rx ry h;obtain⟨i,j,rfl,rfl,q⟩:=h;obtain⟨t,rfl⟩:=rx;obtain⟨t',rfl⟩:=ry;exact rule i j t t' s _ _ ⟨.bl (g i j),H,I,rfl,q⟩
def acL(i j:Int):Prop:=0<=j/\j<=1000000/\i.natAbs<2^64
def Vx(i j:Int):Prop:=(-(2^64)<i/\i<2^64)\/(-(2^64)<j/\j<2^64)
theorem Vx.ok{i j:Int}(h:Vx i j):IntMulOk i j:=by
 rcases h with ⟨h1,h2⟩|⟨h1,h2⟩
 ·exact .of_left (intBits_le_64 h1 h2)
 ·exact .of_right (intBits_le_64 h1 h2)
theorem dz:ug X (binaryOp .Add) (Uj λi j=>.int (i+j)):=YQ λ_ _ _ _ _ _ _ q=>add_int q
theorem cK:ug X (binaryOp .Sub) (Uj λi j=>.int (i-j)):=YQ λ_ _ _ _ _ _ _ q=>sub_int q
theorem HL:ug X (binaryOp .Mult) (rI Vx λi j=>.int (i*j)):=opI λ_ _ _ _ _ _ _ hc q=>mul_int q hc.ok
theorem zo:ug X (binaryOp .Mod) (rI (λ_ j=>0<j) λi j=>.int (i % j)):=opI λi j _ _ _ _ _ hc q=>by
 have h1:(0:Int)<j:=hc;exact mod_int' ∅ (by rw[Int.fmod_eq_emod_of_nonneg i ∅];exact q)
theorem NJ:ug X (binaryOp .Pow) (rI acL λi j=>.int (i^j.toNat)):=opI λ_ _ _ _ _ _ _ hc q=>pow_int_small hc.1 hc.2.1 hc.2.2 q
theorem unI{f:Value->Sem Value}{g:Int->Int}
  (rule:∀ (i:Int) (t:Tok) (s:Shared) (Q:Value->Shared->Prop) (E:Value->Shared->Prop),Q (.int (g i) s.toks) { s with toks:=s.toks+1 }->wpAny (model X.prog X.w) X.A (f (.int i t)) Q E s) :
  UnR X f (rU λi=>.int (g i)):=by
 intro ao s σ H x v Q I rx h;obtain⟨i,rfl,q⟩:=h;obtain⟨t,rfl⟩:=rx;exact rule i t s _ _ ⟨.int (g i),H,I.tok _,⟨Y⟩,q⟩
theorem dR:UnR X (unaryOp .USub) (rU λi=>.int (-i)):=unI λ_ _ _ _ _ q=>neg_int q
end
def YR:V->V->Bool
 | .gj,.gj=>true | .gj,.int _=>true | .int _,.gj=>true | .gj,.bl _=>true | .bl _,.gj=>true | .gj,.str _=>true | .str _,.gj=>true
 | .int _,.int _=>true | .bl _,.bl _=>true | .str _,.str _=>true | .HA _,.HA _=>true
 | .int _,.str _=>true | .str _,.int _=>true | .bl _,.str _=>true | .str _,.bl _=>true
 | _,_=>false
def rEq:R2:=λx y H Q=>YR x y=true/\Q (.bl (decide (x=y))) H
def rNe:R2:=λx y H Q=>YR x y=true/\Q (.bl (!decide (x=y))) H
theorem J5{i j:Int}:decide (V.int i=V.int j)=(i == j):=by
 rw[Bool.eq_iff_iff];simp
theorem NK{i j:Bool}:decide (V.bl i=V.bl j)=(i == j):=by
 rw[Bool.eq_iff_iff];simp
theorem J6{i j:Str}:decide (V.str i=V.str j)=(i == j):=by
 rw[Bool.eq_iff_iff];simp
theorem J7{i j:Array UInt8}:decide (V.HA i=V.HA j)=(i.toList == j.toList):=by
 rw[Bool.eq_iff_iff];cases i;cases j;simp
section
variable {X:Cx} {a b c:Expr} {ta tb tc:TE} {pos:Pos}
theorem dX{σ:St}{H:Hp}{s:Shared}{Q:VK}{k k':Bool}(I:Inv X ao σ H s)(q:Q (.bl k) H)(e:k=k'):EP X ao σ Q (.bool k') s:=by
 subst e;exact⟨.bl k,H,I,rfl,q⟩
theorem d7:ug X (compareOp .Eq) rEq:=by
 intro ao s σ H x y v u Q I rx ry h;obtain⟨hs,q⟩:=h
 cases x with
 | gj =>
  cases rx
  cases y with
  | gj=>cases ry;exact PySem.EqNone.eq_none_none (dX I q (by simp))
  | bl j=>cases ry;exact PySem.EqNone.eq_none_bool (dX I q (by simp))
  | int j=>obtain⟨t',rfl⟩:=ry;exact PySem.EqNone.eq_none_int (dX I q (by simp))
  | str j=>obtain⟨t',rfl⟩:=ry;exact PySem.EqNone.eq_none_str (dX I q (by simp))
  | _=>exact absurd (show false=true from hs) nY
 | bl i =>
  cases rx
  cases y with
  | gj=>cases ry;exact PySem.EqNone.eq_bool_none (dX I q (by simp))
  | bl j=>cases ry;exact eq_bool (dX I q NK)
  | str j=>obtain⟨t',rfl⟩:=ry;exact PySem.EqMixed.eq_bool_str (dX I q (by simp))
  | _=>exact absurd (show false=true from hs) nY
 | int i =>
  obtain⟨t,rfl⟩:=rx
  cases y with
  | gj=>cases ry;exact PySem.EqNone.eq_int_none (dX I q (by simp))
  | int j=>obtain⟨t',rfl⟩:=ry;exact eq_int (dX I q J5)
  | str j=>obtain⟨t',rfl⟩:=ry;exact PySem.EqMixed.eq_int_str (dX I q (by simp))
  | _=>exact absurd (show false=true from hs) nY
 | str i =>
  obtain⟨t,rfl⟩:=rx
  cases y with
  | gj=>cases ry;exact PySem.EqNone.eq_str_none (dX I q (by simp))
  | bl j=>cases ry;exact PySem.EqMixed.eq_str_bool (dX I q (by simp))
  | int j=>obtain⟨t',rfl⟩:=ry;exact PySem.EqMixed.eq_str_int (dX I q (by simp))
  | str j=>obtain⟨t',rfl⟩:=ry;exact eq_str (dX I q J6)
  | _=>exact absurd (show false=true from hs) nY
 | HA i =>
  obtain⟨t,rfl⟩:=rx
  cases y with
  | HA j=>obtain⟨t',rfl⟩:=ry;exact PySem.W.eq_bytes (dX I q J7)
  | _=>exact absurd (show false=true from hs) nY
 | _=>cases y <;> exact absurd (show false=true from hs) nY
theorem NL:ug X (compareOp .NotEq) rNe:=by
 intro ao s σ H x y v u Q I rx ry h;obtain⟨hs,q⟩:=h
 cases x with
 | gj =>
  cases rx
  cases y with
  | gj=>cases ry;exact PySem.EqNone.ne_none_none (dX I q (by simp))
  | bl j=>cases ry;exact PySem.EqNone.ne_none_bool (dX I q (by simp))
  | int j=>obtain⟨t',rfl⟩:=ry;exact PySem.EqNone.ne_none_int (dX I q (by simp))
  | str j=>obtain⟨t',rfl⟩:=ry;exact PySem.EqNone.ne_none_str (dX I q (by simp))
  | _=>exact absurd (show false=true from hs) nY
 | bl i =>
  cases rx
  cases y with
  | gj=>cases ry;exact PySem.EqNone.ne_bool_none (dX I q (by simp))
  | bl j=>cases ry;exact ne_bool (dX I q (congrArg not NK))
  | str j=>obtain⟨t',rfl⟩:=ry;exact PySem.EqMixed.ne_bool_str (dX I q (by simp))
  | _=>exact absurd (show false=true from hs) nY
 | int i =>
  obtain⟨t,rfl⟩:=rx
  cases y with
  | gj=>cases ry;exact PySem.EqNone.ne_int_none (dX I q (by simp))
  | int j=>obtain⟨t',rfl⟩:=ry;exact ne_int (dX I q (congrArg not J5))
  | str j=>obtain⟨t',rfl⟩:=ry;exact PySem.EqMixed.ne_int_str (dX I q (by simp))
  | _=>exact absurd (show false=true from hs) nY
 | str i =>
  obtain⟨t,rfl⟩:=rx
  cases y with
  | gj=>cases ry;exact PySem.EqNone.ne_str_none (dX I q (by simp))
  | bl j=>cases ry;exact PySem.EqMixed.ne_str_bool (dX I q (by simp))
  | int j=>obtain⟨t',rfl⟩:=ry;exact PySem.EqMixed.ne_str_int (dX I q (by simp))
  | str j=>obtain⟨t',rfl⟩:=ry;exact ne_str (dX I q (congrArg not J6))
  | _=>exact absurd (show false=true from hs) nY
 | HA i =>
  obtain⟨t,rfl⟩:=rx
  cases y with
  | HA j=>obtain⟨t',rfl⟩:=ry;exact PySem.W.ne_bytes (dX I q (congrArg not J7))
  | _=>exact absurd (show false=true from hs) nY
 | _=>cases y <;> exact absurd (show false=true from hs) nY
theorem j8:ug X (compareOp .Lt) (Uj λi j=>.bl (decide (i<j))):=Ri λ_ _ _ _ _ _ _ q=>lt_int q
theorem gr:ug X (compareOp .LtE) (Uj λi j=>.bl (decide (i<=j))):=Ri λ_ _ _ _ _ _ _ q=>le_int q
theorem zq:ug X (compareOp .Gt) (Uj λi j=>.bl (decide (j<i))):=Ri λ_ _ _ _ _ _ _ q=>gt_int q
theorem Uk:ug X (compareOp .GtE) (Uj λi j=>.bl (decide (j<=i))):=Ri λ_ _ _ _ _ _ _ q=>ge_int q
theorem aZ(b:Expr){op:CmpOp}(h:op≠.In:=by decide)(h2:op≠.NotIn:=by decide):behindInMarks op b=false:=by
 have e1:(op == CmpOp.In)=false:=by cases op <;> first|rfl|exact absurd rfl h
 have e2:(op == CmpOp.NotIn)=false:=by cases op <;> first|rfl|exact absurd rfl h2
 cases b <;> simp[behindInMarks,e1,e2]
theorem nZ{op:CmpOp}{r:R2}(ho:ug X (compareOp op) r)(ha:PE X a ta)(hb:PE X b tb)(hm:behindInMarks op b=false):PE X (.Compare a [op] [b] pos) (YO r ta tb):=by
 intro ao s σ H Q I h;exact wpAny_Compare1 (Vw ha hb I h λv u s2 x y H2 I2 rx ry q=>ho ao s2 σ H2 x y v u Q I2 rx ry q) hm
def Ul(t:TE):TT:=fun σ H Q=>t σ H λx H'=>isB x H' Q
theorem aT{op:CmpOp}{r:R2}(ho:ug X (compareOp op) r)(ha:PE X a ta)(hb:PE X b tb)(hm:behindInMarks op b=false):PT X (.Compare a [op] [b] pos) (Ul (YO r ta tb)):=by
 intro ao s σ H Q I h
 refine wpAny_isTrue_Compare1 (dc (ha ao s σ H _ I h) λv s1 ⟨x,H1,I1,r1,q1⟩=>dc (hb ao s1 σ H1 _ I1 q1) λu s2 ⟨y,H2,I2,r2,q2⟩ =>
  dc (ho ao s2 σ H2 x y v u _ I2 r1 r2 q2) λc s3 ⟨z,H3,I3,r3,k,e,q3⟩=>?_) hm
 subst e;cases r3;exact wpAny_truthy_bool ⟨H3,I3,q3⟩
def Vy(r r':R2)(ta tb tc:TE):TE:=fun σ H Q=>ta σ H λx H1=>tb σ H1 λy H2=>r x y H2 λz H3=>∃ k,z=.bl k/\
 (if k=true then tc σ H3 λw' H4=>r' y w' H4 Q else Q (.bl false) H3)
theorem vg{op Ht:CmpOp}{r r':R2}(ho:ug X (compareOp op) r)(Lo:ug X (compareOp Ht) r')(ha:PE X a ta)(hb:PE X b tb)(hc:PE X c tc)
  (hm:lastMarks [op,Ht] [b,c]=false:=by with_unfolding_all rfl):PT X (.Compare a [op,Ht] [b,c] pos) (Ul (Vy r r' ta tb tc)):=by
 intro ao s σ H Q I h
 refine isTrue_chain (dc (ha ao s σ H _ I h) λv s1 ⟨x,H1,I1,r1,q1⟩=>test_link (dc (hb ao s1 σ H1 _ I1 q1) λu s2 ⟨y,H2,I2,r2,q2⟩ =>
  dc (ho ao s2 σ H2 x y v u _ I2 r1 r2 q2) λd s3 ⟨z,H3,I3,r3,k,e,q3⟩=>?_)) hm
 subst e;cases r3;refine wpAny_truthy_bool ?_
 cases k with
 | false =>
  obtain⟨k',e',q'⟩:=q3;cases e';exact ite_ff ⟨H3,I3,q'⟩
 | true =>
  refine ite_tt (test_last (dc (hc ao s3 σ H3 _ I3 q3) λw' s4 ⟨z',H4,I4,r4,q4⟩=>dc (Lo ao s4 σ H4 y z' u w' _ I4 r2 r4 q4) λd' s5 Fb=>?_));obtain⟨z2,H5,I5,r5,k2,e2,q5⟩:=Fb;subst e2;cases r5;exact wpAny_truthy_bool ⟨H5,I5,q5⟩
def YS(K:Frag)(x:V)(H:Hp)(k:Bool):Prop :=
 match x with
 | .gj=>k=false
 | .bl b=>k=b
 | .int i=>k=(i != 0)
 | .str y=>y.length<=sizeLine/\k=((y.length:Int) != 0)
 | .HA y=>y.size<=sizeLine/\k=((y.size:Int) != 0)
 | .ref p=>(∃ xs,bI K H p xs/\k=!xs.isEmpty)\/(∃ xs,cX K H p xs/\k=!xs.isEmpty)\/∃ kvs,H p=some (.dK kvs)/\k=!kvs.isEmpty
 | _=>False
theorem HM{κ:Type}{kvs:List (κ × V)}{vs:List (κ × Value)}(r:KV kvs vs):(!vs.isEmpty)=!kvs.isEmpty:=by
 cases r <;> rfl
theorem zu{xs:List V}{aM:List Value}(r:cC xs aM):(!aM.toArray.isEmpty)=!xs.isEmpty:=by
 cases r <;> simp
theorem uh:(sizeLine:Nat)<2^63:=by rw[sizeLine_eq];decide
theorem Vz:acK X (λx H Q=>∃ k,YS X.K x H k/\Q k H):=by
 intro ao s σ H x v Q I rx h;obtain⟨k,e,q⟩:=h;have hl:=uh;have hs:sizeLine=16777216:=sizeLine_eq
 cases x with
 | gj =>
  cases rx;have e':k=false:=e;subst e';exact truthy_none ⟨H,I,q⟩
 | bl b =>
  cases rx;have e':k=b:=e;subst e';exact wpAny_truthy_bool ⟨H,I,q⟩
 | int i =>
  obtain⟨t,rfl⟩:=rx;have e':k=(i != 0):=e;subst e';exact PySem.P.truthy_int ⟨H,I,q⟩
 | str y =>
  obtain⟨t,rfl⟩:=rx;obtain⟨hy,e'⟩:y.length<=sizeLine/\k=((y.length:Int) != 0):=e;subst e';exact PySem.P.truthy_str ∅ ⟨H,I.tok _,q⟩
 | HA y =>
  obtain⟨t,rfl⟩:=rx;obtain⟨hy,e'⟩:y.size<=sizeLine/\k=((y.size:Int) != 0):=e;subst e';exact PySem.W.truthy_bytes ∅ ⟨H,I.tok _,q⟩
 | ref p =>
  cases rx;have e':(∃ xs,bI X.K H p xs/\k=!xs.isEmpty)\/(∃ xs,cX X.K H p xs/\k=!xs.isEmpty)\/∃ kvs,H p=some (.dK kvs)/\k=!kvs.isEmpty:=e;rcases e' with ⟨xs,hx,e'⟩|⟨xs,hx,e'⟩|⟨kvs,hx,e'⟩
  ·subst e';obtain⟨aM,r,pl,hz⟩:=I.list hx;have dI:=r.length;exact wpAny_truthy_list pl.isList (by simp only[gS];lia) ⟨H,I.tok _,by rw[zu r];exact q⟩
  ·subst e';obtain⟨aM,r,pl,hz⟩:=I.tuple hx;have dI:=r.length;exact truthy_tuple pl (by simp only[gS];lia) ⟨H,I.tok _,by rw[zu r];exact q⟩
  ·subst e';obtain⟨hz,hS,vs,r,m⟩:kvs.length<=sizeLine/\(p == sysModules)=false/\∃ vs,KV kvs vs/\s.heap.DictOf (fV X.prog X.w) p vs:=I.hok p _ hx;have dI:kvs.length=vs.length:=Paired.length r;exact wpAny_truthy_dict hS m ∅ ⟨H,I.tok _,by rw[HM r];exact q⟩
 | _=>exact (show False from e).elim
theorem kQ(ha:PE X a ta)(he:∀ zk,isTrue a X.env zk=(do let v ← zk;standAt a.pos;holding [v] (truthy v))) :
  PT X a (fun σ H Q=>ta σ H λx H'=>∃ k,YS X.K x H' k/\Q k H'):=by
 intro ao s σ H Q I h;exact isTrue_plain (dc (ha ao s σ H _ I h) λv s1 ⟨x,H1,I1,r1,q1⟩=>Vz ao s1 σ H1 x v Q I1 r1 q1) (he _)
theorem vals1{x:V}{us:List Value}(r:cC [x] us):∃ u,us=[u]/\RelV x u:=by
 cases r with
 | cons r1 r2=>cases r2;exact⟨Y,r1⟩
theorem vals2{x y:V}{us:List Value}(r:cC [x,y] us):∃ u w',us=[u,w']/\RelV x u/\RelV y w':=by
 cases r with
 | cons r1 r2 =>
  cases r2 with
  | cons r3 r4=>cases r4;exact⟨P,rfl,r1,r3⟩
theorem mP(hc:X.calm=true):j7 X (.builtin "max") (λxs H Q=>∃ i j,xs=[.int i,.int j]/\Q (.int (if j > i then j else i)) H):=by
 intro ao s σ H xs us Q I r h;obtain⟨i,j,rfl,q⟩:=h;obtain⟨u,w',rfl,⟨t,rfl⟩,⟨t',rfl⟩⟩:=vals2 r;refine max_two_ints (I.ok.hd hc) λh' tk k=>⟨_,H,I.kept k,?_,q⟩;by_cases hj:j > i
 ·rw[if_pos hj,if_pos hj];exact⟨Y⟩
 ·rw[if_neg hj,if_neg hj];exact⟨Y⟩
theorem pC(hc:X.calm=true):j7 X (.builtin "min") (λxs H Q=>∃ i j,xs=[.int i,.int j]/\Q (.int (if j<i then j else i)) H):=by
 intro ao s σ H xs us Q I r h;obtain⟨i,j,rfl,q⟩:=h;obtain⟨u,w',rfl,⟨t,rfl⟩,⟨t',rfl⟩⟩:=vals2 r;refine min_two_ints (I.ok.hd hc) λh' tk k=>⟨_,H,I.kept k,?_,q⟩;by_cases hj:j<i
 ·rw[if_pos hj,if_pos hj];exact⟨Y⟩
 ·rw[if_neg hj,if_neg hj];exact⟨Y⟩
end
end L2
namespace L2
open Spec Rows
structure HN(h:Heap)(x dx C:Addr)(mA:Str->Option Value):Prop where
 obj:h.get? x=some (instObj C dx)
 ns:h.Ns1 dx mA
 ne:dx≠x
theorem Lu{h:Heap}{mA:Str->Option Value}(n:h.Ns1 dx mA):∃ od,h.get? dx=some od/\∀ name,lookIn name od=some (mA name):=by
 obtain⟨o,es,ep,ho,hd,hk,_,hm⟩:=n;refine⟨o,ho,λname=>?_⟩;have e:=hm name;unfold nsFind findBy at e;rw[← Array.find?_toList]at e;unfold lookIn;rw[hd];dsimp only;split
 ·rename_i y q;rw[q]at e;exact congrArg some e
 ·rename_i q;rw[q]at e
  have a:es.toList.any (·.refKey)=false:=by
   rw[List.any_eq_false];intro y hy;obtain⟨z,t,hkey⟩:=hk y (Array.mem_toList_iff.mp hy);simp[DictEntry.refKey,hkey]
  have a':¬ es.toList.any (·.refKey)=true:=by rw[a];exact nY
  rw[if_neg a'];exact congrArg some e
theorem HN.look{h:Heap}{x:Addr}{mA:Str->Option Value}(I:HN h x dx C mA):∃ od,InstAt h x (instObj C dx) C (some od)/\∀ name,lookIn name od=some (mA name) :=
 let ⟨od,ho,hl⟩:=Lu I.ns
 ⟨od,⟨I.obj,V,ho⟩,hl⟩
section
variable {prog:Program} {w:World} {A:Around} {E:Value->Shared->Prop} {s:Shared} {K:Frag} {x dx C f:Addr} {mA:Str->Option Value} {name:Str} {v:Value}
theorem Rj{acM:Bool}{Q:Value->Shared->Prop}(X:K.In s.heap)(I:HN s.heap x dx C mA)(hg:plainGet K C name=true)(hh:hasDictIn K C=true)
  (ha:findIn K (.ref C) name=some none) (hv:mA name=some v) (hv':handedIn v=true) (h:Q v { s with toks:=s.toks+1 }) :
  wpAny (model prog w) A (getAttr (.ref x) name acM) Q E s:=by
 obtain⟨od,J,hl⟩:=I.look;exact PySem.W.get_value X J (plainGet_of hg).1 (PySem.W.findObj_own hh ha rfl (by rw[hl,hv])) hv' h
theorem NN{pl:Sem Bool}{Q:Value × List Value->Shared->Prop}(X:K.In s.heap)(I:HN s.heap x dx C mA)(hg:plainGet K C name=true)
  (hf:findIn K (.ref C) name=some (some (.ref f))) (ht:isFn K (.ref f)=true) (hv:mA name=none) (h:Q (.ref f,[.ref x]) s) :
  wpAny (model prog w) A (getMethod (.ref x) name pl) Q E s:=by
 obtain⟨od,J,hl⟩:=I.look;exact PySem.W.method_fn X J (plainGet_of hg).1 (plainGet_of hg).2 hf (beq_iff_eq.mp ht) (by show (lookIn name od).map (·.isSome)=some false;rw[hl,hv];rfl) h
theorem Rk{ns:List Str}{Q:Unit->Shared->Prop}(X:K.In s.heap)(I:HN s.heap x dx C mA)
  (hs:findIn K (.ref C) "__setattr__"=some (some (.builtin "object.__setattr__"))) (hp:plainOver K C=true) (ht:takerIn K C name=some none) (hh:hasDictIn K C=true)
  (hw:PySem.Within mA ns) (hsz:ns.length<=sizeLine)
  (h:∀ h',HN h' x dx C (λy=>if y=name then some v else mA y)->Heap.SameBut dx s.heap h'->Q () { s with heap:=h',toks:=s.toks+2 }) :
  wpAny (model prog w) A (setAttr (.ref x) name v) Q E s:=by
 obtain⟨od,J,hl⟩:=I.look;refine PySem.W.set_plain X J hs (PySem.W.osa_open (s:={ s with toks:=s.toks+1 }) (r:=none) X J hp ht λb=>?_);obtain⟨cd,hc,hd'⟩:=PySem.W.any_some hh;have hx:s.heap.get? x=some ⟨.ref C,some dx,.plain,#[]⟩:=I.obj;refine wpAny_bind (wpAny_pure (wpAny_bind (wpAny_bind (wpAny_loadPart hx (wpAny_bind (PySem.W.Looks.here (s:={ s with toks:=s.toks+1 }) (PySem.W.looks_clsIn X hc) ?_))))));rw[hd'];refine wpAny_pure (a:=some dx) (wpAny_bind (wpAny_pure (wpAny_bind ?_)));refine wpAny_nsSet1 (s:={ s with toks:=s.toks+1 }) I.ns λh' hn2 Lv=>?_;obtain⟨oD,esD,epD,hoD,hdD,hcD⟩:=hn2.count (PySem.Within.cons name v hw);refine wpAny_bind (wpAny_lookBehind hoD (by rw[hdD];exact pastItsLine_dict (gV hcD (by rw[eY];lia))) ?_);exact wpAny_pure (h _ ⟨(Lv.2 _ (Ne.symm I.ne)).trans I.obj,hn2,I.ne⟩ Lv)
theorem NO{R:Result->Shared->Prop}{vs:List Value}{kw:List (Str × Value)}(X:K.In s.heap)(hm:makesIn K C=true)
  (hi:findIn K (.ref C) "__init__"=some (some (.ref f))) (hf:typeIn K (.ref f)=some (.type "function"))
  (h:codeAny (model prog w) (A.under (.builtin "type.__call__" ⟨.ref C::vs,kw⟩)) (.call (.ref f) ⟨.ref (s.heap.objs.size+1)::vs,kw⟩) (PySem.W.InitBack (s.heap.objs.size+1) R)
   { s with heap:=(s.heap.push emptyDict).push (instObj C s.heap.objs.size) }) :
  codeAny (model prog w) A (.call (.ref C) ⟨vs,kw⟩) R s:=by
 obtain⟨hh,g,d,t,os⟩:=s;exact PySem.W.make_core (PySem.W.makes_of X hm) (PySem.W.looks_findIn X hi) (λself=>PySem.W.bind_fn X self hf) (.inl rfl) h
end
def eE(f:Str)(v:V):List (Str × V)->List (Str × V)
 | []=>[(f,v)]
 | (g,x)::r=>if g=f then (g,v)::r else (g,x)::eE f v r
theorem xU(f g:Str)(v:V):∀ fs:List (Str × V),(eE f v fs).lookup g=if g=f then some v else fs.lookup g
 | []=>by
  show List.lookup g [(f,v)]=_;by_cases h:g=f
  ·have hb:(g == f)=true:=beq_iff_eq.mpr h;simp only[List.lookup,hb,if_pos h]
  ·have hb:(g == f)=false:=beq_eq_false_iff_ne.mpr h;simp only[List.lookup,hb,if_neg h]
 | (k,x)::r=>by
  have ih:=xU f g v r;rw[show eE f v ((k,x)::r)=(if k=f then (k,v)::r else (k,x)::eE f v r) from rfl];by_cases hk:k=f
  ·rw[if_pos hk];by_cases h:g=k
   ·have hb:(g == k)=true:=beq_iff_eq.mpr h;simp only[List.lookup,hb,if_pos (h.trans hk)]
   ·have hb:(g == k)=false:=beq_eq_false_iff_ne.mpr h;simp only[List.lookup,hb,if_neg (λe:g=f=>h (e.trans hk.symm))]
  ·rw[if_neg hk];by_cases h:g=k
   ·have hb:(g == k)=true:=beq_iff_eq.mpr h;simp only[List.lookup,hb,if_neg (λe:g=f=>hk (h.symm.trans e))]
   ·have hb:(g == k)=false:=beq_eq_false_iff_ne.mpr h;simp only[List.lookup,hb];exact ih
theorem wI(f:Str)(v:V):∀ fs:List (Str × V),f∈(eE f v fs).map (·.1)/\∀ g,g∈fs.map (·.1)->g∈(eE f v fs).map (·.1)
 | []=>⟨by simp[eE],λg h=>by simp at h⟩
 | (k,x)::r=>by
  obtain⟨i1,i2⟩:=wI f v r;rw[show eE f v ((k,x)::r)=(if k=f then (k,v)::r else (k,x)::eE f v r) from rfl];by_cases hk:k=f
  ·rw[if_pos hk];subst hk;exact⟨by simp,λg h=>by simpa using h⟩
  ·rw[if_neg hk];refine⟨?_,λg h=>?_⟩
   ·rw[jJ];exact mO _ i1
   ·rw[jJ]at h ⊢;rcases List.mem_cons.mp h with e|e
    ·exact List.mem_cons.mpr (.inl e)
    ·exact mO _ (i2 g e)
theorem xV(f:Str)(v:V):∀ fs:List (Str × V),(eE f v fs).length<=fs.length+1
 | []=>by simp[eE]
 | (k,x)::r=>by
  have ih:=xV f v r;rw[show eE f v ((k,x)::r)=(if k=f then (k,v)::r else (k,x)::eE f v r) from rfl];by_cases hk:k=f
  ·rw[if_pos hk,eY,eY];lia
  ·rw[if_neg hk,eY,eY];lia
theorem sX.some_of{v:V}{o:Option Value}(r:sX (some v) o):∃ u,o=some u/\RelV v u:=by
 cases o with
 | none=>exact (show False from r).elim
 | some u=>exact⟨u,rfl,r⟩
theorem sX.none_of{o:Option Value}(r:sX none o):o=none:=by
 cases o with
 | none=>rfl
 | some u=>exact (show False from r).elim
theorem Lw{v:V}{u:Value}(r:RelV v u):handedIn u=true:=by
 cases v with
 | gj=>cases (show u=Value.none from r);rfl
 | bl b=>cases (show u=Value.bool b from r);rfl
 | int i=>obtain⟨t,e⟩:=(show ∃ t,u=Value.int i t from r);cases e;rfl
 | str x=>obtain⟨t,e⟩:=(show ∃ t,u=Value.str x t from r);cases e;rfl
 | HA b=>obtain⟨t,e⟩:=(show ∃ t,u=Value.bytes b t from r);cases e;rfl
 | Uc b=>obtain⟨t,e⟩:=(show ∃ t,u=Value.float b t from r);cases e;rfl
 | ref a=>cases (show u=Value.ref a from r);rfl
 | ty n=>cases (show u=Value.type n from r);rfl
section
variable {P:Program} {w:World} {H H':Hp} {h h':Heap} {a C dx:Addr} {fs XU:List (Str × V)}
theorem yV(hok:vd P w H h)(e:H a=some (.ins C dx fs)):∃ mA,HN h a dx C mA/\(∀ f,sX (fs.lookup f) (mA f))/\PySem.Within mA (fs.map (·.1))/\fs.length<=1000/\H dx=some (.own a):=by
 obtain⟨d,z,ne,ob,mA,n,r,q⟩:=(show fX P w H h a (.ins C dx fs) from hok a _ e);exact⟨mA,⟨ob,n,ne⟩,r,q,z,d⟩
end
structure M9(K:Frag)(C:Addr):Prop where
 pg:plainGet K C Str.empty=true
 hd:hasDictIn K C=true
 po:plainOver K C=true
 sa:findIn K (.ref C) "__setattr__"=some (some (.builtin "object.__setattr__"))
theorem M9.get{K:Frag}(c:M9 K C)(f:Str):plainGet K C f=true:=c.pg
def fR(K:Frag)(C:Addr)(f:Str):Prop:=findIn K (.ref C) f=some none
theorem fR.YT{K:Frag}{f:Str}(n:fR K C f):takerIn K C f=some none:=by
 unfold takerIn;rw[show findIn K (.ref C) f=some none from n];rfl
structure NP(K:Frag)(C:Addr)(m:Str)(f:Addr):Prop where
 at_:findIn K (.ref C) m=some (some (.ref f))
 fn:isFn K (.ref f)=true
 kp:keepIn K (.ref f)=true
section
variable {X:Cx} {ao:List (Addr × Obj)} {σ:St} {H:Hp} {s:Shared} {a C dx:Addr} {fs:List (Str × V)} {f:Str} {v:V} {A:Around} {E:Value->Shared->Prop}
theorem zw{b:Bool}{Q:Value->Shared->Prop}(I:Inv X ao σ H s)(e:H a=some (.ins C dx fs))(c:M9 X.K C)(n:fR X.K C f)(l:fs.lookup f=some v)
  (h:∀ u s',Inv X ao σ H s'->RelV v u->Q u s'):wpAny (model X.prog X.w) A (getAttr (.ref a) f b) Q E s:=by
 obtain⟨mA,O,r,_,_,_⟩:=yV I.hok e;obtain⟨u,hu,ru⟩:=sX.some_of (v:=v) (o:=mA f) (by rw[← l];exact r f);exact Rj I.xT O (c.get f) c.hd n hu (Lw ru) (h u _ (I.tok _) ru)
theorem zx{m:Str}{g:Addr}{pl:Sem Bool}{Q:Value × List Value->Shared->Prop}(I:Inv X ao σ H s)(e:H a=some (.ins C dx fs))(c:M9 X.K C)(k:NP X.K C m g)(l:fs.lookup m=none)
  (h:Q (.ref g,[.ref a]) s):wpAny (model X.prog X.w) A (getMethod (.ref a) m pl) Q E s:=by
 obtain⟨mA,O,r,_,_,_⟩:=yV I.hok e;have hn:mA m=none:=sX.none_of (by rw[← l];exact r m);exact NN I.xT O (c.get m) k.at_ k.fn hn h
theorem zy{y:V}{u:Value}{Q:Unit->Shared->Prop}(I:Inv X ao σ H s)(e:H a=some (.ins C dx fs))(c:M9 X.K C)(n:fR X.K C f)(hl:fs.length<1000)(ry:RelV y u)
  (h:∀ s',Inv X ao σ (aN H a (.ins C dx (eE f y fs))) s'->Q () s'):wpAny (model X.prog X.w) A (setAttr (.ref a) f u) Q E s:=by
 obtain⟨mA,O,r,wi,_,ho⟩:=yV I.hok e;have hz:(fs.map (·.1)).length<=sizeLine:=by rw[cy,sizeLine_eq];lia
 refine Rk I.xT O c.sa c.po n.YT c.hd wi hz λh' O' sb=>h _ ?_;have hd:∃ o,h'.get? dx=some o:=let ⟨o,P,e',_⟩:=O'.ns;⟨o,e'⟩;refine I.write (x:=a) (e:=dx) (by rw[e];exact True.intro) (.inr ho) (λb q hb z=>(sb.2 b hb).trans z) hd ?_;refine⟨by rw[aK O.ne];exact ho,?_,O.ne,O'.obj,_,O'.ns,λg=>?_,λg hg=>?_⟩
 ·have:=xV f y fs;lia
 ·show sX ((eE f y fs).lookup g) (if g=f then some u else mA g);rw[xU];by_cases q:g=f
  ·rw[if_pos q,if_pos q];exact ry
  ·rw[if_neg q,if_neg q];exact r g
 ·by_cases q:g=f
  ·rw[q];exact (wI f y fs).1
  ·refine (wI f y fs).2 g (wi g λz=>hg ?_);show (if g=f then some u else mA g)=none;rw[if_neg q];exact z
theorem Inv.made(I:Inv X ao σ H s):Inv X ao σ (aN (aN H s.heap.objs.size (.own (s.heap.objs.size+1))) (s.heap.objs.size+1) (.ins C s.heap.objs.size []))
  { s with heap:=(s.heap.push emptyDict).push (instObj C s.heap.objs.size) }:=by
 have e1:(s.heap.push emptyDict).get? s.heap.objs.size=some emptyDict:=Heap.get?_push_size s.heap rfl
 have e2:((s.heap.push emptyDict).push (instObj C s.heap.objs.size)).get? (s.heap.objs.size+1)=some (instObj C s.heap.objs.size):=by
  have:=Heap.get?_push_size (s.heap.push emptyDict) (o:=instObj C s.heap.objs.size) rfl;rwa [Heap.size_push]at this
 have e3:(s.heap.push emptyDict).Ns s.heap.objs.size (λ_=>none):=⟨emptyDict,#[],_,e1,rfl,(λe he=>absurd he (by simp)),λ_=>rfl⟩;have I1:=I.laid (a:=s.heap.objs.size) (o:=.own (s.heap.objs.size+1)) (h':=s.heap.push emptyDict) (t':=s.toks) (λb u q=>Heap.get?_push_of_some _ q) (fF _) ⟨_,e1⟩;refine I1.laid (a:=s.heap.objs.size+1) (o:=.ins C s.heap.objs.size []) (t':=s.toks) (λb u q=>Heap.get?_push_of_some _ q) (Nat.le_of_eq (Heap.size_push _ _)) ?_;have ne:s.heap.objs.size≠s.heap.objs.size+1:=j3 (Nat.lt_succ_self _);refine⟨by rw[aK ne,af],Nat.zero_le _,ne,e2,λ_=>none,(Heap.Ns1.of_empty e3).at λo q=>Heap.get?_push_of_some _ q,λ_=>True.intro,λy hy=>absurd rfl hy⟩
theorem Rl{prog:Program}{w:World}{env:Env}{e:Expr}{f:Str}{s:Shared}{Q:Value->Shared->Prop}(hb:attributeBase e f env (eval e env)=eval e env)
  (h:wpAny (model prog w) A (eval e env) (λo s₁=>wpAny (model prog w) A (getAttr o f true) Q E s₁) E s):wpAny (model prog w) A (eval (.Attribute e f pos) env) Q E s :=
 Attribute_any_ h (by rw[arm_eval_Attribute,hb])
end
inductive YU(K:Frag)(f:Str)(x:V)(H:Hp)(Q:VK):Prop
 | mk (a C dx:Addr) (fs:List (Str × V)) (v:V) (_:x=.ref a) (_:H a=some (.ins C dx fs)) (_:M9 K C) (_:fR K C f) (_:fs.lookup f=some v) (_:Q v H):YU K f x H Q
def acO(K:Frag)(ta:TE)(f:Str):TE:=fun σ H Q=>ta σ H λx H1=>YU K f x H1 Q
def acP(K:Frag)(ta tv:TE)(f:Str):TS:=λD σ H=>tv σ H λy H1=>ta σ H1 λx H2=>∃ a C dx fs,x=.ref a/\H2 a=some (.ins C dx fs)/\M9 K C/\fR K C f/\fs.length<1000/\
 D.nx σ (aN H2 a (.ins C dx (eE f y fs)))
def YV(X:Cx)(op:Operator)(rd:V->V->Hp->VK->Prop):Prop :=
 ∀ (ao:List (Addr × Obj)) (s:Shared) (σ:St) (H:Hp) (x y:V) (u v:Value) (Q:VK),Inv X ao σ H s->RelV x u->RelV y v->rd x y H Q->wpAny (model X.prog X.w) X.A (inplaceOp op u v) (EP X ao σ Q) X.xe s
def Rm(K:Frag)(ta tv:TE)(rd:V->V->Hp->VK->Prop)(f:Str):TS:=λD σ H=>ta σ H λx H1=>∃ a C dx fs v,x=.ref a/\H1 a=some (.ins C dx fs)/\M9 K C/\fR K C f/\fs.lookup f=some v/\
 tv σ H1 λy H2=>rd v y H2 λz H3=>∃ dx' XU,H3 a=some (.ins C dx' XU)/\XU.length<1000/\D.nx σ (aN H3 a (.ins C dx' (eE f z XU)))
section
variable {X:Cx} {o e value:Expr} {f:Str} {pos iV Lx:Pos} {ta tv:TE}
theorem cM(he:PE X e ta)(hb:attributeBase e f X.env (eval e X.env)=eval e X.env):PE X (.Attribute e f pos) (acO X.K ta f):=by
 intro ao s σ H Q I h;refine Rl hb (dc (he ao s σ H _ I h) λu s1 Dk=>?_);obtain⟨x,H1,I1,rx,a,C,dx,fs,v,ex,ea,c,n,l,q⟩:=Dk;subst ex;obtain rfl:u=Value.ref a:=rx;exact zw I1 ea c n l λu' s2 I2 ru=>⟨v,H1,I2,ru,q⟩
theorem jq(ha:PE X o ta)(hv:PE X value tv)(hs:swapsWith value (some (.Attribute o f iV)) pos.line X.env=pure false):PS X (.Assign [.Attribute o f iV] value pos) (acP X.K ta tv f):=by
 intro ao s σ H D I h;refine plainObj_wpAny_Assign_Attribute (dc (hv ao s σ H _ I h) λu s1 h1=>?_) hs;obtain⟨y,H1,I1,ry,q⟩:=h1;refine dc (ha ao s1 σ H1 _ I1 q) λov s2 h2=>?_;obtain⟨x,H2,I2,rx,a,C,dx,fs,ex,ea,c,n,l,q2⟩:=h2;subst ex;obtain rfl:ov=Value.ref a:=rx;exact zy I2 ea c n l ry λs3 I3=>⟨σ,_,I3,q2⟩
theorem wJ{op:Operator}{rd:V->V->Hp->VK->Prop}(ha:PE X o ta)(hv:PE X value tv)(QW:YV X op rd):PS X (.AugAssign (.Attribute o f Lx) op value pos) (Rm X.K ta tv rd f):=by
 intro ao s σ H D I h;refine wpAny_AugAssign_AttributeAny (dc (ha ao s σ H _ I h) λov s1 h1=>?_);obtain⟨x,H1,I1,rx,a,C,dx,fs,v,ex,ea,c,n,l,q⟩:=h1;subst ex;obtain rfl:ov=Value.ref a:=rx;refine zw I1 ea c n l λu s2 I2 ru=>dc (hv ao s2 σ H1 _ I2 q) λw3 s3 ⟨y,H2,I3,ry,q3⟩=>dc (QW ao s3 σ H2 v y u w3 _ I3 ru ry q3) λw4 s4 HF=>?_;obtain⟨z,H3,I4,rz,dx',XU,ea',l',q4⟩:=HF;exact zy I4 ea' c n l' rz λs5 I5=>⟨σ,_,I5,q4⟩
end
section
variable {X:Cx} {ao:List (Addr × Obj)} {σ:St} {H:Hp} {s:Shared} {A:Around} {E:Value->Shared->Prop} {Q:Value->Shared->Prop} {c:Value} {b:Bool}
inductive kT(K:Frag)(H:Hp):V->Value->Prop where
 | gj:kT K H .gj (.type "NoneType")
 | bl (x:Bool):kT K H (.bl x) (.type "bool")
 | int (i:Int):kT K H (.int i) (.type "int")
 | str (x:Str):kT K H (.str x) (.type "str")
 | Uc (x:UInt64):kT K H (.Uc x) (.type "float")
 | lst {a:Addr} {xs:List V} (e:H a=some (.lst xs)):kT K H (.ref a) (.type "list")
 | JX {a:Addr} {o:Obj} {xs:List V} (e:H a=some (.JX o (.lst xs))):kT K H (.ref a) (.type "list")
 | tup {a:Addr} {xs:List V} (e:H a=some (.tup xs)):kT K H (.ref a) (.type "tuple")
 | dK {a:Addr} {kvs:List (fk × V)} (e:H a=some (.dK kvs)):kT K H (.ref a) (.type "dict")
 | dT {a:Addr} {kvs:List (List fk × V)} (e:H a=some (.dT kvs)):kT K H (.ref a) (.type "dict")
 | ins {a C dx:Addr} {fs:List (Str × V)} (e:H a=some (.ins C dx fs)) (cl:M9 K C) (ha:findIn K (.ref C) "__class__"=some (some (.builtin "object.__class__")))
   (hn:PySem.W.specialIn K (.builtin "object.__class__") "__get__"=some (some (.builtin "getset_descriptor.__get__"))) (htk:PySem.W.takesIn K (.builtin "object.__class__")=some true)
   (hm:mroIn K C (.type "object")=some true):kT K H (.ref a) (.ref C)
theorem Ly{x:V}{u t:Value}(I:Inv X ao σ H s)(rx:RelV x u)(ty:kT X.K H x t)(e:kitOne X.K t c=some b)(h:∀ tk,Q (.bool b) { s with toks:=tk }) :
  wpAny (model X.prog X.w) A (call (.builtin "isinstance") [u,c]) Q E s:=by
 cases ty with
 | gj=>cases (show u=Value.none from rx);exact kia_one PySem.W.kitx_none I.xT True.intro e (λz=>nomatch z) h
 | bl y=>cases (show u=Value.bool y from rx);exact kia_one PySem.W.kitx_bool I.xT True.intro e (λz=>nomatch z) h
 | int i=>obtain⟨t,q⟩:=(show ∃ t,u=Value.int i t from rx);cases q;exact kia_one PySem.W.kitx_int I.xT True.intro e (λz=>nomatch z) h
 | str y=>obtain⟨t,q⟩:=(show ∃ t,u=Value.str y t from rx);cases q;exact kia_one PySem.W.kitx_str I.xT True.intro e (λz=>nomatch z) h
 | Uc y=>obtain⟨t,q⟩:=(show ∃ t,u=Value.float y t from rx);cases q;exact kia_one PySem.W.kitx_float I.xT True.intro e (λz=>nomatch z) h
 | @lst a xs ea =>
  cases (show u=Value.ref a from rx);obtain⟨_,_,n,_,h1⟩:=(show fX X.prog X.w H s.heap a (.lst xs) from I.hok a _ ea);exact kia_one kitx_list I.xT ⟨_,h1,rfl⟩ e (λz=>nomatch z) h
 | @JX a ob xs ea =>
  cases (show u=Value.ref a from rx);obtain⟨_,_,_,n,_,h1⟩:=(show fX X.prog X.w H s.heap a (.JX ob (.lst xs)) from I.hok a _ ea);exact kia_one kitx_list I.xT ⟨_,h1,rfl⟩ e (λz=>nomatch z) h
 | @tup a xs ea =>
  cases (show u=Value.ref a from rx);obtain⟨_,_,_,p⟩:=(show fX X.prog X.w H s.heap a (.tup xs) from I.hok a _ ea);obtain⟨o,h1,h2,_⟩:=p;exact kia_one PySem.W.kitx_tuple I.xT ⟨o,h1,h2⟩ e (λz=>nomatch z) h
 | @dK a kvs ea =>
  cases (show u=Value.ref a from rx);obtain⟨_,_,vs,_,p⟩:=(show fX X.prog X.w H s.heap a (.dK kvs) from I.hok a _ ea);obtain⟨o,es,ep,h1,h2,_⟩:=p;exact kia_one kitx_dict I.xT ⟨o,h1,h2.1⟩ e (λz=>nomatch z) h
 | @dT a kvs ea =>
  cases (show u=Value.ref a from rx);obtain⟨_,_,xs,_,o,es,ep,h1,h2,_⟩:=(show fX X.prog X.w H s.heap a (.dT kvs) from I.hok a _ ea);exact kia_one kitx_dict I.xT ⟨o,h1,h2.1⟩ e (λz=>nomatch z) h
 | @ins a C dx fs ea cl ha hn htk hm =>
  cases (show u=Value.ref a from rx);obtain⟨mA,O,_⟩:=yV I.hok ea;obtain⟨od,J,_⟩:=O.look;exact kia_one (PySem.W.kitx_own (cl.get _) cl.hd ha hn htk hm) I.xT J e (λz=>nomatch z) h
end
end L2
namespace L2
open Spec Rows
structure jt(k:Nat)(A:Around):Prop where
 hd:A.handled=none
 dp:A.depth+3*k+5<recursionLimit
 un:A.units+16*k+200<cLine
theorem jt.mono{j k:Nat}{A:Around}(r:jt k A)(h:j<=k):jt j A:=⟨r.hd,by have:=r.dp;lia,by have:=r.un;lia⟩
theorem jt.deeper{k:Nat}{A:Around}(r:jt (k+1) A)(env:Env):jt k (A.deeper env) :=
 ⟨r.hd,by have:=r.dp;show A.depth+1+3*k+5<_;lia,by have:=r.un;show A.units+3+16*k+200<_;lia⟩
theorem HP{A:Around}{us:List Value}{kw:List (Str × Value)}:(A.under (.builtin "type.__call__" ⟨.ref C::us,kw⟩)).depth=A.depth+1:=by
 first|rfl|simp[Around.under,Code.weight,Code.isCreation,Code.isGuard,Code.isCaller,Code.frames,Code.isFrame,guardIds]
theorem HQ{A:Around}{us:List Value}{kw:List (Str × Value)}:(A.under (.builtin "type.__call__" ⟨.ref C::us,kw⟩)).units=A.units+1:=by
 first|rfl|simp[Around.under,Code.cUnits,Code.frames,Code.isFrame]
theorem jt.make{k:Nat}{A:Around}(r:jt (k+1) A)(C:Addr)(us:List Value)(kw:List (Str × Value)):jt k (A.under (.builtin "type.__call__" ⟨.ref C::us,kw⟩)) :=
 ⟨r.hd,by have:=r.dp;rw[HP];lia,by have:=r.un;rw[HQ];lia⟩
theorem jt.depth{k:Nat}{A:Around}(r:jt k A):A.depth<recursionLimit:=by have:=r.dp;lia
theorem jt.units{k:Nat}{A:Around}(r:jt k A):A.units+64<cLine:=by have:=r.un;lia
def zA:TA:=λ_ H Q=>Q [] H
def NQ(ta:TE)(tr:TA):TA:=fun σ H Q=>ta σ H λx H1=>tr σ H1 λxs H2=>Q (x::xs) H2
section
variable {X:Cx} {e:Expr} {es:List Expr} {te:TE} {t:TA} {pos:Pos}
theorem ah:PA X [] zA:=λ_ _ _ _ H Q I h=>Calls.spliced_nil ⟨[],H,I,.nil,h⟩
theorem aa(ha:PE X e te)(hr:PA X es t)(hs:starEach (e::es) X.env=(false,eval e X.env)::starEach es X.env:=by rfl):PA X (e::es) (NQ te t):=by
 intro pos ao s σ H Q I h;rw[hs];show wpAny _ _ (spliced ((false,eval e X.env)::backTo pos (starEach es X.env))) _ _ s;refine Calls.spliced_cons (dc (ha ao s σ H _ I h) λu s1 HH=>?_);obtain⟨x,H1,I1,r1,q1⟩:=HH;exact dc (hr pos ao s1 σ H1 _ I1 q1) λus s2 ⟨xs,H2,I2,r2,q2⟩=>⟨x::xs,H2,I2,.cons r1 r2,q2⟩
def acR(t:TA):TE:=fun σ H Q=>t σ H λxs H1=>xs.length<=sizeLine/\∀ p,H1 p=none->Q (.ref p) (aN H1 p (.tup xs))
def Lz(t:TA):TE:=fun σ H Q=>t σ H λxs H1=>xs.length<=sizeLine/\∀ p,H1 p=none->Q (.ref p) (aN H1 p (.lst xs))
theorem cH{x1}(h:PA X es t):PE X (.Tuple es x1 pos) (acR t):=by
 intro ao s σ H Q I hq;refine wpAny_Tuple_spliced (dc (h pos ao s σ H _ I hq) λus s1 ⟨xs,H1,I1,r,z,q⟩=>⟨by rw[← r.length];exact z,?_⟩);have hf:H1 s1.heap.objs.size=none:=I1.hok.fresh (fF _);refine⟨.ref s1.heap.objs.size,aN H1 s1.heap.objs.size (.tup xs),I1.laid (t':=s1.toks) (λb u e=>Heap.get?_push_of_some _ e) (fF _) ?_,rfl,q _ hf⟩;exact⟨z,us,r,⟨_,Heap.get?_push_size _ rfl,rfl,Y⟩⟩
theorem bL(h:PA X es t):PE X (.List es pos) (Lz t):=by
 intro ao s σ H Q I hq;refine wpAny_List_spliced (dc (h pos ao s σ H _ I hq) λus s1 ⟨xs,H1,I1,r,z,q⟩=>⟨by rw[← r.length];exact z,?_⟩);have hf:H1 s1.heap.objs.size=none:=I1.hok.fresh (fF _);refine⟨.ref s1.heap.objs.size,aN H1 s1.heap.objs.size (.lst xs),I1.laid (t':=s1.toks) (λb u e=>Heap.get?_push_of_some _ e) (fF _) ?_,rfl,q _ hf⟩;exact⟨z,us,0,r,Heap.get?_push_size _ rfl⟩
end
abbrev Sp:=List V->Hp->VK->XK->Prop
abbrev NR:=List Env->Hp->Shared->XK->Value->Shared->Prop
structure HR(P:Program)(w:World)(K:Frag)(mg:Str->Option Value)(zt:Heap)(A:Around)(zn:List Env)(s:Shared)(H:Hp):Prop where
 frames:A.frames=some zn
 mod:Mod K mg zt
 bs:∀ b o,zt.get? b=some o->s.heap.get? b=some o/\H b=none
 Ue:zt.objs.size<=s.heap.objs.size
 yv:s.heap.FunFrames zt zn
 Vi:∀ b∈Nz zn,H b=none
 hok:vd P w H s.heap
 bare:AllBare s.gens
def CE(zn:List Env)(P:Program)(w:World)(H:Hp)(s:Shared)(Q:VK)(u:Value)(s':Shared):Prop :=
 ∃ v H',s'.os=s.os/\AllBare s'.gens/\Un (Nz zn) [] H H' s.heap s'.heap/\vd P w H' s'.heap/\RelV v u/\Q v H'
def CR(CX:NR)(zn:List Env)(P:Program)(w:World)(H:Hp)(s:Shared)(Q:VK)(E:XK)(r:Result)(s':Shared):Prop :=
 match r with
 | .ok (.ret u)=>CE zn P w H s Q u s'
 | .ok _=>False
 | .error e=>CX zn H s E e s'
structure bq(P:Program)(w:World)(K:Frag)(mg:Str->Option Value)(zt:Heap)(CX:NR)(k:Nat)(f:Addr)(fd:FuncData)(ps:List Str)(sp:Sp):Prop where
 len:∀ vs H Q E,sp vs H Q E->vs.length=ps.length
 run:∀ (A:Around) (zn:List Env) (s:Shared) (H:Hp) (args:Args) (us:List Value) (vs:List V) (Q:VK) (E:XK),jt k A->HR P w K mg zt A zn s H->BindsTo s fd args (ps.zip us)->cC vs us->sp vs H Q E->
  codeAny (model P w) A (.call (.ref f) args) (CR CX zn P w H s Q E) s
theorem HR.make{P:Program}{w:World}{K:Frag}{mg:Str->Option Value}{zt:Heap}{A:Around}{zn:List Env}{s:Shared}{H:Hp}(e:HR P w K mg zt A zn s H)(C:Addr)(us:List Value)(kw:List (Str × Value)) :
  HR P w K mg zt (A.under (.builtin "type.__call__" ⟨.ref C::us,kw⟩)) zn s H:=⟨by first|exact e.frames|(simpa [Around.under,Code.envs,Code.isFrame,pushEnvs] using e.frames),e.mod,e.bs,e.Ue,e.yv,e.Vi,e.hok,e.bare⟩
section
variable {X:Cx} {ao:List (Addr × Obj)} {σ:St} {H:Hp} {s s':Shared}
theorem Inv.YW(I:Inv X ao σ H s):HR X.prog X.w X.K X.mg X.zt X.A X.stack s H :=
 ⟨I.ok.frames,I.ok.mod,I.bs,gV I.ok.Ue I.sz,I.stack,I.JY,I.hok,I.bare⟩
theorem Inv.after{Q:VK}{u:Value}(I:Inv X ao σ H s)(h:CE X.stack X.prog X.w H s Q u s'):EP X ao σ Q u s':=by
 obtain⟨v,H',os,bare,un,hok,r,q⟩:=h;obtain⟨hh,g,d,t,os'⟩:=s';obtain rfl:os'=s.os:=os;exact⟨v,H',I.call (h':=hh) (g':=g) (d':=d) (t':=t) (ch:=[]) un hok bare (λb z=>absurd z (by simp)),r,q⟩
end
def J8(sp:Sp)(zB:List V)(E:XK)(t:TA):TE:=fun σ H Q=>t σ H λvs H1=>sp (vs++zB) H1 Q E
inductive VA(C:Addr)(m:Str)(x:V)(H:Hp)(N:Prop):Prop
 | mk (a dx:Addr) (fs:List (Str × V)) (_:x=.ref a) (_:H a=some (.ins C dx fs)) (_:fs.lookup m=none) (_:N):VA C m x H N
def J9(C:Addr)(m:Str)(sp:Sp)(zB:List V)(E:XK)(ta:TE)(t:TA):TE:=fun σ H Q=>ta σ H λx H1=>VA C m x H1 (t σ H1 λvs H2=>sp (x::(vs++zB)) H2 Q E)
def YX(C:Addr)(sp:Sp)(zB:List V)(E:XK)(t:TA):TE:=fun σ H Q=>t σ H λvs H1=>∀ x dx,H1 x=none->H1 dx=none->dx≠x->
 sp (.ref x::(vs++zB)) (aN (aN H1 dx (.own x)) x (.ins C dx [])) (λv H2=>v=.gj/\Q (.ref x) H2) E
def Binds(K:Frag)(fd:FuncData)(ps:List Str)(ds:List Value):Prop :=
 ∀ (s:Shared) (us:List Value),K.In s.heap->(us++ds).length=ps.length->BindsTo s fd ⟨us,[]⟩ (ps.zip (us++ds))
theorem Binds.all{K:Frag}{ps:List Str}(h:∀ us:List Value,us.length=ps.length->bindArgs fd ⟨us,[]⟩=pure (ps.zip us)):Binds K fd ps []:=λs us _ hl=>by
 rw[gP]at hl ⊢;exact .of_eq (h us hl)
def oH(CX:NR)(X:Cx)(E:XK):Prop:=∀ (ao:List (Addr × Obj)) (σ:St) (H:Hp) (s:Shared) (e:Value) (s':Shared),Inv X ao σ H s->CX X.stack H s E e s'->X.xe e s'
section
variable {X:Cx} {CX:NR} {k:Nat} {f C:Addr} {fd:FuncData} {ps:List Str} {sp:Sp} {zB:List V} {ds:List Value} {E:XK} {x m:Str} {p pos mq:Pos} {e o:Expr} {es:List Expr} {ta:TE} {t:TA}
theorem Dm{σ:St}{H:Hp}{s:Shared}{Q:VK}{us:List Value}{vs:List V}(F:bq X.prog X.w X.K X.mg X.zt CX k f fd ps sp)(hr:jt k X.A)(hb:Binds X.K fd ps ds)(hd:cC zB ds)(hx:oH CX X E)
  (I:Inv X ao σ H s) (r:cC vs us) (h:sp (vs++zB) H Q E):wpAny (model X.prog X.w) X.A (call (.ref f) us) (EP X ao σ Q) X.xe s:=by
 have r2:cC (vs++zB) (us++ds):=r.append hd;have hl:(us++ds).length=ps.length:=by rw[← r2.length];exact F.len _ _ _ _ h
 refine wpAny_call (codeAny_mono (F.run X.A X.stack s H ⟨us,[]⟩ (us++ds) (vs++zB) Q E hr I.YW (hb s us I.xT hl) r2 h) λr s' hq=>?_)
 cases r with
 | error e=>exact hx ao σ H s e s' I hq
 | ok fl =>
  cases fl with
  | ret u=>exact I.after hq
  | next=>exact False.elim hq
  | brk=>exact False.elim hq
  | cont=>exact False.elim hq
theorem Ka(F:bq X.prog X.w X.K X.mg X.zt CX k f fd ps sp)(hr:jt k X.A)(hg:Gl X x)(hm:X.mg x=some (.ref f))(hk:keepIn X.K (.ref f)=true)(hb:Binds X.K fd ps ds)(hd:cC zB ds)(hx:oH CX X E)
  (ha:PA X (e::es) t) (LC:(x == ("__debug__":Str))=false:=by decide) (he:starEach (e::es) X.env=(false,eval e X.env)::starEach es X.env:=by rfl) (EX:(backTo pos (starEach es X.env)).any (·.1)=false:=by rfl) :
  PE X (.Call (.Name x p) (e::es) [] pos) (J8 sp zB E t):=by
 intro ao s σ H Q I h;refine wpAny_Call_Name_kw (yU I hg hm ?_ LC);refine callWith_K (h₀:=X.zt) I.ok.mod.kin hk (dc (ha pos ao s σ H _ I h) λus s1 ⟨vs,H1,I1,r,q⟩=>⟨I1.xT,?_⟩) he EX;exact Dm F hr hb hd hx I1 r q
theorem NS(F:bq X.prog X.w X.K X.mg X.zt CX k f fd ps sp)(hr:jt k X.A)(hg:Gl X x)(hm:X.mg x=some (.ref f))(hk:keepIn X.K (.ref f)=true)(hb:Binds X.K fd ps ds)(hd:cC zB ds)(hx:oH CX X E)
  (LC:(x == ("__debug__":Str))=false:=by decide):PE X (.Call (.Name x p) [] [] pos) (J8 sp zB E zA):=by
 intro ao s σ H Q I h;refine wpAny_Call_Name_kw (yU I hg hm ?_ LC);exact callWith_K0 I.xT hk (Dm (us:=[]) F hr hb hd hx I .nil h)
theorem Rn{pl:Sem Bool}(he:PE X o ta)(c:M9 X.K C)(hm:NP X.K C m f)(F:bq X.prog X.w X.K X.mg X.zt CX k f fd ps sp)(hr:jt k X.A)(hb:Binds X.K fd ps ds)(hd:cC zB ds)(hx:oH CX X E)(ha:PA X (e::es) t)
  (Dl:starEach (e::es) X.env=(false,eval e X.env)::starEach es X.env:=by rfl) (EX:(backTo pos (starEach es X.env)).any (·.1)=false:=by rfl)
  (ht:eval (.Call (.Attribute o m mq) (e::es) [] pos) X.env=(do
   let ov ← eval o X.env
   standAt mq.atName
   let (f,first) ← holding [ov] (getMethod ov m pl)
   callWith pos f first (backTo pos (starEach (e::es) X.env)) (backToKw pos (keywordEach [] X.env))):=by rfl) :
  PE X (.Call (.Attribute o m mq) (e::es) [] pos) (J9 C m sp zB E ta t):=by
 intro ao s σ H Q I h;refine methodCall_KW (pl:=pl) (dc (he ao s σ H _ I h) λu s1 ⟨x,H1,I1,rx,a,dx,fs,ex,ea,l,q⟩=>?_) ht;subst ex;obtain rfl:u=Value.ref a:=rx;refine zx I1 ea c hm l ?_
 refine callWith_K (first:=[.ref a]) (h₀:=X.zt) I.ok.mod.kin hm.kp (dc (ha pos ao s1 σ H1 _ I1 q) λus s2 ⟨vs,H2,I2,r,q2⟩=>⟨I2.xT,?_⟩) Dl EX
 exact Dm (us:=.ref a::us) (vs:=.ref a::vs) F hr hb hd hx I2 (.cons rfl r) q2
theorem NT{pl:Sem Bool}(he:PE X o ta)(c:M9 X.K C)(hm:NP X.K C m f)(F:bq X.prog X.w X.K X.mg X.zt CX k f fd ps sp)(hr:jt k X.A)(hb:Binds X.K fd ps ds)(hd:cC zB ds)(hx:oH CX X E)
  (ht:eval (.Call (.Attribute o m mq) [] [] pos) X.env=(do
   let ov ← eval o X.env
   standAt mq.atName
   let (f,first) ← holding [ov] (getMethod ov m pl)
   callWith pos f first (backTo pos (starEach [] X.env)) (backToKw pos (keywordEach [] X.env))):=by rfl) :
  PE X (.Call (.Attribute o m mq) [] [] pos) (J9 C m sp zB E ta zA):=by
 intro ao s σ H Q I h;refine methodCall_KW (pl:=pl) (dc (he ao s σ H _ I h) λu s1 ⟨x,H1,I1,rx,a,dx,fs,ex,ea,l,q⟩=>?_) ht;subst ex;obtain rfl:u=Value.ref a:=rx;refine zx I1 ea c hm l ?_
 exact callWith_K0 (first:=[.ref a]) I1.xT hm.kp (Dm (us:=[.ref a]) (vs:=[.ref a]) F hr hb hd hx I1 (.cons rfl .nil) q)
structure Mk(K:Frag)(C f:Addr):Prop where
 makes:makesIn K C=true
 init:findIn K (.ref C) "__init__"=some (some (.ref f))
 fn:isFn K (.ref f)=true
 kp:keepIn K (.ref C)=true
theorem NU{σ:St}{H:Hp}{s:Shared}{Q:VK}{us:List Value}{vs:List V}(M:Mk X.K C f)(F:bq X.prog X.w X.K X.mg X.zt CX k f fd ps sp)(hr:jt (k+1) X.A)(hb:Binds X.K fd ps ds)(hd:cC zB ds)
  (hx:oH CX X E) (I:Inv X ao σ H s) (r:cC vs us)
  (h:∀ x dx,H x=none->H dx=none->dx≠x->sp (.ref x::(vs++zB)) (aN (aN H dx (.own x)) x (.ins C dx [])) (λv H2=>v=.gj/\Q (.ref x) H2) E) :
  wpAny (model X.prog X.w) X.A (call (.ref C) us) (EP X ao σ Q) X.xe s:=by
 have hq:=h (s.heap.objs.size+1) s.heap.objs.size (I.hok.fresh (Nat.le_succ _)) (I.hok.fresh (fF _)) (j3 (Nat.lt_succ_self _));have I2:=Inv.made (C:=C) I;have r2:cC (V.ref (s.heap.objs.size+1)::(vs++zB)) (Value.ref (s.heap.objs.size+1)::(us++ds)):=.cons rfl (r.append hd)
 have hl:(Value.ref (s.heap.objs.size+1)::us++ds).length=ps.length:=by
  have e:=r2.length;rw[F.len _ _ _ _ hq]at e;exact e.symm
 refine wpAny_call (NO (f:=f) I.xT M.makes M.init (beq_iff_eq.mp M.fn) (codeAny_mono (F.run _ X.stack _ _ ⟨Value.ref (s.heap.objs.size+1)::us,[]⟩ (Value.ref (s.heap.objs.size+1)::(us++ds)) _ _ E (hr.make C us []) (I2.YW.make C us []) (hb _ (Value.ref (s.heap.objs.size+1)::us) I2.xT hl) r2 hq) λr s' VB=>?_))
 cases r with
 | error e=>exact hx ao σ _ _ e s' I2 VB
 | ok fl =>
  cases fl with
  | ret u =>
   obtain⟨v,H',I3,rv,ev,q3⟩:=I2.after VB;subst ev;exact⟨rv,⟨V.ref (s.heap.objs.size+1),H',I3,rfl,q3⟩⟩
  | next=>exact False.elim VB
  | brk=>exact False.elim VB
  | cont=>exact False.elim VB
theorem pD(M:Mk X.K C f)(F:bq X.prog X.w X.K X.mg X.zt CX k f fd ps sp)(hr:jt (k+1) X.A)(hg:Gl X x)(hm:X.mg x=some (.ref C))(hb:Binds X.K fd ps ds)(hd:cC zB ds)(hx:oH CX X E)
  (LC:(x == ("__debug__":Str))=false:=by decide):PE X (.Call (.Name x p) [] [] pos) (YX C sp zB E zA):=by
 intro ao s σ H Q I h;refine wpAny_Call_Name_kw (yU I hg hm ?_ LC);exact callWith_K0 I.xT M.kp (NU (us:=[]) M F hr hb hd hx I .nil h)
end
structure aH(N P:List Str)(sc:Scope):Prop where
 kind:sc.kind=.function
 co:sc.isCoroutine=false
 gen:sc.isGenerator=false
 nd:N.Nodup
 pre:N.take P.length=P
 par:∀ x∈P,sc.names.lookup x=some .local\/sc.names.lookup x=some .cell
 VC:∀ y∈sc.names,y.2≠.free
theorem BX{kindOf:Str->Option NameKind}{x:Str}:∀ {binds:List (Str × Value)} {m:Str->Option Value},(∀ v,(x,v)∉binds)->bindL kindOf binds m x=m x
 | [],_,_=>rfl
 | (n,v)::r,m,h=>by
  unfold bindL;rw[BX λw hw=>h w (mO _ hw)];split
  ·have:x≠n:=by rintro rfl;exact h v List.mem_cons_self
   simp[this]
  ·rfl
theorem BY{kindOf:Str->Option NameKind}{x:Str}:∀ {binds:List (Str × Value)} {m:Str->Option Value},(∀ v,(x,v)∉binds)->bindC kindOf binds m x=m x
 | [],_,_=>rfl
 | (n,v)::r,m,h=>by
  unfold bindC;rw[BY λw hw=>h w (mO _ hw)];split
  ·rfl
  ·have:x≠n:=by rintro rfl;exact h v List.mem_cons_self
   simp[this]
theorem BZ{kindOf:Str->Option NameKind}{x:Str}{v:Value}:∀ {P:List Str} {vs:List Value} {i:Nat} {m:Str->Option Value},P.Nodup->P[i]?=some x->vs[i]?=some v->kindOf x=some .local->
  bindL kindOf (P.zip vs) m x=some v
 | [],_,_,_,_,h,_,_=>by simp at h
 | _::_,[],_,_,_,_,h,_=>by simp at h
 | p::P,w::vs,0,m,nd,h1,h2,hk=>by
  simp at h1 h2;subst h1;subst h2;show bindL kindOf ((p,w)::P.zip vs) m p=_;unfold bindL;rw[BX λv hv=>(List.nodup_cons.mp nd).1 (List.of_mem_zip hv).1,if_pos hk];simp
 | p::P,w::vs,i+1,m,nd,h1,h2,hk=>by
  show bindL kindOf ((p,w)::P.zip vs) m x=_;unfold bindL;exact BZ (i:=i) (List.nodup_cons.mp nd).2 (by simpa using h1) (by simpa using h2) hk
theorem B0{kindOf:Str->Option NameKind}{x:Str}{v:Value}:∀ {P:List Str} {vs:List Value} {i:Nat} {m:Str->Option Value},P.Nodup->P[i]?=some x->vs[i]?=some v->kindOf x≠some .local->
  bindC kindOf (P.zip vs) m x=some v
 | [],_,_,_,_,h,_,_=>by simp at h
 | _::_,[],_,_,_,_,h,_=>by simp at h
 | p::P,w::vs,0,m,nd,h1,h2,hk=>by
  simp at h1 h2;subst h1;subst h2;show bindC kindOf ((p,w)::P.zip vs) m p=_;unfold bindC;rw[BY λv hv=>(List.nodup_cons.mp nd).1 (List.of_mem_zip hv).1,if_neg hk];simp
 | p::P,w::vs,i+1,m,nd,h1,h2,hk=>by
  show bindC kindOf ((p,w)::P.zip vs) m x=_;unfold bindC;exact B0 (i:=i) (List.nodup_cons.mp nd).2 (by simpa using h1) (by simpa using h2) hk
def start(N:List Str)(vs:List V):St:=vs.map some++List.replicate (N.length-vs.length) none
def HS(CX:NR)(P:Program)(w:World)(K:Frag)(mg:Str->Option Value)(zt:Heap)(N:List Str)(fP:Str)(scope:Scope)(f:Addr)(cd:Value)(A:Around)(zn:List Env)(s:Shared)(H:Hp)(E:XK):Cx where
 prog:=P
 w:=w
 K:=K
 mg:=mg
 zt:=zt
 A:=A.deeper (envOfC fP scope s.heap.objs.size f cd)
 N:=N
 s₀:=s
 H₀:=H
 env:=envOfC fP scope s.heap.objs.size f cd
 zn:=zn
 stack:=envOfC fP scope s.heap.objs.size f cd::zn
 ex:=[]
 calm:=true
 fn:=λ_=>true
 pn:=[]
 xe:=λe s'=>wpAny (model P w) (A.deeper (envOfC fP scope s.heap.objs.size f cd)) (leaving (envOfC fP scope s.heap.objs.size f cd) e) (λ_ s''=>CX zn H s E e s'') (λe' s''=>CX zn H s E e' s'') s'
theorem Fe{sc:Scope}{n:Nat}{x:Str}(h:sc.names.lookup x=some .cell):∃ c,(cellsFrom n sc.names []).lookup x=some c:=by
 have q:=cellsFrom_some sc.names n [] (.inl h);exact Option.isSome_iff_exists.mp q
theorem LF{CX:NR}{P:Program}{w:World}{K:Frag}{mg:Str->Option Value}{zt:Heap}{N ps:List Str}{fP:Str}{scope:Scope}{f:Addr}{cd:Value}{A:Around}{zn:List Env}{s s1:Shared}{H:Hp}{E:XK}{us:List Value}{vs:List V}
  (S:aH N ps scope) (hd:A.handled=none) (e0:HR P w K mg zt A zn s H) (hl:vs.length=ps.length) (r:cC vs us)
  (x:InCallC s s.heap.objs.size (bindL (envOfC fP scope s.heap.objs.size f cd).kindOf (ps.zip us) λ_=>none) (cellsFrom (s.heap.objs.size+1) scope.names []) (bindC (envOfC fP scope s.heap.objs.size f cd).kindOf (ps.zip us) λ_=>none) s1) :
  Inv (HS CX P w K mg zt N fP scope f cd A zn s H E) [] (start N vs) H s1:=by
 have EX:ps.length<=N.length:=by have:=congrArg List.length S.pre;rw[gx]at this;lia
 obtain⟨h1,tk,rfl,hk⟩:=x.done;have YY:∀ b:Addr,b∉(HS CX P w K mg zt N fP scope f cd A zn s H E).ex:=λb z=>absurd (show b∈([]:List Addr) from z) (by simp)
 exists ⟨e0.mod,S.kind,V,fF _,λy z c h1 h2=>?_,λy hy=>?_,λy c _ h=>?_,λ_=>hd,Around.frames_deeper e0.frames,.inr ⟨V⟩,λb z=>absurd z (YY b),e0.bs,e0.Ue,λb _ _=>YY b,λb z=>absurd z (YY b),e0.yv,e0.Vi⟩,
  rfl,e0.bare,Un.kept hk,⟨_,x.toInCall.ns,λi y v h1 h2 h3=>?_⟩,λy c h=>⟨_,x.cell y c h⟩,e0.hok.fresh (fF _),λy c h=>?_,λp hp=>absurd (show p∈([]:List (Addr × Obj)) from hp) (by simp),e0.hok.kept hk
 ·exact name_of_addr x.apart (PySem.mem_of_lookup h1) (PySem.mem_of_lookup h2)
 ·have hy:scope.names.lookup y=some .cell\/scope.names.lookup y=some .free:=hy;rcases hy with hy|hy
  ·exact Fe hy
  ·exact absurd rfl (S.VC _ (PySem.mem_of_lookup hy))
 ·exact gT (x.above y c (PySem.mem_of_lookup h))
 ·have hi:i<vs.length:=by
   unfold start at h2;by_cases hi:i<vs.length
   ·exact hi
   ·rw[List.getElem?_append_right (by simpa using hi)]at h2;rw[List.getElem?_replicate]at h2
    split at h2 <;> cases h2
  have ha:vs[i]?=some v:=by
   unfold start at h2;rw[List.getElem?_append_left (by simpa using hi),mY]at h2
   cases e:vs[i]? with
   | none=>rw[e]at h2;cases h2
   | some a=>rw[e]at h2;cases h2;rfl
  obtain⟨u,hu,rv⟩:=r.get ha
  have hp:ps[i]?=some y:=by
   rw[← S.pre,List.getElem?_take_of_lt ∅];exact h1
  have ndP:ps.Nodup:=by rw[← S.pre];exact S.nd.sublist (List.take_sublist _ _)
  exists u,rv;rcases S.par y (oF hp) with k|k
  ·exact .inl ⟨k,BZ ndP hp hu k⟩
  ·obtain⟨c,e⟩:=Fe (n:=s.heap.objs.size+1) k;refine .inr ⟨.inl k,c,e,?_⟩;have q:=x.cell y c e;rw[B0 ndP hp hu (by show scope.names.lookup y≠_;rw[k];decide)]at q;exact q
 ·exact e0.hok.fresh (gT (x.above y c (PySem.mem_of_lookup h)))
 ·unfold start;show _=N.length;rw[cY,cy,zg];lia
theorem YZ{CX:NR}{P:Program}{w:World}{K:Frag}{mg:Str->Option Value}{zt:Heap}{k:Nat}{f:Addr}{name fP:Str}{params:Arguments}{scope:Scope}{dV kV xW pm cV ct oc:Value}{an od:Option Addr}
  {Na:Array (Option Value)} {N ps:List Str} {sp:Sp} (lk:K.lookup f=some ⟨oc,od,.func (fnOf name fP params body scope dV kV xW pm an cV ct),Na⟩) (NC:codeIn K cV fP=true) (S:aH N ps scope)
  (len:∀ vs H Q E,sp vs H Q E->vs.length=ps.length)
  (Ff:∀ (A:Around) (zn:List Env) (s:Shared) (H:Hp) (vs:List V) (Q:VK) (E:XK),jt k (A.deeper (envOfC fP scope s.heap.objs.size f cV))->sp vs H Q E->
   ∃ t,J2 (HS CX P w K mg zt N fP scope f cV A zn s H E) body t/\t { nx:=λ_ H'=>Q .gj H',rt:=Q } (start N vs) H) :
  bq P w K mg zt CX (k+1) f (fnOf name fP params body scope dV kV xW pm an cV ct) ps sp:=by
 refine⟨len,λA zn s H args us vs Q E hr e0 hb r LG=>?_⟩;have hl:=len _ _ _ _ LG;have KX:K.In s.heap:=e0.mod.kin.keeps λb o e=>(e0.bs b o e).1;have lim:s.heap.NoLimit:=e0.mod.nolimit.keeps λb o e=>(e0.bs b o e).1
 have hkind:∀ y∈ps.zip us,scope.names.lookup y.1=some .local\/(scope.names.lookup y.1=some .cell/\((cellsFrom (s.heap.objs.size+1) scope.names []).lookup y.1).isSome=true):=λ⟨n,v⟩ hy=>by
  rcases S.par n (List.of_mem_zip hy).1 with q|q
  ·exact .inl q
  ·exact .inr ⟨q,cellsFrom_some _ _ _ (.inl q)⟩
 refine codeAny_call_function hr.depth (KX _ _ lk) rfl S.co S.gen rfl (PySem.W.codeRec_of KX NC) (hb _ _ _ _ ?_);refine wpAny_newFunctionEnv_cells S.kind hkind λenv he s1 x=>?_;subst he;refine⟨lim.keeps x.toInCall.keep,codeAny_func ?_⟩;obtain⟨t,ht,hq⟩:=Ff A zn s H vs Q E (hr.deeper _) LG;have I:Inv (HS CX P w K mg zt N fP scope f cV A zn s H E) [] (start N vs) H s1:=LF S hr.hd e0 hl r x;refine wpAny_mono (ht [] s1 (start N vs) H _ I hq) (λfl s' hs=>?_) λe s' hs=>hs;have jG:∀ {σ':St} {H':Hp} {v:V} {u:Value},Inv (HS CX P w K mg zt N fP scope f cV A zn s H E) [] σ' H' s'->RelV v u->Q v H'->CE zn P w H s Q u s' := λ{σ' H' v u} J rv q=>⟨v,H',J.os,J.bare,J.zt,J.hok,rv,q⟩
 cases fl with
 | ret u =>
  obtain⟨v,σ',H',J,rv,q⟩:=hs;exact jG J rv q
 | next =>
  obtain⟨σ',H',J,q⟩:=hs;exact jG (v:=V.gj) (u:=Value.none) J rfl q
 | brk =>
  obtain⟨_,_,_,q⟩:=hs;exact False.elim q
 | cont =>
  obtain⟨_,_,_,q⟩:=hs;exact False.elim q
end L2
namespace L2
open Spec Rows
section
variable {X:Cx} {x:Str} {p pos:Pos} {e:Expr} {es:List Expr} {t:TA} {id T:String} {r:List V->Hp->VK->Prop}
def tCB(r:List V->Hp->VK->Prop)(t:TA):TE:=fun σ H Q=>t σ H λvs H1=>r vs H1 Q
theorem cz(hc:j7 X (.builtin id) r)(hg:Gl X x)(hm:X.mg x=none)(hv:bootBuiltins x=some (.builtin id))(ha:PA X (e::es) t)(hn:x≠"__name__":=by decide)(LC:(x == ("__debug__":Str))=false:=by decide)
  (he:starEach (e::es) X.env=(false,eval e X.env)::starEach es X.env:=by rfl) (EX:(backTo pos (starEach es X.env)).any (·.1)=false:=by rfl):PE X (.Call (.Name x p) (e::es) [] pos) (tCB r t):=by
 intro ao s σ H Q I h;refine wpAny_Call_Name_kw (zl I hg hm hv ?_ hn LC);exact PyProof.Rows.callWith_builtin1 (dc (ha pos ao s σ H _ I h) λus s1 ⟨vs,H1,I1,r1,q1⟩=>hc ao s1 σ H1 vs us Q I1 r1 q1) he EX
theorem eS(hc:j7 X (.type T) r)(hg:Gl X x)(hm:X.mg x=none)(hv:bootBuiltins x=some (.type T))(ha:PA X (e::es) t)(hn:x≠"__name__":=by decide)(LC:(x == ("__debug__":Str))=false:=by decide)
  (he:starEach (e::es) X.env=(false,eval e X.env)::starEach es X.env:=by rfl) (EX:(backTo pos (starEach es X.env)).any (·.1)=false:=by rfl):PE X (.Call (.Name x p) (e::es) [] pos) (tCB r t):=by
 intro ao s σ H Q I h;refine wpAny_Call_Name_kw (zl I hg hm hv ?_ hn LC);exact PyProof.Rows.callWith_type1 (dc (ha pos ao s σ H _ I h) λus s1 ⟨vs,H1,I1,r1,q1⟩=>hc ao s1 σ H1 vs us Q I1 r1 q1) he EX
end
end L2
namespace HT
open Rows
section
variable {prog:Program} {w:World} {A:Around} {E:Value->Shared->Prop} {s:Shared}
def jd(n d:Nat):Option Int->Nat
 | none=>d
 | some v=>if v<0 then (v+(n:Int)).toNat else min v.toNat n
theorem Kc(n d k:Nat):jd n d (some (k:Int))=min k n:=by
 show (if (k:Int)<0 then ((k:Int)+(n:Int)).toNat else min (k:Int).toNat n)=min k n;rw[if_neg ∅,Int.toNat_natCast]
theorem VD(n d:Nat)(hd:d<=n)(o:Option Int):jd n d o<=n:=by
 cases o with
 | none=>exact hd
 | some v =>
  show (if v<0 then (v+(n:Int)).toNat else min v.toNat n)<=n;by_cases hv:v<0
  ·rw[if_pos hv];lia
  ·rw[if_neg hv];exact Nat.min_le_right _ _
theorem Kd(v:Int)(n d:Nat):(if v<0 then max (v+(n:Int)) 0 else min v (n:Int))=((jd n d (some v):Nat):Int):=by
 show (if v<0 then max (v+(n:Int)) 0 else min v (n:Int))=(((if v<0 then (v+(n:Int)).toNat else min v.toNat n):Nat):Int);by_cases hv:v<0
 ·simp only[if_pos hv];lia
 ·simp only[if_neg hv];lia
theorem HU(lo hi:Option Int)(n:Nat):Builtin.Slice.sliceAdjust lo hi 1 (n:Int)=(((jd n 0 lo:Nat):Int),((jd n n hi:Nat):Int)):=by
 have h1:¬ ((1:Int)<0):=by lia
 unfold Builtin.Slice.sliceAdjust;simp only[h1,if_false];refine Prod.ext ?_ ?_
 ·cases lo with
  | none=>rfl
  | some v=>exact Kd v n 0
 ·cases hi with
  | none=>rfl
  | some v=>exact Kd v n n
theorem HV(i j:Nat):Builtin.Slice.slicePlaces (i:Int) (j:Int) 1=j-i:=by
 unfold Builtin.Slice.slicePlaces;have h1:(1:Int) > 0:=by lia
 simp only[h1,if_true,Int.ediv_one]
 split <;> lia
theorem zC{v:Value}{o:Option Int}{Q:Option Int->Shared->Prop}(p:IsPart v o)(h:Q o s):wpAny (model prog w) A (Builtin.Slice.slicePartIndex v) Q E s:=by
 cases p with
 | none=>exact slicePart_none h
 | int i t=>exact slicePart_int h
theorem wK{sl:Addr}{vl vu:Value}{lo hi:Option Int}{n:Nat}{Q:Int × Int × Nat->Shared->Prop}(hs:s.heap.IsSliceOf sl vl vu .none)(pl:IsPart vl lo)(pu:IsPart vu hi)
  (h:Q (((jd n 0 lo:Nat):Int),1,jd n n hi-jd n 0 lo) s):wpAny (model prog w) A (Builtin.Slice.sliceApplied (.ref sl) (pure (n:Int))) Q E s:=by
 obtain⟨os,hos,Ro,Ke⟩:=id hs;unfold Builtin.Slice.sliceApplied Builtin.Slice.sliceFields;refine wpAny_bind (wpAny_bind (wpAny_field hos Ke (x:=vl) rfl (wpAny_bind (wpAny_field hos Ke (x:=vu) rfl (wpAny_bind (wpAny_field hos Ke (x:=.none) rfl (wpAny_pure ?_)))))));refine wpAny_bind (slicePart_none ?_);show wpAny _ _ (if ((1:Int) == 0)=true then _ else _) _ _ s;rw[if_neg (by decide)];refine wpAny_bind (zC pl (wpAny_bind (zC pu (wpAny_bind (wpAny_pure ?_)))));show wpAny _ _ (match Builtin.Slice.sliceAdjust lo hi 1 (n:Int) with|(lo,hi)=>pure (lo,(1:Int),Builtin.Slice.slicePlaces lo hi 1)) _ _ s;rw[HU lo hi n];show wpAny _ _ (pure (((jd n 0 lo:Nat):Int),(1:Int),Builtin.Slice.slicePlaces ((jd n 0 lo:Nat):Int) ((jd n n hi:Nat):Int) 1)) _ _ s;rw[HV];exact wpAny_pure h
theorem NV(xs:Array Value)(i k:Nat):((List.range k).filterMap λ(m:Nat)=>xs[((i:Int)+(m:Int)*1).toNat]?).toArray=((xs.toList.drop i).take k).toArray:=by
 have e:(λ(m:Nat)=>xs[((i:Int)+(m:Int)*1).toNat]?)=λm=>xs[i+m]?:=by
  funext m;have:((i:Int)+(m:Int)*1).toNat=i+m:=by lia
  rw[this]
 rw[e];have:=pick_run xs i k;rw[List.filterMap_map]at this;have e2:((λx=>xs[x]?) ∘ λx=>i+x)=λm=>xs[i+m]?:=rfl;rw[e2]at this;rw[this]
theorem vh{t sl:Addr}{items:Array Value}{vl vu:Value}{lo hi:Option Int}{Q:Value->Shared->Prop}(ht:IsTup s.heap t items)(hs:s.heap.IsSliceOf sl vl vu .none)(pl:IsPart vl lo)(pu:IsPart vu hi)
  (hw:¬ (jd items.size 0 lo=0/\jd items.size items.size hi=items.size))
  (h:Q (.ref s.heap.objs.size) { s with heap:=s.heap.push { cls:=.type "tuple",data:=.seq ((items.toList.drop (jd items.size 0 lo)).take (jd items.size items.size hi-jd items.size 0 lo)).toArray } })
  (hsz:items.size<=sizeLine):wpAny (model prog w) A (getItem (.ref t) (.ref sl)) Q E s:=by
 have Kf:sizeOk (.seq ((items.toList.drop (jd items.size 0 lo)).take (jd items.size items.size hi-jd items.size 0 lo)).toArray):=by
  show ((items.toList.drop (jd items.size 0 lo)).take (jd items.size items.size hi-jd items.size 0 lo)).toArray.size<=sizeLine;rw[gS,gx,qV,Array.length_toList];lia
 have hj:jd items.size items.size hi<=items.size:=VD _ _ (fF _) hi;obtain⟨os,hos,Ro,Ke⟩:=id hs;have hTs:s.TypeIs (.ref sl) "slice":=⟨os,hos,Ro⟩;unfold getItem
 try with_reducible refine wpAny_holding ?_
 first|refine wpAny_bind (wpAny_pure ?_)|skip
 refine wpAny_bind (wpAny_sequenceKey ht.typeIs (by decide) ?_);refine wpAny_bind (wpAny_callSpecial?_slot (name:=Str.ofString "__getitem__") ht.typeIs PyProof.Rows.slot_tuple_getitem (wpAny_call_entry PyProof.Rows.slot_tuple_getitem ht.typeIs entry_tuple_getitem ?_ (args_tuple_getitem _ _)));show wpAny _ _ (Builtin.Tuple.tupleItemsOf (.ref t) >>= _) _ _ s;refine wpAny_bind (tupleItemsOf_ ht ?_);refine wpAny_bind (wpAny_typeOf hTs ?_);rw[if_pos (by decide)];refine wpAny_bind (wK hs pl pu ?_)
 have Y0:¬ ((((jd items.size 0 lo:Nat):Int) == 0&&(1:Int) == 1&&(jd items.size items.size hi-jd items.size 0 lo) == items.size)=true):=by
  intro q;rw[Bool.and_eq_true,Bool.and_eq_true]at q;have q1:((jd items.size 0 lo:Nat):Int)=0:=eq_of_beq q.1.1;have q2:jd items.size items.size hi-jd items.size 0 lo=items.size:=eq_of_beq q.2;exact hw ⟨Q,Q⟩
 show wpAny _ _ (if (((jd items.size 0 lo:Nat):Int) == 0&&(1:Int) == 1&&(jd items.size items.size hi-jd items.size 0 lo) == items.size)=true then _ else _) _ _ s;rw[if_neg Y0,NV]
 first
  | exact wpAny_bind (m:=Builtin.Tuple.tupleExact _) (wpAny_newObj_type (wpAny_pure ⟨Y,wpAny_pure h⟩) Kf)
  | exact wpAny_bind (m:=Builtin.Tuple.tupleExact _) (wpAny_newObj_type (wpAny_bind (wpAny_pure (wpAny_pure ⟨Y,wpAny_pure h⟩))) Kf)
  | exact wpAny_bind (wpAny_bind (m:=Builtin.Tuple.tupleExact _) (wpAny_newObj_type (wpAny_pure (wpAny_pure ⟨Y,wpAny_pure h⟩)) Kf))
  | exact wpAny_bind (wpAny_bind (m:=Builtin.Tuple.tupleExact _) (wpAny_newObj_type (wpAny_pure ⟨Y,wpAny_pure h⟩) Kf))
end
end HT
namespace L2
open Spec Rows
abbrev TO:=St->Hp->(Option Int->Hp->Prop)->Prop
def PO(X:Cx)(e:Option Expr)(t:TO):Prop :=
 ∀ (ao:List (Addr × Obj)) (s:Shared) (σ:St) (H:Hp) (Q:Option Int->Hp->Prop),Inv X ao σ H s->t σ H Q->
  wpAny (model X.prog X.w) X.A (evalPart e X.env) (λu s'=>∃ o H',Inv X ao σ H' s'/\IsPart u o/\Q o H') X.xe s
def Rp:TO:=λ_ H Q=>Q none H
def Y3(t:TE):TO:=fun σ H Q=>t σ H λx H1=>isI x H1 Q
theorem intsAre_of{ns:List Int}:∀ {us:List Value},cC (ns.map V.int) us->IntsAre us ns:=by
 induction ns with
 | nil=>intro us r;rw[List.map_nil]at r;cases r;exact .nil
 | cons n ns ih =>
  intro us r;rw[jJ]at r
  cases r with
  | cons r1 r2 =>
   obtain⟨t,e⟩:=r1;subst e;exact .cons n t (ih r2)
section
variable {X:Cx} {e:Expr} {te:TE} {lo hi:Option Expr} {tl th:TO} {pos p2:Pos}
theorem n8:PO X none Rp:=by
 intro ao s σ H Q I h;rw[evalPart_none];exact wpAny_pure ⟨none,H,I,.none,h⟩
theorem je(h:PE X e te):PO X (some e) (Y3 te):=by
 intro ao s σ H Q I hw;rw[evalPart_some];refine dc (h ao s σ H _ I hw) λu s1 HG=>?_;obtain⟨x,H1,I1,r1,q1⟩:=HG;obtain⟨i,rfl,q⟩:=q1;obtain⟨t,rfl⟩:=r1;exact⟨some i,H1,I1,.int i t,q⟩
def SlR(X:Cx)(r:V->Option Int->Option Int->Hp->VK->Prop):Prop :=
 ∀ (ao:List (Addr × Obj)) (s:Shared) (σ:St) (H:Hp) (x:V) (v vl vu:Value) (lo hi:Option Int) (sl:Addr) (Q:VK),Inv X ao σ H s->RelV x v->s.heap.IsSliceOf sl vl vu .none->IsPart vl lo->IsPart vu hi->r x lo hi H Q->
  ∃ T id,typeLookup (.type T) "__getitem__"=pure (some (.builtin id))/\s.TypeIs v T/\wpAny (model X.prog X.w) X.A (getItem v (.ref sl)) (EP X ao σ Q) X.xe s
def tSl(r:V->Option Int->Option Int->Hp->VK->Prop)(te:TE)(tl th:TO):TE:=fun σ H Q=>te σ H λx H1=>tl σ H1 λl H2=>th σ H2 λu H3=>r x l u H3 Q
theorem iX{r:V->Option Int->Option Int->Hp->VK->Prop}(hr:SlR X r)(he:PE X e te)(hl:PO X lo tl)(hu:PO X hi th):PE X (.Subscript e (.Slice lo hi none p2) pos) (tSl r te tl th):=by
 intro ao s σ H Q I h;refine Subscript_ (dc (he ao s σ H _ I h) λv s1 A9=>?_);obtain⟨x,H1,I1,r1,q1⟩:=A9;refine wpAny_Slice (dc (hl ao s1 σ H1 _ I1 q1) λvl s2 ⟨l,H2,I2,pl,q2⟩=>dc (hu ao s2 σ H2 _ I2 q2) λvu s3 Fb=>?_);obtain⟨u,H3,I3,pu,q3⟩:=Fb;rw[evalPart_none];refine wpAny_pure ?_;have I4:Inv X ao σ H3 { s3 with heap:=s3.heap.push { cls:=.type "slice",data:=.fields #[vl,vu,.none] } }:=I3.kept (t':=s3.toks) λb ob q=>Heap.get?_push_of_some _ q;obtain⟨T,id,hT,ht,hg⟩:=hr ao { s3 with heap:=s3.heap.push { cls:=.type "slice",data:=.fields #[vl,vu,.none] } } σ H3 x v vl vu l u s3.heap.objs.size Q I4 r1 (Heap.IsSliceOf.new ..) pl pu q3;show wpAny (model X.prog X.w) X.A (subscriptTail e (.Slice lo hi none p2) v (.ref s3.heap.objs.size)) (EP X ao σ Q) X.xe { s3 with heap:=s3.heap.push { cls:=.type "slice",data:=.fields #[vl,vu,.none] } };exact tail_any (ops:=[.ref s3.heap.objs.size,v]) ht hT hg (by with_unfolding_all rfl)
def kU(xs:List V)(lo hi:Option Int):List V:=(xs.drop (HT.jd xs.length 0 lo)).take (HT.jd xs.length xs.length hi-HT.jd xs.length 0 lo)
theorem xX(xs:List V)(lo hi:Option Int):(kU xs lo hi).length<=xs.length:=by
 unfold kU;rw[gx,qV];lia
def acW(K:Frag):V->Option Int->Option Int->Hp->VK->Prop:=λx lo hi H Q=>∃ a xs,x=.ref a/\cX K H a xs/\
 ¬ (HT.jd xs.length 0 lo=0/\HT.jd xs.length xs.length hi=xs.length)/\∀ p,H p=none->Q (.ref p) (aN H p (.tup (kU xs lo hi)))
theorem VE:SlR X (acW X.K):=by
 intro ao s σ H x v vl vu lo hi sl Q I rx hs pl pu h;obtain⟨a,xs,rfl,hx,hw,q⟩:=h;cases rx;obtain⟨aM,r,ht,hz⟩:=I.tuple hx;have dI:aM.toArray.size=xs.length:=by rw[gS];exact r.length.symm
 exists "tuple",_,PyProof.Rows.slot_tuple_getitem.lookup,ht.typeIs;refine HT.vh ht hs pl pu (by rw[dI];exact hw) ?_ (by rw[dI];exact hz);rw[dI];refine⟨.ref s.heap.objs.size,_,I.laid (t':=s.toks) (o:=.tup (kU xs lo hi)) (λb ob q=>Heap.get?_push_of_some _ q) (fF _) ?_,rfl,q _ (I.hok.fresh (fF _))⟩;exact⟨Nat.le_trans (xX xs lo hi) hz,_,(r.drop (HT.jd xs.length 0 lo)).take (HT.jd xs.length xs.length hi-HT.jd xs.length 0 lo),IsTup.new _ _⟩
end
end L2
namespace L2
open Spec Rows
def Kg(n:Nat)(i:Int):Option Nat:=if 0<=i then (if i<n then some i.toNat else none) else if -(n:Int)<=i then some (i+n).toNat else none
def pU{α:Type}(xs:List α)(i:Int):Option α:=(Kg xs.length i).bind λj=>xs[j]?
theorem Kh{n:Nat}{i:Int}{j:Nat}(h:Kg n i=some j):seqIndex? i n=some j/\j<n/\-(n:Int)<=i/\i<n:=by
 unfold Kg at h;by_cases h0:0<=i
 ·rw[if_pos h0]at h;by_cases h1:i<n
  ·rw[if_pos h1]at h;have e:i.toNat=j:=qW h;exact⟨by rw[seqIndex_of h0 h1,e],Q,Q,h1⟩
  ·rw[if_neg h1]at h;cases h
 ·rw[if_neg h0]at h;by_cases h1:-(n:Int)<=i
  ·rw[if_pos h1]at h;have e:(i+n).toNat=j:=qW h;exact⟨by rw[seqIndex_neg ∅ h1,e],Q,h1,Q⟩
  ·rw[if_neg h1]at h;cases h
theorem Dp{α:Type}{xs:List α}{i:Int}{v:α}(h:pU xs i=some v):∃ j,seqIndex? i xs.length=some j/\xs[j]?=some v/\j<xs.length/\-(xs.length:Int)<=i/\i<xs.length:=by
 unfold pU at h
 cases e:Kg xs.length i with
 | none=>rw[e]at h;cases h
 | some j =>
  rw[e]at h;obtain⟨h1,h2,h3,h4⟩:=Kh e;exact⟨j,h1,h,h2,h3,h4⟩
theorem cO{α:Type}{xs:List α}{j:Nat}{v:α}(h:xs[j]?=some v):pU xs (j:Int)=some v:=by
 have hj:j<xs.length:=(List.getElem?_eq_some_iff.mp h).1
 have e:Kg xs.length (j:Int)=some j:=by
  unfold Kg;rw[if_pos ∅,if_pos ∅];simp
 unfold pU;rw[e];exact h
theorem NW{α:Type}(xs:List α)(v:α):pU (xs++[v]) (-1)=some v:=by
 have hl:(xs++[v]).length=xs.length+1:=by simp
 have e:Kg (xs++[v]).length (-1)=some xs.length:=by
  unfold Kg;rw[hl,if_neg (by decide),if_pos ∅];congr 1;lia
 unfold pU;rw[e];show (xs++[v])[xs.length]?=some v;simp
def Kl(b:Expr):Prop:=∀ o i,subscripted b false o i=operate [o,i] (getItem o i)
def XX(X:Cx)(r:R2):Prop :=
 ∀ (value tP:Expr) (ao:List (Addr × Obj)) (s:Shared) (σ:St) (H:Hp) (x y:V) (v u:Value) (Q:VK),Inv X ao σ H s->RelV x v->RelV y u->r x y H Q->
  subscripted tP false v u=operate [v,u] (getItem v u)->wpAny (model X.prog X.w) X.A (subscriptTail value tP v u) (EP X ao σ Q) X.xe s
def MtR(X:Cx)(id:String)(r:V->List V->Hp->VK->Prop):Prop :=
 ∀ (ao:List (Addr × Obj)) (s:Shared) (σ:St) (H:Hp) (x:V) (xs:List V) (v:Value) (us:List Value) (Q:VK),Inv X ao σ H s->RelV x v->cC xs us->r x xs H Q->
  wpAny (model X.prog X.w) X.A (call (.builtin id) (v::us)) (EP X ao σ Q) X.xe s
section
variable {X:Cx} {a b:Expr} {ta tb:TE} {pos:Pos}
theorem Y4{r:R2}(hr:XX X r)(ha:PE X a ta)(hb:PE X b tb)(hs:Kl b):PE X (.Subscript a b pos) (YO r ta tb):=by
 intro ao s σ H Q I h;exact Subscript_ (Vw ha hb I h λv u s2 x y H2 I2 rx ry q=>hr a b ao s2 σ H2 x y v u Q I2 rx ry q (hs _ _))
inductive acX(K:Frag)(x y:V)(H:Hp)(Q:VK):Prop
 | mk (p:Addr) (xs:List V) (i:Int) (v:V) (_:x=.ref p) (_:y=.int i) (_:bI K H p xs) (_:pU xs i=some v) (_:Q v H)
inductive Y5(K:Frag)(x y:V)(H:Hp)(Q:VK):Prop
 | mk (p:Addr) (xs:List V) (i:Int) (v:V) (_:x=.ref p) (_:y=.int i) (_:cX K H p xs) (_:pU xs i=some v) (_:Q v H)
def acY:R2:=λx y H Q=>∃ z i c,x=.str z/\y=.int i/\z.length<=sizeLine/\pU z.cps.toList i=some c/\Q (.str ⟨#[c]⟩) H
theorem bu:XX X (acX X.K):=by
 intro value tP ao s σ H x y v u Q I rx ry h hs;obtain⟨p,xs,i,z,rfl,rfl,hq,he,q⟩:=h;cases rx;obtain⟨t,rfl⟩:=ry;obtain⟨aM,r,pl,hz⟩:=I.list hq;obtain⟨j,h1,h2,h3,h4,h5⟩:=Dp he;obtain⟨w,ew,jf⟩:=r.get h2;have hl:=r.length;have hn:=uh;have jG:EP X ao σ Q w s:=⟨z,H,I,jf,q⟩;by_cases h0:0<=i
 ·have hj:i.toNat=j:=by
   rw[seqIndex_of h0 h5]at h1;exact qW h1
  exact item_listR pl.isList h0 ∅ (by rw[hj];simpa using ew) jG hs
 ·have hj:(i+(aM.toArray.size:Int)).toNat=j:=by
   rw[seqIndex_neg ∅ h4]at h1;rw[gS,← hl];exact qW h1
  exact subscriptTail_builtinR (x:=w) pl.isList.typeIs slot_list_getitem.lookup
   (wpAny_getItem_list_neg (Q:=λr s'=>r=w/\EP X ao σ Q r s') pl.isList ∅ (by rw[gS] <;> lia) ∅ (by rw[hj];simpa using ew) ⟨rfl,jG⟩) hs
theorem aX:XX X (Y5 X.K):=by
 intro value tP ao s σ H x y v u Q I rx ry h hs;obtain⟨p,xs,i,z,rfl,rfl,hq,he,q⟩:=h;cases rx;obtain⟨t,rfl⟩:=ry;obtain⟨aM,r,pl,hz⟩:=I.tuple hq;obtain⟨j,h1,h2,h3,h4,h5⟩:=Dp he;obtain⟨w,ew,jf⟩:=r.get h2;have hl:=r.length;have hn:=uh;have jG:EP X ao σ Q w s:=⟨z,H,I,jf,q⟩;exact subscriptTail_builtinR (x:=w) pl.typeIs slot_tuple_getitem.lookup (getItem_tuple (j:=j) (Q:=λr s'=>r=w/\EP X ao σ Q r s') pl ∅ ∅ (by rw[gS,← hl];exact h1) (by simpa using ew) ⟨rfl,jG⟩) hs
theorem NY:XX X acY:=by
 intro value tP ao s σ H x y v u Q I rx ry h hs;obtain⟨z,i,c,rfl,rfl,hz,he,q⟩:=h;obtain⟨t,rfl⟩:=rx;obtain⟨t',rfl⟩:=ry;obtain⟨j,h1,h2,h3,h4,h5⟩:=Dp he;have hl:z.cps.toList.length=z.length:=by simp[Str.length]
 rw[hl]at h1 h4 h5;have hn:=uh
 exact tail_any (typeIs_str s z t) slot_str_getitem.lookup (getItem_str (c:=c) (by
  have e1:decide (i < -(2^63:Int))=false:=decide_eq_false ∅;have e2:decide (i>=2^63)=false:=decide_eq_false ∅
  rw[e1,e2,Bool.or_false]) (by rw[h1];simpa using h2) ⟨.str ⟨#[c]⟩,H,I.tok _,⟨Y⟩,q⟩) hs
theorem HW(aM:List Value)(n j:Nat)(u:Value):Obj.mapSeq (·.setIfInBounds j u) { cls:=.type "list",data:=.seq aM.toArray n }={ cls:=.type "list",data:=.seq (aM.set j u).toArray n }:=by
 simp[Obj.mapSeq]
theorem Inv.lst{ao:List (Addr × Obj)}{σ:St}{H:Hp}{s:Shared}{p:Addr}{xs:List V}(I:Inv X ao σ H s)(h:H p=some (.lst xs)) :
  ∃ (aM:List Value) (n:Nat),cC xs aM/\s.heap.get? p=some { cls:=.type "list",data:=.seq aM.toArray n }/\xs.length<=sizeLine:=by
 obtain⟨z,aM,n,r,e⟩:=I.hok p _ h;exact⟨aM,n,r,e,z⟩
theorem Inv.VF{σ:St}{H:Hp}{s:Shared}{p:Addr}{xs ys:List V}{aM its':List Value}{n n':Nat}{f:Obj->Obj}(I:Inv X ao σ H s)(h:H p=some (.lst xs))
  (ho:s.heap.get? p=some { cls:=.type "list",data:=.seq aM.toArray n }) (hf:f { cls:=.type "list",data:=.seq aM.toArray n }={ cls:=.type "list",data:=.seq its'.toArray n' }) (r:cC ys its') (hz:ys.length<=sizeLine) (t:Nat) :
  Inv X ao σ (aN H p (.lst ys)) { s with heap:=s.heap.update p f,toks:=t }:=by
 have e:(s.heap.update p f).get? p=some { cls:=.type "list",data:=.seq its'.toArray n' }:=by
  rw[Heap.get?_update_self f ho (by rw[hf] <;> rfl),hf]
 refine I.write (x:=p) (e:=p) (by rw[h];trivial) (.inl rfl) (λb u hb q=>(Heap.get?_update_other _ _ (Ne.symm hb)).trans q) ⟨_,e⟩ ?_;exact⟨hz,its',n',r,e⟩
inductive Y6(o i v:V)(H:Hp)(Q:Hp->Prop):Prop
 | mk (p:Addr) (xs:List V) (k:Int) (j:Nat) (_:o=.ref p) (_:i=.int k) (_:H p=some (.lst xs)) (_:Kg xs.length k=some j) (_:Q (aN H p (.lst (xs.set j v))))
theorem iY:YJ X Y6:=by
 intro ao s σ H o i v ov iv u Q I ro ri rv h;obtain⟨p,xs,k,j,rfl,rfl,hp,hj,q⟩:=h;cases ro;obtain⟨t,rfl⟩:=ri;obtain⟨aM,n,r,ho,hz⟩:=I.lst hp;obtain⟨h1,h2,h3,h4⟩:=Kh hj;have hl:=r.length;have hn:=uh;have I':Inv X ao σ (aN H p (.lst (xs.set j v))) { s with heap:=s.heap.update p (Obj.mapSeq (·.setIfInBounds j u)) } := I.VF hp ho (HW aM n j u) (r.set rv j) (by rw[List.length_set];exact hz) s.toks;by_cases h0:0<=k
 ·have hk:k.toNat=j:=by
   rw[seqIndex_of h0 h4]at h1;exact qW h1
  exact PySem.W.ki_setAt ho h0 ∅ (by rw[gS,← hl];exact h4) (by rw[hk];exact⟨_,I',q⟩)
 ·have hk:(k+(aM.toArray.size:Int)).toNat=j:=by
   rw[seqIndex_neg ∅ h3]at h1;rw[gS,← hl];exact qW h1
  exact PySem.W.ki_setBack ho ∅ (by rw[gS,← hl];exact h3) ∅ (by rw[hk];exact⟨_,I',q⟩)
theorem Dq(lo hi:Option Int)(n:Nat):(sliceBounds lo hi none n).1=((HT.jd n 0 lo:Nat):Int)/\(sliceBounds lo hi none n).2.1=((HT.jd n n hi:Nat):Int)/\(sliceBounds lo hi none n).2.2=1:=by
 refine⟨?_,?_,rfl⟩
 ·cases lo with
  | none=>simp[sliceBounds,HT.jd]
  | some i =>
   simp only[sliceBounds,HT.jd,Option.getD_none,show (1:Int) > 0 by decide,if_true];by_cases h:i<0
   ·simp only[h,if_true] <;> lia
   ·simp only[h,if_false] <;> lia
 ·cases hi with
  | none=>simp[sliceBounds,HT.jd]
  | some i =>
   simp only[sliceBounds,HT.jd,Option.getD_none,show (1:Int) > 0 by decide,if_true];by_cases h:i<0
   ·simp only[h,if_true] <;> lia
   ·simp only[h,if_false] <;> lia
theorem Bb(aM:List Value)(lo hi:Option Int):slicePick aM.toArray lo hi none=((aM.drop (HT.jd aM.length 0 lo)).take (HT.jd aM.length aM.length hi-HT.jd aM.length 0 lo)).toArray:=by
 obtain⟨h1,h2,h3⟩:=Dq lo hi aM.toArray.size;unfold slicePick;rw[h1,h2,h3]
 simp only[sliceRange_one,pick_run,gS] <;> rfl
inductive Y7(K:Frag)(x:V)(lo hi:Option Int)(H:Hp)(Q:VK):Prop
 | mk (a:Addr) (xs:List V) (_:x=.ref a) (_:bI K H a xs) (_:∀ p,H p=none->Q (.ref p) (aN H p (.lst (kU xs lo hi)))):Y7 K x lo hi H Q
theorem mw:SlR X (Y7 X.K):=by
 intro ao s σ H x v vl vu lo hi sl Q I rx hs pl pu h;obtain⟨a,xs,rfl,hx,q⟩:=h;cases rx;obtain⟨aM,r,ht,hz⟩:=I.list hx;have dI:=r.length;exists "list",_,slot_list_getitem.lookup,ht.isList.typeIs
 refine wpAny_getItem_list_slice ht.isList hs pl pu .none (by simp) ?_ (by rw[gS] <;> lia)
 rw[Bb,← dI];refine⟨.ref s.heap.objs.size,_,I.laid (t':=s.toks) (o:=.lst (kU xs lo hi)) (λb ob q=>Heap.get?_push_of_some _ q) (fF _) ?_,rfl,q _ (I.hok.fresh (fF _))⟩;exact⟨Nat.le_trans (xX xs lo hi) hz,_,0,(r.drop (HT.jd xs.length 0 lo)).take (HT.jd xs.length xs.length hi-HT.jd xs.length 0 lo),Heap.get?_push_size _ rfl⟩
def vj:V->Bool
 | .gj=>true
 | .bl _=>true
 | .int _=>true
 | .str _=>true
 | _=>false
def Um:V->V->Bool
 | .gj,.gj=>true
 | .bl a,.bl b=>a == b
 | .bl a,.int b=>(if a then 1 else 0) == b
 | .int a,.bl b=>a == (if b then 1 else 0)
 | .int a,.int b=>a == b
 | .str a,.str b=>a == b
 | _,_=>false
theorem VG{A:Around}{s:Shared}{y x:V}{u v:Value}(ry:RelV y u)(rx:RelV x v)(fy:vj y=true)(fx:vj x=true):SeqAt.EqAt A s u v (Um y x):=by
 cases y with
 | gj =>
  cases ry
  cases x with
  | gj=>cases rx;exact SeqAt.EqAt.same _
  | bl b=>cases rx;exact SeqAt.EqAt.none_bool b
  | int b=>obtain⟨t,rfl⟩:=rx;exact SeqAt.EqAt.none_int b t
  | str b=>obtain⟨t,rfl⟩:=rx;exact SeqAt.EqAt.none_str b t
  | _=>exact absurd (show false=true from fx) nY
 | bl a =>
  cases ry
  cases x with
  | gj=>cases rx;exact SeqAt.EqAt.bool_none a
  | bl b=>cases rx;exact SeqAt.EqAt.bool_bool a b
  | int b=>obtain⟨t,rfl⟩:=rx;exact SeqAt.EqAt.bool_int a b t
  | str b=>obtain⟨t,rfl⟩:=rx;exact SeqAt.EqAt.bool_str a b t
  | _=>exact absurd (show false=true from fx) nY
 | int a =>
  obtain⟨t',rfl⟩:=ry
  cases x with
  | gj=>cases rx;exact SeqAt.EqAt.int_none a t'
  | bl b=>cases rx;exact SeqAt.EqAt.int_bool a t' b
  | int b=>obtain⟨t,rfl⟩:=rx;exact SeqAt.EqAt.int_int a t' b t
  | str b=>obtain⟨t,rfl⟩:=rx;exact SeqAt.EqAt.int_str a t' b t
  | _=>exact absurd (show false=true from fx) nY
 | str a =>
  obtain⟨t',rfl⟩:=ry
  cases x with
  | gj=>cases rx;exact SeqAt.EqAt.str_none a t'
  | bl b=>cases rx;exact SeqAt.EqAt.str_bool a t' b
  | int b=>obtain⟨t,rfl⟩:=rx;exact SeqAt.EqAt.str_int a t' b t
  | str b=>obtain⟨t,rfl⟩:=rx;exact SeqAt.EqAt.str_str a t' b t
  | _=>exact absurd (show false=true from fx) nY
 | _=>exact absurd (show false=true from fy) nY
def HX(x:V)(u:Value):Bool:=match u with
 | .none=>Um .gj x
 | .bool b=>Um (.bl b) x
 | .int i _=>Um (.int i) x
 | .str z _=>Um (.str z) x
 | _=>false
theorem NZ{x y:V}{u:Value}(r:RelV y u)(f:vj y=true):HX x u=Um y x:=by
 cases y with
 | gj=>cases r;rfl
 | bl b=>cases r;rfl
 | int i=>obtain⟨t,rfl⟩:=r;rfl
 | str z=>obtain⟨t,rfl⟩:=r;rfl
 | _=>exact absurd (show false=true from f) nY
theorem vm{x:V}:∀ {xs:List V} {us:List Value},cC xs us->xs.all vj=true->us.any (HX x)=xs.any λy=>Um y x
 | _,_,.nil,_=>rfl
 | y::xs,u::us,.cons r t,f=>by
  rw[List.all_cons,Bool.and_eq_true]at f;rw[List.any_cons,List.any_cons,NZ r f.1,vm t f.2]
theorem rj{A:Around}{s:Shared}{x:V}{v:Value}(rx:RelV x v)(fx:vj x=true):∀ {xs:List V} {us:List Value},cC xs us->xs.all vj=true->∀ u∈us,SeqAt.EqAt A s u v (HX x u)
 | _,_,.nil,_=>λu hu=>by cases hu
 | y::xs,u::us,.cons r t,f=>λu' hu=>by
  rw[List.all_cons,Bool.and_eq_true]at f;rcases List.mem_cons.mp hu with rfl|hu
  ·rw[NZ r f.1];exact VG r rx f.1 fx
  ·exact rj rx fx t f.2 u' hu
def inV(x:V)(xs:List V):Bool:=xs.any λy=>Um y x
inductive VH(K:Frag)(xs:List V)(H:Hp)(Q:VK):Prop
 | mk (p:Addr) (ys:List V) (_:xs=[.ref p]) (_:bI K H p ys\/cX K H p ys) (_:Q (.int ys.length) H):VH K xs H Q
inductive Y8(K:Frag)(xs:List V)(H:Hp)(Q:VK):Prop
 | mk (p:Addr) (ys:List V) (_:xs=[.ref p]) (_:bI K H p ys\/cX K H p ys) (_:∀ l,H l=none->Q (.ref l) (aN H l (.lst ys)))
def rIn(K:Frag)(neg:Bool):R2:=λx y H Q=>∃ p xs,y=.ref p/\(bI K H p xs\/cX K H p xs)/\vj x=true/\xs.all vj=true/\Q (.bl (if neg then !inV x xs else inV x xs)) H
theorem LH:ug X (compareOp .In) (rIn X.K false):=by
 intro ao s σ H x y v u Q I rx ry h;obtain⟨p,xs,rfl,hq,fx,fs,q⟩:=h;cases ry;rcases hq with hq|hq
 ·obtain⟨aM,r,pl,hz⟩:=I.list hq;refine SeqAt.in_listAt (HX x) pl.isList (λw hw=>rj rx fx r fs w (by simpa using hw)) ⟨.bl _,H,I,rfl,?_⟩;rw[show aM.toArray.any (HX x)=aM.any (HX x) by simp,vm r fs];exact q
 ·obtain⟨aM,r,pl,hz⟩:=I.tuple hq;refine SeqAt.in_tupleAt (HX x) pl (λw hw=>rj rx fx r fs w (by simpa using hw)) ⟨.bl _,H,I,rfl,?_⟩;rw[show aM.toArray.any (HX x)=aM.any (HX x) by simp,vm r fs];exact q
theorem vo:ug X (compareOp .NotIn) (rIn X.K true):=by
 intro ao s σ H x y v u Q I rx ry h;obtain⟨p,xs,rfl,hq,fx,fs,q⟩:=h;cases ry;rcases hq with hq|hq
 ·obtain⟨aM,r,pl,hz⟩:=I.list hq;refine SeqAt.notIn_listAt (HX x) pl.isList (λw hw=>rj rx fx r fs w (by simpa using hw)) ⟨.bl _,H,I,rfl,?_⟩;rw[show aM.toArray.any (HX x)=aM.any (HX x) by simp,vm r fs];exact q
 ·obtain⟨aM,r,pl,hz⟩:=I.tuple hq;refine SeqAt.notIn_tupleAt (HX x) pl (λw hw=>rj rx fx r fs w (by simpa using hw)) ⟨.bl _,H,I,rfl,?_⟩;rw[show aM.toArray.any (HX x)=aM.any (HX x) by simp,vm r fs];exact q
theorem Dr:j7 X (.builtin "len") (VH X.K):=by
 intro ao s σ H xs us Q I r h;obtain⟨p,ys,rfl,hq,q⟩:=h;obtain⟨u,rfl,rx⟩:=vals1 r;cases rx;have hn:=uh;rcases hq with hq|hq
 ·obtain⟨aM,r',pl,hz⟩:=I.list hq;have dI:=r'.length
  exact Calls.call_len_list pl.isList (by simp only[gS] <;> lia) ⟨.int ys.length,H,I.tok _,⟨s.toks+1,by rw[gS,dI]⟩,q⟩
 ·obtain⟨aM,r',pl,hz⟩:=I.tuple hq;have dI:=r'.length
  exact len_tuple pl (by simp only[gS] <;> lia) ⟨.int ys.length,H,I.tok _,⟨s.toks+1,by rw[gS,dI]⟩,q⟩
theorem vp:j7 X (.builtin "len") (λxs H Q=>∃ z,xs=[.str z]/\z.length<=sizeLine/\Q (.int z.length) H):=by
 intro ao s σ H xs us Q I r h;obtain⟨z,rfl,hz,q⟩:=h;obtain⟨u,rfl,t,rfl⟩:=vals1 r;have hn:=uh;exact len_str ∅ ⟨.int z.length,H,I.tok _,⟨Y⟩,q⟩
theorem fY:j7 X (.type "list") (Y8 X.K):=by
 intro ao s σ H xs us Q I r h;obtain⟨p,ys,rfl,hq,q⟩:=h;obtain⟨u,rfl,rx⟩:=vals1 r;cases rx
 have jG:∀ (aM:List Value),cC ys aM->ys.length<=sizeLine->∀ (h':Heap) (c':Nat),(∀ b o',s.heap.get? b=some o'->h'.get? b=some o')->
   h'.get? s.heap.objs.size=some { cls:=.type "list",dict:=none,data:=.seq aM.toArray c',slots:=#[] }->EP X ao σ Q (.ref s.heap.objs.size) { s with heap:=h' }:=λaM r' hz h' c' kp e =>
  ⟨.ref s.heap.objs.size,_,I.laid (t':=s.toks) kp (fF _) (show fX X.prog X.w _ h' _ (.lst ys) from ⟨hz,aM,c',r',e⟩),rfl,q _ (I.hok.fresh (fF _))⟩
 rcases hq with hq|hq
 ·obtain⟨aM,r',pl,hz⟩:=I.list hq;have dI:=r'.length;obtain⟨o,ho,hc,n,hd⟩:=pl.isList
  exact call_list_seq p (.inl rfl) ho hc hd (λh' c' kp e=>jG aM r' hz h' c' kp e) (by simp only[gS] <;> lia)
 ·obtain⟨aM,r',pl,hz⟩:=I.tuple hq;have dI:=r'.length;obtain⟨o,ho,hc,n,hd⟩:=pl
  exact call_list_seq p (.inr rfl) ho hc hd (λh' c' kp e=>jG aM r' hz h' c' kp e) (by simp only[gS] <;> lia)
def tyV(K:Frag)(T:String)(x:V)(H:Hp):Prop:=match x with
 | .str _=>T="str"
 | .int _=>T="int"
 | .ref p=>(T="list"/\∃ xs,bI K H p xs)\/(T="tuple"/\∃ o,K.lookup p=some o/\o.cls=.type "tuple"/\o.dict=none)\/
   (T="dict"/\((∃ kvs,H p=some (.dK kvs))\/∃ kvs,H p=some (.dT kvs)))\/(T="set"/\∃ S n,H p=some (.set S n))
 | _=>False
theorem N1{σ:St}{H:Hp}{s:Shared}{T:String}{x:V}{v:Value}(I:Inv X ao σ H s)(r:RelV x v)(ty:tyV X.K T x H) :
  s.TypeIs v T/\∀ a,v=.ref a->∃ ob,s.heap.get? a=some ob/\ob.dict=none:=by
 cases x with
 | str z =>
  obtain⟨t,rfl⟩:=r;cases (show T="str" from ty);exact⟨typeIs_str s z t,λ_ e=>nomatch e⟩
 | int i =>
  obtain⟨t,rfl⟩:=r;cases (show T="int" from ty);exact⟨typeIs_int s i t,λ_ e=>nomatch e⟩
 | ref p =>
  cases r;rcases ty with ⟨rfl,xs,hq⟩|⟨rfl,o,hk,hc,hd⟩|⟨rfl,hk⟩|⟨rfl,S,n,hk⟩
  ·obtain⟨aM,_,pl,_⟩:=I.list hq;refine⟨pl.isList.typeIs,λa e=>?_⟩;cases e;obtain⟨o,n,e,c,hd,_⟩:=pl;exact⟨o,e,hd⟩
  ·refine⟨⟨o,I.xT p o hk,hc⟩,λa e=>?_⟩;cases e;exact⟨o,I.xT _ o hk,hd⟩
  ·have z:∃ o,s.heap.get? p=some o/\o.ExactDict:=by
    rcases hk with ⟨kvs,hk⟩|⟨kvs,hk⟩
    ·obtain⟨_,_,_,_,o,_,_,e,ex,_⟩:=I.hok p _ hk;exact⟨o,e,ex⟩
    ·obtain⟨_,_,_,_,o,_,_,e,ex,_⟩:=I.hok p _ hk;exact⟨o,e,ex⟩
   obtain⟨o,e,ex⟩:=z;refine⟨⟨o,e,ex.1⟩,λa e2=>?_⟩;cases e2;exact⟨o,e,ex.2.1⟩
  ·obtain⟨o,_,_,_,e,ex,_⟩:=I.hok p _ hk;refine⟨⟨o,e,ex.1⟩,λa e2=>?_⟩;cases e2;exact⟨o,e,ex.2.1⟩
 | _=>exact False.elim ty
def ac1(K:Frag)(T:String)(r:V->List V->Hp->VK->Prop)(to:TE):TE:=fun σ H Q=>to σ H λx H1=>tyV K T x H1/\r x [] H1 Q
def tBM(K:Frag)(T:String)(r:V->List V->Hp->VK->Prop)(to:TE)(t:TA):TE:=fun σ H Q=>to σ H λx H1=>tyV K T x H1/\t σ H1 λxs H2=>r x xs H2 Q
variable {o e:Expr} {es:List Expr} {to:TE} {t:TA} {name:Str} {mq rm:Pos} {T id:String} {r:V->List V->Hp->VK->Prop}
theorem N3(pa:PlainAttrs T)(slot:Slot T name id)(hty:typeOf (.builtin id)=pure (.type "method_descriptor"))(hm:MtR X id r)(ho:PE X o to)
  (N4:attributeBase o name X.env (eval o X.env)=eval o X.env:=by rfl) (N5:(mq.endLine == rm.line)=true:=by rfl):PE X (.Call (.Attribute o name mq) [] [] rm) (ac1 X.K T r to):=by
 intro ao s σ H Q I h;refine wpAny_Call_method0_late N4 N5 (dc (ho ao s σ H _ I h) λv s1 Dk=>?_);obtain⟨x,H1,I1,r1,ty,q1⟩:=Dk;obtain⟨h1,h2⟩:=N1 I1 r1 ty;exact⟨T,id,pa,slot,hty,h1,h2,Calls.callWith_builtin rfl (PySem.evalArgs_none (hm ao s1 σ H1 x [] v [] Q I1 r1 .nil q1))⟩
theorem dJ(pa:PlainAttrs T)(slot:Slot T name id)(hty:typeOf (.builtin id)=pure (.type "method_descriptor"))(hm:MtR X id r)(ho:PE X o to)(ha:PA X (e::es) t)
  (N4:attributeBase o name X.env (eval o X.env)=eval o X.env:=by rfl)
  (ac3:((backTo rm (starEach (e::es) X.env)).all (λx=>!x.1)&&(backToKw rm (keywordEach [] X.env)).all (λx=>x.1.isSome)
   && decide ((e::es).length+([]:List Keyword).length+(if ([]:List Keyword).isEmpty then 0 else 1)<30))=true:=by rfl)
  (N5:(mq.endLine == rm.line)=true:=by rfl) (hs:starEach (e::es) X.env=(false,eval e X.env)::starEach es X.env:=by rfl) (VI:(backTo rm (starEach es X.env)).any (·.1)=false:=by rfl) :
  PE X (.Call (.Attribute o name mq) (e::es) [] rm) (tBM X.K T r to t):=by
 intro ao s σ H Q I h;refine wpAny_Call_method_late N4 ac3 N5 rfl (dc (ho ao s σ H _ I h) λv s1 HE=>?_);obtain⟨x,H1,I1,r1,ty,q1⟩:=HE;obtain⟨h1,h2⟩:=N1 I1 r1 ty;exists T,id,pa,slot,hty,h1,h2;have hA:=ha rm ao s1 σ H1 _ I1 q1;rw[hs]at hA ⊢
 refine Calls.callWith_builtin (by show (false || (backTo rm (starEach es X.env)).any (·.1))=false;rw[VI] <;> rfl) (Calls.evalArgs_plain ?_)
 exact dc hA λus s2 ⟨vs,H2,I2,r2,q2⟩=>hm ao s2 σ H2 x vs v us Q I2 r1 r2 q2
end
end L2
namespace L2
open Spec Rows
def XY(X:Cx)(id:String)(r:V->List V->Hp->VK->Prop):Prop :=
 ∀ (ao:List (Addr × Obj)) (s:Shared) (σ:St) (H:Hp) (x:V) (xs:List V) (v:Value) (us:List Value) (Q:VK),Inv X ao σ H s->RelV x v->cC xs us->r x xs H Q->
  wpAny (model X.prog X.w) X.A (call (.builtin id) (v::us)) (EP X ao σ Q) X.xe s
theorem cC.one{x:V}{us:List Value}(h:cC [x] us):∃ u,us=[u]/\RelV x u:=by
 cases h with
 | cons r t=>cases t;exact⟨Y,r⟩
theorem cC.two{x y:V}{us:List Value}(h:cC [x,y] us):∃ u v,us=[u,v]/\RelV x u/\RelV y v:=by
 cases h with
 | cons r t =>
  obtain⟨_,rfl,q⟩:=cC.one t;exact⟨P,rfl,r,q⟩
theorem cC.zero:∀ {us:List Value},cC [] us->us=[]
 | _,.nil=>rfl
theorem cC.dropLast{xs:List V}{us:List Value}(h:cC xs us):cC xs.dropLast us.dropLast:=by
 induction h with
 | nil=>exact .nil
 | cons r t ih =>
  cases t with
  | nil=>exact .nil
  | cons q t'=>exact .cons r ih
theorem cC.eraseIdx:∀ {xs:List V} {us:List Value} (i:Nat),cC xs us->cC (xs.eraseIdx i) (us.eraseIdx i)
 | _,_,_,.nil=>.nil
 | _,_,0,.cons _ t=>t
 | _,_,i+1,.cons r t=>.cons r (cC.eraseIdx i t)
theorem cC.rep{xs:List V}{us:List Value}(h:cC xs us):∀ k:Nat,cC (List.replicate k xs).flatten (List.replicate k us).flatten
 | 0=>.nil
 | k+1=>by
  rw[List.replicate_succ,List.replicate_succ,List.flatten_cons,List.flatten_cons];exact cC.append h (cC.rep h k)
theorem HY{α:Type}(l:List α):l.eraseIdx (l.length-1)=l.dropLast:=by
 induction l with
 | nil=>rfl
 | cons a r ih =>
  cases r with
  | nil=>rfl
  | cons b r =>
   have e:(a::b::r).length-1=((b::r).length-1)+1:=by
    have h1:(a::b::r).length=r.length+2:=rfl;have h2:(b::r).length=r.length+1:=rfl;lia
   rw[e,List.eraseIdx_cons_succ,ih]
   all_goals rfl
theorem B3{α:Type}:∀ (l:List α) (i:Nat),(l.eraseIdx i).length<=l.length
 | [],_=>fF _
 | _::_,0=>Nat.le_succ _
 | _::r,i+1=>Nat.succ_le_succ (B3 r i)
theorem foldl_rep(aM:List Value):∀ (k:Nat) (acc:List Value),
  List.foldl (λx1 x2=>x1++x2) acc.toArray (List.replicate k aM.toArray)=(acc++(List.replicate k aM).flatten).toArray
 | 0,acc=>by simp
 | k+1,acc=>by
  have e:acc.toArray++aM.toArray=(acc++aM).toArray:=by simp
  have e2:(acc++aM)++(List.replicate k aM).flatten=acc++(List.replicate (k+1) aM).flatten:=by
   rw[List.replicate_succ,List.flatten_cons,nV]
  rw[← e2,← foldl_rep aM k (acc++aM),← e,List.replicate_succ,kO]
section
variable {X:Cx} {ao:List (Addr × Obj)} {σ:St} {H:Hp} {s:Shared} {l b:Addr} {xs ys zs:List V}
theorem Inv.N6{aM its':List Value}{n:Nat}{f:Array Value->Array Value}{t':Nat}(I:Inv X ao σ H s)(hH:H l=some (.lst xs))
  (e:s.heap.get? l=some { cls:=.type "list",data:=.seq aM.toArray n }) (hf:f aM.toArray=its'.toArray) (hv:cC ys its') (hz:ys.length<=sizeLine) :
  Inv X ao σ (aN H l (.lst ys)) { s with heap:=s.heap.update l (Obj.mapSeq f),toks:=t' }:=by
 have q:=PySem.IsL.update e f;rw[hf]at q;refine I.write (x:=l) (e:=l) (by rw[hH];exact trivial) (.inl rfl) (λb' u hb hu=>(Heap.get?_update_other s.heap (Obj.mapSeq f) (Ne.symm hb)).trans hu) ⟨_,q⟩ ?_;exact⟨hz,its',_,hv,q⟩
theorem Inv.Rq{aM:List Value}{t':Nat}(I:Inv X ao σ H s)(hv:cC ys aM)(hz:ys.length<=sizeLine) :
  Inv X ao σ (aN H s.heap.objs.size (.lst ys)) { s with heap:=s.heap.push { cls:=.type "list",data:=.seq aM.toArray },toks:=t' } :=
 I.laid (λ_ _ q=>Heap.get?_push_of_some _ q) (fF _) ⟨hz,aM,0,hv,Heap.get?_push_size _ rfl⟩
theorem Inv.fresh(I:Inv X ao σ H s):H s.heap.objs.size=none:=I.hok.fresh (fF _)
theorem Inv.zD(I:Inv X ao σ H s)(hH:H l=some (.lst xs)):xs.length<=sizeLine/\∃ (aM:List Value) (n:Nat),cC xs aM/\xs.length=aM.length/\s.heap.get? l=some { cls:=.type "list",data:=.seq aM.toArray n }:=by
 obtain⟨z,aM,n,r,e⟩:=I.hok l _ hH;exact⟨z,aM,n,r,r.length,e⟩
theorem zE{n:Nat}(h:n<=sizeLine):Builtin.List.listTooLong n=false:=by
 unfold Builtin.List.listTooLong;exact decide_eq_false ∅
end
section
variable {X:Cx}
inductive Rt(x:V)(vs:List V)(H:Hp)(Q:VK):Prop
 | mk (l:Addr) (xs:List V) (y:V) (_:x=.ref l) (_:vs=[y]) (_:H l=some (.lst xs)) (_:xs.length<sizeLine) (_:Q .gj (aN H l (.lst (xs++[y]))))
theorem bQ:XY X "list.append" Rt:=by
 intro ao s σ H x vs v us Q I rx rv h;obtain⟨l,xs,y,rfl,rfl,hH,hz,q⟩:=h;cases rx;obtain⟨u,rfl,ru⟩:=rv.one;obtain⟨z,aM,n,r,hl,e⟩:=I.zD hH;refine call_meets F.slot_list_append ⟨_,e,rfl⟩ F.entry_list_append (F.args_list_append_2 _ _) (PySem.list_append l aM.toArray n u (by rw[gS];lia)) ⟨e,?_⟩;refine⟨.gj,_,I.N6 (its':=aM++[u]) hH e (by simp) (r.append (.cons ru .nil)) ?_,rfl,q⟩;rw[cY,gM];lia
inductive Ru(x:V)(vs:List V)(H:Hp)(Q:VK):Prop
 | mk (l b:Addr) (xs zs:List V) (_:x=.ref l) (_:vs=[.ref b]) (_:H l=some (.lst xs)) (_:H b=some (.lst zs)) (_:xs.length+zs.length<=sizeLine) (_:Q .gj (aN H l (.lst (xs++zs))))
theorem kj:XY X "list.extend" Ru:=by
 intro ao s σ H x vs v us Q I rx rv h;obtain⟨l,b,xs,zs,rfl,rfl,hH,hB,hz,q⟩:=h;cases rx;obtain⟨u,rfl,ru⟩:=rv.one;cases ru;obtain⟨z,aM,n,r,hl,e⟩:=I.zD hH;obtain⟨z2,its2,n2,r2,B4,e2⟩:=I.zD hB;have hsz:aM.toArray.size+its2.toArray.size<=sizeLine:=by rw[gS,gS];lia
 have Fg:¬ (!aM.toArray.isEmpty&&Builtin.List.listTooLong (aM.toArray.size+its2.toArray.size))=true:=by
  rw[zE hsz,Bool.and_false];exact nY
 refine call_meets F.slot_list_extend ⟨_,e,rfl⟩ F.entry_list_extend (F.args_list_extend_2 _ _) (AutoSeq1.list_extend_list_list_0 l aM.toArray n b its2.toArray n2 Fg (by rw[gS];lia) ∅) ⟨e,e2,?_⟩;refine⟨.gj,_,I.N6 (its':=aM++its2) hH e (by simp) (r.append r2) ?_,rfl,q⟩;rw[cY];lia
def ac4:V->List V->Hp->VK->Prop:=λx vs H Q=>∃ l xs y,x=.ref l/\vs=[]/\H l=some (.lst xs)/\xs[xs.length-1]?=some y/\Q y (aN H l (.lst xs.dropLast))
theorem N7:XY X "list.pop" ac4:=by
 intro ao s σ H x vs v us Q I rx rv h;obtain⟨l,xs,y,rfl,rfl,hH,hy,q⟩:=h;cases rx;have hus:=rv.zero;subst hus;obtain⟨z,aM,n,r,hl,e⟩:=I.zD hH;obtain⟨u,hu,ru⟩:=r.get hy
 have hy':aM.toArray[aM.toArray.size-1]?=some u:=by
  show aM.toArray[aM.length-1]?=some u;rw[← Array.getElem?_toList,← hl];exact hu
 refine call_meets F.slot_list_pop ⟨_,e,rfl⟩ F.entry_list_pop (F.args_list_pop_1 _) (MeetsSeq.list_pop_last l aM.toArray n u hy' (by rw[gS];lia)) ⟨e,?_⟩;refine⟨y,_,I.N6 (its':=aM.dropLast) hH e ?_ r.dropLast ?_,ru,q⟩
 ·show aM.toArray.eraseIdxIfInBounds (aM.toArray.size-1)=aM.dropLast.toArray;rw[gS,List.eraseIdxIfInBounds_toArray,HY]
 ·rw[List.length_dropLast];lia
def VJ:V->List V->Hp->VK->Prop:=λx vs H Q=>∃ l xs i k y,x=.ref l/\vs=[.int i]/\H l=some (.lst xs)/\-(2^63)<=i/\i<2^63/\seqIndex? i xs.length=some k/\xs[k]?=some y/\Q y (aN H l (.lst (xs.eraseIdx k)))
theorem N8:XY X "list.pop" VJ:=by
 intro ao s σ H x vs v us Q I rx rv h;obtain⟨l,xs,i,k,y,rfl,rfl,hH,h1,h2,hk,hy,q⟩:=h;cases rx;obtain⟨u,rfl,ru⟩:=rv.one;obtain⟨t,rfl⟩:=ru;obtain⟨z,aM,n,r,hl,e⟩:=I.zD hH;obtain⟨w,hw,jf⟩:=r.get hy;refine call_meets F.slot_list_pop ⟨_,e,rfl⟩ F.entry_list_pop (F.args_list_pop_2 _ _) (MeetsSeq.list_pop_at l aM.toArray n i t k w (fitsIndex_both h1 h2) (by rw[gS,← hl];exact hk) (by rw[← Array.getElem?_toList];exact hw) (by rw[gS];lia)) ⟨e,?_⟩;refine⟨y,_,I.N6 (its':=aM.eraseIdx k) hH e ?_ (r.eraseIdx k) ?_,jf,q⟩
 ·show aM.toArray.eraseIdxIfInBounds k=(aM.eraseIdx k).toArray;rw[List.eraseIdxIfInBounds_toArray]
 ·have:=B3 xs k;lia
inductive Y9(x y:V)(H:Hp)(Q:VK):Prop
 | mk (l b:Addr) (xs zs:List V) (_:x=.ref l) (_:y=.ref b) (_:H l=some (.lst xs)) (_:H b=some (.lst zs)) (_:xs.length+zs.length<=sizeLine) (_:∀ p,H p=none->Q (.ref p) (aN H p (.lst (xs++zs))))
theorem jK:ug X (binaryOp .Add) Y9:=by
 intro ao s σ H x y v u Q I rx ry h;obtain⟨l,b,xs,zs,rfl,rfl,hH,hB,hz,q⟩:=h;cases rx;cases ry;obtain⟨z,aM,n,r,hl,e⟩:=I.zD hH;obtain⟨z2,its2,n2,r2,B4,e2⟩:=I.zD hB;refine PySem.P.add_list e e2 ?_ (by rw[gS,gS];lia);have ea:aM.toArray++its2.toArray=(aM++its2).toArray:=by simp
 rw[ea];exact⟨.ref _,_,I.Rq (t':=s.toks) (r.append r2) (by rw[cY];lia),rfl,q _ I.fresh⟩
def Za:R2:=λx y H Q=>∃ l k xs,x=.ref l/\y=.int k/\H l=some (.lst xs)/\-(2^63)<=k/\k<2^63/\xs.length*k.toNat<=sizeLine/\
 ∀ p,H p=none->Q (.ref p) (aN H p (.lst (List.replicate k.toNat xs).flatten))
theorem Rv{α:Type}(xs:List α)(k:Nat):(List.replicate k xs).flatten.length=k*xs.length:=by
 induction k with
 | zero=>simp
 | succ k ih=>rw[List.replicate_succ,List.flatten_cons,cY,ih,Nat.succ_mul,Nat.add_comm]
theorem N9:ug X (binaryOp .Mult) Za:=by
 intro ao s σ H x y v u Q I rx ry h;obtain⟨l,k,xs,rfl,rfl,hH,h1,h2,hz,q⟩:=h;cases rx;obtain⟨t,rfl⟩:=ry;obtain⟨z,aM,n,r,hl,e⟩:=I.zD hH;have dI:aM.toArray.size*k.toNat<=sizeLine:=by rw[gS,← hl];exact hz
 have hcap:¬ aM.toArray.size*k.toNat > (2^63-1) / 8:=by
  have:(sizeLine:Nat)<=(2^63-1) / 8:=by decide
  lia
 have hfit:¬ (!Builtin.List.listFitsIndex k)=true:=by
  rw[fitsIndex_both h1 h2];exact nY
 have Fg:¬ Builtin.List.listTooLong (aM.toArray.size*k.toNat)=true:=by
  rw[zE dI];exact nY
 have hnew:List.foldl (λx1 x2=>x1++x2) #[] (List.replicate (if aM.toArray.isEmpty=true then 0 else k.toNat) aM.toArray)=(List.replicate k.toNat aM).flatten.toArray:=by
  have f0:∀ m:Nat,List.foldl (λx1 x2=>x1++x2) #[] (List.replicate m aM.toArray)=(List.replicate m aM).flatten.toArray:=λm=>by
   have:=foldl_rep aM m [];rw[List.nil_append]at this;exact this
  rw[f0]
  cases aM with
  | nil=>simp
  | cons a r'=>rw[if_neg (by simp)]
 refine wpAny_binaryOp_repeat_ref (T:="list") (U:="int") (by decide) ⟨_,e,rfl⟩ (λs'=>typeIs_int s' k t) noFill_list_mul F.fills_int_mul F.slot_int_rmul repeat_list F.slot_int_index.lookup (call_meets F.slot_int_rmul (typeIs_int s k t) F.entry_int_rmul (F.args_int_rmul_2 _ _) (int___rmul___int_list k t l aM.toArray n) ⟨e,rfl,⟨_,e,rfl⟩,call_meets F.slot_list_mul ⟨_,e,rfl⟩ F.entry_list_mul (F.args_list_mul_2 _ _) (AutoListH.list___mul___list_int_3 l aM.toArray n k t hfit hcap Fg) ⟨e,?_⟩⟩);rw[hnew];exact⟨.ref _,_,I.Rq (t':=s.toks) (r.rep k.toNat) (by rw[Rv,Nat.mul_comm];exact hz),rfl,q _ I.fresh⟩
end
end L2
namespace Att
open PySem.W Calls Rows
theorem yx{P:Params}{h:Heap}:∀ (ns:List Int) (vs:List Value),WellAll P h vs (ns.map WData.int)->IntsAre vs ns:=by
 intro ns
 induction ns with
 | nil =>
  intro vs w;rw[List.map_nil]at w;cases w;exact .nil
 | cons n ns ih =>
  intro vs w;rw[jJ]at w
  cases w with
  | cons a b =>
   cases a;exact .cons _ _ (ih _ b)
theorem LI{l:OpenLaw}{n:Nat}(hn:l.most=some n){P:Params}{h:Heap}{args:List WData}{VL:List Value}
  (Rw:l.row.toRowW.claim.pre args=true) (hwl:WellAll P h VL args) :
  ∃ a vs ns,VL=[Value.ref a]/\args=[WData.list (ns.map WData.int)]/\h.get? a=some { cls:=.type "list",data:=.seq vs.toArray }/\IntsAre vs ns/\ns.length<=n:=by
 have xY:WShape.hasAll [] args [.list .int]=true:=(pre_splitW Rw).1;have hc:l.pre.holds [] { args:=args }=true:=(pre_splitW Rw).2;obtain⟨d,r,rfl,h1,h2⟩:=hasAllW_cons xY;obtain rfl:=hasAllW_nil h2;obtain⟨xs,rfl,h3⟩:=hasW_list h1;obtain⟨ns,rfl⟩:=items_int h3
 have dI:ns.length<=n:=by
  unfold OpenLaw.pre at hc
  have h4:(WTm.not (.lt (.lit (.int (n:Int))) (.len (.arg 0)))).holds [] { args:=[.list (ns.map .int)] }=true:=by
   have h4:=(holds_andW hc).1;rw[hn]at h4;exact h4
  have h5:=condW_of h4 (w_not (w_lt w_lit (w_len_list (w_arg rfl))));rw[cy]at h5;refine Nat.le_of_not_lt λq=>?_;have q':(n:Int)<((ns.length:Nat):Int):=by lia
  first
   | (rw[decide_eq_true q']at h5;exact absurd h5 (by decide))
   | (simp at h5;lia)
 cases hwl with
 | cons w1 w2 =>
  cases w2
  cases w1 with
  | list ho Oa=>exact⟨P,ns,V,ho,yx ns _ Oa,dI⟩
theorem LJ(l:OpenLaw)(args:List WData):l.row.toRowW.claim.post args (.bool true) args=true :=
 postW_of (r:=l.row.toRowW) (X:=(true == true))
  (show WShape.has [] (.bool true) .bool=true by first|rfl|decide|simp[WShape.has,WShape.arms,WShape.armsAll])
  (show (WTm.eq .res (.lit (.bool true))).value [] { args:=args,res:=some (.bool true),after:=args }=some (.bool (true == true)) from w_eq_bool (w_res rfl) w_lit) rfl
theorem Fi{l:OpenLaw}{n:Nat}{q:Program}{Ca:List Str}{XP:(Str->Option Value)->Heap->Prop}{YP:World->Heap->Prop}{d:DefRec}
  (hn:l.most=some n) (Zb:d.params.defaults=[])
  (call:∀ (w:World) (s₀ s₁:Shared) (mg mb:Str->Option Value) (fa:Addr) (o:Obj) (pm cd xW:Value) (a:Addr) (vs:List Value) (ns:List Int),
   Ground q Ca [] XP w s₀ mg mb s₁.heap->YP w s₁.heap->
   s₁.heap.get? fa=some o->o.data=.func (docDef d.name d.params d.body d.scope pm cd xW)->s₁.heap.CodeRec cd d.name->mg d.name=some (.ref fa)->
   s₁.heap.get? a=some { cls:=.type "list",data:=.seq vs.toArray }->IntsAre vs ns->ns.length<=n->s₁.gens=#[]->
   codeAny (model l.prog w) callerA (.call (.ref fa) ⟨[.ref a],[]⟩) (λr s'=>r=.ok (.ret (.bool true))/\OldK s₁.heap s'.heap/\s'.os=s₁.os/\AllBare s'.gens) s₁) :
  WalkO q Ca XP YP l.row.toRowW d [] (λf vs=>PySem.call f vs):=by
 intro w s₀ s₁ mg mb G Y fa o pm cd xW dV kV ho hd NC hD Zc hg args VL as Rw aja hrd hwl hlo;obtain rfl:dV=.none:=Dflts.none hD Zb;obtain rfl:kV=.none:=Dflts.noKw hD;obtain⟨a,vs,ns,rfl,rfl,VM,Ob,dI⟩:=LI hn Rw hwl;refine enter_call (codeAny_mono (call w s₀ s₁ mg mb fa o pm cd xW a vs ns G Y ho (fd_plain hd) NC Zc VM Ob dI hg) λr s' hq=>?_);obtain⟨rfl,h2,h3,h4⟩:=hq;exact⟨.inl ⟨.bool true,.bool true,[],rfl,λ_=>rfl,.bool true,LJ l _,λ_=>⟨List.Pairwise.nil,λ_ hm=>(nomatch hm)⟩⟩,h2,h3,h4⟩
end Att
namespace L2
open Spec Rows
theorem Cb:∀ {vs:List Value} {ns:List Int},IntsAre vs ns->cC (ns.map V.int) vs
 | _,_,.nil=>.nil
 | _,_,.cons n t h=>.cons ⟨t,rfl⟩ (Cb h)
def VN(H:Hp):Prop:=∀ b,H b=none\/∃ o xs,H b=some (.JX o (.lst xs))
theorem Oc{P:Program}{w:World}{K:Frag}{mg mb:Str->Option Value}{CX:NR}{k:Nat}{fa a:Addr}{fd:FuncData}{x:Str}{sp:Sp}{s₁:Shared}{vs:List Value}{ns:List Int}
  (KX:K.In s₁.heap) (Nb:s₁.heap.Ns mainGlobals mg) (hb:s₁.heap.Ns builtinsNs mb) (hbb:∀ x:Str,x≠"__name__"->mb x=bootBuiltins x) (ac6:s₁.heap.NoLimit) (hg:s₁.gens=#[])
  (ha:s₁.heap.get? a=some { cls:=.type "list",data:=.seq vs.toArray }) (hi:IntsAre vs ns) (hl:ns.length<=sizeLine) (hr:jt k callerA)
  (F:∀ zt:Heap,K.In zt->zt.Ns mainGlobals mg->bq P w K mg zt CX k fa fd [x] sp) (Zd:∀ (s:Shared) (u:Value),BindsTo s fd ⟨[u],[]⟩ [(x,u)])
  (LG:∀ H:Hp,VN H->bI K H a (ns.map V.int)->sp [.ref a] H (λv _=>v=.bl true) λ_ _ _=>False)
  (hCX:∀ H e s',CX [] H s₁ (λ_ _ _=>False) e s'->False) :
  codeAny (model P w) callerA (.call (.ref fa) ⟨[.ref a],[]⟩) (λr s'=>r=.ok (.ret (.bool true))/\OldK s₁.heap s'.heap/\s'.os=s₁.os/\AllBare s'.gens) s₁:=by
 have rv:=Cb hi;have ac8:=hi.length
 have core:∀ H:Hp,VN H->bI K H a (ns.map V.int)->vd P w H s₁.heap->(∀ b,H b≠none->b=a)->(H a≠none->K.lookup a=none)->
   codeAny (model P w) callerA (.call (.ref fa) ⟨[.ref a],[]⟩) (λr s'=>r=.ok (.ret (.bool true))/\OldK s₁.heap s'.heap/\s'.os=s₁.os/\AllBare s'.gens) s₁:=by
  intro H hO hS hok hA hK;have Km:∀ {b:Addr} {o:Obj},s₁.heap.get? b=some o->H b=none->(Dh s₁.heap H).get? b=some o:=λe n=>Ny e n
  have YY:∀ {b:Addr} {o:Obj} {es:Array DictEntry} {ep:Nat},s₁.heap.get? b=some o->o.data=.dict es ep->H b=none:=λ{b o es ep} e d=>by
   cases q:H b with
   | none=>rfl
   | some u =>
    have e':b=a:=hA b (by rw[q];simp);subst e';rw[ha]at e;cases e;have d':Data.seq vs.toArray _=Data.dict es ep:=d;cases d'
  have nsK:∀ {b:Addr} {m:Str->Option Value},s₁.heap.Ns b m->(Dh s₁.heap H).Ns b m:=λ{b m} ⟨o,es,ep,e,d,r⟩=>⟨o,es,ep,Km e (YY e d),d,r⟩
  have hKb:K.In (Dh s₁.heap H):=λb o e=>Km (KX b o e) (by
   cases q:H b with
   | none=>rfl
   | some u =>
    have e':b=a:=hA b (by rw[q];simp);subst e'
    rw[hK (by rw[q];simp)]at e;cases e)
  have hM:Mod K mg (Dh s₁.heap H):=⟨hKb,nsK Nb,⟨mb,nsK hb,hbb⟩,let ⟨mc,h1,h2⟩:=ac6;⟨mc,nsK h1,h2⟩⟩;have e0:HR P w K mg (Dh s₁.heap H) callerA [] s₁ H:=⟨rfl,hM,λb o e=>Q8 e,Nat.le_of_eq (Ln _ _),trivial,λb hb=>absurd (show b∈([]:List Addr) from hb) (by simp),hok,.of_eq hg⟩;refine codeAny_mono ((F _ hKb (nsK Nb)).run callerA [] s₁ H ⟨[.ref a],[]⟩ [.ref a] [.ref a] _ _ hr e0 (Zd s₁ (.ref a)) (.cons rfl .nil) (LG H hO hS)) λr s' h=>?_
  cases r with
  | error e=>exact (hCX H e s' h).elim
  | ok fl =>
   cases fl with
   | next=>exact False.elim h
   | brk=>exact False.elim h
   | cont=>exact False.elim h
   | ret u =>
    obtain⟨v,H',os,bare,un,ac9,r',q⟩:=h;have q':v=.bl true:=q;subst q';obtain rfl:u=Value.bool true:=r';refine⟨rfl,OldK.of_keep λb o e=>?_,os,bare⟩
    cases q:H b with
    | none=>exact un.keep b o e q (by intro z;exact absurd (show b∈([]:List Addr) from z) (by simp)) (by simp)
    | some u =>
     rcases hO b with z|⟨ob,xs,z⟩
     ·rw[q]at z;cases z
     ·have z2:=un.Dg b ob _ z;obtain⟨e1,_⟩:=hok b _ z;obtain⟨e2,_⟩:=ac9 b _ z2;rw[e]at e1;cases e1;exact e2
 cases hk:K.lookup a with
 | some o =>
  have e:=KX a o hk;rw[ha]at e;cases e;refine core (λ_=>none) (λ_=>.inl rfl) (.inr ⟨_,vs.toArray,_,hk,V,rfl,by rw[gS,ac8];exact hl,by simpa using rv⟩) (λb u z=>by have z':(none:Option HO)=some u:=z;cases z') (λb z=>absurd rfl z) λz=>absurd rfl z
 | none =>
  refine core (λb=>if b=a then some (.JX { cls:=.type "list",data:=.seq vs.toArray } (.lst (ns.map V.int))) else none) (λb=>?_) (.inl (.inr ⟨{ cls:=.type "list",data:=.seq vs.toArray },if_pos rfl⟩)) (λb u z=>?_) (λb z=>?_) λ_=>hk
  ·by_cases hb:b=a
   ·exact .inr ⟨P,if_pos hb⟩
   ·exact .inl (if_neg hb)
  ·by_cases hb:b=a
   ·have z':=(if_pos hb).symm.trans z;cases z';subst hb;exact⟨ha,by rw[cy];exact hl,vs,_,rv,ha⟩
   ·have z':=(if_neg hb).symm.trans z;cases z'
  ·by_cases hb:b=a
   ·exact hb
   ·exact absurd (if_neg hb) z
end L2
namespace L2
open Spec Rows
theorem Rx{l:PySem.W.OpenLaw}{n k:Nat}{q:Program}{Ca:List Str}{XP:(Str->Option Value)->Heap->Prop}{YP:World->Heap->Prop}{d:DefRec}{K:Params->Frag}{CX:World->NR}{sp:World->Sp}{x:Str}
  (hn:l.most=some n) (hn2:n<=sizeLine) (Zb:d.params.defaults=[]) (hr:jt k callerA)
  (hY:∀ (w:World) (h:Heap),YP w h->(K w.params).In h)
  (F:∀ (w:World) (mg:Str->Option Value) (fa:Addr) (h:Heap),(K w.params).In h->h.Ns mainGlobals mg->mg d.name=some (.ref fa)->
   ∃ fd:FuncData,(∀ (s:Shared) (u:Value),BindsTo s fd ⟨[u],[]⟩ [(x,u)])/\
    ∀ zt:Heap,(K w.params).In zt->zt.Ns mainGlobals mg->bq l.prog w (K w.params) mg zt (CX w) k fa fd [x] (sp w))
  (LG:∀ (w:World) (H:Hp) (a:Addr) (ns:List Int),ns.length<=n->VN H->bI (K w.params) H a (ns.map V.int)->sp w [.ref a] H (λv _=>v=.bl true) λ_ _ _=>False)
  (hCX:∀ (w:World) (H:Hp) (s:Shared) (e:Value) (s':Shared),CX w [] H s (λ_ _ _=>False) e s'->False) :
  PySem.W.WalkO q Ca XP YP l.row.toRowW d [] (λf vs=>PySem.call f vs):=by
 refine Att.Fi hn Zb λw s₀ s₁ mg mb fa o pm cd xW a vs ns G Y ho hd NC Zc VM Ob dI hg=>?_;have KX:=hY w _ Y;obtain⟨fd,hb,hF⟩:=F w mg fa _ KX G.T.g Zc;exact Oc KX G.T.g G.T.b G.T.builtins G.T.nolimit hg VM Ob (gV dI hn2) hr hF hb (λH hO hS=>LG w H a ns dI hO hS) λH e s'=>hCX w H s₁ e s'
end L2
namespace L2
open Spec Rows
def n9(s:Stmt):Arguments:=match s with
 | .FunctionDef _ a _ _ _ _ _ _ _ _=>a
 | _=>{ posonlyargs:=[],args:=[],vararg:=none,kwonlyargs:=[],kw_defaults:=[],kwarg:=none,defaults:=[] }
def jL(s:Stmt):List Stmt:=match s with
 | .FunctionDef _ _ b _ _ _ _ _ _ _=>b
 | _=>[]
def aA(s:Stmt):Scope:=match s with
 | .FunctionDef _ _ _ _ _ _ sc _ _ _=>sc
 | _=>{ kind:=.function,names:=[],isGenerator:=false,isCoroutine:=false }
abbrev cL:NR:=λ_ _ _ _ _ _=>False
abbrev E0:XK:=λ_ _ _=>False
theorem bO{X:Cx}:oH cL X E0:=λ_ _ _ _ _ _ _ h=>h.elim
structure Rz(K:Frag)(x fP:Str)(st:Stmt)(f:Addr)(fd:FuncData):Prop where
 ex:∃ (oc:Value) (od:Option Addr) (kV xW pm:Value) (an:Option Addr) (cV ct:Value) (Na:Array (Option Value)),
  fd=fnOf x fP (n9 st) (jL st) (aA st) .none kV xW pm an cV ct/\K.lookup f=some ⟨oc,od,.func fd,Na⟩/\codeIn K cV fP=true
 kp:keepIn K (.ref f)=true
section
variable {P:Program} {w:World} {K:Frag} {mg:Str->Option Value} {zt:Heap}
theorem Rz.ok{x fP:Str}{st:Stmt}{f:Addr}{N ps:List Str}{k:Nat}{sp:Sp}(F:Rz K x fP st f fd)(S:aH N ps (aA st))(len:∀ vs H Q E,sp vs H Q E->vs.length=ps.length)
  (Ff:∀ (cV:Value) (A:Around) (zn:List Env) (s:Shared) (H:Hp) (vs:List V) (Q:VK) (E:XK),jt k (A.deeper (envOfC fP (aA st) s.heap.objs.size f cV))->sp vs H Q E->
   ∃ t,J2 (HS cL P w K mg zt N fP (aA st) f cV A zn s H E).Lp (jL st) t/\t { nx:=λ_ H'=>Q .gj H',rt:=Q } (start N vs) H):bq P w K mg zt cL (k+1) f fd ps sp:=by
 obtain⟨oc,od,kV,xW,pm,an,cV,ct,Na,rfl,lk,NC⟩:=F.ex;refine YZ lk NC S len λA zn s H vs Q E hr LG=>?_;obtain⟨t,h,q⟩:=Ff cV A zn s H vs Q E hr LG;exact⟨t,h.Lp,q⟩
theorem Rz.binds{x fP:Str}{st:Stmt}{f:Addr}{ps:List Str}(F:Rz K x fP st f fd)
  (h:∀ (kV xW pm:Value) (an:Option Addr) (cV ct:Value) (us:List Value),us.length=ps.length->bindArgs (fnOf x fP (n9 st) (jL st) (aA st) .none kV xW pm an cV ct) ⟨us,[]⟩=pure (ps.zip us)):Binds K fd ps []:=by
 obtain⟨oc,od,kV,xW,pm,an,cV,ct,Na,rfl,lk,NC⟩:=F.ex;exact .all (h kV xW pm an cV ct)
theorem HZ{x fP:Str}{st:Stmt}{f:Addr}{oc:Value}{od an:Option Addr}{Na:Array (Option Value)}{kV xW pm cV ct:Value}(l:K.lookup f=some ⟨oc,od,.func (fnOf x fP (n9 st) (jL st) (aA st) .none kV xW pm an cV ct),Na⟩)
  (c:codeIn K cV fP=true) (k:keepIn K (.ref f)=true):Rz K x fP st f (fnOf x fP (n9 st) (jL st) (aA st) .none kV xW pm an cV ct):=⟨⟨oc,od,kV,xW,pm,an,cV,ct,Na,rfl,l,c⟩,k⟩
end
theorem gG{A:Around}{k:Nat}(hr:jt k A):A.units+1<cLine:=Nat.lt_of_le_of_lt (Nat.add_le_add_left (by decide:1<=64) _) hr.units
section
variable {X:Cx}
theorem pv(i:Nat){x:Str}{pos:Pos}(hN:X.N[i]?=some x:=by rfl)(hv:Vis X.env.scope x:=by first|exact Or.inl rfl|exact Or.inr (Or.inl rfl)|exact Or.inr (Or.inr rfl))(hd:(x == ("__debug__":Str))=false:=by decide)
  (NC:(x == ("__classdict__":Str))=false:=by decide):PE X (.Name x pos) (Vk i):=Vl hN hv hd NC
end
theorem eO{A B:Prop}(h:B):if false=true then A else B:=by
 rw[if_neg nY];exact h
theorem jH{A B:Prop}(h:A):if true=true then A else B:=by
 rw[if_pos rfl];exact h
theorem cN{c A B:Prop} [Decidable c] (h1:c->A) (h2:¬ c->B):if c then A else B:=by
 by_cases h:c
 ·rw[if_pos h];exact h1 h
 ·rw[if_neg h];exact h2 h
theorem Od{c A B:Prop} [Decidable c] (hc:c) (h:B):if (!decide c)=true then A else B:=by
 rw[decide_eq_true hc];exact eO h
def aI(H H':Hp):Prop:=∀ b o,H b=some o->H' b=some o
theorem aI.refl(H:Hp):aI H H:=λ_ _ h=>h
theorem aI.trans{H H1 H2:Hp}(a:aI H H1)(b:aI H1 H2):aI H H2:=λc o h=>b c o (a c o h)
theorem aI.free{H H':Hp}(e:aI H H'){l:Addr}(h:H' l=Option.none):H l=Option.none:=by
 cases q:H l with
 | none=>rfl
 | some o =>
  rw[e l o q]at h;cases h
end L2
namespace gA
open L2
def top(i:Nat):Stmt:=PySem.Challenge.pw_inkroot_k48_strike.main.body.getD i (.Pass ⟨0,0,0,0⟩)
def RA:Stmt->List Stmt
 | .ClassDef (body:=b) ..=>b
 | _=>[]
def gD(i j:Nat):Stmt:=(RA (top i)).getD j (.Pass ⟨0,0,0,0⟩)
inductive DI(K:Frag)(x:Str)(st:Stmt)(f:Addr):Prop
 | mk {oc:Value} {od an:Option Addr} {Na:Array (Option Value)} {kV xW pm cV ct:Value} (_:nsIn K mainGlobals x=some (some (.ref f))) (_:K.lookup f=some ⟨oc,od,.func (fnOf x x (n9 st) (jL st) (aA st) .none kV xW pm an cV ct),Na⟩) (_:codeIn K cV x=true) (_:keepIn K (.ref f)=true)
inductive MI(K:Frag)(C:Addr)(x fP:Str)(st:Stmt)(f:Addr):Prop
 | mk {oc:Value} {od an:Option Addr} {Na:Array (Option Value)} {kV xW pm cV ct:Value} (_:findIn K (.ref C) x=some (some (.ref f))) (_:isFn K (.ref f)=true) (_:K.lookup f=some ⟨oc,od,.func (fnOf x fP (n9 st) (jL st) (aA st) .none kV xW pm an cV ct),Na⟩) (_:codeIn K cV fP=true) (_:keepIn K (.ref f)=true)
inductive CI(K:Frag)(x:Str)(C:Addr):Prop
 | mk (_:nsIn K mainGlobals x=some (some (.ref C))) (_:plainGet K C Str.empty=true) (_:hasDictIn K C=true) (_:plainOver K C=true) (_:findIn K (.ref C) "__setattr__"=some (some (.builtin "object.__setattr__"))) (_:makesIn K C=true) (_:keepIn K (.ref C)=true)
class inductive Oe(K:Frag)
 | mk (a:Addr) (ns:List Int) (_:vs=[.ref a]) (_:bI K H a (ns.map V.int)) (_:ns.length<=63) (_: ∀ H',Q (.bl true) H')
abbrev wL:Stmt:=top 72
abbrev um:Stmt:=top 73
abbrev rA:Stmt:=top 74
abbrev uo:Stmt:=top 75
abbrev Ia:Stmt:=top 11
abbrev Kn:Stmt:=top 12
abbrev oJ:Stmt:=top 14
abbrev Dt:Stmt:=top 15
abbrev Of:Stmt:=top 16
abbrev lK:Stmt:=gD 27 0
abbrev Du:Stmt:=top 20
abbrev lM:Stmt:=top 22
abbrev uq:Stmt:=top 24
abbrev vq:Stmt:=top 31
abbrev Dv:Stmt:=top 32
abbrev pV:Stmt:=top 41
abbrev Og:Stmt:=top 42
abbrev pW:Stmt:=top 37
abbrev jM:Stmt:=top 38
abbrev Dw:Stmt:=top 39
abbrev wM:Stmt:=top 33
abbrev mz:Stmt:=top 34
abbrev Ib:Stmt:=top 35
abbrev zF:Stmt:=top 44
abbrev pX:Stmt:=top 45
abbrev Dy:Stmt:=top 46
abbrev Ic:Stmt:=top 47
abbrev uu:Stmt:=top 48
abbrev uv:Stmt:=top 50
abbrev Dz:Stmt:=top 49
abbrev ux:Stmt:=top 51
abbrev pY:Stmt:=top 52
abbrev pZ:Stmt:=top 53
abbrev oK:Stmt:=top 54
abbrev qb:Stmt:=top 56
abbrev rB:Stmt:=top 57
abbrev zG:Stmt:=top 59
abbrev lN:Stmt:=gD 60 0
abbrev uy:Stmt:=gD 60 3
abbrev rC:Stmt:=gD 60 2
abbrev rD:Stmt:=gD 60 1
abbrev ju:Stmt:=gD 60 4
abbrev iN:Stmt:=gD 60 5
abbrev uz:Stmt:=gD 60 7
abbrev iC:Stmt:=gD 60 10
abbrev rE:Stmt:=gD 60 9
abbrev m8:Stmt:=gD 62 0
abbrev m9:Stmt:=gD 29 0
abbrev ng:Stmt:=gD 64 0
abbrev uA:Stmt:=gD 64 2
abbrev uB:Stmt:=gD 64 1
abbrev oh:Stmt:=gD 64 6
abbrev qc:Stmt:=top 69
abbrev nh:Stmt:=gD 70 1
abbrev oM:Stmt:=gD 70 26
abbrev qd:Stmt:=gD 70 25
abbrev lO:Stmt:=gD 70 2
abbrev nj:Stmt:=gD 70 3
abbrev nk:Stmt:=gD 70 7
abbrev nu:Stmt:=gD 70 30
abbrev oN:Stmt:=gD 70 6
abbrev qe:Stmt:=gD 70 27
abbrev iO:Stmt:=gD 70 4
abbrev qf:Stmt:=gD 70 8
abbrev jN:Stmt:=gD 70 0
abbrev qg:Stmt:=gD 70 9
abbrev nv:Stmt:=gD 70 11
abbrev qh:Stmt:=gD 70 28
abbrev lP:Stmt:=gD 70 12
abbrev qj:Stmt:=gD 70 13
abbrev oO:Stmt:=gD 70 10
abbrev lQ:Stmt:=gD 70 35
abbrev jg:Stmt:=gD 70 16
abbrev jO:Stmt:=gD 60 6
abbrev iP:Stmt:=gD 70 31
abbrev uC:Stmt:=top 95
abbrev qm:Stmt:=top 96
abbrev oj:Stmt:=top 83
abbrev uD:Stmt:=top 84
abbrev uE:Stmt:=top 85
abbrev rF:Stmt:=top 76
abbrev uF:Stmt:=top 78
abbrev oQ:Stmt:=top 79
abbrev qo:Stmt:=top 80
abbrev wN:Stmt:=top 81
abbrev wO:Stmt:=top 82
abbrev oR:Stmt:=top 86
abbrev qp:Stmt:=top 77
abbrev ny:Stmt:=top 94
abbrev qt:Stmt:=top 87
abbrev rG:Stmt:=top 88
abbrev tQ:Stmt:=gD 70 14
abbrev uG:Stmt:=top 89
abbrev oS:Stmt:=top 90
abbrev oU:Stmt:=top 91
abbrev uH:Stmt:=top 92
abbrev uI:Stmt:=top 93
abbrev qu:Stmt:=top 97
abbrev rH:Stmt:=top 98
abbrev rJ:Stmt:=top 99
abbrev jP:Stmt:=top 100
abbrev mC:Stmt:=top 101
abbrev RB:Stmt:=top 102
end gA
namespace gA
open L2
inductive Pm(K:Frag)(mg:Str->Option Value)(fa:Addr):Prop
 | mk {h:Heap} {Bc Bd Oh:Tok} (dH gY gQ Cc Fj bG:Addr) (X:K.In h) (G:h.Ns mainGlobals mg) (hfa:mg "law"=some (.ref fa))
  (Ko:CI K "Shelf" dH)
  (kJ:findIn K (.ref dH) "states"=some none)
  (mQ:findIn K (.ref dH) "openings"=some none)
  (Oi:CI K "Well" gY)
  (wQ:findIn K (.ref gY) "signs"=some none)
  (vt:findIn K (.ref gY) "owners"=some none)
  (pF:findIn K (.ref gY) "pourings"=some none)
  (Kp:CI K "Blots" gQ)
  (yW:findIn K (.ref gQ) "stains"=some none)
  (Oj:CI K "Ties" Cc)
  (DA:findIn K (.ref Cc) "given"=some none)
  (DB:findIn K (.ref Cc) "pairs"=some none)
  (Ol:CI K "Dues" Fj)
  (Kq:findIn K (.ref Fj) "sums"=some none)
  (Cd:CI K "Library" bG)
  (zH:findIn K (.ref bG) "well"=some none)
  (eG:findIn K (.ref bG) "shelf"=some none)
  (DC:findIn K (.ref bG) "blots"=some none)
  (DE:findIn K (.ref bG) "knots"=some none)
  (Kr:findIn K (.ref bG) "dues"=some none)
  (Fl:findIn K (.ref bG) "book"=some none)
  (q0:DI K "_law_src" wL f0)
  (q1:DI K "_law_next" um f1)
  (q2:DI K "_law_whole" rA f2)
  (q3:DI K "_law_same" uo f3)
  (q4:DI K "plain" Ia f4)
  (q5:DI K "size" Kn f5)
  (q6:DI K "check_places" oJ f6)
  (q7:DI K "pieces" Dt f7)
  (q8:DI K "part" Of f8)
  (q9:MI K gQ "__init__" "Blots.__init__" lK f9)
  (Ce:DI K "spread" Du f10)
  (q11:DI K "first_reaching" lM f11)
  (q12:DI K "left_over" uq f12)
  (q13:DI K "windows" vq f13)
  (q14:DI K "below" Dv f14)
  (q15:DI K "way_between" pV f15)
  (q16:DI K "ring" Og f16)
  (q17:DI K "item_weight" pW f17)
  (q18:DI K "weights_below" jM f18)
  (q19:DI K "weight" Dw f19)
  (q20:DI K "item_row" wM f20)
  (q21:DI K "views_below" mz f21)
  (q22:DI K "shown" Ib f22)
  (q23:DI K "goes_on" zF f23)
  (q24:DI K "plain_items" pX f24)
  (q25:DI K "inked" Dy f25)
  (q26:DI K "dealt" Ic f26)
  (q27:DI K "put_among" uu f27)
  (q28:DI K "put_items" uv f28)
  (q29:DI K "parted" Dz f29)
  (q30:DI K "cut_items" ux f30)
  (q31:DI K "moved_items" pY f31)
  (q32:DI K "fixed_items" pZ f32)
  (q33:DI K "struck_items" oK f33)
  (q34:DI K "ink_words" qb f34)
  (q35:DI K "shown_deed" rB f35)
  (q36:DI K "changed" zG f36)
  (q37:MI K dH "__init__" "Shelf.__init__" lN f37)
  (q38:MI K dH "now" "Shelf.now" uy f38)
  (q39:MI K dH "many" "Shelf.many" rC f39)
  (q40:MI K dH "step" "Shelf.step" rD f40)
  (q41:MI K dH "check_sheet" "Shelf.check_sheet" ju f41)
  (q42:MI K dH "check_moment" "Shelf.check_moment" iN f42)
  (q43:MI K dH "rows_then" "Shelf.rows_then" iC f43)
  (q44:MI K dH "rows" "Shelf.rows" rE f44)
  (q45:MI K dH "row" "Shelf.row" uz f45)
  (q46:MI K Cc "__init__" "Ties.__init__" m8 f46)
  (q47:MI K Fj "__init__" "Dues.__init__" m9 f47)
  (q48:MI K gY "__init__" "Well.__init__" ng f48)
  (q49:MI K gY "size" "Well.size" uA f49)
  (q50:MI K gY "pour" "Well.pour" uB f50)
  (q51:MI K gY "holds" "Well.holds" oh f51)
  (q52:DI K "check_weave" qc f52)
  (q53:MI K bG "__init__" "Library.__init__" jN f53)
  (q54:MI K bG "enter" "Library.enter" nh f54)
  (q55:MI K bG "change" "Library.change" lO f55)
  (q56:MI K bG "many" "Library.many" oM f56)
  (q57:MI K bG "now" "Library.now" qd f57)
  (q58:MI K bG "begin" "Library.begin" nj f58)
  (q59:MI K bG "fresh" "Library.fresh" nk f59)
  (q60:MI K bG "ink" "Library.ink" qe f60)
  (q61:MI K bG "check_held" "Library.check_held" iO f61)
  (q62:MI K bG "pour" "Library.pour" oN f62)
  (q63:MI K bG "put" "Library.put" qf f63)
  (q64:MI K bG "shown" "Library.shown" nu f64)
  (q65:MI K bG "cut" "Library.cut" qg f65)
  (q66:MI K bG "quote" "Library.quote" nv f66)
  (q67:MI K bG "row" "Library.row" qh f67)
  (q68:MI K bG "window" "Library.window" lP f68)
  (q69:MI K bG "fix" "Library.fix" qj f69)
  (q70:MI K bG "move" "Library.move" oO f70)
  (q71:MI K bG "weight" "Library.weight" lQ f71)
  (q72:MI K bG "strike" "Library.strike" jg f72)
  (q73:MI K dH "check_then" "Shelf.check_then" jO f73)
  (q74:MI K bG "shown_then" "Library.shown_then" iP f74)
  (q75:DI K "_law_sign" uC f75)
  (q76:DI K "_law_text" qm f76)
  (q77:DI K "_law_world" oj f77)
  (q78:DI K "_law_keep" uD f78)
  (q79:DI K "_law_swap" uE f79)
  (q80:DI K "_law_spell" rF f80)
  (q81:DI K "_law_show" uF f81)
  (q82:DI K "_law_reached" oQ f82)
  (q83:DI K "_law_pieces" qo f83)
  (q84:DI K "_law_put" wN f84)
  (q85:DI K "_law_cut" wO f85)
  (q86:DI K "_law_weighed" oR f86)
  (q87:DI K "_law_row_of" qp f87)
  (q88:DI K "_law_items_of" ny f88)
  (q89:DI K "_law_fits" qt f89)
  (q90:DI K "_law_after" rG f90)
  (q91:MI K bG "back" "Library.back" tQ f91)
  (q92:DI K "_law_done" uG f92)
  (q93:DI K "_law_ink_row" oS f93)
  (q94:DI K "_law_move_by" oU f94)
  (q95:DI K "_law_draw" uH f95)
  (q96:DI K "_law_deed" uI f96)
  (q97:DI K "_law_pour" qu f97)
  (q98:DI K "_law_fresh" rH f98)
  (q99:DI K "_law_begin" rJ f99)
  (Ze:DI K "_law_shown_right" jP aje)
  (Zf:DI K "_law_strike" mC ajf)
  (Zg:DI K "law" RB ajg)
  (z0:nsIn K mainGlobals "len"=some none)
  (z1:nsIn K mainGlobals "list"=some none)
  (z2:nsIn K mainGlobals "tuple"=some none)
  (z3:nsIn K mainGlobals "int"=some none)
  (z4:nsIn K mainGlobals "bool"=some none)
  (z5:nsIn K mainGlobals "str"=some none)
  (z6:nsIn K mainGlobals "range"=some none)
  (z7:nsIn K mainGlobals "zip"=some none)
  (z8:nsIn K mainGlobals "isinstance"=some none)
  (z9:nsIn K mainGlobals "sum"=some none)
  (z10:nsIn K mainGlobals "min"=some none)
  (z11:nsIn K mainGlobals "max"=some none)
  (z12:nsIn K mainGlobals "all"=some none)
  (z13:nsIn K mainGlobals "sorted"=some none)
  (tR:nsIn K mainGlobals "MOST_SHEETS"=some (some (.int 40 Bc)))
  (tS:nsIn K mainGlobals "MOST_WEIGHT"=some (some (.int 200 Bd)))
  (Fo:nsIn K mainGlobals "HIDDEN"=some (some (.str "#" Oh)))
  (vv:nsIn K mainGlobals "size_spans"=some (some (.ref f5)))
  (tT:nsIn K mainGlobals "shown_weave"=some (some (.ref f22)))
  (rK:nsIn K mainGlobals "weight_weave"=some (some (.ref f19)))
def Uo:Prop:=∀ {P:Program} {w:World} {K:Frag} {mg:Str->Option Value} {fa:Addr},Pm K mg fa->∃ fd:FuncData,(∀ (s:Shared) (v:Value),BindsTo s fd ⟨[v],[]⟩ [("_law_script",v)])/\∀ zt:Heap,K.In zt->zt.Ns mainGlobals mg->bq P w K mg zt cL 47 fa fd ["_law_script"] (Oe K)
theorem walk{l:PySem.W.OpenLaw}{q:Program}{Ca:List Str}{XP:(Str->Option Value)->Heap->Prop}{YP:World->Heap->Prop}{d:DefRec}{K:Params->Frag}(hn:l.most=some 63)(Zb:d.params.defaults=[])
  (hY:∀ (w:World) (h:Heap),YP w h->(K w.params).In h)
  (F:∀ (w:World) (mg:Str->Option Value) (fa:Addr) (h:Heap),(K w.params).In h->h.Ns mainGlobals mg->mg d.name=some (.ref fa)->
   ∃ fd:FuncData,(∀ (s:Shared) (u:Value),BindsTo s fd ⟨[u],[]⟩ [("_law_script",u)])/\∀ zt:Heap,(K w.params).In zt->zt.Ns mainGlobals mg->bq l.prog w (K w.params) mg zt cL 47 fa fd ["_law_script"] (Oe (K w.params))) :
  PySem.W.WalkO q Ca XP YP l.row.toRowW d [] (λf vs=>PySem.call f vs) :=
 L2.Rx (n:=63) (k:=47) (x:="_law_script") (CX:=λ_=>cL) (sp:=λw=>Oe (K w.params)) hn (by decide) Zb ⟨rfl,E,E⟩ hY F (λ_ _ a ns hl _ hS=>⟨a,ns,rfl,hS,hl,λ_=>rfl⟩) λ_ _ _ _ _ z=>z
end gA
namespace InkHd
open PySem.W Rows
set_option maxRecDepth 100000 in
set_option maxHeartbeats 0 in
theorem hd2(A:gA.Uo):PySem.Challenge.rw_inkroot_k48_strike.Holds:=by
 refine hd_k48 ?_
 k_fill
 refine gA.walk (l:=PySem.Challenge.rw_inkroot_k48_strike) rfl rfl (λw h Y=>kIn_of Y) ?F
 case F =>
  intro w mg fa h KX G Zc
  refine' A (.mk _ _ _ _ _ _ KX G Zc (.mk ..) _ _ (.mk ..) _ _ _ (.mk ..) _ (.mk ..) _ _ (.mk ..) _ (.mk ..) _ _ _ _ _ _ (.mk ..) (.mk ..) (.mk ..) (.mk ..) (.mk ..) (.mk ..) (.mk ..) (.mk ..) (.mk ..) (.mk ..) (.mk ..) (.mk ..) (.mk ..) (.mk ..) (.mk ..) (.mk ..) (.mk ..) (.mk ..) (.mk ..) (.mk ..) (.mk ..) (.mk ..) (.mk ..) (.mk ..) (.mk ..) (.mk ..) (.mk ..) (.mk ..) (.mk ..) (.mk ..) (.mk ..) (.mk ..) (.mk ..) (.mk ..) (.mk ..) (.mk ..) (.mk ..) (.mk ..) (.mk ..) (.mk ..) (.mk ..) (.mk ..) (.mk ..) (.mk ..) (.mk ..) (.mk ..) (.mk ..) (.mk ..) (.mk ..) (.mk ..) (.mk ..) (.mk ..) (.mk ..) (.mk ..) (.mk ..) (.mk ..) (.mk ..) (.mk ..) (.mk ..) (.mk ..) (.mk ..) (.mk ..) (.mk ..) (.mk ..) (.mk ..) (.mk ..) (.mk ..) (.mk ..) (.mk ..) (.mk ..) (.mk ..) (.mk ..) (.mk ..) (.mk ..) (.mk ..) (.mk ..) (.mk ..) (.mk ..) (.mk ..) (.mk ..) (.mk ..) (.mk ..) (.mk ..) (.mk ..) (.mk ..) (.mk ..) (.mk ..) (.mk ..) (.mk ..) (.mk ..) (.mk ..) (.mk ..) (.mk ..) (.mk ..) (.mk ..) (.mk ..) (.mk ..) (.mk ..) (.mk ..) (.mk ..) (.mk ..) (.mk ..) (.mk ..) _ _ _ _ _ _ _ _ _ _ _ _ _ _ _ _ _ _ _ _)
  all_goals try first|k_is|k_exc|kts_exm
end InkHd
namespace cZ
open Spec Rows L2
section
variable {X:Cx}
theorem ef:j7 X (.builtin "isinstance") (λxs H Q=>∃ x T t b,xs=[x,.ty T]/\kT X.K H x t/\kitOne X.K t (.type T)=some b/\Q (.bl b) H):=by
 intro ao s σ H xs us Q I r h;obtain⟨x,T,t,b,rfl,ty,e,q⟩:=h;obtain⟨u,v,rfl,rx,rv⟩:=r.two;cases (show v=Value.type T from rv);exact Ly I rx ty e λtk=>⟨.bl b,H,I.tok tk,rfl,q⟩
theorem qF{x:Str}{T:String}(hg:Gl X x)(hm:X.mg x=none)(hv:bootBuiltins x=some (.type T))(hn:x≠"__name__":=by decide)(hd:(x == ("__debug__":Str))=false:=by decide):PE X (.Name x pos) (tC (.ty T)) :=
 Rc hg hm hv rfl hn hd
end
theorem RC{X:Cx}{σ:L2.St}{H:Hp}{s:Shared}{h':Heap}{t':Nat}{ch:List Addr}(I:Inv X ao σ H s)(k:∀ b o,b∉ch->s.heap.get? b=some o->h'.get? b=some o)
  (hf:∀ b∈ch,qP X ao H b):Inv X ao σ H { s with heap:=h',toks:=t' }:=by
 have Ug:∀ b u,H b=some u->b∉ch:=λb u e z=>by rw[(hf b z).1]at e;cases e
 refine I.step (g':=s.gens) (d':=s.drawn) (ch:=ch) (λb hb=>?_) (λb o _ _ hc e _=>k b o hc e) (λb o _ _ hc e _=>⟨o.slots,k b o hc e⟩) (λ_ _ _ _ n=>n) (λb o hc e=>⟨o,k b o hc e⟩) (λ_ _ e=>e) (λ_ _ _ e=>e) (λb ps e=>⟨#[],by rw[e];simp⟩) (λm hm=>?_) (λb u e=>?_) I.bare
 ·obtain⟨_,f1,_,f3,f4,f5⟩:=hf b hb;exact⟨f3,f1,f4,f5⟩
 ·obtain⟨o,es,ep,ho,r⟩:=hm;exact⟨o,es,ep,k _ o (λz=>(hf _ z).2.1 rfl) ho,r⟩
 ·refine (I.hok b u e).stay (λc v hc q=>k c v ?_ q) (λ_ q=>q) λ_ _ q=>q;rcases hc with z|z
  ·rw[z];exact Ug b u e
  ·exact Ug c _ z
theorem Zh{X:Cx}{σ:L2.St}{H:Hp}{s:Shared}{h':Heap}{t':Nat}{ch:List Addr}{p:Addr}{xs:List V}{us:List Value}(I:Inv X ao σ H s)(k:∀ b o,b∉ch->s.heap.get? b=some o->h'.get? b=some o)
  (hf:∀ b∈ch,qP X ao H b) (hp:s.heap.objs.size<=p) (hz:xs.length<=sizeLine) (rv:cC xs us) (ht:IsTup h' p us.toArray):Inv X ao σ (aN H p (.tup xs)) { s with heap:=h',toks:=t' }:=by
 have hn:H p=none:=I.hok.fresh hp;have Ug:∀ b u,H b=some u->b∉ch:=λb u e z=>by rw[(hf b z).1]at e;cases e
 have nep:∀ b o,s.heap.get? b=some o->b≠p:=λb o e z=>by subst z;exact absurd (qN (Heap.lt_size e) hp) (Nat.lt_irrefl _)
 refine I.step (g':=s.gens) (d':=s.drawn) (ch:=ch) (λb hb=>?_) (λb o _ _ hc e _=>k b o hc e) (λb o _ _ hc e _=>⟨o.slots,k b o hc e⟩) (λb o _ e n=>by rw[aK (nep b o e)];exact n) (λb o hc e=>⟨o,k b o hc e⟩) (λb ys e=>by rw[aK (az e hn)];exact e) (λb _ _ e=>by rw[aK (az e hn)];exact e) (λb ps e=>⟨#[],by rw[aK (az e hn),e];simp⟩) (λm hm=>?_) (λb u e=>?_) I.bare
 ·obtain⟨_,f1,_,f3,f4,f5⟩:=hf b hb;exact⟨f3,f1,f4,f5⟩
 ·obtain⟨o,es,ep,ho,r⟩:=hm;exact⟨o,es,ep,k _ o (λz=>(hf _ z).2.1 rfl) ho,r⟩
 ·by_cases hb:b=p
  ·subst hb;rw[af]at e;cases e;exact⟨hz,us,rv,ht⟩
  ·rw[aK hb]at e;refine (I.hok b u e).stay (λc v hc q=>k c v ?_ q) (λc q=>by rw[aK (az q hn)];exact q) λc ys q=>by rw[aK (az q hn)];exact q
   rcases hc with z|z
   ·rw[z];exact Ug b u e
   ·exact Ug c _ z
def Hu(k:Bool)(h:Heap)(i a:Addr)(n:Nat):Prop:=match k with
 | true=>h.IsListIter i a n
 | false=>h.IsTupleIter i a n
def A6(k:Bool)(h:Heap)(a:Addr)(xs:Array Value):Prop:=match k with
 | true=>h.IsList a xs
 | false=>h.IsTuple a xs
theorem Hu.at{k:Bool}{h h':Heap}{i a:Addr}{n:Nat}(x:Hu k h i a n)(e:∀ o,h.get? i=some o->h'.get? i=some o):Hu k h' i a n:=by
 cases k
 ·obtain⟨o,ho,r⟩:=x;exact⟨o,e o ho,r⟩
 ·obtain⟨o,ho,r⟩:=x;exact⟨o,e o ho,r⟩
theorem A6.at{k:Bool}{h h':Heap}{a:Addr}{xs:Array Value}(x:A6 k h a xs)(e:∀ o,h.get? a=some o->h'.get? a=some o):A6 k h' a xs:=by
 cases k
 ·obtain⟨o,ho,r⟩:=x;exact⟨o,e o ho,r⟩
 ·obtain⟨o,ho,r⟩:=x;exact⟨o,e o ho,r⟩
theorem Hu.obj{k:Bool}{h:Heap}{i a:Addr}{n:Nat}(x:Hu k h i a n):∃ o,h.get? i=some o/\∀ v,o.data≠.cell v:=by
 cases k
 ·obtain⟨o,ho,_,d⟩:=x;exact⟨o,ho,λv z=>by rw[d]at z;cases z⟩
 ·obtain⟨o,ho,_,d⟩:=x;exact⟨o,ho,λv z=>by rw[d]at z;cases z⟩
section
variable {prog:Program} {w:World} {A:Around} {E:Value->Shared->Prop} {s:Shared}
theorem Ie{it t:Addr}{i:Nat}{items:Array Value}{x:Value}{Q:Value->Shared->Prop}(rL:s.heap.IsTupleIter it t i)(ht:s.heap.IsTuple t items)(hx:items[i]?=some x)
  (hQ:∀ h',h'.IsTupleIter it t (i+1)->Heap.SameBut it s.heap h'->Q x { s with heap:=h' }):wpAny (model prog w) A (Builtin.SmallTypes.nextOf (.ref it)) Q E s:=by
 obtain⟨o,ho,hc,hd⟩:=id rL;obtain⟨ol,hol,_,nl,RD⟩:=ht;unfold Builtin.SmallTypes.nextOf;refine wpAny_bind (wpAny_callSpecial?_slot (name:=Str.ofString "__next__") rL.typeIs F.slot_tuple_iterator_next (wpAny_call_entry F.slot_tuple_iterator_next rL.typeIs F.entry_tuple_iterator_next ?_ (F.args_tuple_iterator_next_1 _)));show wpAny _ _ (field (.ref it) 0 >>= _) _ _ s;refine wpAny_bind (wpAny_field ho hd (x:=.ref t) rfl ?_);show wpAny _ _ (if (Value.ref t == Value.none)=true then _ else _) _ _ s;rw[if_neg (show ¬ ((Value.ref t == Value.none)=true) from nY)];show wpAny _ _ (field (.ref it) 1 >>= _) _ _ s;refine wpAny_bind (wpAny_field ho hd (x:=.int i 0) rfl ?_);show wpAny _ _ (seqItems? (.ref t) >>= _) _ _ s;refine wpAny_bind (wpAny_seqItems hol RD ?_);simp only[Int.toNat_natCast,hx];refine wpAny_bind (wpAny_setField ho hd (by simp) (wpAny_pure ⟨x,rfl,wpAny_pure (hQ _ ?_ (Heap.SameBut.update ..))⟩));exists _,Heap.get?_update_self _ ho (Obj.isFreed_of_fields (Obj.data_mapFields hd _)),(Obj.cls_mapFields ..).trans hc;rw[Obj.data_mapFields hd];simp[rawInt]
theorem LK{it t:Addr}{i:Nat}{items:Array Value}{Q:Value->Shared->Prop}(hh:A.handled=none)(rL:s.heap.IsTupleIter it t i)(ht:s.heap.IsTuple t items)(hx:items[i]?=none)
  (hE:∀ h' e,Heap.ExtBut it s.heap h'->(∃ o,h'.get? e=some o/\o.cls=.type "StopIteration")->E (.ref e) { s with heap:=h' }):wpAny (model prog w) A (Builtin.SmallTypes.nextOf (.ref it)) Q E s:=by
 obtain⟨o,ho,hc,hd⟩:=id rL;obtain⟨ol,hol,_,nl,RD⟩:=ht;unfold Builtin.SmallTypes.nextOf;refine wpAny_bind (wpAny_callSpecial?_slot (name:=Str.ofString "__next__") rL.typeIs F.slot_tuple_iterator_next (wpAny_call_entry F.slot_tuple_iterator_next rL.typeIs F.entry_tuple_iterator_next ?_ (F.args_tuple_iterator_next_1 _)));show wpAny _ _ (field (.ref it) 0 >>= _) _ _ s;refine wpAny_bind (wpAny_field ho hd (x:=.ref t) rfl ?_);show wpAny _ _ (if (Value.ref t == Value.none)=true then _ else _) _ _ s;rw[if_neg (show ¬ ((Value.ref t == Value.none)=true) from nY)];show wpAny _ _ (field (.ref it) 1 >>= _) _ _ s;refine wpAny_bind (wpAny_field ho hd (x:=.int i 0) rfl ?_);show wpAny _ _ (seqItems? (.ref t) >>= _) _ _ s;refine wpAny_bind (wpAny_seqItems hol RD ?_);simp only[Int.toNat_natCast,hx];refine wpAny_bind (wpAny_rule (wpAny_bind (wpAny_setField ho hd (by simp) ?_)));show wpAny _ _ (newExc (.type "StopIteration") [] >>= _) _ _ _;refine wpAny_bind ?_;simp only[newExc,newTuple];refine wpAny_bind (wpAny_newObj_type ?_ (by size_fits))
 refine wpAny_bind (m:=firstArgMember _ _) (wpAny_of_eq (a:=Value.none) (by first|rfl|(simp only[firstArgMember];rfl)) ?_)
 refine wpAny_newObj_type ?_ (by size_fits);simp only[raiseNew];refine wpAny_bind (wpAny_handled ?_)
 first|rw[show A.in1.handled=none from hh]|rw[hh]
 refine wpAny_bind (wpAny_pure (wpAny_throw ?_));exact hE _ _ (((Heap.SameBut.update ..).extBut.push _).push _) ⟨_,Heap.get?_push_size _ rfl,rfl⟩
theorem uJ{k:Bool}{it t:Addr}{i:Nat}{items:Array Value}{x:Value}{Q:Value->Shared->Prop}(rL:Hu k s.heap it t i)(ht:A6 k s.heap t items)(hx:items[i]?=some x)
  (hQ:∀ h',Hu k h' it t (i+1)->Heap.SameBut it s.heap h'->Q x { s with heap:=h' }):wpAny (model prog w) A (Builtin.SmallTypes.nextOf (.ref it)) Q E s:=by
 cases k
 ·exact Ie rL ht hx hQ
 ·exact wpAny_nextOf_list_item rL ht hx hQ
theorem Cf{k:Bool}{it t:Addr}{i:Nat}{items:Array Value}{Q:Value->Shared->Prop}(hh:A.handled=none)(rL:Hu k s.heap it t i)(ht:A6 k s.heap t items)(hx:items[i]?=none)
  (hE:∀ h' e,Heap.ExtBut it s.heap h'->(∃ o,h'.get? e=some o/\o.cls=.type "StopIteration")->E (.ref e) { s with heap:=h' }):wpAny (model prog w) A (Builtin.SmallTypes.nextOf (.ref it)) Q E s:=by
 cases k
 ·exact LK hh rL ht hx hE
 ·exact wpAny_nextOf_list_end hh rL ht hx hE
abbrev Cg(k:Bool)(l:Addr):Obj:={ cls:=.type (if k then "list_iterator" else "tuple_iterator"),data:=.fields #[.ref l,.int 0 0] }
theorem Uq{k:Bool}{l:Addr}{xs:Array Value}{Q:Value->Shared->Prop}(h:A6 k s.heap l xs)(hQ:Q (.ref s.heap.objs.size) { s with heap:=s.heap.push (Cg k l) }):wpAny (model prog w) A (pyIter (.ref l)) Q E s:=by
 cases k
 ·exact wpAny_pyIter_tuple h hQ
 ·exact wpAny_pyIter_list h hQ
structure Ci(k:Bool)(h:Heap)(z TI TO i1 i2 l1 l2:Addr)(n:Nat):Prop where
 z:IsZip h z TI TO .none
 ti:IsPair h TI (.ref i1) (.ref i2)
 to:∃ a b,IsPair h TO a b
 i1:Hu k h i1 l1 n
 i2:Hu k h i2 l2 n
theorem LL{k:Bool}{z TI TO i1 i2 l1 l2:Addr}{n:Nat}{xs ys:Array Value}{x y:Value}{Q:Value->Shared->Prop}(D:ZipApart z TI TO i1 i2 l1 l2)(st:Ci k s.heap z TI TO i1 i2 l1 l2 n)
  (Ig:A6 k s.heap l1 xs) (B4:A6 k s.heap l2 ys) (hx:xs[n]?=some x) (hy:ys[n]?=some y)
  (hQ:∀ h',IsZip h' z TI TO (rawInt s.heap.objs.size)->IsPair h' TO x y->Hu k h' i1 l1 (n+1)->Hu k h' i2 l2 (n+1)->IsPair h' s.heap.objs.size x y->
   (∀ c o,c≠z->c≠TO->c≠i1->c≠i2->s.heap.get? c=some o->h'.get? c=some o)->Q (.ref s.heap.objs.size) { s with heap:=h' }) :
  wpAny (model prog w) A (Builtin.«zip.__next__» ⟨[.ref z],[]⟩) (λjG s'=>∃ v,jG=.done (.ret v)/\Q v s') E s:=by
 obtain⟨hz,hTI,⟨a,b,hTO⟩,h1,h2⟩:=st;show wpAny _ _ (field (.ref z) 2 >>= _) _ _ _;refine wpAny_bind (wpAny_field hz rfl (x:=.bool false) rfl ?_);show wpAny _ _ (field (.ref z) 3 >>= _) _ _ _;refine wpAny_bind (wpAny_field hz rfl (x:=.ref TI) rfl (wpAny_bind (wpAny_seqItems hTI rfl ?_)));show wpAny _ _ (Builtin.SmallTypes.ownedTupleIsFree (.ref z) >>= _) _ _ _;refine wpAny_bind ?_;unfold Builtin.SmallTypes.ownedTupleIsFree;refine wpAny_bind (wpAny_field hz rfl (x:=.none) rfl (wpAny_pure ?_));simp only[if_true];refine wpAny_bind (wpAny_rule (wpAny_bind (wpAny_field hz rfl (x:=.ref TO) rfl (wpAny_bind (wpAny_setField_rec hz (by simp) λg1 z1 c1=>?_)))))
 replace z1:IsZip g1 z TI TO .ellipsis:=z1
 refine wpAny_bind ?_;simp only[List.zipIdx_cons,List.zipIdx_nil,List.forIn_cons,List.forIn_nil];refine wpAny_bind (wpAny_bind (wpAny_onRaise ?_));show wpAny _ _ (Builtin.SmallTypes.nextOf (.ref i1) >>= _) _ _ _;refine wpAny_bind (uJ (h1.at λo e=>c1.extBut _ _ D.i1z e) (Ig.at λo e=>c1.extBut _ _ D.l1z e) hx λg2 Ur c2=>wpAny_pure ?_);have o2:IsPair g2 TO a b:=c2.extBut _ _ D.TOi1 (c1.extBut _ _ D.TOz hTO);refine wpAny_bind (wpAny_seqItems o2 rfl (wpAny_bind (wpAny_updateSeq_pair o2 λg3 o3 c3=>?_)))
 replace o3:IsPair g3 TO x b:=o3
 refine wpAny_bind (wpAny_letGo (wpAny_pure (wpAny_bind (wpAny_bind (wpAny_onRaise ?_)))));show wpAny _ _ (Builtin.SmallTypes.nextOf (.ref i2) >>= _) _ _ _;refine wpAny_bind (uJ (((h2.at λo e=>c1.extBut _ _ D.i2z e).at λo e=>c2.extBut _ _ D.i12.symm e).at λo e=>c3.extBut _ _ D.TOi2.symm e) (((B4.at λo e=>c1.extBut _ _ D.l2z e).at λo e=>c2.extBut _ _ D.l2i1 e).at λo e=>c3.extBut _ _ D.l2TO e) hy λg4 h24 c4=>wpAny_pure ?_);have o4:IsPair g4 TO x b:=c4.extBut _ _ D.TOi2 o3;refine wpAny_bind (wpAny_seqItems o4 rfl (wpAny_bind (wpAny_updateSeq_pair o4 λg5 o5 c5=>?_)))
 replace o5:IsPair g5 TO x y:=o5
 refine wpAny_bind (wpAny_letGo (wpAny_pure (wpAny_pure (wpAny_bind (wpAny_seqItems o5 rfl (wpAny_bind (wpAny_newTuple ?_)))))));have sz:g5.objs.size=s.heap.objs.size:=by rw[c5.1,c4.1,c3.1,c2.1,c1.1]
 have z5:IsZip g5 z TI TO .ellipsis:=c5.extBut _ _ D.TOz.symm (c4.extBut _ _ D.i2z.symm (c3.extBut _ _ D.TOz.symm (c2.extBut _ _ D.i1z.symm z1)));have k5:∀ c o,c≠z->c≠TO->c≠i1->c≠i2->s.heap.get? c=some o->g5.get? c=some o:=λc o n1 n2 n3 n4 e=>c5.extBut _ _ n2 (c4.extBut _ _ n4 (c3.extBut _ _ n2 (c2.extBut _ _ n3 (c1.extBut _ _ n1 e))));have h15:Hu k g5 i1 l1 (n+1):=((Ur.at λo e=>c3.extBut _ _ D.TOi1.symm e).at λo e=>c4.extBut _ _ D.i12 e).at λo e=>c5.extBut _ _ D.TOi1.symm e;have h25:Hu k g5 i2 l2 (n+1):=h24.at λo e=>c5.extBut _ _ D.TOi2.symm e;have zlt:z<g5.objs.size:=Heap.lt_size z5;show wpAny _ _ (Builtin.SmallTypes.ownedTupleHandOut (.ref z) (.ref g5.objs.size) >>= _) _ _ _;refine wpAny_bind ?_;unfold Builtin.SmallTypes.ownedTupleHandOut;have z6:IsZip (g5.push { cls:=.type "tuple",data:=.seq #[x,y] }) z TI TO .ellipsis:=Heap.get?_push_of_some _ z5;refine wpAny_bind (wpAny_setField_rec z6 (by simp) λg7 z7 c7=>?_)
 replace z7:IsZip g7 z TI TO (rawInt g5.objs.size):=z7
 refine wpAny_setField_rec z7 (by simp) λg8 z8 c8=>?_
 replace z8:IsZip g8 z TI TO (rawInt g5.objs.size):=z8
 have up:∀ c o,c≠z->g5.get? c=some o->g8.get? c=some o:=λc o n1 e=>c8.extBut _ _ n1 (c7.extBut _ _ n1 (Heap.get?_push_of_some _ e));have t8:IsPair g8 g5.objs.size x y:=c8.extBut _ _ (Nat.ne_of_gt zlt) (c7.extBut _ _ (Nat.ne_of_gt zlt) (Heap.get?_push_size _ rfl));rw[sz]at z8 t8;refine wpAny_pure ⟨Y,?_⟩;show Q (.ref g5.objs.size) _;rw[sz];exact hQ g8 z8 (up _ _ D.TOz o5) (h15.at λo e=>up _ o D.i1z e) (h25.at λo e=>up _ o D.i2z e) t8 λc o n1 n2 n3 n4 e=>up c o n1 (k5 c o n1 n2 n3 n4 e)
theorem Om{k:Bool}{z TI TO i1 i2 l1 l2:Addr}{n:Nat}{xs ys:Array Value}{Q:Fin->Shared->Prop}(hh:A.handled=none)(D:ZipApart z TI TO i1 i2 l1 l2)(st:Ci k s.heap z TI TO i1 i2 l1 l2 n)
  (Ig:A6 k s.heap l1 xs) (B4:A6 k s.heap l2 ys) (VO:xs[n]?=none\/ys[n]?=none)
  (hE:∀ h' e,(∀ c o,c≠z->c≠TO->c≠i1->c≠i2->s.heap.get? c=some o->h'.get? c=some o)->(∃ o,h'.get? e=some o/\o.cls=.type "StopIteration")->E (.ref e) { s with heap:=h' }) :
  wpAny (model prog w) A (Builtin.«zip.__next__» ⟨[.ref z],[]⟩) Q E s:=by
 obtain⟨hz,hTI,⟨a,b,hTO⟩,h1,h2⟩:=st;show wpAny _ _ (field (.ref z) 2 >>= _) _ _ _;refine wpAny_bind (wpAny_field hz rfl (x:=.bool false) rfl ?_);show wpAny _ _ (field (.ref z) 3 >>= _) _ _ _;refine wpAny_bind (wpAny_field hz rfl (x:=.ref TI) rfl (wpAny_bind (wpAny_seqItems hTI rfl ?_)));show wpAny _ _ (Builtin.SmallTypes.ownedTupleIsFree (.ref z) >>= _) _ _ _;refine wpAny_bind ?_;unfold Builtin.SmallTypes.ownedTupleIsFree;refine wpAny_bind (wpAny_field hz rfl (x:=.none) rfl (wpAny_pure ?_));simp only[if_true];refine wpAny_bind (wpAny_rule (wpAny_bind (wpAny_field hz rfl (x:=.ref TO) rfl (wpAny_bind (wpAny_setField_rec hz (by simp) λg1 z1 c1=>?_)))))
 replace z1:IsZip g1 z TI TO .ellipsis:=z1
 refine wpAny_bind ?_;simp only[List.zipIdx_cons,List.zipIdx_nil,List.forIn_cons,List.forIn_nil];refine wpAny_bind (wpAny_bind (wpAny_onRaise ?_));show wpAny _ _ (Builtin.SmallTypes.nextOf (.ref i1) >>= _) _ _ _
 cases hx:xs[n]? with
 | none =>
  refine wpAny_bind (Cf hh (h1.at λo e=>c1.extBut _ _ D.i1z e) (Ig.at λo e=>c1.extBut _ _ D.l1z e) hx λg2 e c2 he=>?_);obtain⟨oe,VP,hce⟩:=he;have z2:IsZip g2 z TI TO .ellipsis:=c2 _ _ D.i1z.symm z1;have hez:e≠z:=λx=>by subst x;rw[z2]at VP;cases VP;simp at hce
  exact wpAny_setField_rec z2 (by simp) λg3 _ c3=>hE g3 e (λc o n1 _ n3 _ x=>c3.extBut _ _ n1 (c2 _ _ n3 (c1.extBut _ _ n1 x))) ⟨oe,c3.extBut _ _ hez VP,hce⟩
 | some x =>
  have hy:ys[n]?=none:=by rcases VO with h|h;(rw[hx]at h;cases h);exact h
  refine wpAny_bind (uJ (h1.at λo e=>c1.extBut _ _ D.i1z e) (Ig.at λo e=>c1.extBut _ _ D.l1z e) hx λg2 Ur c2=>wpAny_pure ?_);have o2:IsPair g2 TO a b:=c2.extBut _ _ D.TOi1 (c1.extBut _ _ D.TOz hTO);refine wpAny_bind (wpAny_seqItems o2 rfl (wpAny_bind (wpAny_updateSeq_pair o2 λg3 o3 c3=>?_)));refine wpAny_bind (wpAny_letGo (wpAny_pure (wpAny_bind (wpAny_bind (wpAny_onRaise ?_)))));show wpAny _ _ (Builtin.SmallTypes.nextOf (.ref i2) >>= _) _ _ _;refine wpAny_bind (Cf hh (((h2.at λo e=>c1.extBut _ _ D.i2z e).at λo e=>c2.extBut _ _ D.i12.symm e).at λo e=>c3.extBut _ _ D.TOi2.symm e) (((B4.at λo e=>c1.extBut _ _ D.l2z e).at λo e=>c2.extBut _ _ D.l2i1 e).at λo e=>c3.extBut _ _ D.l2TO e) hy λg4 e c4 he=>?_);obtain⟨oe,VP,hce⟩:=he;have z4:IsZip g4 z TI TO .ellipsis:=c4 _ _ D.i2z.symm (c3.extBut _ _ D.TOz.symm (c2.extBut _ _ D.i1z.symm z1));have hez:e≠z:=λx=>by subst x;rw[z4]at VP;cases VP;simp at hce
  exact wpAny_setField_rec z4 (by simp) λg5 _ c5=>hE g5 e (λc o n1 n2 n3 n4 x=>c5.extBut _ _ n1 (c4 _ _ n4 (c3.extBut _ _ n2 (c2.extBut _ _ n3 (c1.extBut _ _ n1 x))))) ⟨oe,c5.extBut _ _ hez VP,hce⟩
theorem Ih{k:Bool}{z TI TO i1 i2 l1 l2:Addr}{n:Nat}{xs ys:Array Value}{x y:Value}{Q:Option Value->Shared->Prop}(D:ZipApart z TI TO i1 i2 l1 l2)(st:Ci k s.heap z TI TO i1 i2 l1 l2 n)
  (Ig:A6 k s.heap l1 xs) (B4:A6 k s.heap l2 ys) (hx:xs[n]?=some x) (hy:ys[n]?=some y)
  (hQ:∀ h',IsZip h' z TI TO (rawInt s.heap.objs.size)->IsPair h' TO x y->Hu k h' i1 l1 (n+1)->Hu k h' i2 l2 (n+1)->IsPair h' s.heap.objs.size x y->
   (∀ c o,c≠z->c≠TO->c≠i1->c≠i2->s.heap.get? c=some o->h'.get? c=some o)->Q (some (.ref s.heap.objs.size)) { s with heap:=h' }):wpAny (model prog w) A (pyNext (.ref z)) Q E s:=by
 have hT:s.TypeIs (.ref z) "zip":=⟨_,st.z,rfl⟩;unfold pyNext;exact wpAny_bind (wpAny_attempt (wpAny_callSpecial?_slot (name:=Str.ofString "__next__") hT F.slot_zip_next (wpAny_call_entry F.slot_zip_next hT F.entry_zip_next (LL D st Ig B4 hx hy λh' a1 a2 a3 a4 a5 a7=>wpAny_pure (hQ h' a1 a2 a3 a4 a5 a7)) (F.args_zip_next_1 _))))
theorem LM{k:Bool}{z TI TO i1 i2 l1 l2:Addr}{n:Nat}{xs ys:Array Value}{Q:Option Value->Shared->Prop}(hh:A.handled=none)(D:ZipApart z TI TO i1 i2 l1 l2)(st:Ci k s.heap z TI TO i1 i2 l1 l2 n)
  (Ig:A6 k s.heap l1 xs) (B4:A6 k s.heap l2 ys) (VO:xs[n]?=none\/ys[n]?=none)
  (hQ:∀ h',(∀ c o,c≠z->c≠TO->c≠i1->c≠i2->s.heap.get? c=some o->h'.get? c=some o)->Q none { s with heap:=h' }):wpAny (model prog w) A (pyNext (.ref z)) Q E s:=by
 have hT:s.TypeIs (.ref z) "zip":=⟨_,st.z,rfl⟩;unfold pyNext;refine wpAny_bind (wpAny_attempt (wpAny_callSpecial?_slot (name:=Str.ofString "__next__") hT F.slot_zip_next (wpAny_call_entry F.slot_zip_next hT F.entry_zip_next (Om hh D st Ig B4 VO λh' e hk he=>?_) (F.args_zip_next_1 _))));obtain⟨o,ho,hc⟩:=he;exact wpAny_bind (wpAny_isInstance (T:="StopIteration") (b:=true) ⟨o,ho,hc⟩ isSubtype_stop (wpAny_pure (hQ _ hk)))
end
abbrev zH1(k:Bool)(h:Heap)(l1:Addr):Heap:=h.push (Cg k l1)
abbrev zH2(k:Bool)(h:Heap)(l1 l2:Addr):Heap:=(zH1 k h l1).push (Cg k l2)
abbrev zH3(k:Bool)(h:Heap)(l1 l2:Addr):Heap:=(zH2 k h l1 l2).push { cls:=.type "tuple",data:=.seq #[.ref h.objs.size,.ref (zH1 k h l1).objs.size] }
abbrev zH4(k:Bool)(h:Heap)(l1 l2:Addr):Heap:=(zH3 k h l1 l2).push { cls:=.type "tuple",data:=.seq #[.none,.none] }
abbrev XZ(k:Bool)(h:Heap)(l1 l2:Addr):Heap:=(zH4 k h l1 l2).push { cls:=.type "zip",data:=.fields #[.none,.bool false,.bool false,.ref (zH2 k h l1 l2).objs.size,.ref (zH3 k h l1 l2).objs.size] }
theorem Ii(k:Bool)(l1 l2:Addr)(xs ys:Array Value) :
  Meets (Builtin.«zip.__new__» ⟨[.type "zip",.ref l1,.ref l2],[]⟩) (λ_ R s=>A6 k s.heap l1 xs/\A6 k s.heap l2 ys/\R (.ok (.ret (.ref (zH4 k s.heap l1 l2).objs.size))) { s with heap:=XZ k s.heap l1 l2 }) :=
 .of_wp λprog w A R s h=>by
  obtain⟨hp,g,d,tk,os⟩:=s;obtain⟨Ig,B4,h⟩:=h;have hsub:=sub_zip;have hL1:A6 k (Shared.heap ⟨hp,g,d,tk,os⟩) l1 xs:=Ig;have hL2:A6 k (Shared.heap ⟨hp.push (Cg k l1),g,d,tk,os⟩) l2 ys:=B4.at λo e=>Heap.get?_push_of_some _ e
  wp_walk using Uq hL1,Uq hL2
  exact⟨Y,h⟩
section
variable {prog:Program} {w:World} {A:Around} {E:Value->Shared->Prop} {s:Shared}
theorem LN{k:Bool}{l1 l2:Addr}{xs ys:Array Value}{Q:Value->Shared->Prop}(Ig:A6 k s.heap l1 xs)(B4:A6 k s.heap l2 ys)
  (h:∀ h',Ci k h' (s.heap.objs.size+4) (s.heap.objs.size+2) (s.heap.objs.size+3) s.heap.objs.size (s.heap.objs.size+1) l1 l2 0->(∀ c o,s.heap.get? c=some o->h'.get? c=some o)->Q (.ref (s.heap.objs.size+4)) { s with heap:=h' }) :
  wpAny (model prog w) A (call (.type "zip") [.ref l1,.ref l2]) Q E s:=by
 refine callType_new F.called_zip (by decide) (F.typeCall_zip_2 _ _) (F.newCall_zip_2 _ _) (λobj=>F.args_object_init_3 obj _ _) F.entry_zip_new (Ii k l1 l2 xs ys) ⟨Ig,B4,?_⟩;have z1:(zH1 k s.heap l1).objs.size=s.heap.objs.size+1:=Heap.size_push ..;have z2:(zH2 k s.heap l1 l2).objs.size=s.heap.objs.size+2:=by rw[Heap.size_push,z1]
 have z3:(zH3 k s.heap l1 l2).objs.size=s.heap.objs.size+3:=by rw[Heap.size_push,z2]
 have z4:(zH4 k s.heap l1 l2).objs.size=s.heap.objs.size+4:=by rw[Heap.size_push,z3]
 have g5:(XZ k s.heap l1 l2).get? (zH4 k s.heap l1 l2).objs.size=some _:=Heap.get?_push_size _ rfl;have g4:(XZ k s.heap l1 l2).get? (zH3 k s.heap l1 l2).objs.size=some _:=Heap.get?_push_of_some _ (Heap.get?_push_size _ rfl);have g3:(XZ k s.heap l1 l2).get? (zH2 k s.heap l1 l2).objs.size=some _:=Heap.get?_push_of_some _ (Heap.get?_push_of_some _ (Heap.get?_push_size _ rfl));have g2:(XZ k s.heap l1 l2).get? (zH1 k s.heap l1).objs.size=some (Cg k l2):=Heap.get?_push_of_some _ (Heap.get?_push_of_some _ (Heap.get?_push_of_some _ (Heap.get?_push_size _ rfl)));have g1:(XZ k s.heap l1 l2).get? s.heap.objs.size=some (Cg k l1):=Heap.get?_push_of_some _ (Heap.get?_push_of_some _ (Heap.get?_push_of_some _ (Heap.get?_push_of_some _ (Heap.get?_push_size _ rfl))));show _/\_;rw[z2,z3,z4]at g5;rw[z1,z2]at g3;rw[z3]at g4;rw[z1]at g2;rw[z4];refine⟨⟨_,g5,rfl⟩,h _ ⟨g5,g3,⟨P,g4⟩,?_,?_⟩ λc o x=>Heap.get?_push_of_some _ (Heap.get?_push_of_some _ (Heap.get?_push_of_some _ (Heap.get?_push_of_some _ (Heap.get?_push_of_some _ x))))⟩
 ·cases k
  ·exact⟨_,g1,V⟩
  ·exact⟨_,g1,V⟩
 ·cases k
  ·exact⟨_,g2,V⟩
  ·exact⟨_,g2,V⟩
end
def Ks(K:Frag)(k:Bool)(H:Hp)(a:Addr)(xs:List V):Prop:=match k with
 | true=>bI K H a xs
 | false=>cX K H a xs
theorem wR{X:Cx}{σ:L2.St}{H:Hp}{s:Shared}{k:Bool}{a:Addr}{xs:List V}(I:Inv X ao σ H s)(h:Ks X.K k H a xs):∃ aM:List Value,cC xs aM/\A6 k s.heap a aM.toArray/\xs.length<=sizeLine:=by
 cases k
 ·obtain⟨aM,r,p,z⟩:=I.tuple h;exact⟨aM,r,p,z⟩
 ·obtain⟨aM,r,p,z⟩:=I.list h;exact⟨aM,r,p.isList,z⟩
theorem Ku{X:Cx}{σ:L2.St}{H:Hp}{s:Shared}{k:Bool}{a:Addr}{xs ys:List V}(I:Inv X ao σ H s)(h:Ks X.K k H a xs)(h':Ks X.K k H a ys):xs=ys:=by
 cases k
 ·exact I.BW h h'
 ·exact I.Fc h h'
theorem Oo{k:Bool}{h:Heap}{a:Addr}{xs:Array Value}(x:A6 k h a xs):a<h.objs.size:=by
 cases k
 ·obtain⟨o,ho,_⟩:=x;exact Heap.lt_size ho
 ·obtain⟨o,ho,_⟩:=x;exact Heap.lt_size ho
def Zi(K:Frag)(k:Bool)(a1 a2:Addr):It :=
 ⟨λi H=>∃ xs ys x y,Ks K k H a1 xs/\Ks K k H a2 ys/\xs[i]?=some x/\ys[i]?=some y,λi H v H'=>∃ p x y,H p=none/\v=.ref p/\H'=aN H p (.tup [x,y])/\(∀ xs,Ks K k H a1 xs->xs[i]?=some x)/\∀ ys,Ks K k H a2 ys->ys[i]?=some y,λi H=>∃ xs ys,Ks K k H a1 xs/\Ks K k H a2 ys/\(xs.length<=i\/ys.length<=i)⟩
theorem Oq{P:Program}{w:World}{K:Frag}{x1:Nat}{k:Bool}{z TI TO i1 i2 l1 l2:Addr}(D:ZipApart z TI TO i1 i2 l1 l2) :
  Lq P w K (.Tuple VQ x1 Lx) (Zi K k l1 l2) [z,TI,TO,i1,i2] z (λi h=>Ci k h z TI TO i1 i2 l1 l2 i) where
 mem:=by simp
 obj:=λi h st b hb=>by
  obtain⟨hz,hTI,⟨a,c,hTO⟩,h1,h2⟩:=st;simp only[List.mem_cons,List.not_mem_nil,or_false]at hb;rcases hb with rfl|rfl|rfl|rfl|rfl
  ·exact⟨_,hz,λv e=>by cases e⟩
  ·exact⟨_,hTI,λv e=>by cases e⟩
  ·exact⟨_,hTO,λv e=>by cases e⟩
  ·exact h1.obj
  ·exact h2.obj
 keep:=λi h h' st kk=>by
  obtain⟨hz,hTI,⟨a,c,hTO⟩,h1,h2⟩:=st;exact⟨kk z (by simp) _ hz,kk TI (by simp) _ hTI,⟨a,c,kk TO (by simp) _ hTO⟩,h1.at λo e=>kk i1 (by simp) o e,h2.at λo e=>kk i2 (by simp) o e⟩
 item:=by
  intro X hP hw hK hc i ao s σ H E I hf st hg;subst hP hw hK;obtain⟨xs,ys,x,y,q1,q2,e1,e2⟩:=hg;obtain⟨us,r1,p1,_⟩:=wR I q1;obtain⟨vs,r2,p2,_⟩:=wR I q2;obtain⟨u,eu,ru⟩:=r1.get e1;obtain⟨v,ev,rv⟩:=r2.get e2;refine Ih (x:=u) (y:=v) D st p1 p2 (by simpa using eu) (by simpa using ev) λh' g1 g2 g3 g4 g5 g7=>?_;refine⟨Y,wpAny_letOwnedTupleGo_zip g1 λh2 hz2 c2=>?_⟩;have ne:∀ {b o},s.heap.get? b=some o->s.heap.objs.size≠b:=λe=>Nat.ne_of_gt (Heap.lt_size e)
  have k2:∀ b o,b∉[z,TI,TO,i1,i2]->s.heap.get? b=some o->h2.get? b=some o:=λb o hb e=>by
   simp only[List.mem_cons,List.not_mem_nil,or_false,not_or]at hb;exact c2.extBut _ _ hb.1 (g7 b o hb.1 hb.2.2.1 hb.2.2.2.1 hb.2.2.2.2 e)
  have I2:Inv X ao σ (aN H s.heap.objs.size (.tup [x,y])) { s with heap:=h2,toks:=s.toks } := Zh I k2 hf (fF _) (by show 2<=sizeLine;decide) (.cons ru (.cons rv .nil)) ⟨_,c2.extBut _ _ (ne st.z) g5,rfl,Y⟩;refine⟨.ref s.heap.objs.size,_,I2,rfl,⟨_,x,y,I.hok.fresh (fF _),V,λxs' q=>?_,λys' q=>?_⟩,?_,λb hb=>?_⟩
  ·rw[Ku I q q1];exact e1
  ·rw[Ku I q q2];exact e2
  ·exact⟨hz2,c2.extBut _ _ D.TIz (g7 _ _ D.TIz D.TITO D.TIi1 D.TIi2 st.ti),⟨u,v,c2.extBut _ _ D.TOz g2⟩,g3.at λo e=>c2.extBut _ _ D.i1z e,g4.at λo e=>c2.extBut _ _ D.i2z e⟩
  ·have tO:∃ o,s.heap.get? b=some o:=by
    obtain⟨hz,hTI,⟨a,c,hTO⟩,h1,h2⟩:=st;simp only[List.mem_cons,List.not_mem_nil,or_false]at hb;rcases hb with rfl|rfl|rfl|rfl|rfl
    ·exact⟨_,hz⟩
    ·exact⟨_,hTI⟩
    ·exact⟨_,hTO⟩
    ·exact h1.obj.imp λ_ e=>e.1
    ·exact h2.obj.imp λ_ e=>e.1
   obtain⟨o,e⟩:=tO;rw[aK (ne e).symm];exact (hf b hb).1
 done:=by
  intro X hP hw hK hc i ao s σ H E I hf st hg;subst hP hw hK;obtain⟨xs,ys,q1,q2,e⟩:=hg;obtain⟨us,r1,p1,_⟩:=wR I q1;obtain⟨vs,r2,p2,_⟩:=wR I q2;have l1:=r1.length;have l2:=r2.length;refine LM (I.ok.hd hc) D st p1 p2 (e.imp (λe=>by simp;lia) (λe=>by simp;lia)) λh' kk=>⟨rfl,RC (t':=s.toks) (ch:=[z,TI,TO,i1,i2]) I (λb o hb e=>?_) hf⟩;simp only[List.mem_cons,List.not_mem_nil,or_false,not_or]at hb;exact kk b o hb.1 hb.2.2.1 hb.2.2.2.1 hb.2.2.2.2 e
 self:=λ_ _ _ _ _ st h=>wpAny_pyIter_zip st.z h
def adg(K:Frag)(ta:TA):TI:=fun σ H R=>ta σ H λvs H1=>∃ k a1 a2 xs ys,vs=[.ref a1,.ref a2]/\Ks K k H1 a1 xs/\Ks K k H1 a2 ys/\R (Zi K k a1 a2) H1
theorem VR{X:Cx}{x1:Nat}{a b:Expr}{ta:TA}{p:Pos}(hg:Gl X "zip")(hm:X.mg "zip"=none)(ha:PA X [a,b] ta)
  (hs:starEach [a,b] X.env=[(false,eval a X.env),(false,eval b X.env)]:=by rfl) (Lv:starEach [b] X.env=[(false,eval b X.env)]:=by rfl):PI X (.Tuple VQ x1 Lx) (.Call (.Name "zip" p) [a,b] [] pos) (adg X.K ta):=by
 intro ao s σ H R I h;refine Call_ (zl I hg hm boot_zip (PyProof.Rows.callWith_type1 (dc (ha pos ao s σ H _ I h) λus s1 ⟨vs,H1,I1,r1,q1⟩=>?_) (by rw[hs,Lv]) (by rw[Lv];rfl)));obtain⟨k,a1,a2,xs,ys,e,q1,q2,q⟩:=q1;subst e;obtain⟨u1,u2,rfl,e1,e2⟩:=r1.two;cases (show u1=Value.ref a1 from e1);cases (show u2=Value.ref a2 from e2);obtain⟨us,rr1,p1,_⟩:=wR I1 q1;obtain⟨ws,rr2,p2,_⟩:=wR I1 q2;have b1:=Oo p1;have b2:=Oo p2;refine LN p1 p2 λh' st kk=>wpAny_pyIter_zip st.z ?_;have I2:Inv X ao σ H1 { s1 with heap:=h',toks:=s1.toks }:=I1.kept kk;refine⟨K,_,H1,rfl,I2,Oq (zipApart_new b1 b2),st,λb hb=>?_,q⟩
 have hb':s1.heap.objs.size<=b:=by
  simp only[List.mem_cons,List.not_mem_nil,or_false]at hb;rcases hb with rfl|rfl|rfl|rfl|rfl
  ·exact Nat.le_add_right _ _
  ·exact Nat.le_add_right _ _
  ·exact Nat.le_add_right _ _
  ·exact fF _
  ·exact Nat.le_add_right _ _
 exact I1.NH hb' (I1.hok.fresh hb')
theorem RE{K:Frag}{k:Bool}{a1:Addr}{xs ys:List V}{g:TG}{tb:TS}{D:Ends}{σ:L2.St}{H:Hp}(Pv:Nat->L2.St->Hp->Prop)(hn:xs.length=ys.length)(h0:Pv 0 σ H)
  (hl:∀ i σ H,i<=xs.length->Pv i σ H->Ks K k H a1 xs/\Ks K k H a2 ys)
  (hs:∀ i x y p σ H,xs[i]?=some x->ys[i]?=some y->H p=none->Pv i σ H->g (.ref p) σ (aN H p (.tup [x,y])) fun σ2 H2=>tb { D with nx:=Pv (i+1),ct:=Pv (i+1),bk:=D.nx } σ2 H2) (hd:∀ σ H,Pv xs.length σ H->D.nx σ H) :
  ∃ W:Nat->Nat->L2.St->Hp->Prop,(∃ m,W 0 m σ H)/\∀ i m σ H,W i m σ H->
   ((Zi K k a1 a2).stop i H/\D.nx σ H)\/((Zi K k a1 a2).go i H/\∃ N:L2.St->Hp->Prop,(∀ σ' H',N σ' H'->∃ m',m'<m/\W (i+1) m' σ' H')/\∀ x H',(Zi K k a1 a2).QT i H x H'->g x σ H' fun σ2 H2=>tb { D with nx:=N,ct:=N,bk:=D.nx } σ2 H2):=by
 refine⟨λi m σ H=>m=xs.length-i/\i<=xs.length/\Pv i σ H,⟨xs.length,by simp,Nat.zero_le _,h0⟩,?_⟩;rintro i m σ H ⟨rfl,hi,p⟩;obtain⟨q1,q2⟩:=hl i σ H hi p;by_cases tO:i<xs.length
 ·have adh:i<ys.length:=by lia
  refine .inr ⟨⟨xs,ys,xs[i],ys[i],q1,q2,by simp[tO],by simp[adh]⟩,Pv (i+1),fun σ' H' p'=>⟨xs.length-(i+1),Q,rfl,tO,p'⟩,λx H' y=>?_⟩;obtain⟨a,x',y',hn',rfl,rfl,e1,e2⟩:=y;exact hs i x' y' a σ _ (e1 xs q1) (e2 ys q2) hn' p
 ·have e:i=xs.length:=by lia
  subst e;exact .inl ⟨⟨xs,ys,q1,q2,.inl (fF _)⟩,hd σ H p⟩
def Cj(lo:Int)(n:Nat):List V:=(List.range n).map λi:Nat=>V.int (lo+i)
section
variable {X:Cx}
theorem Fp:j7 X (.type "range") (λxs H Q=>∃ i j:Int,xs=[.int i,.int j]/\∀ p,H p=none->Q (.ref p) (aN H p (.E5 i j))):=by
 intro ao s σ H xs us Q I r h;obtain⟨i,j,rfl,q⟩:=h;obtain⟨u1,u2,rfl,⟨t,rfl⟩,⟨t',rfl⟩⟩:=r.two;refine call_range_2 ⟨.ref s.heap.objs.size,_,I.laid (o:=.E5 i j) (λb o e=>Heap.get?_push_of_some _ e) (fF _) ⟨t,t',s.toks,Heap.get?_push_size _ rfl⟩,rfl,q _ (I.hok.fresh (fF _))⟩
theorem tU(hc:X.calm=true):j7 X (.type "list") (λxs H Q=>∃ p i j,xs=[.ref p]/\H p=some (.E5 i j)/\(-(2^62)<=i/\i<2^62/\-(2^62)<=j/\j<2^62)/\(j-i).toNat<=sizeLine/\
  ∀ l,H l=none->Q (.ref l) (aN H l (.lst (Cj i (j-i).toNat)))):=by
 intro ao s σ H xs us Q I r h;obtain⟨p,i,j,rfl,hp,⟨b1,b2,b3,b4⟩,hz,q⟩:=h;obtain⟨u,rfl,rx⟩:=r.one;cases (show u=Value.ref p from rx);obtain⟨t,u,v,e⟩:=(show fX X.prog X.w H s.heap p (.E5 i j) from I.hok p _ hp)
 have e2:Builtin.Range.rangeSize i j 1=(((j-i).toNat:Nat):Int):=by rw[rangeSize_one];split <;> lia
 have hz':(j-i).toNat<=2^24:=by have:=sizeLine_eq;lia
 refine call_list_range (I.ok.hd hc) e (small_one b1 b2 b3 b4) e2 hz' λh' tk qQ c' hk hS cR=>?_;refine⟨.ref s.heap.objs.size,_,I.laid (o:=.lst (Cj i (j-i).toNat)) (t':=tk) hk (fF _) ⟨?_,qQ.toList,c',?_,by simpa using hS⟩,rfl,q _ (I.hok.fresh (fF _))⟩
 ·unfold Cj;simpa using hz
 ·have hl:qQ.toList.length=(j-i).toNat:=by simpa using cR.1
  have key:∀ (n:Nat) (us:List Value) (lo:Int),us.length=n->(∀ k v,us[k]?=some v->∃ t,v=Value.int (lo+(k:Nat)*1) t)->cC ((List.range n).map λi:Nat=>V.int (lo+i)) us:=by
   intro n
   induction n with
   | zero=>intro us lo hl _;cases us with
    | nil=>exact .nil
    | cons=>simp at hl
   | succ n ih =>
    intro us lo hl hv
    cases us with
    | nil=>simp at hl
    | cons u us =>
     rw[List.range_succ_eq_map,jJ,List.map_map];refine .cons ?_ ?_
     ·obtain⟨t,e⟩:=hv 0 u rfl;exact⟨t,by rw[e];simp⟩
     ·have:=ih us (lo+1) (by simpa using hl) λk v e=>by
       obtain⟨t,e'⟩:=hv (k+1) v (by simpa using e);exists t;rw[e'];have:lo+((k+1:Nat):Int)*1=lo+1+(k:Int)*1:=by lia
       rw[this]
      have e3:((λi:Nat=>V.int (lo+i)) ∘ Nat.succ)=λi:Nat=>V.int (lo+1+i):=by
       funext i;simp only[Function.comp,Nat.succ_eq_add_one];have:lo+((i+1:Nat):Int)=lo+1+(i:Int):=by lia
       rw[this]
      rw[e3];exact this
  exact key _ _ i hl λk v e=>cR.2 k v (by simpa using e)
end
section
variable {X:Cx}
theorem Ot{j:Int}(h0:0<j)(h1:j<10^70):j.natAbs.log2<9000:=by
 have h:j.natAbs<2^9000:=Nat.lt_trans (show j.natAbs<10^70 by lia) nofun;exact (Nat.log2_lt ∅).mpr h
theorem zI:ug X (binaryOp .FloorDiv) (rI (λ_ j=>0<j/\j<10^70) λi j=>.int (i / j)):=opI λi j _ _ _ _ _ hc q=>by
 have h1:(0:Int)<j:=hc.1;exact floordiv_int ∅ (by rw[Int.fdiv_eq_ediv_of_nonneg i ∅];exact q) (.inl (PyProof.noPylong_of_log2 (Ot hc.1 hc.2)))
theorem Fq(hc:X.calm=true):j7 X (.builtin "sum") (λxs H Q=>∃ (p:Addr) (ns:List Int),xs=[.ref p]/\bI X.K H p (ns.map V.int)/\Q (.int ns.sum) H):=by
 intro ao s σ H xs us Q I r h;obtain⟨p,ns,rfl,hq,q⟩:=h;obtain⟨u,rfl,rx⟩:=r.one;cases (show u=Value.ref p from rx);obtain⟨aM,rv,pl,hz⟩:=I.list hq;have hi:IntsAre aM ns:=intsAre_of rv;have Oa:AllInts aM.toArray:=hi.allInts;obtain⟨zs,ez⟩:=Oa.items;have hl:=pl.isList;have es:(numsOf aM.toArray.toList).sum=ns.sum:=by rw[show aM.toArray.toList=aM from rfl,hi.numsOf]
 rw[ez]at hl es;rw[nums_intItems]at es;refine PySem.sum_intListG (I.ok.hd hc) hl λh' tk t' hk=>⟨.int ns.sum,H,I.kept hk,⟨t',?_⟩,q⟩;rw[preSum_eq,ua (by simp),es]
end
end cZ
namespace gA
abbrev Row:=List (Int × Int)
def iQ(t:Row)(s e:Int):Row :=
 match t.getLast? with
 | some p=>if p.2=s then t.dropLast++[(p.1,e)] else t++[(s,e)]
 | none=>t++[(s,e)]
def dM(t:Row)(p:Int × Int):Row:=if p.1=p.2 then t else iQ t p.1 p.2
def b8(r:Row):Row:=r.foldl dM []
def run(s:Int):Nat->List Int
 | 0=>[]
 | n+1=>s::run (s+1) n
def fT(p:Int × Int):List Int:=run p.1 (p.2-p.1).toNat
def bK(r:Row):List Int:=r.flatMap fT
def cP(ns:List Int):Row:=ns.foldl (λt n=>iQ t n (n+1)) []
theorem gE(s:Int)(n:Nat):(run s n).length=n:=by
 induction n generalizing s with
 | zero=>rfl
 | succ n ih=>simp[run,ih]
theorem kW(s e:Int):iQ [] s e=[(s,e)]:=rfl
theorem kX(t:Row){q:Int × Int}{s:Int}{e:Int}(h:q.2=s):iQ (t++[q]) s e=t++[(q.1,e)]:=by
 simp[iQ,h]
theorem kY(t:Row){q:Int × Int}{s:Int}{e:Int}(h:¬ q.2=s):iQ (t++[q]) s e=t++[q]++[(s,e)]:=by
 simp[iQ,h]
theorem LO(t:Row)(a s e:Int):iQ (t++[(a,s)]) s e=t++[(a,e)]:=by
 simp[iQ]
theorem zJ(t:Row)(a s:Int)(n:Nat):(run s n).foldl (λt n=>iQ t n (n+1)) (t++[(a,s)])=t++[(a,s+n)]:=by
 induction n generalizing s with
 | zero=>simp[run]
 | succ n ih =>
  rw[run,kO,LO,ih];have:s+1+(n:Int)=s+((n+1:Nat):Int):=by lia
  rw[this]
theorem Ou(t:Row)(p:Int × Int)(h:p.1<=p.2):dM t p=(fT p).foldl (λt n=>iQ t n (n+1)) t:=by
 obtain⟨s,e⟩:=p;simp only at h;unfold dM fT;by_cases he:s=e
 ·subst he;simp[run]
 ·obtain⟨n,hn⟩:∃ n:Nat,e=s+1+n:=⟨(e-s-1).toNat,Q⟩;subst hn;rw[if_neg he];have h2:((s,s+1+(n:Int)).2-(s,s+1+(n:Int)).1).toNat=n+1:=by simp only;lia
  rw[h2,run,kO];simp only;rcases mZ t with rfl|⟨u,q,rfl⟩
  ·rw[kW,kW];exact (zJ [] s (s+1) n).symm
  ·by_cases hq:q.2=s
   ·rw[kM,kX u hq,kX u hq,zJ]
   ·rw[kM,kY u hq,kY u hq,zJ]
theorem nA{α β γ:Type}(f:γ->β->γ)(g:α->List β):∀ (l:List α) (c:γ),(l.flatMap g).foldl f c=l.foldl (λc a=>(g a).foldl f c) c
 | [],_=>rfl
 | a::l,c=>by rw[jo,List.foldl_append,kO,nA f g l]
theorem zK(r:Row)(h:∀ p∈r,p.1<=p.2):b8 r=cP (bK r):=by
 unfold b8 cP bK;rw[nA]
 have key:∀ (r:Row),(∀ p∈r,p.1<=p.2)->∀ t:Row,r.foldl dM t=r.foldl (λc a=>(fT a).foldl (λt n=>iQ t n (n+1)) c) t:=by
  intro r
  induction r with
  | nil=>intro _ t;rfl
  | cons p r ih =>
   intro h t;rw[kO,kO,Ou t p (h p (List.mem_cons_self ..))];exact ih (λq hq=>h q (mO _ hq)) _
 exact key r h []
theorem xZ(t:Row)(s e:Int):(iQ t s e).length<=t.length+1:=by
 rcases mZ t with rfl|⟨u,q,rfl⟩
 ·rw[kW];simp
 ·by_cases hq:q.2=s
  ·rw[kM,kX u hq];simp
  ·rw[kM,kY u hq];simp
theorem foldl_take_succ{α β:Type}(f:β->α->β)(l:List α)(b:β)(i:Nat)(x:α)(h:l[i]?=some x):(l.take (i+1)).foldl f b=f ((l.take i).foldl f b) x:=by
 rw[List.take_add_one,h,List.foldl_append];rfl
end gA
namespace gA
def jh(r:Row):Int:=(r.map λp=>p.2-p.1).sum
theorem RG:jh []=0:=rfl
theorem Ft(p:Int × Int)(r:Row):jh (p::r)=(p.2-p.1)+jh r:=by simp[jh]
theorem Ov(r:Row)(p:Int × Int):jh (r++[p])=jh r+(p.2-p.1):=by simp[jh]
theorem zL(r q:Row):jh (r++q)=jh r+jh q:=by simp[jh]
theorem take_snoc{α:Type}{l:List α}{i:Nat}{x:α}(h:l[i]?=some x):l.take (i+1)=l.take i++[x]:=by rw[List.take_add_one,h];rfl
end gA
namespace gA
theorem zM(s:Int)(n:Nat):run s (n+1)=run s n++[s+n]:=by
 induction n generalizing s with
 | zero=>simp[run]
 | succ n ih =>
  rw[run,ih,run];have:s+1+(n:Int)=s+((n+1:Nat):Int):=by lia
  rw[this];rfl
theorem Ck{a n:Int}(h:a<=n):fT (a,n+1)=fT (a,n)++[n]:=by
 unfold fT;have e:((a,n+1).2-(a,n+1).1).toNat=((a,n).2-(a,n).1).toNat+1:=by simp only;lia
 rw[e,zM];have:a+((((a,n).2-(a,n).1).toNat:Nat):Int)=n:=by simp only;lia
 simp only at this ⊢;rw[this]
theorem Fv(n:Int):fT (n,n+1)=[n]:=by
 have:=Ck (a:=n) (n:=n) (Int.le_refl _);rw[this];have e:fT (n,n)=[]:=by unfold fT;simp[run]
 rw[e];rfl
theorem cW(r q:Row):bK (r++q)=bK r++bK q:=by unfold bK;rw[List.flatMap_append]
theorem fD(p:Int × Int):bK [p]=fT p:=by simp[bK]
theorem Ij(t:Row)(n:Int)(h:∀ p∈t,p.1<=p.2):bK (iQ t n (n+1))=bK t++[n]:=by
 rcases mZ t with rfl|⟨u,q,rfl⟩
 ·rw[kW,fD,Fv];rfl
 ·rw[kM]at h ⊢;by_cases hq:q.2=n
  ·obtain⟨a,b⟩:=q;simp only at hq;subst hq;have hb:a<=b:=h (a,b) (by simp);rw[kX u rfl,cW,cW,fD,fD,Ck hb,nV]
  ·rw[kY u hq,cW,fD,Fv]
theorem Kv(t:Row)(n:Int)(h:∀ p∈t,p.1<=p.2):∀ p∈iQ t n (n+1),p.1<=p.2:=by
 rcases mZ t with rfl|⟨u,q,rfl⟩
 ·rw[kW];intro p hp;simp at hp;subst hp;show n<=n+1;lia
 ·rw[kM]at h ⊢;by_cases hq:q.2=n
  ·rw[kX u hq];intro p hp;rcases List.mem_append.mp hp with z|z
   ·exact h p (qM _ z)
   ·simp at z;subst z;have:=h q (by simp);show q.1<=n+1;lia
  ·rw[kY u hq];intro p hp;rcases List.mem_append.mp hp with z|z
   ·exact h p z
   ·simp at z;subst z;show n<=n+1;lia
theorem gB(ns:List Int):bK (cP ns)=ns:=by
 have key:∀ (ns:List Int) (t:Row),(∀ p∈t,p.1<=p.2)->bK (ns.foldl (λt n=>iQ t n (n+1)) t)=bK t++ns:=by
  intro ns
  induction ns with
  | nil=>intro t _;simp
  | cons n ns ih =>
   intro t h;rw[kO,ih _ (Kv t n h),Ij t n h,nV];rfl
 have:=key ns [] (λp hp=>by cases hp);simpa [cP,bK] using this
theorem pG(ns:List Int):∀ p∈cP ns,p.1<=p.2:=by
 have key:∀ (ns:List Int) (t:Row),(∀ p∈t,p.1<=p.2)->∀ p∈ns.foldl (λt n=>iQ t n (n+1)) t,p.1<=p.2:=by
  intro ns
  induction ns with
  | nil=>intro t h;exact h
  | cons n ns ih=>intro t h;exact ih _ (Kv t n h)
 exact key ns [] (λp hp=>by cases hp)
end gA
namespace gA
theorem ya(p:Int × Int)(h:p.1<=p.2):((fT p).length:Int)=p.2-p.1:=by
 unfold fT;rw[gE];lia
theorem sF:∀ (r:Row),(∀ p∈r,p.1<=p.2)->((bK r).length:Int)=jh r
 | [],_=>rfl
 | p::r,h=>by
  have ih:=sF r λq hq=>h q (mO _ hq);have hp:=ya p (h p (List.mem_cons_self ..));have e:bK (p::r)=fT p++bK r:=rfl;rw[e,cY,Ft];lia
end gA
namespace gA
open L2 cZ
structure bZ(K:Frag)(mg:Str->Option Value)(x:Str)(st:Stmt)(ps:List Str)(a:Addr)(d:FuncData):Prop where
 F:Rz K x x st a d
 b:Binds K d ps []
 m:mg x=some (.ref a)
section
variable {X:Cx}
theorem aC{x:Str}{st:Stmt}{ps:List Str}{f:Addr}{j k:Nat}{sp:Sp}{e:Expr}{es:List Expr}{t:TA}{p pos:Pos}(d:bZ X.K X.mg x st ps f fd)(G:bq X.prog X.w X.K X.mg X.zt cL k f fd ps sp)(hr:jt j X.A)
  (ha:PA X (e::es) t) (VS:k<=j:=by first|decide|lia) (hg:Gl X x:=by rfl) (LC:(x == ("__debug__":Str))=false:=by decide) (he:starEach (e::es) X.env=(false,eval e X.env)::starEach es X.env:=by rfl)
  (EX:(backTo pos (starEach es X.env)).any (·.1)=false:=by rfl):PE X (.Call (.Name x p) (e::es) [] pos) (J8 sp [] E0 t) :=
 Ka G (hr.mono VS) hg d.m d.F.kp d.b .nil bO ha LC he EX
theorem DF{st:Stmt}{t t':TS}(h:PS X st t)(hi:∀ D σ H,t' D σ H->t D σ H):PS X st t':=λao s σ H D I q=>h ao s σ H D I (hi D σ H q)
end
def cD(l:Addr)(H H':Hp):Prop:=∀ a o,H a=some o->a≠l->H' a=some o
theorem aI.keep{l:Addr}{H H':Hp}(s:aI H H'):cD l H H':=λa o e _=>s a o e
theorem cD.refl(l:Addr)(H:Hp):cD l H H:=λ_ _ e _=>e
theorem cD.trans{l:Addr}{H H1 H2:Hp}(a:cD l H H1)(b:cD l H1 H2):cD l H H2:=λc o e n=>b c o (a c o e n) n
theorem aG(l:Addr)(H:Hp)(o:HO):cD l H (aN H l o):=λa u e n=>by rw[aK n];exact e
theorem bP{l:Addr}{H H1 H2:Hp}(h:H l=none)(a:aI H H1)(b:cD l H1 H2):aI H H2:=λc o e=>b c o (a c o e) (az e h)
theorem ak{H:Hp}{p:Addr}(h:H p=none)(o:HO):aI H (aN H p o):=λb u q=>by rw[aK (az q h)];exact q
theorem iD{l a:Addr}{H H':Hp}(k:cD l H H')(n:a≠l)(h:H' a=none):H a=none:=by
 cases q:H a with
 | none=>rfl
 | some o=>rw[k a o q n]at h;cases h
def dB(H:Hp)(l c:Addr):Prop:=c≠l/\∃ (ns:List Int) (i d r:Int),H l=some (.lst [.ref c,.int i,.int d,.int r])/\H c=some (.lst (ns.map V.int))/\0<=i/\0<=r/\r<2147483647
theorem dB.same{H H':Hp}{l c:Addr}(s:dB H l c)(k:aI H H'):dB H' l c:=by
 obtain⟨n,ns,i,d,r,h1,h2,h3⟩:=s;exact⟨n,ns,i,d,r,k _ _ h1,k _ _ h2,h3⟩
theorem dB.keep{H H':Hp}{l c m:Addr}(s:dB H l c)(k:cD m H H')(h1:l≠m)(h2:c≠m):dB H' l c:=by
 obtain⟨n,ns,i,d,r,e1,e2,h3⟩:=s;exact⟨n,ns,i,d,r,k _ _ e1 h1,k _ _ e2 h2,h3⟩
theorem dB.ne{H:Hp}{l c a:Addr}(s:dB H l c)(h:H a=none):l≠a/\c≠a:=by
 obtain⟨n,ns,i,d,r,e1,e2,h3⟩:=s;exact⟨az e1 h,az e2 h⟩
theorem Zj{a b c d:V}:pU [a,b,c,d] 0=some a:=rfl
theorem VT{a b c d:V}:pU [a,b,c,d] 1=some b:=rfl
theorem RH{a b c d:V}:pU [a,b,c,d] 2=some c:=rfl
theorem Zk{a b c d:V}:pU [a,b,c,d] 3=some d:=rfl
theorem Ow{a b:V}:pU [a,b] 0=some a:=rfl
theorem LP{a b:V}:pU [a,b] 1=some b:=rfl
class inductive uK
 | mk (l c:Addr) (b:Int) (_:vs=[.ref l,.int b]) (_:dB H l c) (_:0<b) (_:b<10^70) (_ :
 ∀ (v:Int) (H':Hp),0<=v->v<b->dB H' l c->(∀ a,a≠l->H' a=H a)->Q (.int v) H'):uK vs H Q E
class inductive Us(K:Frag)
 | mk (a:Addr) (ns:List Int) (_:vs=[.ref a]) (_:bI K H a (ns.map V.int)) (_ :
 ∀ (l c:Addr) (H':Hp),dB H' l c->aI H H'->H l=none->H c=none->Q (.ref l) H')
def adi:V->Bool
 | .int _ | .bl _ | .str _ | .gj=>true
 | _=>false
def Ox(k:Bool)(H:Hp)(a:Addr)(xs:List V):Prop:=match k with
 | true=>H a=some (.lst xs)
 | false=>H a=some (.tup xs)
theorem Ox.same{k:Bool}{H H':Hp}{a:Addr}{xs:List V}(h:Ox k H a xs)(s:aI H H'):Ox k H' a xs:=by
 cases k
 ·exact s _ _ h
 ·exact s _ _ h
theorem Ox.sq{K:Frag}{k:Bool}{H:Hp}{a:Addr}{xs:List V}(h:Ox k H a xs):Ks K k H a xs:=by
 cases k
 ·exact cX.of h
 ·exact bI.of h
def Eqv(H:Hp):Nat->V->V->Prop
 | 0,_,_=>False
 | n+1,x,y=>(adi x=true/\x=y)\/∃ (k:Bool) (a b:Addr) (xs ys:List V),x=.ref a/\y=.ref b/\Ox k H a xs/\Ox k H b ys/\xs.length=ys.length/\
   ∀ (i:Nat) (u v:V),xs[i]?=some u->ys[i]?=some v->Eqv H n u v
theorem Eqv.same{H H':Hp}(s:aI H H'):∀ {n:Nat} {x y:V},Eqv H n x y->Eqv H' n x y
 | 0,_,_,h=>h
 | n+1,x,y,h=>by
  rcases h with h|⟨k,a,b,xs,ys,e1,e2,h1,h2,hl,hi⟩
  ·exact .inl h
  ·exact .inr ⟨k,a,b,xs,ys,e1,e2,h1.same s,h2.same s,hl,λi u v eu ev=>Eqv.same s (hi i u v eu ev)⟩
theorem Eqv.int{H:Hp}{n:Nat}(i:Int):Eqv H (n+1) (.int i) (.int i):=.inl ⟨V⟩
def zN(n:Nat):Sp:=λvs H Q _=>∃ x y,vs=[x,y]/\Eqv H n x y/\∀ H',aI H H'->Q (.bl true) H'
class inductive Kw
 | mk (i:Int) (_:vs=[.int i]) (_:Q (.bl true) H)
section
variable (K:Frag)
theorem Zl:kitOne K (.type "bool") (.type "bool")=some true:=by rfl
theorem Zm:kitOne K (.type "int") (.type "bool")=some false:=by kernel_rfl
theorem Zn:kitOne K (.type "int") (.type "int")=some true:=by rfl
theorem adj:kitOne K (.type "str") (.type "bool")=some false:=by kernel_rfl
theorem adk:kitOne K (.type "str") (.type "int")=some false:=by kernel_rfl
theorem Zo:kitOne K (.type "str") (.type "str")=some true:=by rfl
theorem adl:kitOne K (.type "list") (.type "bool")=some false:=by kernel_rfl
theorem adm:kitOne K (.type "list") (.type "int")=some false:=by kernel_rfl
theorem adn:kitOne K (.type "list") (.type "str")=some false:=by kernel_rfl
theorem Zp:kitOne K (.type "list") (.type "list")=some true:=by rfl
theorem k_lt:kitOne K (.type "list") (.type "tuple")=some false:=by kernel_rfl
theorem ado:kitOne K (.type "tuple") (.type "bool")=some false:=by kernel_rfl
theorem adp:kitOne K (.type "tuple") (.type "int")=some false:=by kernel_rfl
theorem adq:kitOne K (.type "tuple") (.type "str")=some false:=by kernel_rfl
theorem ads:kitOne K (.type "tuple") (.type "list")=some false:=by kernel_rfl
theorem adt:kitOne K (.type "tuple") (.type "tuple")=some true:=by rfl
end
def X0(k:Bool):Value:=.type (if k then "list" else "tuple")
theorem Ox.ty{K:Frag}{k:Bool}{H:Hp}{a:Addr}{xs:List V}(h:Ox k H a xs):kT K H (.ref a) (X0 k):=by
 cases k
 ·exact kT.tup h
 ·exact kT.lst h
theorem adu(K:Frag)(k:Bool):kitOne K (X0 k) (.type "bool")=some false:=by cases k;exact ado K;exact adl K
theorem adv(K:Frag)(k:Bool):kitOne K (X0 k) (.type "int")=some false:=by cases k;exact adp K;exact adm K
theorem adw(K:Frag)(k:Bool):kitOne K (X0 k) (.type "str")=some false:=by cases k;exact adq K;exact adn K
theorem Zq(K:Frag)(k:Bool):kitOne K (X0 k) (.type "list")=some k:=by cases k;exact ads K;exact Zp K
theorem Zr(K:Frag)(k:Bool):kitOne K (X0 k) (.type "tuple")=some (!k):=by cases k;exact adt K;exact k_lt K
def lR(H:Hp)(a:Addr)(p:Int × Int):Prop:=H a=some (.tup [.int p.1,.int p.2])
abbrev bw(H:Hp):List Addr->Row->Prop:=Paired (lR H)
inductive cA(H:Hp)(r:Addr)(row:Row):Prop
 | mk (as:List Addr) (_:H r=some (.lst (as.map V.ref))) (_:bw H as row)
theorem bw.tups{H H':Hp}{as:List Addr}{row:Row}(h:bw H as row)(t:∀ a xs,H a=some (.tup xs)->H' a=some (.tup xs)):bw H' as row:=Paired.Df h λa p e=>t a _ e
theorem bw.same{H H':Hp}{as:List Addr}{row:Row}(h:bw H as row)(s:aI H H'):bw H' as row:=h.tups λa xs e=>s a _ e
theorem cA.same{H H':Hp}{r:Addr}{row:Row}(h:cA H r row)(s:aI H H'):cA H' r row:=by
 obtain⟨as,h1,h2⟩:=h;exact⟨as,s _ _ h1,h2.same s⟩
theorem bw.keep{H H':Hp}{as:List Addr}{row:Row}{l:Addr}{xs:List V}(h:bw H as row)(hl:H l=some (.lst xs))(s:cD l H H'):bw H' as row :=
 h.tups λa ys e=>s a _ e (dY e hl)
theorem cA.keep{H H':Hp}{r:Addr}{row:Row}{l:Addr}{xs:List V}(h:cA H r row)(hl:H l=some (.lst xs))(n:r≠l)(s:cD l H H'):cA H' r row:=by
 obtain⟨as,h1,h2⟩:=h;exact⟨as,s _ _ h1 n,h2.keep hl s⟩
theorem bw.get{H:Hp}:∀ {as:List Addr} {row:Row} {i:Nat} {a:Addr},bw H as row->as[i]?=some a->∃ p,row[i]?=some p/\lR H a p
 | _,_,_,_,.nil,e=>by simp at e
 | _,_,0,_,.cons r _,e=>by simp at e;subst e;exact⟨Y,r⟩
 | _,_,i+1,a,.cons _ t,e=>by
  obtain⟨p,h1,h2⟩:=bw.get (i:=i) (a:=a) t (by simpa using e);exact⟨p,by simpa using h1,h2⟩
theorem bw.snoc{H:Hp}{as:List Addr}{row:Row}{a:Addr}{p:Int × Int}(h:bw H as row)(e:lR H a p):bw H (as++[a]) (row++[p]):=by
 induction h with
 | nil=>exact .cons e .nil
 | cons r _ ih=>exact .cons r ih
theorem bw.split{H:Hp}:∀ {as:List Addr} {row:Row} {p:Int × Int},bw H as (row++[p])->∃ bs a,as=bs++[a]/\bw H bs row/\lR H a p
 | as,[],p,h=>by
  cases h with
  | cons r t=>cases t;exact⟨[],Y,.nil,r⟩
 | as,q::row,p,h=>by
  cases h with
  | cons r t =>
   obtain⟨bs,a,rfl,h1,h2⟩:=bw.split (row:=row) (p:=p) t;exact⟨_::bs,a,rfl,.cons r h1,h2⟩
theorem bw.len{H:Hp}{as:List Addr}{row:Row}(h:bw H as row):as.length=row.length:=Paired.length h
theorem cA.eqv{H:Hp}{r q:Addr}{row:Row}(h:cA H r row)(g:cA H q row)(n:Nat):Eqv H (n+3) (.ref r) (.ref q):=by
 obtain⟨as,h1,h2⟩:=h;obtain⟨bs,g1,g2⟩:=g;refine .inr ⟨true,r,q,Z,h1,g1,by rw[cy,cy,h2.len,g2.len],λi u v eu ev=>?_⟩;rw[mY]at eu ev;obtain⟨a,ea,rfl⟩:=Option.map_eq_some_iff.mp eu;obtain⟨b,eb,rfl⟩:=Option.map_eq_some_iff.mp ev;obtain⟨p,e1,k1⟩:=h2.get ea;obtain⟨p',e2,k2⟩:=g2.get eb;rw[e1]at e2;cases e2;refine .inr ⟨false,a,b,Z,k1,k2,rfl,λj u v eu ev=>?_⟩;rw[eu]at ev;cases ev
 match j,eu with
 | 0,eu=>cases eu;exact Eqv.int _
 | 1,eu=>cases eu;exact Eqv.int _
theorem eK{α:Type}(xs:List α)(v:α):pU (xs++[v]) (-1)=some v:=NW xs v
theorem zO(n:Nat):Kg (n+1) (-1)=some n:=by
 unfold Kg;rw[if_neg (by decide),if_pos ∅];congr 1;lia
theorem vA{α:Type}(xs:List α)(a b:α):(xs++[a]).set xs.length b=xs++[b]:=by
 simp
theorem zP(lo:Int)(n:Nat):Cj lo n=(run lo n).map V.int:=by
 unfold Cj
 induction n generalizing lo with
 | zero=>rfl
 | succ n ih =>
  rw[List.range_succ_eq_map,jJ,List.map_map,run,jJ,← ih (lo+1)];congr 1
  ·simp
  ·apply List.map_congr_left;intro i _;simp only[Function.comp,Nat.succ_eq_add_one];congr 1;lia
class inductive RI(lim:Nat)
 | mk (r:Addr) (row:Row) (_:vs=[.ref r]) (_:cA H r row) (_:(∀ p∈row,0<=p.1/\p.1<=p.2/\p.2<2^62)) (_:(bK row).length<=1000000) (_:row.length<=lim) (_ :
 ∀ (n:Addr) (H':Hp),H' n=some (.lst ((bK row).map V.int))->aI H H'->H n=none->Q (.ref n) H')
class inductive Kx
 | mk (n:Addr) (ns:List Int) (_:vs=[.ref n]) (_:H n=some (.lst (ns.map V.int))) (_:ns.length<=1000000) (_ :
 ∀ (r:Addr) (H':Hp),cA H' r (cP ns)->aI H H'->H r=none->Q (.ref r) H')
class inductive RJ
 | mk (r:Addr) (row:Row) (_:vs=[.ref r]) (_:cA H r row) (_:row.length<=1000000) (_ :
 ∀ (q:Addr) (H':Hp),cA H' q (b8 row)->aI H H'->H q=none->Q (.ref q) H')
theorem aR{n:Nat}(h:n<=1000001):n<sizeLine:=Nat.lt_of_le_of_lt h (by decide)
end gA
namespace gA
open L2 cZ
def VU:TS:=λD σ H=>∃ (l c:Addr) (b:Int),σ=[some (.ref l),some (.int b),none,none]/\dB H l c/\
 ∀ (cell:Option V) (H':Hp),dB H' l c->(∀ a,a≠l->H' a=H a)->D.nx [some (.ref l),some (.int b),cell,none] H'
def VW:TS:=λD σ H=>∃ (l c:Addr) (b:Int),σ=[some (.ref l),some (.int b),some (.int 7),none]/\dB H l c/\
 ∀ (cell:Int) (H':Hp),dB H' l c->(∀ a,a≠l->H' a=H a)->D.nx [some (.ref l),some (.int b),some (.int cell),none] H'
theorem RK{ns:List Int}{i:Int}(h0:0<=i)(h1:i<(ns.length:Int)):∃ v:Int,pU (ns.map V.int) i=some (.int v):=by
 have hk:i.toNat<ns.length:=by lia
 exists ns[i.toNat]
 have q:pU (ns.map V.int) ((i.toNat:Nat):Int)=some (.int ns[i.toNat]):=cO (by rw[mY,pS hk] <;> rfl)
 have ei:((i.toNat:Nat):Int)=i:=by lia
 rw[ei]at q;exact q
theorem Oz(ns:List Int)(lo hi:Option Int):∃ ms:List Int,kU (ns.map V.int) lo hi=ms.map V.int:=by
 unfold kU;exists (ns.drop (HT.jd (ns.map V.int).length 0 lo)).take (HT.jd (ns.map V.int).length (ns.map V.int).length hi-HT.jd (ns.map V.int).length 0 lo);rw[List.map_take,List.map_drop]
theorem tt{p:Prop} [Decidable p] {Q:V->Hp->Prop} {H:Hp} (hp:p) (h:Q (.bl true) H):Q (.bl (decide p)) H:=by
 rw[decide_eq_true hp];exact h
theorem Ox.or{K:Frag}{k:Bool}{H:Hp}{a:Addr}{xs:List V}(h:Ox k H a xs):bI K H a xs\/cX K H a xs:=by
 cases k
 ·exact .inr (cX.of h)
 ·exact .inl (bI.of h)
theorem cS{l:Addr}{H H':Hp}(k:∀ a,a≠l->H' a=H a):cD l H H':=λa o e n=>by rw[k a n];exact e
end gA
namespace gA
open L2 cZ
theorem dB.lst{H:Hp}{l c:Addr}(s:dB H l c):∃ xs,H l=some (.lst xs):=by
 obtain⟨n,ns,i,d,r,e1,_⟩:=s;exact⟨_,e1⟩
end gA
namespace cZ
open Spec Rows L2
section
variable {prog:Program} {w:World} {A:Around} {R:Result->Shared->Prop} {s:Shared}
def sG(j4:List Expr)(env:Env):Sem Bool:=forIn j4 true λc r=>if r=true then do let ok ← isTrue c env (eval c env);pure (ForInStep.yield ok) else pure (ForInStep.yield r)
theorem LQ{iter:Expr}{scope:Scope}{it acc:Value}{env:Env}(I:Nat->Shared->Prop)
  (pT:∀ n s,I n s->wpAny (model prog w) A (pyNext it) (λr s₁=>match r with
   | none=>R (.ok .next) s₁
   | some v=>wpAny (model prog w) A (letOwnedTupleGo wH it v) (λ_ s₂=>wpAny (model prog w) A (assign wH env v) (λ_ s₃ =>
     wpAny (model prog w) A (sG j4 env) (λok s₄ =>
      if ok=true then wpAny (model prog w) A (eval kK env) (λx s₅=>wpAny (model prog w) A (call (.builtin "list.append") [acc,x]) (λ_ s₆=>∃ m,m<n/\I m s₆) (λ_ _=>False) s₅) (λ_ _=>False) s₄
      else ∃ m,m<n/\I m s₄) (λ_ _=>False) s₃) (λ_ _=>False) s₂) (λ_ _=>False) s₁) (λ_ _=>False) s)
  (n:Nat) (h:I n s):codeAny (model prog w) A (.compLoop (.ListComp kK [⟨wH,iter,j4,0⟩] scope pos) 0 it acc env) R s:=by
 refine codeAny_loop rfl I (λn s hI=>?_) n h;show wpAny _ A ((compTurn (.ListComp kK [⟨wH,iter,j4,0⟩] scope pos) 0 it acc env).onRaise (λx=>do noteFrame x env;theTreesLotGoes x)) _ _ s;refine wpAny_noted ?_;rw[compTurn_list];refine wpAny_bind (wpAny_standAt (wpAny_bind (wpAny_mono (pT n s hI) (λr s₁ h₁=>?_) λ_ _ h'=>h'.elim)))
 cases r with
 | none=>exact wpAny_pure h₁
 | some v =>
  refine wpAny_bind (wpAny_mono h₁ (λ_ s₂ h₂=>wpAny_bind (wpAny_mono h₂ (λ_ s₃ h₃=>wpAny_bind (wpAny_mono h₃ (λok s₄ h₄=>?_) λ_ _ h'=>h'.elim)) λ_ _ h'=>h'.elim)) λ_ _ h'=>h'.elim)
  cases ok with
  | false=>exact wpAny_pure ⟨rfl,h₄⟩
  | true=>exact wpAny_bind (wpAny_bind (wpAny_mono h₄ (λx s₅ h₅=>wpAny_bind (wpAny_mono h₅ (λ_ s₆ h₆=>wpAny_pure (wpAny_pure ⟨rfl,h₆⟩)) λ_ _ h'=>h'.elim)) λ_ _ h'=>h'.elim))
end
section
variable {X:Cx} {N:List Str} {scope:Scope}
def LR(X:Cx)(j4:List Expr)(t:TT):Prop :=
 ∀ (ao:List (Addr × Obj)) (s:Shared) (σ:L2.St) (H:Hp) (Q:Bool->Hp->Prop),Inv X ao σ H s->t σ H Q->wpAny (model X.prog X.w) X.A (sG j4 X.env) (TP X ao σ Q) X.xe s
def OA:TT:=λ_ H Q=>Q true H
theorem ji:LR X [] OA:=λao s σ H Q I h=>wpAny_tests_nil ⟨H,I,h⟩
theorem DG{c:Expr}{t:TT}(h:PT X c t):LR X [c] t:=λao s σ H Q I q=>wpAny_tests_one (h ao s σ H Q I q)
end
end cZ
namespace cZ
open Spec Rows L2
end cZ
namespace cZ
open Spec Rows L2
section
variable {prog:Program} {w:World} {A:Around} {R:Result->Shared->Prop} {s:Shared}
theorem RM(kK tg iter qT d8:Expr)(j4 jv:List Expr)(scope:Scope)(pos:Pos)(it acc:Value)(env:Env) :
  compTurn (.ListComp kK [⟨tg,iter,j4,0⟩,⟨qT,d8,jv,0⟩] scope pos) 1 it acc env=(do
   standAt d8.pos
   match ← pyNext it with
   | none=>pure (.done .next)
   | some v =>
    letOwnedTupleGo qT it v
    assign qT env v
    let ok ← sG jv env
    if ok then (do let _ ← call (.builtin "list.append") [acc,← eval kK env])
    again (.compLoop (.ListComp kK [⟨tg,iter,j4,0⟩,⟨qT,d8,jv,0⟩] scope pos) 1 it acc env)):=by rfl
theorem OB(kK tg iter qT d8:Expr)(j4 jv:List Expr)(scope:Scope)(pos:Pos)(it acc:Value)(env:Env) :
  compTurn (.ListComp kK [⟨tg,iter,j4,0⟩,⟨qT,d8,jv,0⟩] scope pos) 0 it acc env=(do
   standAt iter.pos
   match ← pyNext it with
   | none=>pure (.done .next)
   | some v =>
    letOwnedTupleGo tg it v
    assign tg env v
    let ok ← sG j4 env
    if ok then
     let x ← eval d8 env
     standAt d8.pos
     let x ← foldedSetIterable d8 env x
     let _ ← runOwn (.compStart (.ListComp kK [⟨tg,iter,j4,0⟩,⟨qT,d8,jv,0⟩] scope pos) 1 (← holding [x] (pyIter x)) acc env) env
    again (.compLoop (.ListComp kK [⟨tg,iter,j4,0⟩,⟨qT,d8,jv,0⟩] scope pos) 0 it acc env)):=by rfl
theorem VX{iter:Expr}{scope:Scope}{it acc:Value}{env:Env}(I:Nat->Shared->Prop)
  (pT:∀ n s,I n s->wpAny (model prog w) A (pyNext it) (λr s₁=>match r with
   | none=>R (.ok .next) s₁
   | some v=>wpAny (model prog w) A (letOwnedTupleGo qT it v) (λ_ s₂=>wpAny (model prog w) A (assign qT env v) (λ_ s₃ =>
     wpAny (model prog w) A (sG jv env) (λok s₄ =>
      if ok=true then wpAny (model prog w) A (eval kK env) (λx s₅=>wpAny (model prog w) A (call (.builtin "list.append") [acc,x]) (λ_ s₆=>∃ m,m<n/\I m s₆) (λ_ _=>False) s₅) (λ_ _=>False) s₄
      else ∃ m,m<n/\I m s₄) (λ_ _=>False) s₃) (λ_ _=>False) s₂) (λ_ _=>False) s₁) (λ_ _=>False) s)
  (n:Nat) (h:I n s):codeAny (model prog w) A (.compLoop (.ListComp kK [⟨tg,iter,j4,0⟩,⟨qT,d8,jv,0⟩] scope pos) 1 it acc env) R s:=by
 refine codeAny_loop rfl I (λn s hI=>?_) n h;show wpAny _ A ((compTurn (.ListComp kK [⟨tg,iter,j4,0⟩,⟨qT,d8,jv,0⟩] scope pos) 1 it acc env).onRaise (λx=>do noteFrame x env;theTreesLotGoes x)) _ _ s;refine wpAny_noted ?_;rw[RM];refine wpAny_bind (wpAny_standAt (wpAny_bind (wpAny_mono (pT n s hI) (λr s₁ h₁=>?_) λ_ _ h'=>h'.elim)))
 cases r with
 | none=>exact wpAny_pure h₁
 | some v =>
  refine wpAny_bind (wpAny_mono h₁ (λ_ s₂ h₂=>wpAny_bind (wpAny_mono h₂ (λ_ s₃ h₃=>wpAny_bind (wpAny_mono h₃ (λok s₄ h₄=>?_) λ_ _ h'=>h'.elim)) λ_ _ h'=>h'.elim)) λ_ _ h'=>h'.elim)
  cases ok with
  | false=>exact wpAny_pure ⟨rfl,h₄⟩
  | true=>exact wpAny_bind (wpAny_bind (wpAny_mono h₄ (λx s₅ h₅=>wpAny_bind (wpAny_mono h₅ (λ_ s₆ h₆=>wpAny_pure (wpAny_pure ⟨rfl,h₆⟩)) λ_ _ h'=>h'.elim)) λ_ _ h'=>h'.elim))
theorem RN{iter:Expr}{scope:Scope}{it acc:Value}{env:Env}
  (h0:codeAny (model prog w) A (.compLoop (.ListComp kK [⟨tg,iter,j4,0⟩,⟨qT,d8,jv,0⟩] scope pos) 1 it acc env) R s)
  (h:wpAny (model prog w) A (pyIter it) (λRO s'=>codeAny (model prog w) A (.compLoop (.ListComp kK [⟨tg,iter,j4,0⟩,⟨qT,d8,jv,0⟩] scope pos) 1 RO acc env) R s') (λ_ _=>False) s) :
  codeAny (model prog w) A (.compStart (.ListComp kK [⟨tg,iter,j4,0⟩,⟨qT,d8,jv,0⟩] scope pos) 1 it acc env) R s:=by
 refine codeAny_of_tree ?_;show wpAny _ _ ((compStart (.ListComp kK [⟨tg,iter,j4,0⟩,⟨qT,d8,jv,0⟩] scope pos) 1 it acc env).onRaise (λx=>do noteFrame x env;standAt theWindowsPlace)) _ _ s;refine wpAny_notedAt ?_;unfold compStart;show wpAny _ _ (ask >>= _) _ _ s;refine wpAny_bind (wpAny_askSetting (wpAny_ite ?_));split
 ·first
   | exact wpAny_bind (wpAny_pure (wpAny_pure (And.intro rfl h0)))
   | exact wpAny_pure (And.intro rfl h0)
 ·first
   | exact wpAny_bind (wpAny_rule (wpAny_bind (wpAny_standAt (wpAny_bind (wpAny_mono h (λRO s' h'=>wpAny_pure (And.intro rfl h')) λ_ _ x=>x.elim)))))
   | (refine wpAny_bind (wpAny_rule ?_);show wpAny _ _ (standAt d8.pos >>= _) _ _ s;exact wpAny_bind (wpAny_standAt (wpAny_bind (wpAny_mono h (λRO s' h'=>wpAny_pure (And.intro rfl h')) λ_ _ x=>x.elim))))
theorem RP{iter:Expr}{scope:Scope}{it acc:Value}{env:Env}(I:Nat->Shared->Prop)
  (Lv:∀ x,foldedSetIterable d8 env x=pure x)
  (pT:∀ n s,I n s->wpAny (model prog w) A (pyNext it) (λr s₁=>match r with
   | none=>R (.ok .next) s₁
   | some v=>wpAny (model prog w) A (letOwnedTupleGo tg it v) (λ_ s₂=>wpAny (model prog w) A (assign tg env v) (λ_ s₃ =>
     wpAny (model prog w) A (sG j4 env) (λok s₄ =>
      if ok=true then wpAny (model prog w) A (eval d8 env) (λx s₅=>wpAny (model prog w) A (pyIter x) (λZs s₆ =>
       codeAny (model prog w) A (.compStart (.ListComp kK [⟨tg,iter,j4,0⟩,⟨qT,d8,jv,0⟩] scope pos) 1 Zs acc env) (λr s₇=>(∃ f,r=.ok f)/\∃ m,m<n/\I m s₇) s₆) (λ_ _=>False) s₅) (λ_ _=>False) s₄
      else ∃ m,m<n/\I m s₄) (λ_ _=>False) s₃) (λ_ _=>False) s₂) (λ_ _=>False) s₁) (λ_ _=>False) s)
  (n:Nat) (h:I n s):codeAny (model prog w) A (.compLoop (.ListComp kK [⟨tg,iter,j4,0⟩,⟨qT,d8,jv,0⟩] scope pos) 0 it acc env) R s:=by
 refine codeAny_loop rfl I (λn s hI=>?_) n h;show wpAny _ A ((compTurn (.ListComp kK [⟨tg,iter,j4,0⟩,⟨qT,d8,jv,0⟩] scope pos) 0 it acc env).onRaise (λx=>do noteFrame x env;theTreesLotGoes x)) _ _ s;refine wpAny_noted ?_;rw[OB];refine wpAny_bind (wpAny_standAt (wpAny_bind (wpAny_mono (pT n s hI) (λr s₁ h₁=>?_) λ_ _ h'=>h'.elim)))
 cases r with
 | none=>exact wpAny_pure h₁
 | some v =>
  refine wpAny_bind (wpAny_mono h₁ (λ_ s₂ h₂=>wpAny_bind (wpAny_mono h₂ (λ_ s₃ h₃=>wpAny_bind (wpAny_mono h₃ (λok s₄ h₄=>?_) λ_ _ h'=>h'.elim)) λ_ _ h'=>h'.elim)) λ_ _ h'=>h'.elim)
  cases ok with
  | false=>exact wpAny_pure ⟨rfl,h₄⟩
  | true =>
   refine wpAny_bind (wpAny_mono h₄ (λx s₅ h₅=>wpAny_bind (wpAny_standAt (wpAny_bind (wpAny_of_eq (Lv x) (wpAny_bind (wpAny_holding (wpAny_mono h₅ (λZs s₆ h₆=>?_) λ_ _ h'=>h'.elim))))))) λ_ _ h'=>h'.elim);refine wpAny_bind (wpAny_runOwn (codeAny_mono h₆ λr s₇ HF=>?_));obtain⟨⟨f,hf⟩,hm⟩:=HF;subst hf;exact wpAny_pure ⟨rfl,hm⟩
end
section
variable {X:Cx} {N:List Str} {scope:Scope}
def Ik(wi:TI)(acc:Addr)(g:TG)(tt:TT)(te:TE):L2.St->Hp->(L2.St->Hp->Prop)->Prop:=fun σ H Nx=>wi σ H λJ H1 =>
 ∃ W:Nat->Nat->L2.St->Hp->Prop,(∃ m,W 0 m σ H1)/\∀ i m σ H,W i m σ H->
  (J.stop i H/\Nx σ H)\/(J.go i H/\∃ N2:L2.St->Hp->Prop,(∀ σ' H',N2 σ' H'->∃ m',m'<m/\W (i+1) m' σ' H')/\∀ x H',J.QT i H x H'->g x σ H' fun σ2 H2=>tt σ2 H2 λb H3 =>
   if b=true then te σ2 H3 λv H4=>∃ xs,H4 acc=some (.lst xs)/\xs.length<sizeLine/\N2 σ2 (aN H4 acc (.lst (xs++[v]))) else N2 σ2 H3)
theorem LS{Y:Cx}{iter:Expr}{Il:TI}{g2:TG}{Im:TT}{te:TE}(hc:Y.calm=true)(hxe:Y.xe=λ_ _=>False)(hi:PI Y qT d8 Il)(hg:PG Y qT g2)(ht:LR Y jv Im)(he:PE Y kK te)
  {ao:List (Addr × Obj)} {s:Shared} {σ:L2.St} {H:Hp} {Nx:L2.St->Hp->Prop} (I:Inv Y ao σ H s) (h:Ik Il acc g2 Im te σ H Nx) :
  wpAny (model Y.prog Y.w) Y.A (eval d8 Y.env) (λx s₅=>wpAny (model Y.prog Y.w) Y.A (pyIter x) (λZs s₆ =>
   codeAny (model Y.prog Y.w) Y.A (.compStart (.ListComp kK [⟨tg,iter,j4,0⟩,⟨qT,d8,jv,0⟩] scope pos) 1 Zs (.ref acc) Y.env) (λr s₇=>(∃ f,r=.ok f)/\∃ σ' H',Inv Y ao σ' H' s₇/\Nx σ' H') s₆) (λ_ _=>False) s₅) (λ_ _=>False) s:=by
 have Zt:=hi ao s σ H _ I h;have hg':=hg;have ht':=ht;have Ky:=he;unfold PG at hg';unfold LR at ht';unfold PE at Ky;rw[hxe]at Zt hg' ht' Ky;refine dc Zt λv s1 h1=>dc h1 λYL s2 h2=>?_;obtain⟨it,fp,tn,J,H2,e,I2,T,st2,f2,W,⟨m0,w0⟩,pT⟩:=h2;subst e;have uf:∀ {H':Hp},(∀ b∈fp,H' b=none)->∀ b∈fp,qP Y ao H' b:=λhn b hb=>⟨hn b hb,(f2 b hb).2⟩
 have loop:codeAny (model Y.prog Y.w) Y.A (.compLoop (.ListComp kK [⟨tg,iter,j4,0⟩,⟨qT,d8,jv,0⟩] scope pos) 1 (.ref it) (.ref acc) Y.env) (λr s₇=>(∃ f,r=.ok f)/\∃ σ' H',Inv Y ao σ' H' s₇/\Nx σ' H') s2:=by
  refine VX (λn s'=>∃ i σ' H',Inv Y ao σ' H' s'/\tn i s'.heap/\(∀ b∈fp,H' b=none)/\W i n σ' H') ?_ m0 ⟨0,σ,H2,I2,st2,λb hb=>(f2 b hb).1,w0⟩;rintro n s6 ⟨i,σ6,H6,I6,Ut,Io,w6⟩;rcases pT i n σ6 H6 w6 with ⟨stop,qn⟩|⟨go,N2,hN,step⟩
  ·refine dc (T.done Y rfl rfl rfl hc i ao s6 σ6 H6 _ I6 (uf Io) Ut stop) λr s7 HH=>?_;obtain⟨hr,I7⟩:=HH;subst hr;exact⟨⟨Y⟩,σ6,H6,I7,qn⟩
  ·refine dc (T.item Y rfl rfl rfl hc i ao s6 σ6 H6 _ I6 (uf Io) Ut go) λr s7 HG=>?_;obtain⟨u,hr,h7⟩:=HG;subst hr;refine dc h7 λ_ s8 A9=>?_;obtain⟨x,H8,I8,r8,y8,OC,Fw⟩:=A9;have Zu:=I8.pinned (uf Fw) (T.obj _ _ OC);refine dc (hg' _ s8 σ6 H8 x u _ Zu r8 (step x H8 y8)) λ_ s9 Fb=>?_;obtain⟨σ9,H9,I9,q9⟩:=Fb;refine dc (ht' _ s9 σ9 H9 _ I9 q9) λok s10 Dk=>?_;obtain⟨Nc,Uu,Ce⟩:=Dk
   have again:∀ {σ7:L2.St} {H7:Hp} {wA:Shared},Inv Y (ao++ue fp s8.heap) σ7 H7 wA->N2 σ7 H7->∃ m,m<n/\∃ i σ' H',Inv Y ao σ' H' wA/\tn i wA.heap/\(∀ b∈fp,H' b=none)/\W i m σ' H':=λ{σ7 H7 wA} I7 n7=>by
    obtain⟨m',hm,w7⟩:=hN σ7 H7 n7;refine⟨m',hm,i+1,σ7,H7,I7.pB,T.keep _ _ _ OC λb hb o e=>(I7.pin (b,o) (pA _ (pA _ (gX hb e)))).1,λb hb=>?_,w7⟩;obtain⟨o,e,d⟩:=T.obj _ _ OC b hb;exact (I7.pin (b,o) (pA _ (pA _ (gX hb e)))).2.1
   cases ok with
   | false =>
    rw[if_neg nY]at Ce;exact again Uu Ce
   | true =>
    rw[if_pos rfl]at Ce;refine dc (Ky _ s10 σ9 Nc _ Uu Ce) λv wA HE=>?_;obtain⟨y,H11,I11,r11,xs,hx,hz,n11⟩:=HE;have ap:=bQ _ wA σ9 H11 (.ref acc) [y] (.ref acc) [v] (λ_ H'=>N2 σ9 H') I11 rfl (.cons r11 .nil) ⟨_,xs,y,V,hx,hz,n11⟩;rw[hxe]at ap;exact dc ap λ_ jI ⟨_,Zv,I12,_,VY⟩=>again I12 VY
 exact RN loop (T.self _ _ _ _ _ st2 loop)
end
theorem VZ{i:Nat}{v:V}{σ:L2.St}{H:Hp}{Q:L2.St->Bool->Hp->Prop}(h:Q (σ.set i (some v)) true H):tN i v σ H (fun σ2 H2=>OA σ2 H2 (Q σ2)):=h
theorem yes{σ:L2.St}{H:Hp}{Q:Bool->Hp->Prop}(h:Q true H):OA σ H Q:=h
end cZ
namespace gA
open L2 cZ
theorem Ip{row:Row}{i:Nat}{p:Int × Int}(h:row[i]?=some p):bK (row.take (i+1))=bK (row.take i)++fT p:=by
 rw[take_snoc h,cW,fD]
theorem Be(row:Row)(i:Nat):(bK (row.take i)).length<=(bK row).length:=by
 conv=>rhs;rw[← List.take_append_drop i row,cW,cY]
 lia
theorem zQ{H0 H2:Hp}{q t:Addr}{bs:List Addr}{row:Row}{st en:Int}(V0:H0 q=none)(s:aI H0 H2)(dN:H2 q=some (.lst (bs.map V.ref)))(hb:bw H2 bs row)(ht:H2 t=none) :
  (aN (aN H2 t (.tup [.int st,.int en])) q (.lst (bs.map V.ref++[.ref t]))) q=some (.lst ((bs++[t]).map V.ref))/\
  bw (aN (aN H2 t (.tup [.int st,.int en])) q (.lst (bs.map V.ref++[.ref t]))) (bs++[t]) (row++[(st,en)])/\aI H0 (aN (aN H2 t (.tup [.int st,.int en])) q (.lst (bs.map V.ref++[.ref t]))):=by
 have OD:q≠t:=az dN ht;have s1:aI H2 (aN H2 t (.tup [.int st,.int en])):=ak ht _;refine⟨by rw[af,gw];rfl,?_,bP V0 (s.trans s1) (aG q _ _)⟩;refine bw.snoc ((hb.same s1).keep (s1 _ _ dN) (aG q _ _)) ?_;show aN _ q _ t=_;rw[aK OD.symm,af]
theorem turned{H0 H2:Hp}{q t a:Addr}{bs:List Addr}{row:Row}{st en:Int}(V0:H0 q=none)(s:aI H0 H2)(dN:H2 q=some (.lst (bs.map V.ref++[.ref a])))(hb:bw H2 bs row)(ht:H2 t=none) :
  (aN (aN H2 t (.tup [.int st,.int en])) q (.lst ((bs.map V.ref++[V.ref a]).set bs.length (V.ref t)))) q=some (.lst ((bs++[t]).map V.ref))/\
  bw (aN (aN H2 t (.tup [.int st,.int en])) q (.lst ((bs.map V.ref++[V.ref a]).set bs.length (V.ref t)))) (bs++[t]) (row++[(st,en)])/\aI H0 (aN (aN H2 t (.tup [.int st,.int en])) q (.lst ((bs.map V.ref++[V.ref a]).set bs.length (V.ref t)))):=by
 have OD:q≠t:=az dN ht;have s1:aI H2 (aN H2 t (.tup [.int st,.int en])):=ak ht _
 have e:(bs.map V.ref++[V.ref a]).set bs.length (V.ref t)=(bs++[t]).map V.ref:=by
  have z:=vA (bs.map V.ref) (V.ref a) (V.ref t);rw[cy]at z;rw[z,gw];rfl
 rw[e];refine⟨af,?_,bP V0 (s.trans s1) (aG q _ _)⟩;refine bw.snoc ((hb.same s1).keep (s1 _ _ dN) (aG q _ _)) ?_;show aN _ q _ t=_;rw[aK OD.symm,af]
theorem Iq(bs:List Addr)(a:Addr):Kg (bs.map V.ref++[V.ref a]).length (-1)=some bs.length:=by
 rw[cY,cy,gM];exact zO _
theorem Cm{f:Row->Int × Int->Row}{row:Row}{i:Nat}{p:Int × Int}(h:row[i]?=some p):(row.take (i+1)).foldl f []=f ((row.take i).foldl f []) p:=foldl_take_succ f row [] i p h
theorem Fx(row:Row):∀ t:Row,(row.foldl dM t).length<=t.length+row.length:=by
 induction row with
 | nil=>intro t;simp
 | cons p row ih =>
  intro t;have h1:=ih (dM t p)
  have h2:(dM t p).length<=t.length+1:=by
   unfold dM;split
   ·lia
   ·exact xZ _ _ _
  rw[kO,eY];lia
theorem zR(ns:List Int):∀ t:Row,(ns.foldl (λt n=>iQ t n (n+1)) t).length<=t.length+ns.length:=by
 induction ns with
 | nil=>intro t;simp
 | cons n ns ih =>
  intro t;have h1:=ih (iQ t n (n+1));have h2:=xZ t n (n+1);rw[kO,eY];lia
end gA
namespace gA
open Spec Rows L2 cZ
class inductive Wa
 | mk (r:Addr) (row:Row) (_:vs=[.ref r]) (_:cA H r row) (_:row.length<=1000000) (_: ∀ H',aI H H'->Q (.int (jh row)) H')
end gA
namespace fG
open Spec Rows PySem.W L2
end fG
namespace fG
open Spec Rows L2
section
variable {X:Cx}
theorem Kz{yX y:Str}{m n:Nat}(h:yX.length+(n+m)<=1000000)(hy:y.length<=n):(yX++y).length<=sizeLine/\(yX++y).length+m<=1000000:=by
 rw[PySem.strLen_append];refine⟨Nat.le_of_lt (Nat.lt_of_le_of_lt (show yX.length+y.length<=1000000 by lia) (by decide)),Q⟩
def RQ(r r' r2:R2)(ta tb tc td:TE):TT:=fun σ H Q=>ta σ H λx H1=>tb σ H1 λy H2=>r x y H2 λz H3=>∃ k,z=.bl k/\
 (if k=true then tc σ H3 λu H4=>r' y u H4 λz' H5=>∃ k',z'=.bl k'/\(if k'=true then td σ H5 λv H6=>r2 u v H6 λz2 H7=>∃ k2,z2=.bl k2/\Q k2 H7 else Q false H5) else Q false H3)
theorem LV{op Ht Wb:CmpOp}{r r' r2:R2}{a b c d:Expr}{ta tb tc td:TE}(ho:ug X (compareOp op) r)(Lo:ug X (compareOp Ht) r')(ho2:ug X (compareOp Wb) r2)(ha:PE X a ta)(hb:PE X b tb)(hc:PE X c tc)(hd:PE X d td)
  (hm:lastMarks [op,Ht,Wb] [b,c,d]=false:=by with_unfolding_all rfl):PT X (.Compare a [op,Ht,Wb] [b,c,d] pos) (RQ r r' r2 ta tb tc td):=by
 intro ao s σ H Q I h
 refine isTrue_chain (dc (ha ao s σ H _ I h) λv s1 ⟨x,H1,I1,r1,q1⟩=>test_link (dc (hb ao s1 σ H1 _ I1 q1) λu s2 ⟨y,H2,I2,r2',q2⟩ =>
  dc (ho ao s2 σ H2 x y v u _ I2 r1 r2' q2) λz s3 ⟨z',H3,I3,r3,k,e,q3⟩=>?_)) hm
 subst e;cases r3;refine wpAny_truthy_bool ?_
 cases k with
 | false=>exact ite_ff ⟨H3,I3,q3⟩
 | true =>
  refine ite_tt (test_link (dc (hc ao s3 σ H3 _ I3 q3) λv4 s4 ⟨x4,H4,I4,r4,q4⟩=>dc (Lo ao s4 σ H4 y x4 u v4 _ I4 r2' r4 q4) λz5 s5 HH=>?_));obtain⟨x5,H5,I5,r5,k5,e5,q5⟩:=HH;subst e5;cases r5;refine wpAny_truthy_bool ?_
  cases k5 with
  | false=>exact ite_ff ⟨H5,I5,q5⟩
  | true =>
   refine ite_tt (test_last (dc (hd ao s5 σ H5 _ I5 q5) λv6 s6 ⟨x6,H6,I6,r6,q6⟩=>dc (ho2 ao s6 σ H6 x4 x6 v4 v6 _ I6 r4 r6 q6) λz7 s7 HG=>?_));obtain⟨x7,H7,I7,r7,k7,e7,q7⟩:=HG;subst e7;cases r7;exact wpAny_truthy_bool ⟨H7,I7,q7⟩
end
end fG
namespace gA
open L2 cZ fG
theorem aW{H H':Hp}{a:Addr}(s:aI H H')(h:H' a=none):H a=none:=by
 cases q:H a with
 | none=>rfl
 | some o=>rw[s a o q]at h;cases h
def wB(i:Int):Prop:=-(10^60)<i/\i<10^60
def OE(a b h:Int)(p:Int × Int):Row:=if max (a-h) 0<min (b-h) (p.2-p.1) then [(p.1+max (a-h) 0,p.1+min (b-h) (p.2-p.1))] else []
def lI(a b:Int):Int->Row->Row
 | _,[]=>[]
 | h,p::r=>OE a b h p++lI a b (h+(p.2-p.1)) r
theorem Fy(a b:Int)(p:Int × Int):∀ (r:Row) (c:Int),lI a b c (r++[p])=lI a b c r++OE a b (c+jh r) p
 | [],c=>by simp[lI,RG]
 | q::r,c=>by
  have e:c+(q.2-q.1)+jh r=c+jh (q::r):=by rw[Ft];lia
  rw[List.cons_append,lI,Fy a b p r,lI,e,nV]
theorem Wc(a b h:Int)(p:Int × Int):(OE a b h p).length<=1:=by
 unfold OE
 split <;> simp
theorem ko(a b:Int):∀ (r:Row) (c:Int),(lI a b c r).length<=r.length
 | [],_=>fF _
 | q::r,c=>by
  have ih:=ko a b r (c+(q.2-q.1));have z:=Wc a b c q;rw[lI,cY,eY];lia
theorem OF(a b h:Int)(p:Int × Int):∀ q∈OE a b h p,q.1<=q.2:=by
 unfold OE;split
 ·intro q hq;simp only[List.mem_singleton]at hq;subst hq;simp only;lia
 ·intro q hq;cases hq
theorem DH(a b:Int):∀ (r:Row) (c:Int),∀ q∈lI a b c r,q.1<=q.2
 | [],_=>λq hq=>by cases hq
 | p::r,c=>λq hq=>by
  rw[lI]at hq;rcases List.mem_append.mp hq with z|z
  ·exact OF a b c p q z
  ·exact DH a b r _ q z
theorem Fz(s:Int):∀ (n k:Nat),(run s n).drop k=run (s+k) (n-k)
 | n,0=>by simp
 | 0,k+1=>by simp[run]
 | n+1,k+1=>by
  rw[run,List.drop_succ_cons,Fz (s+1) n k];have e1:s+1+(k:Int)=s+((k+1:Nat):Int):=by lia
  have e2:n+1-(k+1)=n-k:=by lia
  rw[e1,e2]
theorem FA(s:Int):∀ (n k:Nat),(run s n).take k=run s (min k n)
 | n,0=>by simp[run]
 | 0,k+1=>by simp[run]
 | n+1,k+1=>by
  rw[run,List.take_succ_cons,FA (s+1) n k];have e2:min (k+1) (n+1)=min k n+1:=by lia
  rw[e2,run]
theorem LW(a b h:Int)(p:Int × Int)(hp:p.1<=p.2):bK (OE a b h p)=((fT p).take (b-h).toNat).drop (a-h).toNat:=by
 obtain⟨s,e⟩:=p;simp only at hp;unfold OE fT;simp only;rw[FA,Fz,← Int.ofNat_toNat (a-h)];generalize (a-h).toNat=n;generalize b-h=x;have y0:0<=e-s:=by lia
 generalize e-s=y at y0
 have em:min x.toNat y.toNat=(min x y).toNat:=by
  rcases Int.le_total x y with c|c
  ·rw[Int.min_eq_left c,Nat.min_eq_left (Int.toNat_le_toNat c)]
  ·rw[Int.min_eq_right c,Nat.min_eq_right (Int.toNat_le_toNat c)]
 rw[em];generalize min x y=m;clear em y0 hp;by_cases c:(n:Int)<m
 ·rw[if_pos c,fD,fT];simp only;rw[Int.add_sub_add_left,Int.toNat_sub']
 ·rw[if_neg c,Nat.sub_eq_zero_of_le (Int.toNat_le.mpr (Int.not_lt.mp c))];rfl
theorem zS(b h:Int)(L:Nat):(b-(h+L)).toNat=(b-h).toNat-L:=by rw[← Int.sub_sub,Int.toNat_sub']
theorem sH(a b:Int):∀ (r:Row) (h:Int),(∀ p∈r,p.1<=p.2)->bK (lI a b h r)=((bK r).take (b-h).toNat).drop (a-h).toNat
 | [],h,_=>by simp[lI,bK]
 | p::r,h,ok=>by
  have hp:=ok p (List.mem_cons_self ..);have ih:=sH a b r (h+(p.2-p.1)) λq hq=>ok q (mO _ hq);have e:bK (p::r)=fT p++bK r:=rfl;have hl:=ya p hp;rw[lI,cW,LW a b h p hp,ih,e,List.take_append,List.drop_append,gx];congr 1;rw[← hl,zS,zS];by_cases hb:(fT p).length<=(b-h).toNat
  ·rw[Nat.min_eq_right hb]
  ·rw[Nat.sub_eq_zero_of_le (Nat.le_of_not_le hb)];simp
def Nd(a b t:Int):Prop:=0<=a/\a<=b/\b<=t
class inductive FD
 | mk (r:Addr) (row:Row) (a b:Int) (_:vs=[.ref r,.int a,.int b]) (_:cA H r row) (_:row.length<=1000000) (_ :
 ∀ (q:Addr) (H':Hp),cA H' q (lI a b 0 row)->aI H H'->H q=none->Q (.ref q) H')
end gA
namespace gA
open L2 cZ fG
end gA
namespace gA
open L2 cZ fG
theorem jz(r:Row)(ok:∀ p∈r,p.1<=p.2):bK (b8 r)=bK r:=by rw[zK r ok,gB]
theorem qv(a b:Int)(row:Row)(ok:∀ p∈row,p.1<=p.2):bK (b8 (lI a b 0 row))=((bK row).take b.toNat).drop a.toNat:=by
 rw[jz _ (DH a b row 0),sH a b row 0 ok,Int.sub_zero,Int.sub_zero]
theorem KA(s:Int):∀ (n k:Nat),k<n->(run s n)[k]?=some (s+k)
 | 0,k,h=>by lia
 | n+1,0,_=>by simp[run]
 | n+1,k+1,h=>by
  rw[run,List.getElem?_cons_succ,KA (s+1) n k ∅];congr 1;lia
theorem jA(r:Row):(b8 r).length<=r.length:=by
 have z:=Fx r [];simpa [b8] using z
end gA
namespace gA
open Spec Rows L2 cZ fG
theorem bw.append{H:Hp}{as bs:List Addr}{r q:Row}(h:bw H as r)(t:bw H bs q):bw H (as++bs) (r++q):=by
 induction h with
 | nil=>exact t
 | cons e _ ih=>exact .cons e ih
theorem Wd{r q:Row}(h:∀ p∈r,p.1<=p.2)(g:∀ p∈q,p.1<=p.2):∀ p∈r++q,p.1<=p.2:=λp hp=>(List.mem_append.mp hp).elim (h p) (g p)
end gA
namespace L2
open Spec Rows
section
variable {κ:Type} [DecidableEq κ]
def cJ(kvs:List (κ × V))(k:κ):Option V:=(kvs.find? λkv=>decide (kv.1=k)).map (·.2)
def eT(kvs:List (κ × V))(k:κ)(v:V):List (κ × V) :=
 if (kvs.any λkv=>decide (kv.1=k))=true then kvs.map (λkv=>if kv.1=k then (kv.1,v) else kv) else kvs++[(k,v)]
theorem gZ{p:κ × V}{r:List (κ × V)}{k:κ}(e:p.1=k):cJ (p::r) k=some p.2:=by simp[cJ,List.find?_cons,e]
theorem ic{p:κ × V}{r:List (κ × V)}{k:κ}(e:¬ p.1=k):cJ (p::r) k=cJ r k:=by simp[cJ,List.find?_cons,e]
theorem nB(k:κ):∀ kvs:List (κ × V),(kvs.any λkv=>decide (kv.1=k))=(cJ kvs k).isSome
 | []=>rfl
 | p::r=>by
  rw[List.any_cons];by_cases e:p.1=k
  ·simp only[gZ e,decide_eq_true e,Bool.true_or,Option.isSome_some]
  ·rw[ic e,decide_eq_false e,Bool.false_or];exact nB k r
theorem FE(k j:κ)(y:V):∀ kvs:List (κ × V),cJ (kvs.map λkv=>if kv.1=k then (kv.1,y) else kv) j=(cJ kvs j).map λx=>if j=k then y else x
 | []=>rfl
 | p::r=>by
  have ih:=FE k j y r;rw[jJ];by_cases h:p.1=k
  ·rw[if_pos h];by_cases e:p.1=j
   ·rw[gZ (p:=(p.1,y)) e,gZ e,Option.map_some,if_pos (e.symm.trans h)]
   ·rw[ic (p:=(p.1,y)) e,ic e,ih]
  ·rw[if_neg h];by_cases e:p.1=j
   ·rw[gZ (p:=p) e,gZ e,Option.map_some,if_neg (λz=>h (e.trans z))]
   ·rw[ic (p:=p) e,ic e,ih]
theorem Cn(k j:κ)(y:V):∀ kvs:List (κ × V),cJ kvs k=none->cJ (kvs++[(k,y)]) j=if j=k then some y else cJ kvs j
 | [],_=>by
  by_cases e:k=j
  ·rw[if_pos e.symm];exact gZ (p:=(k,y)) e
  ·rw[if_neg (λz=>e z.symm)];exact ic (p:=(k,y)) e
 | p::r,hn=>by
  rw[List.cons_append];have hk:¬ p.1=k:=λz=>by rw[gZ z]at hn;cases hn
  rw[ic hk]at hn;have ih:=Cn k j y r hn;by_cases e:p.1=j
  ·rw[gZ e,gZ e,if_neg (λz=>hk (e.trans z))]
  ·rw[ic e,ic e,ih]
theorem kZ(kvs:List (κ × V))(k j:κ)(y:V):cJ (eT kvs k y) j=if j=k then some y else cJ kvs j:=by
 unfold eT;by_cases a:(kvs.any λkv=>decide (kv.1=k))=true
 ·rw[if_pos a,FE];rw[nB]at a;by_cases e:j=k
  ·obtain⟨x,hx⟩:=Option.isSome_iff_exists.mp a;rw[if_pos e,e,hx,Option.map_some,if_pos rfl]
  ·rw[if_neg e]
   cases cJ kvs j with
   | none=>rfl
   | some x=>rw[Option.map_some,if_neg e]
 ·rw[if_neg a];refine Cn k j y kvs ?_;rw[nB]at a
  cases q:cJ kvs k with
  | none=>rfl
  | some x=>rw[q]at a;exact (a rfl).elim
theorem ie(kvs:List (κ × V))(k:κ)(v:V):(eT kvs k v).length<=kvs.length+1:=by
 unfold eT;split
 ·rw[cy];lia
 ·rw[cY,eY,qO];lia
theorem zT{kvs:List (κ × V)}{k:κ}(v:V)(h:cJ kvs k=none):eT kvs k v=kvs++[(k,v)]:=by
 unfold eT;rw[nB,h];exact if_neg (by decide)
theorem sX.wU{o:Option V}{u:Option Value}(r:sX o u):o.isSome=u.isSome:=by
 cases o with
 | none=>cases u with
  | none=>rfl
  | some _=>exact (show False from r).elim
 | some _=>cases u with
  | none=>exact (show False from r).elim
  | some _=>rfl
theorem KV.val{kvs:List (κ × V)}{vs:List (κ × Value)}(r:KV kvs vs)(k:κ):sX (cJ kvs k) (valueAt vs k):=by
 unfold KV at r
 induction r with
 | nil=>exact True.intro
 | @cons p q ps qs h t ih =>
  obtain⟨h1,h2⟩:=h;by_cases e:p.1=k
  ·have e':q.1=k:=h1.symm.trans e;have b:valueAt (q::qs) k=some q.2:=by simp[valueAt,List.find?_cons,e']
   rw[gZ e,b];exact h2
  ·have e':¬ q.1=k:=λz=>e (h1.trans z);have b:valueAt (q::qs) k=valueAt qs k:=by simp[valueAt,List.find?_cons,e']
   rw[ic e,b];exact ih
theorem KV.any{kvs:List (κ × V)}{vs:List (κ × Value)}(r:KV kvs vs)(k:κ):(kvs.any λkv=>decide (kv.1=k))=vs.any λkv=>decide (kv.1=k):=by
 unfold KV at r
 induction r with
 | nil=>rfl
 | cons h t ih=>rw[List.any_cons,List.any_cons,ih,h.1]
theorem KV.repl{kvs:List (κ × V)}{vs:List (κ × Value)}(r:KV kvs vs)(k:κ){y:V}{u:Value}(ry:RelV y u) :
  KV (kvs.map λkv=>if kv.1=k then (kv.1,y) else kv) (vs.map λkv=>if kv.1=k then (kv.1,u) else kv):=by
 unfold KV at r ⊢
 induction r with
 | nil=>exact .nil
 | @cons p q ps qs h t ih =>
  rw[jJ,jJ];refine .cons ?_ ih;obtain⟨h1,h2⟩:=h;by_cases e:p.1=k
  ·rw[if_pos e,if_pos (h1.symm.trans e)];exact⟨h1,ry⟩
  ·rw[if_neg e,if_neg (λz=>e (h1.trans z))];exact⟨h1,h2⟩
theorem KV.put{kvs:List (κ × V)}{vs:List (κ × Value)}(r:KV kvs vs)(k:κ){y:V}{u:Value}(ry:RelV y u):KV (eT kvs k y) (stored vs k u):=by
 unfold eT stored;rw[r.any k];by_cases e:(vs.any λkv=>decide (kv.1=k))=true
 ·rw[if_pos e,if_pos e];exact r.repl k ry
 ·rw[if_neg e,if_neg e];exact Paired.snoc r ⟨rfl,ry⟩
theorem KV.length{kvs:List (κ × V)}{vs:List (κ × Value)}(r:KV kvs vs):kvs.length=vs.length:=Paired.length r
end
theorem Co{P:Program}{w:World}{k:fk}{u:Value}(r:RelV (kV k) u):(fV P w).is k u=true:=by
 cases k with
 | inl i=>obtain⟨t,e⟩:=(show ∃ t,u=Value.int i t from r);subst e;exact E3 P w i t
 | inr x=>obtain⟨t,e⟩:=(show ∃ t,u=Value.str x t from r);subst e;exact E4 P w x t
theorem Cp{P:Program}{w:World}:∀ {ks:List fk} {us:List Value},cC (ks.map kV) us->ItemsAre (fV P w) ks us
 | [],_,r=>by rw[List.map_nil]at r;cases r;exact .nil
 | k::ks,_,r=>by
  rw[jJ]at r
  cases r with
  | cons h t=>exact .cons (Co h) (Cp t)
abbrev KT(H:Hp):List (List fk × V)->List (List fk × Addr × Value)->Prop:=Paired λp q=>p.1=q.1/\H q.2.1=some (.tup (p.1.map kV))/\RelV p.2 q.2.2
theorem KT.val{H:Hp}{kvs:List (List fk × V)}{xs:List (List fk × Addr × Value)}(r:KT H kvs xs)(k:List fk):sX (cJ kvs k) ((atKey xs k).map (·.2)):=by
 induction r with
 | nil=>exact True.intro
 | @cons p q ps qs h t ih =>
  obtain⟨h1,_,h2⟩:=h;by_cases e:p.1=k
  ·have e':q.1=k:=h1.symm.trans e;have b:atKey (q::qs) k=some q.2:=by simp[atKey,List.find?_cons,e']
   rw[gZ e,b];exact h2
  ·have e':¬ q.1=k:=λz=>e (h1.trans z);have b:atKey (q::qs) k=atKey qs k:=by simp[atKey,List.find?_cons,e']
   rw[ic e,b];exact ih
theorem KT.repl{H:Hp}{kvs:List (List fk × V)}{xs:List (List fk × Addr × Value)}(r:KT H kvs xs)(k:List fk){y:V}{u:Value}(ry:RelV y u) :
  KT H (kvs.map λkv=>if kv.1=k then (kv.1,y) else kv) (xs.map (putAt k u)):=by
 induction r with
 | nil=>exact .nil
 | @cons p q ps qs h t ih =>
  rw[jJ,jJ];refine .cons ?_ ih;obtain⟨h1,h2,h3⟩:=h;unfold putAt;by_cases e:p.1=k
  ·rw[if_pos e,if_pos (h1.symm.trans e)];exact⟨h1,h2,ry⟩
  ·rw[if_neg e,if_neg (λz=>e (h1.trans z))];exact⟨h1,h2,h3⟩
theorem KT.put{H:Hp}{kvs:List (List fk × V)}{xs:List (List fk × Addr × Value)}(r:KT H kvs xs)(k:List fk){b:Addr}{y:V}{u:Value}(hb:H b=some (.tup (k.map kV)))(ry:RelV y u) :
  KT H (eT kvs k y) (storedH xs k b u):=by
 have e:(kvs.any λkv=>decide (kv.1=k))=(atKey xs k).isSome:=by
  rw[nB,(r.val k).wU,Option.isSome_map]
 unfold eT storedH;rw[e];by_cases q:(atKey xs k).isSome=true
 ·rw[if_pos q,if_pos q];exact r.repl k ry
 ·rw[if_neg q,if_neg q];exact Paired.snoc r ⟨rfl,hb,ry⟩
theorem KT.keeps{H H':Hp}{kvs:List (List fk × V)}{xs:List (List fk × Addr × Value)}(r:KT H kvs xs)(ht:∀ b ys,H b=some (.tup ys)->H' b=some (.tup ys)):KT H' kvs xs :=
 Paired.Df r λ_ _ z=>⟨z.1,ht _ _ z.2.1,z.2.2⟩
section
variable {P:Program} {w:World} {H:Hp} {h:Heap} {a:Addr}
theorem Uv{u:HO}(ok:vd P w H h)(e:Rd H a u):fX P w H h a u:=e.ok ok
theorem FF{kvs:List (fk × V)}(ok:vd P w H h)(e:Rd H a (.dK kvs)):kvs.length<=sizeLine/\(a == sysModules)=false/\∃ vs,KV kvs vs/\h.DictOf (fV P w) a vs :=
 show fX P w H h a (.dK kvs) from Uv ok e
theorem OG{kvs:List (fk × V)}(ok:vd P w H h)(e:H a=some (.dK kvs)):kvs.length<=sizeLine/\(a == sysModules)=false/\∃ vs,KV kvs vs/\h.DictOf (fV P w) a vs:=FF ok (.inl e)
theorem DJ{ks:List fk}(ok:vd P w H h)(e:H a=some (.tup (ks.map kV))):(tupleKind (fV P w)).is h ks a:=by
 obtain⟨_,aM,r,o,h1,h2,n,h3⟩:=(show fX P w H h a (.tup (ks.map kV)) from ok a _ e);exact⟨o,aM.toArray,n,h1,h2,h3,by simpa using Cp r⟩
theorem FG{kvs:List (List fk × V)}(ok:vd P w H h)(e:Rd H a (.dT kvs)):kvs.length<=sizeLine/\(a == sysModules)=false/\
  ∃ xs,KT H kvs xs/\h.DictOfH (tupleKind (fV P w)) a xs:=by
 obtain⟨z,y,xs,r,o,es,ep,h1,h2,h3,h4,h5⟩:=(show fX P w H h a (.dT kvs) from Uv ok e);refine⟨z,y,xs,r,o,es,ep,h1,h2,h3,h4,λx hx=>?_,h5⟩
 have all:∀ {l:List (List fk × V)} {m:List (List fk × Addr × Value)},KT H l m->∀ x∈m,(tupleKind (fV P w)).is h x.1 x.2.1:=by
  intro l m q
  induction q with
  | nil=>intro x hx;exact nomatch hx
  | @cons p q ps qs hq t ih =>
   intro x hx;rcases List.mem_cons.mp hx with e|hx
   ·subst e;exact DJ ok (by rw[← hq.1];exact hq.2.1)
   ·exact ih x hx
 exact all r x hx
theorem Zw{kvs:List (List fk × V)}(ok:vd P w H h)(e:H a=some (.dT kvs)):kvs.length<=sizeLine/\(a == sysModules)=false/\
  ∃ xs,KT H kvs xs/\h.DictOfH (tupleKind (fV P w)) a xs:=FG ok (.inl e)
end
def iR(H:Hp)(a:Addr)(y:V)(r:Option V):Prop :=
 (∃ kvs k,Rd H a (.dK kvs)/\y=kV k/\r=cJ kvs k)\/∃ kvs k b,Rd H a (.dT kvs)/\y=.ref b/\H b=some (.tup (k.map kV))/\r=cJ kvs k
def DK(H:Hp)(a:Addr)(y v:V)(H':Hp):Prop :=
 (∃ kvs k,H a=some (.dK kvs)/\y=kV k/\kvs.length<sizeLine/\H'=aN H a (.dK (eT kvs k v)))\/
 ∃ kvs k b,H a=some (.dT kvs)/\y=.ref b/\H b=some (.tup (k.map kV))/\kvs.length<sizeLine/\H'=aN H a (.dT (eT kvs k v))
theorem iR.k{H:Hp}{a:Addr}{kvs:List (fk × V)}{k:fk}(e:H a=some (.dK kvs)):iR H a (kV k) (cJ kvs k):=.inl ⟨kvs,k,.inl e,V⟩
theorem DK.k{H:Hp}{a:Addr}{kvs:List (fk × V)}{k:fk}{v:V}(e:H a=some (.dK kvs))(hl:kvs.length<sizeLine):DK H a (kV k) v (aN H a (.dK (eT kvs k v))):=.inl ⟨kvs,k,e,rfl,hl,rfl⟩
section
variable {X:Cx} {ao:List (Addr × Obj)} {σ:St} {H:Hp} {s:Shared} {a:Addr} {y v:V} {u r:Value} {o:Option V} {A:Around} {E:Value->Shared->Prop}
theorem Inv.big(I:Inv X ao σ H s):sysModules<s.heap.objs.size:=by
 have h:mainGlobals<s.heap.objs.size:=(I.mod.glob.keeps I.bk).lt;exact Nat.lt_trans (by decide) h
theorem LX{Q:Value->Shared->Prop}(hu:A.units+1<cLine)(I:Inv X ao σ H s)(g:iR H a y (some v))(ry:RelV y u)(h:∀ w' s',Inv X ao σ H s'->RelV v w'->Q w' s') :
  wpAny (model X.prog X.w) A (getItem (.ref a) u) Q E s:=by
 rcases g with ⟨kvs,k,e,ey,l⟩|⟨kvs,k,b,e,ey,eb,l⟩
 ·subst ey;obtain⟨z,hd,vs,yb,dd⟩:=FF I.hok e;obtain⟨w',hw,jf⟩:=sX.some_of (v:=v) (o:=valueAt vs k) (by rw[l];exact yb.val k);exact wpAny_getItem_of (Co ry) dd.mapOf hw (h w' _ (I.tok _) jf)
 ·subst ey;cases (show u=Value.ref b from ry);obtain⟨z,hd,xs,yb,dd⟩:=FG I.hok e;obtain⟨w',hw,jf⟩:=sX.some_of (v:=v) (o:=(atKey xs k).map (·.2)) (by rw[l];exact yb.val k);obtain⟨p,hp,Uw⟩:=Option.map_eq_some_iff.mp hw;refine wpAny_getItem_heap (tupleKind_room_in1 hu) (DJ I.hok eb) dd hp ?_;rw[Uw];exact h w' _ (I.tok _) jf
theorem RT{Q:Value->Shared->Prop}(hu:A.units+1<cLine)(I:Inv X ao σ H s)(g:iR H a y o)(ry:RelV y u)(h:∀ s',Inv X ao σ H s'->Q (.bool (!o.isSome)) s') :
  wpAny (model X.prog X.w) A (compareOp .NotIn u (.ref a)) Q E s:=by
 rcases g with ⟨kvs,k,e,ey,l⟩|⟨kvs,k,b,e,ey,eb,l⟩
 ·subst ey;obtain⟨z,hd,vs,yb,dd⟩:=FF I.hok e;refine wpAny_notIn_of (Co ry) hd dd.mapOf ?_;rw[← (yb.val k).wU,← l];exact h _ (I.tok _)
 ·subst ey;cases (show u=Value.ref b from ry);obtain⟨z,hd,xs,yb,dd⟩:=FG I.hok e;refine wpAny_notIn_heap (tupleKind_room_in1 hu) (DJ I.hok eb) hd dd ?_;have q:=(yb.val k).wU;rw[Option.isSome_map]at q;rw[← q,← l];exact h _ (I.tok _)
theorem yY{h':Heap}{t':Nat}{ob:HO}(I:Inv X ao σ H s)(mu:Yw (H a))(hs:Heap.SameBut a s.heap h')(he:∃ q,h'.get? a=some q)(new:fX X.prog X.w (aN H a ob) h' a ob) :
  Inv X ao σ (aN H a ob) { s with heap:=h',toks:=t' } :=
 I.write (x:=a) (e:=a) mu (.inl rfl) (λb q hb z=>(hs.2 b hb).trans z) he new
theorem Ir{P:Program}{w:World}{H':Hp}{h':Heap}{kvs:List (fk × V)}{vs:List (fk × Value)}(z:kvs.length<=sizeLine)(hd:(a == sysModules)=false)(yb:KV kvs vs)(dd:h'.DictOf (fV P w) a vs) :
  fX P w H' h' a (.dK kvs):=⟨z,hd,vs,yb,dd⟩
theorem LY{H':Hp}{Q:Unit->Shared->Prop}(hu:A.units+1<cLine)(I:Inv X ao σ H s)(g:DK H a y v H')(ry:RelV y u)(rv:RelV v r)(h:∀ s',Inv X ao σ H' s'->Q () s') :
  wpAny (model X.prog X.w) A (setItem (.ref a) u r) Q E s:=by
 rcases g with ⟨kvs,k,e,ey,l,eH⟩|⟨kvs,k,b,e,ey,eb,l,eH⟩
 ·subst ey eH;obtain⟨z,hd,vs,yb,dd⟩:=OG I.hok e;have hz:vs.length<=sizeLine:=by rw[← yb.length];exact z
  have hl:(eT kvs k v).length<=sizeLine:=by have:=ie kvs k v;lia
  refine wpAny_setItem_pairs (hsz:=hz) (Co ry) dd λh' QX hs=>h _ ?_;have he:∃ q,h'.get? a=some q:=let ⟨q,P,hq,_⟩:=QX;⟨q,hq⟩;exact yY I (by rw[e];exact True.intro) hs he (Ir hl hd (yb.put k rv) QX)
 ·subst ey eH;cases (show u=Value.ref b from ry);obtain⟨z,hd,xs,yb,dd⟩:=Zw I.hok e;have hz:xs.length<=sizeLine:=by rw[← Paired.length yb];exact z
  have hl:(eT kvs k v).length<=sizeLine:=by have:=ie kvs k v;lia
  refine wpAny_setItem_heap (hsz:=hz) (tupleKind_room_in1 hu) (DJ I.hok eb) dd λh' QX hs=>h _ ?_;obtain⟨q,es,ep,hq,h2,h3,h4,_,h5⟩:=QX;refine yY I (by rw[e];exact True.intro) hs ⟨q,hq⟩ ⟨hl,hd,_,(yb.put k eb rv).keeps λc ys ec=>?_,q,es,ep,hq,h2,h3,h4,h5⟩;rw[aK (dY ec e (λz=>nomatch z))];exact ec
end
def Wf(i:Expr):Prop:=∀ ov iv,subscripted i false ov iv=operate [ov,iv] (getItem ov iv)
theorem RU{prog:Program}{w:World}{A:Around}{E:Value->Shared->Prop}{s:Shared}{env:Env}{T id:String}{Q:Value->Shared->Prop}
  (hl:typeLookup (.type T) "__getitem__"=pure (some (.builtin id))) (hs:Wf tP)
  (h:wpAny (model prog w) A (eval value env) (λo s₁=>wpAny (model prog w) A (eval tP env) (λi s₂=>s₂.TypeIs o T/\wpAny (model prog w) A (getItem o i) Q E s₂) E s₁) E s) :
  wpAny (model prog w) A (eval (.Subscript value tP pos) env) Q E s:=by
 refine Subscript_ (wpAny_mono h (λo s₁ h₁=>wpAny_mono h₁ (λi s₂ h₂=>?_) λ_ _ x=>x) λ_ _ x=>x);obtain⟨hT,h₂⟩:=h₂;unfold subscriptTail;refine wpAny_bind ?_;rw[getitemInPython_of_ne hT.not_modules];refine wpAny_bind (wpAny_specialOf hT hl ?_)
 have jG:wpAny (model prog w) A (subscripted tP false o i) (λr s₃=>wpAny (model prog w) A (letTemporaryGo value o r >>= λ_=>pure r) Q E s₃) E s₂:=by
  rw[hs o i];exact wpAny_operating (wpAny_mono h₂ (λr s₃ h₃=>wpAny_bind (wpAny_letTemporaryGo (wpAny_pure h₃))) λ_ _ x=>x)
 first
  | exact wpAny_pure (wpAny_bind jG)
  | exact wpAny_bind (wpAny_pure (wpAny_bind jG))
  | exact wpAny_bind jG
theorem FH{X:Cx}{σ:St}{H:Hp}{s:Shared}{a:Addr}{y:V}{o:Option V}(I:Inv X ao σ H s)(g:iR H a y o):s.TypeIs (.ref a) "dict":=by
 rcases g with ⟨kvs,k,e,_,_⟩|⟨kvs,k,b,e,_,_,_⟩
 ·obtain⟨_,_,vs,_,dd⟩:=FF I.hok e;exact dd.typeIs
 ·obtain⟨_,_,xs,_,dd⟩:=FG I.hok e;exact dd.typeIs
inductive Zx(x y:V)(H:Hp)(Q:VK):Prop
 | mk (a:Addr) (v:V) (_:x=.ref a) (_:iR H a y (some v)) (_:Q v H):Zx x y H Q
def Ux(td ty:TE):TE:=fun σ H Q=>td σ H λx H1=>ty σ H1 λy H2=>Zx x y H2 Q
def RV(ty td:TE):TE:=fun σ H Q=>ty σ H λy H1=>td σ H1 λx H2=>∃ a o,x=.ref a/\iR H2 a y o/\Q (.bl (!o.isSome)) H2
def Zy(td ty tv:TE):TS:=λD σ H=>tv σ H λv H1=>td σ H1 λx H2=>ty σ H2 λy H3=>∃ a H4,x=.ref a/\DK H3 a y v H4/\D.nx σ H4
section
variable {X:Cx} {o i e value:Expr} {pos iV Lx:Pos} {td ty tv:TE}
theorem RW(hu:X.A.units+1<cLine)(ho:PE X o td)(hi:PE X i ty)(hs:Wf i):PE X (.Subscript o i pos) (Ux td ty):=by
 intro ao s σ H Q I h;refine RU PySem.F.slot_dict_getitem.lookup hs (dc (ho ao s σ H _ I h) λu s1 ⟨x,H1,I1,rx,q1⟩=>dc (hi ao s1 σ H1 _ I1 q1) λiv s2 A9=>?_);obtain⟨y,H2,I2,ry,a,v,ex,g,q2⟩:=A9;subst ex;obtain rfl:u=Value.ref a:=rx;exact⟨FH I2 g,LX hu I2 g ry λw' s3 I3 jf=>⟨v,H2,I3,jf,q2⟩⟩
theorem Cq(hu:X.A.units+1<cLine)(hi:PE X i ty)(ho:PE X o td):PC X .NotIn i o (RV ty td):=by
 intro ao s σ H Q I h;refine dc (hi ao s σ H _ I h) λiv s1 ⟨y,H1,I1,ry,q1⟩=>dc (ho ao s1 σ H1 _ I1 q1) λu s2 Dk=>?_;obtain⟨x,H2,I2,rx,a,ov,ex,g,q2⟩:=Dk;subst ex;obtain rfl:u=Value.ref a:=rx;exact RT hu I2 g ry λs3 I3=>⟨.bl (!ov.isSome),H2,I3,rfl,q2⟩
theorem vB(hu:X.A.units+1<cLine)(ho:PE X o td)(hi:PE X i ty)(hv:PE X value tv)(hs:swapsWith value (some (.Subscript o i iV)) pos.line X.env=pure false) :
  PS X (.Assign [.Subscript o i iV] value pos) (Zy td ty tv):=by
 intro ao s σ H D I h;refine wpAny_Assign_Subscript (dc (hv ao s σ H _ I h) λr s1 ⟨v,H1,I1,rv,q1⟩=>dc (ho ao s1 σ H1 _ I1 q1) λu s2 ⟨x,H2,I2,rx,q2⟩=>dc (hi ao s2 σ H2 _ I2 q2) λiv s3 ⟨y,H3,I3,ry,a,H4,ex,g,q3⟩=>?_) hs;subst ex;obtain rfl:u=Value.ref a:=rx;exact LY hu I3 g ry rv λs4 I4=>⟨σ,H4,I4,q3⟩
end
theorem FI{P:Program}{w:World}{H:Hp}(h:Heap)(hb:sysModules<h.objs.size):fX P w H (h.push { cls:=.type "dict",data:=.dict #[] }) h.objs.size (.dK []) :=
 ⟨Nat.zero_le _,beq_eq_false_iff_ne.mpr (Ne.symm (j3 hb)),[],.nil,Heap.DictOf.new h⟩
def Wg:TE:=λ_ H Q=>∀ p,H p=none->Q (.ref p) (aN H p (.dK []))
section
variable {X:Cx} {pos:Pos}
theorem nC:PE X (.Dict [] [] pos) Wg:=λao s σ H Q I h =>
 wpAny_Dict_empty ⟨.ref s.heap.objs.size,_,I.laid (a:=s.heap.objs.size) (o:=.dK []) (t':=s.toks) (λ_ _ q=>Heap.get?_push_of_some _ q) (fF _) (FI s.heap I.big),rfl,h _ (I.hok.fresh (fF _))⟩
end
def Iu:List (TE × TE)->St->Hp->(List (V × V)->Hp->Prop)->Prop
 | [],_,H,Q=>Q [] H
 | (tk,tv)::r,σ,H,Q=>tk σ H λx H1=>tv σ H1 λy H2=>Iu r σ H2 λps H3=>Q ((x,y)::ps) H3
abbrev VV:List (V × V)->List (Value × Value)->Prop:=Paired λp q=>RelV p.1 q.1/\RelV p.2 q.2
def PPs(X:Cx)(pos:Pos)(Bf:List (Option Expr))(zU:List Expr)(RX:List (TE × TE)):Prop :=
 ∀ (ao:List (Addr × Obj)) (s:Shared) (σ:St) (H:Hp) (Q:List (V × V)->Hp->Prop),Inv X ao σ H s->Iu RX σ H Q->
  wpAny (model X.prog X.w) X.A (evalPairs (pairTrees Bf zU X.env pos)) (λvs s'=>∃ ps H',Inv X ao σ H' s'/\VV ps vs/\Q ps H') X.xe s
theorem RY{X:Cx}:PPs X pos [] [] []:=λao s σ H Q I h=>pairTrees_nil_walk ⟨[],H,I,.nil,h⟩
theorem vC{X:Cx}{k:Expr}{ks:List (Option Expr)}{tk tv:TE}{RX:List (TE × TE)}(hk:PE X k tk)(hv:PE X v tv)(hr:PPs X pos ks vs RX) :
  PPs X pos (some k::ks) (v::vs) ((tk,tv)::RX):=λao s σ H Q I h =>
 pairTrees_cons_walk (dc (hk ao s σ H _ I h) λu s1 ⟨x,H1,I1,rx,q1⟩=>dc (hv ao s1 σ H1 _ I1 q1) λw2 s2 ⟨y,H2,I2,ry,q2⟩ =>
  dc (hr ao s2 σ H2 _ I2 q2) λws s3 ⟨ps,H3,I3,yb,q3⟩=>⟨(x,y)::ps,H3,I3,.cons ⟨rx,ry⟩ yb,q3⟩)
def wV(kvs more:List (fk × V)):List (fk × V):=more.foldl (λacc kv=>eT acc kv.1 kv.2) kvs
theorem KV.merge:∀ {more:List (fk × V)} {rs:List (fk × Value)} {kvs:List (fk × V)} {vs:List (fk × Value)},KV more rs->KV kvs vs->KV (wV kvs more) (merged vs rs):=by
 intro more rs kvs vs r;unfold KV at r
 induction r generalizing kvs vs with
 | nil=>intro q;exact q
 | @cons p q ps qs h t ih =>
  intro r0
  have e:KV (eT kvs p.1 p.2) (stored vs q.1 q.2):=by
   have:=r0.put p.1 h.2;rw[← h.1];exact this
  exact ih e
theorem tV:∀ (more kvs:List (fk × V)),(wV kvs more).length<=kvs.length+more.length
 | [],kvs=>by show kvs.length<=kvs.length+0;lia
 | p::r,kvs=>by
  have h1:=tV r (eT kvs p.1 p.2);have h2:=ie kvs p.1 p.2;show (wV (eT kvs p.1 p.2) r).length<=_;rw[eY];lia
theorem zV{P:Program}{w:World}:∀ {kvs:List (fk × V)} {ws:List (Value × Value)},VV (kvs.map λkv=>(kV kv.1,kv.2)) ws->∃ rs,Carries (fV P w) ws rs/\KV kvs rs
 | [],_,r=>by rw[List.map_nil]at r;cases r;exact⟨[],True.intro,.nil⟩
 | p::kvs,_,r=>by
  rw[jJ]at r
  cases r with
  | @cons a b as bs h t =>
   obtain⟨rs,c,q⟩:=zV (P:=P) (w:=w) t;obtain⟨b1,b2⟩:=b;exact⟨(p.1,b2)::rs,⟨Co h.1,rfl,c⟩,.cons ⟨rfl,h.2⟩ q⟩
def OH(RX:List (TE × TE)):TE:=fun σ H Q=>∀ p,H p=none->Iu RX σ (aN H p (.dK [])) λps H2=>H2 p=some (.dK [])/\∃ kvs:List (fk × V),ps=kvs.map (λkv=>(kV kv.1,kv.2))/\kvs.length<=15/\Q (.ref p) (aN H2 p (.dK (wV [] kvs)))
theorem RZ{X:Cx}{Bf:List (Option Expr)}{zU:List Expr}{RX:List (TE × TE)}(h:PPs X pos Bf zU RX)(Oa:Bf.all (·.isSome)=true)(hl:Bf.length=zU.length)(h0:Bf≠[])
  (h15:Bf.length<=15):PE X (.Dict Bf zU pos) (OH RX):=by
 intro ao s σ H Q I q;have hn:=I.hok.fresh (fF s.heap.objs.size);have I1:=I.laid (a:=s.heap.objs.size) (o:=.dK []) (h':=s.heap.push { cls:=.type "dict",data:=.dict #[] }) (t':=s.toks) (λ_ _ q=>Heap.get?_push_of_some _ q) (fF _) (FI s.heap I.big);refine wpAny_Dict_walk (knd:=fV X.prog X.w) Oa hl h0 h15 (dc (h ao _ σ _ _ I1 (q _ hn)) λws s2 HH=>?_);obtain⟨ps,H2,I2,yb,e,kvs,ep,lk,q2⟩:=HH;subst ep;obtain⟨rs,c,rk⟩:=zV (P:=X.prog) (w:=X.w) yb;obtain⟨z,hd,vs0,r0,dd⟩:=OG I2.hok e;cases r0;refine⟨rs,c,dd,λh' QX hs=>⟨.ref s.heap.objs.size,_,?_,rfl,q2⟩⟩
 have hz:(wV [] kvs).length<=sizeLine:=by
  have h1:=tV kvs [];rw[qO]at h1;rw[sizeLine_eq];lia
 have he:∃ q,h'.get? s.heap.objs.size=some q:=let ⟨q,P,hq,_⟩:=QX;⟨q,hq⟩;exact yY I2 (by rw[e];exact True.intro) hs he (Ir hz hd (rk.merge .nil) QX)
structure M2(X:Cx)(o:Expr)(m:Str)(mq:Pos)(e f:Expr)(rm:Pos):Prop where
 zt:attributeBase o m X.env (eval o X.env)=eval o X.env
 few:((backTo rm (starEach [e,f] X.env)).all (λx=>!x.1)&&(backToKw rm (keywordEach [] X.env)).all (λx=>x.1.isSome)
  && decide (([e,f]:List Expr).length+([]:List Keyword).length+(if ([]:List Keyword).isEmpty then 0 else 1)<30))=true
 line:(mq.endLine == rm.line)=true
 trees:backTo rm (starEach [e,f] X.env)=[(false,eval e X.env),(false,eval f X.env)]
def IsD(H:Hp)(a:Addr):Prop:=(∃ kvs,Rd H a (.dK kvs))\/∃ kvs,Rd H a (.dT kvs)
theorem Wh{X:Cx}{σ:St}{H:Hp}{s:Shared}{a:Addr}(I:Inv X ao σ H s)(d:IsD H a) :
  s.TypeIs (.ref a) "dict"/\(∀ b,Value.ref a=.ref b->∃ ob,s.heap.get? b=some ob/\ob.dict=none)/\(a == sysModules)=false:=by
 rcases d with ⟨kvs,e⟩|⟨kvs,e⟩
 ·obtain⟨_,hd,vs,_,dd⟩:=FF I.hok e;refine⟨dd.typeIs,λb q=>?_,hd⟩;cases q;obtain⟨ob,_,_,h1,h2,_⟩:=dd;exact⟨ob,h1,h2.2.1⟩
 ·obtain⟨_,hd,xs,_,dd⟩:=FG I.hok e;refine⟨dd.typeIs,λb q=>?_,hd⟩;cases q;obtain⟨ob,_,_,h1,h2,_⟩:=dd;exact⟨ob,h1,h2.2.1⟩
end L2
namespace cZ
open Spec Rows L2
def jQ(X:Cx)(N:List Str)(scope:Scope)(cl:List (Str × Addr))(C:Addr)(s₀:Shared)(H₀:Hp)(ex:List Addr)(pn:List (Addr × Obj)):Cx where
 prog:=X.prog
 w:=X.w
 K:=X.K
 mg:=X.mg
 zt:=X.zt
 A:=X.A
 N:=N
 s₀:=s₀
 H₀:=H₀
 env:=compEnvC scope cl C X.env
 zn:=X.stack
 stack:=X.stack
 ex:=ex
 fn:=λ_=>false
 calm:=X.calm
 pn:=pn
 xe:=λ_ _=>False
structure Cr(X:Cx)(N:List Str)(scope:Scope)(cl:List (Str × Addr))(jx:List (Option Nat)):Prop where
 kind:scope.kind=.function
 cell:∀ x∈scope.names,x.2≠.cell
 names:∀ x∈scope.names,x.2=.local->scope.names.lookup x.1=some .local
 clos:closureFor scope X.env=pure cl
 sub:∀ x c,cl.lookup x=some c->X.env.cells.lookup x=some c
 has:∀ x,((relabel scope X.env).names.lookup x=some .cell\/(relabel scope X.env).names.lookup x=some .free)->∃ c,cl.lookup x=some c
 len:jx.length=N.length
 free:∀ (i j:Nat) (x:Str),jx[i]?=some (some j)->N[i]?=some x->X.N[j]?=some x/\X.env.scope.names.lookup x=some .cell/\(relabel scope X.env).names.lookup x=some .cell
def uL(jx:List (Option Nat))(σ:L2.St):L2.St:=jx.map λo=>o.bind λj=>(σ[j]?).join
section
variable {X:Cx} {N:List Str} {scope:Scope} {cl:List (Str × Addr)} {jx:List (Option Nat)}
theorem yc{σ:L2.St}{H:Hp}{s:Shared}{fp:List Addr}{h₁:Heap}{t:Nat}(cs:Cr X N scope cl jx)(I:Inv X ao σ H s)(hf:∀ b∈fp,qP X ao H b)(tO:∀ b∈fp,b<s.heap.objs.size)
  (Nb:h₁.Ns s.heap.objs.size λ_=>none) (hk:∀ b o,s.heap.get? b=some o->h₁.get? b=some o) :
  Inv (jQ X N scope cl s.heap.objs.size s H fp (X.pn++ao)) [] (uL jx σ) H { s with heap:=h₁,toks:=t }:=by
 have sub:∀ {x c},(jQ X N scope cl s.heap.objs.size s H fp (X.pn++ao)).env.cells.lookup x=some c->X.env.cells.lookup x=some c:=λ{x c} e=>cs.sub x c e
 refine⟨⟨I.ok.mod,cs.kind,I.ok.glob,I.ok.blt,fF _,λx y c e e'=>I.ok.inj x y c (sub e) (sub e'),λx hx=>cs.has x hx,λx c z _=>(by cases z),I.ok.hd,I.ok.frames,.inl rfl,λb hb=>⟨Nat.ne_of_lt (tO b hb),λx c e=>(hf b hb).2.2.2.2.1 x c (sub e)⟩,I.bs,gV I.ok.Ue I.sz,λb o e hb=>?_,λb hb z=>?_,I.stack,I.JY⟩,
  rfl,I.bare,Un.kept hk,⟨_,Nb,λi x v e1 e2 _=>?_⟩,λx c e=>?_,I.hok.fresh (fF _),λx c e=>I.tM x c (sub e),λp hp=>?_,I.hok.kept hk,by unfold uL;rw[cy];exact cs.len⟩
 ·rcases (hf b hb).2.2.2.1 with z|z
  ·exact I.ok.NB b o e z
  ·exact absurd (qN (Heap.lt_size (I.ok.bs b o e).1) z) (Nat.lt_irrefl _)
 ·rcases List.mem_cons.mp (I.wD b z) with e|e
  ·exact (hf b hb).2.1 e
  ·exact (hf b hb).2.2.1 e
 ·unfold uL at e2;rw[mY]at e2
  cases ej:jx[i]? with
  | none=>rw[ej]at e2;cases e2
  | some o =>
   rw[ej]at e2
   cases o with
   | none=>cases e2
   | some j =>
    have e3:σ[j]?=some (some v):=by
     have z:((σ[j]?).join)=some v:=qW e2
     cases hs:σ[j]? with
     | none=>rw[hs]at z;cases z
     | some q=>rw[hs]at z;exact congrArg some z
    obtain⟨f1,f2,f3⟩:=cs.free i j x ej e1;obtain⟨m,hn,hl⟩:=I.loc;obtain⟨u,ru,look⟩:=hl j x v f1 e3 (.inr (.inl f2));exists u,ru;rcases look with ⟨k,_⟩|⟨_,c,hc,o,ho,hd⟩
    ·have k':X.env.scope.names.lookup x=some .local:=k;rw[f2]at k';cases k'
    ·obtain⟨c',YA⟩:=cs.has x (.inl f3);have z:=cs.sub x c' YA;rw[hc]at z;cases z;exact .inr ⟨.inl f3,c,YA,o,hk _ _ ho,hd⟩
 ·obtain⟨v,o,ho,hd⟩:=I.cell x c (sub e);exact⟨v,o,hk _ _ ho,hd⟩
 ·have Nf:p∈X.pn++ao:=by
   have z:p∈(X.pn++ao)++[]:=hp;simpa using z
  obtain⟨e,n,nl,nf,d⟩:=I.pin p Nf;refine⟨hk _ _ e,n,j3 (Heap.lt_size e),λz=>?_,d⟩;rcases List.mem_cons.mp (I.wD p.1 z) with e|e
  ·exact nl e
  ·exact nf e
theorem wW{σ σ':L2.St}{H H':Hp}{s s':Shared}{fp:List Addr}(I:Inv X ao σ H s)(hf:∀ b∈fp,qP X ao H b)(J:Inv (jQ X N scope cl s.heap.objs.size s H fp (X.pn++ao)) [] σ' H' s'):Inv X ao σ H' s' :=
 I.YB (ch:=fp) J.os J.zt J.hok J.bare λb hb=>⟨(hf b hb).2.2.2.1,(hf b hb).2.1,(hf b hb).2.2.2.2.1,(hf b hb).2.2.2.2.2⟩
theorem wX{σ σ2:L2.St}{H H':Hp}{s s':Shared}{h':Heap}(I:Inv X ao σ H s)(I4:Inv X ao σ2 H' s')(J1:H' s.heap.objs.size=none)(hs:Heap.SameBut s.heap.objs.size s'.heap h'):Inv X ao σ2 H' { s' with heap:=h' }:=by
 refine I4.turned (t':=s'.toks) (it:=s.heap.objs.size) (λb o hb e=>hs.extBut _ _ hb e) J1 (Nat.ne_of_gt I.lt) (.inr I.sz) (λx c e z=>?_) λp hp z=>?_
 ·obtain⟨v,o,ho,_⟩:=I.cell x c e;exact absurd (Heap.lt_size ho) (by rw[z];exact Nat.lt_irrefl _)
 ·exact absurd (Heap.lt_size (I.pin p hp).1) (by rw[z];exact Nat.lt_irrefl _)
def yZ(J:It)(acc:Addr)(g:TG)(tt:TT)(te:TE)(σ0:L2.St)(H:Hp)(Q:VK):Prop :=
 ∃ W:Nat->Nat->L2.St->Hp->Prop,(∃ m,W 0 m σ0 H)/\∀ i m σ H,W i m σ H->
  (J.stop i H/\Q (.ref acc) H)\/(J.go i H/\∃ Nx:L2.St->Hp->Prop,(∀ σ' H',Nx σ' H'->∃ m',m'<m/\W (i+1) m' σ' H')/\∀ x H',J.QT i H x H'->g x σ H' fun σ2 H2=>tt σ2 H2 λb H3 =>
   if b=true then te σ2 H3 λv H4=>∃ xs,H4 acc=some (.lst xs)/\xs.length<sizeLine/\Nx σ2 (aN H4 acc (.lst (xs++[v]))) else Nx σ2 H3)
def wY(jx:List (Option Nat))(wi:TI)(g:TG)(tt:TT)(te:TE):TE:=fun σ H Q=>wi σ H λJ H1=>∀ acc,H1 acc=none->yZ J acc g tt te (uL jx σ) (aN H1 acc (.lst [])) Q
theorem Cs{iter:Expr}{wi:TI}{g:TG}{tt:TT}{te:TE}(cs:Cr X N scope cl jx)(hc:X.calm=true)(hi:PI X tg iter wi)
  (hg:∀ C s₀ H₀ ex pn,PG (jQ X N scope cl C s₀ H₀ ex pn) tg g) (ht:∀ C s₀ H₀ ex pn,LR (jQ X N scope cl C s₀ H₀ ex pn) j4 tt) (he:∀ C s₀ H₀ ex pn,PE (jQ X N scope cl C s₀ H₀ ex pn) kK te)
  (hs:∀ x,foldedSetIterable iter X.env x=pure x) {use:Option (Value->Sem Unit)} {Q':Value->Shared->Prop} {Q:VK} {ao:List (Addr × Obj)} {s:Shared} {σ:L2.St} {H:Hp} (I:Inv X ao σ H s) (h:wY jx wi g tt te σ H Q)
  (jG:∀ (s3:Shared) (H3:Hp) (fp:List Addr) (acc:Addr) (σ6:L2.St) (H6:Hp) (s7:Shared),Inv X ao σ H3 s3->(∀ b∈fp,qP X ao H3 b)->Inv (jQ X N scope cl s3.heap.objs.size s3 H3 fp (X.pn++ao)) [] σ6 H6 s7->Q (.ref acc) H6->
   compPost (model X.prog X.w) X.A X.xe use Q' (.ref acc) s3.heap.objs.size (.ok .next) s7) :
  wpAny (model X.prog X.w) X.A (comprehension (.ListComp kK [⟨tg,iter,j4,0⟩] scope pos) scope X.env iV (newList []) false (eval iter X.env) use) Q' X.xe s:=by
 refine wpAny_comprehension_free (use:=use) rfl hs cs.clos cs.kind cs.names (dc (hi ao s σ H _ I h) λv s1 h1=>dc h1 λYL s2 h2=>?_);obtain⟨it,fp,tn,J,H2,e,I2,T,st2,f2,q⟩:=h2;subst e;refine wpAny_newObj_type (hd:=by size_fits) ?_;have cR:H2 s2.heap.objs.size=none:=I2.hok.fresh (fF _);have I3:Inv X ao σ (aN H2 s2.heap.objs.size (.lst [])) { s2 with heap:=s2.heap.push { cls:=.type "list",data:=.seq ([]:List Value).toArray },toks:=s2.toks }:=I2.Rq (ys:=[]) .nil (Nat.zero_le _)
 have Zz:∀ b∈fp,b<s2.heap.objs.size:=λb hb=>by
  obtain⟨o,ho,_⟩:=T.obj _ _ st2 b hb;exact Heap.lt_size ho
 have f3:∀ b∈fp,qP X ao (aN H2 s2.heap.objs.size (.lst [])) b:=λb hb=>⟨by rw[aK (j3 (Zz b hb))];exact (f2 b hb).1,(f2 b hb).2⟩;have k3:∀ b o,s2.heap.get? b=some o->(s2.heap.push { cls:=.type "list",data:=.seq ([]:List Value).toArray }).get? b=some o:=λb o e=>Heap.get?_push_of_some _ e;have q3:=q _ cR;generalize hs3:({ s2 with heap:=s2.heap.push { cls:=.type "list",data:=.seq ([]:List Value).toArray },toks:=s2.toks }:Shared)=s3 at I3;generalize hH3:aN H2 s2.heap.objs.size (.lst [])=H3 at I3 f3 q3;have ZA:s3.heap=s2.heap.push { cls:=.type "list",data:=.seq ([]:List Value).toArray }:=by rw[← hs3]
 have KC:∀ b∈fp,b<s3.heap.objs.size:=λb hb=>by rw[ZA,Heap.size_push];exact Nat.lt_succ_of_lt (Zz b hb)
 have st3:tn 0 s3.heap:=T.keep _ _ _ st2 λb _ o e=>by rw[ZA];exact k3 b o e
 show wpAny _ _ _ _ _ s3;refine wpAny_newFunctionEnv cs.cell (λy hy=>by simp at hy) (λh₁ Nb R0=>?_) cs.kind;have kh:∀ b o,s3.heap.get? b=some o->h₁.get? b=some o:=λb o e=>R0.extBut _ _ (j3 (Heap.lt_size e)) (Heap.get?_push_of_some _ e);have J0:Inv (jQ X N scope cl s3.heap.objs.size s3 H3 fp (X.pn++ao)) [] (uL jx σ) H3 { s3 with heap:=h₁,toks:=s3.toks+([]:List (Str × Value)).length }:=yc cs I3 f3 KC Nb kh;have ZC:tn 0 h₁:=T.keep _ _ _ st3 λb _ o e=>kh b o e;obtain⟨W,⟨m0,w0⟩,pT⟩:=q3
 have uf:∀ {H':Hp},(∀ b∈fp,H' b=none)->∀ b∈fp,qP (jQ X N scope cl s3.heap.objs.size s3 H3 fp (X.pn++ao)) [] H' b:=λhn b hb=>by
  refine⟨hn b hb,j3 (KC b hb),λz=>?_,.inl hb,λx c e=>(f3 b hb).2.2.2.2.1 x c (cs.sub x c e),λp hp=>?_⟩
  ·rcases List.mem_cons.mp (I3.wD b z) with e|e
   ·exact (f3 b hb).2.1 e
   ·exact (f3 b hb).2.2.1 e
  ·have Nf:p∈X.pn++ao:=by
    have z:p∈(X.pn++ao)++[]:=hp;simpa using z
   exact (f3 b hb).2.2.2.2.2 p Nf
 have loop:∀ s5:Shared,s5={ s3 with heap:=h₁,toks:=s3.toks+([]:List (Str × Value)).length }->codeAny (model X.prog X.w) X.A (.compLoop (.ListComp kK [⟨tg,iter,j4,0⟩] scope pos) 0 (.ref it) (.ref s2.heap.objs.size) (jQ X N scope cl s3.heap.objs.size s3 H3 fp (X.pn++ao)).env)
   (compPost (model X.prog X.w) X.A X.xe use Q' (.ref s2.heap.objs.size) s3.heap.objs.size) s5:=by
  rintro s5 rfl;refine LQ (λn s'=>∃ i σ' H',Inv (jQ X N scope cl s3.heap.objs.size s3 H3 fp (X.pn++ao)) [] σ' H' s'/\tn i s'.heap/\(∀ b∈fp,H' b=none)/\W i n σ' H') ?_ m0 ⟨0,_,H3,J0,ZC,λb hb=>(f3 b hb).1,w0⟩;rintro n s6 ⟨i,σ6,H6,I6,Ut,Io,w6⟩;rcases pT i n σ6 H6 w6 with ⟨stop,qn⟩|⟨go,Nx,hN,step⟩
  ·refine dc (T.done (jQ X N scope cl s3.heap.objs.size s3 H3 fp (X.pn++ao)) rfl rfl rfl hc i [] s6 σ6 H6 _ I6 (uf Io) Ut stop) λr s7 HE=>?_;obtain⟨hr,I7⟩:=HE;subst hr;exact jG s3 H3 fp _ σ6 H6 s7 I3 f3 I7 qn
  ·refine dc (T.item (jQ X N scope cl s3.heap.objs.size s3 H3 fp (X.pn++ao)) rfl rfl rfl hc i [] s6 σ6 H6 _ I6 (uf Io) Ut go) λr s7 HF=>?_;obtain⟨u,hr,h7⟩:=HF;subst hr;refine dc h7 λ_ s8 HH=>?_;obtain⟨x,H8,I8,r8,y8,OC,Fw⟩:=HH;have Zu:=I8.pinned (uf Fw) (T.obj _ _ OC);refine dc (hg _ _ _ _ _ _ s8 σ6 H8 x u _ Zu r8 (step x H8 y8)) λ_ s9 HG=>?_;obtain⟨σ9,H9,I9,q9⟩:=HG;refine dc (ht _ _ _ _ _ _ s9 σ9 H9 _ I9 q9) λok s10 A9=>?_;obtain⟨Nc,Uu,Ce⟩:=A9
   have again:∀ {σ7:L2.St} {H7:Hp} {wA:Shared},Inv (jQ X N scope cl s3.heap.objs.size s3 H3 fp (X.pn++ao)) ([]++ue fp s8.heap) σ7 H7 wA->Nx σ7 H7->∃ m,m<n/\∃ i σ' H',Inv (jQ X N scope cl s3.heap.objs.size s3 H3 fp (X.pn++ao)) [] σ' H' wA/\tn i wA.heap/\(∀ b∈fp,H' b=none)/\W i m σ' H':=λ{σ7 H7 wA} I7 n7=>by
    obtain⟨m',hm,w7⟩:=hN σ7 H7 n7;refine⟨m',hm,i+1,σ7,H7,I7.pB,T.keep _ _ _ OC λb hb o e=>(I7.pin (b,o) (pA _ (pA _ (gX hb e)))).1,λb hb=>?_,w7⟩;obtain⟨o,e,d⟩:=T.obj _ _ OC b hb;exact (I7.pin (b,o) (pA _ (pA _ (gX hb e)))).2.1
   cases ok with
   | false =>
    rw[if_neg nY]at Ce;exact again Uu Ce
   | true =>
    rw[if_pos rfl]at Ce;refine dc (he _ _ _ _ _ _ s10 σ9 Nc _ Uu Ce) λv wA Fb=>?_;obtain⟨y,H11,I11,r11,xs,hx,hz,n11⟩:=Fb;refine dc (bQ _ wA σ9 H11 (.ref s2.heap.objs.size) [y] (.ref s2.heap.objs.size) [v] (λ_ H'=>Nx σ9 H') I11 rfl (.cons r11 .nil) ⟨_,xs,y,V,hx,hz,n11⟩) λ_ jI Dk=>?_;obtain⟨_,Zv,I12,_,VY⟩:=Dk;exact again I12 VY
 exact codeAny_compStart_list (loop _ rfl) (T.self _ _ _ _ _ ZC (loop _ rfl))
theorem OI{iter:Expr}{wi:TI}{g:TG}{tt:TT}{te:TE}(cs:Cr X N scope cl jx)(hc:X.calm=true)(hi:PI X tg iter wi)
  (hg:∀ C s₀ H₀ ex pn,PG (jQ X N scope cl C s₀ H₀ ex pn) tg g) (ht:∀ C s₀ H₀ ex pn,LR (jQ X N scope cl C s₀ H₀ ex pn) j4 tt) (he:∀ C s₀ H₀ ex pn,PE (jQ X N scope cl C s₀ H₀ ex pn) kK te)
  (hs:∀ x,foldedSetIterable iter X.env x=pure x:=by intro _;rfl):PE X (.ListComp kK [⟨tg,iter,j4,0⟩] scope pos) (wY jx wi g tt te):=by
 intro ao s σ H Q I h;rw[eval_ListComp];refine Cs (use:=none) cs hc hi hg ht he hs I h λs3 H3 fp acc σ6 H6 s7 I3 f3 I7 qn=>?_;obtain⟨m,hm,_⟩:=I7.loc;exact⟨m,hm,λh' R0=>⟨.ref acc,H6,wX I3 (wW I3 f3 I7) I7.free R0,rfl,qn⟩⟩
theorem Sb{iter:Expr}{OJ:Pos}{wi:TI}{g:TG}{tt:TT}{te:TE}{i:Nat}{x:Str}(cs:Cr X N scope cl jx)(hc:X.calm=true)(hN:X.N.Nodup)(hix:X.N[i]?=some x)(hx:X.env.scope.names.lookup x=some .local)(hi:PI X tg iter wi)
  (hg:∀ C s₀ H₀ ex pn,PG (jQ X N scope cl C s₀ H₀ ex pn) tg g) (ht:∀ C s₀ H₀ ex pn,LR (jQ X N scope cl C s₀ H₀ ex pn) j4 tt) (he:∀ C s₀ H₀ ex pn,PE (jQ X N scope cl C s₀ H₀ ex pn) kK te)
  (hsw:swapsWith (.ListComp kK [⟨tg,iter,j4,0⟩] scope pos) (some (.Name x iV)) OJ.line X.env=pure true:=by rfl)
  (hs:∀ x,foldedSetIterable iter X.env x=pure x:=by intro _;rfl):PS X (.Assign [.Name x iV] (.ListComp kK [⟨tg,iter,j4,0⟩] scope pos) OJ) (NF (wY jx wi g tt te) (tN i)):=by
 intro ao s σ H D I h;rw[exec_Assign_Name_used _ _ _ _ hsw];refine wpAny_bind (wpAny_standAt (wpAny_bind ?_));show wpAny _ X.A (do let _ ← comprehension (.ListComp kK [⟨tg,iter,j4,0⟩] scope pos) scope X.env _ (newList []) false (eval iter X.env) (some (assign (.Name x iV) X.env))) _ _ s;have h':wY jx wi g tt te σ H (λv H'=>tN i v σ H' D.nx):=h;refine wpAny_bind (dc (Cs (use:=some (assign (.Name x iV) X.env)) (Q':=λ_ s'=>∃ σ' H',Inv X ao σ' H' s'/\D.nx σ' H') cs hc hi hg ht he hs I h' λs3 H3 fp acc σ6 H6 s7 I3 f3 I7 qn=>?_) λ_ s' q=>?_)
 ·have I4:=wW I3 f3 I7;obtain⟨m,hm,_⟩:=I7.loc;refine wpAny_assign_Name (BV I4 hN hix (.inl hx) (v:=.ref acc) rfl (λs8 I8 ⟨a,R0,ha⟩=>?_) (.inr hx))
  have na:s3.heap.objs.size≠a:=by
   rcases ha with rfl|ha
   ·exact Nat.ne_of_gt I3.lt
   ·intro z;obtain⟨v,o,ho,_⟩:=I3.cell x a ha;exact absurd (Heap.lt_size ho) (by rw[z];exact Nat.lt_irrefl _)
  refine⟨m,hm.at' λo e=>R0.extBut _ o na e,λh' hs'=>⟨_,H6,wX I3 I8 I7.free hs',qn⟩⟩
 ·exact wpAny_pure (wpAny_pure q)
theorem gF{K:Frag}{a:Addr}{xs:List V}{g:TG}{tt:TT}{te:TE}{σ0:L2.St}{H:Hp}{Q:VK}(Pv:Nat->L2.St->Hp->Prop)(h0:Pv 0 σ0 H)(hl:∀ i σ H,i<=xs.length->Pv i σ H->bI K H a xs)
  (hs:∀ i x σ H,xs[i]?=some x->Pv i σ H->g x σ H fun σ2 H2=>tt σ2 H2 λb H3=>if b=true then te σ2 H3 λv H4=>∃ ys,H4 acc=some (.lst ys)/\ys.length<sizeLine/\Pv (i+1) σ2 (aN H4 acc (.lst (ys++[v]))) else Pv (i+1) σ2 H3)
  (hd:∀ σ H,Pv xs.length σ H->Q (.ref acc) H):yZ (QU K a) acc g tt te σ0 H Q:=by
 refine⟨λi m σ H=>m=xs.length-i/\i<=xs.length/\Pv i σ H,⟨xs.length,by simp,Nat.zero_le _,h0⟩,?_⟩;rintro i m σ H ⟨rfl,hi,p⟩;have q:=hl i σ H hi p;by_cases tO:i<xs.length
 ·refine .inr ⟨⟨xs,xs[i],q,by simp[tO]⟩,Pv (i+1),fun σ' H' p'=>⟨xs.length-(i+1),Q,rfl,tO,p'⟩,λx H' y=>?_⟩;obtain⟨e,y⟩:=y;subst e;exact hs i x σ _ (y xs q) p
 ·have e:i=xs.length:=by lia
  subst e;exact .inl ⟨⟨xs,q,fF _⟩,hd σ H p⟩
theorem rM{lo:Int}{k:Nat}{g:TG}{tt:TT}{te:TE}{σ0:L2.St}{H:Hp}{Q:VK}(Pv:Nat->L2.St->Hp->Prop)(h0:Pv 0 σ0 H)
  (hs:∀ i σ H,i<k->Pv i σ H->g (.int (lo+i)) σ H fun σ2 H2=>tt σ2 H2 λb H3=>if b=true then te σ2 H3 λv H4=>∃ ys,H4 acc=some (.lst ys)/\ys.length<sizeLine/\Pv (i+1) σ2 (aN H4 acc (.lst (ys++[v]))) else Pv (i+1) σ2 H3)
  (hd:∀ σ H,Pv k σ H->Q (.ref acc) H):yZ (Vu lo k) acc g tt te σ0 H Q:=by
 refine⟨λi m σ H=>m=k-i/\i<=k/\Pv i σ H,⟨k,by simp,Nat.zero_le _,h0⟩,?_⟩;rintro i m σ H ⟨rfl,hi,p⟩;by_cases tO:i<k
 ·refine .inr ⟨tO,Pv (i+1),fun σ' H' p'=>⟨k-(i+1),Q,rfl,tO,p'⟩,λx H' y=>?_⟩;obtain⟨e,y⟩:=y;subst e y;exact hs i σ _ tO p
 ·have e:i=k:=by lia
  subst e;exact .inl ⟨Nat.le_refl _,hd σ H p⟩
end
section
variable {X:Cx} {N:List Str} {scope:Scope} {cl:List (Str × Addr)} {C:Addr} {s₀:Shared} {H₀:Hp} {ex:List Addr} {pn:List (Addr × Obj)}
theorem y9{es:List Expr}{k:Nat}{t:Vp}{n:Nat}(hc:X.calm=true)(h:YI (jQ X N scope cl C s₀ H₀ ex pn) es t)
  (hn:(assignEach es (jQ X N scope cl C s₀ H₀ ex pn).env).length=n:=by rfl) (Dl:(assignEach es (jQ X N scope cl C s₀ H₀ ex pn).env).findIdx? (·.1)=none:=by rfl):PG (jQ X N scope cl C s₀ H₀ ex pn) (.Tuple es k pos) (Vr X.K n t):=m7 (X:=jQ X N scope cl C s₀ H₀ ex pn) hc h hn Dl
theorem OL{l:Expr}{tl:TE}(hl:PE (jQ X N scope cl C s₀ H₀ ex pn) l tl):PI (jQ X N scope cl C s₀ H₀ ex pn) tg l (Ui X.K tl):=cF hl
theorem KD:XX (jQ X N scope cl C s₀ H₀ ex pn) (Y5 X.K):=aX
theorem Iv:ug (jQ X N scope cl C s₀ H₀ ex pn) (compareOp .NotIn) (rIn X.K true):=vo
end
theorem DL{X:Cx}:j7 X (.type "range") (λxs H Q=>∃ j:Int,xs=[.int j]/\∀ p,H p=none->Q (.ref p) (aN H p (.E5 0 j))):=by
 intro ao s σ H xs us Q I r h;obtain⟨j,rfl,q⟩:=h;obtain⟨u1,rfl,⟨t,rfl⟩⟩:=r.one;refine call_range_1 ⟨.ref s.heap.objs.size,_,I.laid (o:=.E5 0 j) (λb o e=>Heap.get?_push_of_some _ e) (fF _) ⟨K,Heap.get?_push_size _ rfl⟩,rfl,q _ (I.hok.fresh (fF _))⟩
theorem wZ{scope:Scope}{env:Env}(h:∀ p∈scope.names,p.2=.free->∃ c,env.cells.lookup p.1=some c) :
  ∃ cl,closureFor scope env=pure cl/\(∀ x c,cl.lookup x=some c->env.cells.lookup x=some c)/\(∀ p∈scope.names,p.2=.free->∃ c,cl.lookup p.1=some c):=by
 unfold closureFor
 have key:∀ (l:List (Str × NameKind)) (cs:List (Str × Addr)),(∀ p∈l,p.2=.free->∃ c,env.cells.lookup p.1=some c)->(∀ x c,cs.lookup x=some c->env.cells.lookup x=some c)->
   ∃ cl,(forIn l cs (λp r=>if (p.2 == NameKind.free)=true then do let c ← cellOf env p.1;pure (ForInStep.yield ((p.1,c)::r)) else pure (ForInStep.yield r)):Sem (List (Str × Addr)))=pure cl/\(∀ x c,cl.lookup x=some c->env.cells.lookup x=some c)/\(∀ p∈l,p.2=.free->∃ c,cl.lookup p.1=some c)/\(∀ x c,cs.lookup x=some c->∃ c,cl.lookup x=some c):=by
  intro l
  induction l with
  | nil=>intro cs _ Ro;exact⟨cs,rfl,Ro,(λp hp=>by cases hp),λx c e=>⟨c,e⟩⟩
  | cons p l ih =>
   intro cs hl Ro;rw[List.forIn_cons];by_cases hp:p.2=.free
   ·obtain⟨c,hc⟩:=hl p List.mem_cons_self hp;have e1:(p.2 == NameKind.free)=true:=by rw[hp];rfl
    have e2:cellOf env p.1=pure c:=by
     unfold cellOf;rw[hc]
    rw[if_pos e1,e2];simp only[pure_bind]
    obtain⟨cl,h1,h2,h3,h4⟩:=ih ((p.1,c)::cs) (λq hq=>hl q (mO _ hq)) (λx d e=>by
     rw[List.lookup_cons]at e
     cases hx:x == p.1 with
     | true =>
      rw[hx]at e;cases e;rw[eq_of_beq hx];exact hc
     | false =>
      rw[hx]at e
      exact Ro x d e)
    refine⟨cl,h1,h2,λq hq hf=>?_,λx d e=>?_⟩
    ·rcases List.mem_cons.mp hq with rfl|hq
     ·exact h4 q.1 c (by rw[List.lookup_cons];simp)
     ·exact h3 q hq hf
    ·cases hx:x == p.1 with
     | true=>exact h4 x c (by rw[List.lookup_cons,hx])
     | false=>exact h4 x d (by rw[List.lookup_cons,hx];exact e)
   ·have e1:¬ (p.2 == NameKind.free)=true:=λz=>hp (eq_of_beq z);rw[if_neg e1];simp only[pure_bind];obtain⟨cl,h1,h2,h3,h4⟩:=ih cs (λq hq=>hl q (mO _ hq)) Ro;refine⟨cl,h1,h2,λq hq hf=>?_,h4⟩;rcases List.mem_cons.mp hq with rfl|hq
    ·exact absurd hf hp
    ·exact h3 q hq hf
 obtain⟨cl,h1,h2,h3,_⟩:=key scope.names [] h (λx c e=>by cases e);refine⟨cl,?_,h2,h3⟩;rw[← h1];simp only[bind_pure]
theorem nE{env:Env}:∀ {names:List (Str × NameKind)} {x:Str} {k:NameKind},names.lookup x=some k->
  (names.map λ(n,k)=>if (k == NameKind.free&&env.scope.kind == .function&&env.kindOf n == some .cell) then (n,NameKind.cell) else (n,k)).lookup x=some (if (k == NameKind.free&&env.scope.kind == .function&&env.kindOf x == some .cell) then NameKind.cell else k)
 | [],_,_,h=>by cases h
 | (n,k')::r,x,k,h=>by
  rw[jJ];by_cases hx:(x == n)=true
  ·have e:x=n:=eq_of_beq hx;subst e;rw[List.lookup_cons,hx]at h;cases h;by_cases hc:(k' == NameKind.free&&env.scope.kind == .function&&env.kindOf x == some .cell)=true
   ·show List.lookup x ((if (k' == NameKind.free&&env.scope.kind == .function&&env.kindOf x == some .cell)=true then (x,NameKind.cell) else (x,k'))::_)=_;rw[if_pos hc,if_pos hc,List.lookup_cons,hx]
   ·show List.lookup x ((if (k' == NameKind.free&&env.scope.kind == .function&&env.kindOf x == some .cell)=true then (x,NameKind.cell) else (x,k'))::_)=_;rw[if_neg hc,if_neg hc,List.lookup_cons,hx]
  ·have hf:(x == n)=false:=by simpa using hx
   rw[List.lookup_cons,hf]at h;have ih:=nE (env:=env) h;show List.lookup x ((if (k' == NameKind.free&&env.scope.kind == .function&&env.kindOf n == some .cell)=true then (n,NameKind.cell) else (n,k'))::_)=_;by_cases hc:(k' == NameKind.free&&env.scope.kind == .function&&env.kindOf n == some .cell)=true
   ·rw[if_pos hc,List.lookup_cons,hf];exact ih
   ·rw[if_neg hc,List.lookup_cons,hf];exact ih
theorem lZ{env:Env}:∀ {names:List (Str × NameKind)} {x:Str},names.lookup x=none->
  (names.map λ(n,k)=>if (k == NameKind.free&&env.scope.kind == .function&&env.kindOf n == some .cell) then (n,NameKind.cell) else (n,k)).lookup x=none
 | [],_,_=>rfl
 | (n,k')::r,x,h=>by
  rw[jJ]
  have hf:(x == n)=false:=by
   cases hx:x == n with
   | false=>rfl
   | true=>rw[List.lookup_cons,hx]at h;cases h
  rw[List.lookup_cons,hf]at h;have ih:=lZ (env:=env) h;show List.lookup x ((if (k' == NameKind.free&&env.scope.kind == .function&&env.kindOf n == some .cell)=true then (n,NameKind.cell) else (n,k'))::_)=_;by_cases hc:(k' == NameKind.free&&env.scope.kind == .function&&env.kindOf n == some .cell)=true
  ·rw[if_pos hc,List.lookup_cons,hf];exact ih
  ·rw[if_neg hc,List.lookup_cons,hf];exact ih
structure Ct(X:Cx)(N:List Str)(scope:Scope)(jx:List (Option Nat)):Prop where
 kind:scope.kind=.function
 cell:∀ x∈scope.names,x.2≠.cell
 names:∀ x∈scope.names,x.2=.local->scope.names.lookup x.1=some .local
 xk:X.env.scope.kind=.function
 fr:∀ x∈scope.names,x.2=.free->X.env.scope.names.lookup x.1=some .cell
 len:jx.length=N.length
 free:∀ (i j:Nat) (x:Str),jx[i]?=some (some j)->N[i]?=some x->X.N[j]?=some x/\scope.names.lookup x=some .free
def OM(NX N:List Str)(scope:Scope)(jx:List (Option Nat)):Bool:=(jx.zip N).all λp=>match p.1 with
 | none=>true
 | some j=>decide (NX[j]?=some p.2)&&decide (scope.names.lookup p.2=some .free)
theorem om{X:Cx}{N NX:List Str}{scope sc:Scope}{jx:List (Option Nat)}(e1:X.env.scope=sc)(e2:X.N=NX)(k:scope.kind=.function)(h1:∀ x∈scope.names,x.2≠.cell)(h2:∀ x∈scope.names,x.2=.local->scope.names.lookup x.1=some .local)
  (h3:sc.kind=.function) (h4:∀ x∈scope.names,x.2=.free->sc.names.lookup x.1=some .cell) (h5:jx.length=N.length) (h6:OM NX N scope jx=true):Ct X N scope jx:=by
 refine⟨k,h1,h2,by rw[e1];exact h3,by rw[e1];exact h4,h5,λi j x a b=>?_⟩;rw[e2];unfold OM at h6;rw[List.all_eq_true]at h6;have z:=h6 (some j,x) (oF (i:=i) (by rw[List.getElem?_zip_eq_some];exact⟨a,b⟩));simp only[Bool.and_eq_true,decide_eq_true_eq]at z;exact z
section
variable {X:Cx} {N:List Str} {scope:Scope} {jx:List (Option Nat)}
theorem Ct.toF{σ:L2.St}{H:Hp}{s:Shared}(cg:Ct X N scope jx)(I:Inv X ao σ H s):∃ cl,Cr X N scope cl jx:=by
 obtain⟨cl,h1,h2,h3⟩:=wZ (scope:=scope) (env:=X.env) λp hp hf=>I.ok.has p.1 (.inl (cg.fr p hp hf))
 have yb:∀ x,scope.names.lookup x=some .free->(relabel scope X.env).names.lookup x=some .cell:=λx hx=>by
  have z:=nE (env:=X.env) hx
  have c:(NameKind.free == NameKind.free&&X.env.scope.kind == .function&&X.env.kindOf x == some .cell)=true:=by
   have q:X.env.kindOf x=some .cell:=cg.fr (x,.free) (PySem.mem_of_lookup hx) rfl;rw[cg.xk,q];rfl
  rw[if_pos c]at z;exact z
 refine⟨cl,cg.kind,cg.cell,cg.names,h1,h2,λx hx=>?_,cg.len,λi j x a b=>?_⟩
 ·cases e:scope.names.lookup x with
  | none =>
   have z:(relabel scope X.env).names.lookup x=none:=lZ (env:=X.env) e;rw[z]at hx
   rcases hx with q|q <;> cases q
  | some k =>
   by_cases hk:k=.free
   ·subst hk;exact h3 (x,.free) (PySem.mem_of_lookup e) rfl
   ·have z:(relabel scope X.env).names.lookup x=some (if (k == NameKind.free&&X.env.scope.kind == .function&&X.env.kindOf x == some .cell) then NameKind.cell else k):=nE (env:=X.env) e
    have c:(k == NameKind.free)=false:=by
     cases q:k == NameKind.free with
     | false=>rfl
     | true=>exact absurd (eq_of_beq q) hk
    rw[c]at z;simp only[Bool.false_and,Bool.false_eq_true,if_false]at z;rw[z]at hx;rcases hx with q|q
    ·cases q;exact absurd rfl (cg.cell (x,.cell) (PySem.mem_of_lookup e))
    ·cases q;exact absurd rfl hk
 ·obtain⟨f1,f2⟩:=cg.free i j x a b;exact⟨f1,cg.fr (x,.free) (PySem.mem_of_lookup f2) rfl,yb x f2⟩
theorem gH{iter:Expr}{wi:TI}{g:TG}{tt:TT}{te:TE}(cg:Ct X N scope jx)(hc:X.calm=true)(hi:PI X tg iter wi)
  (hg:∀ cl C s₀ H₀ ex pn,PG (jQ X N scope cl C s₀ H₀ ex pn) tg g) (ht:∀ cl C s₀ H₀ ex pn,LR (jQ X N scope cl C s₀ H₀ ex pn) j4 tt) (he:∀ cl C s₀ H₀ ex pn,PE (jQ X N scope cl C s₀ H₀ ex pn) kK te)
  (hs:∀ x,foldedSetIterable iter X.env x=pure x:=by intro _;rfl):PE X (.ListComp kK [⟨tg,iter,j4,0⟩] scope pos) (wY jx wi g tt te):=by
 intro ao s σ H Q I h;obtain⟨cl,cs⟩:=cg.toF I;exact OI cs hc hi (hg cl) (ht cl) (he cl) hs ao s σ H Q I h
theorem Sd{iter:Expr}{OJ:Pos}{wi:TI}{g:TG}{tt:TT}{te:TE}{i:Nat}{x:Str}(cg:Ct X N scope jx)(hc:X.calm=true)(hN:X.N.Nodup)(hix:X.N[i]?=some x)(hx:X.env.scope.names.lookup x=some .local)(hi:PI X tg iter wi)
  (hg:∀ cl C s₀ H₀ ex pn,PG (jQ X N scope cl C s₀ H₀ ex pn) tg g) (ht:∀ cl C s₀ H₀ ex pn,LR (jQ X N scope cl C s₀ H₀ ex pn) j4 tt) (he:∀ cl C s₀ H₀ ex pn,PE (jQ X N scope cl C s₀ H₀ ex pn) kK te)
  (hsw:swapsWith (.ListComp kK [⟨tg,iter,j4,0⟩] scope pos) (some (.Name x iV)) OJ.line X.env=pure true:=by rfl)
  (hs:∀ x,foldedSetIterable iter X.env x=pure x:=by intro _;rfl):PS X (.Assign [.Name x iV] (.ListComp kK [⟨tg,iter,j4,0⟩] scope pos) OJ) (NF (wY jx wi g tt te) (tN i)):=by
 intro ao s σ H D I h;obtain⟨cl,cs⟩:=cg.toF I;exact Sb cs hc hN hix hx hi (hg cl) (ht cl) (he cl) hsw hs ao s σ H D I h
end
end cZ
namespace cZ
open Spec Rows L2
section
variable {X:Cx} {N:List Str} {scope:Scope} {cl:List (Str × Addr)} {jx:List (Option Nat)}
def FJ(J:It)(acc:Addr)(g:TG)(tt:TT)(Il:TI)(g2:TG)(Im:TT)(te:TE)(σ0:L2.St)(H:Hp)(Q:VK):Prop :=
 ∃ W:Nat->Nat->L2.St->Hp->Prop,(∃ m,W 0 m σ0 H)/\∀ i m σ H,W i m σ H->
  (J.stop i H/\Q (.ref acc) H)\/(J.go i H/\∃ Nx:L2.St->Hp->Prop,(∀ σ' H',Nx σ' H'->∃ m',m'<m/\W (i+1) m' σ' H')/\∀ x H',J.QT i H x H'->g x σ H' fun σ2 H2=>tt σ2 H2 λb H3 =>
   if b=true then Ik Il acc g2 Im te σ2 H3 Nx else Nx σ2 H3)
def KG(jx:List (Option Nat))(wi:TI)(g:TG)(tt:TT)(Il:TI)(g2:TG)(Im:TT)(te:TE):TE:=fun σ H Q=>wi σ H λJ H1=>∀ acc,H1 acc=none->FJ J acc g tt Il g2 Im te (uL jx σ) (aN H1 acc (.lst [])) Q
theorem Iw{iter:Expr}{wi Il:TI}{g g2:TG}{tt Im:TT}{te:TE}(cs:Cr X N scope cl jx)(hc:X.calm=true)(hi:PI X tg iter wi)
  (hg:∀ C s₀ H₀ ex pn,PG (jQ X N scope cl C s₀ H₀ ex pn) tg g) (ht:∀ C s₀ H₀ ex pn,LR (jQ X N scope cl C s₀ H₀ ex pn) j4 tt) (X3:∀ C s₀ H₀ ex pn,PI (jQ X N scope cl C s₀ H₀ ex pn) qT d8 Il) (hg2:∀ C s₀ H₀ ex pn,PG (jQ X N scope cl C s₀ H₀ ex pn) qT g2) (Iz:∀ C s₀ H₀ ex pn,LR (jQ X N scope cl C s₀ H₀ ex pn) jv Im) (he:∀ C s₀ H₀ ex pn,PE (jQ X N scope cl C s₀ H₀ ex pn) kK te)
  (hs:∀ x,foldedSetIterable iter X.env x=pure x) (Lv:∀ (env:Env) x,foldedSetIterable d8 env x=pure x) {use:Option (Value->Sem Unit)} {Q':Value->Shared->Prop} {Q:VK} {ao:List (Addr × Obj)} {s:Shared} {σ:L2.St} {H:Hp} (I:Inv X ao σ H s) (h:KG jx wi g tt Il g2 Im te σ H Q)
  (jG:∀ (s3:Shared) (H3:Hp) (fp:List Addr) (acc:Addr) (σ6:L2.St) (H6:Hp) (s7:Shared),Inv X ao σ H3 s3->(∀ b∈fp,qP X ao H3 b)->Inv (jQ X N scope cl s3.heap.objs.size s3 H3 fp (X.pn++ao)) [] σ6 H6 s7->Q (.ref acc) H6->
   compPost (model X.prog X.w) X.A X.xe use Q' (.ref acc) s3.heap.objs.size (.ok .next) s7) :
  wpAny (model X.prog X.w) X.A (comprehension (.ListComp kK [⟨tg,iter,j4,0⟩,⟨qT,d8,jv,0⟩] scope pos) scope X.env iV (newList []) false (eval iter X.env) use) Q' X.xe s:=by
 refine wpAny_comprehension_free (use:=use) rfl hs cs.clos cs.kind cs.names (dc (hi ao s σ H _ I h) λv s1 h1=>dc h1 λYL s2 h2=>?_);obtain⟨it,fp,tn,J,H2,e,I2,T,st2,f2,q⟩:=h2;subst e;refine wpAny_newObj_type (hd:=by size_fits) ?_;have cR:H2 s2.heap.objs.size=none:=I2.hok.fresh (fF _);have I3:Inv X ao σ (aN H2 s2.heap.objs.size (.lst [])) { s2 with heap:=s2.heap.push { cls:=.type "list",data:=.seq ([]:List Value).toArray },toks:=s2.toks }:=I2.Rq (ys:=[]) .nil (Nat.zero_le _)
 have Zz:∀ b∈fp,b<s2.heap.objs.size:=λb hb=>by
  obtain⟨o,ho,_⟩:=T.obj _ _ st2 b hb;exact Heap.lt_size ho
 have f3:∀ b∈fp,qP X ao (aN H2 s2.heap.objs.size (.lst [])) b:=λb hb=>⟨by rw[aK (j3 (Zz b hb))];exact (f2 b hb).1,(f2 b hb).2⟩;have k3:∀ b o,s2.heap.get? b=some o->(s2.heap.push { cls:=.type "list",data:=.seq ([]:List Value).toArray }).get? b=some o:=λb o e=>Heap.get?_push_of_some _ e;have q3:=q _ cR;generalize hs3:({ s2 with heap:=s2.heap.push { cls:=.type "list",data:=.seq ([]:List Value).toArray },toks:=s2.toks }:Shared)=s3 at I3;generalize hH3:aN H2 s2.heap.objs.size (.lst [])=H3 at I3 f3 q3;have ZA:s3.heap=s2.heap.push { cls:=.type "list",data:=.seq ([]:List Value).toArray }:=by rw[← hs3]
 have KC:∀ b∈fp,b<s3.heap.objs.size:=λb hb=>by rw[ZA,Heap.size_push];exact Nat.lt_succ_of_lt (Zz b hb)
 have st3:tn 0 s3.heap:=T.keep _ _ _ st2 λb _ o e=>by rw[ZA];exact k3 b o e
 show wpAny _ _ _ _ _ s3;refine wpAny_newFunctionEnv cs.cell (λy hy=>by simp at hy) (λh₁ Nb R0=>?_) cs.kind;have kh:∀ b o,s3.heap.get? b=some o->h₁.get? b=some o:=λb o e=>R0.extBut _ _ (j3 (Heap.lt_size e)) (Heap.get?_push_of_some _ e);have J0:Inv (jQ X N scope cl s3.heap.objs.size s3 H3 fp (X.pn++ao)) [] (uL jx σ) H3 { s3 with heap:=h₁,toks:=s3.toks+([]:List (Str × Value)).length }:=yc cs I3 f3 KC Nb kh;have ZC:tn 0 h₁:=T.keep _ _ _ st3 λb _ o e=>kh b o e;obtain⟨W,⟨m0,w0⟩,pT⟩:=q3
 have uf:∀ {H':Hp},(∀ b∈fp,H' b=none)->∀ b∈fp,qP (jQ X N scope cl s3.heap.objs.size s3 H3 fp (X.pn++ao)) [] H' b:=λhn b hb=>by
  refine⟨hn b hb,j3 (KC b hb),λz=>?_,.inl hb,λx c e=>(f3 b hb).2.2.2.2.1 x c (cs.sub x c e),λp hp=>?_⟩
  ·rcases List.mem_cons.mp (I3.wD b z) with e|e
   ·exact (f3 b hb).2.1 e
   ·exact (f3 b hb).2.2.1 e
  ·have Nf:p∈X.pn++ao:=by
    have z:p∈(X.pn++ao)++[]:=hp;simpa using z
   exact (f3 b hb).2.2.2.2.2 p Nf
 have loop:∀ s5:Shared,s5={ s3 with heap:=h₁,toks:=s3.toks+([]:List (Str × Value)).length }->codeAny (model X.prog X.w) X.A (.compLoop (.ListComp kK [⟨tg,iter,j4,0⟩,⟨qT,d8,jv,0⟩] scope pos) 0 (.ref it) (.ref s2.heap.objs.size) (jQ X N scope cl s3.heap.objs.size s3 H3 fp (X.pn++ao)).env)
   (compPost (model X.prog X.w) X.A X.xe use Q' (.ref s2.heap.objs.size) s3.heap.objs.size) s5:=by
  rintro s5 rfl;refine RP (λn s'=>∃ i σ' H',Inv (jQ X N scope cl s3.heap.objs.size s3 H3 fp (X.pn++ao)) [] σ' H' s'/\tn i s'.heap/\(∀ b∈fp,H' b=none)/\W i n σ' H') (Lv _) ?_ m0 ⟨0,_,H3,J0,ZC,λb hb=>(f3 b hb).1,w0⟩;rintro n s6 ⟨i,σ6,H6,I6,Ut,Io,w6⟩;rcases pT i n σ6 H6 w6 with ⟨stop,qn⟩|⟨go,Nx,hN,step⟩
  ·refine dc (T.done (jQ X N scope cl s3.heap.objs.size s3 H3 fp (X.pn++ao)) rfl rfl rfl hc i [] s6 σ6 H6 _ I6 (uf Io) Ut stop) λr s7 HE=>?_;obtain⟨hr,I7⟩:=HE;subst hr;exact jG s3 H3 fp _ σ6 H6 s7 I3 f3 I7 qn
  ·refine dc (T.item (jQ X N scope cl s3.heap.objs.size s3 H3 fp (X.pn++ao)) rfl rfl rfl hc i [] s6 σ6 H6 _ I6 (uf Io) Ut go) λr s7 HF=>?_;obtain⟨u,hr,h7⟩:=HF;subst hr;refine dc h7 λ_ s8 HH=>?_;obtain⟨x,H8,I8,r8,y8,OC,Fw⟩:=HH;have Zu:=I8.pinned (uf Fw) (T.obj _ _ OC);refine dc (hg _ _ _ _ _ _ s8 σ6 H8 x u _ Zu r8 (step x H8 y8)) λ_ s9 HG=>?_;obtain⟨σ9,H9,I9,q9⟩:=HG;refine dc (ht _ _ _ _ _ _ s9 σ9 H9 _ I9 q9) λok s10 A9=>?_;obtain⟨Nc,Uu,Ce⟩:=A9
   have again:∀ {σ7:L2.St} {H7:Hp} {wA:Shared},Inv (jQ X N scope cl s3.heap.objs.size s3 H3 fp (X.pn++ao)) ([]++ue fp s8.heap) σ7 H7 wA->Nx σ7 H7->∃ m,m<n/\∃ i σ' H',Inv (jQ X N scope cl s3.heap.objs.size s3 H3 fp (X.pn++ao)) [] σ' H' wA/\tn i wA.heap/\(∀ b∈fp,H' b=none)/\W i m σ' H':=λ{σ7 H7 wA} I7 n7=>by
    obtain⟨m',hm,w7⟩:=hN σ7 H7 n7;refine⟨m',hm,i+1,σ7,H7,I7.pB,T.keep _ _ _ OC λb hb o e=>(I7.pin (b,o) (pA _ (pA _ (gX hb e)))).1,λb hb=>?_,w7⟩;obtain⟨o,e,d⟩:=T.obj _ _ OC b hb;exact (I7.pin (b,o) (pA _ (pA _ (gX hb e)))).2.1
   cases ok with
   | false =>
    rw[if_neg nY]at Ce;exact again Uu Ce
   | true =>
    rw[if_pos rfl]at Ce;refine dc (LS (Y:=jQ X N scope cl s3.heap.objs.size s3 H3 fp (X.pn++ao)) hc rfl (X3 _ _ _ _ _) (hg2 _ _ _ _ _) (Iz _ _ _ _ _) (he _ _ _ _ _) Uu Ce) λx wA h11=>dc h11 λZs jI Ur=>codeAny_mono Ur λr w9 ⟨hr,σ',H',I13,n13⟩=>⟨hr,again I13 n13⟩
 exact codeAny_compStart_list (loop _ rfl) (T.self _ _ _ _ _ ZC (loop _ rfl))
theorem LZ{iter:Expr}{pos:Pos}{wi Il:TI}{g g2:TG}{tt Im:TT}{te:TE}(cg:Ct X N scope jx)(hc:X.calm=true)(hi:PI X tg iter wi)
  (hg:∀ cl C s₀ H₀ ex pn,PG (jQ X N scope cl C s₀ H₀ ex pn) tg g) (ht:∀ cl C s₀ H₀ ex pn,LR (jQ X N scope cl C s₀ H₀ ex pn) j4 tt)
  (X3:∀ cl C s₀ H₀ ex pn,PI (jQ X N scope cl C s₀ H₀ ex pn) qT d8 Il) (hg2:∀ cl C s₀ H₀ ex pn,PG (jQ X N scope cl C s₀ H₀ ex pn) qT g2) (Iz:∀ cl C s₀ H₀ ex pn,LR (jQ X N scope cl C s₀ H₀ ex pn) jv Im) (he:∀ cl C s₀ H₀ ex pn,PE (jQ X N scope cl C s₀ H₀ ex pn) kK te)
  (hs:∀ x,foldedSetIterable iter X.env x=pure x:=by intro _;rfl) (Lv:∀ (env:Env) x,foldedSetIterable d8 env x=pure x:=by intro _ _;rfl) :
  PE X (.ListComp kK [⟨tg,iter,j4,0⟩,⟨qT,d8,jv,0⟩] scope pos) (KG jx wi g tt Il g2 Im te):=by
 intro ao s σ H Q I h;obtain⟨cl,cs⟩:=cg.toF I;rw[eval_ListComp];refine Iw (use:=none) cs hc hi (hg cl) (ht cl) (X3 cl) (hg2 cl) (Iz cl) (he cl) hs Lv I h λs3 H3 fp acc σ6 H6 s7 I3 f3 I7 qn=>?_;obtain⟨m,hm,_⟩:=I7.loc;exact⟨m,hm,λh' R0=>⟨.ref acc,H6,wX I3 (wW I3 f3 I7) I7.free R0,rfl,qn⟩⟩
theorem FL{K:Frag}{a:Addr}{xs:List V}{g:TG}{tt:TT}{Il:TI}{g2:TG}{Im:TT}{te:TE}{σ0:L2.St}{H:Hp}{Q:VK}(Pv:Nat->L2.St->Hp->Prop)(h0:Pv 0 σ0 H)(hl:∀ i σ H,i<=xs.length->Pv i σ H->bI K H a xs)
  (hs:∀ i x σ H,xs[i]?=some x->Pv i σ H->g x σ H fun σ2 H2=>tt σ2 H2 λb H3=>if b=true then Ik Il acc g2 Im te σ2 H3 (Pv (i+1)) else Pv (i+1) σ2 H3)
  (hd:∀ σ H,Pv xs.length σ H->Q (.ref acc) H):FJ (QU K a) acc g tt Il g2 Im te σ0 H Q:=by
 refine⟨λi m σ H=>m=xs.length-i/\i<=xs.length/\Pv i σ H,⟨xs.length,by simp,Nat.zero_le _,h0⟩,?_⟩;rintro i m σ H ⟨rfl,hi,p⟩;have q:=hl i σ H hi p;by_cases tO:i<xs.length
 ·refine .inr ⟨⟨xs,xs[i],q,by simp[tO]⟩,Pv (i+1),fun σ' H' p'=>⟨xs.length-(i+1),Q,rfl,tO,p'⟩,λx H' y=>?_⟩;obtain⟨e,y⟩:=y;subst e;exact hs i x σ _ (y xs q) p
 ·have e:i=xs.length:=by lia
  subst e;exact .inl ⟨⟨xs,q,fF _⟩,hd σ H p⟩
theorem IA{K:Frag}{a:Addr}{xs:List V}{g:TG}{tt:TT}{te:TE}{σ:L2.St}{H:Hp}{Nx:L2.St->Hp->Prop}(Pv:Nat->L2.St->Hp->Prop)(h0:Pv 0 σ H)(hl:∀ i σ H,i<=xs.length->Pv i σ H->bI K H a xs)
  (hs:∀ i x σ H,xs[i]?=some x->Pv i σ H->g x σ H fun σ2 H2=>tt σ2 H2 λb H3=>if b=true then te σ2 H3 λv H4=>∃ ys,H4 acc=some (.lst ys)/\ys.length<sizeLine/\Pv (i+1) σ2 (aN H4 acc (.lst (ys++[v]))) else Pv (i+1) σ2 H3)
  (hd:∀ σ H,Pv xs.length σ H->Nx σ H):∃ W:Nat->Nat->L2.St->Hp->Prop,(∃ m,W 0 m σ H)/\∀ i m σ H,W i m σ H->
  ((QU K a).stop i H/\Nx σ H)\/((QU K a).go i H/\∃ N2:L2.St->Hp->Prop,(∀ σ' H',N2 σ' H'->∃ m',m'<m/\W (i+1) m' σ' H')/\∀ x H',(QU K a).QT i H x H'->g x σ H' fun σ2 H2=>tt σ2 H2 λb H3 =>
   if b=true then te σ2 H3 λv H4=>∃ xs,H4 acc=some (.lst xs)/\xs.length<sizeLine/\N2 σ2 (aN H4 acc (.lst (xs++[v]))) else N2 σ2 H3):=by
 refine⟨λi m σ H=>m=xs.length-i/\i<=xs.length/\Pv i σ H,⟨xs.length,by simp,Nat.zero_le _,h0⟩,?_⟩;rintro i m σ H ⟨rfl,hi,p⟩;have q:=hl i σ H hi p;by_cases tO:i<xs.length
 ·refine .inr ⟨⟨xs,xs[i],q,by simp[tO]⟩,Pv (i+1),fun σ' H' p'=>⟨xs.length-(i+1),Q,rfl,tO,p'⟩,λx H' y=>?_⟩;obtain⟨e,y⟩:=y;subst e;exact hs i x σ _ (y xs q) p
 ·have e:i=xs.length:=by lia
  subst e;exact .inl ⟨⟨xs,q,fF _⟩,hd σ H p⟩
end
end cZ
namespace cZ
open Spec Rows L2
open AutoSeq1 (wpAny_loadPart')
section
variable {prog:Program} {w:World} {A:Around} {E:Value->Shared->Prop} {s:Shared} {κ:Type} [DecidableEq κ] {knd:KeyKind prog w κ}
theorem L0{d:Addr}{Q:Bool->Shared->Prop}(hT:s.TypeIs (.ref d) "dict")(h:Q false s):wpAny (model prog w) A (Builtin.List.listLengthHint (.ref d)) Q E s:=by
 unfold Builtin.List.listLengthHint;refine wpAny_bind (wpAny_specialOf hT F.slot_dict_len.lookup ?_);generalize hid:("dict.__len__":String)=id0
 wp_delta
 rw[show splitId id0=some ("dict","__len__") by subst hid;decide +kernel];subst hid;refine wpAny_bind (wpAny_isInstance (T:="dict") (b:=true) hT (by rw[isSubtype_type];kernel_rfl) ?_);refine wpAny_ite_split (λq=>absurd q (by decide)) λ_=>?_;refine wpAny_ite_split (λ_=>?_) λq=>absurd nofun q;exact wpAny_bind (wpAny_typeOf hT (wpAny_pure h))
theorem FN{R:Result->Shared->Prop}{d:Addr}{kvs:List (κ × Value)}{ep:Nat}(hh:A.handled=none)(hs:(d == sysModules)=false)(hd:s.heap.DictAt knd d kvs ep)(dI:kvs.length<=sizeLine)(S:Addr)(res:Value)(c₀:Nat)(hS:s.heap.get? S=some { cls:=.type "list",data:=.seq #[] c₀ })
  (hR:∀ h' tk qQ c',(∀ b o,b≠S->s.heap.get? b=some o->h'.get? b=some o)->h'.get? S=some { cls:=.type "list",dict:=none,data:=.seq qQ c',slots:=#[] }->
   ItemsOf (λi v=>∃ k x,kvs[i]?=some (k,x)/\knd.is k v=true) qQ kvs.length->R (.ok (.ret res)) { s with heap:=h',toks:=tk }) :
  wpAny (model prog w) A.in1 (Builtin.List.listExtendWith (.ref S) (.ref d) res)
   (λjG s'=>match jG with|.done f=>R (.ok f) s'|.again c'=>c'.quiet=true/\codeAny (model prog w) A c' R s') (λe s'=>R (.error e) s') s:=by
 have hT:s.TypeIs (.ref d) "dict":=by
  obtain⟨o,es,ho,hx,_⟩:=hd;exact⟨o,ho,hx.1⟩
 have hSd:S≠d:=λe=>by
  obtain⟨o,es,ho,hx,hda,_⟩:=hd;rw[← e,hS]at ho;cases ho;cases hda
 have adH:S<s.heap.objs.size:=Heap.lt_size hS
 have adI:d<s.heap.objs.size:=by
  obtain⟨o,es,ho,_⟩:=hd;exact Heap.lt_size ho
 have hSI:S≠s.heap.objs.size:=j3 adH;have hdI:d≠s.heap.objs.size:=j3 adI;have W:=(Walks.dictKeys (prog:=prog) (w:=w) (A:=A.in1) (knd:=knd) hh s.heap.objs.size d hdI kvs ep).toS;unfold Builtin.List.listExtendWith;refine wpAny_bind (wpAny_typeOf hT ?_);have h1:Builtin.List.listSameRef (.ref S) (.ref d)=false:=by simp[Builtin.List.listSameRef,hSd]
 have h2:(Value.type "dict" == Value.type "list")=false:=by decide
 have h3:(Value.type "dict" == Value.type "tuple")=false:=by decide
 simp only[h1,h2,h3,Bool.or_false,Bool.false_eq_true,if_false];refine wpAny_bind (wpAny_pyIter_dict hs hd ?_);have rL:(s.heap.push { cls:=.type "dict_keyiterator",data:=.fields #[.ref d,.int 0 0,.int kvs.length 0,.int ep 0] }).IsKeyIter s.heap.objs.size d 0 kvs.length ep:=⟨_,Heap.get?_push_size _ rfl,V⟩;have iQ:∀ b o,s.heap.get? b=some o->(s.heap.push { cls:=.type "dict_keyiterator",data:=.fields #[.ref d,.int 0 0,.int kvs.length 0,.int ep 0] }).get? b=some o:=λb o e=>Heap.get?_push_of_some _ e;generalize s.heap.push { cls:=.type "dict_keyiterator",data:=.fields #[.ref d,.int 0 0,.int kvs.length 0,.int ep 0] }=g1 at rL iQ
 have hT1:({ s with heap:=g1 }:Shared).TypeIs (.ref d) "dict":=by
  obtain⟨o,ho,hc⟩:=hT;exact⟨o,iQ _ _ ho,hc⟩
 refine wpAny_bind (wpAny_holding (L0 hT1 ?_));refine wpAny_ite_split (λ_=>?_) λq=>absurd nofun q;refine wpAny_bind (wpAny_rule (wpAny_bind ?_));show wpAny _ A.in1 (updateSeq S (λz=>z.push .none) >>= λ_=>updateSeq S λz=>z.pop) _ _ _;have g1S:=iQ _ _ hS;refine wpAny_bind (wpAny_updateSeq g1S rfl ?_);have g2S:=Heap.get?_update_self (Obj.mapSeq λz=>z.push Value.none) g1S rfl;refine wpAny_updateSeq (hz:=by seq_fits) g2S rfl ?_;have g3S:=Heap.get?_update_self (Obj.mapSeq λz=>z.pop) g2S rfl
 have Ng:∀ b o,b≠S->g1.get? b=some o->((g1.update S (Obj.mapSeq λz=>z.push Value.none)).update S (Obj.mapSeq λz=>z.pop)).get? b=some o:=λb o nb e =>
  (Heap.get?_update_other _ _ nb.symm).trans ((Heap.get?_update_other _ _ nb.symm).trans e)
 refine wpAny_pure ⟨plainId_quiet F.plain_extend_loop _,codeAny_extend_loopS W dI S (λhm=>?_) res kvs.length 0 _ #[] _ rfl (Nat.zero_le _) ⟨rL.at λo e=>Ng _ o hSI.symm e,(hd.at' λo e=>Ng _ o hSd.symm (iQ _ o e))⟩ g3S (ItemsOf.nil _) λs' qQ c' hm hS' cR=>?_⟩
 ·rcases List.mem_cons.mp hm with e|e
  ·exact hSI e
  ·exact hSd (List.mem_singleton.mp e)
 ·rw[Moved.eq_with hm];refine hR s'.heap s'.toks qQ c' (λb o nb e=>hm.heap b o (λq=>?_) (Ng b o nb (iQ b o e))) hS' cR;rcases List.mem_cons.mp q with z|z
  ·exact nb z
  ·exact absurd (Heap.lt_size e) (by rw[List.mem_singleton.mp z];exact Nat.lt_irrefl _)
theorem zW{Q:Value->Shared->Prop}{d:Addr}{kvs:List (κ × Value)}{ep:Nat}(hh:A.handled=none)(hs:(d == sysModules)=false)(hd:s.heap.DictAt knd d kvs ep)(dI:kvs.length<=sizeLine)
  (hQ:∀ h' tk qQ c',(∀ b o,s.heap.get? b=some o->h'.get? b=some o)->h'.get? s.heap.objs.size=some { cls:=.type "list",dict:=none,data:=.seq qQ c',slots:=#[] }->
   ItemsOf (λi v=>∃ k x,kvs[i]?=some (k,x)/\knd.is k v=true) qQ kvs.length->Q (.ref s.heap.objs.size) { s with heap:=h',toks:=tk }) :
  wpAny (model prog w) A (call (.type "list") [.ref d]) Q E s:=by
 refine callType_codes (Q₁:=λu s1=>u=.ref s.heap.objs.size/\s1={ s with heap:=s.heap.push { cls:=.type "list",data:=.seq #[] } }) F.called_list (F.typeCall_list_1 _) F.entry_list_init (code_list_new _ ⟨V⟩) λu s1 e1=>?_;obtain⟨rfl,rfl⟩:=e1;have hS:(s.heap.push { cls:=.type "list",data:=.seq #[] }).get? s.heap.objs.size=some { cls:=.type "list",data:=.seq #[] }:=Heap.get?_push_size _ rfl;have L4:(s.heap.push { cls:=.type "list",data:=.seq #[] }).DictAt knd d kvs ep:=hd.at' λo e=>Heap.get?_push_of_some _ e
 have Uy:d≠s.heap.objs.size:=by
  obtain⟨o,es,ho,_⟩:=hd;exact j3 (Heap.lt_size ho)
 exists ⟨_,hS,rfl⟩,F.args_list_init_2 _ _;show wpAny _ _ (do let old ← Builtin.List.listItems (.ref s.heap.objs.size);Builtin.List.listUpdate (.ref s.heap.objs.size) (λ_=>#[]);letGo old.toList.reverse;Builtin.List.listExtendWith (.ref s.heap.objs.size) (.ref d) .none) _ _ _;refine wpAny_bind ?_;unfold Builtin.List.listItems;refine wpAny_bind (wpAny_seqItems hS rfl (wpAny_pure ?_));show wpAny _ _ (updateSeq s.heap.objs.size (λ_=>#[]) >>= λ_=>letGo (#[]:Array Value).toList.reverse >>= λ_=>Builtin.List.listExtendWith (.ref s.heap.objs.size) (.ref d) .none) _ _ _;refine wpAny_bind (wpAny_updateSeq hS rfl ?_);have Wi:=Heap.get?_update_self (Obj.mapSeq λ_=>(#[]:Array Value)) hS rfl;have Ng:∀ b o,b≠s.heap.objs.size->(s.heap.push { cls:=.type "list",data:=.seq #[] }).get? b=some o->((s.heap.push { cls:=.type "list",data:=.seq #[] }).update s.heap.objs.size (Obj.mapSeq λ_=>(#[]:Array Value))).get? b=some o:=λb o nb e=>(Heap.get?_update_other _ _ nb.symm).trans e;refine wpAny_bind (wpAny_letGo ?_);refine FN (A:=A.in1) (knd:=knd) hh hs (L4.at' λo e=>Ng _ o Uy e) dI s.heap.objs.size .none _ Wi λh' tk qQ c' hk hS' cR=>?_;exact⟨rfl,hQ h' tk qQ c' (λb o e=>hk b o (j3 (Heap.lt_size e)) (Ng b o (j3 (Heap.lt_size e)) (Heap.get?_push_of_some _ e))) hS' cR⟩
end
theorem IB{X:Cx}(hc:X.calm=true):j7 X (.type "list") (λxs H Q=>∃ (d:Addr) (kvs:List (fk × V)),xs=[.ref d]/\H d=some (.dK kvs)/\∀ l,H l=none->Q (.ref l) (aN H l (.lst (kvs.map λp=>kV p.1)))):=by
 intro ao s σ H xs us Q I r h;obtain⟨d,kvs,rfl,hd,q⟩:=h;obtain⟨u,rfl,rx⟩:=r.one;cases (show u=Value.ref d from rx);obtain⟨hz,hs,vs,kv,o,es,ep,ho,hx⟩:=(show fX X.prog X.w H s.heap d (.dK kvs) from I.hok d _ hd);have len:=kv.length;refine zW (I.ok.hd hc) hs ⟨o,es,ho,hx⟩ ∅ λh' tk qQ c' hk hS cR=>?_;refine⟨.ref s.heap.objs.size,_,I.laid (o:=.lst (kvs.map λp=>kV p.1)) (t':=tk) hk (fF _) ⟨by rw[cy];exact hz,qQ.toList,c',?_,by simpa using hS⟩,rfl,q _ (I.hok.fresh (fF _))⟩
 have key:∀ (kvs:List (fk × V)) (vs:List (fk × Value)) (us:List Value),KV kvs vs->us.length=vs.length->(∀ (j:Nat) (v:Value),us[j]?=some v->∃ k x,vs[j]?=some (k,x)/\zh k v=true)->cC (kvs.map λp=>kV p.1) us:=by
  intro kvs
  induction kvs with
  | nil =>
   intro vs us kv hl _;cases kv
   cases us with
   | nil=>exact .nil
   | cons=>simp at hl
  | cons p r ih =>
   intro vs us kv hl hp
   cases kv with
   | @cons _ q _ DM h1 h2 =>
   cases us with
   | nil=>simp at hl
   | cons u us =>
    obtain⟨k,x,e1,e2⟩:=hp 0 u rfl;have e3:q=(k,x):=by simpa using e1
    subst e3;refine .cons ?_ (ih DM us h2 (by simpa using hl) λj v e=>?_)
    ·show L2.RelV (kV p.1) u;rw[show p.1=k from h1.1];rcases fC e2 with ⟨i,t,rfl,rfl⟩|⟨i,t,rfl,rfl⟩
     ·exact⟨t,rfl⟩
     ·exact⟨t,rfl⟩
    ·obtain⟨k',x',e4,e5⟩:=hp (j+1) v (by simpa using e);exact⟨k',x',by simpa using e4,e5⟩
 exact key kvs vs qQ.toList kv (by simpa using cR.1) λj v e=>cR.2 j v (by simpa using e)
end cZ
namespace zX
open Spec Rows L2 cZ gA
end zX
namespace gA
open Spec Rows L2 cZ fG zX
inductive bS{α β:Type}(R:α->β->Prop):List α->List β->Prop
 | nil:bS R [] []
 | cons {a:α} {b:β} {as:List α} {bs:List β}:R a b->bS R as bs->bS R (a::as) (b::bs)
section
variable {α β:Type} {R R':α->β->Prop} {as:List α} {bs:List β} {a:α} {b:β}
theorem bS.len{as:List α}{bs:List β}(h:bS R as bs):as.length=bs.length:=by
 induction h with
 | nil=>rfl
 | cons _ _ ih=>rw[eY,eY,ih]
theorem bS.get:∀ {as:List α} {bs:List β} {i:Nat},bS R as bs->as[i]?=some a->∃ b,bs[i]?=some b/\R a b
 | _,_,_,.nil,h=>by simp at h
 | _,_,0,.cons r _,h=>by simp at h;subst h;exact⟨Y,r⟩
 | _,_,i+1,.cons _ t,h=>by simp at h;simpa using t.get h
theorem bS.get':∀ {as:List α} {bs:List β} {i:Nat},bS R as bs->bs[i]?=some b->∃ a,as[i]?=some a/\R a b
 | _,_,_,.nil,h=>by simp at h
 | _,_,0,.cons r _,h=>by simp at h;subst h;exact⟨Y,r⟩
 | _,_,i+1,.cons _ t,h=>by simp at h;simpa using t.get' h
theorem bS.snoc{as:List α}{bs:List β}(t:bS R as bs)(h:R a b):bS R (as++[a]) (bs++[b]):=by
 induction t with
 | nil=>exact .cons h .nil
 | cons r _ ih=>exact .cons r ih
theorem bS.mono{as:List α}{bs:List β}(h:∀ a b,R a b->R' a b)(t:bS R as bs):bS R' as bs:=by
 induction t with
 | nil=>exact .nil
 | cons r _ ih=>exact .cons (h _ _ r) ih
theorem bS.set:∀ {as:List α} {bs:List β} (i:Nat),bS R as bs->R a b->bS R (as.set i a) (bs.set i b)
 | _,_,_,.nil,_=>.nil
 | _,_,0,.cons _ t,h=>.cons h t
 | _,_,i+1,.cons r t,h=>.cons r (t.set i h)
theorem bS.split:∀ {as:List α} {bs:List β},bS R as (bs++[b])->∃ ON a,as=ON++[a]/\bS R ON bs/\R a b
 | _,[],.cons r .nil=>⟨[],Y,.nil,r⟩
 | _,c::bs,.cons r t=>by
  obtain⟨ON,a,rfl,t',r'⟩:=t.split;exact⟨_::ON,a,rfl,.cons r t',r'⟩
end
inductive aP where
 | win (n:Int)
 | aL (a b:Int)
def zY:aP->List V
 | .win n=>[.str "win",.int n]
 | .aL a b=>[.str "ink",.int a,.int b]
def cI(H:Hp)(v:V)(it:aP):Prop:=∃ a,v=.ref a/\H a=some (.tup (zY it))
theorem cI.same{H H':Hp}{v:V}{it:aP}(s:aI H H'):cI H v it->cI H' v it:=λ⟨a,e,h⟩=>⟨a,e,s _ _ h⟩
theorem cI.keep{H H':Hp}{v:V}{it:aP}{q:Addr}{xs:List V}(hq:H q=some (.lst xs))(k:cD q H H'):cI H v it->cI H' v it:=λ⟨a,e,h⟩=>⟨a,e,k a _ h (by
 intro z;rw[z,hq]at h
 cases h)⟩
def bH(H:Hp)(v:V)(aM:List aP):Prop:=∃ a vs,v=.ref a/\H a=some (.lst vs)/\bS (cI H) vs aM
theorem bH.same{H H':Hp}{v:V}{aM:List aP}(s:aI H H'):bH H v aM->bH H' v aM:=λ⟨a,vs,e,h,t⟩=>⟨a,vs,e,s _ _ h,t.mono λ_ _=>cI.same s⟩
def fZ(H:Hp)(r:Addr)(rows:List (List aP)):Prop:=∃ vs,H r=some (.lst vs)/\bS (bH H) vs rows
theorem fZ.same{H H':Hp}{r:Addr}{rows:List (List aP)}(s:aI H H'):fZ H r rows->fZ H' r rows:=λ⟨vs,h,t⟩=>⟨vs,s _ _ h,t.mono λ_ _=>bH.same s⟩
theorem cI.eqv{H:Hp}{x y:V}{it:aP}(n:Nat)(h1:cI H x it)(h2:cI H y it):Eqv H (n+2) x y:=by
 obtain⟨a,rfl,e1⟩:=h1;obtain⟨b,rfl,e2⟩:=h2;refine .inr ⟨false,a,b,Z,e1,e2,rfl,λi u v eu ev=>?_⟩;rw[eu]at ev;cases ev
 cases it with
 | win n =>
  match i,eu with
  | 0,e=>cases e;exact .inl ⟨V⟩
  | 1,e=>cases e;exact .inl ⟨V⟩
  | k+2,e=>simp[zY]at e
 | aL p q =>
  match i,eu with
  | 0,e=>cases e;exact .inl ⟨V⟩
  | 1,e=>cases e;exact .inl ⟨V⟩
  | 2,e=>cases e;exact .inl ⟨V⟩
  | k+3,e=>simp[zY]at e
theorem bH.eqv{H:Hp}{x y:V}{aM:List aP}(n:Nat)(h1:bH H x aM)(h2:bH H y aM):Eqv H (n+3) x y:=by
 obtain⟨a,vs,rfl,e1,t1⟩:=h1;obtain⟨b,us,rfl,e2,t2⟩:=h2;refine .inr ⟨true,a,b,Z,e1,e2,by rw[t1.len,t2.len],λi u v eu ev=>?_⟩;obtain⟨z,ez,r1⟩:=t1.get eu;obtain⟨z',ez',r2⟩:=t2.get ev;rw[ez]at ez';cases ez';exact r1.eqv n r2
def bh(t:List aP)(e:Int):List aP :=
 if e<0 then t++[.win (-1-e)] else
 match t.getLast? with
 | some (.aL a b)=>if b=e then t.dropLast++[.aL a (e+1)] else t++[.aL e (e+1)]
 | _=>t++[.aL e (e+1)]
def aF(es:List Int):List aP:=es.foldl bh []
def eZ(aM:List aP):List Int:=aM.filterMap λit=>match it with|.win n=>some n|.aL _ _=>none
def dO(es:List Int):List Int:=es.filterMap λe=>if e<0 then some (-1-e) else none
theorem gm(a b:List aP):eZ (a++b)=eZ a++eZ b:=by unfold eZ;rw[List.filterMap_append]
theorem L7(t:List aP)(e:Int):eZ (bh t e)=eZ t++(if e<0 then [-1-e] else []):=by
 unfold bh;by_cases h:e<0
 ·rw[if_pos h,if_pos h,gm];rfl
 ·rw[if_neg h,if_neg h,gP];rcases mZ t with rfl|⟨t',l,rfl⟩
  ·rfl
  ·rw[kM,nU]
   cases l with
   | win n=>simp[gm,eZ]
   | aL a b =>
    show eZ (if b=e then (t'++[aP.aL a b]).dropLast++[.aL a (e+1)] else (t'++[aP.aL a b])++[.aL e (e+1)])=_;by_cases hb:b=e
    ·rw[if_pos hb,List.dropLast_concat,gm,gm];rfl
    ·rw[if_neg hb,gm,gm];simp[eZ]
theorem Ma(es:List Int):∀ t:List aP,eZ (es.foldl bh t)=eZ t++dO es:=by
 induction es with
 | nil=>intro t;simp[dO]
 | cons e es ih =>
  intro t;rw[kO,ih,L7,nV];unfold dO;rw[List.filterMap_cons];by_cases h:e<0
  ·simp[h]
  ·simp[h]
theorem iE(es:List Int):eZ (aF es)=dO es:=by
 unfold aF;rw[Ma];rfl
theorem bT{es:List Int}{y:Int}:y∈dO es↔0<=y/\-1-y∈es:=by
 unfold dO;rw[List.mem_filterMap];constructor
 ·rintro⟨e,he,h⟩;by_cases h0:e<0
  ·rw[if_pos h0]at h;cases h;exact⟨Q,by rw[show -1-(-1-e)=e by lia];exact he⟩
  ·rw[if_neg h0]at h;cases h
 ·rintro⟨h0,h1⟩;exists -1-y,h1;rw[if_pos ∅];congr 1;lia
theorem pH(es:List Int):∀ t:List aP,(es.foldl bh t).length<=t.length+es.length:=by
 induction es with
 | nil=>intro t;simp
 | cons e es ih =>
  intro t;rw[kO];have z:=ih (bh t e)
  have z2:(bh t e).length<=t.length+1:=by
   unfold bh;split
   ·simp
   ·split
    ·split
     ·rw[cY,List.length_dropLast,gM];lia
     ·simp
    ·simp
  rw[eY];lia
def j0(rows:cU)(x y:Int):Prop:=0<=x/\∃ es,rows[x.toNat]?=some es/\y∈dO es
inductive Reach(E:Int->Int->Prop)(s:Int):Int->Prop
 | one {y:Int}:E s y->Reach E s y
 | step {y z:Int}:Reach E s y->E y z->Reach E s z
theorem Reach.closed{E:Int->Int->Prop}{s:Int}{S:Int->Prop}(h0:∀ y,E s y->S y)(h1:∀ x y,S x->E x y->S y):∀ {g:Int},Reach E s g->S g
 | _,.one h=>h0 _ h
 | _,.step r h=>h1 _ _ (Reach.closed h0 h1 r) h
def gp(rows:cU):Prop:=∀ es∈rows,∀ y∈dO es,y<rows.length
theorem gp.EY{rows:cU}(h:gp rows){x y:Int}(e:j0 rows x y):0<=y/\y<rows.length:=by
 obtain⟨_,es,he,hy⟩:=e;exact⟨(bT.mp hy).1,h es (oF he) y hy⟩
def cnt(n:Nat)(p:Nat->Bool):Nat:=((List.range n).filter p).length
theorem OO(n:Nat){p q:Nat->Bool}(h:∀ i,i<n->p i=q i):cnt n p=cnt n q:=by
 unfold cnt;rw[List.filter_congr λi hi=>h i (List.mem_range.mp hi)]
theorem vD(n:Nat)(p:Nat->Bool):cnt (n+1) p=cnt n p+(if p n=true then 1 else 0):=by
 unfold cnt;rw[List.range_succ,List.filter_append,cY];congr 1;by_cases h:p n=true
 ·rw[if_pos h];simp[h]
 ·rw[if_neg h];simp[h]
theorem vE(j:Nat):∀ (n:Nat) {p q:Nat->Bool},j<n->p j=true->(∀ i,q i=(p i&&decide (i≠j)))->cnt n q+1=cnt n p
 | 0,_,_,h,_,_=>by lia
 | n+1,p,q,h,hj,hq=>by
  rw[vD,vD];by_cases e:j=n
  ·subst e
   have z:cnt j q=cnt j p:=OO j λi hi=>by
    rw[hq i];have:decide (i≠j)=true:=by simp;lia
    rw[this,Bool.and_true]
   have z2:q j=false:=by rw[hq j];simp
   rw[z,z2,if_pos hj];simp
  ·have ih:=vE j n (p:=p) (q:=q) ∅ hj hq
   have z:q n=p n:=by
    rw[hq n];have:decide (n≠j)=true:=by simp;lia
    rw[this,Bool.and_true]
   rw[z];lia
theorem zZ(n:Nat)(p:Nat->Bool):cnt n p<=n:=by
 unfold cnt;have:=List.length_filter_le p (List.range n);rw[List.length_range]at this;exact this
def fH(av:Addr->Prop)(H:Hp)(v:V)(es:List Int):Prop:=∃ a,v=.ref a/\¬ av a/\H a=some (.lst (es.map V.int))
def ig(av:Addr->Prop)(H:Hp)(r:Addr)(rows:cU):Prop:=∃ vs,H r=some (.lst vs)/\bS (fH av H) vs rows
theorem fH.keep{av:Addr->Prop}{H H':Hp}{v:V}{es:List Int}(k:∀ a o,¬ av a->H a=some o->H' a=some o):fH av H v es->fH av H' v es:=λ⟨a,e,n,h⟩=>⟨a,e,n,k a _ n h⟩
theorem ig.same{av:Addr->Prop}{H H':Hp}{r:Addr}{rows:cU}(s:aI H H'):ig av H r rows->ig av H' r rows:=λ⟨vs,h,t⟩=>⟨vs,s _ _ h,t.mono λ_ _=>fH.keep λa o _ e=>s a o e⟩
theorem ig.get{av:Addr->Prop}{H:Hp}{r:Addr}{rows:cU}{i:Nat}{es:List Int}(h:ig av H r rows)(e:rows[i]?=some es):∃ vs a,H r=some (.lst vs)/\vs[i]?=some (.ref a)/\H a=some (.lst (es.map V.int))/\vs.length=rows.length:=by
 obtain⟨vs,hr,t⟩:=h;obtain⟨v,ev,a,rfl,_,ha⟩:=t.get' e;exact⟨vs,a,hr,ev,ha,t.len⟩
theorem DN(x:Int)(xs:List Int):inV (.int x) (xs.map V.int)=decide (x∈xs):=by
 unfold inV
 induction xs with
 | nil=>rfl
 | cons y ys ih =>
  rw[jJ,List.any_cons,ih];show ((y == x) || decide (x∈ys))=_;by_cases h:y=x
  ·simp[h]
  ·have h2:¬ x=y:=λz=>h z.symm;simp[h,h2]
theorem xg(xs:List Int):(xs.map V.int).all vj=true:=by
 rw[List.all_eq_true];intro v hv;obtain⟨i,_,rfl⟩:=List.mem_map.mp hv;rfl
def Cu(rows:cU):Prop:=∃ rk:Int->Nat,(∀ x,rk x<=40)/\∀ x y,j0 rows x y->rk y<rk x
theorem fH.at{av:Addr->Prop}{H:Hp}{v:V}{es:List Int}{q:Addr}(o:HO)(hq:av q):fH av H v es->fH av (aN H q o) v es:=fH.keep λa u n e=>by
 rw[aK (λz=>n (by rw[z];exact hq))];exact e
theorem fH.same{av:Addr->Prop}{H H':Hp}{v:V}{es:List Int}(s:aI H H'):fH av H v es->fH av H' v es:=fH.keep λa u _ e=>s a u e
def seen(kvs:List (fk × V))(x:Int):Prop:=(cJ kvs (Sum.inl x)).isSome=true
def oV(n:Nat)(kvs:List (fk × V)):Nat:=cnt n λi=>(cJ kvs (Sum.inl (i:Int))).isNone
theorem FO{kvs:List (fk × V)}{y x:Int}(v:V):seen (eT kvs (Sum.inl y) v) x↔x=y\/seen kvs x:=by
 unfold seen;rw[kZ];by_cases h:x=y
 ·rw[if_pos (by rw[h]),h];simp
 ·rw[if_neg (λz=>h (Sum.inl.inj z))];simp[h]
theorem FP{n:Nat}{kvs:List (fk × V)}{y:Int}(v:V)(h0:0<=y)(h1:y<n)(hn:cJ kvs (Sum.inl y)=none):oV n (eT kvs (Sum.inl y) v)+1=oV n kvs:=by
 refine vE y.toNat n ∅ ?_ λi=>?_
 ·show (cJ kvs (Sum.inl (y.toNat:Int))).isNone=true;rw[show ((y.toNat:Nat):Int)=y by lia,hn];rfl
 ·show (cJ (eT kvs (Sum.inl y) v) (Sum.inl (i:Int))).isNone=((cJ kvs (Sum.inl (i:Int))).isNone&&decide (i≠y.toNat));rw[kZ];by_cases h:(i:Int)=y
  ·rw[if_pos (by rw[h])];have:decide (i≠y.toNat)=false:=by simp;lia
   rw[this,Bool.and_false];rfl
  ·rw[if_neg (λz=>h (Sum.inl.inj z))];have:decide (i≠y.toNat)=true:=by simp;lia
   rw[this,Bool.and_true]
theorem KH(lo:Int)(n:Nat):(run lo n).length=n:=by
 induction n generalizing lo with
 | zero=>rfl
 | succ n ih=>rw[run,eY,ih]
theorem OP:∀ {n:Nat} {lo y:Int},y∈run lo n->lo<=y/\y<lo+n
 | 0,_,_,h=>by cases h
 | n+1,lo,y,h=>by
  rcases List.mem_cons.mp h with rfl|z
  ·lia
  ·have:=OP z;lia
theorem bS.new{H2:Hp}{q t:Addr}{vs:List V}{aM:List aP}{it:aP}{ys:List V}(dN:H2 q=some (.lst ys))(hb:bS (cI H2) vs aM)(ht:H2 t=none)(zs:List V) :
  bS (cI (aN (aN H2 t (.tup (zY it))) q (.lst zs))) (vs++[.ref t]) (aM++[it]):=by
 have OD:q≠t:=az dN ht;have s1:aI H2 (aN H2 t (.tup (zY it))):=ak ht _;refine bS.snoc (hb.mono λv i h=>(h.same s1).keep (s1 _ _ dN) (aG q _ _)) ⟨t,rfl,?_⟩;rw[aK OD.symm,af]
end gA
namespace Wj
open Spec Rows L2 cZ
section
variable {M:Model} {A:Around} {E:Value->Shared->Prop} {s:Shared}
theorem DO{a b:Value}{Q:Value->Shared->Prop}(ha:s.TypeIs a "list")(hb:s.TypeIs b "list")(hc:wpAny M A (call (.builtin "list.__iadd__") [a,b]) Q E s):wpAny M A (inplaceOp .Add a b) Q E s:=by
 unfold inplaceOp;refine wpAny_holding ?_;have hq:isSeqSlot (some (.builtin "list.__iadd__"))=true:=by decide +kernel
 have hfi:fillsInplaceSlot (.type "list") "add" (Operator.Add == .Add)=pure false:=by
  unfold fillsInplaceSlot;show (typeLookup (.type "list") (dunderI "add") >>= λfi=>pure (fi.isSome&&!isSeqSlot fi))=pure false;rw[PySem.F.slot_list_iadd.lookup,pure_bind,hq];rfl
 have hsi:seqSlot? (.type "list") (dunderI "add")=pure (some (.builtin "list.__iadd__")):=PySem.seqSlot_of PySem.F.slot_list_iadd.lookup hq;refine wpAny_bind (wpAny_typeOf ha (wpAny_bind (wpAny_of_eq hfi ?_)));show wpAny M A (if false=true then _ else _) Q E s;rw[if_neg nY];refine wpAny_bind (binaryOp1_none (nm:="add") ha hb PySem.noFill_list_add ?_);refine wpAny_bind (wpAny_of_eq hsi ?_);exact wpAny_bind (wpAny_rule hc)
end
section
variable {X:Cx}
def Uz:V->V->Hp->VK->Prop:=λx y H Q=>∃ l b xs zs,x=.ref l/\y=.ref b/\H l=some (.lst xs)/\H b=some (.lst zs)/\xs.length+zs.length<=sizeLine/\Q (.ref l) (aN H l (.lst (xs++zs)))
theorem uM:PIp X .Add Uz:=by
 intro ao s σ H x y v u Q I rx ry h;obtain⟨l,b,xs,zs,rfl,rfl,hH,hB,hz,q⟩:=h;cases rx;cases ry;obtain⟨z,aM,n,r,hl,e⟩:=I.zD hH;obtain⟨z2,its2,n2,r2,B4,e2⟩:=I.zD hB;have hsz:aM.toArray.size+its2.toArray.size<=sizeLine:=by rw[gS,gS];lia
 have Fg:¬ (!aM.toArray.isEmpty&&Builtin.List.listTooLong (aM.toArray.size+its2.toArray.size))=true:=by
  rw[zE hsz,Bool.and_false];exact nY
 refine DO ⟨_,e,rfl⟩ ⟨_,e2,rfl⟩ ?_;refine call_meets PySem.F.slot_list_iadd ⟨_,e,rfl⟩ PySem.F.entry_list_iadd (PySem.F.args_list_iadd_2 _ _) (AutoSeq1.list___iadd___list_list_0 l aM.toArray n b its2.toArray n2 Fg (by rw[gS];lia) ∅) ⟨e,e2,?_⟩;refine⟨.ref l,_,I.N6 (its':=aM++its2) hH e (by simp) (r.append r2) ?_,rfl,q⟩;rw[cY];lia
section
variable {N:List Str} {scope:Scope} {cl:List (Str × Addr)} {C:Addr} {s₀:Shared} {H₀:Hp} {ex:List Addr} {pn:List (Addr × Obj)}
theorem IC:j7 (jQ X N scope cl C s₀ H₀ ex pn) (.type "list") (Y8 X.K):=fY
end
theorem ID:YV X .Add Uz:=λao s σ H x y u v Q I rx ry h=>uM ao s σ H x y u v Q I rx ry h
end
theorem KJ{p q A B T:Prop} [Decidable p] [Decidable q] (w:p->(if decide q=true then A else B)->T) (h1:p/\q->A) (h2:¬ (p/\q)->B):if decide p=true then T else (if false=true then A else B):=by
 by_cases a:p
 ·rw[if_pos (decide_eq_true a)];by_cases b:q
  ·exact w a (by rw[if_pos (decide_eq_true b)];exact h1 ⟨a,b⟩)
  ·exact w a (by rw[decide_eq_false b,if_neg nY];exact h2 λz=>b z.2)
 ·rw[decide_eq_false a,if_neg nY,if_neg nY];exact h2 λz=>a z.1
theorem OQ{p q A B T:Prop} [Decidable p] [Decidable q] (w:(if decide q=true then A else B)->T) (h1:p/\q->A) (h2:¬ (p/\q)->B):if decide p=true then T else (if false=true then A else B):=KJ (λ_=>w) h1 h2
end Wj
namespace gA
open Spec Rows L2 cZ fG zX
def l6(r:Row):Prop:=∀ p∈r,0<=p.1/\p.1<=p.2
def jR(r:Row):Prop:=∀ p∈r,0<=p.1/\p.1<p.2
theorem Cv{t:Row}{s e:Int}(h:jR t)(h0:0<=s)(h1:s<e):jR (iQ t s e):=by
 have add:jR (t++[(s,e)]):=λp hp=>by
  rcases List.mem_append.mp hp with z|z
  ·exact h p z
  ·rw[List.mem_singleton.mp z];exact⟨h0,h1⟩
 unfold iQ;rcases mZ t with rfl|⟨t',l,rfl⟩
 ·exact add
 ·rw[kM]at h add ⊢;rw[nU];show jR (if l.2=s then (t'++[l]).dropLast++[(l.1,e)] else t'++[l]++[(s,e)]);by_cases c:l.2=s
  ·rw[if_pos c,List.dropLast_concat];intro p hp;rcases List.mem_append.mp hp with z|z
   ·exact h p (qM _ z)
   ·have:=h l (by simp);rw[List.mem_singleton.mp z];exact⟨this.1,by show l.1<e;lia⟩
  ·rw[if_neg c];exact add
theorem mR{r:Row}(h:l6 r):jR (b8 r):=by
 have z:∀ (r t:Row),l6 r->jR t->jR (r.foldl dM t):=by
  intro r
  induction r with
  | nil=>intro t _ g;exact g
  | cons p r ih =>
   intro t h g;rw[kO];refine ih _ (λq hq=>h q (mO _ hq)) ?_;unfold dM;have hp:=h p (by simp);by_cases c:p.1=p.2
   ·rw[if_pos c];exact g
   ·rw[if_neg c];exact Cv g hp.1 ∅
 exact z r [] h λp hp=>by cases hp
theorem Cw{ns:List Int}(h:∀ x∈ns,0<=x):jR (cP ns):=by
 have z:∀ (ns:List Int) (t:Row),(∀ x∈ns,0<=x)->jR t->jR (ns.foldl (λt n=>iQ t n (n+1)) t):=by
  intro ns
  induction ns with
  | nil=>intro t _ g;exact g
  | cons n ns ih =>
   intro t h g;rw[kO];exact ih _ (λx hx=>h x (mO _ hx)) (Cv g (h n (by simp)) ∅)
 exact z ns [] h λp hp=>by cases hp
theorem jR.nn{r:Row}(h:jR r):l6 r:=λp hp=>⟨(h p hp).1,by have:=(h p hp).2;lia⟩
theorem Aa(a b:Int):∀ (r:Row) (h:Int),l6 r->l6 (lI a b h r)
 | [],_,_=>λp hp=>by cases hp
 | q::r,h,g=>by
  intro p hp;rw[lI]at hp;rcases List.mem_append.mp hp with z|z
  ·have gq:=g q (by simp);refine⟨?_,OF a b h q p z⟩;unfold OE at z;split at z
   ·rw[List.mem_singleton.mp z];show 0<=q.1+max (a-h) 0;lia
   ·cases z
  ·exact Aa a b r _ (λx hx=>g x (mO _ hx)) p z
end gA
namespace Se
open Spec Rows L2 cZ
def Le(p q:Int × Int):Prop:=p.1<q.1\/(p.1=q.1/\p.2<=q.2)
instance (p q:Int × Int):Decidable (Le p q):=by unfold Le;infer_instance
def less(p q:Int × Int):Bool:=decide (¬ Le q p)
theorem Mb(t:Bool)(x y:Value):keyLt' (tuples' t) x y=(do
  let xs ← Builtin.List.listItems x
  let ys ← Builtin.List.listItems y
  for ((p,q),i) in (xs.toList.zip ys.toList).zipIdx do
   if !(← eqBool p q) then return ← oneLt' (t&&i == 0) p q
  return decide (xs.size<ys.size)):=rfl
theorem Cy{prog:Program}{w:World}{A:Around}{E:Value->Shared->Prop}{s:Shared}{a b:Int}{t u:Tok}{Q:Bool->Shared->Prop}(k:Bool)(h:Q (decide (a<b)) s):wpAny (model prog w) A (oneLt' k (.int a t) (.int b u)) Q E s:=by
 cases k with
 | true=>exact oneLt_int h
 | false =>
  rw[oneLt'_eq];simp only[Bool.false_eq_true,if_false];refine wpAny_bind ((PyProof.Rows.lt_int ?_:wpAny (model prog w) A (compareOp .Lt (.int a t) (.int b u)) _ E s));exact wpAny_truthy_bool h
def jS(h:Heap)(v:Value)(p:Int × Int):Prop:=∃ a t u,v=.ref a/\IsTup h a #[.int p.1 t,.int p.2 u]
theorem IE{prog:Program}{w:World}{A:Around}{E:Value->Shared->Prop}{s:Shared}{x y:Value}{p q:Int × Int}{Q:Bool->Shared->Prop}(hx:jS s.heap x p)(hy:jS s.heap y q)(h:Q (less p q) s):wpAny (model prog w) A (keyLt' (tuples' true) x y) Q E s:=by
 obtain⟨a,t1,t2,rfl,ha⟩:=hx;obtain⟨b,u1,u2,rfl,hb⟩:=hy;obtain⟨oa,ha1,ha2,na,ha3⟩:=id ha;obtain⟨ob,EZ,QY,nb,UA⟩:=id hb;rw[Mb];refine wpAny_bind (listItems_at ha1 ha3 ?_);refine wpAny_bind (listItems_at EZ UA ?_);have e:((#[Value.int p.1 t1,.int p.2 t2]:Array Value).toList.zip (#[Value.int q.1 u1,.int q.2 u2]:Array Value).toList).zipIdx=[((.int p.1 t1,.int q.1 u1),0),((.int p.2 t2,.int q.2 u2),1)]:=rfl;rw[e];simp only[List.forIn_cons,List.forIn_nil];refine wpAny_bind (wpAny_bind (wpAny_bind (SeqAt.EqAt.int_int p.1 t1 q.1 u1 prog w _ _ ?_)));by_cases c1:p.1=q.1
 ·have d1:(!p.1 == q.1)=false:=by simp[c1]
  rw[d1,if_neg nY];refine wpAny_pure (wpAny_bind (wpAny_bind (SeqAt.EqAt.int_int p.2 t2 q.2 u2 prog w _ _ ?_)));by_cases c2:p.2=q.2
  ·have d2:(!p.2 == q.2)=false:=by simp[c2]
   rw[d2,if_neg nY];refine wpAny_pure (wpAny_pure (wpAny_pure ?_));have:less p q=false:=by unfold less Le;simp[c1,c2]
   rw[this]at h;exact h
  ·have d2:(!p.2 == q.2)=true:=by simp[c2]
   rw[d2,if_pos rfl];refine wpAny_bind (Cy _ (wpAny_pure (wpAny_pure (wpAny_pure ?_))));have:less p q=decide (p.2<q.2):=by unfold less Le;simp[c1]
   rw[← this];exact h
 ·have d1:(!p.1 == q.1)=true:=by simp[c1]
  rw[d1,if_pos rfl];refine wpAny_bind (Cy _ (wpAny_pure (wpAny_pure (wpAny_pure ?_))))
  have:less p q=decide (p.1<q.1):=by
   unfold less Le;congr 1;apply propext;lia
  rw[← this];exact h
section
variable {prog:Program} {w:World} {A:Around} {E:Value->Shared->Prop} {s:Shared} {z:Array Keyed} {key:Value->Int × Int}
def kp(key:Value->Int × Int)(xs:Array Keyed)(i:Nat):Int × Int:=(xs[i]?.map λr=>key r.1).getD (0,0)
theorem UB{xs ys:Array Keyed}{i j:Nat}(h:xs[i]?=ys[j]?):kp key xs i=kp key ys j:=by unfold kp;rw[h]
def Up(key:Value->Int × Int)(xs:Array Keyed)(n:Nat):Prop:=∀ i j,i<=j->j<n->Le (kp key xs i) (kp key xs j)
def Dn(key:Value->Int × Int)(xs:Array Keyed)(n:Nat):Prop:=∀ i j,i<=j->j<n->Le (kp key xs j) (kp key xs i)
theorem Le.rfl'(p:Int × Int):Le p p:=.inr ⟨rfl,Int.le_refl _⟩
theorem Le.tr{p q r:Int × Int}(h:Le p q)(g:Le q r):Le p r:=by unfold Le at *;lia
theorem Le.anti{p q:Int × Int}(h:Le p q)(g:Le q p):p=q:=by
 unfold Le at *;exact Prod.ext ∅ ∅
theorem Le.Wk{p q:Int × Int}(h:¬ Le p q):Le q p:=by unfold Le at *;lia
theorem Wl{p q:Int × Int}(h:less p q=true):¬ Le q p:=of_decide_eq_true h
theorem Wm{p q:Int × Int}(h:less p q=false):Le q p:=by
 unfold less at h;exact Classical.byContradiction λc=>by rw[decide_eq_true c]at h;cases h
structure IF(z:Array Keyed)(st:SortSt):Prop where
 pm:(arrOf st).Perm z
 kd:kindOf st=tuples' true
 fl:failedOf st=none
 pd:pendingOf st=#[]
theorem IF.sz{st:SortSt}(b:IF z st):(arrOf st).size=z.size:=b.pm.size_eq
theorem IF.put{st:SortSt}(b:IF z st){xs:Array Keyed}(h:xs.Perm (arrOf st)):IF z (setArr st xs):=⟨h.trans b.pm,b.kd,b.fl,b.pd⟩
def X4(prog:Program)(w:World)(A:Around)(s:Shared)(key:Value->Int × Int)(z:Array Keyed):Prop :=
 ∀ r∈z.toList,∀ o∈z.toList,∀ (E:Value->Shared->Prop) (Q:Bool->Shared->Prop),Q (less (key r.1) (key o.1)) s->wpAny (model prog w) A (keyLt' (tuples' true) r.1 o.1) Q E s
theorem IF.get{st:SortSt}(b:IF z st){i:Nat}(hi:i<z.size):∃ r∈z.toList,(arrOf st)[i]?=some r/\kp key (arrOf st) i=key r.1:=by
 have X3:i<(arrOf st).size:=by rw[b.sz];exact hi
 exists (arrOf st)[i],(Array.perm_iff_toList_perm.mp b.pm).mem_iff.mp (by simp),getElem?_pos _ i X3;unfold kp;rw[getElem?_pos _ i X3];rfl
theorem cmp{st:SortSt}{i j:Nat}{Q:Option Bool->SortSt->Prop}(C:X4 prog w A s key z)(b:IF z st)(hi:i<z.size)(hj:j<z.size)
  (h:Q (some (less (kp key (arrOf st) i) (kp key (arrOf st) j))) st):wpS (model prog w) A E s (ltAt' i j) Q st:=by
 obtain⟨r,hr,e1,k1⟩:=b.get (key:=key) hi;obtain⟨o,ho,e2,k2⟩:=b.get (key:=key) hj;rw[k1,k2]at h;rw[ltAt'_eq];refine wpS_bind (wpS_get ?_);show wpS _ _ _ _ (do let u ← elem' (arrOf st) i;let v ← elem' (arrOf st) j;lt' u v) Q st;rw[elem'_eq,elem'_eq,e1,e2];refine wpS_bind (wpS_pure (wpS_bind (wpS_pure ?_)));rw[lt'_eq];refine wpS_bind (wpS_get ?_);rw[b.kd];refine wpS_bind (wpS_lift (wpAny_attempt (C r hr o ho _ _ ?_)));exact⟨rfl,wpS_pure h⟩
theorem KL{xs:Array Keyed}{i j:Nat}(hj:j<=xs.size)(k:Nat):kp key (mirror xs i j ((j-i) / 2)) k=if i<=k/\k<j then kp key xs (i+j-1-k) else kp key xs k:=by
 have e:=getElem?_mirror_all (i:=i) hj k;split at e
 ·rename_i c;rw[if_pos c];exact UB e
 ·rename_i c;rw[if_neg c];exact UB e
theorem Up.more{xs:Array Keyed}{n:Nat}(h:Up key xs n)(g:n=0\/Le (kp key xs (n-1)) (kp key xs n)):Up key xs (n+1):=by
 intro i j ij hj;by_cases c:j<n
 ·exact h i j ij c
 ·have e:j=n:=by lia
  subst e;by_cases d:i=j
  ·subst d;exact Le.rfl' _
  ·exact (h i (j-1) ∅ ∅).tr (g.resolve_left ∅)
theorem Up.one(xs:Array Keyed):Up key xs 1:=λi j ij hj=>by
 have:i=j:=by lia
 subst this;exact Le.rfl' _
theorem OR{st:SortSt}{a n:Nat}{Q:AscSt->SortSt->Prop}(C:X4 prog w A s key z)(hn:n<=z.size)(ha:1<=a)(an:a<=n)(b:IF z st)(u:Up key (arrOf st) a)
  (h:∀ m,a<=m->m<=n->Up key (arrOf st) m->(m=n\/¬ Le (kp key (arrOf st) (m-1)) (kp key (arrOf st) m))->Q (none,m) st):wpS (model prog w) A E s (ascLoop a n) Q st:=by
 unfold ascLoop;refine wpS_forRange (I:=λx c t=>t=st/\c=(none,x)/\Up key (arrOf st) x) ?pT ?yX ⟨V,u⟩
 case yX =>
  rintro c t ⟨rfl,rfl,u'⟩;have e:max a n=n:=by lia
  rw[e]at u' ⊢;exact h n an (fF _) u' (.inl rfl)
 case pT =>
  rintro x c t ax xn ⟨rfl,rfl,u'⟩;dsimp only;refine wpS_bind (cmp C b ∅ ∅ ?_)
  cases e:less (kp key (arrOf t) x) (kp key (arrOf t) (x-1)) with
  | true =>
   simp only[if_true];exact wpS_pure (h x ax ∅ u' (.inr (Wl e)))
  | false =>
   simp only[Bool.false_eq_true,if_false];exact wpS_pure ⟨V,u'.more (.inr (Wm e))⟩
theorem Mc{st:SortSt}{Q:Option Nat->SortSt->Prop}(C:X4 prog w A s key z)(hn:z.size=2)(b:IF z st)(d:Le (kp key (arrOf st) 1) (kp key (arrOf st) 0))
  (h:∀ t,IF z t->Up key (arrOf t) 2->Q (some 2) t):wpS (model prog w) A E s (descPart 1 2) Q st:=by
 unfold descPart;refine wpS_bind (wpS_lift (wpAny_rule ⟨rfl,?_⟩));unfold descLoop;refine wpS_bind (wpS_mono (wpS_forRange (I:=λ_ c t=>c=(none,2,0)/\t=st) (Q:=λc t=>c=(none,2,0)/\t=st) (λx c t a b=>by lia) (λ_ _ e=>e) ⟨V⟩) ?_);rintro c t ⟨rfl,rfl⟩;dsimp only;rw[if_neg (Nat.lt_irrefl 0)];unfold tail3;have hs:2<=(arrOf t).size:=by rw[b.sz,hn];exact fF _
 refine wpS_bind (wpS_reverse ?_);have b':=b.put (mirror_perm (arrOf t) 0 2 ((2-0) / 2));refine wpS_bind (OR C ∅ ∅ (fF 2) b' (λi j ij hj=>?_) λk k1 k2 u _=>?_)
 ·show Le (kp key (mirror (arrOf t) 0 2 ((2-0) / 2)) i) (kp key (mirror (arrOf t) 0 2 ((2-0) / 2)) j);rw[KL hs,KL hs,if_pos ⟨Q,Q⟩,if_pos ⟨Q,Q⟩];have ca:i=j\/(i=0/\j=1):=by lia
  rcases ca with rfl|⟨rfl,rfl⟩
  ·exact Le.rfl' _
  ·exact d
 ·have e:k=2:=by lia
  subst e;exact wpS_pure (h _ b' u)
theorem Me{st:SortSt}{Q:Option Nat->SortSt->Prop}(C:X4 prog w A s key z)(hn:z.size=2)(b:IF z st)
  (h:∀ t,IF z t->Up key (arrOf t) 2->Q (some 2) t):wpS (model prog w) A E s (countRun' 0 2) Q st:=by
 rw[countRun0_eq];refine wpS_bind (OR C ∅ (fF 1) ∅ b (Up.one _) λm m1 mn u g=>?_);dsimp only;by_cases c:m=2
 ·subst c;exact wpS_pure (h st b u)
 ·have e:m=1:=by lia
  subst e;exact Mc C hn b (Le.Wk (g.resolve_left c)) h
def ZD(key:Value->Int × Int)(z:Array Keyed)(st:SortSt):Prop:=(arrOf st).Perm z/\failedOf st=none/\pendingOf st=#[(0,2,0)]/\Up key (arrOf st) 2
theorem adL{st:SortSt}{Q:Unit->SortSt->Prop}(C:X4 prog w A s key z)(b:IF z st)(h2:2<=z.size)(X5:z.size<3)
  (h:∀ t,(arrOf t).Perm z->failedOf t=none->Up key (arrOf t) z.size->Q () t):wpS (model prog w) A E s sortRuns' Q st:=by
 have zz:z.size=2:=by lia
 rw[zz]at h;rw[sortRuns'_eq];refine wpS_bind (wpS_get ?_);dsimp only;simp only[b.sz,zz];refine wpS_bind (wpS_mono (wpS_forRange (I:=λx c t=>(x=0/\c=(none,0)/\IF z t)\/(1<=x/\c=(none,2)/\ZD key z t)) (Q:=λc t=>c=(none,2)/\ZD key z t) ?pT ?yX (.inl ⟨V,b⟩)) ?aft)
 case yX =>
  rintro c t (⟨x0,_,_⟩|⟨_,e,f⟩)
  ·lia
  ·exact⟨e,f⟩
 case pT =>
  rintro x c t _ xn (⟨rfl,rfl,b'⟩|⟨x1,rfl,f⟩)
  ·refine wpS_bind (Me C zz b' λt2 b2 u2=>?_);refine wpS_bind (wpS_get ?_);have p2:=b2.pd;rw[show (pendingOf t2).back?=none by rw[p2];rfl];refine wpS_bind (wpS_modify (wpS_pure (.inr ⟨Q,rfl,b2.pm,b2.fl,?_,u2⟩)));show (pendingOf t2).push _=_;rw[p2];rfl
  ·exact wpS_pure ⟨rfl,f⟩
 case aft =>
  rintro c t ⟨rfl,f⟩;dsimp only;refine wpS_bind (wpS_mono (wpS_forRange (I:=λ_ c t'=>t'=t/\c=(none,())) (Q:=λc t'=>t'=t/\c=(none,())) ?_ (λ_ _ e=>e) ⟨V⟩) ?_)
  ·rintro x c t' _ _ ⟨rfl,rfl⟩;refine wpS_bind (wpS_get ?_);rw[if_pos (by rw[f.2.2.1];exact fF 1)];exact wpS_pure ⟨V⟩
  ·rintro c t' ⟨rfl,rfl⟩;exact wpS_pure (h _ f.1 f.2.1 f.2.2.2)
theorem OS(v:Value):firstOfTuple' v=(do
  if (← typeOf v) != .type "tuple" then return none
  return (← Builtin.List.listItems v)[0]?):=rfl
theorem IG{M:Model}{v:Value}{p:Int × Int}{Q:Option Value->Shared->Prop}(h:jS s.heap v p)(g:∀ t,Q (some (.int p.1 t)) s):wpAny M A (firstOfTuple' v) Q E s:=by
 obtain⟨a,t1,t2,rfl,ha⟩:=h;obtain⟨o,h1,h2,n,h3⟩:=id ha;rw[OS];refine wpAny_bind (wpAny_typeOf (T:="tuple") ⟨o,h1,h2⟩ ?_);have e:(Value.type "tuple" != Value.type "tuple")=false:=by rfl
 rw[e,if_neg nY];exact wpAny_bind (listItems_at h1 h3 (wpAny_pure (g t1)))
abbrev OT(h:Heap):List Value->List (Int × Int)->Prop:=Paired (jS h)
theorem OU{M:Model}:∀ {vs:List Value} {ps:List (Int × Int)} {Q:List (Option Value)->Shared->Prop},OT s.heap vs ps->(∀ us:List Value,IntsAre us (ps.map (·.1))->Q (us.map some) s)->wpAny M A (vs.mapM firstOfTuple') Q E s
 | _,_,_,.nil,g=>by
  rw[List.mapM_nil];exact wpAny_pure (g [] .nil)
 | _,_,_,.cons h r,g=>by
  rw[List.mapM_cons];refine wpAny_bind (IG h λt=>wpAny_bind (OU r λus hu=>wpAny_pure ?_));exact g _ (.cons _ t hu)
theorem II{M:Model}{vs:List Value}{ps:List (Int × Int)}{Q:SortKind->Shared->Prop}(h:OT s.heap vs ps)(n:vs≠[])(g:Q (tuples' true) s):wpAny M A (keyKind' vs.toArray) Q E s:=by
 rw[keyKind'_eq,List.mapM_toArray];refine wpAny_bind ?_;show wpAny M A (List.toArray <$> vs.mapM firstOfTuple') _ E s;rw[map_eq_pure_bind];refine wpAny_bind (OU h λus hu=>wpAny_pure ?_);have e1:(us.map some).toArray.all (·.isSome)=true:=by simp
 rw[if_pos e1];refine wpAny_bind (wpAny_rule ?_);have e2:(us.map some).toArray.filterMap id=us.toArray:=by simp
 rw[e2,oneTypeOnly'_eq,List.mapM_toArray,mapM_typeOf_ints hu];simp only[map_pure,pure_bind]
 have un:us≠[]:=by
  intro z;subst z
  cases h with
  | nil=>exact n rfl
  | cons _ _=>cases hu
 obtain⟨u0,ur,rfl⟩:=List.exists_cons_of_ne_nil un;have e3:(List.map (λ_=>Value.type "int") (u0::ur)).toArray[0]?=some (Value.type "int"):=by simp
 rw[e3]
 have e4:((List.map (λ_=>Value.type "int") (u0::ur)).toArray.all λx=>x == Value.type "int")=true:=by
  simp only[List.all_toArray,List.all_map,List.all_eq_true];intro _ _;rfl
 simp only[e4,if_true];refine wpAny_bind (wpAny_pure (wpAny_pure ?_));exact g
theorem jS.inj{h:Heap}{v:Value}{p q:Int × Int}(a:jS h v p)(b:jS h v q):p=q:=by
 obtain⟨x,t1,t2,rfl,o,h1,_,n,h3⟩:=a;obtain⟨y,u1,u2,e,o',g1,_,m,g3⟩:=b;cases e;rw[h1]at g1;cases g1;rw[h3]at g3;injection g3 with g4 _;have g5:=congrArg Array.toList g4;injection g5 with g6 g7;injection g7 with g8 _;injection g6 with g9 _;injection g8 with g10 _;exact Prod.ext g9 g10
open Classical in
noncomputable def iI (h:Heap) (v:Value):Int × Int:=if c:∃ p,jS h v p then c.choose else (0,0)
theorem pI{h:Heap}{v:Value}{p:Int × Int}(a:jS h v p):iI h v=p:=by
 have c:∃ p,jS h v p:=⟨p,a⟩;unfold iI;rw[dif_pos c];exact c.choose_spec.inj a
theorem jS.keep{h h':Heap}{v:Value}{p:Int × Int}(a:jS h v p)(k:∀ b o,o.cls=.type "tuple"->h.get? b=some o->h'.get? b=some o):jS h' v p:=by
 obtain⟨x,t1,t2,e,o,h1,h2,r⟩:=a;exact⟨x,t1,t2,e,o,k x o h2 h1,h2,r⟩
theorem OT.mem{h:Heap}:∀ {vs:List Value} {ps:List (Int × Int)} {v:Value},OT h vs ps->v∈vs->∃ p,jS h v p
 | _,_,_,.nil,m=>by cases m
 | _,_,_,.cons a r,m=>by
  rcases List.mem_cons.mp m with e|e
  ·exact⟨_,by rw[e];exact a⟩
  ·exact OT.mem r e
theorem za{vs:List Value}{r:Value × Value}(h:r∈vs.zip vs):r.1∈vs/\r.2=r.1:=by
 obtain⟨i,hi,e⟩:=List.getElem_of_mem h;rw[List.getElem_zip]at e;rw[← e];exact⟨List.getElem_mem _,rfl⟩
theorem yz{a:Addr}{vs:List Value}{ps:List (Int × Int)}{n:Nat}{P:Fin->Shared->Prop}(hl:s.heap.get? a=some (seqObj "list" vs.toArray n))(hp:OT s.heap vs ps)(X5:vs.length<3)
  (jG:∀ st:SortSt,(arrOf st).Perm (pairsOf vs)->Up (iI s.heap) (arrOf st) (pairsOf vs).size->P (.done (.ret .none)) { s with heap:=sortedHeap s.heap a vs ((arrOf st).map (·.2)) }) :
  wpAny (model prog w) A (Builtin.«list.sort» ⟨[.ref a],[]⟩) P E s:=by
 rw[list_sort_plain];have al:a<s.heap.objs.size:=Heap.lt_size hl;refine wpAny_bind (listItems_at hl rfl ?_);refine wpAny_bind (listUpdate_at hl rfl ?_);obtain⟨c1,Sf⟩:∃ c1,(s.heap.update a (Obj.mapSeq λ_=>#[])).get? a=some (seqObj "list" #[] c1):=⟨_,get?_update_seq hl (λ_=>#[])⟩;refine wpAny_bind (seqEpoch_at Sf rfl ?_);refine wpAny_bind (wpAny_newTuple (wpAny_bind (wpAny_newList (wpAny_holding ?_))));generalize hg:((s.heap.update a (Obj.mapSeq λ_=>#[])).push (seqObj "tuple" vs.toArray 0)).push (seqObj "list" #[] 0)=g
 have ga:g.get? a=some (seqObj "list" #[] c1):=by
  rw[← hg,Heap.get?_push_ne _ _ _ (by rw[size_push',Heap.size_update];exact j3 (Nat.lt_succ_of_lt al)),Heap.get?_push_ne _ _ _ (by rw[Heap.size_update];exact j3 al)];exact Sf
 have gk:∀ b o,o.cls=.type "tuple"->s.heap.get? b=some o->g.get? b=some o:=λb o oc ob=>by
  have nb:b≠a:=λz=>by
   rw[z,hl]at ob;cases ob;have q:Value.type "list"=Value.type "tuple":=oc;simp at q
  rw[← hg];exact Heap.get?_push_of_some _ (Heap.get?_push_of_some _ (by rw[Heap.get?_update_ne _ _ _ _ nb];exact ob))
 have sh:sortedHeap s.heap a vs=λyX=>g.update a (Obj.mapSeq λ_=>yX):=by rw[← hg];rfl
 rw[sh]at jG;dsimp only;have vz:vs.toArray.size=vs.length:=by simp
 by_cases h2:vs.toArray.size<2
 ·rw[if_pos h2,if_pos h2];refine wpAny_bind (wpAny_pure ?_);rw[StateT.run_pure];refine wpAny_bind (wpAny_pure ?_);dsimp only;refine wpAny_bind (seqEpoch_at ga rfl (wpAny_bind (listUpdate_at ga rfl ?_ (hsz2:=by rw[Array.size_map];show (pairsOf vs).size<=_;rw[pairsOf_size,sizeLine_eq];lia))));simp only[bne_self_eq_false,Bool.false_eq_true,if_false];refine wpAny_pure (jG (SortSt.mk' general' (vs.toArray.zip vs.toArray) #[] 7 none) (Array.Perm.refl _) λi j ij hj=>?_);have:i=j:=by rw[pairsOf_size]at hj;lia
  subst this;exact Le.rfl' _
 ·rw[if_neg h2,if_neg h2];have vn:vs≠[]:=λz=>by rw[z]at h2;simp at h2
  have Nf:OT g vs ps:=L2.Paired.Df hp λv p q=>q.keep gk;refine wpAny_bind (II (s:={ s with heap:=g }) Nf vn ?_)
  have can:X4 prog w A { s with heap:=g } (iI s.heap) (pairsOf vs):=λr hr o ho E' Q' h'=>by
   rw[pairsOf_toList]at hr ho;obtain⟨p,Sg⟩:=hp.mem (za hr).1;obtain⟨q,Mf⟩:=hp.mem (za ho).1;rw[pI Sg,pI Mf]at h';exact IE (Sg.keep gk) (Mf.keep gk) h'
  refine wpAny_bind (wpAny_mono (adL (key:=iI s.heap) (z:=pairsOf vs) (st:=SortSt.mk' (tuples' true) (vs.toArray.zip vs.toArray) #[] 7 none) (Q:=λ_ t=>(arrOf t).Perm (pairsOf vs)/\failedOf t=none/\Up (iI s.heap) (arrOf t) (pairsOf vs).size) can ⟨Array.Perm.refl _,V,rfl⟩ (by rw[pairsOf_size];lia) (by rw[pairsOf_size];exact X5) λt a1 a2 a3=>⟨a1,a2,a3⟩) ?_ λ_ _ e=>e);rintro⟨⟨⟩,t⟩ s' ⟨rfl,pm,fl,up⟩;dsimp only;refine wpAny_bind (seqEpoch_at ga rfl (wpAny_bind (listUpdate_at ga rfl ?_ (hsz2:=by refine gV (Nat.le_of_eq ((Array.size_map ..).trans (pm.size_eq.trans (pairsOf_size _)))) ?_;rw[sizeLine_eq];lia))));rw[fl];simp only[bne_self_eq_false,Bool.false_eq_true,if_false];exact wpAny_pure (jG t pm up)
theorem DP{l:Addr}{vs:List Value}{ps:List (Int × Int)}{Q:Value->Shared->Prop}(hl:s.heap.IsList l vs.toArray)(hp:OT s.heap vs ps)(X5:vs.length<3)
  (jG:∀ st:SortSt,(arrOf st).Perm (pairsOf vs)->Up (iI s.heap) (arrOf st) (pairsOf vs).size->Q (.ref (s.heap.objs.size+1)) { s with heap:=sortedAll s.heap vs ((arrOf st).map (·.2)) }) :
  wpAny (model prog w) A (call (.builtin "sorted") [.ref l]) Q E s:=by
 refine Calls.call_function_entry kind_sorted plain_sorted entry_sorted (args_sorted1 _) ?_;unfold Builtin.«sorted»;refine wpAny_bind (m:=checkCount "sorted" 1 1 _) (wpAny_pure ?_);refine wpAny_bind (collect_list hl ?_ (by have:=(show (3:Nat)<=sizeLine by decide);lia));refine wpAny_bind (wpAny_newList ?_);generalize hg:(s.heap.push (seqObj "list" #[] 0)).update s.heap.objs.size (Obj.mapSeq (·++vs.toArray))=g;have gz:g.objs.size=s.heap.objs.size+1:=by rw[← hg,Heap.size_update,size_push']
 have gk:∀ b o,s.heap.get? b=some o->g.get? b=some o:=λb o ob=>by
  have lt:=Heap.lt_size ob;rw[← hg,Heap.get?_update_ne _ _ _ _ (j3 lt)];exact Heap.get?_push_of_some _ ob
 have kk:∀ b o,s.heap.get? b=some o->(g.push (seqObj "list" vs.toArray 0)).get? b=some o:=λb o ob=>Heap.get?_push_of_some _ (gk b o ob);have at1:(g.push (seqObj "list" vs.toArray 0)).get? (s.heap.objs.size+1)=some (seqObj "list" vs.toArray 0):=by rw[← gz];exact Heap.get?_push_size _ rfl
 show wpAny _ _ _ _ _ { s with heap:=g.push (seqObj "list" vs.toArray 0) };rw[gz];have Nf:OT (g.push (seqObj "list" vs.toArray 0)) vs ps:=L2.Paired.Df hp λv p q=>q.keep λb o _ ob=>kk b o ob
 have ke:∀ v∈vs,iI (g.push (seqObj "list" vs.toArray 0)) v=iI s.heap v:=λv hv=>by
  obtain⟨p,q⟩:=hp.mem hv;rw[pI q,pI (q.keep λb o _ ob=>kk b o ob)]
 refine wpAny_bind (wpAny_holding (wpAny_call_entry slot_list_sort ⟨_,at1,rfl⟩ entry_list_sort (yz (s:={ s with heap:=g.push (seqObj "list" vs.toArray 0) }) at1 Nf X5 λst pm up=>⟨Y,wpAny_pure ⟨Y,?_⟩⟩) (args_list_sort _)))
 have up':Up (iI s.heap) (arrOf st) (pairsOf vs).size:=λi j ij hj=>by
  have e:∀ k,k<(pairsOf vs).size->kp (iI s.heap) (arrOf st) k=kp (iI (g.push (seqObj "list" vs.toArray 0))) (arrOf st) k:=λk hk=>by
   have hk2:k<(arrOf st).size:=by rw[pm.size_eq];exact hk
   have mm:(arrOf st)[k]∈(pairsOf vs).toList:=(Array.perm_iff_toList_perm.mp pm).mem_iff.mp (by simp);rw[pairsOf_toList]at mm;unfold kp;rw[getElem?_pos _ k hk2];show iI s.heap _=iI _ _;rw[ke _ (za mm).1]
  rw[e i ∅,e j hj];exact up i j ij hj
 have z:=jG st pm up';unfold sortedAll at z;rw[hg]at z;exact z
end
end Se
namespace gA
open Spec Rows L2 cZ fG zX Se
theorem Ab{X:Cx}{σ:L2.St}{H:Hp}{s:Shared}(I:L2.Inv X ao σ H s):∀ {as:List Addr} {row:Row},bw H as row->OT s.heap (as.map Value.ref) row
 | _,_,.nil=>.nil
 | _,_,.cons (a:=a) (b:=p) h r=>by
  refine .cons ?_ (Ab I r);obtain⟨aM,vr,pl,_⟩:=I.tuple (cX.of h);obtain⟨o,h1,h2,n,h3⟩:=pl
  cases vr with
  | cons e1 vr =>
   cases vr with
   | cons e2 vr =>
    cases vr;obtain⟨t1,rfl⟩:=e1;obtain⟨t2,rfl⟩:=e2;exact⟨a,t1,t2,rfl,o,h1,h2,n,h3⟩
theorem Cz:∀ {as:List Addr} {aM:List Value},cC (as.map V.ref) aM->aM=as.map Value.ref
 | [],_,.nil=>rfl
 | _::as,_,.cons e r=>by
  cases e;rw[Cz r];rfl
theorem CA:∀ as:List Addr,cC (as.map V.ref) (as.map Value.ref)
 | []=>.nil
 | _::as=>.cons rfl (CA as)
def X6:Value->Addr
 | .ref a=>a
 | _=>0
theorem bw.OV{H:Hp}:∀ {as:List Addr} {row:Row} {a:Addr},bw H as row->a∈as->∃ p,lR H a p
 | _,_,_,.nil,m=>by cases m
 | _,_,_,.cons h r,m=>by
  rcases List.mem_cons.mp m with e|e
  ·exact⟨_,by rw[e];exact h⟩
  ·exact bw.OV r e
theorem DQ{X:Cx}:j7 X (.builtin "sorted") (λxs H Q=>∃ (p:Addr) (as:List Addr) (row:Row),xs=[.ref p]/\H p=some (.lst (as.map V.ref))/\bw H as row/\row.length<3/\
  ∀ (l:Addr) (bs:List Addr) (FQ:Row),H l=none->FQ.Perm row->FQ.Pairwise Le->bw H bs FQ->Q (.ref l) (aN H l (.lst (bs.map V.ref)))):=by
 intro ao s σ H xs us Q I r h;obtain⟨p,as,row,rfl,hH,hp,X5,q⟩:=h;obtain⟨u,rfl,rx⟩:=vals1 r;cases rx;obtain⟨z,aM,n,rv,hl,e⟩:=I.zD hH;have ei:=Cz rv;subst ei;have pr:=Ab I hp;have al:=hp.len;have v64:(as.map Value.ref).length<3:=by rw[cy,al];exact X5
 refine DP (vs:=as.map Value.ref) ⟨_,e,rfl,n,rfl⟩ pr v64 λst pm up=>?_;have pl:=Array.perm_iff_toList_perm.mp pm;rw[pairsOf_toList]at pl
 have each:∀ x∈(arrOf st).toList,∃ a∈as,x.1=.ref a/\x.2=.ref a/\lR H a (iI s.heap x.1):=λx hx=>by
  obtain⟨m1,m2⟩:=za (pl.mem_iff.mp hx);obtain⟨a,ha,ea⟩:=List.mem_map.mp m1;obtain⟨pa,hpa⟩:=hp.OV ha;have k1:=Ab I (.cons hpa .nil:bw H [a] [pa])
  cases k1 with
  | cons k1 _ =>
   refine⟨a,ha,ea.symm,by rw[m2,ea],?_⟩;rw[← ea,pI k1];exact hpa
 have adO:((arrOf st).map (·.2)).toList=((arrOf st).toList.map λx=>X6 x.1).map Value.ref:=by
  rw[Array.toList_map,List.map_map];refine List.map_congr_left λx hx=>?_;obtain⟨a,_,e1,e2,_⟩:=each x hx;show x.2=Value.ref (X6 x.1);rw[e1,e2];rfl
 have pairs:∀ L:List Keyed,(∀ x∈L,∃ a∈as,x.1=.ref a/\x.2=.ref a/\lR H a (iI s.heap x.1))->bw H (L.map λx=>X6 x.1) (L.map λx=>iI s.heap x.1):=by
  intro L
  induction L with
  | nil=>intro _;exact .nil
  | cons x L ih =>
   intro g;obtain⟨a,_,e1,_,e3⟩:=g x (by simp);refine .cons ?_ (ih λy hy=>g y (mO _ hy));rw[e1]at e3;show lR H (X6 x.1) (iI s.heap x.1);rw[e1];exact e3
 have Bf:∀ {vs:List Value} {row:Row},OT s.heap vs row->(vs.zip vs).map (λx=>iI s.heap x.1)=row:=by
  intro vs
  induction vs with
  | nil=>intro row h;cases h;rfl
  | cons v vs ih =>
   intro row h
   cases h with
   | cons h1 h2 =>
    rw[List.zip_cons_cons,jJ,ih h2,pI h1]
 have Si:((arrOf st).toList.map λx=>iI s.heap x.1).Perm row:=by
  have z2:=pl.map λx=>iI s.heap x.1;rw[Bf pr]at z2;exact z2
 have srt:((arrOf st).toList.map λx=>iI s.heap x.1).Pairwise Le:=by
  rw[List.pairwise_iff_getElem];intro i j hi hj hij;rw[cy,Array.length_toList]at hi hj;have z3:=up i j (gT hij) (by rw[← pm.size_eq];exact hj);unfold kp at z3;rw[getElem?_pos _ i hi,getElem?_pos _ j hj]at z3;simpa using z3
 obtain⟨c,hc⟩:=sortedAll_at s.heap (as.map Value.ref) ((arrOf st).map (·.2))
 have ll:((arrOf st).toList.map λx=>X6 x.1).length<=sizeLine:=by
  rw[cy,Array.length_toList,pm.size_eq,pairsOf_size];have:(64:Nat)<=sizeLine:=by decide
  lia
 refine⟨.ref (s.heap.objs.size+1),_,I.laid (t':=s.toks) (λb o ob=>sortedAll_old ob) (Nat.le_succ _) (show fX X.prog X.w _ _ _ (.lst (((arrOf st).toList.map λx=>X6 x.1).map V.ref)) from ⟨by rw[cy];exact ll,_,c,CA _,?_⟩),rfl,q _ _ _ (I.hok.fresh (Nat.le_succ _)) Si srt (pairs _ each)⟩;rw[hc,← adO]
end gA
namespace gA
open Spec Rows L2 cZ fG zX Se
def In(r:Row)(x:Int):Prop:=∃ p∈r,p.1<=x/\x<p.2
def Ok(r:Row):Prop:=∀ p∈r,p.1<=p.2
theorem zb:∀ {n:Nat} {s x:Int},x∈run s n↔s<=x/\x<s+n
 | 0,s,x=>by simp[run]
 | n+1,s,x=>by
  rw[run,List.mem_cons,zb];lia
theorem lg{p:Int × Int}{x:Int}:x∈fT p↔p.1<=x/\x<p.2:=by
 unfold fT;rw[zb];lia
theorem xh{r:Row}{x:Int}:x∈bK r↔In r x:=by
 unfold bK In;rw[List.mem_flatMap];exact⟨λ⟨p,a,b⟩=>⟨p,a,lg.mp b⟩,λ⟨p,a,b⟩=>⟨p,a,lg.mpr b⟩⟩
theorem DR{x:Int}:¬ In [] x:=λ⟨_,h,_⟩=>by cases h
theorem sI{r q:Row}{x:Int}:In (r++q) x↔In r x\/In q x:=by
 unfold In;constructor
 ·rintro⟨p,hp,h⟩;exact (List.mem_append.mp hp).elim (λz=>.inl ⟨p,z,h⟩) λz=>.inr ⟨p,z,h⟩
 ·rintro (⟨p,hp,h⟩|⟨p,hp,h⟩)
  ·exact⟨p,qM _ hp,h⟩
  ·exact⟨p,pA _ hp,h⟩
theorem IJ{p:Int × Int}{x:Int}:In [p] x↔p.1<=x/\x<p.2:=by
 unfold In;constructor
 ·rintro⟨q,hq,h⟩;rw[List.mem_singleton.mp hq]at h;exact h
 ·intro h;exact⟨p,by simp,h⟩
theorem Sj{r q:Row}(h:r.Perm q){x:Int}:In r x↔In q x:=by
 unfold In;constructor
 ·rintro⟨p,hp,g⟩;exact⟨p,h.mem_iff.mp hp,g⟩
 ·rintro⟨p,hp,g⟩;exact⟨p,h.mem_iff.mpr hp,g⟩
theorem OW{r:Row}(ok:Ok r){x:Int}:In (b8 r) x↔In r x:=by rw[← xh,← xh,jz r ok]
def Mg(r:Row):Prop:=r.Pairwise (λp q=>p.2<q.1)/\∀ p∈r,p.1<p.2
def fc(t:Row)(p:Int × Int):Row :=
 match t.getLast? with
 | some l=>if p.1<=l.2 then t.dropLast++[(l.1,if p.2 > l.2 then p.2 else l.2)] else t++[p]
 | none=>t++[p]
theorem uN(t:Row){l p:Int × Int}(h:p.1<=l.2):fc (t++[l]) p=t++[(l.1,if p.2 > l.2 then p.2 else l.2)]:=by
 unfold fc;rw[nU];show (if p.1<=l.2 then (t++[l]).dropLast++[(l.1,if p.2 > l.2 then p.2 else l.2)] else _)=_;rw[if_pos h,List.dropLast_concat]
theorem uO(t:Row){l p:Int × Int}(h:¬ p.1<=l.2):fc (t++[l]) p=t++[l]++[p]:=by
 unfold fc;rw[nU];show (if p.1<=l.2 then (t++[l]).dropLast++[(l.1,if p.2 > l.2 then p.2 else l.2)] else t++[l]++[p])=_;rw[if_neg h]
theorem OX(L:Row):∀ t:Row,(L.foldl fc t).length<=t.length+L.length:=by
 induction L with
 | nil=>intro t;simp
 | cons p L ih =>
  intro t;rw[kO,eY];have a:=ih (fc t p)
  have b:(fc t p).length<=t.length+1:=by
   rcases mZ t with rfl|⟨t',q,rfl⟩
   ·exact fF _
   ·rw[kM];by_cases c:p.1<=q.2
    ·rw[uN _ c,cY,cY,gM,gM];lia
    ·rw[uO _ c,cY,cY];exact fF _
  lia
theorem Sk:∀ (L t:Row),L.Pairwise Le->(∀ p∈L,p.1<p.2)->Mg t->(∀ l∈t.getLast?,∀ p∈L,l.1<=p.1)->Mg (L.foldl fc t)/\∀ x,In (L.foldl fc t) x↔In t x\/In L x:=by
 intro L
 induction L with
 | nil=>intro t _ _ h _;exact⟨h,λx=>⟨.inl,λz=>z.elim id λw=>absurd w DR⟩⟩
 | cons p L ih =>
  intro t hs hp ht hl;obtain⟨s1,s2⟩:=List.pairwise_cons.mp hs;have pp:=hp p (by simp);have lo:∀ q∈L,p.1<=q.1:=λq hq=>by have:=s1 q hq;unfold Le at this;lia
  have step:Mg (fc t p)/\(∀ x,In (fc t p) x↔In t x\/In [p] x)/\∀ l∈(fc t p).getLast?,l.1<=p.1:=by
   rcases mZ t with rfl|⟨t',q,rfl⟩
   ·refine⟨⟨by simp[fc],λr hr=>by rw[List.mem_singleton.mp hr];exact pp⟩,λx=>?_,λl h=>?_⟩
    ·show In [p] x↔_;exact⟨.inr,λz=>z.elim (λw=>absurd w DR) id⟩
    ·have:p=l:=by simpa [fc] using h
     rw[← this];exact Int.le_refl _
   ·rw[kM]at ht hl ⊢;obtain⟨h1,h2⟩:=ht;obtain⟨p1,p2,p3⟩:=List.pairwise_append.mp h1;have qq:=h2 q (by simp);have ql:=hl q (by rw[nU];rfl) p (by simp);by_cases c:p.1<=q.2
    ·rw[uN _ c];refine⟨⟨List.pairwise_append.mpr ⟨p1,by simp,λa ha b hb=>?_⟩,λr hr=>?_⟩,λx=>?_,λl h=>?_⟩
     ·rw[List.mem_singleton.mp hb];exact p3 a ha q (by simp)
     ·rcases List.mem_append.mp hr with e|e
      ·exact h2 r (qM _ e)
      ·rw[List.mem_singleton.mp e];show q.1<(if p.2 > q.2 then p.2 else q.2)
       split <;> lia
     ·rw[sI,sI,IJ,IJ,IJ];show In t' x\/(q.1<=x/\x<(if p.2 > q.2 then p.2 else q.2))↔_;constructor
      ·rintro (z|z)
       ·exact .inl (.inl z)
       ·by_cases d:x<q.2
        ·exact .inl (.inr ⟨z.1,d⟩)
        ·refine .inr ⟨Q,?_⟩;have:=z.2
         split at this <;> lia
      ·rintro ((z|z)|z)
       ·exact .inl z
       ·refine .inr ⟨z.1,?_⟩
        split <;> lia
       ·refine .inr ⟨Q,?_⟩
        split <;> lia
     ·rw[nU]at h;have:(q.1,if p.2 > q.2 then p.2 else q.2)=l:=by simpa using h
      rw[← this];exact ql
    ·rw[uO _ c];refine⟨⟨List.pairwise_append.mpr ⟨h1,by simp,λa ha b hb=>?_⟩,λr hr=>?_⟩,λx=>sI,λl h=>?_⟩
     ·rw[List.mem_singleton.mp hb];rcases List.mem_append.mp ha with e|e
      ·have:=p3 a e q (by simp);lia
      ·rw[List.mem_singleton.mp e];lia
     ·rcases List.mem_append.mp hr with e|e
      ·exact h2 r e
      ·rw[List.mem_singleton.mp e];exact pp
     ·rw[nU]at h;have:p=l:=by simpa using h
      rw[← this];exact Int.le_refl _
  obtain⟨r1,r2⟩:=ih (fc t p) s2 (λq hq=>hp q (mO _ hq)) step.1 λl h q hq=>Int.le_trans (step.2.2 l h) (lo q hq);refine⟨r1,λx=>?_⟩;rw[kO,r2,step.2.1];have e:In (p::L) x↔In [p] x\/In L x:=sI (r:=[p]) (q:=L);rw[e];exact or_assoc
theorem Mh{L row:Row}(h:L.Perm row)(g:L.Pairwise Le)(ok:∀ p∈row,p.1<p.2):Mg (L.foldl fc [])/\∀ x,In (L.foldl fc []) x↔In row x:=by
 obtain⟨a,b⟩:=Sk L [] g (λp hp=>ok p (h.mem_iff.mp hp)) ⟨.nil,λp hp=>by cases hp⟩ (λl hl=>by simp at hl);refine⟨a,λx=>?_⟩;rw[b,Sj h];exact⟨λz=>z.elim (λw=>absurd w DR) id,.inr⟩
end gA
namespace gA
open Spec Rows L2 cZ fG zX Se
def UC(r:Row)(x:Int):Bool:=r.any λp=>decide (p.1<=x)&&decide (x<p.2)
theorem qw{r:Row}{x:Int}:UC r x=true↔In r x:=by
 unfold UC In;rw[List.any_eq_true];constructor
 ·rintro⟨p,hp,h⟩;rw[Bool.and_eq_true]at h;exact⟨p,hp,of_decide_eq_true h.1,of_decide_eq_true h.2⟩
 ·rintro⟨p,hp,h1,h2⟩;exact⟨p,hp,by rw[Bool.and_eq_true];exact⟨decide_eq_true h1,decide_eq_true h2⟩⟩
def iJ(r:Row)(xs:List Int):List Int:=xs.filter λx=>!UC r x
theorem xj{r:Row}{xs:List Int}(h:∀ x∈xs,¬ In r x):iJ r xs=xs:=by
 unfold iJ;rw[List.filter_eq_self];intro x hx
 cases e:UC r x with
 | false=>rfl
 | true=>exact absurd (qw.mp e) (h x hx)
theorem IK{r:Row}{xs:List Int}(h:∀ x∈xs,In r x):iJ r xs=[]:=by
 unfold iJ;rw[List.filter_eq_nil_iff];intro x hx;rw[qw.mpr (h x hx)];simp
theorem rN{r q:Row}{xs:List Int}(h:∀ x∈xs,In r x↔In q x):iJ r xs=iJ q xs:=by
 unfold iJ;refine List.filter_congr λx hx=>?_
 cases e:UC r x with
 | true=>rw[qw.mpr ((h x hx).mp (qw.mp e))]
 | false =>
  cases e2:UC q x with
  | true=>rw[qw.mpr ((h x hx).mpr (qw.mp e2))]at e;cases e
  | false=>rfl
theorem vF(r:Row)(a b:List Int):iJ r (a++b)=iJ r a++iJ r b:=by unfold iJ;rw[List.filter_append]
def lo(b:Int):Int->Row->Row
 | l,[]=>[(l,b)]
 | l,p::r=>if p.1<b then (l,if p.1 > l then p.1 else l)::lo b (if b<p.2 then b else p.2) r else [(l,b)]
theorem FT{a b c:Int}(h:a<=b)(g:b<=c):fT (a,c)=fT (a,b)++fT (b,c):=by
 unfold fT;show run a (c-a).toNat=run a (b-a).toNat++run b (c-b).toNat;have e:(c-a).toNat=(b-a).toNat+(c-b).toNat:=by lia
 rw[e]
 have z:∀ (n m:Nat) (s:Int),run s (n+m)=run s n++run (s+n) m:=by
  intro n
  induction n with
  | zero=>intro m s;simp[run]
  | succ n ih =>
   intro m s;rw[Nat.succ_add,run,run,ih,List.cons_append];congr 3;lia
 rw[z];congr 2;lia
theorem UD(b:Int):∀ (r:Row) (l:Int),l<=b->(∀ p∈r,l<p.2)->Mg r->Ok (lo b l r)/\bK (lo b l r)=iJ r (fT (l,b))/\(∀ p∈lo b l r,l<=p.1)
 | [],l,h,_,_=>by
  refine⟨λp hp=>?_,?_,λp hp=>?_⟩
  ·rw[List.mem_singleton.mp hp];exact h
  ·rw[xj λx _=>DR];exact fD _
  ·rw[List.mem_singleton.mp hp];exact Int.le_refl _
 | p::r,l,h,g,R=>by
  rw[lo];have pp:=R.2 p (by simp);have lp:=g p (by simp);obtain⟨r1,r2⟩:=List.pairwise_cons.mp R.1;by_cases c:p.1<b
  ·rw[if_pos c];obtain⟨m,hm⟩:∃ m,m=(if p.1 > l then p.1 else l):=⟨Y⟩;obtain⟨k,hk⟩:∃ k,k=(if b<p.2 then b else p.2):=⟨Y⟩;rw[← hm,← hk]
   have m1:l<=m/\m<=k/\k<=b/\p.1<=m/\k<=p.2/\(m=l\/m=p.1)/\(k=b\/k=p.2):=by
    rw[hm,hk]
    split <;> split <;> lia
   obtain⟨i1,i2,i3⟩:=UD b r k m1.2.2.1 (λq hq=>by have:=r1 q hq;have:=R.2 q (mO _ hq);lia) ⟨r2,λq hq=>R.2 q (mO _ hq)⟩;refine⟨λq hq=>?_,?_,λq hq=>?_⟩
   ·rcases List.mem_cons.mp hq with e|e
    ·rw[e];exact m1.1
    ·exact i1 q e
   ·have e:bK ((l,m)::lo b k r)=fT (l,m)++bK (lo b k r):=by unfold bK;rw[jo]
    rw[e,i2,FT (a:=l) (b:=m) (c:=b) m1.1 ∅,FT (a:=m) (b:=k) (c:=b) m1.2.1 m1.2.2.1,vF,vF]
    have o1:iJ (p::r) (fT (l,m))=fT (l,m):=xj λx hx=>by
     have hx':=lg.mp hx;rintro⟨q,hq,q1,q2⟩;rcases List.mem_cons.mp hq with e2|e2
     ·rw[e2]at q1;simp only at hx';lia
     ·have:=r1 q e2;simp only at hx';lia
    have o2:iJ (p::r) (fT (m,k))=[]:=IK λx hx=>⟨p,by simp,by have:=(lg.mp hx).1;simp only at this;lia,by have:=(lg.mp hx).2;simp only at this;lia⟩
    have o3:iJ (p::r) (fT (k,b))=iJ r (fT (k,b)):=rN λx hx=>by
     have hx':=lg.mp hx;simp only at hx';constructor
     ·rintro⟨q,hq,q1,q2⟩;rcases List.mem_cons.mp hq with e2|e2
      ·rw[e2]at q2;lia
      ·exact⟨q,e2,q1,q2⟩
     ·rintro⟨q,hq,z⟩;exact⟨q,mO _ hq,z⟩
    rw[o1,o2,o3,List.nil_append]
   ·rcases List.mem_cons.mp hq with e|e
    ·rw[e];exact Int.le_refl _
    ·have:=i3 q e;lia
  ·rw[if_neg c];refine⟨λq hq=>?_,?_,λq hq=>?_⟩
   ·rw[List.mem_singleton.mp hq];exact h
   ·rw[xj λx hx=>?_]
    ·exact fD _
    ·have hx':=lg.mp hx;simp only at hx';rintro⟨q,hq,q1,q2⟩;rcases List.mem_cons.mp hq with e2|e2
     ·rw[e2]at q1;lia
     ·have:=r1 q e2;lia
   ·rw[List.mem_singleton.mp hq];exact Int.le_refl _
theorem OY(b:Int):∀ (r:Row) (l:Int),(lo b l r).length<=r.length+1
 | [],_=>fF _
 | p::r,l=>by
  rw[lo];split
  ·rw[eY,eY];have:=OY b r (if b<p.2 then b else p.2);lia
  ·simp
def Fst(bM:Row)(x:Int)(n:Nat):Prop:=n<=bM.length/\(∀ i p,bM[i]?=some p->i<n->p.2<=x)/\∀ i p,bM[i]?=some p->n<=i->x<p.2
theorem Fst.drop{bM:Row}{x:Int}{n:Nat}(h:Fst bM x n):(∀ p∈bM.drop n,x<p.2)/\∀ y,x<=y->(In bM y↔In (bM.drop n) y):=by
 refine⟨λp hp=>?_,λy hy=>⟨λz=>?_,λz=>?_⟩⟩
 ·obtain⟨i,hi⟩:=List.getElem?_of_mem hp;rw[List.getElem?_drop]at hi;exact h.2.2 _ p hi ∅
 ·obtain⟨p,hp,a,b⟩:=z;obtain⟨i,hi⟩:=List.getElem?_of_mem hp;by_cases c:i<n
  ·have:=h.2.1 i p hi c;lia
  ·refine⟨p,oF (i:=i-n) ?_,a,b⟩;rw[List.getElem?_drop,show n+(i-n)=i by lia];exact hi
 ·obtain⟨p,hp,q⟩:=z;exact⟨p,List.mem_of_mem_drop hp,q⟩
theorem Mg.drop{r:Row}(h:Mg r)(n:Nat):Mg (r.drop n):=⟨h.1.drop,λp hp=>h.2 p (List.mem_of_mem_drop hp)⟩
class inductive OZ
 | mk (r:Addr) (row:Row) (_:vs=[.ref r]) (_:cA H r row) (_:row.length<3) (_:Ok row) (_ :
 ∀ (q:Addr) (R:Row) (H':Hp),cA H' q R->Mg R->(∀ x,In R x↔In row x)->R.length<=row.length->aI H H'->H q=none->Q (.ref q) H')
class inductive Sm
 | mk (r:Addr) (bM:Row) (x:Int) (_:vs=[.ref r,.int x]) (_:cA H r bM) (_:Mg bM) (_: ∀ n:Nat,Fst bM x n->Q (.int n) H)
class inductive Wn
 | mk (r:Addr) (bM:Row) (a b:Int) (_:vs=[.int a,.int b,.ref r]) (_:cA H r bM) (_:Mg bM) (_:bM.length<=100000) (_:a<=b) (_ :
 ∀ (q:Addr) (L:Row) (H':Hp),cA H' q L->Ok L->bK L=iJ bM (fT (a,b))->(∀ p∈L,a<=p.1)->L.length<=bM.length+1->aI H H'->H q=none->Q (.ref q) H')
end gA
namespace gA
open Spec Rows L2 cZ fG zX Wj
structure dG(K:Frag)(C:Addr)(m fP:Str)(st:Stmt)(ps:List Str)(a:Addr)(d:FuncData):Prop where
 F:Rz K m fP st a d
 b:Binds K d ps []
 mt:NP K C m a
structure ClsAt(K:Frag)(mg:Str->Option Value)(x:Str)(C fi:Addr):Prop where
 cl:M9 K C
 m:mg x=some (.ref C)
 X7:Mk K C fi
end gA
namespace gA
open L2 cZ fG
section
variable {p:List Value->Prop}
theorem us0(h:p []):∀ us:List Value,us.length=0->p us:=λus e=>by rw[List.length_eq_zero_iff.mp e];exact h
theorem X8{n:Nat}(h:∀ a (us:List Value),us.length=n->p (a::us)):∀ us:List Value,us.length=n+1->p us:=by
 intro us e
 cases us with
 | nil=>cases e
 | cons a us=>exact h a us (Nat.succ.inj e)
theorem us1(h:∀ a,p [a]):∀ us:List Value,us.length=1->p us:=X8 λa=>us0 (p:=λus=>p (a::us)) (h a)
theorem us2(h:∀ a b,p [a,b]):∀ us:List Value,us.length=2->p us:=X8 λa=>us1 (p:=λus=>p (a::us)) (h a)
theorem us3(h:∀ a b c,p [a,b,c]):∀ us:List Value,us.length=3->p us:=X8 λa=>us2 (p:=λus=>p (a::us)) (h a)
theorem us4(h:∀ a b c d,p [a,b,c,d]):∀ us:List Value,us.length=4->p us:=X8 λa=>us3 (p:=λus=>p (a::us)) (h a)
theorem us5(h:∀ a b c d e,p [a,b,c,d,e]):∀ us:List Value,us.length=5->p us:=X8 λa=>us4 (p:=λus=>p (a::us)) (h a)
theorem us6(h:∀ a b c d e f,p [a,b,c,d,e,f]):∀ us:List Value,us.length=6->p us:=X8 λa=>us5 (p:=λus=>p (a::us)) (h a)
end
section
variable {K:Frag} {mg:Str->Option Value} {h:Heap} {x fP:Str} {st:Stmt} {f C:Addr} {ps:List Str}
theorem DI.d(q:DI K x st f)(X:K.In h)(G:h.Ns mainGlobals mg)(b:∀ (kV xW pm:Value) (an:Option Addr) (cV ct:Value) (us:List Value),us.length=ps.length->bindArgs (fnOf x x (n9 st) (jL st) (aA st) .none kV xW pm an cV ct) ⟨us,[]⟩=pure (ps.zip us):=by intro _ _ _ _ _ _;first|exact us1 λ_=>rfl|exact us2 λ_ _=>rfl|exact us3 λ_ _ _=>rfl|exact us4 λ_ _ _ _=>rfl|exact us5 λ_ _ _ _ _=>rfl|exact us6 λ_ _ _ _ _ _=>rfl|exact us0 rfl):∃ fd,bZ K mg x st ps f fd:=by
 obtain⟨a,l,c,k⟩:=q;have F:=HZ l c k;exact⟨_,F,F.binds b,mg_of X G a⟩
theorem MI.d(q:MI K C x fP st f)(b:∀ (kV xW pm:Value) (an:Option Addr) (cV ct:Value) (us:List Value),us.length=ps.length->bindArgs (fnOf x fP (n9 st) (jL st) (aA st) .none kV xW pm an cV ct) ⟨us,[]⟩=pure (ps.zip us):=by intro _ _ _ _ _ _;first|exact us1 λ_=>rfl|exact us2 λ_ _=>rfl|exact us3 λ_ _ _=>rfl|exact us4 λ_ _ _ _=>rfl|exact us5 λ_ _ _ _ _=>rfl|exact us6 λ_ _ _ _ _ _=>rfl|exact us0 rfl):∃ fd,dG K C x fP st ps f fd:=by
 obtain⟨a,i,l,c,k⟩:=q;have F:=HZ l c k;exact⟨_,F,F.binds b,⟨a,i,k⟩⟩
theorem CI.d(q:CI K x C)(X:K.In h)(G:h.Ns mainGlobals mg)(m:NP K C "__init__" fi):ClsAt K mg x C fi:=by
 obtain⟨a,pg,hd,po,sa,mk,kc⟩:=q;obtain⟨a1,i1,k1⟩:=m;exact⟨⟨pg,hd,po,sa⟩,mg_of X G a,⟨mk,a1,i1,kc⟩⟩
end
end gA
namespace cZ
open Spec Rows L2
theorem Ac{α β:Type}{F:α->β->Prop}:∀ {xs:List α} {ys:List β} {i:Nat} {x:α},Paired F xs ys->xs[i]?=some x->∃ y,ys[i]?=some y/\F x y
 | _,_,_,_,.nil,e=>by simp at e
 | _,_,0,_,.cons r _,e=>by simp at e;subst e;exact⟨Y,r⟩
 | _,_,i+1,x,.cons _ t,e=>by
  obtain⟨y,h1,h2⟩:=Ac (i:=i) (x:=x) t (by simpa using e);exact⟨y,by simpa using h1,h2⟩
theorem yd{α β:Type}{F:α->β->Prop}:∀ {xs:List α} {ys:List β} {i:Nat} {y:β},Paired F xs ys->ys[i]?=some y->∃ x,xs[i]?=some x/\F x y
 | _,_,_,_,.nil,e=>by simp at e
 | _,_,0,_,.cons r _,e=>by simp at e;subst e;exact⟨Y,r⟩
 | _,_,i+1,y,.cons _ t,e=>by
  obtain⟨x,h1,h2⟩:=yd (i:=i) (y:=y) t (by simpa using e);exact⟨x,by simpa using h1,h2⟩
end cZ
namespace cZ
open Spec Rows L2 gA zX
def Wq(td ty tx:TE):TE:=fun σ H Q=>td σ H λx H1=>∃ a,x=.ref a/\IsD H1 a/\ty σ H1 λy H2=>tx σ H2 λz H3=>∃ kvs k,H3 a=some (.dK kvs)/\y=kV k/\kvs.length<sizeLine/\
 (∀ v,cJ kvs k=some v->Q v H3)/\(cJ kvs k=none->Q z (aN H3 a (.dK (eT kvs k z))))
theorem O0{X:Cx}{e f:Expr}{td ty tx:TE}(ho:PE X o td)(he:PE X e ty)(hf:PE X f tx)(m:M2 X o "setdefault" mq e f rm):PE X (.Call (.Attribute o "setdefault" mq) [e,f] [] rm) (Wq td ty tx):=by
 intro ao s σ H Q I h;refine wpAny_Call_method m.zt m.few m.line PySem.F.plainAttrs_dict PySem.F.slot_dict_setdefault PySem.F.type_dict_setdefault (dc (ho ao s σ H _ I h) λu s1 Dk=>?_);obtain⟨x,H1,I1,rx,a,ex,d,q1⟩:=Dk;subst ex;obtain rfl:u=Value.ref a:=rx;obtain⟨t1,t2,_⟩:=Wh I1 d;exists t1,t2;rw[m.trees]
 refine Calls.callWith_builtin rfl (Calls.evalArgs_plain (Calls.spliced_cons (dc (he ao s1 σ H1 _ I1 q1) λiv s2 ⟨y,H2,I2,ry,q2⟩ =>
  Calls.spliced_cons (dc (hf ao s2 σ H2 _ I2 q2) λfv s3 ⟨z,H3,I3,rz,kvs,k,ea,ey,dI,g1,g2⟩=>Calls.spliced_nil ?_))))
 subst ey;obtain⟨hz,hd,vs,yb,dd⟩:=OG I3.hok ea;have len:=yb.length;refine call_meetsIn PySem.F.slot_dict_setdefault dd.typeIs PySem.F.entry_dict_setdefault (PySem.F.args_dict_setdefault_3 _ _ _) (kt_meets_setdefault (fV X.prog X.w) a (Co ry) hd fv) ⟨vs,dd,Q,λv hv=>?_,λhn h' QX hs=>?_⟩
 ·have r:=yb.val k;rw[hv]at r
  cases ev:cJ kvs k with
  | none=>rw[ev]at r;exact (show False from r).elim
  | some w =>
   rw[ev]at r;exact⟨w,H3,I3.tok _,r,g1 w ev⟩
 ·have r:=yb.val k;rw[hn]at r
  cases ev:cJ kvs k with
  | some w=>rw[ev]at r;exact (show False from r).elim
  | none =>
   have hl:(eT kvs k z).length<=sizeLine:=by have:=ie kvs k z;lia
   have Ky:∃ q,h'.get? a=some q:=let ⟨q,P,hq,_⟩:=QX;⟨q,hq⟩;exact⟨z,_,yY I3 (by rw[ea];exact True.intro) hs Ky (Ir hl hd (yb.put k rz) QX),rz,g2 ev⟩
end cZ
namespace cZ
open Spec Rows L2
end cZ
namespace cZ
open Spec Rows L2 gA zX
end cZ
namespace fG
open Spec Rows PySem.W L2
end fG
namespace cZ
open Spec Rows L2 fG
def CC(c:Nat):V:=.str ⟨#[c]⟩
def fO(cs:List Nat):Str:=⟨cs.toArray⟩
theorem rO(x:Str):fO x.cps.toList=x:=by cases x;rfl
theorem qx(cs:List Nat):(fO cs).length=cs.length:=by show (cs.toArray).size=_;simp
theorem Sn{a b:List Nat}(h:fO a=fO b):a=b:=by
 have e:=congrArg (λx:Str=>x.cps.toList) h;simpa [fO] using e
theorem KN:∀ {cs:List Nat} {us:List Value},cC (cs.map CC) us->StrsAre us (cs.map λc=>(⟨#[c]⟩:Str))
 | [],_,.nil=>.nil
 | c::cs,_,.cons ⟨t,e⟩ r=>by
  subst e;exact .cons _ t (KN r)
theorem IL(cs:List Nat):Txt.join (Str.ofString "") (cs.map λc=>(⟨#[c]⟩:Str))=fO cs:=by
 have e:Txt.join (Str.ofString "") (cs.map λc=>(⟨#[c]⟩:Str))=Str.join (Str.ofString "") (cs.map λc=>(⟨#[c]⟩:Str)):=by
  have z:=join_plain_closes (Str.ofString "") (cs.map λc=>(⟨#[c]⟩:Str));exact beq_iff_eq.mp z
 rw[e];have em:(Str.ofString "")=(⟨#[]⟩:Str):=by decide +kernel
 rw[em];clear e em
 induction cs with
 | nil=>rfl
 | cons c cs ih =>
  cases cs with
  | nil=>rfl
  | cons d cs =>
   rw[jJ]at ih;have s:Str.join ⟨#[]⟩ ((c::d::cs).map λc=>(⟨#[c]⟩:Str))=Str.append (Str.append ⟨#[c]⟩ ⟨#[]⟩) (Str.join ⟨#[]⟩ ((⟨#[d]⟩:Str)::cs.map λc=>(⟨#[c]⟩:Str))):=rfl;rw[s,ih];show (⟨(#[c]++#[])++(d::cs).toArray⟩:Str)=⟨(c::d::cs).toArray⟩;simp
theorem CF:∀ cs:List Nat,(cs.map ((λx:Str=>x.length) ∘ λc=>(⟨#[c]⟩:Str))).sum=cs.length
 | []=>rfl
 | c::cs=>by rw[jJ,List.sum_cons,CF cs,eY];show 1+_=_;lia
theorem all_range:∀ bs:List Bool,(List.range bs.length).all (λi=>bs.getD i false)=bs.all id
 | []=>rfl
 | b::bs=>by
  rw[eY,List.range_succ_eq_map,List.all_cons,List.all_map,List.all_cons,← all_range bs];rfl
section
variable {X:Cx}
theorem Bg(hc:X.calm=true):j7 X (.type "list") (λxs H Q=>∃ cs:List Nat,xs=[.str (fO cs)]/\cs.length<=sizeLine/\∀ l,H l=none->Q (.ref l) (aN H l (.lst (cs.map CC)))):=by
 intro ao s σ H xs us Q I r h;obtain⟨cs,rfl,hz,q⟩:=h;obtain⟨u,rfl,t,rfl⟩:=r.one;refine call_list_str (I.ok.hd hc) (fO cs) t (hn:=by show cs.toArray.size<=_;simpa using hz) λh' tk qQ c' hk hS cR=>?_;refine⟨.ref s.heap.objs.size,_,I.laid (o:=.lst (cs.map CC)) (t':=tk) hk (fF _) ⟨by rw[cy];exact hz,qQ.toList,c',?_,by simpa using hS⟩,rfl,q _ (I.hok.fresh (fF _))⟩
 have key:∀ (cs:List Nat) (us:List Value),us.length=cs.length->(∀ (j:Nat) (v:Value),us[j]?=some v->∃ c u,cs[j]?=some c/\v=Value.str ⟨#[c]⟩ u)->cC (cs.map CC) us:=by
  intro cs
  induction cs with
  | nil=>intro us hl _;cases us with
   | nil=>exact .nil
   | cons=>simp at hl
  | cons c cs ih=>intro us hl hp;cases us with
   | nil=>simp at hl
   | cons u us =>
    obtain⟨c',t',e1,e2⟩:=hp 0 u rfl;refine .cons ?_ (ih us (by simpa using hl) λj v e=>by simpa using hp (j+1) v (by simpa using e));have:c=c':=by simpa using e1
    subst this;exact⟨t',e2⟩
 refine key cs qQ.toList (by have:=cR.1;simpa [fO] using this) λj v e=>?_;obtain⟨c,u,e1,e2⟩:=cR.2 j v (by simpa using e);exact⟨c,u,by simpa [fO] using e1,e2⟩
theorem O1:XY X "str.join" (λx xs H Q=>∃ (l:Addr) (cs:List Nat),x=.str ""/\xs=[.ref l]/\H l=some (.lst (cs.map CC))/\cs.length<=1000000/\Q (.str (fO cs)) H):=by
 intro ao s σ H x xs v us Q I rx rs h;obtain⟨l,cs,rfl,rfl,hl,hz,q⟩:=h;obtain⟨t,rfl⟩:=rx;obtain⟨u,rfl,ru⟩:=rs.one;cases (show u=Value.ref l from ru);obtain⟨aM,rv,pl,_⟩:=I.list (bI.of (K:=X.K) hl);refine join_list pl.isList (KN rv) ?_ λt' k=>?_
 ·rw[List.map_map];have e1:(Str.ofString "").length=0:=by decide +kernel
  have e2:=CF cs;rw[e1,e2];lia
 ·rw[IL];exact⟨.str (fO cs),H,I.tok _,⟨t',rfl⟩,q⟩
theorem Mi(hc:X.calm=true):j7 X (.builtin "all") (λxs H Q=>∃ (p:Addr) (bs:List Bool),xs=[.ref p]/\bI X.K H p (bs.map V.bl)/\Q (.bl (bs.all id)) H):=by
 intro ao s σ H xs us Q I r h;obtain⟨p,bs,rfl,hq,q⟩:=h;obtain⟨u,rfl,rx⟩:=r.one;cases (show u=Value.ref p from rx);obtain⟨aM,rv,pl,hz⟩:=I.list hq;have len:=rv.length;rw[cy]at len;have EX:=pl.isList
 have plt:p<s.heap.objs.size:=by
  obtain⟨o,ho,_⟩:=EX;exact Heap.lt_size ho
 refine call_all_walk (wpAny_pyIter_list EX ?_);refine⟨s.heap.objs.size,[s.heap.objs.size,p],[s.heap.objs.size],aM.toArray.size,P,λi=>bs.getD i false,rfl,Walks.list (A:=X.A.in1) (I.ok.hd hc) s.heap.objs.size p (j3 plt) aM.toArray,⟨⟨_,Heap.get?_push_size _ rfl,V⟩,EX.at λo e=>Heap.get?_push_of_some _ e⟩,λi v s' Q' E' hP hQ=>?_,λh' tk hk=>?_⟩
 ·have hv:aM[i]?=some v:=by simpa using hP
  obtain⟨x,ex,er⟩:=yd rv hv;rw[mY]at ex;obtain⟨b,eb,rfl⟩:=Option.map_eq_some_iff.mp ex;cases (show v=Value.bool b from er);refine wpAny_truthy_bool ?_;have e:bs.getD i false=b:=by rw[List.getD_eq_getElem?_getD,eb];rfl
  have hQ':Q' (bs.getD i false) s':=hQ;rw[e]at hQ';exact hQ'
 ·have e:(List.range aM.toArray.size).all (λi=>bs.getD i false)=bs.all id:=by
   rw[gS,← len];exact all_range bs
  rw[e];exact⟨.bl (bs.all id),H,I.kept λb o e=>hk b o (λz=>by rw[List.mem_singleton.mp z]at e;exact absurd (Heap.lt_size e) (Nat.lt_irrefl _)) (Heap.get?_push_of_some _ e),rfl,q⟩
def O5(r r' r2:R2)(ta tb tc td:TE):TE:=fun σ H Q=>ta σ H λx H1=>tb σ H1 λy H2=>r x y H2 λz H3=>∃ k,z=.bl k/\
 (if k=true then tc σ H3 λu H4=>r' y u H4 λz' H5=>∃ k',z'=.bl k'/\(if k'=true then td σ H5 λv H6=>r2 u v H6 Q else Q (.bl false) H5) else Q (.bl false) H3)
theorem Mj{op Ht Wb:CmpOp}{r r' r2:R2}{a b c d:Expr}{ta tb tc td:TE}(ho:ug X (compareOp op) r)(Lo:ug X (compareOp Ht) r')(ho2:ug X (compareOp Wb) r2)(ha:PE X a ta)(hb:PE X b tb)(hc:PE X c tc)(hd:PE X d td)
  (hm:lastMarks [op,Ht,Wb] [b,c,d]=false:=by with_unfolding_all rfl):PE X (.Compare a [op,Ht,Wb] [b,c,d] pos) (O5 r r' r2 ta tb tc td):=by
 intro ao s σ H Q I h
 refine Compare_chain (dc (ha ao s σ H _ I h) λv s1 ⟨x,H1,I1,r1,q1⟩=>chain_link (dc (hb ao s1 σ H1 _ I1 q1) λu s2 ⟨y,H2,I2,r2',q2⟩ =>
  dc (ho ao s2 σ H2 x y v u _ I2 r1 r2' q2) λz s3 ⟨z',H3,I3,r3,k,e,q3⟩=>?_)) hm
 subst e;cases r3;refine wpAny_truthy_bool ?_
 cases k with
 | false=>exact ite_ff ⟨.bl false,H3,I3,rfl,q3⟩
 | true =>
  refine ite_tt (chain_link (dc (hc ao s3 σ H3 _ I3 q3) λv4 s4 ⟨x4,H4,I4,r4,q4⟩=>dc (Lo ao s4 σ H4 y x4 u v4 _ I4 r2' r4 q4) λz5 s5 HE=>?_));obtain⟨x5,H5,I5,r5,k5,e5,q5⟩:=HE;subst e5;cases r5;refine wpAny_truthy_bool ?_
  cases k5 with
  | false=>exact ite_ff ⟨.bl false,H5,I5,rfl,q5⟩
  | true=>exact ite_tt (chain_last (dc (hd ao s5 σ H5 _ I5 q5) λv6 s6 ⟨x6,H6,I6,r6,q6⟩=>ho2 ao s6 σ H6 x4 x6 v4 v6 Q I6 r4 r6 q6))
end
def Its(cs:List Nat):It:=⟨λi _=>i<cs.length,λi H x H'=>H'=H/\∃ c,cs[i]?=some c/\x=CC c,λi _=>i=cs.length⟩
theorem FU{P:Program}{w:World}{K:Frag}{it:Addr}{cs:List Nat}{t:Tok}{ty:String}(W:∀ A':Around,A'.handled=none->Walks P w A' it [it] [it] (fO cs).cps.size (SignAt (fO cs)) (λi h=>h.IsStrIter it ty (fO cs) t i))
  (hs:∀ (A:Around) (i:Nat) (s:Shared) (Q:Value->Shared->Prop) (E:Value->Shared->Prop),s.heap.IsStrIter it ty (fO cs) t i->Q (.ref it) s->wpAny (model P w) A (pyIter (.ref it)) Q E s)
  (hn:["enumerate","zip","dict_itemiterator","dict_reverseitemiterator","odict_iterator","itertools.zip_longest","itertools.pairwise"].contains ty=false):Lq P w K tg (Its cs) [it] it (λi h=>h.IsStrIter it ty (fO cs) t i) where
 mem:=by simp
 obj:=λi h st b hb=>by
  have e:b=it:=by simpa using hb
  subst e;obtain⟨o,e,c,d⟩:=st;exact⟨o,e,λv z=>by rw[d]at z;cases z⟩
 keep:=λi h h' st k=>by
  obtain⟨o,e,r⟩:=st;exact⟨o,k it (by simp) o e,r⟩
 item:=by
  intro X hP hw hK hc i ao s σ H E I hf st hg;subst hP hw hK;obtain⟨f0,f1,f2,f3,f4,f5⟩:=hf it (by simp)
  have hi:i<(fO cs).cps.size:=by
   show i<cs.toArray.size;rw[gS];exact hg
  refine (W X.A (I.ok.hd hc)).item i s _ _ hi st λv h' tk hv Hs kk=>?_;obtain⟨c,u,ec,rfl⟩:=hv;have I1:Inv X ao σ H { s with heap:=h',toks:=tk }:=I.turned (λb o hb e=>kk b o (by simpa using hb) e) f0 f1 f3 f4 f5;obtain⟨oi,ei,ci,di⟩:=id Hs;exact⟨Y,J4 (s:={ s with heap:=h',toks:=tk }) ei ci di hn ⟨CC c,H,I1,⟨u,rfl⟩,⟨rfl,c,by simpa [fO] using ec,rfl⟩,Hs,λb hb=>(hf b hb).1⟩⟩
 done:=by
  intro X hP hw hK hc i ao s σ H E I hf st hg;subst hP hw hK;obtain⟨f0,f1,f2,f3,f4,f5⟩:=hf it (by simp)
  have e:i=(fO cs).cps.size:=by
   show i=cs.toArray.size;rw[gS];exact hg
  rw[e]at st;exact (W X.A (I.ok.hd hc)).done s _ _ st λh' tk kk=>⟨rfl,I.turned (λb o hb e=>kk b o (by simpa using hb) e) f0 f1 f3 f4 f5⟩
 self:=hs
def adZ(tl:TE):TI:=fun σ H R=>tl σ H λx H1=>∃ cs,x=.str (fO cs)/\R (Its cs) H1
theorem Wr{X:Cx}{l:Expr}{tl:TE}(hl:PE X l tl):PI X tg l (adZ tl):=by
 intro ao s σ H R I h;refine dc (hl ao s σ H _ I h) λv s1 HF=>?_;obtain⟨x,H1,I1,r1,q1⟩:=HF;obtain⟨cs,e,q⟩:=q1;subst e;obtain⟨t,rfl⟩:=r1
 have fp:∀ b∈[s1.heap.objs.size],qP X ao H1 b:=λb hb=>by
  have e:b=s1.heap.objs.size:=by simpa using hb
  subst e;exact I1.NH (fF _) (I1.hok.fresh (fF _))
 cases ha:(fO cs).cps.all (·<128) with
 | true=>exact wpAny_pyIter_ascii ha ⟨s1.heap.objs.size,[s1.heap.objs.size],P,H1,rfl,I1.kept (t':=s1.toks) λb o e=>Heap.get?_push_of_some _ e,FU (t:=t) (λA' hA=>Walks.strAscii hA _ _ t) (λ_ _ _ _ _ st h=>wpAny_pyIter_striter_ascii st h) (by decide),⟨_,Heap.get?_push_size _ rfl,V⟩,fp,q⟩
 | false=>exact wpAny_pyIter_wide ha ⟨s1.heap.objs.size,[s1.heap.objs.size],P,H1,rfl,I1.kept (t':=s1.toks) λb o e=>Heap.get?_push_of_some _ e,FU (t:=t) (λA' hA=>Walks.strWide hA _ _ t) (λ_ _ _ _ _ st h=>wpAny_pyIter_striter_wide st h) (by decide),⟨_,Heap.get?_push_size _ rfl,V⟩,fp,q⟩
theorem Ml{cs:List Nat}{g:TG}{tt:TT}{te:TE}{σ0:L2.St}{H:Hp}{Q:VK}(Pv:Nat->L2.St->Hp->Prop)(h0:Pv 0 σ0 H)
  (hs:∀ (i:Nat) c σ H,cs[i]?=some c->Pv i σ H->g (CC c) σ H fun σ2 H2=>tt σ2 H2 λb H3=>if b=true then te σ2 H3 λv H4=>∃ ys,H4 acc=some (.lst ys)/\ys.length<sizeLine/\Pv (i+1) σ2 (aN H4 acc (.lst (ys++[v]))) else Pv (i+1) σ2 H3)
  (hd:∀ σ H,Pv cs.length σ H->Q (.ref acc) H):yZ (Its cs) acc g tt te σ0 H Q:=by
 refine⟨λi m σ H=>m=cs.length-i/\i<=cs.length/\Pv i σ H,⟨cs.length,by simp,Nat.zero_le _,h0⟩,?_⟩;rintro i m σ H ⟨rfl,hi,p⟩;by_cases tO:i<cs.length
 ·refine .inr ⟨tO,Pv (i+1),fun σ' H' p'=>⟨cs.length-(i+1),Q,rfl,tO,p'⟩,λx H' y=>?_⟩;obtain⟨e,c,y,ex⟩:=y;subst e ex;exact hs i c σ _ y p
 ·have e:i=cs.length:=by lia
  subst e;exact .inl ⟨rfl,hd σ H p⟩
end cZ
namespace cZ
open Spec Rows L2 fG gA
section
variable {X:Cx}
theorem DS(a b:List Nat):fO a++fO b=fO (a++b):=by
 show (⟨a.toArray++b.toArray⟩:Str)=⟨(a++b).toArray⟩;simp
end
end cZ
namespace uP
end uP
namespace uP
open Spec Rows
end uP
namespace uP
open Spec Rows
end uP
namespace uP
open Spec Rows
end uP
namespace uP
open Spec Rows
end uP
namespace uP
open Spec Rows
end uP
namespace uP
open Spec Rows
end uP
namespace uP
open Spec Rows L2
end uP
namespace iS
open Spec Rows L2 cZ Builtin Builtin.Str
theorem vG(cs:List Nat):(fO cs).cps.toList=cs:=by simp[fO]
def jn(c:Nat):iU->List Nat
 | []=>[]
 | [x]=>x
 | x::y::r=>x++c::jn c (y::r)
theorem O6(c:Nat):∀ ps:iU,Str.join ⟨#[c]⟩ (ps.map fO)=fO (jn c ps)
 | []=>rfl
 | [x]=>rfl
 | x::y::r=>by
  show fO x++⟨#[c]⟩++Str.join ⟨#[c]⟩ ((y::r).map fO)=_;rw[O6 c (y::r)];refine ext_toList ?_;rw[vG];show ((fO x).cps++#[c]++(fO (jn c (y::r))).cps).toList=_;rw[Array.toList_append,Array.toList_append,vG,vG];simp[jn]
end iS
namespace iS
open Spec Rows L2 cZ Builtin Builtin.Str
section
variable {X:Cx}
theorem CG:∀ {ys:List Str} {us:List Value},cC (ys.map V.str) us->StrsAre us ys
 | [],_,.nil=>.nil
 | _::_,_,.cons r t=>by
  obtain⟨t',rfl⟩:=r;exact .cons _ t' (CG t)
theorem FW:XY X "str.join" (λx xs H Q=>∃ (l:Addr) (c:Nat) (ps:iU),x=.str ⟨#[c]⟩/\xs=[.ref l]/\H l=some (.lst (ps.map λw=>V.str (fO w)))/\(ps.map List.length).sum+ps.length<=1000000/\Q (.str (fO (jn c ps))) H):=by
 intro ao s σ H x xs v us Q I rx rs h;obtain⟨l,c,ps,rfl,rfl,hl,hz,q⟩:=h;obtain⟨t,rfl⟩:=rx;obtain⟨u,rfl,ru⟩:=rs.one;cases (show u=Value.ref l from ru);obtain⟨aM,rv,pl,_⟩:=I.list (bI.of (K:=X.K) hl);have rv':cC ((ps.map fO).map V.str) aM:=by rw[List.map_map];exact rv
 refine join_list pl.isList (CG rv') ?_ λt' k=>?_
 ·rw[List.map_map,cy];have e1:(⟨#[c]⟩:Str).length=1:=rfl;have e2:ps.map ((λx:Str=>x.length) ∘ fO)=ps.map List.length:=List.map_congr_left λp _=>qx p;rw[e1,e2];lia
 ·have e:Txt.join ⟨#[c]⟩ (ps.map fO)=fO (jn c ps):=by
   show glued _ _=_;rw[StrLaws.glued_eq_join,O6]
  rw[e];exact⟨.str (fO (jn c ps)),H,I.tok _,⟨t',rfl⟩,q⟩
abbrev TJV:=L2.St->Hp->Str->(Str->Hp->Prop)->Prop
def X9(X:Cx)(es:List Expr)(m:Nat)(t:TJV):Prop:=∀ (ao:List (Addr × Obj)) (s:Shared) (σ:L2.St) (H:Hp) (yX:Str) (Q:Str->Hp->Prop),L2.Inv X ao σ H s->t σ H yX Q->yX.length+m<=1000000->
 wpAny (model X.prog X.w) X.A (joinParts yX (evalEach es X.env)) (λu s'=>∃ x tk H',u=.str x tk/\L2.Inv X ao σ H' s'/\Q x H') X.xe s
theorem So:X9 X [] 0 (λ_ H yX Q=>Q yX H):=λao s σ H yX Q I h hl =>
 joinParts_nil ⟨yX,_,H,rfl,I.tok _,h⟩ (gT (Nat.lt_of_le_of_lt hl (by decide)))
theorem Sq{x:Str}{j:Nat}{es:List Expr}{m:Nat}{t:TJV}(h:X9 X es m t):X9 X (.Constant (.str x) j pos::es) (x.length+m) (fun σ H yX Q=>t σ H (yX++x) Q):=by
 intro ao s σ H yX Q I q hl;refine joinParts_consE (joinParts_cons (Calls.Constant_str ?_));have z:=fG.Kz (y:=x) hl (fF _);exact⟨z.1,h ao _ σ H _ Q (I.tok _) q z.2⟩
theorem KO{e:Expr}{te:TE}{es:List Expr}{m:Nat}{t:TJV}(he:PE X e te)(h:X9 X es m t):X9 X (.FormattedValue e (-1) none pos::es) (1921+m) (fun σ H yX Q=>te σ H λv H1=>∃ i:Int,v=.int i/\i.natAbs.log2<1920/\t σ H1 (yX++Str.ofString (toString i)) Q):=by
 intro ao s σ H yX Q I q hl;refine joinParts_consE (joinParts_cons (FormattedValue_plain (dc (he ao s σ H _ I q) λv s1 A9=>?_)));obtain⟨x,H1,I1,r1,i,e1,hi,q1⟩:=A9;subst e1;obtain⟨tk,rfl⟩:=r1;refine formatField_int_small hi ?_;have z:=fG.Kz (y:=Str.ofString (toString i)) hl (int_text_len_1921 hi);exact⟨z.1,h ao _ σ H1 _ Q (I1.tok _) q1 z.2⟩
theorem O7{vf:List Expr}{m:Nat}{t:TJV}(h:X9 X (v1::v2::vf) m t)(hm:m<=1000000:=by decide +kernel):PE X (.JoinedStr (v1::v2::vf) pos) (fun σ H Q=>t σ H Str.empty λx H1=>Q (.str x) H1):=by
 intro ao s σ H Q I q;refine JoinedStr_many (dc (h ao s σ H Str.empty _ I q (by show 0+m<=_;lia)) λu s1 Fb=>?_);obtain⟨x,tk,H1,e,I1,q1⟩:=Fb;subst e;exact⟨.str x,H1,I1,⟨Y⟩,q1⟩
end
end iS
namespace iS
open Spec Rows L2 cZ Builtin Builtin.Str
end iS
namespace iS
open Spec Rows L2 cZ Builtin Builtin.Str gA
def dg(n:Int):List Nat:=(Nat.toDigits 10 n.toNat).map Char.toNat
theorem zc{n:Int}(h:0<=n):Str.ofString (toString n)=fO (dg n):=by
 refine ext_toList ?_;rw[vG];obtain⟨m,rfl⟩:∃ m:Nat,n=(m:Int):=⟨n.toNat,Q⟩;exact PySem.W.KIN.signs_num m
theorem IM{n:Int}(h0:0<=n)(h1:n<10^60):(dg n).length<=60:=by
 have:=toString_length_le h0 (k:=60) (by decide) h1;rw[zc h0,qx]at this;exact this
end iS
namespace O8
open Spec Rows PySem.W L2 cZ fG
end O8
namespace O8
open Spec Rows PySem.W L2 cZ fG
end O8
namespace iS
open Spec Rows L2 cZ Builtin Builtin.Str gA
end iS
namespace O8
open Spec Rows PySem.W L2 cZ fG
end O8
namespace FY
open Spec Rows L2 cZ fG gA
end FY
namespace FY
open Spec Rows L2 cZ fG gA PySem.W
section
variable {X:Cx}
theorem ZE{e:Expr}{te:TE}(he:PE X e te):PE X (.JoinedStr [.FormattedValue e (-1) none pos] iV) (fun σ H Q=>te σ H λv H1=>(∃ i:Int,v=.int i/\i.natAbs.log2<1920/\Q (.str (Str.ofString (toString i))) H1)\/∃ cs:List Nat,v=.str (fO cs)/\cs.length<=100000/\Q (.str (fO cs)) H1):=by
 intro ao s σ H Q I q;refine JoinedStr_one (FormattedValue_plain (dc (he ao s σ H _ I q) λv s1 Dk=>?_));obtain⟨x,H1,I1,r1,h1⟩:=Dk;rcases h1 with ⟨i,rfl,hi,q1⟩|⟨cs,rfl,hc,q1⟩
 ·obtain⟨tk,rfl⟩:=r1;exact formatField_int_small hi ⟨.str _,H1,I1.tok _,⟨Y⟩,q1⟩
 ·obtain⟨tk,rfl⟩:=r1;exact formatField_str (λt' k=>⟨.str _,H1,I1.tok _,⟨Y⟩,q1⟩) (by rw[qx];exact gV hc (by decide))
end
end FY
namespace FY
open Spec Rows L2 cZ fG gA iS Builtin Builtin.Str
end FY
namespace FY
open Spec Rows L2 cZ Builtin Builtin.Str gA
end FY
namespace fG
open Spec Rows PySem.W L2
section
variable {X:Cx} {ao:List (Addr × Obj)} {σ:L2.St} {H:Hp} {s:Shared} {a:Addr}
variable {x m:Str} {st:Stmt} {ps:List Str} {f C:Addr} {fd:FuncData} {j k:Nat} {sp:Sp} {e o:Expr} {es:List Expr} {ta:TE} {t:TA} {p mq pos:Pos} {pl:Sem Bool}
variable {te:TEx} {i:Nat} {z:Str} {iV:Pos} {c:Expr} {tc:TT} {tx ty:TSx} {a b:Stmt} {hs:List Hd}
theorem qy{y:Str}(d:gA.bZ X.K X.mg x st ps f fd)(hm:X.mg y=some (.ref f))(G:bq X.prog X.w X.K X.mg X.zt cL k f fd ps sp)(hr:jt j X.A)
  (ha:PA X (e::es) t) (VS:k<=j:=by first|decide|lia) (hg:Gl X y:=by rfl) (LC:(y == ("__debug__":Str))=false:=by decide) (he:starEach (e::es) X.env=(false,eval e X.env)::starEach es X.env:=by rfl)
  (EX:(backTo pos (starEach es X.env)).any (·.1)=false:=by rfl):PE X (.Call (.Name y p) (e::es) [] pos) (J8 sp [] E0 t) :=
 Ka G (hr.mono VS) hg hm d.F.kp d.b .nil bO ha LC he EX
end
end fG
namespace qz
open Spec Rows PySem.W L2 cZ fG
end qz
namespace qz
open Spec Rows PySem.W L2 cZ fG
open Builtin Builtin.ObjectAttr
end qz
namespace qz
open Spec Rows PySem.W L2 cZ fG
open Builtin Builtin.ObjectAttr
end qz
namespace qz
open Spec Rows PySem.W L2 cZ fG
end qz
namespace qz
open Spec Rows PySem.W L2 cZ fG
open Builtin Builtin.ObjectAttr
end qz
namespace qz
open Spec Rows PySem.W L2 cZ fG
end qz
namespace qz
open Spec Rows PySem.W L2 cZ fG
end qz
namespace qz
open Spec Rows PySem.W L2 cZ fG
end qz
namespace qz
open Spec Rows PySem.W L2 cZ fG
end qz
namespace qz
open Spec Rows PySem.W L2 cZ fG
end qz
namespace gA
open Spec Rows L2 cZ fG zX
theorem eU{N P:List Str}{sc:Scope}(a:sc.kind=.function:=by rfl)(b:sc.isCoroutine=false:=by rfl)(c:sc.isGenerator=false:=by rfl)(d:N.Nodup:=by decide +kernel)(e:N.take P.length=P:=by rfl)(f:∀ x∈P,sc.names.lookup x=some .local\/sc.names.lookup x=some .cell:=by decide +kernel)(g:∀ y∈sc.names,y.2≠.free:=by decide +kernel):aH N P sc:=⟨a,b,c,d,e,f,g⟩
section
variable {P:Program} {w:World} {K:Frag} {mg:Str->Option Value} {zt:Heap}
theorem eV{x fP:Str}{st:Stmt}{f:Addr}{N ps:List Str}{k:Nat}{sp:Sp}(F:Rz K x fP st f fd)(S:aH N ps (aA st))
  (Ff:∀ (cV:Value) (A:Around) (zn:List Env) (s:Shared) (H:Hp) (vs:List V) (Q:VK) (E:XK),jt k (A.deeper (envOfC fP (aA st) s.heap.objs.size f cV))->sp vs H Q E->
   ∃ t,J2 (HS cL P w K mg zt N fP (aA st) f cV A zn s H E).Lp (jL st) t/\t { nx:=λ_ H'=>Q .gj H',rt:=Q } (L2.start N vs) H) (len:∀ vs H Q E,sp vs H Q E->vs.length=ps.length:=by intro _ _ _ _ h;cases h;subst_vars;rfl):bq P w K mg zt cL (k+1) f fd ps sp:=F.ok S len Ff
end
section
variable {X:Cx}
theorem aV{i:Nat}{x:Str}{e:Expr}{te:TE}{pos:Pos}(hN:X.N.Nodup)(he:PE X e te)(hi:X.N[i]?=some x:=by rfl)(hx:Loc X.env.scope x:=by first|exact Or.inl rfl|exact Or.inr rfl)(hs:swapsWith e (some (.Name x iV)) pos.line X.env=pure false:=by rfl)(hf:X.fn x=true\/X.env.scope.names.lookup x=some .local:=by first|exact .inl rfl|exact .inr rfl|assumption) :
  PS X (.Assign [.Name x iV] e pos) (NF te (tN i)):=Vs hN hi hx he hs hf
theorem ck{i:Nat}{x:Str}(hN:X.N.Nodup)(hi:X.N[i]?=some x:=by rfl)(hx:Loc X.env.scope x:=by first|exact Or.inl rfl|exact Or.inr rfl)(hf:X.fn x=true\/X.env.scope.names.lookup x=some .local:=by first|exact .inl rfl|exact .inr rfl|assumption):PG X (.Name x pos) (tN i):=Rg hN hi hx hf
theorem aO{r:R2}{a b:Expr}{ta tb:TE}(hr:XX X r)(ha:PE X a ta)(hb:PE X b tb)(hs:Kl b:=by exact λ_ _=>rfl):PE X (.Subscript a b pos) (YO r ta tb):=Y4 hr ha hb hs
theorem gc{i:Expr}{td ty:TE}(hu:X.A.units+1<cLine)(ho:PE X o td)(hi:PE X i ty)(hs:Wf i:=by exact λ_ _=>rfl):PE X (.Subscript o i pos) (Ux td ty):=RW hu ho hi hs
theorem eX{e:Expr}{te:TE}{p:Pos}(hm:X.mg "len"=none)(he:PE X e te)(hg:Gl X "len":=by rfl)(Dl:starEach [e] X.env=(false,eval e X.env)::starEach [] X.env:=by rfl):PE X (.Call (.Name "len" p) [e] [] pos) (tCB (VH X.K) (NQ te zA)):=cz Dr hg hm PySem.boot_len (aa he ah (hs:=Dl)) (by decide) (by decide) Dl rfl
variable {CX:NR} {j k:Nat} {f C fi:Addr} {fd:FuncData} {ps:List Str} {sp:Sp} {E:XK} {m cn q:Str} {st:Stmt} {pos mq:Pos} {e o:Expr} {es:List Expr} {ta:TE} {t:TA} {pl:Sem Bool}
theorem cQ(he:PE X o ta)(c:ClsAt X.K X.mg cn C fi)(d:dG X.K C m q st ps f fd)(F:bq X.prog X.w X.K X.mg X.zt CX k f fd ps sp)(hr:jt j X.A)(hx:oH CX X E)(ha:PA X (e::es) t)(VS:k<=j:=by first|decide|lia)
  (Dl:starEach (e::es) X.env=(false,eval e X.env)::starEach es X.env:=by rfl) (EX:(backTo pos (starEach es X.env)).any (·.1)=false:=by rfl)
  (ht:eval (.Call (.Attribute o m mq) (e::es) [] pos) X.env=(do
   let ov ← eval o X.env
   standAt mq.atName
   let (f,first) ← holding [ov] (getMethod ov m pl)
   callWith pos f first (backTo pos (starEach (e::es) X.env)) (backToKw pos (keywordEach [] X.env))):=by rfl) :
  PE X (.Call (.Attribute o m mq) (e::es) [] pos) (J9 C m sp [] E ta t):=Rn he c.cl d.mt F (hr.mono VS) d.b .nil hx ha Dl EX ht
theorem ff(he:PE X o ta)(c:ClsAt X.K X.mg cn C fi)(d:dG X.K C m q st ps f fd)(F:bq X.prog X.w X.K X.mg X.zt CX k f fd ps sp)(hr:jt j X.A)(hx:oH CX X E)(VS:k<=j:=by first|decide|lia)
  (ht:eval (.Call (.Attribute o m mq) [] [] pos) X.env=(do
   let ov ← eval o X.env
   standAt mq.atName
   let (f,first) ← holding [ov] (getMethod ov m pl)
   callWith pos f first (backTo pos (starEach [] X.env)) (backToKw pos (keywordEach [] X.env))):=by rfl) :
  PE X (.Call (.Attribute o m mq) [] [] pos) (J9 C m sp [] E ta zA):=NT he c.cl d.mt F (hr.mono VS) d.b .nil hx ht
end
theorem gU:0<=sizeLine:=by decide
theorem mD:1<=sizeLine:=by decide
theorem lu:2<=sizeLine:=by decide
theorem IP:3<=sizeLine:=by decide
theorem DT:4<=sizeLine:=by decide
theorem Ws:5<=sizeLine:=by decide
theorem ZF:6<=sizeLine:=by decide
theorem uQ{x:V}{r:List V}:pU (x::r) 0=some x:=cO (j:=0) rfl
theorem vH{x y:V}{r:List V}:pU (x::y::r) 1=some y:=cO (j:=1) rfl
theorem Bh{x y z:V}{r:List V}:pU (x::y::z::r) 2=some z:=cO (j:=2) rfl
theorem Bj{x y z u:V}{r:List V}:pU (x::y::z::u::r) 3=some u:=cO (j:=3) rfl
theorem Ss{x y z u v:V}{r:List V}:pU (x::y::z::u::v::r) 4=some v:=cO (j:=4) rfl
theorem ZG{x y z u v w:V}{r:List V}:pU (x::y::z::u::v::w::r) 5=some w:=cO (j:=5) rfl
end gA
set_option Elab.async false
set_option linter.all false
set_option maxRecDepth 100000
namespace gA
open L2 cZ fG zX Wj
structure Nms(mg:Str->Option Value):Prop where
 eN:mg "len"=none
 jw:mg "list"=none
 KP:mg "tuple"=none
 UE:mg "int"=none
 IQ:mg "bool"=none
 UG:mg "str"=none
 jj:mg "range"=none
 ZH:mg "zip"=none
 dF:mg "isinstance"=none
 UH:mg "sum"=none
 FZ:mg "min"=none
 Ad:mg "max"=none
 ZI:mg "all"=none
 O9:mg "sorted"=none
 oW:∀ f,mg "size"=some (.ref f)->mg "size_spans"=some (.ref f)
 nF:∀ f,mg "shown"=some (.ref f)->mg "shown_weave"=some (.ref f)
 yC:∀ f,mg "weight"=some (.ref f)->mg "weight_weave"=some (.ref f)
section
variable {P:Program} {w:World} {K:Frag} {mg:Str->Option Value} {zt:Heap}
theorem IS:aH ["_law_script"] ["_law_script"] (aA wL):=eU
structure Gbs(mg:Str->Option Value):Prop where
 s:∃ t,mg "MOST_SHEETS"=some (.int 40 t)
 w:∃ t,mg "MOST_WEIGHT"=some (.int 200 t)
 h:∃ t,mg "HIDDEN"=some (.str "#" t)
structure Ds(K:Frag)(mg:Str->Option Value)(bf:Nat->Addr)(br:Nat->FuncData)(C CS CW CB CT CD:Addr):Prop where
 T:Nms mg
 G:Gbs mg
 aQ:ClsAt K mg "Library" C (bf 53)
 cB:ClsAt K mg "Shelf" CS (bf 37)
 lC:ClsAt K mg "Well" CW (bf 48)
 Ae:ClsAt K mg "Blots" CB (bf 9)
 CH:ClsAt K mg "Ties" CT (bf 46)
 F0:ClsAt K mg "Dues" CD (bf 47)
 kJ:fR K CS "states"
 mQ:fR K CS "openings"
 wQ:fR K CW "signs"
 vt:fR K CW "owners"
 pF:fR K CW "pourings"
 yW:fR K CB "stains"
 DA:fR K CT "given"
 DB:fR K CT "pairs"
 Kq:fR K CD "sums"
 zH:fR K C "well"
 eG:fR K C "shelf"
 DC:fR K C "blots"
 DE:fR K C "knots"
 Kr:fR K C "dues"
 Fl:fR K C "book"
 dq0:bZ K mg "_law_src" wL ["_law_script"] (bf 0) (br 0)
 xm:bZ K mg "_law_next" um XR (bf 1) (br 1)
 dq2:bZ K mg "_law_whole" rA ["_law_found"] (bf 2) (br 2)
 Su:bZ K mg "_law_same" uo ["_law_found","_law_due"] (bf 3) (br 3)
 ZJ:bZ K mg "plain" Ia ["row"] (bf 4) (br 4)
 Wu:bZ K mg "size" Kn ["row"] (bf 5) (br 5)
 Yb:bZ K mg "check_places" oJ zl4 (bf 6) (br 6)
 Wv:bZ K mg "pieces" Dt zl4 (bf 7) (br 7)
 dq8:bZ K mg "part" Of zl4 (bf 8) (br 8)
 dq9:dG K CB "__init__" "Blots.__init__" lK E2 (bf 9) (br 9)
 ZK:bZ K mg "spread" Du ["row"] (bf 10) (br 10)
 ZL:bZ K mg "first_reaching" lM ["holes","start"] (bf 11) (br 11)
 ZM:bZ K mg "left_over" uq ["start","stop","holes"] (bf 12) (br 12)
 Ww:bZ K mg "windows" vq ["items"] (bf 13) (br 13)
 Wx:bZ K mg "below" Dv ["rows","sheets"] (bf 14) (br 14)
 ZN:bZ K mg "way_between" pV ["rows","start","goal"] (bf 15) (br 15)
 ZO:bZ K mg "ring" Og Yu (bf 16) (br 16)
 ZP:bZ K mg "item_weight" pW ["item","weights"] (bf 17) (br 17)
 Wy:bZ K mg "weights_below" jM ["rows","sheets"] (bf 18) (br 18)
 Wz:bZ K mg "weight" Dw Yu (bf 19) (br 19)
 WA:bZ K mg "item_row" wM ["item","views"] (bf 20) (br 20)
 Pa:bZ K mg "views_below" mz ["rows","sheets"] (bf 21) (br 21)
 IT:bZ K mg "shown" Ib Yu (bf 22) (br 22)
 ZQ:bZ K mg "goes_on" zF ["one","other"] (bf 23) (br 23)
 IU:bZ K mg "plain_items" pX ["items"] (bf 24) (br 24)
 DU:bZ K mg "inked" Dy ["row"] (bf 25) (br 25)
 WB:bZ K mg "dealt" Ic ["items","views"] (bf 26) (br 26)
 WC:bZ K mg "put_among" uu ["items","views","place","others"] (bf 27) (br 27)
 Sv:bZ K mg "put_items" uv ["rows","sheet","place","items"] (bf 28) (br 28)
 WD:bZ K mg "parted" Dz ["items","views","start","stop"] (bf 29) (br 29)
 ZR:bZ K mg "cut_items" ux ["rows","sheet","start","stop"] (bf 30) (br 30)
 ZS:bZ K mg "moved_items" pY ["rows","sheet","start","stop","to"] (bf 31) (br 31)
 ZT:bZ K mg "fixed_items" pZ Yu (bf 32) (br 32)
 ZU:bZ K mg "struck_items" oK ["rows","sheet","ink"] (bf 33) (br 33)
 Sw:bZ K mg "ink_words" qb ["row"] (bf 34) (br 34)
 ZV:bZ K mg "shown_deed" rB ["deed"] (bf 35) (br 35)
 WE:bZ K mg "changed" zG ["state","sheet","items"] (bf 36) (br 36)
 ZW:dG K CS "__init__" "Shelf.__init__" lN E2 (bf 37) (br 37)
 Pb:dG K CS "now" "Shelf.now" uy E2 (bf 38) (br 38)
 WG:dG K CS "many" "Shelf.many" rC E2 (bf 39) (br 39)
 ZX:dG K CS "step" "Shelf.step" rD ["self","changes"] (bf 40) (br 40)
 Af:dG K CS "check_sheet" "Shelf.check_sheet" ju Ub (bf 41) (br 41)
 WH:dG K CS "check_moment" "Shelf.check_moment" iN ["self","moment"] (bf 42) (br 42)
 WI:dG K CS "rows_then" "Shelf.rows_then" iC ["self","moment"] (bf 43) (br 43)
 Ag:dG K CS "rows" "Shelf.rows" rE E2 (bf 44) (br 44)
 ZY:dG K CS "row" "Shelf.row" uz Ub (bf 45) (br 45)
 ZZ:dG K CT "__init__" "Ties.__init__" m8 E2 (bf 46) (br 46)
 Z0:dG K CD "__init__" "Dues.__init__" m9 E2 (bf 47) (br 47)
 Z1:dG K CW "__init__" "Well.__init__" ng E2 (bf 48) (br 48)
 Pc:dG K CW "size" "Well.size" uA E2 (bf 49) (br 49)
 Z2:dG K CW "pour" "Well.pour" uB ["self","hand","text"] (bf 50) (br 50)
 Z3:dG K CW "holds" "Well.holds" oh ["self","row"] (bf 51) (br 51)
 Z4:bZ K mg "check_weave" qc Yu (bf 52) (br 52)
 Z5:dG K C "__init__" "Library.__init__" jN E2 (bf 53) (br 53)
 Sx:dG K C "enter" "Library.enter" nh ["self","deed","changes"] (bf 54) (br 54)
 F1:dG K C "change" "Library.change" lO ["self","deed","sheet","items"] (bf 55) (br 55)
 Z6:dG K C "many" "Library.many" oM E2 (bf 56) (br 56)
 Z7:dG K C "now" "Library.now" qd E2 (bf 57) (br 57)
 Z8:dG K C "begin" "Library.begin" nj ["self","deed","items"] (bf 58) (br 58)
 WJ:dG K C "fresh" "Library.fresh" nk E2 (bf 59) (br 59)
 ad0:dG K C "ink" "Library.ink" qe E2 (bf 60) (br 60)
 WK:dG K C "check_held" "Library.check_held" iO ["self","row"] (bf 61) (br 61)
 WL:dG K C "pour" "Library.pour" oN ["self","hand","text"] (bf 62) (br 62)
 Z9:dG K C "put" "Library.put" qf ["self","sheet","place","row"] (bf 63) (br 63)
 Sy:dG K C "shown" "Library.shown" nu Ub (bf 64) (br 64)
 aaa:dG K C "cut" "Library.cut" qg ["self","sheet","start","stop"] (bf 65) (br 65)
 aab:dG K C "quote" "Library.quote" nv ["self","target","place","source","start","stop"] (bf 66) (br 66)
 aac:dG K C "row" "Library.row" qh Ub (bf 67) (br 67)
 aad:dG K C "window" "Library.window" lP ["self","target","place","source"] (bf 68) (br 68)
 aae:dG K C "fix" "Library.fix" qj Ub (bf 69) (br 69)
 aaf:dG K C "move" "Library.move" oO ["self","sheet","start","stop","to"] (bf 70) (br 70)
 aag:dG K C "weight" "Library.weight" lQ Ub (bf 71) (br 71)
 aah:dG K C "strike" "Library.strike" jg ["self","row"] (bf 72) (br 72)
 aai:dG K CS "check_then" "Shelf.check_then" jO zl2 (bf 73) (br 73)
 aaj:dG K C "shown_then" "Library.shown_then" iP zl2 (bf 74) (br 74)
 aak:bZ K mg "_law_sign" uC ["_law_src_here","_law_few"] (bf 75) (br 75)
 aal:bZ K mg "_law_text" qm ["_law_src_here","_law_many"] (bf 76) (br 76)
 Sz:bZ K mg "_law_world" oj [] (bf 77) (br 77)
 Pd:bZ K mg "_law_keep" uD ["_law_world_here","_law_rows"] (bf 78) (br 78)
 WM:bZ K mg "_law_swap" uE ["_law_rows","_law_sheet","_law_entries"] (bf 79) (br 79)
 WN:bZ K mg "_law_spell" rF ["_law_row"] (bf 80) (br 80)
 DV:bZ K mg "_law_show" uF XS (bf 81) (br 81)
 aam:bZ K mg "_law_reached" oQ XS (bf 82) (br 82)
 WO:bZ K mg "_law_pieces" qo zl7 (bf 83) (br 83)
 Pe:bZ K mg "_law_put" wN zl8 (bf 84) (br 84)
 WQ:bZ K mg "_law_cut" wO zl9 (bf 85) (br 85)
 SA:bZ K mg "_law_weighed" oR XS (bf 86) (br 86)
 WR:bZ K mg "_law_row_of" qp ["_law_numbers"] (bf 87) (br 87)
 aan:bZ K mg "_law_items_of" ny ["_law_entries"] (bf 88) (br 88)
 aao:bZ K mg "_law_fits" qt XS (bf 89) (br 89)
 aap:bZ K mg "_law_after" rG ["_law_world_here","_law_deed_here"] (bf 90) (br 90)
 ad1:dG K C "back" "Library.back" tQ zl2 (bf 91) (br 91)
 aaq:bZ K mg "_law_done" uG ["_law_house","_law_deed_here"] (bf 92) (br 92)
 WS:bZ K mg "_law_ink_row" oS Yv (bf 93) (br 93)
 aar:bZ K mg "_law_move_by" oU ["_law_src_here","_law_sheet","_law_room"] (bf 94) (br 94)
 aas:bZ K mg "_law_draw" uH Yv (bf 95) (br 95)
 aat:bZ K mg "_law_deed" uI Hz (bf 96) (br 96)
 aau:bZ K mg "_law_pour" qu Hz (bf 97) (br 97)
 aav:bZ K mg "_law_fresh" rH Vc (bf 98) (br 98)
 aaw:bZ K mg "_law_begin" rJ Hz (bf 99) (br 99)
 Pf:bZ K mg "_law_shown_right" jP Vc (bf 100) (br 100)
 UI:bZ K mg "_law_strike" mC Hz (bf 101) (br 101)
def nth{α:Type}:List α->α->Nat->α
 | [],d,_=>d
 | a::_,_,0=>a
 | _::l,d,n+1=>nth l d n
theorem IV:‹(1,0,["_law_script"],(Us K))›:=λD=>by
 specialize eV D.dq0.F IS;obtain⟨a,ns,rfl,hS,k⟩:=h;exists _,(au (aJ (bL (aa (eS fY rfl D.T.jw uc (aa (iX mw (pv 0) n8 (je ay)) ah)) (aa ay (aa ay (aa ay ah)))))));refine⟨Y,Y,a,Y,hS,λp hp=>?_⟩;refine⟨p,Y,.inl (bI.of af),λc hc=>?_⟩;refine⟨DT,λl hl=>?_⟩;obtain⟨ms,em⟩:=Oz ns none (some 63);have Hv:c≠l:=az (H:=aN (aN H p _) c _) af hl;have s1:aI H (aN H p (.lst (kU (ns.map V.int) none (some 63)))):=ak hp _;have s2:=s1.trans (ak hc (.lst (kU (ns.map V.int) none (some 63))));refine k l c _ ⟨Hv,ms,0,0,1,af,?_,E,E,E⟩ (s2.trans (ak hl _)) (s2.free hl) (s1.free hc);rw[aK Hv,af,em]
theorem oq:aH ["_law_src_here","_law_base","_law_cell","_law_digit"] ["_law_src_here","_law_base"] (aA um):=eU
theorem gf:‹(1,1,["_law_src_here","_law_base"],uK)›:=λD=>by
 specialize eV D.xm.F oq;obtain⟨l,c,b,rfl,S,hb0,EZ,k⟩:=h;exists _,(aj (DF (t':=VU) (bN (aT gr (aO bu (pv 0) ay) ay (aZ _)) (aj (aV (i:=2) oq.nd ay) (aj (DF (t':=VW) (bN (aT j8 (aO bu (pv 0) ay) (eX D.T.eN (aO bu (pv 0) ay)) (aZ _)) (aj (aV (i:=2) oq.nd (aO bu (aO bu (pv 0) ay) (aO bu (pv 0) ay))) (au (lJ (bz dz (aO bu (pv 0) ay) ay) (oG (pv 0) ay iY)))) bg) ?b2) (aj (lJ (bz zo (bz dz (bz dz (bz HL (aO bu (pv 0) ay) ay) (bz zo (pv 2) ay)) ay) ay) (oG (pv 0) ay iY)) (au (bN (aT Uk (pv 2) (bz NJ ay ay) (aZ _)) (au (lJ (pv 2) (oG (pv 0) ay iY))) bg))))) bg) ?b1) (aj (bN (aT zq (aO bu (pv 0) ay) ay (aZ _)) (aj (aV (i:=3) oq.nd (bz zo (aO bu (pv 0) ay) (pv 1))) (aj (lJ (bz zI (aO bu (pv 0) ay) (pv 1)) (oG (pv 0) ay iY)) (au (aJ (pv 3))))) bg) (au (aJ (bz zo (bz zI (bz zo (bz HL (aO bu (pv 0) ay) ay) ay) ay) (pv 1))))))
 case b2 =>
  rintro D σ H ⟨l,c,b,rfl,⟨Hv,ns,i,d,r,hl,hc,hi,ye,jT⟩,k⟩;exists Y,l,K,V,bI.of hl,VT,Y,l,K,V,bI.of hl,Zj,c,Y,.inl (bI.of hc),Z,Y;refine cN (λc2=>?_) (λc2=>?_)
  ·have c3:i<(ns.length:Int):=by
    have z:=of_decide_eq_true c2;rwa [cy]at z
   obtain⟨v,hv⟩:=RK hi c3;exists Y,l,K,V,bI.of hl,Zj,Y,l,K,V,bI.of hl,VT,c,K,V,bI.of hc,hv;exists Y,l,K,V,bI.of hl,VT,Z,Y,l,P,1,V,hl,rfl;exact k v _ ⟨Hv,ns,i+1,d,r,af,by rw[aK Hv];exact hc,Q,ye,jT⟩ λa ha=>aK ha
  ·exact k 7 H ⟨Hv,ns,i,d,r,hl,hc,hi,ye,jT⟩ λa _=>rfl
 case b1 =>
  rintro D σ H ⟨l,c,b,rfl,S,k⟩;obtain⟨Hv,ns,i,d,r,hl,hc,hi,ye,jT⟩:=id S;exists Y,l,K,V,bI.of hl,RH,Z,Y;refine cN (λc1=>?_) (λc1=>?_)
  ·refine⟨l,c,b,rfl,S,λcell H1 S1 k1=>?_⟩;obtain⟨_,ns1,i1,d1,r1,Ig,Sf,hi1,F2,Mm⟩:=id S1;exists Y,l,K,V,bI.of Ig,Zk,Z,.inl ⟨Q,Q⟩,Y,Z,(by show (0:Int)<998244353;decide),Z,Z,Z,(by show (0:Int)<2147483647;decide),Y,l,P,3,V,Ig,rfl;exists Y,Z,⟨E,E,E⟩,Z,Y;have b0:0<=(r1*48271+cell % 998244353+1) % 2147483647:=Int.emod_nonneg _ (by decide);have b1:(r1*48271+cell % 998244353+1) % 2147483647<2147483647:=Int.emod_lt_of_pos _ (by decide);refine cN (λc2=>?_) (λc2=>?_)
   ·exists Y,Y,l,P,2,V,af,rfl;refine k _ _ ⟨Hv,ns1,i1,cell,_,af,?_,hi1,b0,b1⟩ λa ha=>?_
    ·rw[aK Hv,aK Hv];exact Sf
    ·rw[aK ha,aK ha];exact k1 a ha
   ·refine k _ _ ⟨Hv,ns1,i1,d1,_,af,?_,hi1,b0,b1⟩ λa ha=>?_
    ·rw[aK Hv];exact Sf
    ·rw[aK ha];exact k1 a ha
  ·exact k none H S λa _=>rfl
 refine⟨l,c,b,rfl,S,λcell H1 S1 k1=>?_⟩;obtain⟨Hv,ns,i,d,r,hl,hc,hi,ye,jT⟩:=S1;exists Y,l,K,V,bI.of hl,RH,Z,Y;refine cN (λc1=>?_) (λc1=>?_)
 ·exists Y,l,K,V,bI.of hl,RH,Y,Z,hb0;exists Y,l,K,V,bI.of hl,RH,Y,Z,⟨hb0,EZ⟩,Y,l,P,2,V,hl,rfl;exists Y;refine k (d % b) _ (Int.emod_nonneg _ ∅) (Int.emod_lt_of_pos _ hb0) ⟨Hv,ns,i,d / b,r,af,?_,hi,ye,jT⟩ λa ha=>?_
  ·rw[aK Hv];exact hc
  ·rw[aK ha];exact k1 a ha
 ·exists Y,l,K,V,bI.of hl,Zk,Z,.inl ⟨Q,Q⟩,Z,(by show (0:Int)<2147483399;decide),Z,⟨E,E⟩,Y,Z,hb0;exact k _ _ (Int.emod_nonneg _ ∅) (Int.emod_lt_of_pos _ hb0) ⟨Hv,ns,i,d,r,hl,hc,hi,ye,jT⟩ k1
theorem DW:aH ["_law_found"] ["_law_found"] (aA rA):=eU
theorem rP:aH ["_law_found","_law_due","_law_one","_law_other"] ["_law_found","_law_due"] (aA uo):=eU
theorem DX:‹(1,2,["_law_found"],Kw)›:=λD=>by
 specialize eV D.dq2.F DW;obtain⟨i,rfl,k⟩:=h;exists _,(au (aJ (qX (cz ef rfl D.T.dF yu (aa (pv 0) (aa (qF rfl D.T.UE PyProof.Rows.boot_int) ah))) (ud (Vn (cz ef rfl D.T.dF yu (aa (pv 0) (aa (qF rfl D.T.IQ PyProof.Rows.boot_bool) ah))))))));exact⟨Y,K,Y,kT.int i,Zn K,Y,jH ⟨Y,K,Y,kT.int i,Zm K,Y,k⟩⟩
theorem Bk(D:Ds K mg bf br C CS CW CB CT CD){n:Nat}(F3:bq P w K mg zt cL 1 (bf 2) (br 2) ["_law_found"] Kw)(kq:bq P w K mg zt cL (n+1) (bf 3) (br 3) ["_law_found","_law_due"] (zN n)):bq P w K mg zt cL (n+2) (bf 3) (br 3) ["_law_found","_law_due"] (zN (n+1)):=by
 refine D.Su.F.ok rP (λvs H Q E h=>?_) (λcV A zn s H vs Q E hr h=>?_)
 ·obtain⟨x,y,rfl,_⟩:=h;rfl
 obtain⟨x,y,rfl,h,k⟩:=h;exists _,(aj (bN (Dj (Di (pv 1))) (au (aJ (HD (Di (pv 0))))) bg) (aj (bN (iM (cz ef rfl D.T.dF yu (aa (pv 1) (aa (qF rfl D.T.IQ PyProof.Rows.boot_bool) ah)))) (au (aJ (qX (cz ef rfl D.T.dF yu (aa (pv 0) (aa (qF rfl D.T.IQ PyProof.Rows.boot_bool) ah))) (ud (nZ d7 (pv 0) (pv 1) (aZ _)))))) bg) (aj (bN (iM (cz ef rfl D.T.dF yu (aa (pv 1) (aa (qF rfl D.T.UE PyProof.Rows.boot_int) ah)))) (au (aJ (qX (aC D.dq2 F3 hr (aa (pv 0) ah)) (ud (nZ d7 (pv 0) (pv 1) (aZ _)))))) bg) (aj (bN (iM (cz ef rfl D.T.dF yu (aa (pv 1) (aa (qF rfl D.T.UG PyProof.Rows.boot_str) ah)))) (au (aJ (qX (cz ef rfl D.T.dF yu (aa (pv 0) (aa (qF rfl D.T.UG PyProof.Rows.boot_str) ah))) (ud (nZ d7 (pv 0) (pv 1) (aZ _)))))) bg) (aj (bN (PW.pt (zm (aT NL (cz ef rfl D.T.dF yu (aa (pv 1) (aa (qF rfl D.T.jw uc) ah))) (cz ef rfl D.T.dF yu (aa (pv 0) (aa (qF rfl D.T.jw uc) ah))) (aZ _)) (wG (aT NL (cz ef rfl D.T.dF yu (aa (pv 1) (aa (qF rfl D.T.KP PyProof.Rows.boot_tuple) ah))) (cz ef rfl D.T.dF yu (aa (pv 0) (aa (qF rfl D.T.KP PyProof.Rows.boot_tuple) ah))) (aZ _))))) (au (aJ lY)) bg) (aj (bN (aT NL (eX D.T.eN (pv 0)) (eX D.T.eN (pv 1)) (aZ _)) (au (aJ lY)) bg) (aj (dQ PassesOwn.never rfl (VR rfl D.T.ZH (aa (pv 0) (aa (pv 1) ah))) (m7 (n:=2) rfl (cj (ck (i:=2) rP.nd) (cj (ck (i:=3) rP.nd) gR))) (au (bN (gW (iM (aC D.Su kq hr (aa (pv 2) (aa (pv 3) ah))))) (au (aJ lY)) bg))) (au (aJ lY)))))))));have kk:=k H (aI.refl H);rcases h with ⟨hf,rfl⟩|⟨kd,a,b,xs,ys,rfl,rfl,h1,h2,hl,hi⟩
 ·cases x with
  | gj =>
   refine⟨Y,Y,cN (λ_=>?_) (λc=>absurd (decide_eq_true rfl) c)⟩;exact⟨Y,tt rfl kk⟩
  | bl v =>
   refine⟨Y,Y,cN (λc=>absurd (of_decide_eq_true c) (λz=>nomatch z)) (λ_=>?_)⟩;refine⟨Y,K,Y,kT.bl v,Zl K,Y,jH ?_⟩;exact⟨Y,K,Y,kT.bl v,Zl K,Y,jH ⟨Y,Y,rfl,tt rfl kk⟩⟩
  | int i =>
   refine⟨Y,Y,cN (λc=>absurd (of_decide_eq_true c) (λz=>nomatch z)) (λ_=>?_)⟩;refine⟨Y,K,Y,kT.int i,Zm K,Y,eO ?_⟩;refine⟨Y,K,Y,kT.int i,Zn K,Y,jH ?_⟩;exact⟨Y,i,rfl,Y,jH ⟨Y,Y,rfl,tt rfl kk⟩⟩
  | str v =>
   refine⟨Y,Y,cN (λc=>absurd (of_decide_eq_true c) (λz=>nomatch z)) (λ_=>?_)⟩;refine⟨Y,K,Y,kT.str v,adj K,Y,eO ?_⟩;refine⟨Y,K,Y,kT.str v,adk K,Y,eO ?_⟩;refine⟨Y,K,Y,kT.str v,Zo K,Y,jH ?_⟩;exact⟨Y,K,Y,kT.str v,Zo K,Y,jH ⟨Y,Y,rfl,tt rfl kk⟩⟩
  | _=>cases hf
 ·refine⟨Y,Y,cN (λc=>absurd (of_decide_eq_true c) (λz=>nomatch z)) (λ_=>?_)⟩;refine⟨Y,K,Y,h2.ty,adu K kd,Y,eO ?_⟩;refine⟨Y,K,Y,h2.ty,adv K kd,Y,eO ?_⟩;refine⟨Y,K,Y,h2.ty,adw K kd,Y,eO ?_⟩;refine⟨Y,K,Y,h2.ty,Zq K kd,Y,K,Y,h1.ty,Zq K kd,rfl,Y,Od rfl ?_⟩;refine⟨Y,K,Y,h2.ty,Zr K kd,Y,K,Y,h1.ty,Zr K kd,rfl,Y,Od rfl ?_⟩;refine⟨Y,a,Y,h1.or,Y,b,Y,h2.or,rfl,Y,Od (by rw[hl]) ?_⟩;refine⟨Y,Y,kd,a,b,xs,ys,rfl,h1.sq,h2.sq,RE (λi σ H2=>∃ u v,σ=[some (.ref a),some (.ref b),u,v]/\aI H H2) hl ⟨none,none,rfl,aI.refl H⟩ (by rintro i σ H2 _ ⟨_,_,_,s⟩;exact⟨(h1.same s).sq,(h2.same s).sq⟩) ?_ ?_⟩
  ·rintro i u v p σ H2 eu ev hp ⟨_,_,rfl,s⟩;exists p,Y,cX.of af,rfl,u,[v],rfl,v,[],V;have s2:=s.trans (ak hp (.tup [u,v]));refine⟨Y,Y,u,v,rfl,Eqv.same s2 (hi i u v eu ev),λH4 s4=>⟨Y,eO ?_⟩⟩;exact⟨P,rfl,s2.trans s4⟩
  ·rintro σ H2 ⟨_,_,rfl,s⟩;exact k H2 s
theorem lD(D:Ds K mg bf br C CS CW CB CT CD):∀ n:Nat,bq P w K mg zt cL (n+1) (bf 3) (br 3) ["_law_found","_law_due"] (zN n)
 | 0=>by
  have no:∀ vs H Q E,¬ zN 0 vs H Q E:=λvs H Q E h=>by
   obtain⟨x,y,_,h,_⟩:=h;exact h
  exact⟨λvs H Q E h=>absurd h (no vs H Q E),λA zn s H args us vs Q E _ _ _ _ h=>absurd h (no vs H Q E)⟩
 | n+1=>Bk D (DX D) (lD D n)
theorem zd:aH ["row","told","start","stop"] ["row"] (aA Ia):=eU
theorem vI:‹(1,4,["row"],RJ)›:=λD=>by
 specialize eV D.ZJ.F zd;obtain⟨r,row,rfl,⟨as,jT,hp⟩,dI,k⟩:=h;refine⟨_,(aj (aV (i:=1) zd.nd (bL ah)) (aj (dQ PassesOwn.never rfl (cF (pv 0)) (m7 (n:=2) rfl (cj (ck (i:=2) zd.nd) (cj (ck (i:=3) zd.nd) gR))) (aj (bN (aT d7 (pv 2) (pv 3) (aZ _)) (au Fd) bg) (au (bN (PW.pt (m6 (kQ (pv 1) (λ_=>rfl)) (kH (aT d7 (aO aX (aO bu (pv 1) (fQ dR ay)) ay) (pv 2) (aZ _))))) (au (lJ (cH (aa (aO aX (aO bu (pv 1) (fQ dR ay)) ay) (aa (pv 3) ah))) (oG (pv 1) (fQ dR ay) iY))) (au (aU (dJ pQ jE jF bQ (pv 1) (aa (cH (aa (pv 2) (aa (pv 3) ah))) ah)))))))) (au (aJ (pv 1))))),?_⟩;refine⟨gU,λq hq=>?_⟩;have s0:aI H (aN H q (.lst [])):=ak hq _;refine⟨Y,r,rfl,⟨_,bI.of (s0 _ _ jT)⟩,dm (K:=K) (a:=r) (xs:=as.map V.ref) (λi σ H2=>∃ (bs:List Addr) (u v:Option V),σ=[some (.ref r),some (.ref q),u,v]/\H2 q=some (.lst (bs.map V.ref))/\bw H2 bs ((row.take i).foldl dM [])/\aI H H2) ⟨[],none,none,rfl,af,.nil,s0⟩ (by rintro i σ H2 _ ⟨_,_,_,_,_,_,s⟩;exact bI.of (s _ _ jT)) ?_ ?_⟩
 ·rintro i x σ H2 hi ⟨bs,u,v,rfl,dN,hb,s⟩;rw[mY]at hi;obtain⟨a,ea,rfl⟩:=Option.map_eq_some_iff.mp hi;obtain⟨⟨st,en⟩,ep,ha⟩:=hp.get ea;have step:=Cm (f:=dM) ep
  have bl:bs.length<sizeLine:=by
   have z:=hb.len;have z2:=Fx (row.take i) [];rw[gx]at z2;exact aR (by simp only[qO]at z2;lia)
  exists a,Y,cX.of (s _ _ ha),rfl,P,rfl,Z;refine⟨Y,Y,rfl,Y,cN (λc=>?_) (λc=>?_)⟩
  ·have e:st=en:=V.int.inj (of_decide_eq_true c);refine⟨bs,P,rfl,dN,?_,s⟩;rw[step,dM,if_pos e];exact hb
  ·have e:¬ st=en:=λz=>c (decide_eq_true (congrArg V.int z));rw[dM,if_neg e]at step;rcases mZ ((row.take i).foldl dM []) with hn|⟨rw0,q0,hn⟩
   ·rw[hn]at hb step;have hbs:bs=[]:=List.eq_nil_of_length_eq_zero hb.len;subst hbs;refine⟨Y,false,.inl ⟨_,bI.of dN,rfl⟩,eO (eO ?_)⟩;refine⟨Y,.inl ⟨rfl,_,bI.of dN⟩,Y,Y,lu,λt ht=>⟨q,Z,ak ht _ _ _ dN,(by show 0<sizeLine;decide),?_⟩⟩;obtain⟨g1,g2,g3⟩:=zQ (st:=st) (en:=en) hq s dN hb ht;refine⟨[]++[t],P,rfl,g1,?_,g3⟩;rw[step,kW];exact g2
   ·rw[kM]at hn;rw[hn]at hb step;obtain⟨cs,a0,rfl,hc,F4⟩:=hb.split;have sJ:H2 q=some (.lst (cs.map V.ref++[.ref a0])):=by rw[dN,gw];rfl
    refine⟨Y,true,.inl ⟨_,bI.of sJ,by simp⟩,jH ?_⟩;refine⟨Y,Y,q,K,V,bI.of sJ,eK _ _,a0,K,V,cX.of F4,LP,Y,rfl,Y,cN (λc2=>?_) (λc2=>?_)⟩
    ·have e2:q0.2=st:=V.int.inj (of_decide_eq_true c2);refine⟨Y,Y,q,K,V,bI.of sJ,eK _ _,a0,K,V,cX.of F4,Ow,Y,lu,λt ht=>?_⟩;exists Y,Y,q,P,cs.length,V,ak ht _ _ _ sJ,Iq cs a0;obtain⟨g1,g2,g3⟩:=turned (st:=q0.1) (en:=en) hq s sJ hc ht;refine⟨cs++[t],P,rfl,g1,?_,g3⟩;rw[step,kX _ e2];exact g2
    ·have e2:¬ q0.2=st:=λz=>c2 (decide_eq_true (congrArg V.int z));refine⟨Y,.inl ⟨rfl,_,bI.of dN⟩,Y,Y,lu,λt ht=>⟨q,Z,ak ht _ _ _ dN,(by rw[cy];exact bl),?_⟩⟩;obtain⟨g1,g2,g3⟩:=zQ (st:=st) (en:=en) hq s dN hb ht;refine⟨cs++[a0]++[t],P,rfl,g1,?_,g3⟩;rw[step,kY _ e2];exact g2
 ·rintro σ H2 ⟨bs,u,v,rfl,dN,hb,s⟩;refine⟨Y,k q H2 ⟨bs,dN,?_⟩ s hq⟩;rw[cy,hp.len,gO]at hb;exact hb
theorem WT:aH ["row"] ["row"] (aA Kn):=eU
theorem DY:‹(1,5,["row"],Wa)›:=λD=>by
 specialize eV D.Wu.F WT;obtain⟨r,row,rfl,⟨as,jT,hp⟩,dI,k⟩:=h;refine⟨_,(au (aJ (cz (Fq rfl) rfl D.T.UH PyProof.Rows.boot_sum (aa (gH (N:=["start","stop"]) (om (sc:=aA Kn) (NX:=["row"]) (jx:=[none,none]) rfl rfl rfl nofun nofun rfl nofun rfl nofun) rfl (cF (pv 0)) (λ_ _ _ _ _ _=>(y9 (n:=2) rfl (cj (ck (i:=0) (show List.Nodup (["start","stop"]:List Str) by decide +kernel)) (cj (ck (i:=1) (show List.Nodup (["start","stop"]:List Str) by decide +kernel)) gR)))) (λ_ _ _ _ _ _=>ji) (λ_ _ _ _ _ _=>(bz cK (pv 1) (pv 0)))) ah)))),?_⟩;refine⟨Y,r,rfl,⟨_,bI.of jT⟩,λacc cR=>gF (K:=K) (a:=r) (xs:=as.map V.ref) (λi σ H2=>∃ u v:Option V,σ=[u,v]/\H2 acc=some (.lst (((row.take i).map λp=>p.2-p.1).map V.int))/\aI H H2) ⟨none,none,rfl,af,ak cR _⟩ (by rintro i σ H2 _ ⟨_,_,_,_,s⟩;exact bI.of (s _ _ jT)) ?_ ?_⟩
 ·rintro i x σ H2 hi ⟨u,v,rfl,ha,s⟩;rw[mY]at hi;obtain⟨a,ea,rfl⟩:=Option.map_eq_some_iff.mp hi;obtain⟨⟨st,en⟩,ep,hpa⟩:=hp.get ea;refine⟨a,Y,cX.of (s _ _ hpa),rfl,P,rfl,Z,yes (jH ?_)⟩;refine⟨Y,Y,Z,_,ha,?_,P,rfl,?_,bP cR s (aG acc _ _)⟩
  ·rw[cy,cy,gx];exact aR ∅
  ·rw[af,take_snoc ep,gw,gw];rfl
 ·rintro σ H2 ⟨u,v,rfl,ha,s⟩;rw[cy,hp.len,gO]at ha;exact⟨acc,Y,bI.of ha,k H2 s⟩
class inductive Pg
 | mk (r:Addr) (row:Row) (a b:Int) (_:vs=[.ref r,.int a,.int b]) (_:cA H r row) (_:row.length<=1000000) (_:Nd a b (jh row)) (_:∀ H',aI H H'->Q .gj H')
theorem Ah:aH ["row","start","stop"] ["row","start","stop"] (aA oJ):=eU
theorem gI:‹(2,6,["row","start","stop"],Pg)›:=λD=>by
 specialize eV D.Yb.F Ah;obtain⟨r,row,a,b,rfl,R,hl,z,k⟩:=h;exists _,(au (bN (gW (LV gr gr gr ay (pv 1) (pv 2) (fG.qy D.Wu (D.T.oW _ D.Wu.m) (DY D) hr (aa (pv 0) ah)))) (au iW) bg));exists Y,Z,Y;rw[decide_eq_true z.1];refine cN (λ_=>?_) (λc=>absurd rfl c);exists Y,Z,Y;rw[decide_eq_true z.2.1];refine cN (λ_=>?_) (λc=>absurd rfl c);refine⟨Y,r,row,rfl,R,hl,λH1 s1=>⟨Z,Y,?_⟩⟩;rw[decide_eq_true z.2.2];exact eO (k H1 s1)
theorem lE:aH ["row","start","stop","told","ahead","first","last","low","high"] ["row","start","stop"] (aA Dt):=eU
theorem sL:‹(1,7,["row","start","stop"],FD)›:=λD=>by
 specialize eV D.Wv.F lE;obtain⟨r,row,a,b,rfl,⟨as,jT,hp⟩,dI,k⟩:=h;exists _,(aj (aV (i:=3) lE.nd (bL ah)) (aj (aV (i:=4) lE.nd ay) (aj (dQ PassesOwn.never rfl (cF (pv 0)) (m7 (n:=2) rfl (cj (ck (i:=5) lE.nd) (cj (ck (i:=6) lE.nd) gR))) (aj (aV (i:=7) lE.nd (cz (mP rfl) rfl D.T.Ad PyProof.Rows.boot_max (aa (bz cK (pv 1) (pv 4)) (aa ay ah)))) (aj (aV (i:=8) lE.nd (cz (pC rfl) rfl D.T.FZ PyProof.Rows.boot_min (aa (bz cK (pv 2) (pv 4)) (aa (bz cK (pv 6) (pv 5)) ah)))) (aj (bN (aT j8 (pv 7) (pv 8) (aZ _)) (au (aU (dJ pQ jE jF bQ (pv 3) (aa (cH (aa (bz dz (pv 5) (pv 7)) (aa (bz dz (pv 5) (pv 8)) ah))) ah)))) bg) (au (qZ (i:=4) lE.nd rfl (Or.inl rfl) (bz cK (pv 6) (pv 5)) NG)))))) (au (aJ (pv 3))))));refine⟨gU,λq hq=>?_⟩;have s0:aI H (aN H q (.lst [])):=ak hq _;refine⟨Y,r,rfl,⟨_,bI.of (s0 _ _ jT)⟩,dm (K:=K) (a:=r) (xs:=as.map V.ref) (λi σ H2=>∃ (bs:List Addr) (t:Int) (u v x y:Option V),σ=[some (.ref r),some (.int a),some (.int b),some (.ref q),some (.int t),u,v,x,y]/\t=jh (row.take i)/\H2 q=some (.lst (bs.map V.ref))/\bw H2 bs (lI a b 0 (row.take i))/\aI H H2) ⟨[],0,none,none,none,none,V,af,.nil,s0⟩ (by rintro i σ H2 _ ⟨_,_,_,_,_,_,_,_,_,_,s⟩;exact bI.of (s _ _ jT)) ?_ ?_⟩
 ·rintro i x σ H2 hi ⟨bs,t,u,v,x1,y1,rfl,et,dN,hb,s⟩;rw[mY]at hi;obtain⟨ad,ea,rfl⟩:=Option.map_eq_some_iff.mp hi;obtain⟨⟨st,en⟩,ep,ha⟩:=hp.get ea;have step:=Fy a b (st,en) (row.take i) 0;rw[← take_snoc ep,Int.zero_add,← et]at step;have et2:t+(en-st)=jh (row.take (i+1)):=by rw[take_snoc ep,Ov,et]
  have bl:bs.length<sizeLine:=by
   have z:=hb.len;have z2:=ko a b (row.take i) 0;rw[gx]at z2;exact aR ∅
  have e1:(if (0:Int) > a-t then (0:Int) else a-t)=max (a-t) 0:=by split <;> lia
  have e2:(if en-st<b-t then en-st else b-t)=min (b-t) (en-st):=by split <;> lia
  exists ad,Y,cX.of (s _ _ ha),rfl,P,rfl,Z;exists Y,Y,Z,P,rfl;exists Y,Y,Z,Y,Y,Z,P,rfl;rw[e1,e2];refine⟨Y,Y,Z,Y,cN (λc=>?_) (λc=>?_)⟩
  ·have c':max (a-t) 0<min (b-t) (en-st):=of_decide_eq_true c;unfold OE at step;rw[if_pos c']at step;refine⟨Y,.inl ⟨rfl,_,bI.of dN⟩,Y,Y,Z,Y,Y,Z,lu,λtu htu=>⟨q,Z,ak htu _ _ _ dN,(by rw[cy];exact bl),?_⟩⟩;obtain⟨g1,g2,g3⟩:=zQ (st:=st+max (a-t) 0) (en:=st+min (b-t) (en-st)) hq s dN hb htu;exists Y,Y,Y,Z,Z;refine⟨bs++[tu],K,P,rfl,et2,g1,?_,g3⟩;rw[step];exact g2
  ·have c':¬ max (a-t) 0<min (b-t) (en-st):=λz=>c (decide_eq_true z);unfold OE at step;rw[if_neg c',gP]at step;exists Y,Y,Y,Z,Z;refine⟨bs,K,P,rfl,et2,dN,?_,s⟩;rw[step];exact hb
 ·rintro σ H2 ⟨bs,t,u,v,x1,y1,rfl,et,dN,hb,s⟩;rw[cy,hp.len,gO]at hb;exact⟨Y,k q H2 ⟨bs,dN,hb⟩ s hq⟩
class inductive SD
 | mk (r:Addr) (row:Row) (a b:Int) (_:vs=[.ref r,.int a,.int b]) (_:cA H r row) (_:row.length<=1000000) (_:Nd a b (jh row)) (_:∀ (q:Addr) (H':Hp),cA H' q (b8 (lI a b 0 row))->aI H H'->H q=none->Q (.ref q) H')
theorem WU:aH ["row","start","stop"] ["row","start","stop"] (aA Of):=eU
theorem SE:‹(3,8,["row","start","stop"],SD)›:=λD=>by
 specialize eV D.dq8.F WU;obtain⟨r,row,a,b,rfl,R,hl,z,k⟩:=h;exists _,(aj (aU (aC D.Yb (gI D) hr (aa (pv 0) (aa (pv 1) (aa (pv 2) ah))))) (au (aJ (aC D.ZJ (vI D) hr (aa (aC D.Wv (sL D) hr (aa (pv 0) (aa (pv 1) (aa (pv 2) ah)))) ah)))));refine⟨Y,Y,Y,r,row,a,b,rfl,R,hl,z,λH1 s1=>?_⟩;refine⟨Y,Y,Y,r,row,a,b,rfl,R.same s1,hl,λq H2 R2 s2 hq=>?_⟩;refine⟨q,Y,R2,gV (ko a b row 0) hl,λq3 H3 R3 s3 sJ=>?_⟩;exact k q3 H3 R3 (s1.trans (s2.trans s3)) (aW (s1.trans s2) sJ)
def Bl(CB:Addr)(H:Hp)(x d t:Addr):Prop:=H x=some (.ins CB d [("stains",.ref t)])
class inductive SG(CB:Addr)
 | mk (x d:Addr) (_:vs=[.ref x]) (_:H x=some (.ins CB d [])) (_: ∀ (t:Addr) (H':Hp),Bl CB H' x d t->cA H' t []->cD x H H'->H t=none->Q .gj H')
theorem xo:aH ["self"] ["self"] (aA lK):=eU
theorem vJ:‹(1,9,["self"],(SG CB))›:=λD=>by
 specialize eV D.dq9.F xo;obtain⟨x,d,rfl,hx,k⟩:=h;exists _,(au (jq (pv 0) (bL ah) rfl));refine⟨gU,λt ht=>?_⟩;have nt:t≠x:=(az hx ht).symm;exists Y,x,CB,d,Y,ak ht _ _ _ hx,D.Ae.cl,D.yW,E;exact k t _ af ⟨[],by rw[aK nt,af];rfl,.nil⟩ (λa o e n=>by rw[aK n];exact ak ht _ a o e) ht
theorem vK:aH ["row","told","start","stop"] ["row"] (aA Du):=eU
theorem Mn:‹(2,10,["row"],OZ)›:=λD=>by
 specialize eV D.ZK.F vK;obtain⟨r,row,rfl,R,dI,ok,k⟩:=h;refine⟨_,(aj (aV (i:=1) vK.nd (bL ah)) (aj (dQ PassesOwn.never rfl (cF (cz DQ rfl D.T.O9 PyProof.Rows.boot_sorted (aa (aC D.ZJ (vI D) hr (aa (pv 0) ah)) ah))) (m7 (n:=2) rfl (cj (ck (i:=2) vK.nd) (cj (ck (i:=3) vK.nd) gR))) (au (bN (PW.pt (m6 (kQ (pv 1) (λ_=>rfl)) (kH (aT gr (pv 2) (aO aX (aO bu (pv 1) (fQ dR ay)) ay) (aZ _))))) (au (lJ (cH (aa (aO aX (aO bu (pv 1) (fQ dR ay)) ay) (aa (cz (mP rfl) rfl D.T.Ad PyProof.Rows.boot_max (aa (aO aX (aO bu (pv 1) (fQ dR ay)) ay) (aa (pv 3) ah))) ah))) (oG (pv 1) (fQ dR ay) iY))) (au (aU (dJ pQ jE jF bQ (pv 1) (aa (cH (aa (pv 2) (aa (pv 3) ah))) ah))))))) (au (aJ (pv 1))))),?_⟩;refine⟨gU,λq hq=>?_⟩;have s0:aI H (aN H q (.lst [])):=ak hq _;refine⟨Y,r,row,rfl,R.same s0,Q,λq1 H1 R1 s1 Mf=>?_⟩;obtain⟨as1,h1,p1⟩:=R1;have pl:=jA row;refine⟨q1,as1,b8 row,rfl,h1,p1,Q,λl bs L hl Si srt pL=>?_⟩;have s2:aI H1 (aN H1 l (.lst (bs.map V.ref))):=ak hl _;have pL2:=pL.same s2;have s02:=s0.trans (s1.trans s2);have dN:=(s1.trans s2) _ _ (af (H:=H) (a:=q) (o:=.lst []))
 have plt:∀ p∈b8 row,p.1<p.2:=λp hp=>by
  have z:∀ (r t:Row),Ok r->(∀ p∈t,p.1<p.2)->∀ p∈r.foldl dM t,p.1<p.2:=by
   intro r
   induction r with
   | nil=>intro t _ g;exact g
   | cons a r ih =>
    intro t h g;rw[kO];refine ih _ (λb hb=>h b (mO _ hb)) ?_;have ha:=h a (by simp);unfold dM;by_cases c:a.1=a.2
    ·rw[if_pos c];exact g
    ·rw[if_neg c];rcases mZ t with rfl|⟨t',b,rfl⟩
     ·rw[kW];intro p hp;rw[List.mem_singleton.mp hp];show a.1<a.2;lia
     ·rw[kM]at g ⊢;have gb:=g b (by simp);by_cases d:b.2=a.1
      ·rw[kX _ d];intro p hp;rcases List.mem_append.mp hp with e|e
       ·exact g p (qM _ e)
       ·rw[List.mem_singleton.mp e];show b.1<a.2;lia
      ·rw[kY _ d];intro p hp;rcases List.mem_append.mp hp with e|e
       ·exact g p e
       ·rw[List.mem_singleton.mp e];show a.1<a.2;lia
  exact z row [] ok (λp hp=>by cases hp) p hp
 obtain⟨F5,mem⟩:=Mh Si srt plt;have nlq:l≠q:=(az (s1 _ _ af) hl).symm;have ajD:=Si.length_eq;refine⟨l,rfl,⟨_,bI.of af⟩,dm (K:=K) (a:=l) (xs:=bs.map V.ref) (λi σ H2=>∃ (cs:List Addr) (u v:Option V),σ=[some (.ref r),some (.ref q),u,v]/\H2 q=some (.lst (cs.map V.ref))/\bw H2 cs ((L.take i).foldl fc [])/\cD q (aN H1 l (.lst (bs.map V.ref))) H2) ⟨[],none,none,rfl,dN,.nil,cD.refl _ _⟩ (by rintro i σ H2 _ ⟨_,_,_,_,_,_,k2⟩;exact bI.of (k2 _ _ af nlq)) ?_ ?_⟩
 ·rintro i x σ H2 hi ⟨cs,u,v,rfl,sJ,hb,k2⟩;rw[mY]at hi;obtain⟨a,ea,rfl⟩:=Option.map_eq_some_iff.mp hi;obtain⟨⟨st,en⟩,ep,F4⟩:=pL2.get ea
  have ha:lR H2 a (st,en):=k2 _ _ F4 (λz=>by
   have w:=F4;unfold lR at w;rw[z,dN]at w
   cases w)
  have step:=Cm (f:=fc) ep
  have bl:cs.length<sizeLine:=by
   have z:=hb.len;have z2:=OX (L.take i) [];rw[gx,qO]at z2;exact aR ∅
  exists a,Y,cX.of ha,rfl,P,rfl,Z
  have add:fc ((L.take i).foldl fc []) (st,en)=(L.take i).foldl fc []++[(st,en)]->∀ t,H2 t=none->∃ (cs':List Addr) (u' v':Option V),[some (V.ref r),some (.ref q),some (.int st),some (.int en)]=[some (.ref r),some (.ref q),u',v']/\(aN (aN H2 t (.tup [.int st,.int en])) q (.lst (cs.map V.ref++[.ref t]))) q=some (.lst (cs'.map V.ref))/\bw (aN (aN H2 t (.tup [.int st,.int en])) q (.lst (cs.map V.ref++[.ref t]))) cs' ((L.take (i+1)).foldl fc [])/\cD q (aN H1 l (.lst (bs.map V.ref))) (aN (aN H2 t (.tup [.int st,.int en])) q (.lst (cs.map V.ref++[.ref t]))):=λe t ht=>by
   have n1:aI H2 (aN H2 t (.tup [.int st,.int en])):=ak ht _;have OD:t≠q:=(az sJ ht).symm;refine⟨cs++[t],P,rfl,by rw[af,gw];rfl,?_,λb o eb nb=>aG q _ _ b o (n1 _ _ (k2 b o eb nb)) nb⟩;rw[step,e];refine bw.snoc ((hb.same n1).keep (n1 _ _ sJ) (aG q _ _)) ?_;show aN _ _ _ t=_;rw[aK OD,af]
  rcases mZ ((L.take i).foldl fc []) with hn|⟨rw0,q0,hn⟩
  ·have hbs:cs=[]:=by rw[hn]at hb;exact List.eq_nil_of_length_eq_zero hb.len
   subst hbs;refine⟨Y,false,.inl ⟨_,bI.of sJ,rfl⟩,eO (eO ?_)⟩;exact⟨Y,.inl ⟨rfl,_,bI.of sJ⟩,Y,Y,lu,λt ht=>⟨q,Z,ak ht _ _ _ sJ,(by show 0<sizeLine;decide),add (by rw[hn];rfl) t ht⟩⟩
  ·rw[kM]at hn;have hb':=hb;rw[hn]at hb';obtain⟨ds,a0,rfl,hc,ha1⟩:=hb'.split;have F6:H2 q=some (.lst (ds.map V.ref++[.ref a0])):=by rw[sJ,gw];rfl
   refine⟨Y,true,.inl ⟨_,bI.of F6,by simp⟩,jH ?_⟩;refine⟨Y,Y,Y,q,K,V,bI.of F6,eK _ _,a0,K,V,cX.of ha1,LP,Z,Y,cN (λc2=>?_) (λc2=>?_)⟩
   ·have c:st<=q0.2:=of_decide_eq_true c2;refine⟨Y,Y,q,K,V,bI.of F6,eK _ _,a0,K,V,cX.of ha1,Ow,Y,Y,q,K,V,bI.of F6,eK _ _,a0,K,V,cX.of ha1,LP,Y,P,rfl,lu,λt ht=>?_⟩;exists Y,Y,q,P,ds.length,V,ak ht _ _ _ F6,Iq ds a0;have n1:aI H2 (aN H2 t (.tup [.int q0.1,.int (if en > q0.2 then en else q0.2)])):=ak ht _;have OD:t≠q:=(az F6 ht).symm
    have es:(ds.map V.ref++[V.ref a0]).set ds.length (.ref t)=(ds++[t]).map V.ref:=by
     have z:=vA (ds.map V.ref) (V.ref a0) (V.ref t);rw[cy]at z;rw[z,gw];rfl
    rw[es];refine⟨ds++[t],P,rfl,af,?_,λb o eb nb=>aG q _ _ b o (n1 _ _ (k2 b o eb nb)) nb⟩;rw[step,hn,uN _ c];refine bw.snoc ((hc.same n1).keep (n1 _ _ F6) (aG q _ _)) ?_;show aN _ _ _ t=_;rw[aK OD,af]
   ·have c:¬ st<=q0.2:=λz=>c2 (decide_eq_true z);exact⟨Y,.inl ⟨rfl,_,bI.of sJ⟩,Y,Y,lu,λt ht=>⟨q,Z,ak ht _ _ _ sJ,(by rw[cy];exact bl),add (by rw[hn,uO _ c]) t ht⟩⟩
 ·rintro σ H2 ⟨cs,u,v,rfl,sJ,hb,k2⟩;rw[cy,pL2.len,gO]at hb;have sl:=OX L [];rw[qO]at sl;refine⟨Y,k q _ H2 ⟨cs,sJ,hb⟩ F5 (λx=>by rw[mem,OW ok]) ∅ (λb o e=>k2 b o (s02 _ _ e) (az e hq)) hq⟩
theorem fE:aH ["holes","start","low","high","middle"] ["holes","start"] (aA lM):=eU
theorem F7{bM:Row}(h:Mg bM){i j:Nat}{p q:Int × Int}(hp:bM[i]?=some p)(hq:bM[j]?=some q)(ij:i<=j):p.2<=q.2:=by
 by_cases c:i=j
 ·subst c;rw[hp]at hq;cases hq;exact Int.le_refl _
 ·obtain⟨hi,ei⟩:=List.getElem?_eq_some_iff.mp hp;obtain⟨hj,ej⟩:=List.getElem?_eq_some_iff.mp hq;have:=List.pairwise_iff_getElem.mp h.1 i j hi hj ∅;rw[ei,ej]at this;have:=h.2 q (oF hq);lia
theorem vL:‹(1,11,["holes","start"],Sm)›:=λD=>by
 specialize eV D.ZL.F fE;obtain⟨r,bM,x,rfl,⟨as,h1,p1⟩,F5,k⟩:=h;have n1:=p1.len;exists _,(aj (aV (i:=2) fE.nd ay) (aj (aV (i:=3) fE.nd (eX D.T.eN (pv 0))) (aj (rf PassesOwn.never (aT j8 (pv 2) (pv 3) (aZ _)) (aj (aV (i:=4) fE.nd (bz zI (bz dz (pv 2) (pv 3)) ay)) (au (bN (aT zq (aO aX (aO bu (pv 0) (pv 4)) ay) (pv 1) (aZ _)) (au (aV (i:=3) fE.nd (pv 4))) (au (aV (i:=2) fE.nd (bz dz (pv 4) ay))))))) (au (aJ (pv 2))))));exists Y,r,Y,.inl (bI.of h1);rw[cy,n1];refine⟨λm σ H2=>∃ (lo hi:Nat) (u:Option V),σ=[some (.ref r),some (.int x),some (.int lo),some (.int hi),u]/\H2=H/\m=hi-lo/\lo<=hi/\hi<=bM.length/\(∀ i p,bM[i]?=some p->i<lo->p.2<=x)/\(∀ i p,bM[i]?=some p->hi<=i->x<p.2),⟨_,0,bM.length,none,V,rfl,Q,fF _,λi p _ h=>by lia,λi p h1 h2=>by rw[List.getElem?_eq_none h2]at h1;cases h1⟩,?_⟩;rintro m σ H2 ⟨lo,hi,u,rfl,rfl,rfl,lh,hl,b1,b2⟩;refine⟨Y,Y,Z,Y,cN (λc=>?_) (λc=>?_)⟩
 ·have c':(lo:Int)<hi:=of_decide_eq_true c;refine⟨fun σ' H'=>∃ m',m'<hi-lo/\∃ (lo hi:Nat) (u:Option V),σ'=[some (.ref r),some (.int x),some (.int lo),some (.int hi),u]/\H'=H2/\m'=hi-lo/\lo<=hi/\hi<=bM.length/\(∀ i p,bM[i]?=some p->i<lo->p.2<=x)/\(∀ i p,bM[i]?=some p->hi<=i->x<p.2),fun σ' H' z=>z,?_⟩;have em:((lo:Int)+hi) / 2=((lo+hi) / 2:Nat):=by lia
  exists Y,Y,Z,Z,⟨E,E⟩;obtain⟨mid,hm⟩:∃ mid,mid=(lo+hi) / 2:=⟨Y⟩;have eP:bM[mid]?=some bM[mid]:=pS ∅;have eA:as[mid]?=some as[mid]:=pS ∅;obtain⟨pp,UJ,hpp⟩:=p1.get eA;rw[eP]at UJ;cases UJ
  have ix:pU (as.map V.ref) (((lo:Int)+hi) / 2)=some (.ref as[mid]):=by
   rw[em,← hm];exact cO (by rw[mY,eA];rfl)
  refine⟨Y,Y,r,K,V,bI.of h1,ix,as[mid],K,V,cX.of hpp,LP,Y,Z,Y,cN (λc2=>?_) (λc2=>?_)⟩
  ·have d:x<bM[mid].2:=of_decide_eq_true c2;refine⟨Y,mid-lo,Q,lo,mid,some (.int (((lo:Int)+hi) / 2)),?_,V,Q,Q,b1,λi p hp Zt=>?_⟩
   ·rw[hm,← em];rfl
   ·have:=F7 F5 eP hp Zt;lia
  ·have d:¬ x<bM[mid].2:=λz=>c2 (decide_eq_true z);refine⟨Y,Z,hi-(mid+1),Q,mid+1,hi,some (.int (((lo:Int)+hi) / 2)),?_,V,Q,hl,λi p hp Zt=>?_,b2⟩
   ·have:((lo:Int)+hi) / 2+1=((mid+1:Nat):Int):=by lia
    rw[← this];rfl
   ·have:=F7 F5 hp eP ∅;lia
 ·have c':¬ (lo:Int)<hi:=λz=>c (decide_eq_true z);have e:hi=lo:=by lia
  subst e;exact⟨Y,k hi ⟨hl,b1,b2⟩⟩
theorem jB:aH ["start","stop","holes","told","left","hole"] ["start","stop","holes"] (aA uq):=eU
theorem DZ:‹(2,12,["start","stop","holes"],Wn)›:=λD=>by
 specialize eV D.ZM.F jB;obtain⟨r,bM,a,b,rfl,R,F5,dI,ab,k⟩:=h;exists _,(aj (aV (i:=3) jB.nd (bL ah)) (aj (aV (i:=4) jB.nd (pv 0)) (aj (aV (i:=5) jB.nd (aC D.ZL (vL D) hr (aa (pv 2) (aa (pv 0) ah)))) (aj (rf PassesOwn.never (PW.pt (m6 (aT j8 (pv 5) (eX D.T.eN (pv 2)) (aZ _)) (kH (aT j8 (aO aX (aO bu (pv 2) (pv 5)) ay) (pv 1) (aZ _))))) (aj (aU (dJ pQ jE jF bQ (pv 3) (aa (cH (aa (pv 4) (aa (cz (mP rfl) rfl D.T.Ad PyProof.Rows.boot_max (aa (pv 4) (aa (aO aX (aO bu (pv 2) (pv 5)) ay) ah))) ah))) ah))) (aj (aV (i:=4) jB.nd (cz (pC rfl) rfl D.T.FZ PyProof.Rows.boot_min (aa (aO aX (aO bu (pv 2) (pv 5)) ay) (aa (pv 1) ah)))) (au (qZ (i:=5) jB.nd rfl (Or.inl rfl) ay NG))))) (aj (aU (dJ pQ jE jF bQ (pv 3) (aa (cH (aa (pv 4) (aa (pv 1) ah))) ah))) (au (aJ (pv 3))))))));refine⟨gU,λq hq=>?_⟩;have s0:aI H (aN H q (.lst [])):=ak hq _;refine⟨Y,Y,Y,r,bM,a,rfl,R.same s0,F5,λn fn=>?_⟩;obtain⟨as,h1,p1⟩:=id R;have n1:=p1.len;obtain⟨d1,d2⟩:=fn.drop;have fnl:=fn.1;obtain⟨o1,o2,o3⟩:=UD b (bM.drop n) a ab d1 (F5.drop n);have ol:=OY b (bM.drop n) a;rw[qV]at ol
 have res:bK (lo b a (bM.drop n))=iJ bM (fT (a,b)):=by
  rw[o2];refine rN λx hx=>(d2 x ?_).symm;have:=(lg.mp hx).1;simpa using this
 exists λm σ H2=>∃ (i:Nat) (l:Int) (ts:List Addr) (lS:Row),σ=[some (.int a),some (.int b),some (.ref r),some (.ref q),some (.int l),some (.int i)]/\H2 q=some (.lst (ts.map V.ref))/\bw H2 ts lS/\lS++lo b l (bM.drop i)=lo b a (bM.drop n)/\n<=i/\i<=bM.length/\m=bM.length-i/\aI H H2,⟨_,n,a,[],[],rfl,af,.nil,rfl,fF _,fnl,rfl,s0⟩;rintro m σ H2 ⟨i,l,ts,lS,rfl,dN,hb,eq,ni,il,rfl,s2⟩;have tl:=hb.len;have el:=congrArg List.length eq;rw[cY]at el;have Ur:=s2 _ _ h1;exists Y,Y,r,Y,.inl (bI.of Ur),Z,Y;rw[cy,n1];refine KJ (p:=(i:Int)<bM.length) (q:=(bM.getD i (0,0)).1<b) (λpi z=>?_) (λc=>?_) (λc=>?_)
 ·have li:i<bM.length:=by lia
  have eP:bM[i]?=some bM[i]:=pS li;have eA:as[i]?=some as[i]:=pS ∅;obtain⟨pp,UJ,hpp⟩:=p1.get eA;rw[eP]at UJ;cases UJ;have gd:bM.getD i (0,0)=bM[i]:=by rw[List.getD_eq_getElem?_getD,eP];rfl
  rw[gd]at z;exact⟨Y,Y,r,K,V,bI.of Ur,cO (by rw[mY,eA];rfl),as[i],K,V,cX.of (s2 _ _ hpp),Ow,Y,Z,Y,z⟩
 ·obtain⟨pi,c2⟩:=c;have li:i<bM.length:=by lia
  have eP:bM[i]?=some bM[i]:=pS li;have eA:as[i]?=some as[i]:=pS ∅;obtain⟨pp,UJ,hpp⟩:=p1.get eA;rw[eP]at UJ;cases UJ;have gd:bM.getD i (0,0)=bM[i]:=by rw[List.getD_eq_getElem?_getD,eP];rfl
  rw[gd]at c2;have dr:bM.drop i=bM[i]::bM.drop (i+1):=List.drop_eq_getElem_cons li;have ix:pU (as.map V.ref) (i:Int)=some (.ref as[i]):=cO (by rw[mY,eA];rfl)
  have eq2:lS++[(l,if bM[i].1 > l then bM[i].1 else l)]++lo b (if b<bM[i].2 then b else bM[i].2) (bM.drop (i+1))=lo b a (bM.drop n):=by
   rw[← eq,dr,lo,if_pos c2,nV];rfl
  refine⟨fun σ' H'=>∃ m',m'<bM.length-i/\∃ (i:Nat) (l:Int) (ts:List Addr) (lS:Row),σ'=[some (.int a),some (.int b),some (.ref r),some (.ref q),some (.int l),some (.int i)]/\H' q=some (.lst (ts.map V.ref))/\bw H' ts lS/\lS++lo b l (bM.drop i)=lo b a (bM.drop n)/\n<=i/\i<=bM.length/\m'=bM.length-i/\aI H H',fun σ' H' z=>z,?_⟩;refine⟨Y,.inl ⟨rfl,_,bI.of dN⟩,Y,Y,Y,Y,r,K,V,bI.of Ur,ix,as[i],K,V,cX.of (s2 _ _ hpp),Ow,P,rfl,lu,λt ht=>⟨q,Z,ak ht _ _ _ dN,(by rw[cy];exact aR ∅),?_⟩⟩;obtain⟨g1,g2,g3⟩:=zQ (st:=l) (en:=if bM[i].1 > l then bM[i].1 else l) hq s2 dN hb ht;generalize aN (aN H2 t (.tup [.int l,.int (if bM[i].1 > l then bM[i].1 else l)])) q (.lst (ts.map V.ref++[.ref t]))=H3 at g1 g2 g3;exists Y,Y,r,K,V,bI.of (g3 _ _ h1),ix,as[i],K,V,cX.of (g3 _ _ hpp),LP,Y,P,rfl;refine⟨Y,Z,bM.length-(i+1),Q,i+1,_,ts++[t],Y,g1,g2,eq2,Q,Q,rfl,g3⟩
 ·have last:lo b l (bM.drop i)=[(l,b)]:=by
   by_cases li:i<bM.length
   ·have dr:bM.drop i=bM[i]::bM.drop (i+1):=List.drop_eq_getElem_cons li;have gd:bM.getD i (0,0)=bM[i]:=by rw[List.getD_eq_getElem?_getD,pS li];rfl
    rw[dr,lo,if_neg (λz=>c ⟨Q,by rw[gd];exact z⟩)]
   ·rw[ve ∅];rfl
  rw[last]at eq;refine⟨Y,.inl ⟨rfl,_,bI.of dN⟩,Y,Y,lu,λt ht=>⟨q,Z,ak ht _ _ _ dN,(by rw[cy];exact aR ∅),?_⟩⟩;obtain⟨g1,g2,g3⟩:=zQ (st:=l) (en:=b) hq s2 dN hb ht;rw[eq]at g2;exact⟨Y,k q _ _ ⟨_,g1,g2⟩ o1 res o3 ∅ g3 hq⟩
theorem Mp(aM:List aP):(eZ aM).length<=aM.length:=List.length_filterMap_le _ aM
class inductive WV
 | mk (r:Addr) (aM:List aP) (_:vs=[.ref r]) (_:bH H (.ref r) aM) (_:aM.length<=100000) (_ :
 ∀ (o:Addr) (H':Hp),H' o=some (.lst ((eZ aM).map V.int))->aI H H'->H o=none->Q (.ref o) H')
theorem Mq:aH ["items"] ["items"] (aA vq):=eU
theorem Ai:‹(1,13,["items"],WV)›:=λD=>by
 specialize eV D.Ww.F Mq;obtain⟨r,aM,rfl,⟨a,vs,e,jT,hp⟩,dI,k⟩:=h;cases e;refine⟨_,(au (aJ (gH (N:=["item"]) (om (sc:=aA vq) (NX:=["items"]) (jx:=[none]) rfl rfl rfl nofun nofun rfl nofun rfl nofun) rfl (cF (pv 0)) (λ_ _ _ _ _ _=>(ck (i:=0) (show List.Nodup (["item"]:List Str) by decide +kernel))) (λ_ _ _ _ _ _=>DG (aT d7 (aO KD (pv 0) ay) bx (aZ _))) (λ_ _ _ _ _ _=>(aO KD (pv 0) ay))))),?_⟩;refine⟨Y,r,rfl,⟨_,bI.of jT⟩,λacc cR=>gF (K:=K) (a:=r) (xs:=vs) (λi σ H2=>∃ u:Option V,σ=[u]/\H2 acc=some (.lst ((eZ (aM.take i)).map V.int))/\aI H H2) ⟨none,rfl,af,ak cR _⟩ (by rintro i σ H2 _ ⟨_,_,_,s⟩;exact bI.of (s _ _ jT)) ?_ ?_⟩
 ·rintro i x σ H2 hi ⟨u,rfl,ha,s⟩;obtain⟨it,ei,b,rfl,hb⟩:=hp.get hi;have step:eZ (aM.take (i+1))=eZ (aM.take i)++eZ [it]:=by rw[take_snoc ei,gm]
  have bl:(eZ (aM.take i)).length<=100000:=by
   have z:=Mp (aM.take i);rw[gx]at z;lia
  cases it with
  | win n =>
   refine⟨Y,b,K,V,cX.of (s _ _ hb),V,Y,cN (λ_=>?_) (λz=>absurd (by decide) z)⟩;refine⟨Y,b,K,V,cX.of (s _ _ hb),rfl,_,ha,(by rw[cy];exact aR ∅),Y,?_,bP cR s (aG acc _ _)⟩;rw[af,step,gw];rfl
  | aL p q =>
   refine⟨Y,b,K,V,cX.of (s _ _ hb),V,Y,cN (λz=>absurd z (by decide)) (λ_=>?_)⟩;refine⟨Y,?_,s⟩;rw[ha,step];show _=some (HO.lst ((eZ (aM.take i)++[]).map V.int));rw[gP]
 ·rintro σ H2 ⟨u,rfl,ha,s⟩;rw[hp.len,gO]at ha;exact k acc H2 ha s cR
structure Mr(rows:cU)(ks:List Int):Prop where
 E5:∀ x∈ks,0<=x/\x<rows.length
 dn:∀ (i:Nat) (x:Int),ks[i]?=some x->∀ y,j0 rows x y->y∈ks.take i
class inductive SH
 | mk (r L:Addr) (rows:cU) (ss:List Int) (_:vs=[.ref r,.ref L]) (_:fZ H r (rows.map aF)) (_:H L=some (.lst (ss.map V.int))) (_:ss.length<=1000) (_:rows.length<=1000) (_:(∀ es∈rows,es.length<=1000)) (_:gp rows) (_:Cu rows) (_:(∀ s∈ss,0<=s/\s<rows.length)) (_ :
 ∀ (ks:List Int) (o:Addr) (H':Hp),H' o=some (.lst (ks.map V.int))->aI H H'->Mr rows ks->(∀ s∈ss,s∈ks)->ks.length<=1000->H o=none->Q (.ref o) H')
theorem Mr.snoc{rows:cU}{ks:List Int}{x:Int}(h:Mr rows ks)(h0:0<=x)(h1:x<rows.length)(hx:∀ y,j0 rows x y->y∈ks):Mr rows (ks++[x]):=by
 refine⟨λy hy=>?_,λi y hi z hz=>?_⟩
 ·rcases List.mem_append.mp hy with q|q
  ·exact h.E5 y q
  ·have:y=x:=by simpa using q
   lia
 ·by_cases c:i<ks.length
  ·rw[List.getElem?_append_left c]at hi;rw[List.take_append_of_le_length ∅];exact h.dn i y hi z hz
  ·have c2:i=ks.length:=by
    rcases Nat.lt_or_ge i (ks++[x]).length with q|q
    ·rw[cY,gM]at q;lia
    ·rw[List.getElem?_eq_none q]at hi;cases hi
   subst c2;rw[List.getElem?_append_right (fF _),Nat.sub_self]at hi;cases hi;rw[List.take_append_of_le_length (fF _),gO];exact hx z hz
theorem CJ{kvs:List (fk × V)}{ks:List Int}(h:kvs.map (·.1)=ks.map Sum.inl)(x:Int):seen kvs x↔x∈ks:=by
 unfold seen;rw[← nB,List.any_eq_true];constructor
 ·rintro⟨p,hp,e⟩;have e':p.1=Sum.inl x:=of_decide_eq_true e;have:p.1∈ks.map (Sum.inl:Int->fk):=by rw[← h];exact List.mem_map_of_mem hp
  rw[e',List.mem_map]at this;obtain⟨y,hy,ey⟩:=this;rw[Sum.inl.inj ey]at hy;exact hy
 ·intro hx;have:(Sum.inl x:fk)∈kvs.map (·.1):=by rw[h];exact List.mem_map_of_mem hx
  obtain⟨p,hp,e⟩:=List.mem_map.mp this;exact⟨p,hp,decide_eq_true e⟩
structure Bel(rows:cU)(rk:Int->Nat)(H:Hp)(W S:Addr)(ss:List Int)(H2:Hp)(bs ps ks:List Int)(kvs:List (fk × V)):Prop where
 hW:H2 W=some (.lst ((bs++ps).map V.int))
 hS:H2 S=some (.dK kvs)
 sm:aI H H2
 ky:kvs.map (·.1)=ks.map Sum.inl
 tp:Mr rows ks
 rg:∀ x∈bs++ps,0<=x/\x<rows.length
 ns:∀ x∈ps,¬ seen kvs x
 pw:ps.Pairwise λa b=>rk b<rk a
 rb:∀ (i:Nat) (x:Int),ps[i]?=some x->rk x+i<=40
 st:∀ s∈ss,s∈bs\/s∈ks
 kl:kvs.length+oV rows.length kvs<=rows.length
 bl:bs.length<=1000
theorem CK{kvs:List (fk × V)}{k:fk}(v:V)(h:(cJ kvs k).isSome=true):(eT kvs k v).map (·.1)=kvs.map (·.1):=by
 unfold eT;rw[if_pos (by rw[nB];exact h),List.map_map];refine List.map_congr_left λp _=>?_;show (if p.1=k then (p.1,v) else p).1=p.1
 split <;> rfl
theorem IW{rk:Int->Nat}{ps:List Int}(rb:∀ (i:Nat) (x:Int),ps[i]?=some x->rk x+i<=40):ps.length<=41:=by
 rcases mZ ps with rfl|⟨p',n,rfl⟩
 ·simp
 ·rw[kM]at rb ⊢;have:=rb p'.length n (by rw[List.getElem?_append_right (fF _),Nat.sub_self];rfl);rw[cY,gM];lia
structure Top(rk:Int->Nat)(ss bs ps ks:List Int)(kvs:List (fk × V))(Bm vM:List Int)(n:Int):Prop where
 eq:bs++ps=Bm++vM++[n]
 ns:∀ x∈vM,¬ seen kvs x/\x≠n
 pw:vM.Pairwise λa b=>rk b<rk a
 rb:∀ (i:Nat) (x:Int),vM[i]?=some x->rk x+i<=40
 st:∀ s∈ss,s∈Bm\/s=n\/s∈ks
 old:seen kvs n->Bm.length+50-vM.length<bs.length+50-ps.length
 le:Bm.length+50-vM.length<=bs.length+51-ps.length
 bl:Bm.length<=bs.length
 up:∀ y:Int,rk y<=40->rk y<rk n->(ps++[y]).Pairwise (λa b=>rk b<rk a)/\∀ (i:Nat) (x:Int),(ps++[y])[i]?=some x->rk x+i<=40
theorem Bel.top{rows:cU}{rk:Int->Nat}{H:Hp}{W S:Addr}{ss:List Int}{H2:Hp}{bs ps ks:List Int}{kvs:List (fk × V)}(B:Bel rows rk H W S ss H2 bs ps ks kvs):bs++ps=[]\/∃ Bm vM n,Top rk ss bs ps ks kvs Bm vM n:=by
 have Ph:∀ (qs:List Int) (y:Int),(∀ (i:Nat) (x:Int),qs[i]?=some x->rk x+i<=40)->rk y+qs.length<=40->∀ (i:Nat) (x:Int),(qs++[y])[i]?=some x->rk x+i<=40:=by
  intro qs y h1 h2 i x hx;rcases Nat.lt_or_ge i qs.length with q|q
  ·rw[List.getElem?_append_left q]at hx;exact h1 i x hx
  ·have qi:i=qs.length:=by
    rcases Nat.lt_or_ge i (qs++[y]).length with w|w
    ·rw[cY,gM]at w;lia
    ·rw[List.getElem?_eq_none w]at hx;cases hx
   subst qi;rw[List.getElem?_append_right (fF _),Nat.sub_self]at hx;cases hx;exact h2
 rcases mZ ps with rfl|⟨vM,n,rfl⟩
 ·rcases mZ bs with rfl|⟨Bm,n,rfl⟩
  ·exact .inl rfl
  ·rw[kM]at B ⊢;refine .inr ⟨Bm,[],n,by simp,by simp,by simp,by simp,λs hs=>?_,λ_=>?_,?_,?_,λy h1 h2=>⟨by simp,Ph [] y (by simp) (by simpa using h1)⟩⟩
   ·rcases B.st s hs with z|z
    ·rcases List.mem_append.mp z with z|z
     ·exact .inl z
     ·exact .inr (.inl (by simpa using z))
    ·exact .inr (.inr z)
   ·rw[cY,gM];simp only[qO];lia
   ·rw[cY,gM];simp only[qO];lia
   ·rw[cY,gM];lia
 ·rw[kM]at B ⊢;have pwd:=List.pairwise_append.mp B.pw;have rbn:=B.rb vM.length n (by rw[List.getElem?_append_right (fF _),Nat.sub_self];rfl);refine .inr ⟨bs,vM,n,by rw[nV],λx hx=>⟨B.ns x (qM _ hx),λe=>?_⟩,pwd.1,λi x hx=>?_,λs hs=>(B.st s hs).elim .inl λz=>.inr (.inr z),λz=>absurd z (B.ns n (by simp)),?_,fF _,λy h1 h2=>⟨?_,Ph _ y B.rb ?_⟩⟩
  ·subst e;exact Nat.lt_irrefl _ (pwd.2.2 x hx x (by simp))
  ·refine B.rb i x ?_;rw[List.getElem?_append_left]
   ·exact hx
   ·rcases Nat.lt_or_ge i vM.length with q|q
    ·exact q
    ·rw[List.getElem?_eq_none q]at hx;cases hx
  ·rw[cY,gM];lia
  ·rw[List.pairwise_append];refine⟨B.pw,by simp,λa ha c hc=>?_⟩;have:c=y:=by simpa using hc
   subst this;rcases List.mem_append.mp ha with q|q
   ·have:=pwd.2.2 a q n (by simp);lia
   ·have:a=n:=by simpa using q
    subst this;exact h2
  ·rw[cY,gM];lia
def UK(rows:cU)(rk:Int->Nat)(H:Hp)(r L W S:Addr)(ss:List Int)(m:Nat)(σ:L2.St)(H2:Hp):Prop:=∃ (bs ps ks:List Int) (kvs:List (fk × V)) (u v:Option V),σ=[some (.ref r),some (.ref L),some (.ref S),some (.ref W),u,v]/\Bel rows rk H W S ss H2 bs ps ks kvs/\m=100*oV rows.length kvs+(bs.length+50-ps.length)
theorem vN:aH ["rows","sheets","told","waiting","number","missing"] ["rows","sheets"] (aA Dv):=eU
theorem F8:‹(2,14,["rows","sheets"],SH)›:=λD=>by
 refine eV D.Wx.F vN λcV A zn s0 H vs Q E hr h=>?_;obtain⟨r,L,rows,ss,rfl,hR,hL,hsl,dI,hes,pR,⟨rk,hrb,xq⟩,hin,k⟩:=h;have hu:=gG hr;refine⟨_,(aj (aV (i:=2) vN.nd nC) (aj (aV (i:=3) vN.nd (eS fY rfl D.T.jw uc (aa (pv 1) ah))) (aj (rf PassesOwn.never (kQ (pv 3) (λ_=>rfl)) (aj (aV (i:=4) vN.nd (aO bu (pv 3) (fQ dR ay))) (aj (Sd (N:=["other","told"]) (i:=5) (om (sc:=aA Dv) (NX:=["rows","sheets","told","waiting","number","missing"]) (jx:=[none,some 2]) rfl rfl rfl nofun nofun rfl nofun rfl nofun) rfl vN.nd rfl rfl (cF (aC D.Ww (Ai D) hr (aa (aO bu (pv 0) (pv 4)) ah))) (λ_ _ _ _ _ _=>(ck (i:=0) (show List.Nodup (["other","told"]:List Str) by decide +kernel))) (λ_ _ _ _ _ _=>DG (Dj (Cq hu (pv 0) (pv 1)))) (λ_ _ _ _ _ _=>(pv 0))) (au (bN (kQ (pv 5) (λ_=>rfl)) (au (aU (dJ pQ jE jF bQ (pv 3) (aa (aO bu (pv 5) ay) ah)))) (aj (vB hu (pv 2) (pv 4) lY rfl) (au (aU (N3 pQ PySem.F.slot_list_pop PySem.F.type_list_pop N7 (pv 3)))))))))) (au (aJ (eS (IB rfl) rfl D.T.jw uc (aa (pv 2) ah))))))),?_⟩;intro S hS;have s1:aI H (aN H S (.dK [])):=ak hS _;refine⟨Y,L,Y,.inl (bI.of (s1 _ _ hL)),λW hW=>?_⟩;have s2:=s1.trans (ak hW (.lst (ss.map V.int)))
 have SI:H W=none:=by
  cases e:H W with
  | none=>rfl
  | some o=>exact absurd ((s1 _ _ e).symm.trans hW) (by simp)
 have UL:W≠S:=(az af hW).symm;refine⟨UK rows rk H r L W S ss,⟨_,ss,[],[],[],none,none,rfl,⟨(by rw[af,gP]),ak hW _ _ _ af,s2,rfl,⟨(λx hx=>by cases hx),λi x hi=>by simp at hi⟩,(λx hx=>hin x (by simpa using hx)),by simp,by simp,by simp,(λs hs=>.inl hs),?_,hsl⟩,rfl⟩,?_⟩
 ·have:=zZ rows.length (λi=>(cJ ([]:List (fk × V)) (Sum.inl (i:Int))).isNone);show 0+cnt rows.length _<=_;lia
 rintro m σ H2 ⟨bs,ps,ks,kvs,u,v,rfl,B,rfl⟩;exists Y,!((bs++ps).map V.int).isEmpty,.inl ⟨_,bI.of B.hW,rfl⟩;rcases B.top with en|⟨Bm,vM,n,t⟩
 ·have e2:(!((bs++ps).map V.int).isEmpty)=false:=by rw[en];rfl
  rw[e2];refine eO ?_
  have ek:kvs.map (λp=>kV p.1)=ks.map V.int:=by
   have z:kvs.map (λp=>kV p.1)=(kvs.map (·.1)).map kV:=by rw[List.map_map];rfl
   rw[z,B.ky,List.map_map];rfl
  have kl:ks.length=kvs.length:=by
   have z:=congrArg List.length B.ky;rw[cy,cy]at z;exact z.symm
  have kll:=B.kl;refine⟨Y,S,kvs,rfl,B.hS,λl hl=>?_⟩;refine k ks l _ (by rw[af,ek]) (B.sm.trans (ak hl _)) B.tp (λs hs=>(B.st s hs).elim (λz=>?_) id) ∅ ?_
  ·rw[(List.append_eq_nil_iff.mp en).1]at z;cases z
  cases e:H l with
  | none=>rfl
  | some o=>exact absurd ((B.sm _ _ e).symm.trans hl) (by simp)
 have eW:=B.hW;rw[t.eq]at eW;rw[t.eq];refine cN (λ_=>?_) (λz=>absurd (by simp) z);refine⟨fun σ' H'=>∃ m',m'<100*oV rows.length kvs+(bs.length+50-ps.length)/\UK rows rk H r L W S ss m' σ' H',fun σ' H' z=>z,?_⟩;have an:pU ((Bm++vM++[n]).map V.int) (-1)=some (.int n):=by rw[gw];exact eK _ _
 obtain⟨n0,n1⟩:=B.rg n (by rw[t.eq];simp);have tl:=t.le;have Ud:=t.bl;have pl:=IW B.rb;have pl':=IW t.rb;have bbl:=B.bl;obtain⟨es,fj⟩:∃ es,rows[n.toNat]?=some es:=⟨_,pS ∅⟩;have WW:=hes es (oF fj);obtain⟨yf,F2,vO⟩:=hR.same B.sm;obtain⟨vi,Bo,hI⟩:=vO.get' (i:=n.toNat) (b:=aF es) (by rw[mY,fj];rfl);obtain⟨b,IX,rfl,hb,rL⟩:=id hI;have hil:=pH es []
 have vP:pU yf n=some (.ref b):=by
  have z:=cO Bo;rw[show ((n.toNat:Nat):Int)=n by lia]at z;exact z
 exists Y,Y,W,K,V,bI.of eW,an;refine⟨Y,Y,r,K,V,bI.of F2,vP,b,aF es,rfl,hI,?_,λz H4 hz s4 nz=>?_⟩
 ·show (es.foldl bh []).length<=_;simp only[qO]at hil;lia
 rw[iE]at hz;have ad5:(dO es).length<=es.length:=List.length_filterMap_le _ es;have hS4:=s4 _ _ B.hS;have hW4:=s4 _ _ eW;refine⟨z,rfl,⟨_,bI.of hz⟩,λacc cR=>gF (K:=K) (a:=z) (xs:=(dO es).map V.int) (λi σ H5=>∃ u:Option V,σ=[u,some (.ref S)]/\H5 acc=some (.lst ((((dO es).take i).filter (λy=>(cJ kvs (Sum.inl y)).isNone)).map V.int))/\aI H4 H5) ⟨none,rfl,af,ak cR _⟩ (by rintro i σ H5 _ ⟨_,_,_,s5⟩;exact bI.of (s5 _ _ hz)) ?_ ?_⟩
 ·rintro i x σ H5 hi ⟨u,rfl,h5,s5⟩;rw[mY]at hi;obtain⟨y,ey,rfl⟩:=Option.map_eq_some_iff.mp hi;have st:=take_snoc ey
  have bl:(((dO es).take i).filter (λy=>(cJ kvs (Sum.inl y)).isNone)).length<=1000:=by
   have z:=List.length_filter_le (λy=>(cJ kvs (Sum.inl y)).isNone) ((dO es).take i);rw[gx]at z;lia
  exists Y,Y,S,Y,iR.k (k:=Sum.inl y) (s5 _ _ hS4),Y
  cases ev:cJ kvs (Sum.inl y) with
  | none =>
   refine jH ⟨Y,_,h5,(by rw[cy];exact aR ∅),Y,?_,bP cR s5 (aG acc _ _)⟩;rw[af,st,List.filter_append,List.filter_cons_of_pos (p:=λy=>(cJ kvs (Sum.inl y)).isNone) (by rw[ev];rfl),gw];rfl
  | some o =>
   refine eO ⟨Y,?_,s5⟩;rw[st,List.filter_append,List.filter_cons_of_neg (p:=λy=>(cJ kvs (Sum.inl y)).isNone) (by rw[ev];exact nY),List.filter_nil,gP];exact h5
 rintro σ H5 ⟨u,rfl,h5,s5⟩;rw[cy,gO]at h5;have hS5:=s5 _ _ hS4;have hW5:=s5 _ _ hW4;have sm5:=B.sm.trans (s4.trans s5);have kll:=B.kl;exists Y,_,.inl ⟨_,bI.of h5,rfl⟩
 cases em:(dO es).filter (λy=>(cJ kvs (Sum.inl y)).isNone) with
 | nil =>
  refine eO ?_
  have ad8:∀ y,j0 rows n y->y∈ks:=by
   rintro y ⟨_,wz,Ky,hy⟩;rw[fj]at Ky;cases Ky;rw[← CJ B.ky];have z:=List.filter_eq_nil_iff.mp em y hy;unfold seen
   cases q:cJ kvs (Sum.inl y) with
   | none=>rw[q]at z;exact absurd rfl z
   | some o=>rfl
  refine⟨Y,Y,S,Y,DK.k (k:=Sum.inl n) hS5 (aR ∅),?_⟩;have QZ:(aN H5 S (.dK (eT kvs (Sum.inl n) (.bl true)))) W=some (.lst ((Bm++vM++[n]).map V.int)):=by rw[aK UL];exact hW5
  refine⟨Y,.inl ⟨rfl,_,bI.of QZ⟩,W,_,.int n,V,QZ,(by simp),?_⟩;have ee:((Bm++vM++[n]).map V.int).dropLast=(Bm++vM).map V.int:=by rw[gw (l₁:=Bm++vM),List.map_singleton,List.dropLast_concat]
  rw[ee];have rg':∀ x∈Bm++vM,0<=x/\x<rows.length:=λx hx=>B.rg x (by rw[t.eq];exact qM _ hx)
  cases en:cJ kvs (Sum.inl n) with
  | none =>
   have mp:=FP (n:=rows.length) (.bl true) n0 n1 en;refine⟨100*oV rows.length (eT kvs (Sum.inl n) (.bl true))+(Bm.length+50-vM.length),Q,Bm,vM,ks++[n],eT kvs (Sum.inl n) (.bl true),P,rfl,⟨af,(by rw[aK UL.symm,af]),bP SI (bP hS sm5 (aG S _ _)) (aG W _ _),?_,B.tp.snoc n0 n1 ad8,rg',λx hx=>?_,t.pw,t.rb,λs hs=>?_,?_,Q⟩,rfl⟩
   ·rw[zT _ en,gw,B.ky,gw];rfl
   ·intro q;rcases (FO _).mp q with e|e
    ·exact (t.ns x hx).2 e
    ·exact (t.ns x hx).1 e
   ·rcases t.st s hs with q|q|q
    ·exact .inl q
    ·exact .inr (by rw[q];simp)
    ·exact .inr (qM _ q)
   ·rw[zT _ en,cY,gM]at *;lia
  | some o =>
   have sn:seen kvs n:=by unfold seen;rw[en];rfl
   have so:=t.old sn
   have sp:∀ x,seen (eT kvs (Sum.inl n) (.bl true)) x↔seen kvs x:=λx=>by
    rw[FO];exact⟨λz=>z.elim (λe=>by rw[e];exact sn) id,.inr⟩
   have ms:oV rows.length (eT kvs (Sum.inl n) (.bl true))=oV rows.length kvs:=by
    refine OO _ λi _=>?_;have z:=sp (i:Int);unfold seen at z
    cases q1:cJ (eT kvs (Sum.inl n) (.bl true)) (Sum.inl (i:Int)) with
    | none =>
     cases q2:cJ kvs (Sum.inl (i:Int)) with
     | none=>rfl
     | some o2=>rw[q1,q2]at z;exact absurd (z.mpr rfl) nY
    | some o1 =>
     cases q2:cJ kvs (Sum.inl (i:Int)) with
     | none=>rw[q1,q2]at z;exact absurd (z.mp rfl) nY
     | some o2=>rfl
   have kn:n∈ks:=(CJ B.ky n).mp sn;refine⟨100*oV rows.length (eT kvs (Sum.inl n) (.bl true))+(Bm.length+50-vM.length),by rw[ms];lia,Bm,vM,ks,eT kvs (Sum.inl n) (.bl true),P,rfl,⟨af,(by rw[aK UL.symm,af]),bP SI (bP hS sm5 (aG S _ _)) (aG W _ _),?_,B.tp,rg',λx hx q=>(t.ns x hx).1 ((sp x).mp q),t.pw,t.rb,λs hs=>?_,?_,Q⟩,rfl⟩
   ·rw[CK _ (by rw[en];rfl),B.ky]
   ·rcases t.st s hs with q|q|q
    ·exact .inl q
    ·exact .inr (by rw[q];exact kn)
    ·exact .inr q
   ·have z:=congrArg List.length (CK (kvs:=kvs) (k:=Sum.inl n) (.bl true) (by rw[en];rfl));rw[cy,cy]at z;rw[z,ms];exact kll
 | cons y ts =>
  refine jH ?_;rw[em]at h5;have ym:y∈(dO es).filter (λy=>(cJ kvs (Sum.inl y)).isNone):=by rw[em];simp
  obtain⟨yw,yn⟩:=List.mem_filter.mp ym;have Hw:j0 rows n y:=⟨n0,es,fj,yw⟩;obtain⟨y0,y1⟩:=pR.EY Hw;obtain⟨up1,up2⟩:=t.up y (hrb y) (xq n y Hw);have wl:=congrArg List.length t.eq;rw[cY]at wl;refine⟨Y,.inl ⟨rfl,_,bI.of hW5⟩,Y,acc,K,V,bI.of h5,cO (xs:=V.int y::ts.map V.int) (j:=0) rfl,W,Z,hW5,(by rw[cy,← wl];exact aR ∅),?_⟩;have pl2:=IW up2;rw[cY,gM]at pl2;refine⟨100*oV rows.length kvs+(bs.length+50-(ps++[y]).length),?_,bs,ps++[y],ks,kvs,P,rfl,⟨(by rw[af,← nV,t.eq,gw (l₁:=Bm++vM++[n])];rfl),(by rw[aK UL.symm];exact hS5),bP SI sm5 (aG W _ _),B.ky,B.tp,λx hx=>?_,λx hx=>?_,up1,up2,B.st,kll,bbl⟩,rfl⟩
  ·rw[cY,gM];lia
  ·rw[← nV]at hx;rcases List.mem_append.mp hx with q|q
   ·exact B.rg x q
   ·have:x=y:=by simpa using q
    subst this;exact⟨y0,y1⟩
  ·rcases List.mem_append.mp hx with q|q
   ·exact B.ns x q
   ·have:x=y:=by simpa using q
    subst this;intro q;unfold seen at q
    cases w:cJ kvs (Sum.inl x) with
    | none=>rw[w]at q;cases q
    | some o=>rw[w]at yn;cases yn
structure Bfs(rows:cU)(H:Hp)(W S:Addr)(s:Int)(H2:Hp)(vs:List V)(wl:cU)(kvs:List (fk × V)):Prop where
 hW:H2 W=some (.lst vs)
 hl:bS (fH (λa=>a=W\/a=S) H2) vs wl
 hS:H2 S=some (.dK kvs)
 sm:aI H H2
 wk:∀ w∈wl,w.length<=kvs.length+1/\∃ e,w.getLast?=some e/\0<=e/\e<rows.length/\(e=s\/Reach (j0 rows) s e)
 kl:kvs.length+oV rows.length kvs<=rows.length
class inductive UM
 | mk (r:Addr) (rows:cU) (s g:Int) (_:vs=[.ref r,.int s,.int g]) (_:fZ H r (rows.map aF)) (_:rows.length<=1000) (_:(∀ es∈rows,es.length<=1000)) (_:gp rows) (_:0<=s) (_:s<rows.length) (_:¬ Reach (j0 rows) s g) (_:∀ H',aI H H'->Q .gj H')
theorem iZ:aH ["rows","start","goal","ways","seen","way","number"] ["rows","start","goal"] (aA pV):=eU
def muW(n:Nat)(W S:Addr):L2.St->Hp->Nat:=λ_ H=>match H W,H S with
 | some (.lst vs),some (.dK kvs)=>2*oV n kvs+vs.length
 | _,_=>0
theorem Pj{n:Nat}{W S:Addr}{σ:L2.St}{H:Hp}{vs:List V}{kvs:List (fk × V)}(h1:H W=some (.lst vs))(h2:H S=some (.dK kvs)):muW n W S σ H=2*oV n kvs+vs.length:=by
 unfold muW;rw[h1,h2]
def UN(rows:cU)(H:Hp)(r W S:Addr)(s g:Int)(σ:L2.St)(H2:Hp):Prop:=∃ (vs:List V) (wl:cU) (kvs:List (fk × V)) (u v:Option V),σ=[some (.ref r),some (.int s),some (.int g),some (.ref W),some (.ref S),u,v]/\Bfs rows H W S s H2 vs wl kvs/\vs.length+2*oV rows.length kvs<=2*rows.length+1
theorem Aj:‹(2,15,["rows","start","goal"],UM)›:=λD=>by
 refine eV D.ZN.F iZ λcV A zn s0 H vs Q E hr h=>?_;obtain⟨r,rows,s,g,rfl,hR,dI,hes,pR,h0,h1,nr,kN⟩:=h;have hu:=gG hr;refine⟨_,(aj (aV (i:=3) iZ.nd (bL (aa (bL (aa (pv 1) ah)) ah))) (aj (aV (i:=4) iZ.nd nC) (aj (rf PassesOwn.never (kQ (pv 3) (λ_=>rfl)) (aj (aV (i:=5) iZ.nd (dJ pQ PySem.F.slot_list_pop PySem.F.type_list_pop N8 (pv 3) (aa ay ah))) (au (dQ PassesOwn.never rfl (cF (aC D.Ww (Ai D) hr (aa (aO bu (pv 0) (aO bu (pv 5) (fQ dR ay))) ah))) (ck (i:=6) iZ.nd) (aj (bN (aT d7 (pv 6) (pv 2) (aZ _)) (au (aJ (bz jK (pv 5) (bL (aa (pv 2) ah))))) bg) (au (bN (Dj (Cq hu (pv 6) (pv 4))) (aj (vB hu (pv 4) (pv 6) lY rfl) (au (aU (dJ pQ jE jF bQ (pv 3) (aa (bz jK (pv 5) (bL (aa (pv 6) ah))) ah))))) bg))))))) (au (aJ Vm))))),?_⟩;refine⟨Y,mD,λa0 F4=>⟨mD,λW hW=>?_⟩⟩;intro S hS;have s1:aI H (aN H a0 (.lst [.int s])):=ak F4 _;have s2:=s1.trans (ak hW (.lst [.ref a0]));have s3:=s2.trans (ak hS (.dK []))
 have SI:H W=none:=by
  cases e:H W with
  | none=>rfl
  | some o=>exact absurd ((s1 _ _ e).symm.trans hW) (by simp)
 have H0S:H S=none:=by
  cases e:H S with
  | none=>rfl
  | some o=>exact absurd ((s2 _ _ e).symm.trans hS) (by simp)
 have UL:W≠S:=az af hS;have n0W:a0≠W:=az af hW;have n0S:a0≠S:=az (ak hW _ _ _ af) hS;exists λm σ H2=>m=muW rows.length W S σ H2/\UN rows H r W S s g σ H2,⟨Y,?_⟩
 ·have cl:=zZ rows.length (λi=>(cJ ([]:List (fk × V)) (Sum.inl (i:Int))).isNone);refine⟨[.ref a0],[[s]],[],none,none,rfl,⟨ak hS _ _ _ af,.cons ⟨a0,rfl,(λz=>z.elim n0W n0S),ak hS _ _ _ (ak hW _ _ _ af)⟩ .nil,af,s3,?_,?_⟩,?_⟩
  ·intro w hw;have:w=[s]:=by simpa using hw
   subst this;exact⟨by simp,s,rfl,h0,h1,.inl rfl⟩
  ·show 0+oV rows.length []<=rows.length;unfold oV;lia
  ·show 1+2*oV rows.length []<=_;unfold oV;lia
 ·rintro m σ H2 ⟨rfl,vs,wl,kvs,u,v,rfl,B,hml⟩;rw[Pj B.hW B.hS];exists Y,!vs.isEmpty,.inl ⟨vs,bI.of B.hW,rfl⟩
  cases vs with
  | nil =>
   exact eO (kN H2 B.sm)
  | cons v0 DM =>
   refine jH ⟨fun σ' H'=>UN rows H r W S s g σ' H'/\muW rows.length W S σ' H'<2*oV rows.length kvs+(v0::DM).length,fun σ' H' ⟨p,l⟩=>⟨_,l,rfl,p⟩,?_⟩;obtain⟨hW2,B4,Wi,sm2,wk2,kl2⟩:=id B
   cases B4 with
   | @cons _ w0 _ Yc hv0 aeb =>
   obtain⟨wa,rfl,nwa,hwa⟩:=id hv0;obtain⟨wlw,e,hle,e0,e1,Hx⟩:=wk2 w0 (by simp)
   have wal:∃ w1,w0=w1++[e]:=by
    rw[List.getLast?_eq_some_iff]at hle;exact hle
   obtain⟨w1,rfl⟩:=wal;obtain⟨es,fj⟩:∃ es,rows[e.toNat]?=some es:=⟨_,pS ∅⟩;have aec:es∈rows:=oF fj;have WW:=hes es aec;exists Y,.inl ⟨rfl,_,bI.of hW2⟩,W,_,0,0,.ref wa,V,hW2,E,E,(by simp[seqIndex?]),rfl;have ee:(V.ref wa::DM).eraseIdx 0=DM:=rfl;rw[ee];have aaD:∀ {v:V} {ns:List Int},fH (λa=>a=W\/a=S) H2 v ns->fH (λa=>a=W\/a=S) (aN H2 W (.lst DM)) v ns:=λh=>h.at _ (.inl rfl);have Pk:aI H (aN H2 W (.lst DM)):=bP SI sm2 (aG W _ _);obtain⟨yf,Mm,vO⟩:=hR.same Pk;obtain⟨vi,Bo,hI⟩:=vO.get' (i:=e.toNat) (b:=aF es) (by rw[mY,fj];rfl);obtain⟨b,IX,rfl,hb,rL⟩:=id hI
   have aed:(aN H2 W (.lst DM)) wa=some (.lst (w1.map V.int++[.int e])):=by
    rw[aK (λz=>nwa (.inl z)),hwa,gw];rfl
   have hil:=pH es [];refine⟨Y,Y,Y,wa,K,V,bI.of aed,eK _ _,r,K,V,bI.of Mm,?_,b,aF es,rfl,hI,?_,λz H4 hz s4 nz=>?_⟩
   ·have z:=cO Bo;rw[show ((e.toNat:Nat):Int)=e by lia]at z;exact z
   ·show (es.foldl bh []).length<=_;simp only[qO]at hil;lia
   rw[iE]at hz;have hW3:(aN H2 W (.lst DM)) W=some (.lst DM):=af;have Ms:(aN H2 W (.lst DM)) S=some (.dK kvs):=by rw[aK UL.symm];exact Wi
   have nzW:z≠W:=(az hW3 nz).symm;have nzS:z≠S:=(az Ms nz).symm;have ad5:(dO es).length<=es.length:=List.length_filterMap_le _ es;refine⟨z,rfl,⟨_,bI.of hz⟩,dm (K:=K) (a:=z) (xs:=(dO es).map V.int) (λi σ H5=>∃ (Q0:List V) (Yd:cU) (qR:List (fk × V)) (v:Option V),σ=[some (.ref r),some (.int s),some (.int g),some (.ref W),some (.ref S),some (.ref wa),v]/\ Bfs rows H W S s H5 Q0 Yd qR/\fH (λa=>a=W\/a=S) H5 (.ref wa) (w1++[e])/\fH (λa=>a=W\/a=S) H5 (.ref z) (dO es)/\Q0.length+2*oV rows.length qR<=DM.length+2*oV rows.length kvs/\kvs.length<=qR.length) ?_ ?_ ?_ ?_⟩
   ·refine⟨DM,Yc,kvs,Y,⟨s4 _ _ hW3,aeb.mono λ_ _ h=>(aaD h).same s4,s4 _ _ Ms,Pk.trans s4,λw hw=>wk2 w (mO _ hw),kl2⟩,(aaD hv0).same s4,⟨z,rfl,λq=>q.elim nzW nzS,hz⟩,fF _,fF _⟩
   ·rintro i σ H5 _ ⟨_,_,_,_,_,_,_,⟨a,ea,_,ha⟩,_⟩;cases ea;exact bI.of ha
   ·rintro i x σ H5 hi ⟨Q0,Yd,qR,v,rfl,B5,SJ,hz5,Ye,hk5⟩;rw[mY]at hi;obtain⟨y,ey,rfl⟩:=Option.map_eq_some_iff.mp hi;have Hw:j0 rows e y:=⟨e0,es,fj,oF ey⟩;obtain⟨y0,y1⟩:=pR.EY Hw
    have sy:Reach (j0 rows) s y:=by
     rcases Hx with rfl|q
     ·exact .one Hw
     ·exact .step q Hw
    obtain⟨wa',ewa,aef,aaE⟩:=id SJ;cases ewa;have wl0:(w1++[e]).length<=2000:=by have:=B5.kl;lia
    refine⟨Y,Y,rfl,Y,cN (λc=>?_) (λc=>?_)⟩
    ·have eg:y=g:=V.int.inj (of_decide_eq_true c);exact absurd (eg ▸ sy) nr
    ·exists Y,Y,S,Y,iR.k (k:=Sum.inl y) B5.hS,Y
     cases ev:cJ qR (Sum.inl y) with
     | some o1 =>
      refine eO ?_;exact⟨Q0,Yd,qR,Y,B5,SJ,hz5,Ye,hk5⟩
     | none =>
      refine jH ?_;have kll:=B5.kl;refine⟨Y,Y,S,Y,DK.k (k:=Sum.inl y) B5.hS (aR ∅),?_⟩;have e6:∀ {v:V} {ns:List Int},fH (λa=>a=W\/a=S) H5 v ns->fH (λa=>a=W\/a=S) (aN H5 S (.dK (eT qR (Sum.inl y) (.bl true)))) v ns:=λh=>h.at _ (.inr rfl);have s6:aI H (aN H5 S (.dK (eT qR (Sum.inl y) (.bl true)))):=bP H0S B5.sm (aG S _ _);have QZ:(aN H5 S (.dK (eT qR (Sum.inl y) (.bl true)))) W=some (.lst Q0):=by rw[aK UL];exact B5.hW
      have aaF:(aN H5 S (.dK (eT qR (Sum.inl y) (.bl true)))) wa=some (.lst ((w1++[e]).map V.int)):=by rw[aK (λq=>aef (.inr q))];exact aaE
      have WX:(aN H5 S (.dK (eT qR (Sum.inl y) (.bl true)))) S=some (.dK (eT qR (Sum.inl y) (.bl true))):=af;generalize aN H5 S (.dK (eT qR (Sum.inl y) (.bl true)))=H6 at e6 s6 QZ aaF WX;have vl:Q0.length<sizeLine:=aR (by simp only[eY]at hml;lia);refine⟨Y,.inl ⟨rfl,_,bI.of QZ⟩,Y,Y,mD,λb1 EZ=>⟨wa,b1,Z,ak EZ _ _ _ aaF,af,gT (aR (by rw[cy];simp at wl0 ⊢;lia)),λo ho=>⟨W,Z,ak ho _ _ _ (ak EZ _ _ _ QZ),vl,?_⟩⟩⟩;have s7:aI H6 (aN H6 b1 (.lst [.int y])):=ak EZ _;have s8:=s7.trans (ak ho (.lst ((w1++[e]).map V.int++[.int y])));have noW:o≠W:=(az (s7 _ _ QZ) ho).symm;have noS:o≠S:=(az (s7 _ _ WX) ho).symm;have e9:∀ {v:V} {ns:List Int},fH (λa=>a=W\/a=S) H5 v ns->fH (λa=>a=W\/a=S) (aN (aN (aN H6 b1 (.lst [.int y])) o (.lst ((w1++[e]).map V.int++[.int y]))) W (.lst (Q0++[.ref o]))) v ns:=λh=>((e6 h).same s8).at _ (.inl rfl);have mp:=FP (n:=rows.length) (.bl true) y0 y1 ev;have pl:(eT qR (Sum.inl y) (.bl true)).length=qR.length+1:=by rw[zT _ ev];simp
      exists Q0++[.ref o],Yd++[w1++[e]++[y]],eT qR (Sum.inl y) (.bl true),Y,⟨af,bS.snoc (B5.hl.mono λ_ _ h=>e9 h) ⟨o,rfl,λq=>q.elim noW noS,?_⟩,?_,bP SI (s6.trans s8) (aG W _ _),?_,?_⟩,e9 SJ,e9 hz5,?_
      ·rw[aK noW,af,gw (l₁:=w1++[e])];rfl
      ·rw[aK UL.symm];exact s8 _ _ WX
      ·intro w hw;rcases List.mem_append.mp hw with q|q
       ·obtain⟨q2,q3⟩:=B5.wk w q;exact⟨Q,q3⟩
       ·have:w=w1++[e]++[y]:=by simpa using q
        subst this;refine⟨?_,y,by simp,y0,y1,.inr sy⟩;rw[cY,gM,pl];lia
      ·lia
      ·rw[cY,gM];lia
      ·lia
   ·rintro σ H5 ⟨Q0,Yd,qR,v,rfl,B5,SJ,hz5,Ye,hk5⟩;simp only[eY]at hml;exists ⟨Q0,Yd,qR,P,rfl,B5,Q⟩;rw[Pj B5.hW B5.hS,eY];lia
class inductive WY
 | mk (r:Addr) (s:Int) (_:vs=[.ref r,.int s]) (_:UM [.ref r,.int s,.int s] H Q E)
theorem WZ:aH ["rows","sheet"] ["rows","sheet"] (aA Og):=eU
theorem SK:‹(3,16,["rows","sheet"],WY)›:=λD=>by
 specialize eV D.ZO.F WZ;obtain⟨r,s,rfl,h⟩:=h;exists _,(au (aJ (aC D.ZN (Aj D) hr (aa (pv 0) (aa (pv 1) (aa (pv 1) ah))))));exists Y,Y,Y;obtain⟨r',rows,s',g,e,h1,h2,h3,h4,h5,h6,nr,kN⟩:=h;cases e;exact⟨r,rows,s,s,rfl,h1,h2,h3,h4,h5,h6,nr,kN⟩
def j5(f:Int->Int)(es:List Int):Int:=(es.map λe=>if e<0 then 1+f (-1-e) else 1).sum
def D0(f:Int->Int):aP->Int
 | .win n=>1+f n
 | .aL a b=>b-a
def F9(f:Int->Int)(aM:List aP):Int:=(aM.map (D0 f)).sum
theorem nG(f:Int->Int)(a b:List aP):F9 f (a++b)=F9 f a+F9 f b:=by unfold F9;rw[gw,List.sum_append]
theorem Pn(f:Int->Int)(t:List aP)(e:Int):F9 f (bh t e)=F9 f t+(if e<0 then 1+f (-1-e) else 1):=by
 unfold bh;by_cases h:e<0
 ·rw[if_pos h,if_pos h,nG];simp[F9,D0]
 ·rw[if_neg h,if_neg h];rcases mZ t with rfl|⟨t',l,rfl⟩
  ·simp[F9,D0];lia
  ·rw[kM,nU]
   cases l with
   | win n =>
    show F9 f (t'++[aP.win n]++[.aL e (e+1)])=_;rw[nG];simp[F9,D0];lia
   | aL a b =>
    show F9 f (if b=e then (t'++[aP.aL a b]).dropLast++[.aL a (e+1)] else (t'++[aP.aL a b])++[.aL e (e+1)])=_;by_cases hb:b=e
    ·rw[if_pos hb,List.dropLast_concat,nG,nG];simp[F9,D0];lia
    ·rw[if_neg hb,nG];simp[F9,D0];lia
theorem Mt(f:Int->Int)(es:List Int):F9 f (aF es)=j5 f es:=by
 have z:∀ t:List aP,F9 f (es.foldl bh t)=F9 f t+j5 f es:=by
  induction es with
  | nil=>intro t;simp[j5]
  | cons e es ih =>
   intro t;rw[kO,ih,Pn];unfold j5;rw[jJ,List.sum_cons];lia
 have:=z [];unfold aF;rw[this];simp[F9]
def Weighs(rows:cU)(f:Int->Int):Prop:=∀ (x:Int) (es:List Int),0<=x->rows[x.toNat]?=some es->f x=j5 f es
def wF(rows:cU):Nat->Int->Int
 | 0,_=>0
 | k+1,x=>match rows[x.toNat]? with
  | some es=>j5 (wF rows k) es
  | none=>0
theorem IY{f g:Int->Int}{es:List Int}(h:∀ y∈dO es,f y=g y):j5 f es=j5 g es:=by
 unfold j5;congr 1;refine List.map_congr_left λe he=>?_;by_cases c:e<0
 ·rw[if_pos c,if_pos c,h (-1-e) (bT.mpr ⟨Q,by rw[show -1-(-1-e)=e by lia];exact he⟩)]
 ·rw[if_neg c,if_neg c]
theorem CL{rows:cU}(h:Cu rows):∃ f,Weighs rows f:=by
 obtain⟨rk,hb,hd⟩:=h
 have key:∀ (k:Nat) (x:Int),0<=x->rk x<k->wF rows k x=wF rows (k+1) x:=by
  intro k
  induction k with
  | zero=>intro x _ h;lia
  | succ k ih =>
   intro x x0 hx
   cases e:rows[x.toNat]? with
   | none=>simp[wF,e]
   | some es =>
    have e1:wF rows (k+1) x=j5 (wF rows k) es:=by simp[wF,e]
    have e2:wF rows (k+1+1) x=j5 (wF rows (k+1)) es:=by
     show (match rows[x.toNat]? with|some es=>j5 (wF rows (k+1)) es|none=>0)=_;rw[e]
    rw[e1,e2];refine IY λy hy=>ih y (bT.mp hy).1 ?_;have:=hd x y ⟨x0,es,e,hy⟩;lia
 refine⟨wF rows 41,λx es x0 he=>?_⟩;rw[key 41 x x0 (by have:=hb x;lia)];show (match rows[x.toNat]? with|some es=>j5 (wF rows 41) es|none=>0)=_;rw[he]
class inductive aeg
 | mk (v:V) (it:aP) (S:Addr) (kvs:List (fk × V)) (f:Int->Int) (_:vs=[v,.ref S]) (_:cI H v it) (_:H S=some (.dK kvs)) (_:(∀ n,it=.win n->cJ kvs (Sum.inl n)=some (.int (f n)))) (_:Q (.int (D0 f it)) H)
theorem Bp:aH ["item","weights"] ["item","weights"] (aA pW):=eU
theorem Ak:‹(1,17,["item","weights"],aeg)›:=λD=>by
 specialize eV D.ZP.F Bp;obtain⟨v,it,S,kvs,f,rfl,⟨a,rfl,ha⟩,hS,hw,k⟩:=h;have hu:=gG hr;exists _,(aj (bN (aT d7 (aO aX (pv 0) ay) bx (aZ _)) (au (aJ (bz dz ay (gc hu (pv 1) (aO aX (pv 0) ay))))) bg) (au (aJ (bz cK (aO aX (pv 0) ay) (aO aX (pv 0) ay)))))
 cases it with
 | win n =>
  refine⟨Y,a,K,V,cX.of ha,V,Y,cN (λ_=>?_) (λz=>absurd (by decide) z)⟩;have z:=iR.k (k:=Sum.inl n) hS;rw[hw n rfl]at z;exact⟨Y,Y,a,K,V,cX.of ha,rfl,S,Y,z,Z,k⟩
 | aL p q =>
  refine⟨Y,a,K,V,cX.of ha,V,Y,cN (λz=>absurd z (by decide)) (λ_=>?_)⟩;exact⟨Y,a,K,V,cX.of ha,rfl,Y,a,K,V,cX.of ha,rfl,Z,k⟩
class inductive IZ
 | mk (r L:Addr) (rows:cU) (ss:List Int) (f:Int->Int) (_:vs=[.ref r,.ref L]) (_:fZ H r (rows.map aF)) (_:H L=some (.lst (ss.map V.int))) (_:ss.length<=1000) (_:rows.length<=1000) (_:(∀ es∈rows,es.length<=1000)) (_:gp rows) (_:Cu rows) (_:(∀ s∈ss,0<=s/\s<rows.length)) (_:Weighs rows f) (_ :
 ∀ (S:Addr) (kvs:List (fk × V)) (H':Hp),H' S=some (.dK kvs)->(∀ s∈ss,cJ kvs (Sum.inl s)=some (.int (f s)))->aI H H'->H S=none->Q (.ref S) H')
theorem lT:aH ["rows","sheets","weights","number"] ["rows","sheets"] (aA jM):=eU
theorem pJ:‹(3,18,["rows","sheets"],IZ)›:=λD=>by
 refine eV D.Wy.F lT λcV A zn s0 H vs Q E hr h=>?_;obtain⟨r,L,rows,ss,f,rfl,hR,hL,hsl,dI,hes,pR,xq,hin,hf,k⟩:=h;have hu:=gG hr;refine⟨_,(aj (aV (i:=2) lT.nd nC) (aj (dQ PassesOwn.never rfl (cF (aC D.Wx (F8 D) hr (aa (pv 0) (aa (pv 1) ah)))) (ck (i:=3) lT.nd) (au (vB hu (pv 2) (pv 3) (cz (Fq rfl) rfl D.T.UH PyProof.Rows.boot_sum (aa (gH (N:=["item","weights"]) (om (sc:=aA jM) (NX:=["rows","sheets","weights","number"]) (jx:=[none,some 2]) rfl rfl rfl nofun nofun rfl nofun rfl nofun) rfl (cF (aO bu (pv 0) (pv 3))) (λ_ _ _ _ _ _=>(ck (i:=0) (show List.Nodup (["item","weights"]:List Str) by decide +kernel))) (λ_ _ _ _ _ _=>ji) (λ_ _ _ _ _ _=>(aC D.ZP (Ak D) hr (aa (pv 0) (aa (pv 1) ah))))) ah)) rfl))) (au (aJ (pv 2))))),?_⟩;intro S hS;have s1:aI H (aN H S (.dK [])):=ak hS _;refine⟨Y,Y,r,L,rows,ss,rfl,hR.same s1,s1 _ _ hL,hsl,dI,hes,pR,xq,hin,λks o H2 ho s2 tp sk kl Y0=>?_⟩;have Wi:=s2 _ _ (af (H:=H) (a:=S) (o:=.dK []));have noS:o≠S:=(az af Y0).symm;refine⟨o,rfl,⟨_,bI.of ho⟩,dm (K:=K) (a:=o) (xs:=ks.map V.int) (λi σ H3=>∃ (kvs:List (fk × V)) (u:Option V),σ=[some (.ref r),some (.ref L),some (.ref S),u]/\H3 S=some (.dK kvs)/\(∀ y∈ks.take i,cJ kvs (Sum.inl y)=some (.int (f y)))/\kvs.length<=i/\(∀ a ob,a≠S->H2 a=some ob->H3 a=some ob)) ⟨[],none,rfl,Wi,(λy hy=>by simp at hy),fF _,λ_ _ _ e=>e⟩ ?_ ?_ ?_⟩
 ·rintro i σ H3 _ ⟨_,_,_,_,_,_,k3⟩;exact bI.of (k3 o _ noS ho)
 ·rintro i x σ H3 hi ⟨kvs,u,rfl,Ms,Nh,hk3,k3⟩;rw[mY]at hi;obtain⟨x,ex,rfl⟩:=Option.map_eq_some_iff.mp hi;obtain⟨x0,x1⟩:=tp.E5 x (oF ex);obtain⟨es,fj⟩:∃ es,rows[x.toNat]?=some es:=⟨_,pS ∅⟩;have WW:=hes es (oF fj);have Pk:aI H H3:=λa ob e=>k3 a ob (az e hS) (s2 _ _ (s1 _ _ e));obtain⟨yf,Mm,vO⟩:=hR.same Pk;obtain⟨vi,Bo,hI⟩:=vO.get' (i:=x.toNat) (b:=aF es) (by rw[mY,fj];rfl);obtain⟨b,IX,rfl,hb,rL⟩:=id hI;have hil:=pH es []
  have ajR:(aF es).length<=1000:=by
   show (es.foldl bh []).length<=_;simp only[qO]at hil;lia
  have vP:pU yf x=some (.ref b):=by
   have z:=cO Bo;rw[show ((x.toNat:Nat):Int)=x by lia]at z;exact z
  refine⟨Y,Y,r,K,V,bI.of Mm,vP,b,rfl,⟨_,bI.of hb⟩,λacc cR=>gF (K:=K) (a:=b) (xs:=IX) (λj σ H5=>∃ u:Option V,σ=[u,some (.ref S)]/\H5 acc=some (.lst ((((aF es).take j).map (D0 f)).map V.int))/\aI H3 H5) ⟨none,rfl,af,ak cR _⟩ (λj σ H5 _ ⟨K,s5⟩=>bI.of (s5 _ _ hb)) ?_ ?_⟩
  ·rintro j v σ H5 hj ⟨u,rfl,h5,s5⟩;obtain⟨it,ei,hiv⟩:=rL.get hj;have st:=take_snoc ei;unfold tN OA;refine jH ⟨Y,Y,v,it,S,kvs,f,rfl,hiv.same s5,s5 _ _ Ms,λn hn=>?_,?_⟩
   ·subst hn;refine Nh n (tp.dn i x ex n ⟨x0,es,fj,?_⟩);rw[← iE];unfold eZ;rw[List.mem_filterMap];exact⟨.win n,oF ei,rfl⟩
   ·refine⟨_,h5,(by rw[cy,cy,gx];exact aR ∅),Y,?_,bP cR s5 (aG acc _ _)⟩;rw[af,st,gw,gw];rfl
  ·rintro σ H5 ⟨u,rfl,h5,s5⟩;rw[rL.len,gO]at h5;have es1:((aF es).map (D0 f)).sum=f x:=by rw[hf x es x0 fj];exact Mt f es
   have hS5:=s5 _ _ Ms
   have kvl:i<ks.length:=by
    rcases Nat.lt_or_ge i ks.length with q|q
    ·exact q
    ·rw[List.getElem?_eq_none q]at ex;cases ex
   exists acc,Y,bI.of h5;rw[es1];refine⟨Y,Y,S,Y,DK.k (k:=Sum.inl x) hS5 (aR ∅),?_⟩;refine⟨eT kvs (Sum.inl x) (.int (f x)),Y,af,λy hy=>?_,?_,λa ob n e=>?_⟩
   ·rw[kZ];rw[take_snoc ex]at hy;by_cases c:y=x
    ·rw[if_pos (by rw[c]),c]
    ·rw[if_neg (λz=>c (Sum.inl.inj z))];rcases List.mem_append.mp hy with q|q
     ·exact Nh y q
     ·exact absurd (by simpa using q) c
   ·have:=ie kvs (Sum.inl x) (V.int (f x));lia
   ·rw[aK n];exact s5 _ _ (k3 a ob n e)
 ·rintro σ H3 ⟨kvs,u,rfl,Ms,Nh,hk3,k3⟩;rw[cy,gO]at Nh;exact⟨Y,k S kvs H3 Ms (λs hs=>Nh s (sk s hs)) (λa ob e=>k3 a ob (az e hS) (s2 _ _ (s1 _ _ e))) hS⟩
class inductive Po
 | mk (r:Addr) (rows:cU) (s:Int) (f:Int->Int) (_:vs=[.ref r,.int s]) (_:fZ H r (rows.map aF)) (_:rows.length<=1000) (_:(∀ es∈rows,es.length<=1000)) (_:gp rows) (_:Cu rows) (_:0<=s) (_:s<rows.length) (_:Weighs rows f) (_ :
 ∀ H':Hp,aI H H'->Q (.int (f s)) H')
theorem Pp:aH ["rows","sheet"] ["rows","sheet"] (aA Dw):=eU
theorem Mu:‹(4,19,["rows","sheet"],Po)›:=λD=>by
 refine eV D.Wz.F Pp λcV A zn s0 H vs Q E hr h=>?_;obtain⟨r,rows,s,f,rfl,hR,dI,hes,pR,xq,h0,h1,hf,k⟩:=h;have hu:=gG hr;exists _,(au (aJ (gc hu (aC D.Wy (pJ D) hr (aa (pv 0) (aa (bL (aa (pv 1) ah)) ah))) (pv 1))));refine⟨Y,Y,mD,λL hL=>?_⟩;have s1:aI H (aN H L (.lst [.int s])):=ak hL _;refine⟨r,L,rows,[s],f,rfl,hR.same s1,af,(by simp),dI,hes,pR,xq,(λx hx=>by rw[List.mem_singleton.mp hx];exact⟨h0,h1⟩),hf,λS kvs H' hS hv s' _=>?_⟩;have z:=iR.k (k:=Sum.inl s) hS;rw[hv s (by simp)]at z;exact⟨Y,S,Y,z,k H' (s1.trans s')⟩
def qG(g:Int->Row):aP->Row
 | .win n=>g n
 | .aL a b=>[(a,b)]
def aY(sh:Int->List Int)(e:Int):List Int:=if e<0 then sh (-1-e) else [e]
def aS(sh:Int->List Int)(es:List Int):List Int:=es.flatMap (aY sh)
def nH(rows:cU)(sh:Int->List Int):Prop:=∀ (x:Int) (es:List Int),0<=x->rows[x.toNat]?=some es->sh x=aS sh es
def bC(sh:Int->List Int)(aM:List aP):Row:=aM.flatMap (qG λn=>cP (sh n))
def tW(t:List aP):Prop:=∀ a b,aP.aL a b∈t->a<b
theorem eL(sh:Int->List Int)(a b:List aP):bC sh (a++b)=bC sh a++bC sh b:=by unfold bC;rw[List.flatMap_append]
theorem jy(sh:Int->List Int)(it:aP):bC sh [it]=qG (λn=>cP (sh n)) it:=by simp[bC]
theorem Mw(sh:Int->List Int)(t:List aP)(e:Int)(ok:tW t):bK (bC sh (bh t e))=bK (bC sh t)++aY sh e/\tW (bh t e):=by
 have add:∀ it:aP,(∀ a b,it=.aL a b->a<b)->tW (t++[it]):=λit h a b hm=>by
  rcases List.mem_append.mp hm with z|z
  ·exact ok a b z
  ·exact h a b (List.mem_singleton.mp z).symm
 unfold bh;by_cases h:e<0
 ·rw[if_pos h];refine⟨?_,add _ λa b z=>by cases z⟩;rw[eL,cW,jy];show _++bK (cP (sh (-1-e)))=_;rw[gB];unfold aY;rw[if_pos h]
 ·rw[if_neg h]
  have one:bK [(e,e+1)]=[e]:=by
   rw[fD];unfold fT;have:(e+1-e).toNat=1:=by lia
   show run e (e+1-e).toNat=_;rw[this];rfl
  have es1:aY sh e=[e]:=by unfold aY;rw[if_neg h]
  have vQ:bK (bC sh (t++[.aL e (e+1)]))=bK (bC sh t)++aY sh e/\tW (t++[.aL e (e+1)]):=by
   refine⟨?_,add _ λa b z=>by cases z;lia⟩;rw[eL,cW,jy,es1];show _++bK [(e,e+1)]=_;rw[one]
  rcases mZ t with rfl|⟨t',l,rfl⟩
  ·exact vQ
  ·rw[kM]at ok add vQ ⊢;rw[nU]
   cases l with
   | win n=>exact vQ
   | aL a b =>
    show bK (bC sh (if b=e then (t'++[aP.aL a b]).dropLast++[.aL a (e+1)] else (t'++[aP.aL a b])++[.aL e (e+1)]))=_/\tW (if b=e then (t'++[aP.aL a b]).dropLast++[.aL a (e+1)] else (t'++[aP.aL a b])++[.aL e (e+1)]);by_cases hb:b=e
    ·subst hb;have ab:=ok a b (by simp);rw[if_pos rfl,List.dropLast_concat];refine⟨?_,λp q hm=>?_⟩
     ·rw[eL,eL,cW,cW,jy,jy,es1,nV];congr 1;show bK [(a,b+1)]=bK [(a,b)]++[b];rw[fD,fD];unfold fT;show run a (b+1-a).toNat=run a (b-a).toNat++[b];have:(b+1-a).toNat=(b-a).toNat+1:=by lia
      rw[this,zM];congr 2;lia
     ·rcases List.mem_append.mp hm with z|z
      ·exact ok p q (qM _ z)
      ·have z':aP.aL p q=aP.aL a (b+1):=by simpa using z
       cases z';lia
    ·rw[if_neg hb];exact vQ
theorem Al(sh:Int->List Int)(es:List Int):bK (bC sh (aF es))=aS sh es/\tW (aF es):=by
 have z:∀ t:List aP,tW t->bK (bC sh (es.foldl bh t))=bK (bC sh t)++aS sh es/\tW (es.foldl bh t):=by
  induction es with
  | nil=>intro t ok;exact⟨by simp[aS],ok⟩
  | cons e es ih =>
   intro t ok;obtain⟨h1,h2⟩:=Mw sh t e ok;obtain⟨h3,h4⟩:=ih _ h2;refine⟨?_,h4⟩;rw[kO,h3,h1,nV];unfold aS;rw[jo]
 have q:=z [] (λa b h=>by cases h);refine⟨?_,q.2⟩;unfold aF;rw[q.1];rfl
theorem Mx(sh:Int->List Int)(it:aP)(h:∀ a b,it=.aL a b->a<b):(qG (λn=>cP (sh n)) it).length<=(bK (qG (λn=>cP (sh n)) it)).length:=by
 cases it with
 | win n =>
  show (cP (sh n)).length<=(bK (cP (sh n))).length;rw[gB];have z:=zR (sh n) [];simpa [cP] using z
 | aL a b =>
  have ab:=h a b rfl;show 1<=(bK [(a,b)]).length;rw[fD];unfold fT;show 1<=(run a (b-a).toNat).length;rw[KH];lia
theorem uR(sh:Int->List Int):∀ aM:List aP,tW aM->(bC sh aM).length<=(bK (bC sh aM)).length
 | [],_=>by simp[bC]
 | it::aM,h=>by
  have e:bC sh (it::aM)=qG (λn=>cP (sh n)) it++bC sh aM:=by unfold bC;rw[jo]
  rw[e,cW,cY,cY];have a:=Mx sh it (λa b z=>h a b (by rw[← z];simp));have b:=uR sh aM (λa b z=>h a b (mO _ z));lia
theorem My(sh:Int->List Int)(aM:List aP)(h:tW aM):∀ p∈bC sh aM,p.1<=p.2:=by
 intro p hp;unfold bC at hp;obtain⟨it,hi,hm⟩:=List.mem_flatMap.mp hp
 cases it with
 | win n=>exact pG _ p hm
 | aL a b =>
  have:p=(a,b):=by simpa [qG] using hm
  subst this;have:=h a b hi;show a<=b;lia
class inductive Mz
 | mk (v:V) (it:aP) (S:Addr) (kvs:List (fk × V)) (g:Int->Row) (_:vs=[v,.ref S]) (_:cI H v it) (_:H S=some (.dK kvs)) (_:(∀ n,it=.win n->∃ a,cJ kvs (Sum.inl n)=some (.ref a)/\cA H a (g n))) (_ :
 ∀ (a:Addr) (H':Hp),cA H' a (qG g it)->aI H H'->((∃ n,it=.win n/\cJ kvs (Sum.inl n)=some (.ref a))\/H a=none)->Q (.ref a) H')
theorem I0:aH ["item","views"] ["item","views"] (aA wM):=eU
theorem yg:‹(1,20,["item","views"],Mz)›:=λD=>by
 specialize eV D.WA.F I0;obtain⟨v,it,S,kvs,g,rfl,⟨a,rfl,ha⟩,hS,hw,k⟩:=h;have hu:=gG hr;exists _,(aj (bN (aT d7 (aO aX (pv 0) ay) bx (aZ _)) (au (aJ (gc hu (pv 1) (aO aX (pv 0) ay)))) bg) (au (aJ (bL (aa (cH (aa (aO aX (pv 0) ay) (aa (aO aX (pv 0) ay) ah))) ah)))))
 cases it with
 | win n =>
  refine⟨Y,a,K,V,cX.of ha,V,Y,cN (λ_=>?_) (λz=>absurd (by decide) z)⟩;obtain⟨b,hb,Rb⟩:=hw n rfl;have z:=iR.k (k:=Sum.inl n) hS;rw[hb]at z;exact⟨Y,Y,a,K,V,cX.of ha,rfl,S,Y,z,k b H Rb (aI.refl H) (.inl ⟨n,rfl,hb⟩)⟩
 | aL p q =>
  refine⟨Y,a,K,V,cX.of ha,V,Y,cN (λz=>absurd z (by decide)) (λ_=>?_)⟩;refine⟨Y,a,K,V,cX.of ha,rfl,Y,a,K,V,cX.of ha,rfl,lu,λt ht=>⟨mD,λl hl=>?_⟩⟩;have s1:aI H (aN H t (.tup [.int p,.int q])):=ak ht _;have s2:=s1.trans (ak hl (.lst [.ref t]));refine k l _ ⟨[t],af,.cons ?_ .nil⟩ s2 (.inr ?_)
  ·exact ak hl _ _ _ af
  ·cases e:H l with
   | none=>rfl
   | some o=>exact absurd ((s1 _ _ e).symm.trans hl) (by simp)
theorem bw.Ga{H H':Hp}{S:Addr}{kvs:List (fk × V)}(hS:H S=some (.dK kvs))(k:∀ a ob,a≠S->H a=some ob->H' a=some ob):∀ {as:List Addr} {r:Row},bw H as r->bw H' as r
 | _,_,.nil=>.nil
 | _,_,.cons r t=>.cons (k _ _ (λz=>by
   have r':=r;unfold lR at r';rw[z,hS]at r'
   cases r') r) (bw.Ga hS k t)
theorem cA.Ga{H H':Hp}{S a:Addr}{kvs:List (fk × V)}{row:Row}(hS:H S=some (.dK kvs))(n:a≠S)(k:∀ a ob,a≠S->H a=some ob->H' a=some ob)(R:cA H a row):cA H' a row:=by
 obtain⟨as,h,p⟩:=R;exact⟨as,k _ _ n h,p.Ga hS k⟩
def KQ(H:Hp)(kvs:List (fk × V))(sh:Int->List Int)(xs:List Int):Prop:=∀ x∈xs,∃ a,cJ kvs (Sum.inl x)=some (.ref a)/\cA H a (cP (sh x))
class inductive SM
 | mk (r L:Addr) (rows:cU) (ss:List Int) (sh:Int->List Int) (_:vs=[.ref r,.ref L]) (_:fZ H r (rows.map aF)) (_:H L=some (.lst (ss.map V.int))) (_:ss.length<=1000) (_:rows.length<=1000) (_:(∀ es∈rows,es.length<=1000)) (_:gp rows) (_:Cu rows) (_:(∀ s∈ss,0<=s/\s<rows.length)) (_:nH rows sh) (_:(∀ x:Int,0<=x->x<rows.length->(sh x).length<=10000)) (_ :
 ∀ (S:Addr) (kvs:List (fk × V)) (ks:List Int) (H':Hp),H' S=some (.dK kvs)->KQ H' kvs sh ks->Mr rows ks->(∀ s∈ss,s∈ks)->(∀ x∈ks,∀ a,cJ kvs (Sum.inl x)=some (.ref a)->H a=none)->aI H H'->H S=none->Q (.ref S) H')
theorem oX:aH ["rows","sheets","views","number"] ["rows","sheets"] (aA mz):=eU
theorem jU:‹(3,21,["rows","sheets"],SM)›:=λD=>by
 refine eV D.Pa.F oX λcV A zn s0 H vs Q E hr h=>?_;obtain⟨r,L,rows,ss,sh,rfl,hR,hL,hsl,dI,hes,pR,xq,hin,xY,E1,k⟩:=h;have hu:=gG hr;refine⟨_,(aj (aV (i:=2) oX.nd nC) (aj (dQ PassesOwn.never rfl (cF (aC D.Wx (F8 D) hr (aa (pv 0) (aa (pv 1) ah)))) (ck (i:=3) oX.nd) (au (vB hu (pv 2) (pv 3) (aC D.ZJ (vI D) hr (aa (LZ (N:=["item","stretch","views"]) (om (sc:=aA mz) (NX:=["rows","sheets","views","number"]) (jx:=[none,none,some 2]) rfl rfl rfl nofun nofun rfl nofun rfl nofun) rfl (cF (aO bu (pv 0) (pv 3))) (λ_ _ _ _ _ _=>(ck (i:=0) (show List.Nodup (["item","stretch","views"]:List Str) by decide +kernel))) (λ_ _ _ _ _ _=>ji) (λ_ _ _ _ _ _=>(OL (aC D.WA (yg D) hr (aa (pv 0) (aa (pv 2) ah))))) (λ_ _ _ _ _ _=>(ck (i:=1) (show List.Nodup (["item","stretch","views"]:List Str) by decide +kernel))) (λ_ _ _ _ _ _=>ji) (λ_ _ _ _ _ _=>(pv 1))) ah)) rfl))) (au (aJ (pv 2))))),?_⟩;intro S hS;have s1:aI H (aN H S (.dK [])):=ak hS _;refine⟨Y,Y,r,L,rows,ss,rfl,hR.same s1,s1 _ _ hL,hsl,dI,hes,pR,xq,hin,λks o H2 ho s2 tp sk kl Y0=>?_⟩;have Wi:=s2 _ _ (af (H:=H) (a:=S) (o:=.dK []));have noS:o≠S:=(az af Y0).symm;refine⟨o,rfl,⟨_,bI.of ho⟩,dm (K:=K) (a:=o) (xs:=ks.map V.int) (λi σ H3=>∃ (kvs:List (fk × V)) (u:Option V),σ=[some (.ref r),some (.ref L),some (.ref S),u]/\H3 S=some (.dK kvs)/\KQ H3 kvs sh (ks.take i)/\kvs.length<=i/\(∀ x a,cJ kvs (Sum.inl x)=some (.ref a)->H a=none/\a≠S)/\(∀ a ob,a≠S->H2 a=some ob->H3 a=some ob)) ⟨[],none,rfl,Wi,(λy hy=>by simp at hy),fF _,(λx a e=>by cases e),λ_ _ _ e=>e⟩ ?_ ?_ ?_⟩
 ·rintro i σ H3 _ ⟨_,_,_,_,_,_,_,k3⟩;exact bI.of (k3 o _ noS ho)
 ·rintro i x σ H3 hi ⟨kvs,u,rfl,Ms,Nh,hk3,hn3,k3⟩;rw[mY]at hi;obtain⟨x,ex,rfl⟩:=Option.map_eq_some_iff.mp hi;obtain⟨x0,x1⟩:=tp.E5 x (oF ex);obtain⟨es,fj⟩:∃ es,rows[x.toNat]?=some es:=⟨_,pS ∅⟩;have Pk:aI H H3:=λa ob e=>k3 a ob (az e hS) (s2 _ _ (s1 _ _ e));obtain⟨yf,Mm,vO⟩:=hR.same Pk;obtain⟨vi,Bo,hI⟩:=vO.get' (i:=x.toNat) (b:=aF es) (by rw[mY,fj];rfl);obtain⟨b,IX,rfl,hb,rL⟩:=id hI;obtain⟨LG,hok⟩:=Al sh es;have shx:=xY x es x0 fj
  have jh:(bC sh (aF es)).length<=10000:=by
   have z:=uR sh (aF es) hok;rw[LG,← shx]at z;have:=E1 x x0 x1;lia
  have part:∀ j,(bC sh ((aF es).take j)).length<=10000:=λj=>by
   have e:bC sh (aF es)=bC sh ((aF es).take j)++bC sh ((aF es).drop j):=by rw[← eL,List.take_append_drop]
   rw[e,cY]at jh;lia
  have vP:pU yf x=some (.ref b):=by
   have z:=cO Bo;rw[show ((x.toNat:Nat):Int)=x by lia]at z;exact z
  refine⟨Y,Y,r,K,V,bI.of Mm,vP,b,rfl,⟨_,bI.of hb⟩,λacc cR=>FL (K:=K) (a:=b) (xs:=IX) (λj σ H5=>∃ (u v:Option V) (as:List Addr),σ=[u,v,some (.ref S)]/\H5 acc=some (.lst (as.map V.ref))/\bw H5 as (bC sh ((aF es).take j))/\aI H3 H5) ⟨none,none,[],rfl,af,.nil,ak cR _⟩ (λj σ H5 _ ⟨K,K,s5⟩=>bI.of (s5 _ _ hb)) ?_ ?_⟩
  ·rintro j v σ H5 hj ⟨u,u2,as,rfl,h5,p5,s5⟩;obtain⟨it,ei,hiv⟩:=rL.get hj;have st:bC sh ((aF es).take (j+1))=bC sh ((aF es).take j)++qG (λn=>cP (sh n)) it:=by rw[take_snoc ei,eL,jy]
   refine VZ ?_;refine jH ?_;refine⟨Y,Y,v,it,S,kvs,(λn=>cP (sh n)),rfl,hiv.same s5,s5 _ _ Ms,λn hn=>?_,λa2 H6 R6 s6 hor=>?_⟩
   ·subst hn
    obtain⟨a,ha,Ra⟩:=Nh n (tp.dn i x ex n ⟨x0,es,fj,by
     rw[← iE];unfold eZ;rw[List.mem_filterMap]
     exact⟨.win n,oF ei,rfl⟩⟩)
    exact⟨a,ha,Ra.same s5⟩
   obtain⟨W0,h6a,p6⟩:=id R6
   have na2:a2≠acc:=by
    rcases hor with ⟨n,hn,hv⟩|hn
    ·subst hn
     obtain⟨a,ha,as0,h0',_⟩:=Nh n (tp.dn i x ex n ⟨x0,es,fj,by
      rw[← iE];unfold eZ;rw[List.mem_filterMap]
      exact⟨.win n,oF ei,rfl⟩⟩)
     rw[hv]at ha;cases ha;exact az h0' cR
    ·exact (az h5 hn).symm
   have h6:=s6 _ _ h5;have pl:=part (j+1);rw[st,cY]at pl;have al:=p5.len;have al2:=p6.len;refine⟨a2,rfl,⟨_,bI.of h6a⟩,IA (K:=K) (a:=a2) (acc:=acc) (g:=tN 1) (tt:=OA) (te:=Vk 1) (xs:=W0.map V.ref) (λl σ H7=>∃ v2:Option V,σ=[some v,v2,some (.ref S)]/\H7 acc=some (.lst ((as++W0.take l).map V.ref))/\bw H7 (as++W0.take l) (bC sh ((aF es).take j)++(qG (λn=>cP (sh n)) it).take l)/\cD acc H6 H7/\aI H3 H7) ?_ ?_ ?_ ?_⟩
   ·exact⟨u2,rfl,(by simpa using h6),(by simpa using p5.same s6),(λ_ _ e _=>e),s5.trans s6⟩
   ·rintro l σ H7 _ ⟨_,_,_,_,K7,_⟩;exact bI.of (K7 a2 _ h6a na2)
   ·rintro l y σ H7 hl ⟨v2,rfl,h7,p7,K7,s7⟩;rw[mY]at hl;obtain⟨t,et,rfl⟩:=Option.map_eq_some_iff.mp hl;obtain⟨pr,epr,hpr⟩:=p6.get et
    have ll:l<W0.length:=by
     rcases Nat.lt_or_ge l W0.length with q|q
     ·exact q
     ·rw[List.getElem?_eq_none q]at et;cases et
    have aaI:lR H7 t pr:=K7 t _ hpr (λz=>by
     have q:H6 acc=some (.tup [.int pr.1,.int pr.2]):=by rw[← z];exact hpr
     rw[h6]at q
     cases q)
    have K8:cD acc H7 (aN H7 acc (.lst ((as++W0.take l).map V.ref++[.ref t]))):=aG acc _ _;refine VZ ?_;refine jH ?_;refine⟨Y,_,h7,?_,Y,?_,?_,?_,bP cR s7 K8⟩
    ·rw[cy,cY,gx];exact aR ∅
    ·rw[af,take_snoc et,← nV,gw (l₁:=as++W0.take l)];rfl
    ·rw[take_snoc et,take_snoc epr,← nV,← nV]
     exact bw.snoc (p7.keep h7 K8) (K8 t _ aaI (λz=>by
      have q:H7 acc=some (.tup [.int pr.1,.int pr.2]):=by rw[← z];exact aaI
      rw[h7]at q
      cases q))
    ·exact λa ob e n=>K8 a ob (K7 a ob e n) n
   ·rintro σ H7 ⟨v2,rfl,h7,p7,K7,s7⟩;rw[cy,gO]at h7 p7;rw[al2,gO]at p7;exact⟨K,rfl,h7,(by rw[st];exact p7),s7⟩
  ·rintro σ H5 ⟨u,u2,as,rfl,h5,p5,s5⟩;rw[rL.len,gO]at p5
   have kvl:i<ks.length:=by
    rcases Nat.lt_or_ge i ks.length with q|q
    ·exact q
    ·rw[List.getElem?_eq_none q]at ex;cases ex
   refine⟨acc,Y,⟨as,h5,p5⟩,Q,λq H6 R6 s6 hq=>?_⟩;have WX:=s6 _ _ (s5 _ _ Ms);have nqS:q≠S:=(az (s5 _ _ Ms) hq).symm;have er:b8 (bC sh (aF es))=cP (sh x):=by rw[zK _ (My sh _ hok),LG,shx]
   rw[er]at R6;have k7:∀ a ob,a≠S->H6 a=some ob->aN H6 S (.dK (eT kvs (Sum.inl x) (.ref q))) a=some ob:=λa ob n e=>by rw[aK n];exact e
   refine⟨Y,Y,S,Y,DK.k (k:=Sum.inl x) WX (aR ∅),?_⟩;refine⟨eT kvs (Sum.inl x) (.ref q),Y,af,λy hy=>?_,?_,λy a e=>?_,λa ob n e=>k7 a ob n (s6 _ _ (s5 _ _ (k3 a ob n e)))⟩
   ·rw[kZ];by_cases c:y=x
    ·rw[if_pos (by rw[c]),c];exact⟨q,rfl,R6.Ga WX nqS k7⟩
    ·rw[if_neg (λz=>c (Sum.inl.inj z))];rw[take_snoc ex]at hy;rcases List.mem_append.mp hy with z|z
     ·obtain⟨a,ha,Ra⟩:=Nh y z;exact⟨a,ha,((Ra.same s5).same s6).Ga WX (hn3 y a ha).2 k7⟩
     ·exact absurd (by simpa using z) c
   ·have:=ie kvs (Sum.inl x) (V.ref q);lia
   ·rw[kZ]at e;by_cases c:y=x
    ·rw[if_pos (by rw[c])]at e;cases e;refine⟨?_,nqS⟩
     cases z:H q with
     | none=>rfl
     | some ob=>exact absurd ((s5 _ _ (Pk _ _ z)).symm.trans hq) (by simp)
    ·rw[if_neg (λz=>c (Sum.inl.inj z))]at e;exact hn3 y a e
 ·rintro σ H3 ⟨kvs,u,rfl,Ms,Nh,hk3,hn3,k3⟩;rw[cy,gO]at Nh;exact⟨Y,k S kvs ks H3 Ms Nh tp sk (λx _ a e=>(hn3 x a e).1) (λa ob e=>k3 a ob (az e hS) (s2 _ _ (s1 _ _ e))) hS⟩
class inductive SN
 | mk (r:Addr) (rows:cU) (s:Int) (sh:Int->List Int) (_:vs=[.ref r,.int s]) (_:fZ H r (rows.map aF)) (_:rows.length<=1000) (_:(∀ es∈rows,es.length<=1000)) (_:gp rows) (_:Cu rows) (_:0<=s) (_:s<rows.length) (_:nH rows sh) (_:(∀ x:Int,0<=x->x<rows.length->(sh x).length<=10000)) (_ :
 ∀ (o:Addr) (H':Hp),cA H' o (cP (sh s))->aI H H'->H o=none->Q (.ref o) H')
theorem SO:aH ["rows","sheet"] ["rows","sheet"] (aA Ib):=eU
theorem Am:‹(4,22,["rows","sheet"],SN)›:=λD=>by
 refine eV D.IT.F SO λcV A zn s0 H vs Q E hr h=>?_;obtain⟨r,rows,s,sh,rfl,hR,dI,hes,pR,xq,h0,h1,xY,E1,k⟩:=h;have hu:=gG hr;exists _,(au (aJ (gc hu (aC D.Pa (jU D) hr (aa (pv 0) (aa (bL (aa (pv 1) ah)) ah))) (pv 1))));refine⟨Y,Y,mD,λL hL=>?_⟩;have s1:aI H (aN H L (.lst [.int s])):=ak hL _;refine⟨r,L,rows,[s],sh,rfl,hR.same s1,af,(by simp),dI,hes,pR,xq,(λx hx=>by rw[List.mem_singleton.mp hx];exact⟨h0,h1⟩),xY,E1,λS kvs ks H' hS hv tp sk hn s' _=>?_⟩;have sk:=sk s (by simp);obtain⟨a,ha,Ra⟩:=hv s sk;have z:=iR.k (k:=Sum.inl s) hS;rw[ha]at z;exact⟨Y,S,Y,z,k a H' Ra (s1.trans s') (aW s1 (hn s sk a ha))⟩
def Xa:aP->aP->Bool
 | .aL _ b,.aL c _=>decide (b=c)
 | _,_=>false
class inductive Xb
 | mk (x y:V) (i j:aP) (_:vs=[x,y]) (_:cI H x i) (_:cI H y j) (_:Q (.bl (Xa i j)) H)
theorem MA:aH ["one","other"] ["one","other"] (aA zF):=eU
theorem Ja:‹(1,23,["one","other"],Xb)›:=λD=>by
 specialize eV D.ZQ.F MA;obtain⟨x,y,i,j,rfl,⟨a,rfl,ha⟩,⟨b,rfl,hb⟩,k⟩:=h;exists _,(au (aJ (qX (nZ d7 (aO aX (pv 0) ay) bx (aZ _)) (qX (nZ d7 (aO aX (pv 1) ay) bx (aZ _)) (ud (nZ d7 (aO aX (pv 0) ay) (aO aX (pv 1) ay) (aZ _)))))))
 cases i with
 | win n=>exact⟨Y,a,K,V,cX.of ha,V,Y,cN (λz=>absurd z (by decide)) (λ_=>k)⟩
 | aL p q =>
  refine⟨Y,a,K,V,cX.of ha,V,Y,cN (λ_=>?_) (λz=>absurd (by decide) z)⟩
  cases j with
  | win n=>exact⟨Y,b,K,V,cX.of hb,V,Y,cN (λz=>absurd z (by decide)) (λ_=>k)⟩
  | aL u v =>
   refine⟨Y,b,K,V,cX.of hb,V,Y,cN (λ_=>?_) (λz=>absurd (by decide) z)⟩;exists Y,a,K,V,cX.of ha,rfl,Y,b,K,V,cX.of hb,V
   have e:decide (V.int q=V.int u)=decide (q=u):=by
    by_cases c:q=u
    ·rw[c];simp
    ·have c2:¬ V.int q=V.int u:=λz=>c (V.int.inj z);rw[decide_eq_false c,decide_eq_false c2]
   rw[e];exact k
def bX(t:List aP)(it:aP):List aP :=
 match t.getLast?,it with
 | some (.aL a b),.aL c d=>if b=c then t.dropLast++[.aL a d] else t++[it]
 | _,_=>t++[it]
def Jb(aM:List aP):List aP:=aM.foldl bX []
theorem Jc(aM:List aP):∀ t:List aP,(aM.foldl bX t).length<=t.length+aM.length:=by
 induction aM with
 | nil=>intro t;simp
 | cons e aM ih =>
  intro t;rw[kO];have z:=ih (bX t e)
  have z2:(bX t e).length<=t.length+1:=by
   unfold bX;split
   ·split
    ·rw[cY,List.length_dropLast,gM];lia
    ·simp
   ·simp
  rw[eY];lia
class inductive D3
 | mk (r:Addr) (aM:List aP) (_:vs=[.ref r]) (_:bH H (.ref r) aM) (_:aM.length<=1000000) (_ :
 ∀ (o:Addr) (H':Hp),bH H' (.ref o) (Jb aM)->aI H H'->H o=none->Q (.ref o) H')
theorem oY:aH ["items","told","item"] ["items"] (aA pX):=eU
theorem gu:‹(2,24,["items"],D3)›:=λD=>by
 specialize eV D.IU.F oY;obtain⟨r,aM,rfl,⟨a,IX,e,jT,rL⟩,dI,k⟩:=h;cases e;refine⟨_,(aj (aV (i:=1) oY.nd (bL ah)) (aj (dQ PassesOwn.never rfl (cF (pv 0)) (ck (i:=2) oY.nd) (au (bN (PW.pt (m6 (kQ (pv 1) (λ_=>rfl)) (kH (iM (aC D.ZQ (Ja D) hr (aa (aO bu (pv 1) (fQ dR ay)) (aa (pv 2) ah))))))) (au (lJ (cH (aa bx (aa (aO aX (aO bu (pv 1) (fQ dR ay)) ay) (aa (aO aX (pv 2) ay) ah)))) (oG (pv 1) (fQ dR ay) iY))) (au (aU (dJ pQ jE jF bQ (pv 1) (aa (pv 2) ah))))))) (au (aJ (pv 1))))),?_⟩;refine⟨gU,λq hq=>?_⟩;have s0:aI H (aN H q (.lst [])):=ak hq _;refine⟨Y,r,rfl,⟨_,bI.of (s0 _ _ jT)⟩,dm (K:=K) (a:=r) (xs:=IX) (λi σ H2=>∃ (vs:List V) (u:Option V),σ=[some (.ref r),some (.ref q),u]/\H2 q=some (.lst vs)/\bS (cI H2) vs ((aM.take i).foldl bX [])/\aI H H2) ⟨[],none,rfl,af,.nil,s0⟩ (by rintro i σ H2 _ ⟨_,_,_,_,_,s⟩;exact bI.of (s _ _ jT)) ?_ ?_⟩
 ·rintro i x σ H2 hi ⟨vs,u,rfl,dN,hb,s⟩;obtain⟨it,ei,hiv⟩:=rL.get hi;have hx2:=hiv.same s;have step:(aM.take (i+1)).foldl bX []=bX ((aM.take i).foldl bX []) it:=by rw[take_snoc ei,List.foldl_append];rfl
  have bl:vs.length<sizeLine:=by
   have z:=hb.len;have z2:=Jc (aM.take i) [];rw[gx,qO]at z2;exact aR ∅
  have app:bX ((aM.take i).foldl bX []) it=(aM.take i).foldl bX []++[it]->∃ (DM:List V) (u':Option V),[some (V.ref r),some (.ref q),some x]=[some (.ref r),some (.ref q),u']/\(aN H2 q (.lst (vs++[x]))) q=some (.lst DM)/\bS (cI (aN H2 q (.lst (vs++[x])))) DM ((aM.take (i+1)).foldl bX [])/\aI H (aN H2 q (.lst (vs++[x]))):=λe=>by
   refine⟨P,rfl,af,?_,bP hq s (aG q _ _)⟩;rw[step,e];exact bS.snoc (hb.mono λv i h=>h.keep dN (aG q _ _)) (hx2.keep dN (aG q _ _))
  rcases mZ ((aM.take i).foldl bX []) with hn|⟨t0,l0,hn⟩
  ·have hvs:vs=[]:=by
    rw[hn]at hb;exact List.eq_nil_of_length_eq_zero hb.len
   subst hvs;refine⟨Y,false,.inl ⟨_,bI.of dN,rfl⟩,eO (eO ?_)⟩;refine⟨Y,.inl ⟨rfl,_,bI.of dN⟩,Y,q,Z,dN,bl,app ?_⟩;rw[hn];rfl
  ·rw[kM]at hn;have hb':=hb;rw[hn]at hb';obtain⟨us,v0,rfl,hb0,hv0⟩:=hb'.split;obtain⟨a0,rfl,F4⟩:=id hv0;refine⟨Y,true,.inl ⟨_,bI.of dN,by simp⟩,jH ?_⟩;exists Y,Y,q,K,V,bI.of dN,eK _ _,Y,P,l0,it,rfl,hv0,hx2,Y
   cases l0 with
   | win n =>
    refine eO ?_;refine⟨Y,.inl ⟨rfl,_,bI.of dN⟩,Y,q,Z,dN,bl,app ?_⟩;rw[hn];unfold bX;rw[nU]
   | aL p1 p2 =>
    cases it with
    | win n =>
     refine eO ?_;refine⟨Y,.inl ⟨rfl,_,bI.of dN⟩,Y,q,Z,dN,bl,app ?_⟩;rw[hn];unfold bX;rw[nU]
    | aL c d =>
     refine cN (λz=>?_) (λz=>?_)
     ·have e2:p2=c:=of_decide_eq_true z;obtain⟨ax,rfl,hax⟩:=id hx2;refine⟨Y,Y,q,K,V,bI.of dN,eK _ _,a0,K,V,cX.of F4,rfl,Y,ax,K,V,cX.of hax,rfl,IP,λt ht=>?_⟩;refine⟨Y,Y,q,P,us.length,V,ak ht _ _ _ dN,(by rw[cY];exact zO _),?_⟩;rw[vA];refine⟨P,rfl,af,?_,bP hq (s.trans (ak ht _)) (aG q _ _)⟩
      have e3:(aM.take (i+1)).foldl bX []=t0++[.aL p1 d]:=by
       rw[step,hn];unfold bX;rw[nU,List.dropLast_concat];show (if p2=c then t0++[aP.aL p1 d] else _)=_;rw[if_pos e2]
      rw[e3];exact bS.new (it:=.aL p1 d) dN hb0 ht _
     ·have e2:¬ p2=c:=λw=>z (decide_eq_true w);refine⟨Y,.inl ⟨rfl,_,bI.of dN⟩,Y,q,Z,dN,bl,app ?_⟩;rw[hn];unfold bX;rw[nU];show (if p2=c then _ else t0++[aP.aL p1 p2]++[aP.aL c d])=_;rw[if_neg e2]
 ·rintro σ H2 ⟨vs,u,rfl,dN,hb,s⟩;rw[rL.len,gO]at hb;exact⟨Y,k q H2 ⟨q,vs,rfl,dN,hb⟩ s hq⟩
def cG(r:Row):List aP:=r.map λp=>.aL p.1 p.2
class inductive SQ
 | mk (r:Addr) (row:Row) (_:vs=[.ref r]) (_:cA H r row) (_:row.length<=100000) (_ :
 ∀ (o:Addr) (H':Hp),bH H' (.ref o) (cG (b8 row))->aI H H'->H o=none->Q (.ref o) H')
theorem SR:aH ["row"] ["row"] (aA Dy):=eU
theorem lF:‹(2,25,["row"],SQ)›:=λD=>by
 specialize eV D.DU.F SR;obtain⟨r,row,rfl,R,dI,k⟩:=h;refine⟨_,(au (aJ (gH (N:=["start","stop"]) (om (sc:=aA Dy) (NX:=["row"]) (jx:=[none,none]) rfl rfl rfl nofun nofun rfl nofun rfl nofun) rfl (cF (aC D.ZJ (vI D) hr (aa (pv 0) ah))) (λ_ _ _ _ _ _=>(y9 (n:=2) rfl (cj (ck (i:=0) (show List.Nodup (["start","stop"]:List Str) by decide +kernel)) (cj (ck (i:=1) (show List.Nodup (["start","stop"]:List Str) by decide +kernel)) gR)))) (λ_ _ _ _ _ _=>ji) (λ_ _ _ _ _ _=>(cH (aa bx (aa (pv 0) (aa (pv 1) ah)))))))),?_⟩;refine⟨Y,r,row,rfl,R,Q,λq H1 R1 s1 hq=>?_⟩;obtain⟨as,h1,p1⟩:=id R1;have pl:=jA row;refine⟨q,rfl,⟨_,bI.of h1⟩,λacc cR=>gF (K:=K) (a:=q) (xs:=as.map V.ref) (λi σ H2=>∃ (u v:Option V) (vs:List V),σ=[u,v]/\H2 acc=some (.lst vs)/\bS (cI H2) vs (cG ((b8 row).take i))/\aI H1 H2) ⟨none,none,[],rfl,af,.nil,ak cR _⟩ (by rintro i σ H2 _ ⟨_,_,_,_,_,_,s⟩;exact bI.of (s _ _ h1)) ?_ ?_⟩
 ·rintro i x σ H2 hi ⟨u,v,vs,rfl,ha,t2,s⟩;rw[mY]at hi;obtain⟨a,ea,rfl⟩:=Option.map_eq_some_iff.mp hi;obtain⟨⟨st,en⟩,ep,hpa⟩:=p1.get ea;have bl:=t2.len;unfold cG at bl;rw[cy,gx]at bl;refine⟨a,Y,cX.of (s _ _ hpa),rfl,P,rfl,Z,yes (jH ?_)⟩;refine⟨Y,Y,IP,λt ht=>?_⟩;refine⟨vs,ak ht _ _ _ ha,aR ∅,K,rfl,af,?_,bP cR (s.trans (ak ht _)) (aG acc _ _)⟩
  have e:cG ((b8 row).take (i+1))=cG ((b8 row).take i)++[.aL st en]:=by
   rw[take_snoc ep];unfold cG;rw[gw];rfl
  rw[e];exact bS.new (it:=.aL st en) ha t2 ht _
 ·rintro σ H2 ⟨u,v,vs,rfl,ha,t2,s⟩;rw[cy,p1.len,gO]at t2;refine k acc H2 ⟨acc,vs,rfl,ha,t2⟩ (s1.trans s) ?_
  cases e:H acc with
  | none=>rfl
  | some o=>exact absurd ((s1 _ _ e).symm.trans cR) (by simp)
def fJ:aP->List Int
 | .win n=>[-1-n]
 | .aL a b=>run a (b-a).toNat
def c9(aM:List aP):List Int:=aM.flatMap fJ
def l9:aP->Prop
 | .win n=>0<=n
 | .aL a b=>0<=a/\a<b
def fK(aM:List aP):Prop:=∀ it∈aM,l9 it
theorem dh(a b:List aP):c9 (a++b)=c9 a++c9 b:=by unfold c9;rw[List.flatMap_append]
theorem i6(a:aP):c9 [a]=fJ a:=by simp[c9]
theorem fK.append{a b:List aP}(h:fK a)(g:fK b):fK (a++b):=λit hm=>(List.mem_append.mp hm).elim (h it) (g it)
theorem fK.one{a:aP}(h:l9 a):fK [a]:=λit hm=>by rw[List.mem_singleton.mp hm];exact h
theorem Pq(t:List aP){n:Int}(h:0<=n):bh t (-1-n)=t++[.win n]:=by
 unfold bh;rw[if_pos ∅];congr 3;lia
theorem MB(t:List aP)(p s:Int)(h:0<=s):bh (t++[.aL p s]) s=t++[.aL p (s+1)]:=by
 unfold bh;rw[if_neg ∅,nU];show (if s=s then (t++[aP.aL p s]).dropLast++[.aL p (s+1)] else _)=_;rw[if_pos rfl,List.dropLast_concat]
theorem CM(t:List aP)(p:Int):∀ (n:Nat) (s:Int),0<=s->(run s n).foldl bh (t++[.aL p s])=t++[.aL p (s+n)]
 | 0,s,_=>by simp[run]
 | n+1,s,h=>by
  rw[run,kO,MB t p s h,CM t p n (s+1) ∅];congr 3;lia
theorem Jd(t:List aP)(it:aP)(h:l9 it):bX t it=(fJ it).foldl bh t:=by
 cases it with
 | win n =>
  show bX t (.win n)=bh t (-1-n);rw[Pq t h];unfold bX
  cases t.getLast? with
  | none=>rfl
  | some l=>cases l <;> rfl
 | aL a b =>
  obtain⟨a0,ab⟩:=h;have e:(b-a).toNat=(b-(a+1)).toNat+1:=by lia
  show bX t (.aL a b)=(run a (b-a).toNat).foldl bh t;rw[e,run,kO]
  have jG:∀ (u:List aP) (p:Int),(run (a+1) (b-(a+1)).toNat).foldl bh (u++[.aL p (a+1)])=u++[.aL p b]:=λu p=>by
   rw[CM u p _ _ ∅];congr 3;lia
  unfold bX bh;rw[if_neg ∅]
  cases t.getLast? with
  | none=>exact (jG t a).symm
  | some l =>
   cases l with
   | win n=>exact (jG t a).symm
   | aL p q =>
    show (if q=a then t.dropLast++[aP.aL p b] else t++[aP.aL a b])=List.foldl bh (if q=a then t.dropLast++[aP.aL p (a+1)] else t++[aP.aL a (a+1)]) _;by_cases c:q=a
    ·rw[if_pos c,if_pos c,jG]
    ·rw[if_neg c,if_neg c,jG]
theorem jC(aM:List aP)(h:fK aM):Jb aM=aF (c9 aM):=by
 unfold Jb aF c9;rw[nA]
 have z:∀ (aM:List aP) (t:List aP),fK aM->aM.foldl bX t=aM.foldl (λc a=>(fJ a).foldl bh c) t:=by
  intro aM
  induction aM with
  | nil=>intro t _;rfl
  | cons it aM ih =>
   intro t h;rw[kO,kO,Jd t it (h it (by simp))];exact ih _ λi hi=>h i (mO _ hi)
 exact z aM [] h
theorem MC(t:List aP)(e:Int)(h:fK t):c9 (bh t e)=c9 t++[e]/\fK (bh t e):=by
 unfold bh;by_cases c:e<0
 ·rw[if_pos c,dh,i6];refine⟨?_,h.append (fK.one (by show 0<=-1-e;lia))⟩;show c9 t++[-1-(-1-e)]=_;rw[show -1-(-1-e)=e by lia]
 ·rw[if_neg c]
  have pl:c9 (t++[.aL e (e+1)])=c9 t++[e]/\fK (t++[.aL e (e+1)]):=by
   refine⟨?_,h.append (fK.one ⟨Q,Q⟩)⟩;rw[dh,i6];show _++run e (e+1-e).toNat=_;rw[show (e+1-e).toNat=1 by lia];rfl
  rcases mZ t with rfl|⟨t',l,rfl⟩
  ·exact pl
  ·rw[kM]at h pl ⊢;rw[nU]
   cases l with
   | win n=>exact pl
   | aL a b =>
    show c9 (if b=e then (t'++[aP.aL a b]).dropLast++[.aL a (e+1)] else (t'++[aP.aL a b])++[.aL e (e+1)])=_/\fK (if b=e then (t'++[aP.aL a b]).dropLast++[.aL a (e+1)] else (t'++[aP.aL a b])++[.aL e (e+1)]);by_cases hb:b=e
    ·subst hb;obtain⟨a0,ab⟩:0<=a/\a<b:=h (.aL a b) (by simp);rw[if_pos rfl,List.dropLast_concat];refine⟨?_,fK.append (λi hi=>h i (qM _ hi)) (fK.one ⟨a0,Q⟩)⟩;rw[dh,dh,i6,i6,nV];congr 1;show run a (b+1-a).toNat=run a (b-a).toNat++[b];rw[show (b+1-a).toNat=(b-a).toNat+1 by lia,zM];congr 2;lia
    ·rw[if_neg hb];exact pl
theorem ku(es:List Int):c9 (aF es)=es/\fK (aF es):=by
 have z:∀ (es:List Int) (t:List aP),fK t->c9 (es.foldl bh t)=c9 t++es/\fK (es.foldl bh t):=by
  intro es
  induction es with
  | nil=>intro t h;exact⟨by simp,h⟩
  | cons e es ih =>
   intro t h;obtain⟨h1,h2⟩:=MC t e h;obtain⟨h3,h4⟩:=ih _ h2;exact⟨by rw[kO,h3,h1,nV];rfl,h4⟩
 obtain⟨h1,h2⟩:=z es [] (λi hi=>by cases hi);exact⟨by unfold aF;rw[h1];rfl,h2⟩
theorem nI(r:Row):c9 (cG r)=bK r:=by
 unfold c9 cG bK;rw[List.flatMap_map];rfl
theorem rQ{r:Row}(h:jR r):fK (cG r):=by
 intro it hm;unfold cG at hm;obtain⟨p,hp,rfl⟩:=List.mem_map.mp hm;exact h p hp
theorem MD{ns:List Int}(h:∀ x∈ns,0<=x):cG (cP ns)=aF ns:=by
 have z:∀ (ns:List Int) (t:Row),(∀ x∈ns,0<=x)->cG (ns.foldl (λt n=>iQ t n (n+1)) t)=ns.foldl bh (cG t):=by
  intro ns
  induction ns with
  | nil=>intro t _;rfl
  | cons n ns ih =>
   intro t h;rw[kO,kO,ih _ λx hx=>h x (mO _ hx)];congr 1;have n0:=h n (by simp);unfold iQ bh;rw[if_neg ∅];rcases mZ t with rfl|⟨t',l,rfl⟩
   ·rfl
   ·rw[kM,nU];have e:(cG (t'++[l])).getLast?=some (.aL l.1 l.2):=by unfold cG;rw[gw];exact nU
    rw[e];show cG (if l.2=n then (t'++[l]).dropLast++[(l.1,n+1)] else t'++[l]++[(n,n+1)])=if l.2=n then (cG (t'++[l])).dropLast++[.aL l.1 (n+1)] else cG (t'++[l])++[.aL n (n+1)];by_cases c:l.2=n
    ·rw[if_pos c,if_pos c,List.dropLast_concat];unfold cG;rw[gw,gw];simp
    ·rw[if_neg c,if_neg c];unfold cG;rw[gw];rfl
 exact z ns [] h
abbrev nX:=aP × Row × Int × Int
def cT(sh:Int->List Int)(it:aP):Row:=qG (λn=>cP (sh n)) it
def bY(sh:Int->List Int):Int->List aP->List nX
 | _,[]=>[]
 | f,it::r=>(it,cT sh it,f,f+jh (cT sh it))::bY sh (f+jh (cT sh it)) r
theorem vR(sh:Int->List Int)(b:List aP):∀ (a:List aP) (f:Int),bY sh f (a++b)=bY sh f a++bY sh (f+jh (bC sh a)) b
 | [],f=>by simp[bY,bC,jh]
 | it::a,f=>by
  rw[List.cons_append,bY,bY,vR sh b a,List.cons_append];have e:bC sh (it::a)=cT sh it++bC sh a:=by unfold bC;rw[jo];rfl
  rw[e,zL,Int.add_assoc]
theorem CN(sh:Int->List Int):∀ (a:List aP) (f:Int),(bY sh f a).length=a.length
 | [],_=>rfl
 | _::a,f=>by rw[bY,eY,eY,CN sh a]
def nJ(N:Addr->Prop)(H:Hp)(v:V)(d:nX):Prop:=∃ (a ra:Addr) (x:V),v=.ref a/\H a=some (.tup [x,.ref ra,.int d.2.2.1,.int d.2.2.2])/\cI H x d.1/\cA H ra d.2.1/\N ra
theorem nJ.same{N:Addr->Prop}{H H':Hp}{v:V}{d:nX}(s:aI H H'):nJ N H v d->nJ N H' v d:=λ⟨a,ra,x,e,h,i,r,n⟩=>⟨a,ra,x,e,s _ _ h,i.same s,r.same s,n⟩
theorem nJ.keep{N:Addr->Prop}{H H':Hp}{v:V}{d:nX}{q:Addr}{xs:List V}(hq:H q=some (.lst xs))(nq:∀ a,N a->a≠q)(k:cD q H H'):nJ N H v d->nJ N H' v d:=λ⟨a,ra,x,e,h,i,r,n⟩=>⟨a,ra,x,e,k a _ h (by
 intro z;rw[z,hq]at h
 cases h),i.keep hq k,r.keep hq (nq ra n) k,n⟩
def xr(H:Hp)(kvs:List (fk × V))(sh:Int->List Int)(aM:List aP):Prop:=∀ n,aP.win n∈aM->∃ a,cJ kvs (Sum.inl n)=some (.ref a)/\cA H a (cP (sh n))
theorem xr.same{H H':Hp}{kvs:List (fk × V)}{sh:Int->List Int}{aM:List aP}(s:aI H H')(h:xr H kvs sh aM):xr H' kvs sh aM:=λn hn=>by
 obtain⟨a,e,r⟩:=h n hn;exact⟨a,e,r.same s⟩
def aD(p:Int)(d:nX):List aP:=if d.2.2.2<=p then [d.1] else if p<=d.2.2.1 then [] else cG (b8 (lI 0 (p-d.2.2.1) 0 d.2.1))
def bD(p:Int)(d:nX):List aP:=if d.2.2.2<=p then [] else if p<=d.2.2.1 then [d.1] else cG (b8 (lI (p-d.2.2.1) (d.2.2.2-d.2.2.1) 0 d.2.1))
def aE(sh:Int->List Int)(p:Int):Int->List Int->List Int
 | _,[]=>[]
 | f,e::r=>(if f+(aY sh e).length<=p then [e] else if p<=f then [] else (aY sh e).take (p-f).toNat)++aE sh p (f+(aY sh e).length) r
def bE(sh:Int->List Int)(p:Int):Int->List Int->List Int
 | _,[]=>[]
 | f,e::r=>(if f+(aY sh e).length<=p then [] else if p<=f then [e] else (aY sh e).drop (p-f).toNat)++bE sh p (f+(aY sh e).length) r
theorem bU(sh:Int->List Int)(e:Int)(r:List Int):aS sh (e::r)=aY sh e++aS sh r:=by unfold aS;rw[jo]
theorem jV(sh:Int->List Int)(a b:List Int):aS sh (a++b)=aS sh a++aS sh b:=by unfold aS;rw[List.flatMap_append]
theorem xu(sh:Int->List Int)(p:Int)(y:List Int):∀ (x:List Int) (f:Int),aE sh p f (x++y)=aE sh p f x++aE sh p (f+(aS sh x).length) y
 | [],f=>by simp[aE,aS]
 | e::x,f=>by
  rw[List.cons_append,aE,aE,xu sh p y x,nV,bU,cY,Int.add_assoc]
  push_cast
  rfl
theorem xx(sh:Int->List Int)(p:Int)(y:List Int):∀ (x:List Int) (f:Int),bE sh p f (x++y)=bE sh p f x++bE sh p (f+(aS sh x).length) y
 | [],f=>by simp[bE,aS]
 | e::x,f=>by
  rw[List.cons_append,bE,bE,xx sh p y x,nV,bU,cY,Int.add_assoc]
  push_cast
  rfl
theorem sM(sh:Int->List Int){e:Int}(h:0<=e):aY sh e=[e]:=by unfold aY;rw[if_neg ∅]
theorem mS(sh:Int->List Int):∀ (n:Nat) (a:Int),0<=a->aS sh (run a n)=run a n
 | 0,_,_=>rfl
 | n+1,a,h=>by rw[run,bU,sM sh h,mS sh n (a+1) ∅];rfl
theorem Pr(sh:Int->List Int)(p:Int):∀ (n:Nat) (a f:Int),0<=a->aE sh p f (run a n)=(run a n).take (p-f).toNat
 | 0,_,_,_=>by simp[run,aE]
 | n+1,a,f,h=>by
  rw[run,aE,Pr sh p n (a+1) _ ∅,sM sh h];show (if f+1<=p then [a] else if p<=f then [] else _)++(run (a+1) n).take (p-(f+1)).toNat=_;by_cases c:f+1<=p
  ·rw[if_pos c,show (p-f).toNat=(p-(f+1)).toNat+1 by lia];rfl
  ·rw[if_neg c,if_pos ∅,show (p-f).toNat=0 by lia,show (p-(f+1)).toNat=0 by lia];rfl
theorem Pu(sh:Int->List Int)(p:Int):∀ (n:Nat) (a f:Int),0<=a->bE sh p f (run a n)=(run a n).drop (p-f).toNat
 | 0,_,_,_=>by simp[run,bE]
 | n+1,a,f,h=>by
  rw[run,bE,Pu sh p n (a+1) _ ∅,sM sh h];show (if f+1<=p then [] else if p<=f then [a] else _)++(run (a+1) n).drop (p-(f+1)).toNat=_;by_cases c:f+1<=p
  ·rw[if_pos c,show (p-f).toNat=(p-(f+1)).toNat+1 by lia];rfl
  ·rw[if_neg c,if_pos ∅,show (p-f).toNat=0 by lia,show (p-(f+1)).toNat=0 by lia];rfl
theorem Px(sh:Int->List Int){n:Int}(h:0<=n):aY sh (-1-n)=sh n:=by
 unfold aY;rw[if_pos ∅,show -1-(-1-n)=n by lia]
theorem vS(sh:Int->List Int)(it:aP)(h:l9 it):∀ q∈cT sh it,q.1<=q.2:=by
 cases it with
 | win n=>exact pG _
 | aL a b =>
  intro q hq;have:q=(a,b):=by simpa [cT,qG] using hq
  subst this;have:=h.2;show a<=b;lia
theorem kB(sh:Int->List Int)(it:aP)(h:l9 it):bK (cT sh it)=aS sh (fJ it):=by
 cases it with
 | win n =>
  show bK (cP (sh n))=aS sh [-1-n];rw[gB,bU,Px sh h];simp[aS]
 | aL a b =>
  show bK [(a,b)]=aS sh (run a (b-a).toNat);rw[fD,mS sh _ _ h.1];rfl
theorem lG(sh:Int->List Int)(it:aP)(h:l9 it):jh (cT sh it)=(aS sh (fJ it)).length:=by
 rw[← kB sh it h,sF _ (vS sh it h)]
theorem aaJ(sh:Int->List Int)(p f:Int)(it:aP)(h:l9 it):c9 (aD p (it,cT sh it,f,f+jh (cT sh it)))=aE sh p f (fJ it):=by
 have tt:=lG sh it h
 have sp:c9 (cG (b8 (lI 0 (p-f) 0 (cT sh it))))=(aS sh (fJ it)).take (p-f).toNat:=by
  rw[nI,qv _ _ _ (vS sh it h),kB sh it h];rfl
 unfold aD;show c9 (if f+jh (cT sh it)<=p then [it] else if p<=f then [] else cG (b8 (lI 0 (p-f) 0 (cT sh it))))=_;rw[tt]
 cases it with
 | win n =>
  have e1:aS sh (fJ (.win n))=aY sh (-1-n):=by show aS sh [-1-n]=_;rw[bU];simp[aS]
  rw[e1]at sp ⊢;show _=aE sh p f [-1-n];rw[aE,aE,gP];split
  ·rfl
  ·split
   ·rfl
   ·exact sp
 | aL a b =>
  have e1:aS sh (fJ (.aL a b))=run a (b-a).toNat:=mS sh _ _ h.1;rw[e1]at sp ⊢;show _=aE sh p f (run a (b-a).toNat);rw[Pr sh p _ _ _ h.1];have rl:=gE a (b-a).toNat;split
  ·rename_i c;rw[i6,ua ∅];rfl
  ·split
   ·rename_i c;rw[show (p-f).toNat=0 by lia];rfl
   ·exact sp
theorem aaK(sh:Int->List Int)(p f:Int)(it:aP)(h:l9 it):c9 (bD p (it,cT sh it,f,f+jh (cT sh it)))=bE sh p f (fJ it):=by
 have tt:=lG sh it h
 have sp:c9 (cG (b8 (lI (p-f) (f+jh (cT sh it)-f) 0 (cT sh it))))=(aS sh (fJ it)).drop (p-f).toNat:=by
  rw[nI,qv _ _ _ (vS sh it h),kB sh it h,ua (by rw[tt];lia)]
 unfold bD;show c9 (if f+jh (cT sh it)<=p then [] else if p<=f then [it] else cG (b8 (lI (p-f) (f+jh (cT sh it)-f) 0 (cT sh it))))=_;have c1:(f+jh (cT sh it)<=p)=(f+(aS sh (fJ it)).length<=p):=by rw[tt]
 simp only[c1]
 cases it with
 | win n =>
  have e1:aS sh (fJ (.win n))=aY sh (-1-n):=by show aS sh [-1-n]=_;rw[bU];simp[aS]
  rw[e1]at sp ⊢;show _=bE sh p f [-1-n];rw[bE,bE,gP];split
  ·rfl
  ·split
   ·rfl
   ·exact sp
 | aL a b =>
  have e1:aS sh (fJ (.aL a b))=run a (b-a).toNat:=mS sh _ _ h.1;rw[e1]at sp ⊢;show _=bE sh p f (run a (b-a).toNat);rw[Pu sh p _ _ _ h.1];have rl:=gE a (b-a).toNat;split
  ·rename_i c;rw[ve ∅];rfl
  ·split
   ·rename_i c;rw[i6,show (p-f).toNat=0 by lia];rfl
   ·exact sp
theorem Gb(sh:Int->List Int)(p:Int):∀ (aM:List aP) (f:Int),fK aM->c9 ((bY sh f aM).flatMap (aD p))=aE sh p f (c9 aM)
 | [],f,_=>rfl
 | it::r,f,h=>by
  have h1:=h it (by simp);rw[bY,jo,dh,aaJ sh p f it h1,Gb sh p r _ λi hi=>h i (mO _ hi)];have e:c9 (it::r)=fJ it++c9 r:=by unfold c9;rw[jo]
  rw[e,xu,lG sh it h1]
theorem CO(sh:Int->List Int)(p:Int):∀ (aM:List aP) (f:Int),fK aM->c9 ((bY sh f aM).flatMap (bD p))=bE sh p f (c9 aM)
 | [],f,_=>rfl
 | it::r,f,h=>by
  have h1:=h it (by simp);rw[bY,jo,dh,aaK sh p f it h1,CO sh p r _ λi hi=>h i (mO _ hi)];have e:c9 (it::r)=fJ it++c9 r:=by unfold c9;rw[jo]
  rw[e,xx,lG sh it h1]
def SS(sh:Int->List Int)(aM:List aP):Prop:=∀ n,aP.win n∈aM->∀ x∈sh n,0<=x
theorem SV(sh:Int->List Int)(it:aP)(h:l9 it)(g:∀ n,it=.win n->∀ x∈sh n,0<=x):l6 (cT sh it):=by
 cases it with
 | win n=>exact (Cw (g n rfl)).nn
 | aL a b =>
  intro q hq;have:q=(a,b):=by simpa [cT,qG] using hq
  subst this;exact⟨h.1,by have:=h.2;show a<=b;lia⟩
theorem ze(sh:Int->List Int):∀ (aM:List aP) (f:Int),fK aM->SS sh aM->∀ d∈bY sh f aM,l9 d.1/\l6 d.2.1
 | [],_,_,_=>λd hd=>by cases hd
 | it::r,f,h,g=>by
  intro d hd;rw[bY]at hd;rcases List.mem_cons.mp hd with rfl|z
  ·exact⟨h it (by simp),SV sh it (h it (by simp)) λn e=>g n (by rw[e];simp)⟩
  ·exact ze sh r _ (λi hi=>h i (mO _ hi)) (λn hn=>g n (mO _ hn)) d z
theorem An{a b:Int}{r:Row}(h:l6 r):fK (cG (b8 (lI a b 0 r))):=rQ (mR (Aa a b r 0 h))
theorem aaL{p:Int}{d:nX}(h:l9 d.1)(g:l6 d.2.1):fK (aD p d):=by
 unfold aD;split
 ·exact fK.one h
 ·split
  ·exact λi hi=>by cases hi
  ·exact An g
theorem aaM{p:Int}{d:nX}(h:l9 d.1)(g:l6 d.2.1):fK (bD p d):=by
 unfold bD;split
 ·exact λi hi=>by cases hi
 ·split
  ·exact fK.one h
  ·exact An g
theorem vU{g:nX->List aP}{l:List nX}(h:∀ d∈l,fK (g d)):fK (l.flatMap g):=λit hm=>by
 obtain⟨d,hd,hm⟩:=List.mem_flatMap.mp hm;exact h d hd it hm
theorem zf(r:Row):(cG r).length=r.length:=by unfold cG;rw[cy]
theorem sN(a b:Int)(r:Row):(cG (b8 (lI a b 0 r))).length<=r.length:=by
 rw[zf];exact gV (jA _) (ko a b r 0)
theorem Ao(sh:Int->List Int){g:nX->List aP}(hg:∀ d,(g d).length<=d.2.1.length+1):∀ (aM:List aP) (f:Int),((bY sh f aM).flatMap g).length<=(bC sh aM).length+aM.length
 | [],_=>by simp[bY]
 | it::r,f=>by
  rw[bY,jo,cY];have a:=hg (it,cT sh it,f,f+jh (cT sh it));have b:=Ao sh hg r (f+jh (cT sh it));have e:bC sh (it::r)=cT sh it++bC sh r:=by unfold bC;rw[jo];rfl
  rw[e,cY,eY];simp only at a;lia
theorem Xc(p:Int)(d:nX):(aD p d).length<=d.2.1.length+1:=by
 unfold aD;split
 ·simp
 ·split
  ·simp
  ·exact gV (sN _ _ _) ∅
theorem Xd(p:Int)(d:nX):(bD p d).length<=d.2.1.length+1:=by
 unfold bD;split
 ·simp
 ·split
  ·simp
  ·exact gV (sN _ _ _) ∅
theorem iF{α β:Type}(g:α->List β)(l:List α)(i:Nat):((l.take i).flatMap g).length<=(l.flatMap g).length:=by
 have e:l.flatMap g=(l.take i).flatMap g++(l.drop i).flatMap g:=by rw[← List.flatMap_append,List.take_append_drop]
 rw[e,cY];lia
theorem sO{α β:Type}(g:α->List β){l:List α}{i:Nat}{a:α}(h:l[i]?=some a):(l.take (i+1)).flatMap g=(l.take i).flatMap g++g a:=by
 rw[take_snoc h,List.flatMap_append];simp
theorem vV(sh:Int->List Int){aM:List aP}{it:aP}(h:it∈aM):(cT sh it).length<=(bC sh aM).length:=by
 obtain⟨a,b,rfl⟩:=List.append_of_mem h;rw[eL];have e:bC sh (it::b)=cT sh it++bC sh b:=by unfold bC;rw[jo];rfl
 rw[e,cY,cY];lia
def KR(A B:Addr)(H H':Hp):Prop:=∀ a o,H a=some o->a≠A->a≠B->H' a=some o
theorem KR.tup{A B:Addr}{H H':Hp}{xs ys:List V}(k:KR A B H H')(hA:H A=some (.lst xs))(hB:H B=some (.lst ys)):∀ a zs,H a=some (.tup zs)->H' a=some (.tup zs):=λa zs h=>k a _ h (λz=>by
 rw[z,hA]at h;cases h) (λz=>by
 rw[z,hB]at h
 cases h)
theorem cI.tups{H H':Hp}{v:V}{it:aP}(t:∀ a xs,H a=some (.tup xs)->H' a=some (.tup xs)):cI H v it->cI H' v it:=λ⟨a,e,h⟩=>⟨a,e,t a _ h⟩
theorem nJ.UO{N:Addr->Prop}{A B:Addr}{H H':Hp}{v:V}{d:nX}{xs ys:List V}(hA:H A=some (.lst xs))(hB:H B=some (.lst ys))(n:∀ a,N a->a≠A/\a≠B)(k:KR A B H H'):nJ N H v d->nJ N H' v d:=λ⟨a,ra,x,e,h,i,⟨as,hr,hp⟩,hn⟩ =>
 ⟨a,ra,x,e,k.tup hA hB _ _ h,i.tups (k.tup hA hB),⟨as,k _ _ hr (n ra hn).1 (n ra hn).2,hp.tups (k.tup hA hB)⟩,hn⟩
theorem bS.app{α β:Type}{R:α->β->Prop}{as cs:List α}{bs ds:List β}(h:bS R as bs)(t:bS R cs ds):bS R (as++cs) (bs++ds):=by
 induction h with
 | nil=>exact t
 | cons e _ ih=>exact .cons e ih
structure mh(H1:Hp)(A B:Addr)(l1 l2:List aP)(H2:Hp):Prop where
 a:∃ vs,H2 A=some (.lst vs)/\bS (cI H2) vs l1
 b:∃ vs,H2 B=some (.lst vs)/\bS (cI H2) vs l2
 k:KR A B H1 H2
theorem mh.same{H1 H2 H3:Hp}{A B:Addr}{l1 l2:List aP}(p:mh H1 A B l1 l2 H2)(s:aI H2 H3):mh H1 A B l1 l2 H3:=by
 obtain⟨⟨v1,h1,t1⟩,⟨v2,h2,t2⟩,k⟩:=p;exact⟨⟨v1,s _ _ h1,t1.mono λ_ _ h=>h.same s⟩,⟨v2,s _ _ h2,t2.mono λ_ _ h=>h.same s⟩,λa o e n m=>s _ _ (k a o e n m)⟩
theorem mh.KS{H1 H2:Hp}{A B:Addr}{l1 l2 l3:List aP}{v1 v3:List V}(p:mh H1 A B l1 l2 H2)(n:A≠B)(h1:H2 A=some (.lst v1))(t3:bS (cI H2) v3 l3):mh H1 A B (l1++l3) l2 (aN H2 A (.lst (v1++v3))):=by
 obtain⟨⟨v1',h1',t1⟩,⟨v2,h2,t2⟩,k⟩:=p;rw[h1]at h1';cases h1';have kp:∀ v i,cI H2 v i->cI (aN H2 A (.lst (v1++v3))) v i:=λv i h=>h.keep h1 (aG A _ _);refine⟨⟨_,af,(t1.mono kp).app (t3.mono kp)⟩,⟨v2,by rw[aK n.symm];exact h2,t2.mono kp⟩,λa o e m1 m2=>?_⟩;rw[aK m1];exact k a o e m1 m2
theorem mh.KU{H1 H2:Hp}{A B:Addr}{l1 l2 l3:List aP}{v2 v3:List V}(p:mh H1 A B l1 l2 H2)(n:A≠B)(h2:H2 B=some (.lst v2))(t3:bS (cI H2) v3 l3):mh H1 A B l1 (l2++l3) (aN H2 B (.lst (v2++v3))):=by
 obtain⟨⟨v1,h1,t1⟩,⟨v2',h2',t2⟩,k⟩:=p;rw[h2]at h2';cases h2';have kp:∀ v i,cI H2 v i->cI (aN H2 B (.lst (v2++v3))) v i:=λv i h=>h.keep h2 (aG B _ _);refine⟨⟨v1,by rw[aK n];exact h1,t1.mono kp⟩,⟨_,af,(t2.mono kp).app (t3.mono kp)⟩,λa o e m1 m2=>?_⟩;rw[aK m2];exact k a o e m1 m2
theorem pK{rows:cU}{sh:Int->List Int}(pR:gp rows)(xq:Cu rows)(xY:nH rows sh):∀ x:Int,0<=x->x<rows.length->∀ y∈sh x,0<=y:=by
 obtain⟨rk,hb,hd⟩:=xq
 have key:∀ (k:Nat) (x:Int),rk x<k->0<=x->x<rows.length->∀ y∈sh x,0<=y:=by
  intro k
  induction k with
  | zero=>intro x h;lia
  | succ k ih =>
   intro x hx x0 x1 y hy;have he:rows[x.toNat]?=some rows[x.toNat]:=pS ∅;rw[xY x _ x0 he]at hy;unfold aS at hy;obtain⟨e,hm,hy⟩:=List.mem_flatMap.mp hy;unfold aY at hy;by_cases c:e<0
   ·rw[if_pos c]at hy;have nx:j0 rows x (-1-e):=⟨x0,_,he,bT.mpr ⟨Q,by rw[show -1-(-1-e)=e by lia];exact hm⟩⟩;obtain⟨a,b⟩:=pR.EY nx;have:=hd _ _ nx;exact ih _ ∅ a b y hy
   ·rw[if_neg c]at hy;rw[List.mem_singleton.mp hy];lia
 exact λx=>key (rk x+1) x (Nat.lt_succ_self _)
theorem sP{rows:cU}{s n:Int}{es:List Int}(h0:0<=s)(he:rows[s.toNat]?=some es)(h:aP.win n∈aF es):j0 rows s n:=by
 exists h0,es,he;rw[← iE];unfold eZ;rw[List.mem_filterMap];exact⟨.win n,h,rfl⟩
structure oZ(H:Hp)(r:Addr)(rows:cU)(sh:Int->List Int):Prop where
 at_:fZ H r (rows.map aF)
 len:rows.length<=1000
 ents:∀ es∈rows,es.length<=1000
 snd:gp rows
 rk:Cu rows
 Py:nH rows sh
 bd:∀ x:Int,0<=x->x<rows.length->(sh x).length<=10000
theorem oZ.same{H H':Hp}{r:Addr}{rows:cU}{sh:Int->List Int}(s:aI H H')(h:oZ H r rows sh):oZ H' r rows sh:={ h with at_:=h.at_.same s }
structure aaN(H:Hp)(r:Addr)(rows:cU)(sh:Int->List Int)(s:Int)(es:List Int)(yf:List V)(b:Addr):Prop where
 he:rows[s.toNat]?=some es
 hr:H r=some (.lst yf)
 ix:pU yf s=some (.ref b)
 it:bH H (.ref b) (aF es)
 il:(aF es).length<=1000
 rl:(bC sh (aF es)).length<=10000
 tt:jh (cP (sh s))=(sh s).length
 se:sh s=aS sh es
theorem oZ.one{H:Hp}{r:Addr}{rows:cU}{sh:Int->List Int}{s:Int}(h:oZ H r rows sh)(h0:0<=s)(h1:s<rows.length):∃ es yf b,aaN H r rows sh s es yf b:=by
 have fj:rows[s.toNat]?=some rows[s.toNat]:=pS ∅;obtain⟨yf,F2,vO⟩:=h.at_;obtain⟨vi,Bo,hI⟩:=vO.get' (i:=s.toNat) (b:=aF rows[s.toNat]) (by rw[mY,fj];rfl);obtain⟨b,IX,rfl,hb,rL⟩:=id hI;have z:=cO Bo;rw[show ((s.toNat:Nat):Int)=s by lia]at z;have hil:=pH rows[s.toNat] [];have hel:=h.ents _ (oF fj);obtain⟨LG,hok⟩:=Al sh rows[s.toNat];have se:=h.Py s _ h0 fj;refine⟨_,yf,b,fj,F2,z,hI,?_,?_,?_,se⟩
 ·show (rows[s.toNat].foldl bh []).length<=_;simp only[qO]at hil;lia
 ·have q:=uR sh (aF rows[s.toNat]) hok;rw[LG,← se]at q;have:=h.bd s h0 h1;lia
 ·rw[← sF _ (pG _),gB]
theorem mT(ns:List Int):(cP ns).length<=ns.length:=by
 have z:=zR ns [];simpa [cP] using z
def fN(sh:Int->List Int)(p:Int)(es new:List Int):List Int:=if new=[] then es else aE sh p 0 es++new++bE sh p 0 es
class inductive SX
 | mk (r S:Addr) (aM:List aP) (kvs:List (fk × V)) (sh:Int->List Int) (N:Addr->Prop) (_:vs=[.ref r,.ref S]) (_:bH H (.ref r) aM) (_:H S=some (.dK kvs)) (_:xr H kvs sh aM) (_:aM.length<=100000) (_:(∀ it∈aM,(cT sh it).length<=100000)) (_:(∀ n a,aP.win n∈aM->cJ kvs (Sum.inl n)=some (.ref a)->N a)) (_:(∀ a,H a=none->N a)) (_ :
 ∀ (o:Addr) (DM:List V) (H':Hp),H' o=some (.lst DM)->bS (nJ N H') DM (bY sh 0 aM)->aI H H'->H o=none->Q (.ref o) H')
theorem qA:aH ["items","views","told","first","item","row","last"] ["items","views"] (aA Ic):=eU
theorem Ge:‹(2,26,["items","views"],SX)›:=λD=>by
 specialize eV D.WB.F qA;obtain⟨r,S,aM,kvs,sh,N,rfl,⟨r',IX,e,jT,rL⟩,hS,hW,dI,hrl,nW,nN,k⟩:=h;cases e;exists _,(aj (aV (i:=2) qA.nd (bL ah)) (aj (aV (i:=3) qA.nd ay) (aj (dQ PassesOwn.never rfl (cF (pv 0)) (ck (i:=4) qA.nd) (aj (aV (i:=5) qA.nd (aC D.WA (yg D) hr (aa (pv 4) (aa (pv 1) ah)))) (aj (aV (i:=6) qA.nd (bz dz (pv 3) (fG.qy D.Wu (D.T.oW _ D.Wu.m) (DY D) hr (aa (pv 5) ah)))) (aj (aU (dJ pQ jE jF bQ (pv 2) (aa (cH (aa (pv 4) (aa (pv 5) (aa (pv 3) (aa (pv 6) ah))))) ah))) (au (aV (i:=3) qA.nd (pv 6))))))) (au (aJ (pv 2))))));refine⟨gU,λq hq=>?_⟩;have s0:aI H (aN H q (.lst [])):=ak hq _;refine⟨Y,r,rfl,⟨_,bI.of (s0 _ _ jT)⟩,dm (K:=K) (a:=r) (xs:=IX) (λi σ H2=>∃ (vs:List V) (u1 u2 u3:Option V),σ=[some (.ref r),some (.ref S),some (.ref q),some (.int (0+jh (bC sh (aM.take i)))),u1,u2,u3]/\H2 q=some (.lst vs)/\bS (nJ (λa=>N a/\a≠q) H2) vs (bY sh 0 (aM.take i))/\aI H H2) ⟨[],none,none,none,rfl,af,.nil,s0⟩ (by rintro i σ H2 _ ⟨_,_,_,_,_,_,_,s⟩;exact bI.of (s _ _ jT)) ?_ ?_⟩
 ·rintro i x σ H2 hi ⟨vs,u1,u2,u3,rfl,dN,hb,s⟩;obtain⟨it,ei,hiv⟩:=rL.get hi;have im:=oF ei;have bl:=hb.len;rw[CN,gx]at bl;refine⟨Y,Y,x,it,S,kvs,λn=>cP (sh n),rfl,hiv.same s,s _ _ hS,λn hn=>(hW.same s) n (by rw[← hn];exact im),λa H3 R3 s3 w3=>?_⟩
  have na:N a/\a≠q:=by
   rcases w3 with ⟨n,rfl,hv⟩|h0
   ·exists nW n a im hv;obtain⟨b,EZ,⟨as,QY,_⟩⟩:=hW n im;rw[hv]at EZ;cases EZ;exact az QY hq
   ·exact⟨nN a (aW s h0),(az dN h0).symm⟩
  refine⟨Y,Y,a,cT sh it,rfl,R3,gV (hrl it im) (by decide),λH4 s4=>⟨Z,?_⟩⟩;have F6:=s4 _ _ (s3 _ _ dN);refine⟨Y,.inl ⟨rfl,_,bI.of F6⟩,Y,Y,Y,Y,DT,λt ht=>?_⟩;have hq5:=ak ht (.tup [x,.ref a,.int (0+jh (bC sh (aM.take i))),.int (0+jh (bC sh (aM.take i))+jh (cT sh it))]) _ _ F6;refine⟨q,Z,hq5,aR ∅,?_⟩;refine⟨Y,_,some x,some (.ref a),some (.int (0+jh (bC sh (aM.take i))+jh (cT sh it))),?_,af,?_,bP hq (s.trans (s3.trans (s4.trans (ak ht _)))) (aG q _ _)⟩
  ·have e:bC sh (aM.take (i+1))=bC sh (aM.take i)++cT sh it:=by rw[take_snoc ei,eL,jy];rfl
   rw[e,zL,← Int.add_assoc];rfl
  ·have e:bY sh 0 (aM.take (i+1))=bY sh 0 (aM.take i)++[(it,cT sh it,0+jh (bC sh (aM.take i)),0+jh (bC sh (aM.take i))+jh (cT sh it))]:=by rw[take_snoc ei,vR];rfl
   rw[e];have OD:t≠q:=(az F6 ht).symm;refine bS.snoc (hb.mono λv d h=>(((h.same s3).same s4).same (ak ht _)).keep hq5 (λa h=>h.2) (aG q _ _)) ⟨t,a,x,rfl,?_,?_,?_,na⟩
   ·rw[aK OD,af]
   ·exact ((((hiv.same s).same s3).same s4).same (ak ht _)).keep hq5 (aG q _ _)
   ·exact (((R3.same s4).same (ak ht _))).keep hq5 na.2 (aG q _ _)
 ·rintro σ H2 ⟨vs,u1,u2,u3,rfl,dN,hb,s⟩;rw[rL.len,gO]at hb;exact⟨Y,k q vs H2 dN (hb.mono λv d ⟨a,ra,x,e,h,i,r,n⟩=>⟨a,ra,x,e,h,i,r,n.1⟩) s hq⟩
class inductive Je
 | mk (r S o:Addr) (p:Int) (aM Ng:List aP) (kvs:List (fk × V)) (sh:Int->List Int) (_:vs=[.ref r,.ref S,.int p,.ref o]) (_:bH H (.ref r) aM) (_:H S=some (.dK kvs)) (_:xr H kvs sh aM) (_:bH H (.ref o) Ng) (_:fK aM) (_:fK Ng) (_:SS sh aM) (_:aM.length<=50000) (_:(bC sh aM).length<=50000) (_:Ng.length<=50000) (_ :
 ∀ (q:Addr) (H':Hp),bH H' (.ref q) (aF (aE sh p 0 (c9 aM)++c9 Ng++bE sh p 0 (c9 aM)))->aI H H'->H q=none->Q (.ref q) H')
theorem gh:aH ["items","views","place","others","ahead","behind","item","row","first","last"] ["items","views","place","others"] (aA uu):=eU
theorem vW:‹(3,27,["items","views","place","others"],Je)›:=λD=>by
 specialize eV D.WC.F gh;obtain⟨r,S,o,p,aM,Ng,kvs,sh,rfl,hI,hS,hW,hO,ok1,ok2,nn,l1,l2,l3,k⟩:=h;exists _,(aj (aV (i:=4) gh.nd (bL ah)) (aj (aV (i:=5) gh.nd (bL ah)) (aj (dQ PassesOwn.never rfl (cF (aC D.WB (Ge D) hr (aa (pv 0) (aa (pv 1) ah)))) (m7 (n:=4) rfl (cj (ck (i:=6) gh.nd) (cj (ck (i:=7) gh.nd) (cj (ck (i:=8) gh.nd) (cj (ck (i:=9) gh.nd) gR))))) (au (bN (aT gr (pv 9) (pv 2) (aZ _)) (au (aU (dJ pQ jE jF bQ (pv 4) (aa (pv 6) ah)))) (au (bN (aT gr (pv 2) (pv 8) (aZ _)) (au (aU (dJ pQ jE jF bQ (pv 5) (aa (pv 6) ah)))) (aj (qZ (i:=4) gh.nd rfl (Or.inl rfl) (aC D.DU (lF D) hr (aa (aC D.Wv (sL D) hr (aa (pv 7) (aa ay (aa (bz cK (pv 2) (pv 8)) ah)))) ah)) uM) (au (qZ (i:=5) gh.nd rfl (Or.inl rfl) (aC D.DU (lF D) hr (aa (aC D.Wv (sL D) hr (aa (pv 7) (aa (bz cK (pv 2) (pv 8)) (aa (bz cK (pv 9) (pv 8)) ah)))) ah)) uM)))))))) (au (aJ (aC D.IU (gu D) hr (aa (bz jK (bz jK (pv 4) (pv 3)) (pv 5)) ah)))))));refine⟨gU,λA hA=>⟨gU,λB hB=>?_⟩⟩;have sA:aI H (aN H A (.lst [])):=ak hA _;have sB:aI _ (aN (aN H A (.lst [])) B (.lst [])):=ak hB _;have s0:=sA.trans sB;have A7:A≠B:=az af hB;have Ni:=aW sA hB;refine⟨Y,Y,r,S,aM,kvs,sh,λa=>a≠A/\a≠B,rfl,hI.same s0,s0 _ _ hS,hW.same s0,Q,(λit hi=>by have:=vV sh hi;lia),?_,?_,λD dv H1 hD RD s1 _=>?_⟩
 ·intro n a hn hv;obtain⟨b,e,as,hb,_⟩:=hW n hn;rw[hv]at e;cases e;exact⟨az hb hA,az hb Ni⟩
 ·intro a ha;exact⟨(az (sB _ _ af) ha).symm,(az af ha).symm⟩
 have hA1:=s1 _ _ (sB _ _ (af (H:=H) (a:=A) (o:=.lst [])));have hB1:=s1 _ _ (af (H:=aN H A (.lst [])) (a:=B) (o:=.lst []))
 have nD:D≠A/\D≠B:=by
  rename_i hD0;exact⟨(az (sB _ _ af) hD0).symm,(az af hD0).symm⟩
 have aej:=Ao sh (Xc p) aM 0;have aek:=Ao sh (Xd p) aM 0;have Nj:=ze sh aM 0 ok1 nn;refine⟨D,rfl,⟨_,bI.of hD⟩,dm (K:=K) (a:=D) (xs:=dv) (λi σ H2=>∃ u1 u2 u3 u4:Option V,σ=[some (.ref r),some (.ref S),some (.int p),some (.ref o),some (.ref A),some (.ref B),u1,u2,u3,u4]/\mh H1 A B (((bY sh 0 aM).take i).flatMap (aD p)) (((bY sh 0 aM).take i).flatMap (bD p)) H2) ⟨none,none,none,none,rfl,⟨_,hA1,.nil⟩,⟨_,hB1,.nil⟩,λ_ _ e _ _=>e⟩ (by rintro i σ H2 _ ⟨_,_,_,_,_,pv⟩;exact bI.of (pv.k _ _ hD nD.1 nD.2)) ?_ ?_⟩
 ·rintro i x σ H2 hi ⟨u1,u2,u3,u4,rfl,pv⟩;obtain⟨d,ed,L4⟩:=RD.get hi;have hd2:=L4.UO hA1 hB1 (λa h=>h) pv.k;obtain⟨a,ra,xi,rfl,hta,hxi,Yg,nra⟩:=hd2;have eA:=sO (aD p) ed;have eB:=sO (bD p) ed;have bA:=iF (aD p) (bY sh 0 aM) i;have bB:=iF (bD p) (bY sh 0 aM) i;have bA1:=iF (aD p) (bY sh 0 aM) (i+1);have bB1:=iF (bD p) (bY sh 0 aM) (i+1);obtain⟨v1,hv1,t1⟩:=pv.a;obtain⟨v2,hv2,t2⟩:=pv.b;have z1:=t1.len;have z2:=t2.len;obtain⟨it,row,fi,la⟩:=d
  have rl:row.length<=50000:=by
   have z:=oF ed
   have:∃ RO∈aM,row=cT sh RO:=by
    have q:∀ (aM:List aP) (f:Int),(it,row,fi,la)∈bY sh f aM->∃ RO∈aM,row=cT sh RO:=by
     intro aM
     induction aM with
     | nil=>intro f h;cases h
     | cons i0 r0 ih =>
      intro f h;rw[bY]at h;rcases List.mem_cons.mp h with e|e
      ·cases e;exact⟨it,by simp,rfl⟩
      ·obtain⟨i1,m1,e1⟩:=ih _ e;exact⟨i1,mO _ m1,e1⟩
    exact q aM 0 z
   obtain⟨i1,m1,rfl⟩:=this;have:=vV sh m1;lia
  exists a,Y,cX.of hta,rfl,P,rfl,P,rfl,P,rfl,Z;refine⟨Y,Y,Z,Y,cN (λc=>?_) (λc=>?_)⟩
  ·have c':la<=p:=of_decide_eq_true c;refine⟨Y,.inl ⟨rfl,_,bI.of hv1⟩,Y,A,Z,hv1,aR ∅,?_⟩;exists K,Y;rw[eA,eB];have e1:aD p (it,row,fi,la)=[it]:=by unfold aD;rw[if_pos c']
   have e2:bD p (it,row,fi,la)=[]:=by unfold bD;rw[if_pos c']
   rw[e1,e2,gP];exact pv.KS A7 hv1 (.cons hxi .nil)
  ·have c':¬ la<=p:=λz=>c (decide_eq_true z);refine⟨Y,Y,Z,Y,cN (λc2=>?_) (λc2=>?_)⟩
   ·have ME:p<=fi:=of_decide_eq_true c2;refine⟨Y,.inl ⟨rfl,_,bI.of hv2⟩,Y,B,Z,hv2,aR ∅,?_⟩;exists K,Y;rw[eA,eB];have e1:aD p (it,row,fi,la)=[]:=by unfold aD;rw[if_neg c',if_pos ME]
    have e2:bD p (it,row,fi,la)=[it]:=by unfold bD;rw[if_neg c',if_pos ME]
    rw[e1,e2,gP];exact pv.KU A7 hv2 (.cons hxi .nil)
   ·have ME:¬ p<=fi:=λz=>c2 (decide_eq_true z);have e1:aD p (it,row,fi,la)=cG (b8 (lI 0 (p-fi) 0 row)):=by unfold aD;rw[if_neg c',if_neg ME]
    have e2:bD p (it,row,fi,la)=cG (b8 (lI (p-fi) (la-fi) 0 row)):=by unfold bD;rw[if_neg c',if_neg ME]
    rw[eA,e1,cY]at bA1;rw[eB,e2,cY]at bB1;refine⟨Y,Y,Y,Y,Z,ra,row,0,p-fi,rfl,Yg,Q,λq1 H3 R3 s3 Mf=>⟨q1,Y,R3,gV (ko _ _ _ _) ∅,λq2 H4 I4 s4 dN=>?_⟩⟩;obtain⟨q2',v3,e3,h3,t3⟩:=I4;cases e3;have z3:=t3.len;have MF:=s4 _ _ (s3 _ _ hv1);refine⟨A,q2,Z,MF,h3,gT (aR ∅),?_⟩;have pv5:=((pv.same s3).same s4).KS A7 MF t3;have aeq:cA (aN H4 A (.lst (v1++v3))) ra row:=((Yg.same s3).same s4).keep MF nra.1 (aG A _ _);have aer:(aN H4 A (.lst (v1++v3))) B=some (.lst v2):=by rw[aK A7.symm];exact s4 _ _ (s3 _ _ hv2)
    refine⟨Y,Y,Y,Y,Z,Y,Y,Z,ra,row,p-fi,la-fi,rfl,aeq,Q,λq3 H6 R6 s6 sJ=>⟨q3,Y,R6,gV (ko _ _ _ _) ∅,λq4 H7 I7 s7 F6=>?_⟩⟩;obtain⟨q4',v4,e4,h4,t4⟩:=I7;cases e4;have z4:=t4.len;have UP:=s7 _ _ (s6 _ _ aer);refine⟨B,q4,Z,UP,h4,gT (aR ∅),?_⟩;exists K,Y;rw[eA,eB,e1,e2];exact ((pv5.same s6).same s7).KU A7 UP t4
 ·rintro σ H2 ⟨u1,u2,u3,u4,rfl,pv⟩;have dl:=RD.len;rw[dl,gO]at pv;obtain⟨v1,hv1,t1⟩:=pv.a;obtain⟨v2,hv2,t2⟩:=pv.b;have z1:=t1.len;have z2:=t2.len;have sm:aI H H2:=λa ob e=>pv.k a ob (s1 _ _ (s0 _ _ e)) (az e hA) (az e Ni);obtain⟨o',v3,e3,h3,t3⟩:=hO.same sm;cases e3;have z3:=t3.len;refine⟨Y,Y,A,o,Z,hv1,h3,gT (aR ∅),λc1 Sf=>?_⟩;have n1:aI H2 (aN H2 c1 (.lst (v1++v3))):=ak Sf _;refine⟨Y,c1,B,Z,af,n1 _ _ hv2,gT (aR (by rw[cY];lia)),λc2 Xe=>?_⟩;have n2:aI _ (aN (aN H2 c1 (.lst (v1++v3))) c2 (.lst (v1++v3++v2))):=ak Xe _;have VY:=n1.trans n2;refine⟨c2,Y,⟨c2,Y,af,((t1.app t3).app t2).mono λv i h=>h.same VY⟩,by rw[cY,cY];lia,λq H9 I9 s9 hq9=>?_⟩;have okA:fK ((bY sh 0 aM).flatMap (aD p)):=vU λd hd=>aaL (Nj d hd).1 (Nj d hd).2;have okB:fK ((bY sh 0 aM).flatMap (bD p)):=vU λd hd=>aaM (Nj d hd).1 (Nj d hd).2;rw[jC _ ((okA.append ok2).append okB),dh,dh,Gb sh p aM 0 ok1,CO sh p aM 0 ok1]at I9;exact k q H9 I9 (sm.trans (VY.trans s9)) (aW (sm.trans VY) hq9)
class inductive yh
 | mk (r o:Addr) (rows:cU) (s p:Int) (aM:List aP) (sh:Int->List Int) (_:vs=[.ref r,.int s,.int p,.ref o]) (_:oZ H r rows sh) (_:0<=s) (_:s<rows.length) (_:bH H (.ref o) aM) (_:fK aM) (_:aM.length<=10000) (_:0<=p/\p<=(sh s).length) (_:(∀ (es:List Int) (q:Addr) (H':Hp),rows[s.toNat]?=some es->bH H' (.ref q) (aF (fN sh p es (c9 aM)))->aI H H'->H q=none->Q (.ref q) H'))
theorem Pz{aM:List aP}(h:fK aM):c9 aM=[]↔aM=[]:=by
 refine⟨λe=>?_,λe=>by rw[e];rfl⟩
 cases aM with
 | nil=>rfl
 | cons it r =>
  have e1:c9 (it::r)=fJ it++c9 r:=by unfold c9;rw[jo]
  rw[e1]at e;have e2:=(List.append_eq_nil_iff.mp e).1
  cases it with
  | win n=>cases e2
  | aL a b =>
   have ab:a<b:=(h (.aL a b) (by simp)).2;have:=gE a (b-a).toNat;have e3:run a (b-a).toNat=[]:=e2;rw[e3]at this;simp only[qO]at this;lia
theorem yi:aH ["rows","sheet","place","items","views"] ["rows","sheet","place","items"] (aA uv):=eU
theorem qB:‹(4,28,["rows","sheet","place","items"],yh)›:=λD=>by
 refine eV D.Sv.F yi λcV A zn s0 H vs Q E hr h=>?_;obtain⟨r,o,rows,s,p,aM,sh,rfl,R,h0,h1,hO,ok,ol,hp,k1⟩:=h;have hu:=gG hr;refine⟨_,(aj (aV (i:=4) yi.nd (aC D.Pa (jU D) hr (aa (pv 0) (aa (bL (aa (pv 1) ah)) ah)))) (aj (aU (aC D.Yb (gI D) hr (aa (gc hu (pv 4) (pv 1)) (aa (pv 2) (aa (pv 2) ah))))) (aj (bN (gW (kQ (pv 3) (λ_=>rfl))) (au (aJ (aC D.IU (gu D) hr (aa (aO bu (pv 0) (pv 1)) ah)))) bg) (au (aJ (aC D.WC (vW D) hr (aa (aO bu (pv 0) (pv 1)) (aa (pv 4) (aa (pv 2) (aa (pv 3) ah)))))))))),?_⟩;refine⟨Y,Y,mD,λL hL=>?_⟩;have s1:aI H (aN H L (.lst [.int s])):=ak hL _;refine⟨r,L,rows,[s],sh,rfl,R.at_.same s1,af,by simp,R.len,R.ents,R.snd,R.rk,(λx hx=>by rw[List.mem_singleton.mp hx];exact⟨h0,h1⟩),R.Py,R.bd,λS kvs ks H2 hS hv tp sk hn s2 hS0=>?_⟩;have UQ:=sk s (by simp);obtain⟨a,ha,Ra⟩:=hv s UQ;have z:=iR.k (k:=Sum.inl s) hS;rw[ha]at z;have jI:=s1.trans s2;have shl:=R.bd s h0 h1;have rol:=mT (sh s);obtain⟨es,yf,b,O⟩:=(R.same jI).one h0 h1;refine⟨Y,Y,S,Y,z,Y,Y,a,cP (sh s),p,p,rfl,Ra,Q,⟨hp.1,Int.le_refl _,by rw[O.tt];exact hp.2⟩,λH3 s3=>?_⟩
 ·obtain⟨wz,aaS,b',O3⟩:=(R.same (jI.trans s3)).one h0 h1;have ee:es=wz:=qW (O.he.symm.trans O3.he);subst ee;have hO3:=hO.same (jI.trans s3);obtain⟨o',ovs,eo,ho,to⟩:=id hO3;cases eo;exists Y,!ovs.isEmpty,.inl ⟨_,bI.of ho,rfl⟩;have el:=to.len
  cases aM with
  | nil =>
   have:ovs=[]:=List.eq_nil_of_length_eq_zero (by simpa using el);subst this;refine jH ?_;refine⟨Y,Y,r,K,V,bI.of O3.hr,O3.ix,b',aF es,rfl,O3.it,gV O3.il (by decide),λq H4 I4 s4 hq=>?_⟩;refine k1 es q H4 O.he ?_ (jI.trans (s3.trans s4)) (aW (jI.trans s3) hq);obtain⟨e1,e2⟩:=ku es;rw[jC _ e2,e1]at I4;exact I4
  | cons it r0 =>
   have:(!ovs.isEmpty)=true:=by
    cases ovs with
    | nil=>simp at el
    | cons _ _=>rfl
   rw[this];refine eO ?_;refine⟨Y,Y,r,K,V,bI.of O3.hr,O3.ix,Y,Y,Y,b',S,o,p,aF es,it::r0,kvs,sh,rfl,O3.it,s3 _ _ hS,λn hn=>?_,hO3,(ku es).2,ok,λn hn=>?_,gV O3.il (by decide),gV O3.rl (by decide),gV ol (by decide),λq H4 I4 s4 hq=>?_⟩
   ·have nx:=sP h0 O.he hn;obtain⟨i,hi⟩:=List.getElem?_of_mem UQ;obtain⟨a2,e2,R2⟩:=hv n (List.mem_of_mem_take (tp.dn i s hi n nx));exact⟨a2,e2,R2.same s3⟩
   ·have nx:=sP h0 O.he hn;obtain⟨n0,n1⟩:=R.snd.EY nx;exact pK R.snd R.rk R.Py n n0 n1
   ·refine k1 es q H4 O.he ?_ (jI.trans (s3.trans s4)) (aW (jI.trans s3) hq);rw[(ku es).1]at I4;unfold fN;rw[if_neg (λz=>by cases (Pz ok).mp z)];exact I4
def kD(a b:Int)(d:nX):List aP:=if d.2.2.2<=a\/b<=d.2.2.1 then [d.1] else if a<=d.2.2.1/\d.2.2.2<=b then [] else cG (b8 (lI 0 (a-d.2.2.1) 0 d.2.1++lI (b-d.2.2.1) (d.2.2.2-d.2.2.1) 0 d.2.1))
def tD(a b:Int)(d:nX):List aP:=if d.2.2.2<=a\/b<=d.2.2.1 then [] else if a<=d.2.2.1/\d.2.2.2<=b then [d.1] else cG (b8 (lI (a-d.2.2.1) (b-d.2.2.1) 0 d.2.1))
def KW(sh:Int->List Int)(a b f e:Int):List Int:=if f+(aY sh e).length<=a\/b<=f then [e] else if a<=f/\f+(aY sh e).length<=b then [] else (aY sh e).take (a-f).toNat++(aY sh e).drop (b-f).toNat
def Nk(sh:Int->List Int)(a b f e:Int):List Int:=if f+(aY sh e).length<=a\/b<=f then [] else if a<=f/\f+(aY sh e).length<=b then [e] else ((aY sh e).take (b-f).toNat).drop (a-f).toNat
def kE(sh:Int->List Int)(a b:Int):Int->List Int->List Int
 | _,[]=>[]
 | f,e::r=>KW sh a b f e++kE sh a b (f+(aY sh e).length) r
def tE(sh:Int->List Int)(a b:Int):Int->List Int->List Int
 | _,[]=>[]
 | f,e::r=>Nk sh a b f e++tE sh a b (f+(aY sh e).length) r
theorem xy(sh:Int->List Int)(a b:Int)(y:List Int):∀ (x:List Int) (f:Int),kE sh a b f (x++y)=kE sh a b f x++kE sh a b (f+(aS sh x).length) y
 | [],f=>by simp[kE,aS]
 | e::x,f=>by
  rw[List.cons_append,kE,kE,xy sh a b y x,nV,bU,cY,Int.add_assoc]
  push_cast
  rfl
theorem xA(sh:Int->List Int)(a b:Int)(y:List Int):∀ (x:List Int) (f:Int),tE sh a b f (x++y)=tE sh a b f x++tE sh a b (f+(aS sh x).length) y
 | [],f=>by simp[tE,aS]
 | e::x,f=>by
  rw[List.cons_append,tE,tE,xA sh a b y x,nV,bU,cY,Int.add_assoc]
  push_cast
  rfl
theorem Yh{a f:Int}(h:f<a):(a-f).toNat=(a-(f+1)).toNat+1:=by lia
theorem Nl{a f:Int}(h:a<=f):(a-f).toNat=0:=Int.toNat_of_nonpos (Int.sub_nonpos_of_le h)
theorem Yi{a f:Int}(h:a<=f):(a-(f+1)).toNat=0:=Nl (Int.le_trans h (Int.le_of_lt (Int.lt_succ f)))
theorem nS{a f:Int}(h:¬ f+1<=a):a<=f:=Int.not_lt.mp h
theorem PB(sh:Int->List Int){a b:Int}(ab:a<b):∀ (n:Nat) (x f:Int),0<=x->kE sh a b f (run x n)=(run x n).take (a-f).toNat++(run x n).drop (b-f).toNat
 | 0,_,_,_=>by simp[run,kE]
 | n+1,x,f,h=>by
  rw[run,kE,PB sh ab n (x+1) _ ∅];unfold KW;rw[sM sh h];show (if f+1<=a\/b<=f then [x] else if a<=f/\f+1<=b then [] else _)++((run (x+1) n).take (a-(f+1)).toNat++(run (x+1) n).drop (b-(f+1)).toNat)=_;by_cases c1:f+1<=a
  ·rw[if_pos (.inl c1),Yh c1,Yh (Int.lt_trans c1 ab)];rfl
  ·by_cases c2:b<=f
   ·rw[if_pos (.inr c2),Nl (nS c1),Nl c2,Yi (nS c1),Yi c2];rfl
   ·rw[if_neg (λz=>z.elim c1 c2),if_pos ⟨nS c1,Int.not_le.mp c2⟩,Nl (nS c1),Yh (Int.not_le.mp c2),Yi (nS c1)];rfl
theorem PD(sh:Int->List Int){a b:Int}(ab:a<b):∀ (n:Nat) (x f:Int),0<=x->tE sh a b f (run x n)=((run x n).take (b-f).toNat).drop (a-f).toNat
 | 0,_,_,_=>by simp[run,tE]
 | n+1,x,f,h=>by
  rw[run,tE,PD sh ab n (x+1) _ ∅];unfold Nk;rw[sM sh h];show (if f+1<=a\/b<=f then [] else if a<=f/\f+1<=b then [x] else _)++((run (x+1) n).take (b-(f+1)).toNat).drop (a-(f+1)).toNat=_;by_cases c1:f+1<=a
  ·rw[if_pos (.inl c1),Yh c1,Yh (Int.lt_trans c1 ab)];rfl
  ·by_cases c2:b<=f
   ·rw[if_pos (.inr c2),Nl c2,Yi c2];simp
   ·rw[if_neg (λz=>z.elim c1 c2),if_pos ⟨nS c1,Int.not_le.mp c2⟩,Nl (nS c1),Yh (Int.not_le.mp c2),Yi (nS c1)];rfl
theorem MG{a b t:Int}{r:Row}(ok:∀ p∈r,p.1<=p.2)(h:(bK r).length<=t.toNat):bK (b8 (lI 0 a 0 r++lI b t 0 r))=(bK r).take a.toNat++(bK r).drop b.toNat:=by
 rw[jz _ (Wd (DH _ _ _ _) (DH _ _ _ _)),cW,sH _ _ _ _ ok,sH _ _ _ _ ok];show ((bK r).take (a-0).toNat).drop 0++((bK r).take (t-0).toNat).drop (b-0).toNat=_;rw[Int.sub_zero,Int.sub_zero,Int.sub_zero,ua h];rfl
theorem aaT(sh:Int->List Int){a b:Int}(ab:a<b)(f:Int)(it:aP)(h:l9 it):c9 (kD a b (it,cT sh it,f,f+jh (cT sh it)))=kE sh a b f (fJ it):=by
 have tt:=lG sh it h
 have sp:c9 (cG (b8 (lI 0 (a-f) 0 (cT sh it)++lI (b-f) (f+jh (cT sh it)-f) 0 (cT sh it))))=(aS sh (fJ it)).take (a-f).toNat++(aS sh (fJ it)).drop (b-f).toNat:=by
  rw[nI,MG (vS sh it h) (by rw[kB sh it h,tt];lia),kB sh it h]
 unfold kD;show c9 (if f+jh (cT sh it)<=a\/b<=f then [it] else if a<=f/\f+jh (cT sh it)<=b then [] else cG (b8 (lI 0 (a-f) 0 (cT sh it)++lI (b-f) (f+jh (cT sh it)-f) 0 (cT sh it))))=_;have c1:(f+jh (cT sh it)<=a\/b<=f)=(f+(aS sh (fJ it)).length<=a\/b<=f):=by rw[tt]
 have c2:(a<=f/\f+jh (cT sh it)<=b)=(a<=f/\f+(aS sh (fJ it)).length<=b):=by rw[tt]
 simp only[c1,c2]
 cases it with
 | win n =>
  have e1:aS sh (fJ (.win n))=aY sh (-1-n):=by show aS sh [-1-n]=_;rw[bU];simp[aS]
  rw[e1]at sp ⊢;show _=kE sh a b f [-1-n];rw[kE,kE,gP];unfold KW;split
  ·rfl
  ·split
   ·rfl
   ·exact sp
 | aL x y =>
  have e1:aS sh (fJ (.aL x y))=run x (y-x).toNat:=mS sh _ _ h.1;rw[e1]at sp ⊢;show _=kE sh a b f (run x (y-x).toNat);rw[PB sh ab _ _ _ h.1];have rl:=gE x (y-x).toNat;split
  ·rename_i c;rw[i6];rcases c with c|c
   ·rw[ua ∅,ve ∅,gP];rfl
   ·rw[Nl (Int.le_trans (Int.le_of_lt ab) c),Nl c];rfl
  ·split
   ·rename_i c;rw[Nl c.1,ve ∅];rfl
   ·exact sp
theorem aaU(sh:Int->List Int){a b:Int}(ab:a<b)(f:Int)(it:aP)(h:l9 it):c9 (tD a b (it,cT sh it,f,f+jh (cT sh it)))=tE sh a b f (fJ it):=by
 have tt:=lG sh it h
 have sp:c9 (cG (b8 (lI (a-f) (b-f) 0 (cT sh it))))=((aS sh (fJ it)).take (b-f).toNat).drop (a-f).toNat:=by
  rw[nI,qv _ _ _ (vS sh it h),kB sh it h]
 unfold tD;show c9 (if f+jh (cT sh it)<=a\/b<=f then [] else if a<=f/\f+jh (cT sh it)<=b then [it] else cG (b8 (lI (a-f) (b-f) 0 (cT sh it))))=_;rw[tt]
 cases it with
 | win n =>
  have e1:aS sh (fJ (.win n))=aY sh (-1-n):=by show aS sh [-1-n]=_;rw[bU];simp[aS]
  rw[e1]at sp ⊢;show _=tE sh a b f [-1-n];rw[tE,tE,gP];unfold Nk;split
  ·rfl
  ·split
   ·rfl
   ·exact sp
 | aL x y =>
  have e1:aS sh (fJ (.aL x y))=run x (y-x).toNat:=mS sh _ _ h.1;rw[e1]at sp ⊢;show _=tE sh a b f (run x (y-x).toNat);rw[PD sh ab _ _ _ h.1];have rl:=gE x (y-x).toNat;split
  ·rename_i c;rcases c with c|c
   ·rw[ve (by rw[gx];lia)];rfl
   ·rw[Nl c];simp[c9]
  ·split
   ·rename_i c;rw[i6,Nl c.1,ua ∅];rfl
   ·exact sp
theorem D4(sh:Int->List Int){a b:Int}(ab:a<b):∀ (aM:List aP) (f:Int),fK aM->c9 ((bY sh f aM).flatMap (kD a b))=kE sh a b f (c9 aM)
 | [],f,_=>rfl
 | it::r,f,h=>by
  have h1:=h it (by simp);rw[bY,jo,dh,aaT sh ab f it h1,D4 sh ab r _ λi hi=>h i (mO _ hi)];have e:c9 (it::r)=fJ it++c9 r:=by unfold c9;rw[jo]
  rw[e,xy,lG sh it h1]
theorem Gf(sh:Int->List Int){a b:Int}(ab:a<b):∀ (aM:List aP) (f:Int),fK aM->c9 ((bY sh f aM).flatMap (tD a b))=tE sh a b f (c9 aM)
 | [],f,_=>rfl
 | it::r,f,h=>by
  have h1:=h it (by simp);rw[bY,jo,dh,aaU sh ab f it h1,Gf sh ab r _ λi hi=>h i (mO _ hi)];have e:c9 (it::r)=fJ it++c9 r:=by unfold c9;rw[jo]
  rw[e,xA,lG sh it h1]
theorem UR{a b:Int}{d:nX}(h:l9 d.1)(g:l6 d.2.1):fK (kD a b d):=by
 unfold kD;split
 ·exact fK.one h
 ·split
  ·exact λi hi=>by cases hi
  ·exact rQ (mR λp hp=>(List.mem_append.mp hp).elim (Aa _ _ _ _ g p) (Aa _ _ _ _ g p))
theorem aaV{a b:Int}{d:nX}(h:l9 d.1)(g:l6 d.2.1):fK (tD a b d):=by
 unfold tD;split
 ·exact λi hi=>by cases hi
 ·split
  ·exact fK.one h
  ·exact An g
theorem Jf(a b:Int)(d:nX):(kD a b d).length<=d.2.1.length+d.2.1.length+1:=by
 unfold kD;split
 ·simp
 ·split
  ·simp
  ·rw[zf];refine gV (jA _) ?_;rw[cY];have:=ko 0 (a-d.2.2.1) d.2.1 0;have:=ko (b-d.2.2.1) (d.2.2.2-d.2.2.1) d.2.1 0;lia
theorem PF(a b:Int)(d:nX):(tD a b d).length<=d.2.1.length+d.2.1.length+1:=by
 unfold tD;split
 ·simp
 ·split
  ·simp
  ·exact gV (sN _ _ _) ∅
theorem mU(sh:Int->List Int){g:nX->List aP}(hg:∀ d,(g d).length<=d.2.1.length+d.2.1.length+1):∀ (aM:List aP) (f:Int),((bY sh f aM).flatMap g).length<=(bC sh aM).length+(bC sh aM).length+aM.length
 | [],_=>by simp[bY]
 | it::r,f=>by
  rw[bY,jo,cY];have a:=hg (it,cT sh it,f,f+jh (cT sh it));have b:=mU sh hg r (f+jh (cT sh it));have e:bC sh (it::r)=cT sh it++bC sh r:=by unfold bC;rw[jo];rfl
  rw[e,cY,eY];simp only at a;lia
theorem Gg(sh:Int->List Int)(it:aP)(row:Row)(fi la:Int):∀ (aM:List aP) (f:Int),(it,row,fi,la)∈bY sh f aM->∃ RO∈aM,row=cT sh RO
 | [],_,h=>by cases h
 | i0::r0,f,h=>by
  rw[bY]at h;rcases List.mem_cons.mp h with e|e
  ·cases e;exact⟨it,by simp,rfl⟩
  ·obtain⟨i1,m1,e1⟩:=Gg sh it row fi la r0 _ e;exact⟨i1,mO _ m1,e1⟩
theorem CP(sh:Int->List Int):∀ (aM:List aP) (f:Int) (d:nX),d∈bY sh f aM->d.1∈aM
 | [],_,_,h=>by cases h
 | i0::r0,f,d,h=>by
  rw[bY]at h;rcases List.mem_cons.mp h with e|e
  ·subst e;simp
  ·exact mO _ (CP sh r0 _ d e)
theorem Gh(sh:Int->List Int){a b n:Int}{aM:List aP}(h:aP.win n∈(bY sh 0 aM).flatMap (kD a b)):aP.win n∈aM:=by
 obtain⟨d,hd,hm⟩:=List.mem_flatMap.mp h;unfold kD at hm;split at hm
 ·rw[List.mem_singleton.mp hm];exact CP sh aM 0 d hd
 ·split at hm
  ·cases hm
  ·unfold cG at hm;obtain⟨p,_,e⟩:=List.mem_map.mp hm;cases e
theorem CQ{H:Hp}{A:Addr}{l:List aP}{vs:List V}(h:H A=some (.lst vs))(t:bS (cI H) vs l):bH H (.ref A) l:=⟨A,vs,rfl,h,t⟩
def bV(sh:Int->List Int)(a b:Int)(es:List Int):List Int:=if a=b then es else kE sh a b 0 es
def ir(sh:Int->List Int)(a b:Int)(es:List Int):List Int:=if a=b then [] else tE sh a b 0 es
class inductive PJ
 | mk (r S:Addr) (a b:Int) (aM:List aP) (kvs:List (fk × V)) (sh:Int->List Int) (_:vs=[.ref r,.ref S,.int a,.int b]) (_:bH H (.ref r) aM) (_:H S=some (.dK kvs)) (_:xr H kvs sh aM) (_:aM.length<=10000) (_:(bC sh aM).length<=20000) (_ :
 ∀ (t L M:Addr) (H':Hp),H' t=some (.tup [.ref L,.ref M])->bH H' (.ref L) ((bY sh 0 aM).flatMap (kD a b))->bH H' (.ref M) ((bY sh 0 aM).flatMap (tD a b))->aI H H'->Q (.ref t) H')
theorem jW:aH ["items","views","start","stop","left","taken","item","row","first","last"] ["items","views","start","stop"] (aA Dz):=eU
theorem CU:‹(3,29,["items","views","start","stop"],PJ)›:=λD=>by
 have D5:bq P w K mg zt cL 1 (bf 7) (br 7) ["row","start","stop"] FD:=sL D;specialize eV D.WD.F jW;obtain⟨r,S,p,q,aM,kvs,sh,rfl,hI,hS,hW,l1,l2,k⟩:=h;exists _,(aj (aV (i:=4) jW.nd (bL ah)) (aj (aV (i:=5) jW.nd (bL ah)) (aj (dQ PassesOwn.never rfl (cF (aC D.WB (Ge D) hr (aa (pv 0) (aa (pv 1) ah)))) (m7 (n:=4) rfl (cj (ck (i:=6) jW.nd) (cj (ck (i:=7) jW.nd) (cj (ck (i:=8) jW.nd) (cj (ck (i:=9) jW.nd) gR))))) (au (bN (PW.pt (zm (aT gr (pv 9) (pv 2) (aZ _)) (wG (aT gr (pv 3) (pv 8) (aZ _))))) (au (aU (dJ pQ jE jF bQ (pv 4) (aa (pv 6) ah)))) (au (bN (PW.pt (m6 (aT gr (pv 2) (pv 8) (aZ _)) (kH (aT gr (pv 9) (pv 3) (aZ _))))) (au (aU (dJ pQ jE jF bQ (pv 5) (aa (pv 6) ah)))) (aj (qZ (i:=4) jW.nd rfl (Or.inl rfl) (aC D.DU (lF D) hr (aa (bz jK (aC D.Wv D5 hr (aa (pv 7) (aa ay (aa (bz cK (pv 2) (pv 8)) ah)))) (aC D.Wv D5 hr (aa (pv 7) (aa (bz cK (pv 3) (pv 8)) (aa (bz cK (pv 9) (pv 8)) ah))))) ah)) uM) (au (qZ (i:=5) jW.nd rfl (Or.inl rfl) (aC D.DU (lF D) hr (aa (aC D.Wv D5 hr (aa (pv 7) (aa (bz cK (pv 2) (pv 8)) (aa (bz cK (pv 3) (pv 8)) ah)))) ah)) uM)))))))) (au (aJ (cH (aa (pv 4) (aa (pv 5) ah))))))));refine⟨gU,λA hA=>⟨gU,λB hB=>?_⟩⟩;have sA:aI H (aN H A (.lst [])):=ak hA _;have sB:aI _ (aN (aN H A (.lst [])) B (.lst [])):=ak hB _;have s0:=sA.trans sB;have A7:A≠B:=az af hB;have Ni:=aW sA hB;refine⟨Y,Y,r,S,aM,kvs,sh,λa=>a≠A/\a≠B,rfl,hI.same s0,s0 _ _ hS,hW.same s0,Q,(λit hi=>by have:=vV sh hi;lia),?_,?_,λD dv H1 hD RD s1 _=>?_⟩
 ·intro n a hn hv;obtain⟨b,e,as,hb,_⟩:=hW n hn;rw[hv]at e;cases e;exact⟨az hb hA,az hb Ni⟩
 ·intro a ha;exact⟨(az (sB _ _ af) ha).symm,(az af ha).symm⟩
 have hA1:=s1 _ _ (sB _ _ (af (H:=H) (a:=A) (o:=.lst [])));have hB1:=s1 _ _ (af (H:=aN H A (.lst [])) (a:=B) (o:=.lst []))
 have nD:D≠A/\D≠B:=by
  rename_i hD0;exact⟨(az (sB _ _ af) hD0).symm,(az af hD0).symm⟩
 have aej:=mU sh (Jf p q) aM 0;have aek:=mU sh (PF p q) aM 0;refine⟨D,rfl,⟨_,bI.of hD⟩,dm (K:=K) (a:=D) (xs:=dv) (λi σ H2=>∃ u1 u2 u3 u4:Option V,σ=[some (.ref r),some (.ref S),some (.int p),some (.int q),some (.ref A),some (.ref B),u1,u2,u3,u4]/\mh H1 A B (((bY sh 0 aM).take i).flatMap (kD p q)) (((bY sh 0 aM).take i).flatMap (tD p q)) H2) ⟨none,none,none,none,rfl,⟨_,hA1,.nil⟩,⟨_,hB1,.nil⟩,λ_ _ e _ _=>e⟩ (by rintro i σ H2 _ ⟨_,_,_,_,_,pv⟩;exact bI.of (pv.k _ _ hD nD.1 nD.2)) ?_ ?_⟩
 ·rintro i x σ H2 hi ⟨u1,u2,u3,u4,rfl,pv⟩;obtain⟨d,ed,L4⟩:=RD.get hi;have hd2:=L4.UO hA1 hB1 (λa h=>h) pv.k;obtain⟨a,ra,xi,rfl,hta,hxi,Yg,nra⟩:=hd2;have eA:=sO (kD p q) ed;have eB:=sO (tD p q) ed;have bA:=iF (kD p q) (bY sh 0 aM) i;have bB:=iF (tD p q) (bY sh 0 aM) i;have bA1:=iF (kD p q) (bY sh 0 aM) (i+1);have bB1:=iF (tD p q) (bY sh 0 aM) (i+1);obtain⟨v1,hv1,t1⟩:=pv.a;obtain⟨v2,hv2,t2⟩:=pv.b;have z1:=t1.len;have z2:=t2.len;obtain⟨it,row,fi,la⟩:=d
  have rl:row.length<=20000:=by
   obtain⟨i1,m1,rfl⟩:=Gg sh it row fi la aM 0 (oF ed);have:=vV sh m1;lia
  have mV:v1.length<sizeLine:=aR ∅
  have Aq:(la<=p\/q<=fi)->mh H1 A B (((bY sh 0 aM).take (i+1)).flatMap (kD p q)) (((bY sh 0 aM).take (i+1)).flatMap (tD p q)) (aN H2 A (.lst (v1++[xi]))):=λc=>by
   rw[eA,eB];have e1:kD p q (it,row,fi,la)=[it]:=by unfold kD;rw[if_pos c]
   have e2:tD p q (it,row,fi,la)=[]:=by unfold tD;rw[if_pos c]
   rw[e1,e2,gP];exact pv.KS A7 hv1 (.cons hxi .nil)
  exists a,Y,cX.of hta,rfl,P,rfl,P,rfl,P,rfl,Z;refine⟨Y,Y,Z,Y,cN (λc=>jH ?_) (λc=>?_)⟩
  ·exact⟨Y,.inl ⟨rfl,_,bI.of hv1⟩,Y,A,Z,hv1,mV,K,Y,Aq (.inl (of_decide_eq_true c))⟩
  have c':¬ la<=p:=λz=>c (decide_eq_true z);refine⟨Y,Y,Z,Y,cN (λc2=>?_) (λc2=>?_)⟩
  ·exact⟨Y,.inl ⟨rfl,_,bI.of hv1⟩,Y,A,Z,hv1,mV,K,Y,Aq (.inr (of_decide_eq_true c2))⟩
  have ME:¬ q<=fi:=λz=>c2 (decide_eq_true z);have n1:¬ (la<=p\/q<=fi):=λz=>z.elim c' ME
  have part:¬ (p<=fi/\la<=q)->mh H1 A B (((bY sh 0 aM).take i).flatMap (kD p q)) (((bY sh 0 aM).take i).flatMap (tD p q)) H2->kD p q (it,row,fi,la)=cG (b8 (lI 0 (p-fi) 0 row++lI (q-fi) (la-fi) 0 row))/\tD p q (it,row,fi,la)=cG (b8 (lI (p-fi) (q-fi) 0 row)):=λc3 _=>by
   exists ?_
   ·unfold kD;rw[if_neg n1,if_neg c3]
   ·unfold tD;rw[if_neg n1,if_neg c3]
  have go:¬ (p<=fi/\la<=q)->∀ (q1 q2:Addr) (v3:List V) (H4:Hp),H4 q2=some (.lst v3)->bS (cI H4) v3 (cG (b8 (lI 0 (p-fi) 0 row++lI (q-fi) (la-fi) 0 row)))->aI H2 H4->v1.length+v3.length<=sizeLine/\mh H1 A B (((bY sh 0 aM).take (i+1)).flatMap (kD p q)) (((bY sh 0 aM).take i).flatMap (tD p q)) (aN H4 A (.lst (v1++v3)))/\cA (aN H4 A (.lst (v1++v3))) ra row/\(aN H4 A (.lst (v1++v3))) B=some (.lst v2):=λc3 q1 q2 v3 H4 h3 t3 s4=>by
   obtain⟨e1,e2⟩:=part c3 pv;have z3:=t3.len;rw[eA,e1,cY]at bA1;have MF:=s4 _ _ hv1;refine⟨Nat.le_of_lt (aR ∅),?_,(Yg.same s4).keep MF nra.1 (aG A _ _),by rw[aK A7.symm];exact s4 _ _ hv2⟩;rw[eA,e1];exact (pv.same s4).KS A7 MF t3
  have go2:¬ (p<=fi/\la<=q)->∀ (v4:List V) (H5 H7:Hp),mh H1 A B (((bY sh 0 aM).take (i+1)).flatMap (kD p q)) (((bY sh 0 aM).take i).flatMap (tD p q)) H5->H5 B=some (.lst v2)->bS (cI H7) v4 (cG (b8 (lI (p-fi) (q-fi) 0 row)))->aI H5 H7->v2.length+v4.length<=sizeLine/\mh H1 A B (((bY sh 0 aM).take (i+1)).flatMap (kD p q)) (((bY sh 0 aM).take (i+1)).flatMap (tD p q)) (aN H7 B (.lst (v2++v4))):=λc3 v4 H5 H7 pv5 h5 t4 s7=>by
   obtain⟨e1,e2⟩:=part c3 pv;have z4:=t4.len;rw[eB,e2,cY]at bB1;refine⟨Nat.le_of_lt (aR ∅),?_⟩;rw[eB,e2];exact (pv5.same s7).KU A7 (s7 _ _ h5) t4
  have pl1:=ko 0 (p-fi) row 0;have pl2:=ko (q-fi) (la-fi) row 0;have pl3:=ko (p-fi) (q-fi) row 0;refine⟨Y,Y,Z,Y,OQ (λz=>⟨Y,Y,Z,Y,z⟩) (λc5=>?_) (λc5=>?_)⟩
  ·exists Y,.inl ⟨rfl,_,bI.of hv2⟩,Y,B,Z,hv2,aR ∅,K,Y;rw[eA,eB];have e1:kD p q (it,row,fi,la)=[]:=by unfold kD;rw[if_neg n1,if_pos c5]
   have e2:tD p q (it,row,fi,la)=[it]:=by unfold tD;rw[if_neg n1,if_pos c5]
   rw[e1,e2,gP];exact pv.KU A7 hv2 (.cons hxi .nil)
  ·refine⟨Y,Y,Y,Y,Z,ra,row,0,p-fi,rfl,Yg,Q,λq1 H3 R3 s3 Mf=>?_⟩;obtain⟨as3,ha3,pa3⟩:=id R3;have n3:=pa3.len;refine⟨Y,Y,Y,Z,Y,Y,Z,ra,row,q-fi,la-fi,rfl,Yg.same s3,Q,λq2 H4 R4 s4 dN=>?_⟩;obtain⟨as4,ha4,pa4⟩:=id R4;have n4:=pa4.len;refine⟨q1,q2,Z,s4 _ _ ha3,ha4,(by rw[cy,cy];exact gT (aR ∅)),λm hm=>?_⟩;have s5:aI H4 (aN H4 m (.lst (as3.map V.ref++as4.map V.ref))):=ak hm _;refine⟨m,lI 0 (p-fi) 0 row++lI (q-fi) (la-fi) 0 row,rfl,⟨as3++as4,by rw[af,gw],bw.append ((pa3.same s4).same s5) (pa4.same s5)⟩,by rw[cY];lia,λq3 H6 I6 s6 sJ=>?_⟩;obtain⟨q3',v3,e3,h3,t3⟩:=I6;cases e3;have s26:=s3.trans (s4.trans (s5.trans s6));obtain⟨g1,g2,g3,g4⟩:=go c5 q1 q3 v3 H6 h3 t3 s26;exists A,q3,Z,s26 _ _ hv1,h3,g1;refine⟨Y,Y,Y,Y,Z,Y,Y,Z,ra,row,p-fi,q-fi,rfl,g3,Q,λq4 H7 R7 s7 F6=>⟨q4,Y,R7,Q,λq5 H8 I8 s8 hq5=>?_⟩⟩;obtain⟨q5',v4,e4,h4,t4⟩:=I8;cases e4;obtain⟨f1,f2⟩:=go2 c5 v4 _ H8 g2 g4 t4 (s7.trans s8);exact⟨B,q5,Z,(s7.trans s8) _ _ g4,h4,f1,K,Y,f2⟩
 ·rintro σ H2 ⟨u1,u2,u3,u4,rfl,pv⟩;have dl:=RD.len;rw[dl,gO]at pv;obtain⟨v1,hv1,t1⟩:=pv.a;obtain⟨v2,hv2,t2⟩:=pv.b;have sm:aI H H2:=λa ob e=>pv.k a ob (s1 _ _ (s0 _ _ e)) (az e hA) (az e Ni);refine⟨Y,Y,lu,λt ht=>k t A B _ af ?_ ?_ (sm.trans (ak ht _))⟩
  ·exact (CQ hv1 t1).same (ak ht _)
  ·exact (CQ hv2 t2).same (ak ht _)
class inductive Gi
 | mk (r:Addr) (rows:cU) (s a b:Int) (sh:Int->List Int) (_:vs=[.ref r,.int s,.int a,.int b]) (_:oZ H r rows sh) (_:0<=s) (_:s<rows.length) (_:Nd a b (sh s).length) (_:(∀ (es:List Int) (q:Addr) (H':Hp),rows[s.toNat]?=some es->bH H' (.ref q) (aF (bV sh a b es))->aI H H'->H q=none->Q (.ref q) H'))
theorem yj:aH ["rows","sheet","start","stop","views"] ["rows","sheet","start","stop"] (aA ux):=eU
theorem D6:‹(4,30,["rows","sheet","start","stop"],Gi)›:=λD=>by
 refine eV D.ZR.F yj λcV A zn s0 H vs Q E hr h=>?_;obtain⟨r,rows,s,p,q,sh,rfl,R,h0,h1,hp,k1⟩:=h;have hu:=gG hr;exists _,(aj (aV (i:=4) yj.nd (aC D.Pa (jU D) hr (aa (pv 0) (aa (bL (aa (pv 1) ah)) ah)))) (aj (aU (aC D.Yb (gI D) hr (aa (gc hu (pv 4) (pv 1)) (aa (pv 2) (aa (pv 3) ah))))) (aj (bN (aT d7 (pv 2) (pv 3) (aZ _)) (au (aJ (aC D.IU (gu D) hr (aa (aO bu (pv 0) (pv 1)) ah)))) bg) (au (aJ (aC D.IU (gu D) hr (aa (aO aX (aC D.WD (CU D) hr (aa (aO bu (pv 0) (pv 1)) (aa (pv 4) (aa (pv 2) (aa (pv 3) ah))))) ay) ah)))))));refine⟨Y,Y,mD,λL hL=>?_⟩;have s1:aI H (aN H L (.lst [.int s])):=ak hL _;refine⟨r,L,rows,[s],sh,rfl,R.at_.same s1,af,by simp,R.len,R.ents,R.snd,R.rk,(λx hx=>by rw[List.mem_singleton.mp hx];exact⟨h0,h1⟩),R.Py,R.bd,λS kvs ks H2 hS hv tp sk hn s2 hS0=>?_⟩;have UQ:=sk s (by simp);obtain⟨a,ha,Ra⟩:=hv s UQ;have z:=iR.k (k:=Sum.inl s) hS;rw[ha]at z;have jI:=s1.trans s2;have shl:=R.bd s h0 h1;have rol:=mT (sh s);obtain⟨es,yf,b,O⟩:=(R.same jI).one h0 h1;refine⟨Y,Y,S,Y,z,Y,Y,a,cP (sh s),p,q,rfl,Ra,Q,by rw[O.tt];exact hp,λH3 s3=>?_⟩
 ·obtain⟨wz,aaS,b',O3⟩:=(R.same (jI.trans s3)).one h0 h1;have ee:es=wz:=qW (O.he.symm.trans O3.he);subst ee;obtain⟨e1,e2⟩:=ku es;refine⟨Y,Y,rfl,Y,cN (λc=>?_) (λc=>?_)⟩
  ·have c':p=q:=V.int.inj (of_decide_eq_true c);refine⟨Y,Y,r,K,V,bI.of O3.hr,O3.ix,b',aF es,rfl,O3.it,gV O3.il (by decide),λo H4 I4 s4 ho=>?_⟩;refine k1 es o H4 O.he ?_ (jI.trans (s3.trans s4)) (aW (jI.trans s3) ho);rw[jC _ e2,e1]at I4;unfold bV;rw[if_pos c'];exact I4
  ·have c':¬ p=q:=λz=>c (by rw[z];exact decide_eq_true rfl);have pq:p<q:=by have:=hp.2.1;lia
   refine⟨Y,Y,r,K,V,bI.of O3.hr,O3.ix,Y,Y,Y,b',S,p,q,aF es,kvs,sh,rfl,O3.it,s3 _ _ hS,λn hn=>?_,gV O3.il (by decide),gV O3.rl (by decide),λt L M H4 ht hL4 hM4 s4=>?_⟩
   ·have nx:=sP h0 O.he hn;obtain⟨i,hi⟩:=List.getElem?_of_mem UQ;obtain⟨a2,e2,R2⟩:=hv n (List.mem_of_mem_take (tp.dn i s hi n nx));exact⟨a2,e2,R2.same s3⟩
   have nn:SS sh (aF es):=λn hn=>by
    have nx:=sP h0 O.he hn;obtain⟨n0,n1⟩:=R.snd.EY nx;exact pK R.snd R.rk R.Py n n0 n1
   have Nj:=ze sh (aF es) 0 e2 nn;have lk:fK ((bY sh 0 (aF es)).flatMap (kD p q)):=vU λd hd=>UR (Nj d hd).1 (Nj d hd).2;have ll:=mU sh (Jf p q) (aF es) 0;have oil:=O3.il;have orl:=O3.rl;refine⟨t,K,V,cX.of ht,rfl,L,Y,hL4,Q,λo H5 I5 s5 ho=>?_⟩;refine k1 es o H5 O.he ?_ (jI.trans (s3.trans (s4.trans s5))) (aW (jI.trans (s3.trans s4)) ho);rw[jC _ lk,D4 sh pq _ _ e2,e1]at I5;unfold bV;rw[if_neg c'];exact I5
def mE(sh:Int->List Int)(a b to:Int)(es:List Int):List Int:=if a=b then es else aE sh to 0 (kE sh a b 0 es)++tE sh a b 0 es++bE sh to 0 (kE sh a b 0 es)
def Mv(a b to n:Int):Prop:=Nd a b n/\0<=to/\to<=n-(b-a)
theorem PK(sh:Int->List Int)(r:Row):bC sh (cG r)=r:=by
 unfold bC cG;rw[List.flatMap_map]
 induction r with
 | nil=>rfl
 | cons p r ih=>rw[jo,ih];rfl
theorem CV(sh:Int->List Int)(a b:Int):∀ (aM:List aP) (f:Int),(bC sh ((bY sh f aM).flatMap (kD a b))).length<=(bC sh aM).length+(bC sh aM).length
 | [],_=>by simp[bY,bC]
 | it::r,f=>by
  have ih:=CV sh a b r (f+jh (cT sh it));have e:bC sh (it::r)=cT sh it++bC sh r:=by unfold bC;rw[jo];rfl
  have one:(bC sh (kD a b (it,cT sh it,f,f+jh (cT sh it)))).length<=(cT sh it).length+(cT sh it).length:=by
   unfold kD;split
   ·rw[jy];show (cT sh it).length<=_;lia
   ·split
    ·simp[bC]
    ·rw[PK];refine gV (jA _) ?_;rw[cY];have:=ko 0 (a-f) (cT sh it) 0;have:=ko (b-f) (f+jh (cT sh it)-f) (cT sh it) 0;simp only;lia
  rw[bY,jo,eL,cY,e,cY];lia
class inductive Bq
 | mk (r:Addr) (rows:cU) (s a b to:Int) (sh:Int->List Int) (_:vs=[.ref r,.int s,.int a,.int b,.int to]) (_:oZ H r rows sh) (_:0<=s) (_:s<rows.length) (_:Mv a b to (sh s).length) (_:(∀ (es:List Int) (q:Addr) (H':Hp),rows[s.toNat]?=some es->bH H' (.ref q) (aF (mE sh a b to es))->aI H H'->H q=none->Q (.ref q) H'))
theorem wB.mid{i:Int}(h0:-300000<i)(h1:i<300000):wB i:=by
 have a:(300000:Int)<10^60:=by decide
 exact⟨Q,Q⟩
theorem wB.Xf{i:Int}(h:-100000<i/\i<100000):wB i:=wB.mid ∅ ∅
theorem ja:aH ["rows","sheet","start","stop","to","views","rest","left","taken"] ["rows","sheet","start","stop","to"] (aA pY):=eU
theorem Ar:‹(4,31,["rows","sheet","start","stop","to"],Bq)›:=λD=>by
 refine eV D.ZS.F ja λcV A zn s0 H vs Q E hr h=>?_;obtain⟨r,rows,s,p,q,to,sh,rfl,R,h0,h1,mv,k1⟩:=h;have hu:=gG hr;exists _,(aj (aV (i:=5) ja.nd (aC D.Pa (jU D) hr (aa (pv 0) (aa (bL (aa (pv 1) ah)) ah)))) (aj (aU (aC D.Yb (gI D) hr (aa (gc hu (pv 5) (pv 1)) (aa (pv 2) (aa (pv 3) ah))))) (aj (aV (i:=6) ja.nd (bz cK (fG.qy D.Wu (D.T.oW _ D.Wu.m) (DY D) hr (aa (gc hu (pv 5) (pv 1)) ah)) (bz cK (pv 3) (pv 2)))) (aj (bN (gW (vg gr gr ay (pv 4) (pv 6))) (au iW) bg) (aj (bN (aT d7 (pv 2) (pv 3) (aZ _)) (au (aJ (aC D.IU (gu D) hr (aa (aO bu (pv 0) (pv 1)) ah)))) bg) (aj (lJ (aC D.WD (CU D) hr (aa (aO bu (pv 0) (pv 1)) (aa (pv 5) (aa (pv 2) (aa (pv 3) ah))))) (m7 (n:=2) rfl (cj (ck (i:=7) ja.nd) (cj (ck (i:=8) ja.nd) gR)))) (au (aJ (aC D.WC (vW D) hr (aa (pv 7) (aa (pv 5) (aa (pv 4) (aa (pv 8) ah)))))))))))));refine⟨Y,Y,mD,λL hL=>?_⟩;have s1:aI H (aN H L (.lst [.int s])):=ak hL _;refine⟨r,L,rows,[s],sh,rfl,R.at_.same s1,af,by simp,R.len,R.ents,R.snd,R.rk,(λx hx=>by rw[List.mem_singleton.mp hx];exact⟨h0,h1⟩),R.Py,R.bd,λS kvs ks H2 hS hv tp sk hn s2 hS0=>?_⟩;have UQ:=sk s (by simp);obtain⟨a,ha,Ra⟩:=hv s UQ;have z:=iR.k (k:=Sum.inl s) hS;rw[ha]at z;have jI:=s1.trans s2;have shl:=R.bd s h0 h1;have rol:=mT (sh s);obtain⟨es,yf,b,O⟩:=(R.same jI).one h0 h1;refine⟨Y,Y,S,Y,z,Y,Y,a,cP (sh s),p,q,rfl,Ra,Q,by rw[O.tt];exact mv.1,λH3 s3=>?_⟩
 ·have hp:=mv.1;obtain⟨wz,aaS,b',O3⟩:=(R.same (jI.trans s3)).one h0 h1;have ee:es=wz:=qW (O.he.symm.trans O3.he);subst ee;obtain⟨e1,e2⟩:=ku es;have z3:=iR.k (k:=Sum.inl s) (s3 _ _ hS);rw[ha]at z3;refine⟨Y,Y,S,Y,z3,a,cP (sh s),rfl,Ra.same s3,Q,λH4 s4=>?_⟩;rw[O.tt];exists Y,Y,Z,Z;exists Y,Z,Y;rw[decide_eq_true mv.2.1];refine cN (λ_=>?_) (λc=>absurd rfl c);exists Y,Z,Y;rw[decide_eq_true mv.2.2];refine eO ?_;have O4:bH H4 (.ref b') (aF es):=O3.it.same s4;have Yj:=s4 _ _ O3.hr;refine⟨Y,Y,rfl,Y,cN (λc=>?_) (λc=>?_)⟩
  ·have c':p=q:=V.int.inj (of_decide_eq_true c);refine⟨Y,Y,r,K,V,bI.of Yj,O3.ix,b',aF es,rfl,O4,gV O3.il (by decide),λo H5 I5 s5 ho=>?_⟩;refine k1 es o H5 O.he ?_ (jI.trans (s3.trans (s4.trans s5))) (aW (jI.trans (s3.trans s4)) ho);rw[jC _ e2,e1]at I5;unfold mE;rw[if_pos c'];exact I5
  ·have c':¬ p=q:=λz=>c (by rw[z];exact decide_eq_true rfl);have pq:p<q:=by have:=hp.2.1;lia
   have aaW:∀ n,aP.win n∈aF es->∃ a2,cJ kvs (Sum.inl n)=some (.ref a2)/\cA H4 a2 (cP (sh n)):=λn hn=>by
    have nx:=sP h0 O.he hn;obtain⟨i,hi⟩:=List.getElem?_of_mem UQ;obtain⟨a2,e2,R2⟩:=hv n (List.mem_of_mem_take (tp.dn i s hi n nx));exact⟨a2,e2,(R2.same s3).same s4⟩
   refine⟨Y,Y,r,K,V,bI.of Yj,O3.ix,Y,Y,Y,b',S,p,q,aF es,kvs,sh,rfl,O4,s4 _ _ (s3 _ _ hS),aaW,gV O3.il (by decide),gV O3.rl (by decide),λt L M H5 ht hL5 hM5 s5=>?_⟩
   have nn:SS sh (aF es):=λn hn=>by
    have nx:=sP h0 O.he hn;obtain⟨n0,n1⟩:=R.snd.EY nx;exact pK R.snd R.rk R.Py n n0 n1
   have Nj:=ze sh (aF es) 0 e2 nn;have lk:fK ((bY sh 0 (aF es)).flatMap (kD p q)):=vU λd hd=>UR (Nj d hd).1 (Nj d hd).2;have tk:fK ((bY sh 0 (aF es)).flatMap (tD p q)):=vU λd hd=>aaV (Nj d hd).1 (Nj d hd).2;have ll:=mU sh (Jf p q) (aF es) 0;have tl:=mU sh (PF p q) (aF es) 0;have lr:=CV sh p q (aF es) 0;have oil:=O3.il;have orl:=O3.rl;exists t,Y,cX.of ht,rfl,P,rfl,Z;refine⟨Y,Y,Y,Y,L,S,M,to,P,kvs,sh,rfl,hL5,s5 _ _ (s4 _ _ (s3 _ _ hS)),(λn hn=>?_),hM5,lk,tk,(λn hn=>nn n (Gh sh hn)),Q,Q,Q,λo H6 I6 s6 ho=>?_⟩
   ·obtain⟨a2,e3,R2⟩:=aaW n (Gh sh hn);exact⟨a2,e3,R2.same s5⟩
   refine k1 es o H6 O.he ?_ (jI.trans (s3.trans (s4.trans (s5.trans s6)))) (aW (jI.trans (s3.trans (s4.trans s5))) ho);rw[D4 sh pq _ _ e2,Gf sh pq _ _ e2,e1]at I6;unfold mE;rw[if_neg c'];exact I6
class inductive SY
 | mk (r:Addr) (rows:cU) (s:Int) (sh:Int->List Int) (_:vs=[.ref r,.int s]) (_:oZ H r rows sh) (_:0<=s) (_:s<rows.length) (_ :
 ∀ (o:Addr) (H':Hp),bH H' (.ref o) (aF (sh s))->aI H H'->H o=none->Q (.ref o) H')
theorem Br:aH ["rows","sheet"] ["rows","sheet"] (aA pZ):=eU
theorem As:‹(5,32,["rows","sheet"],SY)›:=λD=>by
 refine eV D.ZT.F Br λcV A zn s0 H vs Q E hr h=>?_;obtain⟨r,rows,s,sh,rfl,R,h0,h1,k⟩:=h;exists _,(au (aJ (aC D.DU (lF D) hr (aa (fG.qy D.IT (D.T.nF _ D.IT.m) (Am D) hr (aa (pv 0) (aa (pv 1) ah))) ah))));have shl:=R.bd s h0 h1;have rol:=mT (sh s);refine⟨Y,Y,r,rows,s,sh,rfl,R.at_,R.len,R.ents,R.snd,R.rk,h0,h1,R.Py,R.bd,λo H1 R1 s1 ho=>?_⟩;refine⟨o,cP (sh s),rfl,R1,Q,λq H2 I2 s2 hq=>k q H2 ?_ (s1.trans s2) (aW s1 hq)⟩;rw[zK _ (pG _),gB,MD (pK R.snd R.rk R.Py s h0 h1)]at I2;exact I2
def nK(aL:Row)(es:List Int):List Int:=es.filter λe=>decide (e<0) || !UC aL e
theorem yk(aL:Row)(a b:List Int):nK aL (a++b)=nK aL a++nK aL b:=by unfold nK;rw[List.filter_append]
theorem S0(aL:Row){es:List Int}(h:∀ e∈es,0<=e):nK aL es=iJ aL es:=by
 unfold nK iJ;refine List.filter_congr λe he=>?_;have:=h e he;rw[decide_eq_false ∅,Bool.false_or]
theorem PL(aL:Row){n:Int}(h:0<=n):nK aL [-1-n]=[-1-n]:=by
 unfold nK;rw[List.filter_cons_of_pos (by rw[decide_eq_true ∅];rfl)];rfl
def Jg(aL:Row)(aM lS:List aP):Prop:=c9 lS=nK aL (c9 aM)/\fK lS
theorem Jg.win{aL:Row}{aM lS:List aP}(h:Jg aL aM lS){n:Int}(n0:0<=n):Jg aL (aM++[.win n]) (lS++[.win n]):=by
 refine⟨?_,h.2.append (fK.one n0)⟩;rw[dh,dh,yk,h.1,i6];show _++[-1-n]=_++nK aL [-1-n];rw[PL aL n0]
theorem Jg.aL{aL L:Row}{aM lS:List aP}(h:Jg aL aM lS){a b:Int}(a0:0<=a)(ok:Ok L)(sp:bK L=iJ aL (fT (a,b)))(lo:∀ p∈L,a<=p.1):Jg aL (aM++[.aL a b]) (lS++cG (b8 L)):=by
 refine⟨?_,h.2.append (rQ (mR λp hp=>⟨by have:=lo p hp;lia,ok p hp⟩))⟩;rw[dh,dh,yk,h.1,i6,nI,jz L ok,sp];congr 1;show iJ aL (fT (a,b))=nK aL (run a (b-a).toNat);rw[S0 aL λe he=>by have:=(zb.mp he).1;lia];rfl
class inductive PM
 | mk (r k:Addr) (rows:cU) (s:Int) (sh:Int->List Int) (aL:Row) (_:vs=[.ref r,.int s,.ref k]) (_:oZ H r rows sh) (_:0<=s) (_:s<rows.length) (_:cA H k aL) (_:aL.length<3) (_:Ok aL) (_ :
 ∀ (es:List Int) (o:Addr) (H':Hp),rows[s.toNat]?=some es->bH H' (.ref o) (aF (nK aL es))->aI H H'->H o=none->Q (.ref o) H')
theorem iu:aH ["rows","sheet","ink","holes","told","item"] ["rows","sheet","ink"] (aA oK):=eU
theorem yD:‹(3,33,["rows","sheet","ink"],PM)›:=λD=>by
 refine eV D.ZU.F iu λcV A zn s0 H vs Q E hr h=>?_;obtain⟨r,kk,rows,s,sh,aL,rfl,R,h0,h1,KI,kl,ok,k⟩:=h;exists _,(aj (aV (i:=3) iu.nd (aC D.ZK (Mn D) hr (aa (pv 2) ah))) (aj (aV (i:=4) iu.nd (bL ah)) (aj (dQ PassesOwn.never rfl (cF (aO bu (pv 0) (pv 1))) (ck (i:=5) iu.nd) (au (bN (aT d7 (aO aX (pv 5) ay) bx (aZ _)) (au (aU (dJ pQ jE jF bQ (pv 4) (aa (pv 5) ah)))) (au (qZ (i:=4) iu.nd rfl (Or.inl rfl) (aC D.DU (lF D) hr (aa (aC D.ZM (DZ D) hr (aa (aO aX (pv 5) ay) (aa (aO aX (pv 5) ay) (aa (pv 3) ah)))) ah)) uM))))) (au (aJ (aC D.IU (gu D) hr (aa (pv 4) ah)))))));refine⟨Y,kk,aL,rfl,KI,kl,ok,λS bM H1 RS F5 mem hll s1 hS=>?_⟩;refine⟨gU,λq hq=>?_⟩;have s2:aI H1 (aN H1 q (.lst [])):=ak hq _;have jI:=s1.trans s2;obtain⟨es,yf,b,O⟩:=(R.same jI).one h0 h1;obtain⟨b',IX,eb,hb,rL⟩:=id O.it;cases eb;obtain⟨e1,e2⟩:=ku es;have il:=O.il
 have nSq:S≠q:=by
  obtain⟨_,hx,_⟩:=id RS;exact az hx hq
 have V0:=aW s1 hq;refine⟨Y,Y,r,K,V,bI.of O.hr,O.ix,b,rfl,⟨_,bI.of hb⟩,dm (K:=K) (a:=b) (xs:=IX) (λi σ H3=>∃ (u:Option V) (vs:List V) (lS:List aP),σ=[some (.ref r),some (.int s),some (.ref kk),some (.ref S),some (.ref q),u]/\H3 q=some (.lst vs)/\bS (cI H3) vs lS/\Jg aL ((aF es).take i) lS/\lS.length<=65*i/\aI H1 H3) ⟨none,[],[],rfl,af,.nil,⟨rfl,λi hi=>by cases hi⟩,by simp,s2⟩ (λi σ H3 _ ⟨K,K,P,s3⟩=>?_) ?_ ?_⟩
 ·obtain⟨_,_,b2,O2⟩:=(R.same (s1.trans s3)).one h0 h1
  have eb:b2=b:=by
   have jT:=R.at_;obtain⟨w,hw,_⟩:=jT;have x1:=jI _ _ hw;have x2:=(s1.trans s3) _ _ hw;rw[O.hr]at x1;rw[O2.hr]at x2;cases x1;cases x2;have:=O.ix.symm.trans O2.ix;cases this;rfl
  obtain⟨bb,iv2,e3,QY,_⟩:=id O2.it;cases e3;rw[eb]at QY
  have nbq:b≠q:=by
   obtain⟨w,hw,tw⟩:=R.at_;have x1:=jI _ _ hw;rw[O.hr]at x1;cases x1;obtain⟨vi,Bo,hI⟩:=tw.get' (i:=s.toNat) (b:=aF es) (by rw[mY,O.he];rfl);have z:=cO Bo;rw[show ((s.toNat:Nat):Int)=s by lia,O.ix]at z;cases z;obtain⟨b3,_,e4,UA,_⟩:=hI;cases e4;exact az UA V0
  have EZ:H1 b=some (.lst IX):=by rw[aK nbq]at hb;exact hb
  exact bI.of (s3 _ _ EZ)
 ·rintro i x σ H3 hi ⟨u,vs,lS,rfl,h3,t3,lf,tl,s3⟩;obtain⟨it,ei,hiv⟩:=rL.get hi
  have aet:∀ v it,cI (aN H1 q (.lst [])) v it->cI H1 v it:=λv it ⟨a,e,h⟩=>⟨a,e,by
   rw[aK (λz=>by rw[z,af]at h;cases h)]at h
   exact h⟩
  obtain⟨a,rfl,ha⟩:=(aet x it hiv).same s3;have io:=e2 it (oF ei);have vl:=t3.len
  have i1:i<(aF es).length:=by
   rcases Nat.lt_or_ge i (aF es).length with z|z
   ·exact z
   ·rw[List.getElem?_eq_none z]at ei;cases ei
  have st:=take_snoc ei
  cases it with
  | win n =>
   refine⟨Y,a,K,V,cX.of ha,V,Y,cN (λ_=>?_) (λz=>absurd (by decide) z)⟩;refine⟨Y,.inl ⟨rfl,_,bI.of h3⟩,Y,q,Z,h3,aR ∅,?_⟩;refine⟨P,lS++[.win n],rfl,af,bS.snoc (t3.mono λv j h=>h.keep h3 (aG q _ _)) (cI.keep h3 (aG q _ _) ⟨a,rfl,ha⟩),by rw[st];exact lf.win io,by rw[cY,gM];lia,bP hq s3 (aG q _ _)⟩
  | aL p p2 =>
   refine⟨Y,a,K,V,cX.of ha,V,Y,cN (λz=>absurd z (by decide)) (λ_=>?_)⟩;obtain⟨p0,pp⟩:=io;refine⟨Y,Y,a,K,V,cX.of ha,rfl,Y,a,K,V,cX.of ha,rfl,Y,S,bM,p,p2,rfl,RS.same s3,F5,Q,Q,λw1 L H4 RL okL spL loL lL s4 hw1=>?_⟩;refine⟨w1,L,rfl,RL,Q,λw2 H5 I5 s5 hw2=>?_⟩;obtain⟨w2',v2,e5,h5,t5⟩:=I5;cases e5;have h35:=s5 _ _ (s4 _ _ h3);have z5:=t5.len
   have l5:(cG (b8 L)).length<=64:=by
    unfold cG;rw[cy];have:=jA L;lia
   refine⟨q,w2,Z,h35,h5,gT (aR ∅),?_⟩;refine⟨P,lS++cG (b8 L),rfl,af,?_,?_,by rw[cY];lia,bP hq (s3.trans (s4.trans s5)) (aG q _ _)⟩
   ·exact (t3.mono λv j h=>((h.same s4).same s5).keep h35 (aG q _ _)).app (t5.mono λv j h=>h.keep h35 (aG q _ _))
   ·rw[st];refine lf.aL p0 okL ?_ loL;rw[spL];exact rN λx _=>mem x
 ·rintro σ H3 ⟨u,vs,lS,rfl,h3,t3,lf,tl,s3⟩;rw[rL.len,gO]at lf;rw[rL.len]at tl;refine⟨Y,q,lS,rfl,⟨q,vs,rfl,h3,t3⟩,Q,λo H4 I4 s4 ho=>?_⟩;rw[jC _ lf.2,lf.1,e1]at I4;exact k es o H4 O.he I4 (s1.trans (s3.trans s4)) (aW (s1.trans s3) ho)
abbrev lU(ws:iU):HO:=.lst (ws.map λw=>V.str (fO w))
abbrev S9:List (Str × Int):=[(Str.ofString "fresh",0),(Str.ofString "cut",3),(Str.ofString "move",4),(Str.ofString "quote",5),(Str.ofString "window",3),(Str.ofString "fix",1),(Str.ofString "back",2),(Str.ofString "fork",2),(Str.ofString "untie",1),(Str.ofString "read",1)]
abbrev Yk:List (Str × Int):=[(Str.ofString "put",2),(Str.ofString "strike",0),(Str.ofString "blot",1),(Str.ofString "lift",1)]
def mj(D:List (Str × Int))(n:List Nat):Option Int:=(D.find? λp=>decide (fO n=p.1)).map (·.2)
theorem Au{D:List (Str × Int)}{n:List Nat}{i:Int}(h:mj D n=some i):(D.find? λp=>decide (fO n=p.1))=some (fO n,i):=by
 unfold mj at h;obtain⟨⟨x,j⟩,e,rfl⟩:=Option.map_eq_some_iff.mp h;have z:=List.find?_some e;have:fO n=x:=of_decide_eq_true z;rw[e,this]
abbrev Gj:List Nat:=[116,105,101]
inductive jX where
 | Bs (h:Int) (t:List Nat)
 | plain (n:List Nat) (ns:List Int)
 | qH (n:List Nat) (ns:List Int) (r:Row)
def jX.At(H:Hp)(p:Addr):jX->Prop
 | .Bs h t=>H p=some (.tup [.str "pour",.int h,.str (fO t)])
 | .plain n ns=>H p=some (.tup (.str (fO n)::ns.map V.int))
 | .qH n ns r=>∃ q,H p=some (.tup (.str (fO n)::ns.map V.int++[.ref q]))/\cA H q r
def vX(n:Int):Prop:=0<=n/\n<10^60
def MH(r:Row):Prop:=r.length<=29/\∀ p∈r,vX p.1/\vX p.2
def jX.Ok:jX->Prop
 | .Bs h t=>vX h/\t.length<=200
 | .plain n ns=>mj S9 n=some (ns.length:Int)/\∀ x∈ns,vX x
 | .qH n ns r=>mj Yk n=some (ns.length:Int)/\(∀ x∈ns,vX x)/\MH r
abbrev vY(p:Int × Int):List Nat:=iS.dg p.1++45::iS.dg p.2
theorem MJ{p:Int × Int}(h:vX p.1/\vX p.2):(vY p).length<=121:=by
 rw[cY,eY];have a:=iS.IM h.1.1 h.1.2;have b:=iS.IM h.2.1 h.2.2;lia
theorem D7{n:Int}(h:vX n):n.natAbs.log2<1920:=by
 obtain⟨h0,h1⟩:=h;by_cases z:n.natAbs=0
 ·rw[z];decide
 ·rw[Nat.log2_lt z];have a:n.natAbs<10^60:=by lia
  exact qN a (gV (show (10:Nat)^60<=2^200 by decide) (Nat.pow_le_pow_right (by decide) (by decide)))
inductive iy where
 | num (x:Int)
 | tx (t:List Nat)
 | row (r:Row)
def iy.At(H:Hp)(v:V):iy->Prop
 | .num x=>v=.int x
 | .tx t=>v=.str (fO t)
 | .row r=>∃ q,v=.ref q/\cA H q r
def iy.Ok:iy->Prop
 | .num x=>vX x
 | .tx t=>t.length<=200
 | .row r=>MH r
abbrev Gk(r:Row):List Nat:=r.flatMap λp=>32::vY p
def iy.line:iy->List Nat
 | .num x=>32::iS.dg x
 | .tx t=>32::t
 | .row r=>Gk r
theorem PN{r:Row}(h:MH r):(Gk r).length<=4000:=by
 have key:∀ l:Row,(∀ p∈l,vX p.1/\vX p.2)->(Gk l).length<=122*l.length:=by
  intro l
  induction l with
  | nil=>intro _;exact fF _
  | cons p l ih =>
   intro g;have z:=ih λq hq=>g q (mO _ hq);have z2:=MJ (g p List.mem_cons_self);show ((32::vY p)++Gk l).length<=_;rw[cY,eY,eY];lia
 have:=key r h.2;have:=h.1;lia
theorem iy.Gm{p:iy}(h:p.Ok):p.line.length<=4000:=by
 cases p with
 | num x=>have:=iS.IM h.1 h.2;show (32::iS.dg x).length<=_;rw[eY];lia
 | tx t=>have h':t.length<=200:=h;show (32::t).length<=_;rw[eY];lia
 | row r=>exact PN h
def jX.nm:jX->List Nat
 | .Bs _ _=>[112,111,117,114]
 | .plain n _=>n
 | .qH n _ _=>n
def jX.parts:jX->List iy
 | .Bs h t=>[.num h,.tx t]
 | .plain _ ns=>ns.map .num
 | .qH _ ns r=>ns.map .num++[.row r]
def jX.line:jX->List Nat
 | d=>d.nm++d.parts.flatMap iy.line
theorem PR{H:Hp}{p:Addr}{d:jX}(h:d.At H p):∃ vs,H p=some (.tup (.str (fO d.nm)::vs))/\bS (λv q=>iy.At H v q) vs d.parts:=by
 have nums:∀ ns:List Int,bS (λv q=>iy.At H v q) (ns.map V.int) (ns.map iy.num):=λns=>by
  induction ns with
  | nil=>exact .nil
  | cons x ns ih=>exact .cons rfl ih
 cases d with
 | Bs x t=>exact⟨_,by rw[h,show Str.ofString "pour"=fO [112,111,117,114] by decide +kernel];rfl,.cons rfl (.cons rfl .nil)⟩
 | plain n ns=>exact⟨_,h,nums ns⟩
 | qH n ns r =>
  obtain⟨q,e,z⟩:=h;exact⟨ns.map V.int++[.ref q],by rw[e];rfl,(nums ns).snoc ⟨q,rfl,z⟩⟩
theorem MK{d:jX}(h:d.Ok):∀ q∈d.parts,q.Ok:=by
 cases d with
 | Bs x t =>
  intro q hq;rcases List.mem_cons.mp hq with z|z
  ·rw[z];exact h.1
  ·rw[List.mem_singleton.mp z];exact h.2
 | plain n ns =>
  intro q hq;obtain⟨x,hx,rfl⟩:=List.mem_map.mp hq;exact h.2 x hx
 | qH n ns r =>
  intro q hq;rcases List.mem_append.mp hq with z|z
  ·obtain⟨x,hx,rfl⟩:=List.mem_map.mp z;exact h.2.1 x hx
  ·rw[List.mem_singleton.mp z];exact h.2.2
theorem Gn{H:Hp}:∀ {vs:List V} {ps:List iy} {i:Nat} {v:V},bS (λv q=>iy.At H v q) vs ps->vs[i]?=some v->∃ q,ps[i]?=some q/\q.At H v
 | _,_,_,_,.nil,h=>by simp at h
 | _,_,0,_,.cons o t,h=>by
  have e:=qW h;subst e;exact⟨Y,o⟩
 | _,_,i+1,_,.cons o t,h=>by
  obtain⟨q,e,z⟩:=Gn (i:=i) t (by simpa using h);exact⟨q,by simpa using e,z⟩
theorem CY{ps:List iy}(h:∀ q∈ps,q.Ok):(ps.flatMap iy.line).length<=4000*ps.length:=by
 induction ps with
 | nil=>exact Nat.zero_le _
 | cons p ps ih =>
  have z:=ih λq hq=>h q (mO _ hq);have z2:=iy.Gm (h p List.mem_cons_self);rw[jo,cY,eY,Nat.mul_add,Nat.mul_one];lia
theorem Tc(n:List Nat):∀ ws:iU,iS.jn 32 (n::ws)=n++ws.flatMap (λw=>32::w):=by
 intro ws
 induction ws generalizing n with
 | nil=>show n=_;simp
 | cons w ws ih =>
  show n++32::iS.jn 32 (w::ws)=_;rw[ih w,jo];simp
theorem Gp{D:List (Str × Int)}{n:List Nat}{k:Int}(hD:∀ p∈D,32∉p.1.cps.toList/\p.1.cps.toList≠[112,111,117,114]/\p.1.cps.toList≠Gj/\p.1.cps.toList.length<=10)(h:mj D n=some k):32∉n/\n≠[112,111,117,114]/\n≠Gj/\n.length<=10:=by
 have z:=hD _ (List.mem_of_find?_eq_some (Au h));have e:(fO n).cps.toList=n:=iS.vG n;rw[show ((fO n,k):Str × Int).1=fO n from rfl,e]at z;exact z
theorem PU{n:List Nat}{k:Int}(h:mj S9 n=some k):32∉n/\n≠[112,111,117,114]/\n≠Gj/\n.length<=10:=Gp nofun h
theorem PV{n:List Nat}{k:Int}(h:mj Yk n=some k):32∉n/\n≠[112,111,117,114]/\n≠Gj/\n.length<=10:=Gp nofun h
theorem PX(r:Row):Gk r=(r.map vY).flatMap λw=>32::w:=by
 induction r with
 | nil=>rfl
 | cons x r ih=>rw[jJ,jo,← ih];rfl
theorem jX.At.same{H H':Hp}{p:Addr}{d:jX}(h:d.At H p)(s:aI H H'):d.At H' p:=by
 cases d with
 | Bs x t=>exact s _ _ h
 | plain n ns=>exact s _ _ h
 | qH n ns r=>obtain⟨q,e,r1⟩:=h;exact⟨q,s _ _ e,r1.same s⟩
theorem ML{n:List Nat}{k:Int}(h:mj S9 n=some k):k<=5:=by
 have z:∀ p∈S9,p.2<=5:=by decide +kernel
 exact z _ (List.mem_of_find?_eq_some (Au h))
theorem MM{n:List Nat}{k:Int}(h:mj Yk n=some k):k<=5:=by
 have z:∀ p∈Yk,p.2<=5:=by decide +kernel
 exact z _ (List.mem_of_find?_eq_some (Au h))
theorem Jh{d:jX}(ok:d.Ok):d.nm≠Gj/\d.nm.length<=10/\d.parts.length<=10:=by
 cases d with
 | Bs x t=>exact⟨by show [112,111,117,114]≠Gj;decide,by show 4<=10;decide,by show 2<=10;decide⟩
 | plain n ns =>
  obtain⟨_,_,f3,f4⟩:=PU ok.1;have:=ML ok.1;exact⟨f3,f4,by show (ns.map iy.num).length<=10;rw[cy];lia⟩
 | qH n ns r =>
  obtain⟨_,_,f3,f4⟩:=PV ok.1;have:=MM ok.1;exact⟨f3,f4,by show (ns.map iy.num++[iy.row r]).length<=10;rw[cY,cy];show ns.length+1<=10;lia⟩
class inductive Av
 | mk (q:Addr) (r:Row) (_:vs=[.ref q]) (_:cA H q r) (_:MH r) (_: ∀ (a:Addr) (H':Hp),H' a=some (lU (r.map vY))->aI H H'->H a=none->Q (.ref a) H')
theorem Gq:aH ["row"] ["row"] (aA qb):=eU
theorem PY{a b:Int}(ha:0<=a)(hb:0<=b):(Str.empty++Str.ofString (toString a)++Str.ofString "-"++Str.ofString (toString b))=fO (vY (a,b)):=by
 rw[iS.zc ha,iS.zc hb,show Str.ofString "-"=fO [45] by decide +kernel,show Str.empty=fO [] from rfl,DS,DS,DS];simp
theorem D8:‹(1,34,["row"],Av)›:=λD=>by
 specialize eV D.Sw.F Gq;obtain⟨q,r,rfl,⟨as,hq,pa⟩,⟨lr,fr⟩,k⟩:=h;refine⟨_,(au (aJ (gH (N:=["start","stop"]) (om (sc:=aA qb) (NX:=["row"]) (jx:=[none,none]) rfl rfl rfl nofun nofun rfl nofun rfl nofun) rfl (cF (pv 0)) (λ_ _ _ _ _ _=>(y9 (n:=2) rfl (cj (ck (i:=0) (show List.Nodup (["start","stop"]:List Str) by decide +kernel)) (cj (ck (i:=1) (show List.Nodup (["start","stop"]:List Str) by decide +kernel)) gR)))) (λ_ _ _ _ _ _=>ji) (λ_ _ _ _ _ _=>(iS.O7 (iS.KO (pv 0) (iS.Sq (iS.KO (pv 1) iS.So)))))))),?_⟩;have lp:=Paired.length pa;refine⟨Y,q,rfl,⟨_,bI.of hq⟩,λacc cR=>gF (K:=K) (a:=q) (xs:=as.map V.ref) (λi σ H2=>∃ u0 u1:Option V,σ=[u0,u1]/\H2 acc=some (lU ((r.take i).map vY))/\aI H H2) ⟨none,none,rfl,af,ak cR _⟩ (by rintro i σ H2 _ ⟨_,_,_,_,s2⟩;exact bI.of (s2 _ _ hq)) ?_ ?_⟩
 ·rintro i y σ H2 hi ⟨u0,u1,rfl,h2,s2⟩;rw[mY]at hi;obtain⟨a,ei,rfl⟩:=Option.map_eq_some_iff.mp hi;obtain⟨p,ep,hp⟩:=pa.get ei;have fp:=fr p (oF ep);have il:=(List.getElem?_eq_some_iff.mp ep).1;exists a,Y,cX.of (s2 _ _ hp),rfl,P,rfl,Z;refine⟨Y,Y,D7 fp.1,Y,Y,D7 fp.2,_,h2,aR (by rw[cy,cy,gx];lia),P,rfl,?_,bP cR s2 (aG acc _ _)⟩;rw[af,take_snoc ep,gw,jJ,List.map_nil,PY fp.1.1 fp.2.1];show some (HO.lst _)=some (HO.lst _);rw[gw];rfl
 ·rintro σ H2 ⟨u0,u1,rfl,h2,s2⟩;rw[cy,lp,gO]at h2;exact k acc H2 h2 s2 cR
def iy.words:iy->iU
 | .num x=>[iS.dg x]
 | .tx t=>[t]
 | .row r=>r.map vY
theorem uS(ps:List iy):(ps.flatMap iy.words).flatMap (λw=>32::w)=ps.flatMap iy.line:=by
 induction ps with
 | nil=>rfl
 | cons p ps ih =>
  rw[jo,jo,List.flatMap_append,ih];congr 1
  cases p with
  | num x=>show (32::iS.dg x)++[]=32::iS.dg x;rw[gP]
  | tx t=>show (32::t)++[]=32::t;rw[gP]
  | row r=>exact (PX r).symm
class inductive PZ
 | mk (p:Addr) (d:jX) (_:vs=[.ref p]) (_:d.At H p) (_:d.Ok) (_:d.nm≠Gj/\d.nm.length<=10/\d.parts.length<=10) (_: ∀ H',aI H H'->Q (.str (fO d.line)) H')
theorem mF:aH ["deed","words","thing"] ["deed"] (aA rB):=eU
theorem Gr(W:iU):(W.map List.length).sum+W.length=(W.flatMap λw=>32::w).length:=by
 induction W with
 | nil=>rfl
 | cons x W ih =>
  rw[jJ,List.sum_cons,eY,jo,cY,eY,← ih];lia
theorem MN(a b:iU):(a.map λw=>V.str (fO w))++(b.map λw=>V.str (fO w))=(a++b).map λw=>V.str (fO w):=List.map_append.symm
theorem Bt:‹(2,35,["deed"],PZ)›:=λD=>by
 have uT:bq P w K mg zt cL 1 _ _ ["row"] Av:=D8 D;specialize eV D.ZV.F mF;obtain⟨p,d,rfl,hd,ok,nn,k⟩:=h;exists _,(aj (bN (aT d7 (aO aX (pv 0) ay) bx (aZ _)) (au (aJ (dJ PySem.F.plainAttrs_str PySem.F.slot_str_join PySem.F.type_str_join iS.FW bx (aa (bz jK (bz jK (bz jK (bL (aa bx ah)) (aC D.Sw uT hr (aa (aO aX (pv 0) ay) ah))) (bL (aa bx ah))) (aC D.Sw uT hr (aa (aO aX (pv 0) ay) ah))) ah)))) bg) (aj (aV (i:=1) mF.nd (bL (aa (aO aX (pv 0) ay) ah))) (aj (dQ PassesOwn.never rfl (Vv (iX VE (pv 0) (je ay) n8)) (ck (i:=2) mF.nd) (au (qZ (i:=1) mF.nd rfl (Or.inl rfl) (ND (iM (cz ef rfl D.T.dF yu (aa (pv 2) (aa (qF rfl D.T.jw uc) ah)))) (aC D.Sw uT hr (aa (pv 2) ah)) (bL (aa (FY.ZE (pv 2)) ah))) uM))) (au (aJ (dJ PySem.F.plainAttrs_str PySem.F.slot_str_join PySem.F.type_str_join iS.FW bx (aa (pv 1) ah)))))));have tt:Str.ofString "tie"=fO Gj:=by decide +kernel
 have kil:kitOne K (.type "int") (.type "list")=some false:=by kernel_rfl
 have ksl:kitOne K (.type "str") (.type "list")=some false:=by kernel_rfl
 obtain⟨vs,hp,al⟩:=PR hd;obtain⟨n1,n2,n3⟩:=nn;have pk:=MK ok;have lv:=al.len;have ln:d.line=d.nm++d.parts.flatMap iy.line:=rfl;exists Y,p,K,V,cX.of hp,uQ;refine⟨rfl,Y,cN (λc=>absurd (of_decide_eq_true c) (by rw[tt];intro z;exact n1 (Sn (V.str.inj z)))) (λ_=>?_)⟩;refine⟨Y,p,K,V,cX.of hp,uQ,mD,λwl fwl=>?_⟩;have s0:=ak fwl (.lst [.str (fO d.nm)]);have h0:(aN H wl (.lst [.str (fO d.nm)])) wl=some (lU [d.nm]):=af;refine⟨Y,Y,p,Y,cX.of (s0 _ _ hp),?_,λtp htp=>?_⟩
 ·rintro⟨z,_⟩;have e:HT.jd (V.str (fO d.nm)::vs).length 0 (some 1)=min 1 (V.str (fO d.nm)::vs).length:=HT.Kc _ _ 1;have z':HT.jd (V.str (fO d.nm)::vs).length 0 (some 1)=0:=z;rw[e,eY]at z';lia
 have ec:kU (V.str (fO d.nm)::vs) (some 1) none=vs:=by
  unfold kU;have e:HT.jd (V.str (fO d.nm)::vs).length 0 (some 1)=1:=(HT.Kc _ _ 1).trans (by rw[eY];lia);have e2:HT.jd (V.str (fO d.nm)::vs).length (V.str (fO d.nm)::vs).length none=vs.length+1:=rfl;rw[e,e2];show vs.take (vs.length+1-1)=vs;exact ua ∅
 rw[ec];change (aN H wl (.lst [.str (fO d.nm)])) tp=none at htp;have s1':=ak htp (.tup vs);have h1:(aN (aN H wl (.lst [.str (fO d.nm)])) tp (.tup vs)) tp=some (.tup vs):=af;have h1w:=s1' _ _ h0;have s1:=s0.trans s1';have nwt:wl≠tp:=az h0 htp;generalize aN (aN H wl (.lst [.str (fO d.nm)])) tp (.tup vs)=H1 at s1 h1 h1w;refine⟨tp,rfl,⟨_,cX.of h1⟩,Rh (K:=K) (a:=tp) (xs:=vs) (λi σ H2=>∃ u:Option V,σ=[some (.ref p),some (.ref wl),u]/\H2 wl=some (lU (d.nm::(d.parts.take i).flatMap iy.words))/\H2 tp=some (.tup vs)/\aI H H2) ⟨none,rfl,by rw[List.take_zero,List.flatMap_nil];exact h1w,h1,s1⟩ (by rintro i σ H2 _ ⟨_,_,_,h2,_⟩;exact cX.of h2) ?_ ?_⟩
 ·rintro i v σ H2 hi ⟨u,rfl,h2,h2t,s2⟩;obtain⟨q,eq,hq⟩:=Gn al hi;have qk:=pk q (oF eq);have ql:=iy.Gm qk;have fl:=CY (ps:=d.parts.take i) λq hq=>pk q (List.mem_of_mem_take hq);have ft:(d.parts.take i).length<=10:=by rw[gx];lia
  have fs:=Gr ((d.parts.take i).flatMap iy.words);rw[uS]at fs
  have nx:d.nm::(d.parts.take (i+1)).flatMap iy.words=(d.nm::(d.parts.take i).flatMap iy.words)++q.words:=by
   rw[take_snoc eq,List.flatMap_append,jo,List.flatMap_nil,gP,List.cons_append]
  have lB:(d.nm::(d.parts.take i).flatMap iy.words).length<=50000:=by rw[eY];lia
  have lq:q.words.length<=29:=by
   cases q with
   | num x=>show 1<=29;decide
   | tx t=>show 1<=29;decide
   | row r=>show (r.map vY).length<=29;rw[cy];exact qk.1
  have jG:∀ (t:Addr) (H3:Hp) (v':V),aI H2 H3->H2 t=none->H3 t=some (lU q.words)->∃ (l b:Addr) (xs zs:List V),V.ref wl=.ref l/\V.ref t=.ref b/\H3 l=some (.lst xs)/\H3 b=some (.lst zs)/\xs.length+zs.length<=sizeLine/\∃ u:Option V,([some (.ref p),some (.ref wl),some v']:List (Option V)).set 1 (some (.ref l))=[some (.ref p),some (.ref wl),u]/\(aN H3 l (.lst (xs++zs))) wl=some (lU (d.nm::(d.parts.take (i+1)).flatMap iy.words))/\(aN H3 l (.lst (xs++zs))) tp=some (.tup vs)/\aI H (aN H3 l (.lst (xs++zs))):=by
   intro t H3 v' s3 KC h3;exists wl,t,Z,s3 _ _ h2,h3,gT (aR (by rw[cy,cy];lia)),Y,?_,?_
   ·rw[MN,af,nx]
   ·rw[aK nwt.symm];exact s3 _ _ h2t
   ·exact bP fwl (s2.trans s3) (aG wl _ _)
  cases q with
  | num x =>
   cases (show v=.int x from hq);refine⟨Y,Y,_,"list",P,rfl,.int x,kil,Y,eO ⟨Y,.inl ⟨x,rfl,D7 qk,?_⟩⟩⟩;rw[iS.zc qk.1];exact⟨mD,λt KC=>jG t _ (.int x) (ak KC _) KC af⟩
  | tx t =>
   cases (show v=.str (fO t) from hq);have lt:t.length<=200:=qk;refine⟨Y,Y,_,"list",P,rfl,.str _,ksl,Y,eO ⟨Y,.inr ⟨t,rfl,Q,?_⟩⟩⟩;exact⟨mD,λt' KC=>jG t' _ (.str (fO t)) (ak KC _) KC af⟩
  | row r =>
   obtain⟨qa,rfl,hr⟩:=hq;have F2:=hr.same s2;obtain⟨as,has,_⟩:=id F2;refine⟨Y,Y,_,"list",P,rfl,.lst has,Zp K,Y,jH ?_⟩;exact⟨Y,qa,r,rfl,F2,qk,λt H3 h3 s3 KC=>jG t H3 (.ref qa) s3 KC h3⟩
 ·rintro σ H2 ⟨u,rfl,h2,h2t,s2⟩;rw[lv,gO]at h2;have fs:=Gr (d.parts.flatMap iy.words);rw[uS]at fs;have fl:=CY (ps:=d.parts) pk;exists rfl,Y,wl,32,_,by rw[show Str.ofString " "=⟨#[32]⟩ by decide +kernel],rfl,h2,?_
  ·rw[jJ,List.sum_cons,eY];lia
  rw[Tc,uS,← ln];exact k H2 s2
structure aaX(S:Addr->Prop)(H:Hp)(st op r:Addr)(aM:List aP):Prop where
 own:S r
 ne:r≠st/\r≠op
 at':bH H (.ref r) aM
def Ji(S:Addr->Prop)(H:Hp)(st op a:Addr)(rows:List (List aP)):Prop:=S a/\a≠st/\a≠op/\∃ rs:List Addr,H a=some (.lst (rs.map V.ref))/\bS (aaX S H st op) rs rows
abbrev kC:=List (List (List aP))
structure Opn(bJ:kC)(ops:List Int):Prop where
 CZ:∃ last,bJ.getLast?=some last/\ops.length=last.length
 fit:∀ (s:Nat) (o:Int),ops[s]?=some o->0<=o/\o<bJ.length/\∀ (m:Nat) (rows:List (List aP)),bJ[m]?=some rows->(o<=m↔s<rows.length)
 less:∀ (m:Nat) (rows:List (List aP)),bJ[m]?=some rows->rows.length<=ops.length
structure Sh(C:Addr)(S:Addr->Prop)(H:Hp)(x d st op:Addr)(bJ:kC)(ops:List Int):Prop where
 sx:S x
 ss:S st
 so:S op
 al:∀ a,S a->∃ ob,H a=some ob
 hx:H x=some (.ins C d [("states",.ref st),("openings",.ref op)])
 hs:∃ as:List Addr,H st=some (.lst (as.map V.ref))/\bS (Ji S H st op) as bJ
 ho:H op=some (.lst (ops.map V.int))
 ne:st≠op
 Nm:Opn bJ ops
theorem bH.fr{H H':Hp}{r:Addr}{aM:List aP}(h:bH H (.ref r) aM)(k:∀ xs,H r=some (.lst xs)->H' r=some (.lst xs))(t:∀ a xs,H a=some (.tup xs)->H' a=some (.tup xs)):bH H' (.ref r) aM:=by
 obtain⟨a,vs,e,h1,h2⟩:=h;cases e;exact⟨r,vs,rfl,k _ h1,h2.mono λv it ⟨b,e,hb⟩=>⟨b,e,t _ _ hb⟩⟩
theorem Ji.fr{S S':Addr->Prop}{H H':Hp}{st a:Addr}{rows:List (List aP)}(h:Ji S H st op a rows)(sub:∀ a,S a->S' a)(k:∀ a ob,H a=some ob->S a->a≠st->a≠op->H' a=some ob)(t:∀ a xs,H a=some (.tup xs)->H' a=some (.tup xs)):Ji S' H' st op a rows:=by
 obtain⟨sa,n1,n2,rs,hr,al⟩:=h;exact⟨sub _ sa,n1,n2,rs,k _ _ hr sa n1 n2,al.mono λr aM q=>⟨sub _ q.own,q.ne,q.at'.fr (λxs e=>k _ _ e q.own q.ne.1 q.ne.2) t⟩⟩
theorem Sh.fr{S:Addr->Prop}{H H':Hp}{x d st:Addr}{bJ:kC}{ops:List Int}(h:Sh C S H x d st op bJ ops)(k:∀ a ob,H a=some ob->S a->H' a=some ob)(t:∀ a xs,H a=some (.tup xs)->H' a=some (.tup xs)):Sh C S H' x d st op bJ ops:=by
 obtain⟨sx,ss,so,al,hx,⟨as,hs,a2⟩,ho,ne,Nm⟩:=h;refine⟨sx,ss,so,λa z=>?_,k _ _ hx sx,⟨as,k _ _ hs ss,a2.mono λa rows q=>q.fr (λ_ z=>z) (λa ob e z _ _=>k _ _ e z) t⟩,k _ _ ho so,ne,Nm⟩;obtain⟨ob,e⟩:=al a z;exact⟨ob,k _ _ e z⟩
theorem Sh.same{S:Addr->Prop}{H H':Hp}{x d st:Addr}{bJ:kC}{ops:List Int}(h:Sh C S H x d st op bJ ops)(k:aI H H'):Sh C S H' x d st op bJ ops:=h.fr (λa ob e _=>k a ob e) (λa xs e=>k _ _ e)
theorem Sh.keep{S:Addr->Prop}{H H':Hp}{x d st l:Addr}{bJ:kC}{ops:List Int}{ls:List V}(h:Sh C S H x d st op bJ ops)(hl:H l=some (.lst ls))(nl:¬ S l)(k:cD l H H'):Sh C S H' x d st op bJ ops :=
 h.fr (λa ob e z=>k a ob e (λq=>nl (by rw[← q];exact z))) (λa xs e=>k _ _ e (dY e hl))
theorem Aw:∀ {as bs:List Addr},as.map V.ref=bs.map V.ref->as=bs
 | [],[],_=>rfl
 | [],_::_,h=>by cases h
 | _::_,[],h=>by cases h
 | a::as,b::bs,h=>by
  rw[jJ,jJ]at h;injection h with h1 h2;cases h1;rw[Aw h2]
theorem Sh.last{S:Addr->Prop}{H:Hp}{x d st:Addr}{bJ:kC}{ops:List Int}(h:Sh C S H x d st op bJ ops){as:List Addr}(ha:H st=some (.lst (as.map V.ref))):∃ ON a,as=ON++[a]/\∀ last,bJ.getLast?=some last->Ji S H st op a last:=by
 obtain⟨bs,hb,a2⟩:=h.hs
 have e:as=bs:=by
  rw[ha]at hb;have:=HO.lst.inj (qW hb);exact Aw this
 subst e;obtain⟨last,hl,_⟩:=h.Nm.CZ
 obtain⟨p',rfl⟩:∃ p',bJ=p'++[last]:=by
  rcases mZ bJ with rfl|⟨p',l,rfl⟩
  ·cases hl
  ·rw[kM,nU]at hl;cases hl;exact⟨p',kM⟩
 obtain⟨ON,a,rfl,_,r⟩:=a2.split;refine⟨ON,a,rfl,λl e=>?_⟩;rw[hl]at e;cases e;exact r
theorem uU(xs:List V){p:Int}(h:0<=p):kU xs none (some p)=xs.take p.toNat:=by
 unfold kU;have e1:HT.jd xs.length 0 none=0:=rfl
 have e2:HT.jd xs.length xs.length (some p)=min p.toNat xs.length:=by
  show (if p<0 then (p+(xs.length:Int)).toNat else min p.toNat xs.length)=_;rw[if_neg ∅]
 rw[e1,e2,List.drop_zero,Nat.sub_zero];rcases Nat.le_total p.toNat xs.length with z|z
 ·rw[Nat.min_eq_left z]
 ·rw[Nat.min_eq_right z,ua (fF _),ua z]
theorem xB(xs:List V){p:Int}(h:0<=p):kU xs (some p) none=xs.drop p.toNat:=by
 unfold kU;have e1:HT.jd xs.length xs.length none=xs.length:=rfl
 have e2:HT.jd xs.length 0 (some p)=min p.toNat xs.length:=by
  show (if p<0 then (p+(xs.length:Int)).toNat else min p.toNat xs.length)=_;rw[if_neg ∅]
 rw[e1,e2];rcases Nat.le_total p.toNat xs.length with z|z
 ·rw[Nat.min_eq_left z,ua (by rw[qV];lia)]
 ·rw[Nat.min_eq_right z,ve (fF _),ve z];simp
class inductive MO
 | mk (a r:Addr) (rs:List V) (s:Nat) (_:vs=[.ref a,.int (s:Nat),.ref r]) (_:H a=some (.lst rs)) (_:s<=rs.length) (_:rs.length<=1000) (_: ∀ (p:Addr) (H':Hp),H' p=some (.lst (rs.take s++[.ref r]++rs.drop (s+1)))->aI H H'->H p=none->Q (.ref p) H')
class inductive Td(C:Addr)
 | mk (x d:Addr) (_:vs=[.ref x]) (_:H x=some (.ins C d [])) (_: ∀ (st op z:Addr) (H':Hp),Sh C (λa=>a=x\/a=st\/a=op\/a=z) H' x d st op [[]] []->cD x H H'->H st=none->H op=none->H z=none->Q .gj H')
class inductive aaY(C:Addr)
 | mk (x d st op:Addr) (as:List V) (_:vs=[.ref x]) (_:H x=some (.ins C d [("states",.ref st),("openings",.ref op)])) (_:H st=some (.lst as)) (_:Q (.int ((as.length:Nat)-1)) H)
class inductive Xg(C:Addr)
 | mk (S:Addr->Prop) (x d st op:Addr) (bJ:kC) (ops:List Int) (_:vs=[.ref x]) (_:Sh C S H x d st op bJ ops) (_:Q (.int (ops.length:Nat)) H)
theorem MP:aH ["state","sheet","items"] ["state","sheet","items"] (aA zG):=eU
theorem xC:aH ["self"] ["self"] (aA lN):=eU
theorem Gs:aH ["self"] ["self"] (aA uy):=eU
theorem D9:aH ["self"] ["self"] (aA rC):=eU
theorem Ax:‹(1,36,["state","sheet","items"],MO)›:=λD=>by
 specialize eV D.WE.F MP;obtain⟨a,r,rs,s,rfl,ha,sl,l1,k⟩:=h;exists _,(aj (bN (gW (vg gr gr ay (pv 1) (eX D.T.eN (pv 0)))) (au iW) bg) (au (aJ (bz jK (bz jK (iX mw (pv 0) n8 (je (pv 1))) (bL (aa (pv 2) ah))) (iX mw (pv 0) (je (bz dz (pv 1) ay)) n8)))));refine⟨Y,Z,Y,cN (λc0=>?_) (λc0=>absurd (decide_eq_true ∅) c0)⟩;exists Y,a,Y,.inl (bI.of ha),Z,Y;rw[decide_eq_true (show ((s:Nat):Int)<=((rs.length:Nat):Int) by lia)];refine eO ?_;refine⟨Y,Y,Y,a,Y,bI.of ha,λp1 Sg=>?_⟩;rw[uU _ ∅,Int.toNat_natCast];have s1:aI H (aN H p1 (.lst (rs.take s))):=ak Sg _;have h1:(aN H p1 (.lst (rs.take s))) p1=some (.lst (rs.take s)):=af;generalize aN H p1 (.lst (rs.take s))=H1 at s1 h1;refine⟨Y,mD,λp2 Uw=>?_⟩;have s2:aI H1 (aN H1 p2 (.lst [.ref r])):=ak Uw _;have h2:(aN H1 p2 (.lst [.ref r])) p2=some (.lst [.ref r]):=af;generalize aN H1 p2 (.lst [.ref r])=H2 at s2 h2;refine⟨p1,p2,Z,s2 _ _ h1,h2,(by rw[gx];exact gT (aR (by simp only[gM];lia))),λp3 hp3=>?_⟩;have s3:aI H2 (aN H2 p3 (.lst (rs.take s++[.ref r]))):=ak hp3 _;have h3:(aN H2 p3 (.lst (rs.take s++[.ref r]))) p3=some (.lst (rs.take s++[.ref r])):=af;generalize aN H2 p3 (.lst (rs.take s++[.ref r]))=H3 at s3 h3;have P0:=s1.trans (s2.trans s3);refine⟨Y,Y,Z,Y,a,Y,bI.of (P0 _ _ ha),λp4 hp4=>?_⟩;rw[xB _ ∅,show (((s:Nat):Int)+1).toNat=s+1 by lia];have s4:aI H3 (aN H3 p4 (.lst (rs.drop (s+1)))):=ak hp4 _;have h4:(aN H3 p4 (.lst (rs.drop (s+1)))) p4=some (.lst (rs.drop (s+1))):=af;generalize aN H3 p4 (.lst (rs.drop (s+1)))=H4 at s4 h4;refine⟨p3,p4,Z,s4 _ _ h3,h4,(by rw[cY,gx,qV];exact gT (aR (by simp only[gM];lia))),λp5 hp5=>?_⟩;have s04:=P0.trans s4;exact k p5 _ af (s04.trans (ak hp5 _)) (aW s04 hp5)
theorem vZ:‹(1,37,["self"],(Td CS))›:=λD=>by
 specialize eV D.ZW.F xC;obtain⟨x,d,rfl,hx,k⟩:=h;exists _,(aj (jq (pv 0) (bL (aa (bL ah) ah)) rfl) (au (jq (pv 0) (bL ah) rfl)));refine⟨gU,λz hz=>?_⟩;have a0:aI H (aN H z (.lst [])):=ak hz _;have z0:(aN H z (.lst [])) z=some (.lst []):=af;generalize aN H z (.lst [])=H0 at a0 z0;refine⟨mD,λst Dl=>?_⟩;have a1:aI H0 (aN H0 st (.lst [.ref z])):=ak Dl _;have b1:(aN H0 st (.lst [.ref z])) st=some (.lst [.ref z]):=af;generalize aN H0 st (.lst [.ref z])=H1 at a1 b1;have a01:=a0.trans a1;exists Y,x,CS,d,Y,a01 _ _ hx,D.cB.cl,D.kJ,E;have k2:cD x H1 (aN H1 x (.ins CS d (L2.eE "states" (.ref st) []))):=aG x _ _;have h2:(aN H1 x (.ins CS d (L2.eE "states" (.ref st) []))) x=some (.ins CS d [("states",.ref st)]):=af;generalize aN H1 x (.ins CS d (L2.eE "states" (.ref st) []))=H2 at k2 h2;have Xh:st≠x:=(az (a0 _ _ hx) Dl).symm;have nzx:z≠x:=(az hx hz).symm;have nzs:z≠st:=az z0 Dl;have b2:=k2 _ _ b1 Xh;have z2:=k2 _ _ (a1 _ _ z0) nzx;refine⟨gU,λop QW=>?_⟩;have Lp:op≠x:=(az h2 QW).symm;have nso:st≠op:=az b2 QW;have nzo:z≠op:=az z2 QW;refine⟨Y,x,CS,d,Y,ak QW _ _ _ h2,D.cB.cl,D.mQ,(by show 1<1000;decide),?_⟩
 have k5:cD x H (aN (aN H2 op (.lst [])) x (.ins CS d (L2.eE "openings" (.ref op) [("states",.ref st)]))):=λa ob e n=>by
  rw[aK n];exact ak QW _ _ _ (k2 _ _ (a01 _ _ e) n)
 have z5:(aN (aN H2 op (.lst [])) x (.ins CS d (L2.eE "openings" (.ref op) [("states",.ref st)]))) z=some (.lst []):=by rw[aK nzx];exact ak QW _ _ _ z2
 have s5:(aN (aN H2 op (.lst [])) x (.ins CS d (L2.eE "openings" (.ref op) [("states",.ref st)]))) st=some (.lst [.ref z]):=by rw[aK Xh];exact ak QW _ _ _ b2
 have o5:(aN (aN H2 op (.lst [])) x (.ins CS d (L2.eE "openings" (.ref op) [("states",.ref st)]))) op=some (.lst []):=by rw[aK Lp];exact af
 have x5:(aN (aN H2 op (.lst [])) x (.ins CS d (L2.eE "openings" (.ref op) [("states",.ref st)]))) x=some (.ins CS d [("states",.ref st),("openings",.ref op)]):=af;generalize aN (aN H2 op (.lst [])) x (.ins CS d (L2.eE "openings" (.ref op) [("states",.ref st)]))=H5 at k5 z5 s5 o5 x5
 refine k st op z _ ⟨.inl rfl,.inr (.inl rfl),.inr (.inr (.inl rfl)),λa w=>?_,x5,⟨[z],s5,.cons ⟨.inr (.inr (.inr rfl)),nzs,nzo,[],z5,.nil⟩ .nil⟩,o5,nso,⟨⟨[],V⟩,λs o e=>(by cases s <;> cases e),λm rows e=>?_⟩⟩ k5 (aW a0 Dl) ?_ hz
 ·rcases w with rfl|rfl|rfl|rfl
  ·exact⟨_,x5⟩
  ·exact⟨_,s5⟩
  ·exact⟨_,o5⟩
  ·exact⟨_,z5⟩
 ·match m,e with
  | 0,e=>cases e;exact fF _
  | m+1,e=>cases e
 ·exact aW a01 (iD k2 Lp QW)
theorem mG:‹(1,38,["self"],(aaY CS))›:=λD=>by
 specialize eV D.Pb.F Gs;obtain⟨x,d,st,op,as,rfl,hx,hs,k⟩:=h;exists _,(au (aJ (bz cK (eX D.T.eN (cM (pv 0) rfl)) ay)));exact⟨Y,x,CS,d,_,.ref st,rfl,hx,D.cB.cl,D.kJ,rfl,st,Y,.inl (bI.of hs),Z,k⟩
theorem tX:‹(1,39,["self"],(Xg CS))›:=λD=>by
 specialize eV D.WG.F D9;obtain⟨S,x,d,st,op,bJ,ops,rfl,W,k⟩:=h;obtain⟨as,hs,a2⟩:=W.hs;obtain⟨last,hl,ol⟩:=W.Nm.CZ;exists _,(au (aJ (eX D.T.eN (aO bu (cM (pv 0) rfl) (fQ dR ay)))));obtain⟨ON,a,rfl,r⟩:=W.last hs;refine⟨Y,x,CS,d,_,.ref st,rfl,W.hx,D.cB.cl,D.kJ,rfl,Y,st,P,.ref a,V,bI.of hs,(by rw[gw];exact eK _ _),?_⟩;obtain⟨_,_,_,rs,ha,al⟩:=r last hl;exists a,Y,.inl (bI.of ha);rw[cy,al.len,← ol];exact k
def Xi(rows:List (List aP))(ch:Nat × List aP):List (List aP):=rows.take ch.1++[ch.2]++rows.drop (ch.1+1)
def mH(rows:List (List aP))(qI:List (Nat × List aP)):List (List aP):=qI.foldl Xi rows
def Xj(rows:List (List aP))(qI:List (Nat × List aP)):Prop:=∀ (i:Nat) (ch:Nat × List aP),qI[i]?=some ch->ch.1<=(mH rows (qI.take i)).length
theorem Te{rows:List (List aP)}{ch:Nat × List aP}(h:ch.1<=rows.length):rows.length<=(Xi rows ch).length/\(Xi rows ch).length<=rows.length+1:=by
 unfold Xi;rw[cY,cY,gx,qV];simp only[gM];lia
theorem C0{rows:List (List aP)}{qI:List (Nat × List aP)}{i:Nat}{ch:Nat × List aP}(h:qI[i]?=some ch):mH rows (qI.take (i+1))=Xi (mH rows (qI.take i)) ch:=by
 unfold mH;rw[take_snoc h,List.foldl_append];rfl
theorem Ay{rows:List (List aP)}{qI:List (Nat × List aP)}(ok:Xj rows qI):∀ i,i<=qI.length->rows.length<=(mH rows (qI.take i)).length/\(mH rows (qI.take i)).length<=rows.length+i
 | 0,_=>⟨Nat.le_refl _,fF _⟩
 | i+1,h=>by
  have e:qI[i]?=some qI[i]:=pS ∅;have a:=Ay ok i ∅;have b:=Te (ok i _ e);rw[C0 e];lia
theorem Opn.step{bJ:kC}{ops:List Int}{last rows:List (List aP)}(h:Opn bJ ops)(hl:bJ.getLast?=some last)(le:last.length<=rows.length):Opn (bJ++[rows]) (ops++List.replicate (rows.length-last.length) ((bJ.length:Nat):Int)):=by
 obtain⟨⟨l',hl',ol⟩,fit,less⟩:=h;rw[hl]at hl';cases hl'
 have get:∀ (m:Nat) (r:List (List aP)),(bJ++[rows])[m]?=some r->bJ[m]?=some r/\m<bJ.length\/m=bJ.length/\r=rows:=λm r e=>by
  by_cases c:m<bJ.length
  ·rw[List.getElem?_append_left c]at e;exact .inl ⟨e,c⟩
  ·rw[List.getElem?_append_right ∅]at e
   match hm:m-bJ.length,e with
   | 0,e=>cases e;exact .inr ⟨Q,rfl⟩
   | k+1,e=>cases e
 refine⟨⟨rows,nU,by rw[cY,zg];lia⟩,λs o e=>?_,λm r e=>?_⟩
 ·by_cases c:s<ops.length
  ·rw[List.getElem?_append_left c]at e;obtain⟨f0,f1,f2⟩:=fit s o e;refine⟨f0,by rw[cY];simp only[gM];lia,λm r em=>?_⟩;rcases get m r em with ⟨q,_⟩|⟨rfl,rfl⟩
   ·exact f2 m r q
   ·constructor
    ·intro _;lia
    ·intro _;lia
  ·rw[List.getElem?_append_right ∅,List.getElem?_replicate]at e;split at e
   ·cases e;refine⟨Q,by rw[cY];simp only[gM];lia,λm r em=>?_⟩;rcases get m r em with ⟨q,lt⟩|⟨rfl,rfl⟩
    ·have:=less m r q;constructor
     ·intro z;lia
     ·intro z;lia
    ·constructor
     ·intro _;lia
     ·intro _;lia
   ·cases e
 ·rw[cY,zg];rcases get m r e with ⟨q,_⟩|⟨rfl,rfl⟩
  ·have:=less m r q;lia
  ·lia
theorem bS.take{α β:Type}{R:α->β->Prop}:∀ {as:List α} {bs:List β} (n:Nat),bS R as bs->bS R (as.take n) (bs.take n)
 | _,_,0,_=>by rw[List.take_zero,List.take_zero];exact .nil
 | _,_,n+1,.nil=>.nil
 | _,_,n+1,.cons e r=>.cons e (r.take n)
theorem bS.drop{α β:Type}{R:α->β->Prop}:∀ {as:List α} {bs:List β} (n:Nat),bS R as bs->bS R (as.drop n) (bs.drop n)
 | _,_,0,h=>h
 | _,_,n+1,.nil=>.nil
 | _,_,n+1,.cons _ r=>r.drop n
theorem Gu(v:V):∀ n:Nat,(List.replicate n [v]).flatten=List.replicate n v
 | 0=>rfl
 | n+1=>by rw[List.replicate_succ,List.flatten_cons,Gu v n,List.replicate_succ];rfl
theorem Tf{H:Hp}{a:Addr}{ob:HO}(h:H a=some ob):aN H a ob=H:=by
 funext b;by_cases e:b=a
 ·rw[e,af,h]
 ·rw[aK e]
def Jj(H:Hp)(a:Addr)(ch:Nat × List aP):Prop:=∃ r:Addr,H a=some (.tup [.int (ch.1:Nat),.ref r])/\bH H (.ref r) ch.2
theorem Jj.same{H H':Hp}{a:Addr}{ch:Nat × List aP}(s:aI H H'):Jj H a ch->Jj H' a ch:=λ⟨r,h1,h2⟩=>⟨r,s _ _ h1,h2.same s⟩
class inductive P1(C:Addr)
 | mk (S:Addr->Prop) (x d st op c:Addr) (bJ:kC) (ops:List Int) (cs:List Addr) (qI:List (Nat × List aP)) (last:List (List aP)) (_:vs=[.ref x,.ref c]) (_:Sh C S H x d st op bJ ops) (_:H c=some (.lst (cs.map V.ref))) (_:bS (Jj H) cs qI) (_:bJ.getLast?=some last) (_:Xj last qI) (_:qI.length<=200) (_:last.length<=500) (_:bJ.length<=1000) (_ :
 ∀ (S':Addr->Prop) (H':Hp),Sh C S' H' x d st op (bJ++[mH last qI]) (ops++List.replicate ((mH last qI).length-last.length) ((bJ.length:Nat):Int))->(∀ a,S' a->S a\/H a=none)->(∀ a ob,H a=some ob->¬ S a->H' a=some ob)->(∀ a xs,H a=some (.tup xs)->H' a=some (.tup xs))->Q .gj H')
theorem iG:aH ["self","changes","state","ahead","sheet","items"] ["self","changes"] (aA rD):=eU
theorem Bu:‹(2,40,["self","changes"],(P1 CS))›:=λD=>by
 specialize eV D.ZX.F iG;obtain⟨S,x,d,st,op,c,bJ,ops,cs,qI,last,rfl,W,hc,a2,hl,okc,lc,ll,lp,k⟩:=h;exists _,(aj (aV (i:=2) iG.nd (aO bu (cM (pv 0) rfl) (fQ dR ay))) (aj (aV (i:=3) iG.nd (eX D.T.eN (pv 2))) (aj (dQ PassesOwn.never rfl (cF (pv 1)) (m7 (n:=2) rfl (cj (ck (i:=4) iG.nd) (cj (ck (i:=5) iG.nd) gR))) (au (aV (i:=2) iG.nd (aC D.WE (Ax D) hr (aa (pv 2) (aa (pv 4) (aa (eS fY rfl D.T.jw uc (aa (pv 5) ah)) ah))))))) (aj (aU (dJ pQ jE jF bQ (cM (pv 0) rfl) (aa (pv 2) ah))) (au (wJ (pv 0) (bz N9 (bL (aa (ff (pv 0) D.cB D.Pb (mG D) hr bO) ah)) (bz cK (eX D.T.eN (pv 2)) (pv 3))) ID))))));obtain⟨as,hs,al⟩:=id W.hs;obtain⟨ON,a,ea,r⟩:=W.last hs;obtain⟨Sa,na1,na2,rs,ha,ar⟩:=r last hl;have lal:=al.len;refine⟨Y,x,CS,d,_,.ref st,rfl,W.hx,D.cB.cl,D.kJ,rfl,Y,st,P,.ref a,V,bI.of hs,(by rw[ea,gw];exact eK _ _),?_⟩;exists Y,a,Y,.inl (bI.of ha);rw[cy,ar.len];have Dl:∀ q,H q=none->q≠st/\q≠op:=λq hq=>⟨λz=>(by rw[z,hs]at hq;cases hq),λz=>(by rw[z,W.ho]at hq;cases hq)⟩;refine⟨Y,c,rfl,⟨_,bI.of hc⟩,dm (K:=K) (a:=c) (xs:=cs.map V.ref) (λi σ H1=>∃ (u4 u5:Option V) (S1:Addr->Prop) (ai:Addr),σ=[some (.ref x),some (.ref c),some (.ref ai),some (.int (last.length:Nat)),u4,u5]/\aI H H1/\(∀ q,S q->S1 q)/\(∀ q,S1 q->S q\/H q=none)/\(∀ q,S1 q->∃ ob,H1 q=some ob)/\Ji S1 H1 st op ai (mH last (qI.take i))) ⟨none,none,S,a,rfl,aI.refl _,λ_ z=>z,λ_ z=>.inl z,W.al,r last hl⟩ (by rintro i σ H1 _ ⟨_,_,_,_,_,s,_⟩;exact bI.of (s _ _ hc)) ?_ ?_⟩
 ·rintro i y σ H1 hi ⟨u4,u5,S1,ai,rfl,s1,up,sub,al1,sa1⟩;rw[mY]at hi;obtain⟨t,et,rfl⟩:=Option.map_eq_some_iff.mp hi;obtain⟨ch,ech,q⟩:=a2.get et;have il:=(List.getElem?_eq_some_iff.mp ech).1;obtain⟨ri,ht,hri⟩:=q.same s1;obtain⟨b,vs,eb,hb,itb⟩:=id hri;cases eb;obtain⟨Sai,aa0,aeB,rsi,hai,ari⟩:=id sa1;exists t,Y,cX.of ht,rfl,P,rfl,Z;refine⟨Y,Y,Y,ri,Y,.inl (bI.of hb),λz hz=>?_⟩;have s2:aI H1 (aN H1 z (.lst vs)):=ak hz _;have z2:(aN H1 z (.lst vs)) z=some (.lst vs):=af;generalize aN H1 z (.lst vs)=H2 at s2 z2;have lens:=Ay okc i ∅;have aeC:=okc i ch ech;have lri:=ari.len;refine⟨ai,z,_,ch.1,rfl,s2 _ _ hai,by rw[cy,lri];exact aeC,by rw[cy,lri];lia,λp H3 hp3 s3 fp=>?_⟩;have s23:=s2.trans s3;have fz:H z=none:=aW s1 hz;have fp':H p=none:=aW (s1.trans s2) fp;exists P,λq=>S1 q\/q=z\/q=p,p,rfl,s1.trans s23,λq z=>.inl (up q z),λq w=>?_,λq w=>?_,.inr (.inr rfl),(Dl p fp').1,(Dl p fp').2,rsi.take ch.1++[z]++rsi.drop (ch.1+1),?_
  ·rcases w with w|rfl|rfl
   ·exact sub q w
   ·exact .inr fz
   ·exact .inr fp'
  ·rcases w with w|rfl|rfl
   ·obtain⟨ob,e⟩:=al1 q w;exact⟨ob,s23 _ _ e⟩
   ·exact⟨_,s3 _ _ z2⟩
   ·exact⟨_,hp3⟩
  ·rw[hp3];simp only[gw,List.map_take,List.map_drop,jJ,List.map_nil]
  ·rw[C0 ech];have mv:bS (aaX (λq=>S1 q\/q=z\/q=p) H3 st op) rsi (mH last (qI.take i)):=ari.mono λr aM q=>⟨.inl q.own,q.ne,q.at'.same s23⟩;refine ((mv.take ch.1).app (.cons ⟨.inr (.inl rfl),Dl z fz,⟨z,vs,rfl,s3 _ _ z2,itb.mono λv it q=>q.same s23⟩⟩ .nil)).app (mv.drop (ch.1+1))
 ·rintro σ H1 ⟨u4,u5,S1,ai,rfl,s1,up,sub,al1,sa1⟩;have lcs:(cs.map V.ref).length=qI.length:=by rw[cy,a2.len]
  rw[lcs,gO]at sa1;have lens:=Ay okc qI.length (fF _);rw[gO]at lens;obtain⟨Sai,aa0,aeB,rsi,hai,ari⟩:=id sa1;have lri:=ari.len;have W1:=W.same s1;have Xk:=s1 _ _ hs;refine⟨Y,x,CS,d,_,.ref st,rfl,W1.hx,D.cB.cl,D.kJ,rfl,.inl ⟨rfl,_,bI.of Xk⟩,Y,st,Z,Xk,(by rw[cy];exact aR ∅),?_⟩;rw[show as.map V.ref++[.ref ai]=(as++[ai]).map V.ref by rw[gw];rfl];have k2:cD st H1 (aN H1 st (.lst ((as++[ai]).map V.ref))):=aG st _ _;have st2:(aN H1 st (.lst ((as++[ai]).map V.ref))) st=some (.lst ((as++[ai]).map V.ref)):=af;generalize aN H1 st (.lst ((as++[ai]).map V.ref))=H2 at k2 st2;have nxs:x≠st:=dY W1.hx Xk;have nxo:x≠op:=dY W1.hx W1.ho;have x2:=k2 _ _ W1.hx nxs;have o2:=k2 _ _ W1.ho W.ne.symm;have ai2:=k2 _ _ hai aa0
  have lmn:(((as++[ai]).map V.ref).length:Int)-1=((bJ.length:Nat):Int):=by
   rw[cy,cY,lal];simp only[gM];lia
  exists Y,x,CS,d,_,.ref op,rfl,x2,D.cB.cl,D.mQ,rfl,Y,x,d,Y,x2,rfl,x,d,st,op,Y,x2,st2;rw[lmn];refine⟨mD,λt2 Iz=>?_⟩;have s3:aI H2 (aN H2 t2 (.lst [.int (bJ.length:Nat)])):=ak Iz _;have b3:(aN H2 t2 (.lst [.int (bJ.length:Nat)])) t2=some (.lst [.int (bJ.length:Nat)]):=af;generalize aN H2 t2 (.lst [.int (bJ.length:Nat)])=H3 at s3 b3;exists Y,ai,Y,.inl (bI.of (s3 _ _ ai2)),Y,Z;rw[cy,lri];have ek:(((mH last qI).length:Nat):Int)-((last.length:Nat):Int)=(((mH last qI).length-last.length:Nat):Int):=by lia
  show Za _ (V.int ((((mH last qI).length:Nat):Int)-((last.length:Nat):Int))) _ _;rw[ek];refine⟨t2,Z,b3,Q,Q,(by simp only[gM];exact gT (aR ∅)),λt3 Nn=>?_⟩;rw[Int.toNat_natCast,Gu];generalize hk:(mH last qI).length-last.length=kk;have s4:aI H3 (aN H3 t3 (.lst (List.replicate kk (V.int (bJ.length:Nat))))):=ak Nn _;have b4:(aN H3 t3 (.lst (List.replicate kk (V.int (bJ.length:Nat))))) t3=some (.lst (List.replicate kk (V.int (bJ.length:Nat)))):=af;generalize aN H3 t3 (.lst (List.replicate kk (V.int (bJ.length:Nat))))=H4 at s4 b4;have Yl:=s3.trans s4
  have lo:ops.length<=700:=by
   obtain⟨l',hl',ol⟩:=W.Nm.CZ;rw[hl]at hl';cases hl';lia
  refine⟨op,t3,Z,Yl _ _ o2,b4,(by rw[cy,zg];exact gT (aR ∅)),?_⟩;rw[show ops.map V.int++List.replicate kk (V.int (bJ.length:Nat))=(ops++List.replicate kk ((bJ.length:Nat):Int)).map V.int by rw[gw,List.map_replicate]];have k5:cD op H4 (aN H4 op (.lst ((ops++List.replicate kk ((bJ.length:Nat):Int)).map V.int))):=aG op _ _;have o5:(aN H4 op (.lst ((ops++List.replicate kk ((bJ.length:Nat):Int)).map V.int))) op=some (.lst ((ops++List.replicate kk ((bJ.length:Nat):Int)).map V.int)):=af;generalize aN H4 op (.lst ((ops++List.replicate kk ((bJ.length:Nat):Int)).map V.int))=H5 at k5 o5;have x5:=k5 _ _ (Yl _ _ x2) nxo;refine⟨d,_,x5,(by show 2<1000;decide),?_⟩;have e5:aN H5 x (.ins CS d (L2.eE "openings" (.ref op) ([("states",.ref st),("openings",.ref op)]:List (Str × V))))=H5:=Tf x5;rw[e5];have k15:∀ q ob,H1 q=some ob->q≠st->q≠op->H5 q=some ob:=λq ob e m1 m2=>k5 _ _ (Yl _ _ (k2 _ _ e m1)) m2;have t15:∀ q xs,H1 q=some (.tup xs)->H5 q=some (.tup xs):=λq xs e=>k15 _ _ e (dY e Xk) (dY e W1.ho);have XW:=k5 _ _ (Yl _ _ st2) W.ne;refine k S1 H5 ⟨up _ W.sx,up _ W.ss,up _ W.so,λq w=>?_,x5,⟨as++[ai],XW,?_⟩,by rw[hk];exact o5,W.ne,W.Nm.step hl lens.1⟩ sub (λq ob e n=>?_) (λq xs e=>t15 _ _ (s1 _ _ e))
  ·by_cases z1:q=st
   ·rw[z1];exact⟨_,XW⟩
   by_cases z2:q=op
   ·rw[z2];exact⟨_,o5⟩
   obtain⟨ob,e⟩:=al1 q w;exact⟨ob,k15 _ _ e z1 z2⟩
  ·refine (bS.mono (λa rows q=>?_) al).app (.cons (sa1.fr (λ_ z=>z) (λq ob e _ m1 m2=>k15 _ _ e m1 m2) t15) .nil);exact q.fr up (λq ob e _ m1 m2=>k15 _ _ (s1 _ _ e) m1 m2) (λq xs e=>t15 _ _ (s1 _ _ e))
  ·exact k15 _ _ (s1 _ _ e) (λz=>n (by rw[z];exact W.ss)) (λz=>n (by rw[z];exact W.so))
def sQ(n:Nat)(a:Int):Prop:=0<=a/\a<(n:Nat)
theorem sQ.get{n:Nat}{a:Int}(h:sQ n a):∃ j:Nat,a=j/\j<n:=by
 obtain⟨h0,h1⟩:=h;exact⟨a.toNat,Q,Q⟩
def Jk(bJ:kC)(ops:List Int):Prop:=bJ.length<=1000/\ops.length<=1000
class inductive MQ(C:Addr)
 | mk (S:Addr->Prop) (x d st op:Addr) (bJ:kC) (ops:List Int) (s:Int) (_:vs=[.ref x,.int s]) (_:Sh C S H x d st op bJ ops) (_:sQ ops.length s) (_:Q .gj H)
class inductive MR(C:Addr)
 | mk (S:Addr->Prop) (x d st op:Addr) (bJ:kC) (ops:List Int) (m:Int) (_:vs=[.ref x,.int m]) (_:Sh C S H x d st op bJ ops) (_:sQ bJ.length m) (_:Q .gj H)
def Told(H:Hp)(aM:List aP)(Q:V->Hp->Prop):Prop:=∀ (q:Addr) (H':Hp),bH H' (.ref q) aM->aI H H'->H q=none->Q (.ref q) H'
class inductive Xl(C:Addr)
 | mk (S:Addr->Prop) (x d st op:Addr) (bJ:kC) (ops:List Int) (s:Int) (_:vs=[.ref x,.int s]) (_:Sh C S H x d st op bJ ops) (_:sQ ops.length s) (_:(∀ (si:Nat) (last:List (List aP)) (aM:List aP),s=si->bJ.getLast?=some last->last[si]?=some aM->Told H aM Q))
def Tg(H H':Hp)(q:Addr)(rows:List (List aP)):Prop:=H q=none/\∃ rs:List Addr,H' q=some (.lst (rs.map V.ref))/\bS (λr aM=>H r=none/\r≠q/\bH H' (.ref r) aM) rs rows
class inductive Gv(C:Addr)
 | mk (S:Addr->Prop) (x d st op:Addr) (bJ:kC) (ops:List Int) (m:Int) (_:vs=[.ref x,.int m]) (_:Sh C S H x d st op bJ ops) (_:Jk bJ ops) (_:sQ bJ.length m) (_:(∀ (mi:Nat) (rows:List (List aP)),m=mi->bJ[mi]?=some rows->∀ (q:Addr) (H':Hp),Tg H H' q rows->aI H H'->Q (.ref q) H'))
class inductive Xm(C:Addr)
 | mk (S:Addr->Prop) (x d st op:Addr) (bJ:kC) (ops:List Int) (_:vs=[.ref x]) (_:Sh C S H x d st op bJ ops) (_:Jk bJ ops) (_:(∀ (rows:List (List aP)),bJ.getLast?=some rows->∀ (q:Addr) (H':Hp),Tg H H' q rows->aI H H'->Q (.ref q) H'))
theorem sY:aH ["self","sheet"] ["self","sheet"] (aA ju):=eU
theorem rR:aH ["self","moment"] ["self","moment"] (aA iN):=eU
theorem Gw:aH ["self","sheet"] ["self","sheet"] (aA uz):=eU
theorem v7:aH ["self","moment"] ["self","moment"] (aA iC):=eU
theorem Ea:aH ["self"] ["self"] (aA rE):=eU
theorem cu:‹(2,41,["self","sheet"],(MQ CS))›:=λD=>by
 specialize eV D.Af.F sY;obtain⟨S,x,d,st,op,bJ,ops,a,rfl,W,iw,k1⟩:=h;exists _,(au (bN (gW (vg gr j8 ay (pv 1) (ff (pv 0) D.cB D.WG (tX D) hr bO))) (au iW) bg));exists Y,Z,Y;rw[decide_eq_true iw.1];refine cN (λ_=>?_) (λc=>absurd rfl c);exists Y,x,d,Y,W.hx,rfl,S,x,d,st,op,bJ,ops,rfl,W,Z,Y;rw[decide_eq_true iw.2];exact eO k1
theorem j9:‹(2,42,["self","moment"],(MR CS))›:=λD=>by
 specialize eV D.WH.F rR;obtain⟨S,x,d,st,op,bJ,ops,a,rfl,W,iw,k1⟩:=h;obtain⟨as,hs,al⟩:=W.hs;exists _,(au (bN (gW (vg gr gr ay (pv 1) (ff (pv 0) D.cB D.Pb (mG D) hr bO))) (au iW) bg));exists Y,Z,Y;rw[decide_eq_true iw.1];refine cN (λ_=>?_) (λc=>absurd rfl c);exists Y,x,d,Y,W.hx,rfl,x,d,st,op,Y,W.hx,hs,Z,Y;rw[decide_eq_true (show a<=((as.map V.ref).length:Int)-1 by rw[cy,al.len];exact Int.le_sub_one_of_lt iw.2)];exact eO k1
theorem Sh.at'{S:Addr->Prop}{H:Hp}{x d st:Addr}{bJ:kC}{ops:List Int}(h:Sh C S H x d st op bJ ops){as:List Addr}(ha:H st=some (.lst (as.map V.ref))){i:Nat}{rows:List (List aP)}(e:bJ[i]?=some rows):∃ a,as[i]?=some a/\Ji S H st op a rows:=by
 obtain⟨bs,hb,a2⟩:=h.hs
 have e':as=bs:=by
  rw[ha]at hb;exact Aw (HO.lst.inj (qW hb))
 subst e';exact a2.get' e
theorem Sh.US{S:Addr->Prop}{H:Hp}{x d st:Addr}{bJ:kC}{ops:List Int}(h:Sh C S H x d st op bJ ops):∃ last,bJ.getLast?=some last/\bJ[bJ.length-1]?=some last/\ops.length=last.length:=by
 obtain⟨last,hl,ol⟩:=h.Nm.CZ;refine⟨last,hl,?_,ol⟩;rw[List.getLast?_eq_getElem?]at hl;exact hl
theorem Eb:‹(3,45,["self","sheet"],(Xl CS))›:=λD=>by
 specialize eV D.ZY.F Gw;obtain⟨S,x,d,st,op,bJ,ops,a,rfl,W,ia,k1⟩:=h;exists _,(aj (aU (cQ (pv 0) D.cB D.Af (cu D) hr bO (aa (pv 1) ah))) (au (aJ (eS fY rfl D.T.jw uc (aa (aO bu (aO bu (cM (pv 0) rfl) (fQ dR ay)) (pv 1)) ah)))));exists Y,x,d,Y,W.hx,rfl,Y,S,x,d,st,op,bJ,ops,a,rfl,W,ia;obtain⟨j,rfl,jl⟩:=ia.get;obtain⟨as,hs,al⟩:=id W.hs;obtain⟨ON,b,ea,r⟩:=W.last hs;obtain⟨last,hl,_,ol⟩:=W.US;obtain⟨_,_,_,rs,hb,ar⟩:=r last hl;have el:last[j]?=some last[j]:=pS ∅;obtain⟨ri,eri,jf⟩:=ar.get' el;obtain⟨c,vs,ec,hc,it⟩:=jf.at';cases ec;refine⟨Y,x,CS,d,_,.ref st,rfl,W.hx,D.cB.cl,D.kJ,rfl,Y,st,P,.ref b,V,bI.of hs,(by rw[ea,gw];exact eK _ _),Y,b,P,.ref ri,V,bI.of hb,cO (by rw[mY,eri];rfl),ri,Y,.inl (bI.of hc),λq hq=>?_⟩;exact k1 j last _ rfl hl el q _ ⟨q,vs,rfl,af,it.mono λv i z=>z.same (ak hq _)⟩ (ak hq _) hq
theorem nL:‹(3,43,["self","moment"],(Gv CS))›:=λD=>by
 specialize eV D.WI.F v7;obtain⟨S,x,d,st,op,bJ,ops,m,rfl,W,ok,im,k1⟩:=h;obtain⟨as,hs,al⟩:=id W.hs;refine⟨_,(aj (aU (cQ (pv 0) D.cB D.WH (j9 D) hr bO (aa (pv 1) ah))) (au (aJ (gH (N:=["items"]) (om (sc:=aA iC) (NX:=["self","moment"]) (jx:=[none]) rfl rfl rfl nofun nofun rfl nofun rfl nofun) rfl (cF (aO bu (cM (pv 0) rfl) (pv 1))) (λ_ _ _ _ _ _=>(ck (i:=0) (show List.Nodup (["items"]:List Str) by decide +kernel))) (λ_ _ _ _ _ _=>ji) (λ_ _ _ _ _ _=>(eS IC rfl D.T.jw uc (aa (pv 0) ah))))))),?_⟩;exists Y,x,d,Y,W.hx,rfl,Y,S,x,d,st,op,bJ,ops,m,rfl,W,im;obtain⟨i,rfl,il⟩:=im.get;have er:bJ[i]?=some bJ[i]:=pS il;generalize bJ[i]=rows at er;obtain⟨b,eb,_,_,_,rs,hb,ar⟩:=W.at' hs er;have lr:=ar.len;have lo:=W.Nm.less i rows er;have ok2:=ok.2;refine⟨Y,x,CS,d,_,.ref st,rfl,W.hx,D.cB.cl,D.kJ,rfl,Y,st,P,.ref b,V,bI.of hs,cO (by rw[mY,eb];rfl),?_⟩;refine⟨b,rfl,⟨_,bI.of hb⟩,λacc cR=>gF (K:=K) (a:=b) (xs:=rs.map V.ref) (λj σ H1=>∃ (u:Option V) (qs:List Addr),σ=[u]/\H1 acc=some (.lst (qs.map V.ref))/\aI H H1/\bS (λr aM=>H r=none/\r≠acc/\bH H1 (.ref r) aM) qs (rows.take j)) ⟨none,[],rfl,af,ak cR _,by rw[List.take_zero];exact .nil⟩ (λj σ H1 _ ⟨K,_,s,_⟩=>bI.of (s _ _ hb)) ?_ ?_⟩
 ·rintro j y σ H1 hj ⟨u,qs,rfl,ha,s1,aq⟩;rw[mY]at hj;obtain⟨ri,eri,rfl⟩:=Option.map_eq_some_iff.mp hj;obtain⟨aM,aeG,jf⟩:=ar.get eri;obtain⟨c,vs,ec,hc,it⟩:=jf.at';cases ec;refine⟨Y,ri,Y,.inl (bI.of (s1 _ _ hc)),λz hz=>⟨_,ak hz _ _ _ ha,?_,_,qs++[z],rfl,?_,?_,?_⟩⟩
  ·have:=aq.len;rw[gx]at this;rw[cy];exact aR ∅
  ·rw[af,gw];rfl
  ·intro q ob e;rw[aK (az e cR)];exact ak hz _ _ _ (s1 _ _ e)
  ·have nza:z≠acc:=(az ha hz).symm
   have fr:∀ q ob,H1 q=some ob->q≠acc->(aN (aN H1 z (.lst vs)) acc (.lst (qs.map V.ref++[.ref z]))) q=some ob:=λq ob e n=>by
    rw[aK n];exact ak hz _ _ _ e
   have tu:∀ q xs,H1 q=some (.tup xs)->(aN (aN H1 z (.lst vs)) acc (.lst (qs.map V.ref++[.ref z]))) q=some (.tup xs):=λq xs e=>fr _ _ e (dY e ha (by intro w;cases w));rw[take_snoc aeG];refine bS.snoc (aq.mono λr aM ⟨h1,h2,h3⟩=>⟨h1,h2,h3.fr (λxs e=>fr _ _ e h2) tu⟩) ⟨aW s1 hz,nza,z,vs,rfl,?_,it.mono λv i ⟨q,e,hq⟩=>⟨q,e,tu _ _ (s1 _ _ hq)⟩⟩;rw[aK nza];exact af
 ·rintro σ H1 ⟨u,qs,rfl,ha,s1,aq⟩;rw[cy,lr,gO]at aq;exact k1 i rows rfl er acc H1 ⟨cR,qs,ha,aq⟩ s1
theorem dZ:‹(4,44,["self"],(Xm CS))›:=λD=>by
 specialize eV D.Ag.F Ea;obtain⟨S,x,d,st,op,bJ,ops,rfl,W,ok,k⟩:=h;obtain⟨as,hs,al⟩:=id W.hs;obtain⟨last,hl,B4,_⟩:=W.US;have lp:bJ.length-1<bJ.length:=(List.getElem?_eq_some_iff.mp B4).1;have ok1:=ok.1;have la:(((as.map V.ref).length:Nat):Int)-1=((bJ.length-1:Nat):Int):=by rw[cy,al.len];lia
 exists _,(au (aJ (cQ (pv 0) D.cB D.WI (nL D) hr bO (aa (ff (pv 0) D.cB D.Pb (mG D) hr bO) ah))));exists Y,x,d,Y,W.hx,rfl,Y,x,d,Y,W.hx,rfl,x,d,st,op,Y,W.hx,hs;rw[la];refine⟨S,x,d,st,op,bJ,ops,Y,W,ok,⟨Q,Q⟩,λmi rows em er q H1 fs s1=>?_⟩;have:mi=bJ.length-1:=by lia
 subst this;rw[B4]at er;cases er;exact k last hl q H1 fs s1
class inductive KY(C:Addr)
 | mk (x d:Addr) (_:vs=[.ref x]) (_:H x=some (.ins C d [])) (_: ∀ (fs:List (Str × V)) (H':Hp),H' x=some (.ins C d fs)->cD x H H'->Q .gj H')
theorem yE:aH ["self"] ["self"] (aA m8):=eU
theorem yF:aH ["self"] ["self"] (aA m9):=eU
theorem Gx{x z:Addr}{H:Hp}{o o':HO}(hz:H z=none):cD x H (aN (aN H z o) x o'):=λa ob e n=>by
 rw[aK n];exact ak hz o a ob e
theorem xD:‹(1,47,["self"],(KY CD))›:=λD=>by
 specialize eV D.Z0.F yF;obtain⟨x,d,rfl,hx,k⟩:=h;exists _,(au (jq (pv 0) nC rfl));intro z hz;exact⟨Y,x,CD,d,Y,ak hz _ _ _ hx,D.F0.cl,D.Kq,E,k _ _ af (Gx hz)⟩
theorem xE:‹(1,46,["self"],(KY CT))›:=λD=>by
 specialize eV D.ZZ.F yE;obtain⟨x,d,rfl,hx,k⟩:=h;exists _,(aj (jq (pv 0) ay rfl) (au (jq (pv 0) nC rfl)));exists Y,x,CT,d,Y,hx,D.CH.cl,D.DA,E;have k1:cD x H (aN H x (.ins CT d (L2.eE "given" (.int 0) []))):=aG x _ _;have h1:(aN H x (.ins CT d (L2.eE "given" (.int 0) []))) x=some (.ins CT d (L2.eE "given" (.int 0) [])):=af;generalize aN H x (.ins CT d (L2.eE "given" (.int 0) []))=H1 at k1 h1;intro z hz;exact⟨Y,x,CT,d,Y,ak hz _ _ _ h1,D.CH.cl,D.DB,(by show 1<1000;decide),k _ _ af (k1.trans (Gx hz))⟩
def Q2(aL:iL):List V:=aL.map λp=>CC p.2
def Ke(aL:iL):List V:=aL.map λp=>V.int p.1
def qC(h:Int)(cs:List Nat):iL:=cs.map λc=>(h,c)
theorem sR(h:Int)(cs:List Nat):(qC h cs).length=cs.length:=cy ..
theorem Th(aL:iL)(h:Int)(cs:List Nat):Q2 (aL++qC h cs)=Q2 aL++cs.map CC:=by
 unfold Q2 qC;rw[gw,List.map_map];rfl
theorem Ec(v:V):∀ n:Nat,(List.replicate n [v]).flatten=List.replicate n v
 | 0=>rfl
 | n+1=>by rw[List.replicate_succ,List.flatten_cons,Ec v n,List.replicate_succ];rfl
theorem Ti(aL:iL)(h:Int)(cs:List Nat):Ke (aL++qC h cs)=Ke aL++(List.replicate cs.length [V.int h]).flatten:=by
 rw[Ec];unfold Ke qC;rw[gw,List.map_map];congr 1;exact List.map_eq_replicate_iff.mpr λc _=>rfl
def uV(h:Int):Nat->iL->List Int
 | _,[]=>[]
 | i,p::r=>if p.1=h then (i:Int)::uV h (i+1) r else uV h (i+1) r
theorem nM(h:Int):∀ (a b:iL) (i:Nat),uV h i (a++b)=uV h i a++uV h (i+a.length) b
 | [],b,i=>rfl
 | p::a,b,i=>by
  rw[List.cons_append,uV,uV,eY,nM h a b (i+1),show i+1+a.length=i+(a.length+1) by lia]
  split <;> rfl
theorem xF(h:Int):∀ (cs:List Nat) (i:Nat),uV h i (qC h cs)=run (i:Int) cs.length
 | [],i=>rfl
 | c::cs,i=>by
  show uV h i ((h,c)::qC h cs)=_;rw[uV,if_pos rfl,xF h cs (i+1),eY,run,show ((i+1:Nat):Int)=(i:Int)+1 by lia]
theorem nO{h g:Int}(n:g≠h):∀ (cs:List Nat) (i:Nat),uV h i (qC g cs)=[]
 | [],i=>rfl
 | c::cs,i=>by
  show uV h i ((g,c)::qC g cs)=_;rw[uV,if_neg n,nO n cs (i+1)]
theorem Az(a b:Int)(k:Nat)(e:b=a+k):bK [(a,b)]=run a k:=by
 show fT (a,b)++[]=_;rw[gP];show run a (b-a).toNat=_;rw[show (b-a).toNat=k by lia]
structure Pw(S:Addr->Prop)(H:Hp)(s o:Addr)(n:Nat)(kvs:List (fk × V))(aL:iL):Prop where
 got:∀ h v,cJ kvs (Sum.inl h)=some v->∃ (l:Addr) (row:Row),v=.ref l/\S l/\l≠s/\l≠o/\cA H l row/\(∀ p∈row,p.1<=p.2)/\bK row=uV h 0 aL/\row.length<=n
 gj:∀ h,cJ kvs (Sum.inl h)=none->uV h 0 aL=[]
 one:∀ h g v,cJ kvs (Sum.inl h)=some v->cJ kvs (Sum.inl g)=some v->h=g
 len:kvs.length<=n
structure We(C:Addr)(S:Addr->Prop)(H:Hp)(x d s o p:Addr)(n:Nat)(aL:iL):Prop where
 sx:S x
 ss:S s
 so:S o
 sp:S p
 al:∀ a,S a->∃ ob,H a=some ob
 hx:H x=some (.ins C d [("signs",.ref s),("owners",.ref o),("pourings",.ref p)])
 hs:H s=some (.lst (Q2 aL))
 ho:H o=some (.lst (Ke aL))
 ne:s≠o
 dk:∃ kvs,H p=some (.dK kvs)/\Pw S H s o n kvs aL
theorem cA.two{H H':Hp}{r:Addr}{row:Row}(h:cA H r row)(k:∀ xs,H r=some (.lst xs)->H' r=some (.lst xs))(t:∀ a xs,H a=some (.tup xs)->H' a=some (.tup xs)):cA H' r row:=by
 obtain⟨as,h1,h2⟩:=h;exact⟨as,k _ h1,h2.tups t⟩
theorem We.fr{S:Addr->Prop}{H H':Hp}{x d s p:Addr}{n:Nat}{aL:iL}(h:We C S H x d s o p n aL)(k:∀ a ob,H a=some ob->S a->H' a=some ob)(t:∀ a xs,H a=some (.tup xs)->H' a=some (.tup xs)):We C S H' x d s o p n aL:=by
 obtain⟨sx,ss,so,sp,al,hx,hs,ho,ne,kvs,hp,pw⟩:=h;refine⟨sx,ss,so,sp,λa z=>?_,k _ _ hx sx,k _ _ hs ss,k _ _ ho so,ne,kvs,k _ _ hp sp,λh v e=>?_,pw.gj,pw.one,pw.len⟩
 ·obtain⟨ob,e⟩:=al a z;exact⟨ob,k _ _ e z⟩
 ·obtain⟨l,row,e1,e2,e3,e4,e5,r⟩:=pw.got h v e;exact⟨l,row,e1,e2,e3,e4,e5.two (λxs q=>k _ _ q e2) t,r⟩
theorem We.same{S:Addr->Prop}{H H':Hp}{x d s p:Addr}{n:Nat}{aL:iL}(h:We C S H x d s o p n aL)(k:aI H H'):We C S H' x d s o p n aL:=h.fr (λa ob e _=>k a ob e) (λa xs e=>k _ _ e)
theorem KZ(aL:iL):(Q2 aL).length=aL.length:=cy ..
theorem Tj(aL:iL):(Ke aL).length=aL.length:=cy ..
theorem P4{H:Hp}{a:Addr}{ob:HO}(h:H a=some ob):aN H a ob=H:=by
 funext b;by_cases e:b=a
 ·rw[e,af,h]
 ·rw[aK e]
class inductive Tn(C:Addr)
 | mk (x d:Addr) (_:vs=[.ref x]) (_:H x=some (.ins C d [])) (_: ∀ (s o p:Addr) (H':Hp),We C (λa=>a=x\/a=s\/a=o\/a=p) H' x d s o p 0 []->cD x H H'->H s=none->H o=none->H p=none->Q .gj H')
class inductive To(C:Addr)
 | mk (x d s o p:Addr) (aL:iL) (_:vs=[.ref x]) (_:H x=some (.ins C d [("signs",.ref s),("owners",.ref o),("pourings",.ref p)])) (_:H s=some (.lst (Q2 aL))) (_:Q (.int (aL.length:Nat)) H)
class inductive Xn(C:Addr)
 | mk (S:Addr->Prop) (x d s o p:Addr) (n:Nat) (aL:iL) (h:Int) (cs:List Nat) (_:vs=[.ref x,.int h,.str (fO cs)]) (_:We C S H x d s o p n aL) (_:aL.length+cs.length<=100000) (_:n<=1000) (_ :
 ∀ (S':Addr->Prop) (q:Addr) (H':Hp),We C S' H' x d s o p (n+1) (aL++qC h cs)->H' q=some (.tup [.int (aL.length:Nat),.int ((aL++qC h cs).length:Nat)])->(∀ a,S' a->S a\/H a=none)->(∀ a ob,H a=some ob->¬ S a->H' a=some ob)->(∀ a xs,H a=some (.tup xs)->H' a=some (.tup xs))->Q (.ref q) H')
theorem yG:aH ["self"] ["self"] (aA ng):=eU
theorem Gy:aH ["self"] ["self"] (aA uA):=eU
theorem rS:aH ["self","hand","text","start","stretch"] ["self","hand","text"] (aA uB):=eU
theorem xG:‹(1,48,["self"],(Tn CW))›:=λD=>by
 specialize eV D.Z1.F yG;obtain⟨x,d,rfl,hx,k⟩:=h;exists _,(aj (jq (pv 0) (bL ah) rfl) (aj (jq (pv 0) (bL ah) rfl) (au (jq (pv 0) nC rfl))));refine⟨gU,λs hs=>?_⟩;have a1:aI H (aN H s (.lst [])):=ak hs _;have b1:(aN H s (.lst [])) s=some (.lst []):=af;generalize aN H s (.lst [])=H1 at a1 b1;exists Y,x,CW,d,Y,a1 _ _ hx,D.lC.cl,D.wQ,E;have k2:cD x H1 (aN H1 x (.ins CW d (L2.eE "signs" (.ref s) []))):=aG x _ _;have h2:(aN H1 x (.ins CW d (L2.eE "signs" (.ref s) []))) x=some (.ins CW d [("signs",.ref s)]):=af;generalize aN H1 x (.ins CW d (L2.eE "signs" (.ref s) []))=H2 at k2 h2;have Xh:s≠x:=(az hx hs).symm;have b2:=k2 _ _ b1 Xh;refine⟨gU,λo ho=>?_⟩;have a3:aI H2 (aN H2 o (.lst [])):=ak ho _;have c3:(aN H2 o (.lst [])) o=some (.lst []):=af;generalize aN H2 o (.lst [])=H3 at a3 c3;refine⟨Y,x,CW,d,Y,a3 _ _ h2,D.lC.cl,D.vt,(by show 1<1000;decide),?_⟩;have k4:cD x H3 (aN H3 x (.ins CW d (L2.eE "owners" (.ref o) [("signs",.ref s)]))):=aG x _ _;have h4:(aN H3 x (.ins CW d (L2.eE "owners" (.ref o) [("signs",.ref s)]))) x=some (.ins CW d [("signs",.ref s),("owners",.ref o)]):=af;generalize aN H3 x (.ins CW d (L2.eE "owners" (.ref o) [("signs",.ref s)]))=H4 at k4 h4;have Lp:o≠x:=(az h2 ho).symm;have c4:=k4 _ _ c3 Lp;have b4:=k4 _ _ (a3 _ _ b2) Xh;intro p hp;have npx:p≠x:=(az h4 hp).symm;refine⟨Y,x,CW,d,Y,ak hp _ _ _ h4,D.lC.cl,D.pF,(by show 2<1000;decide),?_⟩
 have k5:cD x H (aN (aN H4 p (.dK [])) x (.ins CW d (L2.eE "pourings" (.ref p) [("signs",.ref s),("owners",.ref o)]))):=λa ob e n=>by
  rw[aK n];exact ak hp _ _ _ (k4 _ _ (a3 _ _ (k2 _ _ (a1 _ _ e) n)) n)
 refine k s o p _ ⟨.inl rfl,.inr (.inl rfl),.inr (.inr (.inl rfl)),.inr (.inr (.inr rfl)),λa z=>?_,af,?_,?_,az b2 ho,[],?_,?_⟩ k5 hs ?_ ?_
 ·rcases z with rfl|rfl|rfl|rfl
  ·exact⟨_,af⟩
  ·exact⟨_,by rw[aK Xh];exact ak hp _ _ _ b4⟩
  ·exact⟨_,by rw[aK Lp];exact ak hp _ _ _ c4⟩
  ·exact⟨_,by rw[aK npx];exact af⟩
 ·rw[aK Xh];exact ak hp _ _ _ b4
 ·rw[aK Lp];exact ak hp _ _ _ c4
 ·rw[aK npx];exact af
 ·exact⟨λh v e=>(by cases e),λh e=>rfl,λh g v e=>(by cases e),fF _⟩
 ·exact aW a1 (iD k2 Lp ho)
 ·exact aW a1 (iD k2 npx (aW a3 (iD k4 npx hp)))
theorem mJ:‹(1,49,["self"],(To CW))›:=λD=>by
 specialize eV D.Pc.F Gy;obtain⟨x,d,s,o,p,aL,rfl,hx,hs,k⟩:=h;exists _,(au (aJ (eX D.T.eN (cM (pv 0) rfl))));exists Y,x,CW,d,_,.ref s,rfl,hx,D.lC.cl,D.wQ,rfl,s,Y,.inl (bI.of hs);rw[KZ];exact k
theorem Ed:‹(2,50,["self","hand","text"],(Xn CW))›:=λD=>by
 specialize eV D.Z2.F rS;obtain⟨S,x,d,s,o,p,n,aL,h,cs,rfl,W,len,nn,k⟩:=h;have hu:=gG hr;exists _,(aj (aV (i:=3) rS.nd (ff (pv 0) D.lC D.Pc (mJ D) hr bO)) (aj (wJ (pv 0) (eS (Bg rfl) rfl D.T.jw uc (aa (pv 2) ah)) ID) (aj (wJ (pv 0) (bz N9 (bL (aa (pv 1) ah)) (cz vp rfl D.T.eN PySem.boot_len (aa (pv 2) ah))) ID) (aj (aV (i:=4) rS.nd (cH (aa (pv 3) (aa (ff (pv 0) D.lC D.Pc (mJ D) hr bO) ah)))) (aj (aU (dJ pQ jE jF bQ (O0 (cM (pv 0) rfl) (pv 1) (bL ah) ⟨V,V⟩) (aa (pv 4) ah))) (au (aJ (pv 4))))))));exists Y,x,d,Y,W.hx,rfl,x,d,s,o,p,aL,rfl,W.hx,W.hs;obtain⟨sx,ss,so,sp,al,hx,hs,ho,ne,kvs,hp,pw⟩:=id W;have nxs:x≠s:=dY hx hs;have nxo:x≠o:=dY hx ho;have nxp:x≠p:=dY hx hp;have nps:p≠s:=dY hp hs;have npo:p≠o:=dY hp ho;refine⟨Y,x,CW,d,_,.ref s,rfl,hx,D.lC.cl,D.wQ,rfl,Y,cs,rfl,gT (aR ∅),λt ht=>?_⟩;have a1:aI H (aN H t (.lst (cs.map CC))):=ak ht _;have b1:(aN H t (.lst (cs.map CC))) t=some (.lst (cs.map CC)):=af;generalize aN H t (.lst (cs.map CC))=H1 at a1 b1;refine⟨s,t,Z,a1 _ _ hs,b1,(by rw[KZ,cy];exact gT (aR ∅)),?_⟩;rw[← Th aL h cs];have k2:cD s H1 (aN H1 s (.lst (Q2 (aL++qC h cs)))):=aG s _ _;have s2:(aN H1 s (.lst (Q2 (aL++qC h cs)))) s=some (.lst (Q2 (aL++qC h cs))):=af;generalize aN H1 s (.lst (Q2 (aL++qC h cs)))=H2 at k2 s2;have k02:cD s H H2:=λa ob e m=>k2 _ _ (a1 _ _ e) m;have x2:=k02 _ _ hx nxs;refine⟨d,_,x2,(by show 3<1000;decide),?_⟩;have e3:aN H2 x (.ins CW d (L2.eE "signs" (.ref s) ([("signs",.ref s),("owners",.ref o),("pourings",.ref p)]:List (Str × V))))=H2:=P4 x2;rw[e3];refine⟨Y,x,CW,d,_,.ref o,rfl,x2,D.lC.cl,D.vt,rfl,Y,mD,λt2 Iz=>?_⟩;have a3:aI H2 (aN H2 t2 (.lst [.int h])):=ak Iz _;have b3:(aN H2 t2 (.lst [.int h])) t2=some (.lst [.int h]):=af;generalize aN H2 t2 (.lst [.int h])=H3 at a3 b3;refine⟨Y,fO cs,rfl,(by rw[qx];exact gT (aR ∅)),?_⟩;rw[qx];refine⟨t2,Z,b3,Q,Q,(by simp only[gM];exact gT (aR ∅)),λt3 Nn=>?_⟩;rw[Int.toNat_natCast];have a4:aI H3 (aN H3 t3 (.lst (List.replicate cs.length [V.int h]).flatten)):=ak Nn _;have b4:(aN H3 t3 (.lst (List.replicate cs.length [V.int h]).flatten)) t3=some (.lst (List.replicate cs.length [V.int h]).flatten):=af;generalize aN H3 t3 (.lst (List.replicate cs.length [V.int h]).flatten)=H4 at a4 b4;have Ym:cD s H H4:=λa ob e m=>a4 _ _ (a3 _ _ (k02 _ _ e m));refine⟨o,t3,Z,Ym _ _ ho ne.symm,b4,(by rw[Tj,Ec,zg];exact gT (aR ∅)),?_⟩;rw[← Ti aL h cs];have k5:cD o H4 (aN H4 o (.lst (Ke (aL++qC h cs)))):=aG o _ _;have o5:(aN H4 o (.lst (Ke (aL++qC h cs)))) o=some (.lst (Ke (aL++qC h cs))):=af;generalize aN H4 o (.lst (Ke (aL++qC h cs)))=H5 at k5 o5;have k05:∀ a ob,H a=some ob->a≠s->a≠o->H5 a=some ob:=λa ob e m m2=>k5 _ _ (Ym _ _ e m) m2;have x5:=k05 _ _ hx nxs nxo;have s5:=k5 _ _ (a4 _ _ (a3 _ _ s2)) ne;refine⟨d,_,x5,(by show 3<1000;decide),?_⟩;have e5:aN H5 x (.ins CW d (L2.eE "owners" (.ref o) ([("signs",.ref s),("owners",.ref o),("pourings",.ref p)]:List (Str × V))))=H5:=P4 x5;rw[e5]
 have QV:∀ q,H5 q=none->H q=none:=λq hq=>by
  cases e:H q with
  | none=>rfl
  | some ob =>
   by_cases z1:q=s
   ·rw[z1,s5]at hq;cases hq
   by_cases z2:q=o
   ·rw[z2,o5]at hq;cases hq
   rw[k05 _ _ e z1 z2]at hq;cases hq
 exists Y,Y,x,d,Y,x5,rfl,x,d,s,o,p,Y,x5,s5;refine⟨lu,λq hq=>?_⟩;have a6:aI H5 (aN H5 q (.tup [.int (aL.length:Nat),.int ((aL++qC h cs).length:Nat)])):=ak hq _;have b6:(aN H5 q (.tup [.int (aL.length:Nat),.int ((aL++qC h cs).length:Nat)])) q=some (.tup [.int (aL.length:Nat),.int ((aL++qC h cs).length:Nat)]):=af;generalize aN H5 q (.tup [.int (aL.length:Nat),.int ((aL++qC h cs).length:Nat)])=H6 at a6 b6;have p6:=a6 _ _ (k05 _ _ hp nps npo);have Io:∀ q,H6 q=none->H q=none:=λq hq=>QV q (aW a6 hq);refine⟨Y,x,CW,d,_,.ref p,rfl,a6 _ _ x5,D.lC.cl,D.pF,rfl,p,rfl,.inl ⟨_,.inl p6⟩,Y,gU,λz hz=>?_⟩;have a7:aI H6 (aN H6 z (.lst [])):=ak hz _;have b7:(aN H6 z (.lst [])) z=some (.lst []):=af;generalize aN H6 z (.lst [])=H7 at a7 b7;have lp:=pw.len;refine⟨kvs,Sum.inl h,a7 _ _ p6,rfl,aR ∅,λv hv=>?_,λhv=>?_⟩
 ·obtain⟨l,row,rfl,Sl,ls,lo,⟨as,hl,pa⟩,ok,sp1,rl⟩:=pw.got h v hv;have k07:∀ a ob,H a=some ob->a≠s->a≠o->H7 a=some ob:=λa ob e m m2=>a7 _ _ (a6 _ _ (k05 _ _ e m m2));have l7:=k07 _ _ hl ls lo;have nxl:x≠l:=dY hx hl;have npl:p≠l:=dY hp hl;have la:=pa.len;refine⟨.inl ⟨rfl,_,bI.of l7⟩,Y,l,Z,l7,(by rw[cy];exact aR ∅),?_⟩;have k8:cD l H7 (aN H7 l (.lst (as.map V.ref++[.ref q]))):=aG l _ _;have l8:(aN H7 l (.lst (as.map V.ref++[.ref q]))) l=some (.lst (as.map V.ref++[.ref q])):=af;generalize aN H7 l (.lst (as.map V.ref++[.ref q]))=H8 at k8 l8;have t07:∀ a xs,H a=some (.tup xs)->H7 a=some (.tup xs):=λa xs e=>k07 _ _ e (dY e hs) (dY e ho);have Xo:∀ a xs,H7 a=some (.tup xs)->H8 a=some (.tup xs):=λa xs e=>k8 _ _ e (dY e l7);have s8:=k8 _ _ (a7 _ _ (a6 _ _ s5)) ls.symm;have o8:=k8 _ _ (a7 _ _ (a6 _ _ o5)) lo.symm;refine⟨Y,k S q H8 ⟨sx,ss,so,sp,λa z=>?_,k8 _ _ (a7 _ _ (a6 _ _ x5)) nxl,s8,o8,ne,kvs,k8 _ _ (a7 _ _ p6) npl,λg v e=>?_,λg e=>?_,pw.one,Q⟩ (Xo _ _ (a7 _ _ b6)) (λa z=>.inl z) (λa ob e m=>?_) (λa xs e=>Xo _ _ (t07 _ _ e))⟩
  ·by_cases z1:a=s
   ·rw[z1];exact⟨_,s8⟩
   by_cases z2:a=o
   ·rw[z2];exact⟨_,o8⟩
   by_cases z3:a=l
   ·rw[z3];exact⟨_,l8⟩
   obtain⟨ob,e⟩:=al a z;exact⟨ob,k8 _ _ (k07 _ _ e z1 z2) z3⟩
  ·by_cases c:g=h
   ·subst c;rw[hv]at e;cases e;exists l,row++([(((aL.length:Nat):Int),(((aL++qC g cs).length:Nat):Int))]:Row),rfl,Sl,ls,lo,⟨as++[q],by rw[gw];exact l8,?_⟩,?_,?_
    ·exact bw.append (pa.tups λa xs e=>Xo _ _ (t07 _ _ e)) (.cons (b:=(((aL.length:Nat):Int),(((aL++qC g cs).length:Nat):Int))) (Xo _ _ (a7 _ _ b6)) .nil)
    ·intro r hr;rcases List.mem_append.mp hr with z|z
     ·exact ok r z
     ·rw[List.mem_singleton.mp z];show ((aL.length:Nat):Int)<=((aL++qC g cs).length:Nat);rw[cY];lia
    ·rw[cW,sp1,nM,xF,Nat.zero_add];congr 1;refine Az _ _ _ ?_;rw[cY,sR];lia
    ·rw[cY];simp only[gM];lia
   ·obtain⟨l',FQ,e1,e2,e3,e4,e5,e6,e7,e8⟩:=pw.got g v e;subst e1;have nl:l'≠l:=λz=>c (pw.one g h _ e (by rw[z];exact hv));refine⟨l',FQ,rfl,e2,e3,e4,e5.two (λxs q=>k8 _ _ (k07 _ _ q e3 e4) nl) (λa xs e=>Xo _ _ (t07 _ _ e)),e6,?_,Q⟩;rw[e7,nM,nO (λz=>c z.symm),gP]
  ·have c:g≠h:=λz=>by rw[z,hv]at e;cases e
   rw[nM,pw.gj g e,nO (λz=>c z.symm),gP]
  ·have z1:a≠s:=λz=>m (by rw[z];exact ss);have z2:a≠o:=λz=>m (by rw[z];exact so);have z3:a≠l:=λz=>m (by rw[z];exact Sl);exact k8 _ _ (k07 _ _ e z1 z2) z3
 ·have fz:H z=none:=Io z hz;have p7:=a7 _ _ p6;have k8:cD p H7 (aN H7 p (.dK (eT kvs (Sum.inl h) (.ref z)))):=aG p _ _;have p8:(aN H7 p (.dK (eT kvs (Sum.inl h) (.ref z)))) p=some (.dK (eT kvs (Sum.inl h) (.ref z))):=af;generalize aN H7 p (.dK (eT kvs (Sum.inl h) (.ref z)))=H8 at k8 p8;have z8:=k8 _ _ b7 (dY b7 p7);refine⟨.inl ⟨rfl,_,bI.of z8⟩,Y,z,Z,z8,(by show 0<sizeLine;decide),?_⟩;have k9:cD z H8 (aN H8 z (.lst ([]++[.ref q]))):=aG z _ _;have z9:(aN H8 z (.lst ([]++[.ref q]))) z=some (.lst ([]++[.ref q])):=af;generalize aN H8 z (.lst ([]++[.ref q]))=H9 at k9 z9;have k69:∀ a ob,H6 a=some ob->a≠p->H9 a=some ob:=λa ob e m=>k9 _ _ (k8 _ _ (a7 _ _ e) m) (az e hz);have k09:∀ a ob,H a=some ob->a≠s->a≠o->a≠p->H9 a=some ob:=λa ob e m m2 m3=>k69 _ _ (a6 _ _ (k05 _ _ e m m2)) m3;have t69:∀ a xs,H6 a=some (.tup xs)->H9 a=some (.tup xs):=λa xs e=>k69 _ _ e (dY e p6);have t09:∀ a xs,H a=some (.tup xs)->H9 a=some (.tup xs):=λa xs e=>k09 _ _ e (dY e hs) (dY e ho) (dY e hp);have s9:=k69 _ _ (a6 _ _ s5) nps.symm;have o9:=k69 _ _ (a6 _ _ o5) npo.symm;have p9:=k9 _ _ p8 (dY p7 b7)
  have nz:∀ a,S a->a≠z:=λa sa=>by
   obtain⟨ob,e⟩:=al a sa;exact az e fz
  refine⟨Y,k (λa=>S a\/a=z) q H9 ⟨.inl sx,.inl ss,.inl so,.inl sp,λa w=>?_,k69 _ _ (a6 _ _ x5) nxp,s9,o9,ne,_,p9,λg v e=>?_,λg e=>?_,λg g' v e e'=>?_,(by have:=ie kvs (Sum.inl h:fk) (V.ref z);lia)⟩ (t69 _ _ b6) (λa w=>w.imp id λy=>by rw[y];exact fz) (λa ob e m=>?_) (λa xs e=>t09 _ _ e)⟩
  ·rcases w with w|w
   ·by_cases z1:a=s
    ·rw[z1];exact⟨_,s9⟩
    by_cases z2:a=o
    ·rw[z2];exact⟨_,o9⟩
    by_cases z3:a=p
    ·rw[z3];exact⟨_,p9⟩
    obtain⟨ob,e⟩:=al a w;exact⟨ob,k09 _ _ e z1 z2 z3⟩
   ·rw[w];exact⟨_,z9⟩
  ·rw[kZ]at e;by_cases c:g=h
   ·subst c;rw[if_pos rfl]at e;cases e;exists z,([(((aL.length:Nat):Int),(((aL++qC g cs).length:Nat):Int))]:Row),rfl,.inr rfl,(nz _ ss).symm,(nz _ so).symm,⟨[q],z9,.cons (t69 _ _ b6) .nil⟩,?_,?_
    ·intro r hr;rw[List.mem_singleton.mp hr];show ((aL.length:Nat):Int)<=((aL++qC g cs).length:Nat);rw[cY];lia
    ·rw[nM,pw.gj g hv,xF,Nat.zero_add,List.nil_append];refine Az _ _ _ ?_;rw[cY,sR];lia
    ·simp only[gM];lia
   ·rw[if_neg (λz=>c (Sum.inl.inj z))]at e;obtain⟨l',FQ,e1,e2,e3,e4,e5,e6,e7,e8⟩:=pw.got g v e;subst e1;refine⟨l',FQ,rfl,.inl e2,e3,e4,e5.two (λxs q=>k09 _ _ q e3 e4 (dY q hp)) (λa xs e=>t09 _ _ e),e6,?_,Q⟩;rw[e7,nM,nO (λz=>c z.symm),gP]
  ·rw[kZ]at e;have c:g≠h:=λz=>by rw[z,if_pos rfl]at e;cases e
   rw[if_neg (λz=>c (Sum.inl.inj z))]at e;rw[nM,pw.gj g e,nO (λz=>c z.symm),gP]
  ·have other:∀ g v,g≠h->cJ kvs (Sum.inl g)=some v->v≠.ref z:=λg v c e y=>by
    obtain⟨l',FQ,e1,e2,_⟩:=pw.got g v e;rw[e1]at y;cases y;exact nz _ e2 rfl
   rw[kZ]at e e';by_cases c:g=h
   ·by_cases c':g'=h
    ·rw[c,c']
    ·rw[c,if_pos rfl]at e;rw[if_neg (λz=>c' (Sum.inl.inj z))]at e';cases e;exact absurd rfl (other _ _ c' e')
   ·rw[if_neg (λz=>c (Sum.inl.inj z))]at e;by_cases c':g'=h
    ·rw[c',if_pos rfl]at e';cases e';exact absurd rfl (other _ _ c e)
    ·rw[if_neg (λz=>c' (Sum.inl.inj z))]at e';exact pw.one _ _ _ e e'
  ·have z1:a≠s:=λz=>m (by rw[z];exact ss);have z2:a≠o:=λz=>m (by rw[z];exact so);have z3:a≠p:=λz=>m (by rw[z];exact sp);exact k09 _ _ e z1 z2 z3
theorem Gz(xs:List V){p q:Int}(h:0<=p)(g:0<=q):kU xs (some p) (some q)=(xs.take q.toNat).drop p.toNat:=by
 unfold kU
 have e:∀ r:Int,0<=r->∀ d,HT.jd xs.length d (some r)=min r.toNat xs.length:=λr hr d=>by
  show (if r<0 then (r+(xs.length:Int)).toNat else min r.toNat xs.length)=_;rw[if_neg ∅]
 rw[e p h,e q g,List.drop_take];rcases Nat.le_total p.toNat xs.length with z|z
 ·rw[Nat.min_eq_left z];rcases Nat.le_total q.toNat xs.length with y|y
  ·rw[Nat.min_eq_left y]
  ·rw[Nat.min_eq_right y,ua (by rw[qV];lia),ua (by rw[qV];lia)]
 ·rw[Nat.min_eq_right z,ve (fF _),ve z];simp
def Q3(n:Nat)(p:Int × Int):Bool:=decide (0<=p.1)&&decide (p.1<p.2)&&decide (p.2<=(n:Int))
def rT(n:Nat)(row:Row):Bool:=row.all (Q3 n)
class inductive Tp(C:Addr)
 | mk (S:Addr->Prop) (x d s o p r:Addr) (n:Nat) (aL:iL) (row:Row) (_:vs=[.ref x,.ref r]) (_:We C S H x d s o p n aL) (_:cA H r row) (_:row.length<=1000) (_: ∀ H',aI H H'->Q (.bl (rT aL.length row)) H')
theorem Ef:aH ["self","row"] ["self","row"] (aA oh):=eU
theorem Bv:‹(2,51,["self","row"],(Tp CW))›:=λD=>by
 specialize eV D.Z3.F Ef;obtain⟨S,x,d,s,o,p,r,n,aL,row,rfl,W,R,len,k⟩:=h;refine⟨_,(au (aJ (cz (Mi rfl) rfl D.T.ZI PyProof.Rows.boot_all (aa (gH (N:=["start","stop","self"]) (om (sc:=aA oh) (NX:=["self","row"]) (jx:=[none,none,some 0]) rfl rfl rfl nofun nofun rfl nofun rfl nofun) rfl (cF (pv 1)) (λ_ _ _ _ _ _=>(y9 (n:=2) rfl (cj (ck (i:=0) (show List.Nodup (["start","stop","self"]:List Str) by decide +kernel)) (cj (ck (i:=1) (show List.Nodup (["start","stop","self"]:List Str) by decide +kernel)) gR)))) (λ_ _ _ _ _ _=>ji) (λ_ _ _ _ _ _=>(Mj gr j8 gr ay (pv 0) (pv 1) (ff (pv 2) D.lC D.Pc (mJ D) hr bO)))) ah)))),?_⟩;obtain⟨as,jT,pa⟩:=id R;have la:=pa.len;refine⟨Y,r,rfl,⟨_,bI.of jT⟩,λacc cR=>gF (K:=K) (a:=r) (xs:=as.map V.ref) (λi σ H1=>∃ u w:Option V,σ=[u,w,some (.ref x)]/\H1 acc=some (.lst (((row.take i).map (Q3 aL.length)).map V.bl))/\aI H H1) ⟨none,none,rfl,af,ak cR _⟩ (by rintro i σ H1 _ ⟨_,_,_,_,s⟩;exact bI.of (s _ _ jT)) ?_ ?_⟩
 ·rintro i y σ H1 hi ⟨u,w,rfl,ha,s1⟩;rw[mY]at hi;obtain⟨t,et,rfl⟩:=Option.map_eq_some_iff.mp hi;obtain⟨q,eq,ht⟩:=Ac pa et;have W1:=W.same s1;exists t,Y,cX.of (s1 _ _ ht),rfl,P,rfl,Z
  have jG:∀ v:Bool,Q3 aL.length q=v->∃ ys,H1 acc=some (.lst ys)/\ys.length<sizeLine/\∃ u w:Option V,[some (V.int q.1),some (V.int q.2),some (.ref x)]=[u,w,some (.ref x)]/\(aN H1 acc (.lst (ys++[.bl v]))) acc=some (.lst (((row.take (i+1)).map (Q3 aL.length)).map V.bl))/\aI H (aN H1 acc (.lst (ys++[.bl v]))):=λv hv=>by
   exists _,ha,?_,P,rfl,?_
   ·rw[cy,cy,gx];exact aR ∅
   ·rw[af,take_snoc eq,gw,gw,← hv];rfl
   ·intro b ob e;rw[aK (az e cR)];exact s1 _ _ e
  refine⟨Y,Z,Y,cN (λc1=>?_) (λc1=>jG false ?_)⟩
  ·refine⟨Y,Z,Y,cN (λc2=>?_) (λc2=>jG false ?_)⟩
   ·refine⟨Y,x,d,Y,W1.hx,rfl,x,d,s,o,p,aL,rfl,W1.hx,W1.hs,Z,jG _ ?_⟩;unfold Q3;rw[c1,c2];rfl
   ·unfold Q3;rw[c1,Bool.eq_false_iff.mpr c2];rfl
  ·unfold Q3;rw[Bool.eq_false_iff.mpr c1];rfl
 ·rintro σ H1 ⟨u,w,rfl,ha,s1⟩;rw[cy,la,gO]at ha;exists acc,Y,bI.of ha
  have e:(row.map (Q3 aL.length)).all id=rT aL.length row:=by
   unfold rT;rw[List.all_map];rfl
  rw[e];exact k H1 s1
theorem Cu.irr{rows:cU}(h:Cu rows){s:Int}:¬ Reach (j0 rows) s s:=by
 obtain⟨rk,_,hr⟩:=h
 have key:∀ g,Reach (j0 rows) s g->rk g<rk s:=by
  intro g r
  induction r with
  | one e=>exact hr _ _ e
  | step _ e ih=>exact Nat.lt_trans (hr _ _ e) ih
 exact λz=>Nat.lt_irrefl _ (key s z)
structure nP(rows:cU)(f:Int->Int):Prop where
 len:rows.length<=100
 es:∀ es∈rows,es.length<=1000
 sd:gp rows
 rk:Cu rows
 wt:Weighs rows f
 most:∀ x:Int,0<=x->x<rows.length->f x<=200
class inductive P5
 | mk (r:Addr) (rows:cU) (s:Int) (f:Int->Int) (_:vs=[.ref r,.int s]) (_:fZ H r (rows.map aF)) (_:nP rows f) (_:0<=s) (_:s<rows.length) (_: ∀ H',aI H H'->Q .gj H')
theorem kL:aH ["rows","sheet","way","weights","number"] ["rows","sheet"] (aA qc):=eU
theorem AA:‹(4,52,["rows","sheet"],P5)›:=λD=>by
 refine eV D.Z4.F kL λcV A zn s0 H vs Q E hr h=>?_;obtain⟨r,rows,s,f,rfl,hR,B,h0,h1,k⟩:=h;have hu:=gG hr;obtain⟨Eg,Eh⟩:=D.G.w;have bl:=B.len;exists _,(aj (aV (i:=2) kL.nd (aC D.ZO (SK D) hr (aa (pv 0) (aa (pv 1) ah)))) (aj (bN (Dj (Rf (pv 2))) (au iW) bg) (aj (aV (i:=3) kL.nd (aC D.Wy (pJ D) hr (aa (pv 0) (aa (eS (tU rfl) rfl D.T.jw uc (aa (eS DL rfl D.T.jj PyProof.Rows.boot_range (aa (eX D.T.eN (pv 0)) ah)) ah)) ah)))) (au (dQ PassesOwn.never rfl (gK rfl D.T.jj (aa (eX D.T.eN (pv 0)) ah)) (ck (i:=4) kL.nd) (au (bN (aT zq (gc hu (pv 3) (pv 4)) (J3 (v:=.int 200) rfl Eh ⟨Eg,rfl⟩) (aZ _)) (au iW) bg)))))));refine⟨Y,Y,r,s,rfl,r,rows,s,s,rfl,hR,Q,B.es,B.sd,h0,h1,B.rk.irr,λH1 s1=>?_⟩;refine⟨Y,false,rfl,eO ?_⟩;have hR1:=hR.same s1;obtain⟨vs,jT,al⟩:=id hR1;have lv:vs.length=rows.length:=by rw[al.len,cy]
 refine⟨Y,Y,r,Y,.inl (bI.of jT),Y,λp1 Sg=>⟨p1,P,rfl,af,⟨Q,Q,Q,Q⟩,gT (aR ∅),λL hL=>?_⟩⟩;rw[zP,lv,show ((rows.length:Int)-0).toNat=rows.length by lia];rw[lv]at hL;have s2:=s1.trans ((ak Sg (.E5 0 ((rows.length:Nat):Int))).trans (ak hL (.lst ((run 0 rows.length).map V.int))));have hL2:(aN (aN H1 p1 (.E5 0 ((rows.length:Nat):Int))) L (.lst ((run 0 rows.length).map V.int))) L=some (.lst ((run 0 rows.length).map V.int)):=af;generalize aN (aN H1 p1 (.E5 0 ((rows.length:Nat):Int))) L (.lst ((run 0 rows.length).map V.int))=H2 at s2 hL2;refine⟨r,L,rows,run 0 rows.length,f,rfl,hR.same s2,hL2,by rw[KH];lia,Q,B.es,B.sd,B.rk,(λx hx=>by have:=OP hx;lia),B.wt,λS kvs H3 hS hv s3 _=>?_⟩;have P0:=s2.trans s3;obtain⟨vs3,Mm,al3⟩:=hR.same P0;have lv3:vs3.length=rows.length:=by rw[al3.len,cy]
 exists Y,r,Y,.inl (bI.of Mm),Y,Q,Q;refine ki (lo:=0) (n:=((vs3.length:Nat):Int).toNat) (λi σ H4=>∃ u:Option V,σ=[some (.ref r),some (.int s),some .gj,some (.ref S),u]/\aI H H4/\H4 S=some (.dK kvs)) ⟨none,rfl,P0,hS⟩ ?_ ?_
 ·rintro i σ H4 hi ⟨u,rfl,s4,hS4⟩;have il:i<rows.length:=by lia
  have z:=iR.k (k:=Sum.inl (0+(i:Int))) hS4;rw[hv (0+(i:Int)) (by rw[show (0:Int)+(i:Int)=0+i from rfl];exact oF (KA 0 rows.length i il))]at z;exists Y,Y,S,Y,z,Z,Y;rw[decide_eq_false (show ¬ f (0+(i:Int)) > 200 from λy=>by have:=B.most (0+(i:Int)) ∅ ∅;lia)];exact eO ⟨Y,s4,hS4⟩
 ·rintro σ H4 ⟨u,rfl,s4,_⟩;exact k H4 s4
structure gJ(C CS:Addr)(S:Addr->Prop)(H:Hp)(x d wl sh bl kn du bk dS st op:Addr)(bJ:kC)(ops:List Int)(aB:iU):Prop where
 hx:H x=some (.ins C d [("well",.ref wl),("shelf",.ref sh),("blots",.ref bl),("knots",.ref kn),("dues",.ref du),("book",.ref bk)])
 W:Sh CS S H sh dS st op bJ ops
 hb:H bk=some (lU aB)
 nx:¬ S x
 nb:¬ S bk
def Fr(S S':Addr->Prop)(bk:Addr)(H H':Hp):Prop:=(∀ a,S' a->S a\/H a=none)/\(∀ a ob,H a=some ob->¬ S a->a≠bk->H' a=some ob)/\∀ a xs,H a=some (.tup xs)->H' a=some (.tup xs)
theorem Fr.same{S S':Addr->Prop}{bk:Addr}{H0 H H':Hp}(s:aI H0 H)(f:Fr S S' bk H H'):Fr S S' bk H0 H' :=
 ⟨λa z=>(f.1 a z).imp id λy=>aW s y,λa ob e n1 n2=>f.2.1 a ob (s _ _ e) n1 n2,λa xs e=>f.2.2 a xs (s _ _ e)⟩
theorem gJ.same{S:Addr->Prop}{H H':Hp}{x d wl sh bl du bk st:Addr}{bJ:kC}{ops:List Int}{aB:iU}(L:gJ C CS S H x d wl sh bl kn du bk dS st op bJ ops aB)(s:aI H H'):gJ C CS S H' x d wl sh bl kn du bk dS st op bJ ops aB :=
 ⟨s _ _ L.hx,L.W.same s,s _ _ L.hb,L.nx,L.nb⟩
theorem gJ.neb{S:Addr->Prop}{H:Hp}{x d wl sh bl du bk st:Addr}{bJ:kC}{ops:List Int}{aB:iU}(L:gJ C CS S H x d wl sh bl kn du bk dS st op bJ ops aB):x≠bk:=λe=>by
 have z:=L.hx;rw[e,L.hb]at z;cases z
class inductive Tq(C CS:Addr)
 | mk (S:Addr->Prop) (x d wl sh bl kn du bk dS st op:Addr) (bJ:kC) (ops:List Int) (aB:iU) (_:vs=[.ref x]) (_:gJ C CS S H x d wl sh bl kn du bk dS st op bJ ops aB) (_:Q (.int (ops.length:Nat)) H)
class inductive P6(C CS:Addr)
 | mk (S:Addr->Prop) (x d wl sh bl kn du bk dS st op:Addr) (bJ:kC) (ops:List Int) (aB:iU) (_:vs=[.ref x]) (_:gJ C CS S H x d wl sh bl kn du bk dS st op bJ ops aB) (_:Q (.int ((bJ.length:Nat)-1)) H)
class inductive Tr(C CS:Addr)
 | mk (S:Addr->Prop) (x d wl sh bl kn du bk dS st op:Addr) (bJ:kC) (ops:List Int) (aB:iU) (dd c:Addr) (e:jX) (cs:List Addr) (qI:List (Nat × List aP)) (last:List (List aP)) (_:vs=[.ref x,.ref dd,.ref c]) (_:gJ C CS S H x d wl sh bl kn du bk dS st op bJ ops aB) (_:e.At H dd) (_:e.Ok) (_:H c=some (.lst (cs.map V.ref))) (_:c≠bk) (_:bS (Jj H) cs qI) (_:(∀ a∈cs,∀ (s:Int) (r:Addr),H a=some (.tup [.int s,.ref r])->r≠bk)) (_:bJ.getLast?=some last) (_:Xj last qI) (_:qI.length<=200) (_:last.length<=500) (_:bJ.length<=1000) (_:aB.length<=1000) (_ :
 ∀ (S':Addr->Prop) (H':Hp),gJ C CS S' H' x d wl sh bl kn du bk dS st op (bJ++[mH last qI]) (ops++List.replicate ((mH last qI).length-last.length) ((bJ.length:Nat):Int)) (aB++[e.line])->Fr S S' bk H H'->Q .gj H')
theorem yH:aH ["self","deed","changes"] ["self","deed","changes"] (aA nh):=eU
theorem AB:aH ["self"] ["self"] (aA oM):=eU
theorem Bw:aH ["self"] ["self"] (aA qd):=eU
theorem yI:‹(2,56,["self"],(Tq C CS))›:=λD=>by
 specialize eV D.Z6.F AB;obtain⟨S,x,d,wl,sh,bl,kn,du,bk,dS,st,op,bJ,ops,aB,rfl,L,k⟩:=h;exists _,(au (aJ (ff (cM (pv 0) rfl) D.cB D.WG (tX D) hr bO)));exact⟨Y,x,C,d,_,.ref sh,rfl,L.hx,D.aQ.cl,D.eG,rfl,sh,dS,Y,L.W.hx,rfl,S,sh,dS,st,op,bJ,ops,rfl,L.W,k⟩
theorem AD:‹(2,57,["self"],(P6 C CS))›:=λD=>by
 specialize eV D.Z7.F Bw;obtain⟨S,x,d,wl,sh,bl,kn,du,bk,dS,st,op,bJ,ops,aB,rfl,L,k⟩:=h;obtain⟨as,hs,al⟩:=L.W.hs;exists _,(au (aJ (ff (cM (pv 0) rfl) D.cB D.Pb (mG D) hr bO)));exists Y,x,C,d,_,.ref sh,rfl,L.hx,D.aQ.cl,D.eG,rfl,sh,dS,Y,L.W.hx,rfl,sh,dS,st,op,Y,L.W.hx,hs;rw[cy,al.len];exact k
theorem kF:‹(3,54,["self","deed","changes"],(Tr C CS))›:=λD=>by
 specialize eV D.Sx.F yH;obtain⟨S,x,d,wl,sh,bl,kn,du,bk,dS,st,op,bJ,ops,aB,dd,c,e,cs,qI,last,rfl,L,de,ok,hc,ncb,al,nr,hl,oc,l1,l2,l3,l4,k⟩:=h;exists _,(aj (aU (dJ pQ jE jF bQ (cM (pv 0) rfl) (aa (aC D.ZV (Bt D) hr (aa (pv 1) ah)) ah))) (au (aU (cQ (cM (pv 0) rfl) D.cB D.ZX (Bu D) hr bO (aa (pv 2) ah)))));refine⟨Y,x,C,d,_,.ref bk,rfl,L.hx,D.aQ.cl,D.Fl,rfl,.inl ⟨rfl,_,bI.of L.hb⟩,Y,dd,e,rfl,de,ok,Jh ok,λH1 s1=>?_⟩;refine⟨bk,Z,s1 _ _ L.hb,aR (by rw[cy];lia),?_⟩;have e2:(aB.map λw=>V.str (fO w))++[V.str (fO e.line)]=(aB++[e.line]).map λw=>V.str (fO w):=by rw[gw];rfl
 rw[e2]
 have k2:cD bk H (aN H1 bk (lU (aB++[e.line]))):=λa o q n=>by
  rw[aK n];exact s1 _ _ q
 have QY:(aN H1 bk (lU (aB++[e.line]))) bk=some (lU (aB++[e.line])):=af
 have fr2:∀ a,(aN H1 bk (lU (aB++[e.line]))) a=none->H a=none:=λa q=>by
  by_cases z:a=bk
  ·rw[z,af]at q;cases q
  ·rw[aK z]at q;exact aW s1 q
 generalize aN H1 bk (lU (aB++[e.line]))=H2 at k2 QY fr2;have t2:∀ a xs,H a=some (.tup xs)->H2 a=some (.tup xs):=λa xs q=>k2 _ _ q (dY q L.hb);have W2:Sh CS S H2 sh dS st op bJ ops:=L.W.keep L.hb L.nb k2;have x2:=k2 _ _ L.hx L.neb;refine⟨Y,x,C,d,_,.ref sh,rfl,x2,D.aQ.cl,D.eG,rfl,sh,dS,Y,W2.hx,rfl,Y,S,sh,dS,st,op,c,bJ,ops,cs,qI,last,rfl,W2,k2 _ _ hc ncb,?_,hl,oc,l1,l2,l3,λS' H3 W3 sub fr tp=>?_⟩
 ·have key:∀ {as:List Addr} {ds:List (Nat × List aP)},bS (Jj H) as ds->(∀ a∈as,a∈cs)->bS (Jj H2) as ds:=by
   intro as ds q
   induction q with
   | nil=>intro _;exact .nil
   | cons o t ih =>
    intro sub;refine .cons ?_ (ih λa ha=>sub a (mO _ ha));obtain⟨r,ha,it⟩:=o;have nrb:=nr _ (sub _ List.mem_cons_self) _ r ha;exact⟨r,t2 _ _ ha,it.fr (λxs q=>k2 _ _ q nrb) t2⟩
  exact key al λ_ z=>z
 ·refine k S' H3 ⟨fr _ _ x2 L.nx,W3,fr _ _ QY L.nb,λz=>?_,λz=>?_⟩ ⟨λa z=>(sub a z).imp id λq=>fr2 a q,λa ob q n n'=>fr _ _ (k2 _ _ q n') n,λa xs q=>tp _ _ (t2 _ _ q)⟩
  ·rcases sub _ z with q|q
   ·exact L.nx q
   ·rw[x2]at q;cases q
  ·rcases sub _ z with q|q
   ·exact L.nb q
   ·rw[QY]at q;cases q
abbrev iK(pe:iT):kC:=pe.map λrows=>rows.map aF
def jb(rows:cU)(s:Nat)(es:List Int):cU:=rows.take s++[es]++rows.drop (s+1)
theorem Tt(rows:cU)(s:Nat)(es:List Int):mH (rows.map aF) [(s,aF es)]=(jb rows s es).map aF:=by
 show (rows.map aF).take s++[aF es]++(rows.map aF).drop (s+1)=_;unfold jb;rw[gw,gw,List.map_take,List.map_drop];rfl
theorem GA{rows:cU}{s:Nat}{es:List Int}(h:s<=rows.length):(jb rows s es).length=if s=rows.length then rows.length+1 else rows.length:=by
 unfold jb;rw[cY,cY,gx,qV];show min s rows.length+1+_=_
 split <;> lia
def P7(ops:List Int)(n s m:Nat):List Int:=ops++if s=n then [(m:Int)] else []
theorem Xp{rows:cU}{s:Nat}{es:List Int}{ops:List Int}{m:Nat}(h:s<=rows.length):ops++List.replicate (((jb rows s es).map aF).length-(rows.map aF).length) (m:Int)=P7 ops rows.length s m:=by
 rw[cy,cy,GA h];unfold P7;by_cases c:s=rows.length
 ·rw[if_pos c,if_pos c,show rows.length+1-rows.length=1 by lia];rfl
 ·rw[if_neg c,if_neg c,Nat.sub_self];rfl
class inductive P8(C CS:Addr)
 | mk (S:Addr->Prop) (x d wl sh bl kn du bk dS st op:Addr) (pe:iT) (ops:List Int) (aB:iU) (dd r:Addr) (e:jX) (s:Nat) (es:List Int) (rows:cU) (f:Int->Int) (_:vs=[.ref x,.ref dd,.int (s:Nat),.ref r]) (_:gJ C CS S H x d wl sh bl kn du bk dS st op (iK pe) ops aB) (_:e.At H dd) (_:e.Ok) (_:bH H (.ref r) (aF es)) (_:r≠bk) (_:pe.getLast?=some rows) (_:s<=rows.length) (_:rows.length<=50) (_:pe.length<=900) (_:aB.length<=900) (_:nP (jb rows s es) f) (_ :
 ∀ (S':Addr->Prop) (H':Hp),gJ C CS S' H' x d wl sh bl kn du bk dS st op (iK (pe++[jb rows s es])) (P7 ops rows.length s pe.length) (aB++[e.line])->Fr S S' bk H H'->Q .gj H')
theorem xH:aH ["self","deed","sheet","items"] ["self","deed","sheet","items"] (aA lO):=eU
theorem dP{pe:iT}{rows:cU}(h:pe.getLast?=some rows):(iK pe).getLast?=some (rows.map aF):=by
 rw[List.getLast?_map,h];rfl
theorem P9{H H':Hp}{rs:List Addr}{rows:List (List aP)}{r:Addr}{aM:List aP}{s:Nat}(al:bS (λq i=>bH H' (.ref q) i) rs rows)(it:bH H' (.ref r) aM):bS (bH H') ((rs.map V.ref).take s++[.ref r]++(rs.map V.ref).drop (s+1)) (rows.take s++[aM]++rows.drop (s+1)):=by
 have key:bS (bH H') (rs.map V.ref) rows:=by
  induction al with
  | nil=>exact .nil
  | cons o t ih=>exact .cons o ih
 exact ((key.take s).app (.cons it .nil)).app (key.drop (s+1))
theorem d9:‹(5,55,["self","deed","sheet","items"],(P8 C CS))›:=λD=>by
 specialize eV D.F1.F xH;obtain⟨S,x,d,wl,sh,bl,kn,du,bk,dS,st,op,pe,ops,aB,dd,r,e,s,es,rows,f,rfl,L,de,ok,hi,nrb,hl,sl,l1,l2,l3,B,k⟩:=h;have hl':=dP hl;have lp:(iK pe).length=pe.length:=cy _
 have lo:ops.length=rows.length:=by
  obtain⟨last,z1,z2⟩:=L.W.Nm.CZ;rw[hl']at z1;cases z1;rw[z2,cy]
 exists _,(aj (aU (aC D.Z4 (AA D) hr (aa (aC D.WE (Ax D) hr (aa (ff (cM (pv 0) rfl) D.cB D.Ag (dZ D) hr bO) (aa (pv 2) (aa (pv 3) ah)))) (aa (pv 2) ah)))) (au (aU (cQ (pv 0) D.aQ D.Sx (kF D) hr bO (aa (pv 1) (aa (bL (aa (cH (aa (pv 2) (aa (pv 3) ah))) ah)) ah))))));refine⟨Y,x,C,d,_,.ref sh,rfl,L.hx,D.aQ.cl,D.eG,rfl,sh,dS,Y,L.W.hx,rfl,S,sh,dS,st,op,iK pe,ops,rfl,L.W,⟨Q,Q⟩,λQ4 el q H1 fs s1=>?_⟩;rw[hl']at el;cases el;obtain⟨fq,rs,hq,al⟩:=fs;have lr:rs.length=rows.length:=by rw[al.len,cy]
 have hi1:=hi.same s1;have L1:=L.same s1;refine⟨Y,Y,q,r,_,s,rfl,hq,by rw[cy,lr];exact sl,by rw[cy,lr];lia,λp2 H2 Uw s2 f2=>?_⟩
 refine⟨Y,p2,jb rows s es,(s:Int),f,rfl,⟨_,Uw,?_⟩,B,Q,by rw[GA sl];split <;> lia,λH3 s3=>?_⟩
 ·have z:=P9 (H:=H) (H':=H2) (s:=s) (al.mono λq' i' w'=>(w'.2.2).same s2) (hi1.same s2)
  have e':(rows.map aF).take s++[aF es]++(rows.map aF).drop (s+1)=(jb rows s es).map aF:=by
   unfold jb;rw[gw,gw,List.map_take,List.map_drop];rfl
  rw[e']at z;exact z
 have w9:=s1.trans (s2.trans s3);have L3:=L.same w9;refine⟨Y,x,d,Y,L3.hx,rfl,Y,Y,Y,lu,λt ht=>⟨mD,λc hc=>?_⟩⟩;have s4:aI H3 (aN (aN H3 t (.tup [.int (s:Nat),.ref r])) c (.lst [.ref t])):=(ak ht _).trans (ak hc _);have ht4:(aN (aN H3 t (.tup [.int (s:Nat),.ref r])) c (.lst [.ref t])) t=some (.tup [.int (s:Nat),.ref r]):=ak hc _ _ _ af;have hc4:(aN (aN H3 t (.tup [.int (s:Nat),.ref r])) c (.lst [.ref t])) c=some (.lst ([t].map V.ref)):=af
 have nc:c≠bk:=λz=>by
  have:=ak ht (.tup [.int (s:Nat),.ref r]) _ _ L3.hb;rw[← z,hc]at this;cases this
 generalize aN (aN H3 t (.tup [.int (s:Nat),.ref r])) c (.lst [.ref t])=H4 at s4 ht4 hc4;have C1:=w9.trans s4;refine⟨S,x,d,wl,sh,bl,kn,du,bk,dS,st,op,iK pe,ops,aB,dd,c,e,[t],[(s,aF es)],rows.map aF,rfl,L.same C1,de.same C1,ok,hc4,nc,.cons ⟨r,ht4,hi.same C1⟩ .nil,?_,hl',?_,(by show 1<=200;decide),by rw[cy];lia,Q,Q,λS' H' L' fr=>?_⟩
 ·intro a ha s' r' e';rw[List.mem_singleton.mp ha,ht4]at e';cases e';exact nrb
 ·intro i ch ei
  match i,ei with
  | 0,ei =>
   cases ei;show s<=(rows.map aF).length;rw[cy];exact sl
  | i+1,ei=>cases ei
 ·rw[Tt,Xp sl,lp]at L';refine k S' H' ?_ (fr.same C1)
  have ep:iK (pe++[jb rows s es])=iK pe++[(jb rows s es).map aF]:=by
   show (pe++[jb rows s es]).map _=_;rw[gw];rfl
  rw[ep];exact L'
class inductive Tu(C CS:Addr)
 | mk (S:Addr->Prop) (x d wl sh bl kn du bk dS st op:Addr) (pe:iT) (ops:List Int) (aB:iU) (dd r:Addr) (e:jX) (es:List Int) (rows:cU) (_:vs=[.ref x,.ref dd,.ref r]) (_:gJ C CS S H x d wl sh bl kn du bk dS st op (iK pe) ops aB) (_:e.At H dd) (_:e.Ok) (_:bH H (.ref r) (aF es)) (_:r≠bk) (_:pe.getLast?=some rows) (_:rows.length<=50) (_:pe.length<=900) (_:aB.length<=900) (_:rows.length<40) (_:((∃ f,nP (rows++[es]) f)/\∀ (S':Addr->Prop) (H':Hp),gJ C CS S' H' x d wl sh bl kn du bk dS st op (iK (pe++[rows++[es]])) (ops++[((pe.length:Nat):Int)]) (aB++[e.line])->Fr S S' bk H H'->Q (.int (rows.length:Nat)) H'))
theorem qJ:aH ["self","deed","items","sheet"] ["self","deed","items"] (aA nj):=eU
theorem GB(rows:cU)(es:List Int):jb rows rows.length es=rows++[es]:=by
 unfold jb;rw[gO,ve ∅,gP]
theorem jk{S:Addr->Prop}{H:Hp}{x d wl sh bl du bk st:Addr}{pe:iT}{ops:List Int}{aB:iU}{rows:cU}(L:gJ C CS S H x d wl sh bl kn du bk dS st op (iK pe) ops aB)(hl:pe.getLast?=some rows):ops.length=rows.length:=by
 obtain⟨last,z1,z2⟩:=L.W.Nm.CZ;rw[dP hl]at z1;cases z1;rw[z2,cy]
theorem xJ:‹(6,58,["self","deed","items"],(Tu C CS))›:=λD=>by
 obtain⟨Ei,Ej⟩:=D.G.s;specialize eV D.Z8.F qJ;obtain⟨S,x,d,wl,sh,bl,kn,du,bk,dS,st,op,pe,ops,aB,dd,r,e,es,rows,rfl,L,de,ok,hi,nrb,hl,l1,l2,l3,lt,k2⟩:=h;have lo:=jk L hl;exists _,(aj (aV (i:=3) qJ.nd (ff (pv 0) D.aQ D.Z6 (yI D) hr bO)) (aj (bN (aT Uk (pv 3) (J3 (v:=.int 40) rfl Ej ⟨Ei,rfl⟩) (aZ _)) (au iW) bg) (aj (aU (cQ (pv 0) D.aQ D.F1 (d9 D) hr bO (aa (pv 1) (aa (pv 3) (aa (pv 2) ah))))) (au (aJ (pv 3))))));exists Y,x,d,Y,L.hx,rfl,S,x,d,wl,sh,bl,kn,du,bk,dS,st,op,iK pe,ops,aB,rfl,L;rw[lo];refine⟨Y,Z,Y,cN (λc=>?_) (λc=>?_)⟩
 ·exact absurd (of_decide_eq_true c) ∅
 ·obtain⟨⟨f,B⟩,k3⟩:=k2;refine⟨Y,x,d,Y,L.hx,rfl,Y,Y,Y,S,x,d,wl,sh,bl,kn,du,bk,dS,st,op,pe,ops,aB,dd,r,e,rows.length,es,rows,f,rfl,L,de,ok,hi,nrb,hl,fF _,l1,l2,l3,by rw[GB];exact B,λS' H' L' fr=>?_⟩;rw[GB]at L';have eo:P7 ops rows.length rows.length pe.length=ops++[((pe.length:Nat):Int)]:=by unfold P7;rw[if_pos rfl]
  rw[eo]at L';exact⟨Y,k3 S' H' L' fr⟩
abbrev frW:List Nat:=(Str.ofString "fresh").cps.toList
theorem Qa:(jX.plain frW []).Ok:=⟨by decide +kernel,λ_ z=>by cases z⟩
class inductive Tv(C CS:Addr)
 | mk (S:Addr->Prop) (x d wl sh bl kn du bk dS st op:Addr) (pe:iT) (ops:List Int) (aB:iU) (rows:cU) (_:vs=[.ref x]) (_:gJ C CS S H x d wl sh bl kn du bk dS st op (iK pe) ops aB) (_:pe.getLast?=some rows) (_:rows.length<=50) (_:pe.length<=900) (_:aB.length<=900) (_:rows.length<40) (_:((∃ f,nP (rows++[[]]) f)/\∀ (S':Addr->Prop) (H':Hp),gJ C CS S' H' x d wl sh bl kn du bk dS st op (iK (pe++[rows++[[]]])) (ops++[((pe.length:Nat):Int)]) (aB++[(jX.plain frW []).line])->Fr S S' bk H H'->Q (.int (rows.length:Nat)) H'))
theorem yJ:aH ["self"] ["self"] (aA nk):=eU
theorem xK:‹(7,59,["self"],(Tv C CS))›:=λD=>by
 specialize eV D.WJ.F yJ;obtain⟨S,x,d,wl,sh,bl,kn,du,bk,dS,st,op,pe,ops,aB,rows,rfl,L,hl,l1,l2,l3,lt,k2⟩:=h;exists _,(au (aJ (cQ (pv 0) D.aQ D.Z8 (xJ D) hr bO (aa (cH (aa bx ah)) (aa (bL ah) ah)))));refine⟨Y,x,d,Y,L.hx,rfl,mD,λt ht=>⟨gU,λr ye=>?_⟩⟩;have s1:aI H (aN (aN H t (.tup [.str "fresh"])) r (.lst [])):=(ak ht _).trans (ak ye _);have ht1:(aN (aN H t (.tup [.str "fresh"])) r (.lst [])) t=some (.tup [.str "fresh"]):=ak ye _ _ _ af;have jT:(aN (aN H t (.tup [.str "fresh"])) r (.lst [])) r=some (.lst []):=af
 have nr:r≠bk:=λz=>by
  have:=ak ht (.tup [.str "fresh"]) _ _ L.hb;rw[← z,ye]at this;cases this
 generalize aN (aN H t (.tup [.str "fresh"])) r (.lst [])=H1 at s1 ht1 jT;exists S,x,d,wl,sh,bl,kn,du,bk,dS,st,op,pe,ops,aB,t,r,.plain frW [],[],rows,rfl,L.same s1,by show H1 t=_;rw[ht1,rO];rfl,Qa,⟨r,[],rfl,jT,.nil⟩,nr,hl,l1,l2,l3,lt;obtain⟨B,k3⟩:=k2;exact⟨B,λS' H' L' fr=>k3 S' H' L' (fr.same s1)⟩
theorem mW{H H1:Hp}{dw:Addr}{o:HO}(h1:H xw=none)(h2:H dw=none)(k:cD xw (aN (aN H dw (.own xw)) xw o) H1):aI H H1:=λa ob e=>k a ob (by rw[aK (az e h1),aK (az e h2)];exact e) (az e h1)
theorem Sh.lH{S:Addr->Prop}{H H':Hp}{x d st l:Addr}{bJ:kC}{ops:List Int}{fs:List (Str × V)}(h:Sh C S H x d st op bJ ops)(hl:H l=some (.ins C' d' fs))(nl:¬ S l)(k:cD l H H'):Sh C S H' x d st op bJ ops :=
 h.fr (λa ob e z=>k a ob e (λq=>nl (by rw[← q];exact z))) (λa xs e=>k _ _ e (dY e hl))
structure Seen(rows:cU)(sh:Int->List Int):Prop where
 es:∀ es∈rows,es.length<=1000
 sd:gp rows
 rk:Cu rows
 ss:nH rows sh
 ln:∀ x:Int,0<=x->x<rows.length->(sh x).length<=10000
class inductive Qc(C CS:Addr)
 | mk (S:Addr->Prop) (x d wl sh bl kn du bk dS st op:Addr) (pe:iT) (ops:List Int) (aB:iU) (rows:cU) (s:Int) (_:vs=[.ref x,.int s]) (_:gJ C CS S H x d wl sh bl kn du bk dS st op (iK pe) ops aB) (_:pe.getLast?=some rows) (_:rows.length<=50) (_:pe.length<=900) (_:sQ rows.length s) (_:(∃ f,Seen rows f/\∀ (o:Addr) (H':Hp),cA H' o (cP (f s))->aI H H'->H o=none->Q (.ref o) H'))
theorem yK:aH ["self","sheet"] ["self","sheet"] (aA nu):=eU
theorem kG:‹(5,64,["self","sheet"],(Qc C CS))›:=λD=>by
 specialize eV D.Sy.F yK;obtain⟨S,x,d,wl,sh,bl,kn,du,bk,dS,st,op,pe,ops,aB,rows,s,rfl,L,hl,l1,l2,ia,k2⟩:=h;have lo:=jk L hl;have lp:(iK pe).length=pe.length:=cy _;have hl':=dP hl;exists _,(aj (aU (cQ (cM (pv 0) rfl) D.cB D.Af (cu D) hr bO (aa (pv 1) ah))) (au (aJ (fG.qy D.IT (D.T.nF _ D.IT.m) (Am D) hr (aa (ff (cM (pv 0) rfl) D.cB D.Ag (dZ D) hr bO) (aa (pv 1) ah))))));refine⟨Y,x,C,d,_,.ref sh,rfl,L.hx,D.aQ.cl,D.eG,rfl,sh,dS,Y,L.W.hx,rfl,Y,S,sh,dS,st,op,iK pe,ops,s,rfl,L.W,by rw[lo];exact ia,?_⟩;obtain⟨f0,sn,k3⟩:=k2;refine⟨Y,x,C,d,_,.ref sh,rfl,L.hx,D.aQ.cl,D.eG,rfl,sh,dS,Y,L.W.hx,rfl,S,sh,dS,st,op,iK pe,ops,rfl,L.W,⟨Q,Q⟩,λQ4 el q H1 MS s1=>?_⟩;rw[hl']at el;cases el;obtain⟨fq,rs,hq,al⟩:=MS
 have hR:fZ H1 q (rows.map aF):=by
  exists rs.map V.ref,hq
  have key:∀ {as:List Addr} {ds:List (List aP)},bS (λr aM=>H r=none/\r≠q/\bH H1 (.ref r) aM) as ds->bS (bH H1) (as.map V.ref) ds:=by
   intro as ds z
   induction z with
   | nil=>exact .nil
   | cons o t ih=>exact .cons o.2.2 ih
  exact key al
 exact⟨Y,q,rows,s,f0,rfl,hR,Q,sn.es,sn.sd,sn.rk,ia.1,ia.2,sn.ss,sn.ln,λo H2 ho s2 fo=>k3 o H2 ho (s1.trans s2) (aW s1 fo)⟩
theorem gJ.fr{S:Addr->Prop}{H H':Hp}{x d wl sh bl du bk st:Addr}{bJ:kC}{ops:List Int}{aB:iU}(L:gJ C CS S H x d wl sh bl kn du bk dS st op bJ ops aB)(k:∀ a ob,H a=some ob->(S a\/a=bk\/a=x)->H' a=some ob)(t:∀ a xs,H a=some (.tup xs)->H' a=some (.tup xs)):gJ C CS S H' x d wl sh bl kn du bk dS st op bJ ops aB :=
 ⟨k _ _ L.hx (.inr (.inr rfl)),L.W.fr (λa ob e z=>k a ob e (.inl z)) t,k _ _ L.hb (.inr (.inl rfl)),L.nx,L.nb⟩
structure Bx(C CS CW CB:Addr)(U S SW:Addr->Prop)(H:Hp)(x d wl sh bl kn du bk dS st op dw sg ow pw db tb:Addr)(pe:iT)(ops:List Int)(aB:iU)(aL:iL)(nW:Nat)(bR:Row):Prop where
 L:gJ C CS S H x d wl sh bl kn du bk dS st op (iK pe) ops aB
 W:We CW SW H wl dw sg ow pw nW aL
 B:Bl CB H bl db tb
 R:cA H tb bR
 F5:Mg bR
 dj:∀ a,SW a->¬ S a/\a≠bk/\a≠x
 db:¬ S bl/\¬ SW bl/\bl≠bk
 dt:¬ S tb/\¬ SW tb/\tb≠bk
 u:∀ a,U a↔S a\/SW a\/a=bk\/a=x\/a=bl\/a=tb
inductive qU(C CS CW CB:Addr)(U:Addr->Prop)(H:Hp)(x:Addr)(pe:iT)(aB:iU)(aL:iL)(nW:Nat)(bR:Row):Prop
 | mk (S SW:Addr->Prop) (d wl sh bl kn du bk dS st op dw sg ow pw db tb:Addr) (ops:List Int) (_:Bx C CS CW CB U S SW H x d wl sh bl kn du bk dS st op dw sg ow pw db tb pe ops aB aL nW bR)
def Jl(U U':Addr->Prop)(H H':Hp):Prop:=(∀ a,U' a->U a\/H a=none)/\(∀ a ob,H a=some ob->¬ U a->H' a=some ob)/\∀ a xs,H a=some (.tup xs)->H' a=some (.tup xs)
theorem Jl.pre{U U':Addr->Prop}{H0 H H':Hp}(s:aI H0 H)(f:Jl U U' H H'):Jl U U' H0 H':=⟨λa z=>(f.1 a z).imp id λy=>aW s y,λa ob e n=>f.2.1 a ob (s _ _ e) n,λa xs e=>f.2.2 a xs (s _ _ e)⟩
theorem Bx.fr{U S SW:Addr->Prop}{H H':Hp}{x d wl sh bl du bk st dw pw db:Addr}{pe:iT}{ops:List Int}{aB:iU}{aL:iL}{nW:Nat}{bR:Row}(h:Bx C CS CW CB U S SW H x d wl sh bl kn du bk dS st op dw sg ow pw db tb pe ops aB aL nW bR)(k:∀ a ob,H a=some ob->U a->H' a=some ob)(t:∀ a xs,H a=some (.tup xs)->H' a=some (.tup xs)):Bx C CS CW CB U S SW H' x d wl sh bl kn du bk dS st op dw sg ow pw db tb pe ops aB aL nW bR:=by
 obtain⟨L,W,B,R,F5,dj,db',dt,u⟩:=h;refine⟨L.fr (λa ob e z=>k a ob e ((u a).mpr ?_)) t,W.fr (λa ob e z=>k a ob e ((u a).mpr (.inr (.inl z)))) t,k _ _ B ((u _).mpr (.inr (.inr (.inr (.inr (.inl rfl)))))),R.two (λxs e=>k _ _ e ((u _).mpr (.inr (.inr (.inr (.inr (.inr rfl))))))) t,F5,dj,db',dt,u⟩;rcases z with z|z|z
 ·exact .inl z
 ·exact .inr (.inr (.inl z))
 ·exact .inr (.inr (.inr (.inl z)))
theorem Bx.same{U S SW:Addr->Prop}{H H':Hp}{x d wl sh bl du bk st dw pw db:Addr}{pe:iT}{ops:List Int}{aB:iU}{aL:iL}{nW:Nat}{bR:Row}(h:Bx C CS CW CB U S SW H x d wl sh bl kn du bk dS st op dw sg ow pw db tb pe ops aB aL nW bR)(s:aI H H'):Bx C CS CW CB U S SW H' x d wl sh bl kn du bk dS st op dw sg ow pw db tb pe ops aB aL nW bR:=h.fr (λa ob e _=>s a ob e) λa xs e=>s _ _ e
theorem qU.fr{U:Addr->Prop}{H H':Hp}{x:Addr}{pe:iT}{aB:iU}{aL:iL}{nW:Nat}{bR:Row}(h:qU C CS CW CB U H x pe aB aL nW bR)(k:∀ a ob,H a=some ob->U a->H' a=some ob)(t:∀ a xs,H a=some (.tup xs)->H' a=some (.tup xs)):qU C CS CW CB U H' x pe aB aL nW bR:=by
 obtain⟨S,SW,d,wl,sh,bl,kn,du,bk,dS,st,op,dw,sg,ow,pw,db,tb,ops,z⟩:=h;exact⟨S,SW,d,wl,sh,bl,kn,du,bk,dS,st,op,dw,sg,ow,pw,db,tb,ops,z.fr k t⟩
theorem qU.same{U:Addr->Prop}{H H':Hp}{x:Addr}{pe:iT}{aB:iU}{aL:iL}{nW:Nat}{bR:Row}(h:qU C CS CW CB U H x pe aB aL nW bR)(s:aI H H'):qU C CS CW CB U H' x pe aB aL nW bR:=h.fr (λa ob e _=>s a ob e) λa xs e=>s _ _ e
theorem Bx.mK{U S S' SW:Addr->Prop}{H H':Hp}{x d wl sh bl du bk st dw pw db:Addr}{pe K0:iT}{ops Jm:List Int}{aB dD:iU}{aL:iL}{nW:Nat}{bR:Row}(h:Bx C CS CW CB U S SW H x d wl sh bl kn du bk dS st op dw sg ow pw db tb pe ops aB aL nW bR)(L':gJ C CS S' H' x d wl sh bl kn du bk dS st op (iK K0) Jm dD)(fr:Fr S S' bk H H'):∃ U',qU C CS CW CB U' H' x K0 dD aL nW bR/\Jl U U' H H':=by
 obtain⟨L,W,B,R,F5,dj,db',dt,u⟩:=h;obtain⟨as,hR,_⟩:=id R
 have nS':∀ a ob,H a=some ob->¬ S a->¬ S' a:=λa ob e n z=>by
  rcases fr.1 a z with y|y
  ·exact n y
  ·rw[e]at y;cases y
 refine⟨λa=>S' a\/SW a\/a=bk\/a=x\/a=bl\/a=tb,⟨S',SW,d,wl,sh,bl,kn,du,bk,dS,st,op,dw,sg,ow,pw,db,tb,Jm,L',W.fr (λa ob e z=>fr.2.1 _ _ e (dj a z).1 (dj a z).2.1) fr.2.2,fr.2.1 _ _ B db'.1 db'.2.2,R.two (λxs e=>fr.2.1 _ _ e dt.1 dt.2.2) fr.2.2,F5,λa z=>?_,⟨nS' _ _ B db'.1,db'.2⟩,⟨nS' _ _ hR dt.1,dt.2⟩,λa=>Iff.rfl⟩,λa z=>?_,λa ob e n=>?_,fr.2.2⟩
 ·obtain⟨ob,e⟩:=W.al a z;exact⟨nS' _ _ e (dj a z).1,(dj a z).2⟩
 ·rcases z with z|z
  ·exact (fr.1 a z).imp (λy=>(u a).mpr (.inl y)) id
  ·exact .inl ((u a).mpr (.inr z))
 ·exact fr.2.1 a ob e (λz=>n ((u a).mpr (.inl z))) (λz=>n ((u a).mpr (.inr (.inr (.inl z)))))
class inductive Tw(C CS CW CB:Addr)
 | mk (U:Addr->Prop) (x:Addr) (pe:iT) (aB:iU) (aL:iL) (nW:Nat) (bR:Row) (h:Int) (cs:List Nat) (rows:cU) (_:vs=[.ref x,.int h,.str (fO cs)]) (_:qU C CS CW CB U H x pe aB aL nW bR) (_:vX h) (_:cs.length<=200) (_:aL.length<=90000) (_:nW<=900) (_:pe.getLast?=some rows) (_:rows.length<=50) (_:pe.length<=900) (_:aB.length<=900) (_ :
 ∀ (U':Addr->Prop) (q:Addr) (H':Hp),qU C CS CW CB U' H' x (pe++[rows]) (aB++[(jX.Bs h cs).line]) (aL++qC h cs) (nW+1) bR->Jl U U' H H'->H' q=some (.tup [.int (aL.length:Nat),.int ((aL++qC h cs).length:Nat)])->Q (.ref q) H')
theorem rV:aH ["self","hand","text","stretch"] ["self","hand","text"] (aA oN):=eU
theorem yL:‹(4,62,["self","hand","text"],(Tw C CS CW CB))›:=λD=>by
 specialize eV D.WL.F rV;obtain⟨U,x,pe,aB,aL,nW,bR,h,cs,rows,rfl,⟨S,SW,d,wl,sh,bl,kn,du,bk,dS,st,op,dw,sg,ow,pw,db,tb,ops,LU⟩,fh,lc,li,ln,hl,l1,l2,l3,k⟩:=h;obtain⟨L,W,B,R,F5,dj,db',dt,u⟩:=id LU;exists _,(aj (aV (i:=3) rV.nd (cQ (cM (pv 0) rfl) D.lC D.Z2 (Ed D) hr bO (aa (pv 1) (aa (pv 2) ah)))) (aj (aU (cQ (pv 0) D.aQ D.Sx (kF D) hr bO (aa (cH (aa bx (aa (pv 1) (aa (pv 2) ah)))) (aa (bL ah) ah)))) (au (aJ (pv 3)))));refine⟨Y,x,C,d,_,.ref wl,rfl,L.hx,D.aQ.cl,D.zH,rfl,wl,dw,Y,W.hx,rfl,Y,Y,SW,wl,dw,sg,ow,pw,nW,aL,h,cs,rfl,W,Q,Q,λXq q H1 W1 hq sub fr tp=>?_⟩
 have nSW:∀ a ob,H a=some ob->¬ SW a->¬ Xq a:=λa ob e n z=>by
  rcases sub a z with y|y
  ·exact n y
  ·rw[e]at y;cases y
 have nk1:∀ a ob,H a=some ob->(S a\/a=bk\/a=x)->¬ SW a:=λa ob e z y=>by
  obtain⟨y1,y2,y3⟩:=dj a y;rcases z with z|z|z
  ·exact y1 z
  ·exact y2 z
  ·exact y3 z
 have L1:gJ C CS S H1 x d wl sh bl kn du bk dS st op (iK pe) ops aB:=L.fr (λa ob e z=>fr _ _ e (nk1 a ob e z)) tp;obtain⟨as,hR,_⟩:=id R
 have LU1:Bx C CS CW CB (λa=>S a\/Xq a\/a=bk\/a=x\/a=bl\/a=tb) S Xq H1 x d wl sh bl kn du bk dS st op dw sg ow pw db tb pe ops aB (aL++qC h cs) (nW+1) bR:=by
  refine⟨L1,W1,fr _ _ B db'.2.1,R.two (λxs e=>fr _ _ e dt.2.1) tp,F5,λa z=>?_,⟨db'.1,nSW _ _ B db'.2.1,db'.2.2⟩,⟨dt.1,nSW _ _ hR dt.2.1,dt.2.2⟩,λa=>Iff.rfl⟩;rcases sub a z with y|y
  ·exact dj a y
  ·refine⟨λq'=>?_,λq'=>?_,λq'=>?_⟩
   ·obtain⟨ob,e⟩:=L.W.al a q';rw[y]at e;cases e
   ·rw[q',L.hb]at y;cases y
   ·rw[q',L.hx]at y;cases y
 refine⟨Y,x,d,Y,L1.hx,rfl,Y,Y,IP,λt ht=>⟨gU,λc hc=>?_⟩⟩;have s2:aI H1 (aN (aN H1 t (.tup [.str "pour",.int h,.str (fO cs)])) c (.lst [])):=(ak ht _).trans (ak hc _);have Iz:(aN (aN H1 t (.tup [.str "pour",.int h,.str (fO cs)])) c (.lst [])) t=some (.tup [.str "pour",.int h,.str (fO cs)]):=ak hc _ _ _ af;have Xe:(aN (aN H1 t (.tup [.str "pour",.int h,.str (fO cs)])) c (.lst [])) c=some (.lst (([]:List Addr).map V.ref)):=af
 have nc:c≠bk:=λz=>by
  have:=ak ht (.tup [.str "pour",.int h,.str (fO cs)]) _ _ L1.hb;rw[← z,hc]at this;cases this
 generalize aN (aN H1 t (.tup [.str "pour",.int h,.str (fO cs)])) c (.lst [])=H2 at s2 Iz Xe;have lp:(iK pe).length=pe.length:=cy _;have K9:=LU1.same s2;refine⟨S,x,d,wl,sh,bl,kn,du,bk,dS,st,op,iK pe,ops,aB,t,c,.Bs h cs,[],[],rows.map aF,rfl,K9.L,Iz,⟨fh,lc⟩,Xe,nc,.nil,(λ_ z=>by cases z),dP hl,(λi ch e=>by cases e),(by show 0<=200;decide),by rw[cy];lia,Q,Q,λS' H3 L3 fr3=>?_⟩
 have ep:iK pe++[mH (rows.map aF) []]=iK (pe++[rows]):=by
  show _=(pe++[rows]).map _;rw[gw];rfl
 have eo:ops++List.replicate ((mH (rows.map aF) []).length-(rows.map aF).length) (((iK pe).length:Nat):Int)=ops:=by
  show ops++List.replicate ((rows.map aF).length-(rows.map aF).length) _=ops;rw[Nat.sub_self];exact gP _
 rw[ep,eo]at L3;obtain⟨U',hL',f'⟩:=K9.mK L3 fr3;refine⟨Y,k U' q H3 hL' ⟨λa z=>?_,λa ob e n=>?_,λa xs e=>f'.2.2 _ _ (s2 _ _ (tp _ _ e))⟩ (f'.2.2 _ _ (s2 _ _ hq))⟩
 ·rcases f'.1 a z with y|y
  ·rcases y with y|y|y
   ·exact .inl ((u a).mpr (.inl y))
   ·exact (sub a y).imp (λw=>(u a).mpr (.inr (.inl w))) id
   ·exact .inl ((u a).mpr (.inr (.inr y)))
  ·have y1:=aW s2 y
   cases e:H a with
   | none=>exact .inr rfl
   | some ob =>
    by_cases z2:SW a
    ·exact .inl ((u a).mpr (.inr (.inl z2)))
    ·rw[fr _ _ e z2]at y1;cases y1
 ·have n1:¬ SW a:=λz=>n ((u a).mpr (.inr (.inl z)));refine f'.2.1 a ob (s2 _ _ (fr _ _ e n1)) λz=>?_;rcases z with z|z|z
  ·exact n ((u a).mpr (.inl z))
  ·exact nSW _ _ e n1 z
  ·exact n ((u a).mpr (.inr (.inr z)))
class inductive GC(C CS CW CB:Addr)
 | mk (U:Addr->Prop) (x:Addr) (pe:iT) (aB:iU) (aL:iL) (nW:Nat) (bR:Row) (_:vs=[.ref x]) (_:qU C CS CW CB U H x pe aB aL nW bR) (_:Q (.int (aL.length:Nat)) H)
class inductive GD(C CS CW CB:Addr)
 | mk (U:Addr->Prop) (x r:Addr) (pe:iT) (aB:iU) (aL:iL) (nW:Nat) (bR row:Row) (_:vs=[.ref x,.ref r]) (_:qU C CS CW CB U H x pe aB aL nW bR) (_:cA H r row) (_:row.length<=1000) (_:rT aL.length row=true) (_:∀ H',aI H H'->Q .gj H')
theorem By:aH ["self"] ["self"] (aA qe):=eU
theorem rW:aH ["self","row"] ["self","row"] (aA iO):=eU
theorem AE:‹(2,60,["self"],(GC C CS CW CB))›:=λD=>by
 specialize eV D.ad0.F By;obtain⟨U,x,pe,aB,aL,nW,bR,rfl,⟨S,SW,d,wl,sh,bl,kn,du,bk,dS,st,op,dw,sg,ow,pw,db,tb,ops,LU⟩,k⟩:=h;exists _,(au (aJ (ff (cM (pv 0) rfl) D.lC D.Pc (mJ D) hr bO)));exact⟨Y,x,C,d,_,.ref wl,rfl,LU.L.hx,D.aQ.cl,D.zH,rfl,wl,dw,Y,LU.W.hx,rfl,wl,dw,sg,ow,pw,aL,rfl,LU.W.hx,LU.W.hs,k⟩
theorem kg:‹(3,61,["self","row"],(GD C CS CW CB))›:=λD=>by
 have Tz:bq P w K mg zt cL 2 _ _ E2 (GC C CS CW CB):=AE D;specialize eV D.WK.F rW;obtain⟨U,x,r,pe,aB,aL,nW,bR,row,rfl,LB,jT,lr,g,k1⟩:=h;obtain⟨S,SW,d,wl,sh,bl,kn,du,bk,dS,st,op,dw,sg,ow,pw,db,tb,ops,LU⟩:=id LB;exists _,(au (bN (gW (iM (cQ (cM (pv 0) rfl) D.lC D.Z3 (Bv D) hr bO (aa (pv 1) ah)))) (au iW) bg));refine⟨Y,x,C,d,_,.ref wl,rfl,LU.L.hx,D.aQ.cl,D.zH,rfl,wl,dw,Y,LU.W.hx,rfl,Y,SW,wl,dw,sg,ow,pw,r,nW,aL,row,rfl,LU.W,jT,lr,λH1 s1=>⟨Y,?_⟩⟩;rw[g];exact eO (k1 H1 s1)
abbrev ptW:List Nat:=(Str.ofString "put").cps.toList
class inductive TF(C CS CW CB:Addr)
 | mk (U:Addr->Prop) (x r:Addr) (pe:iT) (aB:iU) (aL:iL) (nW:Nat) (bR row:Row) (s p:Int) (rows:cU) (_:vs=[.ref x,.int s,.int p,.ref r]) (_:qU C CS CW CB U H x pe aB aL nW bR) (_:cA H r row) (_:MH row) (_:aL.length<=100000) (_:pe.getLast?=some rows) (_:rows.length<=50) (_:pe.length<=900) (_:aB.length<=900) (_:wB s) (_:wB p) (_:sQ rows.length s) (_:rT aL.length row=true) (_:(∃ sh,Seen rows sh/\(0<=p/\p<=(sh s).length)/\((∀ es,rows[s.toNat]?=some es->(∃ f,nP (jb rows s.toNat (fN sh p es (c9 (cG (b8 row))))) f)/\
  ∀ (U':Addr->Prop) (H':Hp),qU C CS CW CB U' H' x (pe++[jb rows s.toNat (fN sh p es (c9 (cG (b8 row))))]) (aB++[(jX.qH ptW [s,p] row).line]) aL nW bR->Jl U U' H H'->Q .gj H'))))
theorem tY:aH ["self","sheet","place","row","items"] ["self","sheet","place","row"] (aA qf):=eU
theorem C2(ns:List Int):jh (cP ns)=(ns.length:Int):=by rw[← sF _ (pG _),gB]
theorem C3{n:Nat}{row:Row}(h:rT n row=true):∀ p∈row,0<=p.1/\p.1<p.2/\p.2<=n:=λp hp=>by
 have z:=List.all_eq_true.mp h p hp;unfold Q3 at z;simpa [and_assoc] using z
theorem wB.big{s:Int}(h:wB s):s<10^60:=by
 obtain⟨_,h1⟩:=h;lia
theorem AF:‹(6,63,["self","sheet","place","row"],(TF C CS CW CB))›:=λD=>by
 refine eV D.Z9.F tY λcV A zn s0 H vs Q E hr h=>?_;obtain⟨U,x,r,pe,aB,aL,nW,bR,row,s,p,rows,rfl,LB,jT,fr,li,hl,l1,l2,l3,fs,fp,ia,g,k2⟩:=h;obtain⟨S,SW,d,wl,sh,bl,kn,du,bk,dS,st,op,dw,sg,ow,pw,db,tb,ops,LU⟩:=id LB;have lo:=jk LU.L hl;have hl':=dP hl;have lp:(iK pe).length=pe.length:=cy _;exists _,(aj (aU (aC D.Yb (gI D) hr (aa (cQ (pv 0) D.aQ D.Sy (kG D) hr bO (aa (pv 1) ah)) (aa (pv 2) (aa (pv 2) ah))))) (aj (aU (cQ (pv 0) D.aQ D.WK (kg D) hr bO (aa (pv 3) ah))) (aj (aV (i:=4) tY.nd (aC D.Sv (qB D) hr (aa (ff (cM (pv 0) rfl) D.cB D.Ag (dZ D) hr bO) (aa (pv 1) (aa (pv 2) (aa (aC D.DU (lF D) hr (aa (pv 3) ah)) ah)))))) (au (aU (cQ (pv 0) D.aQ D.F1 (d9 D) hr bO (aa (cH (aa bx (aa (pv 1) (aa (pv 2) (aa (pv 3) ah))))) (aa (pv 1) (aa (pv 4) ah)))))))));exists Y,x,d,Y,LU.L.hx,rfl,Y,S,x,d,wl,sh,bl,kn,du,bk,dS,st,op,pe,ops,aB,rows,s,rfl,LU.L,hl,l1,l2,ia;obtain⟨f0,sn,hpp,k6⟩:=k2;have ls:(f0 s).length<=10000:=sn.ln s ia.1 ia.2;have lr0:=mT (f0 s);refine⟨f0,sn,λo H1 ho s1 fo=>?_⟩;have z:Nd p p (jh (cP (f0 s))):=by rw[C2];exact⟨hpp.1,Int.le_refl _,hpp.2⟩
 refine⟨Y,Y,o,cP (f0 s),p,p,rfl,ho,Q,z,λH2 s2=>?_⟩;have jI:=s1.trans s2;have K9:=LU.same jI;have F2:=jT.same jI;refine⟨Y,x,d,Y,K9.L.hx,rfl,Y,U,x,r,pe,aB,aL,nW,bR,row,rfl,LB.same jI,F2,by have:=fr.1;lia,g,λH3 s3=>?_⟩;have w9:=jI.trans s3;have TH:=LU.same w9;have Mm:=jT.same w9;have hp:=C3 g;have sl:s.toNat<rows.length:=by have:=ia.1;have:=ia.2;lia
 obtain⟨es,es1⟩:∃ es,rows[s.toNat]?=some es:=⟨_,pS sl⟩;obtain⟨⟨fB,B⟩,k7⟩:=k6 _ es1;refine⟨Y,x,C,d,_,.ref sh,rfl,TH.L.hx,D.aQ.cl,D.eG,rfl,sh,dS,Y,TH.L.W.hx,rfl,S,sh,dS,st,op,iK pe,ops,rfl,TH.L.W,⟨Q,Q⟩,λQ4 el q H4 fs4 s4=>?_⟩;rw[hl']at el;cases el;obtain⟨fq,rs,hq,al⟩:=fs4
 have hR:fZ H4 q (rows.map aF):=by
  exists rs.map V.ref,hq
  have key:∀ {as:List Addr} {ds:List (List aP)},bS (λr aM=>H3 r=none/\r≠q/\bH H4 (.ref r) aM) as ds->bS (bH H4) (as.map V.ref) ds:=by
   intro as ds z
   induction z with
   | nil=>exact .nil
   | cons o t ih=>exact .cons o.2.2 ih
  exact key al
 have Yj:=Mm.same s4;refine⟨Y,Y,Y,r,row,rfl,Yj,by have:=fr.1;lia,λoi H5 hoi s5 foi=>?_⟩;have nn:l6 row:=λp' Nf=>⟨(hp p' Nf).1,by have:=(hp p' Nf).2.1;lia⟩;refine⟨q,oi,rows,s,p,_,f0,rfl,⟨hR.same s5,Q,sn.es,sn.sd,sn.rk,sn.ss,sn.ln⟩,ia.1,ia.2,hoi,rQ (mR nn),?_,hpp,λes q2 H6 mX dN s6 Np=>?_⟩
 ·unfold cG;rw[cy];have:=jA row;have:=fr.1;lia
 rw[es1]at mX;cases mX;have UT:aI H H6:=w9.trans (s4.trans (s5.trans s6));have Qd:=LU.same UT
 have Qe:q2≠bk:=λe=>by
  have y:=(LU.same (w9.trans (s4.trans s5))).L.hb;rw[← e,Np]at y;cases y
 refine⟨Y,x,d,Y,Qd.L.hx,rfl,Y,Y,Y,DT,λt ht=>?_⟩;have s7:=ak ht (.tup [.str "put",.int s,.int p,.ref r]);have ht7:(aN H6 t (.tup [.str "put",.int s,.int p,.ref r])) t=some (.tup [.str "put",.int s,.int p,.ref r]):=af;generalize aN H6 t (.tup [.str "put",.int s,.int p,.ref r])=H7 at s7 ht7;have s17:=UT.trans s7;have LU7:=LU.same s17;have ss:((s.toNat:Nat):Int)=s:=by have:=ia.1;lia
 refine⟨Y,Y,S,x,d,wl,sh,bl,kn,du,bk,dS,st,op,pe,ops,aB,t,q2,.qH ptW [s,p] row,s.toNat,_,rows,fB,by rw[ss];rfl,LU7.L,⟨r,by rw[ht7,rO];rfl,jT.same s17⟩,⟨(by show mj Yk ptW=some 2;decide +kernel),?_,fr⟩,dN.same s7,Qe,hl,by have:=ia.2;have:=ia.1;lia,l1,l2,l3,B,λS' H8 L8 Fw=>?_⟩
 ·intro y hy;have b1:=ia.1;have b2:=hpp.1;rcases List.mem_cons.mp hy with e|e
  ·rw[e];exact⟨b1,fs.big⟩
  ·rw[List.mem_singleton.mp e];exact⟨b2,fp.big⟩
 ·obtain⟨U',hL',f'⟩:=LU7.mK L8 Fw;exact k7 U' H8 hL' (f'.pre s17)
theorem We.lH{S:Addr->Prop}{H H':Hp}{x d s p l:Addr}{n:Nat}{aL:iL}{fs:List (Str × V)}(h:We C S H x d s o p n aL)(hl:H l=some (.ins C' d' fs))(nl:¬ S l)(k:cD l H H'):We C S H' x d s o p n aL :=
 h.fr (λa ob e z=>k a ob e (λq=>nl (by rw[← q];exact z))) (λa xs e=>k _ _ e (dY e hl))
theorem cA.lH{H H':Hp}{r l:Addr}{row:Row}{fs:List (Str × V)}(h:cA H r row)(hl:H l=some (.ins C' d' fs))(k:cD l H H'):cA H' r row :=
 h.two (λxs e=>k _ _ e (dY e hl)) (λa xs e=>k _ _ e (dY e hl))
theorem pM{H:Hp}{dw a:Addr}{o:HO}(e:(aN (aN H dw (.own xw)) xw o) a=none):H a=none:=by
 by_cases z1:a=xw
 ·rw[z1,af]at e;cases e
 rw[aK z1]at e;by_cases z2:a=dw
 ·rw[z2,af]at e;cases e
 rw[aK z2]at e;exact e
class inductive C4(C CS CW CB:Addr)
 | mk (x d:Addr) (_:vs=[.ref x]) (_:H x=some (.ins C d [])) (_: ∀ (U:Addr->Prop) (H':Hp),qU C CS CW CB U H' x [[]] [] [] 0 []->(∀ a,U a->a=x\/H a=none)->cD x H H'->Q .gj H')
theorem uW:aH ["self"] ["self"] (aA jN):=eU
theorem sZ:‹(3,53,["self"],(C4 C CS CW CB))›:=λD=>by
 specialize eV D.Z5.F uW;obtain⟨x,d,rfl,hx,k⟩:=h;refine⟨_,(aj (jq (pv 0) (pD D.lC.X7 (xG D) (hr.mono (by decide)) rfl D.lC.m D.Z1.b .nil bO) rfl) (aj (jq (pv 0) (pD D.cB.X7 (vZ D) (hr.mono (by decide)) rfl D.cB.m D.ZW.b .nil bO) rfl) (aj (jq (pv 0) (pD D.Ae.X7 (vJ D) (hr.mono (by decide)) rfl D.Ae.m D.dq9.b .nil bO) rfl) (aj (jq (pv 0) (pD D.CH.X7 (xE D) (hr.mono (by decide)) rfl D.CH.m D.ZZ.b .nil bO) rfl) (aj (jq (pv 0) (pD D.F0.X7 (xD D) (hr.mono (by decide)) rfl D.F0.m D.Z0.b .nil bO) rfl) (au (jq (pv 0) (bL ah) rfl))))))),?_⟩;intro wl dw hw1 hw2 _;refine⟨wl,dw,rfl,af,λsg ow pw H1 V1 k1 fsg fow fpw=>⟨rfl,?_⟩⟩;have s1:=mW hw1 hw2 k1
 have fW:∀ a,(a=wl\/a=sg\/a=ow\/a=pw)->H a=none:=λa e=>by
  rcases e with rfl|rfl|rfl|rfl
  ·exact hw1
  ·exact pM fsg
  ·exact pM fow
  ·exact pM fpw
 have Xr:¬ (x=wl\/x=sg\/x=ow\/x=pw):=λe=>by
  have:=fW x e;rw[hx]at this;cases this
 exists Y,x,C,d,Y,s1 _ _ hx,D.aQ.cl,D.zH,E;have q2:cD x H (aN H1 x (.ins C d (L2.eE "well" (.ref wl) []))):=cD.trans (gA.aI.keep s1) (aG x _ _);have x2:(aN H1 x (.ins C d (L2.eE "well" (.ref wl) []))) x=some (.ins C d [("well",.ref wl)]):=af;have kx2:cD x H1 (aN H1 x (.ins C d (L2.eE "well" (.ref wl) []))):=aG x _ _;generalize aN H1 x (.ins C d (L2.eE "well" (.ref wl) []))=H2 at q2 x2 kx2;have V2:=V1.lH (s1 _ _ hx) Xr kx2;intro sh dS Xk Lv _;refine⟨sh,dS,rfl,af,λst op z H3 W3 k3 fst fop fz=>⟨rfl,?_⟩⟩;have s3:=mW Xk Lv k3
 have up:∀ a,(aN (aN H2 dS (.own sh)) sh (.ins CS dS [])) a=none->H2 a=none:=λa e=>by
  by_cases z1:a=sh
  ·rw[z1,af]at e;cases e
  rw[aK z1]at e;by_cases z2:a=dS
  ·rw[z2,af]at e;cases e
  rw[aK z2]at e;exact e
 have fS:∀ a,(a=sh\/a=st\/a=op\/a=z)->H2 a=none:=λa e=>by
  rcases e with rfl|rfl|rfl|rfl
  ·exact Xk
  ·exact up _ fst
  ·exact up _ fop
  ·exact up _ fz
 have Xs:¬ (x=sh\/x=st\/x=op\/x=z):=λe=>by
  have:=fS x e;rw[x2]at this;cases this
 have x3:=s3 _ _ x2;have V3:=V2.same s3;refine⟨Y,x,C,d,Y,x3,D.aQ.cl,D.eG,(by show 1<1000;decide),?_⟩;have k4:cD x H3 (aN H3 x (.ins C d (L2.eE "shelf" (.ref sh) [("well",.ref wl)]))):=aG x _ _;have x4:(aN H3 x (.ins C d (L2.eE "shelf" (.ref sh) [("well",.ref wl)]))) x=some (.ins C d [("well",.ref wl),("shelf",.ref sh)]):=af;generalize aN H3 x (.ins C d (L2.eE "shelf" (.ref sh) [("well",.ref wl)]))=H4 at k4 x4;have W4:=W3.lH x3 Xs k4;have V4:=V3.lH x3 Xr k4;have q4:cD x H H4:=(q2.trans (gA.aI.keep s3)).trans k4;intro bl db EZ QY _;refine⟨bl,db,rfl,af,λtb H5 B5 R5 k5 ftb=>⟨rfl,?_⟩⟩;have s5:=mW EZ QY k5;have Xu:=pM ftb;have x5:=s5 _ _ x4;have W5:=W4.same s5;have V5:=V4.same s5;have Qf:bl≠x:=(az x4 EZ).symm;refine⟨Y,x,C,d,Y,x5,D.aQ.cl,D.DC,(by show 2<1000;decide),?_⟩;have k6:cD x H5 (aN H5 x (.ins C d (L2.eE "blots" (.ref bl) [("well",.ref wl),("shelf",.ref sh)]))):=aG x _ _;have x6:(aN H5 x (.ins C d (L2.eE "blots" (.ref bl) [("well",.ref wl),("shelf",.ref sh)]))) x=some (.ins C d [("well",.ref wl),("shelf",.ref sh),("blots",.ref bl)]):=af;generalize aN H5 x (.ins C d (L2.eE "blots" (.ref bl) [("well",.ref wl),("shelf",.ref sh)]))=H6 at k6 x6;have W6:=W5.lH x5 Xs k6;have V6:=V5.lH x5 Xr k6;have B6:Bl CB H6 bl db tb:=k6 _ _ B5 Qf;have R6:=R5.lH x5 k6;have q6:cD x H H6:=(q4.trans (gA.aI.keep s5)).trans k6;intro kn dk hk1 hk2 _;refine⟨kn,dk,rfl,af,λfs7 H7 _ k7=>⟨rfl,?_⟩⟩;have s7:=mW hk1 hk2 k7;have x7:=s7 _ _ x6;have W7:=W6.same s7;have V7:=V6.same s7;have B7:Bl CB H7 bl db tb:=s7 _ _ B6;have R7:=R6.same s7;refine⟨Y,x,C,d,Y,x7,D.aQ.cl,D.DE,(by show 3<1000;decide),?_⟩;have k8:cD x H7 (aN H7 x (.ins C d (L2.eE "knots" (.ref kn) [("well",.ref wl),("shelf",.ref sh),("blots",.ref bl)]))):=aG x _ _;have x8:(aN H7 x (.ins C d (L2.eE "knots" (.ref kn) [("well",.ref wl),("shelf",.ref sh),("blots",.ref bl)]))) x=some (.ins C d [("well",.ref wl),("shelf",.ref sh),("blots",.ref bl),("knots",.ref kn)]):=af;generalize aN H7 x (.ins C d (L2.eE "knots" (.ref kn) [("well",.ref wl),("shelf",.ref sh),("blots",.ref bl)]))=H8 at k8 x8;have W8:=W7.lH x7 Xs k8;have V8:=V7.lH x7 Xr k8;have B8:Bl CB H8 bl db tb:=k8 _ _ B7 Qf;have R8:=R7.lH x7 k8;have q8:cD x H H8:=(q6.trans (gA.aI.keep s7)).trans k8;intro du dd L4 hd2 _;refine⟨du,dd,rfl,af,λfs9 H9 _ k9=>⟨rfl,?_⟩⟩;have s9:=mW L4 hd2 k9;have x9:=s9 _ _ x8;have W9:=W8.same s9;have V9:=V8.same s9;have B9:Bl CB H9 bl db tb:=s9 _ _ B8;have R9:=R8.same s9;refine⟨Y,x,C,d,Y,x9,D.aQ.cl,D.Kr,(by show 4<1000;decide),?_⟩;have Yn:cD x H9 (aN H9 x (.ins C d (L2.eE "dues" (.ref du) [("well",.ref wl),("shelf",.ref sh),("blots",.ref bl),("knots",.ref kn)]))):=aG x _ _;have Yo:(aN H9 x (.ins C d (L2.eE "dues" (.ref du) [("well",.ref wl),("shelf",.ref sh),("blots",.ref bl),("knots",.ref kn)]))) x=some (.ins C d [("well",.ref wl),("shelf",.ref sh),("blots",.ref bl),("knots",.ref kn),("dues",.ref du)]):=af;generalize aN H9 x (.ins C d (L2.eE "dues" (.ref du) [("well",.ref wl),("shelf",.ref sh),("blots",.ref bl),("knots",.ref kn)]))=Nc at Yn Yo;have W10:=W9.lH x9 Xs Yn;have V10:=V9.lH x9 Xr Yn;have B10:Bl CB Nc bl db tb:=Yn _ _ B9 Qf;have R10:=R9.lH x9 Yn;have Ce:cD x H Nc:=(q8.trans (gA.aI.keep s9)).trans Yn;refine⟨gU,λbk UU=>⟨Y,x,C,d,Y,ak UU _ _ _ Yo,D.aQ.cl,D.Fl,(by show 5<1000;decide),?_⟩⟩;have nbx:bk≠x:=(az Yo UU).symm
 have nSb:¬ (bk=sh\/bk=st\/bk=op\/bk=z):=λe=>by
  obtain⟨ob,w⟩:=W10.al bk e;rw[UU]at w;cases w
 have wA:=ak UU (.lst []);have k12:cD x (aN Nc bk (.lst [])) (aN (aN Nc bk (.lst [])) x (.ins C d (L2.eE "book" (.ref bk) [("well",.ref wl),("shelf",.ref sh),("blots",.ref bl),("knots",.ref kn),("dues",.ref du)]))):=aG x _ _;have W12:=(W10.same wA).lH (wA _ _ Yo) Xs k12;have V12:=(V10.same wA).lH (wA _ _ Yo) Xr k12;have B12:=k12 _ _ (wA _ _ B10) Qf;have R12:=(R10.same wA).lH (wA _ _ Yo) k12;obtain⟨as5,hR5,_⟩:=id R5;have aa9:∀ a,(a=sh\/a=st\/a=op\/a=z)->a=x\/H a=none:=λa e=>.inr (iD q2 (λe'=>by rw[e']at e;exact Xs e) (fS a e));refine k (λa=>(a=sh\/a=st\/a=op\/a=z)\/(a=wl\/a=sg\/a=ow\/a=pw)\/a=bk\/a=x\/a=bl\/a=tb) _ ⟨P,d,wl,sh,bl,kn,du,bk,dS,st,op,dw,sg,ow,pw,db,tb,[],⟨af,W12,?_,Xs,nSb⟩,V12,B12,R12,?_,?_,?_,?_,λa=>Iff.rfl⟩ ?_ ((Ce.trans (gA.aI.keep wA)).trans k12)
 ·rw[aK nbx];exact af
 ·exact⟨.nil,λ_ z=>by cases z⟩
 ·intro a ea;obtain⟨ob,hob⟩:=V2.al a ea;refine⟨λes=>?_,λeb=>?_,λex=>?_⟩
  ·rw[fS a es]at hob;cases hob
  ·obtain⟨ob',w⟩:=V10.al a ea;rw[eb,UU]at w;cases w
  ·rw[ex]at ea;exact Xr ea
 ·refine⟨λes=>?_,λew=>?_,λeb=>?_⟩
  ·obtain⟨ob,w⟩:=W4.al bl es;rw[EZ]at w;cases w
  ·obtain⟨ob,w⟩:=V4.al bl ew;rw[EZ]at w;cases w
  ·rw[eb]at B10;have aba:Nc bk=some _:=B10;rw[UU]at aba;cases aba
 ·refine⟨λes=>?_,λew=>?_,λeb=>?_⟩
  ·obtain⟨ob,w⟩:=W4.al tb es;rw[Xu]at w;cases w
  ·obtain⟨ob,w⟩:=V4.al tb ew;rw[Xu]at w;cases w
  ·obtain⟨as,hR,_⟩:=id R10;rw[eb,UU]at hR;cases hR
 ·intro a ea;rcases ea with ea|ea|ea|ea|ea|ea
  ·exact aa9 a ea
  ·exact .inr (fW a ea)
  ·rw[ea];exact .inr (iD Ce nbx UU)
  ·exact .inl ea
  ·rw[ea];exact .inr (iD q4 Qf EZ)
  ·by_cases ex:a=x
   ·exact .inl ex
   ·rw[ea]at ex ⊢;exact .inr (iD q4 ex Xu)
theorem Tg.at_{H H':Hp}{q:Addr}{rows:List (List aP)}(h:Tg H H' q rows):fZ H' q rows:=by
 obtain⟨_,rs,hq,al⟩:=h;exists rs.map V.ref,hq
 have key:∀ {as:List Addr} {ds:List (List aP)},bS (λr aM=>H r=none/\r≠q/\bH H' (.ref r) aM) as ds->bS (bH H') (as.map V.ref) ds:=by
  intro as ds z
  induction z with
  | nil=>exact .nil
  | cons o t ih=>exact .cons o.2.2 ih
 exact key al
abbrev ctW:List Nat:=(Str.ofString "cut").cps.toList
abbrev qtW:List Nat:=(Str.ofString "quote").cps.toList
class inductive TJ(C CS CW CB:Addr)
 | mk (U:Addr->Prop) (x:Addr) (pe:iT) (aB:iU) (aL:iL) (nW:Nat) (bR:Row) (s a b:Int) (rows:cU) (_:vs=[.ref x,.int s,.int a,.int b]) (_:qU C CS CW CB U H x pe aB aL nW bR) (_:pe.getLast?=some rows) (_:rows.length<=50) (_:pe.length<=900) (_:aB.length<=900) (_:wB s) (_:wB a) (_:wB b)
  (_:sQ rows.length s) (_:∃ sh,Seen rows sh/\Nd a b (sh s).length/\(∀ es,rows[s.toNat]?=some es->(∃ f,nP (jb rows s.toNat (bV sh a b es)) f)/\
  ∀ (U':Addr->Prop) (H':Hp),qU C CS CW CB U' H' x (pe++[jb rows s.toNat (bV sh a b es)]) (aB++[(jX.plain ctW [s,a,b]).line]) aL nW bR->Jl U U' H H'->Q .gj H'))
class inductive MT(C CS CW CB:Addr)
 | mk (U:Addr->Prop) (x:Addr) (pe:iT) (aB:iU) (aL:iL) (nW:Nat) (bR:Row) (t p s a b:Int) (rows:cU) (_:vs=[.ref x,.int t,.int p,.int s,.int a,.int b]) (_:qU C CS CW CB U H x pe aB aL nW bR) (_:pe.getLast?=some rows) (_:rows.length<=50) (_:pe.length<=900) (_:aB.length<=900) (_:wB t) (_:wB p) (_:wB s) (_:wB a) (_:wB b)
  (_:sQ rows.length t) (_:sQ rows.length s) (_:(∃ sh,Seen rows sh/\Nd a b (sh s).length/\((0<=p/\p<=(sh t).length)/\(∀ es,rows[t.toNat]?=some es->(∃ f,nP (jb rows t.toNat (fN sh p es (((sh s).take b.toNat).drop a.toNat))) f)/\
  ∀ (U':Addr->Prop) (H':Hp),qU C CS CW CB U' H' x (pe++[jb rows t.toNat (fN sh p es (((sh s).take b.toNat).drop a.toNat))]) (aB++[(jX.plain qtW [t,p,s,a,b]).line]) aL nW bR->Jl U U' H H'->Q .gj H'))))
class inductive Qg(C CS:Addr)
 | mk (S:Addr->Prop) (x d wl sh bl kn du bk dS st op:Addr) (pe:iT) (ops:List Int) (aB:iU) (rows:cU) (s:Int) (_:vs=[.ref x,.int s]) (_:gJ C CS S H x d wl sh bl kn du bk dS st op (iK pe) ops aB) (_:pe.getLast?=some rows) (_:rows.length<=50) (_:pe.length<=900)
  (_:sQ rows.length s) (_:∀ es,rows[s.toNat]?=some es->∀ (q:Addr) (H':Hp),bH H' (.ref q) (aF es)->aI H H'->H q=none->Q (.ref q) H')
theorem tZ:aH ["self","sheet","start","stop","items"] ["self","sheet","start","stop"] (aA qg):=eU
theorem AG:‹(6,65,["self","sheet","start","stop"],(TJ C CS CW CB))›:=λD=>by
 refine eV D.aaa.F tZ λcV A zn s0 H vs Q E hr h=>?_;obtain⟨U,x,pe,aB,aL,nW,bR,s,a,b,rows,rfl,LB,hl,l1,l2,l3,fs,fa,fb,ia,k2⟩:=h;obtain⟨S,SW,d,wl,sh,bl,kn,du,bk,dS,st,op,dw,sg,ow,pw,db,tb,ops,LU⟩:=id LB;have lo:=jk LU.L hl;have hl':=dP hl;have lp:(iK pe).length=pe.length:=cy _;have ok:Jk (iK pe) ops:=⟨Q,Q⟩;exists _,(aj (aU (cQ (cM (pv 0) rfl) D.cB D.Af (cu D) hr bO (aa (pv 1) ah))) (aj (aV (i:=4) tZ.nd (aC D.ZR (D6 D) hr (aa (ff (cM (pv 0) rfl) D.cB D.Ag (dZ D) hr bO) (aa (pv 1) (aa (pv 2) (aa (pv 3) ah)))))) (au (aU (cQ (pv 0) D.aQ D.F1 (d9 D) hr bO (aa (cH (aa bx (aa (pv 1) (aa (pv 2) (aa (pv 3) ah))))) (aa (pv 1) (aa (pv 4) ah))))))));refine⟨Y,x,C,d,_,.ref sh,rfl,LU.L.hx,D.aQ.cl,D.eG,rfl,sh,dS,Y,LU.L.W.hx,rfl,Y,S,sh,dS,st,op,iK pe,ops,s,rfl,LU.L.W,by rw[lo];exact ia,?_⟩;obtain⟨f0,sn,i3,k4⟩:=k2;refine⟨Y,x,C,d,_,.ref sh,rfl,LU.L.hx,D.aQ.cl,D.eG,rfl,sh,dS,Y,LU.L.W.hx,rfl,S,sh,dS,st,op,iK pe,ops,rfl,LU.L.W,ok,λQ4 el q H1 MS s1=>?_⟩;rw[hl']at el;cases el;have sl:s.toNat<rows.length:=by have:=ia.1;have:=ia.2;lia
 obtain⟨es,es1⟩:∃ es,rows[s.toNat]?=some es:=⟨_,pS sl⟩;refine⟨Y,Y,Y,q,rows,s,a,b,f0,rfl,⟨MS.at_,Q,sn.es,sn.sd,sn.rk,sn.ss,sn.ln⟩,ia.1,ia.2,i3,λwz q2 H2 mX dN s2 Np=>?_⟩;rw[es1]at mX;cases mX;obtain⟨⟨fB,B⟩,k5⟩:=k4 es es1;have jI:=s1.trans s2;have K9:=LU.same jI
 have Qe:q2≠bk:=λe=>by
  have y:=(LU.same s1).L.hb;rw[← e,Np]at y;cases y
 refine⟨Y,x,d,Y,K9.L.hx,rfl,Y,Y,Y,DT,λt ht=>?_⟩;have s3:=ak ht (.tup [.str "cut",.int s,.int a,.int b]);have Nn:(aN H2 t (.tup [.str "cut",.int s,.int a,.int b])) t=some (.tup [.str "cut",.int s,.int a,.int b]):=af;generalize aN H2 t (.tup [.str "cut",.int s,.int a,.int b])=H3 at s3 Nn;have w9:=jI.trans s3;have TH:=LU.same w9;have ss:((s.toNat:Nat):Int)=s:=by have:=ia.1;lia
 refine⟨Y,Y,S,x,d,wl,sh,bl,kn,du,bk,dS,st,op,pe,ops,aB,t,q2,.plain ctW [s,a,b],s.toNat,_,rows,fB,by rw[ss];rfl,TH.L,(by show H3 t=_;rw[Nn,rO];rfl),⟨(by show mj S9 ctW=some 3;decide +kernel),?_⟩,dN.same s3,Qe,hl,Q,l1,l2,l3,B,λS' H8 L8 Fw=>?_⟩
 ·intro y hy;have b1:=ia.1;unfold Nd at i3;rcases List.mem_cons.mp hy with e|hy
  ·rw[e];exact⟨b1,fs.big⟩
  rcases List.mem_cons.mp hy with e|hy
  ·rw[e];exact⟨Q,fa.big⟩
  ·rw[List.mem_singleton.mp hy];exact⟨Q,fb.big⟩
 ·obtain⟨U',hL',f'⟩:=TH.mK L8 Fw;exact k5 U' H8 hL' (f'.pre w9)
theorem lV:aH ["self","target","place","source","start","stop","row","items"] ["self","target","place","source","start","stop"] (aA nv):=eU
theorem xM:‹(6,66,["self","target","place","source","start","stop"],(MT C CS CW CB))›:=λD=>by
 refine eV D.aab.F lV λcV A zn s0 H vs Q E hr h=>?_;obtain⟨U,x,pe,aB,aL,nW,bR,t,p,s,a,b,rows,rfl,LB,hl,l1,l2,l3,ft,fp,fs,fa,fb,it,ia,k4⟩:=h;obtain⟨S,SW,d,wl,sh,bl,kn,du,bk,dS,st,op,dw,sg,ow,pw,db,tb,ops,LU⟩:=id LB;have lo:=jk LU.L hl;have hl':=dP hl;have lp:(iK pe).length=pe.length:=cy _;have ok:Jk (iK pe) ops:=⟨Q,Q⟩;exists _,(aj (aU (cQ (cM (pv 0) rfl) D.cB D.Af (cu D) hr bO (aa (pv 1) ah))) (aj (aV (i:=6) lV.nd (aC D.dq8 (SE D) hr (aa (cQ (pv 0) D.aQ D.Sy (kG D) hr bO (aa (pv 3) ah)) (aa (pv 4) (aa (pv 5) ah))))) (aj (aV (i:=7) lV.nd (aC D.Sv (qB D) hr (aa (ff (cM (pv 0) rfl) D.cB D.Ag (dZ D) hr bO) (aa (pv 1) (aa (pv 2) (aa (aC D.DU (lF D) hr (aa (pv 6) ah)) ah)))))) (au (aU (cQ (pv 0) D.aQ D.F1 (d9 D) hr bO (aa (cH (aa bx (aa (pv 1) (aa (pv 2) (aa (pv 3) (aa (pv 4) (aa (pv 5) ah))))))) (aa (pv 1) (aa (pv 7) ah)))))))));refine⟨Y,x,C,d,_,.ref sh,rfl,LU.L.hx,D.aQ.cl,D.eG,rfl,sh,dS,Y,LU.L.W.hx,rfl,Y,S,sh,dS,st,op,iK pe,ops,t,rfl,LU.L.W,by rw[lo];exact it,?_⟩;exists Y,x,d,Y,LU.L.hx,rfl,Y,S,x,d,wl,sh,bl,kn,du,bk,dS,st,op,pe,ops,aB,rows,s,rfl,LU.L,hl,l1,l2,ia;obtain⟨f0,sn,i3,ip,k8⟩:=k4;refine⟨f0,sn,λo H1 ho s1 fo=>?_⟩;have ls:(f0 s).length<=10000:=sn.ln s ia.1 ia.2;have lr0:=mT (f0 s);have tt:jh (cP (f0 s))=(f0 s).length:=C2 _;refine⟨Y,Y,o,cP (f0 s),a,b,rfl,ho,Q,by rw[tt];exact i3,λq0 H2 V0 s2 fq0=>?_⟩;have jI:=s1.trans s2;have K9:=LU.same jI;refine⟨Y,x,C,d,_,.ref sh,rfl,K9.L.hx,D.aQ.cl,D.eG,rfl,sh,dS,Y,K9.L.W.hx,rfl,S,sh,dS,st,op,iK pe,ops,rfl,K9.L.W,ok,λQ4 el q H3 fs3 s3=>?_⟩;rw[hl']at el;cases el;have w9:=jI.trans s3;have tl:t.toNat<rows.length:=by have:=it.1;have:=it.2;lia
 obtain⟨es,es1⟩:∃ es,rows[t.toNat]?=some es:=⟨_,pS tl⟩;have nnp:∀ {r:Row},jR r->l6 r:=λh p hp=>⟨(h p hp).1,by have:=(h p hp).2;lia⟩;have nn0:l6 (cP (f0 s)):=nnp (Cw (pK sn.sd sn.rk sn.ss s ia.1 ia.2));have nn1:l6 (b8 (lI a b 0 (cP (f0 s)))):=nnp (mR (Aa a b _ 0 nn0))
 have lpl:(b8 (lI a b 0 (cP (f0 s)))).length<=10000:=by
  have:=sN a b (cP (f0 s));rw[zf]at this;lia
 have epl:c9 (cG (b8 (b8 (lI a b 0 (cP (f0 s))))))=((f0 s).take b.toNat).drop a.toNat:=by
  rw[nI,jz _ λq hq=>(nn1 q hq).2,qv _ _ _ (pG _),gB]
 refine⟨Y,Y,Y,q0,Y,V0.same s3,Q,λoi H4 hoi s4 foi=>?_⟩;have C1:=w9.trans s4;refine⟨q,oi,rows,t,p,_,f0,rfl,⟨fs3.at_.same s4,Q,sn.es,sn.sd,sn.rk,sn.ss,sn.ln⟩,it.1,it.2,hoi,rQ (mR nn1),?_,ip,λwz q2 H5 mX dN s5 Np=>?_⟩
 ·rw[zf];have:=jA (b8 (lI a b 0 (cP (f0 s))));lia
 rw[es1]at mX;cases mX;rw[epl]at dN;obtain⟨⟨fB,B⟩,k9⟩:=k8 es es1;have Qh:=C1.trans s5;have Yp:=LU.same Qh
 have Qe:q2≠bk:=λe=>by
  have y:=(LU.same C1).L.hb;rw[← e,Np]at y;cases y
 refine⟨Y,x,d,Y,Yp.L.hx,rfl,Y,Y,Y,Y,Y,ZF,λt' ht=>?_⟩;have s6:=ak ht (.tup [.str "quote",.int t,.int p,.int s,.int a,.int b]);have UW:(aN H5 t' (.tup [.str "quote",.int t,.int p,.int s,.int a,.int b])) t'=some (.tup [.str "quote",.int t,.int p,.int s,.int a,.int b]):=af;generalize aN H5 t' (.tup [.str "quote",.int t,.int p,.int s,.int a,.int b])=H6 at s6 UW;have UT:=Qh.trans s6;have Qd:=LU.same UT;have ss:((t.toNat:Nat):Int)=t:=by have:=it.1;lia
 refine⟨Y,Y,S,x,d,wl,sh,bl,kn,du,bk,dS,st,op,pe,ops,aB,t',q2,.plain qtW [t,p,s,a,b],t.toNat,_,rows,fB,by rw[ss];rfl,Qd.L,(by show H6 t'=_;rw[UW,rO];rfl),⟨(by show mj S9 qtW=some 5;decide +kernel),?_⟩,dN.same s6,Qe,hl,Q,l1,l2,l3,B,λS' H8 L8 Fw=>?_⟩
 ·intro y hy;have b1:=ia.1;have b2:=it.1;unfold Nd at i3;rcases List.mem_cons.mp hy with e|hy
  ·rw[e];exact⟨b2,ft.big⟩
  rcases List.mem_cons.mp hy with e|hy
  ·rw[e];exact⟨ip.1,fp.big⟩
  rcases List.mem_cons.mp hy with e|hy
  ·rw[e];exact⟨b1,fs.big⟩
  rcases List.mem_cons.mp hy with e|hy
  ·rw[e];exact⟨Q,fa.big⟩
  ·rw[List.mem_singleton.mp hy];exact⟨Q,fb.big⟩
 ·obtain⟨U',hL',f'⟩:=Qd.mK L8 Fw;exact k9 U' H8 hL' (f'.pre UT)
theorem BA:aH ["self","sheet"] ["self","sheet"] (aA qh):=eU
theorem AH:‹(4,67,["self","sheet"],(Qg C CS))›:=λD=>by
 refine eV D.aac.F BA λcV A zn s0 H vs Q E hr h=>?_;obtain⟨S,x,d,wl,sh,bl,kn,du,bk,dS,st,op,pe,ops,aB,rows,s,rfl,L,hl,l1,l2,ia,k2⟩:=h;have lo:=jk L hl;have hl':=dP hl;have lp:(iK pe).length=pe.length:=cy _;exists _,(au (aJ (cQ (cM (pv 0) rfl) D.cB D.ZY (Eb D) hr bO (aa (pv 1) ah))));refine⟨Y,x,C,d,_,.ref sh,rfl,L.hx,D.aQ.cl,D.eG,rfl,sh,dS,Y,L.W.hx,rfl,Y,S,sh,dS,st,op,iK pe,ops,s,rfl,L.W,by rw[lo];exact ia,λsi last aM e1 e2 e3=>?_⟩;rw[hl']at e2;cases e2;rw[mY]at e3;obtain⟨es,e4,rfl⟩:=Option.map_eq_some_iff.mp e3;have il:=(List.getElem?_eq_some_iff.mp e4).1;exact λq H' hq s1 fq=>k2 es (by rw[e1,Int.toNat_natCast];exact e4) q H' hq s1 fq
abbrev wnW:List Nat:=(Str.ofString "window").cps.toList
class inductive Qi(C CS CW CB:Addr)
 | mk (U:Addr->Prop) (x:Addr) (pe:iT) (aB:iU) (aL:iL) (nW:Nat) (bR:Row) (t p s:Int) (rows:cU) (_:vs=[.ref x,.int t,.int p,.int s]) (_:qU C CS CW CB U H x pe aB aL nW bR) (_:pe.getLast?=some rows) (_:rows.length<=50) (_:pe.length<=900) (_:aB.length<=900) (_:wB t) (_:wB p) (_:wB s)
  (_:sQ rows.length t) (_:sQ rows.length s) (_:(∃ sh,Seen rows sh/\(0<=p/\p<=(sh t).length)/\(∀ es,rows[t.toNat]?=some es->(∃ f,nP (jb rows t.toNat (fN sh p es [-1-s])) f)/\
  ∀ (U':Addr->Prop) (H':Hp),qU C CS CW CB U' H' x (pe++[jb rows t.toNat (fN sh p es [-1-s])]) (aB++[(jX.plain wnW [t,p,s]).line]) aL nW bR->Jl U U' H H'->Q .gj H')))
theorem pN:aH ["self","target","place","source","items"] ["self","target","place","source"] (aA lP):=eU
theorem v8:‹(6,68,["self","target","place","source"],(Qi C CS CW CB))›:=λD=>by
 refine eV D.aad.F pN λcV A zn s0 H vs Q E hr h=>?_;obtain⟨U,x,pe,aB,aL,nW,bR,t,p,s,rows,rfl,LB,hl,l1,l2,l3,ft,fp,fs,it,ia,k4⟩:=h;obtain⟨S,SW,d,wl,sh,bl,kn,du,bk,dS,st,op,dw,sg,ow,pw,db,tb,ops,LU⟩:=id LB;have lo:=jk LU.L hl;have hl':=dP hl;have lp:(iK pe).length=pe.length:=cy _;have ok:Jk (iK pe) ops:=⟨Q,Q⟩;exists _,(aj (aU (cQ (cM (pv 0) rfl) D.cB D.Af (cu D) hr bO (aa (pv 1) ah))) (aj (aU (cQ (cM (pv 0) rfl) D.cB D.Af (cu D) hr bO (aa (pv 3) ah))) (aj (aV (i:=4) pN.nd (aC D.Sv (qB D) hr (aa (ff (cM (pv 0) rfl) D.cB D.Ag (dZ D) hr bO) (aa (pv 1) (aa (pv 2) (aa (bL (aa (cH (aa bx (aa (pv 3) ah))) ah)) ah)))))) (au (aU (cQ (pv 0) D.aQ D.F1 (d9 D) hr bO (aa (cH (aa bx (aa (pv 1) (aa (pv 2) (aa (pv 3) ah))))) (aa (pv 1) (aa (pv 4) ah)))))))));refine⟨Y,x,C,d,_,.ref sh,rfl,LU.L.hx,D.aQ.cl,D.eG,rfl,sh,dS,Y,LU.L.W.hx,rfl,Y,S,sh,dS,st,op,iK pe,ops,t,rfl,LU.L.W,by rw[lo];exact it,?_⟩;refine⟨Y,x,C,d,_,.ref sh,rfl,LU.L.hx,D.aQ.cl,D.eG,rfl,sh,dS,Y,LU.L.W.hx,rfl,Y,S,sh,dS,st,op,iK pe,ops,s,rfl,LU.L.W,by rw[lo];exact ia,?_⟩;obtain⟨f0,sn,ip,k8⟩:=k4;refine⟨Y,x,C,d,_,.ref sh,rfl,LU.L.hx,D.aQ.cl,D.eG,rfl,sh,dS,Y,LU.L.W.hx,rfl,S,sh,dS,st,op,iK pe,ops,rfl,LU.L.W,ok,λQ4 el q H1 MS s1=>?_⟩;rw[hl']at el;cases el;have tl:t.toNat<rows.length:=by have:=it.1;have:=it.2;lia
 obtain⟨es,es1⟩:∃ es,rows[t.toNat]?=some es:=⟨_,pS tl⟩;refine⟨Y,Y,Y,lu,λt2 Iz=>⟨mD,λo ho=>?_⟩⟩;have s2:=ak Iz (.tup [.str "win",.int s]);have t2':(aN H1 t2 (.tup [.str "win",.int s])) t2=some (.tup [.str "win",.int s]):=af;generalize aN H1 t2 (.tup [.str "win",.int s])=H2 at s2 t2' ho;have s3:=ak ho (.lst [.ref t2]);have o3:(aN H2 o (.lst [.ref t2])) o=some (.lst [.ref t2]):=af;show yh _ (aN H2 o (.lst [.ref t2])) _ _;generalize aN H2 o (.lst [.ref t2])=H3 at s3 o3;have w9:=s1.trans (s2.trans s3);have hoi:bH H3 (.ref o) [.win s]:=⟨o,Y,o3,.cons ⟨t2,rfl,s3 _ _ t2'⟩ .nil⟩;refine⟨q,o,rows,t,p,[.win s],f0,rfl,⟨MS.at_.same (s2.trans s3),Q,sn.es,sn.sd,sn.rk,sn.ss,sn.ln⟩,it.1,it.2,hoi,.one ia.1,(by show 1<=10000;decide),ip,λwz q2 H5 mX dN s5 Np=>?_⟩;rw[es1]at mX;cases mX;rw[show c9 [aP.win s]=[-1-s] from rfl]at dN;obtain⟨⟨fB,B⟩,k9⟩:=k8 es es1;have Qh:=w9.trans s5;have Yp:=LU.same Qh
 have Qe:q2≠bk:=λe=>by
  have y:=(LU.same w9).L.hb;rw[← e,Np]at y;cases y
 refine⟨Y,x,d,Y,Yp.L.hx,rfl,Y,Y,Y,DT,λt' ht=>?_⟩;have s6:=ak ht (.tup [.str "window",.int t,.int p,.int s]);have UW:(aN H5 t' (.tup [.str "window",.int t,.int p,.int s])) t'=some (.tup [.str "window",.int t,.int p,.int s]):=af;generalize aN H5 t' (.tup [.str "window",.int t,.int p,.int s])=H6 at s6 UW;have UT:=Qh.trans s6;have Qd:=LU.same UT;have ss:((t.toNat:Nat):Int)=t:=by have:=it.1;lia
 refine⟨Y,Y,S,x,d,wl,sh,bl,kn,du,bk,dS,st,op,pe,ops,aB,t',q2,.plain wnW [t,p,s],t.toNat,_,rows,fB,by rw[ss];rfl,Qd.L,(by show H6 t'=_;rw[UW,rO];rfl),⟨(by show mj S9 wnW=some 3;decide +kernel),?_⟩,dN.same s6,Qe,hl,Q,l1,l2,l3,B,λS' H8 L8 Fw=>?_⟩
 ·intro y hy;have b1:=ia.1;have b2:=it.1;rcases List.mem_cons.mp hy with e|hy
  ·rw[e];exact⟨b2,ft.big⟩
  rcases List.mem_cons.mp hy with e|hy
  ·rw[e];exact⟨ip.1,fp.big⟩
  ·rw[List.mem_singleton.mp hy];exact⟨b1,fs.big⟩
 ·obtain⟨U',hL',f'⟩:=Qd.mK L8 Fw;exact k9 U' H8 hL' (f'.pre UT)
abbrev fxW:List Nat:=(Str.ofString "fix").cps.toList
class inductive abb(C CS CW CB:Addr)
 | mk (U:Addr->Prop) (x:Addr) (pe:iT) (aB:iU) (aL:iL) (nW:Nat) (bR:Row) (t:Int) (rows:cU) (_:vs=[.ref x,.int t]) (_:qU C CS CW CB U H x pe aB aL nW bR) (_:pe.getLast?=some rows) (_:rows.length<=50) (_:pe.length<=900) (_:aB.length<=900) (_:wB t)
  (_:sQ rows.length t) (_:∃ sh,Seen rows sh/\(∃ f,nP (jb rows t.toNat (sh t)) f)/\
  ∀ (U':Addr->Prop) (H':Hp),qU C CS CW CB U' H' x (pe++[jb rows t.toNat (sh t)]) (aB++[(jX.plain fxW [t]).line]) aL nW bR->Jl U U' H H'->Q .gj H')
theorem BB:aH ["self","sheet"] ["self","sheet"] (aA qj):=eU
theorem AI:‹(6,69,["self","sheet"],(abb C CS CW CB))›:=λD=>by
 refine eV D.aae.F BB λcV A zn s0 H vs Q E hr h=>?_;obtain⟨U,x,pe,aB,aL,nW,bR,t,rows,rfl,LB,hl,l1,l2,l3,ft,it,k2⟩:=h;obtain⟨S,SW,d,wl,sh,bl,kn,du,bk,dS,st,op,dw,sg,ow,pw,db,tb,ops,LU⟩:=id LB;have lo:=jk LU.L hl;have hl':=dP hl;have lp:(iK pe).length=pe.length:=cy _;have ok:Jk (iK pe) ops:=⟨Q,Q⟩;exists _,(aj (aU (cQ (cM (pv 0) rfl) D.cB D.Af (cu D) hr bO (aa (pv 1) ah))) (au (aU (cQ (pv 0) D.aQ D.F1 (d9 D) hr bO (aa (cH (aa bx (aa (pv 1) ah))) (aa (pv 1) (aa (aC D.ZT (As D) hr (aa (ff (cM (pv 0) rfl) D.cB D.Ag (dZ D) hr bO) (aa (pv 1) ah))) ah)))))));refine⟨Y,x,C,d,_,.ref sh,rfl,LU.L.hx,D.aQ.cl,D.eG,rfl,sh,dS,Y,LU.L.W.hx,rfl,Y,S,sh,dS,st,op,iK pe,ops,t,rfl,LU.L.W,by rw[lo];exact it,?_⟩;obtain⟨f0,sn,⟨fB,B⟩,k9⟩:=k2;refine⟨Y,x,d,Y,LU.L.hx,rfl,Y,lu,λt' ht=>?_⟩;have s6:=ak ht (.tup [.str "fix",.int t]);have UW:(aN H t' (.tup [.str "fix",.int t])) t'=some (.tup [.str "fix",.int t]):=af;generalize aN H t' (.tup [.str "fix",.int t])=H6 at s6 UW;have Qd:=LU.same s6;refine⟨Y,Y,x,C,d,_,.ref sh,rfl,Qd.L.hx,D.aQ.cl,D.eG,rfl,sh,dS,Y,Qd.L.W.hx,rfl,S,sh,dS,st,op,iK pe,ops,rfl,Qd.L.W,ok,λQ4 el q H1 MS s1=>?_⟩;rw[hl']at el;cases el;refine⟨Y,q,rows,t,f0,rfl,⟨MS.at_,Q,sn.es,sn.sd,sn.rk,sn.ss,sn.ln⟩,it.1,it.2,λq2 H5 dN s5 Np=>?_⟩;have Qh:=s6.trans (s1.trans s5);have Yp:=LU.same Qh
 have Qe:q2≠bk:=λe=>by
  have y:=(LU.same (s6.trans s1)).L.hb;rw[← e,Np]at y;cases y
 have ss:((t.toNat:Nat):Int)=t:=by have:=it.1;lia
 have tl:t.toNat<rows.length:=by have:=it.1;have:=it.2;lia
 refine⟨S,x,d,wl,sh,bl,kn,du,bk,dS,st,op,pe,ops,aB,t',q2,.plain fxW [t],t.toNat,_,rows,fB,by rw[ss];rfl,Yp.L,(by show H5 t'=_;rw[s5 _ _ (s1 _ _ UW),rO];rfl),⟨(by show mj S9 fxW=some 1;decide +kernel),?_⟩,dN,Qe,hl,Q,l1,l2,l3,B,λS' H8 L8 Fw=>?_⟩
 ·intro y hy;rw[List.mem_singleton.mp hy];exact⟨it.1,ft.big⟩
 ·obtain⟨U',hL',f'⟩:=Yp.mK L8 Fw;exact k9 U' H8 hL' (f'.pre Qh)
abbrev mvW:List Nat:=(Str.ofString "move").cps.toList
class inductive Xv(C CS CW CB:Addr)
 | mk (U:Addr->Prop) (x:Addr) (pe:iT) (aB:iU) (aL:iL) (nW:Nat) (bR:Row) (s a b to:Int) (rows:cU) (_:vs=[.ref x,.int s,.int a,.int b,.int to]) (_:qU C CS CW CB U H x pe aB aL nW bR) (_:pe.getLast?=some rows) (_:rows.length<=50) (_:pe.length<=900) (_:aB.length<=900) (_:wB s) (_:(-100000<a/\a<100000)) (_:(-100000<b/\b<100000)) (_:(-100000<to/\to<100000))
  (_:sQ rows.length s) (_:∃ sh,Seen rows sh/\Mv a b to (sh s).length/\(∀ es,rows[s.toNat]?=some es->(∃ f,nP (jb rows s.toNat (mE sh a b to es)) f)/\
  ∀ (U':Addr->Prop) (H':Hp),qU C CS CW CB U' H' x (pe++[jb rows s.toNat (mE sh a b to es)]) (aB++[(jX.plain mvW [s,a,b,to]).line]) aL nW bR->Jl U U' H H'->Q .gj H'))
theorem rX:aH ["self","sheet","start","stop","to","items"] ["self","sheet","start","stop","to"] (aA oO):=eU
theorem yM:‹(6,70,["self","sheet","start","stop","to"],(Xv C CS CW CB))›:=λD=>by
 refine eV D.aaf.F rX λcV A zn s0 H vs Q E hr h=>?_;obtain⟨U,x,pe,aB,aL,nW,bR,s,a,b,to,rows,rfl,LB,hl,l1,l2,l3,fs,fa,fb,fo,ia,k2⟩:=h;obtain⟨S,SW,d,wl,sh,bl,kn,du,bk,dS,st,op,dw,sg,ow,pw,db,tb,ops,LU⟩:=id LB;have lo:=jk LU.L hl;have hl':=dP hl;have lp:(iK pe).length=pe.length:=cy _;have ok:Jk (iK pe) ops:=⟨Q,Q⟩;exists _,(aj (aU (cQ (cM (pv 0) rfl) D.cB D.Af (cu D) hr bO (aa (pv 1) ah))) (aj (aV (i:=5) rX.nd (aC D.ZS (Ar D) hr (aa (ff (cM (pv 0) rfl) D.cB D.Ag (dZ D) hr bO) (aa (pv 1) (aa (pv 2) (aa (pv 3) (aa (pv 4) ah))))))) (au (aU (cQ (pv 0) D.aQ D.F1 (d9 D) hr bO (aa (cH (aa bx (aa (pv 1) (aa (pv 2) (aa (pv 3) (aa (pv 4) ah)))))) (aa (pv 1) (aa (pv 5) ah))))))));refine⟨Y,x,C,d,_,.ref sh,rfl,LU.L.hx,D.aQ.cl,D.eG,rfl,sh,dS,Y,LU.L.W.hx,rfl,Y,S,sh,dS,st,op,iK pe,ops,s,rfl,LU.L.W,by rw[lo];exact ia,?_⟩;obtain⟨f0,sn,i3,k4⟩:=k2;refine⟨Y,x,C,d,_,.ref sh,rfl,LU.L.hx,D.aQ.cl,D.eG,rfl,sh,dS,Y,LU.L.W.hx,rfl,S,sh,dS,st,op,iK pe,ops,rfl,LU.L.W,ok,λQ4 el q H1 MS s1=>?_⟩;rw[hl']at el;cases el;have sl:s.toNat<rows.length:=by have:=ia.1;have:=ia.2;lia
 obtain⟨es,es1⟩:∃ es,rows[s.toNat]?=some es:=⟨_,pS sl⟩;refine⟨Y,Y,Y,Y,q,rows,s,a,b,to,f0,rfl,⟨MS.at_,Q,sn.es,sn.sd,sn.rk,sn.ss,sn.ln⟩,ia.1,ia.2,i3,λwz q2 H2 mX dN s2 Np=>?_⟩;rw[es1]at mX;cases mX;obtain⟨⟨fB,B⟩,k5⟩:=k4 es es1;have jI:=s1.trans s2;have K9:=LU.same jI
 have Qe:q2≠bk:=λe=>by
  have y:=(LU.same s1).L.hb;rw[← e,Np]at y;cases y
 refine⟨Y,x,d,Y,K9.L.hx,rfl,Y,Y,Y,Y,Ws,λt ht=>?_⟩;have s3:=ak ht (.tup [.str "move",.int s,.int a,.int b,.int to]);have Nn:(aN H2 t (.tup [.str "move",.int s,.int a,.int b,.int to])) t=some (.tup [.str "move",.int s,.int a,.int b,.int to]):=af;generalize aN H2 t (.tup [.str "move",.int s,.int a,.int b,.int to])=H3 at s3 Nn;have w9:=jI.trans s3;have TH:=LU.same w9;have ss:((s.toNat:Nat):Int)=s:=by have:=ia.1;lia
 refine⟨Y,Y,S,x,d,wl,sh,bl,kn,du,bk,dS,st,op,pe,ops,aB,t,q2,.plain mvW [s,a,b,to],s.toNat,_,rows,fB,by rw[ss];rfl,TH.L,(by show H3 t=_;rw[Nn,rO];rfl),⟨(by show mj S9 mvW=some 4;decide +kernel),?_⟩,dN.same s3,Qe,hl,Q,l1,l2,l3,B,λS' H8 L8 Fw=>?_⟩
 ·intro y hy;have b1:=ia.1;have i4:=i3.1;have i5:=i3.2;unfold Nd at i4;rcases List.mem_cons.mp hy with e|hy
  ·rw[e];exact⟨b1,fs.big⟩
  rcases List.mem_cons.mp hy with e|hy
  ·rw[e];exact⟨Q,(wB.Xf fa).big⟩
  rcases List.mem_cons.mp hy with e|hy
  ·rw[e];exact⟨Q,(wB.Xf fb).big⟩
  ·rw[List.mem_singleton.mp hy];exact⟨Q,(wB.Xf fo).big⟩
 ·obtain⟨U',hL',f'⟩:=TH.mK L8 Fw;exact k5 U' H8 hL' (f'.pre w9)
class inductive C5(C CS:Addr)
 | mk (S:Addr->Prop) (x d wl sh bl kn du bk dS st op:Addr) (pe:iT) (ops:List Int) (aB:iU) (rows:cU) (si:Nat) (f:Int->Int) (_:vs=[.ref x,.int (si:Nat)]) (_:gJ C CS S H x d wl sh bl kn du bk dS st op (iK pe) ops aB) (_:pe.getLast?=some rows) (_:rows.length<=50) (_:pe.length<=900) (_:si<rows.length) (_:nP rows f) (_:∀ H',aI H H'->Q (.int (f (si:Nat))) H')
theorem xN:aH ["self","sheet"] ["self","sheet"] (aA lQ):=eU
theorem v9:‹(5,71,["self","sheet"],(C5 C CS))›:=λD=>by
 specialize eV D.aag.F xN;obtain⟨S,x,d,wl,sh,bl,kn,du,bk,dS,st,op,pe,ops,aB,rows,si,f,rfl,L,hl,l1,l2,sl,B,k⟩:=h;have lo:=jk L hl;have lp:(iK pe).length=pe.length:=cy _;have hl':=dP hl;exists _,(aj (aU (cQ (cM (pv 0) rfl) D.cB D.Af (cu D) hr bO (aa (pv 1) ah))) (au (aJ (fG.qy D.Wz (D.T.yC _ D.Wz.m) (Mu D) hr (aa (ff (cM (pv 0) rfl) D.cB D.Ag (dZ D) hr bO) (aa (pv 1) ah))))));exists Y,x,C,d,_,.ref sh,rfl,L.hx,D.aQ.cl,D.eG,rfl,sh,dS,Y,L.W.hx,rfl,Y,S,sh,dS,st,op,iK pe,ops,(si:Int),rfl,L.W,⟨Q,Q⟩;refine⟨Y,x,C,d,_,.ref sh,rfl,L.hx,D.aQ.cl,D.eG,rfl,sh,dS,Y,L.W.hx,rfl,S,sh,dS,st,op,iK pe,ops,rfl,L.W,⟨Q,Q⟩,λQ4 el q H1 MS s1=>?_⟩;rw[hl']at el;cases el;exact⟨Y,q,rows,(si:Int),f,rfl,MS.at_,Q,B.es,B.sd,B.rk,Q,Q,B.wt,λH2 s2=>k H2 (s1.trans s2)⟩
abbrev stW:List Nat:=(Str.ofString "strike").cps.toList
theorem Jo(X:List (List aP))(r:List (Nat × List aP))(c:Nat × List aP):mH X (r++[c])=Xi (mH X r) c:=by
 unfold mH;rw[List.foldl_append];rfl
def ou(g:Nat->List aP)(n:Nat):List (Nat × List aP):=(List.range n).map λi=>(i,g i)
theorem AJ{g:Nat->List aP}{n:Nat}:ou g (n+1)=ou g n++[(n,g n)]:=by
 unfold ou;rw[List.range_succ,gw];rfl
theorem AK{X:List (List aP)}{g:Nat->List aP}:∀ n:Nat,n<=X.length->mH X (ou g n)=(List.range n).map g++X.drop n
 | 0,_=>rfl
 | n+1,h=>by
  rw[AJ,Jo,AK n ∅];have l:((List.range n).map g).length=n:=by rw[cy,List.length_range]
  have e:X.drop n=X[n]::X.drop (n+1):=List.drop_eq_getElem_cons ∅;unfold Xi;rw[List.take_append_of_le_length ∅,ua ∅,List.drop_append,l,ve ∅,show n+1-n=1 by lia,e,List.drop_succ_cons,List.drop_zero,List.range_succ,gw,List.nil_append];rfl
class inductive GF(C CS CW CB:Addr)
 | mk (U:Addr->Prop) (x r:Addr) (pe:iT) (aB:iU) (aL:iL) (nW:Nat) (bR row:Row) (rows:cU) (sh:Int->List Int) (_:vs=[.ref x,.ref r]) (_:qU C CS CW CB U H x pe aB aL nW bR) (_:cA H r row) (_:row.length<3) (_:MH row) (_:pe.getLast?=some rows) (_:rows.length<=50) (_:pe.length<=900) (_:aB.length<=900) (_:rT aL.length row=true) (_:Seen rows sh) (_:∀ (U':Addr->Prop) (H':Hp),qU C CS CW CB U' H' x (pe++[rows.map (nK row)]) (aB++[(jX.qH stW [] row).line]) aL nW bR->Jl U U' H H'->Q .gj H')
theorem pO:aH ["self","row","rows"] ["self","row"] (aA jg):=eU
theorem oz:‹(5,72,["self","row"],(GF C CS CW CB))›:=λD=>by
 refine eV D.aah.F pO λcV A zn s0 H vs Q E hr h=>?_;obtain⟨U,x,r,pe,aB,aL,nW,bR,row,rows,f0,rfl,LB,jT,r3,fr,hl,l1,l2,l3,g,sn,k⟩:=h;obtain⟨S,SW,d,wl,sh,bl,kn,du,bk,dS,st,op,dw,sg,ow,pw,db,tb,ops,LU⟩:=id LB;have lo:=jk LU.L hl;have hl':=dP hl;have lp:(iK pe).length=pe.length:=cy _;refine⟨_,(aj (aU (cQ (pv 0) D.aQ D.WK (kg D) hr bO (aa (pv 1) ah))) (aj (aV (i:=2) pO.nd (ff (cM (pv 0) rfl) D.cB D.Ag (dZ D) hr bO)) (au (aU (cQ (pv 0) D.aQ D.Sx (kF D) hr bO (aa (cH (aa bx (aa (pv 1) ah))) (aa (gH (N:=["sheet","row","rows"]) (om (sc:=aA jg) (NX:=["self","row","rows"]) (jx:=[none,some 1,some 2]) rfl rfl rfl nofun nofun rfl nofun rfl nofun) rfl (gK rfl D.T.jj (aa (eX D.T.eN (pv 2)) ah)) (λ_ _ _ _ _ _=>(ck (i:=0) (show List.Nodup (["sheet","row","rows"]:List Str) by decide +kernel))) (λ_ _ _ _ _ _=>ji) (λ_ _ _ _ _ _=>(cH (aa (pv 0) (aa (aC D.ZU (yD D) hr (aa (pv 2) (aa (pv 0) (aa (pv 1) ah)))) ah))))) ah))))))),?_⟩;refine⟨Y,x,d,Y,LU.L.hx,rfl,Y,U,x,r,pe,aB,aL,nW,bR,row,rfl,LB,jT,by have:=fr.1;lia,g,λH1 s1=>?_⟩;have LU1:=LU.same s1;refine⟨Y,x,C,d,_,.ref sh,rfl,LU1.L.hx,D.aQ.cl,D.eG,rfl,sh,dS,Y,LU1.L.W.hx,rfl,S,sh,dS,st,op,iK pe,ops,rfl,LU1.L.W,⟨Q,Q⟩,λQ4 el q H2 fs2 s2=>?_⟩;rw[hl']at el;cases el;have R2:=fs2.at_;obtain⟨fq,rs,hq,al⟩:=fs2;have lrs:rs.length=rows.length:=by rw[al.len,cy]
 have jI:=s1.trans s2;have K9:=LU.same jI;refine⟨Y,x,d,Y,K9.L.hx,rfl,Y,lu,λt ht=>?_⟩;have s3:=ak ht (.tup [.str "strike",.ref r]);have Nn:(aN H2 t (.tup [.str "strike",.ref r])) t=some (.tup [.str "strike",.ref r]):=af;generalize aN H2 t (.tup [.str "strike",.ref r])=H3 at s3 Nn ⊢;have w9:=jI.trans s3;have sJ:=s3 _ _ hq;have UA:=(LU.same w9).L.hb;have hp:=C3 g;obtain⟨gg,hgg⟩:∃ gg:Nat->List aP,gg=λi=>aF (nK row ((rows[i]?).getD [])):=⟨Y⟩
 have kI:∀ {H4 H5:Hp} {acc:Addr} {xs:List V} {v:V} {aM:List aP},H4 acc=some (.lst xs)->cD acc H4 H5->v≠.ref acc->bH H4 v aM->bH H5 v aM:=λha kk n h=>by
  obtain⟨b,IX,rfl,hb,al⟩:=h;exact⟨b,IX,rfl,kk _ _ hb (λz=>n (by rw[z])),al.mono λv j h=>h.keep ha kk⟩
 refine⟨Y,q,Y,.inl (bI.of sJ),Y,Q,(by rw[cy];lia),λacc cR=>rM (lo:=0) (k:=(((rs.map V.ref).length:Nat):Int).toNat) (λi σ H4=>∃ (u:Option V) (cs:List Addr),σ=[u,some (.ref r),some (.ref q)]/\H4 acc=some (.lst (cs.map V.ref))/\bS (λa ch=>∃ r',H4 a=some (.tup [.int (ch.1:Nat),.ref r'])/\r'≠bk/\r'≠acc/\bH H4 (.ref r') ch.2) cs (ou gg i)/\aI H3 H4) ⟨none,[],rfl,af,.nil,ak cR _⟩ ?_ ?_⟩
 ·rintro i σ H4 hi ⟨u,cs,rfl,h4,a4,s4⟩;rw[Int.toNat_natCast,cy,lrs]at hi;have lc:=a4.len;unfold ou at lc;rw[cy,List.length_range]at lc;obtain⟨es,mX⟩:∃ es,rows[i]?=some es:=⟨_,pS hi⟩;have s34:=s3.trans s4;rw[Int.zero_add];refine VZ (jH ⟨Y,Y,Y,Y,q,r,rows,(i:Nat),f0,row,rfl,⟨R2.same s34,Q,sn.es,sn.sd,sn.rk,sn.ss,sn.ln⟩,Q,Q,(jT.same w9).same s4,by have:=fr.1;lia,(λp h=>by have:=hp p h;lia),λes2 o H5 Qj ho s5 fo=>?_⟩);rw[Int.toNat_natCast,mX]at Qj;cases Qj;have h5:=s5 _ _ h4;refine⟨lu,λtt htt=>?_⟩;have s6:=ak htt (.tup [.int (i:Nat),.ref o]);have h6:=s6 _ _ h5;refine⟨_,h6,(by rw[cy];exact aR ∅),_,cs++[tt],rfl,?_,?_,bP cR (s4.trans (s5.trans s6)) (aG acc _ _)⟩
  ·rw[af,gw];rfl
  have K7:=aG acc (aN H5 tt (.tup [.int (i:Nat),.ref o])) (.lst (cs.map V.ref++[.ref tt]));have noa:o≠acc:=(az h4 fo).symm;rw[AJ];refine bS.snoc (a4.mono λa ch ⟨r',e1,e2,e3,e4⟩=>⟨r',K7 _ _ (s6 _ _ (s5 _ _ e1)) (dY (s6 _ _ (s5 _ _ e1)) h6 (by intro z;cases z)),e2,e3,kI h6 K7 (λz=>e3 (V.ref.inj z)) ((e4.same s5).same s6)⟩) ⟨o,K7 _ _ af (az h5 htt).symm,?_,noa,?_⟩
  ·exact (az (s4 _ _ UA) fo).symm
  ·have eg:gg i=aF (nK row es):=by rw[hgg];show aF (nK row ((rows[i]?).getD []))=_;rw[mX];rfl
   show bH _ (.ref o) (gg i);rw[eg];exact kI h6 K7 (λz=>noa (V.ref.inj z)) (ho.same s6)
 ·rintro σ H4 ⟨u,cs,rfl,h4,a4,s4⟩;rw[Int.toNat_natCast,cy,lrs]at a4;have C1:=w9.trans s4;have LU4:=LU.same C1;have lX:(rows.map aF).length=rows.length:=cy _
  have eA:mH (rows.map aF) (ou gg rows.length)=(rows.map (nK row)).map aF:=by
   rw[AK _ ∅,ve ∅,gP,List.map_map];refine List.ext_getElem? λj=>?_;rw[mY,mY];by_cases c:j<rows.length
   ·rw[List.getElem?_range c,hgg];show some (aF (nK row ((rows[j]?).getD [])))=_;rw[pS c];rfl
   ·rw[List.getElem?_eq_none (by rw[List.length_range];lia),List.getElem?_eq_none ∅];rfl
  have lA:(ou gg rows.length).length=rows.length:=by unfold ou;rw[cy,List.length_range]
  have nac:acc≠bk:=(az UA cR).symm;refine⟨S,x,d,wl,sh,bl,kn,du,bk,dS,st,op,iK pe,ops,aB,t,acc,.qH stW [] row,cs,ou gg rows.length,rows.map aF,rfl,LU4.L,⟨r,by rw[s4 _ _ Nn,rO];rfl,jT.same C1⟩,⟨(by show mj Yk stW=some 0;decide +kernel),(λ_ z=>by cases z),fr⟩,h4,nac,a4.mono λa ch ⟨r',e1,P,e4⟩=>⟨r',e1,e4⟩,?_,hl',?_,Q,Q,Q,Q,λS' H5 L5 QV=>?_⟩
  ·intro a ha s r2 e;obtain⟨j,hj⟩:=List.mem_iff_getElem?.mp ha;obtain⟨ch,_,r',e1,e2,_⟩:=a4.get hj;rw[e1]at e;cases e;exact e2
  ·intro j ch ej;have jl:=(List.getElem?_eq_some_iff.mp ej).1;rw[lA]at jl
   have et:(ou gg rows.length).take j=ou gg j:=by
    unfold ou;rw[← List.map_take,List.take_range,Nat.min_eq_left ∅]
   have ec:ch.1=j:=by
    unfold ou at ej;rw[mY,List.getElem?_range jl]at ej;cases ej;rfl
   rw[et,AK _ ∅,ec,cY,cy,List.length_range];lia
  ·rw[eA]at L5
   have ep:iK pe++[(rows.map (nK row)).map aF]=iK (pe++[rows.map (nK row)]):=by
    show _=(pe++[rows.map (nK row)]).map _;rw[gw];rfl
   have eo:ops++List.replicate (((rows.map (nK row)).map aF).length-(rows.map aF).length) (((iK pe).length:Nat):Int)=ops:=by
    rw[cy,cy,cy,Nat.sub_self];exact gP _
   rw[ep,eo]at L5;obtain⟨U',hL',f'⟩:=LU4.mK L5 QV;exact k U' H5 hL' (f'.pre C1)
class inductive TL(C:Addr)
 | mk (S:Addr->Prop) (x d st op:Addr) (bJ:kC) (ops:List Int) (si mi:Nat) (rows:List (List aP)) (_:vs=[.ref x,.int (si:Nat),.int (mi:Nat)]) (_:Sh C S H x d st op bJ ops) (_:bJ[mi]?=some rows) (_:si<rows.length) (_:Q .gj H)
theorem uX:aH ["self","sheet","moment"] ["self","sheet","moment"] (aA jO):=eU
theorem tF:‹(3,73,["self","sheet","moment"],(TL CS))›:=λD=>by
 specialize eV D.aai.F uX;obtain⟨S,x,d,st,op,bJ,ops,j,i,rows,rfl,W,er,jr,k⟩:=h;have il:=(List.getElem?_eq_some_iff.mp er).1;have jl:=qN jr (W.Nm.less i _ er);have eo:ops[j]?=some ops[j]:=pS jl;obtain⟨_,_,fit⟩:=W.Nm.fit j _ eo;have iff:=(fit i _ er).mpr jr;exists _,(aj (aU (cQ (pv 0) D.cB D.Af (cu D) hr bO (aa (pv 1) ah))) (aj (aU (cQ (pv 0) D.cB D.WH (j9 D) hr bO (aa (pv 2) ah))) (au (bN (aT j8 (pv 2) (aO bu (cM (pv 0) rfl) (pv 1)) (aZ _)) (au iW) bg))));exists Y,x,d,Y,W.hx,rfl,Y,S,x,d,st,op,bJ,ops,Y,W,⟨Q,Q⟩;exists Y,x,d,Y,W.hx,rfl,Y,S,x,d,st,op,bJ,ops,Y,W,⟨Q,Q⟩;exact⟨Y,Y,x,CS,d,_,.ref op,rfl,W.hx,D.cB.cl,D.mQ,rfl,Y,op,K,V,bI.of W.ho,cO (by rw[mY,eo];rfl),Z,Y,cN (λc0=>absurd iff (by have:=of_decide_eq_true c0;lia)) (λ_=>k)⟩
class inductive La(C CS CW CB:Addr)
 | mk (U:Addr->Prop) (x:Addr) (pe:iT) (aB:iU) (aL:iL) (nW:Nat) (bR:Row) (s m:Nat) (rows last:cU) (sh:Int->List Int) (_:vs=[.ref x,.int (s:Nat),.int (m:Nat)]) (_:qU C CS CW CB U H x pe aB aL nW bR) (_:pe[m]?=some rows) (_:s<rows.length) (_:rows.length<=50) (_:pe.length<=900) (_:pe.getLast?=some last) (_:last.length<=50) (_:Seen rows sh) (_:∀ (o:Addr) (H':Hp),cA H' o (cP (sh (s:Nat)))->aI H H'->H o=none->Q (.ref o) H')
theorem rY:aH ["self","sheet","moment"] ["self","sheet","moment"] (aA iP):=eU
theorem qS:‹(5,74,["self","sheet","moment"],(La C CS CW CB))›:=λD=>by
 specialize eV D.aaj.F rY;obtain⟨U,x,pe,aB,aL,nW,bR,s,m,rows,last,f0,rfl,LB,er,sr,l1,l2,hl,l3,sn,k⟩:=h;obtain⟨S,SW,d,wl,sh,bl,kn,du,bk,dS,st,op,dw,sg,ow,pw,db,tb,ops,LU⟩:=id LB;have L:=LU.L;have lo:=jk L hl;have lp:(iK pe).length=pe.length:=cy _;have ml:=(List.getElem?_eq_some_iff.mp er).1
 have er':(iK pe)[m]?=some (rows.map aF):=by
  show (pe.map _)[m]?=_;rw[mY,er];rfl
 exists _,(aj (aU (cQ (cM (pv 0) rfl) D.cB D.aai (tF D) hr bO (aa (pv 1) (aa (pv 2) ah)))) (au (aJ (fG.qy D.IT (D.T.nF _ D.IT.m) (Am D) hr (aa (cQ (cM (pv 0) rfl) D.cB D.WI (nL D) hr bO (aa (pv 2) ah)) (aa (pv 1) ah))))));refine⟨Y,x,C,d,_,.ref sh,rfl,L.hx,D.aQ.cl,D.eG,rfl,sh,dS,Y,L.W.hx,rfl,Y,Y,S,sh,dS,st,op,iK pe,ops,s,m,Y,L.W,er',by rw[cy];exact sr,?_⟩;refine⟨Y,x,C,d,_,.ref sh,rfl,L.hx,D.aQ.cl,D.eG,rfl,sh,dS,Y,L.W.hx,rfl,Y,S,sh,dS,st,op,iK pe,ops,(m:Nat),rfl,L.W,⟨Q,Q⟩,⟨Q,Q⟩,λmi Q4 em el q H1 MS s1=>?_⟩;obtain rfl:m=mi:=by lia
 rw[er']at el;cases el;exact⟨Y,q,rows,(s:Nat),f0,rfl,MS.at_,Q,sn.es,sn.sd,sn.rk,Q,Q,sn.ss,sn.ln,λo H2 ho s2 fo=>k o H2 ho (s1.trans s2) (aW s1 fo)⟩
theorem Qk{z:Str}{i:Int}{n:Nat}(hn:z.length=n)(h0:0<=i)(h1:i<n):∃ c,pU z.cps.toList i=some c:=by
 have hl:i.toNat<z.cps.toList.length:=by
  have:z.cps.toList.length=z.length:=by show _=z.cps.size;simp
  lia
 exists z.cps.toList[i.toNat];have e:pU z.cps.toList ((i.toNat:Nat):Int)=some z.cps.toList[i.toNat]:=cO (by simp);rw[Int.toNat_of_nonneg h0]at e;exact e
class inductive TM
 | mk (l c:Addr) (b:Bool) (_:vs=[.ref l,.bl b]) (_:dB H l c) (_: ∀ (ch:Nat) (H':Hp),dB H' l c->(∀ a,a≠l->H' a=H a)->Q (CC ch) H')
class inductive TN
 | mk (l c:Addr) (m:Nat) (_:vs=[.ref l,.int (m:Nat)]) (_:dB H l c) (_:m<=1000) (_: ∀ (cs:List Nat) (H':Hp),cs.length=m->dB H' l c->cD l H H'->Q (.str (fO cs)) H')
theorem yl:aH ["_law_src_here","_law_few","_law_some"] ["_law_src_here","_law_few"] (aA uC):=eU
theorem yo:aH ["_law_src_here","_law_many","_law_few"] ["_law_src_here","_law_many"] (aA qm):=eU
theorem GG:‹(2,75,["_law_src_here","_law_few"],TM)›:=λD=>by
 specialize eV D.aak.F yl;obtain⟨l,c,b,rfl,S,k⟩:=h;refine⟨_,(aj (aV (i:=2) yl.nd bx) (aj (bN (kQ (pv 1) (λ_=>rfl)) (au (aJ (aO NY bx (aC D.xm (gf D) hr (aa (pv 0) (aa ay ah)))))) bg) (au (aJ (aO NY (pv 2) (aC D.xm (gf D) hr (aa (pv 0) (aa ay ah)))))))),?_⟩;refine⟨Y,b,rfl,cN (λ_=>?_) (λ_=>?_)⟩
 ·refine⟨Y,l,c,4,rfl,S,E,E,λv H1 a0 a1 S1 k1=>?_⟩;obtain⟨ch,e⟩:=Qk (z:=Str.ofString "a# b") (n:=4) nofun a0 a1;exact⟨P,ch,V,nofun,e,k ch H1 S1 k1⟩
 ·refine⟨Y,Y,l,c,94,rfl,S,E,E,λv H1 a0 a1 S1 k1=>?_⟩;obtain⟨ch,e⟩:=Qk (z:=Str.ofString " !\"#$&'()*+,-./0123456789:;<=>?@ABCDEFGHIJKLMNOPQRSTUVWXYZ[\\]^_`abcdefghijklmnopqrstuvwxyz{|}~") (n:=94) nofun a0 a1;exact⟨P,ch,V,nofun,e,k ch H1 S1 k1⟩
theorem GH:‹(3,76,["_law_src_here","_law_many"],TN)›:=λD=>by
 specialize eV D.aal.F yo;obtain⟨l,c,m,rfl,S,hm,k⟩:=h;refine⟨_,(aj (aV (i:=2) yo.nd (nZ d7 (aC D.xm (gf D) hr (aa (pv 0) (aa ay ah))) ay (aZ _))) (au (aJ (dJ PySem.F.plainAttrs_str PySem.F.slot_str_join PySem.F.type_str_join O1 bx (aa (gH (N:=["_law_k","_law_src_here","_law_few"]) (om (sc:=aA qm) (NX:=["_law_src_here","_law_many","_law_few"]) (jx:=[none,some 0,some 2]) rfl rfl rfl nofun nofun rfl nofun rfl nofun) rfl (gK rfl D.T.jj (aa (pv 1) ah)) (λ_ _ _ _ _ _=>(ck (i:=0) (show List.Nodup (["_law_k","_law_src_here","_law_few"]:List Str) by decide +kernel))) (λ_ _ _ _ _ _=>ji) (λ_ _ _ _ _ _=>(aC D.aak (GG D) hr (aa (pv 1) (aa (pv 2) ah))))) ah))))),?_⟩;refine⟨Y,l,c,2,rfl,S,E,E,λv H1 _ _ S1 k1=>⟨rfl,?_⟩⟩;have K1:cD l H H1:=λb o e m=>(k1 b m).trans e;refine⟨rfl,Y,(m:Nat),rfl,Q,Q,λacc cR=>rM (lo:=0) (k:=((m:Nat):Int).toNat) (λi σ H2=>∃ (u:Option V) (cs:List Nat),σ=[u,some (.ref l),some (.bl (decide (V.int v=V.int 0)))]/\H2 acc=some (.lst (cs.map CC))/\cs.length=i/\dB H2 l c/\cD l H H2) ⟨none,[],rfl,af,rfl,S1.same (ak cR _),λb o e m=>ak cR _ _ _ (K1 _ _ e m)⟩ ?_ ?_⟩
 ·rintro i σ H2 hi ⟨u,cs,rfl,ha,hl,S2,K2⟩;have na:acc≠l:=(S1.ne cR).1.symm;have nc:acc≠c:=(S1.ne cR).2.symm;refine⟨Y,Y,l,c,Y,S2,λch H3 S3 k3=>⟨_,by rw[k3 acc na];exact ha,(by rw[cy];exact aR ∅),_,cs++[ch],rfl,?_,?_,?_,?_⟩⟩
  ·rw[af,gw];rfl
  ·rw[cY,hl];rfl
  ·exact S3.keep (aG acc _ _) na.symm nc.symm
  ·intro b o e m;by_cases z:b=acc
   ·rw[z]at e;have:=iD K1 na cR;rw[this]at e;cases e
   rw[aK z,k3 b m];exact K2 _ _ e m
 ·rintro σ H2 ⟨u,cs,rfl,ha,hl,S2,K2⟩;have hl':cs.length=m:=by lia
  exact⟨acc,cs,V,ha,Q,k cs H2 hl' S2 K2⟩
theorem Ek{α β:Type}{F:α->β->Prop}{xs:List α}{ys:List β}{x:α}{y:β}(h:Paired F xs ys)(e:F x y):Paired F (xs++[x]) (ys++[y]):=by
 induction h with
 | nil=>exact .cons e .nil
 | cons r _ ih=>exact .cons r ih
theorem BC{α β:Type}{F:α->β->Prop}{xs xs':List α}{ys ys':List β}(h:Paired F xs ys)(t:Paired F xs' ys'):Paired F (xs++xs') (ys++ys'):=by
 induction h with
 | nil=>exact t
 | cons e _ ih=>exact .cons e ih
def Lb(H:Hp)(a:Addr)(q:Int × Nat):Prop:=H a=some (.tup [.int q.1,CC q.2])
inductive El(H:Hp)(v:Addr)(aL:iL):Prop
 | mk (as:List Addr) (_:H v=some (.lst (as.map V.ref))) (_:Paired (Lb H) as aL)
abbrev kI:fk:=.inr (Str.ofString "ink")
abbrev kR:fk:=.inr (Str.ofString "rows")
abbrev kP:fk:=.inr (Str.ofString "past")
abbrev kVl:fk:=.inr (Str.ofString "veil")
abbrev sS(ik rw ps vl:Addr):List (fk × V):=[(kI,.ref ik),(kR,.ref rw),(kP,.ref ps),(kVl,.ref vl)]
def UX(W:Addr->Prop)(ik ps:Addr)(H:Hp)(v:V)(es:List Int):Prop:=∃ b,v=.ref b/\W b/\b≠ik/\b≠ps/\H b=some (.lst (es.map V.int))
def Nq(W:Addr->Prop)(ik ps:Addr)(H:Hp)(a:Addr)(rows:cU):Prop:=W a/\a≠ik/\a≠ps/\∃ vs,H a=some (.lst vs)/\bS (UX W ik ps H) vs rows
structure Jp(W:Addr->Prop)(H:Hp)(w ik rw ps vl:Addr)(aL:iL)(pe:iT)(rows:cU):Prop where
 ww:W w
 wi:W ik
 wp:W ps
 wv:W vl
 al:∀ a,W a->∃ ob,H a=some ob
 hw:H w=some (.dK (sS ik rw ps vl))
 hi:El H ik aL
 hr:Nq W ik ps H rw rows
 hp:∃ vs,H ps=some (.lst vs)/\bS (λv rs=>∃ a,v=.ref a/\Nq W ik ps H a rs) vs pe
 ne:ik≠ps
 lst:pe.getLast?=some rows
def Wo(W:Addr->Prop)(H:Hp)(w:Addr)(aL:iL)(pe:iT)(rows:cU):Prop:=∃ ik rw ps vl,Jp W H w ik rw ps vl aL pe rows
theorem UX.fr{W W':Addr->Prop}{H H':Hp}{v:V}{es:List Int}(s:∀ a,W a->W' a)(k:∀ a xs,H a=some (.lst xs)->W a->a≠ik->a≠ps->H' a=some (.lst xs)):UX W ik ps H v es->UX W' ik ps H' v es:=λ⟨b,e,w,n1,n2,h⟩=>⟨b,e,s _ w,n1,n2,k _ _ h w n1 n2⟩
theorem Nq.fr{W W':Addr->Prop}{H H':Hp}{a:Addr}{rows:cU}(s:∀ a,W a->W' a)(k:∀ a xs,H a=some (.lst xs)->W a->a≠ik->a≠ps->H' a=some (.lst xs)):Nq W ik ps H a rows->Nq W' ik ps H' a rows:=λ⟨w,n1,n2,vs,h,al⟩=>⟨s _ w,n1,n2,vs,k _ _ h w n1 n2,al.mono λ_ _=>UX.fr s k⟩
theorem El.two{H H':Hp}{aL:iL}(h:El H v aL)(k:∀ xs,H v=some (.lst xs)->H' v=some (.lst xs))(t:∀ a xs,H a=some (.tup xs)->H' a=some (.tup xs)):El H' v aL:=by
 obtain⟨as,hv,pa⟩:=h;exact⟨as,k _ hv,Paired.Df pa λa q e=>t _ _ e⟩
theorem Jp.fr{W:Addr->Prop}{H H':Hp}{w rw vl:Addr}{aL:iL}{pe:iT}{rows:cU}(h:Jp W H w ik rw ps vl aL pe rows)(k:∀ a ob,H a=some ob->W a->H' a=some ob)(t:∀ a xs,H a=some (.tup xs)->H' a=some (.tup xs)):Jp W H' w ik rw ps vl aL pe rows:=by
 obtain⟨ww,wi,wp,wv,al,hw,hi,hr,⟨vs,hp,a2⟩,ne,lst⟩:=h;refine⟨ww,wi,wp,wv,λa z=>?_,k _ _ hw ww,hi.two (λxs e=>k _ _ e wi) t,hr.fr (λ_ z=>z) (λa xs e z _ _=>k _ _ e z),⟨vs,k _ _ hp wp,a2.mono λv rs ⟨a,e,z⟩=>⟨a,e,z.fr (λ_ y=>y) (λa xs e y _ _=>k _ _ e y)⟩⟩,ne,lst⟩;obtain⟨ob,e⟩:=al a z;exact⟨ob,k _ _ e z⟩
theorem Wo.fr{W:Addr->Prop}{H H':Hp}{w:Addr}{aL:iL}{pe:iT}{rows:cU}(h:Wo W H w aL pe rows)(k:∀ a ob,H a=some ob->W a->H' a=some ob)(t:∀ a xs,H a=some (.tup xs)->H' a=some (.tup xs)):Wo W H' w aL pe rows:=by
 obtain⟨ik,rw,ps,vl,z⟩:=h;exact⟨ik,rw,ps,vl,z.fr k t⟩
theorem Wo.same{W:Addr->Prop}{H H':Hp}{w:Addr}{aL:iL}{pe:iT}{rows:cU}(h:Wo W H w aL pe rows)(s:aI H H'):Wo W H' w aL pe rows:=h.fr (λa ob e _=>s a ob e) λa xs e=>s _ _ e
def Lc:Sp:=λvs H Q _=>vs=[]/\∀ (W:Addr->Prop) (w:Addr) (H':Hp),Wo W H' w [] [[]] []->(∀ a,W a->H a=none)->aI H H'->Q (.ref w) H'
theorem Em:aH [] [] (aA oj):=eU
theorem abc{X:Cx}{s1 s2 s3 s4:Str}{a1 a2 a3 a4:Nat}{p1 p2 p3 p4 pos:Pos}{v1 v2 v3 v4:Expr}{t1 t2 t3 t4:TE}(h1:PE X v1 t1)(h2:PE X v2 t2)(h3:PE X v3 t3)(h4:PE X v4 t4) :
  PE X (.Dict [some (.Constant (.str s1) a1 p1),some (.Constant (.str s2) a2 p2),some (.Constant (.str s3) a3 p3),some (.Constant (.str s4) a4 p4)] [v1,v2,v3,v4] pos) (OH [(tC (.str s1),t1),(tC (.str s2),t2),(tC (.str s3),t3),(tC (.str s4),t4)]) :=
 RZ (vC bx h1 (vC bx h2 (vC bx h3 (vC bx h4 RY)))) rfl rfl (by simp) (by show 4<=15;decide)
abbrev tWo:TE:=OH [(tC (.str "ink"),Lz zA),(tC (.str "rows"),Lz zA),(tC (.str "past"),Lz (NQ (Lz zA) zA)),(tC (.str "veil"),Lz zA)]
theorem Ql:∃ (e:Expr) (p:Pos),jL oj=[.Return (some e) p]/\∀ X:Cx,PE X e tWo :=
 ⟨P,rfl,λX=>@abc X _ _ _ _ _ _ _ _ _ _ _ _ _ _ _ _ _ _ _ _ _ (bL ah) (bL ah) (bL (aa (bL ah) ah)) (bL ah)⟩
theorem En:‹(1,77,[],Lc)›:=λD=>by
 specialize eV D.Sz.F Em;obtain⟨rfl,k⟩:=h;obtain⟨e,p,he,pw⟩:=Ql;rw[he];exists _,au (aJ (pw _));intro w hw;refine⟨gU,λik GI=>⟨gU,λrw hrw=>⟨gU,λz hz=>⟨mD,λps BD=>⟨gU,λvl Xw=>?_⟩⟩⟩⟩⟩;have s0:=ak hw (.dK []);have w0:(aN H w (.dK [])) w=some (.dK []):=af;generalize aN H w (.dK [])=H0 at s0 w0 GI hrw hz BD Xw;have s1:=ak GI (.lst []);have i1:(aN H0 ik (.lst [])) ik=some (.lst []):=af;generalize aN H0 ik (.lst [])=H1 at s1 i1 hrw hz BD Xw;have s2:=ak hrw (.lst []);have r2:(aN H1 rw (.lst [])) rw=some (.lst []):=af;generalize aN H1 rw (.lst [])=H2 at s2 r2 hz BD Xw;have s3:=ak hz (.lst []);have z3:(aN H2 z (.lst [])) z=some (.lst []):=af;generalize aN H2 z (.lst [])=H3 at s3 z3 BD Xw;have s4:=ak BD (.lst [.ref z]);have p4:(aN H3 ps (.lst [.ref z])) ps=some (.lst [.ref z]):=af;generalize aN H3 ps (.lst [.ref z])=H4 at s4 p4 Xw;have s5:=ak Xw (.lst []);have v5:(aN H4 vl (.lst [])) vl=some (.lst []):=af;generalize aN H4 vl (.lst [])=H5 at s5 v5;have Qh:aI H1 H5:=s2.trans (s3.trans (s4.trans s5));have s05:aI H0 H5:=s1.trans Qh;have w5:=s05 _ _ w0;have i5:=Qh _ _ i1;have r5:=(s3.trans (s4.trans s5)) _ _ r2;have z5:=(s4.trans s5) _ _ z3;have p5:=s5 _ _ p4;have nl:∀ {a:Addr} {xs:List V},H5 a=some (.lst xs)->a≠w:=λ{a xs} e q=>by rw[q,w5]at e;cases e
 have n1:rw≠ik:=(az i1 hrw).symm;have n2:rw≠ps:=az (s3 _ _ r2) BD;have n3:z≠ik:=(az (s2 _ _ i1) hz).symm;have n4:z≠ps:=az z3 BD;have n5:ik≠ps:=az ((s2.trans s3) _ _ i1) BD;refine⟨w5,sS ik rw ps vl,rfl,(by show 4<=15;decide),?_⟩;rw[show wV [] (sS ik rw ps vl)=sS ik rw ps vl by kernel_rfl];have up:∀ {a:Addr} {xs:List V},H5 a=some (.lst xs)->(aN H5 w (.dK (sS ik rw ps vl))) a=some (.lst xs):=λ{a xs} e=>by rw[aK (nl e)];exact e
 have f0:∀ a,H0 a=none->H a=none:=λa e=>aW s0 e;refine k (λa=>a=w\/a=ik\/a=rw\/a=z\/a=ps\/a=vl) w _ ⟨ik,rw,ps,vl,.inl rfl,.inr (.inl rfl),.inr (.inr (.inr (.inr (.inl rfl)))),.inr (.inr (.inr (.inr (.inr rfl)))),λa e=>?_,af,⟨[],up i5,.nil⟩,⟨.inr (.inr (.inl rfl)),n1,n2,[],up r5,.nil⟩,⟨[.ref z],up p5,.cons ⟨z,rfl,.inr (.inr (.inr (.inl rfl))),n3,n4,[],up z5,.nil⟩ .nil⟩,n5,rfl⟩ (λa e=>?_) (bP hw (s0.trans s05) (aG w _ _))
 ·rcases e with rfl|rfl|rfl|rfl|rfl|rfl
  ·exact⟨_,af⟩
  ·exact⟨_,up i5⟩
  ·exact⟨_,up r5⟩
  ·exact⟨_,up z5⟩
  ·exact⟨_,up p5⟩
  ·exact⟨_,up v5⟩
 ·rcases e with rfl|rfl|rfl|rfl|rfl|rfl
  ·exact hw
  ·exact f0 _ GI
  ·exact f0 _ (aW s1 hrw)
  ·exact f0 _ (aW s1 (aW s2 hz))
  ·exact f0 _ (aW s1 (aW s2 (aW s3 BD)))
  ·exact f0 _ (aW s1 (aW s2 (aW s3 (aW s4 Xw))))
class inductive Xx
 | mk (W:Addr->Prop) (w r:Addr) (aL:iL) (pe:iT) (rows rows':cU) (_:vs=[.ref w,.ref r]) (_:Wo W H w aL pe rows) (_:pe.length<=1000) (_:(∀ ik ps,(∃ rw vl,H w=some (.dK (sS ik rw ps vl)))->Nq W ik ps H r rows')) (_: ∀ (H':Hp),Wo W H' w aL (pe++[rows']) rows'->(∀ a ob,H a=some ob->¬ W a->H' a=some ob)->(∀ a xs,H a=some (.tup xs)->H' a=some (.tup xs))->(∀ ik rw ps vl,H w=some (.dK (sS ik rw ps vl))->∀ a xs,H a=some (.lst xs)->a≠ps->H' a=some (.lst xs))->Q .gj H')
theorem GJ:aH ["_law_world_here","_law_rows"] ["_law_world_here","_law_rows"] (aA uD):=eU
theorem oA:‹(1,78,["_law_world_here","_law_rows"],Xx)›:=λD=>by
 specialize eV D.Pd.F GJ;obtain⟨W,w,r,aL,pe,rows,rows',rfl,⟨ik,rw,ps,vl,h⟩,lp,hr',k⟩:=h;have hu:=gG hr;exists _,(aj (vB hu (pv 0) bx (pv 1) rfl) (au (aU (dJ pQ jE jF bQ (gc hu (pv 0) bx) (aa (pv 1) ah)))));have F2:=hr' ik ps ⟨rw,vl,h.hw⟩;refine⟨Y,Y,w,Y,DK.k (k:=kR) h.hw (by show 4<sizeLine;decide),?_⟩;rw[show eT (sS ik rw ps vl) kR (.ref r)=sS ik r ps vl by kernel_rfl];obtain⟨Nr,hp,al⟩:=h.hp;have k1:=aG w H (.dK (sS ik r ps vl));have w1:(aN H w (.dK (sS ik r ps vl))) w=some (.dK (sS ik r ps vl)):=af;have nw:∀ {a:Addr} {o:HO},H a=some o->(∀ kvs,o≠.dK kvs)->a≠w:=λ{a o} e n q=>by rw[q,h.hw]at e;cases e;exact n _ rfl
 generalize aN H w (.dK (sS ik r ps vl))=H1 at k1 w1;have Sg:=k1 _ _ hp (nw hp (λ_ z=>by cases z));have z:=iR.k (k:=kP) w1;rw[show cJ (sS ik r ps vl) kP=some (.ref ps) by kernel_rfl]at z;have lpv:Nr.length=pe.length:=al.len;refine⟨Y,w,Y,z,.inl ⟨rfl,_,bI.of Sg⟩,Y,ps,Z,Sg,aR ∅,?_⟩;have nps:w≠ps:=(nw hp (λ_ z=>by cases z)).symm
 have ls:∀ a xs,H a=some (.lst xs)->a≠ps->(aN H1 ps (.lst (Nr++[.ref r]))) a=some (.lst xs):=λa xs e n=>by
  rw[aK n];exact k1 _ _ e (nw e (λ_ z=>by cases z))
 have tp:∀ a xs,H a=some (.tup xs)->(aN H1 ps (.lst (Nr++[.ref r]))) a=some (.tup xs):=λa xs e=>by
  rw[aK (dY e hp)];exact k1 _ _ e (nw e (λ_ z=>by cases z))
 have rwf:∀ {a:Addr} {rs:cU},Nq W ik ps H a rs->Nq W ik ps (aN H1 ps (.lst (Nr++[.ref r]))) a rs:=λ{a rs} q=>q.fr (λ_ y=>y) λa xs e _ _ n=>ls a xs e n;have Mm:=rwf F2
 refine k _ ⟨ik,r,ps,vl,h.ww,h.wi,h.wp,h.wv,λa wa=>?_,?_,h.hi.two (λxs e=>ls _ _ e h.ne) tp,Mm,⟨_,af,(al.mono λv rs ⟨a,e,q⟩=>⟨a,e,rwf q⟩).app (.cons ⟨r,rfl,Mm⟩ .nil)⟩,h.ne,nU⟩ (λa ob e n=>?_) tp λik' rw2 vM vl' ee a xs e n=>ls a xs e (by
  rw[h.hw]at ee;simp only[Option.some.injEq,HO.dK.injEq,sS,List.cons.injEq,Prod.mk.injEq,V.ref.injEq,true_and,and_true]at ee;rw[ee.2.2.1]
  exact n)
 ·by_cases e1:a=ps
  ·rw[e1];exact⟨_,af⟩
  rw[aK e1];by_cases e2:a=w
  ·rw[e2];exact⟨_,w1⟩
  ·obtain⟨ob,e⟩:=h.al a wa;exact⟨ob,k1 _ _ e e2⟩
 ·rw[aK nps];exact w1
 ·rw[aK (λq=>n (by rw[q];exact h.wp))];exact k1 _ _ e (λq=>n (by rw[q];exact h.ww))
theorem qU.al{U:Addr->Prop}{H:Hp}{x:Addr}{pe:iT}{aB:iU}{aL:iL}{nW:Nat}{bR:Row}(h:qU C CS CW CB U H x pe aB aL nW bR){a:Addr}(z:U a):∃ ob,H a=some ob:=by
 obtain⟨S,SW,d,wl,sh,bl,kn,du,bk,dS,st,op,dw,sg,ow,pw,db,tb,ops,L,W,B,R,F5,dj,db',dt,u⟩:=h;obtain⟨as,hR,_⟩:=R;rcases (u a).mp z with y|y|y|y|y|y
 ·exact L.W.al a y
 ·exact W.al a y
 ·rw[y];exact⟨_,L.hb⟩
 ·rw[y];exact⟨_,L.hx⟩
 ·rw[y];exact⟨_,B⟩
 ·rw[y];exact⟨_,hR⟩
theorem Wo.al{W:Addr->Prop}{H:Hp}{w:Addr}{aL:iL}{pe:iT}{rows:cU}(h:Wo W H w aL pe rows){a:Addr}(z:W a):∃ ob,H a=some ob:=by
 obtain⟨ik,rw,ps,vl,y⟩:=h;exact y.al a z
structure sU(C CS CW CB:Addr)(H:Hp)(l c w x:Addr)(U W:Addr->Prop)(pe:iT)(rows:cU)(pq:iT)(rq:cU)(aB:iU)(aL:iL)(nW:Nat)(bR:Row):Prop where
 src:dB H l c
 Jq:qU C CS CW CB U H x pe aB aL nW bR
 lst:pe.getLast?=some rows
 wo:Wo W H w aL pq rq
 du:∀ a,U a->¬ W a/\a≠l/\a≠c
 dw:∀ a,W a->a≠l/\a≠c
def FrS(l:Addr)(U W U' W':Addr->Prop)(H H':Hp):Prop:=(∀ a,U' a\/W' a->U a\/W a\/H a=none)/\(∀ a ob,H a=some ob->a≠l->¬ U a->¬ W a->H' a=some ob)/\∀ a xs,H a=some (.tup xs)->H' a=some (.tup xs)
theorem sU.mv{H H':Hp}{l c w x:Addr}{U W:Addr->Prop}{pe:iT}{rows:cU}{pq:iT}{rq:cU}{aB:iU}{aL:iL}{nW:Nat}{bR:Row}(h:sU C CS CW CB H l c w x U W pe rows pq rq aB aL nW bR)(k:cD l H H')(s:dB H' l c):sU C CS CW CB H' l c w x U W pe rows pq rq aB aL nW bR:=by
 obtain⟨ls,hl⟩:=h.src.lst;have t:∀ a xs,H a=some (.tup xs)->H' a=some (.tup xs):=λa xs e=>k _ _ e (dY e hl);exact⟨s,h.Jq.fr (λa ob e z=>k _ _ e (h.du a z).2.1) t,h.lst,h.wo.fr (λa ob e z=>k _ _ e (h.dw a z).1) t,h.du,h.dw⟩
theorem sU.same{H H':Hp}{l c w x:Addr}{U W:Addr->Prop}{pe:iT}{rows:cU}{pq:iT}{rq:cU}{aB:iU}{aL:iL}{nW:Nat}{bR:Row}(h:sU C CS CW CB H l c w x U W pe rows pq rq aB aL nW bR)(s:aI H H'):sU C CS CW CB H' l c w x U W pe rows pq rq aB aL nW bR:=h.mv (λa o e _=>s a o e) (h.src.same s)
theorem GK{α:Type}{xs:List α}{v:Int}(v0:0<=v)(v1:v<xs.length):∃ x∈xs,pU xs v=some x:=by
 obtain⟨j,rfl⟩:∃ j:Nat,v=j:=⟨v.toNat,Q⟩;have hj:j<xs.length:=by lia
 exact⟨xs[j],List.getElem_mem hj,cO (pS hj)⟩
theorem sU.Qm{W W':Addr->Prop}{H:Hp}{w rw vl:Addr}{aL:iL}{pe:iT}{rows:cU}(h:Jp W H w ik rw ps vl aL pe rows)(s:∀ a,W a->W' a)(al:∀ a,W' a->∃ ob,H a=some ob):Jp W' H w ik rw ps vl aL pe rows:=by
 obtain⟨ww,wi,wp,wv,_,hw,hi,hr,⟨vs,hp,a2⟩,ne,lst⟩:=h;exact⟨s _ ww,s _ wi,s _ wp,s _ wv,al,hw,hi,hr.fr s (λa xs e _ _ _=>e),⟨vs,hp,a2.mono λv rs ⟨a,e,z⟩=>⟨a,e,z.fr s (λa xs e _ _ _=>e)⟩⟩,ne,lst⟩
theorem dB.fru{U U':Addr->Prop}{H H':Hp}{l c:Addr}(S:dB H l c)(fr:Jl U U' H H')(nl:¬ U l)(nc:¬ U c):dB H' l c:=by
 obtain⟨n,ns,i,d,r,e1,e2,h3⟩:=S;exact⟨n,ns,i,d,r,fr.2.1 _ _ e1 nl,fr.2.1 _ _ e2 nc,h3⟩
theorem sU.abe{H H':Hp}{l c w x:Addr}{U U' W:Addr->Prop}{pe K0:iT}{rows rows':cU}{pq:iT}{rq:cU}{aB dD:iU}{aL:iL}{nW UY:Nat}{bR UZ:Row}(St:sU C CS CW CB H l c w x U W pe rows pq rq aB aL nW bR)(L':qU C CS CW CB U' H' x K0 dD aL UY UZ)(hl:K0.getLast?=some rows')(fr:Jl U U' H H'):sU C CS CW CB H' l c w x U' W K0 rows' pq rq dD aL UY UZ/\FrS l U W U' W H H':=by
 refine⟨⟨St.src.fru fr (λz=>(St.du l z).2.1 rfl) (λz=>(St.du c z).2.2 rfl),L',hl,St.wo.fr (λa ob e z=>fr.2.1 _ _ e (λy=>(St.du a y).1 z)) fr.2.2,λa z=>?_,St.dw⟩,λa z=>z.elim (λz=>(fr.1 a z).elim .inl λy=>.inr (.inr y)) (λz=>.inr (.inl z)),λa ob e _ u _=>fr.2.1 a ob e u,fr.2.2⟩;rcases fr.1 a z with y|y
 ·exact St.du a y
 ·have n:=St.src.ne y;refine⟨λz=>?_,n.1.symm,n.2.symm⟩;obtain⟨ob,e⟩:=St.wo.al z;rw[y]at e;cases e
theorem sU.kept{H H':Hp}{l c w x:Addr}{U W W':Addr->Prop}{pe:iT}{rows:cU}{pq pq':iT}{rq rq':cU}{aB:iU}{aL:iL}{nW:Nat}{bR:Row}(St:sU C CS CW CB H l c w x U W pe rows pq rq aB aL nW bR)(wo:Wo W' H' w aL pq' rq')(dU:∀ a,U a->¬ W' a)(dW:∀ a,W' a->a≠l/\a≠c)(fr:∀ a ob,H a=some ob->¬ W' a->H' a=some ob)(tp:∀ a xs,H a=some (.tup xs)->H' a=some (.tup xs)):sU C CS CW CB H' l c w x U W' pe rows pq' rq' aB aL nW bR:=by
 refine⟨?_,St.Jq.fr (λa ob e z=>fr _ _ e (dU a z)) tp,St.lst,wo,λa z=>⟨dU a z,(St.du a z).2⟩,dW⟩;obtain⟨n,ns,i,d,r,e1,e2,h3⟩:=St.src;exact⟨n,ns,i,d,r,fr _ _ e1 (λz=>(dW l z).1 rfl),fr _ _ e2 (λz=>(dW c z).2 rfl),h3⟩
theorem sU.new{H:Hp}{l c w x a:Addr}{U W:Addr->Prop}{pe:iT}{rows:cU}{pq:iT}{rq:cU}{aB:iU}{aL:iL}{nW:Nat}{bR:Row}(St:sU C CS CW CB H l c w x U W pe rows pq rq aB aL nW bR)(h:H a=none):¬ U a/\¬ W a/\a≠l/\a≠c:=by
 have n:=St.src.ne h;refine⟨λz=>?_,λz=>?_,n.1.symm,n.2.symm⟩
 ·obtain⟨ob,e⟩:=St.Jq.al z;rw[h]at e;cases e
 ·obtain⟨ob,e⟩:=St.wo.al z;rw[h]at e;cases e
def own(rows:cU)(x:Int):List Int:=(rows[x.toNat]?).getD []
theorem GL{rows:cU}{s:Nat}(es:List Int)(h:s<rows.length):jb rows s es=rows.set s es:=by
 unfold jb;rw[List.set_eq_take_append_cons_drop,if_pos h,nV];rfl
theorem AL{k:Nat}:∀ {row:Row},(∀ p∈row,p.2<=p.1+(k:Nat))->(bK row).length<=k*row.length
 | [],_=>Nat.zero_le _
 | p::r,h=>by
  have ih:=AL (row:=r) λq hq=>h q (mO _ hq);have hp:=h p (List.mem_cons_self ..);have e:bK (p::r)=fT p++bK r:=by unfold bK;rw[jo]
  rw[e,cY,eY,Nat.mul_add,Nat.mul_one];have:(fT p).length<=k:=by unfold fT;rw[gE];lia
  lia
theorem Qn{n:Nat}{row:Row}(h:∀ p∈row,0<=p.1/\p.1<p.2/\p.2<=(n:Nat)){e:Int}(he:e∈bK row):0<=e/\e<(n:Nat):=by
 unfold bK at he;obtain⟨p,hp,hm⟩:=List.mem_flatMap.mp he;have b:=h p hp;have m:=zb.mp hm;lia
class inductive Xy
 | mk (r e:Addr) (s:Nat) (xs:List V) (_:vs=[.ref r,.int (s:Nat),.ref e]) (_:H r=some (.lst xs)) (_:s<xs.length) (_:xs.length<=1000) (_:∀ (q:Addr) (H':Hp),H' q=some (.lst (xs.set s (.ref e)))->aI H H'->H q=none->Q (.ref q) H')
theorem yp:aH ["_law_rows","_law_sheet","_law_entries","_law_found"] ["_law_rows","_law_sheet","_law_entries"] (aA uE):=eU
theorem TQ{n:Nat}{i:Nat}(h1:i<n):Kg n ((i:Nat):Int)=some i:=by
 unfold Kg;rw[if_pos ∅,Int.toNat_natCast,if_pos ∅]
theorem yq:‹(1,79,["_law_rows","_law_sheet","_law_entries"],Xy)›:=λD=>by
 refine eV D.WM.F yp λcV A zn s0 H vs Q E hr h=>?_;obtain⟨r,e,s,xs,rfl,jT,hs,lx,k⟩:=h;exists _,(aj (aV (i:=3) yp.nd (eS fY rfl D.T.jw uc (aa (pv 0) ah))) (aj (lJ (pv 2) (oG (pv 3) (pv 1) iY)) (au (aJ (pv 3)))));refine⟨Y,r,Y,.inl (bI.of jT),λq hq=>?_⟩;refine⟨Y,Y,Y,q,P,s,V,af,TQ hs,Y,k q _ af (bP hq (ak hq _) (aG q _ _)) hq⟩
theorem Wo.swap{W:Addr->Prop}{H:Hp}{w rw vl q e:Addr}{aL:iL}{pq:iT}{rq:cU}{xs:List V}{s:Nat}{es:List Int}(wu:Jp W H w ik rw ps vl aL pq rq)(hx:H rw=some (.lst xs))(hq:H q=some (.lst (xs.set s (.ref e))))(he:H e=some (.lst (es.map V.int)))(nq:¬ W q)(ne:¬ W e):Jp (λa=>W a\/a=e\/a=q) H w ik rw ps vl aL pq rq/\Nq (λa=>W a\/a=e\/a=q) ik ps H q (rq.set s es):=by
 have U0:Jp (λa=>W a\/a=e\/a=q) H w ik rw ps vl aL pq rq:=sU.Qm wu (λa z=>.inl z) (by
  rintro a (z|z|z)
  ·exact wu.al a z
  ·rw[z];exact⟨_,he⟩
  ·rw[z];exact⟨_,hq⟩)
 obtain⟨_,_,_,vs,hvs,al⟩:=id U0.hr;rw[hx]at hvs;cases hvs;have ne':∀ {a b:Addr},W a->¬ W b->b≠a:=λwa nb z=>nb (by rw[z];exact wa);exists U0,.inr (.inr rfl),ne' wu.wi nq,ne' wu.wp nq,_,hq
 have key:∀ {vs:List V} {rs:cU} (s:Nat),bS (UX (λa=>W a\/a=e\/a=q) ik ps H) vs rs->bS (UX (λa=>W a\/a=e\/a=q) ik ps H) (vs.set s (.ref e)) (rs.set s es):=by
  intro vs rs s z
  induction z generalizing s with
  | nil=>exact .nil
  | cons o t ih =>
   cases s with
   | zero=>exact .cons ⟨e,rfl,.inr (.inl rfl),ne' wu.wi ne,ne' wu.wp ne,he⟩ t
   | succ n=>exact .cons o (ih n)
 exact key s al
theorem mL:aH ["_law_row","_law_numbers","_law_start","_law_stop"] ["_law_row"] (aA rF):=eU
theorem wc:‹(1,80,["_law_row"],(RI 1000000))›:=λD=>by
 specialize eV D.WN.F mL;obtain⟨r,row,rfl,⟨as,jT,hp⟩,E1,dI,hrl,k⟩:=h;exists _,(aj (aV (i:=1) mL.nd (bL ah)) (aj (dQ PassesOwn.never rfl (cF (pv 0)) (m7 (n:=2) rfl (cj (ck (i:=2) mL.nd) (cj (ck (i:=3) mL.nd) gR))) (au (aU (dJ pQ PySem.F.slot_list_extend PySem.F.type_list_extend kj (pv 1) (aa (eS (tU rfl) rfl D.T.jw uc (aa (eS Fp rfl D.T.jj PyProof.Rows.boot_range (aa (pv 2) (aa (pv 3) ah))) ah)) ah))))) (au (aJ (pv 1)))));refine⟨gU,λq hq=>?_⟩;have s0:aI H (aN H q (.lst [])):=ak hq _;refine⟨Y,r,rfl,⟨_,bI.of (s0 _ _ jT)⟩,dm (K:=K) (a:=r) (xs:=as.map V.ref) (λi σ H2=>∃ (u v:Option V),σ=[some (.ref r),some (.ref q),u,v]/\H2 q=some (.lst ((bK (row.take i)).map V.int))/\aI H H2) ⟨none,none,rfl,af,s0⟩ (by rintro i σ H2 _ ⟨_,_,_,_,s⟩;exact bI.of (s _ _ jT)) ?_ ?_⟩
 ·rintro i x σ H2 hi ⟨u,v,rfl,dN,s⟩;rw[mY]at hi;obtain⟨a,ea,rfl⟩:=Option.map_eq_some_iff.mp hi;obtain⟨⟨st,en⟩,ep,ha⟩:=hp.get ea;obtain⟨b1,b2,b3⟩:=E1 _ (oF ep);simp only at b1 b2 b3;have step:=Ip ep
  have lz:(bK (row.take i)).length+(en-st).toNat<=1000000:=by
   have z:=Be row (i+1);rw[step,cY,fT,gE]at z;exact gV z dI
  exists a,Y,cX.of (s _ _ ha),rfl,P,rfl,Z;refine⟨Y,.inl ⟨rfl,_,bI.of dN⟩,Y,Y,P,rfl,λp hp=>⟨p,P,rfl,af,⟨Q,Q,Q,Q⟩,gT (aR ∅),λm hm=>?_⟩⟩;have s1:aI H2 (aN H2 p (.E5 st en)):=ak hp _;have s2:=s1.trans (ak hm (.lst (Cj st (en-st).toNat)));exists q,m,Z,s2 _ _ dN,af,?_
  ·rw[cy,zP,cy,gE];exact gT (aR ∅)
  ·refine⟨P,rfl,?_,bP hq (s.trans s2) (aG q _ _)⟩;rw[af,step,gw,zP];rfl
 ·rintro σ H2 ⟨u,v,rfl,dN,s⟩;refine⟨Y,k q H2 ?_ s hq⟩;rw[cy,hp.len,gO]at dN;exact dN
class inductive AM(d:Nat)
 | mk (av:Addr->Prop) (r:Addr) (rows:cU) (x:Int) (sh:Int->List Int) (rk:Int->Nat) (_:vs=[.ref r,.int x]) (_:ig av H r rows) (_:rows.length<=1000) (_:gp rows) (_:0<=x) (_:x<rows.length) (_:nH rows sh) (_:(∀ x:Int,0<=x->x<rows.length->(sh x).length<=10000)) (_:(∀ x y,j0 rows x y->rk y<rk x)) (_:rk x<d) (_ :
 ∀ (o:Addr) (H':Hp),H' o=some (.lst ((sh x).map V.int))->aI H H'->H o=none->Q (.ref o) H')
theorem rZ:aH ["_law_rows","_law_sheet","_law_numbers","_law_entry"] ["_law_rows","_law_sheet"] (aA uF):=eU
theorem BE(D:Ds K mg bf br C CS CW CB CT CD){n:Nat}(uY:bq P w K mg zt cL (n+1) (bf 81) (br 81) ["_law_rows","_law_sheet"] (AM n)):bq P w K mg zt cL (n+2) (bf 81) (br 81) ["_law_rows","_law_sheet"] (AM (n+1)):=by
 specialize eV D.DV.F rZ;obtain⟨av,r,rows,x,sh,rk,rfl,R,dI,pR,x0,x1,xY,E1,xq,hd,k⟩:=h;obtain⟨es,fj⟩:∃ es,rows[x.toNat]?=some es:=⟨_,pS ∅⟩;obtain⟨yf,b,ye,Bo,hb0,hrl⟩:=R.get fj
 have vP:pU yf x=some (.ref b):=by
  have z:=cO Bo;rw[show ((x.toNat:Nat):Int)=x by lia]at z;exact z
 have shx:=xY x es x0 fj
 have part:∀ i,(aS sh (es.take i)).length<=10000:=λi=>by
  have z:=E1 x x0 x1
  have e:aS sh es=aS sh (es.take i)++aS sh (es.drop i):=by
   unfold aS;rw[← List.flatMap_append,List.take_append_drop]
  rw[shx,e,cY]at z;lia
 exists _,(aj (aV (i:=2) rZ.nd (bL ah)) (aj (dQ PassesOwn.never rfl (cF (aO bu (pv 0) (pv 1))) (ck (i:=3) rZ.nd) (au (bN (aT j8 (pv 3) ay (aZ _)) (au (aU (dJ pQ PySem.F.slot_list_extend PySem.F.type_list_extend kj (pv 2) (aa (aC D.DV uY hr (aa (pv 0) (aa (bz cK (fQ dR ay) (pv 3)) ah))) ah)))) (au (aU (dJ pQ jE jF bQ (pv 2) (aa (pv 3) ah))))))) (au (aJ (pv 2)))));refine⟨gU,λq hq=>?_⟩;have s0:aI H (aN H q (.lst [])):=ak hq _;refine⟨Y,Y,r,K,V,bI.of (s0 _ _ ye),vP,b,rfl,⟨_,bI.of (s0 _ _ hb0)⟩,dm (K:=K) (a:=b) (xs:=es.map V.int) (λi σ H2=>∃ u:Option V,σ=[some (.ref r),some (.int x),some (.ref q),u]/\H2 q=some (.lst ((aS sh (es.take i)).map V.int))/\aI H H2) ⟨none,rfl,af,s0⟩ (by rintro i σ H2 _ ⟨_,_,_,s2⟩;exact bI.of (s2 _ _ hb0)) ?_ ?_⟩
 ·rintro i e σ H2 hi ⟨u,rfl,h2,s2⟩;rw[mY]at hi;obtain⟨e,ex,rfl⟩:=Option.map_eq_some_iff.mp hi
  have st:aS sh (es.take (i+1))=aS sh (es.take i)++aY sh e:=by
   rw[take_snoc ex];unfold aS;rw[List.flatMap_append];simp
  have pl:=part (i+1);rw[st,cY]at pl;refine⟨Y,Z,Y,cN (λc=>?_) (λc=>?_)⟩
  ·have c':e<0:=of_decide_eq_true c;have ee:aY sh e=sh (-1-e):=by unfold aY;rw[if_pos c']
   rw[ee]at st pl;have Hw:j0 rows x (-1-e):=⟨x0,es,fj,bT.mpr ⟨Q,by rw[show -1-(-1-e)=e by lia];exact oF ex⟩⟩;obtain⟨y0,y1⟩:=pR.EY Hw;have rky:=xq _ _ Hw;refine⟨Y,.inl ⟨rfl,_,bI.of h2⟩,Y,Y,Y,Z,av,r,rows,-1-e,sh,rk,rfl,R.same s2,dI,pR,y0,y1,xY,E1,xq,Q,λo H3 h3 s3 ho=>?_⟩;refine⟨q,o,Z,s3 _ _ h2,h3,gT (aR (by rw[cy,cy];lia)),?_⟩;refine⟨Y,?_,bP hq (s2.trans s3) (aG q _ _)⟩;rw[af,st,gw]
  ·have c':¬ e<0:=λz=>c (decide_eq_true z);have ee:aY sh e=[e]:=by unfold aY;rw[if_neg c']
   rw[ee]at st pl;refine⟨Y,.inl ⟨rfl,_,bI.of h2⟩,Y,q,Z,h2,(by rw[cy];exact aR ∅),?_⟩;refine⟨Y,?_,bP hq s2 (aG q _ _)⟩;rw[af,st,gw];rfl
 ·rintro σ H2 ⟨u,rfl,h2,s2⟩;rw[cy,gO,← shx]at h2;exact⟨Y,k q H2 h2 s2 hq⟩
theorem gC(D:Ds K mg bf br C CS CW CB CT CD):∀ n:Nat,bq P w K mg zt cL (n+1) (bf 81) (br 81) ["_law_rows","_law_sheet"] (AM n)
 | 0=>by
  have no:∀ vs H Q E,¬ AM 0 vs H Q E:=λvs H Q E h=>by
   obtain⟨_,_,_,_,_,_,_,_,_,_,_,_,_,_,_,h,_⟩:=h;exact Nat.not_lt_zero _ h
  exact⟨λvs H Q E h=>absurd h (no vs H Q E),λA zn s H args us vs Q E _ _ _ _ h=>absurd h (no vs H Q E)⟩
 | n+1=>BE D (gC D n)
def Nt(rows:cU):Nat->Int->List Int
 | 0,_=>[]
 | k+1,x=>match rows[x.toNat]? with
  | some es=>aS (Nt rows k) es
  | none=>[]
theorem r9{f g:Int->List Int}{es:List Int}(h:∀ y∈dO es,f y=g y):aS f es=aS g es:=by
 unfold aS;rw[List.flatMap_def,List.flatMap_def];congr 1;refine List.map_congr_left λe he=>?_;unfold aY;by_cases c:e<0
 ·rw[if_pos c,if_pos c,h (-1-e) (bT.mpr ⟨Q,by rw[show -1-(-1-e)=e by lia];exact he⟩)]
 ·rw[if_neg c,if_neg c]
theorem AN{rows:cU}(h:Cu rows):∃ sh,nH rows sh:=by
 obtain⟨rk,hb,hd⟩:=h
 have key:∀ (k:Nat) (x:Int),0<=x->rk x<k->Nt rows k x=Nt rows (k+1) x:=by
  intro k
  induction k with
  | zero=>intro x _ h;lia
  | succ k ih =>
   intro x x0 hx
   cases e:rows[x.toNat]? with
   | none=>simp[Nt,e]
   | some es =>
    have e1:Nt rows (k+1) x=aS (Nt rows k) es:=by simp[Nt,e]
    have e2:Nt rows (k+1+1) x=aS (Nt rows (k+1)) es:=by
     show (match rows[x.toNat]? with|some es=>aS (Nt rows (k+1)) es|none=>[])=_;rw[e]
    rw[e1,e2];refine r9 λy hy=>ih y (bT.mp hy).1 ?_;have:=hd x y ⟨x0,es,e,hy⟩;lia
 refine⟨Nt rows 41,λx es x0 he=>?_⟩;rw[key 41 x x0 (by have:=hb x;lia)];show (match rows[x.toNat]? with|some es=>aS (Nt rows 41) es|none=>[])=_;rw[he]
def AO(n:Nat)(L:List Int):Nat:=cnt n λi=>decide ((i:Int)∉L)
theorem MU{n:Nat}{L:List Int}{y:Int}(h0:0<=y)(h1:y<n)(hn:y∉L):AO n (L++[y])+1=AO n L:=by
 refine vE y.toNat n ∅ ?_ λi=>?_
 ·show decide (((y.toNat:Nat):Int)∉L)=true;rw[show ((y.toNat:Nat):Int)=y by lia];exact decide_eq_true hn
 ·show decide ((i:Int)∉L++[y])=(decide ((i:Int)∉L)&&decide (i≠y.toNat));rw[← Bool.decide_and];congr 1;rw[List.mem_append,List.mem_singleton];apply propext;constructor
  ·intro h;exact⟨λq=>h (.inl q),λq=>h (.inr ∅)⟩
  ·rintro⟨a,b⟩ (q|q)
   ·exact a q
   ·exact b ∅
theorem Eo(a b:List Int):dO (a++b)=dO a++dO b:=by unfold dO;rw[List.filterMap_append]
structure Dfs(rows:cU)(H:Hp)(Rr Wt:Addr)(s:Int)(abf:Int->Prop)(H2:Hp)(L ws:List Int):Prop where
 hR:H2 Rr=some (.lst (L.map V.int))
 hW:H2 Wt=some (.lst (ws.map V.int))
 sm:aI H H2
 rc:∀ x∈L,Reach (j0 rows) s x
 wr:∀ x∈ws,(x=s\/x∈L)/\0<=x/\x<rows.length
 kl:L.length+AO rows.length L<=rows.length
 cl:∀ x,(x=s\/x∈L)->x∈ws\/abf x\/∀ y,j0 rows x y->y∈L
class inductive MV
 | mk (av:Addr->Prop) (r:Addr) (rows:cU) (s:Int) (_:vs=[.ref r,.int s]) (_:ig av H r rows) (_:rows.length<=1000) (_:(∀ es∈rows,es.length<=100000)) (_:gp rows) (_:0<=s) (_:s<rows.length) (_ :
 ∀ (L:List Int) (o:Addr) (H':Hp),H' o=some (.lst (L.map V.int))->aI H H'->(∀ x,x∈L↔Reach (j0 rows) s x)->Q (.ref o) H')
theorem iz:aH ["_law_rows","_law_sheet","_law_reached_here","_law_waiting","_law_here","_law_entry"] ["_law_rows","_law_sheet"] (aA oQ):=eU
def muR(n:Nat)(L ws:List Int):Nat:=2*AO n L+ws.length
def U6(rows:cU)(H:Hp)(r Rr Wt:Addr)(s:Int)(m:Nat)(σ:L2.St)(H2:Hp):Prop:=∃ (L ws:List Int) (u v:Option V),σ=[some (.ref r),some (.int s),some (.ref Rr),some (.ref Wt),u,v]/\Dfs rows H Rr Wt s (λ_=>False) H2 L ws/\ws.length+2*AO rows.length L<=2*rows.length+1/\m=muR rows.length L ws
theorem AQ:‹(1,82,["_law_rows","_law_sheet"],MV)›:=λD=>by
 refine eV D.aam.F iz λcV A zn s0 H vs Q E hr h=>?_;obtain⟨av,r,rows,s,rfl,hRw,dI,hes,pR,h0,h1,k⟩:=h;have hu:=gG hr;exists _,(aj (aV (i:=2) iz.nd (bL ah)) (aj (aV (i:=3) iz.nd (bL (aa (pv 1) ah))) (aj (rf PassesOwn.never (aT zq (eX D.T.eN (pv 3)) ay (aZ _)) (aj (aV (i:=4) iz.nd (N3 pQ PySem.F.slot_list_pop PySem.F.type_list_pop N7 (pv 3))) (au (dQ PassesOwn.never rfl (cF (aO bu (pv 0) (pv 4))) (ck (i:=5) iz.nd) (au (bN (PW.pt (m6 (aT j8 (pv 5) ay (aZ _)) (kH (aT vo (bz cK (fQ dR ay) (pv 5)) (pv 2) rfl)))) (aj (aU (dJ pQ jE jF bQ (pv 2) (aa (bz cK (fQ dR ay) (pv 5)) ah))) (au (aU (dJ pQ jE jF bQ (pv 3) (aa (bz cK (fQ dR ay) (pv 5)) ah))))) bg)))))) (au (aJ (pv 2))))));refine⟨gU,λRr hRr=>?_⟩;refine⟨Y,mD,λWt hWt=>?_⟩;have s1:aI H (aN H Rr (.lst [])):=ak hRr _;have s2:=s1.trans (ak hWt (.lst [.int s]))
 have SI:H Wt=none:=by
  cases e:H Wt with
  | none=>rfl
  | some o=>exact absurd ((s1 _ _ e).symm.trans hWt) (by simp)
 have nRW:Rr≠Wt:=az af hWt;exists U6 rows H r Rr Wt s,⟨_,[],[s],none,none,rfl,⟨ak hWt _ _ _ af,af,s2,?_,?_,?_,?_⟩,?_,rfl⟩
 ·intro x hx;cases hx
 ·intro x hx;have:x=s:=by simpa using hx
  exact⟨.inl this,Q,Q⟩
 ·have:=zZ rows.length (λi=>decide ((i:Int)∉([]:List Int)));show 0+cnt rows.length _<=_;lia
 ·rintro x (rfl|hx)
  ·exact .inl (by simp)
  ·cases hx
 ·have:=zZ rows.length (λi=>decide ((i:Int)∉([]:List Int)));show 1+2*cnt rows.length _<=_;lia
 rintro m σ H2 ⟨L,ws,u,v,rfl,B,hml,rfl⟩;exists Y,Wt,Y,.inl (bI.of B.hW),Z,Y;rcases mZ ws with rfl|⟨Yq,h,rfl⟩
 ·refine eO ⟨Y,k L Rr H2 B.hR B.sm λx=>⟨λhx=>B.rc x hx,λhx=>?_⟩⟩
  have zt:∀ x,(x=s\/x∈L)->∀ y,j0 rows x y->y∈L:=λx hx=>by
   rcases B.cl x hx with z|z|z
   ·cases z
   ·exact z.elim
   ·exact z
  exact Reach.closed (S:=λy=>y∈L) (zt s (.inl rfl)) (λx y hx=>zt x (.inr hx) y) hx
 rw[kM]at B hml ⊢;refine cN (λ_=>?_) (λz=>absurd (decide_eq_true (by simp)) z);obtain⟨hR2,hW2,sm2,rc2,wr2,kl2,cl2⟩:=id B;obtain⟨hh,e0,e1⟩:=wr2 h (by simp);obtain⟨es,fj⟩:∃ es,rows[h.toNat]?=some es:=⟨_,pS ∅⟩;have WW:=hes es (oF fj);refine⟨fun σ' H'=>∃ m',m'<muR rows.length L (Yq++[h])/\U6 rows H r Rr Wt s m' σ' H',fun σ' H' z=>z,?_⟩;refine⟨Y,.inl ⟨rfl,_,bI.of hW2⟩,Wt,_,.int h,V,hW2,(by simp),?_⟩;have ee:((Yq++[h]).map V.int).dropLast=Yq.map V.int:=by simp
 rw[ee];have Pk:aI H (aN H2 Wt (.lst (Yq.map V.int))):=bP SI sm2 (aG Wt _ _);obtain⟨yf,b,ye,Bo,hb0,hrl⟩:=hRw.get fj;have UA:=Pk _ _ hb0;refine⟨Y,Y,r,K,V,bI.of (Pk _ _ ye),?_,b,rfl,⟨_,bI.of UA⟩,dm (K:=K) (a:=b) (xs:=es.map V.int) (λi σ H5=>∃ (L2 TR:List Int) (v:Option V),σ=[some (.ref r),some (.int s),some (.ref Rr),some (.ref Wt),some (.int h),v]/\ Dfs rows H Rr Wt s (λx=>x=h) H5 L2 TR/\(∀ y∈dO (es.take i),y∈L2)/\(∀ y∈L,y∈L2)/\TR.length+2*AO rows.length L2<=Yq.length+2*AO rows.length L) ?_ ?_ ?_ ?_⟩
 ·have z:=cO Bo;rw[show ((h.toNat:Nat):Int)=h by lia]at z;exact z
 ·refine⟨L,Yq,Y,⟨(by rw[aK nRW];exact hR2),af,Pk,rc2,λx hx=>wr2 x (qM _ hx),kl2,λx hx=>?_⟩,(λy hy=>by simp[dO]at hy),λ_ q=>q,fF _⟩;rcases cl2 x hx with z|z|z
  ·rcases List.mem_append.mp z with q|q
   ·exact .inl q
   ·exact .inr (.inl (by simpa using q))
  ·exact z.elim
  ·exact .inr (.inr z)
 ·rintro i σ H5 _ ⟨_,_,_,_,B5,_⟩;exact bI.of (B5.sm _ _ hb0)
 ·rintro i x σ H5 hi ⟨L2,TR,v,rfl,B5,C6,hsub,Ye⟩;rw[mY]at hi;obtain⟨x,ex,rfl⟩:=Option.map_eq_some_iff.mp hi;have step:dO (es.take (i+1))=dO (es.take i)++dO [x]:=by rw[take_snoc ex,Eo]
  refine⟨Y,Z,Y,cN (λc=>?_) (λc=>eO ?_)⟩
  ·have c':x<0:=of_decide_eq_true c;have wx:dO [x]=[-1-x]:=by simp[dO,c']
   have Hw:j0 rows h (-1-x):=⟨e0,es,fj,by
    rw[bT]
    exact⟨Q,by rw[show -1-(-1-x)=x by lia];exact oF ex⟩⟩
   obtain⟨y0,y1⟩:=pR.EY Hw;exists Y,Y,Z,Y,Rr,Y,.inl (bI.of B5.hR),rfl,xg L2,Y;rw[DN];by_cases hm:-1-x∈L2
   ·rw[decide_eq_true hm];refine eO ?_;refine⟨L2,TR,Y,B5,(λy hy=>?_),hsub,Ye⟩;rw[step,wx]at hy;rcases List.mem_append.mp hy with q|q
    ·exact C6 y q
    ·have:y=-1-x:=by simpa using q
     rw[this];exact hm
   ·rw[decide_eq_false hm];refine jH ?_;have kll:=B5.kl;have mp:=MU y0 y1 hm;refine⟨Y,.inl ⟨rfl,_,bI.of B5.hR⟩,Y,Y,Z,Rr,Z,B5.hR,(by rw[cy];exact aR ∅),?_⟩;have QZ:(aN H5 Rr (.lst (L2.map V.int++[.int (-1-x)]))) Wt=some (.lst (TR.map V.int)):=by rw[aK nRW.symm];exact B5.hW
    refine⟨Y,.inl ⟨rfl,_,bI.of QZ⟩,Y,Y,Z,Wt,Z,QZ,(by rw[cy];rw[cY,gM]at hml;exact aR ∅),?_⟩;refine⟨L2++[-1-x],TR++[-1-x],Y,⟨?_,?_,bP SI (bP hRr B5.sm (aG Rr _ _)) (aG Wt _ _),?_,?_,?_,?_⟩,?_,λy q=>qM _ (hsub y q),?_⟩
    ·rw[aK nRW,af,gw];rfl
    ·rw[af,gw];rfl
    ·intro y hy;rcases List.mem_append.mp hy with q|q
     ·exact B5.rc y q
     ·have:y=-1-x:=by simpa using q
      subst this;rcases hh with rfl|hh
      ·exact .one Hw
      ·exact .step (B.rc h hh) Hw
    ·intro y hy;rcases List.mem_append.mp hy with q|q
     ·obtain⟨q1,q2⟩:=B5.wr y q;exact⟨q1.imp id (qM _),q2⟩
     ·have:y=-1-x:=by simpa using q
      subst this;exact⟨.inr (by simp),y0,y1⟩
    ·rw[cY,gM];lia
    ·intro y hy;by_cases e:y=-1-x
     ·exact .inl (by rw[e];simp)
     ·have hy':y=s\/y∈L2:=hy.imp id λq=>by
       rcases List.mem_append.mp q with z|z
       ·exact z
       ·exact absurd (by simpa using z) e
      rcases B5.cl y hy' with q|q|q
      ·exact .inl (qM _ q)
      ·exact .inr (.inl q)
      ·exact .inr (.inr λz hz=>qM _ (q z hz))
    ·intro y hy;rw[step,wx]at hy;rcases List.mem_append.mp hy with q|q
     ·exact qM _ (C6 y q)
     ·exact pA _ q
    ·rw[cY,gM];lia
  ·have c':¬ x<0:=λz=>c (decide_eq_true z);have wx:dO [x]=[]:=by simp[dO,c']
   exact⟨L2,TR,Y,B5,(by rw[step,wx,gP];exact C6),hsub,Ye⟩
 ·rintro σ H5 ⟨L2,TR,v,rfl,B5,C6,hsub,Ye⟩;rw[cy,gO]at C6;refine⟨_,?_,L2,TR,P,rfl,⟨B5.hR,B5.hW,B5.sm,B5.rc,B5.wr,B5.kl,λx hx=>?_⟩,?_,rfl⟩
  ·unfold muR;rw[cY,gM];lia
  ·rcases B5.cl x hx with q|rfl|q
   ·exact .inl q
   ·refine .inr (.inr λy hy=>C6 y ?_);obtain⟨_,wz,Ky,hy'⟩:=hy;rw[fj]at Ky;cases Ky;exact hy'
   ·exact .inr (.inr q)
  ·rw[cY,gM]at hml;lia
theorem qD(sh:Int->List Int)(es:List Int)(i:Nat):(aS sh (es.take i)).length<=(aS sh es).length:=iF (aY sh) es i
class inductive xO(d:Nat)
 | mk (av:Addr->Prop) (r:Addr) (rows:cU) (e:Int) (sh:Int->List Int) (rk:Int->Nat) (_:vs=[.ref r,.int e]) (_:ig av H r rows) (_:rows.length<=1000) (_:gp rows) (_:nH rows sh) (_:(∀ x:Int,0<=x->x<rows.length->(sh x).length<=10000)) (_:(∀ x y,j0 rows x y->rk y<rk x)) (_:(e<0->-1-e<rows.length/\rk (-1-e)<d)) (_ :
 ∀ (o:Addr) (H':Hp),H' o=some (.lst ((aY sh e).map V.int))->aI H H'->H o=none->Q (.ref o) H')
theorem BF:aH ["_law_rows","_law_entry"] ["_law_rows","_law_entry"] (aA qo):=eU
theorem t6(D:Ds K mg bf br C CS CW CB CT CD){d:Nat}:bq P w K mg zt cL (d+2) (bf 83) (br 83) ["_law_rows","_law_entry"] (xO d):=by
 specialize eV D.WO.F BF;obtain⟨av,r,rows,e,sh,rk,rfl,R,dI,pR,xY,E1,xq,hd,k⟩:=h;exists _,(aj (bN (aT j8 (pv 1) ay (aZ _)) (au (aJ (aC D.DV (gC D d) hr (aa (pv 0) (aa (bz cK (fQ dR ay) (pv 1)) ah))))) bg) (au (aJ (bL (aa (pv 1) ah)))));refine⟨Y,Z,Y,cN (λc=>?_) (λc=>?_)⟩
 ·have c':e<0:=of_decide_eq_true c;obtain⟨d1,d2⟩:=hd c';refine⟨Y,Y,Y,Z,av,r,rows,-1-e,sh,rk,rfl,R,dI,pR,Q,d1,xY,E1,xq,d2,λo H' h s ho=>k o H' ?_ s ho⟩;unfold aY;rw[if_pos c'];exact h
 ·have c':¬ e<0:=λz=>c (decide_eq_true z);refine⟨Y,mD,λo ho=>k o _ ?_ (ak ho _) ho⟩;unfold aY;rw[if_neg c',af];rfl
theorem Ep(sh:Int->List Int)(p:Int):∀ (es:List Int) (f:Int),(aE sh p f es).length<=es.length+(aS sh es).length
 | [],_=>by simp[aE]
 | e::r,f=>by
  rw[aE,bU,cY,cY,eY];have a:=Ep sh p r (f+(aY sh e).length)
  have b:(if f+(aY sh e).length<=p then [e] else if p<=f then [] else (aY sh e).take (p-f).toNat).length<=1+(aY sh e).length:=by
   split
   ·simp
   ·split
    ·simp
    ·rw[gx];lia
  lia
theorem Er(sh:Int->List Int)(p:Int):∀ (es:List Int) (f:Int),(bE sh p f es).length<=es.length+(aS sh es).length
 | [],_=>by simp[bE]
 | e::r,f=>by
  rw[bE,bU,cY,cY,eY];have a:=Er sh p r (f+(aY sh e).length)
  have b:(if f+(aY sh e).length<=p then [] else if p<=f then [e] else (aY sh e).drop (p-f).toNat).length<=1+(aY sh e).length:=by
   split
   ·simp
   ·split
    ·simp
    ·rw[qV];lia
  lia
class inductive Jr(d:Nat)
 | mk (av:Addr->Prop) (r n:Addr) (rows:cU) (s p:Int) (new:List Int) (sh:Int->List Int) (rk:Int->Nat) (_:vs=[.ref r,.int s,.int p,.ref n]) (_:ig av H r rows) (_:rows.length<=1000) (_:(∀ es∈rows,es.length<=25000)) (_:gp rows) (_:nH rows sh) (_:(∀ x:Int,0<=x->x<rows.length->(sh x).length<=10000)) (_:(∀ x y,j0 rows x y->rk y<rk x)) (_:0<=s) (_:s<rows.length) (_:rk s<=d) (_:H n=some (.lst (new.map V.int))) (_:new.length<=25000) (_ :
 ∀ (es:List Int) (o:Addr) (H':Hp),rows[s.toNat]?=some es->H' o=some (.lst ((fN sh p es new).map V.int))->(fN sh p es new).length<=100000->aI H H'->H o=none->Q (.ref o) H')
theorem iA:aH ["_law_rows","_law_sheet","_law_place","_law_new","_law_ahead","_law_behind","_law_first","_law_entry","_law_pieces_here","_law_last"] ["_law_rows","_law_sheet","_law_place","_law_new"] (aA wN):=eU
theorem Js(D:Ds K mg bf br C CS CW CB CT CD){d:Nat}:bq P w K mg zt cL (d+3) (bf 84) (br 84) ["_law_rows","_law_sheet","_law_place","_law_new"] (Jr d):=by
 have qE:bq P w K mg zt cL (d+2) _ _ zl7 (xO d):=t6 D;refine eV D.Pe.F iA λcV A zn s0 H vs Q E hr h=>?_;obtain⟨av,r,n,rows,s,p,new,sh,rk,rfl,R,dI,hes,pR,xY,E1,xq,h0,h1,hd,hn,nl,k⟩:=h;obtain⟨es,fj⟩:∃ es,rows[s.toNat]?=some es:=⟨_,pS ∅⟩;have esl:=hes es (oF fj);have shs:=xY s es h0 fj;have shl:=E1 s h0 h1;rw[shs]at shl;obtain⟨yf,b,ye,Bo,hb0,hrl⟩:=R.get fj
 have vP:pU yf s=some (.ref b):=by
  have z:=cO Bo;rw[show ((s.toNat:Nat):Int)=s by lia]at z;exact z
 exists _,(aj (bN (aT d7 (eX D.T.eN (pv 3)) ay (aZ _)) (au (aJ (eS fY rfl D.T.jw uc (aa (aO bu (pv 0) (pv 1)) ah)))) bg) (aj (aV (i:=4) iA.nd (bL ah)) (aj (aV (i:=5) iA.nd (bL ah)) (aj (aV (i:=6) iA.nd ay) (aj (dQ PassesOwn.never rfl (cF (aO bu (pv 0) (pv 1))) (ck (i:=7) iA.nd) (aj (aV (i:=8) iA.nd (aC D.WO qE hr (aa (pv 0) (aa (pv 7) ah)))) (aj (aV (i:=9) iA.nd (bz dz (pv 6) (eX D.T.eN (pv 8)))) (aj (bN (aT gr (pv 9) (pv 2) (aZ _)) (au (aU (dJ pQ jE jF bQ (pv 4) (aa (pv 7) ah)))) (au (bN (aT gr (pv 2) (pv 6) (aZ _)) (au (aU (dJ pQ jE jF bQ (pv 5) (aa (pv 7) ah)))) (aj (aU (dJ pQ PySem.F.slot_list_extend PySem.F.type_list_extend kj (pv 4) (aa (iX mw (pv 8) n8 (je (bz cK (pv 2) (pv 6)))) ah))) (au (aU (dJ pQ PySem.F.slot_list_extend PySem.F.type_list_extend kj (pv 5) (aa (iX mw (pv 8) (je (bz cK (pv 2) (pv 6))) n8) ah)))))))) (au (aV (i:=6) iA.nd (pv 9))))))) (au (aJ (bz jK (bz jK (pv 4) (pv 3)) (pv 5)))))))));refine⟨Y,n,Y,.inl (bI.of hn),rfl,Y,cN (λc=>?_) (λc=>?_)⟩
 ·have c':new=[]:=by
   have z:V.int ((new.map V.int).length:Int)=V.int 0:=of_decide_eq_true c;have z2:=V.int.inj z;rw[cy]at z2;exact List.eq_nil_of_length_eq_zero ∅
  refine⟨Y,Y,r,K,V,bI.of ye,vP,b,Y,.inl (bI.of hb0),λo ho=>k es o _ fj ?_ ?_ (ak ho _) ho⟩
  ·rw[af];unfold fN;rw[if_pos c']
  ·unfold fN;rw[if_pos c'];lia
 have c':¬ new=[]:=λz=>c (by rw[z];rfl);refine⟨gU,λA hA=>⟨gU,λB hB=>?_⟩⟩;have sA:aI H (aN H A (.lst [])):=ak hA _;have sB:aI _ (aN (aN H A (.lst [])) B (.lst [])):=ak hB _;have s1:=sA.trans sB;have A7:A≠B:=az af hB;have Ni:=aW sA hB;refine⟨Y,Y,r,K,V,bI.of (s1 _ _ ye),vP,b,rfl,⟨_,bI.of (s1 _ _ hb0)⟩,dm (K:=K) (a:=b) (xs:=es.map V.int) (λi σ H2=>∃ u1 u2 u3:Option V,σ=[some (.ref r),some (.int s),some (.int p),some (.ref n),some (.ref A),some (.ref B),some (.int (0+((aS sh (es.take i)).length:Int))),u1,u2,u3]/\H2 A=some (.lst ((aE sh p 0 (es.take i)).map V.int))/\H2 B=some (.lst ((bE sh p 0 (es.take i)).map V.int))/\aI H H2) ⟨none,none,none,rfl,sB _ _ af,af,s1⟩ (by rintro i σ H2 _ ⟨_,_,_,_,_,_,s2⟩;exact bI.of (s2 _ _ hb0)) ?_ ?_⟩
 ·rintro i x σ H2 hi ⟨u1,u2,u3,rfl,Qo,hB2,s2⟩;rw[mY]at hi;obtain⟨e,ex,rfl⟩:=Option.map_eq_some_iff.mp hi;have st:=take_snoc ex
  have eA:aE sh p 0 (es.take (i+1))=aE sh p 0 (es.take i)++(if 0+((aS sh (es.take i)).length:Int)+(aY sh e).length<=p then [e] else if p<=0+((aS sh (es.take i)).length:Int) then [] else (aY sh e).take (p-(0+((aS sh (es.take i)).length:Int))).toNat):=by
   rw[st,xu,aE,aE,gP]
  have eB:bE sh p 0 (es.take (i+1))=bE sh p 0 (es.take i)++(if 0+((aS sh (es.take i)).length:Int)+(aY sh e).length<=p then [] else if p<=0+((aS sh (es.take i)).length:Int) then [e] else (aY sh e).drop (p-(0+((aS sh (es.take i)).length:Int))).toNat):=by
   rw[st,xx,bE,bE,gP]
  have eF:(0+((aS sh (es.take (i+1))).length:Int))=0+((aS sh (es.take i)).length:Int)+(aY sh e).length:=by
   rw[st,jV,bU,cY,cY];simp[aS]
  have lA:=Ep sh p (es.take (i+1)) 0;have lB:=Er sh p (es.take (i+1)) 0;have lA0:=Ep sh p (es.take i) 0;have lB0:=Er sh p (es.take i) 0;have l1:=qD sh es (i+1);have l0:=qD sh es i;have t1:(es.take (i+1)).length<=es.length:=by rw[gx];lia
  have t0:(es.take i).length<=es.length:=by rw[gx];lia
  refine⟨Y,Y,av,r,rows,e,sh,rk,rfl,R.same s2,dI,pR,xY,E1,xq,λae0=>?_,λo H3 h3 s3 ho=>?_⟩
  ·have nx:j0 rows s (-1-e):=⟨h0,es,fj,bT.mpr ⟨Q,by rw[show -1-(-1-e)=e by lia];exact oF ex⟩⟩;have:=xq _ _ nx;exact⟨(pR.EY nx).2,Q⟩
  have Hy:=s3 _ _ Qo;have TU:=s3 _ _ hB2;exists Y,Y,o,Y,.inl (bI.of h3),Z;rw[cy];refine⟨Y,Y,Z,Y,cN (λc1=>?_) (λc1=>?_)⟩
  ·have U7:0+((aS sh (es.take i)).length:Int)+((aY sh e).length:Int)<=p:=of_decide_eq_true c1;rw[if_pos U7]at eA eB;refine⟨Y,.inl ⟨rfl,_,bI.of Hy⟩,Y,A,Z,Hy,aR (by rw[cy];lia),?_⟩;refine⟨Y,some (.int e),some (.ref o),some (.int (0+((aS sh (es.take i)).length:Int)+((aY sh e).length:Int))),?_,?_,?_,bP hA (s2.trans s3) (aG A _ _)⟩
   ·rw[eF];rfl
   ·rw[af,eA,gw];rfl
   ·rw[aK A7.symm,eB,gP];exact TU
  ·have U7:¬ 0+((aS sh (es.take i)).length:Int)+((aY sh e).length:Int)<=p:=λz=>c1 (decide_eq_true z);rw[if_neg U7]at eA eB;refine⟨Y,Y,Z,Y,cN (λc2=>?_) (λc2=>?_)⟩
   ·have ME:p<=0+((aS sh (es.take i)).length:Int):=of_decide_eq_true c2;rw[if_pos ME]at eA eB;refine⟨Y,.inl ⟨rfl,_,bI.of TU⟩,Y,B,Z,TU,aR (by rw[cy];lia),?_⟩;refine⟨Y,some (.int e),some (.ref o),some (.int (0+((aS sh (es.take i)).length:Int)+((aY sh e).length:Int))),?_,?_,?_,bP Ni (s2.trans s3) (aG B _ _)⟩
    ·rw[eF];rfl
    ·rw[aK A7,eA,gP];exact Hy
    ·rw[af,eB,gw];rfl
   ·have ME:¬ p<=0+((aS sh (es.take i)).length:Int):=λz=>c2 (decide_eq_true z);rw[if_neg ME]at eA eB;rw[eA,cY]at lA;rw[eB,cY]at lB;refine⟨Y,.inl ⟨rfl,_,bI.of Hy⟩,Y,Y,Y,Z,Y,o,Y,bI.of h3,λq1 Mf=>?_⟩;have n1:aI H3 (aN H3 q1 (.lst (kU ((aY sh e).map V.int) none (some (p-(0+((aS sh (es.take i)).length:Int))))))):=ak Mf _;have e1:kU ((aY sh e).map V.int) none (some (p-(0+((aS sh (es.take i)).length:Int))))=((aY sh e).take (p-(0+((aS sh (es.take i)).length:Int))).toNat).map V.int:=by rw[uU _ ∅,List.map_take]
    refine⟨A,q1,Z,n1 _ _ Hy,af,gT (aR (by rw[e1,cy,cy];lia)),?_⟩;have k4:cD A H3 (aN (aN H3 q1 (.lst (kU ((aY sh e).map V.int) none (some (p-(0+((aS sh (es.take i)).length:Int))))))) A (.lst ((aE sh p 0 (es.take i)).map V.int++kU ((aY sh e).map V.int) none (some (p-(0+((aS sh (es.take i)).length:Int))))))):=cD.trans (aI.keep n1) (aG A _ _);have no:o≠A:=(az Qo ho).symm;have nqA:q1≠A:=(az Hy Mf).symm;have hB4:=k4 _ _ TU A7.symm;refine⟨Y,.inl ⟨rfl,_,bI.of hB4⟩,Y,Y,Y,Z,Y,o,Y,bI.of (k4 _ _ h3 no),λq2 dN=>?_⟩;have e2:kU ((aY sh e).map V.int) (some (p-(0+((aS sh (es.take i)).length:Int)))) none=((aY sh e).drop (p-(0+((aS sh (es.take i)).length:Int))).toNat).map V.int:=by rw[xB _ ∅,List.map_drop]
    refine⟨B,q2,Z,ak dN _ _ _ hB4,af,gT (aR (by rw[e2,cy,cy];lia)),?_⟩;exists Y,some (.int e),some (.ref o),some (.int (0+((aS sh (es.take i)).length:Int)+((aY sh e).length:Int))),?_,?_,?_
    ·rw[eF];rfl
    ·rw[aK A7,ak dN _ _ _ af,eA,gw,e1]
    ·rw[af,eB,gw,e2]
    ·exact bP Ni ((bP hA (s2.trans s3) k4).trans (ak dN _)) (aG B _ _)
 ·rintro σ H2 ⟨u1,u2,u3,rfl,Qo,hB2,s2⟩;rw[cy,gO]at Qo hB2;have lA:=Ep sh p es 0;have lB:=Er sh p es 0;refine⟨Y,Y,A,n,Z,Qo,s2 _ _ hn,gT (aR (by rw[cy,cy];lia)),λc1 Sf=>?_⟩;have n1:aI H2 (aN H2 c1 (.lst ((aE sh p 0 es).map V.int++new.map V.int))):=ak Sf _;refine⟨Y,c1,B,Z,af,n1 _ _ hB2,gT (aR (by rw[cY,cy,cy,cy];lia)),λc2 Xe=>?_⟩;refine k es c2 _ fj ?_ ?_ (s2.trans (n1.trans (ak Xe _))) (aW (s2.trans n1) Xe)
  ·rw[af];unfold fN;rw[if_neg c',gw,gw]
  ·unfold fN;rw[if_neg c',cY,cY];lia
def Q5(sh:Int->List Int)(a b f e:Int):List Int:=if a=b then [e] else KW sh a b f e
def Q6(sh:Int->List Int)(a b f e:Int):List Int:=if a=b then [] else Nk sh a b f e
theorem GN(sh:Int->List Int)(a b:Int)(es:List Int)(e:Int):bV sh a b (es++[e])=bV sh a b es++Q5 sh a b (0+((aS sh es).length:Int)) e:=by
 unfold bV Q5;split
 ·rfl
 ·rw[xy,kE,kE,gP]
theorem GO(sh:Int->List Int)(a b:Int)(es:List Int)(e:Int):ir sh a b (es++[e])=ir sh a b es++Q6 sh a b (0+((aS sh es).length:Int)) e:=by
 unfold ir Q6;split
 ·rfl
 ·rw[xA,tE,tE,gP]
theorem TV(sh:Int->List Int)(a b f e:Int):(Q5 sh a b f e).length<=1+2*(aY sh e).length:=by
 unfold Q5 KW;split
 ·simp
 ·split
  ·simp
  ·split
   ·simp
   ·rw[cY,gx,qV];lia
theorem TX(sh:Int->List Int)(a b f e:Int):(Q6 sh a b f e).length<=1+2*(aY sh e).length:=by
 unfold Q6 Nk;split
 ·simp
 ·split
  ·simp
  ·split
   ·simp
   ·rw[qV,gx];lia
theorem Qp(sh:Int->List Int)(a b:Int):∀ (es:List Int) (f:Int),(kE sh a b f es).length<=es.length+2*(aS sh es).length
 | [],_=>by simp[kE]
 | e::r,f=>by
  rw[kE,bU,cY,cY,eY];have x:=Qp sh a b r (f+(aY sh e).length)
  have y:(KW sh a b f e).length<=1+2*(aY sh e).length:=by
   unfold KW;split
   ·simp
   ·split
    ·simp
    ·rw[cY,gx,qV];lia
  lia
theorem Qq(sh:Int->List Int)(a b:Int):∀ (es:List Int) (f:Int),(tE sh a b f es).length<=es.length+2*(aS sh es).length
 | [],_=>by simp[tE]
 | e::r,f=>by
  rw[tE,bU,cY,cY,eY];have x:=Qq sh a b r (f+(aY sh e).length)
  have y:(Nk sh a b f e).length<=1+2*(aY sh e).length:=by
   unfold Nk;split
   ·simp
   ·split
    ·simp
    ·rw[qV,gx];lia
  lia
theorem uZ(sh:Int->List Int)(a b:Int)(es:List Int):(bV sh a b es).length<=es.length+2*(aS sh es).length:=by
 unfold bV;split
 ·lia
 ·exact Qp sh a b es 0
theorem AR(sh:Int->List Int)(a b:Int)(es:List Int):(ir sh a b es).length<=es.length+2*(aS sh es).length:=by
 unfold ir;split
 ·simp
 ·exact Qq sh a b es 0
class inductive Qs(d:Nat)
 | mk (av:Addr->Prop) (r:Addr) (rows:cU) (s a b:Int) (sh:Int->List Int) (rk:Int->Nat) (_:vs=[.ref r,.int s,.int a,.int b]) (_:ig av H r rows) (_:rows.length<=1000) (_:(∀ es∈rows,es.length<=1000)) (_:gp rows) (_:nH rows sh) (_:(∀ x:Int,0<=x->x<rows.length->(sh x).length<=10000)) (_:(∀ x y,j0 rows x y->rk y<rk x)) (_:0<=s) (_:s<rows.length) (_:rk s<=d) (_:a<=b) (_ :
 ∀ (es:List Int) (t L M:Addr) (H':Hp),rows[s.toNat]?=some es->H' t=some (.tup [.ref L,.ref M])->H' L=some (.lst ((bV sh a b es).map V.int))->H' M=some (.lst ((ir sh a b es).map V.int))->aI H H'->H L=none->H M=none->L≠M->Q (.ref t) H')
theorem gn:aH ["_law_rows","_law_sheet","_law_start","_law_stop","_law_kept","_law_taken","_law_first","_law_entry","_law_pieces_here","_law_last","_law_low","_law_high"] ["_law_rows","_law_sheet","_law_start","_law_stop"] (aA wO):=eU
theorem Jt(D:Ds K mg bf br C CS CW CB CT CD){d:Nat}:bq P w K mg zt cL (d+3) (bf 85) (br 85) ["_law_rows","_law_sheet","_law_start","_law_stop"] (Qs d):=by
 have qE:bq P w K mg zt cL (d+2) _ _ zl7 (xO d):=t6 D;refine eV D.WQ.F gn λcV A zn s0 H vs Q E hr h=>?_;obtain⟨av,r,rows,s,p,q,sh,rk,rfl,R,dI,hes,pR,xY,E1,xq,h0,h1,hd,hpq,k⟩:=h;obtain⟨es,fj⟩:∃ es,rows[s.toNat]?=some es:=⟨_,pS ∅⟩;have esl:=hes es (oF fj);have shs:=xY s es h0 fj;have shl:=E1 s h0 h1;rw[shs]at shl;obtain⟨yf,b,ye,Bo,hb0,hrl⟩:=R.get fj
 have vP:pU yf s=some (.ref b):=by
  have z:=cO Bo;rw[show ((s.toNat:Nat):Int)=s by lia]at z;exact z
 exists _,(aj (aV (i:=4) gn.nd (bL ah)) (aj (aV (i:=5) gn.nd (bL ah)) (aj (aV (i:=6) gn.nd ay) (aj (dQ PassesOwn.never rfl (cF (aO bu (pv 0) (pv 1))) (ck (i:=7) gn.nd) (aj (aV (i:=8) gn.nd (aC D.WO qE hr (aa (pv 0) (aa (pv 7) ah)))) (aj (aV (i:=9) gn.nd (bz dz (pv 6) (eX D.T.eN (pv 8)))) (aj (aV (i:=10) gn.nd (cz (mP rfl) rfl D.T.Ad PyProof.Rows.boot_max (aa ay (aa (bz cK (pv 2) (pv 6)) ah)))) (aj (aV (i:=11) gn.nd (bz cK (cz (pC rfl) rfl D.T.FZ PyProof.Rows.boot_min (aa (pv 9) (aa (pv 3) ah))) (pv 6))) (aj (bN (PW.pt (zm (aT d7 (pv 2) (pv 3) (aZ _)) (zm (aT gr (pv 9) (pv 2) (aZ _)) (wG (aT gr (pv 3) (pv 6) (aZ _)))))) (au (aU (dJ pQ jE jF bQ (pv 4) (aa (pv 7) ah)))) (au (bN (PW.pt (m6 (aT gr (pv 2) (pv 6) (aZ _)) (kH (aT gr (pv 9) (pv 3) (aZ _))))) (au (aU (dJ pQ jE jF bQ (pv 5) (aa (pv 7) ah)))) (aj (aU (dJ pQ PySem.F.slot_list_extend PySem.F.type_list_extend kj (pv 4) (aa (bz jK (iX mw (pv 8) n8 (je (pv 10))) (iX mw (pv 8) (je (pv 11)) n8)) ah))) (au (aU (dJ pQ PySem.F.slot_list_extend PySem.F.type_list_extend kj (pv 5) (aa (iX mw (pv 8) (je (pv 10)) (je (pv 11))) ah)))))))) (au (aV (i:=6) gn.nd (pv 9))))))))) (au (aJ (cH (aa (pv 4) (aa (pv 5) ah)))))))));refine⟨gU,λA hA=>⟨gU,λB hB=>?_⟩⟩;have sA:aI H (aN H A (.lst [])):=ak hA _;have sB:aI _ (aN (aN H A (.lst [])) B (.lst [])):=ak hB _;have s1:=sA.trans sB;have A7:A≠B:=az af hB;have Ni:=aW sA hB
 have z0:bV sh p q []=[]/\ir sh p q []=[]:=by
  unfold bV ir
  constructor <;> split <;> rfl
 refine⟨Y,Y,r,K,V,bI.of (s1 _ _ ye),vP,b,rfl,⟨_,bI.of (s1 _ _ hb0)⟩,dm (K:=K) (a:=b) (xs:=es.map V.int) (λi σ H2=>∃ u1 u2 u3 u4 u5:Option V,σ=[some (.ref r),some (.int s),some (.int p),some (.int q),some (.ref A),some (.ref B),some (.int (0+((aS sh (es.take i)).length:Int))),u1,u2,u3,u4,u5]/\H2 A=some (.lst ((bV sh p q (es.take i)).map V.int))/\H2 B=some (.lst ((ir sh p q (es.take i)).map V.int))/\aI H H2) ⟨none,none,none,none,none,rfl,(by rw[List.take_zero,z0.1];exact sB _ _ af),(by rw[List.take_zero,z0.2];exact af),s1⟩ (by rintro i σ H2 _ ⟨_,_,_,_,_,_,_,_,s2⟩;exact bI.of (s2 _ _ hb0)) ?_ ?_⟩
 ·rintro i x σ H2 hi ⟨u1,u2,u3,u4,u5,rfl,Qo,hB2,s2⟩;rw[mY]at hi;obtain⟨e,ex,rfl⟩:=Option.map_eq_some_iff.mp hi;have st:=take_snoc ex;have eA:=GN sh p q (es.take i) e;have eB:=GO sh p q (es.take i) e;rw[← st]at eA eB
  have eF:(0+((aS sh (es.take (i+1))).length:Int))=0+((aS sh (es.take i)).length:Int)+(aY sh e).length:=by
   rw[st,jV,bU,cY,cY];simp[aS]
  have lA0:=uZ sh p q (es.take i);have lB0:=AR sh p q (es.take i);have l1:=qD sh es (i+1);have l0:=qD sh es i
  have le:(aY sh e).length<=(aS sh (es.take (i+1))).length:=by
   rw[st,jV,bU,cY,cY];lia
  have lkk:=TV sh p q (0+((aS sh (es.take i)).length:Int)) e;have ltt:=TX sh p q (0+((aS sh (es.take i)).length:Int)) e;have t0:(es.take i).length<=es.length:=by rw[gx];lia
  generalize hf:0+((aS sh (es.take i)).length:Int)=fi at *;refine⟨Y,Y,av,r,rows,e,sh,rk,rfl,R.same s2,dI,pR,xY,E1,xq,λae0=>?_,λo H3 h3 s3 ho=>?_⟩
  ·have nx:j0 rows s (-1-e):=⟨h0,es,fj,bT.mpr ⟨Q,by rw[show -1-(-1-e)=e by lia];exact oF ex⟩⟩;have:=xq _ _ nx;exact⟨(pR.EY nx).2,Q⟩
  have Hy:=s3 _ _ Qo;have TU:=s3 _ _ hB2;exists Y,Y,o,Y,.inl (bI.of h3),Z;rw[cy];exists Y,Y,Z,P,rfl;exists Y,Y,P,rfl,Y,Z
  have lo0:(if p-fi > 0 then p-fi else 0).toNat=(p-fi).toNat/\0<=(if p-fi > 0 then p-fi else 0):=by
   split <;> lia
  have Aq:(p=q\/(fi+((aY sh e).length:Int))<=p\/q<=fi)->(aN H3 A (.lst ((bV sh p q (es.take i)).map V.int++[.int e]))) A=some (.lst ((bV sh p q (es.take (i+1))).map V.int))/\(aN H3 A (.lst ((bV sh p q (es.take i)).map V.int++[.int e]))) B=some (.lst ((ir sh p q (es.take (i+1))).map V.int)):=λc=>by
   have e1:Q5 sh p q fi e=[e]:=by
    unfold Q5 KW;rcases c with c|c
    ·rw[if_pos c]
    ·rw[if_pos c];split <;> rfl
   have e2:Q6 sh p q fi e=[]:=by
    unfold Q6 Nk;rcases c with c|c
    ·rw[if_pos c]
    ·rw[if_pos c];split <;> rfl
   rw[af,aK A7.symm,eA,eB,e1,e2,gP,gw];exact⟨rfl,TU⟩
  have stf:∀ y:Option V,[some (V.ref r),some (.int s),some (.int p),some (.int q),some (.ref A),some (.ref B),some (.int (fi+((aY sh e).length:Int))),some (.int e),some (.ref o),some (.int (fi+((aY sh e).length:Int))),some (.int (if p-fi > 0 then p-fi else 0)),y]=[some (.ref r),some (.int s),some (.int p),some (.int q),some (.ref A),some (.ref B),some (.int (0+((aS sh (es.take (i+1))).length:Int))),some (.int e),some (.ref o),some (.int (fi+((aY sh e).length:Int))),some (.int (if p-fi > 0 then p-fi else 0)),y]:=λy=>by rw[eF]
  have keepR:∀ c:(p=q\/(fi+((aY sh e).length:Int))<=p\/q<=fi),∃ u1 u2 u3 u4 u5:Option V,[some (V.ref r),some (.int s),some (.int p),some (.int q),some (.ref A),some (.ref B),some (.int (fi+((aY sh e).length:Int))),some (.int e),some (.ref o),some (.int (fi+((aY sh e).length:Int))),some (.int (if p-fi > 0 then p-fi else 0)),some (.int ((if q<(fi+((aY sh e).length:Int)) then q else (fi+((aY sh e).length:Int)))-fi))]=[some (.ref r),some (.int s),some (.int p),some (.int q),some (.ref A),some (.ref B),some (.int (0+((aS sh (es.take (i+1))).length:Int))),u1,u2,u3,u4,u5]/\(aN H3 A (.lst ((bV sh p q (es.take i)).map V.int++[.int e]))) A=some (.lst ((bV sh p q (es.take (i+1))).map V.int))/\(aN H3 A (.lst ((bV sh p q (es.take i)).map V.int++[.int e]))) B=some (.lst ((ir sh p q (es.take (i+1))).map V.int))/\aI H (aN H3 A (.lst ((bV sh p q (es.take i)).map V.int++[.int e]))):=λc =>
   ⟨K,P,stf _,(Aq c).1,(Aq c).2,bP hA (s2.trans s3) (aG A _ _)⟩
  have mA:((bV sh p q (es.take i)).map V.int).length<sizeLine:=aR (by rw[cy];lia);refine⟨Y,Y,rfl,Y,cN (λc1=>jH ?_) (λc1=>?_)⟩
  ·exact⟨Y,.inl ⟨rfl,_,bI.of Hy⟩,Y,A,Z,Hy,mA,Y,keepR (.inl (V.int.inj (of_decide_eq_true c1)))⟩
  have U7:¬ p=q:=λz=>c1 (by rw[z];exact decide_eq_true rfl);refine⟨Y,Y,Z,Y,cN (λc2=>jH ?_) (λc2=>?_)⟩
  ·exact⟨Y,.inl ⟨rfl,_,bI.of Hy⟩,Y,A,Z,Hy,mA,Y,keepR (.inr (.inl (of_decide_eq_true c2)))⟩
  have ME:¬ (fi+((aY sh e).length:Int))<=p:=λz=>c2 (decide_eq_true z);refine⟨Y,Y,Z,Y,cN (λc3=>?_) (λc3=>?_)⟩
  ·exact⟨Y,.inl ⟨rfl,_,bI.of Hy⟩,Y,A,Z,Hy,mA,Y,keepR (.inr (.inr (of_decide_eq_true c3)))⟩
  have c3':¬ q<=fi:=λz=>c3 (decide_eq_true z);have n1:¬ ((fi+((aY sh e).length:Int))<=p\/q<=fi):=λz=>z.elim ME c3'
  have hh:((if q<(fi+((aY sh e).length:Int)) then q else (fi+((aY sh e).length:Int)))-fi).toNat=min (aY sh e).length (q-fi).toNat/\0<=(if q<(fi+((aY sh e).length:Int)) then q else (fi+((aY sh e).length:Int)))-fi:=by
   split <;> lia
  have pq:p<q:=by lia
  have vf:¬ (p<=fi/\(fi+((aY sh e).length:Int))<=q)->Q5 sh p q fi e=(aY sh e).take (if p-fi > 0 then p-fi else 0).toNat++(aY sh e).drop ((if q<(fi+((aY sh e).length:Int)) then q else (fi+((aY sh e).length:Int)))-fi).toNat/\Q6 sh p q fi e=((aY sh e).take ((if q<(fi+((aY sh e).length:Int)) then q else (fi+((aY sh e).length:Int)))-fi).toNat).drop (if p-fi > 0 then p-fi else 0).toNat:=λc4=>by
   unfold Q5 Q6 KW Nk;rw[if_neg U7,if_neg U7,if_neg n1,if_neg n1,if_neg c4,if_neg c4,lo0.1,hh.1];rcases Nat.le_total (q-fi).toNat (aY sh e).length with z|z
   ·rw[Nat.min_eq_right z];exact⟨V⟩
   ·rw[Nat.min_eq_left z,ve z,ve (fF _),ua z,ua (fF _)];exact⟨V⟩
  refine⟨Y,Y,Z,Y,OQ (λz=>⟨Y,Y,Z,Y,z⟩) (λc6=>?_) (λc6=>?_)⟩
  ·have e1:Q5 sh p q fi e=[]:=by unfold Q5 KW;rw[if_neg U7,if_neg n1,if_pos c6]
   have e2:Q6 sh p q fi e=[e]:=by unfold Q6 Nk;rw[if_neg U7,if_neg n1,if_pos c6]
   refine⟨Y,.inl ⟨rfl,_,bI.of TU⟩,Y,B,Z,TU,aR (by rw[cy];lia),Y,K,P,stf _,?_,?_,bP Ni (s2.trans s3) (aG B _ _)⟩
   ·rw[aK A7,eA,e1,gP];exact Hy
   ·rw[af,eB,e2,gw];rfl
  ·obtain⟨r1,r2⟩:=vf c6;rw[r1,cY]at lkk;rw[r2]at ltt;refine⟨Y,.inl ⟨rfl,_,bI.of Hy⟩,Y,Y,Y,o,Y,bI.of h3,λq1 Mf=>?_⟩;rw[uU _ lo0.2,← List.map_take];have n4:aI H3 (aN H3 q1 (.lst (((aY sh e).take (if p-fi > 0 then p-fi else 0).toNat).map V.int))):=ak Mf _;refine⟨Y,Y,Y,o,Y,bI.of (n4 _ _ h3),λq2 dN=>?_⟩;rw[xB _ hh.2,← List.map_drop];have n5:aI _ (aN (aN H3 q1 (.lst (((aY sh e).take (if p-fi > 0 then p-fi else 0).toNat).map V.int))) q2 (.lst (((aY sh e).drop ((if q<(fi+((aY sh e).length:Int)) then q else (fi+((aY sh e).length:Int)))-fi).toNat).map V.int))):=ak dN _;refine⟨q1,q2,Z,n5 _ _ af,af,(by rw[cy,cy];exact gT (aR ∅)),λq3 sJ=>?_⟩;have n6:aI _ (aN (aN (aN H3 q1 (.lst (((aY sh e).take (if p-fi > 0 then p-fi else 0).toNat).map V.int))) q2 (.lst (((aY sh e).drop ((if q<(fi+((aY sh e).length:Int)) then q else (fi+((aY sh e).length:Int)))-fi).toNat).map V.int))) q3 (.lst (((aY sh e).take (if p-fi > 0 then p-fi else 0).toNat).map V.int++((aY sh e).drop ((if q<(fi+((aY sh e).length:Int)) then q else (fi+((aY sh e).length:Int)))-fi).toNat).map V.int))):=ak sJ _;have n46:=n4.trans (n5.trans n6);have h63:(aN (aN (aN H3 q1 (.lst (((aY sh e).take (if p-fi > 0 then p-fi else 0).toNat).map V.int))) q2 (.lst (((aY sh e).drop ((if q<(fi+((aY sh e).length:Int)) then q else (fi+((aY sh e).length:Int)))-fi).toNat).map V.int))) q3 (.lst (((aY sh e).take (if p-fi > 0 then p-fi else 0).toNat).map V.int++((aY sh e).drop ((if q<(fi+((aY sh e).length:Int)) then q else (fi+((aY sh e).length:Int)))-fi).toNat).map V.int))) q3=some (.lst (((aY sh e).take (if p-fi > 0 then p-fi else 0).toNat).map V.int++((aY sh e).drop ((if q<(fi+((aY sh e).length:Int)) then q else (fi+((aY sh e).length:Int)))-fi).toNat).map V.int)):=af;generalize aN (aN (aN H3 q1 (.lst (((aY sh e).take (if p-fi > 0 then p-fi else 0).toNat).map V.int))) q2 (.lst (((aY sh e).drop ((if q<(fi+((aY sh e).length:Int)) then q else (fi+((aY sh e).length:Int)))-fi).toNat).map V.int))) q3 (.lst (((aY sh e).take (if p-fi > 0 then p-fi else 0).toNat).map V.int++((aY sh e).drop ((if q<(fi+((aY sh e).length:Int)) then q else (fi+((aY sh e).length:Int)))-fi).toNat).map V.int))=H6 at n46 h63;refine⟨A,q3,Z,n46 _ _ Hy,h63,(by rw[cY,cy,cy,cy];exact gT (aR ∅)),?_⟩;have k7:cD A H6 (aN H6 A (.lst ((bV sh p q (es.take i)).map V.int++(((aY sh e).take (if p-fi > 0 then p-fi else 0).toNat).map V.int++((aY sh e).drop ((if q<(fi+((aY sh e).length:Int)) then q else (fi+((aY sh e).length:Int)))-fi).toNat).map V.int)))):=aG A _ _;have hA7:(aN H6 A (.lst ((bV sh p q (es.take i)).map V.int++(((aY sh e).take (if p-fi > 0 then p-fi else 0).toNat).map V.int++((aY sh e).drop ((if q<(fi+((aY sh e).length:Int)) then q else (fi+((aY sh e).length:Int)))-fi).toNat).map V.int)))) A=some (.lst ((bV sh p q (es.take (i+1))).map V.int)):=by rw[af,eA,r1,gw,gw]
   have no:o≠A:=(az Qo ho).symm;have h37:=k7 _ _ (n46 _ _ h3) no;have hB7:=k7 _ _ (n46 _ _ TU) A7.symm;have sm7:=bP hA (s2.trans (s3.trans n46)) k7;generalize aN H6 A (.lst ((bV sh p q (es.take i)).map V.int++(((aY sh e).take (if p-fi > 0 then p-fi else 0).toNat).map V.int++((aY sh e).drop ((if q<(fi+((aY sh e).length:Int)) then q else (fi+((aY sh e).length:Int)))-fi).toNat).map V.int)))=H7 at k7 hA7 h37 hB7 sm7;refine⟨Y,.inl ⟨rfl,_,bI.of hB7⟩,Y,Y,Y,Y,Y,o,Y,bI.of h37,λq4 F6=>?_⟩;rw[Gz _ lo0.2 hh.2,← List.map_take,← List.map_drop];refine⟨B,q4,Z,ak F6 _ _ _ hB7,af,(by rw[cy,cy];exact gT (aR ∅)),?_⟩;refine⟨Y,K,P,stf _,?_,?_,bP Ni (sm7.trans (ak F6 _)) (aG B _ _)⟩
   ·rw[aK A7];exact ak F6 _ _ _ hA7
   ·rw[af,eB,r2,gw]
 ·rintro σ H2 ⟨u1,u2,u3,u4,u5,rfl,Qo,hB2,s2⟩;rw[cy,gO]at Qo hB2;refine⟨Y,Y,lu,λt ht=>k es t A B _ fj af (ak ht _ _ _ Qo) (ak ht _ _ _ hB2) (s2.trans (ak ht _)) hA Ni A7⟩
class inductive pP(d:Nat)
 | mk (av:Addr->Prop) (r:Addr) (rows:cU) (x:Int) (f:Int->Int) (rk:Int->Nat) (_:vs=[.ref r,.int x]) (_:ig av H r rows) (_:rows.length<=1000) (_:gp rows) (_:0<=x) (_:x<rows.length) (_:Weighs rows f) (_:(∀ x y,j0 rows x y->rk y<rk x)) (_:rk x<d) (_:Q (.int (f x)) H)
theorem iB:aH ["_law_rows","_law_sheet","_law_total","_law_entry"] ["_law_rows","_law_sheet"] (aA oR):=eU
theorem xP(D:Ds K mg bf br C CS CW CB CT CD){n:Nat}(o6:bq P w K mg zt cL (n+1) (bf 86) (br 86) ["_law_rows","_law_sheet"] (pP n)):bq P w K mg zt cL (n+2) (bf 86) (br 86) ["_law_rows","_law_sheet"] (pP (n+1)):=by
 specialize eV D.SA.F iB;obtain⟨av,r,rows,x,f,rk,rfl,R,dI,pR,x0,x1,hf,xq,hd,k⟩:=h;obtain⟨es,fj⟩:∃ es,rows[x.toNat]?=some es:=⟨_,pS ∅⟩;obtain⟨yf,b,ye,Bo,hb0,hrl⟩:=R.get fj
 have vP:pU yf x=some (.ref b):=by
  have z:=cO Bo;rw[show ((x.toNat:Nat):Int)=x by lia]at z;exact z
 exists _,(aj (aV (i:=2) iB.nd ay) (aj (dQ PassesOwn.never rfl (cF (aO bu (pv 0) (pv 1))) (ck (i:=3) iB.nd) (aj (aV (i:=2) iB.nd (bz dz (pv 2) ay)) (au (bN (aT j8 (pv 3) ay (aZ _)) (au (aV (i:=2) iB.nd (bz dz (pv 2) (aC D.SA o6 hr (aa (pv 0) (aa (bz cK (fQ dR ay) (pv 3)) ah)))))) bg)))) (au (aJ (pv 2)))));refine⟨Y,Y,r,K,V,bI.of ye,vP,b,rfl,⟨_,bI.of hb0⟩,dm (K:=K) (a:=b) (xs:=es.map V.int) (λi σ H2=>∃ u:Option V,σ=[some (.ref r),some (.int x),some (.int (j5 f (es.take i))),u]/\H2=H) ⟨none,V⟩ (λi σ H2 _ ⟨P,e⟩=>by rw[e];exact bI.of hb0) ?_ ?_⟩
 ·rintro i e σ H2 hi ⟨u,rfl,rfl⟩;rw[mY]at hi;obtain⟨e,ex,rfl⟩:=Option.map_eq_some_iff.mp hi
  have st:j5 f (es.take (i+1))=j5 f (es.take i)+(if e<0 then 1+f (-1-e) else 1):=by
   rw[take_snoc ex];unfold j5;rw[gw,List.sum_append];simp
  exists Y,Z;refine⟨Y,Z,Y,cN (λc=>?_) (λc=>?_)⟩
  ·have c':e<0:=of_decide_eq_true c;have Hw:j0 rows x (-1-e):=⟨x0,es,fj,bT.mpr ⟨Q,by rw[show -1-(-1-e)=e by lia];exact oF ex⟩⟩;obtain⟨y0,y1⟩:=pR.EY Hw;have rky:=xq _ _ Hw;exists Y,Y,Y,Y,Z,av,r,rows,-1-e,f,rk,rfl,R,dI,pR,y0,y1,hf,xq,Q,Z;refine⟨some (.int e),?_,rfl⟩;rw[st,if_pos c'];show [some (V.ref r),some (V.int x),some (V.int (j5 f (es.take i)+1+f (-1-e))),some (V.int e)]=_;rw[show j5 f (es.take i)+1+f (-1-e)=j5 f (es.take i)+(1+f (-1-e)) by lia]
  ·have c':¬ e<0:=λz=>c (decide_eq_true z);refine⟨some (.int e),?_,rfl⟩;rw[st,if_neg c'];rfl
 ·rintro σ H2 ⟨u,rfl,rfl⟩;rw[cy,gO,← hf x es x0 fj];exact⟨Y,k⟩
theorem nQ(D:Ds K mg bf br C CS CW CB CT CD):∀ n:Nat,bq P w K mg zt cL (n+1) (bf 86) (br 86) ["_law_rows","_law_sheet"] (pP n)
 | 0=>by
  have no:∀ vs H Q E,¬ pP 0 vs H Q E:=λvs H Q E h=>by
   obtain⟨_,_,_,_,_,_,_,_,_,_,_,_,_,_,h,_⟩:=h;exact Nat.not_lt_zero _ h
  exact⟨λvs H Q E h=>absurd h (no vs H Q E),λA zn s H args us vs Q E _ _ _ _ h=>absurd h (no vs H Q E)⟩
 | n+1=>xP D (nQ D n)
theorem o7:aH ["_law_numbers","_law_row","_law_number"] ["_law_numbers"] (aA qp):=eU
theorem t7:‹(1,87,["_law_numbers"],Kx)›:=λD=>by
 specialize eV D.WR.F o7;obtain⟨r,ns,rfl,jT,dI,k⟩:=h;exists _,(aj (aV (i:=1) o7.nd (bL ah)) (aj (dQ PassesOwn.never rfl (cF (pv 0)) (ck (i:=2) o7.nd) (au (bN (PW.pt (m6 (aT zq (eX D.T.eN (pv 1)) ay (aZ _)) (kH (aT d7 (aO aX (aO bu (pv 1) (fQ dR ay)) ay) (pv 2) (aZ _))))) (au (lJ (cH (aa (aO aX (aO bu (pv 1) (fQ dR ay)) ay) (aa (bz dz (pv 2) ay) ah))) (oG (pv 1) (fQ dR ay) iY))) (au (aU (dJ pQ jE jF bQ (pv 1) (aa (cH (aa (pv 2) (aa (bz dz (pv 2) ay) ah))) ah))))))) (au (aJ (pv 1)))));refine⟨gU,λq hq=>?_⟩;have s0:aI H (aN H q (.lst [])):=ak hq _;refine⟨Y,r,rfl,⟨_,bI.of (s0 _ _ jT)⟩,dm (K:=K) (a:=r) (xs:=ns.map V.int) (λi σ H2=>∃ (bs:List Addr) (u:Option V),σ=[some (.ref r),some (.ref q),u]/\H2 q=some (.lst (bs.map V.ref))/\bw H2 bs ((ns.take i).foldl (λt n=>iQ t n (n+1)) [])/\aI H H2) ⟨[],none,rfl,af,.nil,s0⟩ (by rintro i σ H2 _ ⟨_,_,_,_,_,s⟩;exact bI.of (s _ _ jT)) ?_ ?_⟩
 ·rintro i x σ H2 hi ⟨bs,u,rfl,dN,hb,s⟩;rw[mY]at hi;obtain⟨m,em,rfl⟩:=Option.map_eq_some_iff.mp hi;have step:=foldl_take_succ (λt n=>iQ t n (n+1)) ns [] i m em
  have bl:bs.length<sizeLine:=by
   have z:=hb.len;have z2:=zR (ns.take i) [];rw[gx]at z2;exact aR (by simp only[qO]at z2;lia)
  exists Y,q,Y,.inl (bI.of dN),Z,Y;rcases mZ ((ns.take i).foldl (λt n=>iQ t n (n+1)) []) with hn|⟨rw0,q0,hn⟩
  ·rw[hn]at hb step;have hbs:bs=[]:=List.eq_nil_of_length_eq_zero hb.len;subst hbs;refine eO (eO ?_);refine⟨Y,.inl ⟨rfl,_,bI.of dN⟩,Y,Y,Z,lu,λt ht=>⟨q,Z,ak ht _ _ _ dN,(by show 0<sizeLine;decide),?_⟩⟩;obtain⟨g1,g2,g3⟩:=zQ (st:=m) (en:=m+1) hq s dN hb ht;refine⟨[]++[t],Y,g1,?_,g3⟩;rw[step,kW];exact g2
  ·rw[kM]at hn;rw[hn]at hb step;obtain⟨cs,a0,rfl,hc,F4⟩:=hb.split;have sJ:H2 q=some (.lst (cs.map V.ref++[.ref a0])):=by rw[dN,gw];rfl
   refine cN (λ_=>?_) (λc=>absurd (decide_eq_true (by rw[cy,cY,gM];lia)) c);refine⟨Y,Y,q,K,V,bI.of sJ,eK _ _,a0,K,V,cX.of F4,LP,Y,rfl,Y,cN (λc2=>?_) (λc2=>?_)⟩
   ·have e2:q0.2=m:=V.int.inj (of_decide_eq_true c2);refine⟨Y,Y,q,K,V,bI.of sJ,eK _ _,a0,K,V,cX.of F4,Ow,Y,Z,lu,λt ht=>?_⟩;exists Y,Y,q,P,cs.length,V,ak ht _ _ _ sJ,Iq cs a0;obtain⟨g1,g2,g3⟩:=turned (st:=q0.1) (en:=m+1) hq s sJ hc ht;refine⟨cs++[t],Y,g1,?_,g3⟩;rw[step,kX _ e2];exact g2
   ·have e2:¬ q0.2=m:=λz=>c2 (decide_eq_true (congrArg V.int z));refine⟨Y,.inl ⟨rfl,_,bI.of dN⟩,Y,Y,Z,lu,λt ht=>⟨q,Z,ak ht _ _ _ dN,(by rw[cy];exact bl),?_⟩⟩;obtain⟨g1,g2,g3⟩:=zQ (st:=m) (en:=m+1) hq s dN hb ht;refine⟨cs++[a0]++[t],Y,g1,?_,g3⟩;rw[step,kY _ e2];exact g2
 ·rintro σ H2 ⟨bs,u,rfl,dN,hb,s⟩;refine⟨Y,k q H2 ⟨bs,dN,?_⟩ s hq⟩;rw[cy,gO]at hb;exact hb
class inductive Ld
 | mk (e:Addr) (es:List Int) (_:vs=[.ref e]) (_:H e=some (.lst (es.map V.int))) (_:es.length<=100000) (_ :
 ∀ (o:Addr) (H':Hp),bH H' (.ref o) (aF es)->aI H H'->H o=none->Q (.ref o) H')
theorem lW:aH ["_law_entries","_law_items","_law_entry"] ["_law_entries"] (aA ny):=eU
theorem yN:‹(1,88,["_law_entries"],Ld)›:=λD=>by
 specialize eV D.aan.F lW;obtain⟨e,es,rfl,he,dI,k⟩:=h;exists _,(aj (aV (i:=1) lW.nd (bL ah)) (aj (dQ PassesOwn.never rfl (cF (pv 0)) (ck (i:=2) lW.nd) (au (bN (aT j8 (pv 2) ay (aZ _)) (au (aU (dJ pQ jE jF bQ (pv 1) (aa (cH (aa bx (aa (bz cK (fQ dR ay) (pv 2)) ah))) ah)))) (au (bN (PW.pt (m6 (aT zq (eX D.T.eN (pv 1)) ay (aZ _)) (m6 (aT d7 (aO aX (aO bu (pv 1) (fQ dR ay)) ay) bx (aZ _)) (kH (aT d7 (aO aX (aO bu (pv 1) (fQ dR ay)) ay) (pv 2) (aZ _)))))) (au (lJ (cH (aa bx (aa (aO aX (aO bu (pv 1) (fQ dR ay)) ay) (aa (bz dz (pv 2) ay) ah)))) (oG (pv 1) (fQ dR ay) iY))) (au (aU (dJ pQ jE jF bQ (pv 1) (aa (cH (aa bx (aa (pv 2) (aa (bz dz (pv 2) ay) ah)))) ah))))))))) (au (aJ (pv 1)))));refine⟨gU,λq hq=>?_⟩;have s0:aI H (aN H q (.lst [])):=ak hq _;refine⟨Y,e,rfl,⟨_,bI.of (s0 _ _ he)⟩,dm (K:=K) (a:=e) (xs:=es.map V.int) (λi σ H2=>∃ (vs:List V) (u:Option V),σ=[some (.ref e),some (.ref q),u]/\H2 q=some (.lst vs)/\bS (cI H2) vs ((es.take i).foldl bh [])/\aI H H2) ⟨[],none,rfl,af,.nil,s0⟩ (by rintro i σ H2 _ ⟨_,_,_,_,_,s⟩;exact bI.of (s _ _ he)) ?_ ?_⟩
 ·rintro i x σ H2 hi ⟨vs,u,rfl,dN,hb,s⟩;rw[mY]at hi;obtain⟨x,ex,rfl⟩:=Option.map_eq_some_iff.mp hi;have step:(es.take (i+1)).foldl bh []=bh ((es.take i).foldl bh []) x:=by rw[take_snoc ex,List.foldl_append];rfl
  have bl:vs.length<sizeLine:=by
   have z:=hb.len;have z2:=pH (es.take i) [];rw[gx,qO]at z2;exact aR ∅
  refine⟨Y,Z,Y,cN (λc=>?_) (λc=>?_)⟩
  ·have c':x<0:=of_decide_eq_true c;rw[bh,if_pos c']at step;refine⟨Y,.inl ⟨rfl,_,bI.of dN⟩,Y,Y,Z,lu,λt ht=>⟨q,Z,ak ht _ _ _ dN,bl,?_⟩⟩;refine⟨vs++[.ref t],Y,af,?_,bP hq (s.trans (ak ht _)) (aG q _ _)⟩;rw[step];exact bS.new (it:=.win (-1-x)) dN hb ht _
  ·have c':¬ x<0:=λz=>c (decide_eq_true z);rw[bh,if_neg c']at step;rcases mZ ((es.take i).foldl bh []) with hn|⟨t0,l0,hn⟩
   ·rw[hn]at hb step;have hvs:vs=[]:=List.eq_nil_of_length_eq_zero hb.len;subst hvs;refine⟨Y,q,Y,.inl (bI.of dN),Z,Y,eO (eO ?_)⟩;refine⟨Y,.inl ⟨rfl,_,bI.of dN⟩,Y,Y,Z,IP,λt ht=>⟨q,Z,ak ht _ _ _ dN,bl,?_⟩⟩;refine⟨[]++[.ref t],Y,af,?_,bP hq (s.trans (ak ht _)) (aG q _ _)⟩;rw[step];exact bS.new (it:=.aL x (x+1)) dN hb ht _
   ·rw[kM]at hn;rw[hn,nU,List.dropLast_concat]at step;rw[hn]at hb;obtain⟨us,v0,rfl,hb0,a0,rfl,F4⟩:=hb.split;refine⟨Y,q,Y,.inl (bI.of dN),Z,Y,cN (λ_=>?_) (λz=>absurd (decide_eq_true (by simp)) z)⟩
    cases l0 with
    | win n =>
     refine⟨Y,Y,q,K,V,bI.of dN,eK _ _,a0,K,V,cX.of F4,V,Y,cN (λz=>absurd z (by decide)) (λ_=>eO ?_)⟩;refine⟨Y,.inl ⟨rfl,_,bI.of dN⟩,Y,Y,Z,IP,λt ht=>⟨q,Z,ak ht _ _ _ dN,bl,?_⟩⟩;refine⟨P,rfl,af,?_,bP hq (s.trans (ak ht _)) (aG q _ _)⟩;rw[step];exact bS.new (it:=.aL x (x+1)) dN hb ht _
    | aL p1 p2 =>
     refine⟨Y,Y,q,K,V,bI.of dN,eK _ _,a0,K,V,cX.of F4,V,Y,cN (λ_=>?_) (λz=>absurd (by decide) z)⟩;refine⟨Y,Y,q,K,V,bI.of dN,eK _ _,a0,K,V,cX.of F4,rfl,Y,rfl,Y,cN (λc2=>?_) (λc2=>?_)⟩
     ·have e2:p2=x:=V.int.inj (of_decide_eq_true c2);refine⟨Y,Y,q,K,V,bI.of dN,eK _ _,a0,K,V,cX.of F4,rfl,Y,Z,IP,λt ht=>?_⟩;refine⟨Y,Y,q,P,us.length,V,ak ht _ _ _ dN,(by rw[cY];exact zO _),?_⟩;rw[vA];refine⟨P,rfl,af,?_,bP hq (s.trans (ak ht _)) (aG q _ _)⟩;rw[step];show bS _ _ (if p2=x then t0++[aP.aL p1 (x+1)] else _);rw[if_pos e2];exact bS.new (it:=.aL p1 (x+1)) dN hb0 ht _
     ·have e2:¬ p2=x:=λz=>c2 (decide_eq_true (congrArg V.int z));refine⟨Y,.inl ⟨rfl,_,bI.of dN⟩,Y,Y,Z,IP,λt ht=>⟨q,Z,ak ht _ _ _ dN,bl,?_⟩⟩;refine⟨P,rfl,af,?_,bP hq (s.trans (ak ht _)) (aG q _ _)⟩;rw[step];show bS _ _ (if p2=x then _ else t0++[aP.aL p1 p2]++[aP.aL x (x+1)]);rw[if_neg e2];exact bS.new (it:=.aL x (x+1)) dN hb ht _
 ·rintro σ H2 ⟨vs,u,rfl,dN,hb,s⟩;rw[cy,gO]at hb;exact⟨Y,k q H2 ⟨q,vs,rfl,dN,hb⟩ s hq⟩
theorem Reach.trans{E:Int->Int->Prop}{a b c:Int}(h:Reach E a b)(g:Reach E b c):Reach E a c:=by
 induction g with
 | one e=>exact .step h e
 | step _ e ih=>exact .step ih e
theorem GP{p q:Nat->Bool}(h:∀ i,p i=true->q i=true):∀ n,cnt n p<=cnt n q
 | 0=>fF _
 | n+1=>by
  rw[vD,vD];have ih:=GP h n;by_cases c:p n=true
  ·rw[if_pos c,if_pos (h n c)];lia
  ·rw[if_neg c];lia
open Classical in
theorem Xz{rows:cU}(sd:gp rows)(l:rows.length<=40)(h:∀ x,¬ Reach (j0 rows) x x):Cu rows:=by
 refine⟨λx=>cnt rows.length λi=>decide (Reach (j0 rows) x (i:Int)),λx=>gV (zZ _ _) l,λx y n=>?_⟩;obtain⟨y0,y1⟩:=sd.EY n;have yy:((y.toNat:Nat):Int)=y:=by lia
 have a:=GP (p:=λi=>decide (Reach (j0 rows) y (i:Int))) (q:=λi=>decide (Reach (j0 rows) x (i:Int))&&decide (i≠y.toNat)) (λi hi=>by
  have r:=of_decide_eq_true hi;rw[Bool.and_eq_true];refine⟨decide_eq_true ((Reach.one n).trans r),decide_eq_true λz=>?_⟩;rw[z,yy]at r
  exact h _ r) rows.length
 have b:=vE y.toNat rows.length (p:=λi=>decide (Reach (j0 rows) x (i:Int))) (q:=λi=>decide (Reach (j0 rows) x (i:Int))&&decide (i≠y.toNat)) ∅ (decide_eq_true (by rw[yy];exact .one n)) (λ_=>rfl);show cnt _ _<cnt _ _;lia
theorem Lf{rows:cU}{s:Nat}{es:List Int}{x y:Int}(h:j0 (rows.set s es) x y)(ne:x.toNat≠s):j0 rows x y:=by
 obtain⟨x0,wz,e,hy⟩:=h;rw[List.getElem?_set_ne (λz=>ne z.symm)]at e;exact⟨x0,wz,e,hy⟩
theorem Qt{rows:cU}{s:Int}{es:List Int}(s0:0<=s)(R:Cu rows)(n:¬ Reach (j0 (rows.set s.toNat es)) s s):∀ x,¬ Reach (j0 (rows.set s.toNat es)) x x:=by
 have key:∀ {a b:Int},Reach (j0 (rows.set s.toNat es)) a b->Reach (j0 rows) a b\/((a=s\/Reach (j0 (rows.set s.toNat es)) a s)/\Reach (j0 (rows.set s.toNat es)) s b):=by
  intro a b r
  induction r with
  | one e =>
   by_cases c:a.toNat=s.toNat
   ·have q:a=s:=by have:=e.1;lia
    rw[q]at e;exact .inr ⟨.inl q,.one e⟩
   ·exact .inl (.one (Lf e c))
  | @step y z r e ih =>
   by_cases c:y.toNat=s.toNat
   ·have q:y=s:=by have:=e.1;lia
    rw[q]at r e;exact .inr ⟨.inr r,.one e⟩
   ·rcases ih with i|i
    ·exact .inl (.step i (Lf e c))
    ·exact .inr ⟨i.1,.step i.2 e⟩
 intro x r;rcases key r with z|⟨z|z,y⟩
 ·exact R.irr z
 ·rw[z]at y;exact n y
 ·exact n (y.trans z)
theorem sV(f:Int->Int)(e:Int)(r:List Int):j5 f (e::r)=(if e<0 then 1+f (-1-e) else 1)+j5 f r:=by unfold j5;rw[jJ,List.sum_cons]
theorem Lg{sh:Int->List Int}{f:Int->Int}:∀ {es:List Int},(∀ y∈dO es,((sh y).length:Int)<=f y)->(es.length:Int)<=j5 f es/\((aS sh es).length:Int)<=j5 f es
 | [],_=>by simp[j5,aS]
 | e::r,h=>by
  have ih:=Lg (es:=r) λy hy=>h y (bT.mpr ⟨(bT.mp hy).1,mO _ (bT.mp hy).2⟩);rw[sV,bU,cY,eY];unfold aY;by_cases c:e<0
  ·have z:=h (-1-e) (bT.mpr ⟨Q,by rw[show -1-(-1-e)=e by lia];simp⟩);rw[if_pos c,if_pos c];lia
  ·rw[if_neg c,if_neg c,gM];lia
theorem GQ{rows:cU}{sh:Int->List Int}{f:Int->Int}(sd:gp rows)(R:Cu rows)(hs:nH rows sh)(hw:Weighs rows f):∀ x:Int,0<=x->∀ es,rows[x.toNat]?=some es->(es.length:Int)<=f x/\((sh x).length:Int)<=f x:=by
 obtain⟨rk,_,hd⟩:=R
 have key:∀ (k:Nat) (x:Int),rk x<k->0<=x->∀ es,rows[x.toNat]?=some es->(es.length:Int)<=f x/\((sh x).length:Int)<=f x:=by
  intro k
  induction k with
  | zero=>intro x h;lia
  | succ k ih =>
   intro x hx x0 es he;rw[hw x es x0 he,hs x es x0 he];refine Lg λy hy=>?_;have n:j0 rows x y:=⟨x0,es,he,hy⟩;obtain⟨y0,y1⟩:=sd.EY n;have:=hd _ _ n;exact (ih y ∅ y0 _ (pS ∅)).2
 exact λx=>key (rk x+1) x (Nat.lt_succ_self _)
theorem Qu{rows:cU}{sh:Int->List Int}{N:Int->Prop}(pR:gp rows)(xq:Cu rows)(xY:nH rows sh)(hN:∀ es∈rows,∀ e∈es,0<=e->N e):∀ x:Int,0<=x->x<rows.length->∀ y∈sh x,N y:=by
 obtain⟨rk,hb,hd⟩:=xq
 have key:∀ (k:Nat) (x:Int),rk x<k->0<=x->x<rows.length->∀ y∈sh x,N y:=by
  intro k
  induction k with
  | zero=>intro x h;lia
  | succ k ih =>
   intro x hx x0 x1 y hy;have he:rows[x.toNat]?=some rows[x.toNat]:=pS ∅;rw[xY x _ x0 he]at hy;unfold aS at hy;obtain⟨e,hm,hy⟩:=List.mem_flatMap.mp hy;unfold aY at hy;by_cases c:e<0
   ·rw[if_pos c]at hy;have nx:j0 rows x (-1-e):=⟨x0,_,he,bT.mpr ⟨Q,by rw[show -1-(-1-e)=e by lia];exact hm⟩⟩;obtain⟨a,b⟩:=pR.EY nx;have:=hd _ _ nx;exact ih _ ∅ a b y hy
   ·rw[if_neg c]at hy;rw[List.mem_singleton.mp hy];exact hN _ (oF he) e hm ∅
 exact λx=>key (rk x+1) x (Nat.lt_succ_self _)
def t9(n m:Nat)(e:Int):Prop:=(0<=e/\e<(n:Nat))\/(e<0/\-1-e<(m:Nat))
structure Good(n:Nat)(rows:cU):Prop where
 en:∀ es∈rows,∀ e∈es,t9 n rows.length e
 rk:Cu rows
 ln:rows.length<=40
 wt:∃ f,Weighs rows f/\∀ x:Int,0<=x->x<rows.length->f x<=200
theorem Es{n:Nat}{rows:cU}(h:∀ es∈rows,∀ e∈es,t9 n rows.length e):gp rows:=λes he y hy=>by
 obtain⟨y0,hm⟩:=bT.mp hy;rcases h es he _ hm with z|z
 ·lia
 ·have:=z.2;lia
structure Gd(n:Nat)(rows:cU)(sh:Int->List Int):Prop where
 sn:Seen rows sh
 in_:∀ x:Int,0<=x->x<rows.length->∀ a∈sh x,0<=a/\a<(n:Nat)
 sl:∀ x:Int,0<=x->x<rows.length->(sh x).length<=200
 es:∀ es∈rows,es.length<=200
 en:∀ es∈rows,∀ e∈es,t9 n rows.length e
 ln:rows.length<=40
theorem Good.es{n:Nat}{rows:cU}(h:Good n rows):∀ es∈rows,es.length<=200:=by
 obtain⟨en,rk,ln,f,hw,hm⟩:=h;obtain⟨sh,hs⟩:=AN rk;intro es he;obtain⟨i,hi⟩:=List.mem_iff_getElem?.mp he;have il:=(List.getElem?_eq_some_iff.mp hi).1;have a:=GQ (Es en) rk hs hw (i:Int) ∅ es (by rw[Int.toNat_natCast];exact hi);have:=hm (i:Int) ∅ ∅;lia
theorem Good.C7{n:Nat}{rows:cU}(h:Good n rows):∃ sh,Gd n rows sh:=by
 have hes:=h.es;obtain⟨en,rk,ln,f,hw,hm⟩:=h;obtain⟨sh,hs⟩:=AN rk;have sd:=Es en
 have sl:∀ x:Int,0<=x->x<rows.length->(sh x).length<=200:=λx x0 x1=>by
  have a:=GQ sd rk hs hw x x0 _ (pS ∅);have:=hm x x0 x1;lia
 refine⟨sh,⟨λes he=>by have:=hes es he;lia,sd,rk,hs,λx x0 x1=>by have:=sl x x0 x1;lia⟩,Qu sd rk hs (λes he e hm e0=>?_),sl,hes,en,ln⟩;rcases en es he e hm with z|z
 ·exact z
 ·lia
theorem Good.bears{n:Nat}{rows:cU}(h:Good n rows):∃ f,nP rows f:=by
 have hes:=h.es;obtain⟨en,rk,ln,f,hw,hm⟩:=h;exact⟨f,Q,λes he=>by have:=hes es he;lia,Es en,rk,hw,hm⟩
theorem Qv{n:Nat}{rows:cU}{s:Nat}{es:List Int}(h:∀ es∈rows,∀ e∈es,t9 n rows.length e)(g:∀ e∈es,t9 n rows.length e):∀ wz∈rows.set s es,∀ e∈wz,t9 n (rows.set s es).length e:=by
 intro wz hm;rw[List.length_set];rcases List.mem_or_eq_of_mem_set hm with z|z
 ·exact h wz z
 ·rw[z];exact g
theorem GR{sh:Int->List Int}{N:Int->Prop}(hs:∀ e,N e->∀ x∈aY sh e,N x)(p:Int):∀ (es:List Int) (f:Int),(∀ e∈es,N e)->∀ x,x∈aE sh p f es\/x∈bE sh p f es->N x
 | [],_,_=>λx hx=>by rcases hx with z | z <;> cases z
 | e::r,f,h=>by
  intro x hx;rw[aE,bE,List.mem_append,List.mem_append]at hx;have he:=hs e (h e (by simp));have ih:=GR hs p r (f+(aY sh e).length) (λy hy=>h y (mO _ hy)) x;rcases hx with (z|z)|(z|z)
  ·split at z
   ·rw[List.mem_singleton.mp z];exact h e (by simp)
   ·split at z
    ·cases z
    ·exact he x (List.mem_of_mem_take z)
  ·exact ih (.inl z)
  ·split at z
   ·cases z
   ·split at z
    ·rw[List.mem_singleton.mp z];exact h e (by simp)
    ·exact he x (List.mem_of_mem_drop z)
  ·exact ih (.inr z)
theorem Qw{sh:Int->List Int}{N:Int->Prop}(hs:∀ e,N e->∀ x∈aY sh e,N x)(a b:Int):∀ (es:List Int) (f:Int),(∀ e∈es,N e)->∀ x,x∈kE sh a b f es\/x∈tE sh a b f es->N x
 | [],_,_=>λx hx=>by rcases hx with z | z <;> cases z
 | e::r,f,h=>by
  intro x hx;rw[kE,tE,List.mem_append,List.mem_append]at hx;have he:=hs e (h e (by simp));have ih:=Qw hs a b r (f+(aY sh e).length) (λy hy=>h y (mO _ hy)) x;unfold KW Nk at hx;rcases hx with (z|z)|(z|z)
  ·split at z
   ·rw[List.mem_singleton.mp z];exact h e (by simp)
   ·split at z
    ·cases z
    ·rcases List.mem_append.mp z with z|z
     ·exact he x (List.mem_of_mem_take z)
     ·exact he x (List.mem_of_mem_drop z)
  ·exact ih (.inl z)
  ·split at z
   ·cases z
   ·split at z
    ·rw[List.mem_singleton.mp z];exact h e (by simp)
    ·exact he x (List.mem_of_mem_take (List.mem_of_mem_drop z))
  ·exact ih (.inr z)
theorem xQ{sh:Int->List Int}{N:Int->Prop}(hs:∀ e,N e->∀ x∈aY sh e,N x){p:Int}{es new:List Int}(h:∀ e∈es,N e)(g:∀ e∈new,N e):∀ e∈fN sh p es new,N e:=by
 intro x hx;unfold fN at hx;split at hx
 ·exact h x hx
 ·rw[List.mem_append,List.mem_append]at hx;rcases hx with (z|z)|z
  ·exact GR hs p es 0 h x (.inl z)
  ·exact g x z
  ·exact GR hs p es 0 h x (.inr z)
theorem Gd.cl{n:Nat}{rows:cU}{sh:Int->List Int}(h:Gd n rows sh):∀ e,t9 n rows.length e->∀ x∈aY sh e,t9 n rows.length x:=by
 intro e he x hx;unfold aY at hx;rcases he with z|z
 ·rw[if_neg ∅]at hx;rw[List.mem_singleton.mp hx];exact .inl z
 ·rw[if_pos z.1]at hx;exact .inl (h.in_ _ ∅ z.2 x hx)
theorem Gd.own{n:Nat}{rows:cU}{sh:Int->List Int}(h:Gd n rows sh)(s:Int):∀ e∈gA.own rows s,t9 n rows.length e:=by
 unfold gA.own
 cases e:rows[s.toNat]? with
 | none=>exact λ_ z=>nomatch z
 | some es=>exact h.en es (oF e)
inductive LD
 | put (s p:Int) (r:Addr) (row:Row)
 | cut (s a b:Int)
 | TY (s a b t:Int)
 | U8 (t p s a b:Int)
 | win (t p s:Int)
 | fix (s:Int)
def LD.sh:LD->Int
 | .put s _ _ _=>s
 | .cut s _ _=>s
 | .TY s _ _ _=>s
 | .U8 t _ _ _ _=>t
 | .win t _ _=>t
 | .fix s=>s
def LD.At(H:Hp)(d:Addr):LD->Prop
 | .put s p r row=>H d=some (.tup [.str "put",.int s,.int p,.ref r])/\cA H r row
 | .cut s a b=>H d=some (.tup [.str "cut",.int s,.int a,.int b])
 | .TY s a b t=>H d=some (.tup [.str "move",.int s,.int a,.int b,.int t])
 | .U8 t p s a b=>H d=some (.tup [.str "quote",.int t,.int p,.int s,.int a,.int b])
 | .win t p s=>H d=some (.tup [.str "window",.int t,.int p,.int s])
 | .fix s=>H d=some (.tup [.str "fix",.int s])
def LD.Ok(n m:Nat)(sh:Int->List Int):LD->Prop
 | .put s p _ row=>sQ m s/\(0<=p/\p<=(sh s).length)/\row.length<=2/\∀ q∈row,0<=q.1/\q.1<q.2/\q.2<=(n:Nat)/\q.2<=q.1+40
 | .cut s a b=>sQ m s/\Nd a b (sh s).length
 | .TY s a b t=>sQ m s/\Mv a b t (sh s).length
 | .U8 t p s a b=>sQ m t/\(0<=p/\p<=(sh t).length)/\sQ m s/\Nd a b (sh s).length
 | .win t p s=>sQ m t/\(0<=p/\p<=(sh t).length)/\sQ m s
 | .fix s=>sQ m s
def LD.res(sh:Int->List Int)(rows:cU):LD->List Int
 | .put s p _ row=>fN sh p (own rows s) (bK row)
 | .cut s a b=>bV sh a b (own rows s)
 | .TY s a b t=>mE sh a b t (own rows s)
 | .U8 t p s a b=>fN sh p (own rows t) (((sh s).take b.toNat).drop a.toNat)
 | .win t p s=>fN sh p (own rows t) [-1-s]
 | .fix s=>sh s
theorem LD.in_{n m:Nat}{sh:Int->List Int}{dd:LD}(h:dd.Ok n m sh):sQ m dd.sh:=by
 cases dd with
 | fix=>exact h
 | _=>exact h.1
theorem LD.XA{n:Nat}{rows:cU}{sh:Int->List Int}(g:Gd n rows sh){dd:LD}(h:dd.Ok n rows.length sh):∀ e∈dd.res sh rows,t9 n rows.length e:=by
 have cl:=g.cl
 cases dd with
 | put s p r row =>
  refine xQ cl (g.own s) λe he=>.inl (Qn (λq hq=>?_) he);have:=h.2.2.2 q hq;exact⟨this.1,this.2.1,this.2.2.1⟩
 | cut s a b =>
  intro e he;unfold LD.res bV at he;dsimp only at he;split at he
  ·exact g.own s e he
  ·exact Qw cl a b _ 0 (g.own s) e (.inl he)
 | TY s a b t =>
  intro e he;unfold LD.res mE at he;dsimp only at he;split at he
  ·exact g.own s e he
  ·have kk:=Qw cl a b (own rows s) 0 (g.own s);rw[List.mem_append,List.mem_append]at he;rcases he with (z|z)|z
   ·exact GR cl t _ 0 (λy hy=>kk y (.inl hy)) e (.inl z)
   ·exact kk e (.inr z)
   ·exact GR cl t _ 0 (λy hy=>kk y (.inl hy)) e (.inr z)
 | U8 t p s a b =>
  refine xQ cl (g.own t) λe he=>.inl (g.in_ s h.2.2.1.1 h.2.2.1.2 e (List.mem_of_mem_take (List.mem_of_mem_drop he)))
 | win t p s =>
  refine xQ cl (g.own t) λe he=>.inr ?_;rw[List.mem_singleton.mp he];have:=h.2.2;unfold sQ at this;lia
 | fix s=>exact λe he=>.inl (g.in_ s h.1 h.2 e he)
theorem LD.At.same{H H':Hp}{d:Addr}{dd:LD}(s:aI H H')(h:dd.At H d):dd.At H' d:=by
 cases dd with
 | put=>exact⟨s _ _ h.1,h.2.same s⟩
 | _=>exact s _ _ h
theorem Qx(sh:Int->List Int){a b:Int}{N:Int->Prop}:∀ (es:List Int) (f:Int),(∀ e∈es,∀ x∈aY sh e,N x)->∀ x∈kE sh a b f es,x∈es\/N x
 | [],_,_=>λx hx=>by cases hx
 | e::r,f,h=>by
  intro x hx;rw[kE]at hx;rcases List.mem_append.mp hx with z|z
  ·unfold KW at z;split at z
   ·rw[List.mem_singleton.mp z];exact .inl (by simp)
   ·split at z
    ·cases z
    ·rcases List.mem_append.mp z with y|y
     ·exact .inr (h e (by simp) x (List.mem_of_mem_take y))
     ·exact .inr (h e (by simp) x (List.mem_of_mem_drop y))
  ·rcases Qx sh r _ (λe he=>h e (mO _ he)) x z with y|y
   ·exact .inl (mO _ y)
   ·exact .inr y
theorem AS(sh:Int->List Int):∀ (xs:List Int),(∀ x∈xs,0<=x)->aS sh xs=xs
 | [],_=>rfl
 | x::xs,h=>by rw[bU,sM sh (h x (by simp)),AS sh xs λy hy=>h y (mO _ hy)];rfl
theorem Lh(sh:Int->List Int){a b:Int}(ab:a<=b):∀ (es:List Int) (f:Int),(∀ e∈es,∀ x∈aY sh e,0<=x)->(aS sh (kE sh a b f es)).length<=(aS sh es).length
 | [],_,_=>by simp[kE]
 | e::r,f,h=>by
  rw[kE,jV,bU,cY,cY];have ih:=Lh sh ab r (f+(aY sh e).length) (λe he=>h e (mO _ he))
  have one:(aS sh (KW sh a b f e)).length<=(aY sh e).length:=by
   unfold KW;split
   ·rw[bU];simp[aS]
   ·split
    ·simp[aS]
    ·rename_i c1 c2;have h1:=h e (by simp);rw[jV,AS sh _ λx hx=>h1 x (List.mem_of_mem_take hx),AS sh _ λx hx=>h1 x (List.mem_of_mem_drop hx),cY,gx,qV];lia
  lia
theorem U9(sh:Int->List Int){a b:Int}(ab:a<b):∀ (es:List Int) (f:Int),f<=a->a<f+(aS sh es).length->tE sh a b f es≠[]
 | [],f,h,g=>by simp[aS]at g;lia
 | e::r,f,h,g=>by
  rw[bU,cY]at g;rw[tE];intro z;obtain⟨z1,z2⟩:=List.append_eq_nil_iff.mp z;by_cases c1:f+(aY sh e).length<=a
  ·exact U9 sh ab r (f+(aY sh e).length) c1 ∅ z2
  ·unfold Nk at z1;rw[if_neg (λy=>y.elim c1 ∅)]at z1;split at z1
   ·cases z1
   ·rename_i c2;have q:=congrArg List.length z1;rw[qV,gx,qO]at q;lia
theorem GS{sh sg:Int->List Int}(p:Int):∀ (es:List Int) (f:Int),(∀ e∈es,aY sh e=aY sg e)->aE sh p f es=aE sg p f es
 | [],_,_=>rfl
 | e::r,f,h=>by rw[aE,aE,h e (by simp),GS p r _ λx hx=>h x (mO _ hx)]
theorem GU{sh sg:Int->List Int}(p:Int):∀ (es:List Int) (f:Int),(∀ e∈es,aY sh e=aY sg e)->bE sh p f es=bE sg p f es
 | [],_,_=>rfl
 | e::r,f,h=>by rw[bE,bE,h e (by simp),GU p r _ λx hx=>h x (mO _ hx)]
theorem GV{sh sg:Int->List Int}:∀ (es:List Int),(∀ y∈dO es,(sg y).length<=(sh y).length)->(aS sg es).length<=(aS sh es).length
 | [],_=>by simp[aS]
 | e::r,h=>by
  rw[bU,bU,cY,cY]
  have ih:=GV (sh:=sh) (sg:=sg) r λy hy=>h y (by
   obtain⟨a,b⟩:=bT.mp hy
   exact bT.mpr ⟨a,mO _ b⟩)
  have one:(aY sg e).length<=(aY sh e).length:=by
   unfold aY;by_cases c:e<0
   ·rw[if_pos c,if_pos c];exact h _ (bT.mpr ⟨Q,by rw[show -1-(-1-e)=e by lia];simp⟩)
   ·rw[if_neg c,if_neg c];exact fF _
  lia
structure abi(rows:cU)(sh:Int->List Int)(rk:Int->Nat)(s a b:Int)(es:List Int)(rs:cU)(sg:Int->List Int):Prop where
 snd:gp rs
 nx:∀ x y,j0 rs x y->j0 rows x y
 Py:nH rs sg
 bd:∀ x:Int,0<=x->x<rs.length->(sg x).length<=10000
 eq:∀ n,rk n<rk s->0<=n->n<rows.length->sg n=sh n
theorem Qy{rows:cU}{sh:Int->List Int}{rk:Int->Nat}{s a b:Int}{es:List Int}(pR:gp rows)(hrb:∀ x,rk x<=40)(Uy:∀ x y,j0 rows x y->rk y<rk x)(xY:nH rows sh)(E1:∀ x:Int,0<=x->x<rows.length->(sh x).length<=10000)(h0:0<=s)(h1:s<rows.length)(he:rows[s.toNat]?=some es)(ab:a<=b):∃ sg,abi rows sh rk s a b es (rows.set s.toNat (bV sh a b es)) sg:=by
 have hnn:=pK pR ⟨rk,hrb,Uy⟩ xY
 have ent:∀ e∈es,∀ x∈aY sh e,0<=x:=λe hm x hx=>by
  unfold aY at hx;by_cases c:e<0
  ·rw[if_pos c]at hx;have nx:j0 rows s (-1-e):=⟨h0,es,he,bT.mpr ⟨Q,by rw[show -1-(-1-e)=e by lia];exact hm⟩⟩;obtain⟨p,q⟩:=pR.EY nx;exact hnn _ p q x hx
  ·rw[if_neg c]at hx;rw[List.mem_singleton.mp hx];lia
 have win:∀ y∈dO (bV sh a b es),y∈dO es:=λy hy=>by
  obtain⟨y0,hm⟩:=bT.mp hy;refine bT.mpr ⟨y0,?_⟩;unfold bV at hm;split at hm
  ·exact hm
  ·rcases Qx sh es 0 ent _ hm with z|z
   ·exact z
   ·lia
 have nx:∀ x y,j0 (rows.set s.toNat (bV sh a b es)) x y->j0 rows x y:=by
  rintro x y ⟨x0,wz,hx,hy⟩;by_cases c:x.toNat=s.toNat
  ·rw[c,List.getElem?_set,if_pos rfl]at hx;split at hx
   ·cases hx;exact⟨x0,es,by rw[c];exact he,win y hy⟩
   ·cases hx
  ·rw[List.getElem?_set_ne (λz=>c z.symm)]at hx;exact⟨x0,wz,hx,hy⟩
 have snd:gp (rows.set s.toNat (bV sh a b es)):=λwz hm y hy=>by
  rw[List.length_set];rcases List.mem_or_eq_of_mem_set hm with z|z
  ·exact pR wz z y hy
  ·subst z;exact pR es (oF he) y (win y hy)
 obtain⟨sg,hsg⟩:=AN (rows:=rows.set s.toNat (bV sh a b es)) ⟨rk,hrb,λx y h=>Uy x y (nx x y h)⟩
 have TZ:(rows.set s.toNat (bV sh a b es))[s.toNat]?=some (bV sh a b es):=by
  rw[List.getElem?_set,if_pos rfl,if_pos ∅]
 have key:∀ (k:Nat) (x:Int),rk x<k->0<=x->x<rows.length->(rk x<rk s->sg x=sh x)/\(sg x).length<=(sh x).length:=by
  intro k
  induction k with
  | zero=>intro x h;lia
  | succ k ih =>
   intro x hx x0 x1;by_cases c:x.toNat=s.toNat
   ·have xs:x=s:=by lia
    subst xs;refine⟨λz=>by lia,?_⟩;have e1:=hsg x _ x0 TZ
    have e2:aS sg (bV sh a b es)=aS sh (bV sh a b es):=r9 λy hy=>by
     have n:=Uy x y ⟨x0,es,he,win y hy⟩;obtain⟨p,q⟩:=pR.EY ⟨x0,es,he,win y hy⟩;exact (ih y ∅ p q).1 n
    rw[e1,e2,xY x es x0 he];unfold bV;split
    ·exact fF _
    ·exact Lh sh ab es 0 ent
   ·have hx1:rows[x.toNat]?=some rows[x.toNat]:=pS ∅;have e1:=hsg x _ x0 (by rw[List.getElem?_set_ne (λz=>c z.symm)];exact hx1);have e2:=xY x _ x0 hx1
    have low:∀ y∈dO rows[x.toNat],rk y<rk x/\0<=y/\y<rows.length:=λy hy=>by
     have n:j0 rows x y:=⟨x0,_,hx1,hy⟩;exact⟨Uy x y n,pR.EY n⟩
    refine⟨λz=>?_,?_⟩
    ·rw[e1,e2];exact r9 λy hy=>(ih y (by have:=(low y hy).1;lia) (low y hy).2.1 (low y hy).2.2).1 (by have:=(low y hy).1;lia)
    ·rw[e1,e2];exact GV _ λy hy=>(ih y (by have:=(low y hy).1;lia) (low y hy).2.1 (low y hy).2.2).2
 refine⟨sg,snd,nx,hsg,λx x0 x1=>?_,λn h n0 n1=>(key (rk n+1) n (Nat.lt_succ_self _) n0 n1).1 h⟩;rw[List.length_set]at x1;have:=(key (rk x+1) x (Nat.lt_succ_self _) x0 x1).2;have:=E1 x x0 x1;lia
theorem T3{rows:cU}{sh sg:Int->List Int}{rk:Int->Nat}{s a b to:Int}{es:List Int}(pR:gp rows)(hrb:∀ x,rk x<=40)(Uy:∀ x y,j0 rows x y->rk y<rk x)(xY:nH rows sh)(h0:0<=s)(he:rows[s.toNat]?=some es)(a0:0<=a)(ab:a<=b)(bn:b<=(sh s).length)(R:abi rows sh rk s a b es (rows.set s.toNat (bV sh a b es)) sg)(hk:(rows.set s.toNat (bV sh a b es))[s.toNat]?=some (bV sh a b es)):fN sg to (bV sh a b es) (ir sh a b es)=mE sh a b to es:=by
 unfold mE;by_cases c:a=b
 ·have e1:ir sh a b es=[]:=by unfold ir;rw[if_pos c]
  have e2:bV sh a b es=es:=by unfold bV;rw[if_pos c]
  rw[if_pos c,e1,e2];rfl
 ·rw[if_neg c];have e1:ir sh a b es=tE sh a b 0 es:=by unfold ir;rw[if_neg c]
  have e2:bV sh a b es=kE sh a b 0 es:=by unfold bV;rw[if_neg c]
  have ne:tE sh a b 0 es≠[]:=U9 sh ∅ es 0 a0 (by rw[← xY s es h0 he];lia)
  have ag:∀ e∈bV sh a b es,aY sg e=aY sh e:=λe hm=>by
   unfold aY;by_cases d:e<0
   ·rw[if_pos d,if_pos d];have n:j0 (rows.set s.toNat (bV sh a b es)) s (-1-e):=⟨h0,_,hk,bT.mpr ⟨Q,by rw[show -1-(-1-e)=e by lia];exact hm⟩⟩;have n':=R.nx _ _ n;obtain⟨p,q⟩:=pR.EY n';exact R.eq _ (Uy _ _ n') p q
   ·rw[if_neg d,if_neg d]
  unfold fN;rw[e1,if_neg ne,GS to _ 0 ag,GU to _ 0 ag,e2]
theorem MW{X:Cx}(hc:X.calm=true):j7 X (.builtin "max") (λxs H Q=>∃ (p:Addr) (ns:List Int),xs=[.ref p]/\bI X.K H p (ns.map V.int)/\0<ns.length/\∀ M,M∈ns->(∀ a∈ns,a<=M)->Q (.int M) H):=by
 intro ao s σ H xs us Q I r h;obtain⟨p,ns,rfl,hq,ne,q⟩:=h;obtain⟨u,rfl,rx⟩:=r.one;cases (show u=Value.ref p from rx);obtain⟨aM,rv,pl,hz⟩:=I.list hq;have hi:PyProof.Rows.IntsAre aM ns:=intsAre_of rv;obtain⟨xs,e⟩:=hi.allInts.items;have hl:=pl.isList
 have Nb:ns=xs.toList.map (·.1):=by
  rw[← hi.numsOf,← PySem.nums_intItems,← e]
 have hsz:0<xs.size:=by
  have h3:=ne;rw[Nb,cy,Array.length_toList]at h3;exact h3
 rw[e]at hl;refine PySem.max_intList (I.ok.hd hc) hl hsz λv h' tk hv hk=>?_;obtain⟨t,rfl⟩:=PySem.intItems_at hv;obtain⟨h1,h2⟩:=PySem.argBest_gt (PySem.numAt xs) (xs.size-1);refine⟨.int _,H,I.kept hk,⟨t,rfl⟩,q _ ?_ λa ha=>?_⟩
 ·rw[Nb,PySem.numAt_eq];exact PySem.getD_mem (by rw[cy,Array.length_toList];lia)
 ·rw[Nb]at ha;obtain⟨j,hj,rfl⟩:=PySem.mem_getD ha;rw[cy,Array.length_toList]at hj;rw[← PySem.numAt_eq];exact h2 j ∅
class inductive Qz
 | mk (av:Addr->Prop) (r:Addr) (rows:cU) (s:Int) (_:vs=[.ref r,.int s]) (_:ig av H r rows) (_:rows.length<=40) (_:∀ es∈rows,es.length<=100000) (_:gp rows) (_:0<=s) (_:s<rows.length) (_:¬ Reach (j0 rows) s s->∀ x,¬ Reach (j0 rows) x x) (_:∀ (b:Bool) (H':Hp),aI H H'->(b=true->Cu rows/\∃ f,Weighs rows f/\∀ x:Int,0<=x->x<rows.length->f x<=200)->Q (.bl b) H')
theorem GW:aH ["_law_rows","_law_sheet"] ["_law_rows","_law_sheet"] (aA qt):=eU
theorem GX:‹(43,89,["_law_rows","_law_sheet"],Qz)›:=λD=>by
 refine eV D.aao.F GW λcV A zn s0 H vs Q E hr h=>?_;obtain⟨av,r,rows,s,rfl,R,ln,he,sd,s0,s1,rg,k⟩:=h;refine⟨_,(aj (bN (aT LH (pv 1) (aC D.aam (AQ D) hr (aa (pv 0) (aa (pv 1) ah))) rfl) (au (aJ lY)) bg) (au (aJ (nZ gr (cz (MW rfl) rfl D.T.Ad PyProof.Rows.boot_max (aa (gH (N:=["_law_other","_law_rows"]) (om (sc:=aA qt) (NX:=["_law_rows","_law_sheet"]) (jx:=[none,some 0]) rfl rfl rfl nofun nofun rfl nofun rfl nofun) rfl (gK rfl D.T.jj (aa (eX D.T.eN (pv 0)) ah)) (λ_ _ _ _ _ _=>(ck (i:=0) (show List.Nodup (["_law_other","_law_rows"]:List Str) by decide +kernel))) (λ_ _ _ _ _ _=>ji) (λ_ _ _ _ _ _=>(aC D.SA (nQ D 41) hr (aa (pv 1) (aa (pv 0) ah))))) ah)) ay (aZ _))))),?_⟩;refine⟨Y,Y,Y,av,r,rows,s,rfl,R,Q,he,sd,s0,s1,λL o H1 ho sm iff=>?_⟩;exists o,Y,.inl (bI.of ho),rfl,xg L,Y;rw[DN];by_cases hm:s∈L
 ·rw[decide_eq_true hm];exact jH (k false H1 sm λz=>nomatch z)
 rw[decide_eq_false hm];refine eO ?_;have R1:=Xz sd ln (rg λz=>hm ((iff s).mpr z));obtain⟨f,hf⟩:=CL R1;obtain⟨rk,rb,dn⟩:=id R1;have Rs:=R.same sm;obtain⟨vs,jT,al⟩:=id Rs;have lv:=al.len;have gN:∀ i:Nat,((List.range i).map λj:Nat=>f (j:Int)).length=i:=λi=>by rw[cy,List.length_range]
 refine⟨Y,r,Y,.inl (bI.of jT),Y,Q,Q,λacc cR=>rM (lo:=0) (k:=((vs.length:Nat):Int).toNat) (λi σ H2=>∃ u:Option V,σ=[u,some (.ref r)]/\H2 acc=some (.lst (((List.range i).map λj:Nat=>f (j:Int)).map V.int))/\aI H1 H2) ⟨none,rfl,af,ak cR _⟩ ?_ ?_⟩
 ·rintro i σ H2 hi ⟨u,rfl,ha,s2⟩;have il:i<rows.length:=by lia
  refine⟨Y,Y,av,r,rows,0+(i:Int),f,rk,rfl,Rs.same s2,Q,sd,Q,Q,hf,dn,by have:=rb (0+(i:Int));lia,_,ha,(by rw[cy,gN];exact aR ∅),Y,?_,bP cR s2 (aG acc _ _)⟩;rw[af,List.range_succ,gw,gw,Int.zero_add];rfl
 ·rintro σ H2 ⟨u,rfl,ha,s2⟩;refine⟨acc,Y,bI.of ha,by rw[gN];lia,λM _ hM=>⟨Z,?_⟩⟩;refine k _ H2 (sm.trans s2) λz=>⟨R1,f,hf,λx x0 x1=>?_⟩;have y:=hM (f x) (List.mem_map.mpr ⟨x.toNat,List.mem_range.mpr ∅,by rw[show ((x.toNat:Nat):Int)=x by lia]⟩);have:=of_decide_eq_true z;lia
theorem cE{a b:Str}(h:a≠b){A B:Prop}(z:B):if decide (V.str a=V.str b)=true then A else B:=by
 rw[if_neg λy=>h (V.str.inj (of_decide_eq_true y))];exact z
theorem jm{a:Str}{A B:Prop}(z:A):if decide (V.str a=V.str a)=true then A else B:=by
 rw[if_pos (decide_eq_true rfl)];exact z
theorem Nq.at_{W:Addr->Prop}{H:Hp}{a:Addr}{rows:cU}(h:Nq W ik ps H a rows):ig (λ_=>False) H a rows:=by
 obtain⟨_,_,_,vs,hv,al⟩:=h;exact⟨vs,hv,al.mono λv es ⟨b,e,K,hb⟩=>⟨b,e,λz=>z,hb⟩⟩
theorem jY{rows:cU}{s:Int}(h:sQ rows.length s):rows[s.toNat]?=some (own rows s):=by
 have:s.toNat<rows.length:=by have:=h.1;have:=h.2;lia
 unfold own;rw[pS this];rfl
class inductive Li
 | mk (W:Addr->Prop) (w d:Addr) (aL:iL) (pq:iT) (rows:cU) (n:Nat) (sh:Int->List Int) (dd:LD) (_:vs=[.ref w,.ref d]) (_:Wo W H w aL pq rows) (_:dd.At H d) (_:Gd n rows sh) (_:dd.Ok n rows.length sh) (_:n<=10000) (_:∀ (o:Addr) (H':Hp),H' o=some (.lst ((dd.res sh rows).map V.int))->(dd.res sh rows).length<=100000->aI H H'->H o=none->Q (.ref o) H')
theorem jZ:aH ["_law_world_here","_law_deed_here","_law_rows","_law_name","_law_kept","_law_taken"] ["_law_world_here","_law_deed_here"] (aA rG):=eU
theorem Et:‹(45,90,["_law_world_here","_law_deed_here"],Li)›:=λD=>by
 have sW:bq P w K mg zt cL 44 _ _ zl8 (Jr 41):=Js D;have C8:bq P w K mg zt cL 44 _ _ zl9 (Qs 41):=Jt D;refine eV D.aap.F jZ λcV A zn s0 H vs Q E hr h=>?_;obtain⟨W,w,d,aL,pq,rows,n,sh,dd,rfl,wo,hd,g,ok,n10,k⟩:=h;have hu:=gG hr;exists _,(aj (aV (i:=2) jZ.nd (gc hu (pv 0) bx)) (aj (aV (i:=3) jZ.nd (aO aX (pv 1) ay)) (aj (bN (aT d7 (pv 3) bx (aZ _)) (au (aJ (aC D.Pe sW hr (aa (pv 2) (aa (aO aX (pv 1) ay) (aa (aO aX (pv 1) ay) (aa (aC D.WN (wc D) hr (aa (aO aX (pv 1) ay) ah)) ah))))))) bg) (aj (bN (aT d7 (pv 3) bx (aZ _)) (au (aJ (aO aX (aC D.WQ C8 hr (aa (pv 2) (aa (aO aX (pv 1) ay) (aa (aO aX (pv 1) ay) (aa (aO aX (pv 1) ay) ah))))) ay))) bg) (aj (bN (aT d7 (pv 3) bx (aZ _)) (aj (lJ (aC D.WQ C8 hr (aa (pv 2) (aa (aO aX (pv 1) ay) (aa (aO aX (pv 1) ay) (aa (aO aX (pv 1) ay) ah))))) (m7 (n:=2) rfl (cj (ck (i:=4) jZ.nd) (cj (ck (i:=5) jZ.nd) gR)))) (au (aJ (aC D.Pe sW hr (aa (aC D.WM (yq D) hr (aa (pv 2) (aa (aO aX (pv 1) ay) (aa (pv 4) ah)))) (aa (aO aX (pv 1) ay) (aa (aO aX (pv 1) ay) (aa (pv 5) ah)))))))) bg) (aj (bN (aT d7 (pv 3) bx (aZ _)) (au (aJ (aC D.Pe sW hr (aa (pv 2) (aa (aO aX (pv 1) ay) (aa (aO aX (pv 1) ay) (aa (iX mw (aC D.DV (gC D 41) hr (aa (pv 2) (aa (aO aX (pv 1) ay) ah))) (je (aO aX (pv 1) ay)) (je (aO aX (pv 1) ay))) ah))))))) bg) (aj (bN (aT d7 (pv 3) bx (aZ _)) (au (aJ (aC D.Pe sW hr (aa (pv 2) (aa (aO aX (pv 1) ay) (aa (aO aX (pv 1) ay) (aa (bL (aa (bz cK (fQ dR ay) (aO aX (pv 1) ay)) ah)) ah))))))) bg) (aj (bN (aT d7 (pv 3) bx (aZ _)) (au (aJ (aC D.DV (gC D 41) hr (aa (pv 2) (aa (aO aX (pv 1) ay) ah))))) bg) (au (aJ (aO bu (aO bu (gc hu (pv 0) bx) (aO aX (pv 1) ay)) (aO aX (pv 1) ay))))))))))));obtain⟨ik,jf,ps,vl,wu⟩:=id wo;have zr:=iR.k (k:=kR) wu.hw;rw[show cJ (sS ik jf ps vl) kR=some (.ref jf) by kernel_rfl]at zr;have R:=wu.hr.at_;obtain⟨rk,rb,dn⟩:=g.sn.rk;have Yr:=g.ln;have lr:rows.length<=1000:=by lia
 have rb':∀ s,rk s<=41:=λs=>by have:=rb s;lia
 have e25:∀ es∈rows,es.length<=25000:=λes he=>by have:=g.es es he;lia
 exists Y,w,Y,zr
 have jG:∀ {s p:Int} {new:List Int} {q o:Addr} {H1:Hp} {Q:VK} {E:XK},sQ rows.length s->ig (λ_=>False) H1 q rows->H1 o=some (.lst (new.map V.int))->new.length<=25000->aI H H1->(∀ (o:Addr) (H':Hp),H' o=some (.lst ((fN sh p (own rows s) new).map V.int))->(fN sh p (own rows s) new).length<=100000->aI H H'->H o=none->Q (.ref o) H')->Jr 41 [.ref q,.int s,.int p,.ref o] H1 Q E:=by
  intro s p new q o H1 Q E is R1 ho ln s1 k1;refine⟨_,q,o,rows,s,p,new,sh,rk,rfl,R1,lr,e25,g.sn.sd,g.sn.ss,g.sn.ln,dn,is.1,is.2,rb' s,ho,ln,λes o2 H2 mX h2 l2 s2 f2=>?_⟩;rw[jY is]at mX;cases mX;exact k1 o2 H2 h2 l2 (s1.trans s2) (aW s1 f2)
 cases dd with
 | put s p r row =>
  obtain⟨hd,QA⟩:=hd;obtain⟨is,ip,l2,hq⟩:=ok;exists Y,d,K,V,cX.of hd,uQ;refine⟨Y,rfl,Y,jm ?_⟩;have bd:=AL (k:=40) (row:=row) λq h=>by have:=hq q h;lia
  refine⟨Y,Y,d,K,V,cX.of hd,vH,Y,d,K,V,cX.of hd,Bh,Y,d,K,V,cX.of hd,Bj,r,row,rfl,QA,λq h=>by have:=hq q h;lia,Q,Q,λo1 H1 h1 s1 f1=>?_⟩;exact jG is (R.same s1) h1 ∅ s1 k
 | cut s a b =>
  obtain⟨is,i3⟩:=ok;exists Y,d,K,V,cX.of hd,uQ;refine⟨Y,rfl,Y,cE nofun ⟨Y,rfl,Y,jm ?_⟩⟩;refine⟨Y,Y,d,K,V,cX.of hd,vH,Y,d,K,V,cX.of hd,Bh,Y,d,K,V,cX.of hd,Bj,_,jf,rows,s,a,b,sh,rk,rfl,R,lr,(λes he=>by have:=g.es es he;lia),g.sn.sd,g.sn.ss,g.sn.ln,dn,is.1,is.2,rb' s,i3.2.1,λes tu L M H1 mX ht hL hM s1 fL fM nLM=>?_⟩;rw[jY is]at mX;cases mX;refine⟨tu,K,V,cX.of ht,uQ,k L H1 hL ?_ s1 fL⟩;have cl:=uZ sh a b (own rows s);have ls:=g.sl s is.1 is.2;rw[g.sn.ss s _ is.1 (jY is)]at ls;have:=g.es _ (oF (jY is));show (bV sh a b (own rows s)).length<=_;lia
 | TY s a b t =>
  obtain⟨is,mv⟩:=ok;have i3:=mv.1;have lo:=g.es _ (oF (jY is));have e:=g.sn.ss s _ is.1 (jY is);have ls:=g.sl s is.1 is.2;rw[e]at ls;have cl:=uZ sh a b (own rows s);have tl:=AR sh a b (own rows s);exists Y,d,K,V,cX.of hd,uQ;refine⟨Y,rfl,Y,cE nofun ⟨Y,rfl,Y,cE nofun ⟨Y,rfl,Y,jm ?_⟩⟩⟩;refine⟨Y,Y,d,K,V,cX.of hd,vH,Y,d,K,V,cX.of hd,Bh,Y,d,K,V,cX.of hd,Bj,_,jf,rows,s,a,b,sh,rk,rfl,R,lr,(λes he=>by have:=g.es es he;lia),g.sn.sd,g.sn.ss,g.sn.ln,dn,is.1,is.2,rb' s,i3.2.1,λes tu L M H1 mX ht hL hM s1 fL fM nLM=>?_⟩;rw[jY is]at mX;cases mX;obtain⟨vs,jT,al⟩:=R.same s1;have lv:=al.len;have is1:=is.1;have is2:=is.2;have L4:=s1 _ _ hd;exists tu,Y,cX.of ht,rfl,P,rfl,Z;refine⟨Y,Y,d,K,V,cX.of L4,vH,Y,jf,L,s.toNat,vs,(by rw[show ((s.toNat:Nat):Int)=s by lia];rfl),jT,Q,Q,λq H2 hq s2 fq=>?_⟩;have hd2:=s2 _ _ L4;obtain⟨sg,RR⟩:=Qy (a:=a) (b:=b) g.sn.sd rb dn g.sn.ss g.sn.ln is.1 is.2 (jY is) i3.2.1
  have TZ:(rows.set s.toNat (bV sh a b (own rows s)))[s.toNat]?=some (bV sh a b (own rows s)):=by
   rw[List.getElem?_set,if_pos rfl,if_pos ∅]
  have R2:ig (λ_=>False) H2 q (rows.set s.toNat (bV sh a b (own rows s))):=⟨_,hq,bS.set _ (al.mono λv es z=>fH.same s2 z) ⟨L,rfl,λz=>z,s2 _ _ hL⟩⟩
  refine⟨Y,d,K,V,cX.of hd2,vH,Y,d,K,V,cX.of hd2,Ss,Y,_,q,M,_,s,t,ir sh a b (own rows s),sg,rk,rfl,R2,by rw[List.length_set];lia,(λwz hm=>by
   rcases List.mem_or_eq_of_mem_set hm with z|z
   ·exact e25 wz z
   ·rw[z];lia),RR.snd,RR.Py,RR.bd,(λx y h=>dn x y (RR.nx x y h)),is.1,by rw[List.length_set];exact is.2,rb' s,s2 _ _ hM,Q,λwz o H3 Ky h3 l3 s3 f3=>?_⟩
  rw[TZ]at Ky;cases Ky;rw[T3 g.sn.sd rb dn g.sn.ss is.1 (jY is) i3.1 i3.2.1 i3.2.2 RR TZ]at h3 l3;exact k o H3 h3 l3 (s1.trans (s2.trans s3)) (aW (s1.trans s2) f3)
 | U8 t p s a b =>
  obtain⟨it,ip,is,i3⟩:=ok;exists Y,d,K,V,cX.of hd,uQ;refine⟨Y,rfl,Y,cE nofun ⟨Y,rfl,Y,cE nofun ⟨Y,rfl,Y,cE nofun ⟨Y,rfl,Y,jm ?_⟩⟩⟩⟩;have ls:=g.sl s is.1 is.2;refine⟨Y,Y,d,K,V,cX.of hd,vH,Y,d,K,V,cX.of hd,Bh,Y,Y,d,K,V,cX.of hd,Bj,_,jf,rows,s,sh,rk,rfl,R,lr,g.sn.sd,is.1,is.2,g.sn.ss,g.sn.ln,dn,by have:=rb s;lia,λo1 H1 h1 s1 f1=>?_⟩;have L4:=s1 _ _ hd;refine⟨Y,d,K,V,cX.of L4,Ss,Y,Y,d,K,V,cX.of L4,ZG,Y,o1,Y,bI.of h1,λq hq=>?_⟩;have s2:=ak hq (.lst (kU ((sh s).map V.int) (some a) (some b)));have h2:(aN H1 q (.lst (kU ((sh s).map V.int) (some a) (some b)))) q=some (.lst ((((sh s).take b.toNat).drop a.toNat).map V.int)):=by rw[af,Gz _ i3.1 (by have:=i3.1;have:=i3.2.1;lia),List.map_drop,List.map_take]
  generalize aN H1 q (.lst (kU ((sh s).map V.int) (some a) (some b)))=H2 at s2 h2;exact jG it (R.same (s1.trans s2)) h2 (by rw[qV,gx];lia) (s1.trans s2) k
 | win t p s =>
  obtain⟨it,ip,is⟩:=ok;exists Y,d,K,V,cX.of hd,uQ;refine⟨Y,rfl,Y,cE nofun ⟨Y,rfl,Y,cE nofun ⟨Y,rfl,Y,cE nofun ⟨Y,rfl,Y,cE nofun ⟨Y,rfl,Y,jm ?_⟩⟩⟩⟩⟩;refine⟨Y,Y,d,K,V,cX.of hd,vH,Y,d,K,V,cX.of hd,Bh,Y,Y,d,K,V,cX.of hd,Bj,Z,mD,λq hq=>?_⟩;exact jG it (R.same (ak hq _)) af (by show 1<=25000;decide) (ak hq _) k
 | fix s =>
  exists Y,d,K,V,cX.of hd,uQ;refine⟨Y,rfl,Y,cE nofun ⟨Y,rfl,Y,cE nofun ⟨Y,rfl,Y,cE nofun ⟨Y,rfl,Y,cE nofun ⟨Y,rfl,Y,cE nofun ⟨Y,rfl,Y,jm ?_⟩⟩⟩⟩⟩⟩;exact⟨Y,Y,d,K,V,cX.of hd,vH,_,jf,rows,s,sh,rk,rfl,R,lr,g.sn.sd,ok.1,ok.2,g.sn.ss,g.sn.ln,dn,by have:=rb s;lia,λo1 H1 h1 s1 f1=>k o1 H1 h1 (by have:=g.sl s ok.1 ok.2;show (sh s).length<=_;lia) s1 f1⟩
theorem GY{n:Nat}{row:Row}(h:∀ z∈row,0<=z.1/\z.1<z.2/\z.2<=(n:Nat)):rT n row=true:=List.all_eq_true.mpr λq hq=>by
 have:=h q hq;unfold Q3;simp only[Bool.and_eq_true,decide_eq_true_eq];lia
def T4:Sp:=λ_ _ _ _=>False
theorem QB{k:Nat}{f:Addr}{ps:List Str}:bq P w K mg zt cL k f fd ps T4:=⟨λvs H Q E h=>h.elim,λA zn s H args us vs Q E _ _ _ _ h=>h.elim⟩
theorem abj{i:Int}(h0:0<=i)(h1:i<=20000):wB i:=by
 have a:(20000:Int)<10^60:=by decide
 exact⟨Q,Q⟩
class inductive QC(C CS CW CB:Addr)
 | mk (U:Addr->Prop) (x d:Addr) (pe:iT) (aB:iU) (aL:iL) (nW:Nat) (bR:Row) (rows:cU) (sh:Int->List Int) (dd:LD) (_:vs=[.ref x,.ref d]) (_:qU C CS CW CB U H x pe aB aL nW bR) (_:pe.getLast?=some rows) (_:pe.length<=900) (_:aB.length<=900) (_:aL.length<=10000) (_:dd.At H d) (_:Gd aL.length rows sh) (_:dd.Ok aL.length rows.length sh) (_:∃ f,nP (jb rows dd.sh.toNat (dd.res sh rows)) f) (_:∀ (U':Addr->Prop) (H':Hp) (dD:iU),dD.length=aB.length+1->qU C CS CW CB U' H' x (pe++[jb rows dd.sh.toNat (dd.res sh rows)]) dD aL nW bR->Jl U U' H H'->Q .gj H')
theorem yr:aH ["_law_house","_law_deed_here","_law_name"] ["_law_house","_law_deed_here"] (aA uG):=eU
theorem GZ:‹(7,92,["_law_house","_law_deed_here"],(QC C CS CW CB))›:=λD=>by
 have BG:bq P w K mg zt cL 4 (bf 62) (br 62) ["self","hand","text"] T4:=QB;have AU:bq P w K mg zt cL 4 (bf 59) (br 59) ["self"] T4:=QB;have BH:bq P w K mg zt cL 4 (bf 91) (br 91) ["self","sheet","moment"] T4:=QB;refine eV D.aaq.F yr λcV A zn s0 H vs Q E hr h=>?_;obtain⟨U,x,d,pe,aB,aL,nW,bR,rows,sh,dd,rfl,LB,hl,l2,l3,l4,hd,g,ok,B,k⟩:=h;exists _,(aj (aV (i:=2) yr.nd (aO aX (pv 1) ay)) (aj (bN (aT d7 (pv 2) bx (aZ _)) (au (aJ (cQ (pv 0) D.aQ D.WL BG hr bO (aa (aO aX (pv 1) ay) (aa (aO aX (pv 1) ay) ah))))) bg) (aj (bN (aT d7 (pv 2) bx (aZ _)) (au (aJ (ff (pv 0) D.aQ D.WJ AU hr bO))) bg) (aj (bN (aT d7 (pv 2) bx (aZ _)) (au (aJ (cQ (pv 0) D.aQ D.Z9 (AF D) hr bO (aa (aO aX (pv 1) ay) (aa (aO aX (pv 1) ay) (aa (eS fY rfl D.T.jw uc (aa (aO aX (pv 1) ay) ah)) ah)))))) bg) (aj (bN (aT d7 (pv 2) bx (aZ _)) (au (aJ (cQ (pv 0) D.aQ D.aaa (AG D) hr bO (aa (aO aX (pv 1) ay) (aa (aO aX (pv 1) ay) (aa (aO aX (pv 1) ay) ah)))))) bg) (aj (bN (aT d7 (pv 2) bx (aZ _)) (au (aJ (cQ (pv 0) D.aQ D.aaf (yM D) hr bO (aa (aO aX (pv 1) ay) (aa (aO aX (pv 1) ay) (aa (aO aX (pv 1) ay) (aa (aO aX (pv 1) ay) ah))))))) bg) (aj (bN (aT d7 (pv 2) bx (aZ _)) (au (aJ (cQ (pv 0) D.aQ D.aab (xM D) hr bO (aa (aO aX (pv 1) ay) (aa (aO aX (pv 1) ay) (aa (aO aX (pv 1) ay) (aa (aO aX (pv 1) ay) (aa (aO aX (pv 1) ay) ah)))))))) bg) (aj (bN (aT d7 (pv 2) bx (aZ _)) (au (aJ (cQ (pv 0) D.aQ D.aad (v8 D) hr bO (aa (aO aX (pv 1) ay) (aa (aO aX (pv 1) ay) (aa (aO aX (pv 1) ay) ah)))))) bg) (aj (bN (aT d7 (pv 2) bx (aZ _)) (au (aJ (cQ (pv 0) D.aQ D.aae (AI D) hr bO (aa (aO aX (pv 1) ay) ah)))) bg) (au (aJ (cQ (pv 0) D.aQ D.ad1 BH hr bO (aa (aO aX (pv 1) ay) (aa (aO aX (pv 1) ay) ah))))))))))))));have Yr:=g.ln;have l1:rows.length<=50:=by lia
 have sn:=g.sn;have one:∀ {l:List Nat},(aB++[l]).length=aB.length+1:=λ{l}=>by rw[cY];rfl
 have jG:∀ {s:Int},sQ rows.length s->wB s:=λz=>abj z.1 (by have:=z.2;lia);have XC:∀ {s p:Int},sQ rows.length s->0<=p->p<=(sh s).length->wB p:=λz p0 p1=>abj p0 (by have:=g.sl _ z.1 z.2;lia);obtain⟨S',Xq,d',Yc,QD,bl',kn',du',bk',dS',Hs,Ht,dw',sg',ow',pw',db',tb',Jm,LU⟩:=id LB;have hx:=LU.L.hx
 cases dd with
 | put s p r row =>
  obtain⟨hd,QA⟩:=hd;obtain⟨is,ip,r2,hq⟩:=ok;have hh:=GY (n:=aL.length) (row:=row) λz h=>by have:=hq z h;exact⟨this.1,this.2.1,this.2.2.1⟩
  obtain⟨as,ha,pa⟩:=id QA;exists Y,d,K,V,cX.of hd,uQ;refine⟨Y,rfl,Y,cE nofun ⟨Y,rfl,Y,cE nofun ⟨Y,rfl,Y,jm ?_⟩⟩⟩;refine⟨Y,x,d',Y,hx,rfl,Y,d,K,V,cX.of hd,vH,Y,d,K,V,cX.of hd,Bh,Y,d,K,V,cX.of hd,Bj,r,Y,.inl (bI.of ha),λq VB=>?_⟩;have s1:=ak VB (.lst (as.map V.ref));have Mf:cA (aN H q (.lst (as.map V.ref))) q row:=⟨as,af,pa.same s1⟩;generalize aN H q (.lst (as.map V.ref))=H1 at s1 Mf;refine⟨U,x,q,pe,aB,aL,nW,bR,row,s,p,rows,rfl,LB.same s1,Mf,⟨Q,λz h=>by have:=hq z h;exact⟨⟨Q,Q⟩,⟨Q,Q⟩⟩⟩,Q,hl,l1,l2,l3,jG is,XC is ip.1 ip.2,is,hh,⟨sh,sn,ip,λes mX=>?_⟩⟩;rw[jY is]at mX;cases mX
  have ee:c9 (cG (b8 row))=bK row:=by
   rw[nI,jz _ λq h=>by have:=hq q h;lia]
  rw[ee];exact⟨B,λU' H' L' fr=>k U' H' _ one L' (fr.pre s1)⟩
 | cut s a b =>
  obtain⟨is,i3⟩:=ok;exists Y,d,K,V,cX.of hd,uQ;refine⟨Y,rfl,Y,cE nofun ⟨Y,rfl,Y,cE nofun ⟨Y,rfl,Y,cE nofun ⟨Y,rfl,Y,jm ?_⟩⟩⟩⟩;refine⟨Y,x,d',Y,hx,rfl,Y,d,K,V,cX.of hd,vH,Y,d,K,V,cX.of hd,Bh,Y,d,K,V,cX.of hd,Bj,U,x,pe,aB,aL,nW,bR,s,a,b,rows,rfl,LB,hl,l1,l2,l3,jG is,XC is i3.1 (by have:=i3.2.1;have:=i3.2.2;lia),XC is (by have:=i3.2.1;have:=i3.1;lia) i3.2.2,is,⟨sh,sn,i3,λes mX=>?_⟩⟩;rw[jY is]at mX;cases mX;exact⟨B,λU' H' L' fr=>k U' H' _ one L' fr⟩
 | TY s a b t =>
  obtain⟨is,mv⟩:=ok;have i3:=mv.1;have i1:=i3.1;have i2:=i3.2.1;have i4:=i3.2.2;have i5:=mv.2;have sl:=g.sl s is.1 is.2;exists Y,d,K,V,cX.of hd,uQ;refine⟨Y,rfl,Y,cE nofun ⟨Y,rfl,Y,cE nofun ⟨Y,rfl,Y,cE nofun ⟨Y,rfl,Y,cE nofun ⟨Y,rfl,Y,jm ?_⟩⟩⟩⟩⟩;refine⟨Y,x,d',Y,hx,rfl,Y,d,K,V,cX.of hd,vH,Y,d,K,V,cX.of hd,Bh,Y,d,K,V,cX.of hd,Bj,Y,d,K,V,cX.of hd,Ss,U,x,pe,aB,aL,nW,bR,s,a,b,t,rows,rfl,LB,hl,l1,l2,l3,jG is,⟨Q,Q⟩,⟨Q,Q⟩,⟨Q,Q⟩,is,⟨sh,sn,mv,λes mX=>?_⟩⟩;rw[jY is]at mX;cases mX;exact⟨B,λU' H' L' fr=>k U' H' _ one L' fr⟩
 | U8 t p s a b =>
  obtain⟨it,ip,is,i3⟩:=ok;exists Y,d,K,V,cX.of hd,uQ;refine⟨Y,rfl,Y,cE nofun ⟨Y,rfl,Y,cE nofun ⟨Y,rfl,Y,cE nofun ⟨Y,rfl,Y,cE nofun ⟨Y,rfl,Y,cE nofun ⟨Y,rfl,Y,jm ?_⟩⟩⟩⟩⟩⟩;refine⟨Y,x,d',Y,hx,rfl,Y,d,K,V,cX.of hd,vH,Y,d,K,V,cX.of hd,Bh,Y,d,K,V,cX.of hd,Bj,Y,d,K,V,cX.of hd,Ss,Y,d,K,V,cX.of hd,ZG,U,x,pe,aB,aL,nW,bR,t,p,s,a,b,rows,rfl,LB,hl,l1,l2,l3,jG it,XC it ip.1 ip.2,jG is,XC is i3.1 (by have:=i3.2.1;have:=i3.2.2;lia),XC is (by have:=i3.2.1;have:=i3.1;lia) i3.2.2,it,is,⟨sh,sn,i3,⟨ip,λes mX=>?_⟩⟩⟩;rw[jY it]at mX;cases mX;exact⟨B,λU' H' L' fr=>k U' H' _ one L' fr⟩
 | win t p s =>
  obtain⟨it,ip,is⟩:=ok;exists Y,d,K,V,cX.of hd,uQ;refine⟨Y,rfl,Y,cE nofun ⟨Y,rfl,Y,cE nofun ⟨Y,rfl,Y,cE nofun ⟨Y,rfl,Y,cE nofun ⟨Y,rfl,Y,cE nofun ⟨Y,rfl,Y,cE nofun ⟨Y,rfl,Y,jm ?_⟩⟩⟩⟩⟩⟩⟩;refine⟨Y,x,d',Y,hx,rfl,Y,d,K,V,cX.of hd,vH,Y,d,K,V,cX.of hd,Bh,Y,d,K,V,cX.of hd,Bj,U,x,pe,aB,aL,nW,bR,t,p,s,rows,rfl,LB,hl,l1,l2,l3,jG it,XC it ip.1 ip.2,jG is,it,is,⟨sh,sn,ip,λes mX=>?_⟩⟩;rw[jY it]at mX;cases mX;exact⟨B,λU' H' L' fr=>k U' H' _ one L' fr⟩
 | fix s =>
  exists Y,d,K,V,cX.of hd,uQ;refine⟨Y,rfl,Y,cE nofun ⟨Y,rfl,Y,cE nofun ⟨Y,rfl,Y,cE nofun ⟨Y,rfl,Y,cE nofun ⟨Y,rfl,Y,cE nofun ⟨Y,rfl,Y,cE nofun ⟨Y,rfl,Y,cE nofun ⟨Y,rfl,Y,jm ?_⟩⟩⟩⟩⟩⟩⟩⟩;refine⟨Y,x,d',Y,hx,rfl,Y,d,K,V,cX.of hd,vH,U,x,pe,aB,aL,nW,bR,s,rows,rfl,LB,hl,l1,l2,l3,jG ok,ok,⟨sh,sn,B,λU' H' L' fr=>k U' H' _ one L' fr⟩⟩
class inductive QE
 | mk (l c w:Addr) (W:Addr->Prop) (aL:iL) (pq:iT) (rq:cU) (_:vs=[.ref l,.ref w]) (_:dB H l c) (_:Wo W H w aL pq rq) (_:(∀ a,W a->a≠l/\a≠c)) (_:aL.length<=50000) (_ :
 ∀ (r:Addr) (row:Row) (H':Hp),row.length<=2->cA H' r row->(∀ p∈row,0<=p.1/\p.1<p.2/\p.2<=aL.length/\p.2<=p.1+40)->H r=none->dB H' l c->cD l H H'->Q (.ref r) H')
theorem gv:aH ["_law_src_here","_law_world_here","_law_many","_law_row","_law_k","_law_start","_law_span"] ["_law_src_here","_law_world_here"] (aA oS):=eU
theorem sf:‹(2,93,["_law_src_here","_law_world_here"],QE)›:=λD=>by
 have bW:bq P w K mg zt cL 1 _ _ XR uK:=gf D;specialize eV D.WS.F gv;obtain⟨l,c,w,W,aL,pq,rq,rfl,S,wo,dw,b1,k⟩:=h;have hu:=gG hr;exists _,(aj (aV (i:=2) gv.nd (eX D.T.eN (gc hu (pv 1) bx))) (aj (aV (i:=3) gv.nd (bL ah)) (aj (dQ PassesOwn.never rfl (gK rfl D.T.jj (aa (bz HL (aC D.xm bW hr (aa (pv 0) (aa ay ah))) (cz (pC rfl) rfl D.T.FZ PyProof.Rows.boot_min (aa ay (aa (pv 2) ah)))) ah)) (ck (i:=4) gv.nd) (aj (aV (i:=5) gv.nd (aC D.xm bW hr (aa (pv 0) (aa (cz (mP rfl) rfl D.T.Ad PyProof.Rows.boot_max (aa ay (aa (pv 2) ah))) ah)))) (aj (aV (i:=6) gv.nd (bz dz ay (aC D.xm bW hr (aa (pv 0) (aa (cz (mP rfl) rfl D.T.Ad PyProof.Rows.boot_max (aa ay (aa (cz (pC rfl) rfl D.T.FZ PyProof.Rows.boot_min (aa (aO bu (bL (aa ay (aa ay (aa ay (aa ay ah))))) (aC D.xm bW hr (aa (pv 0) (aa ay ah)))) (aa (bz cK (pv 2) (pv 5)) ah))) ah))) ah))))) (au (aU (dJ pQ jE jF bQ (pv 3) (aa (cH (aa (pv 5) (aa (bz dz (pv 5) (pv 6)) ah))) ah))))))) (au (aJ (pv 3))))));obtain⟨ik,rw,ps,vl,wu⟩:=id wo;obtain⟨as,GI,pa⟩:=id wu.hi;have la:=Paired.length pa;have zi:=iR.k (k:=kI) wu.hw;rw[show cJ (sS ik rw ps vl) kI=some (.ref ik) by kernel_rfl]at zi;exists Y,w,Y,zi,ik,Y,.inl (bI.of GI);refine⟨gU,λr ye=>?_⟩;have s1:=ak ye (.lst []);have r1:(aN H r (.lst [])) r=some (.lst []):=af;have nr:=S.ne ye;have S1:=S.same s1;generalize aN H r (.lst [])=H1 at s1 r1 S1;refine⟨Y,l,c,3,rfl,S1,E,E,λv H2 v0 v1 S2 k2=>?_⟩;rw[show (as.map V.ref).length=aL.length by rw[cy,la]];exists Y,P,rfl,Z,.inl ⟨Q,Q⟩
 have hm:∃ n:Nat,(v*(if (aL.length:Int)<1 then (aL.length:Int) else 1))=n/\n<=2/\(0<n->1<=aL.length):=by
  split
  ·rename_i z;refine⟨0,?_,Q,Q⟩;rw[show (aL.length:Int)=0 by lia];exact Int.mul_zero _
  ·exact⟨v.toNat,by rw[Int.mul_one];lia,Q,λ_=>by lia⟩
 obtain⟨n,en,n2,n1⟩:=hm
 have hM:(if (aL.length:Int) > 1 then (aL.length:Int) else 1)=if 1<=aL.length then (aL.length:Int) else 1:=by split <;> split <;> lia
 refine⟨n,congrArg (λz=>[V.int z]) en,Q,Q,ki (lo:=0) (n:=((n:Nat):Int).toNat) (λj σ H3=>∃ (u4 u5 u6:Option V) (row:Row),σ=[some (.ref l),some (.ref w),some (.int (aL.length:Nat)),some (.ref r),u4,u5,u6]/\cA H3 r row/\row.length=j/\(∀ p∈row,0<=p.1/\p.1<p.2/\p.2<=aL.length/\p.2<=p.1+40)/\dB H3 l c/\cD l H H3) ⟨none,none,none,[],rfl,⟨[],(k2 r nr.1.symm).trans r1,.nil⟩,rfl,(λp hp=>nomatch hp),S2,(gA.aI.keep s1).trans (cS k2)⟩ ?_ ?_⟩
 ·rintro j σ H3 hj ⟨u4,u5,u6,row,rfl,R3,lr,hp,S3,K3⟩;have hk:1<=aL.length:=n1 ∅;rw[if_pos hk]at hM;refine⟨Y,Y,P,rfl,l,c,Y,S3,(by rw[hM];lia),(by rw[hM];lia),λa H4 a0 a1 S4 k4=>?_⟩;rw[hM]at a1;refine⟨Y,DT,λt ht=>?_⟩;have s5:=ak ht (.lst [.int 4,.int 4,.int 4,.int 40]);have h5:(aN H4 t (.lst [.int 4,.int 4,.int 4,.int 40])) t=some (.lst [.int 4,.int 4,.int 4,.int 40]):=af;have nt:=S4.ne ht;have S5:=S4.same s5;generalize aN H4 t (.lst [.int 4,.int 4,.int 4,.int 40])=H5 at s5 h5 S5;refine⟨Y,l,c,4,rfl,S5,E,E,λi H6 i0 i1 S6 k6=>?_⟩;obtain⟨z,hz,ez⟩:=GK (xs:=[V.int 4,.int 4,.int 4,.int 40]) i0 (by show i<4;lia)
  obtain⟨q,rfl,q0,q1⟩:∃ q:Int,z=.int q/\4<=q/\q<=40:=by
   rcases List.mem_cons.mp hz with y|hz
   ·exact⟨4,y,E,E⟩
   rcases List.mem_cons.mp hz with y|hz
   ·exact⟨4,y,E,E⟩
   rcases List.mem_cons.mp hz with y|hz
   ·exact⟨4,y,E,E⟩
   ·exact⟨40,List.mem_singleton.mp hz,E,E⟩
  exists t,K,V,bI.of ((k6 t nt.1.symm).trans h5),ez
  have hX:∃ x:Int,(if (if (aL.length:Int)-a<q then (aL.length:Int)-a else q) > 1 then (if (aL.length:Int)-a<q then (aL.length:Int)-a else q) else 1)=x/\1<=x/\x<=aL.length-a/\x<=40:=⟨Y,by split <;> split <;> lia,by split <;> split <;> lia,by split <;> split <;> lia⟩
  obtain⟨M,eM,M1,M2,M3⟩:=hX;refine⟨Y,Y,Z,P,rfl,P,rfl,l,c,Y,S6,(by rw[eM];lia),(by rw[eM];lia),λb H7 b0 b1 S7 k7=>⟨Z,?_⟩⟩;rw[eM]at b1;have K7:cD l H3 H7:=(((cS k4).trans (gA.aI.keep s5)).trans (cS k6)).trans (cS k7);obtain⟨bs,hb,pb⟩:=R3;obtain⟨ls,hl⟩:=S3.lst;have hb7:=K7 _ _ hb nr.1.symm;have pb7:bw H7 bs row:=pb.tups λa xs e=>K7 _ _ e (dY e hl);have lb:=Paired.length pb;refine⟨Y,.inl ⟨rfl,_,bI.of hb7⟩,Y,Y,Y,Z,lu,λp Uw=>⟨r,Z,ak Uw _ _ _ hb7,(by rw[cy];exact aR ∅),?_⟩⟩;have sp:=ak Uw (.tup [.int a,.int (a+(1+b))]);have p8:(aN H7 p (.tup [.int a,.int (a+(1+b))])) p=some (.tup [.int a,.int (a+(1+b))]):=af;have hb8:=sp _ _ hb7;have S8:=S7.same sp;have K8:cD l H (aN H7 p (.tup [.int a,.int (a+(1+b))])):=(K3.trans K7).trans (gA.aI.keep sp);have pb8:=bw.snoc (p:=(a,a+(1+b))) (pb7.same sp) p8;refine⟨K,row++[(a,a+(1+b))],rfl,⟨bs++[p],by rw[gw];exact af,pb8.tups λy xs e=>?_⟩,by rw[cY,lr];rfl,λy hy=>?_,?_,λy ob e n=>?_⟩
  ·exact (aK (dY e hb8)).trans e
  ·rcases List.mem_append.mp hy with hy|hy
   ·exact hp y hy
   ·rw[List.mem_singleton.mp hy];exact⟨a0,by show a<a+(1+b);lia,by show a+(1+b)<=_;lia,by show a+(1+b)<=a+40;lia⟩
  ·obtain⟨n,ns,i,d,r',e1,e2,h3⟩:=S8;exact⟨n,ns,i,d,r',(aK nr.1).trans e1,(aK nr.2).trans e2,h3⟩
  ·exact (aK (az e ye)).trans (K8 _ _ e n)
 rintro σ H3 ⟨u4,u5,u6,row,rfl,R3,lr,hp,S3,K3⟩;exact⟨Y,k r row H3 ∅ R3 hp ye S3 K3⟩
class inductive QF
 | mk (l c:Addr) (s m:Int) (_:vs=[.ref l,.int s,.int m]) (_:dB H l c) (_:0<=m) (_:m<=10000) (_:∀ (a b u:Int) (t:Addr) (dd:LD) (H':Hp),Mv a b u m->(dd=.cut s a b\/dd=.TY s a b u)->dd.At H' t->dB H' l c->cD l H H'->Q (.ref t) H')
theorem nR:aH ["_law_src_here","_law_sheet","_law_room","_law_start","_law_stop"] ["_law_src_here","_law_sheet","_law_room"] (aA oU):=eU
theorem AV:‹(2,94,["_law_src_here","_law_sheet","_law_room"],QF)›:=λD=>by
 have bW:bq P w K mg zt cL 1 _ _ XR uK:=gf D;refine eV D.aar.F nR λcV A zn s0 H vs Q E hr h=>?_;obtain⟨l,c,s,m,rfl,S,m0,m1,k⟩:=h;exists _,(aj (aV (i:=3) nR.nd (aC D.xm bW hr (aa (pv 0) (aa (bz dz (pv 2) ay) ah)))) (aj (aV (i:=4) nR.nd (bz dz (pv 3) (aC D.xm bW hr (aa (pv 0) (aa (bz dz (bz cK (pv 2) (pv 3)) ay) ah))))) (aj (bN (aT d7 (aC D.xm bW hr (aa (pv 0) (aa ay ah))) ay (aZ _)) (au (aJ (cH (aa bx (aa (pv 1) (aa (pv 3) (aa (pv 4) ah))))))) bg) (au (aJ (cH (aa bx (aa (pv 1) (aa (pv 3) (aa (pv 4) (aa (aC D.xm bW hr (aa (pv 0) (aa (bz dz (bz dz (bz cK (pv 2) (pv 4)) (pv 3)) ay) ah))) ah)))))))))));refine⟨Y,Y,Z,l,c,Y,S,Q,Q,λa H1 a0 a1 S1 k1=>?_⟩;refine⟨Y,Y,Y,Y,Z,Z,l,c,Y,S1,Q,Q,λv H2 v0 v1 S2 k2=>⟨Z,?_⟩⟩;refine⟨Y,l,c,2,rfl,S2,E,E,λz H3 _ _ S3 k3=>⟨rfl,Y,?_⟩⟩;have K3:cD l H H3:=((cS k1).trans (cS k2)).trans (cS k3);refine cN (λ_=>?_) (λ_=>?_)
 ·refine⟨Y,Y,Y,DT,λt ht=>?_⟩;exact k a (a+v) 0 t (.cut s a (a+v)) _ ⟨⟨Q,Q,Q⟩,Q,Q⟩ (.inl rfl) af (S3.same (ak ht _)) (K3.trans (gA.aI.keep (ak ht _)))
 ·refine⟨Y,Y,Y,Y,Y,Y,Z,Y,Z,Z,l,c,Y,S3,Q,Q,λu H4 u0 u1 S4 k4=>⟨Ws,λt ht=>?_⟩⟩;exact k a (a+v) u t (.TY s a (a+v) u) _ ⟨⟨Q,Q,Q⟩,Q,Q⟩ (.inr rfl) af (S4.same (ak ht _)) ((K3.trans (cS k4)).trans (gA.aI.keep (ak ht _)))
def LD.New(H:Hp):LD->Prop
 | .put _ _ r _=>H r=none
 | _=>True
class inductive QG
 | mk (W:Addr->Prop) (l c w:Addr) (aL:iL) (pq:iT) (rows:cU) (sh:Int->List Int) (_:vs=[.ref l,.ref w]) (_:dB H l c) (_:Wo W H w aL pq rows) (_:∀ a,W a->a≠l/\a≠c) (_:Gd aL.length rows sh) (_:1<=rows.length) (_:aL.length<=10000) (_:∀ (t:Addr) (dd:LD) (H':Hp),dd.At H' t->dd.Ok aL.length rows.length sh->dd.New H->dB H' l c->cD l H H'->Q (.ref t) H')
theorem gi:aH ["_law_src_here","_law_world_here","_law_rows","_law_way","_law_sheet","_law_other","_law_room","_law_place","_law_start"] ["_law_src_here","_law_world_here"] (aA uH):=eU
theorem G0:‹(43,95,["_law_src_here","_law_world_here"],QG)›:=λD=>by
 have bW:bq P w K mg zt cL 1 _ _ XR uK:=gf D;refine eV D.aas.F gi λcV A zn s0 H vs Q E hr h=>?_;obtain⟨W,l,c,w,aL,pq,rows,sh,rfl,S,wo,dw,g,r1,i1,k⟩:=h;have hu:=gG hr;exists _,(aj (aV (i:=2) gi.nd (gc hu (pv 1) bx)) (aj (aV (i:=3) gi.nd (aC D.xm bW hr (aa (pv 0) (aa ay ah)))) (aj (aV (i:=4) gi.nd (aC D.xm bW hr (aa (pv 0) (aa (eX D.T.eN (pv 2)) ah)))) (aj (aV (i:=5) gi.nd (aC D.xm bW hr (aa (pv 0) (aa (eX D.T.eN (pv 2)) ah)))) (aj (aV (i:=6) gi.nd (eX D.T.eN (aC D.DV (gC D 41) hr (aa (pv 2) (aa (pv 4) ah))))) (aj (aV (i:=7) gi.nd (aC D.xm bW hr (aa (pv 0) (aa (bz dz (pv 6) ay) ah)))) (aj (bN (aT j8 (pv 3) ay (aZ _)) (au (aJ (cH (aa bx (aa (pv 4) (aa (pv 7) (aa (aC D.WS (sf D) hr (aa (pv 0) (aa (pv 1) ah))) ah))))))) bg) (aj (bN (aT j8 (pv 3) ay (aZ _)) (au (aJ (aC D.aar (AV D) hr (aa (pv 0) (aa (pv 4) (aa (pv 6) ah)))))) bg) (aj (bN (aT j8 (pv 3) ay (aZ _)) (aj (aV (i:=6) gi.nd (eX D.T.eN (aC D.DV (gC D 41) hr (aa (pv 2) (aa (pv 5) ah))))) (aj (aV (i:=8) gi.nd (aC D.xm bW hr (aa (pv 0) (aa (bz dz (pv 6) ay) ah)))) (au (aJ (cH (aa bx (aa (pv 4) (aa (pv 7) (aa (pv 5) (aa (pv 8) (aa (bz dz (pv 8) (aC D.xm bW hr (aa (pv 0) (aa (bz dz (bz cK (pv 6) (pv 8)) ay) ah)))) ah))))))))))) bg) (aj (bN (aT j8 (pv 3) ay (aZ _)) (au (aJ (cH (aa bx (aa (pv 4) (aa (pv 7) (aa (pv 5) ah))))))) bg) (au (aJ (cH (aa bx (aa (pv 4) ah)))))))))))))));obtain⟨ik,jf,ps,vl,wu⟩:=id wo;have zr:=iR.k (k:=kR) wu.hw;rw[show cJ (sS ik jf ps vl) kR=some (.ref jf) by kernel_rfl]at zr;have Yr:=g.ln;obtain⟨rk,rb,dn⟩:=id g.sn.rk;obtain⟨ls,hls⟩:=S.lst;have kp:∀ {H1:Hp},cD l H H1->ig (λ_=>False) H1 jf rows/\Wo W H1 w aL pq rows:=λ{H1} K1=>⟨(wu.hr.fr (λ_ z=>z) λa xs e wa _ _=>K1 _ _ e (dw a wa).1).at_,wo.fr (λa ob e z=>K1 _ _ e (dw a z).1) λa xs e=>K1 _ _ e (dY e hls)⟩
 have lv:∀ {H1:Hp},cD l H H1->∃ xs,H1 jf=some (.lst xs)/\xs.length=rows.length:=λ{H1} K1=>by
  obtain⟨xs,e,al⟩:=(kp K1).1;exact⟨xs,e,al.len⟩
 exists Y,w,Y,zr;refine⟨Y,l,c,13,rfl,S,E,E,λy H1 y0 y1 S1 k1=>?_⟩;have K1:cD l H H1:=cS k1;obtain⟨x1,e1,n1⟩:=lv K1;refine⟨Y,Y,jf,Y,.inl (bI.of e1),l,c,Y,S1,Q,Q,λs H2 a0 a1 S2 k2=>?_⟩;have K2:cD l H H2:=K1.trans (cS k2);obtain⟨x2,e2,n2⟩:=lv K2;refine⟨Y,Y,jf,Y,.inl (bI.of e2),l,c,Y,S2,Q,Q,λo H3 o0 o1 S3 k3=>?_⟩;have K3:cD l H H3:=K2.trans (cS k3);have is:sQ rows.length s:=⟨a0,Q⟩;have io:sQ rows.length o:=⟨o0,Q⟩;have ls:=g.sl s is.1 is.2;have lo:=g.sl o io.1 io.2;refine⟨Y,Y,_,jf,rows,s,sh,rk,rfl,(kp K3).1,Q,g.sn.sd,is.1,is.2,g.sn.ss,g.sn.ln,dn,by have:=rb s;lia,λq H4 hq s4 fq=>⟨q,Y,.inl (bI.of hq),?_⟩⟩;rw[cy];have K4:cD l H H4:=K3.trans (gA.aI.keep s4);refine⟨Y,Y,Z,l,c,Y,S3.same s4,Q,Q,λp H5 p0 p1 S5 k5=>?_⟩;have K5:cD l H H5:=K4.trans (cS k5);have ip:0<=p/\p<=(sh s).length:=⟨p0,Q⟩;refine⟨Y,Z,Y,cN (λ_=>?_) (λ_=>?_)⟩
 ·refine⟨Y,Y,Y,Y,l,c,w,W,aL,pq,rows,rfl,S5,(kp K5).2,dw,Q,λr row H6 r2 QA hq fr S6 K6=>⟨DT,λt ht=>?_⟩⟩;have st:=ak ht (.tup [.str "put",.int s,.int p,.ref r]);refine k t (.put s p r row) _ ⟨af,QA.same st⟩ ⟨is,ip,r2,hq⟩ ?_ (S6.same st) ((K5.trans K6).trans (gA.aI.keep st));show H r=none
  cases e:H r with
  | none=>rfl
  | some ob =>
   exfalso;by_cases n:r=l
   ·obtain⟨_,hl5⟩:=S5.lst;rw[n,hl5]at fr;cases fr
   ·rw[K5 _ _ e n]at fr;cases fr
 refine⟨Y,Z,Y,cN (λ_=>?_) (λ_=>?_)⟩
 ·refine⟨Y,Y,Y,l,c,s,Y,S5,Q,Q,λa b u t dd H6 mv hdd XD S6 K6=>k t dd H6 XD ?_ ?_ S6 (K5.trans K6)⟩
  ·rcases hdd with rfl|rfl
   ·exact⟨is,mv.1⟩
   ·exact⟨is,mv⟩
  ·rcases hdd with rfl|rfl <;> trivial
 refine⟨Y,Z,Y,cN (λ_=>?_) (λ_=>?_)⟩
 ·refine⟨Y,Y,_,jf,rows,o,sh,rk,rfl,(kp K5).1,Q,g.sn.sd,io.1,io.2,g.sn.ss,g.sn.ln,dn,by have:=rb o;lia,λq6 H6 hq6 s6 fq6=>⟨q6,Y,.inl (bI.of hq6),?_⟩⟩;rw[cy];refine⟨Y,Y,Z,l,c,Y,S5.same s6,Q,Q,λa H7 b0 b1 S7 k7=>?_⟩;refine⟨Y,Y,Y,Y,Y,Y,Y,Y,Z,Z,l,c,Y,S7,Q,Q,λv H8 v0 v1 S8 k8=>⟨Z,ZF,λt ht=>?_⟩⟩;have st:=ak ht (.tup [.str "quote",.int s,.int p,.int o,.int a,.int (a+v)]);exact k t (.U8 s p o a (a+v)) _ af ⟨is,ip,io,Q,Q,Q⟩ trivial (S8.same st) ((((K5.trans (gA.aI.keep s6)).trans (cS k7)).trans (cS k8)).trans (gA.aI.keep st))
 refine⟨Y,Z,Y,cN (λ_=>?_) (λ_=>?_)⟩
 ·refine⟨Y,Y,Y,DT,λt ht=>?_⟩;have st:=ak ht (.tup [.str "window",.int s,.int p,.int o]);exact k t (.win s p o) _ af ⟨is,ip,io⟩ trivial (S5.same st) (K5.trans (gA.aI.keep st))
 ·refine⟨Y,lu,λt ht=>?_⟩;have st:=ak ht (.tup [.str "fix",.int s]);exact k t (.fix s) _ af is trivial (S5.same st) (K5.trans (gA.aI.keep st))
theorem LD.At.tup{H:Hp}{t:Addr}{dd:LD}(h:dd.At H t):∃ vs,H t=some (.tup vs)/\pU vs 1=some (.int dd.sh):=by
 cases dd with
 | put=>exact⟨_,h.1,rfl⟩
 | _=>exact⟨_,h,rfl⟩
theorem LD.At.kept{H H':Hp}{t:Addr}{dd:LD}(h:dd.At H t)(tp:∀ a xs,H a=some (.tup xs)->H' a=some (.tup xs))(kr:∀ s p r row,dd=.put s p r row->∀ xs,H r=some (.lst xs)->H' r=some (.lst xs)):dd.At H' t:=by
 cases dd with
 | put s p r row =>
  obtain⟨h1,as,ha,pa⟩:=h;exact⟨tp _ _ h1,as,kr _ _ _ _ rfl _ ha,pa.tups tp⟩
 | _=>exact tp _ _ h
class inductive G1(C CS CW CB:Addr)
 | mk (l c w x:Addr) (U W:Addr->Prop) (pe:iT) (rows:cU) (aB:iU) (aL:iL) (nW:Nat) (bR:Row) (_:vs=[.ref l,.ref w,.ref x]) (_:sU C CS CW CB H l c w x U W pe rows pe rows aB aL nW bR) (_:1<=rows.length) (_:pe.length<=800) (_:aB.length<=800) (_:aL.length<=10000) (_:Good aL.length rows) (_:∀ (U' W':Addr->Prop) (K0:iT) (rows':cU) (dD:iU) (H':Hp),sU C CS CW CB H' l c w x U' W' K0 rows' K0 rows' dD aL nW bR->rows'.length=rows.length->pe.length<=K0.length/\K0.length<=pe.length+1->dD.length<=aB.length+1->Good aL.length rows'->(∀ y∈K0,y∈pe\/y=rows')->Q (.bl true) H')
theorem sj:aH ["_law_src_here","_law_world_here","_law_house","_law_deed_here","_law_rows"] ["_law_src_here","_law_world_here","_law_house"] (aA uI):=eU
theorem G2(D:Ds K mg bf br C CS CW CB CT CD)(Ju:bq P w K mg zt cL 43 (bf 95) (br 95) ["_law_src_here","_law_world_here"] QG)(G3:bq P w K mg zt cL 45 (bf 90) (br 90) ["_law_world_here","_law_deed_here"] Li)(Jv:bq P w K mg zt cL 43 (bf 89) (br 89) ["_law_rows","_law_sheet"] Qz)(Jw:bq P w K mg zt cL 7 (bf 92) (br 92) ["_law_house","_law_deed_here"] (QC C CS CW CB)):bq P w K mg zt cL 46 (bf 96) (br 96) ["_law_src_here","_law_world_here","_law_house"] (G1 C CS CW CB):=by
 refine eV D.aat.F sj λcV A zn s0 H vs Q E hr h=>?_;obtain⟨l,c,w,x,U,W,pe,rows,aB,aL,nW,bR,rfl,St,r1,b1,b2,b3,gd,k⟩:=h;have hu:=gG hr;exists _,(aj (aV (i:=3) sj.nd (aC D.aas Ju hr (aa (pv 0) (aa (pv 1) ah)))) (aj (aV (i:=4) sj.nd (aC D.WM (yq D) hr (aa (gc hu (pv 1) bx) (aa (aO aX (pv 3) ay) (aa (aC D.aap G3 hr (aa (pv 1) (aa (pv 3) ah))) ah))))) (aj (bN (gW (iM (aC D.aao Jv hr (aa (pv 4) (aa (aO aX (pv 3) ay) ah))))) (au (aJ lY)) bg) (aj (aU (aC D.Pd (oA D) hr (aa (pv 1) (aa (pv 4) ah)))) (au (aJ (HD (Di (aC D.aaq Jw hr (aa (pv 2) (aa (pv 3) ah)))))))))));obtain⟨sh,g⟩:=gd.C7;have Yr:=g.ln;refine⟨Y,Y,W,l,c,w,aL,pe,rows,sh,rfl,St.src,St.wo,St.dw,g,r1,Q,λt dd H1 XD ok nw S1 K1=>?_⟩;have Jx:=St.mv K1 S1;obtain⟨ik,jf,ps,vl,wu⟩:=id Jx.wo;have zr:=iR.k (k:=kR) wu.hw;rw[show cJ (sS ik jf ps vl) kR=some (.ref jf) by kernel_rfl]at zr;obtain⟨_,_,_,xs,hxs,al⟩:=id wu.hr;have lv:=bS.len al;obtain⟨tv,ht,ht1⟩:=XD.tup;have is:=LD.in_ ok;have is1:=is.1;have is2:=is.2;have ss:((dd.sh.toNat:Nat):Int)=dd.sh:=by lia
 refine⟨Y,w,Y,zr,Y,t,K,V,cX.of ht,ht1,Y,Y,W,w,t,aL,pe,rows,aL.length,sh,dd,rfl,Jx.wo,XD,g,ok,Q,λo H2 ho lo s2 fo=>?_⟩;refine⟨jf,o,dd.sh.toNat,xs,by rw[ss];rfl,s2 _ _ hxs,Q,Q,λq H3 hq s3 fq=>?_⟩;have w9:=s2.trans s3;have fq1:=aW s2 fq;have ne:=LD.XA g ok;have en':=Qv (s:=dd.sh.toNat) g.en ne;have R3:ig (λ_=>False) H3 q (rows.set dd.sh.toNat (dd.res sh rows)):=⟨_,hq,bS.set _ (al.mono λv es ⟨b,e,K,hb⟩=>⟨b,e,λz=>z,w9 _ _ hb⟩) ⟨o,rfl,λz=>z,s3 _ _ ho⟩⟩;have hl3:(rows.set dd.sh.toNat (dd.res sh rows)).length=rows.length:=List.length_set
 refine⟨Y,Y,t,K,V,cX.of (w9 _ _ ht),ht1,_,q,_,dd.sh,rfl,R3,Q,(λes he=>by
  rcases List.mem_or_eq_of_mem_set he with z|z
  ·have:=g.es es z;lia
  ·rw[z];exact lo),Es en',is1,Q,Qt is1 g.sn.rk,λb H4 s4 hb=>⟨b,rfl,?_⟩⟩
 have C1:=w9.trans s4;have Q7:=Jx.same C1
 cases b with
 | false=>exact jH (k U W pe rows aB H4 Q7 rfl ⟨Q,Q⟩ ∅ gd λ_ z=>.inl z)
 | true =>
  refine eO ?_;obtain⟨R5,f5,w5,m5⟩:=hb rfl;have gd':Good aL.length (rows.set dd.sh.toNat (dd.res sh rows)):=⟨en',R5,Q,f5,w5,m5⟩;have wu4:Jp W H4 w ik jf ps vl aL pe rows:=wu.fr (λa ob e _=>C1 _ _ e) λa xs e=>C1 _ _ e;have nq:=Jx.new fq1;have no:=Jx.new fo;obtain⟨U0,rv⟩:=Wo.swap wu4 (C1 _ _ hxs) (s4 _ _ hq) (s4 _ _ (s3 _ _ ho)) nq.2.1 no.2.1;refine⟨Y,Y,_,w,q,aL,pe,rows,rows.set dd.sh.toNat (dd.res sh rows),rfl,⟨ik,jf,ps,vl,U0⟩,Q,λik' vM ⟨rw2,vl',ee⟩=>?_,λH5 wo5 QV tp5 _=>?_⟩
  ·rw[wu4.hw]at ee;simp only[Option.some.injEq,HO.dK.injEq,sS,List.cons.injEq,Prod.mk.injEq,V.ref.injEq,true_and,and_true]at ee;obtain⟨rfl,rfl,rfl,rfl⟩:=ee;exact rv
  have St5:=Q7.kept wo5 (λa z y=>by
   rcases y with y|y|y
   ·exact (St.du a z).1 y
   ·exact no.1 (by rw[← y];exact z)
   ·exact nq.1 (by rw[← y];exact z)) (λa y=>by
   rcases y with y|y|y
   ·exact St.dw a y
   ·rw[y];exact no.2.2
   ·rw[y];exact nq.2.2) QV tp5
  have afb:dd.At H5 t:=(XD.same C1).kept tp5 λs p r row ed xs' hr'=>by
   rw[ed]at nw XD;have nr:=St.new (show H r=none from nw);obtain⟨_,as,ha,_⟩:=XD;refine QV _ _ hr' λy=>?_;rcases y with y|y|y
   ·exact nr.2.1 y
   ·rw[y,fo]at ha;cases ha
   ·rw[y,fq1]at ha;cases ha
  refine⟨Y,Y,U,x,t,pe,aB,aL,nW,bR,rows,sh,dd,rfl,St5.Jq,St5.lst,Q,Q,b3,afb,g,ok,by rw[GL _ ∅];exact gd'.bears,λU' H6 dD ll L6 Io=>?_⟩;obtain⟨A8,_⟩:=St5.abe L6 (rows':=jb rows dd.sh.toNat (dd.res sh rows)) (by simp) Io;rw[GL _ ∅]at A8;show Q (.bl (decide (V.gj=V.gj))) H6;rw[decide_eq_true rfl];exact k U' _ _ _ dD H6 A8 hl3 (by rw[cY];exact⟨Nat.le_add_right ..,fF _⟩) ∅ gd' λ_ z=>(List.mem_append.mp z).imp id List.mem_singleton.mp
theorem T5{H3 H7:Hp}{t:Addr}{h:Int}{cs:List Nat}{i ch:Nat}{bs:List Addr}(cR:H3 acc=none)(hi:cs[i]?=some ch)(hb:H7 acc=some (.lst (bs.map V.ref)))(pb:Paired (Lb H7) bs (qC h (cs.take i)))(s7:aI H3 H7)(ht:H7 t=none):(aN (aN H7 t (.tup [.int h,CC ch])) acc (.lst (bs.map V.ref++[.ref t]))) acc=some (.lst ((bs++[t]).map V.ref))/\Paired (Lb (aN (aN H7 t (.tup [.int h,CC ch])) acc (.lst (bs.map V.ref++[.ref t])))) (bs++[t]) (qC h (cs.take (i+1)))/\aI H3 (aN (aN H7 t (.tup [.int h,CC ch])) acc (.lst (bs.map V.ref++[.ref t]))):=by
 refine⟨?_,?_,λb ob e=>?_⟩
 ·rw[af,gw];rfl
 ·have nta:t≠acc:=(az hb ht).symm;rw[take_snoc hi];unfold qC;rw[gw];refine Ek (Paired.Df pb λa q e=>?_) ?_
  ·show aN _ acc _ a=_;rw[aK (dY e hb)];exact ak ht _ _ _ e
  ·show aN _ acc _ t=_;rw[aK nta];exact af
 ·rw[aK (az e cR)];exact ak ht _ _ _ (s7 _ _ e)
class inductive MX(C CS CW CB:Addr)
 | mk (l c w x:Addr) (U W:Addr->Prop) (pe:iT) (rows:cU) (pq:iT) (rq:cU) (aB:iU) (aL:iL) (nW:Nat) (bR:Row) (_:vs=[.ref l,.ref w,.ref x]) (_:sU C CS CW CB H l c w x U W pe rows pq rq aB aL nW bR) (_:pe.length<=800) (_:pq.length<=800) (_:rows.length<=50) (_:aB.length<=800) (_:aL.length<=50000) (_:nW<=800) (_ :
 ∀ (U':Addr->Prop) (H':Hp) (h:Int) (cs:List Nat) (dD:iU),cs.length<=60->dD.length=aB.length+1->sU C CS CW CB H' l c w x U' W (pe++[rows]) rows (pq++[rq]) rq dD (aL++qC h cs) (nW+1) bR->Q (.bl true) H')
def lpT:TS:=λD σ H=>∃ (l c:Addr) (s1 s2 s3 s4 s6:Option V) (h:Int),σ=[some (.ref l),s1,s2,s3,s4,some (.int h),s6]/\dB H l c/\vX h/\∀ (h':Int) (H':Hp),vX h'->dB H' l c->(∀ a,a≠l->H' a=H a)->D.nx [some (.ref l),s1,s2,s3,s4,some (.int h'),s6] H'
theorem jD:aH ["_law_src_here","_law_world_here","_law_house","_law_many","_law_text_here","_law_hand","_law_start"] ["_law_src_here","_law_world_here","_law_house"] (aA qu):=eU
theorem G4:‹(5,97,["_law_src_here","_law_world_here","_law_house"],(MX C CS CW CB))›:=λD=>by
 have bW:bq P w K mg zt cL 1 _ _ XR uK:=gf D;specialize eV D.aau.F jD;obtain⟨l,c,w,x,U,W,pe,rows,pq,rq,aB,aL,nW,bR,rfl,St,b1,b1',b2,b3,b4,b5,k⟩:=h;have hu:=gG hr;refine⟨_,(aj (aV (i:=3) jD.nd (aO bu (bL (aa ay (aa ay (aa ay (aa ay (aa ay ah)))))) (aC D.xm bW hr (aa (pv 0) (aa ay ah))))) (aj (aV (i:=4) jD.nd (aC D.aal (GH D) hr (aa (pv 0) (aa (aC D.xm bW hr (aa (pv 0) (aa (bz dz (pv 3) ay) ah))) ah)))) (aj (aV (i:=5) jD.nd (aC D.xm bW hr (aa (pv 0) (aa ay ah)))) (aj (DF (t':=lpT) (bN (aT d7 (aC D.xm bW hr (aa (pv 0) (aa ay ah))) ay (aZ _)) (au (aV (i:=5) jD.nd (aC D.xm bW hr (aa (pv 0) (aa (bz NJ ay ay) ah))))) bg) ?b3) (aj (aV (i:=6) jD.nd (eX D.T.eN (gc hu (pv 1) bx))) (aj (aU (dJ pQ PySem.F.slot_list_extend PySem.F.type_list_extend kj (gc hu (pv 1) bx) (aa (gH (N:=["_law_sign_here","_law_hand"]) (om (sc:=aA qu) (NX:=["_law_src_here","_law_world_here","_law_house","_law_many","_law_text_here","_law_hand","_law_start"]) (jx:=[none,some 5]) rfl rfl rfl nofun nofun rfl nofun rfl nofun) rfl (Wr (pv 4)) (λ_ _ _ _ _ _=>(ck (i:=0) (show List.Nodup (["_law_sign_here","_law_hand"]:List Str) by decide +kernel))) (λ_ _ _ _ _ _=>ji) (λ_ _ _ _ _ _=>(cH (aa (pv 1) (aa (pv 0) ah))))) ah))) (aj (aU (aC D.Pd (oA D) hr (aa (pv 1) (aa (gc hu (pv 1) bx) ah)))) (au (aJ (aC D.Su (lD D 2) hr (aa (cQ (pv 2) D.aQ D.WL (yL D) hr bO (aa (pv 5) (aa (pv 4) ah))) (aa (cH (aa (pv 6) (aa (bz dz (pv 6) (cz vp rfl D.T.eN PySem.boot_len (aa (pv 4) ah))) ah))) ah)))))))))))),?_⟩
 case b3 =>
  rintro D σ H ⟨l,c,s1,s2,s3,s4,s6,h,rfl,S,fh,k⟩;refine⟨Y,l,c,4,rfl,S,E,E,λv H1 v0 v1 S1 k1=>⟨rfl,Y,cN (λ_=>?_) (λ_=>k h H1 fh S1 k1)⟩⟩;refine⟨Y,Z,⟨E,E,E⟩,l,c,Y,S1,E,E,λv2 H2 q0 q1 S2 k2=>?_⟩;rw[show (10:Int)^(59:Int).toNat=10^59 from rfl]at q1;exact k v2 H2 ⟨q0,Int.lt_trans q1 (by decide)⟩ S2 λy hy=>(k2 y hy).trans (k1 y hy)
 refine⟨Ws,λt ht=>?_⟩;have s1:=ak ht (.lst [.int 1,.int 3,.int 5,.int 8,.int 60]);have h1:(aN H t (.lst [.int 1,.int 3,.int 5,.int 8,.int 60])) t=some (.lst [.int 1,.int 3,.int 5,.int 8,.int 60]):=af;have nt:=St.src.ne ht;generalize aN H t (.lst [.int 1,.int 3,.int 5,.int 8,.int 60])=H1 at s1 h1;have Jx:=St.same s1;refine⟨Y,l,c,5,rfl,Jx.src,E,E,λi H2 i0 i1 S2 k2=>?_⟩;have Jy:=Jx.mv (cS k2) S2;obtain⟨z,hz,ez⟩:=GK (xs:=[V.int 1,.int 3,.int 5,.int 8,.int 60]) i0 (by show i<5;lia)
 obtain⟨tn,rfl,Nl,Yi⟩:∃ j:Int,z=.int j/\0<=j/\j<=60:=by
  have key:∀ y∈[V.int 1,.int 3,.int 5,.int 8,.int 60],∃ j:Int,y=.int j/\0<=j/\j<=60:=by
   intro y hy;rcases List.mem_cons.mp hy with q|hy
   ·exact⟨1,q,E,E⟩
   rcases List.mem_cons.mp hy with q|hy
   ·exact⟨3,q,E,E⟩
   rcases List.mem_cons.mp hy with q|hy
   ·exact⟨5,q,E,E⟩
   rcases List.mem_cons.mp hy with q|hy
   ·exact⟨8,q,E,E⟩
   ·exact⟨60,List.mem_singleton.mp hy,E,E⟩
  exact key z hz
 exists t,K,V,bI.of ((k2 t nt.1.symm).trans h1),ez;refine⟨Y,Y,Y,Z,l,c,Y,S2,Q,Q,λm H3 m0 m1 S3 k3=>?_⟩;have XE:=Jy.mv (cS k3) S3;refine⟨l,c,m.toNat,by rw[show ((m.toNat:Nat):Int)=m by lia];rfl,S3,Q,λcs H4 Ro S4 K4=>?_⟩;have Q7:=XE.mv K4 S4;refine⟨Y,l,c,3,rfl,S4,E,E,λh0 H5 p0 p1 S5 k5=>?_⟩;have St5:=Q7.mv (cS k5) S5;refine⟨l,c,K,P,h0,rfl,S5,⟨p0,Q⟩,λh H6 fh S6 k6=>?_⟩;have A8:=St5.mv (cS k6) S6;obtain⟨ik,rw,ps,vl,wu⟩:=id A8.wo;obtain⟨as,GI,pa⟩:=id wu.hi;have la:=Paired.length pa;have zi:=iR.k (k:=kI) wu.hw;rw[show cJ (sS ik rw ps vl) kI=some (.ref ik) by kernel_rfl]at zi;exists Y,w,Y,zi,ik,Y,.inl (bI.of GI);refine⟨Y,w,Y,zi,.inl ⟨rfl,_,bI.of GI⟩,Y,cs,rfl,λacc cR=>Ml (λj σ H7=>∃ (u:Option V) (bs:List Addr),σ=[u,some (.int h)]/\H7 acc=some (.lst (bs.map V.ref))/\Paired (Lb H7) bs (qC h (cs.take j))/\aI H6 H7) ⟨none,[],rfl,af,.nil,ak cR _⟩ ?_ ?_⟩
 ·rintro j ch σ H7 hj ⟨u,bs,rfl,ha,pb,s7⟩;have lb:=Paired.length pb;rw[sR,gx]at lb;refine⟨Y,Y,lu,λt ht=>⟨_,ak ht _ _ _ ha,(by rw[cy];exact aR ∅),_,bs++[t],rfl,T5 cR hj ha pb s7 ht⟩⟩
 rintro σ H7 ⟨u,bs,rfl,ha,pb,s7⟩;rw[gO]at pb;have lb:=Paired.length pb;rw[sR]at lb;have abm:=s7 _ _ GI;refine⟨ik,acc,Z,abm,ha,(by rw[cy,cy];exact gT (aR ∅)),?_⟩;rw[← gw];have k8:cD ik H7 (aN H7 ik (.lst ((as++bs).map V.ref))):=aG ik _ _;have i8:(aN H7 ik (.lst ((as++bs).map V.ref))) ik=some (.lst ((as++bs).map V.ref)):=af;generalize aN H7 ik (.lst ((as++bs).map V.ref))=H8 at k8 i8;have T6:∀ a ob,H6 a=some ob->a≠ik->H8 a=some ob:=λa ob e n=>k8 _ _ (s7 _ _ e) n;have t68:∀ a xs,H6 a=some (.tup xs)->H8 a=some (.tup xs):=λa xs e=>T6 _ _ e (dY e GI);have Xo:∀ a xs,H7 a=some (.tup xs)->H8 a=some (.tup xs):=λa xs e=>k8 _ _ e (dY e abm);have w8:H8 w=some (.dK (sS ik rw ps vl)):=T6 _ _ wu.hw (dY wu.hw GI);have hr8:Nq W ik ps H8 rw rq:=wu.hr.fr (λ_ z=>z) λa xs e _ n _=>T6 _ _ e n
 have wo8:Jp W H8 w ik rw ps vl (aL++qC h cs) pq rq:=by
  obtain⟨Nr,hp,al⟩:=wu.hp;refine⟨wu.ww,wu.wi,wu.wp,wu.wv,λa z=>?_,w8,⟨as++bs,i8,BC (Paired.Df pa λa q e=>t68 _ _ e) (Paired.Df pb λa q e=>Xo _ _ e)⟩,hr8,⟨Nr,T6 _ _ hp wu.ne.symm,al.mono λv rs ⟨a,e,q⟩=>⟨a,e,q.fr (λ_ y=>y) λa xs e _ n _=>T6 _ _ e n⟩⟩,wu.ne,wu.lst⟩;by_cases e:a=ik
  ·rw[e];exact⟨_,i8⟩
  ·obtain⟨ob,e2⟩:=wu.al a z;exact⟨ob,T6 _ _ e2 e⟩
 have afc:=A8.Jq.fr (λa ob e z=>T6 _ _ e (λq=>(A8.du a z).1 (by rw[q];exact wu.wi))) t68
 have afd:dB H8 l c:=by
  obtain⟨n,ns,i,d,r,e1,e2,h3⟩:=S6;exact⟨n,ns,i,d,r,T6 _ _ e1 (λq=>(A8.dw ik wu.wi).1 q.symm),T6 _ _ e2 (λq=>(A8.dw ik wu.wi).2 q.symm),h3⟩
 have zr:=iR.k (k:=kR) w8;rw[show cJ (sS ik rw ps vl) kR=some (.ref rw) by kernel_rfl]at zr;refine⟨Y,Y,w,Y,zr,W,w,rw,aL++qC h cs,pq,rq,rq,rfl,⟨ik,rw,ps,vl,wo8⟩,Q,λik' vM ⟨jf,vl',e⟩=>?_,λH9 wo9 fr9 tp9 _=>?_⟩
 ·rw[w8]at e;simp only[Option.some.injEq,HO.dK.injEq,sS,List.cons.injEq,Prod.mk.injEq,V.ref.injEq,true_and,and_true]at e;obtain⟨rfl,rfl,rfl,rfl⟩:=e;exact hr8
 have abn:=afc.fr (λa ob e z=>fr9 _ _ e (A8.du a z).1) tp9
 have XF:dB H9 l c:=by
  obtain⟨n,ns,i,d,r,e1,e2,h3⟩:=afd;exact⟨n,ns,i,d,r,fr9 _ _ e1 (λq=>(A8.dw l q).1 rfl),fr9 _ _ e2 (λq=>(A8.dw c q).2 rfl),h3⟩
 obtain⟨S',Xq,d',Yc,QD,bl',kn',du',bk',dS',Hs,Ht,dw',sg',ow',pw',db',tb',Jm,LU⟩:=id abn;refine⟨Y,x,d',Y,LU.L.hx,rfl,Y,Y,U,x,pe,aB,aL,nW,bR,h,cs,rows,rfl,abn,fh,Q,Q,Q,A8.lst,b2,Q,Q,λU' q Nc abo QH hq=>?_⟩;refine⟨Y,Y,Y,fO cs,rfl,(by rw[qx];exact gT (aR ∅)),Z,lu,λt2 Iz=>?_⟩;refine⟨P,rfl,.inr ⟨false,q,t2,Z,ak Iz _ _ _ hq,af,rfl,λi u v eu ev=>?_⟩,λZv afg=>?_⟩
 ·match i,eu,ev with
  | 0,eu,ev =>
   cases eu;cases ev;rw[show (as.map V.ref).length=aL.length by rw[cy,la]];exact Eqv.int _
  | 1,eu,ev =>
   cases eu;cases ev;rw[show ((aL++qC h cs).length:Int)=((as.map V.ref).length:Int)+((fO cs).length:Int) by rw[cy,la,qx,cY,sR];lia];exact Eqv.int _
 have jI:aI Nc Zv:=λa ob e=>afg _ _ (ak Iz _ _ _ e)
 have abp:dB Zv l c:=by
  obtain⟨n,ns,i,d,r,e1,e2,h3⟩:=XF;exact⟨n,ns,i,d,r,jI _ _ (QH.2.1 _ _ e1 (λq=>(A8.du l q).2.1 rfl)),jI _ _ (QH.2.1 _ _ e2 (λq=>(A8.du c q).2.2 rfl)),h3⟩
 refine k U' Zv h cs _ ∅ (by rw[cY];rfl) ⟨abp,abo.fr (λa ob e _=>jI _ _ e) (λa xs e=>jI _ _ e),(by simp),wo9.fr (λa ob e z=>jI _ _ (QH.2.1 _ _ e (λy=>(A8.du a y).1 z))) (λa xs e=>jI _ _ (QH.2.2 _ _ e)),λa z=>?_,A8.dw⟩
 ·rcases QH.1 a z with y|y
  ·exact A8.du a y
  ·refine⟨λz=>?_,λq=>?_,λq=>?_⟩
   ·obtain⟨ob,e2⟩:=wo9.al z;rw[e2]at y;cases y
   ·obtain⟨_,ns,i,d,r,e1,_⟩:=XF;rw[q,e1]at y;cases y
   ·obtain⟨_,ns,i,d,r,_,e1,_⟩:=XF;rw[q,e1]at y;cases y
class inductive Jz(C CS CW CB:Addr)
 | mk (l c w x:Addr) (U W:Addr->Prop) (pe:iT) (rows:cU) (pq:iT) (rq:cU) (aB:iU) (aL:iL) (nW:Nat) (bR:Row) (_:vs=[.ref w,.ref x]) (_:sU C CS CW CB H l c w x U W pe rows pq rq aB aL nW bR) (_:pe.length<=800) (_:pq.length<=800) (_:rows.length<40) (_:rq.length=rows.length) (_:aB.length<=800) (_:(∃ f,nP (rows++[[]]) f)) (_ :
 ∀ (U' W':Addr->Prop) (H':Hp) (dD:iU),dD.length=aB.length+1->sU C CS CW CB H' l c w x U' W' (pe++[rows++[[]]]) (rows++[[]]) (pq++[rq++[[]]]) (rq++[[]]) dD aL nW bR->Q (.bl true) H')
theorem Eu:aH ["_law_world_here","_law_house"] ["_law_world_here","_law_house"] (aA rH):=eU
theorem Ew:‹(8,98,["_law_world_here","_law_house"],(Jz C CS CW CB))›:=λD=>by
 specialize eV D.aav.F Eu;obtain⟨l,c,w,x,U,W,pe,rows,pq,rq,aB,aL,nW,bR,rfl,St,b1,b1',b2,b2',b3,B,k⟩:=h;have hu:=gG hr;exists _,(aj (aU (aC D.Pd (oA D) hr (aa (pv 0) (aa (bz jK (gc hu (pv 0) bx) (bL (aa (bL ah) ah))) ah)))) (au (aJ (aC D.Su (lD D 1) hr (aa (ff (pv 1) D.aQ D.WJ (xK D) hr bO) (aa (bz cK (eX D.T.eN (gc hu (pv 0) bx)) ay) ah))))));obtain⟨ik,rw,ps,vl,wu⟩:=id St.wo;have zr:=iR.k (k:=kR) wu.hw;rw[show cJ (sS ik rw ps vl) kR=some (.ref rw) by kernel_rfl]at zr;exists Y,Y,w,Y,zr;obtain⟨wrw,n1,n2,vs,hvs,al⟩:=id wu.hr;have lv:=bS.len al;refine⟨gU,λe he=>⟨mD,λo ho=>?_⟩⟩;have s1:=ak he (.lst []);have e1:(aN H e (.lst [])) e=some (.lst []):=af;generalize aN H e (.lst [])=H1 at s1 e1 ho;have s2:=ak ho (.lst [.ref e]);have o2:(aN H1 o (.lst [.ref e])) o=some (.lst [.ref e]):=af;show Y9 _ _ (aN H1 o (.lst [.ref e])) _;generalize aN H1 o (.lst [.ref e])=H2 at s2 o2;have s02:=s1.trans s2;refine⟨rw,o,Z,s02 _ _ hvs,o2,(by rw[lv];exact gT (aR (by simp only[eY,qO];lia))),λr F2=>?_⟩;have s3:=ak F2 (.lst (vs++[.ref e]));have r3:(aN H2 r (.lst (vs++[.ref e]))) r=some (.lst (vs++[.ref e])):=af;generalize aN H2 r (.lst (vs++[.ref e]))=H3 at s3 r3;have P0:=s02.trans s3;have fr:=aW s02 F2;obtain⟨as,GI,_⟩:=id wu.hi;obtain⟨Nr,BD,_⟩:=id wu.hp;have e3:=s3 _ _ (s2 _ _ e1);have wu3:Jp W H3 w ik rw ps vl aL pq rq:=wu.fr (λa ob e _=>P0 _ _ e) (λa xs e=>P0 _ _ e)
 have U0:Jp (λa=>W a\/a=e\/a=r) H3 w ik rw ps vl aL pq rq:=sU.Qm wu3 (λa z=>.inl z) (by
  rintro a (z|z|z)
  ·exact wu3.al a z
  ·rw[z];exact⟨_,e3⟩
  ·rw[z];exact⟨_,r3⟩)
 have UY:∀ a ob,H a=some ob->¬ W a->¬ (W a\/a=e\/a=r):=by
  rintro a ob h0 n (z|z|z)
  ·exact n z
  ·rw[z,he]at h0;cases h0
  ·rw[z,fr]at h0;cases h0
 refine⟨λa=>W a\/a=e\/a=r,w,r,aL,pq,rq,rq++[[]],rfl,⟨ik,rw,ps,vl,U0⟩,Q,λik' vM ⟨jf,vl',ee⟩=>?_,λH4 wo4 fr4 tp4 _=>?_⟩
 ·rw[wu3.hw]at ee;simp only[Option.some.injEq,HO.dK.injEq,sS,List.cons.injEq,Prod.mk.injEq,V.ref.injEq,true_and,and_true]at ee;obtain⟨rfl,rfl,rfl,rfl⟩:=ee;exact⟨.inr (.inr rfl),(az GI fr).symm,(az BD fr).symm,_,r3,bS.snoc (al.mono λ_ _=>UX.fr (λa z=>.inl z) (λa xs e _ _ _=>P0 _ _ e)) ⟨e,rfl,.inr (.inl rfl),(az GI he).symm,(az BD he).symm,e3⟩⟩
 have Ym:∀ a ob,H a=some ob->¬ W a->H4 a=some ob:=λa ob e n=>fr4 _ _ (P0 _ _ e) (UY _ _ e n);have t04:∀ a xs,H a=some (.tup xs)->H4 a=some (.tup xs):=λa xs e=>tp4 _ _ (P0 _ _ e);have afi:=St.Jq.fr (λa ob e z=>Ym _ _ e (St.du a z).1) t04
 have XG:dB H4 l c:=by
  obtain⟨n,ns,i,d,r,e1,e2,h3⟩:=St.src;exact⟨n,ns,i,d,r,Ym _ _ e1 (λq=>(St.dw l q).1 rfl),Ym _ _ e2 (λq=>(St.dw c q).2 rfl),h3⟩
 have uw:∀ a,U a->¬ (W a\/a=e\/a=r):=λa z=>by
  obtain⟨ob,h0⟩:=St.Jq.al z;exact UY _ _ h0 (St.du a z).1
 obtain⟨S',Xq,d',Yc,QD,bl',kn',du',bk',dS',Hs,Ht,dw',sg',ow',pw',db',tb',Jm,LU⟩:=id afi;refine⟨Y,x,d',Y,LU.L.hx,rfl,S',x,d',Yc,QD,bl',kn',du',bk',dS',Hs,Ht,pe,Jm,aB,rows,rfl,LU.L,St.lst,Q,Q,Q,Q,⟨B,λS'' H5 L5 QV=>?_⟩⟩;obtain⟨U',afj,fu⟩:=LU.mK L5 QV;have wo5:=wo4.fr (λa ob e z=>fu.2.1 _ _ e (λy=>uw a y z)) fu.2.2;obtain⟨ik5,rw5,ps5,vl5,Ys⟩:=id wo5;obtain⟨_,_,_,vs5,afl,al5⟩:=id Ys.hr;have lv5:=bS.len al5;rw[cY]at lv5;have zr5:=iR.k (k:=kR) Ys.hw;rw[show cJ (sS ik5 rw5 ps5 vl5) kR=some (.ref rw5) by kernel_rfl]at zr5;refine⟨Y,w,Y,zr5,rw5,Y,.inl (bI.of afl),Z,P,rfl,.inl ⟨rfl,?_⟩,λH6 s6=>?_⟩
 ·rw[lv5];simp only[eY,qO];congr 1;lia
 have afm:dB H6 l c:=by
  obtain⟨n,ns,i,d,r,e1,e2,h3⟩:=XG;exact⟨n,ns,i,d,r,s6 _ _ (fu.2.1 _ _ e1 (λq=>(St.du l q).2.1 rfl)),s6 _ _ (fu.2.1 _ _ e2 (λq=>(St.du c q).2.2 rfl)),h3⟩
 refine k U' (λa=>W a\/a=e\/a=r) H6 _ (by rw[cY];rfl) ⟨afm,afj.same s6,by simp,wo5.same s6,λa z=>?_,λa z=>?_⟩
 ·rcases fu.1 a z with y|y
  ·exact⟨uw a y,(St.du a y).2⟩
  ·change H4 a=none at y;refine⟨λz=>?_,λq=>?_,λq=>?_⟩
   ·obtain⟨ob,e2⟩:=wo4.al z;rw[e2]at y;cases y
   ·obtain⟨_,ns,i,d,r,e1,_⟩:=XG;rw[q,e1]at y;cases y
   ·obtain⟨_,ns,i,d,r,_,e1,_⟩:=XG;rw[q,e1]at y;cases y
 ·have ne:=St.src.ne he;have nr:=St.src.ne fr;rcases z with z|z|z
  ·exact St.dw a z
  ·rw[z];exact⟨ne.1.symm,ne.2.symm⟩
  ·rw[z];exact⟨nr.1.symm,nr.2.symm⟩
abbrev e0(n:Nat):cU:=List.replicate n []
theorem Lj(n:Nat):e0 n++[[]]=e0 (n+1):=(List.replicate_succ').symm
theorem xR{n:Nat}{es:List Int}(h:es∈e0 n):es=[]:=(List.mem_replicate.mp h).2
theorem XH{n:Nat}{x y:Int}:¬ j0 (e0 n) x y:=λ⟨_,es,he,hy⟩=>by
 rw[xR (oF he)]at hy;cases hy
theorem QI(n:Nat):gp (e0 n):=λes he y hy=>by
 rw[xR he]at hy;cases hy
theorem QJ(n:Nat):Cu (e0 n):=⟨λ_=>0,λ_=>Nat.zero_le _,λ_ _ z=>absurd z XH⟩
theorem QK{n:Nat}(h:n<=100):nP (e0 n) λ_=>0:=by
 refine⟨by rw[zg];exact h,λes he=>by rw[xR he];exact Nat.zero_le _,QI n,QJ n,λx es _ he=>?_,λ_ _ _=>by decide⟩;rw[xR (oF he)];rfl
def we(n:Nat):iT:=[[],[],[]]++(List.range n).map λk=>e0 (k+1)
theorem MY(n:Nat):we (n+1)=we n++[e0 (n+1)]:=by
 unfold we;rw[List.range_succ,gw,nV];rfl
theorem AW(n:Nat):(we n).length=n+3:=by
 unfold we;rw[cY,cy,List.length_range];show 3+n=_;lia
class inductive AX(C CS CW CB:Addr)
 | mk (l c w x:Addr) (U W:Addr->Prop) (_:vs=[.ref l,.ref w,.ref x]) (_:sU C CS CW CB H l c w x U W [[]] [] [[]] [] [] [] 0 []) (_ :
 ∀ (U' W':Addr->Prop) (H':Hp) (n:Nat) (aL:iL) (aB:iU),2<=n->n<=4->aL.length<=120->aB.length=n+2->sU C CS CW CB H' l c w x U' W' (we n) (e0 n) (we n) (e0 n) aB aL 2 []->Q (.bl true) H')
theorem iH:aH ["_law_src_here","_law_world_here","_law_house","_law_good","_law_k"] ["_law_src_here","_law_world_here","_law_house"] (aA rJ):=eU
theorem Ex:‹(9,99,["_law_src_here","_law_world_here","_law_house"],(AX C CS CW CB))›:=λD=>by
 specialize eV D.aaw.F iH;obtain⟨l,c,w,x,U,W,rfl,St,k⟩:=h;have hu:=gG hr;exists _,(aj (aV (i:=3) iH.nd lY) (aj (dQ PassesOwn.never rfl (gK rfl D.T.jj (aa ay ah)) (ck (i:=4) iH.nd) (au (aV (i:=3) iH.nd (qX (aC D.aau (G4 D) hr (aa (pv 0) (aa (pv 1) (aa (pv 2) ah)))) (ud (pv 3)))))) (aj (dQ PassesOwn.never rfl (gK rfl D.T.jj (aa (bz dz ay (aC D.xm (gf D) hr (aa (pv 0) (aa ay ah)))) ah)) (ck (i:=4) iH.nd) (au (aV (i:=3) iH.nd (qX (aC D.aav (Ew D) hr (aa (pv 1) (aa (pv 2) ah))) (ud (pv 3)))))) (au (aJ (pv 3))))));exists 2,rfl,E,E;refine ki (lo:=0) (n:=(2:Int).toNat) (λj σ H1=>∃ (u4:Option V) (U1 W1:Addr->Prop) (aL:iL) (aB:iU),σ=[some (.ref l),some (.ref w),some (.ref x),some (.bl true),u4]/\sU C CS CW CB H1 l c w x U1 W1 (List.replicate (j+1) []) [] (List.replicate (j+1) []) [] aB aL j []/\aL.length<=60*j/\aB.length=j) ⟨none,U,W,[],[],rfl,St,fF _,rfl⟩ ?_ ?_
 ·rintro j σ H1 hj ⟨u4,U1,W1,aL,aB,rfl,Jx,li,ll⟩;have hj2:j<2:=hj;refine⟨Y,Y,Y,l,c,w,x,U1,W1,K,_,aB,aL,j,[],rfl,Jx,(by rw[zg];lia),(by rw[zg];lia),(by show 0<=50;decide),Q,Q,Q,λU2 H2 h cs XI Ro B4 Jy=>?_⟩;rw[← List.replicate_succ']at Jy;have g:∃ (u4:Option V) (U3 W3:Addr->Prop) (abq:iL) (dD:iU),[some (.ref l),some (.ref w),some (.ref x),some (.bl true),some (V.int (0+(j:Int)))]=[some (.ref l),some (.ref w),some (.ref x),some (V.bl true),u4]/\sU C CS CW CB H2 l c w x U3 W3 (List.replicate (j+1+1) []) [] (List.replicate (j+1+1) []) [] dD abq (j+1) []/\abq.length<=60*(j+1)/\dD.length=j+1:=⟨_,U2,W1,_,XI,rfl,Jy,(by rw[cY,sR];lia),Q⟩;exists true,rfl;rw[if_pos rfl];exact⟨Y,g⟩
 rintro σ H1 ⟨u4,U1,W1,aL,aB,rfl,Jx,li,ll⟩;refine⟨Y,l,c,3,rfl,Jx.src,E,E,λv H2 v0 v1 S2 k2=>⟨Z,2+v,rfl,Q,Q,?_⟩⟩;have Jy:=Jx.mv (cS k2) S2;refine ki (lo:=0) (n:=(2+v).toNat) (λj σ H3=>∃ (u4:Option V) (U3 W3:Addr->Prop) (aB:iU),σ=[some (.ref l),some (.ref w),some (.ref x),some (.bl true),u4]/\sU C CS CW CB H3 l c w x U3 W3 (we j) (e0 j) (we j) (e0 j) aB aL 2 []/\aB.length=j+2) ⟨u4,U1,W1,aB,rfl,Jy,ll⟩ ?_ ?_
 ·rintro j σ H3 hj ⟨u4,U3,W3,aB,rfl,XE,ll⟩;have hj2:j<4:=by lia
  refine⟨Y,Y,l,c,w,x,U3,W3,K,_,aB,aL,2,[],rfl,XE,(by rw[AW];lia),(by rw[AW];lia),(by rw[zg];lia),rfl,Q,⟨_,by rw[Lj];exact QK ∅⟩,λU4 W4 H4 XJ hl4 Q7=>?_⟩;rw[Lj,← MY]at Q7;have g:∃ (u4:Option V) (U5 W5:Addr->Prop) (dD:iU),[some (.ref l),some (.ref w),some (.ref x),some (.bl true),some (V.int (0+(j:Int)))]=[some (.ref l),some (.ref w),some (.ref x),some (V.bl true),u4]/\sU C CS CW CB H4 l c w x U5 W5 (we (j+1)) (e0 (j+1)) (we (j+1)) (e0 (j+1)) dD aL 2 []/\dD.length=j+1+2:=⟨_,U4,W4,XJ,rfl,Q7,Q⟩;exists true,rfl;rw[if_pos rfl];exact⟨Y,g⟩
 rintro σ H3 ⟨u4,U3,W3,aB,rfl,XE,ll⟩;exact⟨Y,k U3 W3 H3 (2+v).toNat aL aB ∅ ∅ (by have:(2:Int).toNat=2:=rfl;lia) ll XE⟩
class inductive Ey(C CS CW CB:Addr)
 | mk (U W:Addr->Prop) (x w:Addr) (pe:iT) (aB:iU) (aL:iL) (nW:Nat) (bR:Row) (rows:cU) (pq:iT) (sh:Int->List Int) (_:vs=[.ref w,.ref x]) (_:qU C CS CW CB U H x pe aB aL nW bR) (_:pe.getLast?=some rows) (_:pe.length<=900) (_:Wo W H w aL pq rows) (_:Gd aL.length rows sh) (_:∀ H',aI H H'->Q (.bl true) H')
theorem nT:aH ["_law_world_here","_law_house","_law_sheet"] ["_law_world_here","_law_house"] (aA jP):=eU
theorem u9:‹(43,100,["_law_world_here","_law_house"],(Ey C CS CW CB))›:=λD=>by
 refine eV D.Pf.F nT λcV A zn s0 H vs Q E hr h=>?_;obtain⟨U,W,x,w,pe,aB,aL,nW,bR,rows,pq,sh,rfl,LB,hl,l2,wo,g,k⟩:=h;have hu:=gG hr;have Yr:=g.ln;exists _,(aj (dQ PassesOwn.never rfl (gK rfl D.T.jj (aa (eX D.T.eN (gc hu (pv 0) bx)) ah)) (ck (i:=2) nT.nd) (au (bN (gW (iM (aC D.Su (lD D 3) hr (aa (cQ (pv 1) D.aQ D.Sy (kG D) hr bO (aa (pv 2) ah)) (aa (aC D.WR (t7 D) hr (aa (aC D.DV (gC D 41) hr (aa (gc hu (pv 0) bx) (aa (pv 2) ah))) ah)) ah))))) (au (aJ lY)) bg))) (au (aJ lY)));obtain⟨ik,jf,ps,vl,wu⟩:=id wo;have zr:∀ {H1:Hp},aI H H1->_:=λ{H1} s=>iR.k (k:=kR) (s _ _ wu.hw);rw[show cJ (sS ik jf ps vl) kR=some (.ref jf) by kernel_rfl]at zr;have R:=wu.hr.at_;obtain⟨xs,hxs,al⟩:=id R;have lv:=bS.len al;obtain⟨rk,rb,dn⟩:=id g.sn.rk;exists Y,w,Y,zr (aI.refl _),jf,Y,.inl (bI.of hxs),Y,Q,Q;refine ki (lo:=0) (n:=_) (λj σ H1=>∃ u:Option V,σ=[some (.ref w),some (.ref x),u]/\aI H H1) ⟨none,rfl,aI.refl _⟩ ?_ ?_
 ·rintro j σ H1 hj ⟨u,rfl,s1⟩;have ij:sQ rows.length (0+(j:Int)):=⟨Q,Q⟩;have ls:=g.sl _ ij.1 ij.2;obtain⟨S,SW,d,wl,QD,bl,kn,du,bk,dS,st,op,dw,sg,ow,pw,db,tb,ops,LU⟩:=id (LB.same s1);refine⟨Y,x,d,Y,LU.L.hx,rfl,Y,S,x,d,wl,QD,bl,kn,du,bk,dS,st,op,pe,ops,aB,rows,0+(j:Int),rfl,LU.L,hl,Q,l2,ij,⟨sh,g.sn,λo H2 ho s2 fo=>?_⟩⟩;have jI:=s1.trans s2;refine⟨Y,w,Y,zr jI,Y,_,jf,rows,_,sh,rk,rfl,R.same jI,Q,g.sn.sd,ij.1,ij.2,g.sn.ss,g.sn.ln,dn,by have:=rb (0+(j:Int));lia,λo3 H3 h3 s3 f3=>?_⟩;refine⟨o3,sh (0+(j:Int)),rfl,h3,Q,λr H4 Yj s4 f4=>⟨P,rfl,cA.eqv (ho.same (s3.trans s4)) Yj 0,λH5 s5=>⟨true,rfl,eO ⟨Y,jI.trans (s3.trans (s4.trans s5))⟩⟩⟩⟩
 ·rintro σ H1 ⟨u,rfl,s1⟩;exact k H1 s1
def j6(p:Int->Bool)(es:List Int):List Int:=es.filter λe=>decide (e<0) || !p e
theorem JA{p q:Int->Bool}(h:∀ a,p a=q a)(es:List Int):j6 p es=j6 q es:=by rw[show p=q from funext h]
theorem C9{sh:Int->List Int}{p:Int->Bool}:∀ es:List Int,aS (λs=>(sh s).filter λa=>!p a) (j6 p es)=(aS sh es).filter λa=>!p a
 | []=>rfl
 | e::r=>by
  have ih:=C9 (sh:=sh) (p:=p) r;rw[bU,List.filter_append,← ih];unfold j6 aY;by_cases c:e<0
  ·rw[List.filter_cons_of_pos (by rw[decide_eq_true c];rfl),bU,if_pos c];unfold aY;rw[if_pos c]
  ·rw[if_neg c]
   cases z:p e with
   | true=>rw[List.filter_cons_of_neg (by rw[decide_eq_false c,z];exact nY),List.filter_cons_of_neg (by rw[z];exact nY)];rfl
   | false =>
    rw[List.filter_cons_of_pos (by rw[z,Bool.not_false,Bool.or_true]),List.filter_cons_of_pos (by rw[z];rfl),bU];unfold aY;rw[if_neg c];rfl
theorem Dc{p:Int->Bool}{es:List Int}{y:Int}:y∈dO (j6 p es)↔y∈dO es:=by
 rw[bT,bT];refine and_congr_right λh=>?_;unfold j6;rw[List.mem_filter];exact⟨λz=>z.1,λz=>⟨z,by rw[decide_eq_true ∅];rfl⟩⟩
theorem Seen.Ez{rows:cU}{sh:Int->List Int}(h:Seen rows sh)(p:Int->Bool):Seen (rows.map (j6 p)) λs=>(sh s).filter λa=>!p a:=by
 have get:∀ {x:Int} {es:List Int},(rows.map (j6 p))[x.toNat]?=some es->∃ Hx,rows[x.toNat]?=some Hx/\es=j6 p Hx:=λe=>by
  rw[mY]at e;obtain⟨Hx,e0,rfl⟩:=Option.map_eq_some_iff.mp e;exact⟨Hx,e0,rfl⟩
 have nx:∀ {x y:Int},j0 (rows.map (j6 p)) x y->j0 rows x y:=λ⟨x0,es,e,hy⟩=>by
  obtain⟨Hx,e0,rfl⟩:=get e;exact⟨x0,Hx,e0,Dc.mp hy⟩
 obtain⟨rk,rb,dn⟩:=id h.rk;refine⟨λes he=>?_,λes he y hy=>?_,⟨rk,rb,λx y n=>dn x y (nx n)⟩,λx es x0 e=>?_,λx x0 x1=>?_⟩
 ·obtain⟨Hx,h0,rfl⟩:=List.mem_map.mp he;exact gV (List.length_filter_le ..) (h.es Hx h0)
 ·obtain⟨Hx,h0,rfl⟩:=List.mem_map.mp he;rw[cy];exact h.sd Hx h0 y (Dc.mp hy)
 ·obtain⟨Hx,e0,rfl⟩:=get e;rw[C9,← h.ss x Hx x0 e0]
 ·rw[cy]at x1;exact gV (List.length_filter_le ..) (h.ln x x0 x1)
theorem MZ(row:Row)(a:Int):UC row a=decide (a∈bK row):=by rw[Bool.eq_iff_iff,qw,decide_eq_true_iff,xh]
theorem qU.m{U:Addr->Prop}{H:Hp}{x:Addr}{pe:iT}{aB:iU}{aL:iL}{nW:Nat}{bR:Row}{m:Str}{k:Prop}(L:qU C CS CW CB U H x pe aB aL nW bR)(q:k)(h:∀ a b c d e f:V,List.lookup m [("well",a),("shelf",b),("blots",c),("knots",d),("dues",e),("book",f)]=none:=by intros;rfl):VA C m (.ref x) H k:=by
 obtain⟨S',Xq,d',Yc,QD,bl',kn',du',bk',dS',Hs,Ht,dw',sg',ow',pw',db',tb',Jm,LU⟩:=id L;exact⟨x,d',Y,LU.L.hx,h ..,q⟩
theorem G5{p:Int->Bool}{es:List Int}{e:Int}(h:(decide (e<0) || !p e)=true):j6 p (es++[e])=j6 p es++[e]:=by
 unfold j6;rw[List.filter_append,List.filter_cons_of_pos (p:=λe=>decide (e<0) || !p e) h,List.filter_nil]
theorem T7{p:Int->Bool}{es:List Int}{e:Int}(h:(decide (e<0) || !p e)=false):j6 p (es++[e])=j6 p es:=by
 unfold j6;rw[List.filter_append,List.filter_cons_of_neg (p:=λe=>decide (e<0) || !p e) (by rw[h];exact nY),List.filter_nil,gP]
theorem Dd{f g:Int->Int}{p:Int->Bool}:∀ {es:List Int},(∀ y∈dO es,g y<=f y)->j5 g (j6 p es)<=j5 f es
 | [],_=>Int.le_refl _
 | e::r,h=>by
  have ih:=Dd (f:=f) (g:=g) (p:=p) (es:=r) λy hy=>h y (bT.mpr ⟨(bT.mp hy).1,mO _ (bT.mp hy).2⟩);rw[sV];unfold j6 at ih ⊢;by_cases c:e<0
  ·rw[List.filter_cons_of_pos (by rw[decide_eq_true c];rfl),sV,if_pos c,if_pos c];have:=h (-1-e) (bT.mpr ⟨Q,by rw[show -1-(-1-e)=e by lia];exact List.mem_cons_self⟩);lia
  ·rw[if_neg c]
   cases z:p e with
   | true=>rw[List.filter_cons_of_neg (by rw[decide_eq_false c,z];exact nY)];lia
   | false=>rw[List.filter_cons_of_pos (by rw[z,Bool.not_false,Bool.or_true]),sV,if_neg c];lia
theorem Good.Ez{n:Nat}{rows:cU}(h:Good n rows)(p:Int->Bool):Good n (rows.map (j6 p)):=by
 obtain⟨sh,g⟩:=h.C7;have sn:=g.sn.Ez p;obtain⟨en,rk,ln,f,hw,hm⟩:=h;obtain⟨f',hw'⟩:=CL sn.rk;obtain⟨r,rb,dn⟩:=id rk
 have le:∀ (b:Nat) (x:Int),r x<b->0<=x->x<rows.length->f' x<=f x:=by
  intro b
  induction b with
  | zero=>intro x z;lia
  | succ b ih =>
   intro x z x0 x1;have e:rows[x.toNat]?=some rows[x.toNat]:=pS ∅;rw[hw x _ x0 e,hw' x _ x0 (by rw[mY,e];rfl)];refine Dd λy hy=>?_;have d:=dn x y ⟨x0,_,e,hy⟩;have s:=g.sn.sd _ (oF e) y hy;exact ih y ∅ (bT.mp hy).1 s
 refine⟨λes he e Yt=>?_,sn.rk,by rw[cy];exact ln,f',hw',λx x0 x1=>?_⟩
 ·obtain⟨Hx,h0,rfl⟩:=List.mem_map.mp he;rw[cy];exact en Hx h0 e (List.mem_filter.mp Yt).1
 ·rw[cy]at x1;exact Int.le_trans (le (r x+1) x (Nat.lt_succ_self _) x0 x1) (hm x x0 x1)
class inductive De(C CS CW CB:Addr)
 | mk (l c w x:Addr) (U W:Addr->Prop) (pe:iT) (rows:cU) (aB:iU) (aL:iL) (nW:Nat) (bR:Row) (_:vs=[.ref l,.ref w,.ref x]) (_:sU C CS CW CB H l c w x U W pe rows pe rows aB aL nW bR) (_:pe.length<=800) (_:aB.length<=800) (_:aL.length<=1000) (_:Good aL.length rows) (_:∀ (U' W':Addr->Prop) (p:Int->Bool) (dD:iU) (H':Hp),dD.length=aB.length+1->sU C CS CW CB H' l c w x U' W' (pe++[rows.map (j6 p)]) (rows.map (j6 p)) (pe++[rows.map (j6 p)]) (rows.map (j6 p)) dD aL nW bR->Q (.bl true) H')
theorem jc:aH ["_law_src_here","_law_world_here","_law_house","_law_row","_law_struck","_law_rows","_law_entries"] ["_law_src_here","_law_world_here","_law_house"] (aA mC):=eU
theorem BI:‹(6,101,["_law_src_here","_law_world_here","_law_house"],(De C CS CW CB))›:=λD=>by
 refine eV D.UI.F jc λcV A zn s0 H vs Q E hr h=>?_;obtain⟨l,c,w,x,U,W,pe,rows,aB,aL,nW,bR,rfl,St,b1,b2,b3,gd,k⟩:=h;have hu:=gG hr;refine⟨_,(aj (aV (i:=3) jc.nd (aC D.WS (sf D) hr (aa (pv 0) (aa (pv 1) ah)))) (aj (aV (i:=4) jc.nd (aC D.WN (wc D) hr (aa (pv 3) ah))) (aj (aV (i:=5) jc.nd (bL ah)) (aj (dQ PassesOwn.never rfl (cF (gc hu (pv 1) bx)) (ck (i:=6) jc.nd) (au (aU (dJ pQ jE jF bQ (pv 5) (aa (gH (N:=["_law_entry","_law_struck"]) (om (sc:=aA mC) (NX:=["_law_src_here","_law_world_here","_law_house","_law_row","_law_struck","_law_rows","_law_entries"]) (jx:=[none,some 4]) rfl rfl rfl nofun nofun rfl nofun rfl nofun) rfl (cF (pv 6)) (λ_ _ _ _ _ _=>(ck (i:=0) (show List.Nodup (["_law_entry","_law_struck"]:List Str) by decide +kernel))) (λ_ _ _ _ _ _=>DG (PW.pt (zm (aT j8 (pv 0) ay (aZ _)) (wG (aT Iv (pv 0) (pv 1) rfl))))) (λ_ _ _ _ _ _=>(pv 0))) ah))))) (aj (aU (aC D.Pd (oA D) hr (aa (pv 1) (aa (pv 5) ah)))) (au (aJ (HD (Di (cQ (pv 2) D.aQ D.aah (oz D) hr bO (aa (pv 3) ah))))))))))),?_⟩;obtain⟨sh,g⟩:=gd.C7;have Yr:=g.ln;refine⟨Y,Y,l,c,w,W,aL,pe,rows,rfl,St.src,St.wo,St.dw,Q,λr row H1 lr jT d1 f1 S1 K1=>?_⟩;have n1:=St.new f1;have Jx:=St.mv K1 S1;have q1:=AL (k:=40) (row:=row) λp h=>(d1 p h).2.2.2;refine⟨Y,r,row,rfl,jT,(λp h=>by have:=d1 p h;lia),Q,Q,λm H2 hm s2 fm=>?_⟩;have Jy:=Jx.same s2;have F2:=jT.same s2;refine⟨gU,λq hq=>?_⟩;have s3:=ak hq (.lst []);have sJ:(aN H2 q (.lst [])) q=some (.lst []):=af;generalize aN H2 q (.lst [])=H3 at s3 sJ ⊢;obtain⟨ik,jf,ps,vl,wu⟩:=id Jy.wo;obtain⟨wrw,ni,np,xs,hxs,al⟩:=id wu.hr;have lv:=bS.len al;have zr:=iR.k (k:=kR) (s3 _ _ wu.hw);rw[show cJ (sS ik jf ps vl) kR=some (.ref jf) by kernel_rfl]at zr;refine⟨Y,w,Y,zr,jf,rfl,⟨_,bI.of (s3 _ _ hxs)⟩,dm (K:=K) (a:=jf) (xs:=xs) (λj σ H4=>∃ (u6:Option V) (vs:List V),σ=[some (.ref l),some (.ref w),some (.ref x),some (.ref r),some (.ref m),some (.ref q),u6]/\H4 q=some (.lst vs)/\bS (λv es=>∃ b,v=.ref b/\H2 b=none/\b≠q/\H4 b=some (.lst (es.map V.int))) vs ((rows.take j).map (j6 λa=>decide (a∈bK row)))/\cD q H3 H4) ⟨none,[],rfl,sJ,.nil,λ_ _ e _=>e⟩ (λi σ H4 _ h=>by obtain⟨_,_,_,_,_,k4⟩:=h;exact bI.of (k4 _ _ (s3 _ _ hxs) (az hxs hq))) ?_ ?_⟩
 ·rintro j v σ H4 hj ⟨u6,vs,rfl,h4,a4,k4⟩;obtain⟨es,mX,b0,rfl,_,_,_,hb0⟩:=bS.get al hj;have hb4:=k4 _ _ (s3 _ _ hb0) (az hb0 hq);have hm4:=k4 _ _ (s3 _ _ hm) (az hm hq);have le:=g.es es (oF mX);refine⟨Y,.inl ⟨rfl,_,bI.of h4⟩,Y,b0,rfl,⟨_,bI.of hb4⟩,λacc cR=>gF (K:=K) (a:=b0) (xs:=es.map V.int) (λi σ H5=>∃ u:Option V,σ=[u,some (.ref m)]/\H5 acc=some (.lst ((j6 (λa=>decide (a∈bK row)) (es.take i)).map V.int))/\aI H4 H5) ⟨none,rfl,af,ak cR _⟩ (λi σ H5 _ h=>by obtain⟨_,_,_,s5⟩:=h;exact bI.of (s5 _ _ hb4)) ?_ ?_⟩
  ·rintro i v σ H5 hi ⟨u,rfl,h5,s5⟩;rw[mY]at hi;obtain⟨e,ee,rfl⟩:=Option.map_eq_some_iff.mp hi;have il:=(List.getElem?_eq_some_iff.mp ee).1;have lf:(j6 (λa=>decide (a∈bK row)) (es.take i)).length<=(es.take i).length:=List.length_filter_le ..;rw[gx]at lf;refine⟨Y,Z,Y,cN (λc=>jH ⟨Y,_,h5,by rw[cy];exact aR ∅,Y,by rw[af,take_snoc ee,G5 (by rw[c];rfl),gw];rfl,bP cR s5 (aG acc _ _)⟩) (λc=>⟨Y,Y,m,Y,.inl (bI.of (s5 _ _ hm4)),rfl,xg _,Y,?_⟩)⟩;rw[DN];by_cases Yt:e∈bK row
   ·rw[decide_eq_true Yt];refine eO ⟨Y,?_,s5⟩;rw[take_snoc ee,T7 (by rw[eq_false_of_ne_true c,decide_eq_true Yt];rfl)];exact h5
   ·rw[decide_eq_false Yt];exact jH ⟨Y,_,h5,by rw[cy];exact aR ∅,Y,by rw[af,take_snoc ee,G5 (by rw[decide_eq_false Yt,Bool.not_false,Bool.or_true]),gw];rfl,bP cR s5 (aG acc _ _)⟩
  rintro σ H5 ⟨u,rfl,h5,s5⟩;rw[cy,gO]at h5;have lv4:=bS.len a4;rw[cy,gx]at lv4;have Yl:aI H2 H4:=λa o e=>k4 _ _ (s3 _ _ e) (az e hq);have nq:acc≠q:=(az h4 cR).symm;refine⟨q,Z,s5 _ _ h4,aR ∅,P,rfl,af,?_,λa o e n=>by rw[aK n];exact s5 _ _ (k4 _ _ e n)⟩;rw[take_snoc mX,gw];exact bS.snoc (a4.mono λv es ⟨b,e,n,nb,hb⟩=>⟨b,e,n,nb,by rw[aK nb];exact s5 _ _ hb⟩) ⟨acc,rfl,aW Yl cR,nq,by rw[aK nq];exact h5⟩
 rintro σ H5 ⟨u6,vs,rfl,h5,a5,k5⟩;rw[lv,gO]at a5;have s25:aI H2 H5:=λa o e=>k5 _ _ (s3 _ _ e) (az e hq);obtain⟨_,GI⟩:=wu.al _ wu.wi;obtain⟨_,BD⟩:=wu.al _ wu.wp;obtain⟨asr,har,par⟩:=id F2;have Ys:Jp W H5 w ik jf ps vl aL pe rows:=wu.fr (λa ob e _=>s25 _ _ e) (λa xs e=>s25 _ _ e);have U0:Jp (λa=>W a\/(H2 a=none/\∃ ob,H5 a=some ob)) H5 w ik jf ps vl aL pe rows:=sU.Qm Ys (λa z=>.inl z) λa z=>z.elim (Ys.al a) λy=>y.2;have UY:∀ {a:Addr} {ob:HO},H2 a=some ob->¬ W a->¬ (W a\/(H2 a=none/\∃ ob,H5 a=some ob)):=λe n z=>z.elim n λy=>by rw[y.1]at e;cases e
 refine⟨Y,Y,_,w,q,aL,pe,rows,rows.map (j6 λa=>decide (a∈bK row)),rfl,⟨ik,jf,ps,vl,U0⟩,Q,λik' vM ⟨rw2,vl',ee⟩=>?_,λH6 wo6 Io tp6 _=>?_⟩
 ·rw[Ys.hw]at ee;simp only[Option.some.injEq,HO.dK.injEq,sS,List.cons.injEq,Prod.mk.injEq,V.ref.injEq,true_and,and_true]at ee;obtain⟨rfl,rfl,rfl,rfl⟩:=ee;exact⟨.inr ⟨hq,_,h5⟩,(az GI hq).symm,(az BD hq).symm,vs,h5,a5.mono λv es ⟨b,e,n,_,hb⟩=>⟨b,e,.inr ⟨n,_,hb⟩,(az GI n).symm,(az BD n).symm,hb⟩⟩
 have A8:=(Jy.same s25).kept wo6 (λa z=>by
  obtain⟨ob,e⟩:=Jy.Jq.al z;exact UY e (Jy.du a z).1) (λa z=>by
  rcases z with z|z
  ·exact Jy.dw a z
  ·have n:=Jy.src.ne z.1
   exact⟨n.1.symm,n.2.symm⟩) Io tp6
 have hr6:cA H6 r row:=(F2.same s25).two (λxs e=>Io _ _ e (UY har n1.2.1)) tp6;have em:rows.map (nK row)=rows.map (j6 λa=>decide (a∈bK row)):=List.map_congr_left λes _=>JA (MZ row) es;refine⟨Y,A8.Jq.m ⟨Y,U,x,r,pe,aB,aL,nW,bR,row,rows,sh,rfl,A8.Jq,hr6,Q,⟨Q,λp h=>by have:=d1 p h;exact⟨⟨Q,Q⟩,⟨Q,Q⟩⟩⟩,A8.lst,Q,Q,Q,GY λp h=>by have:=d1 p h;exact⟨this.1,this.2.1,this.2.2.1⟩,g.sn,λU' H' L' fr'=>?_⟩⟩;rw[em]at L';exact k U' _ _ _ H' (by rw[cY];rfl) (A8.abe L' nU fr').1
theorem EA{n m:Nat}(h:m<=40):Good n (e0 m):=by
 refine⟨λes he e hm=>?_,QJ m,by rw[zg];exact h,λ_=>0,λx es _ he=>?_,λ_ _ _=>(by decide:(0:Int)<=200)⟩
 ·rw[xR he]at hm;cases hm
 ·rw[xR (oF he)];rfl
inductive Nu(C CS CW CB l c x w:Addr)(b:Nat)(H:Hp):Prop
 | mk (U W:Addr->Prop) (pe:iT) (rows:cU) (aB:iU) (aL:iL) (_:sU C CS CW CB H l c w x U W pe rows pe rows aB aL 2 []) (_:2<=rows.length) (_:5<=pe.length) (_:pe.length<=b) (_:aB.length<=b) (_:aL.length<=120) (_:Good aL.length rows) (_:∀ y∈pe,Good aL.length y)
theorem Nu.mv{l c x w:Addr}{b b':Nat}{H H':Hp}(h:Nu C CS CW CB l c x w b H)(m:b<=b')(k:cD l H H')(S:dB H' l c):Nu C CS CW CB l c x w b' H':=by
 obtain⟨U,W,pe,rows,aB,aL,St,r2,p5,lp,ll,li,gd,ga⟩:=h;exact⟨U,W,pe,rows,aB,aL,St.mv k S,r2,p5,Q,Q,li,gd,ga⟩
theorem Nu.src{l c x w:Addr}{b:Nat}{H H':Hp}(h:Nu C CS CW CB l c x w b H)(s:aI H H'):dB H' l c:=by
 obtain⟨_,_,_,_,_,_,St,_⟩:=h;exact St.src.same s
theorem Va{l c x w:Addr}{b:Nat}{H:Hp}{Q:VK}{E:XK}(h:Nu C CS CW CB l c x w b H)(b9:b<=900)(k:∀ H',aI H H'->Q (.bl true) H'):Ey C CS CW CB [.ref w,.ref x] H Q E:=by
 obtain⟨U,W,pe,rows,aB,aL,St,r2,p5,lp,ll,li,gd,ga⟩:=h;obtain⟨sh,g⟩:=gd.C7;exact⟨U,W,x,w,pe,aB,aL,2,[],rows,pe,sh,rfl,St.Jq,St.lst,Q,St.wo,g,k⟩
theorem M0{n m:Nat}(h:n<=40):∀ y∈we n,Good m y:=λy hy=>by
 unfold we at hy;rcases List.mem_append.mp hy with z|z
 ·have:y=[]:=by simpa using z
  rw[this];exact EA (m:=0) ∅
 ·obtain⟨k,hk,rfl⟩:=List.mem_map.mp z;have:=List.mem_range.mp hk;exact EA ∅
def afn(C CS CW CB:Addr):TS:=λD σ H=>∃ (a l c w x:Addr) (b:Nat) (u4 u5 u6 u7:Option V),σ=[some (.ref a),some (.ref l),some (.ref x),some (.ref w),u4,u5,u6,u7]/\b<=100/\Nu C CS CW CB l c x w b H/\∀ H',Nu C CS CW CB l c x w (b+1) H'->D.nx [some (.ref a),some (.ref l),some (.ref x),some (.ref w),u4,u5,u6,u7] H'
theorem yt:aH ["_law_script","_law_src_here","_law_house","_law_world_here","_law_k","_law_sheet","_law_moment","_law_rows"] ["_law_script"] (aA RB):=eU
theorem all_mk:Uo:=by
 intro P w K mg fa q;obtain⟨dH,gY,gQ,Cc,Fj,bG,X,G,hfa,Ko,kJ,mQ,Oi,wQ,vt,pF,Kp,yW,Oj,DA,DB,Ol,Kq,Cd,zH,eG,DC,DE,Kr,Fl,q0,q1,q2,q3,q4,q5,q6,q7,q8,q9,Ce,q11,q12,q13,q14,q15,q16,q17,q18,q19,q20,q21,q22,q23,q24,q25,q26,q27,q28,q29,q30,q31,q32,q33,q34,q35,q36,q37,q38,q39,q40,q41,q42,q43,q44,q45,q46,q47,q48,q49,q50,q51,q52,q53,q54,q55,q56,q57,q58,q59,q60,q61,q62,q63,q64,q65,q66,q67,q68,q69,q70,q71,q72,q73,q74,q75,q76,q77,q78,q79,q80,q81,q82,q83,q84,q85,q86,q87,q88,q89,q90,q91,q92,q93,q94,q95,q96,q97,q98,q99,Ze,Zf,Zg,z0,z1,z2,z3,z4,z5,z6,z7,z8,z9,z10,z11,z12,z13,tR,tS,Fo,vv,tT,rK⟩:=q;obtain⟨al,ll,cl,kl⟩:=Zg;have e:=hfa.symm.trans (mg_of X G al);cases e;obtain⟨fd,F,bF⟩:∃ fd,Rz K "law" "law" RB fa fd/\∀ (s:Shared) (v:Value),BindsTo s fd ⟨[v],[]⟩ [("_law_script",v)]:=⟨_,HZ (st:=RB) ll cl kl,λs v=>.of_eq rfl⟩;obtain⟨g0,M4⟩:=q0.d (ps:=["_law_script"]) X G;obtain⟨g1,JB⟩:=q1.d (ps:=["_law_src_here","_law_base"]) X G;obtain⟨g2,G6⟩:=q2.d (ps:=["_law_found"]) X G;obtain⟨g3,JC⟩:=q3.d (ps:=["_law_found","_law_due"]) X G;obtain⟨g4,XM⟩:=q4.d (ps:=["row"]) X G;obtain⟨g5,Vb⟩:=q5.d (ps:=["row"]) X G;obtain⟨g6,BJ⟩:=q6.d (ps:=["row","start","stop"]) X G;obtain⟨g7,T8⟩:=q7.d (ps:=["row","start","stop"]) X G;obtain⟨g8,abr⟩:=q8.d (ps:=["row","start","stop"]) X G;obtain⟨g9,qK⟩:=q9.d (ps:=["self"]);obtain⟨g10,T9⟩:=Ce.d (ps:=["row"]) X G;obtain⟨g11,yO⟩:=q11.d (ps:=["holes","start"]) X G;obtain⟨g12,JD⟩:=q12.d (ps:=["start","stop","holes"]) X G;obtain⟨g13,QL⟩:=q13.d (ps:=["items"]) X G;obtain⟨g14,XN⟩:=q14.d (ps:=["rows","sheets"]) X G;obtain⟨g15,EB⟩:=q15.d (ps:=["rows","start","goal"]) X G;obtain⟨g16,abt⟩:=q16.d (ps:=["rows","sheet"]) X G;obtain⟨g17,EC⟩:=q17.d (ps:=["item","weights"]) X G;obtain⟨g18,AY⟩:=q18.d (ps:=["rows","sheets"]) X G;obtain⟨g19,Lk⟩:=q19.d (ps:=["rows","sheet"]) X G;obtain⟨g20,M5⟩:=q20.d (ps:=["item","views"]) X G;obtain⟨g21,ED⟩:=q21.d (ps:=["rows","sheets"]) X G;obtain⟨g22,QM⟩:=q22.d (ps:=["rows","sheet"]) X G;obtain⟨g23,QN⟩:=q23.d (ps:=["one","other"]) X G;obtain⟨g24,EE⟩:=q24.d (ps:=["items"]) X G;obtain⟨g25,XO⟩:=q25.d (ps:=["row"]) X G;obtain⟨g26,XQ⟩:=q26.d (ps:=["items","views"]) X G;obtain⟨g27,JE⟩:=q27.d (ps:=["items","views","place","others"]) X G;obtain⟨g28,JF⟩:=q28.d (ps:=["rows","sheet","place","items"]) X G;obtain⟨g29,Ua⟩:=q29.d (ps:=["items","views","start","stop"]) X G;obtain⟨g30,JG⟩:=q30.d (ps:=["rows","sheet","start","stop"]) X G;obtain⟨g31,EF⟩:=q31.d (ps:=["rows","sheet","start","stop","to"]) X G;obtain⟨g32,EG⟩:=q32.d (ps:=["rows","sheet"]) X G;obtain⟨g33,BK⟩:=q33.d (ps:=["rows","sheet","ink"]) X G;obtain⟨g34,JH⟩:=q34.d (ps:=["row"]) X G;obtain⟨g35,G7⟩:=q35.d (ps:=["deed"]) X G;obtain⟨g36,QO⟩:=q36.d (ps:=["state","sheet","items"]) X G;obtain⟨g37,qL⟩:=q37.d (ps:=["self"]);obtain⟨g38,JI⟩:=q38.d (ps:=["self"]);obtain⟨g39,G8⟩:=q39.d (ps:=["self"]);obtain⟨g40,G9⟩:=q40.d (ps:=["self","changes"]);obtain⟨g41,vc⟩:=q41.d (ps:=["self","sheet"]);obtain⟨g42,tG⟩:=q42.d (ps:=["self","moment"]);obtain⟨g43,xS⟩:=q43.d (ps:=["self","moment"]);obtain⟨g44,Hf⟩:=q44.d (ps:=["self"]);obtain⟨g45,JJ⟩:=q45.d (ps:=["self","sheet"]);obtain⟨g46,su⟩:=q46.d (ps:=["self"]);obtain⟨g47,sD⟩:=q47.d (ps:=["self"]);obtain⟨g48,sE⟩:=q48.d (ps:=["self"]);obtain⟨g49,JK⟩:=q49.d (ps:=["self"]);obtain⟨g50,JL⟩:=q50.d (ps:=["self","hand","text"]);obtain⟨g51,Hg⟩:=q51.d (ps:=["self","row"]);obtain⟨g52,EH⟩:=q52.d (ps:=["rows","sheet"]) X G;obtain⟨g53,oB⟩:=q53.d (ps:=["self"]);obtain⟨g54,AZ⟩:=q54.d (ps:=["self","deed","changes"]);obtain⟨g55,yP⟩:=q55.d (ps:=["self","deed","sheet","items"]);obtain⟨g56,BL⟩:=q56.d (ps:=["self"]);obtain⟨g57,EI⟩:=q57.d (ps:=["self"]);obtain⟨g58,A0⟩:=q58.d (ps:=["self","deed","items"]);obtain⟨g59,A1⟩:=q59.d (ps:=["self"]);obtain⟨g60,EJ⟩:=q60.d (ps:=["self"]);obtain⟨g61,tH⟩:=q61.d (ps:=["self","row"]);obtain⟨g62,BN⟩:=q62.d (ps:=["self","hand","text"]);obtain⟨g63,EK⟩:=q63.d (ps:=["self","sheet","place","row"]);obtain⟨g64,A2⟩:=q64.d (ps:=["self","sheet"]);obtain⟨g65,EL⟩:=q65.d (ps:=["self","sheet","start","stop"]);obtain⟨g66,A3⟩:=q66.d (ps:=["self","target","place","source","start","stop"]);obtain⟨g67,EM⟩:=q67.d (ps:=["self","sheet"]);obtain⟨g68,yQ⟩:=q68.d (ps:=["self","target","place","source"]);obtain⟨g69,EN⟩:=q69.d (ps:=["self","sheet"]);obtain⟨g70,BO⟩:=q70.d (ps:=["self","sheet","start","stop","to"]);obtain⟨g71,yR⟩:=q71.d (ps:=["self","sheet"]);obtain⟨g72,yS⟩:=q72.d (ps:=["self","row"]);obtain⟨g73,wg⟩:=q73.d (ps:=["self","sheet","moment"]);obtain⟨g74,tK⟩:=q74.d (ps:=["self","sheet","moment"]);obtain⟨g75,JM⟩:=q75.d (ps:=["_law_src_here","_law_few"]) X G;obtain⟨g76,JN⟩:=q76.d (ps:=["_law_src_here","_law_many"]) X G;obtain⟨g77,Hh⟩:=q77.d (ps:=[]) X G;obtain⟨g78,JO⟩:=q78.d (ps:=["_law_world_here","_law_rows"]) X G;obtain⟨g79,JP⟩:=q79.d (ps:=["_law_rows","_law_sheet","_law_entries"]) X G;obtain⟨g80,Hi⟩:=q80.d (ps:=["_law_row"]) X G;obtain⟨g81,JQ⟩:=q81.d (ps:=["_law_rows","_law_sheet"]) X G;obtain⟨g82,BP⟩:=q82.d (ps:=["_law_rows","_law_sheet"]) X G;obtain⟨g83,EO⟩:=q83.d (ps:=["_law_rows","_law_entry"]) X G;obtain⟨g84,M6⟩:=q84.d (ps:=["_law_rows","_law_sheet","_law_place","_law_new"]) X G;obtain⟨g85,M7⟩:=q85.d (ps:=["_law_rows","_law_sheet","_law_start","_law_stop"]) X G;obtain⟨g86,BQ⟩:=q86.d (ps:=["_law_rows","_law_sheet"]) X G;obtain⟨g87,ER⟩:=q87.d (ps:=["_law_numbers"]) X G;obtain⟨g88,A4⟩:=q88.d (ps:=["_law_entries"]) X G;obtain⟨g89,JR⟩:=q89.d (ps:=["_law_rows","_law_sheet"]) X G;obtain⟨g90,Hj⟩:=q90.d (ps:=["_law_world_here","_law_deed_here"]) X G;obtain⟨g91,BR⟩:=q91.d (ps:=["self","sheet","moment"]);obtain⟨g92,JS⟩:=q92.d (ps:=["_law_house","_law_deed_here"]) X G;obtain⟨g93,BS⟩:=q93.d (ps:=["_law_src_here","_law_world_here"]) X G;obtain⟨g94,BU⟩:=q94.d (ps:=["_law_src_here","_law_sheet","_law_room"]) X G;obtain⟨g95,JT⟩:=q95.d (ps:=["_law_src_here","_law_world_here"]) X G;obtain⟨g96,JU⟩:=q96.d (ps:=["_law_src_here","_law_world_here","_law_house"]) X G;obtain⟨g97,JV⟩:=q97.d (ps:=["_law_src_here","_law_world_here","_law_house"]) X G;obtain⟨g98,Hl⟩:=q98.d (ps:=["_law_world_here","_law_house"]) X G;obtain⟨g99,Ho⟩:=q99.d (ps:=["_law_src_here","_law_world_here","_law_house"]) X G;obtain⟨afo,wj⟩:=Ze.d (ps:=["_law_world_here","_law_house"]) X G;obtain⟨afp,ES⟩:=Zf.d (ps:=["_law_src_here","_law_world_here","_law_house"]) X G;have T:Nms mg:=⟨PySem.W.mg_none_of X G z0,wC X G z1,wC X G z2,wC X G z3,wC X G z4,wC X G z5,wC X G z6,wC X G z7,wC X G z8,wC X G z9,wC X G z10,wC X G z11,wC X G z12,wC X G z13,λf e=>(Vb.m).symm.trans e ▸ mg_of X G vv,λf e=>(QM.m).symm.trans e ▸ mg_of X G tT,λf e=>(Lk.m).symm.trans e ▸ mg_of X G rK⟩;have G_:Gbs mg:=⟨⟨_,mg_of X G tR⟩,⟨_,mg_of X G tS⟩,⟨_,mg_of X G Fo⟩⟩;have cB:=Ko.d X G qL.mt;have lC:=Oi.d X G sE.mt;have Ae:=Kp.d X G qK.mt;have CH:=Oj.d X G su.mt;have F0:=Ol.d X G sD.mt;have aQ:=Cd.d X G oB.mt;obtain⟨bf,br,D⟩:∃ bf br,Ds K mg bf br bG dH gY gQ Cc Fj:=⟨nth [_,_,_,_,_,_,_,_,_,_,_,_,_,_,_,_,_,_,_,_,_,_,_,_,_,_,_,_,_,_,_,_,_,_,_,_,_,_,_,_,_,_,_,_,_,_,_,_,_,_,_,_,_,_,_,_,_,_,_,_,_,_,_,_,_,_,_,_,_,_,_,_,_,_,_,_,_,_,_,_,_,_,_,_,_,_,_,_,_,_,_,_,_,_,_,_,_,_,_,_,_,_] 0,nth [g0,g1,g2,g3,g4,g5,g6,g7,g8,g9,g10,g11,g12,g13,g14,g15,g16,g17,g18,g19,g20,g21,g22,g23,g24,g25,g26,g27,g28,g29,g30,g31,g32,g33,g34,g35,g36,g37,g38,g39,g40,g41,g42,g43,g44,g45,g46,g47,g48,g49,g50,g51,g52,g53,g54,g55,g56,g57,g58,g59,g60,g61,g62,g63,g64,g65,g66,g67,g68,g69,g70,g71,g72,g73,g74,g75,g76,g77,g78,g79,g80,g81,g82,g83,g84,g85,g86,g87,g88,g89,g90,g91,g92,g93,g94,g95,g96,g97,g98,g99,afo,afp] g0,T,G_,aQ,cB,lC,Ae,CH,F0,kJ,mQ,wQ,vt,pF,yW,DA,DB,Kq,zH,eG,DC,DE,Kr,Fl,M4,JB,G6,JC,XM,Vb,BJ,T8,abr,qK,T9,yO,JD,QL,XN,EB,abt,EC,AY,Lk,M5,ED,QM,QN,EE,XO,XQ,JE,JF,Ua,JG,EF,EG,BK,JH,G7,QO,qL,JI,G8,G9,vc,tG,xS,Hf,JJ,su,sD,sE,JK,JL,Hg,EH,oB,AZ,yP,BL,EI,A0,A1,EJ,tH,BN,EK,A2,EL,A3,EM,yQ,EN,BO,yR,yS,wg,tK,JM,JN,Hh,JO,JP,Hi,JQ,BP,EO,M6,M7,BQ,ER,A4,JR,Hj,BR,JS,BS,BU,JT,JU,JV,Hl,Ho,wj,ES⟩;refine⟨fd,bF,λzt _ _=>?_⟩;have M8:bq P w K mg zt cL 1 _ _ ["_law_script"] (Us K):=IV D;have bW:bq P w K mg zt cL 1 _ _ XR uK:=gf D;have wm:bq P w K mg zt cL 3 _ _ E2 (C4 bG dH gY gQ):=sZ D;have Hq:bq P w K mg zt cL 1 _ _ [] Lc:=En D;have uY:bq P w K mg zt cL 42 _ _ XS (AM 41):=gC D 41;have kq:bq P w K mg zt cL 5 _ _ ["_law_found","_law_due"] (zN 4):=lD D 4;have Hr:bq P w K mg zt cL 9 _ _ Hz (AX bG dH gY gQ):=Ex D;have JW:bq P w K mg zt cL 46 _ _ Hz (G1 bG dH gY gQ):=G2 D (G0 D) (Et D) (GX D) (GZ D);have oE:bq P w K mg zt cL 43 _ _ Vc (Ey bG dH gY gQ):=u9 D;have Nv:bq P w K mg zt cL 5 _ _ ["self","row"] (GF bG dH gY gQ):=oz D;have ET:bq P w K mg zt cL 6 _ _ Hz (De bG dH gY gQ):=BI D;have EU:bq P w K mg zt cL 4 _ _ Ub (Qg bG dH):=AH D;have yT:bq P w K mg zt cL 5 _ _ Ub (C5 bG dH):=v9 D;have tL:bq P w K mg zt cL 5 _ _ zl2 (La bG dH gY gQ):=qS D;have EV:bq P w K mg zt cL 2 _ _ E2 (P6 bG dH):=AD D;have A5:bq P w K mg zt cL 1 _ _ ["_law_entries"] Ld:=yN D;have EW:bq P w K mg zt cL 1 _ _ ["_law_numbers"] Kx:=t7 D;have o6:bq P w K mg zt cL 42 _ _ XS (pP 41):=nQ D 41;refine eV F yt λcV A zn s H vs Q E hr h=>?_;obtain⟨a,ns,rfl,hS,h63,k⟩:=h;have hu:=gG hr;refine⟨_,(aj (aV (i:=1) yt.nd (aC D.dq0 M8 hr (aa (pv 0) ah))) (aj (aV (i:=2) yt.nd (pD D.aQ.X7 wm (hr.mono (by decide)) rfl D.aQ.m D.Z5.b .nil bO)) (aj (aV (i:=3) yt.nd (NS Hq (hr.mono (by decide)) rfl D.Sz.m D.Sz.F.kp D.Sz.b .nil bO)) (aj (aU (aC D.aaw Hr hr (aa (pv 1) (aa (pv 3) (aa (pv 2) ah))))) (aj (dQ PassesOwn.never rfl (gK rfl D.T.jj (aa (aC D.xm bW hr (aa (pv 1) (aa ay ah))) ah)) (ck (i:=4) yt.nd) (aj (bN (PW.pt (zm (gW (iM (aC D.aat JW hr (aa (pv 1) (aa (pv 3) (aa (pv 2) ah)))))) (wG (gW (iM (aC D.Pf oE hr (aa (pv 3) (aa (pv 2) ah)))))))) (au (aJ lY)) bg) (aj (DF (t':=afn bG dH gY gQ) (bN (aT d7 (aC D.xm bW hr (aa (pv 1) (aa ay ah))) ay (aZ _)) (au (bN (PW.pt (zm (gW (iM (aC D.UI ET hr (aa (pv 1) (aa (pv 3) (aa (pv 2) ah)))))) (wG (gW (iM (aC D.Pf oE hr (aa (pv 3) (aa (pv 2) ah)))))))) (au (aJ lY)) bg)) bg) ?b1) (aj (dQ PassesOwn.never rfl (gK rfl D.T.jj (aa (eX D.T.eN (gc hu (pv 3) bx)) ah)) (ck (i:=5) yt.nd) (aj (bN (gW (iM (aC D.Su kq hr (aa (cQ (pv 2) D.aQ D.aac EU hr bO (aa (pv 5) ah)) (aa (aC D.aan A5 hr (aa (aO bu (gc hu (pv 3) bx) (pv 5)) ah)) ah))))) (au (aJ lY)) bg) (au (bN (gW (iM (aC D.Su kq hr (aa (cQ (pv 2) D.aQ D.aag yT hr bO (aa (pv 5) ah)) (aa (aC D.SA o6 hr (aa (gc hu (pv 3) bx) (aa (pv 5) ah))) ah))))) (au (aJ lY)) bg)))) (aj (aV (i:=6) yt.nd (bz cK (bz cK (eX D.T.eN (gc hu (pv 3) bx)) ay) (aC D.xm bW hr (aa (pv 1) (aa ay ah))))) (aj (aV (i:=7) yt.nd (aO bu (gc hu (pv 3) bx) (pv 6))) (au (bN (PW.pt (m6 (aT zq (eX D.T.eN (pv 7)) ay (aZ _)) (kH (gW (iM (aC D.Su kq hr (aa (cQ (pv 2) D.aQ D.aaj tL hr bO (aa ay (aa (pv 6) ah))) (aa (aC D.WR EW hr (aa (aC D.DV uY hr (aa (pv 7) (aa ay ah))) ah)) ah)))))))) (au (aJ lY)) bg)))))))) (au (aJ (aC D.Su kq hr (aa (ff (pv 2) D.aQ D.Z7 EV hr bO) (aa (bz cK (eX D.T.eN (gc hu (pv 3) bx)) ay) ah)))))))))),?_⟩
 case b1 =>
  rintro D σ H ⟨a,l,c,w,x,b,u4,u5,u6,u7,rfl,b9,i8,k⟩;refine⟨Y,l,c,3,rfl,i8.src (aI.refl _),E,E,λv H1 v0 v1 S1 k1=>?_⟩;have i1:=i8.mv (fF _) (cS k1) S1;refine⟨rfl,Y,cN (λ_=>?_) (λ_=>k _ (i8.mv (Nat.le_succ _) (cS k1) S1))⟩;obtain⟨U,W,pe,rows,aB,aL,St,r2,p5,lp,ll,li,gd,ga⟩:=i1;refine⟨Y,Y,Y,l,c,w,x,U,W,pe,rows,aB,aL,2,[],rfl,St,Q,Q,Q,gd,λU' W' p dD H2 ll2 Jy=>⟨true,rfl,eO ?_⟩⟩;have i2:Nu bG dH gY gQ l c x w (b+1) H2:=⟨U',W',P,dD,aL,Jy,by simp;lia,by simp;lia,by simp;lia,Q,li,gd.Ez p,λy hy=>(List.mem_append.mp hy).elim (ga y) λz=>List.mem_singleton.mp z ▸ gd.Ez p⟩;exact⟨Y,Y,Va i2 ∅ λH3 s3=>⟨true,rfl,eO (k _ (i2.mv (fF _) (λa o e _=>s3 a o e) (i2.src s3)))⟩⟩
 refine⟨Y,a,ns,rfl,hS,λl c H1 S1 s1 _ _=>?_⟩;intro x dx fx fdx _;refine⟨x,dx,rfl,af,λU H2 L2 fU k2=>⟨rfl,?_⟩⟩;have s2:=mW fx fdx k2;have S2:=S1.same s2
 have fU':∀ a,U a->H1 a=none:=λa z=>by
  rcases fU a z with y|y
  ·rw[y];exact fx
  ·exact pM y
 refine⟨rfl,λW w H3 wo3 fW s3=>?_⟩
 have XE:sU bG dH gY gQ H3 l c w x U W [[]] [] [[]] [] [] [] 0 []:=by
  refine⟨S2.same s3,L2.same s3,rfl,wo3,λa z=>⟨λy=>?_,?_⟩,λa z=>?_⟩
  ·obtain⟨ob,e⟩:=L2.al z;rw[fW a y]at e;cases e
  ·have n:=S1.ne (fU' a z);exact⟨n.1.symm,n.2.symm⟩
  ·have n:=S2.ne (fW a z);exact⟨n.1.symm,n.2.symm⟩
 refine⟨Y,Y,Y,l,c,w,x,U,W,rfl,XE,λU4 W4 H4 n aL ln4 n2 n4 li ll4 Q7=>?_⟩;have lb:=AW n;refine⟨Y,l,c,9,rfl,Q7.src,E,E,λv H6 v0 v1 S6 k6=>⟨v,rfl,Q,Q,?_⟩⟩;refine ki (lo:=0) (n:=v.toNat) (λj σ H=>∃ u4 u5 u6 u7:Option V,σ=[some (.ref a),some (.ref l),some (.ref x),some (.ref w),u4,u5,u6,u7]/\Nu bG dH gY gQ l c x w (20+2*j) H) ⟨none,none,none,none,rfl,U4,W4,we n,e0 n,ln4,aL,Q7.mv (cS k6) S6,by rw[zg];lia,Q,Q,Q,li,EA ∅,M0 ∅⟩ ?_ ?_
 ·rintro j σ H6 hj ⟨u4,u5,u6,u7,rfl,U,W,pe,rows,aB,aL,St,r2,p5,lp,ll,li,gd,ga⟩;refine⟨Y,Y,Y,l,c,w,x,U,W,pe,rows,aB,aL,2,[],rfl,St,Q,Q,Q,Q,gd,λU' W' K0 rows' dD H7 St7 rl' lp' ll' gd' ga'=>⟨true,rfl,eO ?_⟩⟩;have i7:Nu bG dH gY gQ l c x w (20+2*j+1) H7:=⟨U',W',K0,rows',dD,aL,St7,Q,Q,Q,Q,li,gd',λy hy=>(ga' y hy).elim (ga y) λz=>z ▸ gd'⟩;refine⟨Y,Y,Va i7 ∅ λH8 s8=>⟨true,rfl,eO ?_⟩⟩;refine⟨a,l,c,w,x,K,P,rfl,Q,i7.mv (fF _) (λa o e _=>s8 a o e) (i7.src s8),λH9 i9=>?_⟩;obtain⟨U,W,pe,rows,aB,aL,St,r2,p5,lp,ll,li,gd,ga⟩:=id i9;obtain⟨sh,g⟩:=gd.C7;obtain⟨fb,B⟩:=gd.bears;have Yr:=g.ln;obtain⟨ik,jf,ps,vl,wu⟩:=id St.wo;have zr:∀ {H1:Hp},aI H9 H1->_:=λ{H1} s=>iR.k (k:=kR) (s _ _ wu.hw);rw[show cJ (sS ik jf ps vl) kR=some (.ref jf) by kernel_rfl]at zr;have zp:∀ {H1:Hp},aI H9 H1->_:=λ{H1} s=>iR.k (k:=kP) (s _ _ wu.hw);rw[show cJ (sS ik jf ps vl) kP=some (.ref ps) by kernel_rfl]at zp;have R:=wu.hr.at_;obtain⟨xs,hxs,al⟩:=id R;have lv:=bS.len al;obtain⟨rk,rb,dn⟩:=id g.sn.rk;obtain⟨S,SW,d,wl,QD,bl,kn,du,bk,dS,st,op,dw,sg,ow,pw,db,tb,ops,LU⟩:=id St.Jq;have hl:=St.lst;exists Y,w,Y,zr (aI.refl _),jf,Y,.inl (bI.of hxs),Y,Q,Q;refine ki (lo:=0) (n:=_) (λi σ H1=>∃ u4 u5:Option V,σ=[some (.ref a),some (.ref l),some (.ref x),some (.ref w),u4,u5,u6,u7]/\aI H9 H1) ⟨P,rfl,aI.refl _⟩ ?_ ?_
  ·rintro i σ H1 hi ⟨u4,u5,rfl,s1⟩;rw[Int.zero_add];have is:sQ rows.length ((i:Nat):Int):=⟨Q,Q⟩;obtain⟨es,mX⟩:∃ es,rows[i]?=some es:=⟨_,pS ∅⟩;obtain⟨v,hv,b,rfl,_,hb⟩:=al.get' mX;have el:=g.es es (oF mX);have L1:=(LU.same s1).L;refine⟨Y,x,d,Y,L1.hx,rfl,Y,S,x,d,wl,QD,bl,kn,du,bk,dS,st,op,pe,ops,aB,rows,(i:Nat),rfl,L1,hl,Q,Q,is,λes2 Qj q2 H2 dN s2 Np=>?_⟩;rw[Int.toNat_natCast,mX]at Qj;cases Qj;have jI:=s1.trans s2;refine⟨Y,w,Y,zr jI,Y,jf,K,V,bI.of (jI _ _ hxs),cO hv,b,es,rfl,jI _ _ hb,Q,λq3 H3 sJ s3 f3=>⟨P,rfl,bH.eqv 1 (dN.same s3) sJ,λH4 s4=>⟨true,rfl,eO ?_⟩⟩⟩;have C1:=jI.trans (s3.trans s4);have LA:=(LU.same C1).L;refine⟨Y,x,d,Y,LA.hx,rfl,Y,S,x,d,wl,QD,bl,kn,du,bk,dS,st,op,pe,ops,aB,rows,i,fb,rfl,LA,hl,Q,Q,Q,B,λHB sB=>?_⟩;have s1B:=C1.trans sB;exact⟨Y,w,Y,zr s1B,Y,_,jf,rows,(i:Nat),fb,rk,rfl,R.same s1B,Q,g.sn.sd,is.1,is.2,B.wt,dn,by have:=rb i;lia,⟨P,rfl,.inl ⟨V⟩,λHC sC=>⟨true,rfl,eO ⟨P,rfl,s1B.trans sC⟩⟩⟩⟩
  rintro σ H1 ⟨u4,u5,rfl,s1⟩;obtain⟨Nr,BD,alp⟩:=id wu.hp;have lpv:=bS.len alp;refine⟨Y,w,Y,zp s1,ps,Y,.inl (bI.of (s1 _ _ BD)),Z,Y,l,c,3,rfl,St.src.same s1,E,E,λv2 H2 p0 p1 S2 k2=>⟨Z,?_⟩⟩;obtain⟨m,em,ml⟩:∃ m:Nat,((Nr.length:Nat):Int)-1-v2=((m:Nat):Int)/\m<pe.length:=⟨(((Nr.length:Nat):Int)-1-v2).toNat,Q,Q⟩;rw[em];have kA:cD l H9 H2:=λa o e n=>cS k2 _ _ (s1 _ _ e) n;have StA:=St.mv kA S2;obtain⟨y,ey⟩:∃ y,pe[m]?=some y:=⟨_,pS ml⟩;have gy:=ga y (oF ey);obtain⟨shy,g'⟩:=gy.C7;have ly:=g'.ln;obtain⟨rk',rb',dn'⟩:=id g'.sn.rk;obtain⟨ik,jf,ps,vl,wu⟩:=id StA.wo;obtain⟨Nr,BD,alp⟩:=id wu.hp;obtain⟨v',hv',b',rfl,rv⟩:=alp.get' ey;have Ry:=rv.at_;obtain⟨ys,hys,aly⟩:=id Ry;have lvy:=bS.len aly;have zp:=iR.k (k:=kP) wu.hw;rw[show cJ (sS ik jf ps vl) kP=some (.ref ps) by kernel_rfl]at zp;exists Y,w,Y,zp,Y,ps,K,V,bI.of BD,cO hv';have jG:∀ {H3:Hp},aI H2 H3->Nu bG dH gY gQ l c x w (20+2*(j+1)) H3:=λs=>i9.mv ∅ (λa o e n=>s _ _ (kA _ _ e n)) (S2.same s);refine⟨Y,b',Y,.inl (bI.of hys),Z,Y,cN (λc0=>?_) (λ_=>eO ⟨K,Y,jG (aI.refl _)⟩)⟩;have y0:0<y.length:=by have:=of_decide_eq_true c0;lia
  refine⟨Y,StA.Jq.m ⟨Y,U,x,pe,aB,aL,2,[],0,m,y,rows,shy,rfl,StA.Jq,ey,y0,Q,Q,StA.lst,Q,g'.sn,λo H3 ho s3 fo=>?_⟩⟩;refine⟨Y,_,b',y,0,shy,rk',rfl,Ry.same s3,Q,g'.sn.sd,Q,Q,g'.sn.ss,g'.sn.ln,dn',by have:=rb' 0;lia,λo4 H4 ho4 s4 fo4=>?_⟩;have ls:=g'.sl 0 ∅ ∅;exact⟨o4,Y,ho4,Q,λr5 H5 hr5 s5 f5=>⟨P,rfl,cA.eqv ((ho.same s4).same s5) hr5 1,λH6 s6=>⟨true,rfl,eO ⟨K,Y,jG (s3.trans (s4.trans (s5.trans s6)))⟩⟩⟩⟩
 ·rintro σ H6 ⟨u4,u5,u6,u7,rfl,U,W,pe,rows,aB,aL,St,r2,p5,lp,ll,li,gd,ga⟩;obtain⟨ik,jf,ps,vl,wu⟩:=id St.wo;have zp:=iR.k (k:=kP) wu.hw;rw[show cJ (sS ik jf ps vl) kP=some (.ref ps) by kernel_rfl]at zp;obtain⟨Nr,BD,alp⟩:=id wu.hp;have lpv:=bS.len alp;have lpp:(iK pe).length=pe.length:=cy _;obtain⟨S,SW,d,wl,QD,bl,kn,du,bk,dS,st,op,dw,sg,ow,pw,db,tb,ops,LU⟩:=id St.Jq;exact⟨Y,x,d,Y,LU.L.hx,rfl,S,x,d,wl,QD,bl,kn,du,bk,dS,st,op,iK pe,ops,aB,rfl,LU.L,Y,w,Y,zp,ps,Y,.inl (bI.of BD),Z,P,rfl,.inl ⟨rfl,by rw[lpp,lpv]⟩,λH2 _=>k H2⟩
end
end gA
theorem PySem.Challenge.cw_inkroot_k48_strike_holds : PySem.Challenge.rw_inkroot_k48_strike.Holds :=
 InkHd.hd2 gA.all_mk
