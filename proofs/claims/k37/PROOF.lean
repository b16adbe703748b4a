import PyProof.Rows.All
import Wide.All
import OpenK.AllK
import Wide.FinOn
import Lean
import PyProof.EqAt
import PyProof.EqKinds
import PyProof.TupleCall
import PySem.Challenge.RW_inkroot_k37_windows_live
set_option Elab.async false
set_option linter.all false
set_option maxRecDepth 100000
abbrev nC:=List (List (List Int))
abbrev gB:=List (List Int)
abbrev nA:=List (List Nat)
abbrev jU:=List (Int × Nat)
abbrev jk:List PySem.Str:=["self"]
abbrev LA:List PySem.Str:=["self","moment"]
abbrev JQ:List PySem.Str:=["self","address"]
abbrev Tz:List PySem.Str:=["self","changes"]
abbrev Di:List PySem.Str:=["self","sheet"]
abbrev JR:List PySem.Str:=["self","deed","changes"]
abbrev Lq:List PySem.Str:=["self","deed","sheet","items"]
abbrev Wr:List PySem.Str:=["self","deed","items"]
abbrev NL:List PySem.Str:=["self","hand","text"]
abbrev Pp:List PySem.Str:=["self","row"]
abbrev NN:List PySem.Str:=["self","row","veil"]
abbrev Qu:List PySem.Str:=["self","sheet","place","row"]
abbrev Qv:List PySem.Str:=["self","sheet","start","stop"]
abbrev Qw:List PySem.Str:=["self","target","place","source","start","stop"]
abbrev Qx:List PySem.Str:=["self","target","place","source"]
abbrev EV:List PySem.Str:=["_law_found"]
abbrev yU:List PySem.Str:=["_law_found","_law_due"]
abbrev eU:List PySem.Str:=["row"]
abbrev nE:List PySem.Str:=["row","start","stop"]
abbrev JS:List PySem.Str:=["holes","start"]
abbrev LC:List PySem.Str:=["holes","address"]
abbrev nF:List PySem.Str:=["items"]
abbrev JT:List PySem.Str:=["rows","start","goal"]
abbrev mj:List PySem.Str:=["rows","sheets"]
abbrev JU:List PySem.Str:=["item","weights"]
abbrev xm:List PySem.Str:=["item","views"]
abbrev EW:List PySem.Str:=["one","other"]
abbrev Dj:List PySem.Str:=["items","views"]
abbrev LD:List PySem.Str:=["items","views","place","others"]
abbrev LF:List PySem.Str:=["items","views","start","stop"]
abbrev G6:List PySem.Str:=["state","sheet","items"]
abbrev xo:List PySem.Str:=["rows","sheet"]
abbrev JV:List PySem.Str:=["rows","sheet","place","items"]
abbrev NO:List PySem.Str:=["rows","sheet","start","stop"]
abbrev xq:List PySem.Str:=["_law_src_here","_law_base"]
abbrev JW:List PySem.Str:=["_law_src_here","_law_few"]
abbrev LG:List PySem.Str:=["_law_src_here","_law_many"]
abbrev G7:List PySem.Str:=["_law_world_here","_law_rows"]
abbrev G8:List PySem.Str:=["_law_src_here","_law_world_here","_law_house"]
abbrev NP:List PySem.Str:=["_law_world_here","_law_house"]
abbrev NQ:List PySem.Str:=["_law_script"]
abbrev Qy:List PySem.Str:=["_law_src_here","_law_world_here"]
abbrev cA:=@List.length_map.{0,0}
abbrev dU:=@List.length_append.{0}
abbrev gQ:=@Nat.le_refl
abbrev lH:=@List.map_append.{0,0}
abbrev nG:=@List.length_cons.{0}
abbrev sJ:=@List.mem_cons_of_mem.{0}
abbrev uA:=@List.mem_of_getElem?.{0}
abbrev rj:=@List.length_take.{0}
abbrev su:=@List.size_toArray.{0}
abbrev tP:=@Bool.false_ne_true
abbrev lK:=@List.length_singleton.{0}
abbrev jV:=@List.getElem?_map.{0,0}
abbrev nU:=@List.getElem?_eq_getElem.{0}
abbrev mW:=@List.mem_append_right.{0}
abbrev kQ:=@List.take_length.{0}
abbrev iR:=@Nat.le_of_lt
abbrev kj:=@List.append_nil.{0}
abbrev mq:=@List.flatMap_cons.{0,0}
abbrev rA:=@PySem.F.plainAttrs_list
abbrev mw:=@PySem.boot_len
abbrev ko:=@Nat.ne_of_lt
abbrev sC:=@List.concat_eq_append.{0}
abbrev kT:=@Nat.le_trans
abbrev mz:=@List.map_cons.{0,0}
abbrev vg:=@PySem.F.slot_list_append
abbrev vh:=@PySem.F.type_list_append
abbrev rB:=@Nat.lt_of_lt_of_le
abbrev qD:=@List.append_assoc.{0}
abbrev yV:=@PyProof.Rows.boot_isinstance
abbrev lI:=@Nat.zero_le
abbrev vj:=@List.take_of_length_le.{0}
abbrev sD:=@List.mem_cons_self.{0}
abbrev vm:=@List.length_replicate.{0}
abbrev qt:=@List.foldl_cons.{0,0}
abbrev vn:=@List.eq_nil_or_concat.{0}
abbrev qu:=@List.length_nil.{0}
abbrev sL:=@List.length_drop.{0}
abbrev xr:=@List.getLast?_concat.{0}
abbrev sM:=@Option.some.inj.{0}
abbrev BH:=@List.getElem?_append_left.{0}
abbrev zS:=@PyProof.Rows.boot_list
abbrev zT:=@List.getElem?_eq_none.{0}
namespace L2
open PySem PySem.Spec PyProof.Rows
abbrev Key:=Sum Int Str
def zU:Key→Value→Bool
 | .inl k,v=>Value.isInt k v
 | .inr x,v=>Value.isStrOf x v
def Xl(w:World):Key→Int
 | .inl k=>hashInt k
 | .inr x=>hashStr w x
theorem eY:∀ {k:Key} {v:Value},zU k v=true→(∃ i t,k=Sum.inl i∧v=Value.int i t)∨(∃ x t,k=Sum.inr x∧v=Value.str x t)
 | .inl i,v,h=>by
  obtain⟨t,e⟩:=Value.isInt_shape (k:=i) (v:=v) h
  exact .inl ⟨i,t,rfl,e⟩
 | .inr x,v,h=>by
  obtain⟨t,e⟩:=Value.isStrOf_shape (x:=x) (v:=v) h
  exact .inr ⟨x,t,rfl,e⟩
theorem JX(i:Int)(t:Tok):zU (.inl i) (.int i t)=true:=by simp[zU,Value.isInt]
theorem JY(x:Str)(t:Tok):zU (.inr x) (.str x t)=true:=by simp[zU,Value.isStrOf]
theorem Qz(a b:Int):decide ((Sum.inl a:Key)=Sum.inl b)=(a == b):=by
 by_cases e:a=b
 ·subst e;simp
 ·have h:¬ (Sum.inl a:Key)=Sum.inl b:=fun q=>e (Sum.inl.inj q)
  rw[decide_eq_false h]
  exact (beq_eq_false_iff_ne.mpr e).symm
theorem QA(a b:Str):decide ((Sum.inr a:Key)=Sum.inr b)=decide (a=b):=by
 by_cases e:a=b
 ·subst e;simp
 ·have h:¬ (Sum.inr a:Key)=Sum.inr b:=fun q=>e (Sum.inr.inj q)
  rw[decide_eq_false h,decide_eq_false e]
theorem QB(a:Int)(b:Str):decide ((Sum.inl a:Key)=Sum.inr b)=false:=decide_eq_false (fun q=>nomatch q)
theorem QC(a:Str)(b:Int):decide ((Sum.inr a:Key)=Sum.inl b)=false:=decide_eq_false (fun q=>nomatch q)
def gR(prog:Program)(w:World):PySem.KeyKind prog w Key where
 is:=zU
 hash:=Xl w
 inj:=fun v a b ha hb=>by
  rcases eY ha with ⟨i,t,rfl,rfl⟩|⟨x,t,rfl,rfl⟩
  ·rcases eY hb with ⟨j,u,rfl,e⟩|⟨y,u,rfl,e⟩
   ·injection e with e1 _;rw[e1]
   ·exact nomatch e
  ·rcases eY hb with ⟨j,u,rfl,e⟩|⟨y,u,rfl,e⟩
   ·exact nomatch e
   ·injection e with e1 _;rw[e1]
 byValue:=fun k v h=>by
  rcases eY h with ⟨i,t,rfl,rfl⟩|⟨x,t,rfl,rfl⟩ <;> rfl
 pyHash:=fun hv h=>by
  rcases eY hv with ⟨i,t,rfl,rfl⟩|⟨x,t,rfl,rfl⟩
  ·exact wpAny_pyHash_int h
  ·exact wpAny_pyHash_str h
 eqBool:=fun hu hv h=>by
  rcases eY hu with ⟨i,t,rfl,rfl⟩|⟨x,t,rfl,rfl⟩
  ·rcases eY hv with ⟨j,u,rfl,rfl⟩|⟨y,u,rfl,rfl⟩
   ·rw[Qz]at h;exact wpAny_eqBool_int h
   ·rw[QB]at h;exact SeqAt.EqAt.int_str i t y u _ _ _ _ h
  ·rcases eY hv with ⟨j,u,rfl,rfl⟩|⟨y,u,rfl,rfl⟩
   ·rw[QC]at h;exact SeqAt.EqAt.str_int x t j u _ _ _ _ h
   ·rw[QA]at h;exact wpAny_eqBool_str h
 «strs»:=fun k x t v h=>by
  rcases eY h with ⟨i,u,rfl,e⟩|⟨y,u,rfl,e⟩
  ·exact nomatch e
  ·injection e with e1 _
   subst e1
   cases v <;> rfl
theorem EX(prog:Program)(w:World)(i:Int)(t:Tok):(gR prog w).is (.inl i) (.int i t)=true:=JX i t
theorem EY(prog:Program)(w:World)(x:Str)(t:Tok):(gR prog w).is (.inr x) (.str x t)=true:=JY x t
end L2
namespace L2
open PySem PySem.Spec PyProof.Rows
inductive V where
 | jw | bl (b:Bool) | int (i:Int) | str (x:Str) | G9 (b:Array UInt8) | Pq (b:UInt64) | ref (a:Addr) | ty (n:String)
 deriving DecidableEq
def RelV:V→Value→Prop
 | .jw,u=>u=Value.none
 | .bl b,u=>u=Value.bool b
 | .int i,u=>∃ t,u=Value.int i t
 | .str x,u=>∃ t,u=Value.str x t
 | .G9 b,u=>∃ t,u=Value.bytes b t
 | .Pq b,u=>∃ t,u=Value.float b t
 | .ref a,u=>u=Value.ref a
 | .ty n,u=>u=Value.type n
abbrev Vals:List V→List Value→Prop:=Paired RelV
theorem Vals.length{xs:List V}{us:List Value}(r:Vals xs us):xs.length=us.length:=Paired.length r
theorem Vals.get:∀ {xs:List V} {us:List Value} {i:Nat} {x:V},Vals xs us→xs[i]?=some x→∃ u,us[i]?=some u∧RelV x u
 | _,_,_,_,.nil,e=>by simp at e
 | _,_,0,_,.cons r _,e=>by simp at e;subst e;exact⟨_,rfl,r⟩
 | _,_,i+1,x,.cons _ t,e=>by
  obtain⟨u,h1,h2⟩:=Vals.get (i:=i) (x:=x) t (by simpa using e)
  exact⟨u,by simpa using h1,h2⟩
theorem Vals.set{x:V}{u:Value}(r:RelV x u):∀ {xs:List V} {us:List Value} (i:Nat),Vals xs us→Vals (xs.set i x) (us.set i u)
 | _,_,_,.nil=>.nil
 | _,_,0,.cons _ t=>.cons r t
 | _,_,i+1,.cons q t=>.cons q (Vals.set r i t)
theorem Vals.append:∀ {xs ys:List V} {us ws:List Value},Vals xs us→Vals ys ws→Vals (xs++ys) (us++ws)
 | _,_,_,_,.nil,s=>s
 | _,_,_,_,.cons r t,s=>.cons r (Vals.append t s)
theorem Vals.take:∀ {xs:List V} {us:List Value} (n:Nat),Vals xs us→Vals (xs.take n) (us.take n)
 | _,_,0,_=>.nil
 | _,_,_+1,.nil=>.nil
 | _,_,n+1,.cons r t=>.cons r (Vals.take n t)
theorem Vals.drop:∀ {xs:List V} {us:List Value} (n:Nat),Vals xs us→Vals (xs.drop n) (us.drop n)
 | _,_,0,r=>r
 | _,_,_+1,.nil=>.nil
 | _,_,n+1,.cons _ t=>Vals.drop n t
def uB:Option V→Option Value→Prop
 | some v,some u=>RelV v u
 | none,none=>True
 | _,_=>False
def KV{κ:Type}:List (κ × V)→List (κ × Value)→Prop:=Paired fun (p:κ × V) (q:κ × Value)=>p.1=q.1∧RelV p.2 q.2
def kV:Key→V
 | .inl i=>.int i
 | .inr x=>.str x
inductive HO where
 | lst (xs:List V)
 | tup (xs:List V)
 | dK (kvs:List (Key × V)) | dT (kvs:List (List Key × V))
 | set (S:Int→Bool) (n:Nat)
 | ins (C dx:Addr) (fs:List (Str × V))
 | own (x:Addr)
 | xd (fs:List (Str × V))
 | met (f x:Addr)
 | EO (lo hi:Int)
 | Hf (o:Obj) (u:HO)
 | NR (ps:Array Value)
 | ext (φ:Heap→Prop)
abbrev Hp:=Addr→Option HO
def upd(H:Hp)(a:Addr)(o:HO):Hp:=fun b=>if b=a then some o else H b
theorem af{H:Hp}{a:Addr}{o:HO}:upd H a o a=some o:=by unfold upd;rw[if_pos rfl]
theorem aF{H:Hp}{a b:Addr}{o:HO}(h:b≠a):upd H a o b=H b:=by unfold upd;rw[if_neg h]
theorem cY{H:Hp}{a b:Addr}{o u:HO}(h:H a=some o)(h':H b=some u)(d:o≠u):a≠b:=by
 intro e;subst e;rw[h]at h';exact d (sM h')
theorem au{H:Hp}{a b:Addr}{o:HO}(h:H a=some o)(h':H b=none):a≠b:=by
 intro e;subst e;rw[h]at h';cases h'
section
variable (P:Program) (w:World)
def gS(H:Hp)(h:Heap)(a:Addr):HO→Prop
 | .lst xs=>xs.length≤sizeLine∧∃ (its:List Value) (n:Nat),Vals xs its∧h.get? a=some { cls:=.type "list",data:=.seq its.toArray n }
 | .tup xs=>xs.length≤sizeLine∧∃ its:List Value,Vals xs its∧IsTup h a its.toArray
 | .dK kvs=>kvs.length≤sizeLine∧(a == sysModules)=false∧∃ vs,KV kvs vs∧h.DictOf (gR P w) a vs
 | .dT kvs=>kvs.length≤sizeLine∧(a == sysModules)=false∧∃ xs:List (List Key × Addr × Value),
   Paired (fun (p:List Key × V) (q:List Key × Addr × Value)=>p.1=q.1∧H q.2.1=some (.tup (p.1.map kV))∧RelV p.2 q.2.2) kvs xs ∧
   ∃ o es ep,h.get? a=some o∧o.ExactDict∧o.data=.dict es ep∧es.toList=xs.map (entryOfKey (tupleKind (gR P w)))∧(xs.map (·.1)).Nodup
 | .set S n=>h.SetOf (intKind P w) a S n
 | .ins C dx fs=>H dx=some (.own a)∧fs.length≤1000∧dx≠a∧h.get? a=some (PySem.W.instObj C dx) ∧
   ∃ mA,h.Ns1 dx mA∧(∀ f,uB (fs.lookup f) (mA f))∧PySem.Within mA (fs.map (·.1))
 | .own _=>∃ o,h.get? a=some o
 | .xd fs=>∃ mA,h.Ns1 a mA∧∀ f,uB (fs.lookup f) (mA f)
 | .EO lo hi=>∃ t u v,h.get? a=some { cls:=.type "range",data:=.fields #[.int lo t,.int hi u,.int 1 v] }
 | .Hf o u=>h.get? a=some o∧gS H h a u
 | .NR ps=>h.get? a=some { cls:=.none,data:=.fields ps }
 | .met f x=>h.get? a=some (PySem.W.methodObj (.ref f) (.ref x))
 | .ext φ=>φ h∧(∃ o,h.get? a=some o)∧∀ h1 h2:Heap,φ h1→(∀ o,h1.get? a=some o→h2.get? a=some o)→φ h2
def tQ(H:Hp)(h:Heap):Prop:=∀ a o,H a=some o→gS P w H h a o
end
section
variable {P:Program} {w:World} {H H':Hp} {h h':Heap} {a:Addr} {o:HO}
theorem gS.lt(x:gS P w H h a o):a<h.objs.size:=by
 cases o with
 | lst xs=>obtain⟨_,_,_,_,e⟩:=x;exact Heap.lt_size e
 | tup xs=>obtain⟨_,_,_,p⟩:=x;exact p.lt
 | dK kvs=>obtain⟨_,_,_,_,o,_,_,e,_⟩:=x;exact Heap.lt_size e
 | dT kvs=>obtain⟨_,_,_,_,o,_,_,e,_⟩:=x;exact Heap.lt_size e
 | set S n=>obtain⟨o,_,_,_,e,_⟩:=x;exact Heap.lt_size e
 | ins C dx fs=>obtain⟨_,_,_,e,_⟩:=x;exact Heap.lt_size e
 | own y=>obtain⟨_,e⟩:=x;exact Heap.lt_size e
 | xd fs=>obtain⟨_,⟨_,_,_,e,_⟩,_⟩:=x;exact Heap.lt_size e
 | EO lo hi=>obtain⟨_,_,_,e⟩:=x;exact Heap.lt_size e
 | Hf ob u=>obtain⟨e,_⟩:=x;exact Heap.lt_size e
 | NR ps=>exact Heap.lt_size (show h.get? a=some _ from x)
 | met f y=>exact Heap.lt_size (show h.get? a=some _ from x)
 | ext φ=>obtain⟨_,⟨_,e⟩,_⟩:=x;exact Heap.lt_size e
theorem Paired.EZ{α β:Type}{F G:α→β→Prop}:∀ {l₁:List α} {l₂:List β},Paired F l₁ l₂→(∀ a b,F a b→G a b)→Paired G l₁ l₂
 | _,_,.nil,_=>.nil
 | _,_,.cons r t,f=>.cons (f _ _ r) (Paired.EZ t f)
theorem gS.stay(x:gS P w H h a o)(k:∀ b u,(b=a∨H b=some (.own a))→h.get? b=some u→h'.get? b=some u)
  (ho:∀ b,H b=some (.own a)→H' b=some (.own a)) (ht:∀ b xs,H b=some (.tup xs)→H' b=some (.tup xs)):gS P w H' h' a o:=by
 induction o with
 | lst xs=>obtain⟨z,its,n,r,e⟩:=x;exact⟨z,its,n,r,k _ _ (.inl rfl) e⟩
 | tup xs=>obtain⟨z,its,r,ob,e,c⟩:=x;exact⟨z,its,r,ob,k _ _ (.inl rfl) e,c⟩
 | dK kvs=>obtain⟨z,y,vs,r,ob,es,ep,e,c⟩:=x;exact⟨z,y,vs,r,ob,es,ep,k _ _ (.inl rfl) e,c⟩
 | dT kvs =>
  obtain⟨z,y,xs,r,ob,es,ep,e,c⟩:=x
  exact⟨z,y,xs,Paired.EZ r fun p q z=>⟨z.1,ht _ _ z.2.1,z.2.2⟩,ob,es,ep,k _ _ (.inl rfl) e,c⟩
 | set S n=>obtain⟨ob,es,ep,t,e,c⟩:=x;exact⟨ob,es,ep,t,k _ _ (.inl rfl) e,c⟩
 | ins C dx fs =>
  obtain⟨d,z,ne,e,mA,⟨od,es,ep,e2,c⟩,r⟩:=x
  exact⟨ho _ d,z,ne,k _ _ (.inl rfl) e,mA,⟨od,es,ep,k _ _ (.inr d) e2,c⟩,r⟩
 | own y=>obtain⟨ob,e⟩:=x;exact⟨ob,k _ _ (.inl rfl) e⟩
 | xd fs=>obtain⟨mA,⟨od,es,ep,e,c⟩,r⟩:=x;exact⟨mA,⟨od,es,ep,k _ _ (.inl rfl) e,c⟩,r⟩
 | EO lo hi=>obtain⟨t,u,v,e⟩:=x;exact⟨t,u,v,k _ _ (.inl rfl) e⟩
 | Hf ob u ih=>obtain⟨e,q⟩:=x;exact⟨k _ _ (.inl rfl) e,ih q⟩
 | NR ps =>
  have e:h.get? a=some { cls:=.none,data:=.fields ps }:=x
  show h'.get? a=some { cls:=.none,data:=.fields ps }
  exact k a _ (.inl rfl) e
 | met f y =>
  have e:h.get? a=some (PySem.W.methodObj (.ref f) (.ref y)):=x
  show h'.get? a=some (PySem.W.methodObj (.ref f) (.ref y))
  exact k a _ (.inl rfl) e
 | ext φ=>obtain⟨p,⟨o,e⟩,st⟩:=x;exact⟨st _ _ p fun o q=>k _ _ (.inl rfl) q,⟨o,k _ _ (.inl rfl) e⟩,st⟩
theorem tQ.lt(x:tQ P w H h)(e:H a=some o):a<h.objs.size:=(x a o e).lt
theorem tQ.fresh(x:tQ P w H h)(e:h.objs.size≤a):H a=none:=by
 cases q:H a with
 | none=>rfl
 | some u=>exact absurd (rB (x.lt q) e) (Nat.lt_irrefl _)
theorem tQ.kept(x:tQ P w H h)(k:∀ b u,h.get? b=some u→h'.get? b=some u):tQ P w H h':=fun a o e =>
 (x a o e).stay (fun b u _ q=>k b u q) (fun _ q=>q) fun _ _ q=>q
theorem tQ.laid(x:tQ P w H h)(k:∀ b u,h.get? b=some u→h'.get? b=some u)(hp:h.objs.size≤a)(new:gS P w (upd H a o) h' a o):tQ P w (upd H a o) h':=fun b u e=>by
 have hn:=x.fresh hp
 by_cases hb:b=a
 ·subst hb;rw[af]at e;cases e;exact new
 ·rw[aF hb]at e
  exact (x b u e).stay (fun c v _ q=>k c v q) (fun c q=>by rw[aF (au q hn)];exact q) fun c xs q=>by rw[aF (au q hn)];exact q
end
def Rd(H:Hp)(a:Addr)(u:HO):Prop:=H a=some u∨∃ o,H a=some (.Hf o u)
theorem Rd.ok{P:Program}{w:World}{H:Hp}{h:Heap}{a:Addr}{u:HO}(r:Rd H a u)(x:tQ P w H h):gS P w H h a u:=by
 rcases r with r|⟨o,r⟩
 ·exact x a u r
 ·obtain⟨_,q⟩:=x a _ r
  exact q
def TF:Option HO→Prop
 | some (.lst _)=>True
 | some (.dK _)=>True
 | some (.dT _)=>True
 | some (.set _ _)=>True
 | some (.ins _ _ _)=>True
 | some (.ext _)=>True
 | _=>False
section
variable {P:Program} {w:World} {H:Hp} {h h':Heap} {x e:Addr} {o':HO}
theorem tQ.write(ok:tQ P w H h)(mu:TF (H x))(he:e=x∨H e=some (.own x))(k:∀ b u,b≠e→h.get? b=some u→h'.get? b=some u)(SN:∃ u,h'.get? e=some u)
  (new:gS P w (upd H x o') h' x o'):tQ P w (upd H x o') h':=fun b u q=>by
 have TH:∀ c y,H c=some (.own y)→c≠x:=fun c y r z=>by subst z;rw[r]at mu;exact mu
 have Xm:∀ c xs,H c=some (.tup xs)→c≠x:=fun c xs r z=>by subst z;rw[r]at mu;exact mu
 by_cases hb:b=x
 ·subst hb;rw[af]at q;cases q;exact new
 ·rw[aF hb]at q
  by_cases QD:b=e
  ·have q':H b=some (.own x):=by
    rcases he with z|z
    ·exact absurd (QD.trans z) hb
    ·rw[QD];exact z
   rw[q]at q';cases q'
   obtain⟨v,hv⟩:=SN
   exact⟨v,by rw[QD];exact hv⟩
  ·refine (ok b u q).stay (fun c v hc r=>k c v ?_ r) (fun c r=>by rw[aF (TH c b r)];exact r) fun c xs r=>by rw[aF (Xm c xs r)];exact r
   rcases hc with rfl|hc
   ·exact QD
   ·rintro rfl
    rcases he with z|z
    ·exact TH c b hc z
    ·rw[hc]at z;cases z;exact hb rfl
end
structure Un(fs ex:List Addr)(H H':Hp)(h h':Heap):Prop where
 keep:∀ b o,h.get? b=some o→H b=none→b∉fs→b∉ex→h'.get? b=some o
 slot:∀ b o,h.get? b=some o→H b=none→b∈fs→b∉ex→∃ sl,h'.get? b=some { o with slots:=sl }
 free:∀ b o,h.get? b=some o→H b=none→b∉ex→H' b=none
 there:∀ b o,h.get? b=some o→b∉ex→∃ o',h'.get? b=some o'
 tups:∀ b xs,H b=some (.tup xs)→H' b=some (.tup xs)
 BI:∀ b o u,H b=some (.Hf o u)→H' b=some (.Hf o u)
 Dk:∀ b ps,H b=some (.NR ps)→∃ more,H' b=some (.NR (ps++more))
section
variable {fs fs' ex ex':List Addr} {H H1 H2:Hp} {h h1 h2 h':Heap} {a x e:Addr} {o:HO}
theorem Un.any(u:Un fs ex H H1 h h1){b:Addr}{ob:Obj}(q:h.get? b=some ob)(n:H b=none)(hx:b∉ex):∃ sl,h1.get? b=some { ob with slots:=sl }:=by
 by_cases hb:b∈fs
 ·exact u.slot b ob q n hb hx
 ·exact⟨ob.slots,u.keep b ob q n hb hx⟩
theorem Un.kept(k:∀ b u,h.get? b=some u→h'.get? b=some u):Un fs ex H H h h' :=
 ⟨fun b ob q _ _ _=>k b ob q,fun b ob q _ _ _=>⟨ob.slots,k b ob q⟩,fun _ _ _ n _=>n,fun b ob q _=>⟨ob,k b ob q⟩,fun _ _ q=>q,fun _ _ _ q=>q,fun _ ps q=>⟨#[],by rw[q];simp⟩⟩
theorem Un.refl:Un fs ex H H h h:=Un.kept fun _ _ q=>q
theorem Un.laid(k:∀ b u,h.get? b=some u→h'.get? b=some u)(hp:h.objs.size≤a)(hn:H a=none):Un fs ex H (upd H a o) h h' where
 keep:=fun b u q _ _ _=>k b u q
 slot:=fun b u q _ _ _=>⟨u.slots,k b u q⟩
 free:=fun b u q n _=>by rw[aF (ko (rB (Heap.lt_size q) hp))];exact n
 there:=fun b u q _=>⟨u,k b u q⟩
 tups:=fun b xs q=>by rw[aF (au q hn)];exact q
 BI:=fun b u xs q=>by rw[aF (au q hn)];exact q
 Dk:=fun b ps q=>⟨#[],by rw[aF (au q hn),q];simp⟩
theorem Un.write(mu:TF (H x))(he:e=x∨H e=some (.own x))(k:∀ b u,b≠e→h.get? b=some u→h'.get? b=some u)(SN:∃ u,h'.get? e=some u):Un fs ex H (upd H x o) h h':=by
 have hx:∀ b,H b=none→b≠x:=fun b n z=>by subst z;rw[n]at mu;exact mu
 have hb:∀ b,H b=none→b≠e:=fun b n z=>by
  subst z
  rcases he with r|r
  ·exact hx b n r
  ·rw[n]at r;cases r
 have hm:∀ b u,H b=some u→¬ TF (some u)→b≠x:=fun b u q nm z=>by subst z;rw[q]at mu;exact nm mu
 refine⟨fun b u q n _ _=>k b u (hb b n) q,fun b u q n _ _=>⟨u.slots,k b u (hb b n) q⟩,fun b u q n _=>by rw[aF (hx b n)];exact n,fun b u q _=>?_,
  fun b xs q=>by rw[aF (hm b _ q fun z=>z)];exact q,fun b u xs q=>by rw[aF (hm b _ q fun z=>z)];exact q,fun b ps q=>⟨#[],by rw[aF (hm b _ q fun z=>z),q];simp⟩⟩
 by_cases QD:b=e
 ·subst QD;exact SN
 ·exact⟨u,k b u QD q⟩
end
def Ws(h:Heap)(H:Hp):List Addr:=(List.range h.objs.size).filter fun a=>(H a).isSome
def Dl(h:Heap)(H:Hp):Heap:=PySem.W.hideAll h (Ws h H)
theorem JZ(h:Heap)(H:Hp):(Dl h H).objs.size=h.objs.size:=PySem.W.hideAll_size _ _
theorem LH{h:Heap}{H:Hp}{b:Addr}{o:Obj}(e:h.get? b=some o)(n:H b=none):(Dl h H).get? b=some o :=
 PySem.W.hideAll_get _ e fun hm=>by
  have q:(H b).isSome=true:=(List.mem_filter.mp hm).2
  rw[n]at q;simp at q
theorem NS{h:Heap}{H:Hp}{b:Addr}{o:Obj}(e:(Dl h H).get? b=some o):h.get? b=some o∧H b=none:=by
 have e':h.get? b=some o:=PySem.W.of_hideAll (Ws h H) e
 refine⟨e',?_⟩
 cases q:H b with
 | none=>rfl
 | some x =>
  have hm:b∈Ws h H:=List.mem_filter.mpr ⟨List.mem_range.mpr (Heap.lt_size e'),by simp[q]⟩
  have z:(Dl h H).get? b=none:=PySem.W.hideAll_none (Ws h H) hm
  rw[z]at e;cases e
end L2
namespace L2
open PySem PySem.Spec PyProof.Rows
structure Mod(K:PySem.W.Frag)(mg:Str→Option Value)(base:Heap):Prop where
 TL:K.In base
 glob:base.Ns mainGlobals mg
 blt:∃ mb,base.Ns builtinsNs mb∧∀ x:Str,x≠"__name__"→mb x=bootBuiltins x
 nolimit:base.NoLimit
structure Cx where
 prog:Program
 w:World
 K:PySem.W.Frag
 mg:Str→Option Value
 base:Heap
 A:Around
 N:List Str
 s₀:Shared
 H₀:Hp
 env:Env
 outer:List Env
 stack:List Env
 ex:List Addr
 fn:Str→Bool
 calm:Bool
 pn:List (Addr × Obj)
 xe:Value→Shared→Prop
def frs(l:List Env):List Addr:=l.filterMap (·.frame)
abbrev Cx.fs(X:Cx):List Addr:=frs X.outer
def Wt(sc:Scope)(x:Str):Prop:=sc.names.lookup x=some .local∨sc.names.lookup x=some .cell∨sc.names.lookup x=some .free
def Loc(sc:Scope)(x:Str):Prop:=sc.names.lookup x=some .local∨sc.names.lookup x=some .cell
def Look(env:Env)(h:Heap)(m:Str→Option Value)(x:Str)(u:Value):Prop :=
 (env.kindOf x=some .local∧m x=some u)∨((env.kindOf x=some .cell∨env.kindOf x=some .free)∧∃ c,env.cells.lookup x=some c∧h.IsCell c (some u))
structure Cx.Ok(X:Cx):Prop where
 mod:Mod X.K X.mg X.base
 kind:X.env.scope.kind=.function
 glob:X.env.globals=mainGlobals
 blt:X.env.builtins=builtinsNs
 above:X.s₀.heap.objs.size≤X.env.locals
 inj:∀ x y c,X.env.cells.lookup x=some c→X.env.cells.lookup y=some c→x=y
 has:∀ x,(X.env.kindOf x=some .cell∨X.env.kindOf x=some .free)→∃ c,X.env.cells.lookup x=some c
 TM:∀ x c,X.fn x=true→X.env.cells.lookup x=some c→X.s₀.heap.objs.size≤c
 hd:X.calm=true→X.A.handled=none
 frames:X.A.frames=some X.stack
 stk:X.stack=X.outer∨(X.stack=X.env::X.outer∧X.env.frame=some X.env.locals)
 exf:∀ b∈X.ex,b≠X.env.locals∧∀ x c,X.env.cells.lookup x=some c→c≠b
 bs:∀ b o,X.base.get? b=some o→X.s₀.heap.get? b=some o∧X.H₀ b=none
 NT:X.base.objs.size≤X.s₀.heap.objs.size
 J1:∀ b o,X.base.get? b=some o→b∉X.ex
 NU:∀ b∈X.ex,b∉X.fs
 vW:X.s₀.heap.FunFrames X.base X.outer
 QE:∀ b∈X.fs,X.H₀ b=none
structure Inv(X:Cx)(pins:List (Addr × Obj))(σ:List (Option V))(H:Hp)(s:Shared):Prop where
 ok:X.Ok
 os:s.os=X.s₀.os
 bare:AllBare s.gens
 base:Un X.fs X.ex X.H₀ H X.s₀.heap s.heap
 loc:∃ m,s.heap.Ns X.env.locals m∧∀ (i:Nat) (x:Str) (v:V),X.N[i]?=some x→σ[i]?=some (some v)→Wt X.env.scope x→∃ u,RelV v u∧Look X.env s.heap m x u
 cell:∀ x c,X.env.cells.lookup x=some c→∃ v,s.heap.IsCell c v
 free:H X.env.locals=none
 uH:∀ x c,X.env.cells.lookup x=some c→H c=none
 pin:∀ p∈X.pn++pins,s.heap.get? p.1=some p.2∧H p.1=none∧p.1≠X.env.locals∧p.1∉X.fs∧∀ v,p.2.data≠.cell v
 hok:tQ X.prog X.w H s.heap
 len:σ.length=X.N.length
section
variable {X:Cx} {pins:List (Addr × Obj)} {σ:List (Option V)} {H H':Hp} {s:Shared} {h':Heap}
theorem Cx.Ok.Xn(ok:X.Ok){b:Addr}{o:Obj}(e:X.base.get? b=some o):b∉X.fs:=fun hb=>by
 have:=(ok.vW.mem hb).1
 rw[e]at this;cases this
theorem Inv.bs(I:Inv X pins σ H s):∀ b o,X.base.get? b=some o→s.heap.get? b=some o∧H b=none:=fun b o e =>
 ⟨I.base.keep b o (I.ok.bs b o e).1 (I.ok.bs b o e).2 (I.ok.Xn e) (I.ok.J1 b o e),I.base.free b o (I.ok.bs b o e).1 (I.ok.bs b o e).2 (I.ok.J1 b o e)⟩
theorem Inv.bk(I:Inv X pins σ H s):∀ b o,X.base.get? b=some o→s.heap.get? b=some o:=fun b o e=>(I.bs b o e).1
theorem Inv.mod(I:Inv X pins σ H s):Mod X.K X.mg X.base:=I.ok.mod
theorem Inv.yx(I:Inv X pins σ H s):X.K.In s.heap:=I.ok.mod.TL.keeps I.bk
theorem Inv.lt(I:Inv X pins σ H s):X.env.locals<s.heap.objs.size:=let ⟨_,hn,_⟩:=I.loc;hn.lt
theorem Inv.sz(I:Inv X pins σ H s):X.s₀.heap.objs.size≤s.heap.objs.size:=kT I.ok.above (iR I.lt)
theorem Inv.Xo(I:Inv X pins σ H s){a:Addr}(h:s.heap.objs.size≤a):a∉X.fs:=fun hb=>by
 obtain⟨_,o,ho,_⟩:=I.ok.vW.mem hb
 exact absurd (rB (Heap.lt_size ho) (kT I.sz h)) (Nat.lt_irrefl _)
theorem Inv.QF(I:Inv X pins σ H s):∀ x c,X.env.cells.lookup x=some c→c≠X.env.locals:=fun x c e z=>by
 obtain⟨v,o,ho,hd⟩:=I.cell x c e
 obtain⟨m,⟨o',es,ep,ho',hd',_⟩,_⟩:=I.loc
 rw[z,ho']at ho;cases ho;rw[hd']at hd;cases hd
theorem Inv.vW(I:Inv X pins σ H s):s.heap.FunFrames X.base X.outer:=by
 have all:∀ (l:List Env),(∀ b∈frs l,b∈X.fs)→X.s₀.heap.FunFrames X.base l→s.heap.FunFrames X.base l:=by
  intro l
  induction l with
  | nil=>intro _ _;trivial
  | cons env r ih =>
   intro hs hl
   obtain⟨hk,⟨L,o,hf,hn,ho,hd⟩,hr⟩:=hl
   have hL:L∈X.fs:=hs L (by unfold frs;rw[List.filterMap_cons,hf];exact sD)
   obtain⟨sl,e⟩:=I.base.slot L o ho (I.ok.QE L hL) hL fun z=>I.ok.NU L z hL
   exact⟨hk,⟨L,_,hf,hn,e,hd⟩,ih (fun b hb=>hs b (by unfold frs;rw[List.filterMap_cons,hf];exact sJ _ hb)) hr⟩
 exact all X.outer (fun _ hb=>hb) I.ok.vW
theorem Inv.stack(I:Inv X pins σ H s):s.heap.FunFrames X.base X.stack:=by
 rcases I.ok.stk with e|⟨e,hf⟩
 ·rw[e];exact I.vW
 ·rw[e]
  obtain⟨m,hn,_⟩:=I.loc
  refine .cons (by rw[I.ok.kind];decide) hf hn ?_ I.vW
  exact Heap.get?_none_of_le (kT I.ok.NT I.ok.above)
theorem Inv.qv(I:Inv X pins σ H s):∀ b∈frs X.stack,b∈X.env.locals::X.fs:=fun b hb=>by
 rcases I.ok.stk with e|⟨e,hf⟩
 ·rw[e]at hb;exact sJ _ hb
 ·rw[e]at hb
  unfold frs at hb
  rw[List.filterMap_cons,hf]at hb
  exact hb
theorem Inv.vX(I:Inv X pins σ H s):∀ b∈frs X.stack,H b=none:=fun b hb=>by
 rcases List.mem_cons.mp (I.qv b hb) with e|hb
 ·rw[e];exact I.free
 ·obtain⟨_,o,ho,_⟩:=I.ok.vW.mem hb
  exact I.base.free b o ho (I.ok.QE b hb) fun z=>I.ok.NU b z hb
theorem Inv.step{g':Array GenState}{t':Nat}{d':Drawn}{ch:List Addr}(I:Inv X pins σ H s)
  (hch:∀ b∈ch,(b∈X.ex∨X.s₀.heap.objs.size≤b)∧b≠X.env.locals∧(∀ x c,X.env.cells.lookup x=some c→c≠b)∧∀ p∈X.pn++pins,p.1≠b)
  (keep:∀ b o,b≠X.env.locals→b∉X.fs→b∉ch→s.heap.get? b=some o→H b=none→h'.get? b=some o)
  (slot:∀ b o,b≠X.env.locals→b∈X.fs→b∉ch→s.heap.get? b=some o→H b=none→∃ sl,h'.get? b=some { o with slots:=sl }) (free:∀ b o,b∉ch→s.heap.get? b=some o→H b=none→H' b=none)
  (there:∀ b o,b∉ch→s.heap.get? b=some o→∃ o',h'.get? b=some o')
  (tups:∀ b xs,H b=some (.tup xs)→H' b=some (.tup xs)) (BI:∀ b o u,H b=some (.Hf o u)→H' b=some (.Hf o u)) (Dk:∀ b ps,H b=some (.NR ps)→∃ more,H' b=some (.NR (ps++more)))
  (ns:∀ m,s.heap.Ns X.env.locals m→h'.Ns X.env.locals m) (hok:tQ X.prog X.w H' h') (hg:AllBare g') :
  Inv X pins σ H' { s with heap:=h',gens:=g',drawn:=d',toks:=t' }:=by
 have neL:∀ b o,X.s₀.heap.get? b=some o→b≠X.env.locals:=fun b o e=>ko (rB (Heap.lt_size e) I.ok.above)
 have Wu:∀ b o,X.s₀.heap.get? b=some o→b∉X.ex→b∉ch:=fun b o e hx hb=>by
  rcases (hch b hb).1 with z|z
  ·exact hx z
  ·exact absurd (rB (Heap.lt_size e) z) (Nat.lt_irrefl _)
 have cellK:∀ x c,X.env.cells.lookup x=some c→∀ v,s.heap.IsCell c v→h'.IsCell c v:=fun x c e v ⟨o,ho,hd⟩=>by
  have TN:c∉ch:=fun z=>(hch c z).2.2.1 x c e rfl
  by_cases hc:c∈X.fs
  ·obtain⟨sl,q⟩:=slot c o (I.QF x c e) hc TN ho (I.uH x c e)
   exact⟨_,q,hd⟩
  ·exact⟨o,keep c o (I.QF x c e) hc TN ho (I.uH x c e),hd⟩
 refine⟨I.ok,I.os,hg,⟨fun b o e n hb hx=>?_,fun b o e n hb hx=>?_,fun b o e n hx=>?_,fun b o e hx=>?_,fun b xs e=>tups b xs (I.base.tups b xs e),fun b o xs e=>BI b o xs (I.base.BI b o xs e),fun b ps e=>?_⟩,?_,fun x c e=>?_,?_,fun x c e=>?_,fun p hp=>?_,hok,I.len⟩
 ·exact keep b o (neL b o e) hb (Wu b o e hx) (I.base.keep b o e n hb hx) (I.base.free b o e n hx)
 ·obtain⟨sl,e1⟩:=I.base.slot b o e n hb hx
  obtain⟨Wv,e2⟩:=slot b _ (neL b o e) hb (Wu b o e hx) e1 (I.base.free b o e n hx)
  exact⟨Wv,e2⟩
 ·obtain⟨o',e1⟩:=I.base.there b o e hx
  exact free b o' (Wu b o e hx) e1 (I.base.free b o e n hx)
 ·obtain⟨o',e1⟩:=I.base.there b o e hx
  exact there b o' (Wu b o e hx) e1
 ·obtain⟨m1,e1⟩:=I.base.Dk b ps e
  obtain⟨m2,e2⟩:=Dk b _ e1
  exact⟨m1++m2,by rw[e2,Array.append_assoc]⟩
 ·obtain⟨m,hn,hl⟩:=I.loc
  refine⟨m,ns m hn,fun i x v e1 e2 e3=>?_⟩
  obtain⟨u,r,l⟩:=hl i x v e1 e2 e3
  refine⟨u,r,?_⟩
  rcases l with l|⟨k,c,e,z⟩
  ·exact .inl l
  ·exact .inr ⟨k,c,e,cellK x c e _ z⟩
 ·obtain⟨v,z⟩:=I.cell x c e
  exact⟨v,cellK x c e v z⟩
 ·obtain⟨m,⟨o,_,_,ho,_⟩,_⟩:=I.loc
  exact free _ o (fun z=>(hch _ z).2.1 rfl) ho I.free
 ·obtain⟨v,o,ho,hd⟩:=I.cell x c e
  exact free c o (fun z=>(hch c z).2.2.1 x c e rfl) ho (I.uH x c e)
 ·obtain⟨e,n,ne,nf,d⟩:=I.pin p hp
  have TN:p.1∉ch:=fun z=>(hch p.1 z).2.2.2 p hp rfl
  exact⟨keep p.1 p.2 ne nf TN e n,free p.1 p.2 TN e n,ne,nf,d⟩
theorem Inv.un{t':Nat}(I:Inv X pins σ H s)(u:Un X.fs [] H H' s.heap h')(hok:tQ X.prog X.w H' h'):Inv X pins σ H' { s with heap:=h',toks:=t' }:=by
 obtain⟨m,⟨o,es,ep,ho,r⟩,_⟩:=id I.loc
 obtain⟨sl,hL⟩:=u.any ho I.free (by simp)
 exact I.step (g':=s.gens) (d':=s.drawn) (ch:=[]) (fun _ z=>nomatch z) (fun b o _ hb _ e n=>u.keep b o e n hb (by simp)) (fun b o _ hb _ e n=>u.slot b o e n hb (by simp)) (fun b o _ e n=>u.free b o e n (by simp)) (fun b o _ e=>u.there b o e (by simp)) u.tups u.BI u.Dk (fun m' hm=>by
  obtain⟨o',es',Xp,ho',r'⟩:=hm
  rw[ho]at ho';cases ho'
  exact⟨_,es',Xp,hL,r'⟩) hok I.bare
theorem Inv.call{g':Array GenState}{t':Nat}{d':Drawn}{ch:List Addr}(I:Inv X pins σ H s)(u:Un (frs X.stack) ch H H' s.heap h')(hok:tQ X.prog X.w H' h')(hg:AllBare g')
  (hch:∀ b∈ch,(b∈X.ex∨X.s₀.heap.objs.size≤b)∧b≠X.env.locals∧(∀ x c,X.env.cells.lookup x=some c→c≠b)∧∀ p∈X.pn++pins,p.1≠b) :
  Inv X pins σ H' { s with heap:=h',gens:=g',drawn:=d',toks:=t' }:=by
 obtain⟨m,⟨o,es,ep,ho,r⟩,_⟩:=id I.loc
 obtain⟨sl,hL⟩:=u.any ho I.free fun z=>(hch _ z).2.1 rfl
 exact I.step (ch:=ch) hch (fun b o hL hb hc e n=>u.keep b o e n (fun z=>(List.mem_cons.mp (I.qv b z)).elim hL hb) hc) (fun b o _ _ hc e n=>u.any e n hc) (fun b o hc e n=>u.free b o e n hc) (fun b o hc e=>u.there b o e hc) u.tups u.BI u.Dk (fun m' hm=>by
  obtain⟨o',es',Xp,ho',r'⟩:=hm
  rw[ho]at ho';cases ho'
  exact⟨_,es',Xp,hL,r'⟩) hok hg
theorem Inv.turned{t':Nat}{it:Addr}(I:Inv X pins σ H s)(k:∀ b o,b≠it→s.heap.get? b=some o→h'.get? b=some o)(hn:H it=none)(hL:it≠X.env.locals)
  (h1:it∈X.ex∨X.s₀.heap.objs.size≤it) (h2:∀ x c,X.env.cells.lookup x=some c→c≠it) (h3:∀ p∈X.pn++pins,p.1≠it):Inv X pins σ H { s with heap:=h',toks:=t' }:=by
 have Pr:∀ b u,H b=some u→b≠it:=fun b u e z=>by rw[z,hn]at e;cases e
 refine I.step (g':=s.gens) (d':=s.drawn) (ch:=[it]) (fun b hb=>?_) (fun b o _ _ hc e _=>k b o (fun z=>hc (by simp[z])) e) (fun b o _ _ hc e _=>⟨o.slots,k b o (fun z=>hc (by simp[z])) e⟩) (fun _ _ _ _ n=>n)
  (fun b o hc e=>⟨o,k b o (fun z=>hc (by simp[z])) e⟩) (fun _ _ e=>e) (fun _ _ _ e=>e) (fun b ps e=>⟨#[],by rw[e];simp⟩) (fun m hm=>?_) (fun b u e=>?_) I.bare
 ·have e:b=it:=by simpa using hb
  subst e
  exact⟨h1,hL,h2,h3⟩
 ·obtain⟨o,es,ep,ho,r⟩:=hm
  exact⟨o,es,ep,k _ o (Ne.symm hL) ho,r⟩
 ·refine (I.hok b u e).stay (fun c v hc q=>k c v ?_ q) (fun _ q=>q) fun _ _ q=>q
  rcases hc with z|z
  ·rw[z];exact Pr b u e
  ·exact Pr c _ z
theorem Inv.tok(I:Inv X pins σ H s)(t:Nat):Inv X pins σ H { s with toks:=t }:=I.un (h':=s.heap) (t':=t) Un.refl I.hok
theorem Inv.kept{t':Nat}(I:Inv X pins σ H s)(k:∀ b u,s.heap.get? b=some u→h'.get? b=some u):Inv X pins σ H { s with heap:=h',toks:=t' }:=I.un (Un.kept k) (I.hok.kept k)
theorem Inv.laid{a:Addr}{o:HO}{t':Nat}(I:Inv X pins σ H s)(k:∀ b u,s.heap.get? b=some u→h'.get? b=some u)(hp:s.heap.objs.size≤a)(new:gS X.prog X.w (upd H a o) h' a o) :
  Inv X pins σ (upd H a o) { s with heap:=h',toks:=t' }:=I.un (Un.laid k hp (I.hok.fresh hp)) (I.hok.laid k hp new)
theorem Inv.write{x e:Addr}{o:HO}{t':Nat}(I:Inv X pins σ H s)(mu:TF (H x))(he:e=x∨H e=some (.own x))(k:∀ b u,b≠e→s.heap.get? b=some u→h'.get? b=some u)(SN:∃ u,h'.get? e=some u)
  (new:gS X.prog X.w (upd H x o) h' x o):Inv X pins σ (upd H x o) { s with heap:=h',toks:=t' }:=I.un (Un.write mu he k SN) (I.hok.write mu he k SN new)
theorem Inv.IJ{Pu:List (Addr × Obj)}(I:Inv X pins σ H s)(h:∀ p∈Pu,s.heap.get? p.1=some p.2∧H p.1=none∧p.1≠X.env.locals∧p.1∉X.fs∧∀ v,p.2.data≠.cell v):Inv X Pu σ H s :=
 ⟨I.ok,I.os,I.bare,I.base,I.loc,I.cell,I.free,I.uH,fun p hp=>(List.mem_append.mp hp).elim (fun z=>I.pin p (List.mem_append_left _ z)) (h p),I.hok,I.len⟩
theorem E1{N:List Str}(hN:N.Nodup){i j:Nat}{x:Str}(a:N[i]?=some x)(b:N[j]?=some x):i=j:=by
 obtain⟨h1,e1⟩:=List.getElem?_eq_some_iff.mp a
 obtain⟨h2,e2⟩:=List.getElem?_eq_some_iff.mp b
 exact (List.getElem_inj hN).mp (e1.trans e2.symm)
theorem Cc{M:Model}{A:Around}{E:Value→Shared→Prop}{i:Nat}{x:Str}{v:V}{u:Value}{Q:Unit→Shared→Prop}(I:Inv X pins σ H s)(hN:X.N.Nodup)(hi:X.N[i]?=some x)(hx:Loc X.env.scope x)(r:RelV v u)
  (h:∀ s',Inv X pins (σ.set i (some v)) H s'→(∃ a,Heap.SameBut a s.heap s'.heap∧(a=X.env.locals∨X.env.cells.lookup x=some a))→Q () s') (hf:X.fn x=true∨X.env.scope.names.lookup x=some .local:=by first|exact .inl rfl|exact .inr rfl|assumption):wpAny M A (storeName X.env x u) Q E s:=by
 obtain⟨m,hn,hl⟩:=id I.loc
 have hcls:(X.env.scope.kind == .class || (X.env.scope.kind == .module&&X.env.locals != X.env.globals))=false:=by rw[I.ok.kind];rfl
 have hiσ:i<σ.length:=by rw[I.len];exact (List.getElem?_eq_some_iff.mp hi).1
 have QF:=I.QF
 have tracked:∀ {a:Addr} {h':Heap},(∃ o,s.heap.get? a=some o∧H a=none)→Heap.SameBut a s.heap h'→tQ X.prog X.w H h':=fun {a h'} ha hs b ob e=>by
  obtain⟨_,_,hfree⟩:=ha
  refine (I.hok b ob e).stay (fun c w' hc q=>(hs.2 c ?_).trans q) (fun _ q=>q) fun _ _ q=>q
  rintro rfl
  rcases hc with rfl|hc
  ·rw[hfree]at e;cases e
  ·rw[hfree]at hc;cases hc
 rcases hx with hk|hk
 ·refine wpAny_storeName_local hk hn (fun h' hn' hs=>?_) hcls
  obtain⟨oL,_,_,hoL,_⟩:=id hn
  refine h _ ⟨I.ok,I.os,I.bare,⟨fun b o e n hb hx=>?_,fun b o e n hb hx=>?_,I.base.free,fun b o e hx=>?_,I.base.tups,I.base.BI,I.base.Dk⟩,⟨_,hn',fun j y v' e1 e2 e3=>?_⟩,fun y c e=>?_,I.free,I.uH,fun p hp=>?_,tracked ⟨oL,hoL,I.free⟩ hs,by simpa using I.len⟩ ⟨_,hs,.inl rfl⟩
  ·exact (hs.2 b (ko (rB (Heap.lt_size e) I.ok.above))).trans (I.base.keep b o e n hb hx)
  ·obtain⟨sl,e1⟩:=I.base.slot b o e n hb hx
   exact⟨sl,(hs.2 b (ko (rB (Heap.lt_size e) I.ok.above))).trans e1⟩
  ·obtain⟨o',e1⟩:=I.base.there b o e hx
   exact⟨o',(hs.2 b (ko (rB (Heap.lt_size e) I.ok.above))).trans e1⟩
  ·by_cases hj:j=i
   ·subst hj
    rw[hi]at e1;cases e1
    rw[List.getElem?_set_self hiσ]at e2
    cases e2
    exact⟨u,r,.inl ⟨hk,by simp⟩⟩
   ·rw[List.getElem?_set_ne (Ne.symm hj)]at e2
    obtain⟨u',r',q⟩:=hl j y v' e1 e2 e3
    refine⟨u',r',?_⟩
    rcases q with ⟨k,e⟩|⟨k,c,e,z⟩
    ·refine .inl ⟨k,?_⟩
     have:y≠x:=fun e=>hj (E1 hN e1 (e ▸ hi))
     simp[this,e]
    ·exact .inr ⟨k,c,e,z.sameBut hs (QF y c e)⟩
  ·obtain⟨w',z⟩:=I.cell y c e
   exact⟨w',z.sameBut hs (QF y c e)⟩
  ·obtain⟨e,n,ne,nf,d⟩:=I.pin p hp
   exact⟨(hs.2 p.1 ne).trans e,n,ne,nf,d⟩
 ·have hfn:X.fn x=true:=by
   rcases hf with z|z
   ·exact z
   ·rw[z]at hk;cases hk
  obtain⟨c,hc⟩:=I.ok.has x (.inl hk)
  obtain⟨w',z⟩:=I.cell x c hc
  refine wpAny_storeName_cell I.ok.kind hk hc z (fun h' hc' hs=>?_)
  obtain⟨oc,hoc,Xq⟩:=id z
  refine h { s with heap:=h' } ⟨I.ok,I.os,I.bare,⟨fun b o e n hb hx=>?_,fun b o e n hb hx=>?_,I.base.free,fun b o e hx=>?_,I.base.tups,I.base.BI,I.base.Dk⟩,⟨m,hn.sameBut hs (Ne.symm (QF x c hc)),fun j y v' e1 e2 e3=>?_⟩,fun y c' e=>?_,I.free,I.uH,fun p hp=>?_,tracked ⟨oc,hoc,I.uH x c hc⟩ hs,by simpa using I.len⟩ ⟨c,hs,.inr hc⟩
  ·exact (hs.2 b (ko (rB (Heap.lt_size e) (I.ok.TM x c hfn hc)))).trans (I.base.keep b o e n hb hx)
  ·obtain⟨sl,e1⟩:=I.base.slot b o e n hb hx
   exact⟨sl,(hs.2 b (ko (rB (Heap.lt_size e) (I.ok.TM x c hfn hc)))).trans e1⟩
  ·obtain⟨o',e1⟩:=I.base.there b o e hx
   exact⟨o',(hs.2 b (ko (rB (Heap.lt_size e) (I.ok.TM x c hfn hc)))).trans e1⟩
  ·by_cases hj:j=i
   ·subst hj
    rw[hi]at e1;cases e1
    rw[List.getElem?_set_self hiσ]at e2
    cases e2
    exact⟨u,r,.inr ⟨.inl hk,c,hc,hc'⟩⟩
   ·rw[List.getElem?_set_ne (Ne.symm hj)]at e2
    obtain⟨u',r',q⟩:=hl j y v' e1 e2 e3
    refine⟨u',r',?_⟩
    rcases q with q|⟨k,c',e,z'⟩
    ·exact .inl q
    ·refine .inr ⟨k,c',e,z'.sameBut hs ?_⟩
     rintro rfl
     exact hj (E1 hN e1 (I.ok.inj _ _ _ e hc ▸ hi))
  ·by_cases hcc:c'=c
   ·subst hcc;exact⟨_,hc'⟩
   ·obtain⟨w2,z2⟩:=I.cell y c' e
    exact⟨w2,z2.sameBut hs hcc⟩
  ·obtain⟨e,n,ne,nf,d⟩:=I.pin p hp
   refine⟨(hs.2 p.1 ?_).trans e,n,ne,nf,d⟩
   intro q
   rw[q,hoc]at e
   have q':oc=p.2:=sM e
   exact d w' (by rw[← q'];exact Xq)
theorem zV{M:Model}{A:Around}{E:Value→Shared→Prop}{i:Nat}{x:Str}{v:V}{u:Value}{Q:Unit→Shared→Prop}(I:Inv X pins σ H s)(hN:X.N.Nodup)(hi:X.N[i]?=some x)(hx:Loc X.env.scope x)(r:RelV v u)
  (h:∀ s',Inv X pins (σ.set i (some v)) H s'→Q () s') (hf:X.fn x=true∨X.env.scope.names.lookup x=some .local:=by first|exact .inl rfl|exact .inr rfl|assumption):wpAny M A (storeName X.env x u) Q E s :=
 Cc I hN hi hx r (fun s' I' _=>h s' I') hf
theorem Inv.LI{s':Shared}{ch:List Addr}(I:Inv X pins σ H s)(ho:s'.os=s.os)(u:Un (frs X.stack) ch H H' s.heap s'.heap)(hok:tQ X.prog X.w H' s'.heap)(hg:AllBare s'.gens)
  (hch:∀ b∈ch,(b∈X.ex∨X.s₀.heap.objs.size≤b)∧b≠X.env.locals∧(∀ x c,X.env.cells.lookup x=some c→c≠b)∧∀ p∈X.pn++pins,p.1≠b):Inv X pins σ H' s':=by
 obtain⟨h',g',d',t',o'⟩:=s'
 have e:o'=s.os:=ho
 subst e
 exact I.call (g':=g') (t':=t') (d':=d') u hok hg hch
end
abbrev XK:=Value→Option Addr→Hp→Prop
abbrev St:=List (Option V)
abbrev VK:=V→Hp→Prop
abbrev TE:=St→Hp→VK→Prop
abbrev TT:=St→Hp→(Bool→Hp→Prop)→Prop
abbrev TA:=St→Hp→(List V→Hp→Prop)→Prop
structure Ends where
 nx:St→Hp→Prop
 rt:VK
 bk:St→Hp→Prop:=fun _ _=>False
 ct:St→Hp→Prop:=fun _ _=>False
abbrev TS:=Ends→St→Hp→Prop
inductive EP(X:Cx)(pins:List (Addr × Obj))(σ:St)(Q:VK)(u:Value)(s':Shared):Prop
 | mk (v:V) (H':Hp) (_:Inv X pins σ H' s') (_:RelV v u) (_:Q v H'):EP X pins σ Q u s'
def TP(X:Cx)(pins:List (Addr × Obj))(σ:St)(Q:Bool→Hp→Prop)(b:Bool)(s':Shared):Prop:=∃ H',Inv X pins σ H' s'∧Q b H'
inductive AP(X:Cx)(pins:List (Addr × Obj))(σ:St)(Q:List V→Hp→Prop)(us:List Value)(s':Shared):Prop
 | mk (vs:List V) (H':Hp) (_:Inv X pins σ H' s') (_:Vals vs us) (_:Q vs H'):AP X pins σ Q us s'
def SP(X:Cx)(pins:List (Addr × Obj))(D:Ends)(f:Flow)(s':Shared):Prop :=
 match f with
 | .next=>∃ σ' H',Inv X pins σ' H' s'∧D.nx σ' H'
 | .brk=>∃ σ' H',Inv X pins σ' H' s'∧D.bk σ' H'
 | .cont=>∃ σ' H',Inv X pins σ' H' s'∧D.ct σ' H'
 | .ret u=>∃ v σ' H',Inv X pins σ' H' s'∧RelV v u∧D.rt v H'
def PE(X:Cx)(e:Expr)(t:TE):Prop :=
 ∀ (pins:List (Addr × Obj)) (s:Shared) (σ:St) (H:Hp) (Q:VK),Inv X pins σ H s→t σ H Q→wpAny (model X.prog X.w) X.A (eval e X.env) (EP X pins σ Q) X.xe s
def PT(X:Cx)(e:Expr)(t:TT):Prop :=
 ∀ (pins:List (Addr × Obj)) (s:Shared) (σ:St) (H:Hp) (Q:Bool→Hp→Prop),Inv X pins σ H s→t σ H Q→wpAny (model X.prog X.w) X.A (isTrue e X.env (eval e X.env)) (TP X pins σ Q) X.xe s
def PW(X:Cx)(e:Expr)(t:TT):Prop :=
 ∀ (whole:Sem Value) (pins:List (Addr × Obj)) (s:Shared) (σ:St) (H:Hp) (Q:Bool→Hp→Prop),Inv X pins σ H s→t σ H Q→wpAny (model X.prog X.w) X.A (isTrue e X.env whole) (TP X pins σ Q) X.xe s
theorem PW.pt{X:Cx}{e:Expr}{t:TT}(h:PW X e t):PT X e t:=h _
def PA(X:Cx)(es:List Expr)(t:TA):Prop :=
 ∀ (pos:Pos) (pins:List (Addr × Obj)) (s:Shared) (σ:St) (H:Hp) (Q:List V→Hp→Prop),Inv X pins σ H s→t σ H Q→wpAny (model X.prog X.w) X.A (spliced (backTo pos (starEach es X.env))) (AP X pins σ Q) X.xe s
def PS(X:Cx)(st:Stmt)(t:TS):Prop :=
 ∀ (pins:List (Addr × Obj)) (s:Shared) (σ:St) (H:Hp) (D:Ends),Inv X pins σ H s→t D σ H→wpAny (model X.prog X.w) X.A (exec st X.env) (SP X pins D) X.xe s
def IK(X:Cx)(st:List Stmt)(t:TS):Prop :=
 ∀ (pins:List (Addr × Obj)) (s:Shared) (σ:St) (H:Hp) (D:Ends),Inv X pins σ H s→t D σ H→wpAny (model X.prog X.w) X.A (execs st X.env) (SP X pins D) X.xe s
theorem cu{α:Type}{t:Sem α}{Q Q':α→Shared→Prop}{M:Model}{A:Around}{E:Value→Shared→Prop}{s:Shared}(h:wpAny M A t Q E s)(hQ:∀ a s,Q a s→Q' a s):wpAny M A t Q' E s:=wpAny_mono h hQ fun _ _ x=>x
end L2
namespace L2
open PySem PySem.Spec PyProof.Rows
section
variable {X:Cx}
inductive J2(i:Nat)(σ:St)(H:Hp)(Q:VK):Prop
 | mk (v:V) (_:σ[i]?=some (some v)) (_:Q v H):J2 i σ H Q
inductive TQ(x:V)(H:Hp)(Q:Bool→Hp→Prop):Prop
 | mk (c:Bool) (_:x=.bl c) (_:Q c H):TQ x H Q
inductive isI(x:V)(H:Hp)(Q:Option Int→Hp→Prop):Prop
 | mk (i:Int) (_:x=.int i) (_:Q (some i) H):isI x H Q
def tC(v:V):TE:=fun _ H Q=>Q v H
theorem QG{i:Nat}{x:Str}{pos:Pos}(hN:X.N[i]?=some x)(hv:Wt X.env.scope x)(hd:(x == ("__debug__":Str))=false:=by decide)(hcd:(x == ("__classdict__":Str))=false:=by decide):PE X (.Name x pos) (J2 i):=by
 intro pins s σ H Q I h
 obtain⟨v,e,h⟩:=h
 obtain⟨m,hn,hl⟩:=I.loc
 obtain⟨u,r,l⟩:=hl i x v hN e hv
 have fin:EP X pins σ Q u s:=⟨v,H,I,r,h⟩
 rcases l with ⟨hk,hm⟩|⟨hk,c,hc,hcell⟩
 ·exact wpAny_Name (wpAny_loadName_local I.ok.kind hk hn hm fin) hd
 ·rcases hk with hk|hk
  ·exact wpAny_Name (wpAny_loadName_cell I.ok.kind hk hc hcell fin) hd
  ·exact wpAny_Name (wpAny_loadName_free I.ok.kind hk hc hcell fin hcd) hd
theorem az{i j pos}:PE X (.Constant (.int i) j pos) (tC (.int i)):=fun _ _ _ H _ I h=>wpAny_Constant_int ⟨.int i,H,I.tok _,⟨_,rfl⟩,h⟩
theorem rX{b j pos}:PE X (.Constant (.bool b) j pos) (tC (.bl b)):=fun _ _ _ H _ I h=>Constant_bool ⟨.bl b,H,I,rfl,h⟩
theorem QH{j pos}:PE X (.Constant .none j pos) (tC .jw):=fun _ _ _ H _ I h=>Constant_none ⟨.jw,H,I,rfl,h⟩
theorem bS{x j pos}:PE X (.Constant (.str x) j pos) (tC (.str x)):=fun _ _ _ H _ I h=>Calls.Constant_str ⟨.str x,H,I.tok _,⟨_,rfl⟩,h⟩
def Gl(X:Cx)(x:Str):Prop:=X.env.kindOf x=some .globalImplicit
theorem vY{E:Value→Shared→Prop}{pins:List (Addr × Obj)}{s:Shared}{σ:St}{H:Hp}{x:Str}{u:Value}{pos:Pos}{Q:Value→Shared→Prop}(I:Inv X pins σ H s)(hg:Gl X x)(hm:X.mg x=some u)(h:Q u s)
  (hd:(x == ("__debug__":Str))=false:=by decide):wpAny (model X.prog X.w) X.A (eval (.Name x pos) X.env) Q E s :=
 Calls.Name_function_global I.ok.kind hg (Calls.loadGlobal_global (by rw[I.ok.glob];exact I.mod.glob.keeps I.bk) hm h) hd
theorem xu{E:Value→Shared→Prop}{pins:List (Addr × Obj)}{s:Shared}{σ:St}{H:Hp}{x:Str}{u:Value}{pos:Pos}{Q:Value→Shared→Prop}(I:Inv X pins σ H s)(hg:Gl X x)(hm:X.mg x=none)(hv:bootBuiltins x=some u)(h:Q u s)
  (hn:x≠"__name__":=by decide) (hd:(x == ("__debug__":Str))=false:=by decide):wpAny (model X.prog X.w) X.A (eval (.Name x pos) X.env) Q E s:=by
 obtain⟨mb,h1,h2⟩:=I.mod.blt
 exact Calls.Name_function_global I.ok.kind hg (Calls.loadGlobal_builtin (by rw[I.ok.glob];exact I.mod.glob.keeps I.bk) hm (by rw[I.ok.blt];exact h1.keeps I.bk) ((h2 x hn).trans hv) h) hd
theorem Dm{x:Str}{v:V}{u:Value}{pos:Pos}(hg:Gl X x)(hm:X.mg x=some u)(r:RelV v u)(hd:(x == ("__debug__":Str))=false:=by decide):PE X (.Name x pos) (tC v) :=
 fun _ _ _ H _ I h=>vY I hg hm ⟨v,H,I,r,h⟩ hd
theorem NV{x:Str}{v:V}{u:Value}{pos:Pos}(hg:Gl X x)(hm:X.mg x=none)(hv:bootBuiltins x=some u)(r:RelV v u)(hn:x≠"__name__":=by decide)(hd:(x == ("__debug__":Str))=false:=by decide):PE X (.Name x pos) (tC v) :=
 fun _ _ _ H _ I h=>xu I hg hm hv ⟨v,H,I,r,h⟩ hn hd
variable {a b:Expr} {ta tb:TE} {pos:Pos}
def PC(X:Cx)(op:CmpOp)(a b:Expr)(t:TE):Prop :=
 ∀ (pins:List (Addr × Obj)) (s:Shared) (σ:St) (H:Hp) (Q:VK),Inv X pins σ H s→t σ H Q →
  wpAny (model X.prog X.w) X.A (eval a X.env) (fun v s₁=>wpAny (model X.prog X.w) X.A (eval b X.env) (fun u s₂=>wpAny (model X.prog X.w) X.A (compareOp op v u) (EP X pins σ Q) X.xe s₂) X.xe s₁) X.xe s
theorem E2(b:Expr){op:CmpOp}(h:op≠.In)(h2:op≠.NotIn):behindInMarks op b=false:=by
 have e1:(op == CmpOp.In)=false:=by cases op <;> first|rfl|exact absurd rfl h
 have e2:(op == CmpOp.NotIn)=false:=by cases op <;> first|rfl|exact absurd rfl h2
 cases b <;> simp[behindInMarks,e1,e2]
def Xr(ta:TE):TE:=fun σ H Q=>ta σ H fun x H1=>Q (.bl (decide (x=.jw))) H1
def TR(ta:TE):TE:=fun σ H Q=>ta σ H fun x H1=>Q (.bl (!decide (x=.jw))) H1
theorem RelV.E3{x:V}{v:Value}(r:RelV x v):(v == Value.none)=decide (x=.jw):=by
 cases x with
 | jw=>cases r;rfl
 | bl _=>cases r;rfl
 | int _=>obtain⟨t,rfl⟩:=r;rfl
 | str _=>obtain⟨t,rfl⟩:=r;rfl
 | G9 _=>obtain⟨t,rfl⟩:=r;rfl
 | Pq _=>obtain⟨t,rfl⟩:=r;rfl
 | ref _=>cases r;rfl
 | ty _=>cases r;rfl
theorem LJ{j pos'}(ha:PE X a ta):PC X .Is a (.Constant .none j pos') (Xr ta):=by
 intro pins s σ H Q I h
 refine cu (ha pins s σ H _ I h) fun v s1 ⟨x,H1,I1,r1,q1⟩=>?_
 exact Constant_none (is_none_gen ⟨.bl _,H1,I1,by rw[r1.E3];rfl,q1⟩)
theorem IL{j pos'}(ha:PE X a ta):PC X .IsNot a (.Constant .none j pos') (TR ta):=by
 intro pins s σ H Q I h
 refine cu (ha pins s σ H _ I h) fun v s1 ⟨x,H1,I1,r1,q1⟩=>?_
 exact Constant_none (isnot_none_gen ⟨.bl _,H1,I1,by rw[r1.E3];rfl,q1⟩)
def tB(t:TE):TT:=fun σ H Q=>t σ H fun x H1=>TQ x H1 Q
theorem QI{op:CmpOp}{t:TE}(h:PC X op a b t)(h1:behindInMarks op b=false:=by first|exact E2 _ (by decide) (by decide)|rfl):PE X (.Compare a [op] [b] pos) t:=fun pins s σ H Q I hw=>wpAny_Compare1 (h pins s σ H Q I hw) h1
theorem zW{op:CmpOp}{t:TE}(h:PC X op a b t)(h1:behindInMarks op b=false:=by first|exact E2 _ (by decide) (by decide)|rfl):PT X (.Compare a [op] [b] pos) (tB t):=by
 intro pins s σ H Q I hw
 refine wpAny_isTrue_Compare1 (cu (h pins s σ H _ I hw) fun v s1 h1=>cu h1 fun u s2 h2=>cu h2 fun c s3 ⟨x,H1,I1,r1,q1⟩=>?_) h1
 obtain⟨d,rfl,q⟩:=q1
 cases r1
 exact wpAny_truthy_bool ⟨H1,I1,q⟩
theorem oM{e:Expr}{t:TE}(h:PE X e t)(he:∀ whole,isTrue e X.env whole=(do let v ← whole;standAt e.pos;holding [v] (truthy v)):=by intro _;rfl):PT X e (tB t):=by
 intro pins s σ H Q I hw
 refine isTrue_plain (cu (h pins s σ H _ I hw) fun v s1 ⟨x,H1,I1,r1,q1⟩=>?_) (he _)
 obtain⟨d,rfl,q⟩:=q1
 cases r1
 exact wpAny_truthy_bool ⟨H1,I1,q⟩
variable {tA Ww:TT} {rest:List Expr}
def Xs(t u:TT):TT:=fun σ H Q=>t σ H fun c H1=>if c=true then u σ H1 Q else Q false H1
def tOr(t u:TT):TT:=fun σ H Q=>t σ H fun c H1=>if c=true then Q true H1 else u σ H1 Q
def Xu(t:TT):TT:=fun σ H Q=>t σ H fun c H1=>Q (!c) H1
theorem Dn(ha:PT X a tA):PW X (.BoolOp .And [a] pos) tA:=by
 intro wh pins s σ H Q I h
 refine isTrue_and (cu (ha pins s σ H Q I h) fun c s1 e=>?_)
 cases c with
 | true=>exact isTrue_and_nil e
 | false=>exact e
theorem Hg(ha:PT X a tA):PW X (.BoolOp .Or [a] pos) tA:=by
 intro wh pins s σ H Q I h
 refine isTrue_or (cu (ha pins s σ H Q I h) fun c s1 e=>?_)
 cases c with
 | false=>exact isTrue_or_nil e
 | true=>exact e
theorem Hh(ha:PT X a tA)(hb:PW X (.BoolOp .And (b::rest) pos) Ww):PW X (.BoolOp .And (a::b::rest) pos) (Xs tA Ww):=by
 intro wh pins s σ H Q I h
 refine isTrue_and (cu (ha pins s σ H _ I h) fun c s1 ⟨H1,I1,q1⟩=>?_)
 cases c with
 | true=>exact hb wh pins s1 σ H1 Q I1 q1
 | false=>exact⟨H1,I1,q1⟩
theorem LK(ha:PT X a tA)(hb:PW X (.BoolOp .Or (b::rest) pos) Ww):PW X (.BoolOp .Or (a::b::rest) pos) (tOr tA Ww):=by
 intro wh pins s σ H Q I h
 refine isTrue_or (cu (ha pins s σ H _ I h) fun c s1 ⟨H1,I1,q1⟩=>?_)
 cases c with
 | true=>exact⟨H1,I1,q1⟩
 | false=>exact hb wh pins s1 σ H1 Q I1 q1
theorem oN(ha:PT X a tA):PT X (.UnaryOp .Not a pos) (Xu tA):=by
 intro pins s σ H Q I h
 exact isTrue_not (ha pins s σ H (fun c H1=>Q (!c) H1) I h)
def TU(ta tb:TE):TE:=fun σ H Q=>ta σ H fun x H1=>TQ x H1 fun c H1=>if c=true then tb σ H1 Q else Q (.bl false) H1
def TV(ta:TE):TE:=fun σ H Q=>ta σ H fun x H1=>TQ x H1 fun c H1=>Q (.bl (!c)) H1
theorem sN{op}{t:TE}(h:PE X a t):PE X (.BoolOp op [a] pos) t:=fun pins s σ H Q I hw=>BoolOp_one (h pins s σ H Q I hw)
theorem rC(ha:PE X a ta)(hb:PE X (.BoolOp .And (b::rest) pos) tb):PE X (.BoolOp .And (a::b::rest) pos) (TU ta tb):=by
 intro pins s σ H Q I h
 refine BoolOp_and (cu (ha pins s σ H _ I h) fun v s1 ⟨x,H1,I1,r1,q1⟩=>?_)
 obtain⟨c,rfl,q1⟩:=q1
 cases r1
 refine wpAny_truthy_bool ?_
 cases c with
 | true=>exact hb pins s1 σ H1 Q I1 q1
 | false=>exact⟨.bl false,H1,I1,rfl,q1⟩
theorem QJ(ha:PE X a ta):PE X (.UnaryOp .Not a pos) (TV ta):=by
 intro pins s σ H Q I h
 refine UnaryOp_ (cu (ha pins s σ H _ I h) fun v s1 ⟨x,H1,I1,r1,q1⟩=>?_)
 obtain⟨c,rfl,q1⟩:=q1
 cases r1
 exact not_of (wpAny_truthy_bool ⟨.bl (!c),H1,I1,rfl,q1⟩)
def tIf(t:TT)(ta tb:TE):TE:=fun σ H Q=>t σ H fun c H1=>if c=true then ta σ H1 Q else tb σ H1 Q
theorem E4{c:Expr}(hc:PT X c tA)(ha:PE X a ta)(hb:PE X b tb):PE X (.IfExp c a b pos) (tIf tA ta tb):=by
 intro pins s σ H Q I h
 refine wpAny_IfExp (cu (hc pins s σ H _ I h) fun d s1 ⟨H1,I1,q1⟩=>?_)
 cases d with
 | true=>exact ha pins s1 σ H1 Q I1 q1
 | false=>exact hb pins s1 σ H1 Q I1 q1
end
end L2
namespace L2
open PySem PySem.Spec PyProof.Rows
def bN(K:PySem.W.Frag)(H:Hp)(a:Addr)(xs:List V):Prop :=
 Rd H a (.lst xs) ∨
  ∃ (o:Obj) (its:Array Value) (n:Nat),K.lookup a=some o∧o.cls=.type "list"∧o.dict=none∧o.data=.seq its n∧its.size≤sizeLine∧Vals xs its.toList
def jW(K:PySem.W.Frag)(H:Hp)(a:Addr)(xs:List V):Prop :=
 Rd H a (.tup xs) ∨
  ∃ (o:Obj) (its:Array Value) (n:Nat),K.lookup a=some o∧o.cls=.type "tuple"∧o.data=.seq its n∧its.size≤sizeLine∧Vals xs its.toList
def Xv:Value→Option V
 | .none=>some .jw
 | .bool b=>some (.bl b)
 | .int i _=>some (.int i)
 | .str x _=>some (.str x)
 | .bytes b _=>some (.G9 b)
 | .float b _=>some (.Pq b)
 | .ref a=>some (.ref a)
 | .type n=>some (.ty n)
 | _=>none
theorem RelV.abs{x:V}{u:Value}(r:RelV x u):Xv u=some x:=by
 cases x with
 | jw=>cases r;rfl
 | bl _=>cases r;rfl
 | int _=>obtain⟨t,rfl⟩:=r;rfl
 | str _=>obtain⟨t,rfl⟩:=r;rfl
 | G9 _=>obtain⟨t,rfl⟩:=r;rfl
 | Pq _=>obtain⟨t,rfl⟩:=r;rfl
 | ref _=>cases r;rfl
 | ty _=>cases r;rfl
theorem RelV.inj{x y:V}{u:Value}(r:RelV x u)(q:RelV y u):x=y:=sM (r.abs.symm.trans q.abs)
theorem Vals.inj:∀ {xs ys:List V} {us:List Value},Vals xs us→Vals ys us→xs=ys
 | _,_,_,.nil,.nil=>rfl
 | _,_,_,.cons r t,.cons r' t'=>by rw[r.inj r',Vals.inj t t']
section
variable {X:Cx} {pins:List (Addr × Obj)} {σ:St} {H:Hp} {s:Shared} {a:Addr} {xs ys:List V}
theorem bN.of{K:PySem.W.Frag}(h:H a=some (.lst xs)):bN K H a xs:=.inl (.inl h)
theorem jW.of{K:PySem.W.Frag}(h:H a=some (.tup xs)):jW K H a xs:=.inl (.inl h)
theorem Inv.list(I:Inv X pins σ H s)(h:bN X.K H a xs):∃ its:List Value,Vals xs its∧PlainL s.heap a its.toArray∧xs.length≤sizeLine:=by
 rcases h with h|⟨o,its,n,hk,hc,hd,hs,hz,r⟩
 ·obtain⟨z,its,n,r,e⟩:=h.ok I.hok
  exact⟨its,r,⟨_,n,e,rfl,rfl,rfl⟩,z⟩
 ·refine⟨its.toList,r,⟨o,n,I.yx a o hk,hc,hd,by simpa using hs⟩,?_⟩
  have e:=r.length
  simp only[Array.length_toList]at e
  omega
theorem Inv.tuple(I:Inv X pins σ H s)(h:jW X.K H a xs):∃ its:List Value,Vals xs its∧IsTup s.heap a its.toArray∧xs.length≤sizeLine:=by
 rcases h with h|⟨o,its,n,hk,hc,hs,hz,r⟩
 ·obtain⟨z,its,r,p⟩:=h.ok I.hok
  exact⟨its,r,p,z⟩
 ·refine⟨its.toList,r,⟨o,I.yx a o hk,hc,n,by simpa using hs⟩,?_⟩
  have e:=r.length
  simp only[Array.length_toList]at e
  omega
theorem Inv.E5(I:Inv X pins σ H s)(h:bN X.K H a xs)(h':bN X.K H a ys):xs=ys:=by
 obtain⟨its,r,⟨o,n,e,_,_,d⟩,_⟩:=I.list h
 obtain⟨its',r',⟨o',n',e',_,_,d'⟩,_⟩:=I.list h'
 rw[e]at e';cases e'
 rw[d]at d'
 injection d' with d1 _
 have:its=its':=by simpa using congrArg Array.toList d1
 subst this
 exact r.inj r'
theorem Inv.Cd(I:Inv X pins σ H s)(h:jW X.K H a xs)(h':jW X.K H a ys):xs=ys:=by
 obtain⟨its,r,⟨o,e,_,n,d⟩,_⟩:=I.tuple h
 obtain⟨its',r',⟨o',e',_,n',d'⟩,_⟩:=I.tuple h'
 rw[e]at e';cases e'
 rw[d]at d'
 injection d' with d1 _
 have:its=its':=by simpa using congrArg Array.toList d1
 subst this
 exact r.inj r'
end
abbrev Cx.BJ(X:Cx)(E:Value→Shared→Prop):Cx:={ X with xe:=E }
abbrev Cx.Lr(X:Cx):Cx:=X.BJ fun _ _=>False
theorem Cx.Ok.BJ{X:Cx}(ok:X.Ok)(E:Value→Shared→Prop):(X.BJ E).Ok :=
 ⟨ok.mod,ok.kind,ok.glob,ok.blt,ok.above,ok.inj,ok.has,ok.TM,ok.hd,ok.frames,ok.stk,ok.exf,ok.bs,ok.NT,ok.J1,ok.NU,ok.vW,ok.QE⟩
theorem Cx.Ok.sO{X:Cx}{E:Value→Shared→Prop}(ok:(X.BJ E).Ok):X.Ok :=
 ⟨ok.mod,ok.kind,ok.glob,ok.blt,ok.above,ok.inj,ok.has,ok.TM,ok.hd,ok.frames,ok.stk,ok.exf,ok.bs,ok.NT,ok.J1,ok.NU,ok.vW,ok.QE⟩
section
variable {X:Cx} {pins:List (Addr × Obj)} {σ:St} {H:Hp} {s:Shared} {E:Value→Shared→Prop}
theorem Inv.BJ(I:Inv X pins σ H s)(E:Value→Shared→Prop):Inv (X.BJ E) pins σ H s:=⟨I.ok.BJ E,I.os,I.bare,I.base,I.loc,I.cell,I.free,I.uH,I.pin,I.hok,I.len⟩
theorem Inv.sO(I:Inv (X.BJ E) pins σ H s):Inv X pins σ H s:=⟨I.ok.sO,I.os,I.bare,I.base,I.loc,I.cell,I.free,I.uH,I.pin,I.hok,I.len⟩
theorem SP.sO{D:Ends}{f:Flow}{s':Shared}(h:SP (X.BJ E) pins D f s'):SP X pins D f s':=by
 cases f with
 | next=>obtain⟨σ',H',I,q⟩:=h;exact⟨σ',H',I.sO,q⟩
 | brk=>obtain⟨σ',H',I,q⟩:=h;exact⟨σ',H',I.sO,q⟩
 | cont=>obtain⟨σ',H',I,q⟩:=h;exact⟨σ',H',I.sO,q⟩
 | ret u=>obtain⟨v,σ',H',I,r,q⟩:=h;exact⟨v,σ',H',I.sO,r,q⟩
theorem IK.Lr{st:List Stmt}{t:TS}(h:IK X.Lr st t):IK X st t:=fun pins s σ H D I hw =>
 wpAny_mono (h pins s σ H D (I.BJ _) hw) (fun _ _ q=>q.sO) fun _ _ z=>False.elim z
end
section
variable {X:Cx} {st:Stmt} {rest:List Stmt} {t u:TS} {e:Expr} {te:TE} {pos:Pos}
def TX:TS:=fun D σ H=>D.nx σ H
def Xw(t u:TS):TS:=fun D σ H=>t { D with nx:=u D } σ H
theorem bK:IK X [] TX:=fun _ _ σ H _ I h=>wpAny_execs_nil ⟨σ,H,I,h⟩
theorem ak(h1:PS X st t)(h2:IK X rest u):IK X (st::rest) (Xw t u):=by
 intro pins s σ H D I h
 refine wpAny_execs_cons (cu (h1 pins s σ H { D with nx:=u D } I h) fun f s1 q=>?_)
 cases f with
 | next =>
  obtain⟨σ',H',I',q⟩:=q
  exact h2 pins s1 σ' H' D I' q
 | ret v=>exact q
 | brk=>exact q
 | cont=>exact q
theorem ao(h1:PS X st t):IK X [st] t:=by
 intro pins s σ H D I h
 refine wpAny_execs_cons (cu (h1 pins s σ H D I h) fun f s1 q=>?_)
 cases f with
 | next=>exact wpAny_execs_nil q
 | ret v=>exact q
 | brk=>exact q
 | cont=>exact q
def TY:TS:=fun D σ H=>D.ct σ H
theorem E6:PS X (.Continue pos) TY:=fun _ _ σ H _ I h=>wpAny_Continue ⟨σ,H,I,h⟩
theorem Inv.quiet{pins:List (Addr × Obj)}{σ:St}{H:Hp}{s:Shared}(I:Inv X pins σ H s):interactive X.env=false:=by simp[interactive,I.ok.kind]
def TZ(te:TE):TS:=fun D σ H=>te σ H fun _ H1=>D.nx σ H1
theorem bq(he:PE X e te)(hs:swapsWith e none pos.line X.env=pure false:=by rfl):PS X (.Expr e pos) (TZ te):=by
 intro pins s σ H D I h
 exact wpAny_Expr_any (cu (he pins s σ H _ I h) fun v s1 ⟨x,H1,I1,r1,q1⟩=>⟨σ,H1,I1,q1⟩) I.quiet hs
def Xx(te:TE):TS:=fun D σ H=>te σ H D.rt
theorem aT(he:PE X e te):PS X (.Return (some e) pos) (Xx te):=by
 intro pins s σ H D I h
 exact wpAny_Return_some (cu (he pins s σ H _ I h) fun v s1 ⟨x,H1,I1,r1,q1⟩=>⟨x,σ,H1,I1,r1,q1⟩)
def Xy(c:TT)(t u:TS):TS:=fun D σ H=>c σ H fun b H1=>if b=true then t D σ H1 else u D σ H1
theorem cG{c:Expr}{a b:List Stmt}{tc:TT}(hc:PT X c tc)(ha:IK X a t)(hb:IK X b u):PS X (.If c a b pos) (Xy tc t u):=by
 intro pins s σ H D I h
 refine wpAny_If (cu (hc pins s σ H _ I h) fun d s1 ⟨H1,I1,q1⟩=>?_)
 cases d with
 | true=>exact ha pins s1 σ H1 D I1 q1
 | false=>exact hb pins s1 σ H1 D I1 q1
def QK:TS:=fun _ _ _=>False
theorem zX:PS X st QK:=fun _ _ _ _ _ _ h=>h.elim
end
abbrev TG:=V→St→Hp→(St→Hp→Prop)→Prop
abbrev Px:=List V→St→Hp→(St→Hp→Prop)→Prop
def PG(X:Cx)(target:Expr)(t:TG):Prop :=
 ∀ (pins:List (Addr × Obj)) (s:Shared) (σ:St) (H:Hp) (v:V) (u:Value) (Q:St→Hp→Prop),Inv X pins σ H s→RelV v u→t v σ H Q →
  wpAny (model X.prog X.w) X.A (assign target X.env u) (fun _ s'=>∃ σ' H',Inv X pins σ' H' s'∧Q σ' H') X.xe s
def SO(X:Cx)(ts:List Expr)(t:Px):Prop :=
 ∀ (pins:List (Addr × Obj)) (s:Shared) (σ:St) (H:Hp) (vs:List V) (us:List Value) (Q:St→Hp→Prop),Inv X pins σ H s→Vals vs us→t vs σ H Q →
  wpAny (model X.prog X.w) X.A (assignInOrder ((assignEach ts X.env).map (·.2)) us) (fun _ s'=>∃ σ' H',Inv X pins σ' H' s'∧Q σ' H') X.xe s
abbrev QL:=V→V→V→Hp→(Hp→Prop)→Prop
def T3(X:Cx)(t:QL):Prop :=
 ∀ (pins:List (Addr × Obj)) (s:Shared) (σ:St) (H:Hp) (o i v:V) (ov iv u:Value) (Q:Hp→Prop),Inv X pins σ H s→RelV o ov→RelV i iv→RelV v u→t o i v H Q →
  wpAny (model X.prog X.w) X.A (setItem ov iv u) (fun _ s'=>∃ H',Inv X pins σ H' s'∧Q H') X.xe s
abbrev Wx:=V→V→Hp→VK→Prop
def Xz(X:Cx)(op:Operator)(t:Wx):Prop :=
 ∀ (pins:List (Addr × Obj)) (s:Shared) (σ:St) (H:Hp) (x y:V) (v u:Value) (Q:VK),Inv X pins σ H s→RelV x v→RelV y u→t x y H Q →
  wpAny (model X.prog X.w) X.A (inplaceOp op v u) (EP X pins σ Q) X.xe s
section
variable {X:Cx} {pos:Pos}
def vZ(i:Nat):TG:=fun v σ H Q=>Q (σ.set i (some v)) H
theorem aW{i:Nat}{x:Str}(hN:X.N.Nodup)(hi:X.N[i]?=some x)(hx:Loc X.env.scope x)(hf:X.fn x=true∨X.env.scope.names.lookup x=some .local:=by first|exact .inl rfl|exact .inr rfl|assumption):PG X (.Name x pos) (vZ i):=by
 intro pins s σ H v u Q I r h
 exact wpAny_assign_Name (zV I hN hi hx r (fun s' I'=>⟨_,H,I',h⟩) hf)
def XA:Px:=fun vs σ H Q=>vs=[]∧Q σ H
inductive Py(t:TG)(u:Px)(vs:List V)(σ:St)(H:Hp)(Q:St→Hp→Prop):Prop
 | mk (v:V) (r:List V) (_:vs=v::r) (_:t v σ H fun σ' H'=>u r σ' H' Q):Py t u vs σ H Q
theorem jX:SO X [] XA:=by
 intro pins s σ H vs us Q I r h
 obtain⟨e,h⟩:=h
 subst e
 cases r
 exact assignInOrder_nil ⟨σ,H,I,h⟩
theorem bL{e:Expr}{es:List Expr}{t:TG}{u:Px}(h1:PG X e t)(h2:SO X es u)
  (hs:(assignEach (e::es) X.env).map (·.2)=assign e X.env::(assignEach es X.env).map (·.2):=by rfl):SO X (e::es) (Py t u):=by
 intro pins s σ H vs us Q I r h
 obtain⟨v,vr,e1,h⟩:=h
 subst e1
 cases r with
 | cons r rr =>
  rw[hs]
  refine assignInOrder_cons (cu (h1 pins s σ H _ _ _ I r h) fun _ s1 ⟨σ1,H1,I1,q1⟩=>?_)
  exact h2 pins s1 σ1 H1 _ _ Q I1 rr q1
inductive NW(K:PySem.W.Frag)(n:Nat)(t:Px)(v:V)(σ:St)(H:Hp)(Q:St→Hp→Prop):Prop
 | mk (a:Addr) (xs:List V) (_:v=.ref a) (_:jW K H a xs) (_:xs.length=n) (_:t xs σ H Q):NW K n t v σ H Q
theorem rD{es:List Expr}{k:Nat}{t:Px}{n:Nat}(hc:X.calm=true)(h:SO X es t)
  (hn:(assignEach es X.env).length=n:=by rfl) (hst:(assignEach es X.env).findIdx? (·.1)=none:=by rfl):PG X (.Tuple es k pos) (NW X.K n t):=by
 intro pins s σ H v u Q I r hw
 obtain⟨a,xs,e1,hq,hl,hw⟩:=hw
 subst e1
 cases r
 obtain⟨its,rv,ht,hz⟩:=I.tuple hq
 refine assign_Tuple_tuple (I.ok.hd hc) ht (by simp[hn,← hl,rv.length]) hst fun h' hx=>?_
 have I1:Inv X pins σ H { s with heap:=h' }:=I.kept (t':=s.toks) fun b o e=>hx b o (ko (Heap.lt_size e)) e
 exact h pins _ σ H xs _ Q I1 (by simpa using rv) hw
def XC(to ti:TE)(t:QL):TG:=fun v σ H Q=>to σ H fun o H1=>ti σ H1 fun i H2=>t o i v H2 fun H3=>Q σ H3
theorem xx{o i:Expr}{to ti:TE}{t:QL}(ho:PE X o to)(hi:PE X i ti)(hs:T3 X t)
  (ha:∀ v,assign (.Subscript o i pos) X.env v=(do
   let ov ← holding [v] (eval o X.env)
   let iv ← holding [v,ov] (eval i X.env)
   standAt pos
   holding [v,ov,iv] (setItem ov iv v)
   release [v,ov,iv] []):=by intro _;rfl):PG X (.Subscript o i pos) (XC to ti t):=by
 intro pins s σ H v u Q I r h
 rw[ha]
 refine wpAny_bind (wpAny_holding (cu (ho pins s σ H _ I h) fun ov s1 ⟨x,H1,I1,r1,q1⟩=>?_))
 refine wpAny_bind (wpAny_holding (cu (hi pins s1 σ H1 _ I1 q1) fun iv s2 ⟨y,H2,I2,r2,q2⟩=>?_))
 refine wpAny_bind (wpAny_standAt (wpAny_bind (wpAny_holding (cu (hs pins s2 σ H2 x y v ov iv u _ I2 r1 r2 r q2) fun _ s3 ⟨H3,I3,q3⟩=>?_))))
 exact wpAny_release ⟨σ,H3,I3,q3⟩
def NY(te:TE)(g:TG):TS:=fun D σ H=>te σ H fun x H1=>g x σ H1 D.nx
theorem xy{tg e:Expr}{te:TE}{g:TG}(he:PE X e te)(hg:PG X tg g)(hs:swapsWithSole [tg] e pos.line X.env=pure false:=by rfl)(hw:swappedStores [tg] e X.env=pure none:=by rfl)
  (h1:(assignEach [tg] X.env).map (·.2)=[assign tg X.env]:=by rfl):PS X (.Assign [tg] e pos) (NY te g):=by
 intro pins s σ H D I h
 refine wpAny_Assign_stores (cu (he pins s σ H _ I h) fun v s1 ⟨x,H1,I1,r1,q1⟩=>?_) hs hw
 rw[h1]
 exact cu (hg pins s1 σ H1 x v _ I1 r1 q1) fun _ s2 q=>q
theorem aO{i:Nat}{x:Str}{e:Expr}{te:TE}{pos':Pos}(hN:X.N.Nodup)(hi:X.N[i]?=some x)(hx:Loc X.env.scope x)(he:PE X e te)(hs:swapsWith e (some (.Name x pos')) pos.line X.env=pure false:=by rfl)(hf:X.fn x=true∨X.env.scope.names.lookup x=some .local:=by first|exact .inl rfl|exact .inr rfl|assumption) :
  PS X (.Assign [.Name x pos'] e pos) (NY te (vZ i)):=by
 intro pins s σ H D I h
 refine wpAny_Assign_Name (cu (he pins s σ H _ I h) fun v s1 ⟨y,H1,I1,r1,q1⟩=>?_) hs
 exact zV I1 hN hi hx r1 (fun s2 I2=>⟨_,H1,I2,q1⟩) hf
def XD(i:Nat)(te:TE)(ti:Wx):TS:=fun D σ H=>∃ x,σ[i]?=some (some x)∧te σ H fun y H1=>ti x y H1 fun z H2=>D.nx (σ.set i (some z)) H2
theorem xA{i:Nat}{x:Str}{e:Expr}{te:TE}{op:Operator}{ti:Wx}{pos':Pos}(hN:X.N.Nodup)(hi:X.N[i]?=some x)(hx:Loc X.env.scope x)(he:PE X e te)(ho:Xz X op ti)(hf:X.fn x=true∨X.env.scope.names.lookup x=some .local:=by first|exact .inl rfl|exact .inr rfl|assumption) :
  PS X (.AugAssign (.Name x pos') op e pos) (XD i te ti):=by
 intro pins s σ H D I h
 obtain⟨v,e1,h⟩:=h
 obtain⟨m,hn,hl⟩:=I.loc
 have vis:Wt X.env.scope x:=by rcases hx with k|k;exact .inl k;exact .inr (.inl k)
 obtain⟨u,r,l⟩:=hl i x v hi e1 vis
 refine wpAny_AugAssign_Name ?_
 have go:wpAny (model X.prog X.w) X.A (eval e X.env) (fun w s₂=>wpAny (model X.prog X.w) X.A (inplaceOp op u w) (fun r s₃=>wpAny (model X.prog X.w) X.A (storeName X.env x r) (fun _=>SP X pins D .next) X.xe s₃) X.xe s₂) X.xe s:=by
  refine cu (he pins s σ H _ I h) fun w s1 ⟨y,H1,I1,r1,q1⟩=>?_
  refine cu (ho pins s1 σ H1 v y u w _ I1 r r1 q1) fun z s2 ⟨zv,H2,I2,r2,q2⟩=>?_
  exact zV I2 hN hi hx r2 (fun s3 I3=>⟨_,H2,I3,q2⟩) hf
 rcases l with ⟨hk,hm⟩|⟨hk,c,hc,hcell⟩
 ·exact wpAny_loadName_local I.ok.kind hk hn hm go
 ·rcases hk with hk|hk
  ·exact wpAny_loadName_cell I.ok.kind hk hc hcell go
  ·rcases hx with k|k
   ·have:X.env.scope.names.lookup x=some .free:=hk
    rw[k]at this;cases this
   ·have:X.env.scope.names.lookup x=some .free:=hk
    rw[k]at this;cases this
def ipI(f:Int→Int→Int):Wx:=fun x y H Q=>∃ i j,x=.int i∧y=.int j∧Q (.int (f i j)) H
theorem QM:Xz X .Add (ipI fun i j=>i+j):=by
 intro pins s σ H x y v u Q I r1 r2 h
 obtain⟨i,j,e1,e2,q⟩:=h
 subst e1;subst e2
 obtain⟨t,rfl⟩:=r1
 obtain⟨t',rfl⟩:=r2
 exact iadd_int ⟨.int _,H,I.tok _,⟨_,rfl⟩,q⟩
end
section
variable {X:Cx} {pos:Pos}
def QN(c:TT)(tb:TS):TS:=fun D σ H=>∃ W:Nat→St→Hp→Prop,(∃ m,W m σ H)∧∀ m σ H,W m σ H →
 c σ H fun b H1=>if b=true then ∃ N:St→Hp→Prop,(∀ σ' H',N σ' H'→∃ m',m'<m∧W m' σ' H')∧tb { D with nx:=N,ct:=N,bk:=D.nx } σ H1 else D.nx σ H1
theorem zY{c:Expr}{body:List Stmt}{tc:TT}{tb:TS}(hp:PassesOwn (model X.prog X.w) X.A X.env X.xe)(hc:PT X c tc)(hb:IK X body tb):PS X (.While c body [] pos) (QN tc tb):=by
 intro pins s σ H D I h
 obtain⟨W,⟨m0,w0⟩,turn⟩:=h
 refine wpAny_While (codeAny_whileLoop (fun n s'=>∃ σ' H',Inv X pins σ' H' s'∧W n σ' H') ?_ m0 ⟨σ,H,I,w0⟩)
 rintro n s1 ⟨σ1,H1,I1,w1⟩
 refine wpAny_passesOwn hp (cu (hc pins s1 σ1 H1 _ I1 (turn n σ1 H1 w1)) fun b s2 ⟨H2,I2,q2⟩=>?_)
 cases b with
 | true =>
  obtain⟨N,hN,q2⟩:=q2
  rw[if_pos rfl]
  refine wpAny_passesOwn hp (cu (hb pins s2 σ1 H2 _ I2 q2) fun f s3 q3=>?_)
  cases f with
  | next =>
   obtain⟨σ3,H3,I3,n3⟩:=q3
   obtain⟨m',hm,w3⟩:=hN σ3 H3 n3
   exact⟨m',hm,σ3,H3,I3,w3⟩
  | cont =>
   obtain⟨σ3,H3,I3,n3⟩:=q3
   obtain⟨m',hm,w3⟩:=hN σ3 H3 n3
   exact⟨m',hm,σ3,H3,I3,w3⟩
  | brk=>exact q3
  | ret v=>exact q3
 | false =>
  rw[if_neg tP]
  exact wpAny_execs_nil ⟨σ1,H2,I2,q2⟩
end
structure It where
 go:Nat→Hp→Prop
 J3:Nat→Hp→V→Hp→Prop
 stop:Nat→Hp→Prop
def nH(X:Cx)(pins:List (Addr × Obj))(H:Hp)(b:Addr):Prop :=
 H b=none∧b≠X.env.locals∧b∉X.fs∧(b∈X.ex∨X.s₀.heap.objs.size≤b)∧(∀ x c,X.env.cells.lookup x=some c→c≠b)∧∀ p∈X.pn++pins,p.1≠b
theorem Inv.J4{X:Cx}{pins:List (Addr × Obj)}{σ:St}{H H':Hp}{s:Shared}{b:Addr}(I:Inv X pins σ H s)(hb:s.heap.objs.size≤b)(hn:H' b=none):nH X pins H' b:=by
 refine⟨hn,Nat.ne_of_gt (rB I.lt hb),I.Xo hb,.inr (kT I.sz hb),fun x c e z=>?_,fun p hp z=>?_⟩
 ·obtain⟨v,q⟩:=I.cell x c e
  exact absurd (rB q.lt (by rw[z];exact hb)) (Nat.lt_irrefl _)
 ·exact absurd (rB (Heap.lt_size (I.pin p hp).1) (by rw[z];exact hb)) (Nat.lt_irrefl _)
structure Turn(P:Program)(w:World)(K:PySem.W.Frag)(tg:Expr)(J:It)(fp:List Addr)(it:Addr)(tn:Nat→Heap→Prop):Prop where
 mem:it∈fp
 obj:∀ i h,tn i h→∀ b∈fp,∃ o,h.get? b=some o∧∀ v,o.data≠.cell v
 keep:∀ i h h',tn i h→(∀ b∈fp,∀ o,h.get? b=some o→h'.get? b=some o)→tn i h'
 item:∀ (X:Cx),X.prog=P→X.w=w→X.K=K→X.calm=true→∀ (i:Nat) (pins:List (Addr × Obj)) (s:Shared) (σ:St) (H:Hp) (E:Value→Shared→Prop),Inv X pins σ H s→(∀ b∈fp,nH X pins H b)→tn i s.heap→J.go i H →
  wpAny (model P w) X.A (pyNext (.ref it)) (fun r s1=>∃ u,r=some u ∧
   wpAny (model P w) X.A (letOwnedTupleGo tg (.ref it) u) (fun _ s2=>∃ x H',Inv X pins σ H' s2∧RelV x u∧J.J3 i H x H'∧tn (i+1) s2.heap∧∀ b∈fp,H' b=none) E s1) E s
 done:∀ (X:Cx),X.prog=P→X.w=w→X.K=K→X.calm=true→∀ (i:Nat) (pins:List (Addr × Obj)) (s:Shared) (σ:St) (H:Hp) (E:Value→Shared→Prop),Inv X pins σ H s→(∀ b∈fp,nH X pins H b)→tn i s.heap→J.stop i H →
  wpAny (model P w) X.A (pyNext (.ref it)) (fun r s1=>r=none∧Inv X pins σ H s1) E s
 self:∀ (A:Around) (i:Nat) (s:Shared) (Q:Value→Shared→Prop) (E:Value→Shared→Prop),tn i s.heap→Q (.ref it) s→wpAny (model P w) A (pyIter (.ref it)) Q E s
abbrev TI:=St→Hp→(It→Hp→Prop)→Prop
def XE(X:Cx)(pins:List (Addr × Obj))(σ:St)(tg:Expr)(R:It→Hp→Prop)(itv:Value)(s2:Shared):Prop :=
 ∃ (it:Addr) (fp:List Addr) (tn:Nat→Heap→Prop) (J:It) (H':Hp),itv=.ref it∧Inv X pins σ H' s2∧Turn X.prog X.w X.K tg J fp it tn∧tn 0 s2.heap∧(∀ b∈fp,nH X pins H' b)∧R J H'
def PI(X:Cx)(tg iter:Expr)(wi:TI):Prop :=
 ∀ (pins:List (Addr × Obj)) (s:Shared) (σ:St) (H:Hp) (R:It→Hp→Prop),Inv X pins σ H s→wi σ H R →
  wpAny (model X.prog X.w) X.A (eval iter X.env) (fun v s1=>wpAny (model X.prog X.w) X.A (pyIter v) (XE X pins σ tg R) X.xe s1) X.xe s
theorem E7{M:Model}{A:Around}{E:Value→Shared→Prop}{s:Shared}{tg:Expr}{it:Addr}{u:Value}{o:Obj}{n:String}{vs:Array Value}{Q:Unit→Shared→Prop}(ho:s.heap.get? it=some o)(hc:o.cls=.type n)(hd:o.data=.fields vs)
  (hn:["enumerate","zip","dict_itemiterator","dict_reverseitemiterator","odict_iterator","itertools.zip_longest","itertools.pairwise"].contains n=false) (hQ:Q () s):wpAny M A (letOwnedTupleGo tg (.ref it) u) Q E s:=by
 unfold letOwnedTupleGo
 cases tg <;> first
  | exact wpAny_pure hQ
  | (cases u <;> first
    | exact wpAny_pure hQ
    | (refine wpAny_bind (wpAny_load ho ?_);rw[hc,hd];show wpAny M A (if (["enumerate","zip","dict_itemiterator","dict_reverseitemiterator","odict_iterator","itertools.zip_longest","itertools.pairwise"].contains n&&vs[0]? == some (rawInt _))=true then _ else _) Q E s;rw[if_neg (by intro h;rw[hn,Bool.false_and]at h;cases h)];exact wpAny_pure hQ))
def J5(K:PySem.W.Frag)(a:Addr):It :=
 ⟨fun i H=>∃ xs x,bN K H a xs∧xs[i]?=some x,fun i H x H'=>H'=H∧∀ xs,bN K H a xs→xs[i]?=some x,fun i H=>∃ xs,bN K H a xs∧xs.length≤i⟩
def T4(K:PySem.W.Frag)(a:Addr):It :=
 ⟨fun i H=>∃ xs x,jW K H a xs∧xs[i]?=some x,fun i H x H'=>H'=H∧∀ xs,jW K H a xs→xs[i]?=some x,fun i H=>∃ xs,jW K H a xs∧xs.length≤i⟩
def J6(lo:Int)(n:Nat):It:=⟨fun i _=>i<n,fun i H x H'=>H'=H∧x=.int (lo+i),fun i _=>n≤i⟩
theorem J7{P:Program}{w:World}{K:PySem.W.Frag}{tg:Expr}(a it:Addr):Turn P w K tg (J5 K a) [it] it (fun i h=>h.IsListIter it a i) where
 mem:=by simp
 obj:=fun i h st b hb=>by
  have e:b=it:=by simpa using hb
  subst e
  obtain⟨o,e,c,d⟩:=st
  exact⟨o,e,fun v z=>by rw[d]at z;cases z⟩
 keep:=fun i h h' st k=>st.at fun o e=>k it (by simp) o e
 item:=by
  intro X hP hw hK hc i pins s σ H E I hf st hg
  subst hP hw hK
  obtain⟨xs,x,hq,hx⟩:=hg
  obtain⟨its,rv,p,hz⟩:=I.list hq
  obtain⟨u,hu,ru⟩:=rv.get hx
  obtain⟨f0,f1,f2,f3,f4,f5⟩:=hf it (by simp)
  refine wpAny_pyNext_list_item st p.isList (x:=u) (by simpa using hu) fun h' st' sb=>?_
  have I1:Inv X pins σ H { s with heap:=h' }:=I.turned (t':=s.toks) (fun b o hb e=>(sb.2 b hb).trans e) f0 f1 f3 f4 f5
  obtain⟨o,e,c,d⟩:=id st'
  exact⟨u,rfl,E7 (s:={ s with heap:=h' }) e c d (by decide) ⟨x,H,I1,ru,⟨rfl,fun ys hy=>by rw[I.E5 hy hq];exact hx⟩,st',fun b hb=>(hf b hb).1⟩⟩
 done:=by
  intro X hP hw hK hc i pins s σ H E I hf st hg
  subst hP hw hK
  obtain⟨xs,hq,hx⟩:=hg
  obtain⟨its,rv,p,hz⟩:=I.list hq
  obtain⟨f0,f1,f2,f3,f4,f5⟩:=hf it (by simp)
  have hl:=rv.length
  exact wpAny_pyNext_list_end (I.ok.hd hc) st p.isList (by simp;omega) fun h' eb=>⟨rfl,I.turned (t':=s.toks) (fun b o hb e=>eb b o hb e) f0 f1 f3 f4 f5⟩
 self:=fun _ _ _ _ _ st h=>wpAny_pyIter_listiter st h
theorem Hi{P:Program}{w:World}{K:PySem.W.Frag}{tg:Expr}(a it:Addr):Turn P w K tg (T4 K a) [it] it (fun i h=>h.IsTupleIter it a i) where
 mem:=by simp
 obj:=fun i h st b hb=>by
  have e:b=it:=by simpa using hb
  subst e
  obtain⟨o,e,c,d⟩:=st
  exact⟨o,e,fun v z=>by rw[d]at z;cases z⟩
 keep:=fun i h h' st k=>st.at fun o e=>k it (by simp) o e
 item:=by
  intro X hP hw hK hc i pins s σ H E I hf st hg
  subst hP hw hK
  obtain⟨xs,x,hq,hx⟩:=hg
  obtain⟨its,rv,p,hz⟩:=I.tuple hq
  obtain⟨u,hu,ru⟩:=rv.get hx
  obtain⟨f0,f1,f2,f3,f4,f5⟩:=hf it (by simp)
  refine wpAny_pyNext_tuple_item st (show s.heap.IsTuple a its.toArray from p) (x:=u) (by simpa using hu) fun h' st' sb=>?_
  have I1:Inv X pins σ H { s with heap:=h' }:=I.turned (t':=s.toks) (fun b o hb e=>(sb.2 b hb).trans e) f0 f1 f3 f4 f5
  obtain⟨o,e,c,d⟩:=id st'
  exact⟨u,rfl,E7 (s:={ s with heap:=h' }) e c d (by decide) ⟨x,H,I1,ru,⟨rfl,fun ys hy=>by rw[I.Cd hy hq];exact hx⟩,st',fun b hb=>(hf b hb).1⟩⟩
 done:=by
  intro X hP hw hK hc i pins s σ H E I hf st hg
  subst hP hw hK
  obtain⟨xs,hq,hx⟩:=hg
  obtain⟨its,rv,p,hz⟩:=I.tuple hq
  obtain⟨f0,f1,f2,f3,f4,f5⟩:=hf it (by simp)
  have hl:=rv.length
  exact wpAny_pyNext_tuple_end (I.ok.hd hc) st (show s.heap.IsTuple a its.toArray from p) (by simp;omega) fun h' eb=>⟨rfl,I.turned (t':=s.toks) (fun b o hb e=>eb b o hb e) f0 f1 f3 f4 f5⟩
 self:=fun _ _ _ _ _ st h=>wpAny_pyIter_tupleiter st h
theorem zZ{P:Program}{w:World}{K:PySem.W.Frag}{tg:Expr}(it:Addr)(lo:Int)(n:Nat):Turn P w K tg (J6 lo n) [it] it (fun i h=>IsRangeIter h it (lo+(i:Nat)*1) ((n:Int)-(i:Nat)) 1) where
 mem:=by simp
 obj:=fun i h st b hb=>by
  have e:b=it:=by simpa using hb
  subst e
  exact⟨_,st,fun v z=>by
   have z':Data.fields _=Data.cell v:=z
   cases z'⟩
 keep:=fun i h h' st k=>k it (by simp) _ st
 item:=by
  intro X hP hw hK hc i pins s σ H E I hf st hg
  subst hP hw hK
  obtain⟨f0,f1,f2,f3,f4,f5⟩:=hf it (by simp)
  have W:=Walks.range (prog:=X.prog) (w:=X.w) (I.ok.hd hc) it lo 1 n
  refine W.item i s _ _ hg st fun v h' tk hv st' kk=>?_
  obtain⟨t,rfl⟩:=hv
  have I1:Inv X pins σ H { s with heap:=h',toks:=tk }:=I.turned (fun b o hb e=>kk b o (by simpa using hb) e) f0 f1 f3 f4 f5
  refine⟨_,rfl,E7 (s:={ s with heap:=h',toks:=tk }) (n:="range_iterator") st' rfl rfl (by decide) ⟨.int (lo+i),H,I1,⟨t,?_⟩,⟨rfl,rfl⟩,st',fun b hb=>(hf b hb).1⟩⟩
  rw[Int.mul_one]
 done:=by
  intro X hP hw hK hc i pins s σ H E I hf st hg
  subst hP hw hK
  obtain⟨f0,f1,f2,f3,f4,f5⟩:=hf it (by simp)
  exact wpAny_pyNext_range_end (I.ok.hd hc) st (by have:n≤i:=hg;omega) fun h' eb=>⟨rfl,I.turned (t':=s.toks) (fun b o hb e=>eb b o hb e) f0 f1 f3 f4 f5⟩
 self:=fun _ _ _ _ _ st h=>wpAny_pyIter_rangeiter st h
end L2
namespace L2
open PySem PySem.Spec PyProof.Rows
section
variable {X:Cx} {tg:Expr}
inductive isL(K:PySem.W.Frag)(x:V)(H:Hp)(R:It→Hp→Prop):Prop
 | mk (a:Addr) (_:x=.ref a) (_:∃ xs,bN K H a xs) (_:R (J5 K a) H):isL K x H R
def Pz(K:PySem.W.Frag)(tl:TE):TI:=fun σ H R=>tl σ H fun x H1=>isL K x H1 R
def XF(K:PySem.W.Frag)(tl:TE):TI:=fun σ H R=>tl σ H fun x H1=>∃ a,x=.ref a∧(∃ xs,jW K H1 a xs)∧R (T4 K a) H1
theorem cM{l:Expr}{tl:TE}(hl:PE X l tl):PI X tg l (Pz X.K tl):=by
 intro pins s σ H R I h
 refine cu (hl pins s σ H _ I h) fun v s1 ⟨x,H1,I1,r1,q1⟩=>?_
 obtain⟨a,e,⟨xs,hq⟩,q⟩:=q1
 subst e
 cases r1
 obtain⟨its,rv,p,hz⟩:=I1.list hq
 refine wpAny_pyIter_list p.isList ?_
 refine⟨s1.heap.objs.size,[s1.heap.objs.size],_,_,H1,rfl,I1.kept (t':=s1.toks) fun b o e=>Heap.get?_push_of_some _ e,J7 a _,⟨_,Heap.get?_push_size _ rfl,rfl,rfl⟩,fun b hb=>?_,q⟩
 have e:b=s1.heap.objs.size:=by simpa using hb
 subst e
 exact I1.J4 (gQ _) (I1.hok.fresh (gQ _))
theorem QO{l:Expr}{tl:TE}(hl:PE X l tl):PI X tg l (XF X.K tl):=by
 intro pins s σ H R I h
 refine cu (hl pins s σ H _ I h) fun v s1 ⟨x,H1,I1,r1,q1⟩=>?_
 obtain⟨a,e,⟨xs,hq⟩,q⟩:=q1
 subst e
 cases r1
 obtain⟨its,rv,p,hz⟩:=I1.tuple hq
 refine wpAny_pyIter_tuple (show s1.heap.IsTuple a its.toArray from p) ?_
 refine⟨s1.heap.objs.size,[s1.heap.objs.size],_,_,H1,rfl,I1.kept (t':=s1.toks) fun b o e=>Heap.get?_push_of_some _ e,Hi a _,⟨_,Heap.get?_push_size _ rfl,rfl,rfl⟩,fun b hb=>?_,q⟩
 have e:b=s1.heap.objs.size:=by simpa using hb
 subst e
 exact I1.J4 (gQ _) (I1.hok.fresh (gQ _))
theorem LL{pins:List (Addr × Obj)}{σ:St}{H:Hp}{s:Shared}{R:It→Hp→Prop}{E:Value→Shared→Prop}{lo hi:Int}{t u v:Tok}{tk:Nat}(I:Inv X pins σ H s)(h1:-(2^62)≤lo)(h2:lo<2^62)(h3:-(2^62)≤hi)(h4:hi<2^62)
  (q:R (J6 lo (hi-lo).toNat) H):wpAny (model X.prog X.w) X.A (pyIter (.ref s.heap.objs.size)) (XE X pins σ tg R) E { s with heap:=s.heap.push { cls:=.type "range",data:=.fields #[.int lo t,.int hi u,.int 1 v] },toks:=tk }:=by
 refine wpAny_pyIter_range (IsRange.new ..) (small_one h1 h2 h3 h4) ?_
 have I1:Inv X pins σ H { s with heap:=s.heap.push { cls:=.type "range",data:=.fields #[.int lo t,.int hi u,.int 1 v] },toks:=tk }:=I.kept fun b o e=>Heap.get?_push_of_some _ e
 refine⟨(s.heap.push { cls:=.type "range",data:=.fields #[.int lo t,.int hi u,.int 1 v] }).objs.size,[(s.heap.push { cls:=.type "range",data:=.fields #[.int lo t,.int hi u,.int 1 v] }).objs.size],_,_,H,rfl,
  I1.kept (t':=tk) fun b o e=>Heap.get?_push_of_some _ e,zZ _ lo (hi-lo).toNat,?_,fun b hb=>?_,q⟩
 ·have e1:lo+((0:Nat):Int)*1=lo:=by simp
  have e2:(((hi-lo).toNat:Nat):Int)-((0:Nat):Int)=Builtin.Range.rangeSize lo hi 1:=by rw[rangeSize_one];split <;> omega
  show IsRangeIter _ _ (lo+((0:Nat):Int)*1) ((((hi-lo).toNat:Nat):Int)-((0:Nat):Int)) 1
  rw[e1,e2]
  exact Heap.get?_push_size _ rfl
 ·have e:b=(s.heap.push { cls:=.type "range",data:=.fields #[.int lo t,.int hi u,.int 1 v] }).objs.size:=by simpa using hb
  subst e
  exact I1.J4 (gQ _) (I1.hok.fresh (gQ _))
inductive isR(vs:List V)(H:Hp)(R:It→Hp→Prop):Prop
 | mk (j:Int) (_:vs=[.int j]) (_:-(2^62)≤j) (_:j<2^62) (_:R (J6 0 j.toNat) H):isR vs H R
def T5(ta:TA):TI:=fun σ H R=>ta σ H fun vs H1=>isR vs H1 R
theorem oG{a:Expr}{ta:TA}{p pos:Pos}(hg:Gl X "range")(hm:X.mg "range"=none)(ha:PA X [a] ta)(hs:starEach [a] X.env=[(false,eval a X.env)]:=by rfl):PI X tg (.Call (.Name "range" p) [a] [] pos) (T5 ta):=by
 intro pins s σ H R I h
 refine Call_ (xu I hg hm boot_range (PyProof.Rows.callWith_type1 (cu (ha pos pins s σ H _ I h) fun us s1 ⟨vs,H1,I1,r1,q1⟩=>?_) hs rfl))
 obtain⟨j,e,q1,q2,q⟩:=q1
 subst e
 cases r1 with
 | cons r rr =>
  cases rr
  obtain⟨t,rfl⟩:=r
  exact call_range_1 (LL I1 (by omega) (by omega) q1 q2 (by simpa using q))
def XG(wi:TI)(g:TG)(tb:TS):TS:=fun D σ H=>wi σ H fun J H1=>∃ W:Nat→Nat→St→Hp→Prop,(∃ m,W 0 m σ H1)∧∀ i m σ H,W i m σ H →
 (J.stop i H∧D.nx σ H)∨(J.go i H∧∃ N:St→Hp→Prop,(∀ σ' H',N σ' H'→∃ m',m'<m∧W (i+1) m' σ' H')∧∀ x H',J.J3 i H x H'→g x σ H' fun σ2 H2=>tb { D with nx:=N,ct:=N,bk:=D.nx } σ2 H2)
def rE(fp:List Addr)(h:Heap):List (Addr × Obj):=fp.filterMap fun b=>(h.get? b).map fun o=>(b,o)
theorem eE{fp:List Addr}{h:Heap}{b:Addr}{o:Obj}(hb:b∈fp)(e:h.get? b=some o):(b,o)∈rE fp h:=List.mem_filterMap.mpr ⟨b,hb,by rw[e];rfl⟩
theorem J8{fp:List Addr}{h:Heap}{p:Addr × Obj}(hp:p∈rE fp h):p.1∈fp∧h.get? p.1=some p.2:=by
 obtain⟨b,hb,e⟩:=List.mem_filterMap.mp hp
 cases q:h.get? b with
 | none=>rw[q]at e;cases e
 | some o =>
  rw[q]at e
  have e':(b,o)=p:=sM e
  subst e'
  exact⟨hb,q⟩
theorem Inv.pinned{pins:List (Addr × Obj)}{σ:St}{H:Hp}{s:Shared}{fp:List Addr}(I:Inv X pins σ H s)(hf:∀ b∈fp,nH X pins H b)(ho:∀ b∈fp,∃ o,s.heap.get? b=some o∧∀ v,o.data≠.cell v):Inv X (pins++rE fp s.heap) σ H s :=
 I.IJ fun p hp=>(List.mem_append.mp hp).elim (fun z=>I.pin p (mW _ z)) fun z=>by
  obtain⟨hb,e⟩:=J8 z
  obtain⟨f0,f1,f2,_⟩:=hf p.1 hb
  obtain⟨o,e',d⟩:=ho p.1 hb
  rw[e]at e';cases e'
  exact⟨e,f0,f1,f2,d⟩
theorem Inv.mX{pins pl:List (Addr × Obj)}{σ:St}{H:Hp}{s:Shared}(I:Inv X (pins++pl) σ H s):Inv X pins σ H s:=I.IJ fun p hp=>I.pin p (mW _ (List.mem_append_left _ hp))
theorem jr{iter:Expr}{body:List Stmt}{wi:TI}{g:TG}{tb:TS}{pos:Pos}(hp:PassesOwn (model X.prog X.w) X.A X.env X.xe)(hc:X.calm=true)(hi:PI X tg iter wi)(hg:PG X tg g)(hb:IK X body tb)
  (hs:∀ x,foldedSetIterable iter X.env x=pure x:=by intro _;rfl):PS X (.For tg iter body [] pos) (XG wi g tb):=by
 intro pins s σ H D I h
 refine wpAny_For (cu (hi pins s σ H _ I h) fun v s1 h1=>cu h1 fun itv s2 h2=>?_) hs
 obtain⟨it,fp,tn,J,H2,e,I2,T,st2,f2,W,⟨m0,w0⟩,turn⟩:=h2
 subst e
 have oO:∀ {H':Hp},(∀ b∈fp,H' b=none)→∀ b∈fp,nH X pins H' b:=fun hn b hb=>⟨hn b hb,(f2 b hb).2⟩
 refine codeAny_forLoop_any (fun n s'=>∃ i σ' H',Inv X pins σ' H' s'∧tn i s'.heap∧(∀ b∈fp,H' b=none)∧W i n σ' H') ?_ m0 ⟨0,σ,H2,I2,st2,fun b hb=>(f2 b hb).1,w0⟩
 rintro n s3 ⟨i,σ3,H3,I3,st3,Wy,w3⟩
 rcases turn i n σ3 H3 w3 with ⟨stop,qn⟩|⟨go,N,hN,step⟩
 ·refine wpAny_passesOwn hp (cu (T.done X rfl rfl rfl hc i pins s3 σ3 H3 X.xe I3 (oO Wy) st3 stop) fun r s4 ⟨hr,I4⟩=>?_)
  subst hr
  exact wpAny_execs_nil ⟨σ3,H3,I4,qn⟩
 ·refine wpAny_passesOwn hp (cu (T.item X rfl rfl rfl hc i pins s3 σ3 H3 X.xe I3 (oO Wy) st3 go) fun r s4 ⟨u,hr,h4⟩=>?_)
  subst hr
  refine wpAny_passesOwn hp (cu h4 fun _ s5 ⟨x,H5,I5,r5,y5,SQ,T6⟩=>?_)
  have I5':=I5.pinned (oO T6) (T.obj _ _ SQ)
  refine wpAny_passesOwn hp (cu (hg _ s5 σ3 H5 x u _ I5' r5 (step x H5 y5)) fun _ s6 ⟨σ6,H6,I6,q6⟩=>?_)
  refine wpAny_passesOwn hp (cu (hb _ s6 σ6 H6 _ I6 q6) fun f s7 q7=>?_)
  have again:∀ {σ7:St} {H7:Hp},Inv X (pins++rE fp s5.heap) σ7 H7 s7→N σ7 H7→∃ m,m<n∧∃ i σ' H',Inv X pins σ' H' s7∧tn i s7.heap∧(∀ b∈fp,H' b=none)∧W i m σ' H':=fun {σ7 H7} I7 n7=>by
   obtain⟨m',hm,w7⟩:=hN σ7 H7 n7
   refine⟨m',hm,i+1,σ7,H7,I7.mX,T.keep _ _ _ SQ fun b hb o e=>(I7.pin (b,o) (mW _ (mW _ (eE hb e)))).1,fun b hb=>?_,w7⟩
   obtain⟨o,e,d⟩:=T.obj _ _ SQ b hb
   exact (I7.pin (b,o) (mW _ (mW _ (eE hb e)))).2.1
  cases f with
  | next=>obtain⟨σ7,H7,I7,n7⟩:=q7;exact again I7 n7
  | cont=>obtain⟨σ7,H7,I7,n7⟩:=q7;exact again I7 n7
  | brk=>obtain⟨σ7,H7,I7,q7⟩:=q7;exact⟨σ7,H7,I7.mX,q7⟩
  | ret v=>obtain⟨x7,σ7,H7,I7,r7,q7⟩:=q7;exact⟨x7,σ7,H7,I7.mX,r7,q7⟩
end
theorem jy{K:PySem.W.Frag}{a:Addr}{xs:List V}{g:TG}{tb:TS}{D:Ends}{σ:St}{H:Hp}(Pv:Nat→St→Hp→Prop)(h0:Pv 0 σ H)(hl:∀ i σ H,i≤xs.length→Pv i σ H→bN K H a xs)
  (hs:∀ i x σ H,xs[i]?=some x→Pv i σ H→g x σ H fun σ2 H2=>tb { D with nx:=Pv (i+1),ct:=Pv (i+1),bk:=D.nx } σ2 H2) (hd:∀ σ H,Pv xs.length σ H→D.nx σ H) :
  ∃ W:Nat→Nat→St→Hp→Prop,(∃ m,W 0 m σ H)∧∀ i m σ H,W i m σ H →
   ((J5 K a).stop i H∧D.nx σ H)∨((J5 K a).go i H∧∃ N:St→Hp→Prop,(∀ σ' H',N σ' H'→∃ m',m'<m∧W (i+1) m' σ' H')∧∀ x H',(J5 K a).J3 i H x H'→g x σ H' fun σ2 H2=>tb { D with nx:=N,ct:=N,bk:=D.nx } σ2 H2):=by
 refine⟨fun i m σ H=>m=xs.length-i∧i≤xs.length∧Pv i σ H,⟨xs.length,by simp,lI _,h0⟩,?_⟩
 rintro i m σ H ⟨rfl,hi,p⟩
 have q:=hl i σ H hi p
 by_cases hlt:i<xs.length
 ·refine .inr ⟨⟨xs,xs[i],q,by simp[hlt]⟩,Pv (i+1),fun σ' H' p'=>⟨xs.length-(i+1),by omega,rfl,hlt,p'⟩,fun x H' y=>?_⟩
  obtain⟨e,y⟩:=y
  subst e
  exact hs i x σ _ (y xs q) p
 ·have e:i=xs.length:=by omega
  subst e
  exact .inl ⟨⟨xs,q,gQ _⟩,hd σ H p⟩
theorem NZ{K:PySem.W.Frag}{a:Addr}{xs:List V}{g:TG}{tb:TS}{D:Ends}{σ:St}{H:Hp}(Pv:Nat→St→Hp→Prop)(h0:Pv 0 σ H)(hl:∀ i σ H,i≤xs.length→Pv i σ H→jW K H a xs)
  (hs:∀ i x σ H,xs[i]?=some x→Pv i σ H→g x σ H fun σ2 H2=>tb { D with nx:=Pv (i+1),ct:=Pv (i+1),bk:=D.nx } σ2 H2) (hd:∀ σ H,Pv xs.length σ H→D.nx σ H) :
  ∃ W:Nat→Nat→St→Hp→Prop,(∃ m,W 0 m σ H)∧∀ i m σ H,W i m σ H →
   ((T4 K a).stop i H∧D.nx σ H)∨((T4 K a).go i H∧∃ N:St→Hp→Prop,(∀ σ' H',N σ' H'→∃ m',m'<m∧W (i+1) m' σ' H')∧∀ x H',(T4 K a).J3 i H x H'→g x σ H' fun σ2 H2=>tb { D with nx:=N,ct:=N,bk:=D.nx } σ2 H2):=by
 refine⟨fun i m σ H=>m=xs.length-i∧i≤xs.length∧Pv i σ H,⟨xs.length,by simp,lI _,h0⟩,?_⟩
 rintro i m σ H ⟨rfl,hi,p⟩
 have q:=hl i σ H hi p
 by_cases hlt:i<xs.length
 ·refine .inr ⟨⟨xs,xs[i],q,by simp[hlt]⟩,Pv (i+1),fun σ' H' p'=>⟨xs.length-(i+1),by omega,rfl,hlt,p'⟩,fun x H' y=>?_⟩
  obtain⟨e,y⟩:=y
  subst e
  exact hs i x σ _ (y xs q) p
 ·have e:i=xs.length:=by omega
  subst e
  exact .inl ⟨⟨xs,q,gQ _⟩,hd σ H p⟩
theorem qE{lo:Int}{n:Nat}{g:TG}{tb:TS}{D:Ends}{σ:St}{H:Hp}(Pv:Nat→St→Hp→Prop)(h0:Pv 0 σ H)
  (hs:∀ i σ H,i<n→Pv i σ H→g (.int (lo+i)) σ H fun σ2 H2=>tb { D with nx:=Pv (i+1),ct:=Pv (i+1),bk:=D.nx } σ2 H2) (hd:∀ σ H,Pv n σ H→D.nx σ H) :
  ∃ W:Nat→Nat→St→Hp→Prop,(∃ m,W 0 m σ H)∧∀ i m σ H,W i m σ H →
   ((J6 lo n).stop i H∧D.nx σ H)∨((J6 lo n).go i H∧∃ N:St→Hp→Prop,(∀ σ' H',N σ' H'→∃ m',m'<m∧W (i+1) m' σ' H')∧∀ x H',(J6 lo n).J3 i H x H'→g x σ H' fun σ2 H2=>tb { D with nx:=N,ct:=N,bk:=D.nx } σ2 H2):=by
 refine⟨fun i m σ H=>m=n-i∧i≤n∧Pv i σ H,⟨n,by simp,lI _,h0⟩,?_⟩
 rintro i m σ H ⟨rfl,hi,p⟩
 by_cases hlt:i<n
 ·refine .inr ⟨hlt,Pv (i+1),fun σ' H' p'=>⟨n-(i+1),by omega,rfl,hlt,p'⟩,fun x H' y=>?_⟩
  obtain⟨e,y⟩:=y
  subst e y
  exact hs i σ _ hlt p
 ·have e:i=n:=by omega
  subst e
  exact .inl ⟨Nat.le_refl _,hd σ H p⟩
end L2
namespace L2
open PySem PySem.Spec PyProof.Rows
abbrev R2:=V→V→Hp→VK→Prop
def v7(X:Cx)(f:Value→Value→Sem Value)(r:R2):Prop :=
 ∀ (pins:List (Addr × Obj)) (s:Shared) (σ:St) (H:Hp) (x y:V) (v u:Value) (Q:VK),Inv X pins σ H s→RelV x v→RelV y u→r x y H Q →
  wpAny (model X.prog X.w) X.A (f v u) (EP X pins σ Q) X.xe s
def XH(X:Cx)(f:Value→Sem Value)(r:V→Hp→VK→Prop):Prop :=
 ∀ (pins:List (Addr × Obj)) (s:Shared) (σ:St) (H:Hp) (x:V) (v:Value) (Q:VK),Inv X pins σ H s→RelV x v→r x H Q →
  wpAny (model X.prog X.w) X.A (f v) (EP X pins σ Q) X.xe s
def nO(X:Cx)(f:Value)(r:List V→Hp→VK→Prop):Prop :=
 ∀ (pins:List (Addr × Obj)) (s:Shared) (σ:St) (H:Hp) (xs:List V) (us:List Value) (Q:VK),Inv X pins σ H s→Vals xs us→r xs H Q →
  wpAny (model X.prog X.w) X.A (call f us) (EP X pins σ Q) X.xe s
def XJ(X:Cx)(r:V→Hp→(Bool→Hp→Prop)→Prop):Prop :=
 ∀ (pins:List (Addr × Obj)) (s:Shared) (σ:St) (H:Hp) (x:V) (v:Value) (Q:Bool→Hp→Prop),Inv X pins σ H s→RelV x v→r x H Q →
  wpAny (model X.prog X.w) X.A (truthy v) (TP X pins σ Q) X.xe s
def SR(r:R2)(ta tb:TE):TE:=fun σ H Q=>ta σ H fun x H1=>tb σ H1 fun y H2=>r x y H2 Q
def tUn(r:V→Hp→VK→Prop)(ta:TE):TE:=fun σ H Q=>ta σ H fun x H1=>r x H1 Q
inductive rI(C:Int→Int→Prop)(g:Int→Int→V)(x y:V)(H:Hp)(Q:VK):Prop
 | mk (i j:Int) (_:x=.int i) (_:y=.int j) (_:C i j) (_:Q (g i j) H):rI C g x y H Q
inductive N1(g:Int→Int→V)(x y:V)(H:Hp)(Q:VK):Prop
 | mk (i j:Int) (_:x=.int i) (_:y=.int j) (_:Q (g i j) H):N1 g x y H Q
def rU(g:Int→V):V→Hp→VK→Prop:=fun x H Q=>∃ i,x=.int i∧Q (g i) H
section
variable {X:Cx} {a b c:Expr} {ta tb tc:TE} {pos:Pos}
theorem QS(ha:PE X a ta)(hb:PE X b tb){pins:List (Addr × Obj)}{s:Shared}{σ:St}{H:Hp}{R:V→V→Hp→Prop}(I:Inv X pins σ H s)
  (h:ta σ H fun x H1=>tb σ H1 fun y H2=>R x y H2) {Q:Value→Shared→Prop} {f:Value→Value→Sem Value}
  (hf:∀ v u s2 x y H2,Inv X pins σ H2 s2→RelV x v→RelV y u→R x y H2→wpAny (model X.prog X.w) X.A (f v u) Q X.xe s2) :
  wpAny (model X.prog X.w) X.A (eval a X.env) (fun v s₁=>wpAny (model X.prog X.w) X.A (eval b X.env) (fun u s₂=>wpAny (model X.prog X.w) X.A (f v u) Q X.xe s₂) X.xe s₁) X.xe s:=by
 refine cu (ha pins s σ H _ I h) fun v s1 ⟨x,H1,I1,r1,q1⟩=>?_
 refine cu (hb pins s1 σ H1 _ I1 q1) fun u s2 ⟨y,H2,I2,r2,q2⟩=>?_
 exact hf v u s2 x y H2 I2 r1 r2 q2
theorem bw{op:Operator}{r:R2}(ho:v7 X (binaryOp op) r)(ha:PE X a ta)(hb:PE X b tb):PE X (.BinOp a op b pos) (SR r ta tb):=by
 intro pins s σ H Q I h
 exact wpAny_BinOp (QS ha hb I h fun v u s2 x y H2 I2 rx ry q=>ho pins s2 σ H2 x y v u Q I2 rx ry q)
theorem uI{op:UnaryOp}{r:V→Hp→VK→Prop}(ho:XH X (unaryOp op) r)(ha:PE X a ta):PE X (.UnaryOp op a pos) (tUn r ta):=by
 intro pins s σ H Q I h
 exact UnaryOp_ (cu (ha pins s σ H _ I h) fun v s1 ⟨x,H1,I1,r1,q1⟩=>ho pins s1 σ H1 x v Q I1 r1 q1)
theorem Wz{f:Value→Value→Sem Value}{C:Int→Int→Prop}{g:Int→Int→Int}
  (rule:∀ (i j:Int) (t u:Tok) (s:Shared) (Q:Value→Shared→Prop) (E:Value→Shared→Prop),C i j→Q (.int (g i j) s.toks) { s with toks:=s.toks+1 }→wpAny (model X.prog X.w) X.A (f (.int i t) (.int j u)) Q E s) :
  v7 X f (rI C fun i j=>.int (g i j)):=by
 intro pins s σ H x y v u Q I rx ry h
 obtain⟨i,j,rfl,rfl,hc,q⟩:=h
 obtain⟨t,rfl⟩:=rx
 obtain⟨t',rfl⟩:=ry
 exact rule i j t t' s _ _ hc ⟨.int (g i j),H,I.tok _,⟨_,rfl⟩,q⟩
theorem T7{f:Value→Value→Sem Value}{g:Int→Int→Int}
  (rule:∀ (i j:Int) (t u:Tok) (s:Shared) (Q:Value→Shared→Prop) (E:Value→Shared→Prop),Q (.int (g i j) s.toks) { s with toks:=s.toks+1 }→wpAny (model X.prog X.w) X.A (f (.int i t) (.int j u)) Q E s) :
  v7 X f (N1 fun i j=>.int (g i j)):=by
 intro pins s σ H x y v u Q I rx ry h
 obtain⟨i,j,rfl,rfl,q⟩:=h
 obtain⟨t,rfl⟩:=rx
 obtain⟨t',rfl⟩:=ry
 exact rule i j t t' s _ _ ⟨.int (g i j),H,I.tok _,⟨_,rfl⟩,q⟩
theorem N3{f:Value→Value→Sem Value}{g:Int→Int→Bool}
  (rule:∀ (i j:Int) (t u:Tok) (s:Shared) (Q:Value→Shared→Prop) (E:Value→Shared→Prop),Q (.bool (g i j)) s→wpAny (model X.prog X.w) X.A (f (.int i t) (.int j u)) Q E s) :
  v7 X f (N1 fun i j=>.bl (g i j)):=by
 intro pins s σ H x y v u Q I rx ry h
 obtain⟨i,j,rfl,rfl,q⟩:=h
 obtain⟨t,rfl⟩:=rx
 obtain⟨t',rfl⟩:=ry
 exact rule i j t t' s _ _ ⟨.bl (g i j),H,I,rfl,q⟩
def XQ(i j:Int):Prop:=0≤j∧j≤1000000∧i.natAbs<2^64
def QT(i j:Int):Prop:=(-(2^64)<i∧i<2^64)∨(-(2^64)<j∧j<2^64)
theorem QT.ok{i j:Int}(h:QT i j):IntMulOk i j:=by
 rcases h with ⟨h1,h2⟩|⟨h1,h2⟩
 ·exact .of_left (intBits_le_64 h1 h2)
 ·exact .of_right (intBits_le_64 h1 h2)
theorem iy:v7 X (binaryOp .Add) (N1 fun i j=>.int (i+j)):=T7 fun _ _ _ _ _ _ _ q=>add_int q
theorem iV:v7 X (binaryOp .Sub) (N1 fun i j=>.int (i-j)):=T7 fun _ _ _ _ _ _ _ q=>sub_int q
theorem Hj:v7 X (binaryOp .Mult) (rI QT fun i j=>.int (i*j)):=Wz fun _ _ _ _ _ _ _ hc q=>mul_int q hc.ok
theorem Aa:v7 X (binaryOp .Mod) (rI (fun _ j=>0<j) fun i j=>.int (i % j)):=Wz fun i j _ _ _ _ _ hc q=>by
 have h1:(0:Int)<j:=hc
 exact mod_int' (by omega) (by rw[Int.fmod_eq_emod_of_nonneg i (by omega)];exact q)
theorem LN:v7 X (binaryOp .Pow) (rI XQ fun i j=>.int (i^j.toNat)):=Wz fun _ _ _ _ _ _ _ hc q=>pow_int_small hc.1 hc.2.1 hc.2.2 q
theorem unI{f:Value→Sem Value}{g:Int→Int}
  (rule:∀ (i:Int) (t:Tok) (s:Shared) (Q:Value→Shared→Prop) (E:Value→Shared→Prop),Q (.int (g i) s.toks) { s with toks:=s.toks+1 }→wpAny (model X.prog X.w) X.A (f (.int i t)) Q E s) :
  XH X f (rU fun i=>.int (g i)):=by
 intro pins s σ H x v Q I rx h
 obtain⟨i,rfl,q⟩:=h
 obtain⟨t,rfl⟩:=rx
 exact rule i t s _ _ ⟨.int (g i),H,I.tok _,⟨_,rfl⟩,q⟩
theorem qw:XH X (unaryOp .USub) (rU fun i=>.int (-i)):=unI fun _ _ _ _ _ q=>neg_int q
end
def T8:V→V→Bool
 | .jw,.jw=>true | .jw,.int _=>true | .int _,.jw=>true | .jw,.bl _=>true | .bl _,.jw=>true | .jw,.str _=>true | .str _,.jw=>true
 | .int _,.int _=>true | .bl _,.bl _=>true | .str _,.str _=>true | .G9 _,.G9 _=>true
 | .int _,.str _=>true | .str _,.int _=>true | .bl _,.str _=>true | .str _,.bl _=>true
 | _,_=>false
def rEq:R2:=fun x y H Q=>T8 x y=true∧Q (.bl (decide (x=y))) H
def rNe:R2:=fun x y H Q=>T8 x y=true∧Q (.bl (!decide (x=y))) H
theorem IM{i j:Int}:decide (V.int i=V.int j)=(i == j):=by
 rw[Bool.eq_iff_iff]
 simp
theorem LO{i j:Bool}:decide (V.bl i=V.bl j)=(i == j):=by
 rw[Bool.eq_iff_iff]
 simp
theorem IP{i j:Str}:decide (V.str i=V.str j)=(i == j):=by
 rw[Bool.eq_iff_iff]
 simp
theorem IQ{i j:Array UInt8}:decide (V.G9 i=V.G9 j)=(i.toList == j.toList):=by
 rw[Bool.eq_iff_iff]
 cases i
 cases j
 simp
section
variable {X:Cx} {a b c:Expr} {ta tb tc:TE} {pos:Pos}
theorem cX{pins:List (Addr × Obj)}{σ:St}{H:Hp}{s:Shared}{Q:VK}{k k':Bool}(I:Inv X pins σ H s)(q:Q (.bl k) H)(e:k=k'):EP X pins σ Q (.bool k') s:=by
 subst e
 exact⟨.bl k,H,I,rfl,q⟩
theorem mY:v7 X (compareOp .Eq) rEq:=by
 intro pins s σ H x y v u Q I rx ry h
 obtain⟨hs,q⟩:=h
 cases x with
 | jw =>
  cases rx
  cases y with
  | jw=>cases ry;exact PySem.EqNone.eq_none_none (cX I q (by simp))
  | bl j=>cases ry;exact PySem.EqNone.eq_none_bool (cX I q (by simp))
  | int j=>obtain⟨t',rfl⟩:=ry;exact PySem.EqNone.eq_none_int (cX I q (by simp))
  | str j=>obtain⟨t',rfl⟩:=ry;exact PySem.EqNone.eq_none_str (cX I q (by simp))
  | _=>exact absurd (show false=true from hs) tP
 | bl i =>
  cases rx
  cases y with
  | jw=>cases ry;exact PySem.EqNone.eq_bool_none (cX I q (by simp))
  | bl j=>cases ry;exact eq_bool (cX I q LO)
  | str j=>obtain⟨t',rfl⟩:=ry;exact PySem.EqMixed.eq_bool_str (cX I q (by simp))
  | _=>exact absurd (show false=true from hs) tP
 | int i =>
  obtain⟨t,rfl⟩:=rx
  cases y with
  | jw=>cases ry;exact PySem.EqNone.eq_int_none (cX I q (by simp))
  | int j=>obtain⟨t',rfl⟩:=ry;exact eq_int (cX I q IM)
  | str j=>obtain⟨t',rfl⟩:=ry;exact PySem.EqMixed.eq_int_str (cX I q (by simp))
  | _=>exact absurd (show false=true from hs) tP
 | str i =>
  obtain⟨t,rfl⟩:=rx
  cases y with
  | jw=>cases ry;exact PySem.EqNone.eq_str_none (cX I q (by simp))
  | bl j=>cases ry;exact PySem.EqMixed.eq_str_bool (cX I q (by simp))
  | int j=>obtain⟨t',rfl⟩:=ry;exact PySem.EqMixed.eq_str_int (cX I q (by simp))
  | str j=>obtain⟨t',rfl⟩:=ry;exact eq_str (cX I q IP)
  | _=>exact absurd (show false=true from hs) tP
 | G9 i =>
  obtain⟨t,rfl⟩:=rx
  cases y with
  | G9 j=>obtain⟨t',rfl⟩:=ry;exact PySem.W.eq_bytes (cX I q IQ)
  | _=>exact absurd (show false=true from hs) tP
 | _=>cases y <;> exact absurd (show false=true from hs) tP
theorem LP:v7 X (compareOp .NotEq) rNe:=by
 intro pins s σ H x y v u Q I rx ry h
 obtain⟨hs,q⟩:=h
 cases x with
 | jw =>
  cases rx
  cases y with
  | jw=>cases ry;exact PySem.EqNone.ne_none_none (cX I q (by simp))
  | bl j=>cases ry;exact PySem.EqNone.ne_none_bool (cX I q (by simp))
  | int j=>obtain⟨t',rfl⟩:=ry;exact PySem.EqNone.ne_none_int (cX I q (by simp))
  | str j=>obtain⟨t',rfl⟩:=ry;exact PySem.EqNone.ne_none_str (cX I q (by simp))
  | _=>exact absurd (show false=true from hs) tP
 | bl i =>
  cases rx
  cases y with
  | jw=>cases ry;exact PySem.EqNone.ne_bool_none (cX I q (by simp))
  | bl j=>cases ry;exact ne_bool (cX I q (congrArg not LO))
  | str j=>obtain⟨t',rfl⟩:=ry;exact PySem.EqMixed.ne_bool_str (cX I q (by simp))
  | _=>exact absurd (show false=true from hs) tP
 | int i =>
  obtain⟨t,rfl⟩:=rx
  cases y with
  | jw=>cases ry;exact PySem.EqNone.ne_int_none (cX I q (by simp))
  | int j=>obtain⟨t',rfl⟩:=ry;exact ne_int (cX I q (congrArg not IM))
  | str j=>obtain⟨t',rfl⟩:=ry;exact PySem.EqMixed.ne_int_str (cX I q (by simp))
  | _=>exact absurd (show false=true from hs) tP
 | str i =>
  obtain⟨t,rfl⟩:=rx
  cases y with
  | jw=>cases ry;exact PySem.EqNone.ne_str_none (cX I q (by simp))
  | bl j=>cases ry;exact PySem.EqMixed.ne_str_bool (cX I q (by simp))
  | int j=>obtain⟨t',rfl⟩:=ry;exact PySem.EqMixed.ne_str_int (cX I q (by simp))
  | str j=>obtain⟨t',rfl⟩:=ry;exact ne_str (cX I q (congrArg not IP))
  | _=>exact absurd (show false=true from hs) tP
 | G9 i =>
  obtain⟨t,rfl⟩:=rx
  cases y with
  | G9 j=>obtain⟨t',rfl⟩:=ry;exact PySem.W.ne_bytes (cX I q (congrArg not IQ))
  | _=>exact absurd (show false=true from hs) tP
 | _=>cases y <;> exact absurd (show false=true from hs) tP
theorem Ab:v7 X (compareOp .Lt) (N1 fun i j=>.bl (decide (i<j))):=N3 fun _ _ _ _ _ _ _ q=>lt_int q
theorem lM:v7 X (compareOp .LtE) (N1 fun i j=>.bl (decide (i≤j))):=N3 fun _ _ _ _ _ _ _ q=>le_int q
theorem Ce:v7 X (compareOp .Gt) (N1 fun i j=>.bl (decide (j<i))):=N3 fun _ _ _ _ _ _ _ q=>gt_int q
theorem PB:v7 X (compareOp .GtE) (N1 fun i j=>.bl (decide (j≤i))):=N3 fun _ _ _ _ _ _ _ q=>ge_int q
theorem bZ(b:Expr){op:CmpOp}(h:op≠.In:=by decide)(h2:op≠.NotIn:=by decide):behindInMarks op b=false:=by
 have e1:(op == CmpOp.In)=false:=by cases op <;> first|rfl|exact absurd rfl h
 have e2:(op == CmpOp.NotIn)=false:=by cases op <;> first|rfl|exact absurd rfl h2
 cases b <;> simp[behindInMarks,e1,e2]
theorem nV{op:CmpOp}{r:R2}(ho:v7 X (compareOp op) r)(ha:PE X a ta)(hb:PE X b tb)(hm:behindInMarks op b=false):PE X (.Compare a [op] [b] pos) (SR r ta tb):=by
 intro pins s σ H Q I h
 exact wpAny_Compare1 (QS ha hb I h fun v u s2 x y H2 I2 rx ry q=>ho pins s2 σ H2 x y v u Q I2 rx ry q) hm
def PD(t:TE):TT:=fun σ H Q=>t σ H fun x H'=>TQ x H' Q
theorem cj{op:CmpOp}{r:R2}(ho:v7 X (compareOp op) r)(ha:PE X a ta)(hb:PE X b tb)(hm:behindInMarks op b=false):PT X (.Compare a [op] [b] pos) (PD (SR r ta tb)):=by
 intro pins s σ H Q I h
 refine wpAny_isTrue_Compare1 (cu (ha pins s σ H _ I h) fun v s1 ⟨x,H1,I1,r1,q1⟩=>cu (hb pins s1 σ H1 _ I1 q1) fun u s2 ⟨y,H2,I2,r2,q2⟩ =>
  cu (ho pins s2 σ H2 x y v u _ I2 r1 r2 q2) fun c s3 ⟨z,H3,I3,r3,k,e,q3⟩=>?_) hm
 subst e
 cases r3
 exact wpAny_truthy_bool ⟨H3,I3,q3⟩
def QU(r r':R2)(ta tb tc:TE):TE:=fun σ H Q=>ta σ H fun x H1=>tb σ H1 fun y H2=>r x y H2 fun z H3=>∃ k,z=.bl k ∧
 (if k=true then tc σ H3 fun w' H4=>r' y w' H4 Q else Q (.bl false) H3)
theorem v8{op op':CmpOp}{r r':R2}(ho:v7 X (compareOp op) r)(ho':v7 X (compareOp op') r')(ha:PE X a ta)(hb:PE X b tb)(hc:PE X c tc)
  (hm:lastMarks [op,op'] [b,c]=false:=by with_unfolding_all rfl):PT X (.Compare a [op,op'] [b,c] pos) (PD (QU r r' ta tb tc)):=by
 intro pins s σ H Q I h
 refine isTrue_chain (cu (ha pins s σ H _ I h) fun v s1 ⟨x,H1,I1,r1,q1⟩=>test_link (cu (hb pins s1 σ H1 _ I1 q1) fun u s2 ⟨y,H2,I2,r2,q2⟩ =>
  cu (ho pins s2 σ H2 x y v u _ I2 r1 r2 q2) fun d s3 ⟨z,H3,I3,r3,k,e,q3⟩=>?_)) hm
 subst e
 cases r3
 refine wpAny_truthy_bool ?_
 cases k with
 | false =>
  obtain⟨k',e',q'⟩:=q3
  cases e'
  exact ite_ff ⟨H3,I3,q'⟩
 | true =>
  refine ite_tt (test_last (cu (hc pins s3 σ H3 _ I3 q3) fun w' s4 ⟨z',H4,I4,r4,q4⟩=>cu (ho' pins s4 σ H4 y z' u w' _ I4 r2 r4 q4) fun d' s5 ⟨z2,H5,I5,r5,k2,e2,q5⟩=>?_))
  subst e2
  cases r5
  exact wpAny_truthy_bool ⟨H5,I5,q5⟩
def T9(K:PySem.W.Frag)(x:V)(H:Hp)(k:Bool):Prop :=
 match x with
 | .jw=>k=false
 | .bl b=>k=b
 | .int i=>k=(i != 0)
 | .str y=>y.length≤sizeLine∧k=((y.length:Int) != 0)
 | .G9 y=>y.size≤sizeLine∧k=((y.size:Int) != 0)
 | .ref p=>(∃ xs,bN K H p xs∧k=!xs.isEmpty)∨(∃ xs,jW K H p xs∧k=!xs.isEmpty)∨∃ kvs,H p=some (.dK kvs)∧k=!kvs.isEmpty
 | _=>False
theorem Hl{κ:Type}{kvs:List (κ × V)}{vs:List (κ × Value)}(r:KV kvs vs):(!vs.isEmpty)=!kvs.isEmpty:=by
 cases r <;> rfl
theorem Ac{xs:List V}{its:List Value}(r:Vals xs its):(!its.toArray.isEmpty)=!xs.isEmpty:=by
 cases r <;> simp
theorem vo:(sizeLine:Nat)<2^63:=by rw[sizeLine_eq];decide
theorem QV:XJ X (fun x H Q=>∃ k,T9 X.K x H k∧Q k H):=by
 intro pins s σ H x v Q I rx h
 obtain⟨k,e,q⟩:=h
 have hl:=vo
 have hs:sizeLine=16777216:=sizeLine_eq
 cases x with
 | jw =>
  cases rx
  have e':k=false:=e
  subst e'
  exact truthy_none ⟨H,I,q⟩
 | bl b =>
  cases rx
  have e':k=b:=e
  subst e'
  exact wpAny_truthy_bool ⟨H,I,q⟩
 | int i =>
  obtain⟨t,rfl⟩:=rx
  have e':k=(i != 0):=e
  subst e'
  exact PySem.P.truthy_int ⟨H,I,q⟩
 | str y =>
  obtain⟨t,rfl⟩:=rx
  obtain⟨hy,e'⟩:y.length≤sizeLine∧k=((y.length:Int) != 0):=e
  subst e'
  exact PySem.P.truthy_str (by omega) ⟨H,I.tok _,q⟩
 | G9 y =>
  obtain⟨t,rfl⟩:=rx
  obtain⟨hy,e'⟩:y.size≤sizeLine∧k=((y.size:Int) != 0):=e
  subst e'
  exact PySem.W.truthy_bytes (by omega) ⟨H,I.tok _,q⟩
 | ref p =>
  cases rx
  have e':(∃ xs,bN X.K H p xs∧k=!xs.isEmpty)∨(∃ xs,jW X.K H p xs∧k=!xs.isEmpty)∨∃ kvs,H p=some (.dK kvs)∧k=!kvs.isEmpty:=e
  rcases e' with ⟨xs,hx,e'⟩|⟨xs,hx,e'⟩|⟨kvs,hx,e'⟩
  ·subst e'
   obtain⟨its,r,pl,hz⟩:=I.list hx
   have hlen:=r.length
   exact wpAny_truthy_list pl.isList (by simp only[su];omega) ⟨H,I.tok _,by rw[Ac r];exact q⟩
  ·subst e'
   obtain⟨its,r,pl,hz⟩:=I.tuple hx
   have hlen:=r.length
   exact truthy_tuple pl (by simp only[su];omega) ⟨H,I.tok _,by rw[Ac r];exact q⟩
  ·subst e'
   obtain⟨hz,hS,vs,r,m⟩:kvs.length≤sizeLine∧(p == sysModules)=false∧∃ vs,KV kvs vs∧s.heap.DictOf (gR X.prog X.w) p vs:=I.hok p _ hx
   have hlen:kvs.length=vs.length:=Paired.length r
   exact wpAny_truthy_dict hS m (by omega) ⟨H,I.tok _,by rw[Hl r];exact q⟩
 | _=>exact (show False from e).elim
theorem oQ(ha:PE X a ta)(he:∀ whole,isTrue a X.env whole=(do let v ← whole;standAt a.pos;holding [v] (truthy v))) :
  PT X a (fun σ H Q=>ta σ H fun x H'=>∃ k,T9 X.K x H' k∧Q k H'):=by
 intro pins s σ H Q I h
 exact isTrue_plain (cu (ha pins s σ H _ I h) fun v s1 ⟨x,H1,I1,r1,q1⟩=>QV pins s1 σ H1 x v Q I1 r1 q1) (he _)
theorem vals1{x:V}{us:List Value}(r:Vals [x] us):∃ u,us=[u]∧RelV x u:=by
 cases r with
 | cons r1 r2=>cases r2;exact⟨_,rfl,r1⟩
theorem vals2{x y:V}{us:List Value}(r:Vals [x,y] us):∃ u w',us=[u,w']∧RelV x u∧RelV y w':=by
 cases r with
 | cons r1 r2 =>
  cases r2 with
  | cons r3 r4=>cases r4;exact⟨_,_,rfl,r1,r3⟩
theorem xB(hc:X.calm=true):nO X (.builtin "max") (fun xs H Q=>∃ i j,xs=[.int i,.int j]∧Q (.int (if j > i then j else i)) H):=by
 intro pins s σ H xs us Q I r h
 obtain⟨i,j,rfl,q⟩:=h
 obtain⟨u,w',rfl,⟨t,rfl⟩,⟨t',rfl⟩⟩:=vals2 r
 refine max_two_ints (I.ok.hd hc) fun h' tk k=>⟨_,H,I.kept k,?_,q⟩
 by_cases hj:j > i
 ·rw[if_pos hj,if_pos hj];exact⟨_,rfl⟩
 ·rw[if_neg hj,if_neg hj];exact⟨_,rfl⟩
theorem qF(hc:X.calm=true):nO X (.builtin "min") (fun xs H Q=>∃ i j,xs=[.int i,.int j]∧Q (.int (if j<i then j else i)) H):=by
 intro pins s σ H xs us Q I r h
 obtain⟨i,j,rfl,q⟩:=h
 obtain⟨u,w',rfl,⟨t,rfl⟩,⟨t',rfl⟩⟩:=vals2 r
 refine min_two_ints (I.ok.hd hc) fun h' tk k=>⟨_,H,I.kept k,?_,q⟩
 by_cases hj:j<i
 ·rw[if_pos hj,if_pos hj];exact⟨_,rfl⟩
 ·rw[if_neg hj,if_neg hj];exact⟨_,rfl⟩
end
end L2
namespace L2
open PySem PySem.Spec PyProof.Rows
structure Ho(h:Heap)(x dx C:Addr)(mA:Str→Option Value):Prop where
 obj:h.get? x=some (PySem.W.instObj C dx)
 ns:h.Ns1 dx mA
 ne:dx≠x
theorem J9{h:Heap}{dx:Addr}{mA:Str→Option Value}(n:h.Ns1 dx mA):∃ od,h.get? dx=some od∧∀ name,PySem.W.lookIn name od=some (mA name):=by
 obtain⟨o,es,ep,ho,hd,hk,_,hm⟩:=n
 refine⟨o,ho,fun name=>?_⟩
 have e:=hm name
 unfold nsFind findBy at e
 rw[← Array.find?_toList]at e
 unfold PySem.W.lookIn
 rw[hd]
 dsimp only
 split
 ·rename_i y q
  rw[q]at e
  exact congrArg some e
 ·rename_i q
  rw[q]at e
  have a:es.toList.any (·.refKey)=false:=by
   rw[List.any_eq_false]
   intro y hy
   obtain⟨z,t,hkey⟩:=hk y (Array.mem_toList_iff.mp hy)
   simp[DictEntry.refKey,hkey]
  have a':¬ es.toList.any (·.refKey)=true:=by rw[a];exact tP
  rw[if_neg a']
  exact congrArg some e
theorem Ho.look{h:Heap}{x dx C:Addr}{mA:Str→Option Value}(I:Ho h x dx C mA):∃ od,PySem.W.InstAt h x (PySem.W.instObj C dx) C (some od)∧∀ name,PySem.W.lookIn name od=some (mA name) :=
 let ⟨od,ho,hl⟩:=J9 I.ns
 ⟨od,⟨I.obj,rfl,rfl,ho⟩,hl⟩
section
variable {prog:Program} {w:World} {A:Around} {E:Value→Shared→Prop} {s:Shared} {K:PySem.W.Frag} {x dx C f:Addr} {mA:Str→Option Value} {name:Str} {v:Value}
theorem get_map{expr:Bool}{Q:Value→Shared→Prop}(X:K.In s.heap)(I:Ho s.heap x dx C mA)(hg:PySem.W.plainGet K C name=true)(hh:PySem.W.hasDictIn K C=true)
  (ha:PySem.W.findIn K (.ref C) name=some none) (hv:mA name=some v) (hv':PySem.W.handedIn v=true) (h:Q v { s with toks:=s.toks+1 }) :
  wpAny (model prog w) A (getAttr (.ref x) name expr) Q E s:=by
 obtain⟨od,J,hl⟩:=I.look
 exact PySem.W.get_value X J (PySem.W.plainGet_of hg).1 (PySem.W.findObj_own hh ha rfl (by rw[hl,hv])) hv' h
theorem LQ{pl:Sem Bool}{Q:Value × List Value→Shared→Prop}(X:K.In s.heap)(I:Ho s.heap x dx C mA)(hg:PySem.W.plainGet K C name=true)
  (hf:PySem.W.findIn K (.ref C) name=some (some (.ref f))) (ht:PySem.W.isFn K (.ref f)=true) (hv:mA name=none) (h:Q (.ref f,[.ref x]) s) :
  wpAny (model prog w) A (getMethod (.ref x) name pl) Q E s:=by
 obtain⟨od,J,hl⟩:=I.look
 exact PySem.W.method_fn X J (PySem.W.plainGet_of hg).1 (PySem.W.plainGet_of hg).2 hf (beq_iff_eq.mp ht) (by show (PySem.W.lookIn name od).map (·.isSome)=some false;rw[hl,hv];rfl) h
theorem N4{ns:List Str}{Q:Unit→Shared→Prop}(X:K.In s.heap)(I:Ho s.heap x dx C mA)
  (hs:PySem.W.findIn K (.ref C) "__setattr__"=some (some (.builtin "object.__setattr__"))) (hp:PySem.W.plainOver K C=true) (ht:PySem.W.takerIn K C name=some none) (hh:PySem.W.hasDictIn K C=true)
  (hw:PySem.Within mA ns) (hsz:ns.length≤sizeLine)
  (h:∀ h',Ho h' x dx C (fun y=>if y=name then some v else mA y)→Heap.SameBut dx s.heap h'→Q () { s with heap:=h',toks:=s.toks+2 }) :
  wpAny (model prog w) A (setAttr (.ref x) name v) Q E s:=by
 obtain⟨od,J,hl⟩:=I.look
 refine PySem.W.set_plain X J hs (PySem.W.osa_open (s:={ s with toks:=s.toks+1 }) (r:=none) X J hp ht fun b=>?_)
 obtain⟨cd,hc,hd'⟩:=PySem.W.any_some hh
 have hx:s.heap.get? x=some ⟨.ref C,some dx,.plain,#[]⟩:=I.obj
 refine wpAny_bind (wpAny_pure (wpAny_bind (wpAny_bind (wpAny_loadPart hx (wpAny_bind (PySem.W.Looks.here (s:={ s with toks:=s.toks+1 }) (PySem.W.looks_clsIn X hc) ?_))))))
 rw[hd']
 refine wpAny_pure (a:=some dx) (wpAny_bind (wpAny_pure (wpAny_bind ?_)))
 refine wpAny_nsSet1 (s:={ s with toks:=s.toks+1 }) I.ns fun h' hn2 hs2=>?_
 obtain⟨oD,esD,epD,hoD,hdD,hcD⟩:=hn2.count (PySem.Within.cons name v hw)
 refine wpAny_bind (wpAny_lookBehind hoD (by rw[hdD];exact pastItsLine_dict (kT hcD (by rw[nG];omega))) ?_)
 exact wpAny_pure (h _ ⟨(hs2.2 _ (Ne.symm I.ne)).trans I.obj,hn2,I.ne⟩ hs2)
theorem LR{R:Result→Shared→Prop}{vs:List Value}{kw:List (Str × Value)}(X:K.In s.heap)(hm:PySem.W.makesIn K C=true)
  (hi:PySem.W.findIn K (.ref C) "__init__"=some (some (.ref f))) (hf:PySem.W.typeIn K (.ref f)=some (.type "function"))
  (h:codeAny (model prog w) (A.under (.builtin "type.__call__" ⟨.ref C::vs,kw⟩)) (.call (.ref f) ⟨.ref (s.heap.objs.size+1)::vs,kw⟩) (PySem.W.InitBack (s.heap.objs.size+1) R)
   { s with heap:=(s.heap.push PySem.W.emptyDict).push (PySem.W.instObj C s.heap.objs.size) }) :
  codeAny (model prog w) A (.call (.ref C) ⟨vs,kw⟩) R s:=by
 obtain⟨hh,g,d,t,os⟩:=s
 exact PySem.W.make_core (PySem.W.makes_of X hm) (PySem.W.looks_findIn X hi) (fun self=>PySem.W.bind_fn X self hf) (.inl rfl) h
end
def dH(f:Str)(v:V):List (Str × V)→List (Str × V)
 | []=>[(f,v)]
 | (g,x)::r=>if g=f then (g,v)::r else (g,x)::dH f v r
theorem yy(f g:Str)(v:V):∀ fs:List (Str × V),(dH f v fs).lookup g=if g=f then some v else fs.lookup g
 | []=>by
  show List.lookup g [(f,v)]=_
  by_cases h:g=f
  ·have hb:(g == f)=true:=beq_iff_eq.mpr h
   simp only[List.lookup,hb,if_pos h]
  ·have hb:(g == f)=false:=beq_eq_false_iff_ne.mpr h
   simp only[List.lookup,hb,if_neg h]
 | (k,x)::r=>by
  have ih:=yy f g v r
  rw[show dH f v ((k,x)::r)=(if k=f then (k,v)::r else (k,x)::dH f v r) from rfl]
  by_cases hk:k=f
  ·rw[if_pos hk]
   by_cases h:g=k
   ·have hb:(g == k)=true:=beq_iff_eq.mpr h
    simp only[List.lookup,hb,if_pos (h.trans hk)]
   ·have hb:(g == k)=false:=beq_eq_false_iff_ne.mpr h
    simp only[List.lookup,hb,if_neg (fun e:g=f=>h (e.trans hk.symm))]
  ·rw[if_neg hk]
   by_cases h:g=k
   ·have hb:(g == k)=true:=beq_iff_eq.mpr h
    simp only[List.lookup,hb,if_neg (fun e:g=f=>hk (h.symm.trans e))]
   ·have hb:(g == k)=false:=beq_eq_false_iff_ne.mpr h
    simp only[List.lookup,hb]
    exact ih
theorem xC(f:Str)(v:V):∀ fs:List (Str × V),f∈(dH f v fs).map (·.1)∧∀ g,g∈fs.map (·.1)→g∈(dH f v fs).map (·.1)
 | []=>⟨by simp[dH],fun g h=>by simp at h⟩
 | (k,x)::r=>by
  obtain⟨i1,i2⟩:=xC f v r
  rw[show dH f v ((k,x)::r)=(if k=f then (k,v)::r else (k,x)::dH f v r) from rfl]
  by_cases hk:k=f
  ·rw[if_pos hk]
   subst hk
   exact⟨by simp,fun g h=>by simpa using h⟩
  ·rw[if_neg hk]
   refine⟨?_,fun g h=>?_⟩
   ·rw[mz]
    exact sJ _ i1
   ·rw[mz]at h ⊢
    rcases List.mem_cons.mp h with e|e
    ·exact List.mem_cons.mpr (.inl e)
    ·exact sJ _ (i2 g e)
theorem yz(f:Str)(v:V):∀ fs:List (Str × V),(dH f v fs).length≤fs.length+1
 | []=>by simp[dH]
 | (k,x)::r=>by
  have ih:=yz f v r
  rw[show dH f v ((k,x)::r)=(if k=f then (k,v)::r else (k,x)::dH f v r) from rfl]
  by_cases hk:k=f
  ·rw[if_pos hk,nG,nG];omega
  ·rw[if_neg hk,nG,nG];omega
theorem uB.some_of{v:V}{o:Option Value}(r:uB (some v) o):∃ u,o=some u∧RelV v u:=by
 cases o with
 | none=>exact (show False from r).elim
 | some u=>exact⟨u,rfl,r⟩
theorem uB.none_of{o:Option Value}(r:uB none o):o=none:=by
 cases o with
 | none=>rfl
 | some u=>exact (show False from r).elim
theorem Ka{v:V}{u:Value}(r:RelV v u):PySem.W.handedIn u=true:=by
 cases v with
 | jw=>cases (show u=Value.none from r);rfl
 | bl b=>cases (show u=Value.bool b from r);rfl
 | int i=>obtain⟨t,e⟩:=(show ∃ t,u=Value.int i t from r);cases e;rfl
 | str x=>obtain⟨t,e⟩:=(show ∃ t,u=Value.str x t from r);cases e;rfl
 | G9 b=>obtain⟨t,e⟩:=(show ∃ t,u=Value.bytes b t from r);cases e;rfl
 | Pq b=>obtain⟨t,e⟩:=(show ∃ t,u=Value.float b t from r);cases e;rfl
 | ref a=>cases (show u=Value.ref a from r);rfl
 | ty n=>cases (show u=Value.type n from r);rfl
section
variable {P:Program} {w:World} {H H':Hp} {h h':Heap} {a C dx:Addr} {fs fs':List (Str × V)}
theorem zA(hok:tQ P w H h)(e:H a=some (.ins C dx fs)):∃ mA,Ho h a dx C mA∧(∀ f,uB (fs.lookup f) (mA f))∧PySem.Within mA (fs.map (·.1))∧fs.length≤1000∧H dx=some (.own a):=by
 obtain⟨d,z,ne,ob,mA,n,r,q⟩:=(show gS P w H h a (.ins C dx fs) from hok a _ e)
 exact⟨mA,⟨ob,n,ne⟩,r,q,z,d⟩
end
structure BK(K:PySem.W.Frag)(C:Addr):Prop where
 pg:PySem.W.plainGet K C Str.empty=true
 hd:PySem.W.hasDictIn K C=true
 po:PySem.W.plainOver K C=true
 sa:PySem.W.findIn K (.ref C) "__setattr__"=some (some (.builtin "object.__setattr__"))
theorem BK.get{K:PySem.W.Frag}{C:Addr}(c:BK K C)(f:Str):PySem.W.plainGet K C f=true:=c.pg
def aZ(K:PySem.W.Frag)(C:Addr)(f:Str):Prop:=PySem.W.findIn K (.ref C) f=some none
theorem aZ.Ua{K:PySem.W.Frag}{C:Addr}{f:Str}(n:aZ K C f):PySem.W.takerIn K C f=some none:=by
 unfold PySem.W.takerIn
 rw[show PySem.W.findIn K (.ref C) f=some none from n]
 rfl
structure Meth(K:PySem.W.Frag)(C:Addr)(m:Str)(f:Addr):Prop where
 at_:PySem.W.findIn K (.ref C) m=some (some (.ref f))
 fn:PySem.W.isFn K (.ref f)=true
 kp:PySem.W.keepIn K (.ref f)=true
section
variable {X:Cx} {pins:List (Addr × Obj)} {σ:St} {H:Hp} {s:Shared} {a C dx:Addr} {fs:List (Str × V)} {f:Str} {v:V} {A:Around} {E:Value→Shared→Prop}
theorem Ad{b:Bool}{Q:Value→Shared→Prop}(I:Inv X pins σ H s)(e:H a=some (.ins C dx fs))(c:BK X.K C)(n:aZ X.K C f)(l:fs.lookup f=some v)
  (h:∀ u s',Inv X pins σ H s'→RelV v u→Q u s'):wpAny (model X.prog X.w) A (getAttr (.ref a) f b) Q E s:=by
 obtain⟨mA,O,r,_,_,_⟩:=zA I.hok e
 obtain⟨u,hu,ru⟩:=uB.some_of (v:=v) (o:=mA f) (by rw[← l];exact r f)
 exact get_map I.yx O (c.get f) c.hd n hu (Ka ru) (h u _ (I.tok _) ru)
theorem Ae{m:Str}{g:Addr}{pl:Sem Bool}{Q:Value × List Value→Shared→Prop}(I:Inv X pins σ H s)(e:H a=some (.ins C dx fs))(c:BK X.K C)(k:Meth X.K C m g)(l:fs.lookup m=none)
  (h:Q (.ref g,[.ref a]) s):wpAny (model X.prog X.w) A (getMethod (.ref a) m pl) Q E s:=by
 obtain⟨mA,O,r,_,_,_⟩:=zA I.hok e
 have hn:mA m=none:=uB.none_of (by rw[← l];exact r m)
 exact LQ I.yx O (c.get m) k.at_ k.fn hn h
theorem Af{y:V}{u:Value}{Q:Unit→Shared→Prop}(I:Inv X pins σ H s)(e:H a=some (.ins C dx fs))(c:BK X.K C)(n:aZ X.K C f)(hl:fs.length<1000)(ry:RelV y u)
  (h:∀ s',Inv X pins σ (upd H a (.ins C dx (dH f y fs))) s'→Q () s'):wpAny (model X.prog X.w) A (setAttr (.ref a) f u) Q E s:=by
 obtain⟨mA,O,r,wi,_,ho⟩:=zA I.hok e
 have hz:(fs.map (·.1)).length≤sizeLine:=by rw[cA,sizeLine_eq];omega
 refine N4 I.yx O c.sa c.po n.Ua c.hd wi hz fun h' O' sb=>h _ ?_
 have hd:∃ o,h'.get? dx=some o:=let ⟨o,_,_,e',_⟩:=O'.ns;⟨o,e'⟩
 refine I.write (x:=a) (e:=dx) (by rw[e];exact True.intro) (.inr ho) (fun b q hb z=>(sb.2 b hb).trans z) hd ?_
 refine⟨by rw[aF O.ne];exact ho,?_,O.ne,O'.obj,_,O'.ns,fun g=>?_,fun g hg=>?_⟩
 ·have:=yz f y fs;omega
 ·show uB ((dH f y fs).lookup g) (if g=f then some u else mA g)
  rw[yy]
  by_cases q:g=f
  ·rw[if_pos q,if_pos q];exact ry
  ·rw[if_neg q,if_neg q];exact r g
 ·by_cases q:g=f
  ·rw[q];exact (xC f y fs).1
  ·refine (xC f y fs).2 g (wi g fun z=>hg ?_)
   show (if g=f then some u else mA g)=none
   rw[if_neg q];exact z
theorem Inv.made(I:Inv X pins σ H s):Inv X pins σ (upd (upd H s.heap.objs.size (.own (s.heap.objs.size+1))) (s.heap.objs.size+1) (.ins C s.heap.objs.size []))
  { s with heap:=(s.heap.push PySem.W.emptyDict).push (PySem.W.instObj C s.heap.objs.size) }:=by
 have e1:(s.heap.push PySem.W.emptyDict).get? s.heap.objs.size=some PySem.W.emptyDict:=Heap.get?_push_size s.heap rfl
 have e2:((s.heap.push PySem.W.emptyDict).push (PySem.W.instObj C s.heap.objs.size)).get? (s.heap.objs.size+1)=some (PySem.W.instObj C s.heap.objs.size):=by
  have:=Heap.get?_push_size (s.heap.push PySem.W.emptyDict) (o:=PySem.W.instObj C s.heap.objs.size) rfl
  rwa [Heap.size_push]at this
 have e3:(s.heap.push PySem.W.emptyDict).Ns s.heap.objs.size (fun _=>none):=⟨PySem.W.emptyDict,#[],_,e1,rfl,(fun e he=>absurd he (by simp)),fun _=>rfl⟩
 have I1:=I.laid (a:=s.heap.objs.size) (o:=.own (s.heap.objs.size+1)) (h':=s.heap.push PySem.W.emptyDict) (t':=s.toks) (fun b u q=>Heap.get?_push_of_some _ q) (gQ _) ⟨_,e1⟩
 refine I1.laid (a:=s.heap.objs.size+1) (o:=.ins C s.heap.objs.size []) (t':=s.toks) (fun b u q=>Heap.get?_push_of_some _ q) (Nat.le_of_eq (Heap.size_push _ _)) ?_
 have ne:s.heap.objs.size≠s.heap.objs.size+1:=ko (Nat.lt_succ_self _)
 refine⟨by rw[aF ne,af],lI _,ne,e2,fun _=>none,(Heap.Ns1.of_empty e3).at fun o q=>Heap.get?_push_of_some _ q,fun _=>True.intro,fun y hy=>absurd rfl hy⟩
theorem N5{prog:Program}{w:World}{env:Env}{e:Expr}{f:Str}{pos:Pos}{s:Shared}{Q:Value→Shared→Prop}(hb:attributeBase e f env (eval e env)=eval e env)
  (h:wpAny (model prog w) A (eval e env) (fun o s₁=>wpAny (model prog w) A (getAttr o f true) Q E s₁) E s):wpAny (model prog w) A (eval (.Attribute e f pos) env) Q E s :=
 Attribute_any_ h (by rw[arm_eval_Attribute,hb])
end
inductive Ub(K:PySem.W.Frag)(f:Str)(x:V)(H:Hp)(Q:VK):Prop
 | mk (a C dx:Addr) (fs:List (Str × V)) (v:V) (_:x=.ref a) (_:H a=some (.ins C dx fs)) (_:BK K C) (_:aZ K C f) (_:fs.lookup f=some v) (_:Q v H):Ub K f x H Q
def Uc(K:PySem.W.Frag)(ta:TE)(f:Str):TE:=fun σ H Q=>ta σ H fun x H1=>Ub K f x H1 Q
def XR(K:PySem.W.Frag)(ta tv:TE)(f:Str):TS:=fun D σ H=>tv σ H fun y H1=>ta σ H1 fun x H2=>∃ a C dx fs,x=.ref a∧H2 a=some (.ins C dx fs)∧BK K C∧aZ K C f∧fs.length<1000 ∧
 D.nx σ (upd H2 a (.ins C dx (dH f y fs)))
def Ud(X:Cx)(op:Operator)(rd:V→V→Hp→VK→Prop):Prop :=
 ∀ (pins:List (Addr × Obj)) (s:Shared) (σ:St) (H:Hp) (x y:V) (u v:Value) (Q:VK),Inv X pins σ H s→RelV x u→RelV y v→rd x y H Q→wpAny (model X.prog X.w) X.A (inplaceOp op u v) (EP X pins σ Q) X.xe s
def N6(K:PySem.W.Frag)(ta tv:TE)(rd:V→V→Hp→VK→Prop)(f:Str):TS:=fun D σ H=>ta σ H fun x H1=>∃ a C dx fs v,x=.ref a∧H1 a=some (.ins C dx fs)∧BK K C∧aZ K C f∧fs.lookup f=some v ∧
 tv σ H1 fun y H2=>rd v y H2 fun z H3=>∃ XU fs',H3 a=some (.ins C XU fs')∧fs'.length<1000∧D.nx σ (upd H3 a (.ins C XU (dH f z fs')))
section
variable {X:Cx} {o e value:Expr} {f:Str} {pos pos' tpos:Pos} {ta tv:TE}
theorem dM(he:PE X e ta)(hb:attributeBase e f X.env (eval e X.env)=eval e X.env):PE X (.Attribute e f pos) (Uc X.K ta f):=by
 intro pins s σ H Q I h
 refine N5 hb (cu (he pins s σ H _ I h) fun u s1 ⟨x,H1,I1,rx,a,C,dx,fs,v,ex,ea,c,n,l,q⟩=>?_)
 subst ex
 obtain rfl:u=Value.ref a:=rx
 exact Ad I1 ea c n l fun u' s2 I2 ru=>⟨v,H1,I2,ru,q⟩
theorem kU(ha:PE X o ta)(hv:PE X value tv)(hs:swapsWith value (some (.Attribute o f pos')) pos.line X.env=pure false):PS X (.Assign [.Attribute o f pos'] value pos) (XR X.K ta tv f):=by
 intro pins s σ H D I h
 refine plainObj_wpAny_Assign_Attribute (cu (hv pins s σ H _ I h) fun u s1 ⟨y,H1,I1,ry,q⟩=>cu (ha pins s1 σ H1 _ I1 q) fun ov s2 ⟨x,H2,I2,rx,a,C,dx,fs,ex,ea,c,n,l,q2⟩=>?_) hs
 subst ex
 obtain rfl:ov=Value.ref a:=rx
 exact Af I2 ea c n l ry fun s3 I3=>⟨σ,_,I3,q2⟩
theorem xD{op:Operator}{rd:V→V→Hp→VK→Prop}(ha:PE X o ta)(hv:PE X value tv)(hop:Ud X op rd):PS X (.AugAssign (.Attribute o f tpos) op value pos) (N6 X.K ta tv rd f):=by
 intro pins s σ H D I h
 refine wpAny_AugAssign_AttributeAny (cu (ha pins s σ H _ I h) fun ov s1 ⟨x,H1,I1,rx,a,C,dx,fs,v,ex,ea,c,n,l,q⟩=>?_)
 subst ex
 obtain rfl:ov=Value.ref a:=rx
 refine Ad I1 ea c n l fun u s2 I2 ru=>cu (hv pins s2 σ H1 _ I2 q) fun w3 s3 ⟨y,H2,I3,ry,q3⟩=>cu (hop pins s3 σ H2 v y u w3 _ I3 ru ry q3) fun w4 s4 ⟨z,H3,I4,rz,XU,fs',ea',l',q4⟩=>?_
 exact Af I4 ea' c n l' rz fun s5 I5=>⟨σ,_,I5,q4⟩
end
section
variable {X:Cx} {pins:List (Addr × Obj)} {σ:St} {H:Hp} {s:Shared} {A:Around} {E:Value→Shared→Prop} {Q:Value→Shared→Prop} {c:Value} {b:Bool}
inductive mZ(K:PySem.W.Frag)(H:Hp):V→Value→Prop where
 | jw:mZ K H .jw (.type "NoneType")
 | bl (x:Bool):mZ K H (.bl x) (.type "bool")
 | int (i:Int):mZ K H (.int i) (.type "int")
 | str (x:Str):mZ K H (.str x) (.type "str")
 | Pq (x:UInt64):mZ K H (.Pq x) (.type "float")
 | lst {a:Addr} {xs:List V} (e:H a=some (.lst xs)):mZ K H (.ref a) (.type "list")
 | Hf {a:Addr} {o:Obj} {xs:List V} (e:H a=some (.Hf o (.lst xs))):mZ K H (.ref a) (.type "list")
 | tup {a:Addr} {xs:List V} (e:H a=some (.tup xs)):mZ K H (.ref a) (.type "tuple")
 | dK {a:Addr} {kvs:List (Key × V)} (e:H a=some (.dK kvs)):mZ K H (.ref a) (.type "dict")
 | dT {a:Addr} {kvs:List (List Key × V)} (e:H a=some (.dT kvs)):mZ K H (.ref a) (.type "dict")
 | ins {a C dx:Addr} {fs:List (Str × V)} (e:H a=some (.ins C dx fs)) (cl:BK K C) (ha:PySem.W.findIn K (.ref C) "__class__"=some (some (.builtin "object.__class__")))
   (hn:PySem.W.specialIn K (.builtin "object.__class__") "__get__"=some (some (.builtin "getset_descriptor.__get__"))) (htk:PySem.W.takesIn K (.builtin "object.__class__")=some true)
   (hm:PySem.W.mroIn K C (.type "object")=some true):mZ K H (.ref a) (.ref C)
theorem Kc{x:V}{u t:Value}(I:Inv X pins σ H s)(rx:RelV x u)(ty:mZ X.K H x t)(e:PySem.W.kitOne X.K t c=some b)(h:∀ tk,Q (.bool b) { s with toks:=tk }) :
  wpAny (model X.prog X.w) A (call (.builtin "isinstance") [u,c]) Q E s:=by
 cases ty with
 | jw=>cases (show u=Value.none from rx);exact PySem.W.kia_one PySem.W.kitx_none I.yx True.intro e (fun z=>nomatch z) h
 | bl y=>cases (show u=Value.bool y from rx);exact PySem.W.kia_one PySem.W.kitx_bool I.yx True.intro e (fun z=>nomatch z) h
 | int i=>obtain⟨t,q⟩:=(show ∃ t,u=Value.int i t from rx);cases q;exact PySem.W.kia_one PySem.W.kitx_int I.yx True.intro e (fun z=>nomatch z) h
 | str y=>obtain⟨t,q⟩:=(show ∃ t,u=Value.str y t from rx);cases q;exact PySem.W.kia_one PySem.W.kitx_str I.yx True.intro e (fun z=>nomatch z) h
 | Pq y=>obtain⟨t,q⟩:=(show ∃ t,u=Value.float y t from rx);cases q;exact PySem.W.kia_one PySem.W.kitx_float I.yx True.intro e (fun z=>nomatch z) h
 | @lst a xs ea =>
  cases (show u=Value.ref a from rx)
  obtain⟨_,_,n,_,h1⟩:=(show gS X.prog X.w H s.heap a (.lst xs) from I.hok a _ ea)
  exact PySem.W.kia_one PySem.W.kitx_list I.yx ⟨_,h1,rfl⟩ e (fun z=>nomatch z) h
 | @Hf a ob xs ea =>
  cases (show u=Value.ref a from rx)
  obtain⟨_,_,_,n,_,h1⟩:=(show gS X.prog X.w H s.heap a (.Hf ob (.lst xs)) from I.hok a _ ea)
  exact PySem.W.kia_one PySem.W.kitx_list I.yx ⟨_,h1,rfl⟩ e (fun z=>nomatch z) h
 | @tup a xs ea =>
  cases (show u=Value.ref a from rx)
  obtain⟨_,_,_,p⟩:=(show gS X.prog X.w H s.heap a (.tup xs) from I.hok a _ ea)
  obtain⟨o,h1,h2,_⟩:=p
  exact PySem.W.kia_one PySem.W.kitx_tuple I.yx ⟨o,h1,h2⟩ e (fun z=>nomatch z) h
 | @dK a kvs ea =>
  cases (show u=Value.ref a from rx)
  obtain⟨_,_,vs,_,p⟩:=(show gS X.prog X.w H s.heap a (.dK kvs) from I.hok a _ ea)
  obtain⟨o,es,ep,h1,h2,_⟩:=p
  exact PySem.W.kia_one PySem.W.kitx_dict I.yx ⟨o,h1,h2.1⟩ e (fun z=>nomatch z) h
 | @dT a kvs ea =>
  cases (show u=Value.ref a from rx)
  obtain⟨_,_,xs,_,o,es,ep,h1,h2,_⟩:=(show gS X.prog X.w H s.heap a (.dT kvs) from I.hok a _ ea)
  exact PySem.W.kia_one PySem.W.kitx_dict I.yx ⟨o,h1,h2.1⟩ e (fun z=>nomatch z) h
 | @ins a C dx fs ea cl ha hn htk hm =>
  cases (show u=Value.ref a from rx)
  obtain⟨mA,O,_⟩:=zA I.hok ea
  obtain⟨od,J,_⟩:=O.look
  exact PySem.W.kia_one (PySem.W.kitx_own (cl.get _) cl.hd ha hn htk hm) I.yx J e (fun z=>nomatch z) h
end
end L2
namespace L2
open PySem PySem.Spec PyProof.Rows
structure lJ(k:Nat)(A:Around):Prop where
 hd:A.handled=none
 dp:A.depth+3*k+5<recursionLimit
 un:A.units+16*k+200<cLine
theorem lJ.mono{j k:Nat}{A:Around}(r:lJ k A)(h:j≤k):lJ j A:=⟨r.hd,by have:=r.dp;omega,by have:=r.un;omega⟩
theorem lJ.deeper{k:Nat}{A:Around}(r:lJ (k+1) A)(env:Env):lJ k (A.deeper env) :=
 ⟨r.hd,by have:=r.dp;show A.depth+1+3*k+5<_;omega,by have:=r.un;show A.units+3+16*k+200<_;omega⟩
theorem Hq{A:Around}{C:Addr}{us:List Value}{kw:List (Str × Value)}:(A.under (.builtin "type.__call__" ⟨.ref C::us,kw⟩)).depth=A.depth+1:=by
 first|rfl|simp[Around.under,Code.weight,Code.isCreation,Code.isGuard,Code.isCaller,Code.frames,Code.isFrame,guardIds]
theorem Hr{A:Around}{C:Addr}{us:List Value}{kw:List (Str × Value)}:(A.under (.builtin "type.__call__" ⟨.ref C::us,kw⟩)).units=A.units+1:=by
 first|rfl|simp[Around.under,Code.cUnits,Code.frames,Code.isFrame]
theorem lJ.make{k:Nat}{A:Around}(r:lJ (k+1) A)(C:Addr)(us:List Value)(kw:List (Str × Value)):lJ k (A.under (.builtin "type.__call__" ⟨.ref C::us,kw⟩)) :=
 ⟨r.hd,by have:=r.dp;rw[Hq];omega,by have:=r.un;rw[Hr];omega⟩
theorem lJ.depth{k:Nat}{A:Around}(r:lJ k A):A.depth<recursionLimit:=by have:=r.dp;omega
theorem lJ.units{k:Nat}{A:Around}(r:lJ k A):A.units+64<cLine:=by have:=r.un;omega
def Dp:TA:=fun _ H Q=>Q [] H
def PF(ta:TE)(tr:TA):TA:=fun σ H Q=>ta σ H fun x H1=>tr σ H1 fun xs H2=>Q (x::xs) H2
section
variable {X:Cx} {e:Expr} {es:List Expr} {te:TE} {t:TA} {pos:Pos}
theorem ah:PA X [] Dp:=fun _ _ _ _ H Q I h=>Calls.spliced_nil ⟨[],H,I,.nil,h⟩
theorem aa(ha:PE X e te)(hr:PA X es t)(hs:starEach (e::es) X.env=(false,eval e X.env)::starEach es X.env:=by rfl):PA X (e::es) (PF te t):=by
 intro pos pins s σ H Q I h
 rw[hs]
 show wpAny _ _ (spliced ((false,eval e X.env)::backTo pos (starEach es X.env))) _ _ s
 refine Calls.spliced_cons (cu (ha pins s σ H _ I h) fun u s1 ⟨x,H1,I1,r1,q1⟩=>?_)
 exact cu (hr pos pins s1 σ H1 _ I1 q1) fun us s2 ⟨xs,H2,I2,r2,q2⟩=>⟨x::xs,H2,I2,.cons r1 r2,q2⟩
def XW(t:TA):TE:=fun σ H Q=>t σ H fun xs H1=>xs.length≤sizeLine∧∀ p,H1 p=none→Q (.ref p) (upd H1 p (.tup xs))
def Kd(t:TA):TE:=fun σ H Q=>t σ H fun xs H1=>xs.length≤sizeLine∧∀ p,H1 p=none→Q (.ref p) (upd H1 p (.lst xs))
theorem iz{x1}(h:PA X es t):PE X (.Tuple es x1 pos) (XW t):=by
 intro pins s σ H Q I hq
 refine wpAny_Tuple_spliced (cu (h pos pins s σ H _ I hq) fun us s1 ⟨xs,H1,I1,r,z,q⟩=>⟨by rw[← r.length];exact z,?_⟩)
 have hf:H1 s1.heap.objs.size=none:=I1.hok.fresh (gQ _)
 refine⟨.ref s1.heap.objs.size,upd H1 s1.heap.objs.size (.tup xs),I1.laid (t':=s1.toks) (fun b u e=>Heap.get?_push_of_some _ e) (gQ _) ?_,rfl,q _ hf⟩
 exact⟨z,us,r,⟨_,Heap.get?_push_size _ rfl,rfl,_,rfl⟩⟩
theorem bH(h:PA X es t):PE X (.List es pos) (Kd t):=by
 intro pins s σ H Q I hq
 refine wpAny_List_spliced (cu (h pos pins s σ H _ I hq) fun us s1 ⟨xs,H1,I1,r,z,q⟩=>⟨by rw[← r.length];exact z,?_⟩)
 have hf:H1 s1.heap.objs.size=none:=I1.hok.fresh (gQ _)
 refine⟨.ref s1.heap.objs.size,upd H1 s1.heap.objs.size (.lst xs),I1.laid (t':=s1.toks) (fun b u e=>Heap.get?_push_of_some _ e) (gQ _) ?_,rfl,q _ hf⟩
 exact⟨z,us,0,r,Heap.get?_push_size _ rfl⟩
end
abbrev Sp:=List V→Hp→VK→XK→Prop
abbrev LS:=List Env→Hp→Shared→XK→Value→Shared→Prop
structure Hs(P:Program)(w:World)(K:PySem.W.Frag)(mg:Str→Option Value)(base:Heap)(A:Around)(outer:List Env)(s:Shared)(H:Hp):Prop where
 frames:A.frames=some outer
 mod:Mod K mg base
 bs:∀ b o,base.get? b=some o→s.heap.get? b=some o∧H b=none
 NT:base.objs.size≤s.heap.objs.size
 vW:s.heap.FunFrames base outer
 QE:∀ b∈frs outer,H b=none
 hok:tQ P w H s.heap
 bare:AllBare s.gens
def CE(outer:List Env)(P:Program)(w:World)(H:Hp)(s:Shared)(Q:VK)(u:Value)(s':Shared):Prop :=
 ∃ v H',s'.os=s.os∧AllBare s'.gens∧Un (frs outer) [] H H' s.heap s'.heap∧tQ P w H' s'.heap∧RelV v u∧Q v H'
def CR(CX:LS)(outer:List Env)(P:Program)(w:World)(H:Hp)(s:Shared)(Q:VK)(E:XK)(r:Result)(s':Shared):Prop :=
 match r with
 | .ok (.ret u)=>CE outer P w H s Q u s'
 | .ok _=>False
 | .error e=>CX outer H s E e s'
structure aC(P:Program)(w:World)(K:PySem.W.Frag)(mg:Str→Option Value)(base:Heap)(CX:LS)(k:Nat)(f:Addr)(fd:FuncData)(ps:List Str)(sp:Sp):Prop where
 len:∀ vs H Q E,sp vs H Q E→vs.length=ps.length
 run:∀ (A:Around) (outer:List Env) (s:Shared) (H:Hp) (args:Args) (us:List Value) (vs:List V) (Q:VK) (E:XK),lJ k A→Hs P w K mg base A outer s H→BindsTo s fd args (ps.zip us)→Vals vs us→sp vs H Q E →
  codeAny (model P w) A (.call (.ref f) args) (CR CX outer P w H s Q E) s
theorem Hs.make{P:Program}{w:World}{K:PySem.W.Frag}{mg:Str→Option Value}{base:Heap}{A:Around}{outer:List Env}{s:Shared}{H:Hp}(e:Hs P w K mg base A outer s H)(C:Addr)(us:List Value)(kw:List (Str × Value)) :
  Hs P w K mg base (A.under (.builtin "type.__call__" ⟨.ref C::us,kw⟩)) outer s H:=⟨by first|exact e.frames|(simpa [Around.under,Code.envs,Code.isFrame,pushEnvs] using e.frames),e.mod,e.bs,e.NT,e.vW,e.QE,e.hok,e.bare⟩
section
variable {X:Cx} {pins:List (Addr × Obj)} {σ:St} {H:Hp} {s s':Shared}
theorem Inv.Ue(I:Inv X pins σ H s):Hs X.prog X.w X.K X.mg X.base X.A X.stack s H :=
 ⟨I.ok.frames,I.ok.mod,I.bs,kT I.ok.NT I.sz,I.stack,I.vX,I.hok,I.bare⟩
theorem Inv.after{Q:VK}{u:Value}(I:Inv X pins σ H s)(h:CE X.stack X.prog X.w H s Q u s'):EP X pins σ Q u s':=by
 obtain⟨v,H',os,bare,un,hok,r,q⟩:=h
 obtain⟨hh,g,d,t,os'⟩:=s'
 obtain rfl:os'=s.os:=os
 exact⟨v,H',I.call (h':=hh) (g':=g) (d':=d) (t':=t) (ch:=[]) un hok bare (fun b z=>absurd z (by simp)),r,q⟩
end
def E8(sp:Sp)(Ag:List V)(E:XK)(t:TA):TE:=fun σ H Q=>t σ H fun vs H1=>sp (vs++Ag) H1 Q E
inductive Ug(C:Addr)(m:Str)(x:V)(H:Hp)(N:Prop):Prop
 | mk (a dx:Addr) (fs:List (Str × V)) (_:x=.ref a) (_:H a=some (.ins C dx fs)) (_:fs.lookup m=none) (_:N):Ug C m x H N
def PK(C:Addr)(m:Str)(sp:Sp)(Ag:List V)(E:XK)(ta:TE)(t:TA):TE:=fun σ H Q=>ta σ H fun x H1=>Ug C m x H1 (t σ H1 fun vs H2=>sp (x::(vs++Ag)) H2 Q E)
def Uh(C:Addr)(sp:Sp)(Ag:List V)(E:XK)(t:TA):TE:=fun σ H Q=>t σ H fun vs H1=>∀ x dx,H1 x=none→H1 dx=none→dx≠x →
 sp (.ref x::(vs++Ag)) (upd (upd H1 dx (.own x)) x (.ins C dx [])) (fun v H2=>v=.jw∧Q (.ref x) H2) E
def Binds(K:PySem.W.Frag)(fd:FuncData)(ps:List Str)(ds:List Value):Prop :=
 ∀ (s:Shared) (us:List Value),K.In s.heap→(us++ds).length=ps.length→BindsTo s fd ⟨us,[]⟩ (ps.zip (us++ds))
theorem Binds.all{K:PySem.W.Frag}{fd:FuncData}{ps:List Str}(h:∀ us:List Value,us.length=ps.length→bindArgs fd ⟨us,[]⟩=pure (ps.zip us)):Binds K fd ps []:=fun s us _ hl=>by
 rw[kj]at hl ⊢
 exact .of_eq (h us hl)
def Passes(CX:LS)(X:Cx)(E:XK):Prop:=∀ (pins:List (Addr × Obj)) (σ:St) (H:Hp) (s:Shared) (e:Value) (s':Shared),Inv X pins σ H s→CX X.stack H s E e s'→X.xe e s'
section
variable {X:Cx} {CX:LS} {k:Nat} {f C:Addr} {fd:FuncData} {ps:List Str} {sp:Sp} {Ag:List V} {ds:List Value} {E:XK} {x m:Str} {p pos apos:Pos} {e o:Expr} {es:List Expr} {ta:TE} {t:TA}
theorem Dq{pins:List (Addr × Obj)}{σ:St}{H:Hp}{s:Shared}{Q:VK}{us:List Value}{vs:List V}(F:aC X.prog X.w X.K X.mg X.base CX k f fd ps sp)(hr:lJ k X.A)(hb:Binds X.K fd ps ds)(hd:Vals Ag ds)(hx:Passes CX X E)
  (I:Inv X pins σ H s) (r:Vals vs us) (h:sp (vs++Ag) H Q E):wpAny (model X.prog X.w) X.A (call (.ref f) us) (EP X pins σ Q) X.xe s:=by
 have r2:Vals (vs++Ag) (us++ds):=r.append hd
 have hl:(us++ds).length=ps.length:=by rw[← r2.length];exact F.len _ _ _ _ h
 refine wpAny_call (codeAny_mono (F.run X.A X.stack s H ⟨us,[]⟩ (us++ds) (vs++Ag) Q E hr I.Ue (hb s us I.yx hl) r2 h) fun r s' hq=>?_)
 cases r with
 | error e=>exact hx pins σ H s e s' I hq
 | ok fl =>
  cases fl with
  | ret u=>exact I.after hq
  | next=>exact False.elim hq
  | brk=>exact False.elim hq
  | cont=>exact False.elim hq
theorem Dr(F:aC X.prog X.w X.K X.mg X.base CX k f fd ps sp)(hr:lJ k X.A)(hg:Gl X x)(hm:X.mg x=some (.ref f))(hk:PySem.W.keepIn X.K (.ref f)=true)(hb:Binds X.K fd ps ds)(hd:Vals Ag ds)(hx:Passes CX X E)
  (ha:PA X (e::es) t) (hdb:(x == ("__debug__":Str))=false:=by decide) (he:starEach (e::es) X.env=(false,eval e X.env)::starEach es X.env:=by rfl) (hpl:(backTo pos (starEach es X.env)).any (·.1)=false:=by rfl) :
  PE X (.Call (.Name x p) (e::es) [] pos) (E8 sp Ag E t):=by
 intro pins s σ H Q I h
 refine wpAny_Call_Name_kw (vY I hg hm ?_ hdb)
 refine PySem.W.callWith_K (h₀:=X.base) I.ok.mod.TL hk (cu (ha pos pins s σ H _ I h) fun us s1 ⟨vs,H1,I1,r,q⟩=>⟨I1.yx,?_⟩) he hpl
 exact Dq F hr hb hd hx I1 r q
theorem LV(F:aC X.prog X.w X.K X.mg X.base CX k f fd ps sp)(hr:lJ k X.A)(hg:Gl X x)(hm:X.mg x=some (.ref f))(hk:PySem.W.keepIn X.K (.ref f)=true)(hb:Binds X.K fd ps ds)(hd:Vals Ag ds)(hx:Passes CX X E)
  (hdb:(x == ("__debug__":Str))=false:=by decide):PE X (.Call (.Name x p) [] [] pos) (E8 sp Ag E Dp):=by
 intro pins s σ H Q I h
 refine wpAny_Call_Name_kw (vY I hg hm ?_ hdb)
 exact PySem.W.callWith_K0 I.yx hk (Dq (us:=[]) F hr hb hd hx I .nil h)
theorem bO{pl:Sem Bool}(he:PE X o ta)(c:BK X.K C)(hm:Meth X.K C m f)(F:aC X.prog X.w X.K X.mg X.base CX k f fd ps sp)(hr:lJ k X.A)(hb:Binds X.K fd ps ds)(hd:Vals Ag ds)(hx:Passes CX X E)(ha:PA X (e::es) t)
  (hst:starEach (e::es) X.env=(false,eval e X.env)::starEach es X.env:=by rfl) (hpl:(backTo pos (starEach es X.env)).any (·.1)=false:=by rfl)
  (ht:eval (.Call (.Attribute o m apos) (e::es) [] pos) X.env=(do
   let ov ← eval o X.env
   standAt apos.atName
   let (f,first) ← holding [ov] (getMethod ov m pl)
   callWith pos f first (backTo pos (starEach (e::es) X.env)) (backToKw pos (keywordEach [] X.env))):=by rfl) :
  PE X (.Call (.Attribute o m apos) (e::es) [] pos) (PK C m sp Ag E ta t):=by
 intro pins s σ H Q I h
 refine PySem.W.methodCall_KW (pl:=pl) (cu (he pins s σ H _ I h) fun u s1 ⟨x,H1,I1,rx,a,dx,fs,ex,ea,l,q⟩=>?_) ht
 subst ex
 obtain rfl:u=Value.ref a:=rx
 refine Ae I1 ea c hm l ?_
 refine PySem.W.callWith_K (first:=[.ref a]) (h₀:=X.base) I.ok.mod.TL hm.kp (cu (ha pos pins s1 σ H1 _ I1 q) fun us s2 ⟨vs,H2,I2,r,q2⟩=>⟨I2.yx,?_⟩) hst hpl
 exact Dq (us:=.ref a::us) (vs:=.ref a::vs) F hr hb hd hx I2 (.cons rfl r) q2
theorem cJ{pl:Sem Bool}(he:PE X o ta)(c:BK X.K C)(hm:Meth X.K C m f)(F:aC X.prog X.w X.K X.mg X.base CX k f fd ps sp)(hr:lJ k X.A)(hb:Binds X.K fd ps ds)(hd:Vals Ag ds)(hx:Passes CX X E)
  (ht:eval (.Call (.Attribute o m apos) [] [] pos) X.env=(do
   let ov ← eval o X.env
   standAt apos.atName
   let (f,first) ← holding [ov] (getMethod ov m pl)
   callWith pos f first (backTo pos (starEach [] X.env)) (backToKw pos (keywordEach [] X.env))):=by rfl) :
  PE X (.Call (.Attribute o m apos) [] [] pos) (PK C m sp Ag E ta Dp):=by
 intro pins s σ H Q I h
 refine PySem.W.methodCall_KW (pl:=pl) (cu (he pins s σ H _ I h) fun u s1 ⟨x,H1,I1,rx,a,dx,fs,ex,ea,l,q⟩=>?_) ht
 subst ex
 obtain rfl:u=Value.ref a:=rx
 refine Ae I1 ea c hm l ?_
 exact PySem.W.callWith_K0 (first:=[.ref a]) I1.yx hm.kp (Dq (us:=[.ref a]) (vs:=[.ref a]) F hr hb hd hx I1 (.cons rfl .nil) q)
structure Mk(K:PySem.W.Frag)(C f:Addr):Prop where
 makes:PySem.W.makesIn K C=true
 init:PySem.W.findIn K (.ref C) "__init__"=some (some (.ref f))
 fn:PySem.W.isFn K (.ref f)=true
 kp:PySem.W.keepIn K (.ref C)=true
theorem LW{pins:List (Addr × Obj)}{σ:St}{H:Hp}{s:Shared}{Q:VK}{us:List Value}{vs:List V}(M:Mk X.K C f)(F:aC X.prog X.w X.K X.mg X.base CX k f fd ps sp)(hr:lJ (k+1) X.A)(hb:Binds X.K fd ps ds)(hd:Vals Ag ds)
  (hx:Passes CX X E) (I:Inv X pins σ H s) (r:Vals vs us)
  (h:∀ x dx,H x=none→H dx=none→dx≠x→sp (.ref x::(vs++Ag)) (upd (upd H dx (.own x)) x (.ins C dx [])) (fun v H2=>v=.jw∧Q (.ref x) H2) E) :
  wpAny (model X.prog X.w) X.A (call (.ref C) us) (EP X pins σ Q) X.xe s:=by
 have hq:=h (s.heap.objs.size+1) s.heap.objs.size (I.hok.fresh (Nat.le_succ _)) (I.hok.fresh (gQ _)) (ko (Nat.lt_succ_self _))
 have I2:=Inv.made (C:=C) I
 have r2:Vals (V.ref (s.heap.objs.size+1)::(vs++Ag)) (Value.ref (s.heap.objs.size+1)::(us++ds)):=.cons rfl (r.append hd)
 have hl:(Value.ref (s.heap.objs.size+1)::us++ds).length=ps.length:=by
  have e:=r2.length
  rw[F.len _ _ _ _ hq]at e
  exact e.symm
 refine wpAny_call (LR (f:=f) I.yx M.makes M.init (beq_iff_eq.mp M.fn) (codeAny_mono (F.run _ X.stack _ _ ⟨Value.ref (s.heap.objs.size+1)::us,[]⟩ (Value.ref (s.heap.objs.size+1)::(us++ds)) _ _ E (hr.make C us [])
  (I2.Ue.make C us []) (hb _ (Value.ref (s.heap.objs.size+1)::us) I2.yx hl) r2 hq) fun r s' hq'=>?_))
 cases r with
 | error e=>exact hx pins σ _ _ e s' I2 hq'
 | ok fl =>
  cases fl with
  | ret u =>
   obtain⟨v,H',I3,rv,ev,q3⟩:=I2.after hq'
   subst ev
   exact⟨rv,⟨V.ref (s.heap.objs.size+1),H',I3,rfl,q3⟩⟩
  | next=>exact False.elim hq'
  | brk=>exact False.elim hq'
  | cont=>exact False.elim hq'
theorem qG(M:Mk X.K C f)(F:aC X.prog X.w X.K X.mg X.base CX k f fd ps sp)(hr:lJ (k+1) X.A)(hg:Gl X x)(hm:X.mg x=some (.ref C))(hb:Binds X.K fd ps ds)(hd:Vals Ag ds)(hx:Passes CX X E)
  (hdb:(x == ("__debug__":Str))=false:=by decide):PE X (.Call (.Name x p) [] [] pos) (Uh C sp Ag E Dp):=by
 intro pins s σ H Q I h
 refine wpAny_Call_Name_kw (vY I hg hm ?_ hdb)
 exact PySem.W.callWith_K0 I.yx M.kp (LW (us:=[]) M F hr hb hd hx I .nil h)
end
structure aJ(N P:List Str)(sc:Scope):Prop where
 kind:sc.kind=.function
 co:sc.isCoroutine=false
 gen:sc.isGenerator=false
 nd:N.Nodup
 pre:N.take P.length=P
 par:∀ x∈P,sc.names.lookup x=some .local∨sc.names.lookup x=some .cell
 QW:∀ y∈sc.names,y.2≠.free
theorem Cf{kindOf:Str→Option NameKind}{x:Str}:∀ {binds:List (Str × Value)} {m:Str→Option Value},(∀ v,(x,v)∉binds)→bindL kindOf binds m x=m x
 | [],_,_=>rfl
 | (n,v)::r,m,h=>by
  unfold bindL
  rw[Cf fun w hw=>h w (sJ _ hw)]
  split
  ·have:x≠n:=by rintro rfl;exact h v sD
   simp[this]
  ·rfl
theorem Cg{kindOf:Str→Option NameKind}{x:Str}:∀ {binds:List (Str × Value)} {m:Str→Option Value},(∀ v,(x,v)∉binds)→bindC kindOf binds m x=m x
 | [],_,_=>rfl
 | (n,v)::r,m,h=>by
  unfold bindC
  rw[Cg fun w hw=>h w (sJ _ hw)]
  split
  ·rfl
  ·have:x≠n:=by rintro rfl;exact h v sD
   simp[this]
theorem Ci{kindOf:Str→Option NameKind}{x:Str}{v:Value}:∀ {P:List Str} {vs:List Value} {i:Nat} {m:Str→Option Value},P.Nodup→P[i]?=some x→vs[i]?=some v→kindOf x=some .local →
  bindL kindOf (P.zip vs) m x=some v
 | [],_,_,_,_,h,_,_=>by simp at h
 | _::_,[],_,_,_,_,h,_=>by simp at h
 | p::P,w::vs,0,m,nd,h1,h2,hk=>by
  simp at h1 h2;subst h1;subst h2
  show bindL kindOf ((p,w)::P.zip vs) m p=_
  unfold bindL
  rw[Cf fun v hv=>(List.nodup_cons.mp nd).1 (List.of_mem_zip hv).1,if_pos hk]
  simp
 | p::P,w::vs,i+1,m,nd,h1,h2,hk=>by
  show bindL kindOf ((p,w)::P.zip vs) m x=_
  unfold bindL
  exact Ci (i:=i) (List.nodup_cons.mp nd).2 (by simpa using h1) (by simpa using h2) hk
theorem Cj{kindOf:Str→Option NameKind}{x:Str}{v:Value}:∀ {P:List Str} {vs:List Value} {i:Nat} {m:Str→Option Value},P.Nodup→P[i]?=some x→vs[i]?=some v→kindOf x≠some .local →
  bindC kindOf (P.zip vs) m x=some v
 | [],_,_,_,_,h,_,_=>by simp at h
 | _::_,[],_,_,_,_,h,_=>by simp at h
 | p::P,w::vs,0,m,nd,h1,h2,hk=>by
  simp at h1 h2;subst h1;subst h2
  show bindC kindOf ((p,w)::P.zip vs) m p=_
  unfold bindC
  rw[Cg fun v hv=>(List.nodup_cons.mp nd).1 (List.of_mem_zip hv).1,if_neg hk]
  simp
 | p::P,w::vs,i+1,m,nd,h1,h2,hk=>by
  show bindC kindOf ((p,w)::P.zip vs) m x=_
  unfold bindC
  exact Cj (i:=i) (List.nodup_cons.mp nd).2 (by simpa using h1) (by simpa using h2) hk
def start(N:List Str)(vs:List V):St:=vs.map some++List.replicate (N.length-vs.length) none
def Ht(CX:LS)(P:Program)(w:World)(K:PySem.W.Frag)(mg:Str→Option Value)(base:Heap)(N:List Str)(qual:Str)(scope:Scope)(f:Addr)(cd:Value)(A:Around)(outer:List Env)(s:Shared)(H:Hp)(E:XK):Cx where
 prog:=P
 w:=w
 K:=K
 mg:=mg
 base:=base
 A:=A.deeper (envOfC qual scope s.heap.objs.size f cd)
 N:=N
 s₀:=s
 H₀:=H
 env:=envOfC qual scope s.heap.objs.size f cd
 outer:=outer
 stack:=envOfC qual scope s.heap.objs.size f cd::outer
 ex:=[]
 calm:=true
 fn:=fun _=>true
 pn:=[]
 xe:=fun e s'=>wpAny (model P w) (A.deeper (envOfC qual scope s.heap.objs.size f cd)) (leaving (envOfC qual scope s.heap.objs.size f cd) e) (fun _ s''=>CX outer H s E e s'') (fun e' s''=>CX outer H s E e' s'') s'
theorem E9{sc:Scope}{n:Nat}{x:Str}(h:sc.names.lookup x=some .cell):∃ c,(cellsFrom n sc.names []).lookup x=some c:=by
 have q:=PySem.W.cellsFrom_some sc.names n [] (.inl h)
 exact Option.isSome_iff_exists.mp q
theorem Ke{CX:LS}{P:Program}{w:World}{K:PySem.W.Frag}{mg:Str→Option Value}{base:Heap}{N ps:List Str}{qual:Str}{scope:Scope}{f:Addr}{cd:Value}{A:Around}{outer:List Env}{s s1:Shared}{H:Hp}{E:XK}{us:List Value}{vs:List V}
  (S:aJ N ps scope) (hd:A.handled=none) (e0:Hs P w K mg base A outer s H) (hl:vs.length=ps.length) (r:Vals vs us)
  (x:InCallC s s.heap.objs.size (bindL (envOfC qual scope s.heap.objs.size f cd).kindOf (ps.zip us) fun _=>none) (cellsFrom (s.heap.objs.size+1) scope.names []) (bindC (envOfC qual scope s.heap.objs.size f cd).kindOf (ps.zip us) fun _=>none) s1) :
  Inv (Ht CX P w K mg base N qual scope f cd A outer s H E) [] (start N vs) H s1:=by
 have hpl:ps.length≤N.length:=by have:=congrArg List.length S.pre;rw[rj]at this;omega
 obtain⟨h1,tk,rfl,hk⟩:=x.done
 have Ui:∀ b:Addr,b∉(Ht CX P w K mg base N qual scope f cd A outer s H E).ex:=fun b z=>absurd (show b∈([]:List Addr) from z) (by simp)
 refine⟨⟨e0.mod,S.kind,rfl,rfl,gQ _,fun y z c h1 h2=>?_,fun y hy=>?_,fun y c _ h=>?_,fun _=>hd,Around.frames_deeper e0.frames,.inr ⟨rfl,rfl⟩,fun b z=>absurd z (Ui b),e0.bs,e0.NT,fun b _ _=>Ui b,fun b z=>absurd z (Ui b),e0.vW,e0.QE⟩,
  rfl,e0.bare,Un.kept hk,⟨_,x.toInCall.ns,fun i y v h1 h2 h3=>?_⟩,fun y c h=>⟨_,x.cell y c h⟩,e0.hok.fresh (gQ _),fun y c h=>?_,fun p hp=>absurd (show p∈([]:List (Addr × Obj)) from hp) (by simp),e0.hok.kept hk,?_⟩
 ·exact name_of_addr x.apart (PySem.mem_of_lookup h1) (PySem.mem_of_lookup h2)
 ·have hy:scope.names.lookup y=some .cell∨scope.names.lookup y=some .free:=hy
  rcases hy with hy|hy
  ·exact E9 hy
  ·exact absurd rfl (S.QW _ (PySem.mem_of_lookup hy))
 ·exact iR (x.above y c (PySem.mem_of_lookup h))
 ·have hi:i<vs.length:=by
   unfold start at h2
   by_cases hi:i<vs.length
   ·exact hi
   ·rw[List.getElem?_append_right (by simpa using hi)]at h2
    rw[List.getElem?_replicate]at h2
    split at h2 <;> cases h2
  have ha:vs[i]?=some v:=by
   unfold start at h2
   rw[BH (by simpa using hi),jV]at h2
   cases e:vs[i]? with
   | none=>rw[e]at h2;cases h2
   | some a=>rw[e]at h2;cases h2;rfl
  obtain⟨u,hu,rv⟩:=r.get ha
  have hp:ps[i]?=some y:=by
   rw[← S.pre,List.getElem?_take_of_lt (by omega)];exact h1
  have ndP:ps.Nodup:=by rw[← S.pre];exact S.nd.sublist (List.take_sublist _ _)
  refine⟨u,rv,?_⟩
  rcases S.par y (uA hp) with k|k
  ·exact .inl ⟨k,Ci ndP hp hu k⟩
  ·obtain⟨c,e⟩:=E9 (n:=s.heap.objs.size+1) k
   refine .inr ⟨.inl k,c,e,?_⟩
   have q:=x.cell y c e
   rw[Cj ndP hp hu (by show scope.names.lookup y≠_;rw[k];decide)]at q
   exact q
 ·exact e0.hok.fresh (iR (x.above y c (PySem.mem_of_lookup h)))
 ·unfold start
  show _=N.length
  rw[dU,cA,vm]
  omega
theorem PL{CX:LS}{P:Program}{w:World}{K:PySem.W.Frag}{mg:Str→Option Value}{base:Heap}{k:Nat}{f:Addr}{name qual:Str}{params:Arguments}{body:List Stmt}{scope:Scope}{dV kV doc pm cdv ct oc:Value}{an od:Option Addr}
  {osl:Array (Option Value)} {N ps:List Str} {sp:Sp} (lk:K.lookup f=some ⟨oc,od,.func (PySem.W.fnOf name qual params body scope dV kV doc pm an cdv ct),osl⟩) (hcd:PySem.W.codeIn K cdv qual=true) (S:aJ N ps scope)
  (len:∀ vs H Q E,sp vs H Q E→vs.length=ps.length)
  (hbody:∀ (A:Around) (outer:List Env) (s:Shared) (H:Hp) (vs:List V) (Q:VK) (E:XK),lJ k (A.deeper (envOfC qual scope s.heap.objs.size f cdv))→sp vs H Q E →
   ∃ t,IK (Ht CX P w K mg base N qual scope f cdv A outer s H E) body t∧t { nx:=fun _ H'=>Q .jw H',rt:=Q } (start N vs) H) :
  aC P w K mg base CX (k+1) f (PySem.W.fnOf name qual params body scope dV kV doc pm an cdv ct) ps sp:=by
 refine⟨len,fun A outer s H args us vs Q E hr e0 hb r Hu=>?_⟩
 have hl:=len _ _ _ _ Hu
 have KX:K.In s.heap:=e0.mod.TL.keeps fun b o e=>(e0.bs b o e).1
 have lim:s.heap.NoLimit:=e0.mod.nolimit.keeps fun b o e=>(e0.bs b o e).1
 have hkind:∀ y∈ps.zip us,scope.names.lookup y.1=some .local∨(scope.names.lookup y.1=some .cell∧((cellsFrom (s.heap.objs.size+1) scope.names []).lookup y.1).isSome=true):=fun ⟨n,v⟩ hy=>by
  rcases S.par n (List.of_mem_zip hy).1 with q|q
  ·exact .inl q
  ·exact .inr ⟨q,PySem.W.cellsFrom_some _ _ _ (.inl q)⟩
 refine codeAny_call_function hr.depth (KX _ _ lk) rfl S.co S.gen rfl (PySem.W.codeRec_of KX hcd) (hb _ _ _ _ ?_)
 refine wpAny_newFunctionEnv_cells S.kind hkind fun env he s1 x=>?_
 subst he
 refine⟨lim.keeps x.toInCall.keep,codeAny_func ?_⟩
 obtain⟨t,ht,hq⟩:=hbody A outer s H vs Q E (hr.deeper _) Hu
 have I:Inv (Ht CX P w K mg base N qual scope f cdv A outer s H E) [] (start N vs) H s1:=Ke S hr.hd e0 hl r x
 refine wpAny_mono (ht [] s1 (start N vs) H _ I hq) (fun fl s' hs=>?_) fun e s' hs=>hs
 have fin:∀ {σ':St} {H':Hp} {v:V} {u:Value},Inv (Ht CX P w K mg base N qual scope f cdv A outer s H E) [] σ' H' s'→RelV v u→Q v H'→CE outer P w H s Q u s' :=
  fun {σ' H' v u} J rv q=>⟨v,H',J.os,J.bare,J.base,J.hok,rv,q⟩
 cases fl with
 | ret u =>
  obtain⟨v,σ',H',J,rv,q⟩:=hs
  exact fin J rv q
 | next =>
  obtain⟨σ',H',J,q⟩:=hs
  exact fin (v:=V.jw) (u:=Value.none) J rfl q
 | brk =>
  obtain⟨_,_,_,q⟩:=hs
  exact False.elim q
 | cont =>
  obtain⟨_,_,_,q⟩:=hs
  exact False.elim q
end L2
namespace L2
open PySem PySem.Spec PyProof.Rows
section
variable {X:Cx} {x:Str} {p pos:Pos} {e:Expr} {es:List Expr} {t:TA} {id T:String} {r:List V→Hp→VK→Prop}
def tCB(r:List V→Hp→VK→Prop)(t:TA):TE:=fun σ H Q=>t σ H fun vs H1=>r vs H1 Q
theorem aR(hc:nO X (.builtin id) r)(hg:Gl X x)(hm:X.mg x=none)(hv:bootBuiltins x=some (.builtin id))(ha:PA X (e::es) t)(hn:x≠"__name__":=by decide)(hdb:(x == ("__debug__":Str))=false:=by decide)
  (he:starEach (e::es) X.env=(false,eval e X.env)::starEach es X.env:=by rfl) (hpl:(backTo pos (starEach es X.env)).any (·.1)=false:=by rfl):PE X (.Call (.Name x p) (e::es) [] pos) (tCB r t):=by
 intro pins s σ H Q I h
 refine wpAny_Call_Name_kw (xu I hg hm hv ?_ hn hdb)
 exact PyProof.Rows.callWith_builtin1 (cu (ha pos pins s σ H _ I h) fun us s1 ⟨vs,H1,I1,r1,q1⟩=>hc pins s1 σ H1 vs us Q I1 r1 q1) he hpl
theorem jl(hc:nO X (.type T) r)(hg:Gl X x)(hm:X.mg x=none)(hv:bootBuiltins x=some (.type T))(ha:PA X (e::es) t)(hn:x≠"__name__":=by decide)(hdb:(x == ("__debug__":Str))=false:=by decide)
  (he:starEach (e::es) X.env=(false,eval e X.env)::starEach es X.env:=by rfl) (hpl:(backTo pos (starEach es X.env)).any (·.1)=false:=by rfl):PE X (.Call (.Name x p) (e::es) [] pos) (tCB r t):=by
 intro pins s σ H Q I h
 refine wpAny_Call_Name_kw (xu I hg hm hv ?_ hn hdb)
 exact PyProof.Rows.callWith_type1 (cu (ha pos pins s σ H _ I h) fun us s1 ⟨vs,H1,I1,r1,q1⟩=>hc pins s1 σ H1 vs us Q I1 r1 q1) he hpl
end
end L2
namespace HT
open PySem PyProof.Rows
section
variable {prog:Program} {w:World} {A:Around} {E:Value→Shared→Prop} {s:Shared}
def iG(n d:Nat):Option Int→Nat
 | none=>d
 | some v=>if v<0 then (v+(n:Int)).toNat else min v.toNat n
theorem IS(n d k:Nat):iG n d (some (k:Int))=min k n:=by
 show (if (k:Int)<0 then ((k:Int)+(n:Int)).toNat else min (k:Int).toNat n)=min k n
 rw[if_neg (by omega),Int.toNat_natCast]
theorem QX(n d:Nat)(hd:d≤n)(o:Option Int):iG n d o≤n:=by
 cases o with
 | none=>exact hd
 | some v =>
  show (if v<0 then (v+(n:Int)).toNat else min v.toNat n)≤n
  by_cases hv:v<0
  ·rw[if_pos hv];omega
  ·rw[if_neg hv];exact Nat.min_le_right _ _
theorem IT(v:Int)(n d:Nat):(if v<0 then max (v+(n:Int)) 0 else min v (n:Int))=((iG n d (some v):Nat):Int):=by
 show (if v<0 then max (v+(n:Int)) 0 else min v (n:Int))=(((if v<0 then (v+(n:Int)).toNat else min v.toNat n):Nat):Int)
 by_cases hv:v<0
 ·simp only[if_pos hv];omega
 ·simp only[if_neg hv];omega
theorem Hv(lo hi:Option Int)(n:Nat):Builtin.Slice.sliceAdjust lo hi 1 (n:Int)=(((iG n 0 lo:Nat):Int),((iG n n hi:Nat):Int)):=by
 have h1:¬ ((1:Int)<0):=by omega
 unfold Builtin.Slice.sliceAdjust
 simp only[h1,if_false]
 refine Prod.ext ?_ ?_
 ·cases lo with
  | none=>rfl
  | some v=>exact IT v n 0
 ·cases hi with
  | none=>rfl
  | some v=>exact IT v n n
theorem Hw(i j:Nat):Builtin.Slice.slicePlaces (i:Int) (j:Int) 1=j-i:=by
 unfold Builtin.Slice.slicePlaces
 have h1:(1:Int) > 0:=by omega
 simp only[h1,if_true,Int.ediv_one]
 split <;> omega
theorem Ah{v:Value}{o:Option Int}{Q:Option Int→Shared→Prop}(p:IsPart v o)(h:Q o s):wpAny (model prog w) A (Builtin.Slice.slicePartIndex v) Q E s:=by
 cases p with
 | none=>exact slicePart_none h
 | int i t=>exact slicePart_int h
theorem xE{sl:Addr}{vl vu:Value}{lo hi:Option Int}{n:Nat}{Q:Int × Int × Nat→Shared→Prop}(hs:s.heap.IsSliceOf sl vl vu .none)(pl:IsPart vl lo)(pu:IsPart vu hi)
  (h:Q (((iG n 0 lo:Nat):Int),1,iG n n hi-iG n 0 lo) s):wpAny (model prog w) A (Builtin.Slice.sliceApplied (.ref sl) (pure (n:Int))) Q E s:=by
 obtain⟨os,hos,hcs,hds⟩:=id hs
 unfold Builtin.Slice.sliceApplied Builtin.Slice.sliceFields
 refine wpAny_bind (wpAny_bind (wpAny_field hos hds (x:=vl) rfl (wpAny_bind (wpAny_field hos hds (x:=vu) rfl (wpAny_bind (wpAny_field hos hds (x:=.none) rfl (wpAny_pure ?_)))))))
 refine wpAny_bind (slicePart_none ?_)
 show wpAny _ _ (if ((1:Int) == 0)=true then _ else _) _ _ s
 rw[if_neg (by decide)]
 refine wpAny_bind (Ah pl (wpAny_bind (Ah pu (wpAny_bind (wpAny_pure ?_)))))
 show wpAny _ _ (match Builtin.Slice.sliceAdjust lo hi 1 (n:Int) with|(lo,hi)=>pure (lo,(1:Int),Builtin.Slice.slicePlaces lo hi 1)) _ _ s
 rw[Hv lo hi n]
 show wpAny _ _ (pure (((iG n 0 lo:Nat):Int),(1:Int),Builtin.Slice.slicePlaces ((iG n 0 lo:Nat):Int) ((iG n n hi:Nat):Int) 1)) _ _ s
 rw[Hw]
 exact wpAny_pure h
theorem LX(xs:Array Value)(i k:Nat):((List.range k).filterMap fun (m:Nat)=>xs[((i:Int)+(m:Int)*1).toNat]?).toArray=((xs.toList.drop i).take k).toArray:=by
 have e:(fun (m:Nat)=>xs[((i:Int)+(m:Int)*1).toNat]?)=fun m=>xs[i+m]?:=by
  funext m
  have:((i:Int)+(m:Int)*1).toNat=i+m:=by omega
  rw[this]
 rw[e]
 have:=pick_run xs i k
 rw[List.filterMap_map]at this
 have e2:((fun x=>xs[x]?) ∘ fun x=>i+x)=fun m=>xs[i+m]?:=rfl
 rw[e2]at this
 rw[this]
theorem wc{t sl:Addr}{items:Array Value}{vl vu:Value}{lo hi:Option Int}{Q:Value→Shared→Prop}(ht:IsTup s.heap t items)(hs:s.heap.IsSliceOf sl vl vu .none)(pl:IsPart vl lo)(pu:IsPart vu hi)
  (hw:¬ (iG items.size 0 lo=0∧iG items.size items.size hi=items.size))
  (h:Q (.ref s.heap.objs.size) { s with heap:=s.heap.push { cls:=.type "tuple",data:=.seq ((items.toList.drop (iG items.size 0 lo)).take (iG items.size items.size hi-iG items.size 0 lo)).toArray } })
  (hsz:items.size≤sizeLine):wpAny (model prog w) A (getItem (.ref t) (.ref sl)) Q E s:=by
 have IU:sizeOk (.seq ((items.toList.drop (iG items.size 0 lo)).take (iG items.size items.size hi-iG items.size 0 lo)).toArray):=by
  show ((items.toList.drop (iG items.size 0 lo)).take (iG items.size items.size hi-iG items.size 0 lo)).toArray.size≤sizeLine
  rw[su,rj,sL,Array.length_toList]
  omega
 have hj:iG items.size items.size hi≤items.size:=QX _ _ (gQ _) hi
 obtain⟨os,hos,hcs,hds⟩:=id hs
 have hTs:s.TypeIs (.ref sl) "slice":=⟨os,hos,hcs⟩
 unfold getItem
 try with_reducible refine wpAny_holding ?_
 first|refine wpAny_bind (wpAny_pure ?_)|skip
 refine wpAny_bind (wpAny_sequenceKey ht.typeIs (by decide) ?_)
 refine wpAny_bind (wpAny_callSpecial?_slot (name:=Str.ofString "__getitem__") ht.typeIs PyProof.Rows.slot_tuple_getitem
  (wpAny_call_entry PyProof.Rows.slot_tuple_getitem ht.typeIs entry_tuple_getitem ?_ (args_tuple_getitem _ _)))
 show wpAny _ _ (Builtin.Tuple.tupleItemsOf (.ref t) >>= _) _ _ s
 refine wpAny_bind (tupleItemsOf_ ht ?_)
 refine wpAny_bind (wpAny_typeOf hTs ?_)
 rw[if_pos (by decide)]
 refine wpAny_bind (xE hs pl pu ?_)
 have hno:¬ ((((iG items.size 0 lo:Nat):Int) == 0&&(1:Int) == 1&&(iG items.size items.size hi-iG items.size 0 lo) == items.size)=true):=by
  intro q
  rw[Bool.and_eq_true,Bool.and_eq_true]at q
  have q1:((iG items.size 0 lo:Nat):Int)=0:=eq_of_beq q.1.1
  have q2:iG items.size items.size hi-iG items.size 0 lo=items.size:=eq_of_beq q.2
  exact hw ⟨by omega,by omega⟩
 show wpAny _ _ (if (((iG items.size 0 lo:Nat):Int) == 0&&(1:Int) == 1&&(iG items.size items.size hi-iG items.size 0 lo) == items.size)=true then _ else _) _ _ s
 rw[if_neg hno,LX]
 first
  | exact wpAny_bind (m:=Builtin.Tuple.tupleExact _) (wpAny_newObj_type (wpAny_pure ⟨_,rfl,wpAny_pure h⟩) IU)
  | exact wpAny_bind (m:=Builtin.Tuple.tupleExact _) (wpAny_newObj_type (wpAny_bind (wpAny_pure (wpAny_pure ⟨_,rfl,wpAny_pure h⟩))) IU)
  | exact wpAny_bind (wpAny_bind (m:=Builtin.Tuple.tupleExact _) (wpAny_newObj_type (wpAny_pure (wpAny_pure ⟨_,rfl,wpAny_pure h⟩)) IU))
  | exact wpAny_bind (wpAny_bind (m:=Builtin.Tuple.tupleExact _) (wpAny_newObj_type (wpAny_pure ⟨_,rfl,wpAny_pure h⟩) IU))
end
end HT
namespace L2
open PySem PySem.Spec PyProof.Rows
abbrev TO:=St→Hp→(Option Int→Hp→Prop)→Prop
def PO(X:Cx)(e:Option Expr)(t:TO):Prop :=
 ∀ (pins:List (Addr × Obj)) (s:Shared) (σ:St) (H:Hp) (Q:Option Int→Hp→Prop),Inv X pins σ H s→t σ H Q →
  wpAny (model X.prog X.w) X.A (evalPart e X.env) (fun u s'=>∃ o H',Inv X pins σ H' s'∧IsPart u o∧Q o H') X.xe s
def N7:TO:=fun _ H Q=>Q none H
def Uj(t:TE):TO:=fun σ H Q=>t σ H fun x H1=>isI x H1 Q
theorem intsAre_of{ns:List Int}:∀ {us:List Value},Vals (ns.map V.int) us→IntsAre us ns:=by
 induction ns with
 | nil=>intro us r;rw[List.map_nil]at r;cases r;exact .nil
 | cons n ns ih =>
  intro us r
  rw[mz]at r
  cases r with
  | cons r1 r2 =>
   obtain⟨t,e⟩:=r1
   subst e
   exact .cons n t (ih r2)
section
variable {X:Cx} {e:Expr} {te:TE} {lo hi:Option Expr} {tl th:TO} {pos p2:Pos}
theorem kG:PO X none N7:=by
 intro pins s σ H Q I h
 rw[evalPart_none]
 exact wpAny_pure ⟨none,H,I,.none,h⟩
theorem kH(h:PE X e te):PO X (some e) (Uj te):=by
 intro pins s σ H Q I hw
 rw[evalPart_some]
 refine cu (h pins s σ H _ I hw) fun u s1 ⟨x,H1,I1,r1,q1⟩=>?_
 obtain⟨i,rfl,q⟩:=q1
 obtain⟨t,rfl⟩:=r1
 exact⟨some i,H1,I1,.int i t,q⟩
def WA(X:Cx)(r:V→Option Int→Option Int→Hp→VK→Prop):Prop :=
 ∀ (pins:List (Addr × Obj)) (s:Shared) (σ:St) (H:Hp) (x:V) (v vl vu:Value) (lo hi:Option Int) (sl:Addr) (Q:VK),Inv X pins σ H s→RelV x v→s.heap.IsSliceOf sl vl vu .none→IsPart vl lo→IsPart vu hi→r x lo hi H Q →
  ∃ T id,typeLookup (.type T) "__getitem__"=pure (some (.builtin id))∧s.TypeIs v T∧wpAny (model X.prog X.w) X.A (getItem v (.ref sl)) (EP X pins σ Q) X.xe s
def tSl(r:V→Option Int→Option Int→Hp→VK→Prop)(te:TE)(tl th:TO):TE:=fun σ H Q=>te σ H fun x H1=>tl σ H1 fun l H2=>th σ H2 fun u H3=>r x l u H3 Q
theorem jd{r:V→Option Int→Option Int→Hp→VK→Prop}(hr:WA X r)(he:PE X e te)(hl:PO X lo tl)(hu:PO X hi th):PE X (.Subscript e (.Slice lo hi none p2) pos) (tSl r te tl th):=by
 intro pins s σ H Q I h
 refine Subscript_ (cu (he pins s σ H _ I h) fun v s1 ⟨x,H1,I1,r1,q1⟩=>?_)
 refine wpAny_Slice (cu (hl pins s1 σ H1 _ I1 q1) fun vl s2 ⟨l,H2,I2,pl,q2⟩=>cu (hu pins s2 σ H2 _ I2 q2) fun vu s3 ⟨u,H3,I3,pu,q3⟩=>?_)
 rw[evalPart_none]
 refine wpAny_pure ?_
 have I4:Inv X pins σ H3 { s3 with heap:=s3.heap.push { cls:=.type "slice",data:=.fields #[vl,vu,.none] } }:=I3.kept (t':=s3.toks) fun b ob q=>Heap.get?_push_of_some _ q
 obtain⟨T,id,hT,ht,hg⟩:=hr pins { s3 with heap:=s3.heap.push { cls:=.type "slice",data:=.fields #[vl,vu,.none] } } σ H3 x v vl vu l u s3.heap.objs.size Q I4 r1 (Heap.IsSliceOf.new ..) pl pu q3
 show wpAny (model X.prog X.w) X.A (subscriptTail e (.Slice lo hi none p2) v (.ref s3.heap.objs.size)) (EP X pins σ Q) X.xe { s3 with heap:=s3.heap.push { cls:=.type "slice",data:=.fields #[vl,vu,.none] } }
 exact tail_any (ops:=[.ref s3.heap.objs.size,v]) ht hT hg (by with_unfolding_all rfl)
def nX(xs:List V)(lo hi:Option Int):List V:=(xs.drop (HT.iG xs.length 0 lo)).take (HT.iG xs.length xs.length hi-HT.iG xs.length 0 lo)
theorem yC(xs:List V)(lo hi:Option Int):(nX xs lo hi).length≤xs.length:=by
 unfold nX
 rw[rj,sL]
 omega
def XX(K:PySem.W.Frag):V→Option Int→Option Int→Hp→VK→Prop:=fun x lo hi H Q=>∃ a xs,x=.ref a∧jW K H a xs ∧
 ¬ (HT.iG xs.length 0 lo=0∧HT.iG xs.length xs.length hi=xs.length)∧∀ p,H p=none→Q (.ref p) (upd H p (.tup (nX xs lo hi)))
theorem QY:WA X (XX X.K):=by
 intro pins s σ H x v vl vu lo hi sl Q I rx hs pl pu h
 obtain⟨a,xs,rfl,hx,hw,q⟩:=h
 cases rx
 obtain⟨its,r,ht,hz⟩:=I.tuple hx
 have hlen:its.toArray.size=xs.length:=by rw[su];exact r.length.symm
 refine⟨"tuple",_,PyProof.Rows.slot_tuple_getitem.lookup,ht.typeIs,?_⟩
 refine HT.wc ht hs pl pu (by rw[hlen];exact hw) ?_ (by rw[hlen];exact hz)
 rw[hlen]
 refine⟨.ref s.heap.objs.size,_,I.laid (t':=s.toks) (o:=.tup (nX xs lo hi)) (fun b ob q=>Heap.get?_push_of_some _ q) (gQ _) ?_,rfl,q _ (I.hok.fresh (gQ _))⟩
 exact⟨Nat.le_trans (yC xs lo hi) hz,_,(r.drop (HT.iG xs.length 0 lo)).take (HT.iG xs.length xs.length hi-HT.iG xs.length 0 lo),IsTup.new _ _⟩
end
end L2
namespace L2
open PySem PySem.Spec PyProof.Rows
def Ls(n:Nat)(i:Int):Option Nat:=if 0≤i then (if i<n then some i.toNat else none) else if -(n:Int)≤i then some (i+n).toNat else none
def xF{α:Type}(xs:List α)(i:Int):Option α:=(Ls xs.length i).bind fun j=>xs[j]?
theorem IV{n:Nat}{i:Int}{j:Nat}(h:Ls n i=some j):seqIndex? i n=some j∧j<n∧-(n:Int)≤i∧i<n:=by
 unfold Ls at h
 by_cases h0:0≤i
 ·rw[if_pos h0]at h
  by_cases h1:i<n
  ·rw[if_pos h1]at h
   have e:i.toNat=j:=sM h
   exact⟨by rw[seqIndex_of h0 h1,e],by omega,by omega,h1⟩
  ·rw[if_neg h1]at h;cases h
 ·rw[if_neg h0]at h
  by_cases h1:-(n:Int)≤i
  ·rw[if_pos h1]at h
   have e:(i+n).toNat=j:=sM h
   exact⟨by rw[seqIndex_neg (by omega) h1,e],by omega,h1,by omega⟩
  ·rw[if_neg h1]at h;cases h
theorem Ds{α:Type}{xs:List α}{i:Int}{v:α}(h:xF xs i=some v):∃ j,seqIndex? i xs.length=some j∧xs[j]?=some v∧j<xs.length∧-(xs.length:Int)≤i∧i<xs.length:=by
 unfold xF at h
 cases e:Ls xs.length i with
 | none=>rw[e]at h;cases h
 | some j =>
  rw[e]at h
  obtain⟨h1,h2,h3,h4⟩:=IV e
  exact⟨j,h1,h,h2,h3,h4⟩
theorem eV{α:Type}{xs:List α}{j:Nat}{v:α}(h:xs[j]?=some v):xF xs (j:Int)=some v:=by
 have hj:j<xs.length:=(List.getElem?_eq_some_iff.mp h).1
 have e:Ls xs.length (j:Int)=some j:=by
  unfold Ls
  rw[if_pos (by omega),if_pos (by omega)];simp
 unfold xF;rw[e];exact h
theorem LY{α:Type}(xs:List α)(v:α):xF (xs++[v]) (-1)=some v:=by
 have hl:(xs++[v]).length=xs.length+1:=by simp
 have e:Ls (xs++[v]).length (-1)=some xs.length:=by
  unfold Ls
  rw[hl,if_neg (by decide),if_pos (by omega)]
  congr 1
  omega
 unfold xF
 rw[e]
 show (xs++[v])[xs.length]?=some v
 simp
def N8(b:Expr):Prop:=∀ o i,subscripted b false o i=operate [o,i] (getItem o i)
def QZ(X:Cx)(r:R2):Prop :=
 ∀ (value slice:Expr) (pins:List (Addr × Obj)) (s:Shared) (σ:St) (H:Hp) (x y:V) (v u:Value) (Q:VK),Inv X pins σ H s→RelV x v→RelV y u→r x y H Q →
  subscripted slice false v u=operate [v,u] (getItem v u)→wpAny (model X.prog X.w) X.A (subscriptTail value slice v u) (EP X pins σ Q) X.xe s
def MtR(X:Cx)(id:String)(r:V→List V→Hp→VK→Prop):Prop :=
 ∀ (pins:List (Addr × Obj)) (s:Shared) (σ:St) (H:Hp) (x:V) (xs:List V) (v:Value) (us:List Value) (Q:VK),Inv X pins σ H s→RelV x v→Vals xs us→r x xs H Q →
  wpAny (model X.prog X.w) X.A (call (.builtin id) (v::us)) (EP X pins σ Q) X.xe s
section
variable {X:Cx} {a b:Expr} {ta tb:TE} {pos:Pos}
theorem bG{r:R2}(hr:QZ X r)(ha:PE X a ta)(hb:PE X b tb)(hs:N8 b):PE X (.Subscript a b pos) (SR r ta tb):=by
 intro pins s σ H Q I h
 exact Subscript_ (QS ha hb I h fun v u s2 x y H2 I2 rx ry q=>hr a b pins s2 σ H2 x y v u Q I2 rx ry q (hs _ _))
inductive N9(K:PySem.W.Frag)(x y:V)(H:Hp)(Q:VK):Prop
 | mk (p:Addr) (xs:List V) (i:Int) (v:V) (_:x=.ref p) (_:y=.int i) (_:bN K H p xs) (_:xF xs i=some v) (_:Q v H):N9 K x y H Q
inductive LZ(K:PySem.W.Frag)(x y:V)(H:Hp)(Q:VK):Prop
 | mk (p:Addr) (xs:List V) (i:Int) (v:V) (_:x=.ref p) (_:y=.int i) (_:jW K H p xs) (_:xF xs i=some v) (_:Q v H):LZ K x y H Q
def XY:R2:=fun x y H Q=>∃ z i c,x=.str z∧y=.int i∧z.length≤sizeLine∧xF z.cps.toList i=some c∧Q (.str ⟨#[c]⟩) H
theorem bM:QZ X (N9 X.K):=by
 intro value slice pins s σ H x y v u Q I rx ry h hs
 obtain⟨p,xs,i,z,rfl,rfl,hq,he,q⟩:=h
 cases rx
 obtain⟨t,rfl⟩:=ry
 obtain⟨its,r,pl,hz⟩:=I.list hq
 obtain⟨j,h1,h2,h3,h4,h5⟩:=Ds he
 obtain⟨w,ew,rw'⟩:=r.get h2
 have hl:=r.length
 have hn:=vo
 have fin:EP X pins σ Q w s:=⟨z,H,I,rw',q⟩
 by_cases h0:0≤i
 ·have hj:i.toNat=j:=by
   rw[seqIndex_of h0 h5]at h1
   exact sM h1
  exact item_listR pl.isList h0 (by omega) (by rw[hj];simpa using ew) fin hs
 ·have hj:(i+(its.toArray.size:Int)).toNat=j:=by
   rw[seqIndex_neg (by omega) h4]at h1
   rw[su,← hl]
   exact sM h1
  exact subscriptTail_builtinR (x:=w) pl.isList.typeIs slot_list_getitem.lookup
   (wpAny_getItem_list_neg (Q:=fun r s'=>r=w∧EP X pins σ Q r s') pl.isList (by omega) (by rw[su] <;> omega) (by omega) (by rw[hj];simpa using ew) ⟨rfl,fin⟩) hs
theorem eF:QZ X (LZ X.K):=by
 intro value slice pins s σ H x y v u Q I rx ry h hs
 obtain⟨p,xs,i,z,rfl,rfl,hq,he,q⟩:=h
 cases rx
 obtain⟨t,rfl⟩:=ry
 obtain⟨its,r,pl,hz⟩:=I.tuple hq
 obtain⟨j,h1,h2,h3,h4,h5⟩:=Ds he
 obtain⟨w,ew,rw'⟩:=r.get h2
 have hl:=r.length
 have hn:=vo
 have fin:EP X pins σ Q w s:=⟨z,H,I,rw',q⟩
 exact subscriptTail_builtinR (x:=w) pl.typeIs slot_tuple_getitem.lookup
  (getItem_tuple (j:=j) (Q:=fun r s'=>r=w∧EP X pins σ Q r s') pl (by omega) (by omega) (by rw[su,← hl];exact h1) (by simpa using ew) ⟨rfl,fin⟩) hs
theorem L0:QZ X XY:=by
 intro value slice pins s σ H x y v u Q I rx ry h hs
 obtain⟨z,i,c,rfl,rfl,hz,he,q⟩:=h
 obtain⟨t,rfl⟩:=rx
 obtain⟨t',rfl⟩:=ry
 obtain⟨j,h1,h2,h3,h4,h5⟩:=Ds he
 have hl:z.cps.toList.length=z.length:=by simp[Str.length]
 rw[hl]at h1 h4 h5
 have hn:=vo
 exact tail_any (typeIs_str s z t) slot_str_getitem.lookup (getItem_str (c:=c) (by
  have e1:decide (i < -(2^63:Int))=false:=decide_eq_false (by omega)
  have e2:decide (i≥2^63)=false:=decide_eq_false (by omega)
  rw[e1,e2,Bool.or_false]) (by rw[h1];simpa using h2) ⟨.str ⟨#[c]⟩,H,I.tok _,⟨_,rfl⟩,q⟩) hs
theorem Hx(its:List Value)(n j:Nat)(u:Value):Obj.mapSeq (·.setIfInBounds j u) { cls:=.type "list",data:=.seq its.toArray n }={ cls:=.type "list",data:=.seq (its.set j u).toArray n }:=by
 simp[Obj.mapSeq]
theorem Inv.lst{pins:List (Addr × Obj)}{σ:St}{H:Hp}{s:Shared}{p:Addr}{xs:List V}(I:Inv X pins σ H s)(h:H p=some (.lst xs)) :
  ∃ (its:List Value) (n:Nat),Vals xs its∧s.heap.get? p=some { cls:=.type "list",data:=.seq its.toArray n }∧xs.length≤sizeLine:=by
 obtain⟨z,its,n,r,e⟩:=I.hok p _ h
 exact⟨its,n,r,e,z⟩
theorem Inv.Q0{pins:List (Addr × Obj)}{σ:St}{H:Hp}{s:Shared}{p:Addr}{xs ys:List V}{its its':List Value}{n n':Nat}{f:Obj→Obj}(I:Inv X pins σ H s)(h:H p=some (.lst xs))
  (ho:s.heap.get? p=some { cls:=.type "list",data:=.seq its.toArray n }) (hf:f { cls:=.type "list",data:=.seq its.toArray n }={ cls:=.type "list",data:=.seq its'.toArray n' }) (r:Vals ys its') (hz:ys.length≤sizeLine) (t:Nat) :
  Inv X pins σ (upd H p (.lst ys)) { s with heap:=s.heap.update p f,toks:=t }:=by
 have e:(s.heap.update p f).get? p=some { cls:=.type "list",data:=.seq its'.toArray n' }:=by
  rw[Heap.get?_update_self f ho (by rw[hf] <;> rfl),hf]
 refine I.write (x:=p) (e:=p) (by rw[h];trivial) (.inl rfl) (fun b u hb q=>(Heap.get?_update_other _ _ (Ne.symm hb)).trans q) ⟨_,e⟩ ?_
 exact⟨hz,its',n',r,e⟩
inductive PM(o i v:V)(H:Hp)(Q:Hp→Prop):Prop
 | mk (p:Addr) (xs:List V) (k:Int) (j:Nat) (_:o=.ref p) (_:i=.int k) (_:H p=some (.lst xs)) (_:Ls xs.length k=some j) (_:Q (upd H p (.lst (xs.set j v)))):PM o i v H Q
theorem set_list:T3 X PM:=by
 intro pins s σ H o i v ov iv u Q I ro ri rv h
 obtain⟨p,xs,k,j,rfl,rfl,hp,hj,q⟩:=h
 cases ro
 obtain⟨t,rfl⟩:=ri
 obtain⟨its,n,r,ho,hz⟩:=I.lst hp
 obtain⟨h1,h2,h3,h4⟩:=IV hj
 have hl:=r.length
 have hn:=vo
 have I':Inv X pins σ (upd H p (.lst (xs.set j v))) { s with heap:=s.heap.update p (Obj.mapSeq (·.setIfInBounds j u)) } :=
  I.Q0 hp ho (Hx its n j u) (r.set rv j) (by rw[List.length_set];exact hz) s.toks
 by_cases h0:0≤k
 ·have hk:k.toNat=j:=by
   rw[seqIndex_of h0 h4]at h1
   exact sM h1
  exact PySem.W.ki_setAt ho h0 (by omega) (by rw[su,← hl];exact h4) (by rw[hk];exact⟨_,I',q⟩)
 ·have hk:(k+(its.toArray.size:Int)).toNat=j:=by
   rw[seqIndex_neg (by omega) h3]at h1
   rw[su,← hl]
   exact sM h1
  exact PySem.W.ki_setBack ho (by omega) (by rw[su,← hl];exact h3) (by omega) (by rw[hk];exact⟨_,I',q⟩)
theorem we(lo hi:Option Int)(n:Nat):(sliceBounds lo hi none n).1=((HT.iG n 0 lo:Nat):Int)∧(sliceBounds lo hi none n).2.1=((HT.iG n n hi:Nat):Int)∧(sliceBounds lo hi none n).2.2=1:=by
 refine⟨?_,?_,rfl⟩
 ·cases lo with
  | none=>simp[sliceBounds,HT.iG]
  | some i =>
   simp only[sliceBounds,HT.iG,Option.getD_none,show (1:Int) > 0 by decide,if_true]
   by_cases h:i<0
   ·simp only[h,if_true] <;> omega
   ·simp only[h,if_false] <;> omega
 ·cases hi with
  | none=>simp[sliceBounds,HT.iG]
  | some i =>
   simp only[sliceBounds,HT.iG,Option.getD_none,show (1:Int) > 0 by decide,if_true]
   by_cases h:i<0
   ·simp only[h,if_true] <;> omega
   ·simp only[h,if_false] <;> omega
theorem BL(its:List Value)(lo hi:Option Int):slicePick its.toArray lo hi none=((its.drop (HT.iG its.length 0 lo)).take (HT.iG its.length its.length hi-HT.iG its.length 0 lo)).toArray:=by
 obtain⟨h1,h2,h3⟩:=we lo hi its.toArray.size
 unfold slicePick
 rw[h1,h2,h3]
 simp only[sliceRange_one,pick_run,su] <;> rfl
inductive Uk(K:PySem.W.Frag)(x:V)(lo hi:Option Int)(H:Hp)(Q:VK):Prop
 | mk (a:Addr) (xs:List V) (_:x=.ref a) (_:bN K H a xs) (_:∀ p,H p=none→Q (.ref p) (upd H p (.lst (nX xs lo hi)))):Uk K x lo hi H Q
theorem wg:WA X (Uk X.K):=by
 intro pins s σ H x v vl vu lo hi sl Q I rx hs pl pu h
 obtain⟨a,xs,rfl,hx,q⟩:=h
 cases rx
 obtain⟨its,r,ht,hz⟩:=I.list hx
 have hlen:=r.length
 refine⟨"list",_,slot_list_getitem.lookup,ht.isList.typeIs,?_⟩
 refine wpAny_getItem_list_slice ht.isList hs pl pu .none (by simp) ?_ (by rw[su] <;> omega)
 rw[BL,← hlen]
 refine⟨.ref s.heap.objs.size,_,I.laid (t':=s.toks) (o:=.lst (nX xs lo hi)) (fun b ob q=>Heap.get?_push_of_some _ q) (gQ _) ?_,rfl,q _ (I.hok.fresh (gQ _))⟩
 exact⟨Nat.le_trans (yC xs lo hi) hz,_,0,(r.drop (HT.iG xs.length 0 lo)).take (HT.iG xs.length xs.length hi-HT.iG xs.length 0 lo),Heap.get?_push_size _ rfl⟩
inductive Ul(K:PySem.W.Frag)(xs:List V)(H:Hp)(Q:VK):Prop
 | mk (p:Addr) (ys:List V) (_:xs=[.ref p]) (_:bN K H p ys∨jW K H p ys) (_:Q (.int ys.length) H):Ul K xs H Q
inductive Q2(K:PySem.W.Frag)(xs:List V)(H:Hp)(Q:VK):Prop
 | mk (p:Addr) (ys:List V) (_:xs=[.ref p]) (_:bN K H p ys∨jW K H p ys) (_:∀ l,H l=none→Q (.ref l) (upd H l (.lst ys))):Q2 K xs H Q
theorem bP:nO X (.builtin "len") (Ul X.K):=by
 intro pins s σ H xs us Q I r h
 obtain⟨p,ys,rfl,hq,q⟩:=h
 obtain⟨u,rfl,rx⟩:=vals1 r
 cases rx
 have hn:=vo
 rcases hq with hq|hq
 ·obtain⟨its,r',pl,hz⟩:=I.list hq
  have hlen:=r'.length
  exact Calls.call_len_list pl.isList (by simp only[su] <;> omega) ⟨.int ys.length,H,I.tok _,⟨s.toks+1,by rw[su,hlen]⟩,q⟩
 ·obtain⟨its,r',pl,hz⟩:=I.tuple hq
  have hlen:=r'.length
  exact len_tuple pl (by simp only[su] <;> omega) ⟨.int ys.length,H,I.tok _,⟨s.toks+1,by rw[su,hlen]⟩,q⟩
theorem cZ:nO X (.builtin "len") (fun xs H Q=>∃ z,xs=[.str z]∧z.length≤sizeLine∧Q (.int z.length) H):=by
 intro pins s σ H xs us Q I r h
 obtain⟨z,rfl,hz,q⟩:=h
 obtain⟨u,rfl,t,rfl⟩:=vals1 r
 have hn:=vo
 exact len_str (by omega) ⟨.int z.length,H,I.tok _,⟨_,rfl⟩,q⟩
theorem nY:nO X (.type "list") (Q2 X.K):=by
 intro pins s σ H xs us Q I r h
 obtain⟨p,ys,rfl,hq,q⟩:=h
 obtain⟨u,rfl,rx⟩:=vals1 r
 cases rx
 have fin:∀ (its:List Value),Vals ys its→ys.length≤sizeLine→∀ (h':Heap) (c':Nat),(∀ b o',s.heap.get? b=some o'→h'.get? b=some o') →
   h'.get? s.heap.objs.size=some { cls:=.type "list",dict:=none,data:=.seq its.toArray c',slots:=#[] }→EP X pins σ Q (.ref s.heap.objs.size) { s with heap:=h' }:=fun its r' hz h' c' kp e =>
  ⟨.ref s.heap.objs.size,_,I.laid (t':=s.toks) kp (gQ _) (show gS X.prog X.w _ h' _ (.lst ys) from ⟨hz,its,c',r',e⟩),rfl,q _ (I.hok.fresh (gQ _))⟩
 rcases hq with hq|hq
 ·obtain⟨its,r',pl,hz⟩:=I.list hq
  have hlen:=r'.length
  obtain⟨o,ho,hc,n,hd⟩:=pl.isList
  exact call_list_seq p (.inl rfl) ho hc hd (fun h' c' kp e=>fin its r' hz h' c' kp e) (by simp only[su] <;> omega)
 ·obtain⟨its,r',pl,hz⟩:=I.tuple hq
  have hlen:=r'.length
  obtain⟨o,ho,hc,n,hd⟩:=pl
  exact call_list_seq p (.inr rfl) ho hc hd (fun h' c' kp e=>fin its r' hz h' c' kp e) (by simp only[su] <;> omega)
def XZ(K:PySem.W.Frag)(T:String)(x:V)(H:Hp):Prop:=match x with
 | .str _=>T="str"
 | .int _=>T="int"
 | .ref p=>(T="list"∧∃ xs,bN K H p xs)∨(T="tuple"∧∃ o,K.lookup p=some o∧o.cls=.type "tuple"∧o.dict=none) ∨
   (T="dict"∧((∃ kvs,H p=some (.dK kvs))∨∃ kvs,H p=some (.dT kvs)))∨(T="set"∧∃ S n,H p=some (.set S n))
 | _=>False
theorem L4{pins:List (Addr × Obj)}{σ:St}{H:Hp}{s:Shared}{T:String}{x:V}{v:Value}(I:Inv X pins σ H s)(r:RelV x v)(ty:XZ X.K T x H) :
  s.TypeIs v T∧∀ a,v=.ref a→∃ ob,s.heap.get? a=some ob∧ob.dict=none:=by
 cases x with
 | str z =>
  obtain⟨t,rfl⟩:=r
  cases (show T="str" from ty)
  exact⟨typeIs_str s z t,fun _ e=>nomatch e⟩
 | int i =>
  obtain⟨t,rfl⟩:=r
  cases (show T="int" from ty)
  exact⟨typeIs_int s i t,fun _ e=>nomatch e⟩
 | ref p =>
  cases r
  rcases ty with ⟨rfl,xs,hq⟩|⟨rfl,o,hk,hc,hd⟩|⟨rfl,hk⟩|⟨rfl,S,n,hk⟩
  ·obtain⟨its,_,pl,_⟩:=I.list hq
   refine⟨pl.isList.typeIs,fun a e=>?_⟩
   cases e
   obtain⟨o,n,e,c,hd,_⟩:=pl
   exact⟨o,e,hd⟩
  ·refine⟨⟨o,I.yx p o hk,hc⟩,fun a e=>?_⟩
   cases e
   exact⟨o,I.yx _ o hk,hd⟩
  ·have z:∃ o,s.heap.get? p=some o∧o.ExactDict:=by
    rcases hk with ⟨kvs,hk⟩|⟨kvs,hk⟩
    ·obtain⟨_,_,_,_,o,_,_,e,ex,_⟩:=I.hok p _ hk
     exact⟨o,e,ex⟩
    ·obtain⟨_,_,_,_,o,_,_,e,ex,_⟩:=I.hok p _ hk
     exact⟨o,e,ex⟩
   obtain⟨o,e,ex⟩:=z
   refine⟨⟨o,e,ex.1⟩,fun a e2=>?_⟩
   cases e2
   exact⟨o,e,ex.2.1⟩
  ·obtain⟨o,_,_,_,e,ex,_⟩:=I.hok p _ hk
   refine⟨⟨o,e,ex.1⟩,fun a e2=>?_⟩
   cases e2
   exact⟨o,e,ex.2.1⟩
 | _=>exact False.elim ty
def X0(K:PySem.W.Frag)(T:String)(r:V→List V→Hp→VK→Prop)(to:TE):TE:=fun σ H Q=>to σ H fun x H1=>XZ K T x H1∧r x [] H1 Q
def tBM(K:PySem.W.Frag)(T:String)(r:V→List V→Hp→VK→Prop)(to:TE)(t:TA):TE:=fun σ H Q=>to σ H fun x H1=>XZ K T x H1∧t σ H1 fun xs H2=>r x xs H2 Q
variable {o e:Expr} {es:List Expr} {to:TE} {t:TA} {name:Str} {apos cpos:Pos} {T id:String} {r:V→List V→Hp→VK→Prop}
theorem Q3(pa:PlainAttrs T)(slot:Slot T name id)(hty:typeOf (.builtin id)=pure (.type "method_descriptor"))(hm:MtR X id r)(ho:PE X o to)
  (hbase:attributeBase o name X.env (eval o X.env)=eval o X.env:=by rfl) (hline:(apos.endLine == cpos.line)=true:=by rfl):PE X (.Call (.Attribute o name apos) [] [] cpos) (X0 X.K T r to):=by
 intro pins s σ H Q I h
 refine wpAny_Call_method0_late hbase hline (cu (ho pins s σ H _ I h) fun v s1 ⟨x,H1,I1,r1,ty,q1⟩=>?_)
 obtain⟨h1,h2⟩:=L4 I1 r1 ty
 exact⟨T,id,pa,slot,hty,h1,h2,Calls.callWith_builtin rfl (PySem.evalArgs_none (hm pins s1 σ H1 x [] v [] Q I1 r1 .nil q1))⟩
theorem je(pa:PlainAttrs T)(slot:Slot T name id)(hty:typeOf (.builtin id)=pure (.type "method_descriptor"))(hm:MtR X id r)(ho:PE X o to)(ha:PA X (e::es) t)
  (hbase:attributeBase o name X.env (eval o X.env)=eval o X.env:=by rfl)
  (hfew:((backTo cpos (starEach (e::es) X.env)).all (fun x=>!x.1)&&(backToKw cpos (keywordEach [] X.env)).all (fun x=>x.1.isSome)
   && decide ((e::es).length+([]:List Keyword).length+(if ([]:List Keyword).isEmpty then 0 else 1)<30))=true:=by rfl)
  (hline:(apos.endLine == cpos.line)=true:=by rfl) (hs:starEach (e::es) X.env=(false,eval e X.env)::starEach es X.env:=by rfl) (hplain:(backTo cpos (starEach es X.env)).any (·.1)=false:=by rfl) :
  PE X (.Call (.Attribute o name apos) (e::es) [] cpos) (tBM X.K T r to t):=by
 intro pins s σ H Q I h
 refine wpAny_Call_method_late hbase hfew hline rfl (cu (ho pins s σ H _ I h) fun v s1 ⟨x,H1,I1,r1,ty,q1⟩=>?_)
 obtain⟨h1,h2⟩:=L4 I1 r1 ty
 refine⟨T,id,pa,slot,hty,h1,h2,?_⟩
 have hA:=ha cpos pins s1 σ H1 _ I1 q1
 rw[hs]at hA ⊢
 refine Calls.callWith_builtin (by show (false || (backTo cpos (starEach es X.env)).any (·.1))=false;rw[hplain] <;> rfl) (Calls.evalArgs_plain ?_)
 exact cu hA fun us s2 ⟨vs,H2,I2,r2,q2⟩=>hm pins s2 σ H2 x vs v us Q I2 r1 r2 q2
end
end L2
namespace L2
open PySem PySem.Spec PyProof.Rows
def SS(X:Cx)(id:String)(r:V→List V→Hp→VK→Prop):Prop :=
 ∀ (pins:List (Addr × Obj)) (s:Shared) (σ:St) (H:Hp) (x:V) (xs:List V) (v:Value) (us:List Value) (Q:VK),Inv X pins σ H s→RelV x v→Vals xs us→r x xs H Q →
  wpAny (model X.prog X.w) X.A (call (.builtin id) (v::us)) (EP X pins σ Q) X.xe s
theorem Vals.one:∀ {x:V} {us:List Value},Vals [x] us→∃ u,us=[u]∧RelV x u
 | _,_,.cons r .nil=>⟨_,rfl,r⟩
theorem Vals.two:∀ {x y:V} {us:List Value},Vals [x,y] us→∃ u v,us=[u,v]∧RelV x u∧RelV y v
 | _,_,_,.cons r (.cons q .nil)=>⟨_,_,rfl,r,q⟩
theorem Vals.zero:∀ {us:List Value},Vals [] us→us=[]
 | _,.nil=>rfl
theorem Vals.dropLast{xs:List V}{us:List Value}(h:Vals xs us):Vals xs.dropLast us.dropLast:=by
 induction h with
 | nil=>exact .nil
 | cons r t ih =>
  cases t with
  | nil=>exact .nil
  | cons q t'=>exact .cons r ih
theorem Vals.eraseIdx:∀ {xs:List V} {us:List Value} (i:Nat),Vals xs us→Vals (xs.eraseIdx i) (us.eraseIdx i)
 | _,_,_,.nil=>.nil
 | _,_,0,.cons _ t=>t
 | _,_,i+1,.cons r t=>.cons r (Vals.eraseIdx i t)
theorem Vals.rep{xs:List V}{us:List Value}(h:Vals xs us):∀ k:Nat,Vals (List.replicate k xs).flatten (List.replicate k us).flatten
 | 0=>.nil
 | k+1=>by
  rw[List.replicate_succ,List.replicate_succ,List.flatten_cons,List.flatten_cons]
  exact Vals.append h (Vals.rep h k)
theorem Hy{α:Type}(l:List α):l.eraseIdx (l.length-1)=l.dropLast:=by
 induction l with
 | nil=>rfl
 | cons a r ih =>
  cases r with
  | nil=>rfl
  | cons b r =>
   have e:(a::b::r).length-1=((b::r).length-1)+1:=by
    have h1:(a::b::r).length=r.length+2:=rfl
    have h2:(b::r).length=r.length+1:=rfl
    omega
   rw[e,List.eraseIdx_cons_succ,ih]
   all_goals rfl
theorem Ck{α:Type}:∀ (l:List α) (i:Nat),(l.eraseIdx i).length≤l.length
 | [],_=>gQ _
 | _::_,0=>Nat.le_succ _
 | _::r,i+1=>Nat.succ_le_succ (Ck r i)
theorem foldl_rep(its:List Value):∀ (k:Nat) (acc:List Value),
  List.foldl (fun x1 x2=>x1++x2) acc.toArray (List.replicate k its.toArray)=(acc++(List.replicate k its).flatten).toArray
 | 0,acc=>by simp
 | k+1,acc=>by
  have e:acc.toArray++its.toArray=(acc++its).toArray:=by simp
  have e2:(acc++its)++(List.replicate k its).flatten=acc++(List.replicate (k+1) its).flatten:=by
   rw[List.replicate_succ,List.flatten_cons,qD]
  rw[← e2,← foldl_rep its k (acc++its),← e,List.replicate_succ,qt]
section
variable {X:Cx} {pins:List (Addr × Obj)} {σ:St} {H:Hp} {s:Shared} {l b:Addr} {xs ys zs:List V}
theorem Inv.L6{its its':List Value}{n:Nat}{f:Array Value→Array Value}{t':Nat}(I:Inv X pins σ H s)(hH:H l=some (.lst xs))
  (e:s.heap.get? l=some { cls:=.type "list",data:=.seq its.toArray n }) (hf:f its.toArray=its'.toArray) (hv:Vals ys its') (hz:ys.length≤sizeLine) :
  Inv X pins σ (upd H l (.lst ys)) { s with heap:=s.heap.update l (Obj.mapSeq f),toks:=t' }:=by
 have q:=PySem.IsL.update e f
 rw[hf]at q
 refine I.write (x:=l) (e:=l) (by rw[hH];exact trivial) (.inl rfl) (fun b' u hb hu=>(Heap.get?_update_other s.heap (Obj.mapSeq f) (Ne.symm hb)).trans hu) ⟨_,q⟩ ?_
 exact⟨hz,its',_,hv,q⟩
theorem Inv.Kf{its:List Value}{t':Nat}(I:Inv X pins σ H s)(hv:Vals ys its)(hz:ys.length≤sizeLine) :
  Inv X pins σ (upd H s.heap.objs.size (.lst ys)) { s with heap:=s.heap.push { cls:=.type "list",data:=.seq its.toArray },toks:=t' } :=
 I.laid (fun _ _ q=>Heap.get?_push_of_some _ q) (gQ _) ⟨hz,its,0,hv,Heap.get?_push_size _ rfl⟩
theorem Inv.fresh(I:Inv X pins σ H s):H s.heap.objs.size=none:=I.hok.fresh (gQ _)
theorem Inv.BN(I:Inv X pins σ H s)(hH:H l=some (.lst xs)):xs.length≤sizeLine∧∃ (its:List Value) (n:Nat),Vals xs its∧xs.length=its.length∧s.heap.get? l=some { cls:=.type "list",data:=.seq its.toArray n }:=by
 obtain⟨z,its,n,r,e⟩:=I.hok l _ hH
 exact⟨z,its,n,r,r.length,e⟩
theorem Ai{n:Nat}(h:n≤sizeLine):Builtin.List.listTooLong n=false:=by
 unfold Builtin.List.listTooLong
 exact decide_eq_false (by omega)
end
section
variable {X:Cx}
inductive IW(x:V)(vs:List V)(H:Hp)(Q:VK):Prop
 | mk (l:Addr) (xs:List V) (y:V) (_:x=.ref l) (_:vs=[y]) (_:H l=some (.lst xs)) (_:xs.length<sizeLine) (_:Q .jw (upd H l (.lst (xs++[y])))):IW x vs H Q
theorem cP:SS X "list.append" IW:=by
 intro pins s σ H x vs v us Q I rx rv h
 obtain⟨l,xs,y,rfl,rfl,hH,hz,q⟩:=h
 cases rx
 obtain⟨u,rfl,ru⟩:=rv.one
 obtain⟨z,its,n,r,hl,e⟩:=I.BN hH
 refine call_meets F.slot_list_append ⟨_,e,rfl⟩ F.entry_list_append (F.args_list_append_2 _ _) (PySem.list_append l its.toArray n u (by rw[su];omega)) ⟨e,?_⟩
 refine⟨.jw,_,I.L6 (its':=its++[u]) hH e (by simp) (r.append (.cons ru .nil)) ?_,rfl,q⟩
 rw[dU,lK]
 omega
inductive IX(x:V)(vs:List V)(H:Hp)(Q:VK):Prop
 | mk (l b:Addr) (xs zs:List V) (_:x=.ref l) (_:vs=[.ref b]) (_:H l=some (.lst xs)) (_:H b=some (.lst zs)) (_:xs.length+zs.length≤sizeLine) (_:Q .jw (upd H l (.lst (xs++zs)))):IX x vs H Q
theorem Cm:SS X "list.extend" IX:=by
 intro pins s σ H x vs v us Q I rx rv h
 obtain⟨l,b,xs,zs,rfl,rfl,hH,hB,hz,q⟩:=h
 cases rx
 obtain⟨u,rfl,ru⟩:=rv.one
 cases ru
 obtain⟨z,its,n,r,hl,e⟩:=I.BN hH
 obtain⟨z2,its2,n2,r2,hl2,e2⟩:=I.BN hB
 have hsz:its.toArray.size+its2.toArray.size≤sizeLine:=by rw[su,su];omega
 have Fb:¬ (!its.toArray.isEmpty&&Builtin.List.listTooLong (its.toArray.size+its2.toArray.size))=true:=by
  rw[Ai hsz,Bool.and_false]
  exact tP
 refine call_meets F.slot_list_extend ⟨_,e,rfl⟩ F.entry_list_extend (F.args_list_extend_2 _ _)
  (AutoSeq1.list_extend_list_list_0 l its.toArray n b its2.toArray n2 Fb (by rw[su];omega) (by omega)) ⟨e,e2,?_⟩
 refine⟨.jw,_,I.L6 (its':=its++its2) hH e (by simp) (r.append r2) ?_,rfl,q⟩
 rw[dU]
 omega
def X3:V→List V→Hp→VK→Prop:=fun x vs H Q=>∃ l xs y,x=.ref l∧vs=[]∧H l=some (.lst xs)∧xs[xs.length-1]?=some y∧Q y (upd H l (.lst xs.dropLast))
theorem Q4:SS X "list.pop" X3:=by
 intro pins s σ H x vs v us Q I rx rv h
 obtain⟨l,xs,y,rfl,rfl,hH,hy,q⟩:=h
 cases rx
 have hus:=rv.zero
 subst hus
 obtain⟨z,its,n,r,hl,e⟩:=I.BN hH
 obtain⟨u,hu,ru⟩:=r.get hy
 have hy':its.toArray[its.toArray.size-1]?=some u:=by
  show its.toArray[its.length-1]?=some u
  rw[← Array.getElem?_toList,← hl]
  exact hu
 refine call_meets F.slot_list_pop ⟨_,e,rfl⟩ F.entry_list_pop (F.args_list_pop_1 _) (MeetsSeq.list_pop_last l its.toArray n u hy' (by rw[su];omega)) ⟨e,?_⟩
 refine⟨y,_,I.L6 (its':=its.dropLast) hH e ?_ r.dropLast ?_,ru,q⟩
 ·show its.toArray.eraseIdxIfInBounds (its.toArray.size-1)=its.dropLast.toArray
  rw[su,List.eraseIdxIfInBounds_toArray,Hy]
 ·rw[List.length_dropLast]
  omega
def Q5:V→List V→Hp→VK→Prop:=fun x vs H Q=>∃ l xs i k y,x=.ref l∧vs=[.int i]∧H l=some (.lst xs)∧-(2^63)≤i∧i<2^63∧seqIndex? i xs.length=some k∧xs[k]?=some y∧Q y (upd H l (.lst (xs.eraseIdx k)))
theorem L7:SS X "list.pop" Q5:=by
 intro pins s σ H x vs v us Q I rx rv h
 obtain⟨l,xs,i,k,y,rfl,rfl,hH,h1,h2,hk,hy,q⟩:=h
 cases rx
 obtain⟨u,rfl,ru⟩:=rv.one
 obtain⟨t,rfl⟩:=ru
 obtain⟨z,its,n,r,hl,e⟩:=I.BN hH
 obtain⟨w,hw,rw'⟩:=r.get hy
 refine call_meets F.slot_list_pop ⟨_,e,rfl⟩ F.entry_list_pop (F.args_list_pop_2 _ _)
  (MeetsSeq.list_pop_at l its.toArray n i t k w (fitsIndex_both h1 h2) (by rw[su,← hl];exact hk) (by rw[← Array.getElem?_toList];exact hw) (by rw[su];omega)) ⟨e,?_⟩
 refine⟨y,_,I.L6 (its':=its.eraseIdx k) hH e ?_ (r.eraseIdx k) ?_,rw',q⟩
 ·show its.toArray.eraseIdxIfInBounds k=(its.eraseIdx k).toArray
  rw[List.eraseIdxIfInBounds_toArray]
 ·have:=Ck xs k
  omega
inductive Q6(x y:V)(H:Hp)(Q:VK):Prop
 | mk (l b:Addr) (xs zs:List V) (_:x=.ref l) (_:y=.ref b) (_:H l=some (.lst xs)) (_:H b=some (.lst zs)) (_:xs.length+zs.length≤sizeLine) (_:∀ p,H p=none→Q (.ref p) (upd H p (.lst (xs++zs)))):Q6 x y H Q
theorem oR:v7 X (binaryOp .Add) Q6:=by
 intro pins s σ H x y v u Q I rx ry h
 obtain⟨l,b,xs,zs,rfl,rfl,hH,hB,hz,q⟩:=h
 cases rx
 cases ry
 obtain⟨z,its,n,r,hl,e⟩:=I.BN hH
 obtain⟨z2,its2,n2,r2,hl2,e2⟩:=I.BN hB
 refine PySem.P.add_list e e2 ?_ (by rw[su,su];omega)
 have ea:its.toArray++its2.toArray=(its++its2).toArray:=by simp
 rw[ea]
 exact⟨.ref _,_,I.Kf (t':=s.toks) (r.append r2) (by rw[dU];omega),rfl,q _ I.fresh⟩
def Um:R2:=fun x y H Q=>∃ l k xs,x=.ref l∧y=.int k∧H l=some (.lst xs)∧-(2^63)≤k∧k<2^63∧xs.length*k.toNat≤sizeLine ∧
 ∀ p,H p=none→Q (.ref p) (upd H p (.lst (List.replicate k.toNat xs).flatten))
theorem len_rep{α:Type}(xs:List α)(k:Nat):(List.replicate k xs).flatten.length=k*xs.length:=by
 induction k with
 | zero=>simp
 | succ k ih=>rw[List.replicate_succ,List.flatten_cons,dU,ih,Nat.succ_mul,Nat.add_comm]
theorem Ma:v7 X (binaryOp .Mult) Um:=by
 intro pins s σ H x y v u Q I rx ry h
 obtain⟨l,k,xs,rfl,rfl,hH,h1,h2,hz,q⟩:=h
 cases rx
 obtain⟨t,rfl⟩:=ry
 obtain⟨z,its,n,r,hl,e⟩:=I.BN hH
 have hlen:its.toArray.size*k.toNat≤sizeLine:=by rw[su,← hl];exact hz
 have hcap:¬ its.toArray.size*k.toNat > (2^63-1) / 8:=by
  have:(sizeLine:Nat)≤(2^63-1) / 8:=by decide
  omega
 have hfit:¬ (!Builtin.List.listFitsIndex k)=true:=by
  rw[fitsIndex_both h1 h2]
  exact tP
 have Fb:¬ Builtin.List.listTooLong (its.toArray.size*k.toNat)=true:=by
  rw[Ai hlen]
  exact tP
 have hnew:List.foldl (fun x1 x2=>x1++x2) #[] (List.replicate (if its.toArray.isEmpty=true then 0 else k.toNat) its.toArray)=(List.replicate k.toNat its).flatten.toArray:=by
  have f0:∀ m:Nat,List.foldl (fun x1 x2=>x1++x2) #[] (List.replicate m its.toArray)=(List.replicate m its).flatten.toArray:=fun m=>by
   have:=foldl_rep its m []
   rw[List.nil_append]at this
   exact this
  rw[f0]
  cases its with
  | nil=>simp
  | cons a r'=>rw[if_neg (by simp)]
 refine wpAny_binaryOp_repeat_ref (T:="list") (U:="int") (by decide) ⟨_,e,rfl⟩ (fun s'=>typeIs_int s' k t) noFill_list_mul F.fills_int_mul F.slot_int_rmul repeat_list F.slot_int_index.lookup
  (call_meets F.slot_int_rmul (typeIs_int s k t) F.entry_int_rmul (F.args_int_rmul_2 _ _) (int___rmul___int_list k t l its.toArray n)
   ⟨e,rfl,⟨_,e,rfl⟩,call_meets F.slot_list_mul ⟨_,e,rfl⟩ F.entry_list_mul (F.args_list_mul_2 _ _) (AutoListH.list___mul___list_int_3 l its.toArray n k t hfit hcap Fb) ⟨e,?_⟩⟩)
 rw[hnew]
 exact⟨.ref _,_,I.Kf (t':=s.toks) (r.rep k.toNat) (by rw[len_rep,Nat.mul_comm];exact hz),rfl,q _ I.fresh⟩
end
end L2
namespace Att
open PySem PySem.W PySem.Calls PyProof.Rows
theorem yW{P:Params}{h:Heap}:∀ (ns:List Int) (vs:List Value),WellAll P h vs (ns.map WData.int)→IntsAre vs ns:=by
 intro ns
 induction ns with
 | nil =>
  intro vs w
  rw[List.map_nil]at w
  cases w
  exact .nil
 | cons n ns ih =>
  intro vs w
  rw[mz]at w
  cases w with
  | cons a b =>
   cases a
   exact .cons _ _ (ih _ b)
theorem Kg{l:OpenLaw}{n:Nat}(hn:l.most=some n){P:Params}{h:Heap}{args:List WData}{vals:List Value}
  (hpre:l.row.toRowW.claim.pre args=true) (hwl:WellAll P h vals args) :
  ∃ a vs ns,vals=[Value.ref a]∧args=[WData.list (ns.map WData.int)]∧h.get? a=some { cls:=.type "list",data:=.seq vs.toArray }∧IntsAre vs ns∧ns.length≤n:=by
 have hsh:WShape.hasAll [] args [.list .int]=true:=(pre_splitW hpre).1
 have hc:l.pre.holds [] { args:=args }=true:=(pre_splitW hpre).2
 obtain⟨d,r,rfl,h1,h2⟩:=hasAllW_cons hsh
 obtain rfl:=hasAllW_nil h2
 obtain⟨xs,rfl,h3⟩:=hasW_list h1
 obtain⟨ns,rfl⟩:=items_int h3
 have hlen:ns.length≤n:=by
  unfold OpenLaw.pre at hc
  have h4:(WTm.not (.lt (.lit (.int (n:Int))) (.len (.arg 0)))).holds [] { args:=[.list (ns.map .int)] }=true:=by
   have h4:=(holds_andW hc).1
   rw[hn]at h4
   exact h4
  have h5:=condW_of h4 (w_not (w_lt w_lit (w_len_list (w_arg rfl))))
  rw[cA]at h5
  refine Nat.le_of_not_lt fun q=>?_
  have q':(n:Int)<((ns.length:Nat):Int):=by omega
  first
   | (rw[decide_eq_true q']at h5;exact absurd h5 (by decide))
   | (simp at h5;omega)
 cases hwl with
 | cons w1 w2 =>
  cases w2
  cases w1 with
  | list ho hall=>exact⟨_,_,ns,rfl,rfl,ho,yW ns _ hall,hlen⟩
theorem Kh(l:OpenLaw)(args:List WData):l.row.toRowW.claim.post args (.bool true) args=true :=
 postW_of (r:=l.row.toRowW) (X:=(true == true))
  (show WShape.has [] (.bool true) .bool=true by first|rfl|decide|simp[WShape.has,WShape.arms,WShape.armsAll])
  (show (WTm.eq .res (.lit (.bool true))).value [] { args:=args,res:=some (.bool true),after:=args }=some (.bool (true == true)) from w_eq_bool (w_res rfl) w_lit) rfl
theorem Fc{l:OpenLaw}{n:Nat}{q:Program}{loose:List Str}{XP:(Str→Option Value)→Heap→Prop}{YP:World→Heap→Prop}{d:DefRec}
  (hn:l.most=some n) (hdf:d.params.defaults=[])
  (call:∀ (w:World) (s₀ s₁:Shared) (mg mb:Str→Option Value) (fa:Addr) (o:Obj) (pm cd doc:Value) (a:Addr) (vs:List Value) (ns:List Int),
   Ground q loose [] XP w s₀ mg mb s₁.heap→YP w s₁.heap →
   s₁.heap.get? fa=some o→o.data=.func (docDef d.name d.params d.body d.scope pm cd doc)→s₁.heap.CodeRec cd d.name→mg d.name=some (.ref fa) →
   s₁.heap.get? a=some { cls:=.type "list",data:=.seq vs.toArray }→IntsAre vs ns→ns.length≤n→s₁.gens=#[] →
   codeAny (model l.prog w) callerA (.call (.ref fa) ⟨[.ref a],[]⟩) (fun r s'=>r=.ok (.ret (.bool true))∧OldK s₁.heap s'.heap∧s'.os=s₁.os∧AllBare s'.gens) s₁) :
  WalkO q loose XP YP l.row.toRowW d [] (fun f vs=>PySem.call f vs):=by
 intro w s₀ s₁ mg mb G Y fa o pm cd doc dV kV ho hd hcd hD hmg hg args vals as hpre hlay hrd hwl hlo
 obtain rfl:dV=.none:=Dflts.none hD hdf
 obtain rfl:kV=.none:=Dflts.noKw hD
 obtain⟨a,vs,ns,rfl,rfl,hobj,hints,hlen⟩:=Kg hn hpre hwl
 refine enter_call (codeAny_mono (call w s₀ s₁ mg mb fa o pm cd doc a vs ns G Y ho (fd_plain hd) hcd hmg hobj hints hlen hg) fun r s' hq=>?_)
 obtain⟨rfl,h2,h3,h4⟩:=hq
 exact⟨.inl ⟨.bool true,.bool true,[],rfl,fun _=>rfl,.bool true,Kh l _,fun _=>⟨List.Pairwise.nil,fun _ hm=>(nomatch hm)⟩⟩,h2,h3,h4⟩
end Att
namespace L2
open PySem PySem.Spec PyProof.Rows
theorem Cn:∀ {vs:List Value} {ns:List Int},IntsAre vs ns→Vals (ns.map V.int) vs
 | _,_,.nil=>.nil
 | _,_,.cons n t h=>.cons ⟨t,rfl⟩ (Cn h)
def Q7(H:Hp):Prop:=∀ b,H b=none∨∃ o xs,H b=some (.Hf o (.lst xs))
theorem Mb{P:Program}{w:World}{K:PySem.W.Frag}{mg mb:Str→Option Value}{CX:LS}{k:Nat}{fa a:Addr}{fd:FuncData}{x:Str}{sp:Sp}{s₁:Shared}{vs:List Value}{ns:List Int}
  (KX:K.In s₁.heap) (hns:s₁.heap.Ns mainGlobals mg) (hb:s₁.heap.Ns builtinsNs mb) (hbb:∀ x:Str,x≠"__name__"→mb x=bootBuiltins x) (hlim:s₁.heap.NoLimit) (hg:s₁.gens=#[])
  (ha:s₁.heap.get? a=some { cls:=.type "list",data:=.seq vs.toArray }) (hi:IntsAre vs ns) (hl:ns.length≤sizeLine) (hr:lJ k callerA)
  (F:∀ base:Heap,K.In base→base.Ns mainGlobals mg→aC P w K mg base CX k fa fd [x] sp) (hbind:∀ (s:Shared) (u:Value),BindsTo s fd ⟨[u],[]⟩ [(x,u)])
  (Hu:∀ H:Hp,Q7 H→bN K H a (ns.map V.int)→sp [.ref a] H (fun v _=>v=.bl true) fun _ _ _=>False)
  (X4:∀ H e s',CX [] H s₁ (fun _ _ _=>False) e s'→False) :
  codeAny (model P w) callerA (.call (.ref fa) ⟨[.ref a],[]⟩) (fun r s'=>r=.ok (.ret (.bool true))∧OldK s₁.heap s'.heap∧s'.os=s₁.os∧AllBare s'.gens) s₁:=by
 have rv:=Cn hi
 have X5:=hi.length
 have core:∀ H:Hp,Q7 H→bN K H a (ns.map V.int)→tQ P w H s₁.heap→(∀ b,H b≠none→b=a)→(H a≠none→K.lookup a=none) →
   codeAny (model P w) callerA (.call (.ref fa) ⟨[.ref a],[]⟩) (fun r s'=>r=.ok (.ret (.bool true))∧OldK s₁.heap s'.heap∧s'.os=s₁.os∧AllBare s'.gens) s₁:=by
  intro H hO hS hok hA hK
  have IY:∀ {b:Addr} {o:Obj},s₁.heap.get? b=some o→H b=none→(Dl s₁.heap H).get? b=some o:=fun e n=>LH e n
  have Ui:∀ {b:Addr} {o:Obj} {es:Array DictEntry} {ep:Nat},s₁.heap.get? b=some o→o.data=.dict es ep→H b=none:=fun {b o es ep} e d=>by
   cases q:H b with
   | none=>rfl
   | some u =>
    have e':b=a:=hA b (by rw[q];simp)
    subst e'
    rw[ha]at e;cases e
    have d':Data.seq vs.toArray _=Data.dict es ep:=d
    cases d'
  have WB:∀ {b:Addr} {m:Str→Option Value},s₁.heap.Ns b m→(Dl s₁.heap H).Ns b m:=fun {b m} ⟨o,es,ep,e,d,r⟩=>⟨o,es,ep,IY e (Ui e d),d,r⟩
  have hKb:K.In (Dl s₁.heap H):=fun b o e=>IY (KX b o e) (by
   cases q:H b with
   | none=>rfl
   | some u =>
    have e':b=a:=hA b (by rw[q];simp)
    subst e'
    rw[hK (by rw[q];simp)]at e;cases e)
  have hM:Mod K mg (Dl s₁.heap H):=⟨hKb,WB hns,⟨mb,WB hb,hbb⟩,let ⟨mc,h1,h2⟩:=hlim;⟨mc,WB h1,h2⟩⟩
  have e0:Hs P w K mg (Dl s₁.heap H) callerA [] s₁ H:=⟨rfl,hM,fun b o e=>NS e,Nat.le_of_eq (JZ _ _),trivial,fun b hb=>absurd (show b∈([]:List Addr) from hb) (by simp),hok,.of_eq hg⟩
  refine codeAny_mono ((F _ hKb (WB hns)).run callerA [] s₁ H ⟨[.ref a],[]⟩ [.ref a] [.ref a] _ _ hr e0 (hbind s₁ (.ref a)) (.cons rfl .nil) (Hu H hO hS)) fun r s' h=>?_
  cases r with
  | error e=>exact (X4 H e s' h).elim
  | ok fl =>
   cases fl with
   | next=>exact False.elim h
   | brk=>exact False.elim h
   | cont=>exact False.elim h
   | ret u =>
    obtain⟨v,H',os,bare,un,Mc,r',q⟩:=h
    have q':v=.bl true:=q
    subst q'
    obtain rfl:u=Value.bool true:=r'
    refine⟨rfl,OldK.of_keep fun b o e=>?_,os,bare⟩
    cases q:H b with
    | none=>exact un.keep b o e q (by intro z;exact absurd (show b∈([]:List Addr) from z) (by simp)) (by simp)
    | some u =>
     rcases hO b with z|⟨ob,xs,z⟩
     ·rw[q]at z;cases z
     ·have z2:=un.BI b ob _ z
      obtain⟨e1,_⟩:=hok b _ z
      obtain⟨e2,_⟩:=Mc b _ z2
      rw[e]at e1;cases e1
      exact e2
 cases hk:K.lookup a with
 | some o =>
  have e:=KX a o hk
  rw[ha]at e
  cases e
  refine core (fun _=>none) (fun _=>.inl rfl) (.inr ⟨_,vs.toArray,_,hk,rfl,rfl,rfl,by rw[su,X5];exact hl,by simpa using rv⟩) (fun b u z=>by have z':(none:Option HO)=some u:=z;cases z') (fun b z=>absurd rfl z) fun z=>absurd rfl z
 | none =>
  refine core (fun b=>if b=a then some (.Hf { cls:=.type "list",data:=.seq vs.toArray } (.lst (ns.map V.int))) else none) (fun b=>?_) (.inl (.inr ⟨{ cls:=.type "list",data:=.seq vs.toArray },if_pos rfl⟩)) (fun b u z=>?_) (fun b z=>?_) fun _=>hk
  ·by_cases hb:b=a
   ·exact .inr ⟨_,_,if_pos hb⟩
   ·exact .inl (if_neg hb)
  ·by_cases hb:b=a
   ·have z':=(if_pos hb).symm.trans z
    cases z'
    subst hb
    exact⟨ha,by rw[cA];exact hl,vs,_,rv,ha⟩
   ·have z':=(if_neg hb).symm.trans z
    cases z'
  ·by_cases hb:b=a
   ·exact hb
   ·exact absurd (if_neg hb) z
end L2
namespace L2
open PySem PySem.Spec PyProof.Rows
theorem Oa{l:PySem.W.OpenLaw}{n k:Nat}{q:Program}{loose:List Str}{XP:(Str→Option Value)→Heap→Prop}{YP:World→Heap→Prop}{d:DefRec}{K:Params→PySem.W.Frag}{CX:World→LS}{sp:World→Sp}{x:Str}
  (hn:l.most=some n) (hn2:n≤sizeLine) (hdf:d.params.defaults=[]) (hr:lJ k callerA)
  (hY:∀ (w:World) (h:Heap),YP w h→(K w.params).In h)
  (F:∀ (w:World) (mg:Str→Option Value) (fa:Addr) (h:Heap),(K w.params).In h→h.Ns mainGlobals mg→mg d.name=some (.ref fa) →
   ∃ fd:FuncData,(∀ (s:Shared) (u:Value),BindsTo s fd ⟨[u],[]⟩ [(x,u)]) ∧
    ∀ base:Heap,(K w.params).In base→base.Ns mainGlobals mg→aC l.prog w (K w.params) mg base (CX w) k fa fd [x] (sp w))
  (Hu:∀ (w:World) (H:Hp) (a:Addr) (ns:List Int),ns.length≤n→Q7 H→bN (K w.params) H a (ns.map V.int)→sp w [.ref a] H (fun v _=>v=.bl true) fun _ _ _=>False)
  (X4:∀ (w:World) (H:Hp) (s:Shared) (e:Value) (s':Shared),CX w [] H s (fun _ _ _=>False) e s'→False) :
  PySem.W.WalkO q loose XP YP l.row.toRowW d [] (fun f vs=>PySem.call f vs):=by
 refine Att.Fc hn hdf fun w s₀ s₁ mg mb fa o pm cd doc a vs ns G Y ho hd hcd hmg hobj hints hlen hg=>?_
 have KX:=hY w _ Y
 obtain⟨fd,hb,hF⟩:=F w mg fa _ KX G.T.g hmg
 exact Mb KX G.T.g G.T.b G.T.builtins G.T.nolimit hg hobj hints (kT hlen hn2) hr hF hb (fun H hO hS=>Hu w H a ns hlen hO hS) fun H e s'=>X4 w H s₁ e s'
end L2
namespace L2
open PySem PySem.Spec PyProof.Rows
def pY(s:Stmt):Arguments:=match s with
 | .FunctionDef _ a _ _ _ _ _ _ _ _=>a
 | _=>{ posonlyargs:=[],args:=[],vararg:=none,kwonlyargs:=[],kw_defaults:=[],kwarg:=none,defaults:=[] }
def lN(s:Stmt):List Stmt:=match s with
 | .FunctionDef _ _ b _ _ _ _ _ _ _=>b
 | _=>[]
def ay(s:Stmt):Scope:=match s with
 | .FunctionDef _ _ _ _ _ _ sc _ _ _=>sc
 | _=>{ kind:=.function,names:=[],isGenerator:=false,isCoroutine:=false }
abbrev bU:LS:=fun _ _ _ _ _ _=>False
abbrev E0:XK:=fun _ _ _=>False
theorem cQ{X:Cx}:Passes bU X E0:=fun _ _ _ _ _ _ _ h=>h.elim
structure iI(K:PySem.W.Frag)(x qual:Str)(st:Stmt)(f:Addr)(fd:FuncData):Prop where
 ex:∃ (oc:Value) (od:Option Addr) (kV doc pm:Value) (an:Option Addr) (cdv ct:Value) (osl:Array (Option Value)),
  fd=PySem.W.fnOf x qual (pY st) (lN st) (ay st) .none kV doc pm an cdv ct∧K.lookup f=some ⟨oc,od,.func fd,osl⟩∧PySem.W.codeIn K cdv qual=true
 kp:PySem.W.keepIn K (.ref f)=true
section
variable {P:Program} {w:World} {K:PySem.W.Frag} {mg:Str→Option Value} {base:Heap}
theorem iI.ok{x qual:Str}{st:Stmt}{f:Addr}{fd:FuncData}{N ps:List Str}{k:Nat}{sp:Sp}(F:iI K x qual st f fd)(S:aJ N ps (ay st))(len:∀ vs H Q E,sp vs H Q E→vs.length=ps.length)
  (hbody:∀ (cdv:Value) (A:Around) (outer:List Env) (s:Shared) (H:Hp) (vs:List V) (Q:VK) (E:XK),lJ k (A.deeper (envOfC qual (ay st) s.heap.objs.size f cdv))→sp vs H Q E →
   ∃ t,IK (Ht bU P w K mg base N qual (ay st) f cdv A outer s H E).Lr (lN st) t∧t { nx:=fun _ H'=>Q .jw H',rt:=Q } (start N vs) H):aC P w K mg base bU (k+1) f fd ps sp:=by
 obtain⟨oc,od,kV,doc,pm,an,cdv,ct,osl,rfl,lk,hcd⟩:=F.ex
 refine PL lk hcd S len fun A outer s H vs Q E hr Hu=>?_
 obtain⟨t,h,q⟩:=hbody cdv A outer s H vs Q E hr Hu
 exact⟨t,h.Lr,q⟩
theorem iI.binds{x qual:Str}{st:Stmt}{f:Addr}{fd:FuncData}{ps:List Str}(F:iI K x qual st f fd)
  (h:∀ (kV doc pm:Value) (an:Option Addr) (cdv ct:Value) (us:List Value),us.length=ps.length→bindArgs (PySem.W.fnOf x qual (pY st) (lN st) (ay st) .none kV doc pm an cdv ct) ⟨us,[]⟩=pure (ps.zip us)):Binds K fd ps []:=by
 obtain⟨oc,od,kV,doc,pm,an,cdv,ct,osl,rfl,lk,hcd⟩:=F.ex
 exact .all (h kV doc pm an cdv ct)
theorem Hz{x qual:Str}{st:Stmt}{f:Addr}{oc:Value}{od an:Option Addr}{osl:Array (Option Value)}{kV doc pm cdv ct:Value}(l:K.lookup f=some ⟨oc,od,.func (PySem.W.fnOf x qual (pY st) (lN st) (ay st) .none kV doc pm an cdv ct),osl⟩)
  (c:PySem.W.codeIn K cdv qual=true) (k:PySem.W.keepIn K (.ref f)=true):iI K x qual st f (PySem.W.fnOf x qual (pY st) (lN st) (ay st) .none kV doc pm an cdv ct):=⟨⟨oc,od,kV,doc,pm,an,cdv,ct,osl,rfl,l,c⟩,k⟩
end
theorem m5{A:Around}{k:Nat}(hr:lJ k A):A.units+1<cLine:=Nat.lt_of_le_of_lt (Nat.add_le_add_left (by decide:1≤64) _) hr.units
section
variable {X:Cx}
theorem pv(i:Nat){x:Str}{pos:Pos}(hN:X.N[i]?=some x:=by rfl)(hv:Wt X.env.scope x:=by first|exact Or.inl rfl|exact Or.inr (Or.inl rfl)|exact Or.inr (Or.inr rfl))(hd:(x == ("__debug__":Str))=false:=by decide)
  (hcd:(x == ("__classdict__":Str))=false:=by decide):PE X (.Name x pos) (J2 i):=QG hN hv hd hcd
end
theorem jY{A B:Prop}(h:B):if false=true then A else B:=by
 rw[if_neg tP]
 exact h
theorem jZ{A B:Prop}(h:A):if true=true then A else B:=by
 rw[if_pos rfl]
 exact h
theorem eG{c A B:Prop} [Decidable c] (h1:c→A) (h2:¬ c→B):if c then A else B:=by
 by_cases h:c
 ·rw[if_pos h]
  exact h1 h
 ·rw[if_neg h]
  exact h2 h
theorem Me{c A B:Prop} [Decidable c] (hc:c) (h:B):if (!decide c)=true then A else B:=by
 rw[decide_eq_true hc]
 exact jY h
def aH(H H':Hp):Prop:=∀ b o,H b=some o→H' b=some o
theorem aH.refl(H:Hp):aH H H:=fun _ _ h=>h
theorem aH.trans{H H1 H2:Hp}(a:aH H H1)(b:aH H1 H2):aH H H2:=fun c o h=>b c o (a c o h)
theorem aH.free{H H':Hp}(e:aH H H'){l:Addr}(h:H' l=Option.none):H l=Option.none:=by
 cases q:H l with
 | none=>rfl
 | some o =>
  rw[e l o q]at h
  cases h
end L2
namespace jm
open PySem L2
def top(i:Nat):Stmt:=PySem.Challenge.pw_inkroot_k37_windows_live.main.body.getD i (.Pass ⟨0,0,0,0⟩)
def Ob:Stmt→List Stmt
 | .ClassDef (body:=b) ..=>b
 | _=>[]
def jv(i j:Nat):Stmt:=(Ob (top i)).getD j (.Pass ⟨0,0,0,0⟩)
inductive DI(K:PySem.W.Frag)(x:Str)(st:Stmt)(f:Addr):Prop
 | mk {oc:Value} {od an:Option Addr} {osl:Array (Option Value)} {kV doc pm cdv ct:Value} (_:PySem.W.nsIn K mainGlobals x=some (some (.ref f))) (_:K.lookup f=some ⟨oc,od,.func (PySem.W.fnOf x x (pY st) (lN st) (ay st) .none kV doc pm an cdv ct),osl⟩) (_:PySem.W.codeIn K cdv x=true) (_:PySem.W.keepIn K (.ref f)=true):DI K x st f
inductive MI(K:PySem.W.Frag)(C:Addr)(x qual:Str)(st:Stmt)(f:Addr):Prop
 | mk {oc:Value} {od an:Option Addr} {osl:Array (Option Value)} {kV doc pm cdv ct:Value} (_:PySem.W.findIn K (.ref C) x=some (some (.ref f))) (_:PySem.W.isFn K (.ref f)=true) (_:K.lookup f=some ⟨oc,od,.func (PySem.W.fnOf x qual (pY st) (lN st) (ay st) .none kV doc pm an cdv ct),osl⟩) (_:PySem.W.codeIn K cdv qual=true) (_:PySem.W.keepIn K (.ref f)=true):MI K C x qual st f
inductive CI(K:PySem.W.Frag)(x:Str)(C:Addr):Prop
 | mk (_:PySem.W.nsIn K mainGlobals x=some (some (.ref C))) (_:PySem.W.plainGet K C Str.empty=true) (_:PySem.W.hasDictIn K C=true) (_:PySem.W.plainOver K C=true) (_:PySem.W.findIn K (.ref C) "__setattr__"=some (some (.builtin "object.__setattr__"))) (_:PySem.W.makesIn K C=true) (_:PySem.W.keepIn K (.ref C)=true):CI K x C
inductive XI(K:PySem.W.Frag)(x:Str)(C:Addr):Prop
 | mk (_:PySem.W.nsIn K mainGlobals x=some (some (.ref C))) (_:PySem.W.excIn K C [.type "ValueError",.type "Exception",.type "BaseException",.type "object"] "ValueError.__new__"=true) (_:PySem.W.exmOne K (.ref C) (.ref C)=some true):XI K x C
inductive Fd(K:PySem.W.Frag)(vs:List V)(H:Hp)(Q:VK)(E:XK):Prop
 | mk (a:Addr) (ns:List Int) (_:vs=[.ref a]) (_:bN K H a (ns.map V.int)) (_:ns.length≤63) (_: ∀ H',Q (.bl true) H'):Fd K vs H Q E
abbrev tR:Stmt:=top 67
abbrev iW:Stmt:=top 68
abbrev gU:Stmt:=top 69
abbrev jz:Stmt:=top 70
abbrev lO:Stmt:=top 11
abbrev ssize:Stmt:=top 12
abbrev eZ:Stmt:=top 14
abbrev mR:Stmt:=top 15
abbrev Fe:Stmt:=top 16
abbrev oS:Stmt:=top 17
abbrev eK:Stmt:=top 22
abbrev tS:Stmt:=top 23
abbrev jf:Stmt:=jv 27 0
abbrev lP:Stmt:=jv 27 3
abbrev eL:Stmt:=top 31
abbrev lQ:Stmt:=top 32
abbrev iX:Stmt:=top 39
abbrev Co:Stmt:=top 40
abbrev iY:Stmt:=top 37
abbrev fX:Stmt:=top 38
abbrev fH:Stmt:=top 33
abbrev dR:Stmt:=top 34
abbrev Aj:Stmt:=top 35
abbrev lR:Stmt:=top 42
abbrev gV:Stmt:=top 43
abbrev rF:Stmt:=top 44
abbrev rG:Stmt:=top 45
abbrev mD:Stmt:=top 46
abbrev oU:Stmt:=top 48
abbrev tT:Stmt:=top 47
abbrev oV:Stmt:=top 49
abbrev jA:Stmt:=top 51
abbrev ly:Stmt:=top 52
abbrev oW:Stmt:=top 54
abbrev jg:Stmt:=jv 55 0
abbrev iA:Stmt:=jv 55 3
abbrev jB:Stmt:=jv 55 2
abbrev lA:Stmt:=jv 55 1
abbrev gf:Stmt:=jv 55 4
abbrev cK:Stmt:=jv 55 5
abbrev dN:Stmt:=jv 55 10
abbrev m6:Stmt:=jv 55 9
abbrev jC:Stmt:=jv 57 0
abbrev jD:Stmt:=jv 29 0
abbrev jE:Stmt:=jv 59 0
abbrev iZ:Stmt:=jv 59 2
abbrev oX:Stmt:=jv 59 1
abbrev dz:Stmt:=jv 59 5
abbrev oY:Stmt:=jv 59 3
abbrev lC:Stmt:=jv 59 6
abbrev lS:Stmt:=top 64
abbrev bV:Stmt:=jv 65 1
abbrev kq:Stmt:=jv 65 26
abbrev wj:Stmt:=jv 65 25
abbrev cT:Stmt:=jv 65 2
abbrev jF:Stmt:=jv 65 3
abbrev iK:Stmt:=jv 65 7
abbrev gh:Stmt:=jv 65 30
abbrev uJ:Stmt:=jv 65 34
abbrev jo:Stmt:=jv 65 6
abbrev j0:Stmt:=jv 65 27
abbrev eN:Stmt:=jv 65 4
abbrev nZ:Stmt:=jv 65 8
abbrev gH:Stmt:=jv 65 23
abbrev mS:Stmt:=jv 65 32
abbrev jt:Stmt:=jv 65 0
abbrev n6:Stmt:=jv 65 9
abbrev lT:Stmt:=jv 65 11
abbrev kJ:Stmt:=jv 65 12
abbrev kW:Stmt:=top 73
abbrev kX:Stmt:=top 74
abbrev m7:Stmt:=top 75
abbrev kZ:Stmt:=top 76
abbrev mE:Stmt:=top 79
abbrev m8:Stmt:=top 80
abbrev pZ:Stmt:=top 81
abbrev mT:Stmt:=top 78
abbrev qb:Stmt:=top 71
abbrev HA:Stmt:=top 82
end jm
namespace jm
open PySem L2
def PN:Prop:=∀ {l:PySem.W.OpenLaw} {w:World} {K:PySem.W.Frag} {h:Heap} {mg:Str→Option Value} {fa:Addr} {f0 f1 f2 f3 f4 f5 f6 f7 f8 f9 f10 f11 f12 f13 f14 f15 f16 f17 f18 f19 f20 f21 X6 f23 f24 f25 f26 f27 f28 f29 f30 f31 f32 f33 f34 f35 f36 PR f38 f39 f40 f41 f42 f43 f44 f45 f46 f47 f48 f49 f50 f51 f52 f53 f54 f55 f56 f57 f58 f59 f60 f61 f62 f63 f64 f65 f66 f67 f68 f69 f70 f71 f72 f73 f74 f75 f76 f77 f78 bT dc dO uK yD aI C0 jG oH oJ qH:Addr} {uL uM Ff:Tok} (X:K.In h) (G:h.Ns mainGlobals mg) (hfa:mg "law"=some (.ref fa))
  (IZ:CI K "Shelf" bT)
  (uN:PySem.W.findIn K (.ref bT) "states"=some none)
  (rY:PySem.W.findIn K (.ref bT) "openings"=some none)
  (Mf:CI K "Well" dc)
  (yE:PySem.W.findIn K (.ref dc) "signs"=some none)
  (wm:PySem.W.findIn K (.ref dc) "owners"=some none)
  (sP:PySem.W.findIn K (.ref dc) "pourings"=some none)
  (I0:CI K "Blots" dO)
  (uO:PySem.W.findIn K (.ref dO) "stains"=some none)
  (Mg:CI K "Ties" uK)
  (yF:PySem.W.findIn K (.ref uK) "given"=some none)
  (yG:PySem.W.findIn K (.ref uK) "pairs"=some none)
  (Mh:CI K "Dues" yD)
  (Ak:PySem.W.findIn K (.ref yD) "sums"=some none)
  (Cp:CI K "Library" aI)
  (uP:PySem.W.findIn K (.ref aI) "well"=some none)
  (sQ:PySem.W.findIn K (.ref aI) "shelf"=some none)
  (sR:PySem.W.findIn K (.ref aI) "blots"=some none)
  (sS:PySem.W.findIn K (.ref aI) "knots"=some none)
  (uQ:PySem.W.findIn K (.ref aI) "dues"=some none)
  (uR:PySem.W.findIn K (.ref aI) "book"=some none)
  (q0:DI K "_law_src" tR f0)
  (q1:DI K "_law_next" iW f1)
  (q2:DI K "_law_whole" gU f2)
  (q3:DI K "_law_same" jz f3)
  (q4:DI K "plain" lO f4)
  (q5:DI K "size" ssize f5)
  (q6:DI K "check_places" eZ f6)
  (q7:DI K "pieces" mR f7)
  (q8:DI K "part" Fe f8)
  (q9:DI K "addresses" oS f9)
  (vU:DI K "first_reaching" eK f10)
  (q11:DI K "within" tS f11)
  (q12:MI K dO "__init__" "Blots.__init__" jf f12)
  (q13:MI K dO "hides" "Blots.hides" lP f13)
  (q14:DI K "windows" eL f14)
  (q15:DI K "below" lQ f15)
  (q16:DI K "way_between" iX f16)
  (q17:DI K "ring" Co f17)
  (q18:DI K "item_weight" iY f18)
  (q19:DI K "weights_below" fX f19)
  (q20:DI K "item_row" fH f20)
  (q21:DI K "views_below" dR f21)
  (WC:DI K "shown" Aj X6)
  (q23:DI K "goes_on" lR f23)
  (q24:DI K "plain_items" gV f24)
  (q25:DI K "inked" rF f25)
  (q26:DI K "dealt" rG f26)
  (q27:DI K "put_among" mD f27)
  (q28:DI K "put_items" oU f28)
  (q29:DI K "parted" tT f29)
  (q30:DI K "cut_items" oV f30)
  (q31:DI K "ink_words" jA f31)
  (q32:DI K "shown_deed" ly f32)
  (q33:DI K "changed" oW f33)
  (q34:MI K bT "__init__" "Shelf.__init__" jg f34)
  (q35:MI K bT "now" "Shelf.now" iA f35)
  (q36:MI K bT "many" "Shelf.many" jB f36)
  (q37:MI K bT "step" "Shelf.step" lA PR)
  (q38:MI K bT "check_sheet" "Shelf.check_sheet" gf f38)
  (q39:MI K bT "check_moment" "Shelf.check_moment" cK f39)
  (q40:MI K bT "rows_then" "Shelf.rows_then" dN f40)
  (q41:MI K bT "rows" "Shelf.rows" m6 f41)
  (q42:MI K uK "__init__" "Ties.__init__" jC f42)
  (q43:MI K yD "__init__" "Dues.__init__" jD f43)
  (q44:MI K dc "__init__" "Well.__init__" jE f44)
  (q45:MI K dc "size" "Well.size" iZ f45)
  (q46:MI K dc "pour" "Well.pour" oX f46)
  (q47:MI K dc "check_address" "Well.check_address" dz f47)
  (q48:MI K dc "sign" "Well.sign" oY f48)
  (q49:MI K dc "holds" "Well.holds" lC f49)
  (q50:DI K "check_weave" lS f50)
  (q51:MI K aI "__init__" "Library.__init__" jt f51)
  (q52:MI K aI "enter" "Library.enter" bV f52)
  (q53:MI K aI "change" "Library.change" cT f53)
  (q54:MI K aI "many" "Library.many" kq f54)
  (q55:MI K aI "now" "Library.now" wj f55)
  (q56:MI K aI "begin" "Library.begin" jF f56)
  (q57:MI K aI "fresh" "Library.fresh" iK f57)
  (q58:MI K aI "ink" "Library.ink" j0 f58)
  (q59:MI K aI "check_held" "Library.check_held" eN f59)
  (q60:MI K aI "pour" "Library.pour" jo f60)
  (q61:MI K aI "put" "Library.put" nZ f61)
  (q62:MI K aI "shown" "Library.shown" gh f62)
  (q63:MI K aI "veiled" "Library.veiled" gH f63)
  (q64:MI K aI "text" "Library.text" mS f64)
  (q65:MI K aI "size" "Library.size" uJ f65)
  (q66:MI K aI "cut" "Library.cut" n6 f66)
  (q67:MI K aI "quote" "Library.quote" lT f67)
  (q68:MI K aI "window" "Library.window" kJ f68)
  (q69:DI K "_law_sign" kW f69)
  (q70:DI K "_law_text" kX f70)
  (q71:DI K "_law_world" m7 f71)
  (q72:DI K "_law_keep" kZ f72)
  (q73:DI K "_law_pour" mE f73)
  (q74:DI K "_law_fresh" m8 f74)
  (q75:DI K "_law_begin" pZ f75)
  (q76:DI K "_law_ink_row" mT f76)
  (q77:DI K "_law_spell" qb f77)
  (q78:DI K "law" HA f78)
  (z0:PySem.W.nsIn K mainGlobals "len"=some none)
  (z1:PySem.W.nsIn K mainGlobals "list"=some none)
  (z2:PySem.W.nsIn K mainGlobals "tuple"=some none)
  (z3:PySem.W.nsIn K mainGlobals "int"=some none)
  (z4:PySem.W.nsIn K mainGlobals "bool"=some none)
  (z5:PySem.W.nsIn K mainGlobals "str"=some none)
  (z6:PySem.W.nsIn K mainGlobals "range"=some none)
  (z7:PySem.W.nsIn K mainGlobals "zip"=some none)
  (z8:PySem.W.nsIn K mainGlobals "isinstance"=some none)
  (z9:PySem.W.nsIn K mainGlobals "sum"=some none)
  (z10:PySem.W.nsIn K mainGlobals "min"=some none)
  (z11:PySem.W.nsIn K mainGlobals "max"=some none)
  (z12:PySem.W.nsIn K mainGlobals "all"=some none)
  (e0:XI K "OutOfPlace" C0)
  (Fg:XI K "NoSheet" jG)
  (Cq:XI K "NoMoment" oH)
  (Cr:XI K "OutOfInk" oJ)
  (Fi:XI K "TooMany" qH)
  (uS:PySem.W.nsIn K mainGlobals "MOST_SHEETS"=some (some (.int 40 uL)))
  (uT:PySem.W.nsIn K mainGlobals "MOST_WEIGHT"=some (some (.int 200 uM)))
  (Fj:PySem.W.nsIn K mainGlobals "HIDDEN"=some (some (.str (Str.ofString "#") Ff)))
  (wz:PySem.W.nsIn K mainGlobals "size_spans"=some (some (.ref f5)))
  (uU:PySem.W.nsIn K mainGlobals "shown_weave"=some (some (.ref X6))),
  ∃ fd:FuncData,(∀ (s:Shared) (v:Value),BindsTo s fd ⟨[v],[]⟩ [("_law_script",v)])∧∀ base:Heap,K.In base→base.Ns mainGlobals mg→aC l.prog w K mg base bU 14 fa fd ["_law_script"] (Fd K)
theorem walk{l:PySem.W.OpenLaw}{q:Program}{loose:List Str}{XP:(Str→Option Value)→Heap→Prop}{YP:World→Heap→Prop}{d:DefRec}{K:Params→PySem.W.Frag}(hn:l.most=some 63)(hdf:d.params.defaults=[])
  (hY:∀ (w:World) (h:Heap),YP w h→(K w.params).In h)
  (F:∀ (w:World) (mg:Str→Option Value) (fa:Addr) (h:Heap),(K w.params).In h→h.Ns mainGlobals mg→mg d.name=some (.ref fa) →
   ∃ fd:FuncData,(∀ (s:Shared) (u:Value),BindsTo s fd ⟨[u],[]⟩ [("_law_script",u)])∧∀ base:Heap,(K w.params).In base→base.Ns mainGlobals mg→aC l.prog w (K w.params) mg base bU 14 fa fd ["_law_script"] (Fd (K w.params))) :
  PySem.W.WalkO q loose XP YP l.row.toRowW d [] (fun f vs=>PySem.call f vs) :=
 L2.Oa (n:=63) (k:=14) (x:="_law_script") (CX:=fun _=>bU) (sp:=fun w=>Fd (K w.params)) hn (by decide) hdf ⟨rfl,by decide,by decide⟩ hY F (fun _ _ a ns hl _ hS=>⟨a,ns,rfl,hS,hl,fun _=>rfl⟩) fun _ _ _ _ _ z=>z
end jm
namespace PySem.W.Fast
theorem tw5908663415921619573:True:=⟨⟩
theorem tw7619181426038407443:True:=⟨⟩
theorem tw16898262992742634318:True:=⟨⟩
theorem tw890527806513311033:True:=⟨⟩
theorem tw4938922167487554291:True:=⟨⟩
theorem tw6294828580222593845:True:=⟨⟩
theorem tw15470400928778942695:True:=⟨⟩
theorem tw12638287874960805382:True:=⟨⟩
theorem tw9197544290364458328:True:=⟨⟩
theorem tw216939031140885377:True:=⟨⟩
theorem tw103847866703517421:True:=⟨⟩
theorem tw15354519274863466871:True:=⟨⟩
theorem tw7939524158907558757:True:=⟨⟩
theorem tw4860226304126381948:True:=⟨⟩
theorem tw1235676801611043598:True:=⟨⟩
theorem tw12302416128871046547:True:=⟨⟩
theorem tw3849671725069841524:True:=⟨⟩
theorem tw2644966402694589773:True:=⟨⟩
theorem tw8339824494505919055:True:=⟨⟩
theorem tw810768042931357951:True:=⟨⟩
theorem tw10200739388509106431:True:=⟨⟩
theorem tw12100318932322488840:True:=⟨⟩
theorem tw11012063248973955801:True:=⟨⟩
theorem tw3624437352762816442:True:=⟨⟩
theorem tw7218369673166970698:True:=⟨⟩
theorem tw17858122335641075709:True:=⟨⟩
theorem tw7181896938862038572:True:=⟨⟩
theorem tw12776670214298751364:True:=⟨⟩
theorem tw9296363319268843729:True:=⟨⟩
theorem tw5704715349306042640:True:=⟨⟩
theorem tw1192643114874014612:True:=⟨⟩
theorem tw9503574538468072034:True:=⟨⟩
theorem tw14300864224524781669:True:=⟨⟩
theorem tw2861063420980817483:True:=⟨⟩
theorem tw4884546865404582631:True:=⟨⟩
theorem tw6314060272181681314:True:=⟨⟩
theorem tw14512698169745203898:True:=⟨⟩
theorem tw2535855834938999399:True:=⟨⟩
theorem tw10529820168576160505:True:=⟨⟩
theorem tw1899730189230032414:True:=⟨⟩
theorem tw16651471279740558982:True:=⟨⟩
theorem tw10720093022018454503:True:=⟨⟩
theorem tw4051065320628585355:True:=⟨⟩
theorem tw16156928062062787343:True:=⟨⟩
theorem tw7895386909391267097:True:=⟨⟩
theorem tw5785025831807350275:True:=⟨⟩
theorem tw16939499534798073562:True:=⟨⟩
theorem tw15160641052013805086:True:=⟨⟩
theorem tw15002375395241424979:True:=⟨⟩
theorem tw6485509580642408514:True:=⟨⟩
theorem tw7456450480393791630:True:=⟨⟩
theorem tw12911603663789373391:True:=⟨⟩
theorem tw1088829382351580959:True:=⟨⟩
theorem tw9862889850501729033:True:=⟨⟩
theorem tw10131216521386980991:True:=⟨⟩
theorem tw9030225136221728035:True:=⟨⟩
theorem tw668067266139365849:True:=⟨⟩
theorem tw538856605667178774:True:=⟨⟩
theorem tw13561602209953086754:True:=⟨⟩
theorem tw13682411972638497683:True:=⟨⟩
theorem tw4563177264838753652:True:=⟨⟩
theorem tw16849164236559921688:True:=⟨⟩
theorem tw9794132633887604349:True:=⟨⟩
theorem tw12214911969511444895:True:=⟨⟩
theorem tw2171141762362424678:True:=⟨⟩
theorem tw9195709980815172007:True:=⟨⟩
theorem tw1832760668028179264:True:=⟨⟩
theorem tw4619171484432018852:True:=⟨⟩
theorem tw2455639754520573208:True:=⟨⟩
theorem tw18121464345801115325:True:=⟨⟩
theorem tw7622865263355140487:True:=⟨⟩
theorem tw14585186980850832642:True:=⟨⟩
theorem tw12618894876321168798:True:=⟨⟩
theorem tw10833861772994744534:True:=⟨⟩
theorem tw15974895403723352266:True:=⟨⟩
theorem tw11458129391222236191:True:=⟨⟩
theorem tw5726742640228659197:True:=⟨⟩
theorem tw9408710119556146484:True:=⟨⟩
theorem tw9665967493624075079:True:=⟨⟩
theorem tw8118178986494143732:True:=⟨⟩
theorem tw2170525537651293736:True:=⟨⟩
theorem tw6113295098055749240:True:=⟨⟩
theorem tw3113035344571271404:True:=⟨⟩
theorem tw1268036151335963509:True:=⟨⟩
theorem tw17183130572258749207:True:=⟨⟩
theorem tw18074899194273738579:True:=⟨⟩
theorem tw12404445931881511591:True:=⟨⟩
theorem tw3787691281520583129:True:=⟨⟩
theorem tw15213767965360897158:True:=⟨⟩
theorem tw12677715633963602345:True:=⟨⟩
theorem tw5615518879688871517:True:=⟨⟩
theorem tw16948966218488754829:True:=⟨⟩
theorem tw10166605891566562415:True:=⟨⟩
theorem tw4268688006296800789:True:=⟨⟩
theorem tw16338811766771077682:True:=⟨⟩
theorem tw15949348060312771499:True:=⟨⟩
theorem tw6621991823463045938:True:=⟨⟩
theorem tw1753355790933320553:True:=⟨⟩
theorem tw6406489753188550552:True:=⟨⟩
theorem tw10235125217311379496:True:=⟨⟩
theorem tw10314480356693590969:True:=⟨⟩
theorem tw5596925319247693863:True:=⟨⟩
theorem tw9097486096801466829:True:=⟨⟩
theorem tw13874050815512489444:True:=⟨⟩
theorem tw3080805175237516503:True:=⟨⟩
theorem tw8179111536514353454:True:=⟨⟩
theorem tw14210526162102984643:True:=⟨⟩
theorem tw5787731223479821081:True:=⟨⟩
theorem tw15947752429163529459:True:=⟨⟩
theorem tw11566865892570000843:True:=⟨⟩
theorem tw258910661264023653:True:=⟨⟩
theorem tw12769806035098876329:True:=⟨⟩
theorem tw17830580217105994828:True:=⟨⟩
theorem tw6882378684044339538:True:=⟨⟩
theorem tw6596721874778212603:True:=⟨⟩
theorem tw4393694106234356204:True:=⟨⟩
theorem tw12426509027780531872:True:=⟨⟩
theorem tw9015222606174146703:True:=⟨⟩
theorem tw11333873226374503879:True:=⟨⟩
theorem tw10530691860142250286:True:=⟨⟩
theorem tw4732283780011062292:True:=⟨⟩
theorem tw8523812102775407993:True:=⟨⟩
theorem tw5685736324300799716:True:=⟨⟩
theorem tw17786280790010582766:True:=⟨⟩
theorem tw10735222449072540785:True:=⟨⟩
theorem tw18153334601415454246:True:=⟨⟩
theorem tw17886248477947639653:True:=⟨⟩
theorem tw9923733028131988633:True:=⟨⟩
theorem tw11602871542936560124:True:=⟨⟩
theorem tw13096246688764451661:True:=⟨⟩
theorem tw10527794293154432371:True:=⟨⟩
theorem tw2311011686097713911:True:=⟨⟩
theorem tw17370321584802881102:True:=⟨⟩
theorem tw12426305342339988593:True:=⟨⟩
theorem tw1500496203068742399:True:=⟨⟩
theorem tw1825190370743507798:True:=⟨⟩
theorem tw4960986977290953227:True:=⟨⟩
theorem tw14029664986112641484:True:=⟨⟩
theorem tw5924250053488226659:True:=⟨⟩
theorem tw16529499142279032874:True:=⟨⟩
theorem tw13329630184219113009:True:=⟨⟩
theorem tw1353203813116011195:True:=⟨⟩
theorem tw14417263362850148669:True:=⟨⟩
theorem tw3089078410487525385:True:=⟨⟩
theorem tw16480678376684587741:True:=⟨⟩
theorem tw12861947237069953299:True:=⟨⟩
theorem tw9960665360374546:True:=⟨⟩
theorem tw17777203265173703939:True:=⟨⟩
theorem tw15284264253233385497:True:=⟨⟩
theorem tw10023989679151481367:True:=⟨⟩
theorem tw15229959041950558467:True:=⟨⟩
theorem tw15119990963017624401:True:=⟨⟩
theorem tw1058557062700191310:True:=⟨⟩
theorem tw8201108841469549790:True:=⟨⟩
theorem tw11989731645695937241:True:=⟨⟩
theorem tw7603439147953397978:True:=⟨⟩
theorem tw16038606024413984735:True:=⟨⟩
theorem tw7125404807520407449:True:=⟨⟩
theorem tw3359936465384840813:True:=⟨⟩
theorem tw3263256837795927363:True:=⟨⟩
theorem tw2298226961235132603:True:=⟨⟩
theorem tw13859134453571414980:True:=⟨⟩
theorem tw1983472854038403948:True:=⟨⟩
theorem tw9067330655844173334:True:=⟨⟩
theorem tw2408120946849406778:True:=⟨⟩
theorem tw4162116071305290986:True:=⟨⟩
theorem tw11853414655517045127:True:=⟨⟩
theorem tw14110403378635861417:True:=⟨⟩
theorem tw17446868285343365285:True:=⟨⟩
theorem tw9796292397487775751:True:=⟨⟩
theorem tw10124424430914706723:True:=⟨⟩
theorem tw5473565422953933261:True:=⟨⟩
theorem tw10027257741708599902:True:=⟨⟩
theorem tw14655642703799519308:True:=⟨⟩
theorem tw15346565951032678314:True:=⟨⟩
theorem tw14944468374468986405:True:=⟨⟩
theorem tw3559171144006599277:True:=⟨⟩
theorem tw3516099016811813995:True:=⟨⟩
theorem tw432585019962980168:True:=⟨⟩
theorem tw586202918336752972:True:=⟨⟩
theorem tw1632777906860199583:True:=⟨⟩
theorem tw2025404488281420386:True:=⟨⟩
theorem tw11023569141259831562:True:=⟨⟩
theorem tw2745488122305551809:True:=⟨⟩
theorem tw7911971439129791186:True:=⟨⟩
theorem tw14810434472629483430:True:=⟨⟩
theorem tw10020221761336114789:True:=⟨⟩
theorem tw2449000431431423800:True:=⟨⟩
theorem tw12152545293487254110:True:=⟨⟩
theorem tw5979415399875441244:True:=⟨⟩
theorem tw8315570590561731767:True:=⟨⟩
theorem tw15904137512600794048:True:=⟨⟩
theorem tw11048107031566019360:True:=⟨⟩
theorem tw18440551650411813231:True:=⟨⟩
theorem tw5090545315646478145:True:=⟨⟩
theorem tw12600880238420430828:True:=⟨⟩
theorem tw16915059730841437569:True:=⟨⟩
theorem tw9944247371371907224:True:=⟨⟩
theorem tw2002960939125929069:True:=⟨⟩
theorem tw15960521572150016238:True:=⟨⟩
theorem tw18270535141003590002:True:=⟨⟩
theorem tw8675882719040575129:True:=⟨⟩
theorem tw2716018825342679868:True:=⟨⟩
theorem tw12764263383457609792:True:=⟨⟩
theorem tw18308885287689662046:True:=⟨⟩
theorem tw16237554593982727370:True:=⟨⟩
theorem tw11867627596290455791:True:=⟨⟩
theorem tw12545388883672649578:True:=⟨⟩
theorem tw10963200410275594680:True:=⟨⟩
theorem tw5065738321267270134:True:=⟨⟩
theorem tw3341124264255833939:True:=⟨⟩
theorem tw14766846190628278108:True:=⟨⟩
theorem tw7463874047482868869:True:=⟨⟩
theorem tw2553195995475972813:True:=⟨⟩
theorem tw11105138209660519301:True:=⟨⟩
theorem tw6994769733384258818:True:=⟨⟩
theorem tw8313322861569947070:True:=⟨⟩
theorem tw3005535503039313544:True:=⟨⟩
theorem tw8631718335901372219:True:=⟨⟩
theorem tw8787992287694406034:True:=⟨⟩
theorem tw6318728999042144554:True:=⟨⟩
theorem tw1473752732875783804:True:=⟨⟩
theorem tw10207179956157386942:True:=⟨⟩
theorem tw17857516428584348279:True:=⟨⟩
theorem tw7739020827930520130:True:=⟨⟩
theorem tw5734765485312324789:True:=⟨⟩
theorem tw4432516695237957524:True:=⟨⟩
theorem tw1628599119628939895:True:=⟨⟩
theorem tw3274229056014238455:True:=⟨⟩
theorem tw16888269660137869125:True:=⟨⟩
theorem tw17403279563514041723:True:=⟨⟩
theorem tw7297780653493718036:True:=⟨⟩
theorem tw15513654513427892500:True:=⟨⟩
theorem tw12730141612411938399:True:=⟨⟩
theorem tw11810298773023035282:True:=⟨⟩
theorem tw5294888625440352926:True:=⟨⟩
theorem tw18371328874691407325:True:=⟨⟩
theorem tw8737559720017562732:True:=⟨⟩
theorem tw18162355197819162223:True:=⟨⟩
theorem tw4577273129638389781:True:=⟨⟩
theorem tw3945249865009597215:True:=⟨⟩
theorem tw1645495643194031340:True:=⟨⟩
theorem tw1097296218370200839:True:=⟨⟩
theorem tw15974874402395304748:True:=⟨⟩
theorem tw16280555895296936321:True:=⟨⟩
theorem tw13467967810880835988:True:=⟨⟩
theorem tw228265722291010588:True:=⟨⟩
theorem tw10287324788681415680:True:=⟨⟩
theorem tw12482196015486321515:True:=⟨⟩
theorem tw13900270667818472977:True:=⟨⟩
theorem tw15484143146482002997:True:=⟨⟩
theorem tw2945605972608218410:True:=⟨⟩
theorem tw3276771860611550531:True:=⟨⟩
theorem tw13573506721980317416:True:=⟨⟩
theorem tw9524486558197806887:True:=⟨⟩
theorem tw9153688062978995575:True:=⟨⟩
theorem tw17904788595080527648:True:=⟨⟩
theorem tw543051926080734257:True:=⟨⟩
theorem tw9849080344967012706:True:=⟨⟩
theorem tw12795012807936531537:True:=⟨⟩
theorem tw3823306451592546607:True:=⟨⟩
theorem tw16223049043895086811:True:=⟨⟩
theorem tw6146178190457575719:True:=⟨⟩
theorem tw6755717867183199099:True:=⟨⟩
theorem tw9457627824032250501:True:=⟨⟩
theorem tw10558915145238607615:True:=⟨⟩
theorem tw1338576866715931398:True:=⟨⟩
theorem tw1223658756352924157:True:=⟨⟩
theorem tw10739582465706694904:True:=⟨⟩
theorem tw9789445297220002628:True:=⟨⟩
theorem tw1391974984480877878:True:=⟨⟩
theorem tw3332221370547476874:True:=⟨⟩
theorem tw16261991854783785370:True:=⟨⟩
theorem tw8050351500831640569:True:=⟨⟩
theorem tw9369731092133027132:True:=⟨⟩
theorem tw2452415086942123697:True:=⟨⟩
theorem tw2927677038635944172:True:=⟨⟩
theorem tw408854894922191282:True:=⟨⟩
theorem tw3131472214394108636:True:=⟨⟩
theorem tw11772257444749237318:True:=⟨⟩
theorem tw85909444375441439:True:=⟨⟩
theorem tw3649920773134913377:True:=⟨⟩
theorem tw690711085434009342:True:=⟨⟩
theorem tw15240161031124847509:True:=⟨⟩
theorem tw6889285775887233073:True:=⟨⟩
theorem tw9337293107590712425:True:=⟨⟩
theorem tw8519398670824554475:True:=⟨⟩
theorem tw16512450658415729660:True:=⟨⟩
theorem tw8192374371878641519:True:=⟨⟩
theorem tw8574774277333662944:True:=⟨⟩
theorem tw10840351757347878685:True:=⟨⟩
theorem tw7106289511190142511:True:=⟨⟩
theorem tw12403866422972960752:True:=⟨⟩
theorem tw1418672245007181211:True:=⟨⟩
theorem tw13256645818245402477:True:=⟨⟩
theorem tw11965071526984789779:True:=⟨⟩
theorem tw17219901122656186286:True:=⟨⟩
theorem tw4412990133921087490:True:=⟨⟩
theorem tw5998747236573024856:True:=⟨⟩
theorem tw8152630963075905459:True:=⟨⟩
theorem tw2162609780870981952:True:=⟨⟩
theorem tw2019291140131630527:True:=⟨⟩
theorem tw14292995277198489004:True:=⟨⟩
theorem tw14281870917033672930:True:=⟨⟩
theorem tw18084770974969516766:True:=⟨⟩
theorem tw3631643889834590970:True:=⟨⟩
theorem tw17904861510616481374:True:=⟨⟩
theorem tw14228994670232733972:True:=⟨⟩
theorem tw12718743760952843865:True:=⟨⟩
theorem tw11886827359999110309:True:=⟨⟩
theorem tw17776262900401753409:True:=⟨⟩
theorem tw8778608000597471353:True:=⟨⟩
theorem tw6736363861874904542:True:=⟨⟩
theorem tw9713049627132106249:True:=⟨⟩
theorem tw3797005515278452342:True:=⟨⟩
theorem tw9202691750713490850:True:=⟨⟩
theorem tw15554298357956111597:True:=⟨⟩
theorem tw9437013370022578299:True:=⟨⟩
theorem tw2416901093827745092:True:=⟨⟩
theorem tw11374331820412742792:True:=⟨⟩
theorem tw12859052588521704256:True:=⟨⟩
theorem tw17273981206319350315:True:=⟨⟩
theorem tw7543986369841861279:True:=⟨⟩
theorem tw736582075304504084:True:=⟨⟩
theorem tw7664227097596433168:True:=⟨⟩
theorem tw13599900925945983283:True:=⟨⟩
theorem tw7585058253511357379:True:=⟨⟩
theorem tw17566264023107720000:True:=⟨⟩
theorem tw4420258429064659530:True:=⟨⟩
theorem tw7194313591282104271:True:=⟨⟩
theorem tw6341973979424563288:True:=⟨⟩
theorem tw3902805378276139812:True:=⟨⟩
theorem tw372210739586410584:True:=⟨⟩
theorem tw11973693885711462735:True:=⟨⟩
theorem tw13398981231135449315:True:=⟨⟩
theorem tw1554221685369444220:True:=⟨⟩
theorem tw13167612314942489613:True:=⟨⟩
theorem tw17934536402572569334:True:=⟨⟩
theorem tw9058436262188638255:True:=⟨⟩
theorem tw16781316851755603959:True:=⟨⟩
theorem tw2586532148419433505:True:=⟨⟩
theorem tw15664015799774438821:True:=⟨⟩
theorem tw17723361734462081952:True:=⟨⟩
theorem tw161986576348171318:True:=⟨⟩
theorem tw11773892822988236466:True:=⟨⟩
theorem tw8230163390963789168:True:=⟨⟩
theorem tw6947238092106175886:True:=⟨⟩
theorem tw9845423724855849288:True:=⟨⟩
theorem tw5548518849545514458:True:=⟨⟩
theorem tw17767060286745617004:True:=⟨⟩
theorem tw14668384445727443553:True:=⟨⟩
theorem tw3457037977884927845:True:=⟨⟩
theorem tw14539167433097383694:True:=⟨⟩
theorem tw7498446638407378601:True:=⟨⟩
theorem tw13028219776799574417:True:=⟨⟩
theorem tw2748284706475626409:True:=⟨⟩
theorem tw13799167949707047928:True:=⟨⟩
theorem tw17638112958891260752:True:=⟨⟩
theorem tw3320493525663644213:True:=⟨⟩
theorem tw14389920431125524133:True:=⟨⟩
theorem tw1772216001476518574:True:=⟨⟩
theorem tw17212026761707167778:True:=⟨⟩
theorem tw9744301978074457178:True:=⟨⟩
theorem tw17921857856714136697:True:=⟨⟩
theorem tw1058654566626361325:True:=⟨⟩
theorem tw10973196484424142225:True:=⟨⟩
theorem tw12343571324934637503:True:=⟨⟩
theorem tw9560592285541944678:True:=⟨⟩
theorem tw2534931150538107428:True:=⟨⟩
theorem tw1956305836842487393:True:=⟨⟩
theorem tw9587942765162234981:True:=⟨⟩
theorem tw12691592742490291182:True:=⟨⟩
theorem tw7182235464150087315:True:=⟨⟩
theorem tw11421605519509359379:True:=⟨⟩
theorem tw8565983321670816106:True:=⟨⟩
theorem tw3807197102497223116:True:=⟨⟩
theorem tw880126227594615178:True:=⟨⟩
theorem tw9600712851884720255:True:=⟨⟩
theorem tw530644059970293699:True:=⟨⟩
theorem tw1292035994457149912:True:=⟨⟩
theorem tw801261732667289434:True:=⟨⟩
theorem tw2829420603314943291:True:=⟨⟩
theorem tw16212640128210383038:True:=⟨⟩
theorem tw17577342275585604338:True:=⟨⟩
theorem tw7868269637823714217:True:=⟨⟩
theorem tw3101641735719591477:True:=⟨⟩
theorem tw8857549339065239678:True:=⟨⟩
theorem tw1525358246476116103:True:=⟨⟩
theorem tw8418322744261995453:True:=⟨⟩
theorem tw10715558550179660975:True:=⟨⟩
theorem tw14226505477486116213:True:=⟨⟩
theorem tw15908895509236329888:True:=⟨⟩
theorem tw13864861506878310917:True:=⟨⟩
theorem tw9417076664732026928:True:=⟨⟩
theorem tw6602491807451337738:True:=⟨⟩
theorem tw4225928143200287067:True:=⟨⟩
theorem tw1761281080907453077:True:=⟨⟩
theorem tw235393316987767220:True:=⟨⟩
theorem tw8314036435297521733:True:=⟨⟩
theorem tw9652727206429536541:True:=⟨⟩
theorem tw17611397630352465880:True:=⟨⟩
theorem tw4436011159923302395:True:=⟨⟩
theorem tw16512731753946133567:True:=⟨⟩
theorem tw1086540761061589655:True:=⟨⟩
theorem tw14688200265440049357:True:=⟨⟩
theorem tw13238151824315907446:True:=⟨⟩
theorem tw12344730578880811367:True:=⟨⟩
theorem tw6568371114637939223:True:=⟨⟩
theorem tw1385226719549548074:True:=⟨⟩
theorem tw4666874192404387215:True:=⟨⟩
theorem tw16471374384209401364:True:=⟨⟩
theorem tw17457242362325380247:True:=⟨⟩
theorem tw12798634326813285542:True:=⟨⟩
theorem tw4951605723738891038:True:=⟨⟩
theorem tw3343786533143492897:True:=⟨⟩
theorem tw6781203554929003544:True:=⟨⟩
theorem tw221396334337102278:True:=⟨⟩
theorem tw4513873550648396386:True:=⟨⟩
theorem tw5079588307008115734:True:=⟨⟩
theorem tw8823033393234177691:True:=⟨⟩
theorem tw13914611143708928200:True:=⟨⟩
theorem tw8767402718018507840:True:=⟨⟩
theorem tw7198088177088817100:True:=⟨⟩
theorem tw1228826109220869934:True:=⟨⟩
theorem tw10836445129881896232:True:=⟨⟩
theorem tw11115652419611118823:True:=⟨⟩
theorem tw4875092564254651616:True:=⟨⟩
theorem tw1226854721378738098:True:=⟨⟩
theorem tw9650336176010141987:True:=⟨⟩
theorem tw15280742791447793894:True:=⟨⟩
theorem tw1986779878732407776:True:=⟨⟩
theorem tw2682634321710028434:True:=⟨⟩
theorem tw9080206312780138439:True:=⟨⟩
theorem tw18375329704295413285:True:=⟨⟩
theorem tw14339808714903669351:True:=⟨⟩
theorem tw8504945710669611221:True:=⟨⟩
end PySem.W.Fast
namespace InkHd
open PySem PySem.W PyProof.Rows
set_option maxRecDepth 100000 in
set_option maxHeartbeats 0 in
open_top hd_k37 for PySem.Challenge.rw_inkroot_k37_windows_live
set_option maxRecDepth 100000 in
set_option maxHeartbeats 0 in
theorem hd2(A:jm.PN):PySem.Challenge.rw_inkroot_k37_windows_live.Holds:=by
 refine hd_k37 ?_
 k_fill
 refine jm.walk (l:=PySem.Challenge.rw_inkroot_k37_windows_live) rfl rfl (fun w h Y=>PySem.W.kIn_of Y) ?F
 case F =>
  intro w mg fa h KX G hmg
  refine' A KX G hmg (.mk ?g1 ?g2 ?g3 ?g4 ?g5 ?g6 ?g7) ?g8 ?g9 (.mk ?g10 ?g11 ?g12 ?g13 ?g14 ?g15 ?g16) ?g17 ?g18 ?g19 (.mk ?g20 ?g21 ?g22 ?g23 ?g24 ?g25 ?g26) ?g27 (.mk ?g28 ?g29 ?g30 ?g31 ?g32 ?g33 ?g34) ?g35 ?g36 (.mk ?g37 ?g38 ?g39 ?g40 ?g41 ?g42 ?g43) ?g44 (.mk ?g45 ?g46 ?g47 ?g48 ?g49 ?g50 ?g51) ?g52 ?g53 ?g54 ?g55 ?g56 ?g57 (.mk ?g58 ?g59 ?g60 ?g61) (.mk ?g62 ?g63 ?g64 ?g65) (.mk ?g66 ?g67 ?g68 ?g69) (.mk ?g70 ?g71 ?g72 ?g73) (.mk ?g74 ?g75 ?g76 ?g77) (.mk ?g78 ?g79 ?g80 ?g81) (.mk ?g82 ?g83 ?g84 ?g85) (.mk ?g86 ?g87 ?g88 ?g89) (.mk ?g90 ?g91 ?g92 ?g93) (.mk ?g94 ?g95 ?g96 ?g97) (.mk ?g98 ?g99 ?X7 ?X8) (.mk ?X9 ?Yb ?Yc ?Yd) (.mk ?Ye ?Yg ?Yh ?Yi ?Yj) (.mk ?Yk ?Yl ?Ym ?Yn ?Yo) (.mk ?Yp ?Yq ?Yr ?Ys) (.mk ?Yt ?Yu ?Yv ?Yw) (.mk ?Yx ?Yy ?Yz ?YA) (.mk ?YB ?YC ?YD ?YE) (.mk ?YF ?YG ?YH ?YI) (.mk ?YJ ?YK ?YL ?YM) (.mk ?YN ?YO ?YQ ?YR) (.mk ?YS ?YT ?YU ?YV) (.mk ?YW ?YX ?YY ?YZ) (.mk ?Y0 ?Y3 ?Y4 ?Y5) (.mk ?Y6 ?Y7 ?Y8 ?Y9) (.mk ?Za ?Zb ?Zc ?Zd) (.mk ?Ze ?Zf ?Zg ?Zh) (.mk ?Zi ?Zj ?Zk ?Zl) (.mk ?Zm ?Zn ?Zo ?Zp) (.mk ?Zq ?Zr ?Zs ?Zt) (.mk ?Zu ?Zv ?Zw ?Zx) (.mk ?Zy ?Zz ?ZA ?ZC) (.mk ?ZD ?ZE ?ZF ?ZG) (.mk ?ZH ?ZI ?ZJ ?ZK) (.mk ?ZL ?ZM ?ZN ?ZO ?ZP) (.mk ?ZQ ?ZR ?ZS ?ZT ?ZU) (.mk ?ZV ?ZW ?ZX ?ZY ?ZZ) (.mk ?Z0 ?Z1 ?Z2 ?Z3 ?Z4) (.mk ?Z5 ?Z6 ?Z7 ?Z8 ?Z9) (.mk ?aaa ?aab ?aac ?aad ?aae) (.mk ?aaf ?aag ?aah ?aai ?aaj) (.mk ?aak ?aal ?aam ?aan ?aao) (.mk ?aap ?aaq ?aar ?aas ?aat) (.mk ?aau ?aav ?aaw ?aax ?aay) (.mk ?aaz ?aaA ?aaB ?aaC ?aaD) (.mk ?aaE ?aaF ?aaG ?aaH ?aaI) (.mk ?aaJ ?aaK ?aaL ?aaM ?aaN) (.mk ?aaO ?aaP ?aaQ ?aaR ?aaS) (.mk ?aaT ?aaU ?aaV ?aaW ?aaX) (.mk ?aaY ?aaZ ?aa0 ?aa1 ?aa2) (.mk ?aa3 ?aa4 ?aa5 ?aa6) (.mk ?aa7 ?aa8 ?aa9 ?aba ?abb) (.mk ?abc ?abd ?abe ?abf ?abg) (.mk ?abh ?abi ?abj ?abk ?abl) (.mk ?abm ?abn ?abo ?abp ?abq) (.mk ?abr ?abt ?abu ?abv ?abw) (.mk ?abx ?aby ?abz ?abA ?abB) (.mk ?abC ?abD ?abE ?abF ?abG) (.mk ?abH ?abI ?abJ ?abK ?abL) (.mk ?abM ?abN ?abO ?abP ?abQ) (.mk ?abR ?abS ?abT ?abU ?abV) (.mk ?abW ?abX ?abY ?abZ ?ab0) (.mk ?ab1 ?ab2 ?ab3 ?ab4 ?ab5) (.mk ?ab6 ?ab7 ?ab8 ?ab9 ?acd) (.mk ?ace ?acf ?acg ?ach ?aci) (.mk ?acj ?ack ?acm ?acn ?aco) (.mk ?acp ?acq ?acr ?acs ?acu) (.mk ?acv ?acw ?acy ?acz ?acA) (.mk ?acB ?acC ?acD ?acE ?acF) (.mk ?acG ?acH ?acI ?acJ) (.mk ?acK ?acL ?acM ?acN) (.mk ?acO ?acP ?acQ ?acR) (.mk ?acS ?acT ?acU ?acV) (.mk ?acW ?acX ?acY ?acZ) (.mk ?ac0 ?ac1 ?ac2 ?ac3) (.mk ?ac4 ?ac5 ?ac6 ?ac7) (.mk ?ac8 ?ac9 ?ada ?adb) (.mk ?ade ?adf ?adg ?adh) (.mk ?adi ?adj ?adk ?adl) ?adm ?adn ?ado ?adp ?adq ?ads ?adt ?adu ?adv ?adw ?adx ?ady ?adz (.mk ?adA ?adB ?adC) (.mk ?adD ?adE ?adF) (.mk ?adG ?adH ?adI) (.mk ?adJ ?adK ?adL) (.mk ?adM ?adN ?adO) ?adP ?adQ ?adR ?adS ?adT
  case g1|g2|g3|g4|g5|g6|g7|g8|g9|g10|g11|g12|g13|g14|g15|g16|g17|g18|g19|g20|g21|g22|g23|g24|g25|g26|g27|g28|g29|g30|g31|g32|g33|g34|g35|g36|g37|g38|g39|g40|g41|g42|g43|g44|g45|g46|g47|g48|g49|g50|g51|g52|g53|g54|g55|g56|g57|g58|g59|g60|g61|g62|g63|g64|g65|g66|g67|g68|g69|g70|g71|g72|g73|g74|g75|g76|g77|g78|g79|g80|g81|g82|g83|g84|g85|g86|g87|g88|g89|g90|g91|g92|g93|g94|g95|g96|g97|g98|g99|X7|X8|X9|Yb|Yc|Yd|Ye|Yg|Yh|Yi|Yj|Yk|Yl|Ym|Yn|Yo|Yp|Yq|Yr|Ys|Yt|Yu|Yv|Yw|Yx|Yy|Yz|YA|YB|YC|YD|YE|YF|YG|YH|YI|YJ|YK|YL|YM|YN|YO|YQ|YR|YS|YT|YU|YV|YW|YX|YY|YZ|Y0|Y3|Y4|Y5|Y6|Y7|Y8|Y9|Za|Zb|Zc|Zd|Ze|Zf|Zg|Zh|Zi|Zj|Zk|Zl|Zm|Zn|Zo|Zp|Zq|Zr|Zs|Zt|Zu|Zv|Zw|Zx|Zy|Zz|ZA|ZC|ZD|ZE|ZF|ZG|ZH|ZI|ZJ|ZK|ZL|ZM|ZN|ZO|ZP|ZQ|ZR|ZS|ZT|ZU|ZV|ZW|ZX|ZY|ZZ|Z0|Z1|Z2|Z3|Z4|Z5|Z6|Z7|Z8|Z9|aaa|aab|aac|aad|aae|aaf|aag|aah|aai|aaj|aak|aal|aam|aan|aao|aap|aaq|aar|aas|aat|aau|aav|aaw|aax|aay|aaz|aaA|aaB|aaC|aaD|aaE|aaF|aaG|aaH|aaI|aaJ|aaK|aaL|aaM|aaN|aaO|aaP|aaQ|aaR|aaS|aaT|aaU|aaV|aaW|aaX|aaY|aaZ|aa0|aa1|aa2|aa3|aa4|aa5|aa6|aa7|aa8|aa9|aba|abb|abc|abd|abe|abf|abg|abh|abi|abj|abk|abl|abm|abn|abo|abp|abq|abr|abt|abu|abv|abw|abx|aby|abz|abA|abB|abC|abD|abE|abF|abG|abH|abI|abJ|abK|abL|abM|abN|abO|abP|abQ|abR|abS|abT|abU|abV|abW|abX|abY|abZ|ab0|ab1|ab2|ab3|ab4|ab5|ab6|ab7|ab8|ab9|acd|ace|acf|acg|ach|aci|acj|ack|acm|acn|aco|acp|acq|acr|acs|acu|acv|acw|acy|acz|acA|acB|acC|acD|acE|acF|acG|acH|acI|acJ|acK|acL|acM|acN|acO|acP|acQ|acR|acS|acT|acU|acV|acW|acX|acY|acZ|ac0|ac1|ac2|ac3|ac4|ac5|ac6|ac7|ac8|ac9|ada|adb|ade|adf|adg|adh|adi|adj|adk|adl|adm|adn|ado|adp|adq|ads|adt|adu|adv|adw|adx|ady|adz|adA|adD|adG|adJ|adM|adP|adQ|adR|adS|adT=>k_is
  case adB|adE|adH|adK|adN=>k_exc
  case adC|adF|adI|adL|adO=>kts_exm
end InkHd
namespace dD
open PySem PySem.Spec PyProof.Rows L2
section
variable {X:Cx}
theorem dF:nO X (.builtin "isinstance") (fun xs H Q=>∃ x T t b,xs=[x,.ty T]∧mZ X.K H x t∧PySem.W.kitOne X.K t (.type T)=some b∧Q (.bl b) H):=by
 intro pins s σ H xs us Q I r h
 obtain⟨x,T,t,b,rfl,ty,e,q⟩:=h
 obtain⟨u,v,rfl,rx,rv⟩:=r.two
 cases (show v=Value.type T from rv)
 exact Kc I rx ty e fun tk=>⟨.bl b,H,I.tok tk,rfl,q⟩
theorem rZ{x:Str}{T:String}{pos:Pos}(hg:Gl X x)(hm:X.mg x=none)(hv:bootBuiltins x=some (.type T))(hn:x≠"__name__":=by decide)(hd:(x == ("__debug__":Str))=false:=by decide):PE X (.Name x pos) (tC (.ty T)) :=
 NV hg hm hv rfl hn hd
end
theorem Oc{X:Cx}{pins:List (Addr × Obj)}{σ:L2.St}{H:Hp}{s:Shared}{h':Heap}{t':Nat}{ch:List Addr}(I:Inv X pins σ H s)(k:∀ b o,b∉ch→s.heap.get? b=some o→h'.get? b=some o)
  (hf:∀ b∈ch,nH X pins H b):Inv X pins σ H { s with heap:=h',toks:=t' }:=by
 have Pr:∀ b u,H b=some u→b∉ch:=fun b u e z=>by rw[(hf b z).1]at e;cases e
 refine I.step (g':=s.gens) (d':=s.drawn) (ch:=ch) (fun b hb=>?_) (fun b o _ _ hc e _=>k b o hc e) (fun b o _ _ hc e _=>⟨o.slots,k b o hc e⟩) (fun _ _ _ _ n=>n)
  (fun b o hc e=>⟨o,k b o hc e⟩) (fun _ _ e=>e) (fun _ _ _ e=>e) (fun b ps e=>⟨#[],by rw[e];simp⟩) (fun m hm=>?_) (fun b u e=>?_) I.bare
 ·obtain⟨_,f1,_,f3,f4,f5⟩:=hf b hb
  exact⟨f3,f1,f4,f5⟩
 ·obtain⟨o,es,ep,ho,r⟩:=hm
  exact⟨o,es,ep,k _ o (fun z=>(hf _ z).2.1 rfl) ho,r⟩
 ·refine (I.hok b u e).stay (fun c v hc q=>k c v ?_ q) (fun _ q=>q) fun _ _ q=>q
  rcases hc with z|z
  ·rw[z];exact Pr b u e
  ·exact Pr c _ z
theorem adopt{X:Cx}{pins:List (Addr × Obj)}{σ:L2.St}{H:Hp}{s:Shared}{h':Heap}{t':Nat}{ch:List Addr}{p:Addr}{xs:List V}{us:List Value}(I:Inv X pins σ H s)(k:∀ b o,b∉ch→s.heap.get? b=some o→h'.get? b=some o)
  (hf:∀ b∈ch,nH X pins H b) (hp:s.heap.objs.size≤p) (hz:xs.length≤sizeLine) (rv:Vals xs us) (ht:IsTup h' p us.toArray):Inv X pins σ (upd H p (.tup xs)) { s with heap:=h',toks:=t' }:=by
 have hn:H p=none:=I.hok.fresh hp
 have Pr:∀ b u,H b=some u→b∉ch:=fun b u e z=>by rw[(hf b z).1]at e;cases e
 have nep:∀ b o,s.heap.get? b=some o→b≠p:=fun b o e z=>by subst z;exact absurd (rB (Heap.lt_size e) hp) (Nat.lt_irrefl _)
 refine I.step (g':=s.gens) (d':=s.drawn) (ch:=ch) (fun b hb=>?_) (fun b o _ _ hc e _=>k b o hc e) (fun b o _ _ hc e _=>⟨o.slots,k b o hc e⟩) (fun b o _ e n=>by rw[aF (nep b o e)];exact n)
  (fun b o hc e=>⟨o,k b o hc e⟩) (fun b ys e=>by rw[aF (au e hn)];exact e) (fun b _ _ e=>by rw[aF (au e hn)];exact e) (fun b ps e=>⟨#[],by rw[aF (au e hn),e];simp⟩) (fun m hm=>?_) (fun b u e=>?_) I.bare
 ·obtain⟨_,f1,_,f3,f4,f5⟩:=hf b hb
  exact⟨f3,f1,f4,f5⟩
 ·obtain⟨o,es,ep,ho,r⟩:=hm
  exact⟨o,es,ep,k _ o (fun z=>(hf _ z).2.1 rfl) ho,r⟩
 ·by_cases hb:b=p
  ·subst hb
   rw[af]at e
   cases e
   exact⟨hz,us,rv,ht⟩
  ·rw[aF hb]at e
   refine (I.hok b u e).stay (fun c v hc q=>k c v ?_ q) (fun c q=>by rw[aF (au q hn)];exact q) fun c ys q=>by rw[aF (au q hn)];exact q
   rcases hc with z|z
   ·rw[z];exact Pr b u e
   ·exact Pr c _ z
def GU(k:Bool)(h:Heap)(i a:Addr)(n:Nat):Prop:=match k with
 | true=>h.IsListIter i a n
 | false=>h.IsTupleIter i a n
def BF(k:Bool)(h:Heap)(a:Addr)(xs:Array Value):Prop:=match k with
 | true=>h.IsList a xs
 | false=>h.IsTuple a xs
theorem GU.at{k:Bool}{h h':Heap}{i a:Addr}{n:Nat}(x:GU k h i a n)(e:∀ o,h.get? i=some o→h'.get? i=some o):GU k h' i a n:=by
 cases k
 ·obtain⟨o,ho,r⟩:=x;exact⟨o,e o ho,r⟩
 ·obtain⟨o,ho,r⟩:=x;exact⟨o,e o ho,r⟩
theorem BF.at{k:Bool}{h h':Heap}{a:Addr}{xs:Array Value}(x:BF k h a xs)(e:∀ o,h.get? a=some o→h'.get? a=some o):BF k h' a xs:=by
 cases k
 ·obtain⟨o,ho,r⟩:=x;exact⟨o,e o ho,r⟩
 ·obtain⟨o,ho,r⟩:=x;exact⟨o,e o ho,r⟩
theorem GU.obj{k:Bool}{h:Heap}{i a:Addr}{n:Nat}(x:GU k h i a n):∃ o,h.get? i=some o∧∀ v,o.data≠.cell v:=by
 cases k
 ·obtain⟨o,ho,_,d⟩:=x;exact⟨o,ho,fun v z=>by rw[d]at z;cases z⟩
 ·obtain⟨o,ho,_,d⟩:=x;exact⟨o,ho,fun v z=>by rw[d]at z;cases z⟩
section
variable {prog:Program} {w:World} {A:Around} {E:Value→Shared→Prop} {s:Shared}
theorem HB{it t:Addr}{i:Nat}{items:Array Value}{x:Value}{Q:Value→Shared→Prop}(hit:s.heap.IsTupleIter it t i)(ht:s.heap.IsTuple t items)(hx:items[i]?=some x)
  (hQ:∀ h',h'.IsTupleIter it t (i+1)→Heap.SameBut it s.heap h'→Q x { s with heap:=h' }):wpAny (model prog w) A (Builtin.SmallTypes.nextOf (.ref it)) Q E s:=by
 obtain⟨o,ho,hc,hd⟩:=id hit
 obtain⟨ol,hol,_,nl,hdl⟩:=ht
 unfold Builtin.SmallTypes.nextOf
 refine wpAny_bind (wpAny_callSpecial?_slot (name:=Str.ofString "__next__") hit.typeIs F.slot_tuple_iterator_next (wpAny_call_entry F.slot_tuple_iterator_next hit.typeIs F.entry_tuple_iterator_next ?_ (F.args_tuple_iterator_next_1 _)))
 show wpAny _ _ (field (.ref it) 0 >>= _) _ _ s
 refine wpAny_bind (wpAny_field ho hd (x:=.ref t) rfl ?_)
 show wpAny _ _ (if (Value.ref t == Value.none)=true then _ else _) _ _ s
 rw[if_neg (show ¬ ((Value.ref t == Value.none)=true) from tP)]
 show wpAny _ _ (field (.ref it) 1 >>= _) _ _ s
 refine wpAny_bind (wpAny_field ho hd (x:=.int i 0) rfl ?_)
 show wpAny _ _ (seqItems? (.ref t) >>= _) _ _ s
 refine wpAny_bind (wpAny_seqItems hol hdl ?_)
 simp only[Int.toNat_natCast,hx]
 refine wpAny_bind (wpAny_setField ho hd (by simp) (wpAny_pure ⟨x,rfl,wpAny_pure (hQ _ ?_ (Heap.SameBut.update ..))⟩))
 refine⟨_,Heap.get?_update_self _ ho (Obj.isFreed_of_fields (Obj.data_mapFields hd _)),(Obj.cls_mapFields ..).trans hc,?_⟩
 rw[Obj.data_mapFields hd];simp[rawInt]
theorem Kl{it t:Addr}{i:Nat}{items:Array Value}{Q:Value→Shared→Prop}(hh:A.handled=none)(hit:s.heap.IsTupleIter it t i)(ht:s.heap.IsTuple t items)(hx:items[i]?=none)
  (hE:∀ h' e,Heap.ExtBut it s.heap h'→(∃ o,h'.get? e=some o∧o.cls=.type "StopIteration")→E (.ref e) { s with heap:=h' }):wpAny (model prog w) A (Builtin.SmallTypes.nextOf (.ref it)) Q E s:=by
 obtain⟨o,ho,hc,hd⟩:=id hit
 obtain⟨ol,hol,_,nl,hdl⟩:=ht
 unfold Builtin.SmallTypes.nextOf
 refine wpAny_bind (wpAny_callSpecial?_slot (name:=Str.ofString "__next__") hit.typeIs F.slot_tuple_iterator_next (wpAny_call_entry F.slot_tuple_iterator_next hit.typeIs F.entry_tuple_iterator_next ?_ (F.args_tuple_iterator_next_1 _)))
 show wpAny _ _ (field (.ref it) 0 >>= _) _ _ s
 refine wpAny_bind (wpAny_field ho hd (x:=.ref t) rfl ?_)
 show wpAny _ _ (if (Value.ref t == Value.none)=true then _ else _) _ _ s
 rw[if_neg (show ¬ ((Value.ref t == Value.none)=true) from tP)]
 show wpAny _ _ (field (.ref it) 1 >>= _) _ _ s
 refine wpAny_bind (wpAny_field ho hd (x:=.int i 0) rfl ?_)
 show wpAny _ _ (seqItems? (.ref t) >>= _) _ _ s
 refine wpAny_bind (wpAny_seqItems hol hdl ?_)
 simp only[Int.toNat_natCast,hx]
 refine wpAny_bind (wpAny_rule (wpAny_bind (wpAny_setField ho hd (by simp) ?_)))
 show wpAny _ _ (newExc (.type "StopIteration") [] >>= _) _ _ _
 refine wpAny_bind ?_
 simp only[newExc,newTuple]
 refine wpAny_bind (wpAny_newObj_type ?_ (by size_fits))
 refine wpAny_bind (m:=firstArgMember _ _) (wpAny_of_eq (a:=Value.none) (by first|rfl|(simp only[firstArgMember];rfl)) ?_)
 refine wpAny_newObj_type ?_ (by size_fits)
 simp only[raiseNew]
 refine wpAny_bind (wpAny_handled ?_)
 first|rw[show A.in1.handled=none from hh]|rw[hh]
 refine wpAny_bind (wpAny_pure (wpAny_throw ?_))
 exact hE _ _ (((Heap.SameBut.update ..).extBut.push _).push _) ⟨_,Heap.get?_push_size _ rfl,rfl⟩
theorem vp{k:Bool}{it t:Addr}{i:Nat}{items:Array Value}{x:Value}{Q:Value→Shared→Prop}(hit:GU k s.heap it t i)(ht:BF k s.heap t items)(hx:items[i]?=some x)
  (hQ:∀ h',GU k h' it t (i+1)→Heap.SameBut it s.heap h'→Q x { s with heap:=h' }):wpAny (model prog w) A (Builtin.SmallTypes.nextOf (.ref it)) Q E s:=by
 cases k
 ·exact HB hit ht hx hQ
 ·exact wpAny_nextOf_list_item hit ht hx hQ
theorem Cs{k:Bool}{it t:Addr}{i:Nat}{items:Array Value}{Q:Value→Shared→Prop}(hh:A.handled=none)(hit:GU k s.heap it t i)(ht:BF k s.heap t items)(hx:items[i]?=none)
  (hE:∀ h' e,Heap.ExtBut it s.heap h'→(∃ o,h'.get? e=some o∧o.cls=.type "StopIteration")→E (.ref e) { s with heap:=h' }):wpAny (model prog w) A (Builtin.SmallTypes.nextOf (.ref it)) Q E s:=by
 cases k
 ·exact Kl hh hit ht hx hE
 ·exact wpAny_nextOf_list_end hh hit ht hx hE
abbrev Ct(k:Bool)(l:Addr):Obj:={ cls:=.type (if k then "list_iterator" else "tuple_iterator"),data:=.fields #[.ref l,.int 0 0] }
theorem PU{k:Bool}{l:Addr}{xs:Array Value}{Q:Value→Shared→Prop}(h:BF k s.heap l xs)(hQ:Q (.ref s.heap.objs.size) { s with heap:=s.heap.push (Ct k l) }):wpAny (model prog w) A (pyIter (.ref l)) Q E s:=by
 cases k
 ·exact wpAny_pyIter_tuple h hQ
 ·exact wpAny_pyIter_list h hQ
structure Cu(k:Bool)(h:Heap)(z TI TO i1 i2 l1 l2:Addr)(n:Nat):Prop where
 z:IsZip h z TI TO .none
 ti:IsPair h TI (.ref i1) (.ref i2)
 to:∃ a b,IsPair h TO a b
 i1:GU k h i1 l1 n
 i2:GU k h i2 l2 n
theorem Km{k:Bool}{z TI TO i1 i2 l1 l2:Addr}{n:Nat}{xs ys:Array Value}{x y:Value}{Q:Value→Shared→Prop}(D:ZipApart z TI TO i1 i2 l1 l2)(st:Cu k s.heap z TI TO i1 i2 l1 l2 n)
  (hl1:BF k s.heap l1 xs) (hl2:BF k s.heap l2 ys) (hx:xs[n]?=some x) (hy:ys[n]?=some y)
  (hQ:∀ h',IsZip h' z TI TO (rawInt s.heap.objs.size)→IsPair h' TO x y→GU k h' i1 l1 (n+1)→GU k h' i2 l2 (n+1)→IsPair h' s.heap.objs.size x y →
   (∀ c o,c≠z→c≠TO→c≠i1→c≠i2→s.heap.get? c=some o→h'.get? c=some o)→Q (.ref s.heap.objs.size) { s with heap:=h' }) :
  wpAny (model prog w) A (Builtin.«zip.__next__» ⟨[.ref z],[]⟩) (fun fin s'=>∃ v,fin=.done (.ret v)∧Q v s') E s:=by
 obtain⟨hz,hTI,⟨a,b,hTO⟩,h1,h2⟩:=st
 show wpAny _ _ (field (.ref z) 2 >>= _) _ _ _
 refine wpAny_bind (wpAny_field hz rfl (x:=.bool false) rfl ?_)
 show wpAny _ _ (field (.ref z) 3 >>= _) _ _ _
 refine wpAny_bind (wpAny_field hz rfl (x:=.ref TI) rfl (wpAny_bind (wpAny_seqItems hTI rfl ?_)))
 show wpAny _ _ (Builtin.SmallTypes.ownedTupleIsFree (.ref z) >>= _) _ _ _
 refine wpAny_bind ?_
 unfold Builtin.SmallTypes.ownedTupleIsFree
 refine wpAny_bind (wpAny_field hz rfl (x:=.none) rfl (wpAny_pure ?_))
 simp only[if_true]
 refine wpAny_bind (wpAny_rule (wpAny_bind (wpAny_field hz rfl (x:=.ref TO) rfl (wpAny_bind (wpAny_setField_rec hz (by simp) fun g1 z1 c1=>?_)))))
 replace z1:IsZip g1 z TI TO .ellipsis:=z1
 refine wpAny_bind ?_
 simp only[List.zipIdx_cons,List.zipIdx_nil,List.forIn_cons,List.forIn_nil]
 refine wpAny_bind (wpAny_bind (wpAny_onRaise ?_))
 show wpAny _ _ (Builtin.SmallTypes.nextOf (.ref i1) >>= _) _ _ _
 refine wpAny_bind (vp (h1.at fun o e=>c1.extBut _ _ D.i1z e) (hl1.at fun o e=>c1.extBut _ _ D.l1z e) hx fun g2 h12 c2=>wpAny_pure ?_)
 have o2:IsPair g2 TO a b:=c2.extBut _ _ D.TOi1 (c1.extBut _ _ D.TOz hTO)
 refine wpAny_bind (wpAny_seqItems o2 rfl (wpAny_bind (wpAny_updateSeq_pair o2 fun g3 o3 c3=>?_)))
 replace o3:IsPair g3 TO x b:=o3
 refine wpAny_bind (wpAny_letGo (wpAny_pure (wpAny_bind (wpAny_bind (wpAny_onRaise ?_)))))
 show wpAny _ _ (Builtin.SmallTypes.nextOf (.ref i2) >>= _) _ _ _
 refine wpAny_bind (vp (((h2.at fun o e=>c1.extBut _ _ D.i2z e).at fun o e=>c2.extBut _ _ D.i12.symm e).at fun o e=>c3.extBut _ _ D.TOi2.symm e)
  (((hl2.at fun o e=>c1.extBut _ _ D.l2z e).at fun o e=>c2.extBut _ _ D.l2i1 e).at fun o e=>c3.extBut _ _ D.l2TO e) hy fun g4 h24 c4=>wpAny_pure ?_)
 have o4:IsPair g4 TO x b:=c4.extBut _ _ D.TOi2 o3
 refine wpAny_bind (wpAny_seqItems o4 rfl (wpAny_bind (wpAny_updateSeq_pair o4 fun g5 o5 c5=>?_)))
 replace o5:IsPair g5 TO x y:=o5
 refine wpAny_bind (wpAny_letGo (wpAny_pure (wpAny_pure (wpAny_bind (wpAny_seqItems o5 rfl (wpAny_bind (wpAny_newTuple ?_)))))))
 have sz:g5.objs.size=s.heap.objs.size:=by rw[c5.1,c4.1,c3.1,c2.1,c1.1]
 have z5:IsZip g5 z TI TO .ellipsis:=c5.extBut _ _ D.TOz.symm (c4.extBut _ _ D.i2z.symm (c3.extBut _ _ D.TOz.symm (c2.extBut _ _ D.i1z.symm z1)))
 have k5:∀ c o,c≠z→c≠TO→c≠i1→c≠i2→s.heap.get? c=some o→g5.get? c=some o:=fun c o n1 n2 n3 n4 e=>c5.extBut _ _ n2 (c4.extBut _ _ n4 (c3.extBut _ _ n2 (c2.extBut _ _ n3 (c1.extBut _ _ n1 e))))
 have h15:GU k g5 i1 l1 (n+1):=((h12.at fun o e=>c3.extBut _ _ D.TOi1.symm e).at fun o e=>c4.extBut _ _ D.i12 e).at fun o e=>c5.extBut _ _ D.TOi1.symm e
 have h25:GU k g5 i2 l2 (n+1):=h24.at fun o e=>c5.extBut _ _ D.TOi2.symm e
 have zlt:z<g5.objs.size:=Heap.lt_size z5
 show wpAny _ _ (Builtin.SmallTypes.ownedTupleHandOut (.ref z) (.ref g5.objs.size) >>= _) _ _ _
 refine wpAny_bind ?_
 unfold Builtin.SmallTypes.ownedTupleHandOut
 have z6:IsZip (g5.push { cls:=.type "tuple",data:=.seq #[x,y] }) z TI TO .ellipsis:=Heap.get?_push_of_some _ z5
 refine wpAny_bind (wpAny_setField_rec z6 (by simp) fun g7 z7 c7=>?_)
 replace z7:IsZip g7 z TI TO (rawInt g5.objs.size):=z7
 refine wpAny_setField_rec z7 (by simp) fun g8 z8 c8=>?_
 replace z8:IsZip g8 z TI TO (rawInt g5.objs.size):=z8
 have up:∀ c o,c≠z→g5.get? c=some o→g8.get? c=some o:=fun c o n1 e=>c8.extBut _ _ n1 (c7.extBut _ _ n1 (Heap.get?_push_of_some _ e))
 have t8:IsPair g8 g5.objs.size x y:=c8.extBut _ _ (Nat.ne_of_gt zlt) (c7.extBut _ _ (Nat.ne_of_gt zlt) (Heap.get?_push_size _ rfl))
 rw[sz]at z8 t8
 refine wpAny_pure ⟨_,rfl,?_⟩
 show Q (.ref g5.objs.size) _
 rw[sz]
 exact hQ g8 z8 (up _ _ D.TOz o5) (h15.at fun o e=>up _ o D.i1z e) (h25.at fun o e=>up _ o D.i2z e) t8 fun c o n1 n2 n3 n4 e=>up c o n1 (k5 c o n1 n2 n3 n4 e)
theorem Mi{k:Bool}{z TI TO i1 i2 l1 l2:Addr}{n:Nat}{xs ys:Array Value}{Q:Fin→Shared→Prop}(hh:A.handled=none)(D:ZipApart z TI TO i1 i2 l1 l2)(st:Cu k s.heap z TI TO i1 i2 l1 l2 n)
  (hl1:BF k s.heap l1 xs) (hl2:BF k s.heap l2 ys) (hend:xs[n]?=none∨ys[n]?=none)
  (hE:∀ h' e,(∀ c o,c≠z→c≠TO→c≠i1→c≠i2→s.heap.get? c=some o→h'.get? c=some o)→(∃ o,h'.get? e=some o∧o.cls=.type "StopIteration")→E (.ref e) { s with heap:=h' }) :
  wpAny (model prog w) A (Builtin.«zip.__next__» ⟨[.ref z],[]⟩) Q E s:=by
 obtain⟨hz,hTI,⟨a,b,hTO⟩,h1,h2⟩:=st
 show wpAny _ _ (field (.ref z) 2 >>= _) _ _ _
 refine wpAny_bind (wpAny_field hz rfl (x:=.bool false) rfl ?_)
 show wpAny _ _ (field (.ref z) 3 >>= _) _ _ _
 refine wpAny_bind (wpAny_field hz rfl (x:=.ref TI) rfl (wpAny_bind (wpAny_seqItems hTI rfl ?_)))
 show wpAny _ _ (Builtin.SmallTypes.ownedTupleIsFree (.ref z) >>= _) _ _ _
 refine wpAny_bind ?_
 unfold Builtin.SmallTypes.ownedTupleIsFree
 refine wpAny_bind (wpAny_field hz rfl (x:=.none) rfl (wpAny_pure ?_))
 simp only[if_true]
 refine wpAny_bind (wpAny_rule (wpAny_bind (wpAny_field hz rfl (x:=.ref TO) rfl (wpAny_bind (wpAny_setField_rec hz (by simp) fun g1 z1 c1=>?_)))))
 replace z1:IsZip g1 z TI TO .ellipsis:=z1
 refine wpAny_bind ?_
 simp only[List.zipIdx_cons,List.zipIdx_nil,List.forIn_cons,List.forIn_nil]
 refine wpAny_bind (wpAny_bind (wpAny_onRaise ?_))
 show wpAny _ _ (Builtin.SmallTypes.nextOf (.ref i1) >>= _) _ _ _
 cases hx:xs[n]? with
 | none =>
  refine wpAny_bind (Cs hh (h1.at fun o e=>c1.extBut _ _ D.i1z e) (hl1.at fun o e=>c1.extBut _ _ D.l1z e) hx fun g2 e c2 he=>?_)
  obtain⟨oe,Q8,hce⟩:=he
  have z2:IsZip g2 z TI TO .ellipsis:=c2 _ _ D.i1z.symm z1
  have hez:e≠z:=fun x=>by subst x;rw[z2]at Q8;cases Q8;simp at hce
  exact wpAny_setField_rec z2 (by simp) fun g3 _ c3=>hE g3 e (fun c o n1 _ n3 _ x=>c3.extBut _ _ n1 (c2 _ _ n3 (c1.extBut _ _ n1 x))) ⟨oe,c3.extBut _ _ hez Q8,hce⟩
 | some x =>
  have hy:ys[n]?=none:=by rcases hend with h|h;(rw[hx]at h;cases h);exact h
  refine wpAny_bind (vp (h1.at fun o e=>c1.extBut _ _ D.i1z e) (hl1.at fun o e=>c1.extBut _ _ D.l1z e) hx fun g2 h12 c2=>wpAny_pure ?_)
  have o2:IsPair g2 TO a b:=c2.extBut _ _ D.TOi1 (c1.extBut _ _ D.TOz hTO)
  refine wpAny_bind (wpAny_seqItems o2 rfl (wpAny_bind (wpAny_updateSeq_pair o2 fun g3 o3 c3=>?_)))
  refine wpAny_bind (wpAny_letGo (wpAny_pure (wpAny_bind (wpAny_bind (wpAny_onRaise ?_)))))
  show wpAny _ _ (Builtin.SmallTypes.nextOf (.ref i2) >>= _) _ _ _
  refine wpAny_bind (Cs hh (((h2.at fun o e=>c1.extBut _ _ D.i2z e).at fun o e=>c2.extBut _ _ D.i12.symm e).at fun o e=>c3.extBut _ _ D.TOi2.symm e)
   (((hl2.at fun o e=>c1.extBut _ _ D.l2z e).at fun o e=>c2.extBut _ _ D.l2i1 e).at fun o e=>c3.extBut _ _ D.l2TO e) hy fun g4 e c4 he=>?_)
  obtain⟨oe,Q8,hce⟩:=he
  have z4:IsZip g4 z TI TO .ellipsis:=c4 _ _ D.i2z.symm (c3.extBut _ _ D.TOz.symm (c2.extBut _ _ D.i1z.symm z1))
  have hez:e≠z:=fun x=>by subst x;rw[z4]at Q8;cases Q8;simp at hce
  exact wpAny_setField_rec z4 (by simp) fun g5 _ c5=>hE g5 e (fun c o n1 n2 n3 n4 x=>c5.extBut _ _ n1 (c4 _ _ n4 (c3.extBut _ _ n2 (c2.extBut _ _ n3 (c1.extBut _ _ n1 x))))) ⟨oe,c5.extBut _ _ hez Q8,hce⟩
theorem HC{k:Bool}{z TI TO i1 i2 l1 l2:Addr}{n:Nat}{xs ys:Array Value}{x y:Value}{Q:Option Value→Shared→Prop}(D:ZipApart z TI TO i1 i2 l1 l2)(st:Cu k s.heap z TI TO i1 i2 l1 l2 n)
  (hl1:BF k s.heap l1 xs) (hl2:BF k s.heap l2 ys) (hx:xs[n]?=some x) (hy:ys[n]?=some y)
  (hQ:∀ h',IsZip h' z TI TO (rawInt s.heap.objs.size)→IsPair h' TO x y→GU k h' i1 l1 (n+1)→GU k h' i2 l2 (n+1)→IsPair h' s.heap.objs.size x y →
   (∀ c o,c≠z→c≠TO→c≠i1→c≠i2→s.heap.get? c=some o→h'.get? c=some o)→Q (some (.ref s.heap.objs.size)) { s with heap:=h' }):wpAny (model prog w) A (pyNext (.ref z)) Q E s:=by
 have hT:s.TypeIs (.ref z) "zip":=⟨_,st.z,rfl⟩
 unfold pyNext
 exact wpAny_bind (wpAny_attempt (wpAny_callSpecial?_slot (name:=Str.ofString "__next__") hT F.slot_zip_next (wpAny_call_entry F.slot_zip_next hT F.entry_zip_next
  (Km D st hl1 hl2 hx hy fun h' a1 a2 a3 a4 a5 a7=>wpAny_pure (hQ h' a1 a2 a3 a4 a5 a7)) (F.args_zip_next_1 _))))
theorem Kn{k:Bool}{z TI TO i1 i2 l1 l2:Addr}{n:Nat}{xs ys:Array Value}{Q:Option Value→Shared→Prop}(hh:A.handled=none)(D:ZipApart z TI TO i1 i2 l1 l2)(st:Cu k s.heap z TI TO i1 i2 l1 l2 n)
  (hl1:BF k s.heap l1 xs) (hl2:BF k s.heap l2 ys) (hend:xs[n]?=none∨ys[n]?=none)
  (hQ:∀ h',(∀ c o,c≠z→c≠TO→c≠i1→c≠i2→s.heap.get? c=some o→h'.get? c=some o)→Q none { s with heap:=h' }):wpAny (model prog w) A (pyNext (.ref z)) Q E s:=by
 have hT:s.TypeIs (.ref z) "zip":=⟨_,st.z,rfl⟩
 unfold pyNext
 refine wpAny_bind (wpAny_attempt (wpAny_callSpecial?_slot (name:=Str.ofString "__next__") hT F.slot_zip_next (wpAny_call_entry F.slot_zip_next hT F.entry_zip_next
  (Mi hh D st hl1 hl2 hend fun h' e hk he=>?_) (F.args_zip_next_1 _))))
 obtain⟨o,ho,hc⟩:=he
 exact wpAny_bind (wpAny_isInstance (T:="StopIteration") (b:=true) ⟨o,ho,hc⟩ isSubtype_stop (wpAny_pure (hQ _ hk)))
end
abbrev WD(k:Bool)(h:Heap)(l1:Addr):Heap:=h.push (Ct k l1)
abbrev WE(k:Bool)(h:Heap)(l1 l2:Addr):Heap:=(WD k h l1).push (Ct k l2)
abbrev WG(k:Bool)(h:Heap)(l1 l2:Addr):Heap:=(WE k h l1 l2).push { cls:=.type "tuple",data:=.seq #[.ref h.objs.size,.ref (WD k h l1).objs.size] }
abbrev WH(k:Bool)(h:Heap)(l1 l2:Addr):Heap:=(WG k h l1 l2).push { cls:=.type "tuple",data:=.seq #[.none,.none] }
abbrev SV(k:Bool)(h:Heap)(l1 l2:Addr):Heap:=(WH k h l1 l2).push { cls:=.type "zip",data:=.fields #[.none,.bool false,.bool false,.ref (WE k h l1 l2).objs.size,.ref (WG k h l1 l2).objs.size] }
theorem HD(k:Bool)(l1 l2:Addr)(xs ys:Array Value) :
  Meets (Builtin.«zip.__new__» ⟨[.type "zip",.ref l1,.ref l2],[]⟩) (fun _ R s=>BF k s.heap l1 xs∧BF k s.heap l2 ys∧R (.ok (.ret (.ref (WH k s.heap l1 l2).objs.size))) { s with heap:=SV k s.heap l1 l2 }) :=
 .of_wp fun prog w A R s h=>by
  obtain⟨hp,g,d,tk,os⟩:=s;obtain⟨hl1,hl2,h⟩:=h
  have hsub:=sub_zip
  have hL1:BF k (Shared.heap ⟨hp,g,d,tk,os⟩) l1 xs:=hl1
  have WI:BF k (Shared.heap ⟨hp.push (Ct k l1),g,d,tk,os⟩) l2 ys:=hl2.at fun o e=>Heap.get?_push_of_some _ e
  wp_walk using PU hL1,PU WI
  exact⟨_,rfl,h⟩
section
variable {prog:Program} {w:World} {A:Around} {E:Value→Shared→Prop} {s:Shared}
theorem Ko{k:Bool}{l1 l2:Addr}{xs ys:Array Value}{Q:Value→Shared→Prop}(hl1:BF k s.heap l1 xs)(hl2:BF k s.heap l2 ys)
  (h:∀ h',Cu k h' (s.heap.objs.size+4) (s.heap.objs.size+2) (s.heap.objs.size+3) s.heap.objs.size (s.heap.objs.size+1) l1 l2 0→(∀ c o,s.heap.get? c=some o→h'.get? c=some o)→Q (.ref (s.heap.objs.size+4)) { s with heap:=h' }) :
  wpAny (model prog w) A (call (.type "zip") [.ref l1,.ref l2]) Q E s:=by
 refine callType_new F.called_zip (by decide) (F.typeCall_zip_2 _ _) (F.newCall_zip_2 _ _) (fun obj=>F.args_object_init_3 obj _ _) F.entry_zip_new (HD k l1 l2 xs ys) ⟨hl1,hl2,?_⟩
 have z1:(WD k s.heap l1).objs.size=s.heap.objs.size+1:=Heap.size_push ..
 have z2:(WE k s.heap l1 l2).objs.size=s.heap.objs.size+2:=by rw[Heap.size_push,z1]
 have z3:(WG k s.heap l1 l2).objs.size=s.heap.objs.size+3:=by rw[Heap.size_push,z2]
 have z4:(WH k s.heap l1 l2).objs.size=s.heap.objs.size+4:=by rw[Heap.size_push,z3]
 have g5:(SV k s.heap l1 l2).get? (WH k s.heap l1 l2).objs.size=some _:=Heap.get?_push_size _ rfl
 have g4:(SV k s.heap l1 l2).get? (WG k s.heap l1 l2).objs.size=some _:=Heap.get?_push_of_some _ (Heap.get?_push_size _ rfl)
 have g3:(SV k s.heap l1 l2).get? (WE k s.heap l1 l2).objs.size=some _:=Heap.get?_push_of_some _ (Heap.get?_push_of_some _ (Heap.get?_push_size _ rfl))
 have g2:(SV k s.heap l1 l2).get? (WD k s.heap l1).objs.size=some (Ct k l2):=Heap.get?_push_of_some _ (Heap.get?_push_of_some _ (Heap.get?_push_of_some _ (Heap.get?_push_size _ rfl)))
 have g1:(SV k s.heap l1 l2).get? s.heap.objs.size=some (Ct k l1):=Heap.get?_push_of_some _ (Heap.get?_push_of_some _ (Heap.get?_push_of_some _ (Heap.get?_push_of_some _ (Heap.get?_push_size _ rfl))))
 show _∧_
 rw[z2,z3,z4]at g5
 rw[z1,z2]at g3
 rw[z3]at g4
 rw[z1]at g2
 rw[z4]
 refine⟨⟨_,g5,rfl⟩,h _ ⟨g5,g3,⟨_,_,g4⟩,?_,?_⟩ fun c o x=>Heap.get?_push_of_some _ (Heap.get?_push_of_some _ (Heap.get?_push_of_some _ (Heap.get?_push_of_some _ (Heap.get?_push_of_some _ x))))⟩
 ·cases k
  ·exact⟨_,g1,rfl,rfl⟩
  ·exact⟨_,g1,rfl,rfl⟩
 ·cases k
  ·exact⟨_,g2,rfl,rfl⟩
  ·exact⟨_,g2,rfl,rfl⟩
end
def Ja(K:PySem.W.Frag)(k:Bool)(H:Hp)(a:Addr)(xs:List V):Prop:=match k with
 | true=>bN K H a xs
 | false=>jW K H a xs
theorem xG{X:Cx}{pins:List (Addr × Obj)}{σ:L2.St}{H:Hp}{s:Shared}{k:Bool}{a:Addr}{xs:List V}(I:Inv X pins σ H s)(h:Ja X.K k H a xs):∃ its:List Value,Vals xs its∧BF k s.heap a its.toArray∧xs.length≤sizeLine:=by
 cases k
 ·obtain⟨its,r,p,z⟩:=I.tuple h
  exact⟨its,r,p,z⟩
 ·obtain⟨its,r,p,z⟩:=I.list h
  exact⟨its,r,p.isList,z⟩
theorem Jb{X:Cx}{pins:List (Addr × Obj)}{σ:L2.St}{H:Hp}{s:Shared}{k:Bool}{a:Addr}{xs ys:List V}(I:Inv X pins σ H s)(h:Ja X.K k H a xs)(h':Ja X.K k H a ys):xs=ys:=by
 cases k
 ·exact I.Cd h h'
 ·exact I.E5 h h'
theorem Mj{k:Bool}{h:Heap}{a:Addr}{xs:Array Value}(x:BF k h a xs):a<h.objs.size:=by
 cases k
 ·obtain⟨o,ho,_⟩:=x;exact Heap.lt_size ho
 ·obtain⟨o,ho,_⟩:=x;exact Heap.lt_size ho
def Uo(K:PySem.W.Frag)(k:Bool)(a1 a2:Addr):It :=
 ⟨fun i H=>∃ xs ys x y,Ja K k H a1 xs∧Ja K k H a2 ys∧xs[i]?=some x∧ys[i]?=some y,fun i H v H'=>∃ p x y,H p=none∧v=.ref p∧H'=upd H p (.tup [x,y])∧(∀ xs,Ja K k H a1 xs→xs[i]?=some x)∧∀ ys,Ja K k H a2 ys→ys[i]?=some y,fun i H=>∃ xs ys,Ja K k H a1 xs∧Ja K k H a2 ys∧(xs.length≤i∨ys.length≤i)⟩
theorem Ml{P:Program}{w:World}{K:PySem.W.Frag}{elts:List Expr}{x1:Nat}{tpos:Pos}{k:Bool}{z TI TO i1 i2 l1 l2:Addr}(D:ZipApart z TI TO i1 i2 l1 l2) :
  Turn P w K (.Tuple elts x1 tpos) (Uo K k l1 l2) [z,TI,TO,i1,i2] z (fun i h=>Cu k h z TI TO i1 i2 l1 l2 i) where
 mem:=by simp
 obj:=fun i h st b hb=>by
  obtain⟨hz,hTI,⟨a,c,hTO⟩,h1,h2⟩:=st
  simp only[List.mem_cons,List.not_mem_nil,or_false]at hb
  rcases hb with rfl|rfl|rfl|rfl|rfl
  ·exact⟨_,hz,fun v e=>by cases e⟩
  ·exact⟨_,hTI,fun v e=>by cases e⟩
  ·exact⟨_,hTO,fun v e=>by cases e⟩
  ·exact h1.obj
  ·exact h2.obj
 keep:=fun i h h' st kk=>by
  obtain⟨hz,hTI,⟨a,c,hTO⟩,h1,h2⟩:=st
  exact⟨kk z (by simp) _ hz,kk TI (by simp) _ hTI,⟨a,c,kk TO (by simp) _ hTO⟩,h1.at fun o e=>kk i1 (by simp) o e,h2.at fun o e=>kk i2 (by simp) o e⟩
 item:=by
  intro X hP hw hK hc i pins s σ H E I hf st hg
  subst hP hw hK
  obtain⟨xs,ys,x,y,q1,q2,e1,e2⟩:=hg
  obtain⟨us,r1,p1,_⟩:=xG I q1
  obtain⟨vs,r2,p2,_⟩:=xG I q2
  obtain⟨u,eu,ru⟩:=r1.get e1
  obtain⟨v,ev,rv⟩:=r2.get e2
  refine HC (x:=u) (y:=v) D st p1 p2 (by simpa using eu) (by simpa using ev) fun h' g1 g2 g3 g4 g5 g7=>?_
  refine⟨_,rfl,wpAny_letOwnedTupleGo_zip g1 fun h2 hz2 c2=>?_⟩
  have ne:∀ {b o},s.heap.get? b=some o→s.heap.objs.size≠b:=fun e=>Nat.ne_of_gt (Heap.lt_size e)
  have k2:∀ b o,b∉[z,TI,TO,i1,i2]→s.heap.get? b=some o→h2.get? b=some o:=fun b o hb e=>by
   simp only[List.mem_cons,List.not_mem_nil,or_false,not_or]at hb
   exact c2.extBut _ _ hb.1 (g7 b o hb.1 hb.2.2.1 hb.2.2.2.1 hb.2.2.2.2 e)
  have I2:Inv X pins σ (upd H s.heap.objs.size (.tup [x,y])) { s with heap:=h2,toks:=s.toks } :=
   adopt I k2 hf (gQ _) (by show 2≤sizeLine;decide) (.cons ru (.cons rv .nil)) ⟨_,c2.extBut _ _ (ne st.z) g5,rfl,_,rfl⟩
  refine⟨.ref s.heap.objs.size,_,I2,rfl,⟨_,x,y,I.hok.fresh (gQ _),rfl,rfl,fun xs' q=>?_,fun ys' q=>?_⟩,?_,fun b hb=>?_⟩
  ·rw[Jb I q q1];exact e1
  ·rw[Jb I q q2];exact e2
  ·exact⟨hz2,c2.extBut _ _ D.TIz (g7 _ _ D.TIz D.TITO D.TIi1 D.TIi2 st.ti),⟨u,v,c2.extBut _ _ D.TOz g2⟩,g3.at fun o e=>c2.extBut _ _ D.i1z e,g4.at fun o e=>c2.extBut _ _ D.i2z e⟩
  ·have hlt:∃ o,s.heap.get? b=some o:=by
    obtain⟨hz,hTI,⟨a,c,hTO⟩,h1,h2⟩:=st
    simp only[List.mem_cons,List.not_mem_nil,or_false]at hb
    rcases hb with rfl|rfl|rfl|rfl|rfl
    ·exact⟨_,hz⟩
    ·exact⟨_,hTI⟩
    ·exact⟨_,hTO⟩
    ·exact h1.obj.imp fun _ e=>e.1
    ·exact h2.obj.imp fun _ e=>e.1
   obtain⟨o,e⟩:=hlt
   rw[aF (ne e).symm]
   exact (hf b hb).1
 done:=by
  intro X hP hw hK hc i pins s σ H E I hf st hg
  subst hP hw hK
  obtain⟨xs,ys,q1,q2,e⟩:=hg
  obtain⟨us,r1,p1,_⟩:=xG I q1
  obtain⟨vs,r2,p2,_⟩:=xG I q2
  have l1:=r1.length
  have l2:=r2.length
  refine Kn (I.ok.hd hc) D st p1 p2 (e.imp (fun e=>by simp;omega) (fun e=>by simp;omega)) fun h' kk=>⟨rfl,Oc (t':=s.toks) (ch:=[z,TI,TO,i1,i2]) I (fun b o hb e=>?_) hf⟩
  simp only[List.mem_cons,List.not_mem_nil,or_false,not_or]at hb
  exact kk b o hb.1 hb.2.2.1 hb.2.2.2.1 hb.2.2.2.2 e
 self:=fun _ _ _ _ _ st h=>wpAny_pyIter_zip st.z h
def adX(K:PySem.W.Frag)(ta:TA):TI:=fun σ H R=>ta σ H fun vs H1=>∃ k a1 a2 xs ys,vs=[.ref a1,.ref a2]∧Ja K k H1 a1 xs∧Ja K k H1 a2 ys∧R (Uo K k a1 a2) H1
theorem Q9{X:Cx}{elts:List Expr}{x1:Nat}{tpos:Pos}{a b:Expr}{ta:TA}{p pos:Pos}(hg:Gl X "zip")(hm:X.mg "zip"=none)(ha:PA X [a,b] ta)
  (hs:starEach [a,b] X.env=[(false,eval a X.env),(false,eval b X.env)]:=by rfl) (hs2:starEach [b] X.env=[(false,eval b X.env)]:=by rfl):PI X (.Tuple elts x1 tpos) (.Call (.Name "zip" p) [a,b] [] pos) (adX X.K ta):=by
 intro pins s σ H R I h
 refine Call_ (xu I hg hm boot_zip (PyProof.Rows.callWith_type1 (cu (ha pos pins s σ H _ I h) fun us s1 ⟨vs,H1,I1,r1,q1⟩=>?_) (by rw[hs,hs2]) (by rw[hs2];rfl)))
 obtain⟨k,a1,a2,xs,ys,e,q1,q2,q⟩:=q1
 subst e
 obtain⟨u1,u2,rfl,e1,e2⟩:=r1.two
 cases (show u1=Value.ref a1 from e1)
 cases (show u2=Value.ref a2 from e2)
 obtain⟨us,rr1,p1,_⟩:=xG I1 q1
 obtain⟨ws,rr2,p2,_⟩:=xG I1 q2
 have b1:=Mj p1
 have b2:=Mj p2
 refine Ko p1 p2 fun h' st kk=>wpAny_pyIter_zip st.z ?_
 have I2:Inv X pins σ H1 { s1 with heap:=h',toks:=s1.toks }:=I1.kept kk
 refine⟨_,_,_,_,H1,rfl,I2,Ml (zipApart_new b1 b2),st,fun b hb=>?_,q⟩
 have hb':s1.heap.objs.size≤b:=by
  simp only[List.mem_cons,List.not_mem_nil,or_false]at hb
  rcases hb with rfl|rfl|rfl|rfl|rfl
  ·exact Nat.le_add_right _ _
  ·exact Nat.le_add_right _ _
  ·exact Nat.le_add_right _ _
  ·exact gQ _
  ·exact Nat.le_add_right _ _
 exact I1.J4 hb' (I1.hok.fresh hb')
theorem Od{K:PySem.W.Frag}{k:Bool}{a1 a2:Addr}{xs ys:List V}{g:TG}{tb:TS}{D:Ends}{σ:L2.St}{H:Hp}(Pv:Nat→L2.St→Hp→Prop)(hn:xs.length=ys.length)(h0:Pv 0 σ H)
  (hl:∀ i σ H,i≤xs.length→Pv i σ H→Ja K k H a1 xs∧Ja K k H a2 ys)
  (hs:∀ i x y p σ H,xs[i]?=some x→ys[i]?=some y→H p=none→Pv i σ H→g (.ref p) σ (upd H p (.tup [x,y])) fun σ2 H2=>tb { D with nx:=Pv (i+1),ct:=Pv (i+1),bk:=D.nx } σ2 H2) (hd:∀ σ H,Pv xs.length σ H→D.nx σ H) :
  ∃ W:Nat→Nat→L2.St→Hp→Prop,(∃ m,W 0 m σ H)∧∀ i m σ H,W i m σ H →
   ((Uo K k a1 a2).stop i H∧D.nx σ H)∨((Uo K k a1 a2).go i H∧∃ N:L2.St→Hp→Prop,(∀ σ' H',N σ' H'→∃ m',m'<m∧W (i+1) m' σ' H')∧∀ x H',(Uo K k a1 a2).J3 i H x H'→g x σ H' fun σ2 H2=>tb { D with nx:=N,ct:=N,bk:=D.nx } σ2 H2):=by
 refine⟨fun i m σ H=>m=xs.length-i∧i≤xs.length∧Pv i σ H,⟨xs.length,by simp,lI _,h0⟩,?_⟩
 rintro i m σ H ⟨rfl,hi,p⟩
 obtain⟨q1,q2⟩:=hl i σ H hi p
 by_cases hlt:i<xs.length
 ·have adY:i<ys.length:=by omega
  refine .inr ⟨⟨xs,ys,xs[i],ys[i],q1,q2,by simp[hlt],by simp[adY]⟩,Pv (i+1),fun σ' H' p'=>⟨xs.length-(i+1),by omega,rfl,hlt,p'⟩,fun x H' y=>?_⟩
  obtain⟨a,x',y',hn',rfl,rfl,e1,e2⟩:=y
  exact hs i x' y' a σ _ (e1 xs q1) (e2 ys q2) hn' p
 ·have e:i=xs.length:=by omega
  subst e
  exact .inl ⟨⟨xs,ys,q1,q2,.inl (gQ _)⟩,hd σ H p⟩
def Cv(lo:Int)(n:Nat):List V:=(List.range n).map fun i:Nat=>V.int (lo+i)
section
variable {X:Cx}
theorem Fl:nO X (.type "range") (fun xs H Q=>∃ i j:Int,xs=[.int i,.int j]∧∀ p,H p=none→Q (.ref p) (upd H p (.EO i j))):=by
 intro pins s σ H xs us Q I r h
 obtain⟨i,j,rfl,q⟩:=h
 obtain⟨u1,u2,rfl,⟨t,rfl⟩,⟨t',rfl⟩⟩:=r.two
 refine call_range_2 ⟨.ref s.heap.objs.size,_,I.laid (o:=.EO i j) (fun b o e=>Heap.get?_push_of_some _ e) (gQ _) ⟨t,t',s.toks,Heap.get?_push_size _ rfl⟩,rfl,q _ (I.hok.fresh (gQ _))⟩
theorem uV(hc:X.calm=true):nO X (.type "list") (fun xs H Q=>∃ p i j,xs=[.ref p]∧H p=some (.EO i j)∧(-(2^62)≤i∧i<2^62∧-(2^62)≤j∧j<2^62)∧(j-i).toNat≤sizeLine ∧
  ∀ l,H l=none→Q (.ref l) (upd H l (.lst (Cv i (j-i).toNat)))):=by
 intro pins s σ H xs us Q I r h
 obtain⟨p,i,j,rfl,hp,⟨b1,b2,b3,b4⟩,hz,q⟩:=h
 obtain⟨u,rfl,rx⟩:=r.one
 cases (show u=Value.ref p from rx)
 obtain⟨t,u,v,e⟩:=(show gS X.prog X.w H s.heap p (.EO i j) from I.hok p _ hp)
 have e2:Builtin.Range.rangeSize i j 1=(((j-i).toNat:Nat):Int):=by rw[rangeSize_one];split <;> omega
 have hz':(j-i).toNat≤2^24:=by have:=sizeLine_eq;omega
 refine call_list_range (I.ok.hd hc) e (small_one b1 b2 b3 b4) e2 hz' fun h' tk acc' c' hk hS hacc=>?_
 refine⟨.ref s.heap.objs.size,_,I.laid (o:=.lst (Cv i (j-i).toNat)) (t':=tk) hk (gQ _) ⟨?_,acc'.toList,c',?_,by simpa using hS⟩,rfl,q _ (I.hok.fresh (gQ _))⟩
 ·unfold Cv;simpa using hz
 ·have hl:acc'.toList.length=(j-i).toNat:=by simpa using hacc.1
  have key:∀ (n:Nat) (us:List Value) (lo:Int),us.length=n→(∀ k v,us[k]?=some v→∃ t,v=Value.int (lo+(k:Nat)*1) t)→Vals ((List.range n).map fun i:Nat=>V.int (lo+i)) us:=by
   intro n
   induction n with
   | zero=>intro us lo hl _;cases us with
    | nil=>exact .nil
    | cons=>simp at hl
   | succ n ih =>
    intro us lo hl hv
    cases us with
    | nil=>simp at hl
    | cons u us =>
     rw[List.range_succ_eq_map,mz,List.map_map]
     refine .cons ?_ ?_
     ·obtain⟨t,e⟩:=hv 0 u rfl
      exact⟨t,by rw[e];simp⟩
     ·have:=ih us (lo+1) (by simpa using hl) fun k v e=>by
       obtain⟨t,e'⟩:=hv (k+1) v (by simpa using e)
       refine⟨t,?_⟩
       rw[e']
       have:lo+((k+1:Nat):Int)*1=lo+1+(k:Int)*1:=by omega
       rw[this]
      have e3:((fun i:Nat=>V.int (lo+i)) ∘ Nat.succ)=fun i:Nat=>V.int (lo+1+i):=by
       funext i
       simp only[Function.comp,Nat.succ_eq_add_one]
       have:lo+((i+1:Nat):Int)=lo+1+(i:Int):=by omega
       rw[this]
      rw[e3]
      exact this
  exact key _ _ i hl fun k v e=>hacc.2 k v (by simpa using e)
end
section
variable {X:Cx}
theorem Mm{j:Int}(h0:0<j)(h1:j<10^70):j.natAbs.log2<9000:=by
 have h:j.natAbs<2^9000:=Nat.lt_trans (show j.natAbs<10^70 by omega) (by decide +kernel)
 exact (Nat.log2_lt (by omega)).mpr h
theorem Al:v7 X (binaryOp .FloorDiv) (rI (fun _ j=>0<j∧j<10^70) fun i j=>.int (i / j)):=Wz fun i j _ _ _ _ _ hc q=>by
 have h1:(0:Int)<j:=hc.1
 exact floordiv_int (by omega) (by rw[Int.fdiv_eq_ediv_of_nonneg i (by omega)];exact q) (.inl (PyProof.noPylong_of_log2 (Mm hc.1 hc.2)))
theorem Fo(hc:X.calm=true):nO X (.builtin "sum") (fun xs H Q=>∃ (p:Addr) (ns:List Int),xs=[.ref p]∧bN X.K H p (ns.map V.int)∧Q (.int ns.sum) H):=by
 intro pins s σ H xs us Q I r h
 obtain⟨p,ns,rfl,hq,q⟩:=h
 obtain⟨u,rfl,rx⟩:=r.one
 cases (show u=Value.ref p from rx)
 obtain⟨its,rv,pl,hz⟩:=I.list hq
 have hi:IntsAre its ns:=intsAre_of rv
 have hall:AllInts its.toArray:=hi.allInts
 obtain⟨zs,ez⟩:=hall.items
 have hl:=pl.isList
 have es:(numsOf its.toArray.toList).sum=ns.sum:=by rw[show its.toArray.toList=its from rfl,hi.numsOf]
 rw[ez]at hl es
 rw[nums_intItems]at es
 refine PySem.sum_intListG (I.ok.hd hc) hl fun h' tk t' hk=>⟨.int ns.sum,H,I.kept hk,⟨t',?_⟩,q⟩
 rw[preSum_eq,vj (by simp),es]
end
end dD
namespace jm
abbrev Row:=List (Int × Int)
def grow(t:Row)(s e:Int):Row :=
 match t.getLast? with
 | some p=>if p.2=s then t.dropLast++[(p.1,e)] else t++[(s,e)]
 | none=>t++[(s,e)]
def dP(t:Row)(p:Int × Int):Row:=if p.1=p.2 then t else grow t p.1 p.2
def bW(r:Row):Row:=r.foldl dP []
def run(s:Int):Nat→List Int
 | 0=>[]
 | n+1=>s::run (s+1) n
def span(p:Int × Int):List Int:=run p.1 (p.2-p.1).toNat
def aS(r:Row):List Int:=r.flatMap span
def rowOf(ns:List Int):Row:=ns.foldl (fun t n=>grow t n (n+1)) []
theorem gj(s:Int)(n:Nat):(run s n).length=n:=by
 induction n generalizing s with
 | zero=>rfl
 | succ n ih=>simp[run,ih]
theorem qI(s e:Int):grow [] s e=[(s,e)]:=rfl
theorem qJ(t:Row){q:Int × Int}{s:Int}{e:Int}(h:q.2=s):grow (t++[q]) s e=t++[(q.1,e)]:=by
 simp[grow,h]
theorem qK(t:Row){q:Int × Int}{s:Int}{e:Int}(h:¬ q.2=s):grow (t++[q]) s e=t++[q]++[(s,e)]:=by
 simp[grow,h]
theorem Kp(t:Row)(a s e:Int):grow (t++[(a,s)]) s e=t++[(a,e)]:=by
 simp[grow]
theorem Am(t:Row)(a s:Int)(n:Nat):(run s n).foldl (fun t n=>grow t n (n+1)) (t++[(a,s)])=t++[(a,s+n)]:=by
 induction n generalizing s with
 | zero=>simp[run]
 | succ n ih =>
  rw[run,qt,Kp,ih]
  have:s+1+(n:Int)=s+((n+1:Nat):Int):=by omega
  rw[this]
theorem Mn(t:Row)(p:Int × Int)(h:p.1≤p.2):dP t p=(span p).foldl (fun t n=>grow t n (n+1)) t:=by
 obtain⟨s,e⟩:=p
 simp only at h
 unfold dP span
 by_cases he:s=e
 ·subst he;simp[run]
 ·obtain⟨n,hn⟩:∃ n:Nat,e=s+1+n:=⟨(e-s-1).toNat,by omega⟩
  subst hn
  rw[if_neg he]
  have h2:((s,s+1+(n:Int)).2-(s,s+1+(n:Int)).1).toNat=n+1:=by simp only;omega
  rw[h2,run,qt]
  simp only
  rcases vn t with rfl|⟨u,q,rfl⟩
  ·rw[qI,qI]
   exact (Am [] s (s+1) n).symm
  ·by_cases hq:q.2=s
   ·rw[sC,qJ u hq,qJ u hq,Am]
   ·rw[sC,qK u hq,qK u hq,Am]
theorem oZ{α β γ:Type}(f:γ→β→γ)(g:α→List β):∀ (l:List α) (c:γ),(l.flatMap g).foldl f c=l.foldl (fun c a=>(g a).foldl f c) c
 | [],_=>rfl
 | a::l,c=>by rw[mq,List.foldl_append,qt,oZ f g l]
theorem Fp(r:Row)(h:∀ p∈r,p.1≤p.2):bW r=rowOf (aS r):=by
 unfold bW rowOf aS
 rw[oZ]
 have key:∀ (r:Row),(∀ p∈r,p.1≤p.2)→∀ t:Row,r.foldl dP t=r.foldl (fun c a=>(span a).foldl (fun t n=>grow t n (n+1)) c) t:=by
  intro r
  induction r with
  | nil=>intro _ t;rfl
  | cons p r ih =>
   intro h t
   rw[qt,qt,Mn t p (h p (sD ..))]
   exact ih (fun q hq=>h q (sJ _ hq)) _
 exact key r h []
theorem yH(t:Row)(s e:Int):(grow t s e).length≤t.length+1:=by
 rcases vn t with rfl|⟨u,q,rfl⟩
 ·rw[qI];simp
 ·by_cases hq:q.2=s
  ·rw[sC,qJ u hq];simp
  ·rw[sC,qK u hq];simp
theorem foldl_take_succ{α β:Type}(f:β→α→β)(l:List α)(b:β)(i:Nat)(x:α)(h:l[i]?=some x):(l.take (i+1)).foldl f b=f ((l.take i).foldl f b) x:=by
 rw[List.take_add_one,h,List.foldl_append]
 rfl
end jm
namespace jm
def tot(r:Row):Int:=(r.map fun p=>p.2-p.1).sum
theorem Oe:tot []=0:=rfl
theorem Fq(p:Int × Int)(r:Row):tot (p::r)=(p.2-p.1)+tot r:=by simp[tot]
theorem Mp(r:Row)(p:Int × Int):tot (r++[p])=tot r+(p.2-p.1):=by simp[tot]
theorem An(r q:Row):tot (r++q)=tot r+tot q:=by simp[tot]
theorem take_snoc{α:Type}{l:List α}{i:Nat}{x:α}(h:l[i]?=some x):l.take (i+1)=l.take i++[x]:=by rw[List.take_add_one,h];rfl
end jm
namespace jm
theorem wA(s:Int)(n:Nat):run s (n+1)=run s n++[s+n]:=by
 induction n generalizing s with
 | zero=>simp[run]
 | succ n ih =>
  rw[run,ih,run]
  have:s+1+(n:Int)=s+((n+1:Nat):Int):=by omega
  rw[this];rfl
theorem Cw{a n:Int}(h:a≤n):span (a,n+1)=span (a,n)++[n]:=by
 unfold span
 have e:((a,n+1).2-(a,n+1).1).toNat=((a,n).2-(a,n).1).toNat+1:=by simp only;omega
 rw[e,wA]
 have:a+((((a,n).2-(a,n).1).toNat:Nat):Int)=n:=by simp only;omega
 simp only at this ⊢
 rw[this]
theorem Ft(n:Int):span (n,n+1)=[n]:=by
 have:=Cw (a:=n) (n:=n) (Int.le_refl _)
 rw[this]
 have e:span (n,n)=[]:=by unfold span;simp[run]
 rw[e];rfl
theorem cI(r q:Row):aS (r++q)=aS r++aS q:=by unfold aS;rw[List.flatMap_append]
theorem iL(p:Int × Int):aS [p]=span p:=by simp[aS]
theorem HE(t:Row)(n:Int)(h:∀ p∈t,p.1≤p.2):aS (grow t n (n+1))=aS t++[n]:=by
 rcases vn t with rfl|⟨u,q,rfl⟩
 ·rw[qI,iL,Ft];rfl
 ·rw[sC]at h ⊢
  by_cases hq:q.2=n
  ·obtain⟨a,b⟩:=q
   simp only at hq
   subst hq
   have hb:a≤b:=h (a,b) (by simp)
   rw[qJ u rfl,cI,cI,iL,iL,Cw hb,qD]
  ·rw[qK u hq,cI,iL,Ft]
theorem Jc(t:Row)(n:Int)(h:∀ p∈t,p.1≤p.2):∀ p∈grow t n (n+1),p.1≤p.2:=by
 rcases vn t with rfl|⟨u,q,rfl⟩
 ·rw[qI];intro p hp;simp at hp;subst hp;show n≤n+1;omega
 ·rw[sC]at h ⊢
  by_cases hq:q.2=n
  ·rw[qJ u hq]
   intro p hp
   rcases List.mem_append.mp hp with z|z
   ·exact h p (List.mem_append_left _ z)
   ·simp at z;subst z
    have:=h q (by simp)
    show q.1≤n+1
    omega
  ·rw[qK u hq]
   intro p hp
   rcases List.mem_append.mp hp with z|z
   ·exact h p z
   ·simp at z;subst z;show n≤n+1;omega
theorem ff(ns:List Int):aS (rowOf ns)=ns:=by
 have key:∀ (ns:List Int) (t:Row),(∀ p∈t,p.1≤p.2)→aS (ns.foldl (fun t n=>grow t n (n+1)) t)=aS t++ns:=by
  intro ns
  induction ns with
  | nil=>intro t _;simp
  | cons n ns ih =>
   intro t h
   rw[qt,ih _ (Jc t n h),HE t n h,qD];rfl
 have:=key ns [] (fun p hp=>by cases hp)
 simpa [rowOf,aS] using this
theorem qL(ns:List Int):∀ p∈rowOf ns,p.1≤p.2:=by
 have key:∀ (ns:List Int) (t:Row),(∀ p∈t,p.1≤p.2)→∀ p∈ns.foldl (fun t n=>grow t n (n+1)) t,p.1≤p.2:=by
  intro ns
  induction ns with
  | nil=>intro t h;exact h
  | cons n ns ih=>intro t h;exact ih _ (Jc t n h)
 exact key ns [] (fun p hp=>by cases hp)
end jm
namespace jm
theorem yI(p:Int × Int)(h:p.1≤p.2):((span p).length:Int)=p.2-p.1:=by
 unfold span;rw[gj];omega
theorem tU:∀ (r:Row),(∀ p∈r,p.1≤p.2)→((aS r).length:Int)=tot r
 | [],_=>rfl
 | p::r,h=>by
  have ih:=tU r fun q hq=>h q (sJ _ hq)
  have hp:=yI p (h p (sD ..))
  have e:aS (p::r)=span p++aS r:=rfl
  rw[e,dU,Fq]
  omega
end jm
namespace jm
open PySem L2 dD
structure aA(K:PySem.W.Frag)(mg:Str→Option Value)(x:Str)(st:Stmt)(ps:List Str)(a:Addr)(d:FuncData):Prop where
 F:iI K x x st a d
 b:Binds K d ps []
 m:mg x=some (.ref a)
section
variable {X:Cx}
theorem aN{x:Str}{st:Stmt}{ps:List Str}{f:Addr}{fd:FuncData}{j k:Nat}{sp:Sp}{e:Expr}{es:List Expr}{t:TA}{p pos:Pos}(d:aA X.K X.mg x st ps f fd)(G:aC X.prog X.w X.K X.mg X.base bU k f fd ps sp)(hr:lJ j X.A)
  (ha:PA X (e::es) t) (hjk:k≤j:=by first|decide|omega) (hg:Gl X x:=by rfl) (hdb:(x == ("__debug__":Str))=false:=by decide) (he:starEach (e::es) X.env=(false,eval e X.env)::starEach es X.env:=by rfl)
  (hpl:(backTo pos (starEach es X.env)).any (·.1)=false:=by rfl):PE X (.Call (.Name x p) (e::es) [] pos) (E8 sp [] E0 t) :=
 Dr G (hr.mono hjk) hg d.m d.F.kp d.b .nil cQ ha hdb he hpl
theorem vq{st:Stmt}{t t':TS}(h:PS X st t)(hi:∀ D σ H,t' D σ H→t D σ H):PS X st t':=fun pins s σ H D I q=>h pins s σ H D I (hi D σ H q)
end
def cO(l:Addr)(H H':Hp):Prop:=∀ a o,H a=some o→a≠l→H' a=some o
theorem aH.keep{l:Addr}{H H':Hp}(s:aH H H'):cO l H H':=fun a o e _=>s a o e
theorem cO.trans{l:Addr}{H H1 H2:Hp}(a:cO l H H1)(b:cO l H1 H2):cO l H H2:=fun c o e n=>b c o (a c o e n) n
theorem aK(l:Addr)(H:Hp)(o:HO):cO l H (upd H l o):=fun a u e n=>by rw[aF n];exact e
theorem cD{l:Addr}{H H1 H2:Hp}(h:H l=none)(a:aH H H1)(b:cO l H1 H2):aH H H2:=fun c o e=>b c o (a c o e) (au e h)
theorem aj{H:Hp}{p:Addr}(h:H p=none)(o:HO):aH H (upd H p o):=fun b u q=>by rw[aF (au q h)];exact q
theorem j3{l a:Addr}{H H':Hp}(k:cO l H H')(n:a≠l)(h:H' a=none):H a=none:=by
 cases q:H a with
 | none=>rfl
 | some o=>rw[k a o q n]at h;cases h
def dG(H:Hp)(l c:Addr):Prop:=c≠l∧∃ (ns:List Int) (i d r:Int),H l=some (.lst [.ref c,.int i,.int d,.int r])∧H c=some (.lst (ns.map V.int))∧0≤i∧0≤r∧r<2147483647
theorem dG.same{H H':Hp}{l c:Addr}(s:dG H l c)(k:aH H H'):dG H' l c:=by
 obtain⟨n,ns,i,d,r,h1,h2,h3⟩:=s
 exact⟨n,ns,i,d,r,k _ _ h1,k _ _ h2,h3⟩
theorem dG.keep{H H':Hp}{l c m:Addr}(s:dG H l c)(k:cO m H H')(h1:l≠m)(h2:c≠m):dG H' l c:=by
 obtain⟨n,ns,i,d,r,e1,e2,h3⟩:=s
 exact⟨n,ns,i,d,r,k _ _ e1 h1,k _ _ e2 h2,h3⟩
theorem dG.ne{H:Hp}{l c a:Addr}(s:dG H l c)(h:H a=none):l≠a∧c≠a:=by
 obtain⟨n,ns,i,d,r,e1,e2,h3⟩:=s
 exact⟨au e1 h,au e2 h⟩
theorem Up{a b c d:V}:xF [a,b,c,d] 0=some a:=rfl
theorem Rc{a b c d:V}:xF [a,b,c,d] 1=some b:=rfl
theorem Of{a b c d:V}:xF [a,b,c,d] 2=some c:=rfl
theorem Uq{a b c d:V}:xF [a,b,c,d] 3=some d:=rfl
theorem Ur{a b:V}:xF [a,b] 0=some a:=rfl
theorem Us{a b:V}:xF [a,b] 1=some b:=rfl
inductive sU(vs:List V)(H:Hp)(Q:VK)(E:XK):Prop
 | mk (l c:Addr) (b:Int) (_:vs=[.ref l,.int b]) (_:dG H l c) (_:0<b) (_:b<10^70) (_ :
 ∀ (v:Int) (H':Hp),0≤v→v<b→dG H' l c→(∀ a,a≠l→H' a=H a)→Q (.int v) H'):sU vs H Q E
inductive Mq(K:PySem.W.Frag)(vs:List V)(H:Hp)(Q:VK)(E:XK):Prop
 | mk (a:Addr) (ns:List Int) (_:vs=[.ref a]) (_:bN K H a (ns.map V.int)) (_ :
 ∀ (l c:Addr) (H':Hp),dG H' l c→aH H H'→H l=none→H c=none→Q (.ref l) H'):Mq K vs H Q E
def flat:V→Bool
 | .int _ | .bl _ | .str _ | .jw=>true
 | _=>false
def Mr(k:Bool)(H:Hp)(a:Addr)(xs:List V):Prop:=match k with
 | true=>H a=some (.lst xs)
 | false=>H a=some (.tup xs)
theorem Mr.same{k:Bool}{H H':Hp}{a:Addr}{xs:List V}(h:Mr k H a xs)(s:aH H H'):Mr k H' a xs:=by
 cases k
 ·exact s _ _ h
 ·exact s _ _ h
theorem Mr.sq{K:PySem.W.Frag}{k:Bool}{H:Hp}{a:Addr}{xs:List V}(h:Mr k H a xs):Ja K k H a xs:=by
 cases k
 ·exact jW.of h
 ·exact bN.of h
def Eqv(H:Hp):Nat→V→V→Prop
 | 0,_,_=>False
 | n+1,x,y=>(flat x=true∧x=y)∨∃ (k:Bool) (a b:Addr) (xs ys:List V),x=.ref a∧y=.ref b∧Mr k H a xs∧Mr k H b ys∧xs.length=ys.length ∧
   ∀ (i:Nat) (u v:V),xs[i]?=some u→ys[i]?=some v→Eqv H n u v
theorem Eqv.same{H H':Hp}(s:aH H H'):∀ {n:Nat} {x y:V},Eqv H n x y→Eqv H' n x y
 | 0,_,_,h=>h
 | n+1,x,y,h=>by
  rcases h with h|⟨k,a,b,xs,ys,e1,e2,h1,h2,hl,hi⟩
  ·exact .inl h
  ·exact .inr ⟨k,a,b,xs,ys,e1,e2,h1.same s,h2.same s,hl,fun i u v eu ev=>Eqv.same s (hi i u v eu ev)⟩
theorem Eqv.int{H:Hp}{n:Nat}(i:Int):Eqv H (n+1) (.int i) (.int i):=.inl ⟨rfl,rfl⟩
def vt(n:Nat):Sp:=fun vs H Q _=>∃ x y,vs=[x,y]∧Eqv H n x y∧∀ H',aH H H'→Q (.bl true) H'
inductive Dt(vs:List V)(H:Hp)(Q:VK)(E:XK):Prop
 | mk (i:Int) (_:vs=[.int i]) (_:Q (.bl true) H):Dt vs H Q E
section
variable (K:PySem.W.Frag)
theorem Ut:PySem.W.kitOne K (.type "bool") (.type "bool")=some true:=by rfl
theorem Uu:PySem.W.kitOne K (.type "int") (.type "bool")=some false:=by kernel_rfl
theorem Uv:PySem.W.kitOne K (.type "int") (.type "int")=some true:=by rfl
theorem adZ:PySem.W.kitOne K (.type "str") (.type "bool")=some false:=by kernel_rfl
theorem ad0:PySem.W.kitOne K (.type "str") (.type "int")=some false:=by kernel_rfl
theorem Uw:PySem.W.kitOne K (.type "str") (.type "str")=some true:=by rfl
theorem ad1:PySem.W.kitOne K (.type "list") (.type "bool")=some false:=by kernel_rfl
theorem ad2:PySem.W.kitOne K (.type "list") (.type "int")=some false:=by kernel_rfl
theorem ad3:PySem.W.kitOne K (.type "list") (.type "str")=some false:=by kernel_rfl
theorem Ux:PySem.W.kitOne K (.type "list") (.type "list")=some true:=by rfl
theorem k_lt:PySem.W.kitOne K (.type "list") (.type "tuple")=some false:=by kernel_rfl
theorem ad4:PySem.W.kitOne K (.type "tuple") (.type "bool")=some false:=by kernel_rfl
theorem ad5:PySem.W.kitOne K (.type "tuple") (.type "int")=some false:=by kernel_rfl
theorem ad6:PySem.W.kitOne K (.type "tuple") (.type "str")=some false:=by kernel_rfl
theorem ad7:PySem.W.kitOne K (.type "tuple") (.type "list")=some false:=by kernel_rfl
theorem ad8:PySem.W.kitOne K (.type "tuple") (.type "tuple")=some true:=by rfl
end
def SX(k:Bool):Value:=.type (if k then "list" else "tuple")
theorem Mr.ty{K:PySem.W.Frag}{k:Bool}{H:Hp}{a:Addr}{xs:List V}(h:Mr k H a xs):mZ K H (.ref a) (SX k):=by
 cases k
 ·exact mZ.tup h
 ·exact mZ.lst h
theorem ad9(K:PySem.W.Frag)(k:Bool):PySem.W.kitOne K (SX k) (.type "bool")=some false:=by cases k;exact ad4 K;exact ad1 K
theorem aea(K:PySem.W.Frag)(k:Bool):PySem.W.kitOne K (SX k) (.type "int")=some false:=by cases k;exact ad5 K;exact ad2 K
theorem aeb(K:PySem.W.Frag)(k:Bool):PySem.W.kitOne K (SX k) (.type "str")=some false:=by cases k;exact ad6 K;exact ad3 K
theorem Uy(K:PySem.W.Frag)(k:Bool):PySem.W.kitOne K (SX k) (.type "list")=some k:=by cases k;exact ad7 K;exact Ux K
theorem Uz(K:PySem.W.Frag)(k:Bool):PySem.W.kitOne K (SX k) (.type "tuple")=some (!k):=by cases k;exact ad8 K;exact k_lt K
def xH(H:Hp)(a:Addr)(p:Int × Int):Prop:=H a=some (.tup [.int p.1,.int p.2])
abbrev bf(H:Hp):List Addr→Row→Prop:=Paired (xH H)
inductive bQ(H:Hp)(r:Addr)(row:Row):Prop
 | mk (as:List Addr) (_:H r=some (.lst (as.map V.ref))) (_:bf H as row):bQ H r row
theorem bf.tups{H H':Hp}{as:List Addr}{row:Row}(h:bf H as row)(t:∀ a xs,H a=some (.tup xs)→H' a=some (.tup xs)):bf H' as row:=Paired.EZ h fun a p e=>t a _ e
theorem bf.same{H H':Hp}{as:List Addr}{row:Row}(h:bf H as row)(s:aH H H'):bf H' as row:=h.tups fun a xs e=>s a _ e
theorem bQ.same{H H':Hp}{r:Addr}{row:Row}(h:bQ H r row)(s:aH H H'):bQ H' r row:=by
 obtain⟨as,h1,h2⟩:=h
 exact⟨as,s _ _ h1,h2.same s⟩
theorem bf.keep{H H':Hp}{as:List Addr}{row:Row}{l:Addr}{xs:List V}(h:bf H as row)(hl:H l=some (.lst xs))(s:cO l H H'):bf H' as row :=
 h.tups fun a ys e=>s a _ e (cY e hl (by intro z;cases z))
theorem bQ.keep{H H':Hp}{r:Addr}{row:Row}{l:Addr}{xs:List V}(h:bQ H r row)(hl:H l=some (.lst xs))(n:r≠l)(s:cO l H H'):bQ H' r row:=by
 obtain⟨as,h1,h2⟩:=h
 exact⟨as,s _ _ h1 n,h2.keep hl s⟩
theorem bf.get{H:Hp}:∀ {as:List Addr} {row:Row} {i:Nat} {a:Addr},bf H as row→as[i]?=some a→∃ p,row[i]?=some p∧xH H a p
 | _,_,_,_,.nil,e=>by simp at e
 | _,_,0,_,.cons r _,e=>by simp at e;subst e;exact⟨_,rfl,r⟩
 | _,_,i+1,a,.cons _ t,e=>by
  obtain⟨p,h1,h2⟩:=bf.get (i:=i) (a:=a) t (by simpa using e)
  exact⟨p,by simpa using h1,h2⟩
theorem bf.snoc{H:Hp}:∀ {as:List Addr} {row:Row} {a:Addr} {p:Int × Int},bf H as row→xH H a p→bf H (as++[a]) (row++[p])
 | _,_,_,_,.nil,e=>.cons e .nil
 | _,_,_,_,.cons r t,e=>.cons r (bf.snoc t e)
theorem bf.split{H:Hp}:∀ {as:List Addr} {row:Row} {p:Int × Int},bf H as (row++[p])→∃ bs a,as=bs++[a]∧bf H bs row∧xH H a p
 | as,[],p,h=>by
  cases h with
  | cons r t=>cases t;exact⟨[],_,rfl,.nil,r⟩
 | as,q::row,p,h=>by
  cases h with
  | cons r t =>
   obtain⟨bs,a,rfl,h1,h2⟩:=bf.split (row:=row) (p:=p) t
   exact⟨_::bs,a,rfl,.cons r h1,h2⟩
theorem bf.len{H:Hp}{as:List Addr}{row:Row}(h:bf H as row):as.length=row.length:=Paired.length h
theorem m9{α:Type}(xs:List α)(v:α):xF (xs++[v]) (-1)=some v:=LY xs v
theorem Fv(n:Nat):Ls (n+1) (-1)=some n:=by
 unfold Ls
 rw[if_neg (by decide),if_pos (by omega)]
 congr 1
 omega
theorem Fw{α:Type}(xs:List α)(a b:α):(xs++[a]).set xs.length b=xs++[b]:=by
 simp
theorem Ao(lo:Int)(n:Nat):Cv lo n=(run lo n).map V.int:=by
 unfold Cv
 induction n generalizing lo with
 | zero=>rfl
 | succ n ih =>
  rw[List.range_succ_eq_map,mz,List.map_map,run,mz,← ih (lo+1)]
  congr 1
  ·simp
  ·apply List.map_congr_left
   intro i _
   simp only[Function.comp,Nat.succ_eq_add_one]
   congr 1
   omega
inductive Du(lim:Nat)(vs:List V)(H:Hp)(Q:VK)(E:XK):Prop
 | mk (r:Addr) (row:Row) (_:vs=[.ref r]) (_:bQ H r row) (_:(∀ p∈row,0≤p.1∧p.1≤p.2∧p.2<2^62)) (_:(aS row).length≤1000000) (_:row.length≤lim) (_ :
 ∀ (n:Addr) (H':Hp),H' n=some (.lst ((aS row).map V.int))→aH H H'→H n=none→Q (.ref n) H'):Du lim vs H Q E
inductive wB(vs:List V)(H:Hp)(Q:VK)(E:XK):Prop
 | mk (r:Addr) (row:Row) (_:vs=[.ref r]) (_:bQ H r row) (_:row.length≤1000000) (_ :
 ∀ (q:Addr) (H':Hp),bQ H' q (bW row)→aH H H'→H q=none→Q (.ref q) H'):wB vs H Q E
theorem aL{n:Nat}(h:n≤1000001):n<sizeLine:=Nat.lt_of_le_of_lt h (by decide)
end jm
namespace jm
open PySem L2 dD
def Rf:TS:=fun D σ H=>∃ (l c:Addr) (b:Int),σ=[some (.ref l),some (.int b),none,none]∧dG H l c ∧
 ∀ (cell:Option V) (H':Hp),dG H' l c→(∀ a,a≠l→H' a=H a)→D.nx [some (.ref l),some (.int b),cell,none] H'
def Rg:TS:=fun D σ H=>∃ (l c:Addr) (b:Int),σ=[some (.ref l),some (.int b),some (.int 7),none]∧dG H l c ∧
 ∀ (cell:Int) (H':Hp),dG H' l c→(∀ a,a≠l→H' a=H a)→D.nx [some (.ref l),some (.int b),some (.int cell),none] H'
theorem Og{ns:List Int}{i:Int}(h0:0≤i)(h1:i<(ns.length:Int)):∃ v:Int,xF (ns.map V.int) i=some (.int v):=by
 have hk:i.toNat<ns.length:=by omega
 refine⟨ns[i.toNat],?_⟩
 have q:xF (ns.map V.int) ((i.toNat:Nat):Int)=some (.int ns[i.toNat]):=eV (by rw[jV,nU hk] <;> rfl)
 have ei:((i.toNat:Nat):Int)=i:=by omega
 rw[ei]at q
 exact q
theorem Ms(ns:List Int)(lo hi:Option Int):∃ ms:List Int,nX (ns.map V.int) lo hi=ms.map V.int:=by
 unfold nX
 refine⟨(ns.drop (HT.iG (ns.map V.int).length 0 lo)).take (HT.iG (ns.map V.int).length (ns.map V.int).length hi-HT.iG (ns.map V.int).length 0 lo),?_⟩
 rw[List.map_take,List.map_drop]
theorem tt{p:Prop} [Decidable p] {Q:V→Hp→Prop} {H:Hp} (hp:p) (h:Q (.bl true) H):Q (.bl (decide p)) H:=by
 rw[decide_eq_true hp]
 exact h
theorem Mr.or{K:PySem.W.Frag}{k:Bool}{H:Hp}{a:Addr}{xs:List V}(h:Mr k H a xs):bN K H a xs∨jW K H a xs:=by
 cases k
 ·exact .inr (jW.of h)
 ·exact .inl (bN.of h)
theorem cR{l:Addr}{H H':Hp}(k:∀ a,a≠l→H' a=H a):cO l H H':=fun a o e n=>by rw[k a n];exact e
end jm
namespace jm
open PySem L2 dD
theorem dG.lst{H:Hp}{l c:Addr}(s:dG H l c):∃ xs,H l=some (.lst xs):=by
 obtain⟨n,ns,i,d,r,e1,_⟩:=s
 exact⟨_,e1⟩
end jm
namespace dD
open PySem PySem.Spec PyProof.Rows L2
def sE(X:Cx)(N:List Str)(scope:Scope)(C:Addr)(s₀:Shared)(H₀:Hp)(ex:List Addr)(pn:List (Addr × Obj)):Cx where
 prog:=X.prog
 w:=X.w
 K:=X.K
 mg:=X.mg
 base:=X.base
 A:=X.A
 N:=N
 s₀:=s₀
 H₀:=H₀
 env:=newEnv scope C X.env.globals [] X.env.qual none .none (some X.env) X.env.builtins
 outer:=X.stack
 stack:=X.stack
 ex:=ex
 fn:=fun _=>true
 calm:=X.calm
 pn:=pn
 xe:=fun _ _=>False
structure xJ(scope:Scope):Prop where
 kind:scope.kind=.function
 free:∀ x∈scope.names,x.2≠.free
 cell:∀ x∈scope.names,x.2≠.cell
 names:∀ x∈scope.names,x.2=.local→scope.names.lookup x.1=some .local
section
variable {prog:Program} {w:World} {A:Around} {R:Result→Shared→Prop} {s:Shared}
def tV(ifs:List Expr)(env:Env):Sem Bool:=forIn ifs true fun c r=>if r=true then do let ok ← isTrue c env (eval c env);pure (ForInStep.yield ok) else pure (ForInStep.yield r)
theorem Cy{elt target iter:Expr}{ifs:List Expr}{scope:Scope}{pos:Pos}{it acc:Value}{env:Env}(I:Nat→Shared→Prop)
  (turn:∀ n s,I n s→wpAny (model prog w) A (pyNext it) (fun r s₁=>match r with
   | none=>R (.ok .next) s₁
   | some v=>wpAny (model prog w) A (letOwnedTupleGo target it v) (fun _ s₂=>wpAny (model prog w) A (assign target env v) (fun _ s₃ =>
     wpAny (model prog w) A (tV ifs env) (fun ok s₄ =>
      if ok=true then wpAny (model prog w) A (eval elt env) (fun x s₅=>wpAny (model prog w) A (call (.builtin "list.append") [acc,x]) (fun _ s₆=>∃ m,m<n∧I m s₆) (fun _ _=>False) s₅) (fun _ _=>False) s₄
      else ∃ m,m<n∧I m s₄) (fun _ _=>False) s₃) (fun _ _=>False) s₂) (fun _ _=>False) s₁) (fun _ _=>False) s)
  (n:Nat) (h:I n s):codeAny (model prog w) A (.compLoop (.ListComp elt [⟨target,iter,ifs,0⟩] scope pos) 0 it acc env) R s:=by
 refine codeAny_loop rfl I (fun n s hI=>?_) n h
 show wpAny _ A ((compTurn (.ListComp elt [⟨target,iter,ifs,0⟩] scope pos) 0 it acc env).onRaise (fun x=>do noteFrame x env;theTreesLotGoes x)) _ _ s
 refine wpAny_noted ?_
 rw[compTurn_list]
 refine wpAny_bind (wpAny_standAt (wpAny_bind (wpAny_mono (turn n s hI) (fun r s₁ h₁=>?_) fun _ _ h'=>h'.elim)))
 cases r with
 | none=>exact wpAny_pure h₁
 | some v =>
  refine wpAny_bind (wpAny_mono h₁ (fun _ s₂ h₂=>wpAny_bind (wpAny_mono h₂ (fun _ s₃ h₃=>wpAny_bind (wpAny_mono h₃ (fun ok s₄ h₄=>?_) fun _ _ h'=>h'.elim)) fun _ _ h'=>h'.elim)) fun _ _ h'=>h'.elim)
  cases ok with
  | false=>exact wpAny_pure ⟨rfl,h₄⟩
  | true=>exact wpAny_bind (wpAny_bind (wpAny_mono h₄ (fun x s₅ h₅=>wpAny_bind (wpAny_mono h₅ (fun _ s₆ h₆=>wpAny_pure (wpAny_pure ⟨rfl,h₆⟩)) fun _ _ h'=>h'.elim)) fun _ _ h'=>h'.elim))
end
section
variable {X:Cx} {N:List Str} {scope:Scope}
theorem Aq{pins:List (Addr × Obj)}{σ:L2.St}{H:Hp}{s:Shared}{fp:List Addr}{h₁:Heap}{t:Nat}(cs:xJ scope)(I:Inv X pins σ H s)(hf:∀ b∈fp,nH X pins H b)(hlt:∀ b∈fp,b<s.heap.objs.size)
  (hns:h₁.Ns s.heap.objs.size fun _=>none) (hk:∀ b o,s.heap.get? b=some o→h₁.get? b=some o) :
  Inv (sE X N scope s.heap.objs.size s H fp (X.pn++pins)) [] (List.replicate N.length none) H { s with heap:=h₁,toks:=t }:=by
 have UA:∀ {x c},(sE X N scope s.heap.objs.size s H fp (X.pn++pins)).env.cells.lookup x=some c→False:=fun {x c} e=>by
  have e':(none:Option Addr)=some c:=e
  cases e'
 refine⟨⟨I.ok.mod,cs.kind,I.ok.glob,I.ok.blt,gQ _,fun x y c e _=>(UA e).elim,fun x hx=>?_,fun x c _ e=>(UA e).elim,I.ok.hd,I.ok.frames,.inl rfl,fun b hb=>⟨Nat.ne_of_lt (hlt b hb),fun x c e=>(UA e).elim⟩,I.bs,kT I.ok.NT I.sz,fun b o e hb=>?_,fun b hb z=>?_,I.stack,I.vX⟩,
  rfl,I.bare,Un.kept hk,⟨_,hns,fun i x v e1 e2 _=>?_⟩,fun x c e=>(UA e).elim,I.hok.fresh (gQ _),fun x c e=>(UA e).elim,fun p hp=>?_,I.hok.kept hk,by rw[vm];rfl⟩
 ·have hx':scope.names.lookup x=some .cell∨scope.names.lookup x=some .free:=hx
  rcases hx' with z|z
  ·exact absurd rfl (cs.cell _ (PySem.mem_of_lookup z))
  ·exact absurd rfl (cs.free _ (PySem.mem_of_lookup z))
 ·rcases (hf b hb).2.2.2.1 with z|z
  ·exact I.ok.J1 b o e z
  ·exact absurd (rB (Heap.lt_size (I.ok.bs b o e).1) z) (Nat.lt_irrefl _)
 ·rcases List.mem_cons.mp (I.qv b z) with e|e
  ·exact (hf b hb).2.1 e
  ·exact (hf b hb).2.2.1 e
 ·rw[List.getElem?_replicate]at e2
  split at e2 <;> cases e2
 ·have Jd:p∈X.pn++pins:=by
   have z:p∈(X.pn++pins)++[]:=hp
   simpa using z
  obtain⟨e,n,nl,nf,d⟩:=I.pin p Jd
  refine⟨hk _ _ e,n,ko (Heap.lt_size e),fun z=>?_,d⟩
  rcases List.mem_cons.mp (I.qv p.1 z) with e|e
  ·exact nl e
  ·exact nf e
theorem Fx{pins:List (Addr × Obj)}{σ σ':L2.St}{H H':Hp}{s s':Shared}{fp:List Addr}{h':Heap}(I:Inv X pins σ H s)(hf:∀ b∈fp,nH X pins H b)(J:Inv (sE X N scope s.heap.objs.size s H fp (X.pn++pins)) [] σ' H' s')
  (hs:Heap.SameBut s.heap.objs.size s'.heap h'):Inv X pins σ H' { s' with heap:=h' }:=by
 have I4:Inv X pins σ H' s':=I.LI (ch:=fp) J.os J.base J.hok J.bare fun b hb=>⟨(hf b hb).2.2.2.1,(hf b hb).2.1,(hf b hb).2.2.2.2.1,(hf b hb).2.2.2.2.2⟩
 refine I4.turned (t':=s'.toks) (it:=s.heap.objs.size) (fun b o hb e=>hs.extBut _ _ hb e) J.free (Nat.ne_of_gt I.lt) (.inr I.sz) (fun x c e z=>?_) fun p hp z=>?_
 ·obtain⟨v,o,ho,_⟩:=I.cell x c e
  exact absurd (Heap.lt_size ho) (by rw[z];exact Nat.lt_irrefl _)
 ·exact absurd (Heap.lt_size (I.pin p hp).1) (by rw[z];exact Nat.lt_irrefl _)
def GV(X:Cx)(ifs:List Expr)(t:TT):Prop :=
 ∀ (pins:List (Addr × Obj)) (s:Shared) (σ:L2.St) (H:Hp) (Q:Bool→Hp→Prop),Inv X pins σ H s→t σ H Q→wpAny (model X.prog X.w) X.A (tV ifs X.env) (TP X pins σ Q) X.xe s
def Kq:TT:=fun _ H Q=>Q true H
theorem iJ:GV X [] Kq:=fun pins s σ H Q I h=>wpAny_tests_nil ⟨H,I,h⟩
theorem Je{c:Expr}{t:TT}(h:PT X c t):GV X [c] t:=fun pins s σ H Q I q=>wpAny_tests_one (h pins s σ H Q I q)
def Mt(J:It)(acc:Addr)(g:TG)(tt:TT)(te:TE)(n:Nat)(H:Hp)(Q:VK):Prop :=
 ∃ W:Nat→Nat→L2.St→Hp→Prop,(∃ m,W 0 m (List.replicate n none) H)∧∀ i m σ H,W i m σ H →
  (J.stop i H∧Q (.ref acc) H)∨(J.go i H∧∃ Nx:L2.St→Hp→Prop,(∀ σ' H',Nx σ' H'→∃ m',m'<m∧W (i+1) m' σ' H')∧∀ x H',J.J3 i H x H'→g x σ H' fun σ2 H2=>tt σ2 H2 fun b H3 =>
   if b=true then te σ2 H3 fun v H4=>∃ xs,H4 acc=some (.lst xs)∧xs.length<sizeLine∧Nx σ2 (upd H4 acc (.lst (xs++[v]))) else Nx σ2 H3)
def UB(n:Nat)(wi:TI)(g:TG)(tt:TT)(te:TE):TE:=fun σ H Q=>wi σ H fun J H1=>∀ acc,H1 acc=none→Mt J acc g tt te n (upd H1 acc (.lst [])) Q
theorem Dv{elt tg iter:Expr}{ifs:List Expr}{pos:Pos}{wi:TI}{g:TG}{tt:TT}{te:TE}(cs:xJ scope)(hc:X.calm=true)(hi:PI X tg iter wi)
  (hg:∀ C s₀ H₀ ex pn,PG (sE X N scope C s₀ H₀ ex pn) tg g) (ht:∀ C s₀ H₀ ex pn,GV (sE X N scope C s₀ H₀ ex pn) ifs tt) (he:∀ C s₀ H₀ ex pn,PE (sE X N scope C s₀ H₀ ex pn) elt te)
  (hs:∀ x,foldedSetIterable iter X.env x=pure x:=by intro _;rfl):PE X (.ListComp elt [⟨tg,iter,ifs,0⟩] scope pos) (UB N.length wi g tt te):=by
 intro pins s σ H Q I h
 refine wpAny_ListComp cs.free cs.kind cs.names (cu (hi pins s σ H _ I h) fun v s1 h1=>cu h1 fun itv s2 h2=>?_) hs
 obtain⟨it,fp,tn,J,H2,e,I2,T,st2,f2,q⟩:=h2
 subst e
 refine wpAny_newObj_type (hd:=by size_fits) ?_
 have hacc:H2 s2.heap.objs.size=none:=I2.hok.fresh (gQ _)
 have I3:Inv X pins σ (upd H2 s2.heap.objs.size (.lst [])) { s2 with heap:=s2.heap.push { cls:=.type "list",data:=.seq ([]:List Value).toArray },toks:=s2.toks }:=I2.Kf (ys:=[]) .nil (lI _)
 have Mu:∀ b∈fp,b<s2.heap.objs.size:=fun b hb=>by
  obtain⟨o,ho,_⟩:=T.obj _ _ st2 b hb
  exact Heap.lt_size ho
 have f3:∀ b∈fp,nH X pins (upd H2 s2.heap.objs.size (.lst [])) b:=fun b hb=>⟨by rw[aF (ko (Mu b hb))];exact (f2 b hb).1,(f2 b hb).2⟩
 have k3:∀ b o,s2.heap.get? b=some o→(s2.heap.push { cls:=.type "list",data:=.seq ([]:List Value).toArray }).get? b=some o:=fun b o e=>Heap.get?_push_of_some _ e
 have q3:=q _ hacc
 generalize Rh:({ s2 with heap:=s2.heap.push { cls:=.type "list",data:=.seq ([]:List Value).toArray },toks:=s2.toks }:Shared)=s3 at I3
 generalize hH3:upd H2 s2.heap.objs.size (.lst [])=H3 at I3 f3 q3
 have Mv:s3.heap=s2.heap.push { cls:=.type "list",data:=.seq ([]:List Value).toArray }:=by rw[← Rh]
 have Cz:∀ b∈fp,b<s3.heap.objs.size:=fun b hb=>by rw[Mv,Heap.size_push];exact Nat.lt_succ_of_lt (Mu b hb)
 have st3:tn 0 s3.heap:=T.keep _ _ _ st2 fun b _ o e=>by rw[Mv];exact k3 b o e
 show wpAny _ _ _ _ _ s3
 refine wpAny_newFunctionEnv cs.cell (fun y hy=>by simp at hy) (fun h₁ hns Kr=>?_) cs.kind
 have kh:∀ b o,s3.heap.get? b=some o→h₁.get? b=some o:=fun b o e=>Kr.extBut _ _ (ko (Heap.lt_size e)) (Heap.get?_push_of_some _ e)
 have J0:Inv (sE X N scope s3.heap.objs.size s3 H3 fp (X.pn++pins)) [] (List.replicate N.length none) H3 { s3 with heap:=h₁,toks:=s3.toks+([]:List (Str × Value)).length }:=Aq cs I3 f3 Cz hns kh
 have Mw:tn 0 h₁:=T.keep _ _ _ st3 fun b _ o e=>kh b o e
 obtain⟨W,⟨m0,w0⟩,turn⟩:=q3
 have oO:∀ {H':Hp},(∀ b∈fp,H' b=none)→∀ b∈fp,nH (sE X N scope s3.heap.objs.size s3 H3 fp (X.pn++pins)) [] H' b:=fun hn b hb=>by
  refine⟨hn b hb,ko (Cz b hb),fun z=>?_,.inl hb,fun x c e=>?_,fun p hp=>?_⟩
  ·rcases List.mem_cons.mp (I3.qv b z) with e|e
   ·exact (f3 b hb).2.1 e
   ·exact (f3 b hb).2.2.1 e
  ·have e':(none:Option Addr)=some c:=e
   cases e'
  ·have Jd:p∈X.pn++pins:=by
    have z:p∈(X.pn++pins)++[]:=hp
    simpa using z
   exact (f3 b hb).2.2.2.2.2 p Jd
 have loop:∀ s5:Shared,s5={ s3 with heap:=h₁,toks:=s3.toks+([]:List (Str × Value)).length }→codeAny (model X.prog X.w) X.A (.compLoop (.ListComp elt [⟨tg,iter,ifs,0⟩] scope pos) 0 (.ref it) (.ref s2.heap.objs.size) (sE X N scope s3.heap.objs.size s3 H3 fp (X.pn++pins)).env)
   (fun r s'=>∃ m,s'.heap.Ns s3.heap.objs.size m∧∀ h',Heap.SameBut s3.heap.objs.size s'.heap h'→match r with
    | .ok _=>EP X pins σ Q (.ref s2.heap.objs.size) { s' with heap:=h' }
    | .error x=>wpAny (model X.prog X.w) X.A (passOn "comprehension.variables-let-go" x (sE X N scope s3.heap.objs.size s3 H3 fp (X.pn++pins)).env) (EP X pins σ Q) X.xe { s' with heap:=h' }) s5:=by
  rintro s5 rfl
  refine Cy (fun n s'=>∃ i σ' H',Inv (sE X N scope s3.heap.objs.size s3 H3 fp (X.pn++pins)) [] σ' H' s'∧tn i s'.heap∧(∀ b∈fp,H' b=none)∧W i n σ' H') ?_ m0 ⟨0,_,H3,J0,Mw,fun b hb=>(f3 b hb).1,w0⟩
  rintro n s6 ⟨i,σ6,H6,I6,Jf,GW,w6⟩
  rcases turn i n σ6 H6 w6 with ⟨stop,qn⟩|⟨go,Nx,hN,step⟩
  ·refine cu (T.done (sE X N scope s3.heap.objs.size s3 H3 fp (X.pn++pins)) rfl rfl rfl hc i [] s6 σ6 H6 _ I6 (oO GW) Jf stop) fun r s7 ⟨hr,I7⟩=>?_
   subst hr
   obtain⟨m,hm,_⟩:=I7.loc
   exact⟨m,hm,fun h' Ri=>⟨.ref s2.heap.objs.size,H6,Fx I3 f3 I7 Ri,rfl,qn⟩⟩
  ·refine cu (T.item (sE X N scope s3.heap.objs.size s3 H3 fp (X.pn++pins)) rfl rfl rfl hc i [] s6 σ6 H6 _ I6 (oO GW) Jf go) fun r s7 ⟨u,hr,h7⟩=>?_
   subst hr
   refine cu h7 fun _ s8 ⟨x,H8,I8,r8,y8,Dw,CA⟩=>?_
   have Oh:=I8.pinned (oO CA) (T.obj _ _ Dw)
   refine cu (hg _ _ _ _ _ _ s8 σ6 H8 x u _ Oh r8 (step x H8 y8)) fun _ s9 ⟨σ9,H9,I9,q9⟩=>?_
   refine cu (ht _ _ _ _ _ _ s9 σ9 H9 _ I9 q9) fun ok BO ⟨GX,Jg,vU⟩=>?_
   have again:∀ {σ7:L2.St} {H7:Hp} {nI:Shared},Inv (sE X N scope s3.heap.objs.size s3 H3 fp (X.pn++pins)) ([]++rE fp s8.heap) σ7 H7 nI→Nx σ7 H7→∃ m,m<n∧∃ i σ' H',Inv (sE X N scope s3.heap.objs.size s3 H3 fp (X.pn++pins)) [] σ' H' nI∧tn i nI.heap∧(∀ b∈fp,H' b=none)∧W i m σ' H':=fun {σ7 H7 nI} I7 n7=>by
    obtain⟨m',hm,w7⟩:=hN σ7 H7 n7
    refine⟨m',hm,i+1,σ7,H7,I7.mX,T.keep _ _ _ Dw fun b hb o e=>(I7.pin (b,o) (mW _ (mW _ (eE hb e)))).1,fun b hb=>?_,w7⟩
    obtain⟨o,e,d⟩:=T.obj _ _ Dw b hb
    exact (I7.pin (b,o) (mW _ (mW _ (eE hb e)))).2.1
   cases ok with
   | false =>
    rw[if_neg tP]at vU
    exact again Jg vU
   | true =>
    rw[if_pos rfl]at vU
    refine cu (he _ _ _ _ _ _ BO σ9 GX _ Jg vU) fun v nI ⟨y,SY,Rj,UC,xs,hx,hz,UD⟩=>?_
    refine cu (cP _ nI σ9 SY (.ref s2.heap.objs.size) [y] (.ref s2.heap.objs.size) [v] (fun _ H'=>Nx σ9 H') Rj rfl (.cons UC .nil) ⟨_,xs,y,rfl,rfl,hx,hz,UD⟩) fun _ s12 ⟨_,PV,Rk,_,Oi⟩=>?_
    exact again Rk Oi
 exact codeAny_compStart_list (loop _ rfl) (T.self _ _ _ _ _ Mw (loop _ rfl))
theorem xK{K:PySem.W.Frag}{a acc:Addr}{xs:List V}{g:TG}{tt:TT}{te:TE}{n:Nat}{H:Hp}{Q:VK}(Pv:Nat→L2.St→Hp→Prop)(h0:Pv 0 (List.replicate n none) H)(hl:∀ i σ H,i≤xs.length→Pv i σ H→bN K H a xs)
  (hs:∀ i x σ H,xs[i]?=some x→Pv i σ H→g x σ H fun σ2 H2=>tt σ2 H2 fun b H3=>if b=true then te σ2 H3 fun v H4=>∃ ys,H4 acc=some (.lst ys)∧ys.length<sizeLine∧Pv (i+1) σ2 (upd H4 acc (.lst (ys++[v]))) else Pv (i+1) σ2 H3)
  (hd:∀ σ H,Pv xs.length σ H→Q (.ref acc) H):Mt (J5 K a) acc g tt te n H Q:=by
 refine⟨fun i m σ H=>m=xs.length-i∧i≤xs.length∧Pv i σ H,⟨xs.length,by simp,lI _,h0⟩,?_⟩
 rintro i m σ H ⟨rfl,hi,p⟩
 have q:=hl i σ H hi p
 by_cases hlt:i<xs.length
 ·refine .inr ⟨⟨xs,xs[i],q,by simp[hlt]⟩,Pv (i+1),fun σ' H' p'=>⟨xs.length-(i+1),by omega,rfl,hlt,p'⟩,fun x H' y=>?_⟩
  obtain⟨e,y⟩:=y
  subst e
  exact hs i x σ _ (y xs q) p
 ·have e:i=xs.length:=by omega
  subst e
  exact .inl ⟨⟨xs,q,gQ _⟩,hd σ H p⟩
end
end dD
namespace dD
open PySem PySem.Spec PyProof.Rows L2
theorem Ks{P:Program}{w:World}{K:PySem.W.Frag}{tg:Expr}(it:Addr)(lo:Int)(n:Nat):Turn P w K tg (J6 lo n) [it] it (fun i h=>IsLongIter h it (lo+(i:Nat)*1) ((n:Int)-(i:Nat)) 1) where
 mem:=by simp
 obj:=fun i h st b hb=>by
  have e:b=it:=by simpa using hb
  subst e
  exact⟨_,st,fun v z=>by
   have z':Data.fields _=Data.cell v:=z
   cases z'⟩
 keep:=fun i h h' st k=>k it (by simp) _ st
 item:=by
  intro X hP hw hK hc i pins s σ H E I hf st hg
  subst hP hw hK
  obtain⟨f0,f1,f2,f3,f4,f5⟩:=hf it (by simp)
  have W:=Walks.longrange (prog:=X.prog) (w:=X.w) (I.ok.hd hc) it lo 1 n
  refine W.item i s _ _ hg st fun v h' tk hv st' kk=>?_
  obtain⟨t,rfl⟩:=hv
  have I1:Inv X pins σ H { s with heap:=h',toks:=tk }:=I.turned (fun b o hb e=>kk b o (by simpa using hb) e) f0 f1 f3 f4 f5
  refine⟨_,rfl,E7 (s:={ s with heap:=h',toks:=tk }) (n:="longrange_iterator") st' rfl rfl (by decide) ⟨.int (lo+i),H,I1,⟨t,?_⟩,⟨rfl,rfl⟩,st',fun b hb=>(hf b hb).1⟩⟩
  rw[Int.mul_one]
 done:=by
  intro X hP hw hK hc i pins s σ H E I hf st hg
  subst hP hw hK
  obtain⟨f0,f1,f2,f3,f4,f5⟩:=hf it (by simp)
  exact wpAny_pyNext_long_end (I.ok.hd hc) st (by have:n≤i:=hg;omega) fun h' eb=>⟨rfl,I.turned (t':=s.toks) (fun b o hb e=>eb b o hb e) f0 f1 f3 f4 f5⟩
 self:=fun _ _ _ _ _ st h=>wpAny_pyIter_longiter st h
section
variable {X:Cx} {tg:Expr}
theorem Ku{pins:List (Addr × Obj)}{σ:L2.St}{H:Hp}{s:Shared}{R:It→Hp→Prop}{E:Value→Shared→Prop}{lo hi:Int}{t u v:Tok}{tk:Nat}(I:Inv X pins σ H s)
  (q:R (J6 lo (hi-lo).toNat) H):wpAny (model X.prog X.w) X.A (pyIter (.ref s.heap.objs.size)) (XE X pins σ tg R) E { s with heap:=s.heap.push { cls:=.type "range",data:=.fields #[.int lo t,.int hi u,.int 1 v] },toks:=tk }:=by
 have I1:Inv X pins σ H { s with heap:=s.heap.push { cls:=.type "range",data:=.fields #[.int lo t,.int hi u,.int 1 v] },toks:=tk }:=I.kept fun b o e=>Heap.get?_push_of_some _ e
 have e1:lo+((0:Nat):Int)*1=lo:=by simp
 have e2:(((hi-lo).toNat:Nat):Int)-((0:Nat):Int)=Builtin.Range.rangeSize lo hi 1:=by rw[rangeSize_one];split <;> omega
 have fp:∀ b∈[(s.heap.push { cls:=.type "range",data:=.fields #[.int lo t,.int hi u,.int 1 v] }).objs.size],nH X pins H b:=fun b hb=>by
  have e:b=(s.heap.push { cls:=.type "range",data:=.fields #[.int lo t,.int hi u,.int 1 v] }).objs.size:=by simpa using hb
  subst e
  exact I1.J4 (gQ _) (I1.hok.fresh (gQ _))
 cases hb:Builtin.Range.small lo hi 1 with
 | true =>
  refine wpAny_pyIter_range (IsRange.new ..) hb ?_
  refine⟨_,[(s.heap.push { cls:=.type "range",data:=.fields #[.int lo t,.int hi u,.int 1 v] }).objs.size],_,_,H,rfl,I1.kept (t':=tk) fun b o e=>Heap.get?_push_of_some _ e,zZ _ lo (hi-lo).toNat,?_,fp,q⟩
  show IsRangeIter _ _ (lo+((0:Nat):Int)*1) ((((hi-lo).toNat:Nat):Int)-((0:Nat):Int)) 1
  rw[e1,e2]
  exact Heap.get?_push_size _ rfl
 | false =>
  refine wpAny_pyIter_longrange (IsRange.new ..) hb ?_
  refine⟨_,[(s.heap.push { cls:=.type "range",data:=.fields #[.int lo t,.int hi u,.int 1 v] }).objs.size],_,_,H,rfl,I1.kept (t':=tk) fun b o e=>Heap.get?_push_of_some _ e,Ks _ lo (hi-lo).toNat,?_,fp,q⟩
  show IsLongIter _ _ (lo+((0:Nat):Int)*1) ((((hi-lo).toNat:Nat):Int)-((0:Nat):Int)) 1
  rw[e1,e2]
  exact Heap.get?_push_size _ rfl
def UE(ta:TA):TI:=fun σ H R=>ta σ H fun vs H1=>∃ i j:Int,vs=[.int i,.int j]∧R (J6 i (j-i).toNat) H1
theorem Kv{a b:Expr}{ta:TA}{p pos:Pos}(hg:Gl X "range")(hm:X.mg "range"=none)(ha:PA X [a,b] ta)(hs:starEach [a,b] X.env=[(false,eval a X.env),(false,eval b X.env)]:=by rfl)(hs2:starEach [b] X.env=[(false,eval b X.env)]:=by rfl) :
  PI X tg (.Call (.Name "range" p) [a,b] [] pos) (UE ta):=by
 intro pins s σ H R I h
 refine Call_ (xu I hg hm boot_range (PyProof.Rows.callWith_type1 (cu (ha pos pins s σ H _ I h) fun us s1 ⟨vs,H1,I1,r1,q1⟩=>?_) (by rw[hs,hs2]) (by rw[hs2];rfl)))
 obtain⟨i,j,e,q⟩:=q1
 subst e
 obtain⟨u1,u2,rfl,⟨t,rfl⟩,⟨t',rfl⟩⟩:=r1.two
 exact call_range_2 (Ku I1 q)
end
end dD
namespace dD
open PySem PySem.Spec PyProof.Rows L2
section
variable {prog:Program} {w:World} {A:Around} {R:Result→Shared→Prop} {s:Shared}
theorem Oj(elt tg iter qM cN:Expr)(ifs jH:List Expr)(scope:Scope)(pos:Pos)(it acc:Value)(env:Env) :
  compTurn (.ListComp elt [⟨tg,iter,ifs,0⟩,⟨qM,cN,jH,0⟩] scope pos) 1 it acc env=(do
   standAt cN.pos
   match ← pyNext it with
   | none=>pure (.done .next)
   | some v =>
    letOwnedTupleGo qM it v
    assign qM env v
    let ok ← tV jH env
    if ok then (do let _ ← call (.builtin "list.append") [acc,← eval elt env])
    again (.compLoop (.ListComp elt [⟨tg,iter,ifs,0⟩,⟨qM,cN,jH,0⟩] scope pos) 1 it acc env)):=by rfl
theorem Mx(elt tg iter qM cN:Expr)(ifs jH:List Expr)(scope:Scope)(pos:Pos)(it acc:Value)(env:Env) :
  compTurn (.ListComp elt [⟨tg,iter,ifs,0⟩,⟨qM,cN,jH,0⟩] scope pos) 0 it acc env=(do
   standAt iter.pos
   match ← pyNext it with
   | none=>pure (.done .next)
   | some v =>
    letOwnedTupleGo tg it v
    assign tg env v
    let ok ← tV ifs env
    if ok then
     let x ← eval cN env
     standAt cN.pos
     let x ← foldedSetIterable cN env x
     let _ ← runOwn (.compStart (.ListComp elt [⟨tg,iter,ifs,0⟩,⟨qM,cN,jH,0⟩] scope pos) 1 (← holding [x] (pyIter x)) acc env) env
    again (.compLoop (.ListComp elt [⟨tg,iter,ifs,0⟩,⟨qM,cN,jH,0⟩] scope pos) 0 it acc env)):=by rfl
theorem Rl{elt tg iter qM cN:Expr}{ifs jH:List Expr}{scope:Scope}{pos:Pos}{it acc:Value}{env:Env}(I:Nat→Shared→Prop)
  (turn:∀ n s,I n s→wpAny (model prog w) A (pyNext it) (fun r s₁=>match r with
   | none=>R (.ok .next) s₁
   | some v=>wpAny (model prog w) A (letOwnedTupleGo qM it v) (fun _ s₂=>wpAny (model prog w) A (assign qM env v) (fun _ s₃ =>
     wpAny (model prog w) A (tV jH env) (fun ok s₄ =>
      if ok=true then wpAny (model prog w) A (eval elt env) (fun x s₅=>wpAny (model prog w) A (call (.builtin "list.append") [acc,x]) (fun _ s₆=>∃ m,m<n∧I m s₆) (fun _ _=>False) s₅) (fun _ _=>False) s₄
      else ∃ m,m<n∧I m s₄) (fun _ _=>False) s₃) (fun _ _=>False) s₂) (fun _ _=>False) s₁) (fun _ _=>False) s)
  (n:Nat) (h:I n s):codeAny (model prog w) A (.compLoop (.ListComp elt [⟨tg,iter,ifs,0⟩,⟨qM,cN,jH,0⟩] scope pos) 1 it acc env) R s:=by
 refine codeAny_loop rfl I (fun n s hI=>?_) n h
 show wpAny _ A ((compTurn (.ListComp elt [⟨tg,iter,ifs,0⟩,⟨qM,cN,jH,0⟩] scope pos) 1 it acc env).onRaise (fun x=>do noteFrame x env;theTreesLotGoes x)) _ _ s
 refine wpAny_noted ?_
 rw[Oj]
 refine wpAny_bind (wpAny_standAt (wpAny_bind (wpAny_mono (turn n s hI) (fun r s₁ h₁=>?_) fun _ _ h'=>h'.elim)))
 cases r with
 | none=>exact wpAny_pure h₁
 | some v =>
  refine wpAny_bind (wpAny_mono h₁ (fun _ s₂ h₂=>wpAny_bind (wpAny_mono h₂ (fun _ s₃ h₃=>wpAny_bind (wpAny_mono h₃ (fun ok s₄ h₄=>?_) fun _ _ h'=>h'.elim)) fun _ _ h'=>h'.elim)) fun _ _ h'=>h'.elim)
  cases ok with
  | false=>exact wpAny_pure ⟨rfl,h₄⟩
  | true=>exact wpAny_bind (wpAny_bind (wpAny_mono h₄ (fun x s₅ h₅=>wpAny_bind (wpAny_mono h₅ (fun _ s₆ h₆=>wpAny_pure (wpAny_pure ⟨rfl,h₆⟩)) fun _ _ h'=>h'.elim)) fun _ _ h'=>h'.elim))
theorem Ol{elt tg iter qM cN:Expr}{ifs jH:List Expr}{scope:Scope}{pos:Pos}{it acc:Value}{env:Env}
  (h0:codeAny (model prog w) A (.compLoop (.ListComp elt [⟨tg,iter,ifs,0⟩,⟨qM,cN,jH,0⟩] scope pos) 1 it acc env) R s)
  (h:wpAny (model prog w) A (pyIter it) (fun it' s'=>codeAny (model prog w) A (.compLoop (.ListComp elt [⟨tg,iter,ifs,0⟩,⟨qM,cN,jH,0⟩] scope pos) 1 it' acc env) R s') (fun _ _=>False) s) :
  codeAny (model prog w) A (.compStart (.ListComp elt [⟨tg,iter,ifs,0⟩,⟨qM,cN,jH,0⟩] scope pos) 1 it acc env) R s:=by
 refine codeAny_of_tree ?_
 show wpAny _ _ ((compStart (.ListComp elt [⟨tg,iter,ifs,0⟩,⟨qM,cN,jH,0⟩] scope pos) 1 it acc env).onRaise (fun x=>do noteFrame x env;standAt theWindowsPlace)) _ _ s
 refine wpAny_notedAt ?_
 unfold compStart
 show wpAny _ _ (ask >>= _) _ _ s
 refine wpAny_bind (wpAny_askSetting (wpAny_ite ?_))
 split
 ·first
   | exact wpAny_bind (wpAny_pure (wpAny_pure (And.intro rfl h0)))
   | exact wpAny_pure (And.intro rfl h0)
 ·first
   | exact wpAny_bind (wpAny_rule (wpAny_bind (wpAny_standAt (wpAny_bind (wpAny_mono h (fun it' s' h'=>wpAny_pure (And.intro rfl h')) fun _ _ x=>x.elim)))))
   | (refine wpAny_bind (wpAny_rule ?_);show wpAny _ _ (standAt cN.pos >>= _) _ _ s;exact wpAny_bind (wpAny_standAt (wpAny_bind (wpAny_mono h (fun it' s' h'=>wpAny_pure (And.intro rfl h')) fun _ _ x=>x.elim))))
theorem Jh{elt tg iter qM cN:Expr}{ifs jH:List Expr}{scope:Scope}{pos:Pos}{it acc:Value}{env:Env}(I:Nat→Shared→Prop)
  (hs2:∀ x,foldedSetIterable cN env x=pure x)
  (turn:∀ n s,I n s→wpAny (model prog w) A (pyNext it) (fun r s₁=>match r with
   | none=>R (.ok .next) s₁
   | some v=>wpAny (model prog w) A (letOwnedTupleGo tg it v) (fun _ s₂=>wpAny (model prog w) A (assign tg env v) (fun _ s₃ =>
     wpAny (model prog w) A (tV ifs env) (fun ok s₄ =>
      if ok=true then wpAny (model prog w) A (eval cN env) (fun x s₅=>wpAny (model prog w) A (pyIter x) (fun S0 s₆ =>
       codeAny (model prog w) A (.compStart (.ListComp elt [⟨tg,iter,ifs,0⟩,⟨qM,cN,jH,0⟩] scope pos) 1 S0 acc env) (fun r s₇=>(∃ f,r=.ok f)∧∃ m,m<n∧I m s₇) s₆) (fun _ _=>False) s₅) (fun _ _=>False) s₄
      else ∃ m,m<n∧I m s₄) (fun _ _=>False) s₃) (fun _ _=>False) s₂) (fun _ _=>False) s₁) (fun _ _=>False) s)
  (n:Nat) (h:I n s):codeAny (model prog w) A (.compLoop (.ListComp elt [⟨tg,iter,ifs,0⟩,⟨qM,cN,jH,0⟩] scope pos) 0 it acc env) R s:=by
 refine codeAny_loop rfl I (fun n s hI=>?_) n h
 show wpAny _ A ((compTurn (.ListComp elt [⟨tg,iter,ifs,0⟩,⟨qM,cN,jH,0⟩] scope pos) 0 it acc env).onRaise (fun x=>do noteFrame x env;theTreesLotGoes x)) _ _ s
 refine wpAny_noted ?_
 rw[Mx]
 refine wpAny_bind (wpAny_standAt (wpAny_bind (wpAny_mono (turn n s hI) (fun r s₁ h₁=>?_) fun _ _ h'=>h'.elim)))
 cases r with
 | none=>exact wpAny_pure h₁
 | some v =>
  refine wpAny_bind (wpAny_mono h₁ (fun _ s₂ h₂=>wpAny_bind (wpAny_mono h₂ (fun _ s₃ h₃=>wpAny_bind (wpAny_mono h₃ (fun ok s₄ h₄=>?_) fun _ _ h'=>h'.elim)) fun _ _ h'=>h'.elim)) fun _ _ h'=>h'.elim)
  cases ok with
  | false=>exact wpAny_pure ⟨rfl,h₄⟩
  | true =>
   refine wpAny_bind (wpAny_mono h₄ (fun x s₅ h₅=>wpAny_bind (wpAny_standAt (wpAny_bind (wpAny_of_eq (hs2 x) (wpAny_bind (wpAny_holding (wpAny_mono h₅ (fun S0 s₆ h₆=>?_) fun _ _ h'=>h'.elim))))))) fun _ _ h'=>h'.elim)
   refine wpAny_bind (wpAny_runOwn (codeAny_mono h₆ fun r s₇ ⟨⟨f,hf⟩,hm⟩=>?_))
   subst hf
   exact wpAny_pure ⟨rfl,hm⟩
end
section
variable {X:Cx} {N:List Str} {scope:Scope}
def Ar(wi:TI)(acc:Addr)(g:TG)(tt:TT)(te:TE):L2.St→Hp→(L2.St→Hp→Prop)→Prop:=fun σ H Nx=>wi σ H fun J H1 =>
 ∃ W:Nat→Nat→L2.St→Hp→Prop,(∃ m,W 0 m σ H1)∧∀ i m σ H,W i m σ H →
  (J.stop i H∧Nx σ H)∨(J.go i H∧∃ N2:L2.St→Hp→Prop,(∀ σ' H',N2 σ' H'→∃ m',m'<m∧W (i+1) m' σ' H')∧∀ x H',J.J3 i H x H'→g x σ H' fun σ2 H2=>tt σ2 H2 fun b H3 =>
   if b=true then te σ2 H3 fun v H4=>∃ xs,H4 acc=some (.lst xs)∧xs.length<sizeLine∧N2 σ2 (upd H4 acc (.lst (xs++[v]))) else N2 σ2 H3)
theorem CC{Y:Cx}{elt tg iter qM cN:Expr}{ifs jH:List Expr}{pos:Pos}{yX:TI}{g2:TG}{yY:TT}{te:TE}{acc:Addr}(hc:Y.calm=true)(hxe:Y.xe=fun _ _=>False)(hi:PI Y qM cN yX)(hg:PG Y qM g2)(ht:GV Y jH yY)(he:PE Y elt te)
  {pins:List (Addr × Obj)} {s:Shared} {σ:L2.St} {H:Hp} {Nx:L2.St→Hp→Prop} (I:Inv Y pins σ H s) (h:Ar yX acc g2 yY te σ H Nx) :
  wpAny (model Y.prog Y.w) Y.A (eval cN Y.env) (fun x s₅=>wpAny (model Y.prog Y.w) Y.A (pyIter x) (fun S0 s₆ =>
   codeAny (model Y.prog Y.w) Y.A (.compStart (.ListComp elt [⟨tg,iter,ifs,0⟩,⟨qM,cN,jH,0⟩] scope pos) 1 S0 (.ref acc) Y.env) (fun r s₇=>(∃ f,r=.ok f)∧∃ σ' H',Inv Y pins σ' H' s₇∧Nx σ' H') s₆) (fun _ _=>False) s₅) (fun _ _=>False) s:=by
 have hi':=hi pins s σ H _ I h
 have hg':=hg
 have ht':=ht
 have he':=he
 unfold PG at hg'
 unfold GV at ht'
 unfold PE at he'
 rw[hxe]at hi' hg' ht' he'
 refine cu hi' fun v s1 h1=>cu h1 fun itv s2 h2=>?_
 obtain⟨it,fp,tn,J,H2,e,I2,T,st2,f2,W,⟨m0,w0⟩,turn⟩:=h2
 subst e
 have oO:∀ {H':Hp},(∀ b∈fp,H' b=none)→∀ b∈fp,nH Y pins H' b:=fun hn b hb=>⟨hn b hb,(f2 b hb).2⟩
 have loop:codeAny (model Y.prog Y.w) Y.A (.compLoop (.ListComp elt [⟨tg,iter,ifs,0⟩,⟨qM,cN,jH,0⟩] scope pos) 1 (.ref it) (.ref acc) Y.env) (fun r s₇=>(∃ f,r=.ok f)∧∃ σ' H',Inv Y pins σ' H' s₇∧Nx σ' H') s2:=by
  refine Rl (fun n s'=>∃ i σ' H',Inv Y pins σ' H' s'∧tn i s'.heap∧(∀ b∈fp,H' b=none)∧W i n σ' H') ?_ m0 ⟨0,σ,H2,I2,st2,fun b hb=>(f2 b hb).1,w0⟩
  rintro n s6 ⟨i,σ6,H6,I6,Jf,GW,w6⟩
  rcases turn i n σ6 H6 w6 with ⟨stop,qn⟩|⟨go,N2,hN,step⟩
  ·refine cu (T.done Y rfl rfl rfl hc i pins s6 σ6 H6 _ I6 (oO GW) Jf stop) fun r s7 ⟨hr,I7⟩=>?_
   subst hr
   exact⟨⟨_,rfl⟩,σ6,H6,I7,qn⟩
  ·refine cu (T.item Y rfl rfl rfl hc i pins s6 σ6 H6 _ I6 (oO GW) Jf go) fun r s7 ⟨u,hr,h7⟩=>?_
   subst hr
   refine cu h7 fun _ s8 ⟨x,H8,I8,r8,y8,Dw,CA⟩=>?_
   have Oh:=I8.pinned (oO CA) (T.obj _ _ Dw)
   refine cu (hg' _ s8 σ6 H8 x u _ Oh r8 (step x H8 y8)) fun _ s9 ⟨σ9,H9,I9,q9⟩=>?_
   refine cu (ht' _ s9 σ9 H9 _ I9 q9) fun ok BO ⟨GX,Jg,vU⟩=>?_
   have again:∀ {σ7:L2.St} {H7:Hp} {nI:Shared},Inv Y (pins++rE fp s8.heap) σ7 H7 nI→N2 σ7 H7→∃ m,m<n∧∃ i σ' H',Inv Y pins σ' H' nI∧tn i nI.heap∧(∀ b∈fp,H' b=none)∧W i m σ' H':=fun {σ7 H7 nI} I7 n7=>by
    obtain⟨m',hm,w7⟩:=hN σ7 H7 n7
    refine⟨m',hm,i+1,σ7,H7,I7.mX,T.keep _ _ _ Dw fun b hb o e=>(I7.pin (b,o) (mW _ (mW _ (eE hb e)))).1,fun b hb=>?_,w7⟩
    obtain⟨o,e,d⟩:=T.obj _ _ Dw b hb
    exact (I7.pin (b,o) (mW _ (mW _ (eE hb e)))).2.1
   cases ok with
   | false =>
    rw[if_neg tP]at vU
    exact again Jg vU
   | true =>
    rw[if_pos rfl]at vU
    refine cu (he' _ BO σ9 GX _ Jg vU) fun v nI ⟨y,SY,Rj,UC,xs,hx,hz,UD⟩=>?_
    have ap:=cP _ nI σ9 SY (.ref acc) [y] (.ref acc) [v] (fun _ H'=>N2 σ9 H') Rj rfl (.cons UC .nil) ⟨_,xs,y,rfl,rfl,hx,hz,UD⟩
    rw[hxe]at ap
    exact cu ap fun _ s12 ⟨_,PV,Rk,_,Oi⟩=>again Rk Oi
 exact Ol loop (T.self _ _ _ _ _ st2 loop)
def Ji(J:It)(acc:Addr)(g:TG)(tt:TT)(yX:TI)(g2:TG)(yY:TT)(te:TE)(n:Nat)(H:Hp)(Q:VK):Prop :=
 ∃ W:Nat→Nat→L2.St→Hp→Prop,(∃ m,W 0 m (List.replicate n none) H)∧∀ i m σ H,W i m σ H →
  (J.stop i H∧Q (.ref acc) H)∨(J.go i H∧∃ Nx:L2.St→Hp→Prop,(∀ σ' H',Nx σ' H'→∃ m',m'<m∧W (i+1) m' σ' H')∧∀ x H',J.J3 i H x H'→g x σ H' fun σ2 H2=>tt σ2 H2 fun b H3 =>
   if b=true then Ar yX acc g2 yY te σ2 H3 Nx else Nx σ2 H3)
def Rm(n:Nat)(wi:TI)(g:TG)(tt:TT)(yX:TI)(g2:TG)(yY:TT)(te:TE):TE:=fun σ H Q=>wi σ H fun J H1=>∀ acc,H1 acc=none→Ji J acc g tt yX g2 yY te n (upd H1 acc (.lst [])) Q
theorem My{elt tg iter qM cN:Expr}{ifs jH:List Expr}{pos:Pos}{wi yX:TI}{g g2:TG}{tt yY:TT}{te:TE}(cs:xJ scope)(hc:X.calm=true)(hi:PI X tg iter wi)
  (hg:∀ C s₀ H₀ ex pn,PG (sE X N scope C s₀ H₀ ex pn) tg g) (ht:∀ C s₀ H₀ ex pn,GV (sE X N scope C s₀ H₀ ex pn) ifs tt)
  (hi2:∀ C s₀ H₀ ex pn,PI (sE X N scope C s₀ H₀ ex pn) qM cN yX) (UG:∀ C s₀ H₀ ex pn,PG (sE X N scope C s₀ H₀ ex pn) qM g2) (Fy:∀ C s₀ H₀ ex pn,GV (sE X N scope C s₀ H₀ ex pn) jH yY) (he:∀ C s₀ H₀ ex pn,PE (sE X N scope C s₀ H₀ ex pn) elt te)
  (hs:∀ x,foldedSetIterable iter X.env x=pure x:=by intro _;rfl) (hs2:∀ (env:Env) x,foldedSetIterable cN env x=pure x:=by intro _ _;rfl) :
  PE X (.ListComp elt [⟨tg,iter,ifs,0⟩,⟨qM,cN,jH,0⟩] scope pos) (Rm N.length wi g tt yX g2 yY te):=by
 intro pins s σ H Q I h
 refine wpAny_ListComp cs.free cs.kind cs.names (cu (hi pins s σ H _ I h) fun v s1 h1=>cu h1 fun itv s2 h2=>?_) hs
 obtain⟨it,fp,tn,J,H2,e,I2,T,st2,f2,q⟩:=h2
 subst e
 refine wpAny_newObj_type (hd:=by size_fits) ?_
 have hacc:H2 s2.heap.objs.size=none:=I2.hok.fresh (gQ _)
 have I3:Inv X pins σ (upd H2 s2.heap.objs.size (.lst [])) { s2 with heap:=s2.heap.push { cls:=.type "list",data:=.seq ([]:List Value).toArray },toks:=s2.toks }:=I2.Kf (ys:=[]) .nil (lI _)
 have Mu:∀ b∈fp,b<s2.heap.objs.size:=fun b hb=>by
  obtain⟨o,ho,_⟩:=T.obj _ _ st2 b hb
  exact Heap.lt_size ho
 have f3:∀ b∈fp,nH X pins (upd H2 s2.heap.objs.size (.lst [])) b:=fun b hb=>⟨by rw[aF (ko (Mu b hb))];exact (f2 b hb).1,(f2 b hb).2⟩
 have k3:∀ b o,s2.heap.get? b=some o→(s2.heap.push { cls:=.type "list",data:=.seq ([]:List Value).toArray }).get? b=some o:=fun b o e=>Heap.get?_push_of_some _ e
 have q3:=q _ hacc
 generalize Rh:({ s2 with heap:=s2.heap.push { cls:=.type "list",data:=.seq ([]:List Value).toArray },toks:=s2.toks }:Shared)=s3 at I3
 generalize hH3:upd H2 s2.heap.objs.size (.lst [])=H3 at I3 f3 q3
 have Mv:s3.heap=s2.heap.push { cls:=.type "list",data:=.seq ([]:List Value).toArray }:=by rw[← Rh]
 have Cz:∀ b∈fp,b<s3.heap.objs.size:=fun b hb=>by rw[Mv,Heap.size_push];exact Nat.lt_succ_of_lt (Mu b hb)
 have st3:tn 0 s3.heap:=T.keep _ _ _ st2 fun b _ o e=>by rw[Mv];exact k3 b o e
 show wpAny _ _ _ _ _ s3
 refine wpAny_newFunctionEnv cs.cell (fun y hy=>by simp at hy) (fun h₁ hns Kr=>?_) cs.kind
 have kh:∀ b o,s3.heap.get? b=some o→h₁.get? b=some o:=fun b o e=>Kr.extBut _ _ (ko (Heap.lt_size e)) (Heap.get?_push_of_some _ e)
 have J0:Inv (sE X N scope s3.heap.objs.size s3 H3 fp (X.pn++pins)) [] (List.replicate N.length none) H3 { s3 with heap:=h₁,toks:=s3.toks+([]:List (Str × Value)).length }:=Aq cs I3 f3 Cz hns kh
 have Mw:tn 0 h₁:=T.keep _ _ _ st3 fun b _ o e=>kh b o e
 obtain⟨W,⟨m0,w0⟩,turn⟩:=q3
 have oO:∀ {H':Hp},(∀ b∈fp,H' b=none)→∀ b∈fp,nH (sE X N scope s3.heap.objs.size s3 H3 fp (X.pn++pins)) [] H' b:=fun hn b hb=>by
  refine⟨hn b hb,ko (Cz b hb),fun z=>?_,.inl hb,fun x c e=>?_,fun p hp=>?_⟩
  ·rcases List.mem_cons.mp (I3.qv b z) with e|e
   ·exact (f3 b hb).2.1 e
   ·exact (f3 b hb).2.2.1 e
  ·have e':(none:Option Addr)=some c:=e
   cases e'
  ·have Jd:p∈X.pn++pins:=by
    have z:p∈(X.pn++pins)++[]:=hp
    simpa using z
   exact (f3 b hb).2.2.2.2.2 p Jd
 have loop:∀ s5:Shared,s5={ s3 with heap:=h₁,toks:=s3.toks+([]:List (Str × Value)).length }→codeAny (model X.prog X.w) X.A (.compLoop (.ListComp elt [⟨tg,iter,ifs,0⟩,⟨qM,cN,jH,0⟩] scope pos) 0 (.ref it) (.ref s2.heap.objs.size) (sE X N scope s3.heap.objs.size s3 H3 fp (X.pn++pins)).env)
   (fun r s'=>∃ m,s'.heap.Ns s3.heap.objs.size m∧∀ h',Heap.SameBut s3.heap.objs.size s'.heap h'→match r with
    | .ok _=>EP X pins σ Q (.ref s2.heap.objs.size) { s' with heap:=h' }
    | .error x=>wpAny (model X.prog X.w) X.A (passOn "comprehension.variables-let-go" x (sE X N scope s3.heap.objs.size s3 H3 fp (X.pn++pins)).env) (EP X pins σ Q) X.xe { s' with heap:=h' }) s5:=by
  rintro s5 rfl
  refine Jh (fun n s'=>∃ i σ' H',Inv (sE X N scope s3.heap.objs.size s3 H3 fp (X.pn++pins)) [] σ' H' s'∧tn i s'.heap∧(∀ b∈fp,H' b=none)∧W i n σ' H') (hs2 _) ?_ m0 ⟨0,_,H3,J0,Mw,fun b hb=>(f3 b hb).1,w0⟩
  rintro n s6 ⟨i,σ6,H6,I6,Jf,GW,w6⟩
  rcases turn i n σ6 H6 w6 with ⟨stop,qn⟩|⟨go,Nx,hN,step⟩
  ·refine cu (T.done (sE X N scope s3.heap.objs.size s3 H3 fp (X.pn++pins)) rfl rfl rfl hc i [] s6 σ6 H6 _ I6 (oO GW) Jf stop) fun r s7 ⟨hr,I7⟩=>?_
   subst hr
   obtain⟨m,hm,_⟩:=I7.loc
   exact⟨m,hm,fun h' Ri=>⟨.ref s2.heap.objs.size,H6,Fx I3 f3 I7 Ri,rfl,qn⟩⟩
  ·refine cu (T.item (sE X N scope s3.heap.objs.size s3 H3 fp (X.pn++pins)) rfl rfl rfl hc i [] s6 σ6 H6 _ I6 (oO GW) Jf go) fun r s7 ⟨u,hr,h7⟩=>?_
   subst hr
   refine cu h7 fun _ s8 ⟨x,H8,I8,r8,y8,Dw,CA⟩=>?_
   have Oh:=I8.pinned (oO CA) (T.obj _ _ Dw)
   refine cu (hg _ _ _ _ _ _ s8 σ6 H8 x u _ Oh r8 (step x H8 y8)) fun _ s9 ⟨σ9,H9,I9,q9⟩=>?_
   refine cu (ht _ _ _ _ _ _ s9 σ9 H9 _ I9 q9) fun ok BO ⟨GX,Jg,vU⟩=>?_
   have again:∀ {σ7:L2.St} {H7:Hp} {nI:Shared},Inv (sE X N scope s3.heap.objs.size s3 H3 fp (X.pn++pins)) ([]++rE fp s8.heap) σ7 H7 nI→Nx σ7 H7→∃ m,m<n∧∃ i σ' H',Inv (sE X N scope s3.heap.objs.size s3 H3 fp (X.pn++pins)) [] σ' H' nI∧tn i nI.heap∧(∀ b∈fp,H' b=none)∧W i m σ' H':=fun {σ7 H7 nI} I7 n7=>by
    obtain⟨m',hm,w7⟩:=hN σ7 H7 n7
    refine⟨m',hm,i+1,σ7,H7,I7.mX,T.keep _ _ _ Dw fun b hb o e=>(I7.pin (b,o) (mW _ (mW _ (eE hb e)))).1,fun b hb=>?_,w7⟩
    obtain⟨o,e,d⟩:=T.obj _ _ Dw b hb
    exact (I7.pin (b,o) (mW _ (mW _ (eE hb e)))).2.1
   cases ok with
   | false =>
    rw[if_neg tP]at vU
    exact again Jg vU
   | true =>
    rw[if_pos rfl]at vU
    refine cu (CC (Y:=sE X N scope s3.heap.objs.size s3 H3 fp (X.pn++pins)) hc rfl (hi2 _ _ _ _ _) (UG _ _ _ _ _) (Fy _ _ _ _ _) (he _ _ _ _ _) Jg vU) fun x nI h11=>cu h11 fun S0 s12 h12=>codeAny_mono h12 fun r yJ ⟨hr,σ',H',I13,n13⟩=>⟨hr,again I13 n13⟩
 exact codeAny_compStart_list (loop _ rfl) (T.self _ _ _ _ _ Mw (loop _ rfl))
theorem HF{K:PySem.W.Frag}{a acc:Addr}{xs:List V}{g:TG}{tt:TT}{yX:TI}{g2:TG}{yY:TT}{te:TE}{n:Nat}{H:Hp}{Q:VK}(Pv:Nat→L2.St→Hp→Prop)(h0:Pv 0 (List.replicate n none) H)(hl:∀ i σ H,i≤xs.length→Pv i σ H→bN K H a xs)
  (hs:∀ i x σ H,xs[i]?=some x→Pv i σ H→g x σ H fun σ2 H2=>tt σ2 H2 fun b H3=>if b=true then Ar yX acc g2 yY te σ2 H3 (Pv (i+1)) else Pv (i+1) σ2 H3)
  (hd:∀ σ H,Pv xs.length σ H→Q (.ref acc) H):Ji (J5 K a) acc g tt yX g2 yY te n H Q:=by
 refine⟨fun i m σ H=>m=xs.length-i∧i≤xs.length∧Pv i σ H,⟨xs.length,by simp,lI _,h0⟩,?_⟩
 rintro i m σ H ⟨rfl,hi,p⟩
 have q:=hl i σ H hi p
 by_cases hlt:i<xs.length
 ·refine .inr ⟨⟨xs,xs[i],q,by simp[hlt]⟩,Pv (i+1),fun σ' H' p'=>⟨xs.length-(i+1),by omega,rfl,hlt,p'⟩,fun x H' y=>?_⟩
  obtain⟨e,y⟩:=y
  subst e
  exact hs i x σ _ (y xs q) p
 ·have e:i=xs.length:=by omega
  subst e
  exact .inl ⟨⟨xs,q,gQ _⟩,hd σ H p⟩
theorem Fz{lo:Int}{k:Nat}{acc:Addr}{g:TG}{tt:TT}{te:TE}{σ:L2.St}{H:Hp}{Nx:L2.St→Hp→Prop}(Pv:Nat→L2.St→Hp→Prop)(h0:Pv 0 σ H)
  (hs:∀ i σ H,i<k→Pv i σ H→g (.int (lo+i)) σ H fun σ2 H2=>tt σ2 H2 fun b H3=>if b=true then te σ2 H3 fun v H4=>∃ ys,H4 acc=some (.lst ys)∧ys.length<sizeLine∧Pv (i+1) σ2 (upd H4 acc (.lst (ys++[v]))) else Pv (i+1) σ2 H3)
  (hd:∀ σ H,Pv k σ H→Nx σ H):∃ W:Nat→Nat→L2.St→Hp→Prop,(∃ m,W 0 m σ H)∧∀ i m σ H,W i m σ H →
  ((J6 lo k).stop i H∧Nx σ H)∨((J6 lo k).go i H∧∃ N2:L2.St→Hp→Prop,(∀ σ' H',N2 σ' H'→∃ m',m'<m∧W (i+1) m' σ' H')∧∀ x H',(J6 lo k).J3 i H x H'→g x σ H' fun σ2 H2=>tt σ2 H2 fun b H3 =>
   if b=true then te σ2 H3 fun v H4=>∃ xs,H4 acc=some (.lst xs)∧xs.length<sizeLine∧N2 σ2 (upd H4 acc (.lst (xs++[v]))) else N2 σ2 H3):=by
 refine⟨fun i m σ H=>m=k-i∧i≤k∧Pv i σ H,⟨k,by simp,lI _,h0⟩,?_⟩
 rintro i m σ H ⟨rfl,hi,p⟩
 by_cases hlt:i<k
 ·refine .inr ⟨hlt,Pv (i+1),fun σ' H' p'=>⟨k-(i+1),by omega,rfl,hlt,p'⟩,fun x H' y=>?_⟩
  obtain⟨e,y⟩:=y
  subst e y
  exact hs i σ _ hlt p
 ·have e:i=k:=by omega
  subst e
  exact .inl ⟨Nat.le_refl _,hd σ H p⟩
end
theorem Rn{i:Nat}{v:V}{σ:L2.St}{H:Hp}{Q:L2.St→Bool→Hp→Prop}(h:Q (σ.set i (some v)) true H):vZ i v σ H (fun σ2 H2=>Kq σ2 H2 (Q σ2)):=h
theorem yes{σ:L2.St}{H:Hp}{Q:Bool→Hp→Prop}(h:Q true H):Kq σ H Q:=h
section
variable {X:Cx} {N:List Str} {scope:Scope} {C:Addr} {s₀:Shared} {H₀:Hp} {ex:List Addr} {pn:List (Addr × Obj)}
theorem Dy{es:List Expr}{k:Nat}{t:Px}{n:Nat}{pos:Pos}(hc:X.calm=true)(h:SO (sE X N scope C s₀ H₀ ex pn) es t)
  (hn:(assignEach es (sE X N scope C s₀ H₀ ex pn).env).length=n:=by rfl) (hst:(assignEach es (sE X N scope C s₀ H₀ ex pn).env).findIdx? (·.1)=none:=by rfl):PG (sE X N scope C s₀ H₀ ex pn) (.Tuple es k pos) (NW X.K n t):=rD (X:=sE X N scope C s₀ H₀ ex pn) hc h hn hst
theorem Jj:QZ (sE X N scope C s₀ H₀ ex pn) (LZ X.K):=eF
end
end dD
namespace jm
open PySem L2 dD
inductive Dz(vs:List V)(H:Hp)(Q:VK)(E:XK):Prop
 | mk (r:Addr) (row:Row) (_:vs=[.ref r]) (_:bQ H r row) (_:(∀ p∈row,p.1≤p.2)) (_:(aS row).length≤1000000) (_ :
 ∀ (n:Addr) (H':Hp),H' n=some (.lst ((aS row).map V.int))→aH H H'→H n=none→Q (.ref n) H'):Dz vs H Q E
theorem As{row:Row}{i:Nat}{p:Int × Int}(h:row[i]?=some p):aS (row.take (i+1))=aS (row.take i)++span p:=by
 rw[take_snoc h,cI,iL]
theorem uW(row:Row)(i:Nat):(aS (row.take i)).length≤(aS row).length:=by
 conv=>rhs;rw[← List.take_append_drop i row,cI,dU]
 omega
theorem grown{H0 H2:Hp}{q t:Addr}{bs:List Addr}{row:Row}{st en:Int}(UH:H0 q=none)(s:aH H0 H2)(hq2:H2 q=some (.lst (bs.map V.ref)))(hb:bf H2 bs row)(ht:H2 t=none) :
  (upd (upd H2 t (.tup [.int st,.int en])) q (.lst (bs.map V.ref++[.ref t]))) q=some (.lst ((bs++[t]).map V.ref)) ∧
  bf (upd (upd H2 t (.tup [.int st,.int en])) q (.lst (bs.map V.ref++[.ref t]))) (bs++[t]) (row++[(st,en)])∧aH H0 (upd (upd H2 t (.tup [.int st,.int en])) q (.lst (bs.map V.ref++[.ref t]))):=by
 have Ro:q≠t:=au hq2 ht
 have s1:aH H2 (upd H2 t (.tup [.int st,.int en])):=aj ht _
 refine⟨by rw[af,lH];rfl,?_,cD UH (s.trans s1) (aK q _ _)⟩
 refine bf.snoc ((hb.same s1).keep (s1 _ _ hq2) (aK q _ _)) ?_
 show upd _ q _ t=_
 rw[aF Ro.symm,af]
theorem turned{H0 H2:Hp}{q t a:Addr}{bs:List Addr}{row:Row}{st en:Int}(UH:H0 q=none)(s:aH H0 H2)(hq2:H2 q=some (.lst (bs.map V.ref++[.ref a])))(hb:bf H2 bs row)(ht:H2 t=none) :
  (upd (upd H2 t (.tup [.int st,.int en])) q (.lst ((bs.map V.ref++[V.ref a]).set bs.length (V.ref t)))) q=some (.lst ((bs++[t]).map V.ref)) ∧
  bf (upd (upd H2 t (.tup [.int st,.int en])) q (.lst ((bs.map V.ref++[V.ref a]).set bs.length (V.ref t)))) (bs++[t]) (row++[(st,en)])∧aH H0 (upd (upd H2 t (.tup [.int st,.int en])) q (.lst ((bs.map V.ref++[V.ref a]).set bs.length (V.ref t)))):=by
 have Ro:q≠t:=au hq2 ht
 have s1:aH H2 (upd H2 t (.tup [.int st,.int en])):=aj ht _
 have e:(bs.map V.ref++[V.ref a]).set bs.length (V.ref t)=(bs++[t]).map V.ref:=by
  have z:=Fw (bs.map V.ref) (V.ref a) (V.ref t)
  rw[cA]at z
  rw[z,lH];rfl
 rw[e]
 refine⟨af,?_,cD UH (s.trans s1) (aK q _ _)⟩
 refine bf.snoc ((hb.same s1).keep (s1 _ _ hq2) (aK q _ _)) ?_
 show upd _ q _ t=_
 rw[aF Ro.symm,af]
theorem Rp(bs:List Addr)(a:Addr):Ls (bs.map V.ref++[V.ref a]).length (-1)=some bs.length:=by
 rw[dU,cA,lK]
 exact Fv _
theorem Kw{f:Row→Int × Int→Row}{row:Row}{i:Nat}{p:Int × Int}(h:row[i]?=some p):(row.take (i+1)).foldl f []=f ((row.take i).foldl f []) p:=foldl_take_succ f row [] i p h
theorem FA(row:Row):∀ t:Row,(row.foldl dP t).length≤t.length+row.length:=by
 induction row with
 | nil=>intro t;simp
 | cons p row ih =>
  intro t
  have h1:=ih (dP t p)
  have h2:(dP t p).length≤t.length+1:=by
   unfold dP
   split
   ·omega
   ·exact yH _ _ _
  rw[qt,nG]
  omega
theorem FD(ns:List Int):∀ t:Row,(ns.foldl (fun t n=>grow t n (n+1)) t).length≤t.length+ns.length:=by
 induction ns with
 | nil=>intro t;simp
 | cons n ns ih =>
  intro t
  have h1:=ih (grow t n (n+1))
  have h2:=yH t n (n+1)
  rw[qt,nG]
  omega
end jm
namespace jm
open PySem PySem.Spec PyProof.Rows L2 dD
inductive DA(vs:List V)(H:Hp)(Q:VK)(E:XK):Prop
 | mk (r:Addr) (row:Row) (_:vs=[.ref r]) (_:bQ H r row) (_:row.length≤1000000) (_: ∀ H',aH H H'→Q (.int (tot row)) H'):DA vs H Q E
end jm
namespace j4
open PySem PySem.Spec PyProof.Rows PySem.W L2
section
variable {P:Program} {w:World} {H H':Hp} {h h0 g:Heap} {a T:Addr} {C a0:Value} {o:HO}
theorem Om(x:gS P w H h a o):∃ u,h.get? a=some u:=by
 cases o with
 | lst xs=>obtain⟨_,_,_,_,e⟩:=x;exact⟨_,e⟩
 | tup xs=>obtain⟨_,_,_,_,e,_⟩:=x;exact⟨_,e⟩
 | dK kvs=>obtain⟨_,_,_,_,_,_,_,e,_⟩:=x;exact⟨_,e⟩
 | dT kvs=>obtain⟨_,_,_,_,_,_,_,e,_⟩:=x;exact⟨_,e⟩
 | set S n=>obtain⟨_,_,_,_,e,_⟩:=x;exact⟨_,e⟩
 | ins C dx fs=>obtain⟨_,_,_,e,_⟩:=x;exact⟨_,e⟩
 | own y=>exact x
 | xd fs=>obtain⟨_,⟨_,_,_,e,_⟩,_⟩:=x;exact⟨_,e⟩
 | EO lo hi=>obtain⟨_,_,_,e⟩:=x;exact⟨_,e⟩
 | Hf ob u=>exact⟨_,x.1⟩
 | NR ps=>exact⟨_,x⟩
 | met f y=>exact⟨_,x⟩
 | ext φ=>exact x.2.1
theorem Jk(x:tQ P w H h){b:Addr}(e:h.get? b=none):H b=none:=by
 cases q:H b with
 | none=>rfl
 | some u =>
  obtain⟨z,hz⟩:=Om (x b u q)
  rw[e]at hz
  cases hz
theorem CF{l:List Addr}{b:Addr}(e:(hideAll h l).get? b=none):b∈l∨h.get? b=none:=by
 by_cases hb:b∈l
 ·exact .inl hb
 ·right
  cases q:h.get? b with
  | none=>rfl
  | some u=>rw[hideAll_get l q hb]at e;cases e
def Fly(h0:Heap)(H:Hp)(h:Heap)(a T:Addr)(C a0:Value):Prop :=
 (∃ oe vs oT ts,h.get? a=some oe∧(oe.cls=C∧vs[0]?=some a0)∧oe.data=.fields vs∧vs[1]?=some (.ref T)∧T≠a∧h.get? T=some oT∧oT.data=.fields ts∧ts[3]?=some .none)∧(H a=none∧H T=none)∧h0.get? a=none∧h0.get? T=none
theorem FE{fs hd:List Addr}{l':List Env}(u:Un fs [] H H' h0 h)(hok:tQ P w H' h)(h1:∀ b o,h0.get? b=some o→b∉fs→b∉hd)(h2:∀ b∈hd,H' b=none)
  (h3:∀ b∈fs,∃ o,h.get? b=some o∧∀ vs,o.data≠.fields vs) (h4:∀ b∈hd,h0.get? b=none∨∃ o,h.get? b=some o∧∀ vs,o.data≠.fields vs)
  (ha:h0.get? a=none) (ha':H' a=none) (f:Heap.FlyingW (hideAll h hd) l' a C a0 g) (k:h.UpToSlots g) :
  Un fs [] H H' h0 g∧tQ P w H' g∧∃ T,Fly h0 H' g a T C a0:=by
 have nil:∀ b:Addr,b∉([]:List Addr):=fun b=>List.not_mem_nil
 have kp:∀ b o,h.get? b=some o→b∉hd→g.get? b=some o:=fun b o e n=>f.1 b o (hideAll_get hd e n)
 refine⟨⟨fun b o e n hb _=>kp b o (u.keep b o e n hb (nil b)) (h1 b o e hb),fun b o e n hb _=>?_,fun b o e n _=>u.free b o e n (nil b),fun b o e _=>?_,u.tups,u.BI,u.Dk⟩,fun b o e=>?_,?_⟩
 ·obtain⟨sl,e1⟩:=u.slot b o e n hb (nil b)
  obtain⟨o',e2,nf⟩:=h3 b hb
  obtain⟨Wv,e3⟩:=k b o' e2 nf
  rw[e1]at e2
  cases e2
  exact⟨Wv,e3⟩
 ·by_cases hb:b∈fs
  ·obtain⟨o',e2,nf⟩:=h3 b hb
   obtain⟨Wv,e3⟩:=k b o' e2 nf
   exact⟨_,e3⟩
  ·obtain⟨o',e1⟩:=u.there b o e (nil b)
   exact⟨o',kp b o' e1 (h1 b o e hb)⟩
 ·refine (hok b o e).stay (fun c v hc q=>kp c v q fun hm=>?_) (fun _ q=>q) fun _ _ q=>q
  have hn:=h2 c hm
  rcases hc with rfl|hc
  ·rw[e]at hn;cases hn
  ·rw[hc]at hn;cases hn
 ·obtain⟨_,_,_,oe,vs,T,oT,ts,e1,e2,e3,e4,e5,e6,e7,e8,e9⟩:=f
  refine⟨T,⟨oe,vs,oT,ts,e1,e2,e3,e4,e6,e7,e8,e9⟩,⟨ha',?_⟩,ha,?_⟩
  ·rcases CF e5 with hm|hn
   ·exact h2 T hm
   ·exact Jk hok hn
  ·rcases CF e5 with hm|hn
   ·rcases h4 T hm with z|⟨o,eo,nf⟩
    ·exact z
    ·obtain⟨sl,eg⟩:=k T o eo nf
     rw[e7]at eg
     cases eg
     exact absurd e8 (nf ts)
   ·cases q:h0.get? T with
    | none=>rfl
    | some o =>
     obtain⟨o',eo⟩:=u.there T o q (nil T)
     rw[hn]at eo
     cases eo
theorem HG{base:Heap}{l:List Env}(F:Fly h0 H h a T C a0)(S:h.FunFrames base l):Heap.FlyingW (hideAll h (a::T::frs l)) l a C a0 h:=by
 obtain⟨⟨oe,vs,oT,ts,e1,e2,e3,e4,e5,e6,e7,e8⟩,_,_⟩:=F
 refine⟨fun b o e=>of_hideAll _ e,hideAll_none _ (sD),funFrames_hide S fun env he b hb=>?_,oe,vs,T,oT,ts,e1,e2,e3,e4,?_,e5,e6,e7,e8⟩
 ·exact sJ _ (sJ _ (List.mem_filterMap.mpr ⟨env,he,hb⟩))
 ·exact hideAll_none _ (sJ _ sD)
end
def nB(P:Program)(w:World):LS:=fun outer H s E e s'=>∃ a T C a0 H',e=.ref a∧(s'.os=s.os∧AllBare s'.gens)∧Un (frs outer) [] H H' s.heap s'.heap∧tQ P w H' s'.heap∧Fly s.heap H' s'.heap a T C a0∧E C none H'
section
variable {X:Cx} {pins:List (Addr × Obj)} {σ:L2.St} {H H1:Hp} {s s':Shared} {a T:Addr} {C a0:Value}
theorem Mz(hst:X.stack=X.env::X.outer)(hf:X.env.frame=some X.env.locals):frs X.stack=X.env.locals::X.fs:=by
 rw[hst]
 unfold frs
 rw[List.filterMap_cons,hf]
 rfl
theorem CG(I:Inv X pins σ H s):∀ b∈frs X.stack,∃ o,s.heap.get? b=some o∧∀ vs,o.data≠.fields vs:=fun b hb=>(I.stack.mem hb).2
end
section
variable {P:Program} {w:World} {K:PySem.W.Frag} {mg:Str→Option Value} {base:Heap} {N:List Str} {qual:Str} {scope:Scope} {f:Addr} {cd:Value} {A:Around} {outer:List Env} {s:Shared} {H:Hp} {E:XK}
abbrev Lu(P:Program)(w:World)(K:PySem.W.Frag)(mg:Str→Option Value)(base:Heap)(N:List Str)(qual:Str)(scope:Scope)(f:Addr)(cd:Value)(A:Around)(outer:List Env)(s:Shared)(H:Hp)(E:XK):Cx :=
 Ht (nB P w) P w K mg base N qual scope f cd A outer s H E
theorem kr:Passes (nB P w) (Lu P w K mg base N qual scope f cd A outer s H E) E:=by
 intro pins σ H1 s1 e s' I h
 obtain⟨a,T,C,a0,H',rfl,⟨os,bare⟩,u,hok,F,q⟩:=h
 have I1:Inv (Lu P w K mg base N qual scope f cd A outer s H E) pins σ H' s':=I.LI (ch:=[]) os u hok bare (fun b z=>absurd z (by simp))
 obtain⟨_,⟨na,nT⟩,sa,sT⟩:=id F
 have old:∀ b,s1.heap.get? b=none→s.heap.get? b=none:=fun b e=>by
  cases z:s.heap.get? b with
  | none=>rfl
  | some o =>
   obtain⟨o',e'⟩:=I.base.there b o z (fun m=>absurd (show b∈([]:List Addr) from m) (by simp))
   rw[e]at e'
   cases e'
 refine wpAny_leaves_onW (base:=hideAll s'.heap (a::T::frs (Lu P w K mg base N qual scope f cd A outer s H E).stack)) I.ok.frames rfl (HG F I1.stack) fun g fl k=>?_
 have p1:∀ b o,s.heap.get? b=some o→b∉frs outer→b∉a::T::frs (Lu P w K mg base N qual scope f cd A outer s H E).stack:=fun b o e hb hm=>by
  rcases List.mem_cons.mp hm with rfl|hm
  ·rw[old b sa]at e;cases e
  rcases List.mem_cons.mp hm with rfl|hm
  ·rw[old b sT]at e;cases e
  ·rw[Mz rfl rfl]at hm
   rcases List.mem_cons.mp hm with rfl|hm
   ·exact absurd (Heap.lt_size e) (Nat.not_lt.mpr I.ok.above)
   ·exact hb hm
 have p2:∀ b∈a::T::frs (Lu P w K mg base N qual scope f cd A outer s H E).stack,H' b=none:=fun b hm=>by
  rcases List.mem_cons.mp hm with rfl|hm
  ·exact na
  rcases List.mem_cons.mp hm with rfl|hm
  ·exact nT
  ·exact I1.vX b hm
 have p4:∀ b∈a::T::frs (Lu P w K mg base N qual scope f cd A outer s H E).stack,s.heap.get? b=none∨∃ o,s'.heap.get? b=some o∧∀ vs,o.data≠.fields vs:=fun b hm=>by
  rcases List.mem_cons.mp hm with rfl|hm
  ·exact .inl (old b sa)
  rcases List.mem_cons.mp hm with rfl|hm
  ·exact .inl (old b sT)
  ·exact .inr (CG I1 b hm)
 obtain⟨u',Mc,T',F'⟩:=FE (h0:=s.heap) (fs:=frs outer) (hd:=a::T::frs (Lu P w K mg base N qual scope f cd A outer s H E).stack) I1.base hok p1 p2 (fun b hb=>(I1.vW.mem hb).2) p4 (old a sa) na fl k
 exact⟨a,T',C,a0,H',rfl,⟨I1.os,bare⟩,u',Mc,F',q⟩
def Raises(X:Cx)(E:XK):Prop:=∀ (pins:List (Addr × Obj)) (σ:L2.St) (H:Hp) (s:Shared) (h':Heap) (e:Addr) (C:Value) (args:List Value),Inv X pins σ H s→Heap.MadeExcOf s.heap h' e C args→E C none H→X.xe (.ref e) { s with heap:=h' }
theorem xM:Raises (Lu P w K mg base N qual scope f cd A outer s H E) E:=by
 intro pins σ H1 s1 h' e C args I M q
 have old:∀ b,s1.heap.get? b=none→s.heap.get? b=none:=fun b e=>by
  cases z:s.heap.get? b with
  | none=>rfl
  | some o =>
   obtain⟨o',e'⟩:=I.base.there b o z (fun m=>absurd (show b∈([]:List Addr) from m) (by simp))
   rw[e]at e'
   cases e'
 refine wpAny_leaves_madeW (base:=hideAll s1.heap (frs (Lu P w K mg base N qual scope f cd A outer s H E).stack)) (h:=s1.heap) I.ok.frames rfl (fun b o e=>of_hideAll _ e) (funFrames_hide I.stack fun env he b hb=>List.mem_filterMap.mpr ⟨env,he,hb⟩) M fun g t fl _ _ k=>?_
 have k1:s1.heap.UpToSlots g:=(Heap.UpToSlots.of_keeps M.keeps).trans k
 have p1:∀ b o,s.heap.get? b=some o→b∉frs outer→b∉frs (Lu P w K mg base N qual scope f cd A outer s H E).stack:=fun b o e hb hm=>by
  rw[Mz rfl rfl]at hm
  rcases List.mem_cons.mp hm with rfl|hm
  ·exact absurd (Heap.lt_size e) (Nat.not_lt.mpr I.ok.above)
  ·exact hb hm
 obtain⟨u',Mc,T',F'⟩:=FE (h0:=s.heap) (fs:=frs outer) (hd:=frs (Lu P w K mg base N qual scope f cd A outer s H E).stack) I.base I.hok p1 (fun b hm=>I.vX b hm) (fun b hb=>(I.vW.mem hb).2) (fun b hm=>.inr (CG I b hm)) (old e M.new) (Jk I.hok M.new) fl k1
 exact⟨e,T',C,.ref t,H1,rfl,⟨I.os,I.bare⟩,u',Mc,F',q⟩
theorem ER{x qual:Str}{st:Stmt}{f:Addr}{fd:FuncData}{N ps:List Str}{k:Nat}{sp:Sp}(F:iI K x qual st f fd)(S:aJ N ps (ay st))(len:∀ vs H Q E,sp vs H Q E→vs.length=ps.length)
  (hbody:∀ (cdv:Value) (A:Around) (outer:List Env) (s:Shared) (H:Hp) (vs:List V) (Q:VK) (E:XK),lJ k (A.deeper (envOfC qual (ay st) s.heap.objs.size f cdv))→sp vs H Q E →
   ∃ t,IK (Lu P w K mg base N qual (ay st) f cdv A outer s H E) (lN st) t∧t { nx:=fun _ H'=>Q .jw H',rt:=Q } (start N vs) H):aC P w K mg base (nB P w) (k+1) f fd ps sp:=by
 obtain⟨oc,od,kV,doc,pm,an,cdv,ct,osl,rfl,lk,hcd⟩:=F.ex
 exact PL lk hcd S len fun A outer s H vs Q E hr Hu=>hbody cdv A outer s H vs Q E hr Hu
end
section
variable {X:Cx}
theorem Oo{K:Frag}{h:Heap}{C:Addr}{bmB:List Value}{newId:String}{x:Str}{mg:Str→Option Value}(I:K.In h)(m:mg x=some (.ref C))(q:excIn K C bmB newId=true):OwnCls x C bmB newId mg h:=by
 refine⟨m,?_⟩
 unfold excIn at q
 split at q
 case h_2=>cases q
 rename_i dd cd sl ho
 split at q
 case h_2=>cases q
 rename_i c1 bm k0 k1 k2 k3 n k5 hm hs
 simp only[Bool.and_eq_true,beq_iff_eq,Bool.not_eq_true']at q
 obtain⟨⟨⟨⟨⟨e1,e2⟩,aeg⟩,ht⟩,hno⟩,hni⟩:=q
 cases e1
 cases e2
 cases cd with
 | mk nm bs mro ns qn hd sn sub ab col del =>
  cases hm
  cases aeg
  cases sl with
  | mk l =>
   have hs':l=[k0,k1,k2,k3,some (.builtin newId),k5]:=hs
   subst hs'
   exact⟨bm,ns,nm,qn,bs,hd,sn,sub,ab,col,dd,k0,k1,k2,k3,k5,_,I _ _ ho,.of_isNs (isNs_of_in I hno),nsMap_none_of_in I hno hni,tail_of_in I ht⟩
def Rq(C:Addr)(E:XK)(t:TA):TS:=fun _ σ H=>t σ H fun vs H1=>vs.length≤sizeLine∧E (.ref C) none H1
theorem qN{E:XK}{x:Str}{C:Addr}{bmB:List Value}{newId initId B:String}{e:Expr}{es:List Expr}{t:TA}{np cpos pos:Pos}(FB:ExcBaseFacts B newId initId bmB)(hx:excIn X.K C bmB newId=true)(hm:X.mg x=some (.ref C))(hc:X.calm=true)(hr:Raises X E)
  (ha:PA X (e::es) t) (hg:Gl X x:=by rfl) (hdb:(x == ("__debug__":Str))=false:=by decide) (he:starEach (e::es) X.env=(false,eval e X.env)::starEach es X.env:=by rfl) (hpl:(backTo cpos (starEach es X.env)).any (·.1)=false:=by rfl) :
  PS X (.Raise (some (.Call (.Name x np) (e::es) [] cpos)) none pos) (Rq C E t):=by
 intro pins s σ H D I h
 obtain⟨tl,Nd,c1,c2,c3,c4,c5,c6,c7,c8,c9,d0,d1,d2,d3,d5,mN,hC,hN,hni,T⟩:=(Oo I.mod.TL hm hx).obj
 refine wpAny_Raise_call_subT (nm:=c1) (q:=c2) (N:=Nd) (bs:=c3) (hdct:=c4) (sn:=c5) (sub:=c6) (ab:=c7) (col:=c8) (dd:=c9) (k0:=d0) (k1:=d1) (k2:=d2) (k3:=d3) (k5:=d5) FB (T.hasType FB.hasBase) (I.ok.hd hc) (by rw[he];show (false || (backTo cpos (starEach es X.env)).any (·.1))=false;rw[hpl];rfl) hni (vY I hg hm ⟨rfl,?_⟩ hdb)
 rw[he]
 have hw:=ha cpos pins s σ H _ I h
 rw[he]at hw
 refine Calls.evalArgs_plain (cu hw fun us s1 ⟨vs,H1,I1,r,q1,q2⟩=>?_)
 exact⟨rfl,by rw[← r.length];exact q1,I1.bk _ _ hC,hN.keeps I1.bk,T.keeps I1.bk,fun h' e M=>hr pins σ H1 s1 h' e _ _ I1 M q2⟩
end
section
variable {X:Cx} {x:Str} {st:Stmt} {ps:List Str} {f:Addr} {fd:FuncData} {j k:Nat} {sp:Sp} {e:Expr} {es:List Expr} {t:TA} {p pos:Pos} {E:XK}
theorem n8(d:jm.aA X.K X.mg x st ps f fd)(G:aC X.prog X.w X.K X.mg X.base (nB X.prog X.w) k f fd ps sp)(hr:lJ j X.A)(hx:Passes (nB X.prog X.w) X E)
  (ha:PA X (e::es) t) (hjk:k≤j:=by first|decide|omega) (hg:Gl X x:=by rfl) (hdb:(x == ("__debug__":Str))=false:=by decide) (he:starEach (e::es) X.env=(false,eval e X.env)::starEach es X.env:=by rfl)
  (hpl:(backTo pos (starEach es X.env)).any (·.1)=false:=by rfl):PE X (.Call (.Name x p) (e::es) [] pos) (E8 sp [] E t) :=
 Dr G (hr.mono hjk) hg d.m d.F.kp d.b .nil hx ha hdb he hpl
end
end j4
namespace j4
open PySem PySem.Spec PyProof.Rows L2
section
variable {X:Cx}
abbrev TJ:=L2.St→Hp→(Hp→Prop)→Prop
def PJ(X:Cx)(es:List Expr)(m:Nat)(t:TJ):Prop:=∀ (pins:List (Addr × Obj)) (s:Shared) (σ:L2.St) (H:Hp) (out:Str) (Q:Hp→Prop),L2.Inv X pins σ H s→t σ H Q→out.length+m≤1000000 →
 wpAny (model X.prog X.w) X.A (joinParts out (evalEach es X.env)) (fun u s'=>∃ x tk H',u=.str x tk∧L2.Inv X pins σ H' s'∧Q H') X.xe s
theorem xN:PJ X [] 0 (fun _ H Q=>Q H):=fun pins s σ H out Q I h hl =>
 joinParts_nil ⟨out,_,H,rfl,I.tok _,h⟩ (iR (Nat.lt_of_le_of_lt hl (by decide)))
theorem zB{out y:Str}{m n:Nat}(h:out.length+(n+m)≤1000000)(hy:y.length≤n):(out++y).length≤sizeLine∧(out++y).length+m≤1000000:=by
 rw[PySem.strLen_append]
 refine⟨Nat.le_of_lt (Nat.lt_of_le_of_lt (show out.length+y.length≤1000000 by omega) (by decide)),by omega⟩
theorem nJ{x:Str}{j:Nat}{pos:Pos}{es:List Expr}{m:Nat}{t:TJ}(h:PJ X es m t):PJ X (.Constant (.str x) j pos::es) (x.length+m) t:=by
 intro pins s σ H out Q I q hl
 refine joinParts_consE (joinParts_cons (Calls.Constant_str ?_))
 have z:=zB (y:=x) hl (gQ _)
 exact⟨z.1,h pins _ σ H _ Q (I.tok _) q z.2⟩
theorem o6{e:Expr}{te:TE}{pos:Pos}{es:List Expr}{m:Nat}{t:TJ}(he:PE X e te)(h:PJ X es m t):PJ X (.FormattedValue e (-1) none pos::es) (1921+m) (fun σ H Q=>te σ H fun v H1=>∃ i:Int,v=.int i∧i.natAbs.log2<1920∧t σ H1 Q):=by
 intro pins s σ H out Q I q hl
 refine joinParts_consE (joinParts_cons (FormattedValue_plain (cu (he pins s σ H _ I q) fun v s1 ⟨x,H1,I1,r1,i,e1,hi,q1⟩=>?_)))
 subst e1
 obtain⟨tk,rfl⟩:=r1
 refine formatField_int_small hi ?_
 have z:=zB (y:=Str.ofString (toString i)) hl (int_text_len_1921 hi)
 exact⟨z.1,h pins _ σ H1 _ Q (I1.tok _) q1 z.2⟩
theorem tW{v1 v2:Expr}{rest:List Expr}{pos:Pos}{m:Nat}{t:TJ}(h:PJ X (v1::v2::rest) m t)(hm:m≤1000000:=by decide +kernel):PE X (.JoinedStr (v1::v2::rest) pos) (fun σ H Q=>t σ H fun H1=>∀ x,Q (.str x) H1):=by
 intro pins s σ H Q I q
 refine JoinedStr_many (cu (h pins s σ H Str.empty _ I q (by show 0+m≤_;omega)) fun u s1 ⟨x,tk,H1,e,I1,q1⟩=>?_)
 subst e
 exact⟨.str x,H1,I1,⟨_,rfl⟩,q1 x⟩
def Oq(r r' r2:R2)(ta tb tc td:TE):TT:=fun σ H Q=>ta σ H fun x H1=>tb σ H1 fun y H2=>r x y H2 fun z H3=>∃ k,z=.bl k ∧
 (if k=true then tc σ H3 fun u H4=>r' y u H4 fun z' H5=>∃ k',z'=.bl k'∧(if k'=true then td σ H5 fun v H6=>r2 u v H6 fun z2 H7=>∃ k2,z2=.bl k2∧Q k2 H7 else Q false H5) else Q false H3)
theorem Kx{op op' Rr:CmpOp}{r r' r2:R2}{a b c d:Expr}{ta tb tc td:TE}{pos:Pos}(ho:v7 X (compareOp op) r)(ho':v7 X (compareOp op') r')(ho2:v7 X (compareOp Rr) r2)(ha:PE X a ta)(hb:PE X b tb)(hc:PE X c tc)(hd:PE X d td)
  (hm:lastMarks [op,op',Rr] [b,c,d]=false:=by with_unfolding_all rfl):PT X (.Compare a [op,op',Rr] [b,c,d] pos) (Oq r r' r2 ta tb tc td):=by
 intro pins s σ H Q I h
 refine isTrue_chain (cu (ha pins s σ H _ I h) fun v s1 ⟨x,H1,I1,r1,q1⟩=>test_link (cu (hb pins s1 σ H1 _ I1 q1) fun u s2 ⟨y,H2,I2,r2',q2⟩ =>
  cu (ho pins s2 σ H2 x y v u _ I2 r1 r2' q2) fun z s3 ⟨z',H3,I3,r3,k,e,q3⟩=>?_)) hm
 subst e
 cases r3
 refine wpAny_truthy_bool ?_
 cases k with
 | false=>exact ite_ff ⟨H3,I3,q3⟩
 | true =>
  refine ite_tt (test_link (cu (hc pins s3 σ H3 _ I3 q3) fun v4 s4 ⟨x4,H4,I4,r4,q4⟩=>cu (ho' pins s4 σ H4 y x4 u v4 _ I4 r2' r4 q4) fun z5 s5 ⟨x5,H5,I5,r5,k5,e5,q5⟩=>?_))
  subst e5
  cases r5
  refine wpAny_truthy_bool ?_
  cases k5 with
  | false=>exact ite_ff ⟨H5,I5,q5⟩
  | true =>
   refine ite_tt (test_last (cu (hd pins s5 σ H5 _ I5 q5) fun v6 s6 ⟨x6,H6,I6,r6,q6⟩=>cu (ho2 pins s6 σ H6 x4 x6 v4 v6 _ I6 r4 r6 q6) fun z7 s7 ⟨x7,H7,I7,r7,k7,e7,q7⟩=>?_))
   subst e7
   cases r7
   exact wpAny_truthy_bool ⟨H7,I7,q7⟩
end
end j4
namespace jm
open PySem L2 dD j4
theorem aX{H H':Hp}{a:Addr}(s:aH H H')(h:H' a=none):H a=none:=by
 cases q:H a with
 | none=>rfl
 | some o=>rw[s a o q]at h;cases h
def qx(i:Int):Prop:=-(10^60)<i∧i<10^60
theorem qx.log{i:Int}(h:qx i):i.natAbs.log2<1920:=by
 have h1:i.natAbs<2^1920:=by
  have:i.natAbs<10^60:=by
   obtain⟨a,b⟩:=h
   have e:((10:Int)^60)=(((10:Nat)^60:Nat):Int):=by norm_cast
   rw[e]at a b
   omega
  exact rB this (by decide +kernel)
 by_cases h0:i.natAbs=0
 ·rw[h0]
  decide
 ·exact (Nat.log2_lt h0).mpr h1
def MA(a b h:Int)(p:Int × Int):Row:=if max (a-h) 0<min (b-h) (p.2-p.1) then [(p.1+max (a-h) 0,p.1+min (b-h) (p.2-p.1))] else []
def nP(a b:Int):Int→Row→Row
 | _,[]=>[]
 | h,p::r=>MA a b h p++nP a b (h+(p.2-p.1)) r
theorem FF(a b:Int)(p:Int × Int):∀ (r:Row) (c:Int),nP a b c (r++[p])=nP a b c r++MA a b (c+tot r) p
 | [],c=>by simp[nP,Oe]
 | q::r,c=>by
  have e:c+(q.2-q.1)+tot r=c+tot (q::r):=by rw[Fq];omega
  rw[List.cons_append,nP,FF a b p r,nP,e,qD]
theorem Rt(a b h:Int)(p:Int × Int):(MA a b h p).length≤1:=by
 unfold MA
 split <;> simp
theorem o7(a b:Int):∀ (r:Row) (c:Int),(nP a b c r).length≤r.length
 | [],_=>gQ _
 | q::r,c=>by
  have ih:=o7 a b r (c+(q.2-q.1))
  have z:=Rt a b c q
  rw[nP,dU,nG]
  omega
theorem MB(a b h:Int)(p:Int × Int):∀ q∈MA a b h p,q.1≤q.2:=by
 unfold MA
 split
 ·intro q hq
  simp only[List.mem_singleton]at hq
  subst hq
  simp only
  omega
 ·intro q hq
  cases hq
theorem DB(a b:Int):∀ (r:Row) (c:Int),∀ q∈nP a b c r,q.1≤q.2
 | [],_=>fun q hq=>by cases hq
 | p::r,c=>fun q hq=>by
  rw[nP]at hq
  rcases List.mem_append.mp hq with z|z
  ·exact MB a b c p q z
  ·exact DB a b r _ q z
theorem FG(s:Int):∀ (n k:Nat),(run s n).drop k=run (s+k) (n-k)
 | n,0=>by simp
 | 0,k+1=>by simp[run]
 | n+1,k+1=>by
  rw[run,List.drop_succ_cons,FG (s+1) n k]
  have e1:s+1+(k:Int)=s+((k+1:Nat):Int):=by omega
  have e2:n+1-(k+1)=n-k:=by omega
  rw[e1,e2]
theorem FH(s:Int):∀ (n k:Nat),(run s n).take k=run s (min k n)
 | n,0=>by simp[run]
 | 0,k+1=>by simp[run]
 | n+1,k+1=>by
  rw[run,List.take_succ_cons,FH (s+1) n k]
  have e2:min (k+1) (n+1)=min k n+1:=by omega
  rw[e2,run]
theorem Ky(a b h:Int)(p:Int × Int)(hp:p.1≤p.2):aS (MA a b h p)=((span p).take (b-h).toNat).drop (a-h).toNat:=by
 obtain⟨s,e⟩:=p
 simp only at hp
 unfold MA span
 simp only
 rw[FH,FG]
 split
 ·rename_i hc
  rw[iL,span]
  simp only
  congr 1
  ·omega
  ·omega
 ·rename_i hc
  have z:min (b-h).toNat (e-s).toNat-(a-h).toNat=0:=by omega
  rw[z]
  rfl
theorem tX(a b:Int):∀ (r:Row) (h:Int),(∀ p∈r,p.1≤p.2)→aS (nP a b h r)=((aS r).take (b-h).toNat).drop (a-h).toNat
 | [],h,_=>by simp[nP,aS]
 | p::r,h,ok=>by
  have hp:=ok p (sD ..)
  have ih:=tX a b r (h+(p.2-p.1)) fun q hq=>ok q (sJ _ hq)
  have e:aS (p::r)=span p++aS r:=rfl
  have hl:=yI p hp
  rw[nP,cI,Ky a b h p hp,ih,e,List.take_append,List.drop_append,rj]
  congr 1
  have e1:(b-(h+(p.2-p.1))).toNat=(b-h).toNat-(span p).length:=by omega
  rw[e1]
  by_cases hb:(span p).length≤(b-h).toNat
  ·have e2:(a-(h+(p.2-p.1))).toNat=(a-h).toNat-min (b-h).toNat (span p).length:=by omega
   rw[e2]
  ·have e3:(b-h).toNat-(span p).length=0:=by omega
   rw[e3]
   simp
def GY(a b t:Int):Prop:=0≤a∧a≤b∧b≤t
inductive tY(C:Addr)(vs:List V)(H:Hp)(Q:VK)(E:XK):Prop
 | mk (r:Addr) (row:Row) (a b:Int) (_:vs=[.ref r,.int a,.int b]) (_:bQ H r row) (_:row.length≤1000000) (_:qx a) (_:qx b) (_:qx (tot row)) (_:(GY a b (tot row)→∀ H',aH H H'→Q .jw H')) (_:(¬ GY a b (tot row)→∀ H',aH H H'→E (.ref C) none H')):tY C vs H Q E
inductive sV(vs:List V)(H:Hp)(Q:VK)(E:XK):Prop
 | mk (r:Addr) (row:Row) (a b:Int) (_:vs=[.ref r,.int a,.int b]) (_:bQ H r row) (_:row.length≤1000000) (_ :
 ∀ (q:Addr) (H':Hp),bQ H' q (nP a b 0 row)→aH H H'→H q=none→Q (.ref q) H'):sV vs H Q E
inductive HH(C:Addr)(vs:List V)(H:Hp)(Q:VK)(E:XK):Prop
 | mk (r:Addr) (row:Row) (a b:Int) (_:vs=[.ref r,.int a,.int b]) (_:bQ H r row) (_:row.length≤1000000) (_:qx a) (_:qx b) (_:qx (tot row)) (_:(GY a b (tot row)→∀ (q:Addr) (H':Hp),bQ H' q (bW (nP a b 0 row))→aH H H'→H q=none→Q (.ref q) H')) (_:(¬ GY a b (tot row)→∀ H',aH H H'→E (.ref C) none H')):HH C vs H Q E
structure ExcAt(K:PySem.W.Frag)(mg:Str→Option Value)(C:Addr):Prop where
 m:mg "OutOfPlace"=some (.ref C)
 x:PySem.W.excIn K C [.type "ValueError",.type "Exception",.type "BaseException",.type "object"] "ValueError.__new__"=true
 h:PySem.W.exmOne K (.ref C) (.ref C)=some true
end jm
namespace jm
open PySem L2 dD j4
theorem sW{P:Program}{w:World}{X:Cx}:Passes (nB P w) X (fun _ _ _=>False):=fun _ _ _ _ _ _ _ h=>by
 obtain⟨_,_,_,_,_,_,_,_,_,_,z⟩:=h
 exact z.elim
theorem Au{H:Hp}:∀ {as:List Addr} {row:Row} (k:Nat),bf H as row→bf H (as.take k) (row.take k)
 | _,_,0,_=>by simp;exact .nil
 | _,_,_+1,.nil=>by simp;exact .nil
 | _,_,k+1,.cons r t=>by rw[List.take_succ_cons,List.take_succ_cons];exact .cons r (Au k t)
theorem FI(as:List Addr){k:Int}(h:0≤k):nX (as.map V.ref) none (some k)=(as.take k.toNat).map V.ref:=by
 unfold nX
 have e1:HT.iG (as.map V.ref).length 0 none=0:=rfl
 have e2:HT.iG (as.map V.ref).length (as.map V.ref).length (some k)=min k.toNat as.length:=by
  show (if k<0 then (k+((as.map V.ref).length:Int)).toNat else min k.toNat (as.map V.ref).length)=_
  rw[if_neg (by omega),cA]
 rw[e1,e2,List.drop_zero,Nat.sub_zero,List.map_take]
 rcases Nat.le_total k.toNat as.length with z|z
 ·rw[Nat.min_eq_left z]
 ·rw[Nat.min_eq_right z,vj (by simp),vj (by rw[cA];exact z)]
end jm
namespace jm
open PySem L2 dD j4
theorem lD(r:Row)(ok:∀ p∈r,p.1≤p.2):aS (bW r)=aS r:=by rw[Fp r ok,ff]
theorem vv(a b:Int)(row:Row)(ok:∀ p∈row,p.1≤p.2):aS (bW (nP a b 0 row))=((aS row).take b.toNat).drop a.toNat:=by
 rw[lD _ (DB a b row 0),tX a b row 0 ok,Int.sub_zero,Int.sub_zero]
theorem run_get(s:Int):∀ (n k:Nat),k<n→(run s n)[k]?=some (s+k)
 | 0,k,h=>by omega
 | n+1,0,_=>by simp[run]
 | n+1,k+1,h=>by
  rw[run,List.getElem?_cons_succ,run_get (s+1) n k (by omega)]
  congr 1
  omega
theorem qO(r:Row):(bW r).length≤r.length:=by
 have z:=FA r []
 simpa [bW] using z
end jm
namespace jm
open PySem PySem.Spec PyProof.Rows L2 dD j4
theorem bf.append{H:Hp}:∀ {as bs:List Addr} {r q:Row},bf H as r→bf H bs q→bf H (as++bs) (r++q)
 | _,_,_,_,.nil,t=>t
 | _,_,_,_,.cons e r,t=>.cons e (bf.append r t)
theorem Ru{r q:Row}(h:∀ p∈r,p.1≤p.2)(g:∀ p∈q,p.1≤p.2):∀ p∈r++q,p.1≤p.2:=fun p hp=>(List.mem_append.mp hp).elim (h p) (g p)
end jm
namespace L2
open PySem PySem.Spec PyProof.Rows
section
variable {κ:Type} [DecidableEq κ]
def cC(kvs:List (κ × V))(k:κ):Option V:=(kvs.find? fun kv=>decide (kv.1=k)).map (·.2)
def putK(kvs:List (κ × V))(k:κ)(v:V):List (κ × V) :=
 if (kvs.any fun kv=>decide (kv.1=k))=true then kvs.map (fun kv=>if kv.1=k then (kv.1,v) else kv) else kvs++[(k,v)]
theorem jI{p:κ × V}{r:List (κ × V)}{k:κ}(e:p.1=k):cC (p::r) k=some p.2:=by simp[cC,List.find?_cons,e]
theorem jJ{p:κ × V}{r:List (κ × V)}{k:κ}(e:¬ p.1=k):cC (p::r) k=cC r k:=by simp[cC,List.find?_cons,e]
theorem pA(k:κ):∀ kvs:List (κ × V),(kvs.any fun kv=>decide (kv.1=k))=(cC kvs k).isSome
 | []=>rfl
 | p::r=>by
  rw[List.any_cons]
  by_cases e:p.1=k
  ·simp only[jI e,decide_eq_true e,Bool.true_or,Option.isSome_some]
  ·rw[jJ e,decide_eq_false e,Bool.false_or];exact pA k r
theorem FJ(k j:κ)(y:V):∀ kvs:List (κ × V),cC (kvs.map fun kv=>if kv.1=k then (kv.1,y) else kv) j=(cC kvs j).map fun x=>if j=k then y else x
 | []=>rfl
 | p::r=>by
  have ih:=FJ k j y r
  rw[mz]
  by_cases h:p.1=k
  ·rw[if_pos h]
   by_cases e:p.1=j
   ·rw[jI (p:=(p.1,y)) e,jI e,Option.map_some,if_pos (e.symm.trans h)]
   ·rw[jJ (p:=(p.1,y)) e,jJ e,ih]
  ·rw[if_neg h]
   by_cases e:p.1=j
   ·rw[jI (p:=p) e,jI e,Option.map_some,if_neg (fun z=>h (e.trans z))]
   ·rw[jJ (p:=p) e,jJ e,ih]
theorem CH(k j:κ)(y:V):∀ kvs:List (κ × V),cC kvs k=none→cC (kvs++[(k,y)]) j=if j=k then some y else cC kvs j
 | [],_=>by
  by_cases e:k=j
  ·rw[if_pos e.symm];exact jI (p:=(k,y)) e
  ·rw[if_neg (fun z=>e z.symm)];exact jJ (p:=(k,y)) e
 | p::r,hn=>by
  rw[List.cons_append]
  have hk:¬ p.1=k:=fun z=>by rw[jI z]at hn;cases hn
  rw[jJ hk]at hn
  have ih:=CH k j y r hn
  by_cases e:p.1=j
  ·rw[jI e,jI e,if_neg (fun z=>hk (e.trans z))]
  ·rw[jJ e,jJ e,ih]
theorem ng(kvs:List (κ × V))(k j:κ)(y:V):cC (putK kvs k y) j=if j=k then some y else cC kvs j:=by
 unfold putK
 by_cases a:(kvs.any fun kv=>decide (kv.1=k))=true
 ·rw[if_pos a,FJ]
  rw[pA]at a
  by_cases e:j=k
  ·obtain⟨x,hx⟩:=Option.isSome_iff_exists.mp a
   rw[if_pos e,e,hx,Option.map_some,if_pos rfl]
  ·rw[if_neg e]
   cases cC kvs j with
   | none=>rfl
   | some x=>rw[Option.map_some,if_neg e]
 ·rw[if_neg a]
  refine CH k j y kvs ?_
  rw[pA]at a
  cases q:cC kvs k with
  | none=>rfl
  | some x=>rw[q]at a;exact (a rfl).elim
theorem jK(kvs:List (κ × V))(k:κ)(v:V):(putK kvs k v).length≤kvs.length+1:=by
 unfold putK
 split
 ·rw[cA];omega
 ·rw[dU,nG,qu];omega
theorem Av{kvs:List (κ × V)}{k:κ}(v:V)(h:cC kvs k=none):putK kvs k v=kvs++[(k,v)]:=by
 unfold putK
 rw[pA,h]
 exact if_neg (by decide)
theorem uB.xO{o:Option V}{u:Option Value}(r:uB o u):o.isSome=u.isSome:=by
 cases o with
 | none=>cases u with
  | none=>rfl
  | some _=>exact (show False from r).elim
 | some _=>cases u with
  | none=>exact (show False from r).elim
  | some _=>rfl
theorem KV.val{kvs:List (κ × V)}{vs:List (κ × Value)}(r:KV kvs vs)(k:κ):uB (cC kvs k) (valueAt vs k):=by
 unfold KV at r
 induction r with
 | nil=>exact True.intro
 | @cons p q ps qs h t ih =>
  obtain⟨h1,h2⟩:=h
  by_cases e:p.1=k
  ·have e':q.1=k:=h1.symm.trans e
   have b:valueAt (q::qs) k=some q.2:=by simp[valueAt,List.find?_cons,e']
   rw[jI e,b];exact h2
  ·have e':¬ q.1=k:=fun z=>e (h1.trans z)
   have b:valueAt (q::qs) k=valueAt qs k:=by simp[valueAt,List.find?_cons,e']
   rw[jJ e,b];exact ih
theorem KV.any{kvs:List (κ × V)}{vs:List (κ × Value)}(r:KV kvs vs)(k:κ):(kvs.any fun kv=>decide (kv.1=k))=vs.any fun kv=>decide (kv.1=k):=by
 unfold KV at r
 induction r with
 | nil=>rfl
 | cons h t ih=>rw[List.any_cons,List.any_cons,ih,h.1]
theorem KV.repl{kvs:List (κ × V)}{vs:List (κ × Value)}(r:KV kvs vs)(k:κ){y:V}{u:Value}(ry:RelV y u) :
  KV (kvs.map fun kv=>if kv.1=k then (kv.1,y) else kv) (vs.map fun kv=>if kv.1=k then (kv.1,u) else kv):=by
 unfold KV at r ⊢
 induction r with
 | nil=>exact .nil
 | @cons p q ps qs h t ih =>
  rw[mz,mz]
  refine .cons ?_ ih
  obtain⟨h1,h2⟩:=h
  by_cases e:p.1=k
  ·rw[if_pos e,if_pos (h1.symm.trans e)];exact⟨h1,ry⟩
  ·rw[if_neg e,if_neg (fun z=>e (h1.trans z))];exact⟨h1,h2⟩
theorem KV.put{kvs:List (κ × V)}{vs:List (κ × Value)}(r:KV kvs vs)(k:κ){y:V}{u:Value}(ry:RelV y u):KV (putK kvs k y) (stored vs k u):=by
 unfold putK stored
 rw[r.any k]
 by_cases e:(vs.any fun kv=>decide (kv.1=k))=true
 ·rw[if_pos e,if_pos e];exact r.repl k ry
 ·rw[if_neg e,if_neg e];exact Paired.snoc r ⟨rfl,ry⟩
theorem KV.length{kvs:List (κ × V)}{vs:List (κ × Value)}(r:KV kvs vs):kvs.length=vs.length:=Paired.length r
end
theorem CJ{P:Program}{w:World}{k:Key}{u:Value}(r:RelV (kV k) u):(gR P w).is k u=true:=by
 cases k with
 | inl i=>obtain⟨t,e⟩:=(show ∃ t,u=Value.int i t from r);subst e;exact EX P w i t
 | inr x=>obtain⟨t,e⟩:=(show ∃ t,u=Value.str x t from r);subst e;exact EY P w x t
theorem CK{P:Program}{w:World}:∀ {ks:List Key} {us:List Value},Vals (ks.map kV) us→ItemsAre (gR P w) ks us
 | [],_,r=>by rw[List.map_nil]at r;cases r;exact .nil
 | k::ks,_,r=>by
  rw[mz]at r
  cases r with
  | cons h t=>exact .cons (CJ h) (CK t)
abbrev KT(H:Hp):List (List Key × V)→List (List Key × Addr × Value)→Prop:=Paired fun p q=>p.1=q.1∧H q.2.1=some (.tup (p.1.map kV))∧RelV p.2 q.2.2
theorem KT.val{H:Hp}{kvs:List (List Key × V)}{xs:List (List Key × Addr × Value)}(r:KT H kvs xs)(k:List Key):uB (cC kvs k) ((atKey xs k).map (·.2)):=by
 induction r with
 | nil=>exact True.intro
 | @cons p q ps qs h t ih =>
  obtain⟨h1,_,h2⟩:=h
  by_cases e:p.1=k
  ·have e':q.1=k:=h1.symm.trans e
   have b:atKey (q::qs) k=some q.2:=by simp[atKey,List.find?_cons,e']
   rw[jI e,b];exact h2
  ·have e':¬ q.1=k:=fun z=>e (h1.trans z)
   have b:atKey (q::qs) k=atKey qs k:=by simp[atKey,List.find?_cons,e']
   rw[jJ e,b];exact ih
theorem KT.repl{H:Hp}{kvs:List (List Key × V)}{xs:List (List Key × Addr × Value)}(r:KT H kvs xs)(k:List Key){y:V}{u:Value}(ry:RelV y u) :
  KT H (kvs.map fun kv=>if kv.1=k then (kv.1,y) else kv) (xs.map (putAt k u)):=by
 induction r with
 | nil=>exact .nil
 | @cons p q ps qs h t ih =>
  rw[mz,mz]
  refine .cons ?_ ih
  obtain⟨h1,h2,h3⟩:=h
  unfold putAt
  by_cases e:p.1=k
  ·rw[if_pos e,if_pos (h1.symm.trans e)];exact⟨h1,h2,ry⟩
  ·rw[if_neg e,if_neg (fun z=>e (h1.trans z))];exact⟨h1,h2,h3⟩
theorem KT.put{H:Hp}{kvs:List (List Key × V)}{xs:List (List Key × Addr × Value)}(r:KT H kvs xs)(k:List Key){b:Addr}{y:V}{u:Value}(hb:H b=some (.tup (k.map kV)))(ry:RelV y u) :
  KT H (putK kvs k y) (storedH xs k b u):=by
 have e:(kvs.any fun kv=>decide (kv.1=k))=(atKey xs k).isSome:=by
  rw[pA,(r.val k).xO,Option.isSome_map]
 unfold putK storedH
 rw[e]
 by_cases q:(atKey xs k).isSome=true
 ·rw[if_pos q,if_pos q];exact r.repl k ry
 ·rw[if_neg q,if_neg q];exact Paired.snoc r ⟨rfl,hb,ry⟩
theorem KT.keeps{H H':Hp}{kvs:List (List Key × V)}{xs:List (List Key × Addr × Value)}(r:KT H kvs xs)(ht:∀ b ys,H b=some (.tup ys)→H' b=some (.tup ys)):KT H' kvs xs :=
 Paired.EZ r fun _ _ z=>⟨z.1,ht _ _ z.2.1,z.2.2⟩
section
variable {P:Program} {w:World} {H:Hp} {h:Heap} {a:Addr}
theorem PX{u:HO}(ok:tQ P w H h)(e:Rd H a u):gS P w H h a u:=e.ok ok
theorem FL{kvs:List (Key × V)}(ok:tQ P w H h)(e:Rd H a (.dK kvs)):kvs.length≤sizeLine∧(a == sysModules)=false∧∃ vs,KV kvs vs∧h.DictOf (gR P w) a vs :=
 show gS P w H h a (.dK kvs) from PX ok e
theorem MC{kvs:List (Key × V)}(ok:tQ P w H h)(e:H a=some (.dK kvs)):kvs.length≤sizeLine∧(a == sysModules)=false∧∃ vs,KV kvs vs∧h.DictOf (gR P w) a vs:=FL ok (.inl e)
theorem DC{ks:List Key}(ok:tQ P w H h)(e:H a=some (.tup (ks.map kV))):(tupleKind (gR P w)).is h ks a:=by
 obtain⟨_,its,r,o,h1,h2,n,h3⟩:=(show gS P w H h a (.tup (ks.map kV)) from ok a _ e)
 exact⟨o,its.toArray,n,h1,h2,h3,by simpa using CK r⟩
theorem FN{kvs:List (List Key × V)}(ok:tQ P w H h)(e:Rd H a (.dT kvs)):kvs.length≤sizeLine∧(a == sysModules)=false ∧
  ∃ xs,KT H kvs xs∧h.DictOfH (tupleKind (gR P w)) a xs:=by
 obtain⟨z,y,xs,r,o,es,ep,h1,h2,h3,h4,h5⟩:=(show gS P w H h a (.dT kvs) from PX ok e)
 refine⟨z,y,xs,r,o,es,ep,h1,h2,h3,h4,fun x hx=>?_,h5⟩
 have all:∀ {l:List (List Key × V)} {m:List (List Key × Addr × Value)},KT H l m→∀ x∈m,(tupleKind (gR P w)).is h x.1 x.2.1:=by
  intro l m q
  induction q with
  | nil=>intro x hx;exact nomatch hx
  | @cons p q ps qs hq t ih =>
   intro x hx
   rcases List.mem_cons.mp hx with e|hx
   ·subst e
    exact DC ok (by rw[← hq.1];exact hq.2.1)
   ·exact ih x hx
 exact all r x hx
theorem UI{kvs:List (List Key × V)}(ok:tQ P w H h)(e:H a=some (.dT kvs)):kvs.length≤sizeLine∧(a == sysModules)=false ∧
  ∃ xs,KT H kvs xs∧h.DictOfH (tupleKind (gR P w)) a xs:=FN ok (.inl e)
end
def pB(H:Hp)(a:Addr)(y:V)(r:Option V):Prop :=
 (∃ kvs k,Rd H a (.dK kvs)∧y=kV k∧r=cC kvs k)∨∃ kvs k b,Rd H a (.dT kvs)∧y=.ref b∧H b=some (.tup (k.map kV))∧r=cC kvs k
def DE(H:Hp)(a:Addr)(y v:V)(H':Hp):Prop :=
 (∃ kvs k,H a=some (.dK kvs)∧y=kV k∧kvs.length<sizeLine∧H'=upd H a (.dK (putK kvs k v))) ∨
 ∃ kvs k b,H a=some (.dT kvs)∧y=.ref b∧H b=some (.tup (k.map kV))∧kvs.length<sizeLine∧H'=upd H a (.dT (putK kvs k v))
theorem pB.k{H:Hp}{a:Addr}{kvs:List (Key × V)}{k:Key}(e:H a=some (.dK kvs)):pB H a (kV k) (cC kvs k):=.inl ⟨kvs,k,.inl e,rfl,rfl⟩
theorem DE.k{H:Hp}{a:Addr}{kvs:List (Key × V)}{k:Key}{v:V}(e:H a=some (.dK kvs))(hl:kvs.length<sizeLine):DE H a (kV k) v (upd H a (.dK (putK kvs k v))):=.inl ⟨kvs,k,e,rfl,hl,rfl⟩
section
variable {X:Cx} {pins:List (Addr × Obj)} {σ:St} {H:Hp} {s:Shared} {a:Addr} {y v:V} {u r:Value} {o:Option V} {A:Around} {E:Value→Shared→Prop}
theorem Inv.big(I:Inv X pins σ H s):sysModules<s.heap.objs.size:=by
 have h:mainGlobals<s.heap.objs.size:=(I.mod.glob.keeps I.bk).lt
 exact Nat.lt_trans (by decide) h
theorem Kz{Q:Value→Shared→Prop}(hu:A.units+1<cLine)(I:Inv X pins σ H s)(g:pB H a y (some v))(ry:RelV y u)(h:∀ w' s',Inv X pins σ H s'→RelV v w'→Q w' s') :
  wpAny (model X.prog X.w) A (getItem (.ref a) u) Q E s:=by
 rcases g with ⟨kvs,k,e,ey,l⟩|⟨kvs,k,b,e,ey,eb,l⟩
 ·subst ey
  obtain⟨z,hd,vs,rel,dd⟩:=FL I.hok e
  obtain⟨w',hw,rw'⟩:=uB.some_of (v:=v) (o:=valueAt vs k) (by rw[l];exact rel.val k)
  exact wpAny_getItem_of (CJ ry) dd.mapOf hw (h w' _ (I.tok _) rw')
 ·subst ey
  cases (show u=Value.ref b from ry)
  obtain⟨z,hd,xs,rel,dd⟩:=FN I.hok e
  obtain⟨w',hw,rw'⟩:=uB.some_of (v:=v) (o:=(atKey xs k).map (·.2)) (by rw[l];exact rel.val k)
  obtain⟨p,hp,hp2⟩:=Option.map_eq_some_iff.mp hw
  refine wpAny_getItem_heap (tupleKind_room_in1 hu) (DC I.hok eb) dd hp ?_
  rw[hp2]
  exact h w' _ (I.tok _) rw'
theorem Ot{Q:Value→Shared→Prop}(hu:A.units+1<cLine)(I:Inv X pins σ H s)(g:pB H a y o)(ry:RelV y u)(h:∀ s',Inv X pins σ H s'→Q (.bool (!o.isSome)) s') :
  wpAny (model X.prog X.w) A (compareOp .NotIn u (.ref a)) Q E s:=by
 rcases g with ⟨kvs,k,e,ey,l⟩|⟨kvs,k,b,e,ey,eb,l⟩
 ·subst ey
  obtain⟨z,hd,vs,rel,dd⟩:=FL I.hok e
  refine wpAny_notIn_of (CJ ry) hd dd.mapOf ?_
  rw[← (rel.val k).xO,← l]
  exact h _ (I.tok _)
 ·subst ey
  cases (show u=Value.ref b from ry)
  obtain⟨z,hd,xs,rel,dd⟩:=FN I.hok e
  refine wpAny_notIn_heap (tupleKind_room_in1 hu) (DC I.hok eb) hd dd ?_
  have q:=(rel.val k).xO
  rw[Option.isSome_map]at q
  rw[← q,← l]
  exact h _ (I.tok _)
theorem zC{h':Heap}{t':Nat}{ob:HO}(I:Inv X pins σ H s)(mu:TF (H a))(hs:Heap.SameBut a s.heap h')(he:∃ q,h'.get? a=some q)(new:gS X.prog X.w (upd H a ob) h' a ob) :
  Inv X pins σ (upd H a ob) { s with heap:=h',toks:=t' } :=
 I.write (x:=a) (e:=a) mu (.inl rfl) (fun b q hb z=>(hs.2 b hb).trans z) he new
theorem HJ{P:Program}{w:World}{H':Hp}{h':Heap}{kvs:List (Key × V)}{vs:List (Key × Value)}(z:kvs.length≤sizeLine)(hd:(a == sysModules)=false)(rel:KV kvs vs)(dd:h'.DictOf (gR P w) a vs) :
  gS P w H' h' a (.dK kvs):=⟨z,hd,vs,rel,dd⟩
theorem KA{H':Hp}{Q:Unit→Shared→Prop}(hu:A.units+1<cLine)(I:Inv X pins σ H s)(g:DE H a y v H')(ry:RelV y u)(rv:RelV v r)(h:∀ s',Inv X pins σ H' s'→Q () s') :
  wpAny (model X.prog X.w) A (setItem (.ref a) u r) Q E s:=by
 rcases g with ⟨kvs,k,e,ey,l,eH⟩|⟨kvs,k,b,e,ey,eb,l,eH⟩
 ·subst ey eH
  obtain⟨z,hd,vs,rel,dd⟩:=MC I.hok e
  have hz:vs.length≤sizeLine:=by rw[← rel.length];exact z
  have hl:(putK kvs k v).length≤sizeLine:=by have:=jK kvs k v;omega
  refine wpAny_setItem_pairs (hsz:=hz) (CJ ry) dd fun h' NF hs=>h _ ?_
  have he:∃ q,h'.get? a=some q:=let ⟨q,_,_,hq,_⟩:=NF;⟨q,hq⟩
  exact zC I (by rw[e];exact True.intro) hs he (HJ hl hd (rel.put k rv) NF)
 ·subst ey eH
  cases (show u=Value.ref b from ry)
  obtain⟨z,hd,xs,rel,dd⟩:=UI I.hok e
  have hz:xs.length≤sizeLine:=by rw[← Paired.length rel];exact z
  have hl:(putK kvs k v).length≤sizeLine:=by have:=jK kvs k v;omega
  refine wpAny_setItem_heap (hsz:=hz) (tupleKind_room_in1 hu) (DC I.hok eb) dd fun h' NF hs=>h _ ?_
  obtain⟨q,es,ep,hq,h2,h3,h4,_,h5⟩:=NF
  refine zC I (by rw[e];exact True.intro) hs ⟨q,hq⟩ ⟨hl,hd,_,(rel.put k eb rv).keeps fun c ys ec=>?_,q,es,ep,hq,h2,h3,h4,h5⟩
  rw[aF (cY ec e (fun z=>nomatch z))]
  exact ec
end
def UJ(i:Expr):Prop:=∀ ov iv,subscripted i false ov iv=operate [ov,iv] (getItem ov iv)
theorem Ou{prog:Program}{w:World}{A:Around}{E:Value→Shared→Prop}{s:Shared}{env:Env}{value slice:Expr}{pos:Pos}{T id:String}{Q:Value→Shared→Prop}
  (hl:typeLookup (.type T) "__getitem__"=pure (some (.builtin id))) (hs:UJ slice)
  (h:wpAny (model prog w) A (eval value env) (fun o s₁=>wpAny (model prog w) A (eval slice env) (fun i s₂=>s₂.TypeIs o T∧wpAny (model prog w) A (getItem o i) Q E s₂) E s₁) E s) :
  wpAny (model prog w) A (eval (.Subscript value slice pos) env) Q E s:=by
 refine Subscript_ (wpAny_mono h (fun o s₁ h₁=>wpAny_mono h₁ (fun i s₂ h₂=>?_) fun _ _ x=>x) fun _ _ x=>x)
 obtain⟨hT,h₂⟩:=h₂
 unfold subscriptTail
 refine wpAny_bind ?_
 rw[getitemInPython_of_ne hT.not_modules]
 refine wpAny_bind (wpAny_specialOf hT hl ?_)
 have fin:wpAny (model prog w) A (subscripted slice false o i) (fun r s₃=>wpAny (model prog w) A (letTemporaryGo value o r >>= fun _=>pure r) Q E s₃) E s₂:=by
  rw[hs o i]
  exact wpAny_operating (wpAny_mono h₂ (fun r s₃ h₃=>wpAny_bind (wpAny_letTemporaryGo (wpAny_pure h₃))) fun _ _ x=>x)
 first
  | exact wpAny_pure (wpAny_bind fin)
  | exact wpAny_bind (wpAny_pure (wpAny_bind fin))
  | exact wpAny_bind fin
theorem FO{X:Cx}{pins:List (Addr × Obj)}{σ:St}{H:Hp}{s:Shared}{a:Addr}{y:V}{o:Option V}(I:Inv X pins σ H s)(g:pB H a y o):s.TypeIs (.ref a) "dict":=by
 rcases g with ⟨kvs,k,e,_,_⟩|⟨kvs,k,b,e,_,_,_⟩
 ·obtain⟨_,_,vs,_,dd⟩:=FL I.hok e
  exact dd.typeIs
 ·obtain⟨_,_,xs,_,dd⟩:=FN I.hok e
  exact dd.typeIs
inductive UK(x y:V)(H:Hp)(Q:VK):Prop
 | mk (a:Addr) (v:V) (_:x=.ref a) (_:pB H a y (some v)) (_:Q v H):UK x y H Q
def PY(td ty:TE):TE:=fun σ H Q=>td σ H fun x H1=>ty σ H1 fun y H2=>UK x y H2 Q
def Ov(ty td:TE):TE:=fun σ H Q=>ty σ H fun y H1=>td σ H1 fun x H2=>∃ a o,x=.ref a∧pB H2 a y o∧Q (.bl (!o.isSome)) H2
def UL(td ty tv:TE):TS:=fun D σ H=>tv σ H fun v H1=>td σ H1 fun x H2=>ty σ H2 fun y H3=>∃ a H4,x=.ref a∧DE H3 a y v H4∧D.nx σ H4
section
variable {X:Cx} {o i e value:Expr} {pos pos' tpos:Pos} {td ty tv:TE}
theorem gW(hu:X.A.units+1<cLine)(ho:PE X o td)(hi:PE X i ty)(hs:UJ i):PE X (.Subscript o i pos) (PY td ty):=by
 intro pins s σ H Q I h
 refine Ou PySem.F.slot_dict_getitem.lookup hs (cu (ho pins s σ H _ I h) fun u s1 ⟨x,H1,I1,rx,q1⟩=>cu (hi pins s1 σ H1 _ I1 q1) fun iv s2 ⟨y,H2,I2,ry,a,v,ex,g,q2⟩=>?_)
 subst ex
 obtain rfl:u=Value.ref a:=rx
 exact⟨FO I2 g,Kz hu I2 g ry fun w' s3 I3 rw'=>⟨v,H2,I3,rw',q2⟩⟩
theorem CL(hu:X.A.units+1<cLine)(hi:PE X i ty)(ho:PE X o td):PC X .NotIn i o (Ov ty td):=by
 intro pins s σ H Q I h
 refine cu (hi pins s σ H _ I h) fun iv s1 ⟨y,H1,I1,ry,q1⟩=>cu (ho pins s1 σ H1 _ I1 q1) fun u s2 ⟨x,H2,I2,rx,a,ov,ex,g,q2⟩=>?_
 subst ex
 obtain rfl:u=Value.ref a:=rx
 exact Ot hu I2 g ry fun s3 I3=>⟨.bl (!ov.isSome),H2,I3,rfl,q2⟩
theorem wC(hu:X.A.units+1<cLine)(ho:PE X o td)(hi:PE X i ty)(hv:PE X value tv)(hs:swapsWith value (some (.Subscript o i pos')) pos.line X.env=pure false) :
  PS X (.Assign [.Subscript o i pos'] value pos) (UL td ty tv):=by
 intro pins s σ H D I h
 refine wpAny_Assign_Subscript (cu (hv pins s σ H _ I h) fun r s1 ⟨v,H1,I1,rv,q1⟩=>cu (ho pins s1 σ H1 _ I1 q1) fun u s2 ⟨x,H2,I2,rx,q2⟩=>cu (hi pins s2 σ H2 _ I2 q2) fun iv s3 ⟨y,H3,I3,ry,a,H4,ex,g,q3⟩=>?_) hs
 subst ex
 obtain rfl:u=Value.ref a:=rx
 exact KA hu I3 g ry rv fun s4 I4=>⟨σ,H4,I4,q3⟩
end
theorem FP{P:Program}{w:World}{H:Hp}(h:Heap)(hb:sysModules<h.objs.size):gS P w H (h.push { cls:=.type "dict",data:=.dict #[] }) h.objs.size (.dK []) :=
 ⟨Nat.zero_le _,beq_eq_false_iff_ne.mpr (Ne.symm (ko hb)),[],.nil,Heap.DictOf.new h⟩
def Rv:TE:=fun _ H Q=>∀ p,H p=none→Q (.ref p) (upd H p (.dK []))
section
variable {X:Cx} {pos:Pos}
theorem pC:PE X (.Dict [] [] pos) Rv:=fun pins s σ H Q I h =>
 wpAny_Dict_empty ⟨.ref s.heap.objs.size,_,I.laid (a:=s.heap.objs.size) (o:=.dK []) (t':=s.toks) (fun _ _ q=>Heap.get?_push_of_some _ q) (gQ _) (FP s.heap I.big),rfl,h _ (I.hok.fresh (gQ _))⟩
end
def HK:List (TE × TE)→St→Hp→(List (V × V)→Hp→Prop)→Prop
 | [],_,H,Q=>Q [] H
 | (tk,tv)::r,σ,H,Q=>tk σ H fun x H1=>tv σ H1 fun y H2=>HK r σ H2 fun ps H3=>Q ((x,y)::ps) H3
abbrev VV:List (V × V)→List (Value × Value)→Prop:=Paired fun p q=>RelV p.1 q.1∧RelV p.2 q.2
def WJ(X:Cx)(pos:Pos)(keys:List (Option Expr))(values:List Expr)(Ow:List (TE × TE)):Prop :=
 ∀ (pins:List (Addr × Obj)) (s:Shared) (σ:St) (H:Hp) (Q:List (V × V)→Hp→Prop),Inv X pins σ H s→HK Ow σ H Q →
  wpAny (model X.prog X.w) X.A (evalPairs (pairTrees keys values X.env pos)) (fun vs s'=>∃ ps H',Inv X pins σ H' s'∧VV ps vs∧Q ps H') X.xe s
theorem Ox{X:Cx}{pos:Pos}:WJ X pos [] [] []:=fun pins s σ H Q I h=>pairTrees_nil_walk ⟨[],H,I,.nil,h⟩
theorem wD{X:Cx}{pos:Pos}{k v:Expr}{ks:List (Option Expr)}{vs:List Expr}{tk tv:TE}{Ow:List (TE × TE)}(hk:PE X k tk)(hv:PE X v tv)(hr:WJ X pos ks vs Ow) :
  WJ X pos (some k::ks) (v::vs) ((tk,tv)::Ow):=fun pins s σ H Q I h =>
 pairTrees_cons_walk (cu (hk pins s σ H _ I h) fun u s1 ⟨x,H1,I1,rx,q1⟩=>cu (hv pins s1 σ H1 _ I1 q1) fun w2 s2 ⟨y,H2,I2,ry,q2⟩ =>
  cu (hr pins s2 σ H2 _ I2 q2) fun ws s3 ⟨ps,H3,I3,rel,q3⟩=>⟨(x,y)::ps,H3,I3,.cons ⟨rx,ry⟩ rel,q3⟩)
def xP(kvs more:List (Key × V)):List (Key × V):=more.foldl (fun acc kv=>putK acc kv.1 kv.2) kvs
theorem KV.merge:∀ {more:List (Key × V)} {rs:List (Key × Value)} {kvs:List (Key × V)} {vs:List (Key × Value)},KV more rs→KV kvs vs→KV (xP kvs more) (merged vs rs):=by
 intro more rs kvs vs r
 unfold KV at r
 induction r generalizing kvs vs with
 | nil=>intro q;exact q
 | @cons p q ps qs h t ih =>
  intro r0
  have e:KV (putK kvs p.1 p.2) (stored vs q.1 q.2):=by
   have:=r0.put p.1 h.2
   rw[← h.1];exact this
  exact ih e
theorem uX:∀ (more kvs:List (Key × V)),(xP kvs more).length≤kvs.length+more.length
 | [],kvs=>by show kvs.length≤kvs.length+0;omega
 | p::r,kvs=>by
  have h1:=uX r (putK kvs p.1 p.2)
  have h2:=jK kvs p.1 p.2
  show (xP (putK kvs p.1 p.2) r).length≤_
  rw[nG];omega
theorem Aw{P:Program}{w:World}:∀ {kvs:List (Key × V)} {ws:List (Value × Value)},VV (kvs.map fun kv=>(kV kv.1,kv.2)) ws→∃ rs,Carries (gR P w) ws rs∧KV kvs rs
 | [],_,r=>by rw[List.map_nil]at r;cases r;exact⟨[],True.intro,.nil⟩
 | p::kvs,_,r=>by
  rw[mz]at r
  cases r with
  | @cons a b as bs h t =>
   obtain⟨rs,c,q⟩:=Aw (P:=P) (w:=w) t
   obtain⟨b1,b2⟩:=b
   exact⟨(p.1,b2)::rs,⟨CJ h.1,rfl,c⟩,.cons ⟨rfl,h.2⟩ q⟩
def MD(Ow:List (TE × TE)):TE:=fun σ H Q=>∀ p,H p=none→HK Ow σ (upd H p (.dK [])) fun ps H2=>H2 p=some (.dK [])∧∃ kvs:List (Key × V),ps=kvs.map (fun kv=>(kV kv.1,kv.2))∧kvs.length≤15∧Q (.ref p) (upd H2 p (.dK (xP [] kvs)))
theorem Oz{X:Cx}{pos:Pos}{keys:List (Option Expr)}{values:List Expr}{Ow:List (TE × TE)}(h:WJ X pos keys values Ow)(hall:keys.all (·.isSome)=true)(hl:keys.length=values.length)(h0:keys≠[])
  (h15:keys.length≤15):PE X (.Dict keys values pos) (MD Ow):=by
 intro pins s σ H Q I q
 have hn:=I.hok.fresh (gQ s.heap.objs.size)
 have I1:=I.laid (a:=s.heap.objs.size) (o:=.dK []) (h':=s.heap.push { cls:=.type "dict",data:=.dict #[] }) (t':=s.toks) (fun _ _ q=>Heap.get?_push_of_some _ q) (gQ _) (FP s.heap I.big)
 refine wpAny_Dict_walk (knd:=gR X.prog X.w) hall hl h0 h15 (cu (h pins _ σ _ _ I1 (q _ hn)) fun ws s2 ⟨ps,H2,I2,rel,e,kvs,ep,lk,q2⟩=>?_)
 subst ep
 obtain⟨rs,c,rk⟩:=Aw (P:=X.prog) (w:=X.w) rel
 obtain⟨z,hd,vs0,r0,dd⟩:=MC I2.hok e
 cases r0
 refine⟨rs,c,dd,fun h' NF hs=>⟨.ref s.heap.objs.size,_,?_,rfl,q2⟩⟩
 have hz:(xP [] kvs).length≤sizeLine:=by
  have h1:=uX kvs []
  rw[qu]at h1
  rw[sizeLine_eq];omega
 have he:∃ q,h'.get? s.heap.objs.size=some q:=let ⟨q,_,_,hq,_⟩:=NF;⟨q,hq⟩
 exact zC I2 (by rw[e];exact True.intro) hs he (HJ hz hd (rk.merge .nil) NF)
structure M2(X:Cx)(o:Expr)(m:Str)(apos:Pos)(e f:Expr)(cpos:Pos):Prop where
 base:attributeBase o m X.env (eval o X.env)=eval o X.env
 few:((backTo cpos (starEach [e,f] X.env)).all (fun x=>!x.1)&&(backToKw cpos (keywordEach [] X.env)).all (fun x=>x.1.isSome)
  && decide (([e,f]:List Expr).length+([]:List Keyword).length+(if ([]:List Keyword).isEmpty then 0 else 1)<30))=true
 line:(apos.endLine == cpos.line)=true
 trees:backTo cpos (starEach [e,f] X.env)=[(false,eval e X.env),(false,eval f X.env)]
def IsD(H:Hp)(a:Addr):Prop:=(∃ kvs,Rd H a (.dK kvs))∨∃ kvs,Rd H a (.dT kvs)
theorem Rw{X:Cx}{pins:List (Addr × Obj)}{σ:St}{H:Hp}{s:Shared}{a:Addr}(I:Inv X pins σ H s)(d:IsD H a) :
  s.TypeIs (.ref a) "dict"∧(∀ b,Value.ref a=.ref b→∃ ob,s.heap.get? b=some ob∧ob.dict=none)∧(a == sysModules)=false:=by
 rcases d with ⟨kvs,e⟩|⟨kvs,e⟩
 ·obtain⟨_,hd,vs,_,dd⟩:=FL I.hok e
  refine⟨dd.typeIs,fun b q=>?_,hd⟩
  cases q
  obtain⟨ob,_,_,h1,h2,_⟩:=dd
  exact⟨ob,h1,h2.2.1⟩
 ·obtain⟨_,hd,xs,_,dd⟩:=FN I.hok e
  refine⟨dd.typeIs,fun b q=>?_,hd⟩
  cases q
  obtain⟨ob,_,_,h1,h2,_⟩:=dd
  exact⟨ob,h1,h2.2.1⟩
end L2
namespace dD
open PySem PySem.Spec PyProof.Rows L2
def kK(X:Cx)(N:List Str)(scope:Scope)(cl:List (Str × Addr))(C:Addr)(s₀:Shared)(H₀:Hp)(ex:List Addr)(pn:List (Addr × Obj)):Cx where
 prog:=X.prog
 w:=X.w
 K:=X.K
 mg:=X.mg
 base:=X.base
 A:=X.A
 N:=N
 s₀:=s₀
 H₀:=H₀
 env:=compEnvC scope cl C X.env
 outer:=X.stack
 stack:=X.stack
 ex:=ex
 fn:=fun _=>false
 calm:=X.calm
 pn:=pn
 xe:=fun _ _=>False
structure CM(X:Cx)(N:List Str)(scope:Scope)(cl:List (Str × Addr))(jx:List (Option Nat)):Prop where
 kind:scope.kind=.function
 cell:∀ x∈scope.names,x.2≠.cell
 names:∀ x∈scope.names,x.2=.local→scope.names.lookup x.1=some .local
 clos:closureFor scope X.env=pure cl
 sub:∀ x c,cl.lookup x=some c→X.env.cells.lookup x=some c
 has:∀ x,((relabel scope X.env).names.lookup x=some .cell∨(relabel scope X.env).names.lookup x=some .free)→∃ c,cl.lookup x=some c
 len:jx.length=N.length
 free:∀ (i j:Nat) (x:Str),jx[i]?=some (some j)→N[i]?=some x→X.N[j]?=some x∧X.env.scope.names.lookup x=some .cell∧(relabel scope X.env).names.lookup x=some .cell
def vz(jx:List (Option Nat))(σ:L2.St):L2.St:=jx.map fun o=>o.bind fun j=>(σ[j]?).join
section
variable {X:Cx} {N:List Str} {scope:Scope} {cl:List (Str × Addr)} {jx:List (Option Nat)}
theorem yK{pins:List (Addr × Obj)}{σ:L2.St}{H:Hp}{s:Shared}{fp:List Addr}{h₁:Heap}{t:Nat}(cs:CM X N scope cl jx)(I:Inv X pins σ H s)(hf:∀ b∈fp,nH X pins H b)(hlt:∀ b∈fp,b<s.heap.objs.size)
  (hns:h₁.Ns s.heap.objs.size fun _=>none) (hk:∀ b o,s.heap.get? b=some o→h₁.get? b=some o) :
  Inv (kK X N scope cl s.heap.objs.size s H fp (X.pn++pins)) [] (vz jx σ) H { s with heap:=h₁,toks:=t }:=by
 have sub:∀ {x c},(kK X N scope cl s.heap.objs.size s H fp (X.pn++pins)).env.cells.lookup x=some c→X.env.cells.lookup x=some c:=fun {x c} e=>cs.sub x c e
 refine⟨⟨I.ok.mod,cs.kind,I.ok.glob,I.ok.blt,gQ _,fun x y c e e'=>I.ok.inj x y c (sub e) (sub e'),fun x hx=>cs.has x hx,fun x c z _=>(by cases z),I.ok.hd,I.ok.frames,.inl rfl,fun b hb=>⟨Nat.ne_of_lt (hlt b hb),fun x c e=>(hf b hb).2.2.2.2.1 x c (sub e)⟩,I.bs,kT I.ok.NT I.sz,fun b o e hb=>?_,fun b hb z=>?_,I.stack,I.vX⟩,
  rfl,I.bare,Un.kept hk,⟨_,hns,fun i x v e1 e2 _=>?_⟩,fun x c e=>?_,I.hok.fresh (gQ _),fun x c e=>I.uH x c (sub e),fun p hp=>?_,I.hok.kept hk,by unfold vz;rw[cA];exact cs.len⟩
 ·rcases (hf b hb).2.2.2.1 with z|z
  ·exact I.ok.J1 b o e z
  ·exact absurd (rB (Heap.lt_size (I.ok.bs b o e).1) z) (Nat.lt_irrefl _)
 ·rcases List.mem_cons.mp (I.qv b z) with e|e
  ·exact (hf b hb).2.1 e
  ·exact (hf b hb).2.2.1 e
 ·unfold vz at e2
  rw[jV]at e2
  cases ej:jx[i]? with
  | none=>rw[ej]at e2;cases e2
  | some o =>
   rw[ej]at e2
   cases o with
   | none=>cases e2
   | some j =>
    have e3:σ[j]?=some (some v):=by
     have z:((σ[j]?).join)=some v:=sM e2
     cases hs:σ[j]? with
     | none=>rw[hs]at z;cases z
     | some q=>rw[hs]at z;exact congrArg some z
    obtain⟨f1,f2,f3⟩:=cs.free i j x ej e1
    obtain⟨m,hn,hl⟩:=I.loc
    obtain⟨u,ru,look⟩:=hl j x v f1 e3 (.inr (.inl f2))
    refine⟨u,ru,?_⟩
    rcases look with ⟨k,_⟩|⟨_,c,hc,o,ho,hd⟩
    ·have k':X.env.scope.names.lookup x=some .local:=k
     rw[f2]at k'
     cases k'
    ·obtain⟨c',hc'⟩:=cs.has x (.inl f3)
     have z:=cs.sub x c' hc'
     rw[hc]at z
     cases z
     exact .inr ⟨.inl f3,c,hc',o,hk _ _ ho,hd⟩
 ·obtain⟨v,o,ho,hd⟩:=I.cell x c (sub e)
  exact⟨v,o,hk _ _ ho,hd⟩
 ·have Jd:p∈X.pn++pins:=by
   have z:p∈(X.pn++pins)++[]:=hp
   simpa using z
  obtain⟨e,n,nl,nf,d⟩:=I.pin p Jd
  refine⟨hk _ _ e,n,ko (Heap.lt_size e),fun z=>?_,d⟩
  rcases List.mem_cons.mp (I.qv p.1 z) with e|e
  ·exact nl e
  ·exact nf e
theorem xQ{pins:List (Addr × Obj)}{σ σ':L2.St}{H H':Hp}{s s':Shared}{fp:List Addr}(I:Inv X pins σ H s)(hf:∀ b∈fp,nH X pins H b)(J:Inv (kK X N scope cl s.heap.objs.size s H fp (X.pn++pins)) [] σ' H' s'):Inv X pins σ H' s' :=
 I.LI (ch:=fp) J.os J.base J.hok J.bare fun b hb=>⟨(hf b hb).2.2.2.1,(hf b hb).2.1,(hf b hb).2.2.2.2.1,(hf b hb).2.2.2.2.2⟩
theorem xR{pins:List (Addr × Obj)}{σ σ2:L2.St}{H H':Hp}{s s':Shared}{h':Heap}(I:Inv X pins σ H s)(I4:Inv X pins σ2 H' s')(hfree:H' s.heap.objs.size=none)(hs:Heap.SameBut s.heap.objs.size s'.heap h'):Inv X pins σ2 H' { s' with heap:=h' }:=by
 refine I4.turned (t':=s'.toks) (it:=s.heap.objs.size) (fun b o hb e=>hs.extBut _ _ hb e) hfree (Nat.ne_of_gt I.lt) (.inr I.sz) (fun x c e z=>?_) fun p hp z=>?_
 ·obtain⟨v,o,ho,_⟩:=I.cell x c e
  exact absurd (Heap.lt_size ho) (by rw[z];exact Nat.lt_irrefl _)
 ·exact absurd (Heap.lt_size (I.pin p hp).1) (by rw[z];exact Nat.lt_irrefl _)
def wF(J:It)(acc:Addr)(g:TG)(tt:TT)(te:TE)(σ0:L2.St)(H:Hp)(Q:VK):Prop :=
 ∃ W:Nat→Nat→L2.St→Hp→Prop,(∃ m,W 0 m σ0 H)∧∀ i m σ H,W i m σ H →
  (J.stop i H∧Q (.ref acc) H)∨(J.go i H∧∃ Nx:L2.St→Hp→Prop,(∀ σ' H',Nx σ' H'→∃ m',m'<m∧W (i+1) m' σ' H')∧∀ x H',J.J3 i H x H'→g x σ H' fun σ2 H2=>tt σ2 H2 fun b H3 =>
   if b=true then te σ2 H3 fun v H4=>∃ xs,H4 acc=some (.lst xs)∧xs.length<sizeLine∧Nx σ2 (upd H4 acc (.lst (xs++[v]))) else Nx σ2 H3)
def xS(jx:List (Option Nat))(wi:TI)(g:TG)(tt:TT)(te:TE):TE:=fun σ H Q=>wi σ H fun J H1=>∀ acc,H1 acc=none→wF J acc g tt te (vz jx σ) (upd H1 acc (.lst [])) Q
theorem CN{elt tg iter:Expr}{ifs:List Expr}{pos pos':Pos}{wi:TI}{g:TG}{tt:TT}{te:TE}(cs:CM X N scope cl jx)(hc:X.calm=true)(hi:PI X tg iter wi)
  (hg:∀ C s₀ H₀ ex pn,PG (kK X N scope cl C s₀ H₀ ex pn) tg g) (ht:∀ C s₀ H₀ ex pn,GV (kK X N scope cl C s₀ H₀ ex pn) ifs tt) (he:∀ C s₀ H₀ ex pn,PE (kK X N scope cl C s₀ H₀ ex pn) elt te)
  (hs:∀ x,foldedSetIterable iter X.env x=pure x) {use:Option (Value→Sem Unit)} {Q':Value→Shared→Prop} {Q:VK} {pins:List (Addr × Obj)} {s:Shared} {σ:L2.St} {H:Hp} (I:Inv X pins σ H s) (h:xS jx wi g tt te σ H Q)
  (fin:∀ (s3:Shared) (H3:Hp) (fp:List Addr) (acc:Addr) (σ6:L2.St) (H6:Hp) (s7:Shared),Inv X pins σ H3 s3→(∀ b∈fp,nH X pins H3 b)→Inv (kK X N scope cl s3.heap.objs.size s3 H3 fp (X.pn++pins)) [] σ6 H6 s7→Q (.ref acc) H6 →
   compPost (model X.prog X.w) X.A X.xe use Q' (.ref acc) s3.heap.objs.size (.ok .next) s7) :
  wpAny (model X.prog X.w) X.A (comprehension (.ListComp elt [⟨tg,iter,ifs,0⟩] scope pos) scope X.env pos' (newList []) false (eval iter X.env) use) Q' X.xe s:=by
 refine wpAny_comprehension_free (use:=use) rfl hs cs.clos cs.kind cs.names (cu (hi pins s σ H _ I h) fun v s1 h1=>cu h1 fun itv s2 h2=>?_)
 obtain⟨it,fp,tn,J,H2,e,I2,T,st2,f2,q⟩:=h2
 subst e
 refine wpAny_newObj_type (hd:=by size_fits) ?_
 have hacc:H2 s2.heap.objs.size=none:=I2.hok.fresh (gQ _)
 have I3:Inv X pins σ (upd H2 s2.heap.objs.size (.lst [])) { s2 with heap:=s2.heap.push { cls:=.type "list",data:=.seq ([]:List Value).toArray },toks:=s2.toks }:=I2.Kf (ys:=[]) .nil (lI _)
 have Mu:∀ b∈fp,b<s2.heap.objs.size:=fun b hb=>by
  obtain⟨o,ho,_⟩:=T.obj _ _ st2 b hb
  exact Heap.lt_size ho
 have f3:∀ b∈fp,nH X pins (upd H2 s2.heap.objs.size (.lst [])) b:=fun b hb=>⟨by rw[aF (ko (Mu b hb))];exact (f2 b hb).1,(f2 b hb).2⟩
 have k3:∀ b o,s2.heap.get? b=some o→(s2.heap.push { cls:=.type "list",data:=.seq ([]:List Value).toArray }).get? b=some o:=fun b o e=>Heap.get?_push_of_some _ e
 have q3:=q _ hacc
 generalize Rh:({ s2 with heap:=s2.heap.push { cls:=.type "list",data:=.seq ([]:List Value).toArray },toks:=s2.toks }:Shared)=s3 at I3
 generalize hH3:upd H2 s2.heap.objs.size (.lst [])=H3 at I3 f3 q3
 have Mv:s3.heap=s2.heap.push { cls:=.type "list",data:=.seq ([]:List Value).toArray }:=by rw[← Rh]
 have Cz:∀ b∈fp,b<s3.heap.objs.size:=fun b hb=>by rw[Mv,Heap.size_push];exact Nat.lt_succ_of_lt (Mu b hb)
 have st3:tn 0 s3.heap:=T.keep _ _ _ st2 fun b _ o e=>by rw[Mv];exact k3 b o e
 show wpAny _ _ _ _ _ s3
 refine wpAny_newFunctionEnv cs.cell (fun y hy=>by simp at hy) (fun h₁ hns Kr=>?_) cs.kind
 have kh:∀ b o,s3.heap.get? b=some o→h₁.get? b=some o:=fun b o e=>Kr.extBut _ _ (ko (Heap.lt_size e)) (Heap.get?_push_of_some _ e)
 have J0:Inv (kK X N scope cl s3.heap.objs.size s3 H3 fp (X.pn++pins)) [] (vz jx σ) H3 { s3 with heap:=h₁,toks:=s3.toks+([]:List (Str × Value)).length }:=yK cs I3 f3 Cz hns kh
 have Mw:tn 0 h₁:=T.keep _ _ _ st3 fun b _ o e=>kh b o e
 obtain⟨W,⟨m0,w0⟩,turn⟩:=q3
 have oO:∀ {H':Hp},(∀ b∈fp,H' b=none)→∀ b∈fp,nH (kK X N scope cl s3.heap.objs.size s3 H3 fp (X.pn++pins)) [] H' b:=fun hn b hb=>by
  refine⟨hn b hb,ko (Cz b hb),fun z=>?_,.inl hb,fun x c e=>(f3 b hb).2.2.2.2.1 x c (cs.sub x c e),fun p hp=>?_⟩
  ·rcases List.mem_cons.mp (I3.qv b z) with e|e
   ·exact (f3 b hb).2.1 e
   ·exact (f3 b hb).2.2.1 e
  ·have Jd:p∈X.pn++pins:=by
    have z:p∈(X.pn++pins)++[]:=hp
    simpa using z
   exact (f3 b hb).2.2.2.2.2 p Jd
 have loop:∀ s5:Shared,s5={ s3 with heap:=h₁,toks:=s3.toks+([]:List (Str × Value)).length }→codeAny (model X.prog X.w) X.A (.compLoop (.ListComp elt [⟨tg,iter,ifs,0⟩] scope pos) 0 (.ref it) (.ref s2.heap.objs.size) (kK X N scope cl s3.heap.objs.size s3 H3 fp (X.pn++pins)).env)
   (compPost (model X.prog X.w) X.A X.xe use Q' (.ref s2.heap.objs.size) s3.heap.objs.size) s5:=by
  rintro s5 rfl
  refine Cy (fun n s'=>∃ i σ' H',Inv (kK X N scope cl s3.heap.objs.size s3 H3 fp (X.pn++pins)) [] σ' H' s'∧tn i s'.heap∧(∀ b∈fp,H' b=none)∧W i n σ' H') ?_ m0 ⟨0,_,H3,J0,Mw,fun b hb=>(f3 b hb).1,w0⟩
  rintro n s6 ⟨i,σ6,H6,I6,Jf,GW,w6⟩
  rcases turn i n σ6 H6 w6 with ⟨stop,qn⟩|⟨go,Nx,hN,step⟩
  ·refine cu (T.done (kK X N scope cl s3.heap.objs.size s3 H3 fp (X.pn++pins)) rfl rfl rfl hc i [] s6 σ6 H6 _ I6 (oO GW) Jf stop) fun r s7 ⟨hr,I7⟩=>?_
   subst hr
   exact fin s3 H3 fp _ σ6 H6 s7 I3 f3 I7 qn
  ·refine cu (T.item (kK X N scope cl s3.heap.objs.size s3 H3 fp (X.pn++pins)) rfl rfl rfl hc i [] s6 σ6 H6 _ I6 (oO GW) Jf go) fun r s7 ⟨u,hr,h7⟩=>?_
   subst hr
   refine cu h7 fun _ s8 ⟨x,H8,I8,r8,y8,Dw,CA⟩=>?_
   have Oh:=I8.pinned (oO CA) (T.obj _ _ Dw)
   refine cu (hg _ _ _ _ _ _ s8 σ6 H8 x u _ Oh r8 (step x H8 y8)) fun _ s9 ⟨σ9,H9,I9,q9⟩=>?_
   refine cu (ht _ _ _ _ _ _ s9 σ9 H9 _ I9 q9) fun ok BO ⟨GX,Jg,vU⟩=>?_
   have again:∀ {σ7:L2.St} {H7:Hp} {nI:Shared},Inv (kK X N scope cl s3.heap.objs.size s3 H3 fp (X.pn++pins)) ([]++rE fp s8.heap) σ7 H7 nI→Nx σ7 H7→∃ m,m<n∧∃ i σ' H',Inv (kK X N scope cl s3.heap.objs.size s3 H3 fp (X.pn++pins)) [] σ' H' nI∧tn i nI.heap∧(∀ b∈fp,H' b=none)∧W i m σ' H':=fun {σ7 H7 nI} I7 n7=>by
    obtain⟨m',hm,w7⟩:=hN σ7 H7 n7
    refine⟨m',hm,i+1,σ7,H7,I7.mX,T.keep _ _ _ Dw fun b hb o e=>(I7.pin (b,o) (mW _ (mW _ (eE hb e)))).1,fun b hb=>?_,w7⟩
    obtain⟨o,e,d⟩:=T.obj _ _ Dw b hb
    exact (I7.pin (b,o) (mW _ (mW _ (eE hb e)))).2.1
   cases ok with
   | false =>
    rw[if_neg tP]at vU
    exact again Jg vU
   | true =>
    rw[if_pos rfl]at vU
    refine cu (he _ _ _ _ _ _ BO σ9 GX _ Jg vU) fun v nI ⟨y,SY,Rj,UC,xs,hx,hz,UD⟩=>?_
    refine cu (cP _ nI σ9 SY (.ref s2.heap.objs.size) [y] (.ref s2.heap.objs.size) [v] (fun _ H'=>Nx σ9 H') Rj rfl (.cons UC .nil) ⟨_,xs,y,rfl,rfl,hx,hz,UD⟩) fun _ s12 ⟨_,PV,Rk,_,Oi⟩=>?_
    exact again Rk Oi
 exact codeAny_compStart_list (loop _ rfl) (T.self _ _ _ _ _ Mw (loop _ rfl))
theorem ME{elt tg iter:Expr}{ifs:List Expr}{pos:Pos}{wi:TI}{g:TG}{tt:TT}{te:TE}(cs:CM X N scope cl jx)(hc:X.calm=true)(hi:PI X tg iter wi)
  (hg:∀ C s₀ H₀ ex pn,PG (kK X N scope cl C s₀ H₀ ex pn) tg g) (ht:∀ C s₀ H₀ ex pn,GV (kK X N scope cl C s₀ H₀ ex pn) ifs tt) (he:∀ C s₀ H₀ ex pn,PE (kK X N scope cl C s₀ H₀ ex pn) elt te)
  (hs:∀ x,foldedSetIterable iter X.env x=pure x:=by intro _;rfl):PE X (.ListComp elt [⟨tg,iter,ifs,0⟩] scope pos) (xS jx wi g tt te):=by
 intro pins s σ H Q I h
 rw[eval_ListComp]
 refine CN (use:=none) cs hc hi hg ht he hs I h fun s3 H3 fp acc σ6 H6 s7 I3 f3 I7 qn=>?_
 obtain⟨m,hm,_⟩:=I7.loc
 exact⟨m,hm,fun h' Kr=>⟨.ref acc,H6,xR I3 (xQ I3 f3 I7) I7.free Kr,rfl,qn⟩⟩
theorem OA{elt tg iter:Expr}{ifs:List Expr}{pos pos' pos2:Pos}{wi:TI}{g:TG}{tt:TT}{te:TE}{i:Nat}{x:Str}(cs:CM X N scope cl jx)(hc:X.calm=true)(hN:X.N.Nodup)(hix:X.N[i]?=some x)(hx:X.env.scope.names.lookup x=some .local)(hi:PI X tg iter wi)
  (hg:∀ C s₀ H₀ ex pn,PG (kK X N scope cl C s₀ H₀ ex pn) tg g) (ht:∀ C s₀ H₀ ex pn,GV (kK X N scope cl C s₀ H₀ ex pn) ifs tt) (he:∀ C s₀ H₀ ex pn,PE (kK X N scope cl C s₀ H₀ ex pn) elt te)
  (hsw:swapsWith (.ListComp elt [⟨tg,iter,ifs,0⟩] scope pos) (some (.Name x pos')) pos2.line X.env=pure true:=by rfl)
  (hs:∀ x,foldedSetIterable iter X.env x=pure x:=by intro _;rfl):PS X (.Assign [.Name x pos'] (.ListComp elt [⟨tg,iter,ifs,0⟩] scope pos) pos2) (NY (xS jx wi g tt te) (vZ i)):=by
 intro pins s σ H D I h
 rw[exec_Assign_Name_used _ _ _ _ hsw]
 refine wpAny_bind (wpAny_standAt (wpAny_bind ?_))
 show wpAny _ X.A (do let _ ← comprehension (.ListComp elt [⟨tg,iter,ifs,0⟩] scope pos) scope X.env _ (newList []) false (eval iter X.env) (some (assign (.Name x pos') X.env))) _ _ s
 have h':xS jx wi g tt te σ H (fun v H'=>vZ i v σ H' D.nx):=h
 refine wpAny_bind (cu (CN (use:=some (assign (.Name x pos') X.env)) (Q':=fun _ s'=>∃ σ' H',Inv X pins σ' H' s'∧D.nx σ' H') cs hc hi hg ht he hs I h' fun s3 H3 fp acc σ6 H6 s7 I3 f3 I7 qn=>?_) fun _ s' q=>?_)
 ·have I4:=xQ I3 f3 I7
  obtain⟨m,hm,_⟩:=I7.loc
  refine wpAny_assign_Name (Cc I4 hN hix (.inl hx) (v:=.ref acc) rfl (fun s8 I8 ⟨a,Kr,ha⟩=>?_) (.inr hx))
  have na:s3.heap.objs.size≠a:=by
   rcases ha with rfl|ha
   ·exact Nat.ne_of_gt I3.lt
   ·intro z
    obtain⟨v,o,ho,_⟩:=I3.cell x a ha
    exact absurd (Heap.lt_size ho) (by rw[z];exact Nat.lt_irrefl _)
  refine⟨m,hm.at' fun o e=>Kr.extBut _ o na e,fun h' hs'=>⟨_,H6,xR I3 I8 I7.free hs',qn⟩⟩
 ·exact wpAny_pure (wpAny_pure q)
theorem jL{K:PySem.W.Frag}{a acc:Addr}{xs:List V}{g:TG}{tt:TT}{te:TE}{σ0:L2.St}{H:Hp}{Q:VK}(Pv:Nat→L2.St→Hp→Prop)(h0:Pv 0 σ0 H)(hl:∀ i σ H,i≤xs.length→Pv i σ H→bN K H a xs)
  (hs:∀ i x σ H,xs[i]?=some x→Pv i σ H→g x σ H fun σ2 H2=>tt σ2 H2 fun b H3=>if b=true then te σ2 H3 fun v H4=>∃ ys,H4 acc=some (.lst ys)∧ys.length<sizeLine∧Pv (i+1) σ2 (upd H4 acc (.lst (ys++[v]))) else Pv (i+1) σ2 H3)
  (hd:∀ σ H,Pv xs.length σ H→Q (.ref acc) H):wF (J5 K a) acc g tt te σ0 H Q:=by
 refine⟨fun i m σ H=>m=xs.length-i∧i≤xs.length∧Pv i σ H,⟨xs.length,by simp,lI _,h0⟩,?_⟩
 rintro i m σ H ⟨rfl,hi,p⟩
 have q:=hl i σ H hi p
 by_cases hlt:i<xs.length
 ·refine .inr ⟨⟨xs,xs[i],q,by simp[hlt]⟩,Pv (i+1),fun σ' H' p'=>⟨xs.length-(i+1),by omega,rfl,hlt,p'⟩,fun x H' y=>?_⟩
  obtain⟨e,y⟩:=y
  subst e
  exact hs i x σ _ (y xs q) p
 ·have e:i=xs.length:=by omega
  subst e
  exact .inl ⟨⟨xs,q,gQ _⟩,hd σ H p⟩
theorem FQ{lo:Int}{k:Nat}{acc:Addr}{g:TG}{tt:TT}{te:TE}{σ0:L2.St}{H:Hp}{Q:VK}(Pv:Nat→L2.St→Hp→Prop)(h0:Pv 0 σ0 H)
  (hs:∀ i σ H,i<k→Pv i σ H→g (.int (lo+i)) σ H fun σ2 H2=>tt σ2 H2 fun b H3=>if b=true then te σ2 H3 fun v H4=>∃ ys,H4 acc=some (.lst ys)∧ys.length<sizeLine∧Pv (i+1) σ2 (upd H4 acc (.lst (ys++[v]))) else Pv (i+1) σ2 H3)
  (hd:∀ σ H,Pv k σ H→Q (.ref acc) H):wF (J6 lo k) acc g tt te σ0 H Q:=by
 refine⟨fun i m σ H=>m=k-i∧i≤k∧Pv i σ H,⟨k,by simp,lI _,h0⟩,?_⟩
 rintro i m σ H ⟨rfl,hi,p⟩
 by_cases hlt:i<k
 ·refine .inr ⟨hlt,Pv (i+1),fun σ' H' p'=>⟨k-(i+1),by omega,rfl,hlt,p'⟩,fun x H' y=>?_⟩
  obtain⟨e,y⟩:=y
  subst e y
  exact hs i σ _ hlt p
 ·have e:i=k:=by omega
  subst e
  exact .inl ⟨Nat.le_refl _,hd σ H p⟩
end
section
variable {X:Cx} {N:List Str} {scope:Scope} {cl:List (Str × Addr)} {C:Addr} {s₀:Shared} {H₀:Hp} {ex:List Addr} {pn:List (Addr × Obj)}
theorem DF{es:List Expr}{k:Nat}{t:Px}{n:Nat}{pos:Pos}(hc:X.calm=true)(h:SO (kK X N scope cl C s₀ H₀ ex pn) es t)
  (hn:(assignEach es (kK X N scope cl C s₀ H₀ ex pn).env).length=n:=by rfl) (hst:(assignEach es (kK X N scope cl C s₀ H₀ ex pn).env).findIdx? (·.1)=none:=by rfl):PG (kK X N scope cl C s₀ H₀ ex pn) (.Tuple es k pos) (NW X.K n t):=rD (X:=kK X N scope cl C s₀ H₀ ex pn) hc h hn hst
theorem MF{tg l:Expr}{tl:TE}(hl:PE (kK X N scope cl C s₀ H₀ ex pn) l tl):PI (kK X N scope cl C s₀ H₀ ex pn) tg l (Pz X.K tl):=cM hl
theorem FT:QZ (kK X N scope cl C s₀ H₀ ex pn) (N9 X.K):=bM
theorem Jl:QZ (kK X N scope cl C s₀ H₀ ex pn) (LZ X.K):=eF
end
theorem DG{X:Cx}:nO X (.type "range") (fun xs H Q=>∃ j:Int,xs=[.int j]∧∀ p,H p=none→Q (.ref p) (upd H p (.EO 0 j))):=by
 intro pins s σ H xs us Q I r h
 obtain⟨j,rfl,q⟩:=h
 obtain⟨u1,rfl,⟨t,rfl⟩⟩:=r.one
 refine call_range_1 ⟨.ref s.heap.objs.size,_,I.laid (o:=.EO 0 j) (fun b o e=>Heap.get?_push_of_some _ e) (gQ _) ⟨_,_,_,Heap.get?_push_size _ rfl⟩,rfl,q _ (I.hok.fresh (gQ _))⟩
theorem xT{scope:Scope}{env:Env}(h:∀ p∈scope.names,p.2=.free→∃ c,env.cells.lookup p.1=some c) :
  ∃ cl,closureFor scope env=pure cl∧(∀ x c,cl.lookup x=some c→env.cells.lookup x=some c)∧(∀ p∈scope.names,p.2=.free→∃ c,cl.lookup p.1=some c):=by
 unfold closureFor
 have key:∀ (l:List (Str × NameKind)) (cs:List (Str × Addr)),(∀ p∈l,p.2=.free→∃ c,env.cells.lookup p.1=some c)→(∀ x c,cs.lookup x=some c→env.cells.lookup x=some c) →
   ∃ cl,(forIn l cs (fun p r=>if (p.2 == NameKind.free)=true then do let c ← cellOf env p.1;pure (ForInStep.yield ((p.1,c)::r)) else pure (ForInStep.yield r)):Sem (List (Str × Addr)))=pure cl∧(∀ x c,cl.lookup x=some c→env.cells.lookup x=some c)∧(∀ p∈l,p.2=.free→∃ c,cl.lookup p.1=some c)∧(∀ x c,cs.lookup x=some c→∃ c,cl.lookup x=some c):=by
  intro l
  induction l with
  | nil=>intro cs _ hcs;exact⟨cs,rfl,hcs,(fun p hp=>by cases hp),fun x c e=>⟨c,e⟩⟩
  | cons p l ih =>
   intro cs hl hcs
   rw[List.forIn_cons]
   by_cases hp:p.2=.free
   ·obtain⟨c,hc⟩:=hl p sD hp
    have e1:(p.2 == NameKind.free)=true:=by rw[hp];rfl
    have e2:cellOf env p.1=pure c:=by
     unfold cellOf
     rw[hc]
    rw[if_pos e1,e2]
    simp only[pure_bind]
    obtain⟨cl,h1,h2,h3,h4⟩:=ih ((p.1,c)::cs) (fun q hq=>hl q (sJ _ hq)) (fun x d e=>by
     rw[List.lookup_cons]at e
     cases hx:x == p.1 with
     | true =>
      rw[hx]at e
      cases e
      rw[eq_of_beq hx]
      exact hc
     | false =>
      rw[hx]at e
      exact hcs x d e)
    refine⟨cl,h1,h2,fun q hq hf=>?_,fun x d e=>?_⟩
    ·rcases List.mem_cons.mp hq with rfl|hq
     ·exact h4 q.1 c (by rw[List.lookup_cons];simp)
     ·exact h3 q hq hf
    ·cases hx:x == p.1 with
     | true=>exact h4 x c (by rw[List.lookup_cons,hx])
     | false=>exact h4 x d (by rw[List.lookup_cons,hx];exact e)
   ·have e1:¬ (p.2 == NameKind.free)=true:=fun z=>hp (eq_of_beq z)
    rw[if_neg e1]
    simp only[pure_bind]
    obtain⟨cl,h1,h2,h3,h4⟩:=ih cs (fun q hq=>hl q (sJ _ hq)) hcs
    refine⟨cl,h1,h2,fun q hq hf=>?_,h4⟩
    rcases List.mem_cons.mp hq with rfl|hq
    ·exact absurd hf hp
    ·exact h3 q hq hf
 obtain⟨cl,h1,h2,h3,_⟩:=key scope.names [] h (fun x c e=>by cases e)
 refine⟨cl,?_,h2,h3⟩
 rw[← h1]
 simp only[bind_pure]
theorem pD{env:Env}:∀ {names:List (Str × NameKind)} {x:Str} {k:NameKind},names.lookup x=some k →
  (names.map fun (n,k)=>if (k == NameKind.free&&env.scope.kind == .function&&env.kindOf n == some .cell) then (n,NameKind.cell) else (n,k)).lookup x=some (if (k == NameKind.free&&env.scope.kind == .function&&env.kindOf x == some .cell) then NameKind.cell else k)
 | [],_,_,h=>by cases h
 | (n,k')::r,x,k,h=>by
  rw[mz]
  by_cases hx:(x == n)=true
  ·have e:x=n:=eq_of_beq hx
   subst e
   rw[List.lookup_cons,hx]at h
   cases h
   by_cases hc:(k' == NameKind.free&&env.scope.kind == .function&&env.kindOf x == some .cell)=true
   ·show List.lookup x ((if (k' == NameKind.free&&env.scope.kind == .function&&env.kindOf x == some .cell)=true then (x,NameKind.cell) else (x,k'))::_)=_
    rw[if_pos hc,if_pos hc,List.lookup_cons,hx]
   ·show List.lookup x ((if (k' == NameKind.free&&env.scope.kind == .function&&env.kindOf x == some .cell)=true then (x,NameKind.cell) else (x,k'))::_)=_
    rw[if_neg hc,if_neg hc,List.lookup_cons,hx]
  ·have hf:(x == n)=false:=by simpa using hx
   rw[List.lookup_cons,hf]at h
   have ih:=pD (env:=env) h
   show List.lookup x ((if (k' == NameKind.free&&env.scope.kind == .function&&env.kindOf n == some .cell)=true then (n,NameKind.cell) else (n,k'))::_)=_
   by_cases hc:(k' == NameKind.free&&env.scope.kind == .function&&env.kindOf n == some .cell)=true
   ·rw[if_pos hc,List.lookup_cons,hf];exact ih
   ·rw[if_neg hc,List.lookup_cons,hf];exact ih
theorem nQ{env:Env}:∀ {names:List (Str × NameKind)} {x:Str},names.lookup x=none →
  (names.map fun (n,k)=>if (k == NameKind.free&&env.scope.kind == .function&&env.kindOf n == some .cell) then (n,NameKind.cell) else (n,k)).lookup x=none
 | [],_,_=>rfl
 | (n,k')::r,x,h=>by
  rw[mz]
  have hf:(x == n)=false:=by
   cases hx:x == n with
   | false=>rfl
   | true=>rw[List.lookup_cons,hx]at h;cases h
  rw[List.lookup_cons,hf]at h
  have ih:=nQ (env:=env) h
  show List.lookup x ((if (k' == NameKind.free&&env.scope.kind == .function&&env.kindOf n == some .cell)=true then (n,NameKind.cell) else (n,k'))::_)=_
  by_cases hc:(k' == NameKind.free&&env.scope.kind == .function&&env.kindOf n == some .cell)=true
  ·rw[if_pos hc,List.lookup_cons,hf];exact ih
  ·rw[if_neg hc,List.lookup_cons,hf];exact ih
structure CO(X:Cx)(N:List Str)(scope:Scope)(jx:List (Option Nat)):Prop where
 kind:scope.kind=.function
 cell:∀ x∈scope.names,x.2≠.cell
 names:∀ x∈scope.names,x.2=.local→scope.names.lookup x.1=some .local
 xk:X.env.scope.kind=.function
 fr:∀ x∈scope.names,x.2=.free→X.env.scope.names.lookup x.1=some .cell
 len:jx.length=N.length
 free:∀ (i j:Nat) (x:Str),jx[i]?=some (some j)→N[i]?=some x→X.N[j]?=some x∧scope.names.lookup x=some .free
def freeOk(NX N:List Str)(scope:Scope)(jx:List (Option Nat)):Bool:=(jx.zip N).all fun p=>match p.1 with
 | none=>true
 | some j=>decide (NX[j]?=some p.2)&&decide (scope.names.lookup p.2=some .free)
theorem r9{X:Cx}{N NX:List Str}{scope sc:Scope}{jx:List (Option Nat)}(e1:X.env.scope=sc)(e2:X.N=NX)(k:scope.kind=.function)(h1:∀ x∈scope.names,x.2≠.cell)(h2:∀ x∈scope.names,x.2=.local→scope.names.lookup x.1=some .local)
  (h3:sc.kind=.function) (h4:∀ x∈scope.names,x.2=.free→sc.names.lookup x.1=some .cell) (h5:jx.length=N.length) (h6:freeOk NX N scope jx=true):CO X N scope jx:=by
 refine⟨k,h1,h2,by rw[e1];exact h3,by rw[e1];exact h4,h5,fun i j x a b=>?_⟩
 rw[e2]
 unfold freeOk at h6
 rw[List.all_eq_true]at h6
 have z:=h6 (some j,x) (uA (i:=i) (by rw[List.getElem?_zip_eq_some];exact⟨a,b⟩))
 simp only[Bool.and_eq_true,decide_eq_true_eq]at z
 exact z
section
variable {X:Cx} {N:List Str} {scope:Scope} {jx:List (Option Nat)}
theorem CO.toF{pins:List (Addr × Obj)}{σ:L2.St}{H:Hp}{s:Shared}(cg:CO X N scope jx)(I:Inv X pins σ H s):∃ cl,CM X N scope cl jx:=by
 obtain⟨cl,h1,h2,h3⟩:=xT (scope:=scope) (env:=X.env) fun p hp hf=>I.ok.has p.1 (.inl (cg.fr p hp hf))
 have rel:∀ x,scope.names.lookup x=some .free→(relabel scope X.env).names.lookup x=some .cell:=fun x hx=>by
  have z:=pD (env:=X.env) hx
  have c:(NameKind.free == NameKind.free&&X.env.scope.kind == .function&&X.env.kindOf x == some .cell)=true:=by
   have q:X.env.kindOf x=some .cell:=cg.fr (x,.free) (PySem.mem_of_lookup hx) rfl
   rw[cg.xk,q]
   rfl
  rw[if_pos c]at z
  exact z
 refine⟨cl,cg.kind,cg.cell,cg.names,h1,h2,fun x hx=>?_,cg.len,fun i j x a b=>?_⟩
 ·cases e:scope.names.lookup x with
  | none =>
   have z:(relabel scope X.env).names.lookup x=none:=nQ (env:=X.env) e
   rw[z]at hx
   rcases hx with q|q <;> cases q
  | some k =>
   by_cases hk:k=.free
   ·subst hk
    exact h3 (x,.free) (PySem.mem_of_lookup e) rfl
   ·have z:(relabel scope X.env).names.lookup x=some (if (k == NameKind.free&&X.env.scope.kind == .function&&X.env.kindOf x == some .cell) then NameKind.cell else k):=pD (env:=X.env) e
    have c:(k == NameKind.free)=false:=by
     cases q:k == NameKind.free with
     | false=>rfl
     | true=>exact absurd (eq_of_beq q) hk
    rw[c]at z
    simp only[Bool.false_and,Bool.false_eq_true,if_false]at z
    rw[z]at hx
    rcases hx with q|q
    ·cases q
     exact absurd rfl (cg.cell (x,.cell) (PySem.mem_of_lookup e))
    ·cases q
     exact absurd rfl hk
 ·obtain⟨f1,f2⟩:=cg.free i j x a b
  exact⟨f1,cg.fr (x,.free) (PySem.mem_of_lookup f2) rfl,rel x f2⟩
theorem ku{elt tg iter:Expr}{ifs:List Expr}{pos:Pos}{wi:TI}{g:TG}{tt:TT}{te:TE}(cg:CO X N scope jx)(hc:X.calm=true)(hi:PI X tg iter wi)
  (hg:∀ cl C s₀ H₀ ex pn,PG (kK X N scope cl C s₀ H₀ ex pn) tg g) (ht:∀ cl C s₀ H₀ ex pn,GV (kK X N scope cl C s₀ H₀ ex pn) ifs tt) (he:∀ cl C s₀ H₀ ex pn,PE (kK X N scope cl C s₀ H₀ ex pn) elt te)
  (hs:∀ x,foldedSetIterable iter X.env x=pure x:=by intro _;rfl):PE X (.ListComp elt [⟨tg,iter,ifs,0⟩] scope pos) (xS jx wi g tt te):=by
 intro pins s σ H Q I h
 obtain⟨cl,cs⟩:=cg.toF I
 exact ME cs hc hi (hg cl) (ht cl) (he cl) hs pins s σ H Q I h
theorem OB{elt tg iter:Expr}{ifs:List Expr}{pos pos' pos2:Pos}{wi:TI}{g:TG}{tt:TT}{te:TE}{i:Nat}{x:Str}(cg:CO X N scope jx)(hc:X.calm=true)(hN:X.N.Nodup)(hix:X.N[i]?=some x)(hx:X.env.scope.names.lookup x=some .local)(hi:PI X tg iter wi)
  (hg:∀ cl C s₀ H₀ ex pn,PG (kK X N scope cl C s₀ H₀ ex pn) tg g) (ht:∀ cl C s₀ H₀ ex pn,GV (kK X N scope cl C s₀ H₀ ex pn) ifs tt) (he:∀ cl C s₀ H₀ ex pn,PE (kK X N scope cl C s₀ H₀ ex pn) elt te)
  (hsw:swapsWith (.ListComp elt [⟨tg,iter,ifs,0⟩] scope pos) (some (.Name x pos')) pos2.line X.env=pure true:=by rfl)
  (hs:∀ x,foldedSetIterable iter X.env x=pure x:=by intro _;rfl):PS X (.Assign [.Name x pos'] (.ListComp elt [⟨tg,iter,ifs,0⟩] scope pos) pos2) (NY (xS jx wi g tt te) (vZ i)):=by
 intro pins s σ H D I h
 obtain⟨cl,cs⟩:=cg.toF I
 exact OA cs hc hN hix hx hi (hg cl) (ht cl) (he cl) hsw hs pins s σ H D I h
end
end dD
namespace dD
open PySem PySem.Spec PyProof.Rows L2
section
variable {X:Cx} {N:List Str} {scope:Scope} {cl:List (Str × Addr)} {jx:List (Option Nat)}
def FU(J:It)(acc:Addr)(g:TG)(tt:TT)(yX:TI)(g2:TG)(yY:TT)(te:TE)(σ0:L2.St)(H:Hp)(Q:VK):Prop :=
 ∃ W:Nat→Nat→L2.St→Hp→Prop,(∃ m,W 0 m σ0 H)∧∀ i m σ H,W i m σ H →
  (J.stop i H∧Q (.ref acc) H)∨(J.go i H∧∃ Nx:L2.St→Hp→Prop,(∀ σ' H',Nx σ' H'→∃ m',m'<m∧W (i+1) m' σ' H')∧∀ x H',J.J3 i H x H'→g x σ H' fun σ2 H2=>tt σ2 H2 fun b H3 =>
   if b=true then Ar yX acc g2 yY te σ2 H3 Nx else Nx σ2 H3)
def Jm(jx:List (Option Nat))(wi:TI)(g:TG)(tt:TT)(yX:TI)(g2:TG)(yY:TT)(te:TE):TE:=fun σ H Q=>wi σ H fun J H1=>∀ acc,H1 acc=none→FU J acc g tt yX g2 yY te (vz jx σ) (upd H1 acc (.lst [])) Q
theorem HL{elt tg iter qM cN:Expr}{ifs jH:List Expr}{pos pos':Pos}{wi yX:TI}{g g2:TG}{tt yY:TT}{te:TE}(cs:CM X N scope cl jx)(hc:X.calm=true)(hi:PI X tg iter wi)
  (hg:∀ C s₀ H₀ ex pn,PG (kK X N scope cl C s₀ H₀ ex pn) tg g) (ht:∀ C s₀ H₀ ex pn,GV (kK X N scope cl C s₀ H₀ ex pn) ifs tt) (hi2:∀ C s₀ H₀ ex pn,PI (kK X N scope cl C s₀ H₀ ex pn) qM cN yX) (UG:∀ C s₀ H₀ ex pn,PG (kK X N scope cl C s₀ H₀ ex pn) qM g2) (Fy:∀ C s₀ H₀ ex pn,GV (kK X N scope cl C s₀ H₀ ex pn) jH yY) (he:∀ C s₀ H₀ ex pn,PE (kK X N scope cl C s₀ H₀ ex pn) elt te)
  (hs:∀ x,foldedSetIterable iter X.env x=pure x) (hs2:∀ (env:Env) x,foldedSetIterable cN env x=pure x) {use:Option (Value→Sem Unit)} {Q':Value→Shared→Prop} {Q:VK} {pins:List (Addr × Obj)} {s:Shared} {σ:L2.St} {H:Hp} (I:Inv X pins σ H s) (h:Jm jx wi g tt yX g2 yY te σ H Q)
  (fin:∀ (s3:Shared) (H3:Hp) (fp:List Addr) (acc:Addr) (σ6:L2.St) (H6:Hp) (s7:Shared),Inv X pins σ H3 s3→(∀ b∈fp,nH X pins H3 b)→Inv (kK X N scope cl s3.heap.objs.size s3 H3 fp (X.pn++pins)) [] σ6 H6 s7→Q (.ref acc) H6 →
   compPost (model X.prog X.w) X.A X.xe use Q' (.ref acc) s3.heap.objs.size (.ok .next) s7) :
  wpAny (model X.prog X.w) X.A (comprehension (.ListComp elt [⟨tg,iter,ifs,0⟩,⟨qM,cN,jH,0⟩] scope pos) scope X.env pos' (newList []) false (eval iter X.env) use) Q' X.xe s:=by
 refine wpAny_comprehension_free (use:=use) rfl hs cs.clos cs.kind cs.names (cu (hi pins s σ H _ I h) fun v s1 h1=>cu h1 fun itv s2 h2=>?_)
 obtain⟨it,fp,tn,J,H2,e,I2,T,st2,f2,q⟩:=h2
 subst e
 refine wpAny_newObj_type (hd:=by size_fits) ?_
 have hacc:H2 s2.heap.objs.size=none:=I2.hok.fresh (gQ _)
 have I3:Inv X pins σ (upd H2 s2.heap.objs.size (.lst [])) { s2 with heap:=s2.heap.push { cls:=.type "list",data:=.seq ([]:List Value).toArray },toks:=s2.toks }:=I2.Kf (ys:=[]) .nil (lI _)
 have Mu:∀ b∈fp,b<s2.heap.objs.size:=fun b hb=>by
  obtain⟨o,ho,_⟩:=T.obj _ _ st2 b hb
  exact Heap.lt_size ho
 have f3:∀ b∈fp,nH X pins (upd H2 s2.heap.objs.size (.lst [])) b:=fun b hb=>⟨by rw[aF (ko (Mu b hb))];exact (f2 b hb).1,(f2 b hb).2⟩
 have k3:∀ b o,s2.heap.get? b=some o→(s2.heap.push { cls:=.type "list",data:=.seq ([]:List Value).toArray }).get? b=some o:=fun b o e=>Heap.get?_push_of_some _ e
 have q3:=q _ hacc
 generalize Rh:({ s2 with heap:=s2.heap.push { cls:=.type "list",data:=.seq ([]:List Value).toArray },toks:=s2.toks }:Shared)=s3 at I3
 generalize hH3:upd H2 s2.heap.objs.size (.lst [])=H3 at I3 f3 q3
 have Mv:s3.heap=s2.heap.push { cls:=.type "list",data:=.seq ([]:List Value).toArray }:=by rw[← Rh]
 have Cz:∀ b∈fp,b<s3.heap.objs.size:=fun b hb=>by rw[Mv,Heap.size_push];exact Nat.lt_succ_of_lt (Mu b hb)
 have st3:tn 0 s3.heap:=T.keep _ _ _ st2 fun b _ o e=>by rw[Mv];exact k3 b o e
 show wpAny _ _ _ _ _ s3
 refine wpAny_newFunctionEnv cs.cell (fun y hy=>by simp at hy) (fun h₁ hns Kr=>?_) cs.kind
 have kh:∀ b o,s3.heap.get? b=some o→h₁.get? b=some o:=fun b o e=>Kr.extBut _ _ (ko (Heap.lt_size e)) (Heap.get?_push_of_some _ e)
 have J0:Inv (kK X N scope cl s3.heap.objs.size s3 H3 fp (X.pn++pins)) [] (vz jx σ) H3 { s3 with heap:=h₁,toks:=s3.toks+([]:List (Str × Value)).length }:=yK cs I3 f3 Cz hns kh
 have Mw:tn 0 h₁:=T.keep _ _ _ st3 fun b _ o e=>kh b o e
 obtain⟨W,⟨m0,w0⟩,turn⟩:=q3
 have oO:∀ {H':Hp},(∀ b∈fp,H' b=none)→∀ b∈fp,nH (kK X N scope cl s3.heap.objs.size s3 H3 fp (X.pn++pins)) [] H' b:=fun hn b hb=>by
  refine⟨hn b hb,ko (Cz b hb),fun z=>?_,.inl hb,fun x c e=>(f3 b hb).2.2.2.2.1 x c (cs.sub x c e),fun p hp=>?_⟩
  ·rcases List.mem_cons.mp (I3.qv b z) with e|e
   ·exact (f3 b hb).2.1 e
   ·exact (f3 b hb).2.2.1 e
  ·have Jd:p∈X.pn++pins:=by
    have z:p∈(X.pn++pins)++[]:=hp
    simpa using z
   exact (f3 b hb).2.2.2.2.2 p Jd
 have loop:∀ s5:Shared,s5={ s3 with heap:=h₁,toks:=s3.toks+([]:List (Str × Value)).length }→codeAny (model X.prog X.w) X.A (.compLoop (.ListComp elt [⟨tg,iter,ifs,0⟩,⟨qM,cN,jH,0⟩] scope pos) 0 (.ref it) (.ref s2.heap.objs.size) (kK X N scope cl s3.heap.objs.size s3 H3 fp (X.pn++pins)).env)
   (compPost (model X.prog X.w) X.A X.xe use Q' (.ref s2.heap.objs.size) s3.heap.objs.size) s5:=by
  rintro s5 rfl
  refine Jh (fun n s'=>∃ i σ' H',Inv (kK X N scope cl s3.heap.objs.size s3 H3 fp (X.pn++pins)) [] σ' H' s'∧tn i s'.heap∧(∀ b∈fp,H' b=none)∧W i n σ' H') (hs2 _) ?_ m0 ⟨0,_,H3,J0,Mw,fun b hb=>(f3 b hb).1,w0⟩
  rintro n s6 ⟨i,σ6,H6,I6,Jf,GW,w6⟩
  rcases turn i n σ6 H6 w6 with ⟨stop,qn⟩|⟨go,Nx,hN,step⟩
  ·refine cu (T.done (kK X N scope cl s3.heap.objs.size s3 H3 fp (X.pn++pins)) rfl rfl rfl hc i [] s6 σ6 H6 _ I6 (oO GW) Jf stop) fun r s7 ⟨hr,I7⟩=>?_
   subst hr
   exact fin s3 H3 fp _ σ6 H6 s7 I3 f3 I7 qn
  ·refine cu (T.item (kK X N scope cl s3.heap.objs.size s3 H3 fp (X.pn++pins)) rfl rfl rfl hc i [] s6 σ6 H6 _ I6 (oO GW) Jf go) fun r s7 ⟨u,hr,h7⟩=>?_
   subst hr
   refine cu h7 fun _ s8 ⟨x,H8,I8,r8,y8,Dw,CA⟩=>?_
   have Oh:=I8.pinned (oO CA) (T.obj _ _ Dw)
   refine cu (hg _ _ _ _ _ _ s8 σ6 H8 x u _ Oh r8 (step x H8 y8)) fun _ s9 ⟨σ9,H9,I9,q9⟩=>?_
   refine cu (ht _ _ _ _ _ _ s9 σ9 H9 _ I9 q9) fun ok BO ⟨GX,Jg,vU⟩=>?_
   have again:∀ {σ7:L2.St} {H7:Hp} {nI:Shared},Inv (kK X N scope cl s3.heap.objs.size s3 H3 fp (X.pn++pins)) ([]++rE fp s8.heap) σ7 H7 nI→Nx σ7 H7→∃ m,m<n∧∃ i σ' H',Inv (kK X N scope cl s3.heap.objs.size s3 H3 fp (X.pn++pins)) [] σ' H' nI∧tn i nI.heap∧(∀ b∈fp,H' b=none)∧W i m σ' H':=fun {σ7 H7 nI} I7 n7=>by
    obtain⟨m',hm,w7⟩:=hN σ7 H7 n7
    refine⟨m',hm,i+1,σ7,H7,I7.mX,T.keep _ _ _ Dw fun b hb o e=>(I7.pin (b,o) (mW _ (mW _ (eE hb e)))).1,fun b hb=>?_,w7⟩
    obtain⟨o,e,d⟩:=T.obj _ _ Dw b hb
    exact (I7.pin (b,o) (mW _ (mW _ (eE hb e)))).2.1
   cases ok with
   | false =>
    rw[if_neg tP]at vU
    exact again Jg vU
   | true =>
    rw[if_pos rfl]at vU
    refine cu (CC (Y:=kK X N scope cl s3.heap.objs.size s3 H3 fp (X.pn++pins)) hc rfl (hi2 _ _ _ _ _) (UG _ _ _ _ _) (Fy _ _ _ _ _) (he _ _ _ _ _) Jg vU) fun x nI h11=>cu h11 fun S0 s12 h12=>codeAny_mono h12 fun r yJ ⟨hr,σ',H',I13,n13⟩=>⟨hr,again I13 n13⟩
 exact codeAny_compStart_list (loop _ rfl) (T.self _ _ _ _ _ Mw (loop _ rfl))
theorem KC{elt tg iter qM cN:Expr}{ifs jH:List Expr}{pos:Pos}{wi yX:TI}{g g2:TG}{tt yY:TT}{te:TE}(cg:CO X N scope jx)(hc:X.calm=true)(hi:PI X tg iter wi)
  (hg:∀ cl C s₀ H₀ ex pn,PG (kK X N scope cl C s₀ H₀ ex pn) tg g) (ht:∀ cl C s₀ H₀ ex pn,GV (kK X N scope cl C s₀ H₀ ex pn) ifs tt)
  (hi2:∀ cl C s₀ H₀ ex pn,PI (kK X N scope cl C s₀ H₀ ex pn) qM cN yX) (UG:∀ cl C s₀ H₀ ex pn,PG (kK X N scope cl C s₀ H₀ ex pn) qM g2) (Fy:∀ cl C s₀ H₀ ex pn,GV (kK X N scope cl C s₀ H₀ ex pn) jH yY) (he:∀ cl C s₀ H₀ ex pn,PE (kK X N scope cl C s₀ H₀ ex pn) elt te)
  (hs:∀ x,foldedSetIterable iter X.env x=pure x:=by intro _;rfl) (hs2:∀ (env:Env) x,foldedSetIterable cN env x=pure x:=by intro _ _;rfl) :
  PE X (.ListComp elt [⟨tg,iter,ifs,0⟩,⟨qM,cN,jH,0⟩] scope pos) (Jm jx wi g tt yX g2 yY te):=by
 intro pins s σ H Q I h
 obtain⟨cl,cs⟩:=cg.toF I
 rw[eval_ListComp]
 refine HL (use:=none) cs hc hi (hg cl) (ht cl) (hi2 cl) (UG cl) (Fy cl) (he cl) hs hs2 I h fun s3 H3 fp acc σ6 H6 s7 I3 f3 I7 qn=>?_
 obtain⟨m,hm,_⟩:=I7.loc
 exact⟨m,hm,fun h' Kr=>⟨.ref acc,H6,xR I3 (xQ I3 f3 I7) I7.free Kr,rfl,qn⟩⟩
theorem FW{K:PySem.W.Frag}{a acc:Addr}{xs:List V}{g:TG}{tt:TT}{yX:TI}{g2:TG}{yY:TT}{te:TE}{σ0:L2.St}{H:Hp}{Q:VK}(Pv:Nat→L2.St→Hp→Prop)(h0:Pv 0 σ0 H)(hl:∀ i σ H,i≤xs.length→Pv i σ H→bN K H a xs)
  (hs:∀ i x σ H,xs[i]?=some x→Pv i σ H→g x σ H fun σ2 H2=>tt σ2 H2 fun b H3=>if b=true then Ar yX acc g2 yY te σ2 H3 (Pv (i+1)) else Pv (i+1) σ2 H3)
  (hd:∀ σ H,Pv xs.length σ H→Q (.ref acc) H):FU (J5 K a) acc g tt yX g2 yY te σ0 H Q:=by
 refine⟨fun i m σ H=>m=xs.length-i∧i≤xs.length∧Pv i σ H,⟨xs.length,by simp,lI _,h0⟩,?_⟩
 rintro i m σ H ⟨rfl,hi,p⟩
 have q:=hl i σ H hi p
 by_cases hlt:i<xs.length
 ·refine .inr ⟨⟨xs,xs[i],q,by simp[hlt]⟩,Pv (i+1),fun σ' H' p'=>⟨xs.length-(i+1),by omega,rfl,hlt,p'⟩,fun x H' y=>?_⟩
  obtain⟨e,y⟩:=y
  subst e
  exact hs i x σ _ (y xs q) p
 ·have e:i=xs.length:=by omega
  subst e
  exact .inl ⟨⟨xs,q,gQ _⟩,hd σ H p⟩
theorem HM{K:PySem.W.Frag}{a acc:Addr}{xs:List V}{g:TG}{tt:TT}{te:TE}{σ:L2.St}{H:Hp}{Nx:L2.St→Hp→Prop}(Pv:Nat→L2.St→Hp→Prop)(h0:Pv 0 σ H)(hl:∀ i σ H,i≤xs.length→Pv i σ H→bN K H a xs)
  (hs:∀ i x σ H,xs[i]?=some x→Pv i σ H→g x σ H fun σ2 H2=>tt σ2 H2 fun b H3=>if b=true then te σ2 H3 fun v H4=>∃ ys,H4 acc=some (.lst ys)∧ys.length<sizeLine∧Pv (i+1) σ2 (upd H4 acc (.lst (ys++[v]))) else Pv (i+1) σ2 H3)
  (hd:∀ σ H,Pv xs.length σ H→Nx σ H):∃ W:Nat→Nat→L2.St→Hp→Prop,(∃ m,W 0 m σ H)∧∀ i m σ H,W i m σ H →
  ((J5 K a).stop i H∧Nx σ H)∨((J5 K a).go i H∧∃ N2:L2.St→Hp→Prop,(∀ σ' H',N2 σ' H'→∃ m',m'<m∧W (i+1) m' σ' H')∧∀ x H',(J5 K a).J3 i H x H'→g x σ H' fun σ2 H2=>tt σ2 H2 fun b H3 =>
   if b=true then te σ2 H3 fun v H4=>∃ xs,H4 acc=some (.lst xs)∧xs.length<sizeLine∧N2 σ2 (upd H4 acc (.lst (xs++[v]))) else N2 σ2 H3):=by
 refine⟨fun i m σ H=>m=xs.length-i∧i≤xs.length∧Pv i σ H,⟨xs.length,by simp,lI _,h0⟩,?_⟩
 rintro i m σ H ⟨rfl,hi,p⟩
 have q:=hl i σ H hi p
 by_cases hlt:i<xs.length
 ·refine .inr ⟨⟨xs,xs[i],q,by simp[hlt]⟩,Pv (i+1),fun σ' H' p'=>⟨xs.length-(i+1),by omega,rfl,hlt,p'⟩,fun x H' y=>?_⟩
  obtain⟨e,y⟩:=y
  subst e
  exact hs i x σ _ (y xs q) p
 ·have e:i=xs.length:=by omega
  subst e
  exact .inl ⟨⟨xs,q,gQ _⟩,hd σ H p⟩
end
end dD
namespace dD
open PySem PySem.Spec PyProof.Rows L2
open AutoSeq1 (wpAny_loadPart')
section
variable {prog:Program} {w:World} {A:Around} {E:Value→Shared→Prop} {s:Shared} {κ:Type} [DecidableEq κ] {knd:KeyKind prog w κ}
theorem KD{d:Addr}{Q:Bool→Shared→Prop}(hT:s.TypeIs (.ref d) "dict")(h:Q false s):wpAny (model prog w) A (Builtin.List.listLengthHint (.ref d)) Q E s:=by
 unfold Builtin.List.listLengthHint
 refine wpAny_bind (wpAny_specialOf hT F.slot_dict_len.lookup ?_)
 generalize hid:("dict.__len__":String)=id0
 wp_delta
 rw[show splitId id0=some ("dict","__len__") by subst hid;decide +kernel]
 subst hid
 refine wpAny_bind (wpAny_isInstance (T:="dict") (b:=true) hT (by rw[isSubtype_type];kernel_rfl) ?_)
 refine wpAny_ite_split (fun q=>absurd q (by decide)) fun _=>?_
 refine wpAny_ite_split (fun _=>?_) fun q=>absurd (by decide +kernel) q
 exact wpAny_bind (wpAny_typeOf hT (wpAny_pure h))
theorem FY{R:Result→Shared→Prop}{d:Addr}{kvs:List (κ × Value)}{ep:Nat}(hh:A.handled=none)(hs:(d == sysModules)=false)(hd:s.heap.DictAt knd d kvs ep)(hlen:kvs.length≤sizeLine)(S:Addr)(res:Value)(c₀:Nat)(hS:s.heap.get? S=some { cls:=.type "list",data:=.seq #[] c₀ })
  (hR:∀ h' tk acc' c',(∀ b o,b≠S→s.heap.get? b=some o→h'.get? b=some o)→h'.get? S=some { cls:=.type "list",dict:=none,data:=.seq acc' c',slots:=#[] } →
   ItemsOf (fun i v=>∃ k x,kvs[i]?=some (k,x)∧knd.is k v=true) acc' kvs.length→R (.ok (.ret res)) { s with heap:=h',toks:=tk }) :
  wpAny (model prog w) A.in1 (Builtin.List.listExtendWith (.ref S) (.ref d) res)
   (fun fin s'=>match fin with|.done f=>R (.ok f) s'|.again c'=>c'.quiet=true∧codeAny (model prog w) A c' R s') (fun e s'=>R (.error e) s') s:=by
 have hT:s.TypeIs (.ref d) "dict":=by
  obtain⟨o,es,ho,hx,_⟩:=hd
  exact⟨o,ho,hx.1⟩
 have hSd:S≠d:=fun e=>by
  obtain⟨o,es,ho,hx,hda,_⟩:=hd
  rw[← e,hS]at ho
  cases ho
  cases hda
 have aeh:S<s.heap.objs.size:=Heap.lt_size hS
 have aei:d<s.heap.objs.size:=by
  obtain⟨o,es,ho,_⟩:=hd
  exact Heap.lt_size ho
 have hSI:S≠s.heap.objs.size:=ko aeh
 have hdI:d≠s.heap.objs.size:=ko aei
 have W:=(Walks.dictKeys (prog:=prog) (w:=w) (A:=A.in1) (knd:=knd) hh s.heap.objs.size d hdI kvs ep).toS
 unfold Builtin.List.listExtendWith
 refine wpAny_bind (wpAny_typeOf hT ?_)
 have h1:Builtin.List.listSameRef (.ref S) (.ref d)=false:=by simp[Builtin.List.listSameRef,hSd]
 have h2:(Value.type "dict" == Value.type "list")=false:=by decide
 have h3:(Value.type "dict" == Value.type "tuple")=false:=by decide
 simp only[h1,h2,h3,Bool.or_false,Bool.false_eq_true,if_false]
 refine wpAny_bind (wpAny_pyIter_dict hs hd ?_)
 have hit:(s.heap.push { cls:=.type "dict_keyiterator",data:=.fields #[.ref d,.int 0 0,.int kvs.length 0,.int ep 0] }).IsKeyIter s.heap.objs.size d 0 kvs.length ep:=⟨_,Heap.get?_push_size _ rfl,rfl,rfl⟩
 have grow:∀ b o,s.heap.get? b=some o→(s.heap.push { cls:=.type "dict_keyiterator",data:=.fields #[.ref d,.int 0 0,.int kvs.length 0,.int ep 0] }).get? b=some o:=fun b o e=>Heap.get?_push_of_some _ e
 generalize s.heap.push { cls:=.type "dict_keyiterator",data:=.fields #[.ref d,.int 0 0,.int kvs.length 0,.int ep 0] }=g1 at hit grow
 have hT1:({ s with heap:=g1 }:Shared).TypeIs (.ref d) "dict":=by
  obtain⟨o,ho,hc⟩:=hT
  exact⟨o,grow _ _ ho,hc⟩
 refine wpAny_bind (wpAny_holding (KD hT1 ?_))
 refine wpAny_ite_split (fun _=>?_) fun q=>absurd (by decide +kernel) q
 refine wpAny_bind (wpAny_rule (wpAny_bind ?_))
 show wpAny _ A.in1 (updateSeq S (fun z=>z.push .none) >>= fun _=>updateSeq S fun z=>z.pop) _ _ _
 have g1S:=grow _ _ hS
 refine wpAny_bind (wpAny_updateSeq g1S rfl ?_)
 have g2S:=Heap.get?_update_self (Obj.mapSeq fun z=>z.push Value.none) g1S rfl
 refine wpAny_updateSeq (hz:=by seq_fits) g2S rfl ?_
 have g3S:=Heap.get?_update_self (Obj.mapSeq fun z=>z.pop) g2S rfl
 have KG:∀ b o,b≠S→g1.get? b=some o→((g1.update S (Obj.mapSeq fun z=>z.push Value.none)).update S (Obj.mapSeq fun z=>z.pop)).get? b=some o:=fun b o nb e =>
  (Heap.get?_update_other _ _ nb.symm).trans ((Heap.get?_update_other _ _ nb.symm).trans e)
 refine wpAny_pure ⟨plainId_quiet F.plain_extend_loop _,codeAny_extend_loopS W hlen S (fun hm=>?_) res kvs.length 0 _ #[] _ rfl (lI _) ⟨hit.at fun o e=>KG _ o hSI.symm e,(hd.at' fun o e=>KG _ o hSd.symm (grow _ o e))⟩ g3S (ItemsOf.nil _) fun s' acc' c' hm hS' hacc=>?_⟩
 ·rcases List.mem_cons.mp hm with e|e
  ·exact hSI e
  ·exact hSd (List.mem_singleton.mp e)
 ·rw[Moved.eq_with hm]
  refine hR s'.heap s'.toks acc' c' (fun b o nb e=>hm.heap b o (fun q=>?_) (KG b o nb (grow b o e))) hS' hacc
  rcases List.mem_cons.mp q with z|z
  ·exact nb z
  ·exact absurd (Heap.lt_size e) (by rw[List.mem_singleton.mp z];exact Nat.lt_irrefl _)
theorem Ax{Q:Value→Shared→Prop}{d:Addr}{kvs:List (κ × Value)}{ep:Nat}(hh:A.handled=none)(hs:(d == sysModules)=false)(hd:s.heap.DictAt knd d kvs ep)(hlen:kvs.length≤sizeLine)
  (hQ:∀ h' tk acc' c',(∀ b o,s.heap.get? b=some o→h'.get? b=some o)→h'.get? s.heap.objs.size=some { cls:=.type "list",dict:=none,data:=.seq acc' c',slots:=#[] } →
   ItemsOf (fun i v=>∃ k x,kvs[i]?=some (k,x)∧knd.is k v=true) acc' kvs.length→Q (.ref s.heap.objs.size) { s with heap:=h',toks:=tk }) :
  wpAny (model prog w) A (call (.type "list") [.ref d]) Q E s:=by
 refine callType_codes (Q₁:=fun u s1=>u=.ref s.heap.objs.size∧s1={ s with heap:=s.heap.push { cls:=.type "list",data:=.seq #[] } }) F.called_list (F.typeCall_list_1 _) F.entry_list_init (code_list_new _ ⟨rfl,rfl⟩) fun u s1 e1=>?_
 obtain⟨rfl,rfl⟩:=e1
 have hS:(s.heap.push { cls:=.type "list",data:=.seq #[] }).get? s.heap.objs.size=some { cls:=.type "list",data:=.seq #[] }:=Heap.get?_push_size _ rfl
 have hd1:(s.heap.push { cls:=.type "list",data:=.seq #[] }).DictAt knd d kvs ep:=hd.at' fun o e=>Heap.get?_push_of_some _ e
 have hdn:d≠s.heap.objs.size:=by
  obtain⟨o,es,ho,_⟩:=hd
  exact ko (Heap.lt_size ho)
 refine⟨⟨_,hS,rfl⟩,F.args_list_init_2 _ _,?_⟩
 show wpAny _ _ (do let old ← Builtin.List.listItems (.ref s.heap.objs.size);Builtin.List.listUpdate (.ref s.heap.objs.size) (fun _=>#[]);letGo old.toList.reverse;Builtin.List.listExtendWith (.ref s.heap.objs.size) (.ref d) .none) _ _ _
 refine wpAny_bind ?_
 unfold Builtin.List.listItems
 refine wpAny_bind (wpAny_seqItems hS rfl (wpAny_pure ?_))
 show wpAny _ _ (updateSeq s.heap.objs.size (fun _=>#[]) >>= fun _=>letGo (#[]:Array Value).toList.reverse >>= fun _=>Builtin.List.listExtendWith (.ref s.heap.objs.size) (.ref d) .none) _ _ _
 refine wpAny_bind (wpAny_updateSeq hS rfl ?_)
 have Rx:=Heap.get?_update_self (Obj.mapSeq fun _=>(#[]:Array Value)) hS rfl
 have KG:∀ b o,b≠s.heap.objs.size→(s.heap.push { cls:=.type "list",data:=.seq #[] }).get? b=some o→((s.heap.push { cls:=.type "list",data:=.seq #[] }).update s.heap.objs.size (Obj.mapSeq fun _=>(#[]:Array Value))).get? b=some o:=fun b o nb e=>(Heap.get?_update_other _ _ nb.symm).trans e
 refine wpAny_bind (wpAny_letGo ?_)
 refine FY (A:=A.in1) (knd:=knd) hh hs (hd1.at' fun o e=>KG _ o hdn e) hlen s.heap.objs.size .none _ Rx fun h' tk acc' c' hk hS' hacc=>?_
 exact⟨rfl,hQ h' tk acc' c' (fun b o e=>hk b o (ko (Heap.lt_size e)) (KG b o (ko (Heap.lt_size e)) (Heap.get?_push_of_some _ e))) hS' hacc⟩
end
theorem HN{X:Cx}(hc:X.calm=true):nO X (.type "list") (fun xs H Q=>∃ (d:Addr) (kvs:List (Key × V)),xs=[.ref d]∧H d=some (.dK kvs)∧∀ l,H l=none→Q (.ref l) (upd H l (.lst (kvs.map fun p=>kV p.1)))):=by
 intro pins s σ H xs us Q I r h
 obtain⟨d,kvs,rfl,hd,q⟩:=h
 obtain⟨u,rfl,rx⟩:=r.one
 cases (show u=Value.ref d from rx)
 obtain⟨hz,hs,vs,kv,o,es,ep,ho,hx⟩:=(show gS X.prog X.w H s.heap d (.dK kvs) from I.hok d _ hd)
 have len:=kv.length
 refine Ax (I.ok.hd hc) hs ⟨o,es,ho,hx⟩ (by omega) fun h' tk acc' c' hk hS hacc=>?_
 refine⟨.ref s.heap.objs.size,_,I.laid (o:=.lst (kvs.map fun p=>kV p.1)) (t':=tk) hk (gQ _) ⟨by rw[cA];exact hz,acc'.toList,c',?_,by simpa using hS⟩,rfl,q _ (I.hok.fresh (gQ _))⟩
 have key:∀ (kvs:List (Key × V)) (vs:List (Key × Value)) (us:List Value),KV kvs vs→us.length=vs.length→(∀ (j:Nat) (v:Value),us[j]?=some v→∃ k x,vs[j]?=some (k,x)∧zU k v=true)→Vals (kvs.map fun p=>kV p.1) us:=by
  intro kvs
  induction kvs with
  | nil =>
   intro vs us kv hl _
   cases kv
   cases us with
   | nil=>exact .nil
   | cons=>simp at hl
  | cons p r ih =>
   intro vs us kv hl hp
   cases kv with
   | @cons _ q _ vs' h1 h2 =>
   cases us with
   | nil=>simp at hl
   | cons u us =>
    obtain⟨k,x,e1,e2⟩:=hp 0 u rfl
    have e3:q=(k,x):=by simpa using e1
    subst e3
    refine .cons ?_ (ih vs' us h2 (by simpa using hl) fun j v e=>?_)
    ·show L2.RelV (kV p.1) u
     rw[show p.1=k from h1.1]
     rcases eY e2 with ⟨i,t,rfl,rfl⟩|⟨i,t,rfl,rfl⟩
     ·exact⟨t,rfl⟩
     ·exact⟨t,rfl⟩
    ·obtain⟨k',x',e4,e5⟩:=hp (j+1) v (by simpa using e)
     exact⟨k',x',by simpa using e4,e5⟩
 exact key kvs vs acc'.toList kv (by simpa using hacc.1) fun j v e=>hacc.2 j v (by simpa using e)
end dD
namespace Ay
open PySem PySem.Spec PyProof.Rows L2 dD jm
end Ay
namespace jm
open PySem PySem.Spec PyProof.Rows L2 dD j4 Ay
inductive b8{α β:Type}(R:α→β→Prop):List α→List β→Prop
 | nil:b8 R [] []
 | cons {a:α} {b:β} {as:List α} {bs:List β}:R a b→b8 R as bs→b8 R (a::as) (b::bs)
section
variable {α β:Type} {R R':α→β→Prop} {as:List α} {bs:List β} {a:α} {b:β}
theorem b8.len:∀ {as:List α} {bs:List β},b8 R as bs→as.length=bs.length
 | _,_,.nil=>rfl
 | _,_,.cons _ t=>by rw[nG,nG,t.len]
theorem b8.get:∀ {as:List α} {bs:List β} {i:Nat},b8 R as bs→as[i]?=some a→∃ b,bs[i]?=some b∧R a b
 | _,_,_,.nil,h=>by simp at h
 | _,_,0,.cons r _,h=>by simp at h;subst h;exact⟨_,rfl,r⟩
 | _,_,i+1,.cons _ t,h=>by simp at h;simpa using t.get h
theorem b8.get':∀ {as:List α} {bs:List β} {i:Nat},b8 R as bs→bs[i]?=some b→∃ a,as[i]?=some a∧R a b
 | _,_,_,.nil,h=>by simp at h
 | _,_,0,.cons r _,h=>by simp at h;subst h;exact⟨_,rfl,r⟩
 | _,_,i+1,.cons _ t,h=>by simp at h;simpa using t.get' h
theorem b8.snoc:∀ {as:List α} {bs:List β},b8 R as bs→R a b→b8 R (as++[a]) (bs++[b])
 | _,_,.nil,h=>.cons h .nil
 | _,_,.cons r t,h=>.cons r (t.snoc h)
theorem b8.mono:∀ {as:List α} {bs:List β},(∀ a b,R a b→R' a b)→b8 R as bs→b8 R' as bs
 | _,_,_,.nil=>.nil
 | _,_,h,.cons r t=>.cons (h _ _ r) (t.mono h)
theorem b8.split:∀ {as:List α} {bs:List β},b8 R as (bs++[b])→∃ as' a,as=as'++[a]∧b8 R as' bs∧R a b
 | _,[],.cons r .nil=>⟨[],_,rfl,.nil,r⟩
 | _,c::bs,.cons r t=>by
  obtain⟨as',a,rfl,t',r'⟩:=t.split
  exact⟨_::as',a,rfl,.cons r t',r'⟩
end
inductive Item where
 | win (n:Int)
 | aB (a b:Int)
def HP:Item→List V
 | .win n=>[.str "win",.int n]
 | .aB a b=>[.str "ink",.int a,.int b]
def cS(H:Hp)(v:V)(it:Item):Prop:=∃ a,v=.ref a∧H a=some (.tup (HP it))
theorem cS.same{H H':Hp}{v:V}{it:Item}(s:aH H H'):cS H v it→cS H' v it:=fun ⟨a,e,h⟩=>⟨a,e,s _ _ h⟩
theorem cS.keep{H H':Hp}{v:V}{it:Item}{q:Addr}{xs:List V}(hq:H q=some (.lst xs))(k:cO q H H'):cS H v it→cS H' v it:=fun ⟨a,e,h⟩=>⟨a,e,k a _ h (by
 intro z
 rw[z,hq]at h
 cases h)⟩
def bx(H:Hp)(v:V)(its:List Item):Prop:=∃ a vs,v=.ref a∧H a=some (.lst vs)∧b8 (cS H) vs its
theorem bx.same{H H':Hp}{v:V}{its:List Item}(s:aH H H'):bx H v its→bx H' v its:=fun ⟨a,vs,e,h,t⟩=>⟨a,vs,e,s _ _ h,t.mono fun _ _=>cS.same s⟩
def iM(H:Hp)(r:Addr)(rows:List (List Item)):Prop:=∃ vs,H r=some (.lst vs)∧b8 (bx H) vs rows
theorem iM.same{H H':Hp}{r:Addr}{rows:List (List Item)}(s:aH H H'):iM H r rows→iM H' r rows:=fun ⟨vs,h,t⟩=>⟨vs,s _ _ h,t.mono fun _ _=>bx.same s⟩
def aY(t:List Item)(e:Int):List Item :=
 if e<0 then t++[.win (-1-e)] else
 match t.getLast? with
 | some (.aB a b)=>if b=e then t.dropLast++[.aB a (e+1)] else t++[.aB e (e+1)]
 | _=>t++[.aB e (e+1)]
def itemsOf(es:List Int):List Item:=es.foldl aY []
def eX(its:List Item):List Int:=its.filterMap fun it=>match it with|.win n=>some n|.aB _ _=>none
def iN(es:List Int):List Int:=es.filterMap fun e=>if e<0 then some (-1-e) else none
theorem iB(a b:List Item):eX (a++b)=eX a++eX b:=by unfold eX;rw[List.filterMap_append]
theorem KH(t:List Item)(e:Int):eX (aY t e)=eX t++(if e<0 then [-1-e] else []):=by
 unfold aY
 by_cases h:e<0
 ·rw[if_pos h,if_pos h,iB];rfl
 ·rw[if_neg h,if_neg h,kj]
  rcases vn t with rfl|⟨t',l,rfl⟩
  ·rfl
  ·rw[sC,xr]
   cases l with
   | win n=>simp[iB,eX]
   | aB a b =>
    show eX (if b=e then (t'++[Item.aB a b]).dropLast++[.aB a (e+1)] else (t'++[Item.aB a b])++[.aB e (e+1)])=_
    by_cases hb:b=e
    ·rw[if_pos hb,List.dropLast_concat,iB,iB];rfl
    ·rw[if_neg hb,iB,iB];simp[eX]
theorem KI(es:List Int):∀ t:List Item,eX (es.foldl aY t)=eX t++iN es:=by
 induction es with
 | nil=>intro t;simp[iN]
 | cons e es ih =>
  intro t
  rw[qt,ih,KH,qD]
  unfold iN
  rw[List.filterMap_cons]
  by_cases h:e<0
  ·simp[h]
  ·simp[h]
theorem j5(es:List Int):eX (itemsOf es)=iN es:=by
 unfold itemsOf
 rw[KI]
 rfl
theorem CP{es:List Int}{y:Int}:y∈iN es↔0≤y∧-1-y∈es:=by
 unfold iN
 rw[List.mem_filterMap]
 constructor
 ·rintro⟨e,he,h⟩
  by_cases h0:e<0
  ·rw[if_pos h0]at h
   cases h
   exact⟨by omega,by rw[show -1-(-1-e)=e by omega];exact he⟩
  ·rw[if_neg h0]at h
   cases h
 ·rintro⟨h0,h1⟩
  refine⟨-1-y,h1,?_⟩
  rw[if_pos (by omega)]
  congr 1
  omega
theorem tZ(es:List Int):∀ t:List Item,(es.foldl aY t).length≤t.length+es.length:=by
 induction es with
 | nil=>intro t;simp
 | cons e es ih =>
  intro t
  rw[qt]
  have z:=ih (aY t e)
  have z2:(aY t e).length≤t.length+1:=by
   unfold aY
   split
   ·simp
   ·split
    ·split
     ·rw[dU,List.length_dropLast,lK];omega
     ·simp
    ·simp
  rw[nG]
  omega
def BP(rows:gB)(x y:Int):Prop:=0≤x∧∃ es,rows[x.toNat]?=some es∧y∈iN es
inductive Reach(E:Int→Int→Prop)(s:Int):Int→Prop
 | one {y:Int}:E s y→Reach E s y
 | step {y z:Int}:Reach E s y→E y z→Reach E s z
theorem Reach.closed{E:Int→Int→Prop}{s:Int}{S:Int→Prop}(h0:∀ y,E s y→S y)(h1:∀ x y,S x→E x y→S y):∀ {g:Int},Reach E s g→S g
 | _,.one h=>h0 _ h
 | _,.step r h=>h1 _ _ (Reach.closed h0 h1 r) h
def Sound(rows:gB):Prop:=∀ es∈rows,∀ y∈iN es,y<rows.length
theorem Sound.OC{rows:gB}(h:Sound rows){x y:Int}(e:BP rows x y):0≤y∧y<rows.length:=by
 obtain⟨_,es,he,hy⟩:=e
 exact⟨(CP.mp hy).1,h es (uA he) y hy⟩
def Walk(E:Int→Int→Prop)(s:Int)(w:List Int):Prop:=w[0]?=some s∧∀ (i:Nat) (x y:Int),w[i]?=some x→w[i+1]?=some y→E x y
theorem Walk.one(E:Int→Int→Prop)(s:Int):Walk E s [s]:=⟨rfl,fun i x y _ h=>by simp at h⟩
theorem Walk.snoc{E:Int→Int→Prop}{s e y:Int}{w:List Int}(h:Walk E s w)(hl:w.getLast?=some e)(he:E e y):Walk E s (w++[y]):=by
 obtain⟨h0,h1⟩:=h
 have hw:w≠[]:=by intro z;rw[z]at hl;cases hl
 have hpos:0<w.length:=by cases w with|nil=>exact absurd rfl hw|cons _ _=>simp
 refine⟨by rw[BH hpos];exact h0,fun i x z hx hz=>?_⟩
 by_cases c:i+1<w.length
 ·rw[BH c]at hz
  rw[BH (by omega)]at hx
  exact h1 i x z hx hz
 ·have c2:i+1=w.length:=by
   have:i+1<(w++[y]).length:=by
    rcases Nat.lt_or_ge (i+1) (w++[y]).length with q|q
    ·exact q
    ·rw[zT q]at hz;cases hz
   rw[dU,lK]at this
   omega
  rw[c2,List.getElem?_append_right (gQ _),Nat.sub_self]at hz
  rw[BH (by omega)]at hx
  rw[List.getLast?_eq_getElem?]at hl
  have:i=w.length-1:=by omega
  rw[this,hl]at hx
  cases hx
  cases hz
  exact he
theorem Walk.reach{E:Int→Int→Prop}{s:Int}{w:List Int}(h:Walk E s w):∀ (i:Nat) (y:Int),w[i+1]?=some y→Reach E s y:=by
 intro i
 induction i with
 | zero=>intro y hy;exact .one (h.2 0 s y h.1 hy)
 | succ i ih =>
  intro y hy
  have:∃ x,w[i+1]?=some x:=by
   rcases Nat.lt_or_ge (i+1) w.length with q|q
   ·exact⟨w[i+1],nU q⟩
   ·rw[zT (by omega)]at hy;cases hy
  obtain⟨x,hx⟩:=this
  exact .step (ih x hx) (h.2 _ _ _ hx hy)
def cnt(n:Nat)(p:Nat→Bool):Nat:=((List.range n).filter p).length
theorem MG(n:Nat){p q:Nat→Bool}(h:∀ i,i<n→p i=q i):cnt n p=cnt n q:=by
 unfold cnt
 rw[List.filter_congr fun i hi=>h i (List.mem_range.mp hi)]
theorem FZ(n:Nat)(p:Nat→Bool):cnt (n+1) p=cnt n p+(if p n=true then 1 else 0):=by
 unfold cnt
 rw[List.range_succ,List.filter_append,dU]
 congr 1
 by_cases h:p n=true
 ·rw[if_pos h];simp[h]
 ·rw[if_neg h];simp[h]
theorem F0(j:Nat):∀ (n:Nat) {p q:Nat→Bool},j<n→p j=true→(∀ i,q i=(p i&&decide (i≠j)))→cnt n q+1=cnt n p
 | 0,_,_,h,_,_=>by omega
 | n+1,p,q,h,hj,hq=>by
  rw[FZ,FZ]
  by_cases e:j=n
  ·subst e
   have z:cnt j q=cnt j p:=MG j fun i hi=>by
    rw[hq i]
    have:decide (i≠j)=true:=by simp;omega
    rw[this,Bool.and_true]
   have z2:q j=false:=by rw[hq j];simp
   rw[z,z2,if_pos hj]
   simp
  ·have ih:=F0 j n (p:=p) (q:=q) (by omega) hj hq
   have z:q n=p n:=by
    rw[hq n]
    have:decide (n≠j)=true:=by simp;omega
    rw[this,Bool.and_true]
   rw[z]
   omega
theorem MH(n:Nat)(p:Nat→Bool):cnt n p≤n:=by
 unfold cnt
 have:=List.length_filter_le p (List.range n)
 rw[List.length_range]at this
 exact this
def iO(av:Addr→Prop)(H:Hp)(v:V)(es:List Int):Prop:=∃ a,v=.ref a∧¬ av a∧H a=some (.lst (es.map V.int))
theorem iO.keep{av:Addr→Prop}{H H':Hp}{v:V}{es:List Int}(k:∀ a o,¬ av a→H a=some o→H' a=some o):iO av H v es→iO av H' v es:=fun ⟨a,e,n,h⟩=>⟨a,e,n,k a _ n h⟩
def HQ(rows:gB):Prop:=∃ rk:Int→Nat,(∀ x,rk x≤40)∧∀ x y,BP rows x y→rk y<rk x
theorem iO.at{av:Addr→Prop}{H:Hp}{v:V}{es:List Int}{q:Addr}(o:HO)(hq:av q):iO av H v es→iO av (upd H q o) v es:=iO.keep fun a u n e=>by
 rw[aF (fun z=>n (by rw[z];exact hq))]
 exact e
theorem iO.same{av:Addr→Prop}{H H':Hp}{v:V}{es:List Int}(s:aH H H'):iO av H v es→iO av H' v es:=iO.keep fun a u _ e=>s a u e
def seen(kvs:List (Key × V))(x:Int):Prop:=(cC kvs (Sum.inl x)).isSome=true
def miss(n:Nat)(kvs:List (Key × V)):Nat:=cnt n fun i=>(cC kvs (Sum.inl (i:Int))).isNone
theorem sX{kvs:List (Key × V)}{y x:Int}(v:V):seen (putK kvs (Sum.inl y) v) x↔x=y∨seen kvs x:=by
 unfold seen
 rw[ng]
 by_cases h:x=y
 ·rw[if_pos (by rw[h]),h];simp
 ·rw[if_neg (fun z=>h (Sum.inl.inj z))];simp[h]
theorem F1{n:Nat}{kvs:List (Key × V)}{y:Int}(v:V)(h0:0≤y)(h1:y<n)(hn:cC kvs (Sum.inl y)=none):miss n (putK kvs (Sum.inl y) v)+1=miss n kvs:=by
 refine F0 y.toNat n (by omega) ?_ fun i=>?_
 ·show (cC kvs (Sum.inl (y.toNat:Int))).isNone=true
  rw[show ((y.toNat:Nat):Int)=y by omega,hn]
  rfl
 ·show (cC (putK kvs (Sum.inl y) v) (Sum.inl (i:Int))).isNone=((cC kvs (Sum.inl (i:Int))).isNone&&decide (i≠y.toNat))
  rw[ng]
  by_cases h:(i:Int)=y
  ·rw[if_pos (by rw[h])]
   have:decide (i≠y.toNat)=false:=by simp;omega
   rw[this,Bool.and_false]
   rfl
  ·rw[if_neg (fun z=>h (Sum.inl.inj z))]
   have:decide (i≠y.toNat)=true:=by simp;omega
   rw[this,Bool.and_true]
theorem Jo(lo:Int)(n:Nat):(run lo n).length=n:=by
 induction n generalizing lo with
 | zero=>rfl
 | succ n ih=>rw[run,nG,ih]
theorem MJ:∀ {n:Nat} {lo y:Int},y∈run lo n→lo≤y∧y<lo+n
 | 0,_,_,h=>by cases h
 | n+1,lo,y,h=>by
  rcases List.mem_cons.mp h with rfl|z
  ·omega
  ·have:=MJ z
   omega
theorem b8.new{H2:Hp}{q t:Addr}{vs:List V}{its:List Item}{it:Item}{ys:List V}(hq2:H2 q=some (.lst ys))(hb:b8 (cS H2) vs its)(ht:H2 t=none)(zs:List V) :
  b8 (cS (upd (upd H2 t (.tup (HP it))) q (.lst zs))) (vs++[.ref t]) (its++[it]):=by
 have Ro:q≠t:=au hq2 ht
 have s1:aH H2 (upd H2 t (.tup (HP it))):=aj ht _
 refine b8.snoc (hb.mono fun v i h=>(h.same s1).keep (s1 _ _ hq2) (aK q _ _)) ⟨t,rfl,?_⟩
 rw[aF Ro.symm,af]
end jm
namespace OD
open PySem PySem.Spec PyProof.Rows L2 dD
section
variable {M:Model} {A:Around} {E:Value→Shared→Prop} {s:Shared}
theorem DH{a b:Value}{Q:Value→Shared→Prop}(ha:s.TypeIs a "list")(hb:s.TypeIs b "list")(hc:wpAny M A (call (.builtin "list.__iadd__") [a,b]) Q E s):wpAny M A (inplaceOp .Add a b) Q E s:=by
 unfold inplaceOp
 refine wpAny_holding ?_
 have hq:isSeqSlot (some (.builtin "list.__iadd__"))=true:=by decide +kernel
 have hfi:fillsInplaceSlot (.type "list") "add" (Operator.Add == .Add)=pure false:=by
  unfold fillsInplaceSlot
  show (typeLookup (.type "list") (dunderI "add") >>= fun fi=>pure (fi.isSome&&!isSeqSlot fi))=pure false
  rw[PySem.F.slot_list_iadd.lookup,pure_bind,hq];rfl
 have hsi:seqSlot? (.type "list") (dunderI "add")=pure (some (.builtin "list.__iadd__")):=PySem.seqSlot_of PySem.F.slot_list_iadd.lookup hq
 refine wpAny_bind (wpAny_typeOf ha (wpAny_bind (wpAny_of_eq hfi ?_)))
 show wpAny M A (if false=true then _ else _) Q E s
 rw[if_neg tP]
 refine wpAny_bind (binaryOp1_none (nm:="add") ha hb PySem.noFill_list_add ?_)
 refine wpAny_bind (wpAny_of_eq hsi ?_)
 exact wpAny_bind (wpAny_rule hc)
end
section
variable {X:Cx}
def PZ:V→V→Hp→VK→Prop:=fun x y H Q=>∃ l b xs zs,x=.ref l∧y=.ref b∧H l=some (.lst xs)∧H b=some (.lst zs)∧xs.length+zs.length≤sizeLine∧Q (.ref l) (upd H l (.lst (xs++zs)))
theorem xU:Xz X .Add PZ:=by
 intro pins s σ H x y v u Q I rx ry h
 obtain⟨l,b,xs,zs,rfl,rfl,hH,hB,hz,q⟩:=h
 cases rx
 cases ry
 obtain⟨z,its,n,r,hl,e⟩:=I.BN hH
 obtain⟨z2,its2,n2,r2,hl2,e2⟩:=I.BN hB
 have hsz:its.toArray.size+its2.toArray.size≤sizeLine:=by rw[su,su];omega
 have Fb:¬ (!its.toArray.isEmpty&&Builtin.List.listTooLong (its.toArray.size+its2.toArray.size))=true:=by
  rw[Ai hsz,Bool.and_false]
  exact tP
 refine DH ⟨_,e,rfl⟩ ⟨_,e2,rfl⟩ ?_
 refine call_meets PySem.F.slot_list_iadd ⟨_,e,rfl⟩ PySem.F.entry_list_iadd (PySem.F.args_list_iadd_2 _ _)
  (AutoSeq1.list___iadd___list_list_0 l its.toArray n b its2.toArray n2 Fb (by rw[su];omega) (by omega)) ⟨e,e2,?_⟩
 refine⟨.ref l,_,I.L6 (its':=its++its2) hH e (by simp) (r.append r2) ?_,rfl,q⟩
 rw[dU]
 omega
section
variable {N:List Str} {scope:Scope} {cl:List (Str × Addr)} {C:Addr} {s₀:Shared} {H₀:Hp} {ex:List Addr} {pn:List (Addr × Obj)}
theorem HR:nO (kK X N scope cl C s₀ H₀ ex pn) (.type "list") (Q2 X.K):=nY
end
theorem HS:Ud X .Add PZ:=fun pins s σ H x y u v Q I rx ry h=>xU pins s σ H x y u v Q I rx ry h
end
theorem OE{p q A B T:Prop} [Decidable p] [Decidable q] (w:p→(if decide q=true then A else B)→T) (h1:p∧q→A) (h2:¬ (p∧q)→B):if decide p=true then T else (if false=true then A else B):=by
 by_cases a:p
 ·rw[if_pos (decide_eq_true a)]
  by_cases b:q
  ·exact w a (by rw[if_pos (decide_eq_true b)];exact h1 ⟨a,b⟩)
  ·exact w a (by rw[decide_eq_false b,if_neg tP];exact h2 fun z=>b z.2)
 ·rw[decide_eq_false a,if_neg tP,if_neg tP]
  exact h2 fun z=>a z.1
theorem Ry{p q A B T:Prop} [Decidable p] [Decidable q] (w:(if decide q=true then A else B)→T) (h1:p∧q→A) (h2:¬ (p∧q)→B):if decide p=true then T else (if false=true then A else B):=OE (fun _=>w) h1 h2
end OD
namespace jm
open PySem PySem.Spec PyProof.Rows L2 dD j4 Ay
def pF(r:Row):Prop:=∀ p∈r,0≤p.1∧p.1≤p.2
def lU(r:Row):Prop:=∀ p∈r,0≤p.1∧p.1<p.2
theorem CQ{t:Row}{s e:Int}(h:lU t)(h0:0≤s)(h1:s<e):lU (grow t s e):=by
 have add:lU (t++[(s,e)]):=fun p hp=>by
  rcases List.mem_append.mp hp with z|z
  ·exact h p z
  ·rw[List.mem_singleton.mp z];exact⟨h0,h1⟩
 unfold grow
 rcases vn t with rfl|⟨t',l,rfl⟩
 ·exact add
 ·rw[sC]at h add ⊢
  rw[xr]
  show lU (if l.2=s then (t'++[l]).dropLast++[(l.1,e)] else t'++[l]++[(s,e)])
  by_cases c:l.2=s
  ·rw[if_pos c,List.dropLast_concat]
   intro p hp
   rcases List.mem_append.mp hp with z|z
   ·exact h p (List.mem_append_left _ z)
   ·have:=h l (by simp)
    rw[List.mem_singleton.mp z]
    exact⟨this.1,by show l.1<e;omega⟩
  ·rw[if_neg c]
   exact add
theorem qP{r:Row}(h:pF r):lU (bW r):=by
 have z:∀ (r t:Row),pF r→lU t→lU (r.foldl dP t):=by
  intro r
  induction r with
  | nil=>intro t _ g;exact g
  | cons p r ih =>
   intro t h g
   rw[qt]
   refine ih _ (fun q hq=>h q (sJ _ hq)) ?_
   unfold dP
   have hp:=h p (by simp)
   by_cases c:p.1=p.2
   ·rw[if_pos c];exact g
   ·rw[if_neg c];exact CQ g hp.1 (by omega)
 exact z r [] h fun p hp=>by cases hp
theorem CU{ns:List Int}(h:∀ x∈ns,0≤x):lU (rowOf ns):=by
 have z:∀ (ns:List Int) (t:Row),(∀ x∈ns,0≤x)→lU t→lU (ns.foldl (fun t n=>grow t n (n+1)) t):=by
  intro ns
  induction ns with
  | nil=>intro t _ g;exact g
  | cons n ns ih =>
   intro t h g
   rw[qt]
   exact ih _ (fun x hx=>h x (sJ _ hx)) (CQ g (h n (by simp)) (by omega))
 exact z ns [] h fun p hp=>by cases hp
theorem lU.nn{r:Row}(h:lU r):pF r:=fun p hp=>⟨(h p hp).1,by have:=(h p hp).2;omega⟩
theorem Az(a b:Int):∀ (r:Row) (h:Int),pF r→pF (nP a b h r)
 | [],_,_=>fun p hp=>by cases hp
 | q::r,h,g=>by
  intro p hp
  rw[nP]at hp
  rcases List.mem_append.mp hp with z|z
  ·have gq:=g q (by simp)
   refine⟨?_,MB a b h q p z⟩
   unfold MA at z
   split at z
   ·rw[List.mem_singleton.mp z]
    show 0≤q.1+max (a-h) 0
    omega
   ·cases z
  ·exact Az a b r _ (fun x hx=>g x (sJ _ hx)) p z
end jm
namespace OF
open PySem PySem.Spec PyProof.Rows L2 dD
end OF
namespace jm
open PySem PySem.Spec PyProof.Rows L2 dD j4 Ay OF
end jm
namespace jm
open PySem PySem.Spec PyProof.Rows L2 dD j4 Ay OF
def In(r:Row)(x:Int):Prop:=∃ p∈r,p.1≤x∧x<p.2
theorem Jp:∀ {n:Nat} {s x:Int},x∈run s n↔s≤x∧x<s+n
 | 0,s,x=>by simp[run]
 | n+1,s,x=>by
  rw[run,List.mem_cons,Jp]
  omega
def S9(r:Row):Prop:=r.Pairwise (fun p q=>p.2<q.1)∧∀ p∈r,p.1<p.2
end jm
namespace jm
open PySem PySem.Spec PyProof.Rows L2 dD j4 Ay OF
def Rz(r:Row)(x:Int):Bool:=r.any fun p=>decide (p.1≤x)&&decide (x<p.2)
theorem OG{r:Row}{x:Int}:Rz r x=true↔In r x:=by
 unfold Rz In
 rw[List.any_eq_true]
 constructor
 ·rintro⟨p,hp,h⟩
  rw[Bool.and_eq_true]at h
  exact⟨p,hp,of_decide_eq_true h.1,of_decide_eq_true h.2⟩
 ·rintro⟨p,hp,h1,h2⟩
  exact⟨p,hp,by rw[Bool.and_eq_true];exact⟨decide_eq_true h1,decide_eq_true h2⟩⟩
def Fst(cH:Row)(x:Int)(n:Nat):Prop:=n≤cH.length∧(∀ i p,cH[i]?=some p→i<n→p.2≤x)∧∀ i p,cH[i]?=some p→n≤i→x<p.2
inductive DJ(vs:List V)(H:Hp)(Q:VK)(E:XK):Prop
 | mk (r:Addr) (cH:Row) (x:Int) (_:vs=[.ref r,.int x]) (_:bQ H r cH) (_:S9 cH) (_: ∀ n:Nat,Fst cH x n→Q (.int n) H):DJ vs H Q E
inductive AA(vs:List V)(H:Hp)(Q:VK)(E:XK):Prop
 | mk (r:Addr) (cH:Row) (x:Int) (_:vs=[.ref r,.int x]) (_:bQ H r cH) (_:S9 cH) (_:Q (.bl (Rz cH x)) H):AA vs H Q E
end jm
namespace jm
open PySem PySem.Spec PyProof.Rows L2 dD j4 Ay OD
structure aU(K:PySem.W.Frag)(C:Addr)(m qual:Str)(st:Stmt)(ps:List Str)(a:Addr)(d:FuncData):Prop where
 F:iI K m qual st a d
 b:Binds K d ps []
 mt:Meth K C m a
structure ClsAt(K:PySem.W.Frag)(mg:Str→Option Value)(x:Str)(C fi:Addr):Prop where
 cl:BK K C
 m:mg x=some (.ref C)
 Tc:Mk K C fi
structure AB(K:PySem.W.Frag)(mg:Str→Option Value)(x:Str)(C:Addr):Prop where
 m:mg x=some (.ref C)
 x:PySem.W.excIn K C [.type "ValueError",.type "Exception",.type "BaseException",.type "object"] "ValueError.__new__"=true
 h:PySem.W.exmOne K (.ref C) (.ref C)=some true
end jm
namespace jm
open PySem L2 dD j4
section
variable {K:PySem.W.Frag} {mg:Str→Option Value} {h:Heap} {x qual:Str} {st:Stmt} {f C:Addr} {ps:List Str}
theorem DI.d(q:DI K x st f)(X:K.In h)(G:h.Ns mainGlobals mg)(b:∀ (kV doc pm:Value) (an:Option Addr) (cdv ct:Value) (us:List Value),us.length=ps.length→bindArgs (PySem.W.fnOf x x (pY st) (lN st) (ay st) .none kV doc pm an cdv ct) ⟨us,[]⟩=pure (ps.zip us)):∃ fd,aA K mg x st ps f fd:=by
 obtain⟨a,l,c,k⟩:=q
 have F:=Hz l c k
 exact⟨_,F,F.binds b,PySem.W.mg_of X G a⟩
theorem MI.d(q:MI K C x qual st f)(b:∀ (kV doc pm:Value) (an:Option Addr) (cdv ct:Value) (us:List Value),us.length=ps.length→bindArgs (PySem.W.fnOf x qual (pY st) (lN st) (ay st) .none kV doc pm an cdv ct) ⟨us,[]⟩=pure (ps.zip us)):∃ fd,aU K C x qual st ps f fd:=by
 obtain⟨a,i,l,c,k⟩:=q
 have F:=Hz l c k
 exact⟨_,F,F.binds b,⟨a,i,k⟩⟩
theorem CI.d{fi:Addr}(q:CI K x C)(X:K.In h)(G:h.Ns mainGlobals mg)(m:Meth K C "__init__" fi):ClsAt K mg x C fi:=by
 obtain⟨a,pg,hd,po,sa,mk,kc⟩:=q
 obtain⟨a1,i1,k1⟩:=m
 exact⟨⟨pg,hd,po,sa⟩,PySem.W.mg_of X G a,⟨mk,a1,i1,kc⟩⟩
theorem XI.d(q:XI K x C)(X:K.In h)(G:h.Ns mainGlobals mg):AB K mg x C:=by
 obtain⟨a,b,c⟩:=q
 exact⟨PySem.W.mg_of X G a,b,c⟩
end
section
variable {p:List Value→Prop}
theorem us0(h:p []):∀ us:List Value,us.length=0→p us:=fun us e=>by rw[List.length_eq_zero_iff.mp e];exact h
theorem yZ(h:∀ a,p [a]):∀ us:List Value,us.length=1→p us
 | [a],_=>h a
theorem vA(h:∀ a b,p [a,b]):∀ us:List Value,us.length=2→p us
 | [a,b],_=>h a b
theorem Lv(h:∀ a b c,p [a,b,c]):∀ us:List Value,us.length=3→p us
 | [a,b,c],_=>h a b c
theorem P0(h:∀ a b c d,p [a,b,c,d]):∀ us:List Value,us.length=4→p us
 | [a,b,c,d],_=>h a b c d
theorem us6(h:∀ a b c d e f,p [a,b,c,d,e,f]):∀ us:List Value,us.length=6→p us
 | [a,b,c,d,e,f],_=>h a b c d e f
end
end jm
namespace dD
open PySem PySem.Spec PyProof.Rows L2
theorem rH{α β:Type}{F:α→β→Prop}:∀ {xs:List α} {ys:List β} {i:Nat} {x:α},Paired F xs ys→xs[i]?=some x→∃ y,ys[i]?=some y∧F x y
 | _,_,_,_,.nil,e=>by simp at e
 | _,_,0,_,.cons r _,e=>by simp at e;subst e;exact⟨_,rfl,r⟩
 | _,_,i+1,x,.cons _ t,e=>by
  obtain⟨y,h1,h2⟩:=rH (i:=i) (x:=x) t (by simpa using e)
  exact⟨y,by simpa using h1,h2⟩
theorem yL{α β:Type}{F:α→β→Prop}:∀ {xs:List α} {ys:List β} {i:Nat} {y:β},Paired F xs ys→ys[i]?=some y→∃ x,xs[i]?=some x∧F x y
 | _,_,_,_,.nil,e=>by simp at e
 | _,_,0,_,.cons r _,e=>by simp at e;subst e;exact⟨_,rfl,r⟩
 | _,_,i+1,y,.cons _ t,e=>by
  obtain⟨x,h1,h2⟩:=yL (i:=i) (y:=y) t (by simpa using e)
  exact⟨x,by simpa using h1,h2⟩
section
variable {X:Cx} {N:List Str} {scope:Scope} {cl:List (Str × Addr)} {C:Addr} {s₀:Shared} {H₀:Hp} {ex:List Addr} {pn:List (Addr × Obj)} {e:Expr} {ta:TE} {f:Str} {pos:Pos}
theorem Jq(he:PE (kK X N scope cl C s₀ H₀ ex pn) e ta)(hb:attributeBase e f (kK X N scope cl C s₀ H₀ ex pn).env (eval e (kK X N scope cl C s₀ H₀ ex pn).env)=eval e (kK X N scope cl C s₀ H₀ ex pn).env):PE (kK X N scope cl C s₀ H₀ ex pn) (.Attribute e f pos) (Uc X.K ta f):=dM he hb
end
end dD
namespace dD
open PySem PySem.Spec PyProof.Rows L2 jm Ay
def RA(td ty tx:TE):TE:=fun σ H Q=>td σ H fun x H1=>∃ a,x=.ref a∧IsD H1 a∧ty σ H1 fun y H2=>tx σ H2 fun z H3=>∃ kvs k,H3 a=some (.dK kvs)∧y=kV k∧kvs.length<sizeLine ∧
 (∀ v,cC kvs k=some v→Q v H3)∧(cC kvs k=none→Q z (upd H3 a (.dK (putK kvs k z))))
theorem MK{X:Cx}{o e f:Expr}{apos cpos:Pos}{td ty tx:TE}(ho:PE X o td)(he:PE X e ty)(hf:PE X f tx)(m:M2 X o "setdefault" apos e f cpos):PE X (.Call (.Attribute o "setdefault" apos) [e,f] [] cpos) (RA td ty tx):=by
 intro pins s σ H Q I h
 refine wpAny_Call_method m.base m.few m.line PySem.F.plainAttrs_dict PySem.F.slot_dict_setdefault PySem.F.type_dict_setdefault (cu (ho pins s σ H _ I h) fun u s1 ⟨x,H1,I1,rx,a,ex,d,q1⟩=>?_)
 subst ex
 obtain rfl:u=Value.ref a:=rx
 obtain⟨t1,t2,_⟩:=Rw I1 d
 refine⟨t1,t2,?_⟩
 rw[m.trees]
 refine Calls.callWith_builtin rfl (Calls.evalArgs_plain (Calls.spliced_cons (cu (he pins s1 σ H1 _ I1 q1) fun iv s2 ⟨y,H2,I2,ry,q2⟩ =>
  Calls.spliced_cons (cu (hf pins s2 σ H2 _ I2 q2) fun fv s3 ⟨z,H3,I3,rz,kvs,k,ea,ey,hlen,g1,g2⟩=>Calls.spliced_nil ?_))))
 subst ey
 obtain⟨hz,hd,vs,rel,dd⟩:=MC I3.hok ea
 have len:=rel.length
 refine call_meetsIn PySem.F.slot_dict_setdefault dd.typeIs PySem.F.entry_dict_setdefault (PySem.F.args_dict_setdefault_3 _ _ _) (kt_meets_setdefault (gR X.prog X.w) a (CJ ry) hd fv) ⟨vs,dd,by omega,fun v hv=>?_,fun hn h' NF hs=>?_⟩
 ·have r:=rel.val k
  rw[hv]at r
  cases ev:cC kvs k with
  | none=>rw[ev]at r;exact (show False from r).elim
  | some w =>
   rw[ev]at r
   exact⟨w,H3,I3.tok _,r,g1 w ev⟩
 ·have r:=rel.val k
  rw[hn]at r
  cases ev:cC kvs k with
  | some w=>rw[ev]at r;exact (show False from r).elim
  | none =>
   have hl:(putK kvs k z).length≤sizeLine:=by have:=jK kvs k z;omega
   have he':∃ q,h'.get? a=some q:=let ⟨q,_,_,hq,_⟩:=NF;⟨q,hq⟩
   exact⟨z,_,zC I3 (by rw[ea];exact True.intro) hs he' (HJ hl hd (rel.put k rz) NF),rz,g2 ev⟩
end dD
namespace dD
open PySem PySem.Spec PyProof.Rows L2
end dD
namespace dD
open PySem PySem.Spec PyProof.Rows L2 jm Ay
end dD
namespace j4
open PySem PySem.Spec PyProof.Rows PySem.W L2
end j4
namespace dD
open PySem PySem.Spec PyProof.Rows L2 j4
def wG(c:Nat):V:=.str ⟨#[c]⟩
def txt(cs:List Nat):Str:=⟨cs.toArray⟩
theorem AD(x:Str):txt x.cps.toList=x:=by cases x;rfl
theorem dZ(cs:List Nat):(txt cs).length=cs.length:=by show (cs.toArray).size=_;simp
theorem OH{a b:List Nat}(h:txt a=txt b):a=b:=by
 have e:=congrArg (fun x:Str=>x.cps.toList) h
 simpa [txt] using e
theorem Jr:∀ {cs:List Nat} {us:List Value},Vals (cs.map wG) us→StrsAre us (cs.map fun c=>(⟨#[c]⟩:Str))
 | [],_,.nil=>.nil
 | c::cs,_,.cons ⟨t,e⟩ r=>by
  subst e
  exact .cons _ t (Jr r)
theorem HU(cs:List Nat):Txt.join (Str.ofString "") (cs.map fun c=>(⟨#[c]⟩:Str))=txt cs:=by
 have e:Txt.join (Str.ofString "") (cs.map fun c=>(⟨#[c]⟩:Str))=Str.join (Str.ofString "") (cs.map fun c=>(⟨#[c]⟩:Str)):=by
  have z:=join_plain_closes (Str.ofString "") (cs.map fun c=>(⟨#[c]⟩:Str))
  exact beq_iff_eq.mp z
 rw[e]
 have em:(Str.ofString "")=(⟨#[]⟩:Str):=by decide +kernel
 rw[em]
 clear e em
 induction cs with
 | nil=>rfl
 | cons c cs ih =>
  cases cs with
  | nil=>rfl
  | cons d cs =>
   rw[mz]at ih
   have s:Str.join ⟨#[]⟩ ((c::d::cs).map fun c=>(⟨#[c]⟩:Str))=Str.append (Str.append ⟨#[c]⟩ ⟨#[]⟩) (Str.join ⟨#[]⟩ ((⟨#[d]⟩:Str)::cs.map fun c=>(⟨#[c]⟩:Str))):=rfl
   rw[s,ih]
   show (⟨(#[c]++#[])++(d::cs).toArray⟩:Str)=⟨(c::d::cs).toArray⟩
   simp
theorem CV:∀ cs:List Nat,(cs.map ((fun x:Str=>x.length) ∘ fun c=>(⟨#[c]⟩:Str))).sum=cs.length
 | []=>rfl
 | c::cs=>by rw[mz,List.sum_cons,CV cs,nG];show 1+_=_;omega
theorem all_range:∀ bs:List Bool,(List.range bs.length).all (fun i=>bs.getD i false)=bs.all id
 | []=>rfl
 | b::bs=>by
  rw[nG,List.range_succ_eq_map,List.all_cons,List.all_map,List.all_cons,← all_range bs]
  rfl
section
variable {X:Cx}
theorem BQ(hc:X.calm=true):nO X (.type "list") (fun xs H Q=>∃ cs:List Nat,xs=[.str (txt cs)]∧cs.length≤sizeLine∧∀ l,H l=none→Q (.ref l) (upd H l (.lst (cs.map wG)))):=by
 intro pins s σ H xs us Q I r h
 obtain⟨cs,rfl,hz,q⟩:=h
 obtain⟨u,rfl,t,rfl⟩:=r.one
 refine call_list_str (I.ok.hd hc) (txt cs) t (hn:=by show cs.toArray.size≤_;simpa using hz) fun h' tk acc' c' hk hS hacc=>?_
 refine⟨.ref s.heap.objs.size,_,I.laid (o:=.lst (cs.map wG)) (t':=tk) hk (gQ _) ⟨by rw[cA];exact hz,acc'.toList,c',?_,by simpa using hS⟩,rfl,q _ (I.hok.fresh (gQ _))⟩
 have key:∀ (cs:List Nat) (us:List Value),us.length=cs.length→(∀ (j:Nat) (v:Value),us[j]?=some v→∃ c u,cs[j]?=some c∧v=Value.str ⟨#[c]⟩ u)→Vals (cs.map wG) us:=by
  intro cs
  induction cs with
  | nil=>intro us hl _;cases us with
   | nil=>exact .nil
   | cons=>simp at hl
  | cons c cs ih=>intro us hl hp;cases us with
   | nil=>simp at hl
   | cons u us =>
    obtain⟨c',t',e1,e2⟩:=hp 0 u rfl
    refine .cons ?_ (ih us (by simpa using hl) fun j v e=>by simpa using hp (j+1) v (by simpa using e))
    have:c=c':=by simpa using e1
    subst this
    exact⟨t',e2⟩
 refine key cs acc'.toList (by have:=hacc.1;simpa [txt] using this) fun j v e=>?_
 obtain⟨c,u,e1,e2⟩:=hacc.2 j v (by simpa using e)
 exact⟨c,u,by simpa [txt] using e1,e2⟩
theorem sY:SS X "str.join" (fun x xs H Q=>∃ (l:Addr) (cs:List Nat),x=.str (Str.ofString "")∧xs=[.ref l]∧H l=some (.lst (cs.map wG))∧cs.length≤1000000∧Q (.str (txt cs)) H):=by
 intro pins s σ H x xs v us Q I rx rs h
 obtain⟨l,cs,rfl,rfl,hl,hz,q⟩:=h
 obtain⟨t,rfl⟩:=rx
 obtain⟨u,rfl,ru⟩:=rs.one
 cases (show u=Value.ref l from ru)
 obtain⟨its,rv,pl,_⟩:=I.list (bN.of (K:=X.K) hl)
 refine join_list pl.isList (Jr rv) ?_ fun t' k=>?_
 ·rw[List.map_map]
  have e1:(Str.ofString "").length=0:=by decide +kernel
  have e2:=CV cs
  rw[e1,e2]
  omega
 ·rw[HU]
  exact⟨.str (txt cs),H,I.tok _,⟨t',rfl⟩,q⟩
theorem KJ(hc:X.calm=true):nO X (.builtin "all") (fun xs H Q=>∃ (p:Addr) (bs:List Bool),xs=[.ref p]∧bN X.K H p (bs.map V.bl)∧Q (.bl (bs.all id)) H):=by
 intro pins s σ H xs us Q I r h
 obtain⟨p,bs,rfl,hq,q⟩:=h
 obtain⟨u,rfl,rx⟩:=r.one
 cases (show u=Value.ref p from rx)
 obtain⟨its,rv,pl,hz⟩:=I.list hq
 have len:=rv.length
 rw[cA]at len
 have hpl:=pl.isList
 have plt:p<s.heap.objs.size:=by
  obtain⟨o,ho,_⟩:=hpl
  exact Heap.lt_size ho
 refine call_all_walk (wpAny_pyIter_list hpl ?_)
 refine⟨s.heap.objs.size,[s.heap.objs.size,p],[s.heap.objs.size],its.toArray.size,_,_,fun i=>bs.getD i false,rfl,Walks.list (A:=X.A.in1) (I.ok.hd hc) s.heap.objs.size p (ko plt) its.toArray,⟨⟨_,Heap.get?_push_size _ rfl,rfl,rfl⟩,hpl.at fun o e=>Heap.get?_push_of_some _ e⟩,fun i v s' Q' E' hP hQ=>?_,fun h' tk hk=>?_⟩
 ·have hv:its[i]?=some v:=by simpa using hP
  obtain⟨x,ex,er⟩:=yL rv hv
  rw[jV]at ex
  obtain⟨b,eb,rfl⟩:=Option.map_eq_some_iff.mp ex
  cases (show v=Value.bool b from er)
  refine wpAny_truthy_bool ?_
  have e:bs.getD i false=b:=by rw[List.getD_eq_getElem?_getD,eb];rfl
  have hQ':Q' (bs.getD i false) s':=hQ
  rw[e]at hQ'
  exact hQ'
 ·have e:(List.range its.toArray.size).all (fun i=>bs.getD i false)=bs.all id:=by
   rw[su,← len]
   exact all_range bs
  rw[e]
  exact⟨.bl (bs.all id),H,I.kept fun b o e=>hk b o (fun z=>by rw[List.mem_singleton.mp z]at e;exact absurd (Heap.lt_size e) (Nat.lt_irrefl _)) (Heap.get?_push_of_some _ e),rfl,q⟩
def ML(r r' r2:R2)(ta tb tc td:TE):TE:=fun σ H Q=>ta σ H fun x H1=>tb σ H1 fun y H2=>r x y H2 fun z H3=>∃ k,z=.bl k ∧
 (if k=true then tc σ H3 fun u H4=>r' y u H4 fun z' H5=>∃ k',z'=.bl k'∧(if k'=true then td σ H5 fun v H6=>r2 u v H6 Q else Q (.bl false) H5) else Q (.bl false) H3)
theorem KL{op op' Rr:CmpOp}{r r' r2:R2}{a b c d:Expr}{ta tb tc td:TE}{pos:Pos}(ho:v7 X (compareOp op) r)(ho':v7 X (compareOp op') r')(ho2:v7 X (compareOp Rr) r2)(ha:PE X a ta)(hb:PE X b tb)(hc:PE X c tc)(hd:PE X d td)
  (hm:lastMarks [op,op',Rr] [b,c,d]=false:=by with_unfolding_all rfl):PE X (.Compare a [op,op',Rr] [b,c,d] pos) (ML r r' r2 ta tb tc td):=by
 intro pins s σ H Q I h
 refine Compare_chain (cu (ha pins s σ H _ I h) fun v s1 ⟨x,H1,I1,r1,q1⟩=>chain_link (cu (hb pins s1 σ H1 _ I1 q1) fun u s2 ⟨y,H2,I2,r2',q2⟩ =>
  cu (ho pins s2 σ H2 x y v u _ I2 r1 r2' q2) fun z s3 ⟨z',H3,I3,r3,k,e,q3⟩=>?_)) hm
 subst e
 cases r3
 refine wpAny_truthy_bool ?_
 cases k with
 | false=>exact ite_ff ⟨.bl false,H3,I3,rfl,q3⟩
 | true =>
  refine ite_tt (chain_link (cu (hc pins s3 σ H3 _ I3 q3) fun v4 s4 ⟨x4,H4,I4,r4,q4⟩=>cu (ho' pins s4 σ H4 y x4 u v4 _ I4 r2' r4 q4) fun z5 s5 ⟨x5,H5,I5,r5,k5,e5,q5⟩=>?_))
  subst e5
  cases r5
  refine wpAny_truthy_bool ?_
  cases k5 with
  | false=>exact ite_ff ⟨.bl false,H5,I5,rfl,q5⟩
  | true=>exact ite_tt (chain_last (cu (hd pins s5 σ H5 _ I5 q5) fun v6 s6 ⟨x6,H6,I6,r6,q6⟩=>ho2 pins s6 σ H6 x4 x6 v4 v6 Q I6 r4 r6 q6))
end
def Its(cs:List Nat):It:=⟨fun i _=>i<cs.length,fun i H x H'=>H'=H∧∃ c,cs[i]?=some c∧x=wG c,fun i _=>i=cs.length⟩
theorem F2{P:Program}{w:World}{K:PySem.W.Frag}{tg:Expr}{it:Addr}{cs:List Nat}{t:Tok}{ty:String}(W:∀ A':Around,A'.handled=none→Walks P w A' it [it] [it] (txt cs).cps.size (SignAt (txt cs)) (fun i h=>h.IsStrIter it ty (txt cs) t i))
  (hs:∀ (A:Around) (i:Nat) (s:Shared) (Q:Value→Shared→Prop) (E:Value→Shared→Prop),s.heap.IsStrIter it ty (txt cs) t i→Q (.ref it) s→wpAny (model P w) A (pyIter (.ref it)) Q E s)
  (hn:["enumerate","zip","dict_itemiterator","dict_reverseitemiterator","odict_iterator","itertools.zip_longest","itertools.pairwise"].contains ty=false):Turn P w K tg (Its cs) [it] it (fun i h=>h.IsStrIter it ty (txt cs) t i) where
 mem:=by simp
 obj:=fun i h st b hb=>by
  have e:b=it:=by simpa using hb
  subst e
  obtain⟨o,e,c,d⟩:=st
  exact⟨o,e,fun v z=>by rw[d]at z;cases z⟩
 keep:=fun i h h' st k=>by
  obtain⟨o,e,r⟩:=st
  exact⟨o,k it (by simp) o e,r⟩
 item:=by
  intro X hP hw hK hc i pins s σ H E I hf st hg
  subst hP hw hK
  obtain⟨f0,f1,f2,f3,f4,f5⟩:=hf it (by simp)
  have hi:i<(txt cs).cps.size:=by
   show i<cs.toArray.size
   rw[su]
   exact hg
  refine (W X.A (I.ok.hd hc)).item i s _ _ hi st fun v h' tk hv st' kk=>?_
  obtain⟨c,u,ec,rfl⟩:=hv
  have I1:Inv X pins σ H { s with heap:=h',toks:=tk }:=I.turned (fun b o hb e=>kk b o (by simpa using hb) e) f0 f1 f3 f4 f5
  obtain⟨oi,ei,ci,di⟩:=id st'
  exact⟨_,rfl,E7 (s:={ s with heap:=h',toks:=tk }) ei ci di hn ⟨wG c,H,I1,⟨u,rfl⟩,⟨rfl,c,by simpa [txt] using ec,rfl⟩,st',fun b hb=>(hf b hb).1⟩⟩
 done:=by
  intro X hP hw hK hc i pins s σ H E I hf st hg
  subst hP hw hK
  obtain⟨f0,f1,f2,f3,f4,f5⟩:=hf it (by simp)
  have e:i=(txt cs).cps.size:=by
   show i=cs.toArray.size
   rw[su]
   exact hg
  rw[e]at st
  exact (W X.A (I.ok.hd hc)).done s _ _ st fun h' tk kk=>⟨rfl,I.turned (fun b o hb e=>kk b o (by simpa using hb) e) f0 f1 f3 f4 f5⟩
 self:=hs
def aek(tl:TE):TI:=fun σ H R=>tl σ H fun x H1=>∃ cs,x=.str (txt cs)∧R (Its cs) H1
theorem RB{X:Cx}{tg l:Expr}{tl:TE}(hl:PE X l tl):PI X tg l (aek tl):=by
 intro pins s σ H R I h
 refine cu (hl pins s σ H _ I h) fun v s1 ⟨x,H1,I1,r1,q1⟩=>?_
 obtain⟨cs,e,q⟩:=q1
 subst e
 obtain⟨t,rfl⟩:=r1
 have fp:∀ b∈[s1.heap.objs.size],nH X pins H1 b:=fun b hb=>by
  have e:b=s1.heap.objs.size:=by simpa using hb
  subst e
  exact I1.J4 (gQ _) (I1.hok.fresh (gQ _))
 cases ha:(txt cs).cps.all (·<128) with
 | true=>exact wpAny_pyIter_ascii ha ⟨s1.heap.objs.size,[s1.heap.objs.size],_,_,H1,rfl,I1.kept (t':=s1.toks) fun b o e=>Heap.get?_push_of_some _ e,F2 (t:=t) (fun A' hA=>Walks.strAscii hA _ _ t) (fun _ _ _ _ _ st h=>wpAny_pyIter_striter_ascii st h) (by decide),⟨_,Heap.get?_push_size _ rfl,rfl,rfl⟩,fp,q⟩
 | false=>exact wpAny_pyIter_wide ha ⟨s1.heap.objs.size,[s1.heap.objs.size],_,_,H1,rfl,I1.kept (t':=s1.toks) fun b o e=>Heap.get?_push_of_some _ e,F2 (t:=t) (fun A' hA=>Walks.strWide hA _ _ t) (fun _ _ _ _ _ st h=>wpAny_pyIter_striter_wide st h) (by decide),⟨_,Heap.get?_push_size _ rfl,rfl,rfl⟩,fp,q⟩
theorem KN{cs:List Nat}{acc:Addr}{g:TG}{tt:TT}{te:TE}{σ0:L2.St}{H:Hp}{Q:VK}(Pv:Nat→L2.St→Hp→Prop)(h0:Pv 0 σ0 H)
  (hs:∀ (i:Nat) c σ H,cs[i]?=some c→Pv i σ H→g (wG c) σ H fun σ2 H2=>tt σ2 H2 fun b H3=>if b=true then te σ2 H3 fun v H4=>∃ ys,H4 acc=some (.lst ys)∧ys.length<sizeLine∧Pv (i+1) σ2 (upd H4 acc (.lst (ys++[v]))) else Pv (i+1) σ2 H3)
  (hd:∀ σ H,Pv cs.length σ H→Q (.ref acc) H):wF (Its cs) acc g tt te σ0 H Q:=by
 refine⟨fun i m σ H=>m=cs.length-i∧i≤cs.length∧Pv i σ H,⟨cs.length,by simp,lI _,h0⟩,?_⟩
 rintro i m σ H ⟨rfl,hi,p⟩
 by_cases hlt:i<cs.length
 ·refine .inr ⟨hlt,Pv (i+1),fun σ' H' p'=>⟨cs.length-(i+1),by omega,rfl,hlt,p'⟩,fun x H' y=>?_⟩
  obtain⟨e,c,y,ex⟩:=y
  subst e ex
  exact hs i c σ _ y p
 ·have e:i=cs.length:=by omega
  subst e
  exact .inl ⟨rfl,hd σ H p⟩
end dD
namespace dD
open PySem PySem.Spec PyProof.Rows L2 j4 jm
section
variable {X:Cx}
theorem zD(a b:List Nat):txt a++txt b=txt (a++b):=by
 show (⟨a.toArray++b.toArray⟩:Str)=⟨(a++b).toArray⟩
 simp
def UM:R2:=fun x y H Q=>∃ a b:List Nat,x=.str (txt a)∧y=.str (txt b)∧a.length+b.length≤1000000∧Q (.str (txt (a++b))) H
theorem t7:v7 X (binaryOp .Add) UM:=by
 intro pins s σ H x y v u Q I rx ry h
 obtain⟨a,b,rfl,rfl,hz,q⟩:=h
 obtain⟨t,rfl⟩:=rx
 obtain⟨t',rfl⟩:=ry
 refine PyProof.Rows.add_str (fun t2 tk=>?_) (by rw[dZ,dZ];exact iR (aL (by omega)))
 rw[zD]
 exact⟨.str (txt (a++b)),H,I.tok _,⟨t2,rfl⟩,q⟩
end
end dD
namespace vB
open PySem
end vB
namespace vB
open PySem PySem.Spec PyProof.Rows
end vB
namespace vB
open PySem PySem.Spec PyProof.Rows
end vB
namespace vB
open PySem PySem.Spec PyProof.Rows
end vB
namespace vB
open PySem PySem.Spec PyProof.Rows
end vB
namespace vB
open PySem PySem.Spec PyProof.Rows
end vB
namespace vB
open PySem PySem.Spec PyProof.Rows
end vB
namespace vB
open PySem PySem.Spec PyProof.Rows L2
end vB
namespace gX
open PySem PySem.Spec PyProof.Rows L2 dD PySem.Builtin PySem.Builtin.Str
theorem t9(cs:List Nat):(txt cs).cps.toList=cs:=by simp[txt]
def jn(c:Nat):nA→List Nat
 | []=>[]
 | [x]=>x
 | x::y::r=>x++c::jn c (y::r)
theorem MM(c:Nat):∀ ps:nA,Str.join ⟨#[c]⟩ (ps.map txt)=txt (jn c ps)
 | []=>rfl
 | [x]=>rfl
 | x::y::r=>by
  show txt x++⟨#[c]⟩++Str.join ⟨#[c]⟩ ((y::r).map txt)=_
  rw[MM c (y::r)]
  refine ext_toList ?_
  rw[t9]
  show ((txt x).cps++#[c]++(txt (jn c (y::r))).cps).toList=_
  rw[Array.toList_append,Array.toList_append,t9,t9]
  simp[jn]
end gX
namespace gX
open PySem PySem.Spec PyProof.Rows L2 dD PySem.Builtin PySem.Builtin.Str
section
variable {X:Cx}
theorem CY:∀ {ys:List Str} {us:List Value},Vals (ys.map V.str) us→StrsAre us ys
 | [],_,.nil=>.nil
 | _::_,_,.cons r t=>by
  obtain⟨t',rfl⟩:=r
  exact .cons _ t' (CY t)
theorem F3:SS X "str.join" (fun x xs H Q=>∃ (l:Addr) (c:Nat) (ps:nA),x=.str ⟨#[c]⟩∧xs=[.ref l]∧H l=some (.lst (ps.map fun w=>V.str (txt w)))∧(ps.map List.length).sum+ps.length≤1000000∧Q (.str (txt (jn c ps))) H):=by
 intro pins s σ H x xs v us Q I rx rs h
 obtain⟨l,c,ps,rfl,rfl,hl,hz,q⟩:=h
 obtain⟨t,rfl⟩:=rx
 obtain⟨u,rfl,ru⟩:=rs.one
 cases (show u=Value.ref l from ru)
 obtain⟨its,rv,pl,_⟩:=I.list (bN.of (K:=X.K) hl)
 have rv':Vals ((ps.map txt).map V.str) its:=by rw[List.map_map];exact rv
 refine join_list pl.isList (CY rv') ?_ fun t' k=>?_
 ·rw[List.map_map,cA]
  have e1:(⟨#[c]⟩:Str).length=1:=rfl
  have e2:ps.map ((fun x:Str=>x.length) ∘ txt)=ps.map List.length:=List.map_congr_left fun p _=>dZ p
  rw[e1,e2]
  omega
 ·have e:Txt.join ⟨#[c]⟩ (ps.map txt)=txt (jn c ps):=by
   show glued _ _=_
   rw[StrLaws.glued_eq_join,MM]
  rw[e]
  exact⟨.str (txt (jn c ps)),H,I.tok _,⟨t',rfl⟩,q⟩
abbrev WK:=L2.St→Hp→Str→(Str→Hp→Prop)→Prop
def Td(X:Cx)(es:List Expr)(m:Nat)(t:WK):Prop:=∀ (pins:List (Addr × Obj)) (s:Shared) (σ:L2.St) (H:Hp) (out:Str) (Q:Str→Hp→Prop),L2.Inv X pins σ H s→t σ H out Q→out.length+m≤1000000 →
 wpAny (model X.prog X.w) X.A (joinParts out (evalEach es X.env)) (fun u s'=>∃ x tk H',u=.str x tk∧L2.Inv X pins σ H' s'∧Q x H') X.xe s
theorem OI:Td X [] 0 (fun _ H out Q=>Q out H):=fun pins s σ H out Q I h hl =>
 joinParts_nil ⟨out,_,H,rfl,I.tok _,h⟩ (iR (Nat.lt_of_le_of_lt hl (by decide)))
theorem OJ{x:Str}{j:Nat}{pos:Pos}{es:List Expr}{m:Nat}{t:WK}(h:Td X es m t):Td X (.Constant (.str x) j pos::es) (x.length+m) (fun σ H out Q=>t σ H (out++x) Q):=by
 intro pins s σ H out Q I q hl
 refine joinParts_consE (joinParts_cons (Calls.Constant_str ?_))
 have z:=j4.zB (y:=x) hl (gQ _)
 exact⟨z.1,h pins _ σ H _ Q (I.tok _) q z.2⟩
theorem Js{e:Expr}{te:TE}{pos:Pos}{es:List Expr}{m:Nat}{t:WK}(he:PE X e te)(h:Td X es m t):Td X (.FormattedValue e (-1) none pos::es) (1921+m) (fun σ H out Q=>te σ H fun v H1=>∃ i:Int,v=.int i∧i.natAbs.log2<1920∧t σ H1 (out++Str.ofString (toString i)) Q):=by
 intro pins s σ H out Q I q hl
 refine joinParts_consE (joinParts_cons (FormattedValue_plain (cu (he pins s σ H _ I q) fun v s1 ⟨x,H1,I1,r1,i,e1,hi,q1⟩=>?_)))
 subst e1
 obtain⟨tk,rfl⟩:=r1
 refine formatField_int_small hi ?_
 have z:=j4.zB (y:=Str.ofString (toString i)) hl (int_text_len_1921 hi)
 exact⟨z.1,h pins _ σ H1 _ Q (I1.tok _) q1 z.2⟩
theorem MN{v1 v2:Expr}{rest:List Expr}{pos:Pos}{m:Nat}{t:WK}(h:Td X (v1::v2::rest) m t)(hm:m≤1000000:=by decide +kernel):PE X (.JoinedStr (v1::v2::rest) pos) (fun σ H Q=>t σ H Str.empty fun x H1=>Q (.str x) H1):=by
 intro pins s σ H Q I q
 refine JoinedStr_many (cu (h pins s σ H Str.empty _ I q (by show 0+m≤_;omega)) fun u s1 ⟨x,tk,H1,e,I1,q1⟩=>?_)
 subst e
 exact⟨.str x,H1,I1,⟨_,rfl⟩,q1⟩
end
end gX
namespace gX
open PySem PySem.Spec PyProof.Rows L2 dD PySem.Builtin PySem.Builtin.Str
def AE(cs:List Nat)(lo hi:Option Int):List Nat:=(cs.drop (HT.iG cs.length 0 lo)).take (HT.iG cs.length cs.length hi-HT.iG cs.length 0 lo)
theorem F4(lo hi:Option Int)(n:Nat):strSliceIndices lo hi 1 n=(List.range (HT.iG n n hi-HT.iG n 0 lo)).map (HT.iG n 0 lo+·):=by
 obtain⟨h1,h2,h3⟩:=we lo hi n
 have e:strSliceIndices lo hi 1 n=sliceRange (sliceBounds lo hi none n).1 (sliceBounds lo hi none n).2.1 1:=rfl
 rw[e,h1,h2,sliceRange_one]
theorem xV{X:Cx}:WA X (fun x lo hi H Q=>∃ cs:List Nat,x=.str (txt cs)∧cs.length≤1000000∧Q (.str (txt (AE cs lo hi))) H):=by
 intro pins s σ H x v vl vu lo hi sl Q I rx hs pl pu h
 obtain⟨cs,rfl,hz,q⟩:=h
 obtain⟨t,rfl⟩:=rx
 refine⟨"str",_,F.slot_str_getitem.lookup,typeIs_str _ _ _,?_⟩
 obtain⟨l,rfl,el⟩:∃ l:Option (Int × Tok),vl=partValue l∧l.map (·.1)=lo:=by
  cases pl with
  | none=>exact⟨none,rfl,rfl⟩
  | int i t=>exact⟨some (i,t),rfl,rfl⟩
 obtain⟨u,rfl,eu⟩:∃ u:Option (Int × Tok),vu=partValue u∧u.map (·.1)=hi:=by
  cases pu with
  | none=>exact⟨none,rfl,rfl⟩
  | int i t=>exact⟨some (i,t),rfl,rfl⟩
 refine wpAny_getItem_str_slice (l:=l) (u:=u) (st:=none) hs rfl ?_
 have ep:slicePicked (txt cs) l u none=(List.range (HT.iG cs.length cs.length hi-HT.iG cs.length 0 lo)).map (HT.iG cs.length 0 lo+·):=by
  unfold slicePicked
  rw[el,eu,dZ]
  exact F4 lo hi cs.length
 have ec:((slicePicked (txt cs) l u none).filterMap ((txt cs).cps[·]?))=AE cs lo hi:=by
  rw[ep]
  unfold AE
  have:∀ i,(txt cs).cps[i]?=cs[i]?:=fun i=>by rw[← Array.getElem?_toList,t9]
  simp only[this]
  have z:=pick_run cs.toArray (HT.iG cs.length 0 lo) (HT.iG cs.length cs.length hi-HT.iG cs.length 0 lo)
  simpa using z
 unfold sliceMade
 split
 ·rename_i hc
  have e2:AE cs lo hi=cs:=by
   rw[ep]at hc
   simp only[cA,List.length_range,Bool.and_eq_true,beq_iff_eq,dZ]at hc
   unfold AE
   have:=hc.2
   have a1:HT.iG cs.length 0 lo=0:=by
    have:HT.iG cs.length cs.length hi≤cs.length:=by
     cases hi with
     | none=>exact gQ _
     | some k =>
      simp only[HT.iG]
      split <;> omega
    have:HT.iG cs.length 0 lo≤cs.length:=by
     cases lo with
     | none=>exact lI _
     | some k =>
      simp only[HT.iG]
      split <;> omega
    omega
   rw[a1,List.drop_zero,vj (by omega)]
  rw[e2]at q
  exact⟨.str (txt cs),H,I,⟨t,rfl⟩,q⟩
 ·refine⟨?_,?_⟩
  ·show (((slicePicked (txt cs) l u none).filterMap ((txt cs).cps[·]?)).toArray).size≤sizeLine
   rw[ec,su]
   unfold AE
   rw[rj,sL]
   exact kT (show _≤1000000 by omega) (by decide)
  ·rw[ec]
   exact⟨.str (txt (AE cs lo hi)),H,I.tok _,⟨_,rfl⟩,q⟩
end gX
namespace gX
open PySem PySem.Spec PyProof.Rows L2 dD PySem.Builtin PySem.Builtin.Str jm
def dg(n:Int):List Nat:=(Nat.toDigits 10 n.toNat).map Char.toNat
theorem zE{n:Int}(h:0≤n):Str.ofString (toString n)=txt (dg n):=by
 refine ext_toList ?_
 rw[t9]
 obtain⟨m,rfl⟩:∃ m:Nat,n=(m:Int):=⟨n.toNat,by omega⟩
 exact PySem.W.KIN.signs_num m
theorem HV{n:Int}(h0:0≤n)(h1:n<10^60):(dg n).length≤60:=by
 have:=toString_length_le h0 (k:=60) (by decide) h1
 rw[zE h0,dZ]at this
 exact this
end gX
namespace MO
open PySem PySem.Spec PyProof.Rows PySem.W L2 dD j4
end MO
namespace MO
open PySem PySem.Spec PyProof.Rows PySem.W L2 dD j4
end MO
namespace gX
open PySem PySem.Spec PyProof.Rows L2 dD PySem.Builtin PySem.Builtin.Str jm
end gX
namespace MO
open PySem PySem.Spec PyProof.Rows PySem.W L2 dD j4
end MO
namespace F5
open PySem PySem.Spec PyProof.Rows L2 dD j4 jm
end F5
namespace F5
open PySem PySem.Spec PyProof.Rows L2 dD j4 jm PySem.W PyProof.Rows.KTD
section
variable {X:Cx}
theorem UN{e:Expr}{te:TE}{pos pos':Pos}(he:PE X e te):PE X (.JoinedStr [.FormattedValue e (-1) none pos] pos') (fun σ H Q=>te σ H fun v H1=>(∃ i:Int,v=.int i∧i.natAbs.log2<1920∧Q (.str (Str.ofString (toString i))) H1)∨∃ cs:List Nat,v=.str (txt cs)∧cs.length≤100000∧Q (.str (txt cs)) H1):=by
 intro pins s σ H Q I q
 refine JoinedStr_one (FormattedValue_plain (cu (he pins s σ H _ I q) fun v s1 ⟨x,H1,I1,r1,h1⟩=>?_))
 rcases h1 with ⟨i,rfl,hi,q1⟩|⟨cs,rfl,hc,q1⟩
 ·obtain⟨tk,rfl⟩:=r1
  exact formatField_int_small hi ⟨.str _,H1,I1.tok _,⟨_,rfl⟩,q1⟩
 ·obtain⟨tk,rfl⟩:=r1
  exact formatField_str (fun t' k=>⟨.str _,H1,I1.tok _,⟨_,rfl⟩,q1⟩) (by rw[dZ];exact kT hc (by decide))
end
end F5
namespace F5
open PySem PySem.Spec PyProof.Rows L2 dD j4 jm gX PySem.Builtin PySem.Builtin.Str
end F5
namespace F5
open PySem PySem.Spec PyProof.Rows L2 dD PySem.Builtin PySem.Builtin.Str jm
end F5
namespace j4
open PySem PySem.Spec PyProof.Rows PySem.W L2
section
variable {X:Cx} {pins:List (Addr × Obj)} {σ:L2.St} {H:Hp} {s:Shared} {a:Addr}
variable {x m:Str} {st:Stmt} {ps:List Str} {f C:Addr} {fd:FuncData} {j k:Nat} {sp:Sp} {e o:Expr} {es:List Expr} {ta:TE} {t:TA} {p apos pos:Pos} {pl:Sem Bool}
variable {te:TEx} {i:Nat} {z:Str} {pos':Pos} {c:Expr} {tc:TT} {tx ty:TSx} {a b:Stmt} {hs:List Hd}
theorem zF{y:Str}(d:jm.aA X.K X.mg x st ps f fd)(hm:X.mg y=some (.ref f))(G:aC X.prog X.w X.K X.mg X.base bU k f fd ps sp)(hr:lJ j X.A)
  (ha:PA X (e::es) t) (hjk:k≤j:=by first|decide|omega) (hg:Gl X y:=by rfl) (hdb:(y == ("__debug__":Str))=false:=by decide) (he:starEach (e::es) X.env=(false,eval e X.env)::starEach es X.env:=by rfl)
  (hpl:(backTo pos (starEach es X.env)).any (·.1)=false:=by rfl):PE X (.Call (.Name y p) (e::es) [] pos) (E8 sp [] E0 t) :=
 Dr G (hr.mono hjk) hg hm d.F.kp d.b .nil cQ ha hdb he hpl
end
end j4
set_option Elab.async false
set_option linter.all false
set_option maxRecDepth 100000
namespace jm
open PySem L2 dD j4 Ay OD
structure n9(mg:Str→Option Value):Prop where
 iH:mg "len"=none
 pG:mg "list"=none
 Jt:mg "tuple"=none
 P1:mg "int"=none
 HW:mg "bool"=none
 P4:mg "str"=none
 oh:mg "range"=none
 UO:mg "zip"=none
 cU:mg "isinstance"=none
 P5:mg "sum"=none
 F6:mg "min"=none
 MP:mg "max"=none
 UP:mg "all"=none
 qy:∀ f,mg "size"=some (.ref f)→mg "size_spans"=some (.ref f)
 AF:∀ f,mg "shown"=some (.ref f)→mg "shown_weave"=some (.ref f)
section
variable {P:Program} {w:World} {K:PySem.W.Frag} {mg:Str→Option Value} {base:Heap}
theorem HX:aJ ["_law_script"] ["_law_script"] (ay tR):=⟨rfl,rfl,rfl,by decide +kernel,rfl,by decide +kernel,by decide +kernel⟩
theorem HY{f:Addr}{fd:FuncData}(F:iI K "_law_src" "_law_src" tR f fd)(T:n9 mg):aC P w K mg base bU 1 f fd NQ (Mq K):=by
 refine F.ok HX (fun vs H Q E h=>?_) (fun cdv A outer s H vs Q E hr h=>?_)
 ·obtain⟨a,ns,rfl,_⟩:=h
  rfl
 obtain⟨a,ns,rfl,hS,k⟩:=h
 refine⟨_,(ao (aT (bH (aa (jl nY rfl T.pG zS (aa (jd wg (pv 0) kG (kH az)) ah)) (aa az (aa az (aa az ah))))))),?_⟩
 refine⟨_,rfl,_,rfl,a,_,rfl,hS,fun p hp=>?_⟩
 refine⟨p,_,rfl,.inl (bN.of af),fun c hc=>?_⟩
 refine⟨(by show 4≤sizeLine;decide),fun l hl=>?_⟩
 obtain⟨ms,em⟩:=Ms ns none (some 63)
 have GZ:c≠l:=au (H:=upd (upd H p _) c _) af hl
 have s1:aH H (upd H p (.lst (nX (ns.map V.int) none (some 63)))):=aj hp _
 have s2:=s1.trans (aj hc (.lst (nX (ns.map V.int) none (some 63))))
 refine k l c _ ⟨GZ,ms,0,0,1,af,?_,by decide,by decide,by decide⟩ (s2.trans (aj hl _)) (s2.free hl) (s1.free hc)
 rw[aF GZ,af,em]
theorem qc:aJ ["_law_src_here","_law_base","_law_cell","_law_digit"] ["_law_src_here","_law_base"] (ay iW):=⟨rfl,rfl,rfl,by decide +kernel,rfl,by decide +kernel,by decide +kernel⟩
theorem lE{f:Addr}{fd:FuncData}(F:iI K "_law_next" "_law_next" iW f fd)(T:n9 mg):aC P w K mg base bU 1 f fd xq sU:=by
 refine F.ok qc (fun vs H Q E h=>?_) (fun cdv A outer s H vs Q E hr h=>?_)
 ·obtain⟨l,c,b,rfl,_⟩:=h
  rfl
 obtain⟨l,c,b,rfl,S,hb0,hb1,k⟩:=h
 refine⟨_,(ak (vq (t':=Rf) (cG (cj lM (bG bM (pv 0) az (fun _ _=>rfl)) az (bZ _))
   (ak (aO (i:=2) qc.nd rfl (Or.inl rfl) az)
   (ak (vq (t':=Rg) (cG (cj Ab (bG bM (pv 0) az (fun _ _=>rfl)) (aR bP rfl T.iH mw (aa (bG bM (pv 0) az (fun _ _=>rfl)) ah)) (bZ _))
   (ak (aO (i:=2) qc.nd rfl (Or.inl rfl) (bG bM (bG bM (pv 0) az (fun _ _=>rfl)) (bG bM (pv 0) az (fun _ _=>rfl)) (fun _ _=>rfl)))
   (ao (xy (bw iy (bG bM (pv 0) az (fun _ _=>rfl)) az) (xx (pv 0) az set_list))))
   bK) ?b2)
   (ak (xy (bw Aa (bw iy (bw iy (bw Hj (bG bM (pv 0) az (fun _ _=>rfl)) az) (bw Aa (pv 2) az)) az) az) (xx (pv 0) az set_list))
   (ao (cG (cj PB (pv 2) (bw LN az az) (bZ _))
   (ao (xy (pv 2) (xx (pv 0) az set_list)))
   bK)))))
   bK) ?b1)
   (ak (cG (cj Ce (bG bM (pv 0) az (fun _ _=>rfl)) az (bZ _))
   (ak (aO (i:=3) qc.nd rfl (Or.inl rfl) (bw Aa (bG bM (pv 0) az (fun _ _=>rfl)) (pv 1)))
   (ak (xy (bw Al (bG bM (pv 0) az (fun _ _=>rfl)) (pv 1)) (xx (pv 0) az set_list))
   (ao (aT (pv 3)))))
   bK)
   (ao (aT (bw Aa (bw Al (bw Aa (bw Hj (bG bM (pv 0) az (fun _ _=>rfl)) az) az) az) (pv 1)))))),?_⟩
 case b2 =>
  rintro D σ H ⟨l,c,b,rfl,⟨GZ,ns,i,d,r,hl,hc,hi,hr0,hr1⟩,k⟩
  refine⟨_,rfl,l,_,_,_,rfl,rfl,bN.of hl,Rc,_,rfl,l,_,_,_,rfl,rfl,bN.of hl,Up,c,_,rfl,.inl (bN.of hc),_,_,rfl,rfl,_,rfl,?_⟩
  refine eG (fun c2=>?_) (fun c2=>?_)
  ·have c3:i<(ns.length:Int):=by
    have z:=of_decide_eq_true c2
    rwa [cA]at z
   obtain⟨v,hv⟩:=Og hi c3
   refine⟨_,rfl,l,_,_,_,rfl,rfl,bN.of hl,Up,_,rfl,l,_,_,_,rfl,rfl,bN.of hl,Rc,c,_,_,_,rfl,rfl,bN.of hc,hv,?_⟩
   refine⟨_,rfl,l,_,_,_,rfl,rfl,bN.of hl,Rc,_,_,rfl,rfl,_,rfl,l,_,_,1,rfl,rfl,hl,rfl,?_⟩
   exact k v _ ⟨GZ,ns,i+1,d,r,af,by rw[aF GZ];exact hc,by omega,hr0,hr1⟩ fun a ha=>aF ha
  ·exact k 7 H ⟨GZ,ns,i,d,r,hl,hc,hi,hr0,hr1⟩ fun a _=>rfl
 case b1 =>
  rintro D σ H ⟨l,c,b,rfl,S,k⟩
  obtain⟨GZ,ns,i,d,r,hl,hc,hi,hr0,hr1⟩:=id S
  refine⟨_,rfl,l,_,_,_,rfl,rfl,bN.of hl,Of,_,_,rfl,rfl,_,rfl,?_⟩
  refine eG (fun c1=>?_) (fun c1=>?_)
  ·refine⟨l,c,b,rfl,S,fun cell H1 S1 k1=>?_⟩
   obtain⟨_,ns1,i1,d1,r1,hl1,hc1,hi1,hr2,G0⟩:=id S1
   refine⟨_,rfl,l,_,_,_,rfl,rfl,bN.of hl1,Uq,_,_,rfl,rfl,.inl ⟨by omega,by omega⟩,_,rfl,_,_,rfl,rfl,(by show (0:Int)<998244353;decide),_,_,rfl,rfl,_,_,rfl,rfl,_,_,rfl,rfl,(by show (0:Int)<2147483647;decide),_,rfl,l,_,_,3,rfl,rfl,hl1,rfl,?_⟩
   refine⟨_,rfl,_,_,rfl,rfl,⟨by decide,by decide,by decide⟩,_,_,rfl,rfl,_,rfl,?_⟩
   have b0:0≤(r1*48271+cell % 998244353+1) % 2147483647:=Int.emod_nonneg _ (by decide)
   have b1:(r1*48271+cell % 998244353+1) % 2147483647<2147483647:=Int.emod_lt_of_pos _ (by decide)
   refine eG (fun c2=>?_) (fun c2=>?_)
   ·refine⟨_,rfl,_,rfl,l,_,_,2,rfl,rfl,af,rfl,?_⟩
    refine k _ _ ⟨GZ,ns1,i1,cell,_,af,?_,hi1,b0,b1⟩ fun a ha=>?_
    ·rw[aF GZ,aF GZ];exact hc1
    ·rw[aF ha,aF ha];exact k1 a ha
   ·refine k _ _ ⟨GZ,ns1,i1,d1,_,af,?_,hi1,b0,b1⟩ fun a ha=>?_
    ·rw[aF GZ];exact hc1
    ·rw[aF ha];exact k1 a ha
  ·exact k none H S fun a _=>rfl
 refine⟨l,c,b,rfl,S,fun cell H1 S1 k1=>?_⟩
 obtain⟨GZ,ns,i,d,r,hl,hc,hi,hr0,hr1⟩:=S1
 refine⟨_,rfl,l,_,_,_,rfl,rfl,bN.of hl,Of,_,_,rfl,rfl,_,rfl,?_⟩
 refine eG (fun c1=>?_) (fun c1=>?_)
 ·refine⟨_,rfl,l,_,_,_,rfl,rfl,bN.of hl,Of,_,rfl,_,_,rfl,rfl,hb0,?_⟩
  refine⟨_,rfl,l,_,_,_,rfl,rfl,bN.of hl,Of,_,rfl,_,_,rfl,rfl,⟨hb0,hb1⟩,_,rfl,l,_,_,2,rfl,rfl,hl,rfl,?_⟩
  refine⟨_,rfl,?_⟩
  refine k (d % b) _ (Int.emod_nonneg _ (by omega)) (Int.emod_lt_of_pos _ hb0) ⟨GZ,ns,i,d / b,r,af,?_,hi,hr0,hr1⟩ fun a ha=>?_
  ·rw[aF GZ];exact hc
  ·rw[aF ha];exact k1 a ha
 ·refine⟨_,rfl,l,_,_,_,rfl,rfl,bN.of hl,Uq,_,_,rfl,rfl,.inl ⟨by omega,by omega⟩,_,_,rfl,rfl,(by show (0:Int)<2147483399;decide),_,_,rfl,rfl,⟨by decide,by decide⟩,_,rfl,_,_,rfl,rfl,hb0,?_⟩
  exact k _ _ (Int.emod_nonneg _ (by omega)) (Int.emod_lt_of_pos _ hb0) ⟨GZ,ns,i,d,r,hl,hc,hi,hr0,hr1⟩ k1
theorem DK:aJ ["_law_found"] ["_law_found"] (ay gU):=⟨rfl,rfl,rfl,by decide +kernel,rfl,by decide +kernel,by decide +kernel⟩
theorem sZ:aJ ["_law_found","_law_due","_law_one","_law_other"] ["_law_found","_law_due"] (ay jz):=⟨rfl,rfl,rfl,by decide +kernel,rfl,by decide +kernel,by decide +kernel⟩
theorem DL{f:Addr}{fd:FuncData}(F:iI K "_law_whole" "_law_whole" gU f fd)(T:n9 mg):aC P w K mg base bU 1 f fd EV Dt:=by
 refine F.ok DK (fun vs H Q E h=>?_) (fun cdv A outer s H vs Q E hr h=>?_)
 ·obtain⟨i,rfl,_⟩:=h
  rfl
 obtain⟨i,rfl,k⟩:=h
 refine⟨_,(ao (aT (rC (aR dF rfl T.cU yV (aa (pv 0) (aa (rZ rfl T.P1 PyProof.Rows.boot_int) ah))) (sN (QJ (aR dF rfl T.cU yV (aa (pv 0) (aa (rZ rfl T.HW PyProof.Rows.boot_bool) ah)))))))),?_⟩
 exact⟨_,rfl,_,_,_,_,rfl,mZ.int i,Uv K,_,rfl,jZ ⟨_,rfl,_,_,_,_,rfl,mZ.int i,Uu K,_,rfl,k⟩⟩
theorem BR{f fW:Addr}{fd G1:FuncData}{n:Nat}(T:n9 mg)(cE:aA K mg "_law_whole" gU EV fW G1)(F7:aC P w K mg base bU 1 fW G1 EV Dt)
  (ck:aA K mg "_law_same" jz yU f fd) (jM:aC P w K mg base bU (n+1) f fd yU (vt n)):aC P w K mg base bU (n+2) f fd yU (vt (n+1)):=by
 refine ck.F.ok sZ (fun vs H Q E h=>?_) (fun cdv A outer s H vs Q E hr h=>?_)
 ·obtain⟨x,y,rfl,_⟩:=h
  rfl
 obtain⟨x,y,rfl,h,k⟩:=h
 refine⟨_,(ak (cG (zW (LJ (pv 1)))
   (ao (aT (QI (LJ (pv 0)))))
   bK)
   (ak (cG (oM (aR dF rfl T.cU yV (aa (pv 1) (aa (rZ rfl T.HW PyProof.Rows.boot_bool) ah))))
   (ao (aT (rC (aR dF rfl T.cU yV (aa (pv 0) (aa (rZ rfl T.HW PyProof.Rows.boot_bool) ah))) (sN (nV mY (pv 0) (pv 1) (bZ _))))))
   bK)
   (ak (cG (oM (aR dF rfl T.cU yV (aa (pv 1) (aa (rZ rfl T.P1 PyProof.Rows.boot_int) ah))))
   (ao (aT (rC (aN cE F7 hr (aa (pv 0) ah)) (sN (nV mY (pv 0) (pv 1) (bZ _))))))
   bK)
   (ak (cG (oM (aR dF rfl T.cU yV (aa (pv 1) (aa (rZ rfl T.P4 PyProof.Rows.boot_str) ah))))
   (ao (aT (rC (aR dF rfl T.cU yV (aa (pv 0) (aa (rZ rfl T.P4 PyProof.Rows.boot_str) ah))) (sN (nV mY (pv 0) (pv 1) (bZ _))))))
   bK)
   (ak (cG (PW.pt (LK (cj LP (aR dF rfl T.cU yV (aa (pv 1) (aa (rZ rfl T.pG zS) ah))) (aR dF rfl T.cU yV (aa (pv 0) (aa (rZ rfl T.pG zS) ah))) (bZ _)) (Hg (cj LP (aR dF rfl T.cU yV (aa (pv 1) (aa (rZ rfl T.Jt PyProof.Rows.boot_tuple) ah))) (aR dF rfl T.cU yV (aa (pv 0) (aa (rZ rfl T.Jt PyProof.Rows.boot_tuple) ah))) (bZ _)))))
   (ao (aT rX))
   bK)
   (ak (cG (cj LP (aR bP rfl T.iH mw (aa (pv 0) ah)) (aR bP rfl T.iH mw (aa (pv 1) ah)) (bZ _))
   (ao (aT rX))
   bK)
   (ak (jr PassesOwn.never rfl (Q9 rfl T.UO (aa (pv 0) (aa (pv 1) ah))) (rD (n:=2) rfl (bL (aW (i:=2) sZ.nd rfl (Or.inl rfl)) (bL (aW (i:=3) sZ.nd rfl (Or.inl rfl)) jX)))
   (ao (cG (oN (oM (aN ck jM hr (aa (pv 2) (aa (pv 3) ah)))))
   (ao (aT rX))
   bK)))
   (ao (aT rX))))))))),?_⟩
 have kk:=k H (aH.refl H)
 rcases h with ⟨hf,rfl⟩|⟨kd,a,b,xs,ys,rfl,rfl,h1,h2,hl,hi⟩
 ·cases x with
  | jw =>
   refine⟨_,rfl,_,rfl,eG (fun _=>?_) (fun c=>absurd (decide_eq_true rfl) c)⟩
   exact⟨_,rfl,tt rfl kk⟩
  | bl v =>
   refine⟨_,rfl,_,rfl,eG (fun c=>absurd (of_decide_eq_true c) (fun z=>nomatch z)) (fun _=>?_)⟩
   refine⟨_,rfl,_,_,_,_,rfl,mZ.bl v,Ut K,_,rfl,jZ ?_⟩
   exact⟨_,rfl,_,_,_,_,rfl,mZ.bl v,Ut K,_,rfl,jZ ⟨_,rfl,_,rfl,rfl,tt rfl kk⟩⟩
  | int i =>
   refine⟨_,rfl,_,rfl,eG (fun c=>absurd (of_decide_eq_true c) (fun z=>nomatch z)) (fun _=>?_)⟩
   refine⟨_,rfl,_,_,_,_,rfl,mZ.int i,Uu K,_,rfl,jY ?_⟩
   refine⟨_,rfl,_,_,_,_,rfl,mZ.int i,Uv K,_,rfl,jZ ?_⟩
   exact⟨_,rfl,i,rfl,_,rfl,jZ ⟨_,rfl,_,rfl,rfl,tt rfl kk⟩⟩
  | str v =>
   refine⟨_,rfl,_,rfl,eG (fun c=>absurd (of_decide_eq_true c) (fun z=>nomatch z)) (fun _=>?_)⟩
   refine⟨_,rfl,_,_,_,_,rfl,mZ.str v,adZ K,_,rfl,jY ?_⟩
   refine⟨_,rfl,_,_,_,_,rfl,mZ.str v,ad0 K,_,rfl,jY ?_⟩
   refine⟨_,rfl,_,_,_,_,rfl,mZ.str v,Uw K,_,rfl,jZ ?_⟩
   exact⟨_,rfl,_,_,_,_,rfl,mZ.str v,Uw K,_,rfl,jZ ⟨_,rfl,_,rfl,rfl,tt rfl kk⟩⟩
  | _=>cases hf
 ·refine⟨_,rfl,_,rfl,eG (fun c=>absurd (of_decide_eq_true c) (fun z=>nomatch z)) (fun _=>?_)⟩
  refine⟨_,rfl,_,_,_,_,rfl,h2.ty,ad9 K kd,_,rfl,jY ?_⟩
  refine⟨_,rfl,_,_,_,_,rfl,h2.ty,aea K kd,_,rfl,jY ?_⟩
  refine⟨_,rfl,_,_,_,_,rfl,h2.ty,aeb K kd,_,rfl,jY ?_⟩
  refine⟨_,rfl,_,_,_,_,rfl,h2.ty,Uy K kd,_,rfl,_,_,_,_,rfl,h1.ty,Uy K kd,rfl,_,rfl,Me rfl ?_⟩
  refine⟨_,rfl,_,_,_,_,rfl,h2.ty,Uz K kd,_,rfl,_,_,_,_,rfl,h1.ty,Uz K kd,rfl,_,rfl,Me rfl ?_⟩
  refine⟨_,rfl,a,_,rfl,h1.or,_,rfl,b,_,rfl,h2.or,rfl,_,rfl,Me (by rw[hl]) ?_⟩
  refine⟨_,rfl,_,rfl,kd,a,b,xs,ys,rfl,h1.sq,h2.sq,Od (fun i σ H2=>∃ u v,σ=[some (.ref a),some (.ref b),u,v]∧aH H H2) hl ⟨none,none,rfl,aH.refl H⟩ (fun i σ H2 _ ⟨_,_,_,s⟩=>⟨(h1.same s).sq,(h2.same s).sq⟩) ?_ ?_⟩
  ·rintro i u v p σ H2 eu ev hp ⟨_,_,rfl,s⟩
   refine⟨p,_,rfl,jW.of af,rfl,u,[v],rfl,v,[],rfl,rfl,?_⟩
   have s2:=s.trans (aj hp (.tup [u,v]))
   refine⟨_,rfl,_,rfl,u,v,rfl,Eqv.same s2 (hi i u v eu ev),fun H4 s4=>⟨_,rfl,jY ?_⟩⟩
   exact⟨_,_,rfl,s2.trans s4⟩
  ·rintro σ H2 ⟨_,_,rfl,s⟩
   exact k H2 s
theorem qd{f fW:Addr}{fd G1:FuncData}(T:n9 mg)(cE:aA K mg "_law_whole" gU EV fW G1)(ck:aA K mg "_law_same" jz yU f fd):∀ n:Nat,aC P w K mg base bU (n+1) f fd yU (vt n)
 | 0=>by
  have no:∀ vs H Q E,¬ vt 0 vs H Q E:=fun vs H Q E h=>by
   obtain⟨x,y,_,h,_⟩:=h
   exact h
  exact⟨fun vs H Q E h=>absurd h (no vs H Q E),fun A outer s H args us vs Q E _ _ _ _ h=>absurd h (no vs H Q E)⟩
 | n+1=>BR T cE (DL cE.F T) ck (qd T cE ck n)
theorem zG:aJ ["row","told","start","stop"] ["row"] (ay lO):=⟨rfl,rfl,rfl,by decide +kernel,rfl,by decide +kernel,by decide +kernel⟩
theorem AG{f:Addr}{fd:FuncData}(F:iI K "plain" "plain" lO f fd):aC P w K mg base bU 1 f fd eU wB:=by
 refine F.ok zG (fun vs H Q E h=>?_) (fun cdv A outer s H vs Q E hr h=>?_)
 ·obtain⟨r,row,rfl,_⟩:=h
  rfl
 obtain⟨r,row,rfl,⟨as,hr1,hp⟩,hlen,k⟩:=h
 refine⟨_,(ak (aO (i:=1) zG.nd rfl (Or.inl rfl) (bH ah))
   (ak (jr PassesOwn.never rfl (cM (pv 0)) (rD (n:=2) rfl (bL (aW (i:=2) zG.nd rfl (Or.inl rfl)) (bL (aW (i:=3) zG.nd rfl (Or.inl rfl)) jX)))
   (ak (cG (cj mY (pv 2) (pv 3) (bZ _))
   (ao E6)
   bK)
   (ao (cG (PW.pt (Hh (oQ (pv 1) (fun _=>rfl)) (Dn (cj mY (bG eF (bG bM (pv 1) (uI qw az) (fun _ _=>rfl)) az (fun _ _=>rfl)) (pv 2) (bZ _)))))
   (ao (xy (iz (aa (bG eF (bG bM (pv 1) (uI qw az) (fun _ _=>rfl)) az (fun _ _=>rfl)) (aa (pv 3) ah))) (xx (pv 1) (uI qw az) set_list)))
   (ao (bq (je rA vg vh cP (pv 1) (aa (iz (aa (pv 2) (aa (pv 3) ah))) ah))))))))
   (ao (aT (pv 1))))),?_⟩
 refine⟨(by show 0≤sizeLine;decide),fun q hq=>?_⟩
 have s0:aH H (upd H q (.lst [])):=aj hq _
 refine⟨_,rfl,r,rfl,⟨_,bN.of (s0 _ _ hr1)⟩,jy (K:=K) (a:=r) (xs:=as.map V.ref) (fun i σ H2=>∃ (bs:List Addr) (u v:Option V),σ=[some (.ref r),some (.ref q),u,v]∧H2 q=some (.lst (bs.map V.ref))∧bf H2 bs ((row.take i).foldl dP [])∧aH H H2)
  ⟨[],none,none,rfl,af,.nil,s0⟩ (fun i σ H2 _ ⟨_,_,_,_,_,_,s⟩=>bN.of (s _ _ hr1)) ?_ ?_⟩
 ·rintro i x σ H2 hi ⟨bs,u,v,rfl,hq2,hb,s⟩
  rw[jV]at hi
  obtain⟨a,ea,rfl⟩:=Option.map_eq_some_iff.mp hi
  obtain⟨⟨st,en⟩,ep,ha⟩:=hp.get ea
  have step:=Kw (f:=dP) ep
  have bl:bs.length<sizeLine:=by
   have z:=hb.len
   have z2:=FA (row.take i) []
   rw[rj]at z2
   exact aL (by simp only[qu]at z2;omega)
  refine⟨a,_,rfl,jW.of (s _ _ ha),rfl,_,_,rfl,_,_,rfl,rfl,?_⟩
  refine⟨_,rfl,_,rfl,rfl,_,rfl,eG (fun c=>?_) (fun c=>?_)⟩
  ·have e:st=en:=V.int.inj (of_decide_eq_true c)
   refine⟨bs,_,_,rfl,hq2,?_,s⟩
   rw[step,dP,if_pos e]
   exact hb
  ·have e:¬ st=en:=fun z=>c (decide_eq_true (congrArg V.int z))
   rw[dP,if_neg e]at step
   rcases vn ((row.take i).foldl dP []) with hn|⟨rw0,q0,hn⟩
   ·rw[hn]at hb step
    have hbs:bs=[]:=List.eq_nil_of_length_eq_zero hb.len
    subst hbs
    refine⟨_,rfl,false,.inl ⟨_,bN.of hq2,rfl⟩,jY (jY ?_)⟩
    refine⟨_,rfl,.inl ⟨rfl,_,bN.of hq2⟩,_,rfl,_,rfl,(by show 2≤sizeLine;decide),fun t ht=>⟨q,_,_,rfl,rfl,aj ht _ _ _ hq2,(by show 0<sizeLine;decide),?_⟩⟩
    obtain⟨g1,g2,g3⟩:=grown (st:=st) (en:=en) hq s hq2 hb ht
    refine⟨[]++[t],_,_,rfl,g1,?_,g3⟩
    rw[step,qI]
    exact g2
   ·rw[sC]at hn
    rw[hn]at hb step
    obtain⟨cs,a0,rfl,hc,ha0⟩:=hb.split
    have OL:H2 q=some (.lst (cs.map V.ref++[.ref a0])):=by rw[hq2,lH];rfl
    refine⟨_,rfl,true,.inl ⟨_,bN.of OL,by simp⟩,jZ ?_⟩
    refine⟨_,rfl,_,rfl,q,_,_,_,rfl,rfl,bN.of OL,m9 _ _,a0,_,_,_,rfl,rfl,jW.of ha0,Us,_,rfl,rfl,_,rfl,eG (fun c2=>?_) (fun c2=>?_)⟩
    ·have e2:q0.2=st:=V.int.inj (of_decide_eq_true c2)
     refine⟨_,rfl,_,rfl,q,_,_,_,rfl,rfl,bN.of OL,m9 _ _,a0,_,_,_,rfl,rfl,jW.of ha0,Ur,_,rfl,(by show 2≤sizeLine;decide),fun t ht=>?_⟩
     refine⟨_,rfl,_,rfl,q,_,_,cs.length,rfl,rfl,aj ht _ _ _ OL,Rp cs a0,?_⟩
     obtain⟨g1,g2,g3⟩:=turned (st:=q0.1) (en:=en) hq s OL hc ht
     refine⟨cs++[t],_,_,rfl,g1,?_,g3⟩
     rw[step,qJ _ e2]
     exact g2
    ·have e2:¬ q0.2=st:=fun z=>c2 (decide_eq_true (congrArg V.int z))
     refine⟨_,rfl,.inl ⟨rfl,_,bN.of hq2⟩,_,rfl,_,rfl,(by show 2≤sizeLine;decide),fun t ht=>⟨q,_,_,rfl,rfl,aj ht _ _ _ hq2,(by rw[cA];exact bl),?_⟩⟩
     obtain⟨g1,g2,g3⟩:=grown (st:=st) (en:=en) hq s hq2 hb ht
     refine⟨cs++[a0]++[t],_,_,rfl,g1,?_,g3⟩
     rw[step,qK _ e2]
     exact g2
 ·rintro σ H2 ⟨bs,u,v,rfl,hq2,hb,s⟩
  refine⟨_,rfl,k q H2 ⟨bs,hq2,?_⟩ s hq⟩
  rw[cA,hp.len,kQ]at hb
  exact hb
theorem RC:aJ ["row"] ["row"] (ay ssize):=⟨rfl,rfl,rfl,by decide +kernel,rfl,by decide +kernel,by decide +kernel⟩
theorem Ju{f:Addr}{fd:FuncData}(F:iI K "size" "size" ssize f fd)(T:n9 mg):aC P w K mg base bU 1 f fd eU DA:=by
 refine F.ok RC (fun vs H Q E h=>?_) (fun cdv A outer s H vs Q E hr h=>?_)
 ·obtain⟨n,ns,rfl,_⟩:=h
  rfl
 obtain⟨r,row,rfl,⟨as,hr1,hp⟩,hlen,k⟩:=h
 refine⟨_,(ao (aT (aR (Fo rfl) rfl T.P5 PyProof.Rows.boot_sum (aa (Dv (N:=["start","stop"]) ⟨rfl,by decide +kernel,by decide +kernel,by decide +kernel⟩ rfl (cM (pv 0)) (fun _ _ _ _ _=>(Dy (n:=2) rfl (bL (aW (i:=0) (show List.Nodup (["start","stop"]:List Str) by decide +kernel) rfl (Or.inl rfl)) (bL (aW (i:=1) (show List.Nodup (["start","stop"]:List Str) by decide +kernel) rfl (Or.inl rfl)) jX)))) (fun _ _ _ _ _=>iJ) (fun _ _ _ _ _=>(bw iV (pv 1) (pv 0)))) ah)))),?_⟩
 refine⟨_,rfl,r,rfl,⟨_,bN.of hr1⟩,fun acc hacc=>xK (K:=K) (a:=r) (xs:=as.map V.ref) (fun i σ H2=>∃ u v:Option V,σ=[u,v]∧H2 acc=some (.lst (((row.take i).map fun p=>p.2-p.1).map V.int))∧aH H H2)
  ⟨none,none,rfl,af,aj hacc _⟩ (fun i σ H2 _ ⟨_,_,_,_,s⟩=>bN.of (s _ _ hr1)) ?_ ?_⟩
 ·rintro i x σ H2 hi ⟨u,v,rfl,ha,s⟩
  rw[jV]at hi
  obtain⟨a,ea,rfl⟩:=Option.map_eq_some_iff.mp hi
  obtain⟨⟨st,en⟩,ep,hpa⟩:=hp.get ea
  refine⟨a,_,rfl,jW.of (s _ _ hpa),rfl,_,_,rfl,_,_,rfl,rfl,yes (jZ ?_)⟩
  refine⟨_,rfl,_,rfl,_,_,rfl,rfl,_,ha,?_,_,_,rfl,?_,cD hacc s (aK acc _ _)⟩
  ·rw[cA,cA,rj]
   exact aL (by omega)
  ·rw[af,take_snoc ep,lH,lH]
   rfl
 ·rintro σ H2 ⟨u,v,rfl,ha,s⟩
  rw[cA,hp.len,kQ]at ha
  exact⟨acc,_,rfl,bN.of ha,k H2 s⟩
theorem AH:aJ ["row","start","stop"] ["row","start","stop"] (ay eZ):=⟨rfl,rfl,rfl,by decide +kernel,rfl,by decide +kernel,by decide +kernel⟩
theorem kL{f fS C:Addr}{fd KO:FuncData}(F:iI K "check_places" "check_places" eZ f fd)(T:n9 mg)(Z:ExcAt K mg C)(ju:aA K mg "size" ssize eU fS KO):aC P w K mg base (nB P w) 2 f fd nE (tY C):=by
 have Jv:aC P w K mg base bU 1 fS KO eU DA:=Ju ju.F T
 refine ER F AH (fun vs H Q E h=>?_) (fun cdv A outer s H vs Q E hr h=>?_)
 ·obtain⟨r,row,a,b,rfl,_⟩:=h
  rfl
 obtain⟨r,row,a,b,rfl,R,hl,fa,fb,ft,k1,k2⟩:=h
 refine⟨_,(ao (cG (oN (Kx lM lM lM az (pv 1) (pv 2) (j4.zF ju (T.qy _ ju.m) Jv hr (aa (pv 0) ah))))
   (ao (vq (t':=fun _ σ H'=>σ=[some (.ref r),some (.int a),some (.int b)]∧aH H H'∧¬ GY a b (tot row)) (qN PySem.F.excBase_ValueError Z.x Z.m rfl xM (aa (tW (nJ (o6 (pv 1) (nJ (o6 (pv 2) (nJ (o6 (j4.zF ju (T.qy _ ju.m) Jv hr (aa (pv 0) ah)) xN))))))) ah)) ?b1))
   bK)),?_⟩
 case b1 =>
  rintro D σ H' ⟨rfl,s1,hn⟩
  refine⟨_,rfl,a,rfl,fa.log,_,rfl,b,rfl,fb.log,_,rfl,r,row,rfl,R.same s1,hl,fun H2 s2=>⟨_,rfl,ft.log,fun x=>⟨(by show 1≤sizeLine;decide),k2 hn H2 (s1.trans s2)⟩⟩⟩
 refine⟨_,rfl,_,_,rfl,rfl,_,rfl,eG (fun c1=>?_) (fun c1=>jZ ⟨rfl,aH.refl H,fun z=>c1 (decide_eq_true z.1)⟩)⟩
 refine⟨_,rfl,_,_,rfl,rfl,_,rfl,eG (fun c2=>?_) (fun c2=>jZ ⟨rfl,aH.refl H,fun z=>c2 (decide_eq_true z.2.1)⟩)⟩
 refine⟨_,rfl,r,row,rfl,R,hl,fun H1 s1=>⟨_,_,rfl,rfl,_,rfl,eG (fun c3=>?_) (fun c3=>?_)⟩⟩
 ·refine⟨rfl,s1,fun z=>?_⟩
  rw[decide_eq_true z.2.2]at c3
  cases c3
 ·refine k1 ⟨of_decide_eq_true c1,of_decide_eq_true c2,?_⟩ H1 s1
  by_cases z:b≤tot row
  ·exact z
  ·rw[decide_eq_false z]at c3
   exact absurd rfl c3
theorem nh:aJ ["row","start","stop","told","ahead","first","last","low","high"] ["row","start","stop"] (ay mR):=⟨rfl,rfl,rfl,by decide +kernel,rfl,by decide +kernel,by decide +kernel⟩
theorem xW{f:Addr}{fd:FuncData}(F:iI K "pieces" "pieces" mR f fd)(T:n9 mg):aC P w K mg base bU 1 f fd nE sV:=by
 refine F.ok nh (fun vs H Q E h=>?_) (fun cdv A outer s H vs Q E hr h=>?_)
 ·obtain⟨r,row,a,b,rfl,_⟩:=h
  rfl
 obtain⟨r,row,a,b,rfl,⟨as,hr1,hp⟩,hlen,k⟩:=h
 refine⟨_,(ak (aO (i:=3) nh.nd rfl (Or.inl rfl) (bH ah))
   (ak (aO (i:=4) nh.nd rfl (Or.inl rfl) az)
   (ak (jr PassesOwn.never rfl (cM (pv 0)) (rD (n:=2) rfl (bL (aW (i:=5) nh.nd rfl (Or.inl rfl)) (bL (aW (i:=6) nh.nd rfl (Or.inl rfl)) jX)))
   (ak (aO (i:=7) nh.nd rfl (Or.inl rfl) (aR (xB rfl) rfl T.MP PyProof.Rows.boot_max (aa (bw iV (pv 1) (pv 4)) (aa az ah))))
   (ak (aO (i:=8) nh.nd rfl (Or.inl rfl) (aR (qF rfl) rfl T.F6 PyProof.Rows.boot_min (aa (bw iV (pv 2) (pv 4)) (aa (bw iV (pv 6) (pv 5)) ah))))
   (ak (cG (cj Ab (pv 7) (pv 8) (bZ _))
   (ao (bq (je rA vg vh cP (pv 3) (aa (iz (aa (bw iy (pv 5) (pv 7)) (aa (bw iy (pv 5) (pv 8)) ah))) ah))))
   bK)
   (ao (xA (i:=4) nh.nd rfl (Or.inl rfl) (bw iV (pv 6) (pv 5)) QM))))))
   (ao (aT (pv 3)))))),?_⟩
 refine⟨(by show 0≤sizeLine;decide),fun q hq=>?_⟩
 have s0:aH H (upd H q (.lst [])):=aj hq _
 refine⟨_,rfl,r,rfl,⟨_,bN.of (s0 _ _ hr1)⟩,jy (K:=K) (a:=r) (xs:=as.map V.ref) (fun i σ H2=>∃ (bs:List Addr) (t:Int) (u v x y:Option V),σ=[some (.ref r),some (.int a),some (.int b),some (.ref q),some (.int t),u,v,x,y]∧t=tot (row.take i)∧H2 q=some (.lst (bs.map V.ref))∧bf H2 bs (nP a b 0 (row.take i))∧aH H H2)
  ⟨[],0,none,none,none,none,rfl,rfl,af,.nil,s0⟩ (fun i σ H2 _ ⟨_,_,_,_,_,_,_,_,_,_,s⟩=>bN.of (s _ _ hr1)) ?_ ?_⟩
 ·rintro i x σ H2 hi ⟨bs,t,u,v,x1,y1,rfl,et,hq2,hb,s⟩
  rw[jV]at hi
  obtain⟨ad,ea,rfl⟩:=Option.map_eq_some_iff.mp hi
  obtain⟨⟨st,en⟩,ep,ha⟩:=hp.get ea
  have step:=FF a b (st,en) (row.take i) 0
  rw[← take_snoc ep,Int.zero_add,← et]at step
  have et2:t+(en-st)=tot (row.take (i+1)):=by rw[take_snoc ep,Mp,et]
  have bl:bs.length<sizeLine:=by
   have z:=hb.len
   have z2:=o7 a b (row.take i) 0
   rw[rj]at z2
   exact aL (by omega)
  have e1:(if (0:Int) > a-t then (0:Int) else a-t)=max (a-t) 0:=by split <;> omega
  have e2:(if en-st<b-t then en-st else b-t)=min (b-t) (en-st):=by split <;> omega
  refine⟨ad,_,rfl,jW.of (s _ _ ha),rfl,_,_,rfl,_,_,rfl,rfl,?_⟩
  refine⟨_,rfl,_,rfl,_,_,rfl,rfl,_,_,rfl,?_⟩
  refine⟨_,rfl,_,rfl,_,_,rfl,rfl,_,rfl,_,rfl,_,_,rfl,rfl,_,_,rfl,?_⟩
  rw[e1,e2]
  refine⟨_,rfl,_,rfl,_,_,rfl,rfl,_,rfl,eG (fun c=>?_) (fun c=>?_)⟩
  ·have c':max (a-t) 0<min (b-t) (en-st):=of_decide_eq_true c
   unfold MA at step
   rw[if_pos c']at step
   refine⟨_,rfl,.inl ⟨rfl,_,bN.of hq2⟩,_,rfl,_,rfl,_,_,rfl,rfl,_,rfl,_,rfl,_,_,rfl,rfl,(by show 2≤sizeLine;decide),fun tu htu=>⟨q,_,_,rfl,rfl,aj htu _ _ _ hq2,(by rw[cA];exact bl),?_⟩⟩
   obtain⟨g1,g2,g3⟩:=grown (st:=st+max (a-t) 0) (en:=st+min (b-t) (en-st)) hq s hq2 hb htu
   refine⟨_,rfl,_,rfl,_,rfl,_,_,rfl,rfl,_,_,rfl,rfl,?_⟩
   refine⟨bs++[tu],_,_,_,_,_,rfl,et2,g1,?_,g3⟩
   rw[step]
   exact g2
  ·have c':¬ max (a-t) 0<min (b-t) (en-st):=fun z=>c (decide_eq_true z)
   unfold MA at step
   rw[if_neg c',kj]at step
   refine⟨_,rfl,_,rfl,_,rfl,_,_,rfl,rfl,_,_,rfl,rfl,?_⟩
   refine⟨bs,_,_,_,_,_,rfl,et2,hq2,?_,s⟩
   rw[step]
   exact hb
 ·rintro σ H2 ⟨bs,t,u,v,x1,y1,rfl,et,hq2,hb,s⟩
  rw[cA,hp.len,kQ]at hb
  exact⟨_,rfl,k q H2 ⟨bs,hq2,hb⟩ s hq⟩
theorem RD:aJ ["row","start","stop"] ["row","start","stop"] (ay Fe):=⟨rfl,rfl,rfl,by decide +kernel,rfl,by decide +kernel,by decide +kernel⟩
theorem OM{f fS fC fP fQ C:Addr}{fd KO fdC KP fdQ:FuncData}(F:iI K "part" "part" Fe f fd)(T:n9 mg)(Z:ExcAt K mg C)(ju:aA K mg "size" ssize eU fS KO)(bY:aA K mg "check_places" eZ nE fC fdC)
  (gu:aA K mg "plain" lO eU fP KP) (gY:aA K mg "pieces" mR nE fQ fdQ):aC P w K mg base (nB P w) 3 f fd nE (HH C):=by
 have iC:aC P w K mg base (nB P w) 2 _ _ nE (tY C):=kL bY.F T Z ju
 have AI:aC P w K mg base bU 1 _ _ eU wB:=AG gu.F
 have qe:aC P w K mg base bU 1 _ _ nE sV:=xW gY.F T
 refine ER F RD (fun vs H Q E h=>?_) (fun cdv A outer s H vs Q E hr h=>?_)
 ·obtain⟨r,row,a,b,rfl,_⟩:=h
  rfl
 obtain⟨r,row,a,b,rfl,R,hl,fa,fb,ft,k1,k2⟩:=h
 refine⟨_,(ak (bq (n8 bY iC hr kr (aa (pv 0) (aa (pv 1) (aa (pv 2) ah)))))
   (ao (aT (aN gu AI hr (aa (aN gY qe hr (aa (pv 0) (aa (pv 1) (aa (pv 2) ah)))) ah))))),?_⟩
 refine⟨_,rfl,_,rfl,_,rfl,r,row,a,b,rfl,R,hl,fa,fb,ft,fun hin H1 s1=>?_,k2⟩
 refine⟨_,rfl,_,rfl,_,rfl,r,row,a,b,rfl,R.same s1,hl,fun q H2 R2 s2 hq=>?_⟩
 refine⟨q,_,rfl,R2,kT (o7 a b row 0) hl,fun q3 H3 R3 s3 OL=>?_⟩
 exact k1 hin q3 H3 R3 (s1.trans (s2.trans s3)) (aX (s1.trans s2) OL)
theorem F8:aJ ["row"] ["row"] (ay oS):=⟨rfl,rfl,rfl,by decide +kernel,rfl,by decide +kernel,by decide +kernel⟩
theorem DM{f:Addr}{fd:FuncData}(F:iI K "addresses" "addresses" oS f fd)(T:n9 mg):aC P w K mg base bU 1 f fd eU Dz:=by
 refine F.ok F8 (fun vs H Q E h=>?_) (fun cdv A outer s H vs Q E hr h=>?_)
 ·obtain⟨n,ns,rfl,_⟩:=h
  rfl
 obtain⟨r,row,rfl,⟨as,hr1,hp⟩,hok,hlen,k⟩:=h
 refine⟨_,(ao (aT (My (N:=["start","stop","address"]) ⟨rfl,by decide +kernel,by decide +kernel,by decide +kernel⟩ rfl (cM (pv 0)) (fun _ _ _ _ _=>(Dy (n:=2) rfl (bL (aW (i:=0) (show List.Nodup (["start","stop","address"]:List Str) by decide +kernel) rfl (Or.inl rfl)) (bL (aW (i:=1) (show List.Nodup (["start","stop","address"]:List Str) by decide +kernel) rfl (Or.inl rfl)) jX)))) (fun _ _ _ _ _=>iJ) (fun _ _ _ _ _=>(Kv rfl T.oh (aa (pv 0) (aa (pv 1) ah)))) (fun _ _ _ _ _=>(aW (i:=2) (show List.Nodup (["start","stop","address"]:List Str) by decide +kernel) rfl (Or.inl rfl))) (fun _ _ _ _ _=>iJ) (fun _ _ _ _ _=>(pv 2))))),?_⟩
 refine⟨_,rfl,r,rfl,⟨_,bN.of hr1⟩,fun acc hacc=>HF (K:=K) (a:=r) (xs:=as.map V.ref) (fun i σ H2=>∃ u v z:Option V,σ=[u,v,z]∧H2 acc=some (.lst ((aS (row.take i)).map V.int))∧aH H H2)
  ⟨none,none,none,rfl,af,aj hacc _⟩ (fun i σ H2 _ ⟨_,_,_,_,_,s⟩=>bN.of (s _ _ hr1)) ?_ ?_⟩
 ·rintro i x σ H2 hi ⟨u,v,z,rfl,ha,s⟩
  rw[jV]at hi
  obtain⟨a,ea,rfl⟩:=Option.map_eq_some_iff.mp hi
  obtain⟨⟨st,en⟩,ep,hpa⟩:=hp.get ea
  have b2:st≤en:=hok _ (uA ep)
  have step:=As ep
  have lz:(aS (row.take i)).length+(en-st).toNat≤1000000:=by
   have z:=uW row (i+1)
   rw[step,dU,span,gj]at z
   exact kT z hlen
  refine⟨a,_,rfl,jW.of (s _ _ hpa),rfl,_,_,rfl,_,_,rfl,rfl,yes (jZ ?_)⟩
  refine⟨_,rfl,_,rfl,st,en,rfl,Fz (lo:=st) (k:=(en-st).toNat) (fun j σ H3=>∃ z:Option V,σ=[some (.int st),some (.int en),z]∧H3 acc=some (.lst ((aS (row.take i)++run st j).map V.int))∧aH H H3) ⟨z,rfl,?_,s⟩ ?_ ?_⟩
  ·rw[run,kj];exact ha
  ·rintro j σ H3 hj ⟨z,rfl,h3,s3⟩
   refine Rn ?_
   refine jZ ?_
   refine⟨_,rfl,_,h3,?_,_,rfl,?_,cD hacc s3 (aK acc _ _)⟩
   ·rw[cA,dU,gj]
    exact aL (by omega)
   ·rw[af,wA,← qD]
    simp
  ·rintro σ H3 ⟨z,rfl,h3,s3⟩
   refine⟨_,_,_,rfl,?_,s3⟩
   rw[step]
   exact h3
 ·rintro σ H2 ⟨u,v,z,rfl,ha,s⟩
  rw[cA,hp.len,kQ]at ha
  exact k acc H2 ha s hacc
theorem fL:aJ ["holes","start","low","high","middle"] ["holes","start"] (ay eK):=⟨rfl,rfl,rfl,by decide +kernel,rfl,by decide +kernel,by decide +kernel⟩
theorem F9{cH:Row}(h:S9 cH){i j:Nat}{p q:Int × Int}(hp:cH[i]?=some p)(hq:cH[j]?=some q)(ij:i≤j):p.2≤q.2:=by
 by_cases c:i=j
 ·subst c
  rw[hp]at hq
  cases hq
  exact Int.le_refl _
 ·obtain⟨hi,ei⟩:=List.getElem?_eq_some_iff.mp hp
  obtain⟨hj,ej⟩:=List.getElem?_eq_some_iff.mp hq
  have:=List.pairwise_iff_getElem.mp h.1 i j hi hj (by omega)
  rw[ei,ej]at this
  have:=h.2 q (uA hq)
  omega
theorem wH{f:Addr}{fd:FuncData}(F:iI K "first_reaching" "first_reaching" eK f fd)(T:n9 mg):aC P w K mg base bU 1 f fd JS DJ:=by
 refine F.ok fL (fun vs H Q E h=>?_) (fun cdv A outer s H vs Q E hr h=>?_)
 ·obtain⟨r,cH,x,rfl,_⟩:=h
  rfl
 obtain⟨r,cH,x,rfl,⟨as,h1,p1⟩,DN,k⟩:=h
 have n1:=p1.len
 refine⟨_,(ak (aO (i:=2) fL.nd rfl (Or.inl rfl) az)
   (ak (aO (i:=3) fL.nd rfl (Or.inl rfl) (aR bP rfl T.iH mw (aa (pv 0) ah)))
   (ak (zY PassesOwn.never (cj Ab (pv 2) (pv 3) (bZ _)) (ak (aO (i:=4) fL.nd rfl (Or.inl rfl) (bw Al (bw iy (pv 2) (pv 3)) az))
   (ao (cG (cj Ce (bG eF (bG bM (pv 0) (pv 4) (fun _ _=>rfl)) az (fun _ _=>rfl)) (pv 1) (bZ _))
   (ao (aO (i:=3) fL.nd rfl (Or.inl rfl) (pv 4)))
   (ao (aO (i:=2) fL.nd rfl (Or.inl rfl) (bw iy (pv 4) az)))))))
   (ao (aT (pv 2)))))),?_⟩
 refine⟨_,rfl,r,_,rfl,.inl (bN.of h1),?_⟩
 rw[cA,n1]
 refine⟨fun m σ H2=>∃ (lo hi:Nat) (u:Option V),σ=[some (.ref r),some (.int x),some (.int lo),some (.int hi),u]∧H2=H∧m=hi-lo∧lo≤hi∧hi≤cH.length∧(∀ i p,cH[i]?=some p→i<lo→p.2≤x)∧(∀ i p,cH[i]?=some p→hi≤i→x<p.2),⟨_,0,cH.length,none,rfl,rfl,rfl,by omega,gQ _,fun i p _ h=>by omega,fun i p h1 h2=>by rw[zT h2]at h1;cases h1⟩,?_⟩
 rintro m σ H2 ⟨lo,hi,u,rfl,rfl,rfl,lh,hl,b1,b2⟩
 refine⟨_,rfl,_,rfl,_,_,rfl,rfl,_,rfl,eG (fun c=>?_) (fun c=>?_)⟩
 ·have c':(lo:Int)<hi:=of_decide_eq_true c
  refine⟨fun σ' H'=>∃ m',m'<hi-lo∧∃ (lo hi:Nat) (u:Option V),σ'=[some (.ref r),some (.int x),some (.int lo),some (.int hi),u]∧H'=H2∧m'=hi-lo∧lo≤hi∧hi≤cH.length∧(∀ i p,cH[i]?=some p→i<lo→p.2≤x)∧(∀ i p,cH[i]?=some p→hi≤i→x<p.2),fun σ' H' z=>z,?_⟩
  have em:((lo:Int)+hi) / 2=((lo+hi) / 2:Nat):=by omega
  refine⟨_,rfl,_,rfl,_,_,rfl,rfl,_,_,rfl,rfl,⟨by decide,by decide⟩,?_⟩
  obtain⟨mid,hm⟩:∃ mid,mid=(lo+hi) / 2:=⟨_,rfl⟩
  have eP:cH[mid]?=some cH[mid]:=nU (by omega)
  have eA:as[mid]?=some as[mid]:=nU (by omega)
  obtain⟨pp,UQ,hpp⟩:=p1.get eA
  rw[eP]at UQ
  cases UQ
  have ix:xF (as.map V.ref) (((lo:Int)+hi) / 2)=some (.ref as[mid]):=by
   rw[em,← hm]
   exact eV (by rw[jV,eA];rfl)
  refine⟨_,rfl,_,rfl,r,_,_,_,rfl,rfl,bN.of h1,ix,as[mid],_,_,_,rfl,rfl,jW.of hpp,Us,_,rfl,_,_,rfl,rfl,_,rfl,eG (fun c2=>?_) (fun c2=>?_)⟩
  ·have d:x<cH[mid].2:=of_decide_eq_true c2
   refine⟨_,rfl,mid-lo,by omega,lo,mid,some (.int (((lo:Int)+hi) / 2)),?_,rfl,rfl,by omega,by omega,b1,fun i p hp hi'=>?_⟩
   ·rw[hm,← em];rfl
   ·have:=F9 DN eP hp hi'
    omega
  ·have d:¬ x<cH[mid].2:=fun z=>c2 (decide_eq_true z)
   refine⟨_,rfl,_,_,rfl,rfl,hi-(mid+1),by omega,mid+1,hi,some (.int (((lo:Int)+hi) / 2)),?_,rfl,rfl,by omega,hl,fun i p hp hi'=>?_,b2⟩
   ·have:((lo:Int)+hi) / 2+1=((mid+1:Nat):Int):=by omega
    rw[← this];rfl
   ·have:=F9 DN hp eP (by omega)
    omega
 ·have c':¬ (lo:Int)<hi:=fun z=>c (decide_eq_true z)
  have e:hi=lo:=by omega
  subst e
  exact⟨_,rfl,k hi ⟨hl,b1,b2⟩⟩
theorem Ga:aJ ["holes","address","hole"] ["holes","address"] (ay tS):=⟨rfl,rfl,rfl,by decide +kernel,rfl,by decide +kernel,by decide +kernel⟩
open Classical in
theorem ON{cH:Row}{x:Int}{n:Nat}(h:Fst cH x n)(DN:S9 cH):jm.Rz cH x=decide (∃ p,cH[n]?=some p∧p.1≤x):=by
 rw[Bool.eq_iff_iff,OG,decide_eq_true_iff]
 constructor
 ·rintro⟨p,hp,p1,p2⟩
  obtain⟨i,hi⟩:=List.getElem?_of_mem hp
  have ni:n≤i:=by
   rcases Nat.lt_or_ge i n with z|z
   ·have:=h.2.1 i p hi z
    omega
   ·exact z
  obtain⟨li,ei⟩:=List.getElem?_eq_some_iff.mp hi
  have en:cH[n]?=some cH[n]:=nU (by omega)
  refine⟨cH[n],en,?_⟩
  by_cases c:n=i
  ·subst c
   rw[ei]
   exact p1
  ·have q:=List.pairwise_iff_getElem.mp DN.1 n i (by omega) li (by omega)
   have:=DN.2 _ (uA en)
   rw[ei]at q
   omega
 ·rintro⟨p,hp,p1⟩
  exact⟨p,uA hp,p1,h.2.2 n p hp (gQ _)⟩
open Classical in
theorem KQ{f fF:Addr}{fd WL:FuncData}(F:iI K "within" "within" tS f fd)(T:n9 mg)(gJ:aA K mg "first_reaching" eK JS fF WL):aC P w K mg base bU 2 f fd LC AA:=by
 have za:aC P w K mg base bU 1 fF WL JS DJ:=wH gJ.F T
 refine F.ok Ga (fun vs H Q E h=>?_) (fun cdv A outer s H vs Q E hr h=>?_)
 ·obtain⟨r,cH,x,rfl,_⟩:=h
  rfl
 obtain⟨r,cH,x,rfl,R,DN,k⟩:=h
 refine⟨_,(ak (aO (i:=2) Ga.nd rfl (Or.inl rfl) (aN gJ za hr (aa (pv 0) (aa (pv 1) ah))))
   (ao (aT (rC (nV Ab (pv 2) (aR bP rfl T.iH mw (aa (pv 0) ah)) (bZ _)) (sN (nV lM (bG eF (bG bM (pv 0) (pv 2) (fun _ _=>rfl)) az (fun _ _=>rfl)) (pv 1) (bZ _))))))),?_⟩
 refine⟨_,rfl,_,rfl,r,cH,x,rfl,R,DN,fun n fn=>?_⟩
 rw[ON fn DN]at k
 obtain⟨as,h1,p1⟩:=id R
 have n1:=p1.len
 refine⟨_,rfl,_,rfl,r,_,rfl,.inl (bN.of h1),_,_,rfl,rfl,_,rfl,eG (fun c=>?_) (fun c=>?_)⟩
 ·have li:n<cH.length:=by
   have:=of_decide_eq_true c
   rw[cA,n1]at this
   omega
  have eP:cH[n]?=some cH[n]:=nU li
  have eA:as[n]?=some as[n]:=nU (by omega)
  obtain⟨pp,UQ,hpp⟩:=p1.get eA
  rw[eP]at UQ
  cases UQ
  refine⟨_,rfl,_,rfl,r,_,_,_,rfl,rfl,bN.of h1,eV (by rw[jV,eA];rfl),as[n],_,_,_,rfl,rfl,jW.of hpp,Ur,_,rfl,_,_,rfl,rfl,?_⟩
  rw[show decide (∃ p,cH[n]?=some p∧p.1≤x)=decide (cH[n].1≤x) from decide_eq_decide.mpr ⟨fun ⟨p,e,z⟩=>by rw[eP]at e;cases e;exact z,fun z=>⟨_,eP,z⟩⟩]at k
  exact k
 ·have ln:¬ n<cH.length:=fun z=>c (decide_eq_true (by rw[cA,n1];omega))
  rw[show decide (∃ p,cH[n]?=some p∧p.1≤x)=false from decide_eq_false fun ⟨p,e,_⟩=>by rw[zT (by omega)]at e;cases e]at k
  exact k
def Bl(CB:Addr)(H:Hp)(x d t:Addr):Prop:=H x=some (.ins CB d [("stains",.ref t)])
inductive DO(CB:Addr)(vs:List V)(H:Hp)(Q:VK)(E:XK):Prop
 | mk (x d:Addr) (_:vs=[.ref x]) (_:H x=some (.ins CB d [])) (_: ∀ (t:Addr) (H':Hp),Bl CB H' x d t→bQ H' t []→cO x H H'→H t=none→Q .jw H'):DO CB vs H Q E
inductive DP(CB:Addr)(vs:List V)(H:Hp)(Q:VK)(E:XK):Prop
 | mk (x d t:Addr) (row:Row) (a:Int) (_:vs=[.ref x,.int a]) (_:Bl CB H x d t) (_:bQ H t row) (_:S9 row) (_:Q (.bl (Rz row a)) H):DP CB vs H Q E
theorem xX:aJ ["self"] ["self"] (ay jf):=⟨rfl,rfl,rfl,by decide +kernel,rfl,by decide +kernel,by decide +kernel⟩
theorem BS:aJ ["self","address"] ["self","address"] (ay lP):=⟨rfl,rfl,rfl,by decide +kernel,rfl,by decide +kernel,by decide +kernel⟩
theorem wI{f C:Addr}{fd:FuncData}(F:iI K "__init__" "Blots.__init__" jf f fd)(cl:BK K C)(ns:aZ K C "stains"):aC P w K mg base bU 1 f fd jk (DO C):=by
 refine F.ok xX (fun vs H Q E h=>?_) (fun cdv A outer s H vs Q E hr h=>?_)
 ·obtain⟨x,d,rfl,_⟩:=h
  rfl
 obtain⟨x,d,rfl,hx,k⟩:=h
 refine⟨_,(ao (kU (pv 0) (bH ah) rfl)),?_⟩
 refine⟨(by show 0≤sizeLine;decide),fun t ht=>?_⟩
 have nt:t≠x:=(au hx ht).symm
 refine⟨_,rfl,x,C,d,_,rfl,aj ht _ _ _ hx,cl,ns,by decide,?_⟩
 exact k t _ af ⟨[],by rw[aF nt,af];rfl,.nil⟩ (fun a o e n=>by rw[aF n];exact aj ht _ a o e) ht
theorem AJ{f C fF fW:Addr}{fd WL G1:FuncData}(F:iI K "hides" "Blots.hides" lP f fd)(T:n9 mg)(cl:BK K C)(ns:aZ K C "stains")(gJ:aA K mg "first_reaching" eK JS fF WL)(zH:aA K mg "within" tS LC fW G1):aC P w K mg base bU 3 f fd JQ (DP C):=by
 have OO:aC P w K mg base bU 2 _ _ LC AA:=KQ zH.F T gJ
 refine F.ok BS (fun vs H Q E h=>?_) (fun cdv A outer s H vs Q E hr h=>?_)
 ·obtain⟨x,d,t,row,a,rfl,_⟩:=h
  rfl
 obtain⟨x,d,t,row,a,rfl,hx,R,DN,k⟩:=h
 refine⟨_,(ao (aT (aN zH OO hr (aa (dM (pv 0) rfl) (aa (pv 1) ah))))),?_⟩
 exact⟨_,rfl,x,C,d,_,.ref t,rfl,hx,cl,ns,rfl,_,rfl,t,row,a,rfl,R,DN,k⟩
theorem KR(its:List Item):(eX its).length≤its.length:=List.length_filterMap_le _ its
inductive DQ(vs:List V)(H:Hp)(Q:VK)(E:XK):Prop
 | mk (r:Addr) (its:List Item) (_:vs=[.ref r]) (_:bx H (.ref r) its) (_:its.length≤100000) (_ :
 ∀ (o:Addr) (H':Hp),H' o=some (.lst ((eX its).map V.int))→aH H H'→H o=none→Q (.ref o) H'):DQ vs H Q E
theorem KS:aJ ["items"] ["items"] (ay eL):=⟨rfl,rfl,rfl,by decide +kernel,rfl,by decide +kernel,by decide +kernel⟩
theorem AK{f:Addr}{fd:FuncData}(F:iI K "windows" "windows" eL f fd)(T:n9 mg):aC P w K mg base bU 1 f fd nF DQ:=by
 refine F.ok KS (fun vs H Q E h=>?_) (fun cdv A outer s H vs Q E hr h=>?_)
 ·obtain⟨n,ns,rfl,_⟩:=h
  rfl
 obtain⟨r,its,rfl,⟨a,vs,e,hr1,hp⟩,hlen,k⟩:=h
 cases e
 refine⟨_,(ao (aT (Dv (N:=["item"]) ⟨rfl,by decide +kernel,by decide +kernel,by decide +kernel⟩ rfl (cM (pv 0)) (fun _ _ _ _ _=>(aW (i:=0) (show List.Nodup (["item"]:List Str) by decide +kernel) rfl (Or.inl rfl))) (fun _ _ _ _ _=>Je (cj mY (bG Jj (pv 0) az (fun _ _=>rfl)) bS (bZ _))) (fun _ _ _ _ _=>(bG Jj (pv 0) az (fun _ _=>rfl)))))),?_⟩
 refine⟨_,rfl,r,rfl,⟨_,bN.of hr1⟩,fun acc hacc=>xK (K:=K) (a:=r) (xs:=vs) (fun i σ H2=>∃ u:Option V,σ=[u]∧H2 acc=some (.lst ((eX (its.take i)).map V.int))∧aH H H2)
  ⟨none,rfl,af,aj hacc _⟩ (fun i σ H2 _ ⟨_,_,_,s⟩=>bN.of (s _ _ hr1)) ?_ ?_⟩
 ·rintro i x σ H2 hi ⟨u,rfl,ha,s⟩
  obtain⟨it,ei,b,rfl,hb⟩:=hp.get hi
  have step:eX (its.take (i+1))=eX (its.take i)++eX [it]:=by rw[take_snoc ei,iB]
  have bl:(eX (its.take i)).length≤100000:=by
   have z:=KR (its.take i)
   rw[rj]at z
   omega
  cases it with
  | win n =>
   refine⟨_,rfl,b,_,_,_,rfl,rfl,jW.of (s _ _ hb),rfl,rfl,_,rfl,eG (fun _=>?_) (fun z=>absurd (by decide) z)⟩
   refine⟨_,rfl,b,_,_,_,rfl,rfl,jW.of (s _ _ hb),rfl,_,ha,(by rw[cA];exact aL (by omega)),_,rfl,?_,cD hacc s (aK acc _ _)⟩
   rw[af,step,lH]
   rfl
  | aB p q =>
   refine⟨_,rfl,b,_,_,_,rfl,rfl,jW.of (s _ _ hb),rfl,rfl,_,rfl,eG (fun z=>absurd z (by decide)) (fun _=>?_)⟩
   refine⟨_,rfl,?_,s⟩
   rw[ha,step]
   show _=some (HO.lst ((eX (its.take i)++[]).map V.int))
   rw[kj]
 ·rintro σ H2 ⟨u,rfl,ha,s⟩
  rw[hp.len,kQ]at ha
  exact k acc H2 ha s hacc
structure KU(rows:gB)(ks:List Int):Prop where
 EO:∀ x∈ks,0≤x∧x<rows.length
 dn:∀ (i:Nat) (x:Int),ks[i]?=some x→∀ y,BP rows x y→y∈ks.take i
inductive zI(vs:List V)(H:Hp)(Q:VK)(E:XK):Prop
 | mk (r L:Addr) (rows:gB) (ss:List Int) (_:vs=[.ref r,.ref L]) (_:iM H r (rows.map itemsOf)) (_:H L=some (.lst (ss.map V.int))) (_:ss.length≤1000) (_:rows.length≤1000) (_:(∀ es∈rows,es.length≤1000)) (_:Sound rows) (_:HQ rows) (_:(∀ s∈ss,0≤s∧s<rows.length)) (_ :
 ∀ (ks:List Int) (o:Addr) (H':Hp),H' o=some (.lst (ks.map V.int))→aH H H'→KU rows ks→(∀ s∈ss,s∈ks)→ks.length≤1000→H o=none→Q (.ref o) H'):zI vs H Q E
theorem KU.snoc{rows:gB}{ks:List Int}{x:Int}(h:KU rows ks)(h0:0≤x)(h1:x<rows.length)(hx:∀ y,BP rows x y→y∈ks):KU rows (ks++[x]):=by
 refine⟨fun y hy=>?_,fun i y hi z hz=>?_⟩
 ·rcases List.mem_append.mp hy with q|q
  ·exact h.EO y q
  ·have:y=x:=by simpa using q
   omega
 ·by_cases c:i<ks.length
  ·rw[BH c]at hi
   rw[List.take_append_of_le_length (by omega)]
   exact h.dn i y hi z hz
  ·have c2:i=ks.length:=by
    rcases Nat.lt_or_ge i (ks++[x]).length with q|q
    ·rw[dU,lK]at q;omega
    ·rw[zT q]at hi;cases hi
   subst c2
   rw[List.getElem?_append_right (gQ _),Nat.sub_self]at hi
   cases hi
   rw[List.take_append_of_le_length (gQ _),kQ]
   exact hx z hz
theorem CZ{kvs:List (Key × V)}{ks:List Int}(h:kvs.map (·.1)=ks.map Sum.inl)(x:Int):seen kvs x↔x∈ks:=by
 unfold seen
 rw[← pA,List.any_eq_true]
 constructor
 ·rintro⟨p,hp,e⟩
  have e':p.1=Sum.inl x:=of_decide_eq_true e
  have:p.1∈ks.map (Sum.inl:Int→Key):=by rw[← h];exact List.mem_map_of_mem hp
  rw[e',List.mem_map]at this
  obtain⟨y,hy,ey⟩:=this
  rw[Sum.inl.inj ey]at hy
  exact hy
 ·intro hx
  have:(Sum.inl x:Key)∈kvs.map (·.1):=by rw[h];exact List.mem_map_of_mem hx
  obtain⟨p,hp,e⟩:=List.mem_map.mp this
  exact⟨p,hp,decide_eq_true e⟩
structure Bel(rows:gB)(rk:Int→Nat)(H:Hp)(W S:Addr)(ss:List Int)(H2:Hp)(bs ps ks:List Int)(kvs:List (Key × V)):Prop where
 hW:H2 W=some (.lst ((bs++ps).map V.int))
 hS:H2 S=some (.dK kvs)
 sm:aH H H2
 ky:kvs.map (·.1)=ks.map Sum.inl
 tp:KU rows ks
 rg:∀ x∈bs++ps,0≤x∧x<rows.length
 ns:∀ x∈ps,¬ seen kvs x
 pw:ps.Pairwise fun a b=>rk b<rk a
 rb:∀ (i:Nat) (x:Int),ps[i]?=some x→rk x+i≤40
 st:∀ s∈ss,s∈bs∨s∈ks
 kl:kvs.length+miss rows.length kvs≤rows.length
 bl:bs.length≤1000
theorem C1{kvs:List (Key × V)}{k:Key}(v:V)(h:(cC kvs k).isSome=true):(putK kvs k v).map (·.1)=kvs.map (·.1):=by
 unfold putK
 rw[if_pos (by rw[pA];exact h),List.map_map]
 refine List.map_congr_left fun p _=>?_
 show (if p.1=k then (p.1,v) else p).1=p.1
 split <;> rfl
theorem HZ{rk:Int→Nat}{ps:List Int}(rb:∀ (i:Nat) (x:Int),ps[i]?=some x→rk x+i≤40):ps.length≤41:=by
 rcases vn ps with rfl|⟨p',n,rfl⟩
 ·simp
 ·rw[sC]at rb ⊢
  have:=rb p'.length n (by rw[List.getElem?_append_right (gQ _),Nat.sub_self];rfl)
  rw[dU,lK]
  omega
structure Top(rk:Int→Nat)(ss bs ps ks:List Int)(kvs:List (Key × V))(bs' ps':List Int)(n:Int):Prop where
 eq:bs++ps=bs'++ps'++[n]
 ns:∀ x∈ps',¬ seen kvs x∧x≠n
 pw:ps'.Pairwise fun a b=>rk b<rk a
 rb:∀ (i:Nat) (x:Int),ps'[i]?=some x→rk x+i≤40
 st:∀ s∈ss,s∈bs'∨s=n∨s∈ks
 old:seen kvs n→bs'.length+50-ps'.length<bs.length+50-ps.length
 le:bs'.length+50-ps'.length≤bs.length+51-ps.length
 bl:bs'.length≤bs.length
 up:∀ y:Int,rk y≤40→rk y<rk n→(ps++[y]).Pairwise (fun a b=>rk b<rk a)∧∀ (i:Nat) (x:Int),(ps++[y])[i]?=some x→rk x+i≤40
theorem Bel.top{rows:gB}{rk:Int→Nat}{H:Hp}{W S:Addr}{ss:List Int}{H2:Hp}{bs ps ks:List Int}{kvs:List (Key × V)}(B:Bel rows rk H W S ss H2 bs ps ks kvs):bs++ps=[]∨∃ bs' ps' n,Top rk ss bs ps ks kvs bs' ps' n:=by
 have MQ:∀ (qs:List Int) (y:Int),(∀ (i:Nat) (x:Int),qs[i]?=some x→rk x+i≤40)→rk y+qs.length≤40→∀ (i:Nat) (x:Int),(qs++[y])[i]?=some x→rk x+i≤40:=by
  intro qs y h1 h2 i x hx
  rcases Nat.lt_or_ge i qs.length with q|q
  ·rw[BH q]at hx
   exact h1 i x hx
  ·have qi:i=qs.length:=by
    rcases Nat.lt_or_ge i (qs++[y]).length with w|w
    ·rw[dU,lK]at w;omega
    ·rw[zT w]at hx;cases hx
   subst qi
   rw[List.getElem?_append_right (gQ _),Nat.sub_self]at hx
   cases hx
   exact h2
 rcases vn ps with rfl|⟨ps',n,rfl⟩
 ·rcases vn bs with rfl|⟨bs',n,rfl⟩
  ·exact .inl rfl
  ·rw[sC]at B ⊢
   refine .inr ⟨bs',[],n,by simp,by simp,by simp,by simp,fun s hs=>?_,fun _=>?_,?_,?_,fun y h1 h2=>⟨by simp,MQ [] y (by simp) (by simpa using h1)⟩⟩
   ·rcases B.st s hs with z|z
    ·rcases List.mem_append.mp z with z|z
     ·exact .inl z
     ·exact .inr (.inl (by simpa using z))
    ·exact .inr (.inr z)
   ·rw[dU,lK];simp only[qu];omega
   ·rw[dU,lK];simp only[qu];omega
   ·rw[dU,lK];omega
 ·rw[sC]at B ⊢
  have pwd:=List.pairwise_append.mp B.pw
  have rbn:=B.rb ps'.length n (by rw[List.getElem?_append_right (gQ _),Nat.sub_self];rfl)
  refine .inr ⟨bs,ps',n,by rw[qD],fun x hx=>⟨B.ns x (List.mem_append_left _ hx),fun e=>?_⟩,pwd.1,fun i x hx=>?_,fun s hs=>(B.st s hs).elim .inl fun z=>.inr (.inr z),fun z=>absurd z (B.ns n (by simp)),?_,gQ _,fun y h1 h2=>⟨?_,MQ _ y B.rb ?_⟩⟩
  ·subst e
   exact Nat.lt_irrefl _ (pwd.2.2 x hx x (by simp))
  ·refine B.rb i x ?_
   rw[BH]
   ·exact hx
   ·rcases Nat.lt_or_ge i ps'.length with q|q
    ·exact q
    ·rw[zT q]at hx;cases hx
  ·rw[dU,lK];omega
  ·rw[List.pairwise_append]
   refine⟨B.pw,by simp,fun a ha c hc=>?_⟩
   have:c=y:=by simpa using hc
   subst this
   rcases List.mem_append.mp ha with q|q
   ·have:=pwd.2.2 a q n (by simp)
    omega
   ·have:a=n:=by simpa using q
    subst this
    exact h2
  ·rw[dU,lK];omega
def P6(rows:gB)(rk:Int→Nat)(H:Hp)(r L W S:Addr)(ss:List Int)(m:Nat)(σ:L2.St)(H2:Hp):Prop:=∃ (bs ps ks:List Int) (kvs:List (Key × V)) (u v:Option V),σ=[some (.ref r),some (.ref L),some (.ref S),some (.ref W),u,v]∧Bel rows rk H W S ss H2 bs ps ks kvs∧m=100*miss rows.length kvs+(bs.length+50-ps.length)
theorem wJ:aJ ["rows","sheets","told","waiting","number","missing"] ["rows","sheets"] (ay lQ):=⟨rfl,rfl,rfl,by decide +kernel,rfl,by decide +kernel,by decide +kernel⟩
theorem Gd{f fI:Addr}{fd BG:FuncData}(F:iI K "below" "below" lQ f fd)(T:n9 mg)(cy:aA K mg "windows" eL nF fI BG):aC P w K mg base bU 2 f fd mj zI:=by
 have AL:aC P w K mg base bU 1 fI BG nF DQ:=AK cy.F T
 refine F.ok wJ (fun vs H Q E h=>?_) (fun cdv A outer s0 H vs Q E hr h=>?_)
 ·obtain⟨r,L,rows,ss,rfl,_⟩:=h
  rfl
 obtain⟨r,L,rows,ss,rfl,hR,hL,hsl,hlen,hes,MR,⟨rk,hrb,hrk⟩,hin,k⟩:=h
 have hu:=m5 hr
 refine⟨_,(ak (aO (i:=2) wJ.nd rfl (Or.inr rfl) pC)
   (ak (aO (i:=3) wJ.nd rfl (Or.inl rfl) (jl nY rfl T.pG zS (aa (pv 1) ah)))
   (ak (zY PassesOwn.never (oQ (pv 3) (fun _=>rfl)) (ak (aO (i:=4) wJ.nd rfl (Or.inl rfl) (bG bM (pv 3) (uI qw az) (fun _ _=>rfl)))
   (ak (OB (N:=["other","told"]) (i:=5) (r9 (sc:=ay lQ) (NX:=["rows","sheets","told","waiting","number","missing"]) (jx:=[none,some 2]) rfl rfl rfl (by decide +kernel) (by decide +kernel) rfl (by decide +kernel) rfl (by decide +kernel)) rfl wJ.nd rfl rfl (cM (aN cy AL hr (aa (bG bM (pv 0) (pv 4) (fun _ _=>rfl)) ah))) (fun _ _ _ _ _ _=>(aW (i:=0) (show List.Nodup (["other","told"]:List Str) by decide +kernel) rfl (Or.inl rfl))) (fun _ _ _ _ _ _=>Je (zW (CL hu (pv 0) (pv 1)))) (fun _ _ _ _ _ _=>(pv 0)))
   (ao (cG (oQ (pv 5) (fun _=>rfl))
   (ao (bq (je rA vg vh cP (pv 3) (aa (bG bM (pv 5) az (fun _ _=>rfl)) ah))))
   (ak (wC hu (pv 2) (pv 4) rX rfl)
   (ao (bq (Q3 rA PySem.F.slot_list_pop PySem.F.type_list_pop Q4 (pv 3))))))))))
   (ao (aT (jl (HN rfl) rfl T.pG zS (aa (pv 2) ah))))))),?_⟩
 intro S hS
 have s1:aH H (upd H S (.dK [])):=aj hS _
 refine⟨_,rfl,L,_,rfl,.inl (bN.of (s1 _ _ hL)),fun W hW=>?_⟩
 have s2:=s1.trans (aj hW (.lst (ss.map V.int)))
 have Te:H W=none:=by
  cases e:H W with
  | none=>rfl
  | some o=>exact absurd ((s1 _ _ e).symm.trans hW) (by simp)
 have P7:W≠S:=(au af hW).symm
 refine⟨P6 rows rk H r L W S ss,⟨_,ss,[],[],[],none,none,rfl,⟨(by rw[af,kj]),aj hW _ _ _ af,s2,rfl,⟨(fun x hx=>by cases hx),fun i x hi=>by simp at hi⟩,(fun x hx=>hin x (by simpa using hx)),by simp,by simp,by simp,(fun s hs=>.inl hs),?_,hsl⟩,rfl⟩,?_⟩
 ·have:=MH rows.length (fun i=>(cC ([]:List (Key × V)) (Sum.inl (i:Int))).isNone)
  show 0+cnt rows.length _≤_
  omega
 rintro m σ H2 ⟨bs,ps,ks,kvs,u,v,rfl,B,rfl⟩
 refine⟨_,rfl,!((bs++ps).map V.int).isEmpty,.inl ⟨_,bN.of B.hW,rfl⟩,?_⟩
 rcases B.top with en|⟨bs',ps',n,t⟩
 ·have e2:(!((bs++ps).map V.int).isEmpty)=false:=by rw[en];rfl
  rw[e2]
  refine jY ?_
  have ek:kvs.map (fun p=>kV p.1)=ks.map V.int:=by
   have z:kvs.map (fun p=>kV p.1)=(kvs.map (·.1)).map kV:=by rw[List.map_map];rfl
   rw[z,B.ky,List.map_map]
   rfl
  have kl:ks.length=kvs.length:=by
   have z:=congrArg List.length B.ky
   rw[cA,cA]at z
   exact z.symm
  have WM:=B.kl
  refine⟨_,rfl,S,kvs,rfl,B.hS,fun l hl=>?_⟩
  refine k ks l _ (by rw[af,ek]) (B.sm.trans (aj hl _)) B.tp (fun s hs=>(B.st s hs).elim (fun z=>?_) id) (by omega) ?_
  ·rw[(List.append_eq_nil_iff.mp en).1]at z
   cases z
  cases e:H l with
  | none=>rfl
  | some o=>exact absurd ((B.sm _ _ e).symm.trans hl) (by simp)
 have eW:=B.hW
 rw[t.eq]at eW
 rw[t.eq]
 refine eG (fun _=>?_) (fun z=>absurd (by simp) z)
 refine⟨fun σ' H'=>∃ m',m'<100*miss rows.length kvs+(bs.length+50-ps.length)∧P6 rows rk H r L W S ss m' σ' H',fun σ' H' z=>z,?_⟩
 have an:xF ((bs'++ps'++[n]).map V.int) (-1)=some (.int n):=by rw[lH];exact m9 _ _
 obtain⟨n0,n1⟩:=B.rg n (by rw[t.eq];simp)
 have tl:=t.le
 have NR:=t.bl
 have pl:=HZ B.rb
 have pl':=HZ t.rb
 have bbl:=B.bl
 obtain⟨es,oj⟩:∃ es,rows[n.toNat]?=some es:=⟨_,nU (by omega)⟩
 have UR:=hes es (uA oj)
 obtain⟨Ia,hr2,wK⟩:=hR.same B.sm
 obtain⟨vi,OP,hI⟩:=wK.get' (i:=n.toNat) (b:=itemsOf es) (by rw[jV,oj];rfl)
 obtain⟨b,NG,rfl,hb,hit⟩:=id hI
 have hil:=tZ es []
 have MS:xF Ia n=some (.ref b):=by
  have z:=eV OP
  rw[show ((n.toNat:Nat):Int)=n by omega]at z
  exact z
 refine⟨_,rfl,_,rfl,W,_,_,_,rfl,rfl,bN.of eW,an,?_⟩
 refine⟨_,rfl,_,rfl,r,_,_,_,rfl,rfl,bN.of hr2,MS,b,itemsOf es,rfl,hI,?_,fun z H4 hz s4 nz=>?_⟩
 ·show (es.foldl aY []).length≤_
  simp only[qu]at hil
  omega
 rw[j5]at hz
 have aen:(iN es).length≤es.length:=List.length_filterMap_le _ es
 have US:=s4 _ _ B.hS
 have hW4:=s4 _ _ eW
 refine⟨z,rfl,⟨_,bN.of hz⟩,fun acc hacc=>jL (K:=K) (a:=z) (xs:=(iN es).map V.int) (fun i σ H5=>∃ u:Option V,σ=[u,some (.ref S)]∧H5 acc=some (.lst ((((iN es).take i).filter (fun y=>(cC kvs (Sum.inl y)).isNone)).map V.int))∧aH H4 H5) ⟨none,rfl,af,aj hacc _⟩ (fun i σ H5 _ ⟨_,_,_,s5⟩=>bN.of (s5 _ _ hz)) ?_ ?_⟩
 ·rintro i x σ H5 hi ⟨u,rfl,h5,s5⟩
  rw[jV]at hi
  obtain⟨y,ey,rfl⟩:=Option.map_eq_some_iff.mp hi
  have st:=take_snoc ey
  have bl:(((iN es).take i).filter (fun y=>(cC kvs (Sum.inl y)).isNone)).length≤1000:=by
   have z:=List.length_filter_le (fun y=>(cC kvs (Sum.inl y)).isNone) ((iN es).take i)
   rw[rj]at z
   omega
  refine⟨_,rfl,_,rfl,S,_,rfl,pB.k (k:=Sum.inl y) (s5 _ _ US),_,rfl,?_⟩
  cases ev:cC kvs (Sum.inl y) with
  | none =>
   refine jZ ⟨_,rfl,_,h5,(by rw[cA];exact aL (by omega)),_,rfl,?_,cD hacc s5 (aK acc _ _)⟩
   rw[af,st,List.filter_append,List.filter_cons_of_pos (p:=fun y=>(cC kvs (Sum.inl y)).isNone) (by rw[ev];rfl),lH]
   rfl
  | some o =>
   refine jY ⟨_,rfl,?_,s5⟩
   rw[st,List.filter_append,List.filter_cons_of_neg (p:=fun y=>(cC kvs (Sum.inl y)).isNone) (by rw[ev];exact tP),List.filter_nil,kj]
   exact h5
 rintro σ H5 ⟨u,rfl,h5,s5⟩
 rw[cA,kQ]at h5
 have WN:=s5 _ _ US
 have hW5:=s5 _ _ hW4
 have sm5:=B.sm.trans (s4.trans s5)
 have WM:=B.kl
 refine⟨_,rfl,_,.inl ⟨_,bN.of h5,rfl⟩,?_⟩
 cases em:(iN es).filter (fun y=>(cC kvs (Sum.inl y)).isNone) with
 | nil =>
  refine jY ?_
  have aeq:∀ y,BP rows n y→y∈ks:=by
   rintro y ⟨_,es',he',hy⟩
   rw[oj]at he'
   cases he'
   rw[← CZ B.ky]
   have z:=List.filter_eq_nil_iff.mp em y hy
   unfold seen
   cases q:cC kvs (Sum.inl y) with
   | none=>rw[q]at z;exact absurd rfl z
   | some o=>rfl
  refine⟨_,rfl,_,rfl,S,_,rfl,DE.k (k:=Sum.inl n) WN (aL (by omega)),?_⟩
  have RE:(upd H5 S (.dK (putK kvs (Sum.inl n) (.bl true)))) W=some (.lst ((bs'++ps'++[n]).map V.int)):=by rw[aF P7];exact hW5
  refine⟨_,rfl,.inl ⟨rfl,_,bN.of RE⟩,W,_,.int n,rfl,rfl,RE,(by simp),?_⟩
  have ee:((bs'++ps'++[n]).map V.int).dropLast=(bs'++ps').map V.int:=by rw[lH (l₁:=bs'++ps'),List.map_singleton,List.dropLast_concat]
  rw[ee]
  have rg':∀ x∈bs'++ps',0≤x∧x<rows.length:=fun x hx=>B.rg x (by rw[t.eq];exact List.mem_append_left _ hx)
  cases en:cC kvs (Sum.inl n) with
  | none =>
   have mp:=F1 (n:=rows.length) (.bl true) n0 n1 en
   refine⟨100*miss rows.length (putK kvs (Sum.inl n) (.bl true))+(bs'.length+50-ps'.length),by omega,bs',ps',ks++[n],putK kvs (Sum.inl n) (.bl true),_,_,rfl,⟨af,(by rw[aF P7.symm,af]),cD Te (cD hS sm5 (aK S _ _)) (aK W _ _),?_,B.tp.snoc n0 n1 aeq,rg',fun x hx=>?_,t.pw,t.rb,fun s hs=>?_,?_,by omega⟩,rfl⟩
   ·rw[Av _ en,lH,B.ky,lH]
    rfl
   ·intro q
    rcases (sX _).mp q with e|e
    ·exact (t.ns x hx).2 e
    ·exact (t.ns x hx).1 e
   ·rcases t.st s hs with q|q|q
    ·exact .inl q
    ·exact .inr (by rw[q];simp)
    ·exact .inr (List.mem_append_left _ q)
   ·rw[Av _ en,dU,lK]at *
    omega
  | some o =>
   have sn:seen kvs n:=by unfold seen;rw[en];rfl
   have so:=t.old sn
   have sp:∀ x,seen (putK kvs (Sum.inl n) (.bl true)) x↔seen kvs x:=fun x=>by
    rw[sX]
    exact⟨fun z=>z.elim (fun e=>by rw[e];exact sn) id,.inr⟩
   have ms:miss rows.length (putK kvs (Sum.inl n) (.bl true))=miss rows.length kvs:=by
    refine MG _ fun i _=>?_
    have z:=sp (i:Int)
    unfold seen at z
    cases q1:cC (putK kvs (Sum.inl n) (.bl true)) (Sum.inl (i:Int)) with
    | none =>
     cases q2:cC kvs (Sum.inl (i:Int)) with
     | none=>rfl
     | some o2=>rw[q1,q2]at z;exact absurd (z.mpr rfl) tP
    | some o1 =>
     cases q2:cC kvs (Sum.inl (i:Int)) with
     | none=>rw[q1,q2]at z;exact absurd (z.mp rfl) tP
     | some o2=>rfl
   have kn:n∈ks:=(CZ B.ky n).mp sn
   refine⟨100*miss rows.length (putK kvs (Sum.inl n) (.bl true))+(bs'.length+50-ps'.length),by rw[ms];omega,bs',ps',ks,putK kvs (Sum.inl n) (.bl true),_,_,rfl,⟨af,(by rw[aF P7.symm,af]),cD Te (cD hS sm5 (aK S _ _)) (aK W _ _),?_,B.tp,rg',fun x hx q=>(t.ns x hx).1 ((sp x).mp q),t.pw,t.rb,fun s hs=>?_,?_,by omega⟩,rfl⟩
   ·rw[C1 _ (by rw[en];rfl),B.ky]
   ·rcases t.st s hs with q|q|q
    ·exact .inl q
    ·exact .inr (by rw[q];exact kn)
    ·exact .inr q
   ·have z:=congrArg List.length (C1 (kvs:=kvs) (k:=Sum.inl n) (.bl true) (by rw[en];rfl))
    rw[cA,cA]at z
    rw[z,ms]
    exact WM
 | cons y ts =>
  refine jZ ?_
  rw[em]at h5
  have ym:y∈(iN es).filter (fun y=>(cC kvs (Sum.inl y)).isNone):=by rw[em];simp
  obtain⟨yw,yn⟩:=List.mem_filter.mp ym
  have Tf:BP rows n y:=⟨n0,es,oj,yw⟩
  obtain⟨y0,y1⟩:=MR.OC Tf
  obtain⟨up1,up2⟩:=t.up y (hrb y) (hrk n y Tf)
  have wl:=congrArg List.length t.eq
  rw[dU]at wl
  refine⟨_,rfl,.inl ⟨rfl,_,bN.of hW5⟩,_,rfl,acc,_,_,_,rfl,rfl,bN.of h5,eV (xs:=V.int y::ts.map V.int) (j:=0) rfl,W,_,_,rfl,rfl,hW5,(by rw[cA,← wl];exact aL (by omega)),?_⟩
  have pl2:=HZ up2
  rw[dU,lK]at pl2
  refine⟨100*miss rows.length kvs+(bs.length+50-(ps++[y]).length),?_,bs,ps++[y],ks,kvs,_,_,rfl,⟨(by rw[af,← qD,t.eq,lH (l₁:=bs'++ps'++[n])];rfl),(by rw[aF P7.symm];exact WN),cD Te sm5 (aK W _ _),B.ky,B.tp,fun x hx=>?_,fun x hx=>?_,up1,up2,B.st,WM,bbl⟩,rfl⟩
  ·rw[dU,lK];omega
  ·rw[← qD]at hx
   rcases List.mem_append.mp hx with q|q
   ·exact B.rg x q
   ·have:x=y:=by simpa using q
    subst this
    exact⟨y0,y1⟩
  ·rcases List.mem_append.mp hx with q|q
   ·exact B.ns x q
   ·have:x=y:=by simpa using q
    subst this
    intro q
    unfold seen at q
    cases w:cC kvs (Sum.inl x) with
    | none=>rw[w]at q;cases q
    | some o=>rw[w]at yn;cases yn
structure Bfs(rows:gB)(H:Hp)(W S:Addr)(s g:Int)(extra:Int→Prop)(H2:Hp)(vs:List V)(wl:gB)(kvs:List (Key × V)):Prop where
 hW:H2 W=some (.lst vs)
 hl:b8 (iO (fun a=>a=W∨a=S) H2) vs wl
 hS:H2 S=some (.dK kvs)
 sm:aH H H2
 wk:∀ w∈wl,Walk (BP rows) s w∧w.length≤kvs.length+1∧∃ e,w.getLast?=some e∧0≤e∧e<rows.length
 kl:kvs.length+miss rows.length kvs≤rows.length
 cl:∀ x,(x=s∨seen kvs x)→(∃ w∈wl,w.getLast?=some x)∨extra x∨∀ y,BP rows x y→y≠g∧seen kvs y
inductive Jw(vs:List V)(H:Hp)(Q:VK)(E:XK):Prop
 | mk (r:Addr) (rows:gB) (s g:Int) (_:vs=[.ref r,.int s,.int g]) (_:iM H r (rows.map itemsOf)) (_:rows.length≤1000) (_:(∀ es∈rows,es.length≤1000)) (_:Sound rows) (_:0≤s) (_:s<rows.length) (_:(∀ (way:List Int) (o:Addr) (H':Hp),H' o=some (.lst (way.map V.int))→aH H H'→Walk (BP rows) s way→2≤way.length→way.length≤2000→way.getLast?=some g→Q (.ref o) H')) (_:(¬ Reach (BP rows) s g→∀ H',aH H H'→Q .jw H')):Jw vs H Q E
theorem kB:aJ ["rows","start","goal","ways","seen","way","number"] ["rows","start","goal"] (ay iX):=⟨rfl,rfl,rfl,by decide +kernel,rfl,by decide +kernel,by decide +kernel⟩
def WO(n:Nat)(W S:Addr):L2.St→Hp→Nat:=fun _ H=>match H W,H S with
 | some (.lst vs),some (.dK kvs)=>2*miss n kvs+vs.length
 | _,_=>0
theorem MT{n:Nat}{W S:Addr}{σ:L2.St}{H:Hp}{vs:List V}{kvs:List (Key × V)}(h1:H W=some (.lst vs))(h2:H S=some (.dK kvs)):WO n W S σ H=2*miss n kvs+vs.length:=by
 unfold WO
 rw[h1,h2]
def P8(rows:gB)(H:Hp)(r W S:Addr)(s g:Int)(σ:L2.St)(H2:Hp):Prop:=∃ (vs:List V) (wl:gB) (kvs:List (Key × V)) (u v:Option V),σ=[some (.ref r),some (.int s),some (.int g),some (.ref W),some (.ref S),u,v]∧Bfs rows H W S s g (fun _=>False) H2 vs wl kvs∧vs.length+2*miss rows.length kvs≤2*rows.length+1
theorem AM{f fI:Addr}{fd BG:FuncData}(F:iI K "way_between" "way_between" iX f fd)(T:n9 mg)(cy:aA K mg "windows" eL nF fI BG):aC P w K mg base bU 2 f fd JT Jw:=by
 have AL:aC P w K mg base bU 1 fI BG nF DQ:=AK cy.F T
 refine F.ok kB (fun vs H Q E h=>?_) (fun cdv A outer s0 H vs Q E hr h=>?_)
 ·obtain⟨r,rows,s,g,rfl,_⟩:=h
  rfl
 obtain⟨r,rows,s,g,rfl,hR,hlen,hes,MR,h0,h1,kY,kN⟩:=h
 have hu:=m5 hr
 refine⟨_,(ak (aO (i:=3) kB.nd rfl (Or.inl rfl) (bH (aa (bH (aa (pv 1) ah)) ah)))
   (ak (aO (i:=4) kB.nd rfl (Or.inl rfl) pC)
   (ak (zY PassesOwn.never (oQ (pv 3) (fun _=>rfl)) (ak (aO (i:=5) kB.nd rfl (Or.inl rfl) (je rA PySem.F.slot_list_pop PySem.F.type_list_pop L7 (pv 3) (aa az ah)))
   (ao (jr PassesOwn.never rfl (cM (aN cy AL hr (aa (bG bM (pv 0) (bG bM (pv 5) (uI qw az) (fun _ _=>rfl)) (fun _ _=>rfl)) ah))) (aW (i:=6) kB.nd rfl (Or.inl rfl))
   (ak (cG (cj mY (pv 6) (pv 2) (bZ _))
   (ao (aT (bw oR (pv 5) (bH (aa (pv 2) ah)))))
   bK)
   (ao (cG (zW (CL hu (pv 6) (pv 4)))
   (ak (wC hu (pv 4) (pv 6) rX rfl)
   (ao (bq (je rA vg vh cP (pv 3) (aa (bw oR (pv 5) (bH (aa (pv 6) ah))) ah)))))
   bK)))))))
   (ao (aT QH))))),?_⟩
 refine⟨_,rfl,(by show 1≤sizeLine;decide),fun a0 ha0=>⟨(by show 1≤sizeLine;decide),fun W hW=>?_⟩⟩
 intro S hS
 have s1:aH H (upd H a0 (.lst [.int s])):=aj ha0 _
 have s2:=s1.trans (aj hW (.lst [.ref a0]))
 have s3:=s2.trans (aj hS (.dK []))
 have Te:H W=none:=by
  cases e:H W with
  | none=>rfl
  | some o=>exact absurd ((s1 _ _ e).symm.trans hW) (by simp)
 have H0S:H S=none:=by
  cases e:H S with
  | none=>rfl
  | some o=>exact absurd ((s2 _ _ e).symm.trans hS) (by simp)
 have P7:W≠S:=au af hS
 have n0W:a0≠W:=au af hW
 have n0S:a0≠S:=au (aj hW _ _ _ af) hS
 refine⟨fun m σ H2=>m=WO rows.length W S σ H2∧P8 rows H r W S s g σ H2,⟨_,rfl,?_⟩,?_⟩
 ·have cl:=MH rows.length (fun i=>(cC ([]:List (Key × V)) (Sum.inl (i:Int))).isNone)
  refine⟨[.ref a0],[[s]],[],none,none,rfl,⟨aj hS _ _ _ af,.cons ⟨a0,rfl,(fun z=>z.elim n0W n0S),aj hS _ _ _ (aj hW _ _ _ af)⟩ .nil,af,s3,?_,?_,?_⟩,?_⟩
  ·intro w hw
   have:w=[s]:=by simpa using hw
   subst this
   exact⟨Walk.one _ _,by simp,s,rfl,h0,h1⟩
  ·show 0+miss rows.length []≤rows.length
   unfold miss
   omega
  ·rintro x (rfl|hx)
   ·exact .inl ⟨[x],by simp,rfl⟩
   ·cases hx
  ·show 1+2*miss rows.length []≤_
   unfold miss
   omega
 ·rintro m σ H2 ⟨rfl,vs,wl,kvs,u,v,rfl,B,hml⟩
  rw[MT B.hW B.hS]
  refine⟨_,rfl,!vs.isEmpty,.inl ⟨vs,bN.of B.hW,rfl⟩,?_⟩
  cases vs with
  | nil =>
   refine jY (kN (fun RG=>?_) H2 B.sm)
   have hwl:=B.hl
   cases hwl
   have base:∀ x,(x=s∨seen kvs x)→∀ y,BP rows x y→y≠g∧seen kvs y:=fun x hx=>by
    rcases B.cl x hx with ⟨w,hw,_⟩|z|z
    ·cases hw
    ·exact z.elim
    ·exact z
   exact (Reach.closed (S:=fun y=>y≠g∧seen kvs y) (base s (.inl rfl)) (fun x y hx=>base x (.inr hx.2) y) RG).1 rfl
  | cons v0 vs' =>
   refine jZ ⟨fun σ' H'=>P8 rows H r W S s g σ' H'∧WO rows.length W S σ' H'<2*miss rows.length kvs+(v0::vs').length,fun σ' H' ⟨p,l⟩=>⟨_,l,rfl,p⟩,?_⟩
   obtain⟨hW2,hl2,Rx,sm2,wk2,kl2,cl2⟩:=id B
   cases hl2 with
   | @cons _ w0 _ WQ hv0 aes =>
   obtain⟨wa,rfl,nwa,hwa⟩:=id hv0
   obtain⟨wkw,wlw,e,hle,e0,e1⟩:=wk2 w0 (by simp)
   have wal:∃ w1,w0=w1++[e]:=by
    rw[List.getLast?_eq_some_iff]at hle
    exact hle
   obtain⟨w1,rfl⟩:=wal
   obtain⟨es,oj⟩:∃ es,rows[e.toNat]?=some es:=⟨_,nU (by omega)⟩
   have aet:es∈rows:=uA oj
   have UR:=hes es aet
   refine⟨_,rfl,.inl ⟨rfl,_,bN.of hW2⟩,W,_,0,0,.ref wa,rfl,rfl,hW2,by decide,by decide,(by simp[seqIndex?]),rfl,?_⟩
   have ee:(V.ref wa::vs').eraseIdx 0=vs':=rfl
   rw[ee]
   have UT:∀ {v:V} {ns:List Int},iO (fun a=>a=W∨a=S) H2 v ns→iO (fun a=>a=W∨a=S) (upd H2 W (.lst vs')) v ns:=fun h=>h.at _ (.inl rfl)
   have RH:aH H (upd H2 W (.lst vs')):=cD Te sm2 (aK W _ _)
   obtain⟨Ia,G0,wK⟩:=hR.same RH
   obtain⟨vi,OP,hI⟩:=wK.get' (i:=e.toNat) (b:=itemsOf es) (by rw[jV,oj];rfl)
   obtain⟨b,NG,rfl,hb,hit⟩:=id hI
   have aeu:(upd H2 W (.lst vs')) wa=some (.lst (w1.map V.int++[.int e])):=by
    rw[aF (fun z=>nwa (.inl z)),hwa,lH]
    rfl
   have hil:=tZ es []
   refine⟨_,rfl,_,rfl,_,rfl,wa,_,_,_,rfl,rfl,bN.of aeu,m9 _ _,r,_,_,_,rfl,rfl,bN.of G0,?_,b,itemsOf es,rfl,hI,?_,fun z H4 hz s4 nz=>?_⟩
   ·have z:=eV OP
    rw[show ((e.toNat:Nat):Int)=e by omega]at z
    exact z
   ·show (es.foldl aY []).length≤_
    simp only[qu]at hil
    omega
   rw[j5]at hz
   have hW3:(upd H2 W (.lst vs')) W=some (.lst vs'):=af
   have KW:(upd H2 W (.lst vs')) S=some (.dK kvs):=by rw[aF P7.symm];exact Rx
   have nzW:z≠W:=(au hW3 nz).symm
   have nzS:z≠S:=(au KW nz).symm
   have aen:(iN es).length≤es.length:=List.length_filterMap_le _ es
   refine⟨z,rfl,⟨_,bN.of hz⟩,jy (K:=K) (a:=z) (xs:=(iN es).map V.int) (fun i σ H5=>∃ (MU:List V) (P9:gB) (mF:List (Key × V)) (v:Option V),σ=[some (.ref r),some (.int s),some (.int g),some (.ref W),some (.ref S),some (.ref wa),v] ∧
    Bfs rows H W S s g (fun x=>x=e) H5 MU P9 mF∧iO (fun a=>a=W∨a=S) H5 (.ref wa) (w1++[e])∧iO (fun a=>a=W∨a=S) H5 (.ref z) (iN es)∧(∀ y∈(iN es).take i,y≠g∧seen mF y)∧MU.length+2*miss rows.length mF≤vs'.length+2*miss rows.length kvs∧kvs.length≤mF.length) ?_ ?_ ?_ ?_⟩
   ·refine⟨vs',WQ,kvs,_,rfl,⟨s4 _ _ hW3,aes.mono fun _ _ h=>(UT h).same s4,s4 _ _ KW,RH.trans s4,fun w hw=>wk2 w (sJ _ hw),kl2,fun x hx=>?_⟩,(UT hv0).same s4,⟨z,rfl,fun q=>q.elim nzW nzS,hz⟩,(fun y hy=>by simp at hy),gQ _,gQ _⟩
    rcases cl2 x hx with ⟨w,hw,hwx⟩|q|q
    ·rcases List.mem_cons.mp hw with rfl|hw'
     ·refine .inr (.inl ?_)
      rw[hle]at hwx
      exact (sM hwx).symm
     ·exact .inl ⟨w,hw',hwx⟩
    ·exact q.elim
    ·exact .inr (.inr q)
   ·rintro i σ H5 _ ⟨_,_,_,_,_,_,_,⟨a,ea,_,ha⟩,_⟩
    cases ea
    exact bN.of ha
   ·rintro i x σ H5 hi ⟨MU,P9,mF,v,rfl,B5,OQ,hz5,Ge,hm5,hk5⟩
    rw[jV]at hi
    obtain⟨y,ey,rfl⟩:=Option.map_eq_some_iff.mp hi
    have Tf:BP rows e y:=⟨e0,es,oj,uA ey⟩
    obtain⟨y0,y1⟩:=MR.OC Tf
    obtain⟨wa',ewa,aex,Qa⟩:=id OQ
    cases ewa
    have wl0:(w1++[e]).length≤2000:=by have:=B5.kl;omega
    refine⟨_,rfl,_,rfl,rfl,_,rfl,eG (fun c=>?_) (fun c=>?_)⟩
    ·have eg:y=g:=V.int.inj (of_decide_eq_true c)
     subst eg
     refine⟨_,rfl,_,rfl,(by show 1≤sizeLine;decide),fun b1 hb1=>⟨wa,b1,_,_,rfl,rfl,aj hb1 _ _ _ Qa,af,iR (aL (by rw[cA];simp at wl0 ⊢;omega)),fun o ho=>?_⟩⟩
     refine kY (w1++[e]++[y]) o _ ?_ ((B5.sm.trans (aj hb1 _)).trans (aj ho _)) (wkw.snoc hle Tf) (by simp) (by have:=B5.kl;rw[dU,lK];omega) (by simp)
     rw[af,lH (l₁:=w1++[e])]
     rfl
    ·have eg:¬ y=g:=fun q=>c (decide_eq_true (congrArg V.int q))
     refine⟨_,rfl,_,rfl,S,_,rfl,pB.k (k:=Sum.inl y) B5.hS,_,rfl,?_⟩
     have Qc:∀ OR:List (Key × V),(∀ x,seen mF x→seen OR x)→seen OR y→∀ y'∈(iN es).take (i+1),y'≠g∧seen OR y':=fun OR hmono hy y' hy'=>by
      rw[take_snoc ey]at hy'
      rcases List.mem_append.mp hy' with q|q
      ·exact⟨(Ge y' q).1,hmono _ (Ge y' q).2⟩
      ·have:y'=y:=by simpa using q
       subst this
       exact⟨eg,hy⟩
     cases ev:cC mF (Sum.inl y) with
     | some o1 =>
      refine jY ?_
      exact⟨MU,P9,mF,_,rfl,B5,OQ,hz5,Qc mF (fun _ q=>q) (by unfold seen;rw[ev];rfl),hm5,hk5⟩
     | none =>
      refine jZ ?_
      have WM:=B5.kl
      refine⟨_,rfl,_,rfl,S,_,rfl,DE.k (k:=Sum.inl y) B5.hS (aL (by omega)),?_⟩
      have e6:∀ {v:V} {ns:List Int},iO (fun a=>a=W∨a=S) H5 v ns→iO (fun a=>a=W∨a=S) (upd H5 S (.dK (putK mF (Sum.inl y) (.bl true)))) v ns:=fun h=>h.at _ (.inr rfl)
      have s6:aH H (upd H5 S (.dK (putK mF (Sum.inl y) (.bl true)))):=cD H0S B5.sm (aK S _ _)
      have RE:(upd H5 S (.dK (putK mF (Sum.inl y) (.bl true)))) W=some (.lst MU):=by rw[aF P7];exact B5.hW
      have UU:(upd H5 S (.dK (putK mF (Sum.inl y) (.bl true)))) wa=some (.lst ((w1++[e]).map V.int)):=by rw[aF (fun q=>aex (.inr q))];exact Qa
      have RI:(upd H5 S (.dK (putK mF (Sum.inl y) (.bl true)))) S=some (.dK (putK mF (Sum.inl y) (.bl true))):=af
      generalize upd H5 S (.dK (putK mF (Sum.inl y) (.bl true)))=H6 at e6 s6 RE UU RI
      have vl:MU.length<sizeLine:=aL (by simp only[nG]at hml;omega)
      refine⟨_,rfl,.inl ⟨rfl,_,bN.of RE⟩,_,rfl,_,rfl,(by show 1≤sizeLine;decide),fun b1 hb1=>⟨wa,b1,_,_,rfl,rfl,aj hb1 _ _ _ UU,af,iR (aL (by rw[cA];simp at wl0 ⊢;omega)),fun o ho=>⟨W,_,_,rfl,rfl,aj ho _ _ _ (aj hb1 _ _ _ RE),vl,?_⟩⟩⟩
      have s7:aH H6 (upd H6 b1 (.lst [.int y])):=aj hb1 _
      have s8:=s7.trans (aj ho (.lst ((w1++[e]).map V.int++[.int y])))
      have noW:o≠W:=(au (s7 _ _ RE) ho).symm
      have UW:o≠S:=(au (s7 _ _ RI) ho).symm
      have e9:∀ {v:V} {ns:List Int},iO (fun a=>a=W∨a=S) H5 v ns→iO (fun a=>a=W∨a=S) (upd (upd (upd H6 b1 (.lst [.int y])) o (.lst ((w1++[e]).map V.int++[.int y]))) W (.lst (MU++[.ref o]))) v ns:=fun h=>((e6 h).same s8).at _ (.inl rfl)
      have mp:=F1 (n:=rows.length) (.bl true) y0 y1 ev
      have pl:(putK mF (Sum.inl y) (.bl true)).length=mF.length+1:=by rw[Av _ ev];simp
      have mono:∀ x,seen mF x→seen (putK mF (Sum.inl y) (.bl true)) x:=fun x q=>(sX _).mpr (.inr q)
      have sy:seen (putK mF (Sum.inl y) (.bl true)) y:=(sX _).mpr (.inl rfl)
      refine⟨MU++[.ref o],P9++[w1++[e]++[y]],putK mF (Sum.inl y) (.bl true),_,rfl,⟨af,b8.snoc (B5.hl.mono fun _ _ h=>e9 h) ⟨o,rfl,fun q=>q.elim noW UW,?_⟩,?_,cD Te (s6.trans s8) (aK W _ _),?_,?_,?_⟩,e9 OQ,e9 hz5,Qc _ mono sy,?_,?_⟩
      ·rw[aF noW,af,lH (l₁:=w1++[e])]
       rfl
      ·rw[aF P7.symm]
       exact s8 _ _ RI
      ·intro w hw
       rcases List.mem_append.mp hw with q|q
       ·obtain⟨q1,q2,q3⟩:=B5.wk w q
        exact⟨q1,by omega,q3⟩
       ·have:w=w1++[e]++[y]:=by simpa using q
        subst this
        refine⟨wkw.snoc hle Tf,?_,y,by simp,y0,y1⟩
        rw[dU,lK,pl]
        omega
      ·omega
      ·intro x hx
       have old:(x=s∨seen mF x)→(∃ w∈P9++[w1++[e]++[y]],w.getLast?=some x)∨x=e∨∀ y_1,BP rows x y_1→y_1≠g∧seen (putK mF (Sum.inl y) (.bl true)) y_1:=fun q=>by
        rcases B5.cl x q with ⟨w,hw,hl⟩|q|q
        ·exact .inl ⟨w,List.mem_append_left _ hw,hl⟩
        ·exact .inr (.inl q)
        ·exact .inr (.inr fun y' hy'=>⟨(q y' hy').1,mono _ (q y' hy').2⟩)
       rcases hx with q|q
       ·exact old (.inl q)
       ·rcases (sX _).mp q with rfl|q'
        ·exact .inl ⟨w1++[e]++[x],by simp,by simp⟩
        ·exact old (.inr q')
      ·rw[dU,lK]
       omega
      ·omega
   ·rintro σ H5 ⟨MU,P9,mF,v,rfl,B5,OQ,hz5,Ge,hm5,hk5⟩
    rw[cA,kQ]at Ge
    have B6:Bfs rows H W S s g (fun _=>False) H5 MU P9 mF:=⟨B5.hW,B5.hl,B5.hS,B5.sm,B5.wk,B5.kl,fun x hx=>by
     rcases B5.cl x hx with q|rfl|q
     ·exact .inl q
     ·refine .inr (.inr fun y hy=>Ge y ?_)
      obtain⟨_,es',he',hy'⟩:=hy
      rw[oj]at he'
      cases he'
      exact hy'
     ·exact .inr (.inr q)⟩
    simp only[nG]at hml
    refine⟨⟨MU,P9,mF,_,_,rfl,B6,by omega⟩,?_⟩
    rw[MT B6.hW B6.hS,nG]
    omega
inductive Ib(vs:List V)(H:Hp)(Q:VK)(E:XK):Prop
 | mk (r:Addr) (s:Int) (_:vs=[.ref r,.int s]) (_:Jw [.ref r,.int s,.int s] H Q E):Ib vs H Q E
theorem RJ:aJ ["rows","sheet"] ["rows","sheet"] (ay Co):=⟨rfl,rfl,rfl,by decide +kernel,rfl,by decide +kernel,by decide +kernel⟩
theorem OS{f fI fJ:Addr}{fd BG fdJ:FuncData}(F:iI K "ring" "ring" Co f fd)(T:n9 mg)(cy:aA K mg "windows" eL nF fI BG)(j6:aA K mg "way_between" iX JT fJ fdJ):aC P w K mg base bU 3 f fd xo Ib:=by
 have DR:aC P w K mg base bU 2 fJ fdJ JT Jw:=AM j6.F T cy
 refine F.ok RJ (fun vs H Q E h=>?_) (fun cdv A outer s H vs Q E hr h=>?_)
 ·obtain⟨r,s,rfl,_⟩:=h
  rfl
 obtain⟨r,s,rfl,h⟩:=h
 refine⟨_,(ao (aT (aN j6 DR hr (aa (pv 0) (aa (pv 1) (aa (pv 1) ah)))))),?_⟩
 refine⟨_,rfl,_,rfl,_,rfl,?_⟩
 obtain⟨r',rows,s',g,e,h1,h2,h3,h4,h5,h6,kY,kN⟩:=h
 cases e
 exact⟨r,rows,s,s,rfl,h1,h2,h3,h4,h5,h6,kY,kN⟩
def AN(f:Int→Int)(es:List Int):Int:=(es.map fun e=>if e<0 then 1+f (-1-e) else 1).sum
def DS(f:Int→Int):Item→Int
 | .win n=>1+f n
 | .aB a b=>b-a
def Gf(f:Int→Int)(its:List Item):Int:=(its.map (DS f)).sum
theorem pH(f:Int→Int)(a b:List Item):Gf f (a++b)=Gf f a+Gf f b:=by unfold Gf;rw[lH,List.sum_append]
theorem MV(f:Int→Int)(t:List Item)(e:Int):Gf f (aY t e)=Gf f t+(if e<0 then 1+f (-1-e) else 1):=by
 unfold aY
 by_cases h:e<0
 ·rw[if_pos h,if_pos h,pH]
  simp[Gf,DS]
 ·rw[if_neg h,if_neg h]
  rcases vn t with rfl|⟨t',l,rfl⟩
  ·simp[Gf,DS]
   omega
  ·rw[sC,xr]
   cases l with
   | win n =>
    show Gf f (t'++[Item.win n]++[.aB e (e+1)])=_
    rw[pH]
    simp[Gf,DS]
    omega
   | aB a b =>
    show Gf f (if b=e then (t'++[Item.aB a b]).dropLast++[.aB a (e+1)] else (t'++[Item.aB a b])++[.aB e (e+1)])=_
    by_cases hb:b=e
    ·rw[if_pos hb,List.dropLast_concat,pH,pH]
     simp[Gf,DS]
     omega
    ·rw[if_neg hb,pH]
     simp[Gf,DS]
     omega
theorem KY(f:Int→Int)(es:List Int):Gf f (itemsOf es)=AN f es:=by
 have z:∀ t:List Item,Gf f (es.foldl aY t)=Gf f t+AN f es:=by
  induction es with
  | nil=>intro t;simp[AN]
  | cons e es ih =>
   intro t
   rw[qt,ih,MV]
   unfold AN
   rw[mz,List.sum_cons]
   omega
 have:=z []
 unfold itemsOf
 rw[this]
 simp[Gf]
def Weighs(rows:gB)(f:Int→Int):Prop:=∀ (x:Int) (es:List Int),0≤x→rows[x.toNat]?=some es→f x=AN f es
inductive RK(vs:List V)(H:Hp)(Q:VK)(E:XK):Prop
 | mk (v:V) (it:Item) (S:Addr) (kvs:List (Key × V)) (f:Int→Int) (_:vs=[v,.ref S]) (_:cS H v it) (_:H S=some (.dK kvs)) (_:(∀ n,it=.win n→cC kvs (Sum.inl n)=some (.int (f n)))) (_:Q (.int (DS f it)) H):RK vs H Q E
theorem BU:aJ ["item","weights"] ["item","weights"] (ay iY):=⟨rfl,rfl,rfl,by decide +kernel,rfl,by decide +kernel,by decide +kernel⟩
theorem AO{g:Addr}{fd:FuncData}(F:iI K "item_weight" "item_weight" iY g fd)(T:n9 mg):aC P w K mg base bU 1 g fd JU RK:=by
 refine F.ok BU (fun vs H Q E h=>?_) (fun cdv A outer s H vs Q E hr h=>?_)
 ·obtain⟨v,it,S,kvs,f,rfl,_⟩:=h
  rfl
 obtain⟨v,it,S,kvs,f,rfl,⟨a,rfl,ha⟩,hS,hw,k⟩:=h
 have hu:=m5 hr
 refine⟨_,(ak (cG (cj mY (bG eF (pv 0) az (fun _ _=>rfl)) bS (bZ _))
   (ao (aT (bw iy az (gW hu (pv 1) (bG eF (pv 0) az (fun _ _=>rfl)) (fun _ _=>rfl)))))
   bK)
   (ao (aT (bw iV (bG eF (pv 0) az (fun _ _=>rfl)) (bG eF (pv 0) az (fun _ _=>rfl)))))),?_⟩
 cases it with
 | win n =>
  refine⟨_,rfl,a,_,_,_,rfl,rfl,jW.of ha,rfl,rfl,_,rfl,eG (fun _=>?_) (fun z=>absurd (by decide) z)⟩
  have z:=pB.k (k:=Sum.inl n) hS
  rw[hw n rfl]at z
  exact⟨_,rfl,_,rfl,a,_,_,_,rfl,rfl,jW.of ha,rfl,S,_,rfl,z,_,_,rfl,rfl,k⟩
 | aB p q =>
  refine⟨_,rfl,a,_,_,_,rfl,rfl,jW.of ha,rfl,rfl,_,rfl,eG (fun z=>absurd z (by decide)) (fun _=>?_)⟩
  exact⟨_,rfl,a,_,_,_,rfl,rfl,jW.of ha,rfl,_,rfl,a,_,_,_,rfl,rfl,jW.of ha,rfl,_,_,rfl,rfl,k⟩
inductive vC(vs:List V)(H:Hp)(Q:VK)(E:XK):Prop
 | mk (r L:Addr) (rows:gB) (ss:List Int) (f:Int→Int) (_:vs=[.ref r,.ref L]) (_:iM H r (rows.map itemsOf)) (_:H L=some (.lst (ss.map V.int))) (_:ss.length≤1000) (_:rows.length≤1000) (_:(∀ es∈rows,es.length≤1000)) (_:Sound rows) (_:HQ rows) (_:(∀ s∈ss,0≤s∧s<rows.length)) (_:Weighs rows f) (_ :
 ∀ (S:Addr) (kvs:List (Key × V)) (H':Hp),H' S=some (.dK kvs)→(∀ s∈ss,cC kvs (Sum.inl s)=some (.int (f s)))→aH H H'→H S=none→Q (.ref S) H'):vC vs H Q E
theorem nK:aJ ["rows","sheets","weights","number"] ["rows","sheets"] (ay fX):=⟨rfl,rfl,rfl,by decide +kernel,rfl,by decide +kernel,by decide +kernel⟩
theorem xY{g fI fB fW:Addr}{fd BG OT G1:FuncData}(F:iI K "weights_below" "weights_below" fX g fd)(T:n9 mg)(cy:aA K mg "windows" eL nF fI BG)(jN:aA K mg "below" lQ mj fB OT)(j7:aA K mg "item_weight" iY JU fW G1):aC P w K mg base bU 3 g fd mj vC:=by
 have Ic:aC P w K mg base bU 2 fB OT mj zI:=Gd jN.F T cy
 have DT:aC P w K mg base bU 1 fW G1 JU RK:=AO j7.F T
 refine F.ok nK (fun vs H Q E h=>?_) (fun cdv A outer s0 H vs Q E hr h=>?_)
 ·obtain⟨r,L,rows,ss,f,rfl,_⟩:=h
  rfl
 obtain⟨r,L,rows,ss,f,rfl,hR,hL,hsl,hlen,hes,MR,hrk,hin,hf,k⟩:=h
 have hu:=m5 hr
 refine⟨_,(ak (aO (i:=2) nK.nd rfl (Or.inr rfl) pC)
   (ak (jr PassesOwn.never rfl (cM (aN jN Ic hr (aa (pv 0) (aa (pv 1) ah)))) (aW (i:=3) nK.nd rfl (Or.inl rfl))
   (ao (wC hu (pv 2) (pv 3) (aR (Fo rfl) rfl T.P5 PyProof.Rows.boot_sum (aa (ku (N:=["item","weights"]) (r9 (sc:=ay fX) (NX:=["rows","sheets","weights","number"]) (jx:=[none,some 2]) rfl rfl rfl (by decide +kernel) (by decide +kernel) rfl (by decide +kernel) rfl (by decide +kernel)) rfl (cM (bG bM (pv 0) (pv 3) (fun _ _=>rfl))) (fun _ _ _ _ _ _=>(aW (i:=0) (show List.Nodup (["item","weights"]:List Str) by decide +kernel) rfl (Or.inl rfl))) (fun _ _ _ _ _ _=>iJ) (fun _ _ _ _ _ _=>(aN j7 DT hr (aa (pv 0) (aa (pv 1) ah))))) ah)) rfl)))
   (ao (aT (pv 2))))),?_⟩
 intro S hS
 have s1:aH H (upd H S (.dK [])):=aj hS _
 refine⟨_,rfl,_,rfl,r,L,rows,ss,rfl,hR.same s1,s1 _ _ hL,hsl,hlen,hes,MR,hrk,hin,fun ks o H2 ho s2 tp sk kl hno=>?_⟩
 have Rx:=s2 _ _ (af (H:=H) (a:=S) (o:=.dK []))
 have UW:o≠S:=(au af hno).symm
 refine⟨o,rfl,⟨_,bN.of ho⟩,jy (K:=K) (a:=o) (xs:=ks.map V.int) (fun i σ H3=>∃ (kvs:List (Key × V)) (u:Option V),σ=[some (.ref r),some (.ref L),some (.ref S),u]∧H3 S=some (.dK kvs)∧(∀ y∈ks.take i,cC kvs (Sum.inl y)=some (.int (f y)))∧kvs.length≤i∧(∀ a ob,a≠S→H2 a=some ob→H3 a=some ob)) ⟨[],none,rfl,Rx,(fun y hy=>by simp at hy),gQ _,fun _ _ _ e=>e⟩ ?_ ?_ ?_⟩
 ·rintro i σ H3 _ ⟨_,_,_,_,_,_,k3⟩
  exact bN.of (k3 o _ UW ho)
 ·rintro i x σ H3 hi ⟨kvs,u,rfl,KW,Lw,hk3,k3⟩
  rw[jV]at hi
  obtain⟨x,ex,rfl⟩:=Option.map_eq_some_iff.mp hi
  obtain⟨x0,x1⟩:=tp.EO x (uA ex)
  obtain⟨es,oj⟩:∃ es,rows[x.toNat]?=some es:=⟨_,nU (by omega)⟩
  have UR:=hes es (uA oj)
  have RH:aH H H3:=fun a ob e=>k3 a ob (au e hS) (s2 _ _ (s1 _ _ e))
  obtain⟨Ia,G0,wK⟩:=hR.same RH
  obtain⟨vi,OP,hI⟩:=wK.get' (i:=x.toNat) (b:=itemsOf es) (by rw[jV,oj];rfl)
  obtain⟨b,NG,rfl,hb,hit⟩:=id hI
  have hil:=tZ es []
  have amo:(itemsOf es).length≤1000:=by
   show (es.foldl aY []).length≤_
   simp only[qu]at hil
   omega
  have MS:xF Ia x=some (.ref b):=by
   have z:=eV OP
   rw[show ((x.toNat:Nat):Int)=x by omega]at z
   exact z
  refine⟨_,rfl,_,rfl,r,_,_,_,rfl,rfl,bN.of G0,MS,b,rfl,⟨_,bN.of hb⟩,fun acc hacc=>jL (K:=K) (a:=b) (xs:=NG) (fun j σ H5=>∃ u:Option V,σ=[u,some (.ref S)]∧H5 acc=some (.lst ((((itemsOf es).take j).map (DS f)).map V.int))∧aH H3 H5) ⟨none,rfl,af,aj hacc _⟩ (fun j σ H5 _ ⟨_,_,_,s5⟩=>bN.of (s5 _ _ hb)) ?_ ?_⟩
  ·rintro j v σ H5 hj ⟨u,rfl,h5,s5⟩
   obtain⟨it,ei,hiv⟩:=hit.get hj
   have st:=take_snoc ei
   unfold vZ Kq
   refine jZ ⟨_,rfl,_,rfl,v,it,S,kvs,f,rfl,hiv.same s5,s5 _ _ KW,fun n hn=>?_,?_⟩
   ·subst hn
    refine Lw n (tp.dn i x ex n ⟨x0,es,oj,?_⟩)
    rw[← j5]
    unfold eX
    rw[List.mem_filterMap]
    exact⟨.win n,uA ei,rfl⟩
   ·refine⟨_,h5,(by rw[cA,cA,rj];exact aL (by omega)),_,rfl,?_,cD hacc s5 (aK acc _ _)⟩
    rw[af,st,lH,lH]
    rfl
  ·rintro σ H5 ⟨u,rfl,h5,s5⟩
   rw[hit.len,kQ]at h5
   have es1:((itemsOf es).map (DS f)).sum=f x:=by rw[hf x es x0 oj];exact KY f es
   have WN:=s5 _ _ KW
   have kvl:i<ks.length:=by
    rcases Nat.lt_or_ge i ks.length with q|q
    ·exact q
    ·rw[zT q]at ex;cases ex
   refine⟨acc,_,rfl,bN.of h5,?_⟩
   rw[es1]
   refine⟨_,rfl,_,rfl,S,_,rfl,DE.k (k:=Sum.inl x) WN (aL (by omega)),?_⟩
   refine⟨putK kvs (Sum.inl x) (.int (f x)),_,rfl,af,fun y hy=>?_,?_,fun a ob n e=>?_⟩
   ·rw[ng]
    rw[take_snoc ex]at hy
    by_cases c:y=x
    ·rw[if_pos (by rw[c]),c]
    ·rw[if_neg (fun z=>c (Sum.inl.inj z))]
     rcases List.mem_append.mp hy with q|q
     ·exact Lw y q
     ·exact absurd (by simpa using q) c
   ·have:=jK kvs (Sum.inl x) (V.int (f x))
    omega
   ·rw[aF n]
    exact s5 _ _ (k3 a ob n e)
 ·rintro σ H3 ⟨kvs,u,rfl,KW,Lw,hk3,k3⟩
  rw[cA,kQ]at Lw
  exact⟨_,rfl,k S kvs H3 KW (fun s hs=>Lw s (sk s hs)) (fun a ob e=>k3 a ob (au e hS) (s2 _ _ (s1 _ _ e))) hS⟩
def sf(g:Int→Row):Item→Row
 | .win n=>g n
 | .aB a b=>[(a,b)]
def mC(sh:Int→List Int)(e:Int):List Int:=if e<0 then sh (-1-e) else [e]
def cz(sh:Int→List Int)(es:List Int):List Int:=es.flatMap (mC sh)
def Gg(rows:gB)(sh:Int→List Int):Prop:=∀ (x:Int) (es:List Int),0≤x→rows[x.toNat]?=some es→sh x=cz sh es
def bh(sh:Int→List Int)(its:List Item):Row:=its.flatMap (sf fun n=>rowOf (sh n))
def uY(t:List Item):Prop:=∀ a b,Item.aB a b∈t→a<b
theorem fy(sh:Int→List Int)(a b:List Item):bh sh (a++b)=bh sh a++bh sh b:=by unfold bh;rw[List.flatMap_append]
theorem mG(sh:Int→List Int)(it:Item):bh sh [it]=sf (fun n=>rowOf (sh n)) it:=by simp[bh]
theorem KZ(sh:Int→List Int)(t:List Item)(e:Int)(ok:uY t):aS (bh sh (aY t e))=aS (bh sh t)++mC sh e∧uY (aY t e):=by
 have add:∀ it:Item,(∀ a b,it=.aB a b→a<b)→uY (t++[it]):=fun it h a b hm=>by
  rcases List.mem_append.mp hm with z|z
  ·exact ok a b z
  ·exact h a b (List.mem_singleton.mp z).symm
 unfold aY
 by_cases h:e<0
 ·rw[if_pos h]
  refine⟨?_,add _ fun a b z=>by cases z⟩
  rw[fy,cI,mG]
  show _++aS (rowOf (sh (-1-e)))=_
  rw[ff]
  unfold mC
  rw[if_pos h]
 ·rw[if_neg h]
  have one:aS [(e,e+1)]=[e]:=by
   rw[iL]
   unfold span
   have:(e+1-e).toNat=1:=by omega
   show run e (e+1-e).toNat=_
   rw[this]
   rfl
  have es1:mC sh e=[e]:=by unfold mC;rw[if_neg h]
  have wL:aS (bh sh (t++[.aB e (e+1)]))=aS (bh sh t)++mC sh e∧uY (t++[.aB e (e+1)]):=by
   refine⟨?_,add _ fun a b z=>by cases z;omega⟩
   rw[fy,cI,mG,es1]
   show _++aS [(e,e+1)]=_
   rw[one]
  rcases vn t with rfl|⟨t',l,rfl⟩
  ·exact wL
  ·rw[sC]at ok add wL ⊢
   rw[xr]
   cases l with
   | win n=>exact wL
   | aB a b =>
    show aS (bh sh (if b=e then (t'++[Item.aB a b]).dropLast++[.aB a (e+1)] else (t'++[Item.aB a b])++[.aB e (e+1)]))=_∧uY (if b=e then (t'++[Item.aB a b]).dropLast++[.aB a (e+1)] else (t'++[Item.aB a b])++[.aB e (e+1)])
    by_cases hb:b=e
    ·subst hb
     have ab:=ok a b (by simp)
     rw[if_pos rfl,List.dropLast_concat]
     refine⟨?_,fun p q hm=>?_⟩
     ·rw[fy,fy,cI,cI,mG,mG,es1,qD]
      congr 1
      show aS [(a,b+1)]=aS [(a,b)]++[b]
      rw[iL,iL]
      unfold span
      show run a (b+1-a).toNat=run a (b-a).toNat++[b]
      have:(b+1-a).toNat=(b-a).toNat+1:=by omega
      rw[this,wA]
      congr 2
      omega
     ·rcases List.mem_append.mp hm with z|z
      ·exact ok p q (List.mem_append_left _ z)
      ·have z':Item.aB p q=Item.aB a (b+1):=by simpa using z
       cases z'
       omega
    ·rw[if_neg hb]
     exact wL
theorem AQ(sh:Int→List Int)(es:List Int):aS (bh sh (itemsOf es))=cz sh es∧uY (itemsOf es):=by
 have z:∀ t:List Item,uY t→aS (bh sh (es.foldl aY t))=aS (bh sh t)++cz sh es∧uY (es.foldl aY t):=by
  induction es with
  | nil=>intro t ok;exact⟨by simp[cz],ok⟩
  | cons e es ih =>
   intro t ok
   obtain⟨h1,h2⟩:=KZ sh t e ok
   obtain⟨h3,h4⟩:=ih _ h2
   refine⟨?_,h4⟩
   rw[qt,h3,h1,qD]
   unfold cz
   rw[mq]
 have q:=z [] (fun a b h=>by cases h)
 refine⟨?_,q.2⟩
 unfold itemsOf
 rw[q.1]
 rfl
theorem K0(sh:Int→List Int)(it:Item)(h:∀ a b,it=.aB a b→a<b):(sf (fun n=>rowOf (sh n)) it).length≤(aS (sf (fun n=>rowOf (sh n)) it)).length:=by
 cases it with
 | win n =>
  show (rowOf (sh n)).length≤(aS (rowOf (sh n))).length
  rw[ff]
  have z:=FD (sh n) []
  simpa [rowOf] using z
 | aB a b =>
  have ab:=h a b rfl
  show 1≤(aS [(a,b)]).length
  rw[iL]
  unfold span
  show 1≤(run a (b-a).toNat).length
  rw[Jo]
  omega
theorem vD(sh:Int→List Int):∀ its:List Item,uY its→(bh sh its).length≤(aS (bh sh its)).length
 | [],_=>by simp[bh]
 | it::its,h=>by
  have e:bh sh (it::its)=sf (fun n=>rowOf (sh n)) it++bh sh its:=by unfold bh;rw[mq]
  rw[e,cI,dU,dU]
  have a:=K0 sh it (fun a b z=>h a b (by rw[← z];simp))
  have b:=vD sh its (fun a b z=>h a b (sJ _ z))
  omega
theorem K5(sh:Int→List Int)(its:List Item)(h:uY its):∀ p∈bh sh its,p.1≤p.2:=by
 intro p hp
 unfold bh at hp
 obtain⟨it,hi,hm⟩:=List.mem_flatMap.mp hp
 cases it with
 | win n=>exact qL _ p hm
 | aB a b =>
  have:p=(a,b):=by simpa [sf] using hm
  subst this
  have:=h a b hi
  show a≤b
  omega
inductive ua(vs:List V)(H:Hp)(Q:VK)(E:XK):Prop
 | mk (v:V) (it:Item) (S:Addr) (kvs:List (Key × V)) (g:Int→Row) (_:vs=[v,.ref S]) (_:cS H v it) (_:H S=some (.dK kvs)) (_:(∀ n,it=.win n→∃ a,cC kvs (Sum.inl n)=some (.ref a)∧bQ H a (g n))) (_ :
 ∀ (a:Addr) (H':Hp),bQ H' a (sf g it)→aH H H'→((∃ n,it=.win n∧cC kvs (Sum.inl n)=some (.ref a))∨H a=none)→Q (.ref a) H'):ua vs H Q E
theorem Ie:aJ ["item","views"] ["item","views"] (ay fH):=⟨rfl,rfl,rfl,by decide +kernel,rfl,by decide +kernel,by decide +kernel⟩
theorem yM{f:Addr}{fd:FuncData}(F:iI K "item_row" "item_row" fH f fd)(T:n9 mg):aC P w K mg base bU 1 f fd xm ua:=by
 refine F.ok Ie (fun vs H Q E h=>?_) (fun cdv A outer s H vs Q E hr h=>?_)
 ·obtain⟨v,it,S,kvs,g,rfl,_⟩:=h
  rfl
 obtain⟨v,it,S,kvs,g,rfl,⟨a,rfl,ha⟩,hS,hw,k⟩:=h
 have hu:=m5 hr
 refine⟨_,(ak (cG (cj mY (bG eF (pv 0) az (fun _ _=>rfl)) bS (bZ _))
   (ao (aT (gW hu (pv 1) (bG eF (pv 0) az (fun _ _=>rfl)) (fun _ _=>rfl))))
   bK)
   (ao (aT (bH (aa (iz (aa (bG eF (pv 0) az (fun _ _=>rfl)) (aa (bG eF (pv 0) az (fun _ _=>rfl)) ah))) ah))))),?_⟩
 cases it with
 | win n =>
  refine⟨_,rfl,a,_,_,_,rfl,rfl,jW.of ha,rfl,rfl,_,rfl,eG (fun _=>?_) (fun z=>absurd (by decide) z)⟩
  obtain⟨b,hb,Rb⟩:=hw n rfl
  have z:=pB.k (k:=Sum.inl n) hS
  rw[hb]at z
  exact⟨_,rfl,_,rfl,a,_,_,_,rfl,rfl,jW.of ha,rfl,S,_,rfl,z,k b H Rb (aH.refl H) (.inl ⟨n,rfl,hb⟩)⟩
 | aB p q =>
  refine⟨_,rfl,a,_,_,_,rfl,rfl,jW.of ha,rfl,rfl,_,rfl,eG (fun z=>absurd z (by decide)) (fun _=>?_)⟩
  refine⟨_,rfl,a,_,_,_,rfl,rfl,jW.of ha,rfl,_,rfl,a,_,_,_,rfl,rfl,jW.of ha,rfl,(by show 2≤sizeLine;decide),fun t ht=>⟨(by show 1≤sizeLine;decide),fun l hl=>?_⟩⟩
  have s1:aH H (upd H t (.tup [.int p,.int q])):=aj ht _
  have s2:=s1.trans (aj hl (.lst [.ref t]))
  refine k l _ ⟨[t],af,.cons ?_ .nil⟩ s2 (.inr ?_)
  ·exact aj hl _ _ _ af
  ·cases e:H l with
   | none=>rfl
   | some o=>exact absurd ((s1 _ _ e).symm.trans hl) (by simp)
theorem bf.Gh{H H':Hp}{S:Addr}{kvs:List (Key × V)}(hS:H S=some (.dK kvs))(k:∀ a ob,a≠S→H a=some ob→H' a=some ob):∀ {as:List Addr} {r:Row},bf H as r→bf H' as r
 | _,_,.nil=>.nil
 | _,_,.cons r t=>.cons (k _ _ (fun z=>by
   have r':=r
   unfold xH at r'
   rw[z,hS]at r'
   cases r') r) (bf.Gh hS k t)
theorem bQ.Gh{H H':Hp}{S a:Addr}{kvs:List (Key × V)}{row:Row}(hS:H S=some (.dK kvs))(n:a≠S)(k:∀ a ob,a≠S→H a=some ob→H' a=some ob)(R:bQ H a row):bQ H' a row:=by
 obtain⟨as,h,p⟩:=R
 exact⟨as,k _ _ n h,p.Gh hS k⟩
def Jx(H:Hp)(kvs:List (Key × V))(sh:Int→List Int)(xs:List Int):Prop:=∀ x∈xs,∃ a,cC kvs (Sum.inl x)=some (.ref a)∧bQ H a (rowOf (sh x))
inductive wM(vs:List V)(H:Hp)(Q:VK)(E:XK):Prop
 | mk (r L:Addr) (rows:gB) (ss:List Int) (sh:Int→List Int) (_:vs=[.ref r,.ref L]) (_:iM H r (rows.map itemsOf)) (_:H L=some (.lst (ss.map V.int))) (_:ss.length≤1000) (_:rows.length≤1000) (_:(∀ es∈rows,es.length≤1000)) (_:Sound rows) (_:HQ rows) (_:(∀ s∈ss,0≤s∧s<rows.length)) (_:Gg rows sh) (_:(∀ x:Int,0≤x→x<rows.length→(sh x).length≤10000)) (_ :
 ∀ (S:Addr) (kvs:List (Key × V)) (ks:List Int) (H':Hp),H' S=some (.dK kvs)→Jx H' kvs sh ks→KU rows ks→(∀ s∈ss,s∈ks)→(∀ x∈ks,∀ a,cC kvs (Sum.inl x)=some (.ref a)→H a=none)→aH H H'→H S=none→Q (.ref S) H'):wM vs H Q E
theorem qz:aJ ["rows","sheets","views","number"] ["rows","sheets"] (ay dR):=⟨rfl,rfl,rfl,by decide +kernel,rfl,by decide +kernel,by decide +kernel⟩
theorem pI{g fI fB fW fP:Addr}{fd BG OT G1 KP:FuncData}(F:iI K "views_below" "views_below" dR g fd)(T:n9 mg)(cy:aA K mg "windows" eL nF fI BG)(jN:aA K mg "below" lQ mj fB OT)(cB:aA K mg "item_row" fH xm fW G1)(gu:aA K mg "plain" lO eU fP KP):aC P w K mg base bU 3 g fd mj wM:=by
 have Ic:aC P w K mg base bU 2 fB OT mj zI:=Gd jN.F T cy
 have xZ:aC P w K mg base bU 1 fW G1 xm ua:=yM cB.F T
 have AI:aC P w K mg base bU 1 fP KP eU wB:=AG gu.F
 refine F.ok qz (fun vs H Q E h=>?_) (fun cdv A outer s0 H vs Q E hr h=>?_)
 ·obtain⟨r,L,rows,ss,sh,rfl,_⟩:=h
  rfl
 obtain⟨r,L,rows,ss,sh,rfl,hR,hL,hsl,hlen,hes,MR,hrk,hin,hsh,hbd,k⟩:=h
 have hu:=m5 hr
 refine⟨_,(ak (aO (i:=2) qz.nd rfl (Or.inr rfl) pC)
   (ak (jr PassesOwn.never rfl (cM (aN jN Ic hr (aa (pv 0) (aa (pv 1) ah)))) (aW (i:=3) qz.nd rfl (Or.inl rfl))
   (ao (wC hu (pv 2) (pv 3) (aN gu AI hr (aa (KC (N:=["item","stretch","views"]) (r9 (sc:=ay dR) (NX:=["rows","sheets","views","number"]) (jx:=[none,none,some 2]) rfl rfl rfl (by decide +kernel) (by decide +kernel) rfl (by decide +kernel) rfl (by decide +kernel)) rfl (cM (bG bM (pv 0) (pv 3) (fun _ _=>rfl))) (fun _ _ _ _ _ _=>(aW (i:=0) (show List.Nodup (["item","stretch","views"]:List Str) by decide +kernel) rfl (Or.inl rfl))) (fun _ _ _ _ _ _=>iJ) (fun _ _ _ _ _ _=>(MF (aN cB xZ hr (aa (pv 0) (aa (pv 2) ah))))) (fun _ _ _ _ _ _=>(aW (i:=1) (show List.Nodup (["item","stretch","views"]:List Str) by decide +kernel) rfl (Or.inl rfl))) (fun _ _ _ _ _ _=>iJ) (fun _ _ _ _ _ _=>(pv 1))) ah)) rfl)))
   (ao (aT (pv 2))))),?_⟩
 intro S hS
 have s1:aH H (upd H S (.dK [])):=aj hS _
 refine⟨_,rfl,_,rfl,r,L,rows,ss,rfl,hR.same s1,s1 _ _ hL,hsl,hlen,hes,MR,hrk,hin,fun ks o H2 ho s2 tp sk kl hno=>?_⟩
 have Rx:=s2 _ _ (af (H:=H) (a:=S) (o:=.dK []))
 have UW:o≠S:=(au af hno).symm
 refine⟨o,rfl,⟨_,bN.of ho⟩,jy (K:=K) (a:=o) (xs:=ks.map V.int) (fun i σ H3=>∃ (kvs:List (Key × V)) (u:Option V),σ=[some (.ref r),some (.ref L),some (.ref S),u]∧H3 S=some (.dK kvs)∧Jx H3 kvs sh (ks.take i)∧kvs.length≤i∧(∀ x a,cC kvs (Sum.inl x)=some (.ref a)→H a=none∧a≠S)∧(∀ a ob,a≠S→H2 a=some ob→H3 a=some ob)) ⟨[],none,rfl,Rx,(fun y hy=>by simp at hy),gQ _,(fun x a e=>by cases e),fun _ _ _ e=>e⟩ ?_ ?_ ?_⟩
 ·rintro i σ H3 _ ⟨_,_,_,_,_,_,_,k3⟩
  exact bN.of (k3 o _ UW ho)
 ·rintro i x σ H3 hi ⟨kvs,u,rfl,KW,Lw,hk3,WR,k3⟩
  rw[jV]at hi
  obtain⟨x,ex,rfl⟩:=Option.map_eq_some_iff.mp hi
  obtain⟨x0,x1⟩:=tp.EO x (uA ex)
  obtain⟨es,oj⟩:∃ es,rows[x.toNat]?=some es:=⟨_,nU (by omega)⟩
  have RH:aH H H3:=fun a ob e=>k3 a ob (au e hS) (s2 _ _ (s1 _ _ e))
  obtain⟨Ia,G0,wK⟩:=hR.same RH
  obtain⟨vi,OP,hI⟩:=wK.get' (i:=x.toNat) (b:=itemsOf es) (by rw[jV,oj];rfl)
  obtain⟨b,NG,rfl,hb,hit⟩:=id hI
  obtain⟨Hu,hok⟩:=AQ sh es
  have shx:=hsh x es x0 oj
  have tot:(bh sh (itemsOf es)).length≤10000:=by
   have z:=vD sh (itemsOf es) hok
   rw[Hu,← shx]at z
   have:=hbd x x0 x1
   omega
  have part:∀ j,(bh sh ((itemsOf es).take j)).length≤10000:=fun j=>by
   have e:bh sh (itemsOf es)=bh sh ((itemsOf es).take j)++bh sh ((itemsOf es).drop j):=by rw[← fy,List.take_append_drop]
   rw[e,dU]at tot
   omega
  have MS:xF Ia x=some (.ref b):=by
   have z:=eV OP
   rw[show ((x.toNat:Nat):Int)=x by omega]at z
   exact z
  refine⟨_,rfl,_,rfl,r,_,_,_,rfl,rfl,bN.of G0,MS,b,rfl,⟨_,bN.of hb⟩,fun acc hacc=>FW (K:=K) (a:=b) (xs:=NG) (fun j σ H5=>∃ (u v:Option V) (as:List Addr),σ=[u,v,some (.ref S)]∧H5 acc=some (.lst (as.map V.ref))∧bf H5 as (bh sh ((itemsOf es).take j))∧aH H3 H5) ⟨none,none,[],rfl,af,.nil,aj hacc _⟩ (fun j σ H5 _ ⟨_,_,_,_,_,_,s5⟩=>bN.of (s5 _ _ hb)) ?_ ?_⟩
  ·rintro j v σ H5 hj ⟨u,u2,as,rfl,h5,p5,s5⟩
   obtain⟨it,ei,hiv⟩:=hit.get hj
   have st:bh sh ((itemsOf es).take (j+1))=bh sh ((itemsOf es).take j)++sf (fun n=>rowOf (sh n)) it:=by rw[take_snoc ei,fy,mG]
   refine Rn ?_
   refine jZ ?_
   refine⟨_,rfl,_,rfl,v,it,S,kvs,(fun n=>rowOf (sh n)),rfl,hiv.same s5,s5 _ _ KW,fun n hn=>?_,fun a2 H6 R6 s6 hor=>?_⟩
   ·subst hn
    obtain⟨a,ha,Ra⟩:=Lw n (tp.dn i x ex n ⟨x0,es,oj,by
     rw[← j5]
     unfold eX
     rw[List.mem_filterMap]
     exact⟨.win n,uA ei,rfl⟩⟩)
    exact⟨a,ha,Ra.same s5⟩
   obtain⟨K6,h6a,p6⟩:=id R6
   have na2:a2≠acc:=by
    rcases hor with ⟨n,hn,hv⟩|hn
    ·subst hn
     obtain⟨a,ha,as0,h0',_⟩:=Lw n (tp.dn i x ex n ⟨x0,es,oj,by
      rw[← j5]
      unfold eX
      rw[List.mem_filterMap]
      exact⟨.win n,uA ei,rfl⟩⟩)
     rw[hv]at ha
     cases ha
     exact au h0' hacc
    ·exact (au h5 hn).symm
   have h6:=s6 _ _ h5
   have pl:=part (j+1)
   rw[st,dU]at pl
   have al:=p5.len
   have al2:=p6.len
   refine⟨a2,rfl,⟨_,bN.of h6a⟩,HM (K:=K) (a:=a2) (acc:=acc) (g:=vZ 1) (tt:=Kq) (te:=J2 1) (xs:=K6.map V.ref) (fun l σ H7=>∃ v2:Option V,σ=[some v,v2,some (.ref S)]∧H7 acc=some (.lst ((as++K6.take l).map V.ref))∧bf H7 (as++K6.take l) (bh sh ((itemsOf es).take j)++(sf (fun n=>rowOf (sh n)) it).take l)∧cO acc H6 H7∧aH H3 H7) ?_ ?_ ?_ ?_⟩
   ·exact⟨u2,rfl,(by simpa using h6),(by simpa using p5.same s6),(fun _ _ e _=>e),s5.trans s6⟩
   ·rintro l σ H7 _ ⟨_,_,_,_,K7,_⟩
    exact bN.of (K7 a2 _ h6a na2)
   ·rintro l y σ H7 hl ⟨v2,rfl,h7,p7,K7,s7⟩
    rw[jV]at hl
    obtain⟨t,et,rfl⟩:=Option.map_eq_some_iff.mp hl
    obtain⟨pr,epr,hpr⟩:=p6.get et
    have ll:l<K6.length:=by
     rcases Nat.lt_or_ge l K6.length with q|q
     ·exact q
     ·rw[zT q]at et;cases et
    have UX:xH H7 t pr:=K7 t _ hpr (fun z=>by
     have q:H6 acc=some (.tup [.int pr.1,.int pr.2]):=by rw[← z];exact hpr
     rw[h6]at q
     cases q)
    have K8:cO acc H7 (upd H7 acc (.lst ((as++K6.take l).map V.ref++[.ref t]))):=aK acc _ _
    refine Rn ?_
    refine jZ ?_
    refine⟨_,rfl,_,h7,?_,_,rfl,?_,?_,?_,cD hacc s7 K8⟩
    ·rw[cA,dU,rj]
     exact aL (by omega)
    ·rw[af,take_snoc et,← qD,lH (l₁:=as++K6.take l)]
     rfl
    ·rw[take_snoc et,take_snoc epr,← qD,← qD]
     exact bf.snoc (p7.keep h7 K8) (K8 t _ UX (fun z=>by
      have q:H7 acc=some (.tup [.int pr.1,.int pr.2]):=by rw[← z];exact UX
      rw[h7]at q
      cases q))
    ·exact fun a ob e n=>K8 a ob (K7 a ob e n) n
   ·rintro σ H7 ⟨v2,rfl,h7,p7,K7,s7⟩
    rw[cA,kQ]at h7 p7
    rw[al2,kQ]at p7
    exact⟨_,_,_,rfl,h7,(by rw[st];exact p7),s7⟩
  ·rintro σ H5 ⟨u,u2,as,rfl,h5,p5,s5⟩
   rw[hit.len,kQ]at p5
   have kvl:i<ks.length:=by
    rcases Nat.lt_or_ge i ks.length with q|q
    ·exact q
    ·rw[zT q]at ex;cases ex
   refine⟨acc,_,rfl,⟨as,h5,p5⟩,by omega,fun q H6 R6 s6 hq=>?_⟩
   have RI:=s6 _ _ (s5 _ _ KW)
   have nqS:q≠S:=(au (s5 _ _ KW) hq).symm
   have er:bW (bh sh (itemsOf es))=rowOf (sh x):=by rw[Fp _ (K5 sh _ hok),Hu,shx]
   rw[er]at R6
   have k7:∀ a ob,a≠S→H6 a=some ob→upd H6 S (.dK (putK kvs (Sum.inl x) (.ref q))) a=some ob:=fun a ob n e=>by rw[aF n];exact e
   refine⟨_,rfl,_,rfl,S,_,rfl,DE.k (k:=Sum.inl x) RI (aL (by omega)),?_⟩
   refine⟨putK kvs (Sum.inl x) (.ref q),_,rfl,af,fun y hy=>?_,?_,fun y a e=>?_,fun a ob n e=>k7 a ob n (s6 _ _ (s5 _ _ (k3 a ob n e)))⟩
   ·rw[ng]
    by_cases c:y=x
    ·rw[if_pos (by rw[c]),c]
     exact⟨q,rfl,R6.Gh RI nqS k7⟩
    ·rw[if_neg (fun z=>c (Sum.inl.inj z))]
     rw[take_snoc ex]at hy
     rcases List.mem_append.mp hy with z|z
     ·obtain⟨a,ha,Ra⟩:=Lw y z
      exact⟨a,ha,((Ra.same s5).same s6).Gh RI (WR y a ha).2 k7⟩
     ·exact absurd (by simpa using z) c
   ·have:=jK kvs (Sum.inl x) (V.ref q)
    omega
   ·rw[ng]at e
    by_cases c:y=x
    ·rw[if_pos (by rw[c])]at e
     cases e
     refine⟨?_,nqS⟩
     cases z:H q with
     | none=>rfl
     | some ob=>exact absurd ((s5 _ _ (RH _ _ z)).symm.trans hq) (by simp)
    ·rw[if_neg (fun z=>c (Sum.inl.inj z))]at e
     exact WR y a e
 ·rintro σ H3 ⟨kvs,u,rfl,KW,Lw,hk3,WR,k3⟩
  rw[cA,kQ]at Lw
  exact⟨_,rfl,k S kvs ks H3 KW Lw tp sk (fun x _ a e=>(WR x a e).1) (fun a ob e=>k3 a ob (au e hS) (s2 _ _ (s1 _ _ e))) hS⟩
inductive DU(vs:List V)(H:Hp)(Q:VK)(E:XK):Prop
 | mk (r:Addr) (rows:gB) (s:Int) (sh:Int→List Int) (_:vs=[.ref r,.int s]) (_:iM H r (rows.map itemsOf)) (_:rows.length≤1000) (_:(∀ es∈rows,es.length≤1000)) (_:Sound rows) (_:HQ rows) (_:0≤s) (_:s<rows.length) (_:Gg rows sh) (_:(∀ x:Int,0≤x→x<rows.length→(sh x).length≤10000)) (_ :
 ∀ (o:Addr) (H':Hp),bQ H' o (rowOf (sh s))→aH H H'→H o=none→Q (.ref o) H'):DU vs H Q E
theorem OU:aJ ["rows","sheet"] ["rows","sheet"] (ay Aj):=⟨rfl,rfl,rfl,by decide +kernel,rfl,by decide +kernel,by decide +kernel⟩
theorem MW{g fI fB fW fP fV:Addr}{fd BG OT G1 KP UY:FuncData}(F:iI K "shown" "shown" Aj g fd)(T:n9 mg)(cy:aA K mg "windows" eL nF fI BG)(jN:aA K mg "below" lQ mj fB OT)(cB:aA K mg "item_row" fH xm fW G1)(gu:aA K mg "plain" lO eU fP KP)(dh:aA K mg "views_below" dR mj fV UY):aC P w K mg base bU 4 g fd xo DU:=by
 have lV:aC P w K mg base bU 3 fV UY mj wM:=pI dh.F T cy jN cB gu
 refine F.ok OU (fun vs H Q E h=>?_) (fun cdv A outer s0 H vs Q E hr h=>?_)
 ·obtain⟨r,rows,s,sh,rfl,_⟩:=h
  rfl
 obtain⟨r,rows,s,sh,rfl,hR,hlen,hes,MR,hrk,h0,h1,hsh,hbd,k⟩:=h
 have hu:=m5 hr
 refine⟨_,(ao (aT (gW hu (aN dh lV hr (aa (pv 0) (aa (bH (aa (pv 1) ah)) ah))) (pv 1) (fun _ _=>rfl)))),?_⟩
 refine⟨_,rfl,_,rfl,(by show 1≤sizeLine;decide),fun L hL=>?_⟩
 have s1:aH H (upd H L (.lst [.int s])):=aj hL _
 refine⟨r,L,rows,[s],sh,rfl,hR.same s1,af,(by simp),hlen,hes,MR,hrk,(fun x hx=>by rw[List.mem_singleton.mp hx];exact⟨h0,h1⟩),hsh,hbd,fun S kvs ks H' hS hv tp sk hn s' _=>?_⟩
 have sk:=sk s (by simp)
 obtain⟨a,ha,Ra⟩:=hv s sk
 have z:=pB.k (k:=Sum.inl s) hS
 rw[ha]at z
 exact⟨_,rfl,S,_,rfl,z,k a H' Ra (s1.trans s') (aX s1 (hn s sk a ha))⟩
def RL:Item→Item→Bool
 | .aB _ b,.aB c _=>decide (b=c)
 | _,_=>false
inductive Ig(vs:List V)(H:Hp)(Q:VK)(E:XK):Prop
 | mk (x y:V) (i j:Item) (_:vs=[x,y]) (_:cS H x i) (_:cS H y j) (_:Q (.bl (RL i j)) H):Ig vs H Q E
theorem K9:aJ ["one","other"] ["one","other"] (ay lR):=⟨rfl,rfl,rfl,by decide +kernel,rfl,by decide +kernel,by decide +kernel⟩
theorem Ih{f:Addr}{fd:FuncData}(F:iI K "goes_on" "goes_on" lR f fd)(T:n9 mg):aC P w K mg base bU 1 f fd EW Ig:=by
 refine F.ok K9 (fun vs H Q E h=>?_) (fun cdv A outer s H vs Q E hr h=>?_)
 ·obtain⟨x,y,i,j,rfl,_⟩:=h
  rfl
 obtain⟨x,y,i,j,rfl,⟨a,rfl,ha⟩,⟨b,rfl,hb⟩,k⟩:=h
 refine⟨_,(ao (aT (rC (nV mY (bG eF (pv 0) az (fun _ _=>rfl)) bS (bZ _)) (rC (nV mY (bG eF (pv 1) az (fun _ _=>rfl)) bS (bZ _)) (sN (nV mY (bG eF (pv 0) az (fun _ _=>rfl)) (bG eF (pv 1) az (fun _ _=>rfl)) (bZ _))))))),?_⟩
 cases i with
 | win n=>exact⟨_,rfl,a,_,_,_,rfl,rfl,jW.of ha,rfl,rfl,_,rfl,eG (fun z=>absurd z (by decide)) (fun _=>k)⟩
 | aB p q =>
  refine⟨_,rfl,a,_,_,_,rfl,rfl,jW.of ha,rfl,rfl,_,rfl,eG (fun _=>?_) (fun z=>absurd (by decide) z)⟩
  cases j with
  | win n=>exact⟨_,rfl,b,_,_,_,rfl,rfl,jW.of hb,rfl,rfl,_,rfl,eG (fun z=>absurd z (by decide)) (fun _=>k)⟩
  | aB u v =>
   refine⟨_,rfl,b,_,_,_,rfl,rfl,jW.of hb,rfl,rfl,_,rfl,eG (fun _=>?_) (fun z=>absurd (by decide) z)⟩
   refine⟨_,rfl,a,_,_,_,rfl,rfl,jW.of ha,rfl,_,rfl,b,_,_,_,rfl,rfl,jW.of hb,rfl,rfl,?_⟩
   have e:decide (V.int q=V.int u)=decide (q=u):=by
    by_cases c:q=u
    ·rw[c];simp
    ·have c2:¬ V.int q=V.int u:=fun z=>c (V.int.inj z)
     rw[decide_eq_false c,decide_eq_false c2]
   rw[e]
   exact k
def bz(t:List Item)(it:Item):List Item :=
 match t.getLast?,it with
 | some (.aB a b),.aB c d=>if b=c then t.dropLast++[.aB a d] else t++[it]
 | _,_=>t++[it]
def Ii(its:List Item):List Item:=its.foldl bz []
theorem Ij(its:List Item):∀ t:List Item,(its.foldl bz t).length≤t.length+its.length:=by
 induction its with
 | nil=>intro t;simp
 | cons e its ih =>
  intro t
  rw[qt]
  have z:=ih (bz t e)
  have z2:(bz t e).length≤t.length+1:=by
   unfold bz
   split
   ·split
    ·rw[dU,List.length_dropLast,lK];omega
    ·simp
   ·simp
  rw[nG]
  omega
inductive lW(vs:List V)(H:Hp)(Q:VK)(E:XK):Prop
 | mk (r:Addr) (its:List Item) (_:vs=[.ref r]) (_:bx H (.ref r) its) (_:its.length≤1000000) (_ :
 ∀ (o:Addr) (H':Hp),bx H' (.ref o) (Ii its)→aH H H'→H o=none→Q (.ref o) H'):lW vs H Q E
theorem qA:aJ ["items","told","item"] ["items"] (ay gV):=⟨rfl,rfl,rfl,by decide +kernel,rfl,by decide +kernel,by decide +kernel⟩
theorem pJ{f fG:Addr}{fd WS:FuncData}(F:iI K "plain_items" "plain_items" gV f fd)(T:n9 mg)(jO:aA K mg "goes_on" lR EW fG WS):aC P w K mg base bU 2 f fd nF lW:=by
 have MX:aC P w K mg base bU 1 fG WS EW Ig:=Ih jO.F T
 refine F.ok qA (fun vs H Q E h=>?_) (fun cdv A outer s H vs Q E hr h=>?_)
 ·obtain⟨r,its,rfl,_⟩:=h
  rfl
 obtain⟨r,its,rfl,⟨a,NG,e,hr1,hit⟩,hlen,k⟩:=h
 cases e
 refine⟨_,(ak (aO (i:=1) qA.nd rfl (Or.inl rfl) (bH ah))
   (ak (jr PassesOwn.never rfl (cM (pv 0)) (aW (i:=2) qA.nd rfl (Or.inl rfl))
   (ao (cG (PW.pt (Hh (oQ (pv 1) (fun _=>rfl)) (Dn (oM (aN jO MX hr (aa (bG bM (pv 1) (uI qw az) (fun _ _=>rfl)) (aa (pv 2) ah)))))))
   (ao (xy (iz (aa bS (aa (bG eF (bG bM (pv 1) (uI qw az) (fun _ _=>rfl)) az (fun _ _=>rfl)) (aa (bG eF (pv 2) az (fun _ _=>rfl)) ah)))) (xx (pv 1) (uI qw az) set_list)))
   (ao (bq (je rA vg vh cP (pv 1) (aa (pv 2) ah)))))))
   (ao (aT (pv 1))))),?_⟩
 refine⟨(by show 0≤sizeLine;decide),fun q hq=>?_⟩
 have s0:aH H (upd H q (.lst [])):=aj hq _
 refine⟨_,rfl,r,rfl,⟨_,bN.of (s0 _ _ hr1)⟩,jy (K:=K) (a:=r) (xs:=NG) (fun i σ H2=>∃ (vs:List V) (u:Option V),σ=[some (.ref r),some (.ref q),u]∧H2 q=some (.lst vs)∧b8 (cS H2) vs ((its.take i).foldl bz [])∧aH H H2)
  ⟨[],none,rfl,af,.nil,s0⟩ (fun i σ H2 _ ⟨_,_,_,_,_,s⟩=>bN.of (s _ _ hr1)) ?_ ?_⟩
 ·rintro i x σ H2 hi ⟨vs,u,rfl,hq2,hb,s⟩
  obtain⟨it,ei,hiv⟩:=hit.get hi
  have hx2:=hiv.same s
  have step:(its.take (i+1)).foldl bz []=bz ((its.take i).foldl bz []) it:=by rw[take_snoc ei,List.foldl_append];rfl
  have bl:vs.length<sizeLine:=by
   have z:=hb.len
   have z2:=Ij (its.take i) []
   rw[rj,qu]at z2
   exact aL (by omega)
  have app:bz ((its.take i).foldl bz []) it=(its.take i).foldl bz []++[it]→∃ (vs':List V) (u':Option V),[some (V.ref r),some (.ref q),some x]=[some (.ref r),some (.ref q),u']∧(upd H2 q (.lst (vs++[x]))) q=some (.lst vs')∧b8 (cS (upd H2 q (.lst (vs++[x])))) vs' ((its.take (i+1)).foldl bz [])∧aH H (upd H2 q (.lst (vs++[x]))):=fun e=>by
   refine⟨_,_,rfl,af,?_,cD hq s (aK q _ _)⟩
   rw[step,e]
   exact b8.snoc (hb.mono fun v i h=>h.keep hq2 (aK q _ _)) (hx2.keep hq2 (aK q _ _))
  rcases vn ((its.take i).foldl bz []) with hn|⟨t0,l0,hn⟩
  ·have hvs:vs=[]:=by
    rw[hn]at hb
    exact List.eq_nil_of_length_eq_zero hb.len
   subst hvs
   refine⟨_,rfl,false,.inl ⟨_,bN.of hq2,rfl⟩,jY (jY ?_)⟩
   refine⟨_,rfl,.inl ⟨rfl,_,bN.of hq2⟩,_,rfl,q,_,_,rfl,rfl,hq2,bl,app ?_⟩
   rw[hn]
   rfl
  ·rw[sC]at hn
   have hb':=hb
   rw[hn]at hb'
   obtain⟨us,v0,rfl,hb0,hv0⟩:=hb'.split
   obtain⟨a0,rfl,ha0⟩:=id hv0
   refine⟨_,rfl,true,.inl ⟨_,bN.of hq2,by simp⟩,jZ ?_⟩
   refine⟨_,rfl,_,rfl,q,_,_,_,rfl,rfl,bN.of hq2,m9 _ _,_,rfl,_,_,l0,it,rfl,hv0,hx2,_,rfl,?_⟩
   cases l0 with
   | win n =>
    refine jY ?_
    refine⟨_,rfl,.inl ⟨rfl,_,bN.of hq2⟩,_,rfl,q,_,_,rfl,rfl,hq2,bl,app ?_⟩
    rw[hn]
    unfold bz
    rw[xr]
   | aB p1 p2 =>
    cases it with
    | win n =>
     refine jY ?_
     refine⟨_,rfl,.inl ⟨rfl,_,bN.of hq2⟩,_,rfl,q,_,_,rfl,rfl,hq2,bl,app ?_⟩
     rw[hn]
     unfold bz
     rw[xr]
    | aB c d =>
     refine eG (fun z=>?_) (fun z=>?_)
     ·have e2:p2=c:=of_decide_eq_true z
      obtain⟨ax,rfl,hax⟩:=id hx2
      refine⟨_,rfl,_,rfl,q,_,_,_,rfl,rfl,bN.of hq2,m9 _ _,a0,_,_,_,rfl,rfl,jW.of ha0,rfl,_,rfl,ax,_,_,_,rfl,rfl,jW.of hax,rfl,(by show 3≤sizeLine;decide),fun t ht=>?_⟩
      refine⟨_,rfl,_,rfl,q,_,_,us.length,rfl,rfl,aj ht _ _ _ hq2,(by rw[dU];exact Fv _),?_⟩
      rw[Fw]
      refine⟨_,_,rfl,af,?_,cD hq (s.trans (aj ht _)) (aK q _ _)⟩
      have e3:(its.take (i+1)).foldl bz []=t0++[.aB p1 d]:=by
       rw[step,hn]
       unfold bz
       rw[xr,List.dropLast_concat]
       show (if p2=c then t0++[Item.aB p1 d] else _)=_
       rw[if_pos e2]
      rw[e3]
      exact b8.new (it:=.aB p1 d) hq2 hb0 ht _
     ·have e2:¬ p2=c:=fun w=>z (decide_eq_true w)
      refine⟨_,rfl,.inl ⟨rfl,_,bN.of hq2⟩,_,rfl,q,_,_,rfl,rfl,hq2,bl,app ?_⟩
      rw[hn]
      unfold bz
      rw[xr]
      show (if p2=c then _ else t0++[Item.aB p1 p2]++[Item.aB c d])=_
      rw[if_neg e2]
 ·rintro σ H2 ⟨vs,u,rfl,hq2,hb,s⟩
  rw[hit.len,kQ]at hb
  exact⟨_,rfl,k q H2 ⟨q,vs,rfl,hq2,hb⟩ s hq⟩
def dW(r:Row):List Item:=r.map fun p=>.aB p.1 p.2
inductive uc(vs:List V)(H:Hp)(Q:VK)(E:XK):Prop
 | mk (r:Addr) (row:Row) (_:vs=[.ref r]) (_:bQ H r row) (_:row.length≤100000) (_ :
 ∀ (o:Addr) (H':Hp),bx H' (.ref o) (dW (bW row))→aH H H'→H o=none→Q (.ref o) H'):uc vs H Q E
theorem OV:aJ ["row"] ["row"] (ay rF):=⟨rfl,rfl,rfl,by decide +kernel,rfl,by decide +kernel,by decide +kernel⟩
theorem wN{f fP:Addr}{fd KP:FuncData}(F:iI K "inked" "inked" rF f fd)(T:n9 mg)(gu:aA K mg "plain" lO eU fP KP):aC P w K mg base bU 2 f fd eU uc:=by
 have AI:aC P w K mg base bU 1 fP KP eU wB:=AG gu.F
 refine F.ok OV (fun vs H Q E h=>?_) (fun cdv A outer s H vs Q E hr h=>?_)
 ·obtain⟨r,row,rfl,_⟩:=h
  rfl
 obtain⟨r,row,rfl,R,hlen,k⟩:=h
 refine⟨_,(ao (aT (Dv (N:=["start","stop"]) ⟨rfl,by decide +kernel,by decide +kernel,by decide +kernel⟩ rfl (cM (aN gu AI hr (aa (pv 0) ah))) (fun _ _ _ _ _=>(Dy (n:=2) rfl (bL (aW (i:=0) (show List.Nodup (["start","stop"]:List Str) by decide +kernel) rfl (Or.inl rfl)) (bL (aW (i:=1) (show List.Nodup (["start","stop"]:List Str) by decide +kernel) rfl (Or.inl rfl)) jX)))) (fun _ _ _ _ _=>iJ) (fun _ _ _ _ _=>(iz (aa bS (aa (pv 0) (aa (pv 1) ah)))))))),?_⟩
 refine⟨_,rfl,r,row,rfl,R,by omega,fun q H1 R1 s1 hq=>?_⟩
 obtain⟨as,h1,p1⟩:=id R1
 have pl:=qO row
 refine⟨q,rfl,⟨_,bN.of h1⟩,fun acc hacc=>xK (K:=K) (a:=q) (xs:=as.map V.ref) (fun i σ H2=>∃ (u v:Option V) (vs:List V),σ=[u,v]∧H2 acc=some (.lst vs)∧b8 (cS H2) vs (dW ((bW row).take i))∧aH H1 H2)
  ⟨none,none,[],rfl,af,.nil,aj hacc _⟩ (fun i σ H2 _ ⟨_,_,_,_,_,_,s⟩=>bN.of (s _ _ h1)) ?_ ?_⟩
 ·rintro i x σ H2 hi ⟨u,v,vs,rfl,ha,t2,s⟩
  rw[jV]at hi
  obtain⟨a,ea,rfl⟩:=Option.map_eq_some_iff.mp hi
  obtain⟨⟨st,en⟩,ep,hpa⟩:=p1.get ea
  have bl:=t2.len
  unfold dW at bl
  rw[cA,rj]at bl
  refine⟨a,_,rfl,jW.of (s _ _ hpa),rfl,_,_,rfl,_,_,rfl,rfl,yes (jZ ?_)⟩
  refine⟨_,rfl,_,rfl,(by show 3≤sizeLine;decide),fun t ht=>?_⟩
  refine⟨vs,aj ht _ _ _ ha,aL (by omega),_,_,_,rfl,af,?_,cD hacc (s.trans (aj ht _)) (aK acc _ _)⟩
  have e:dW ((bW row).take (i+1))=dW ((bW row).take i)++[.aB st en]:=by
   rw[take_snoc ep]
   unfold dW
   rw[lH]
   rfl
  rw[e]
  exact b8.new (it:=.aB st en) ha t2 ht _
 ·rintro σ H2 ⟨u,v,vs,rfl,ha,t2,s⟩
  rw[cA,p1.len,kQ]at t2
  refine k acc H2 ⟨acc,vs,rfl,ha,t2⟩ (s1.trans s) ?_
  cases e:H acc with
  | none=>rfl
  | some o=>exact absurd ((s1 _ _ e).symm.trans hacc) (by simp)
def iT:Item→List Int
 | .win n=>[-1-n]
 | .aB a b=>run a (b-a).toNat
def dI(its:List Item):List Int:=its.flatMap iT
def qf:Item→Prop
 | .win n=>0≤n
 | .aB a b=>0≤a∧a<b
def iS(its:List Item):Prop:=∀ it∈its,qf it
theorem gZ(a b:List Item):dI (a++b)=dI a++dI b:=by unfold dI;rw[List.flatMap_append]
theorem pK(a:Item):dI [a]=iT a:=by simp[dI]
theorem iS.append{a b:List Item}(h:iS a)(g:iS b):iS (a++b):=fun it hm=>(List.mem_append.mp hm).elim (h it) (g it)
theorem iS.one{a:Item}(h:qf a):iS [a]:=fun it hm=>by rw[List.mem_singleton.mp hm];exact h
theorem MY(t:List Item){n:Int}(h:0≤n):aY t (-1-n)=t++[.win n]:=by
 unfold aY
 rw[if_pos (by omega)]
 congr 3
 omega
theorem La(t:List Item)(p s:Int)(h:0≤s):aY (t++[.aB p s]) s=t++[.aB p (s+1)]:=by
 unfold aY
 rw[if_neg (by omega),xr]
 show (if s=s then (t++[Item.aB p s]).dropLast++[.aB p (s+1)] else _)=_
 rw[if_pos rfl,List.dropLast_concat]
theorem C2(t:List Item)(p:Int):∀ (n:Nat) (s:Int),0≤s→(run s n).foldl aY (t++[.aB p s])=t++[.aB p (s+n)]
 | 0,s,_=>by simp[run]
 | n+1,s,h=>by
  rw[run,qt,La t p s h,C2 t p n (s+1) (by omega)]
  congr 3
  omega
theorem Ik(t:List Item)(it:Item)(h:qf it):bz t it=(iT it).foldl aY t:=by
 cases it with
 | win n =>
  show bz t (.win n)=aY t (-1-n)
  rw[MY t h]
  unfold bz
  cases t.getLast? with
  | none=>rfl
  | some l=>cases l <;> rfl
 | aB a b =>
  obtain⟨a0,ab⟩:=h
  have e:(b-a).toNat=(b-(a+1)).toNat+1:=by omega
  show bz t (.aB a b)=(run a (b-a).toNat).foldl aY t
  rw[e,run,qt]
  have fin:∀ (u:List Item) (p:Int),(run (a+1) (b-(a+1)).toNat).foldl aY (u++[.aB p (a+1)])=u++[.aB p b]:=fun u p=>by
   rw[C2 u p _ _ (by omega)]
   congr 3
   omega
  unfold bz aY
  rw[if_neg (by omega)]
  cases t.getLast? with
  | none=>exact (fin t a).symm
  | some l =>
   cases l with
   | win n=>exact (fin t a).symm
   | aB p q =>
    show (if q=a then t.dropLast++[Item.aB p b] else t++[Item.aB a b])=List.foldl aY (if q=a then t.dropLast++[Item.aB p (a+1)] else t++[Item.aB a (a+1)]) _
    by_cases c:q=a
    ·rw[if_pos c,if_pos c,fin]
    ·rw[if_neg c,if_neg c,fin]
theorem qg(its:List Item)(h:iS its):Ii its=itemsOf (dI its):=by
 unfold Ii itemsOf dI
 rw[oZ]
 have z:∀ (its:List Item) (t:List Item),iS its→its.foldl bz t=its.foldl (fun c a=>(iT a).foldl aY c) t:=by
  intro its
  induction its with
  | nil=>intro t _;rfl
  | cons it its ih =>
   intro t h
   rw[qt,qt,Ik t it (h it (by simp))]
   exact ih _ fun i hi=>h i (sJ _ hi)
 exact z its [] h
theorem Lb(t:List Item)(e:Int)(h:iS t):dI (aY t e)=dI t++[e]∧iS (aY t e):=by
 unfold aY
 by_cases c:e<0
 ·rw[if_pos c,gZ,pK]
  refine⟨?_,h.append (iS.one (by show 0≤-1-e;omega))⟩
  show dI t++[-1-(-1-e)]=_
  rw[show -1-(-1-e)=e by omega]
 ·rw[if_neg c]
  have pl:dI (t++[.aB e (e+1)])=dI t++[e]∧iS (t++[.aB e (e+1)]):=by
   refine⟨?_,h.append (iS.one ⟨by omega,by omega⟩)⟩
   rw[gZ,pK]
   show _++run e (e+1-e).toNat=_
   rw[show (e+1-e).toNat=1 by omega]
   rfl
  rcases vn t with rfl|⟨t',l,rfl⟩
  ·exact pl
  ·rw[sC]at h pl ⊢
   rw[xr]
   cases l with
   | win n=>exact pl
   | aB a b =>
    show dI (if b=e then (t'++[Item.aB a b]).dropLast++[.aB a (e+1)] else (t'++[Item.aB a b])++[.aB e (e+1)])=_∧iS (if b=e then (t'++[Item.aB a b]).dropLast++[.aB a (e+1)] else (t'++[Item.aB a b])++[.aB e (e+1)])
    by_cases hb:b=e
    ·subst hb
     obtain⟨a0,ab⟩:0≤a∧a<b:=h (.aB a b) (by simp)
     rw[if_pos rfl,List.dropLast_concat]
     refine⟨?_,iS.append (fun i hi=>h i (List.mem_append_left _ hi)) (iS.one ⟨a0,by omega⟩)⟩
     rw[gZ,gZ,pK,pK,qD]
     congr 1
     show run a (b+1-a).toNat=run a (b-a).toNat++[b]
     rw[show (b+1-a).toNat=(b-a).toNat+1 by omega,wA]
     congr 2
     omega
    ·rw[if_neg hb]
     exact pl
theorem rJ(es:List Int):dI (itemsOf es)=es∧iS (itemsOf es):=by
 have z:∀ (es:List Int) (t:List Item),iS t→dI (es.foldl aY t)=dI t++es∧iS (es.foldl aY t):=by
  intro es
  induction es with
  | nil=>intro t h;exact⟨by simp,h⟩
  | cons e es ih =>
   intro t h
   obtain⟨h1,h2⟩:=Lb t e h
   obtain⟨h3,h4⟩:=ih _ h2
   exact⟨by rw[qt,h3,h1,qD];rfl,h4⟩
 obtain⟨h1,h2⟩:=z es [] (fun i hi=>by cases hi)
 exact⟨by unfold itemsOf;rw[h1];rfl,h2⟩
theorem pL(r:Row):dI (dW r)=aS r:=by
 unfold dI dW aS
 rw[List.flatMap_map]
 rfl
theorem wO{r:Row}(h:lU r):iS (dW r):=by
 intro it hm
 unfold dW at hm
 obtain⟨p,hp,rfl⟩:=List.mem_map.mp hm
 exact h p hp
abbrev qQ:=Item × Row × Int × Int
def dQ(sh:Int→List Int)(it:Item):Row:=sf (fun n=>rowOf (sh n)) it
def bR(sh:Int→List Int):Int→List Item→List qQ
 | _,[]=>[]
 | f,it::r=>(it,dQ sh it,f,f+tot (dQ sh it))::bR sh (f+tot (dQ sh it)) r
theorem wQ(sh:Int→List Int)(b:List Item):∀ (a:List Item) (f:Int),bR sh f (a++b)=bR sh f a++bR sh (f+tot (bh sh a)) b
 | [],f=>by simp[bR,bh,tot]
 | it::a,f=>by
  rw[List.cons_append,bR,bR,wQ sh b a,List.cons_append]
  have e:bh sh (it::a)=dQ sh it++bh sh a:=by unfold bh;rw[mq];rfl
  rw[e,An,Int.add_assoc]
theorem C3(sh:Int→List Int):∀ (a:List Item) (f:Int),(bR sh f a).length=a.length
 | [],_=>rfl
 | _::a,f=>by rw[bR,nG,nG,C3 sh a]
def pM(N:Addr→Prop)(H:Hp)(v:V)(d:qQ):Prop:=∃ (a ra:Addr) (x:V),v=.ref a∧H a=some (.tup [x,.ref ra,.int d.2.2.1,.int d.2.2.2])∧cS H x d.1∧bQ H ra d.2.1∧N ra
theorem pM.same{N:Addr→Prop}{H H':Hp}{v:V}{d:qQ}(s:aH H H'):pM N H v d→pM N H' v d:=fun ⟨a,ra,x,e,h,i,r,n⟩=>⟨a,ra,x,e,s _ _ h,i.same s,r.same s,n⟩
theorem pM.keep{N:Addr→Prop}{H H':Hp}{v:V}{d:qQ}{q:Addr}{xs:List V}(hq:H q=some (.lst xs))(nq:∀ a,N a→a≠q)(k:cO q H H'):pM N H v d→pM N H' v d:=fun ⟨a,ra,x,e,h,i,r,n⟩=>⟨a,ra,x,e,k a _ h (by
 intro z
 rw[z,hq]at h
 cases h),i.keep hq k,r.keep hq (nq ra n) k,n⟩
def ya(H:Hp)(kvs:List (Key × V))(sh:Int→List Int)(its:List Item):Prop:=∀ n,Item.win n∈its→∃ a,cC kvs (Sum.inl n)=some (.ref a)∧bQ H a (rowOf (sh n))
theorem ya.same{H H':Hp}{kvs:List (Key × V)}{sh:Int→List Int}{its:List Item}(s:aH H H')(h:ya H kvs sh its):ya H' kvs sh its:=fun n hn=>by
 obtain⟨a,e,r⟩:=h n hn
 exact⟨a,e,r.same s⟩
def aD(p:Int)(d:qQ):List Item:=if d.2.2.2≤p then [d.1] else if p≤d.2.2.1 then [] else dW (bW (nP 0 (p-d.2.2.1) 0 d.2.1))
def bD(p:Int)(d:qQ):List Item:=if d.2.2.2≤p then [] else if p≤d.2.2.1 then [d.1] else dW (bW (nP (p-d.2.2.1) (d.2.2.2-d.2.2.1) 0 d.2.1))
def aE(sh:Int→List Int)(p:Int):Int→List Int→List Int
 | _,[]=>[]
 | f,e::r=>(if f+(mC sh e).length≤p then [e] else if p≤f then [] else (mC sh e).take (p-f).toNat)++aE sh p (f+(mC sh e).length) r
def bE(sh:Int→List Int)(p:Int):Int→List Int→List Int
 | _,[]=>[]
 | f,e::r=>(if f+(mC sh e).length≤p then [] else if p≤f then [e] else (mC sh e).drop (p-f).toNat)++bE sh p (f+(mC sh e).length) r
theorem gx(sh:Int→List Int)(e:Int)(r:List Int):cz sh (e::r)=mC sh e++cz sh r:=by unfold cz;rw[mq]
theorem rK(sh:Int→List Int)(a b:List Int):cz sh (a++b)=cz sh a++cz sh b:=by unfold cz;rw[List.flatMap_append]
theorem C4(sh:Int→List Int)(p:Int)(y:List Int):∀ (x:List Int) (f:Int),aE sh p f (x++y)=aE sh p f x++aE sh p (f+(cz sh x).length) y
 | [],f=>by simp[aE,cz]
 | e::x,f=>by
  rw[List.cons_append,aE,aE,C4 sh p y x,qD,gx,dU,Int.add_assoc]
  push_cast
  rfl
theorem C5(sh:Int→List Int)(p:Int)(y:List Int):∀ (x:List Int) (f:Int),bE sh p f (x++y)=bE sh p f x++bE sh p (f+(cz sh x).length) y
 | [],f=>by simp[bE,cz]
 | e::x,f=>by
  rw[List.cons_append,bE,bE,C5 sh p y x,qD,gx,dU,Int.add_assoc]
  push_cast
  rfl
theorem qh(sh:Int→List Int){e:Int}(h:0≤e):mC sh e=[e]:=by unfold mC;rw[if_neg (by omega)]
theorem qR(sh:Int→List Int):∀ (n:Nat) (a:Int),0≤a→cz sh (run a n)=run a n
 | 0,_,_=>rfl
 | n+1,a,h=>by rw[run,gx,qh sh h,qR sh n (a+1) (by omega)];rfl
theorem MZ(sh:Int→List Int)(p:Int):∀ (n:Nat) (a f:Int),0≤a→aE sh p f (run a n)=(run a n).take (p-f).toNat
 | 0,_,_,_=>by simp[run,aE]
 | n+1,a,f,h=>by
  rw[run,aE,MZ sh p n (a+1) _ (by omega),qh sh h]
  show (if f+1≤p then [a] else if p≤f then [] else _)++(run (a+1) n).take (p-(f+1)).toNat=_
  by_cases c:f+1≤p
  ·rw[if_pos c,show (p-f).toNat=(p-(f+1)).toNat+1 by omega]
   rfl
  ·rw[if_neg c,if_pos (by omega),show (p-f).toNat=0 by omega,show (p-(f+1)).toNat=0 by omega]
   rfl
theorem M0(sh:Int→List Int)(p:Int):∀ (n:Nat) (a f:Int),0≤a→bE sh p f (run a n)=(run a n).drop (p-f).toNat
 | 0,_,_,_=>by simp[run,bE]
 | n+1,a,f,h=>by
  rw[run,bE,M0 sh p n (a+1) _ (by omega),qh sh h]
  show (if f+1≤p then [] else if p≤f then [a] else _)++(run (a+1) n).drop (p-(f+1)).toNat=_
  by_cases c:f+1≤p
  ·rw[if_pos c,show (p-f).toNat=(p-(f+1)).toNat+1 by omega]
   rfl
  ·rw[if_neg c,if_pos (by omega),show (p-f).toNat=0 by omega,show (p-(f+1)).toNat=0 by omega]
   rfl
theorem Gi(sh:Int→List Int){n:Int}(h:0≤n):mC sh (-1-n)=sh n:=by
 unfold mC
 rw[if_pos (by omega),show -1-(-1-n)=n by omega]
theorem zJ(sh:Int→List Int)(it:Item)(h:qf it):∀ q∈dQ sh it,q.1≤q.2:=by
 cases it with
 | win n=>exact qL _
 | aB a b =>
  intro q hq
  have:q=(a,b):=by simpa [dQ,sf] using hq
  subst this
  have:=h.2
  show a≤b
  omega
theorem pN(sh:Int→List Int)(it:Item)(h:qf it):aS (dQ sh it)=cz sh (iT it):=by
 cases it with
 | win n =>
  show aS (rowOf (sh n))=cz sh [-1-n]
  rw[ff,gx,Gi sh h]
  simp[cz]
 | aB a b =>
  show aS [(a,b)]=cz sh (run a (b-a).toNat)
  rw[iL,qR sh _ _ h.1]
  rfl
theorem qS(sh:Int→List Int)(it:Item)(h:qf it):tot (dQ sh it)=(cz sh (iT it)).length:=by
 rw[← pN sh it h,tU _ (zJ sh it h)]
theorem UZ(sh:Int→List Int)(p f:Int)(it:Item)(h:qf it):dI (aD p (it,dQ sh it,f,f+tot (dQ sh it)))=aE sh p f (iT it):=by
 have tt:=qS sh it h
 have sp:dI (dW (bW (nP 0 (p-f) 0 (dQ sh it))))=(cz sh (iT it)).take (p-f).toNat:=by
  rw[pL,vv _ _ _ (zJ sh it h),pN sh it h]
  rfl
 unfold aD
 show dI (if f+tot (dQ sh it)≤p then [it] else if p≤f then [] else dW (bW (nP 0 (p-f) 0 (dQ sh it))))=_
 rw[tt]
 cases it with
 | win n =>
  have e1:cz sh (iT (.win n))=mC sh (-1-n):=by show cz sh [-1-n]=_;rw[gx];simp[cz]
  rw[e1]at sp ⊢
  show _=aE sh p f [-1-n]
  rw[aE,aE,kj]
  split
  ·rfl
  ·split
   ·rfl
   ·exact sp
 | aB a b =>
  have e1:cz sh (iT (.aB a b))=run a (b-a).toNat:=qR sh _ _ h.1
  rw[e1]at sp ⊢
  show _=aE sh p f (run a (b-a).toNat)
  rw[MZ sh p _ _ _ h.1]
  have rl:=gj a (b-a).toNat
  split
  ·rename_i c
   rw[pK,vj (by omega)]
   rfl
  ·split
   ·rename_i c
    rw[show (p-f).toNat=0 by omega]
    rfl
   ·exact sp
theorem U0(sh:Int→List Int)(p f:Int)(it:Item)(h:qf it):dI (bD p (it,dQ sh it,f,f+tot (dQ sh it)))=bE sh p f (iT it):=by
 have tt:=qS sh it h
 have sp:dI (dW (bW (nP (p-f) (f+tot (dQ sh it)-f) 0 (dQ sh it))))=(cz sh (iT it)).drop (p-f).toNat:=by
  rw[pL,vv _ _ _ (zJ sh it h),pN sh it h,vj (by rw[tt];omega)]
 unfold bD
 show dI (if f+tot (dQ sh it)≤p then [] else if p≤f then [it] else dW (bW (nP (p-f) (f+tot (dQ sh it)-f) 0 (dQ sh it))))=_
 have c1:(f+tot (dQ sh it)≤p)=(f+(cz sh (iT it)).length≤p):=by rw[tt]
 simp only[c1]
 cases it with
 | win n =>
  have e1:cz sh (iT (.win n))=mC sh (-1-n):=by show cz sh [-1-n]=_;rw[gx];simp[cz]
  rw[e1]at sp ⊢
  show _=bE sh p f [-1-n]
  rw[bE,bE,kj]
  split
  ·rfl
  ·split
   ·rfl
   ·exact sp
 | aB a b =>
  have e1:cz sh (iT (.aB a b))=run a (b-a).toNat:=qR sh _ _ h.1
  rw[e1]at sp ⊢
  show _=bE sh p f (run a (b-a).toNat)
  rw[M0 sh p _ _ _ h.1]
  have rl:=gj a (b-a).toNat
  split
  ·rename_i c
   rw[List.drop_of_length_le (by omega)]
   rfl
  ·split
   ·rename_i c
    rw[pK,show (p-f).toNat=0 by omega]
    rfl
   ·exact sp
theorem Gj(sh:Int→List Int)(p:Int):∀ (its:List Item) (f:Int),iS its→dI ((bR sh f its).flatMap (aD p))=aE sh p f (dI its)
 | [],f,_=>rfl
 | it::r,f,h=>by
  have h1:=h it (by simp)
  rw[bR,mq,gZ,UZ sh p f it h1,Gj sh p r _ fun i hi=>h i (sJ _ hi)]
  have e:dI (it::r)=iT it++dI r:=by unfold dI;rw[mq]
  rw[e,C4,qS sh it h1]
theorem C6(sh:Int→List Int)(p:Int):∀ (its:List Item) (f:Int),iS its→dI ((bR sh f its).flatMap (bD p))=bE sh p f (dI its)
 | [],f,_=>rfl
 | it::r,f,h=>by
  have h1:=h it (by simp)
  rw[bR,mq,gZ,U0 sh p f it h1,C6 sh p r _ fun i hi=>h i (sJ _ hi)]
  have e:dI (it::r)=iT it++dI r:=by unfold dI;rw[mq]
  rw[e,C5,qS sh it h1]
def RM(sh:Int→List Int)(its:List Item):Prop:=∀ n,Item.win n∈its→∀ x∈sh n,0≤x
theorem OW(sh:Int→List Int)(it:Item)(h:qf it)(g:∀ n,it=.win n→∀ x∈sh n,0≤x):pF (dQ sh it):=by
 cases it with
 | win n=>exact (CU (g n rfl)).nn
 | aB a b =>
  intro q hq
  have:q=(a,b):=by simpa [dQ,sf] using hq
  subst this
  exact⟨h.1,by have:=h.2;show a≤b;omega⟩
theorem DV(sh:Int→List Int):∀ (its:List Item) (f:Int),iS its→RM sh its→∀ d∈bR sh f its,qf d.1∧pF d.2.1
 | [],_,_,_=>fun d hd=>by cases hd
 | it::r,f,h,g=>by
  intro d hd
  rw[bR]at hd
  rcases List.mem_cons.mp hd with rfl|z
  ·exact⟨h it (by simp),OW sh it (h it (by simp)) fun n e=>g n (by rw[e];simp)⟩
  ·exact DV sh r _ (fun i hi=>h i (sJ _ hi)) (fun n hn=>g n (sJ _ hn)) d z
theorem Gk{a b:Int}{r:Row}(h:pF r):iS (dW (bW (nP a b 0 r))):=wO (qP (Az a b r 0 h))
theorem U6{p:Int}{d:qQ}(h:qf d.1)(g:pF d.2.1):iS (aD p d):=by
 unfold aD
 split
 ·exact iS.one h
 ·split
  ·exact fun i hi=>by cases hi
  ·exact Gk g
theorem U8{p:Int}{d:qQ}(h:qf d.1)(g:pF d.2.1):iS (bD p d):=by
 unfold bD
 split
 ·exact fun i hi=>by cases hi
 ·split
  ·exact iS.one h
  ·exact Gk g
theorem DW{g:qQ→List Item}{l:List qQ}(h:∀ d∈l,iS (g d)):iS (l.flatMap g):=fun it hm=>by
 obtain⟨d,hd,hm⟩:=List.mem_flatMap.mp hm
 exact h d hd it hm
theorem zK(r:Row):(dW r).length=r.length:=by unfold dW;rw[cA]
theorem ud(a b:Int)(r:Row):(dW (bW (nP a b 0 r))).length≤r.length:=by
 rw[zK]
 exact kT (qO _) (o7 a b r 0)
theorem AR(sh:Int→List Int){g:qQ→List Item}(hg:∀ d,(g d).length≤d.2.1.length+1):∀ (its:List Item) (f:Int),((bR sh f its).flatMap g).length≤(bh sh its).length+its.length
 | [],_=>by simp[bR]
 | it::r,f=>by
  rw[bR,mq,dU]
  have a:=hg (it,dQ sh it,f,f+tot (dQ sh it))
  have b:=AR sh hg r (f+tot (dQ sh it))
  have e:bh sh (it::r)=dQ sh it++bh sh r:=by unfold bh;rw[mq];rfl
  rw[e,dU,nG]
  simp only at a
  omega
theorem RN(p:Int)(d:qQ):(aD p d).length≤d.2.1.length+1:=by
 unfold aD
 split
 ·simp
 ·split
  ·simp
  ·exact kT (ud _ _ _) (by omega)
theorem RO(p:Int)(d:qQ):(bD p d).length≤d.2.1.length+1:=by
 unfold bD
 split
 ·simp
 ·split
  ·simp
  ·exact kT (ud _ _ _) (by omega)
theorem lF{α β:Type}(g:α→List β)(l:List α)(i:Nat):((l.take i).flatMap g).length≤(l.flatMap g).length:=by
 have e:l.flatMap g=(l.take i).flatMap g++(l.drop i).flatMap g:=by rw[← List.flatMap_append,List.take_append_drop]
 rw[e,dU]
 omega
theorem ue{α β:Type}(g:α→List β){l:List α}{i:Nat}{a:α}(h:l[i]?=some a):(l.take (i+1)).flatMap g=(l.take i).flatMap g++g a:=by
 rw[take_snoc h,List.flatMap_append]
 simp
theorem wR(sh:Int→List Int){its:List Item}{it:Item}(h:it∈its):(dQ sh it).length≤(bh sh its).length:=by
 obtain⟨a,b,rfl⟩:=List.append_of_mem h
 rw[fy]
 have e:bh sh (it::b)=dQ sh it++bh sh b:=by unfold bh;rw[mq];rfl
 rw[e,dU,dU]
 omega
def Jy(A B:Addr)(H H':Hp):Prop:=∀ a o,H a=some o→a≠A→a≠B→H' a=some o
theorem Jy.tup{A B:Addr}{H H':Hp}{xs ys:List V}(k:Jy A B H H')(hA:H A=some (.lst xs))(hB:H B=some (.lst ys)):∀ a zs,H a=some (.tup zs)→H' a=some (.tup zs):=fun a zs h=>k a _ h (fun z=>by
 rw[z,hA]at h
 cases h) (fun z=>by
 rw[z,hB]at h
 cases h)
theorem cS.tups{H H':Hp}{v:V}{it:Item}(t:∀ a xs,H a=some (.tup xs)→H' a=some (.tup xs)):cS H v it→cS H' v it:=fun ⟨a,e,h⟩=>⟨a,e,t a _ h⟩
theorem pM.Qd{N:Addr→Prop}{A B:Addr}{H H':Hp}{v:V}{d:qQ}{xs ys:List V}(hA:H A=some (.lst xs))(hB:H B=some (.lst ys))(n:∀ a,N a→a≠A∧a≠B)(k:Jy A B H H'):pM N H v d→pM N H' v d:=fun ⟨a,ra,x,e,h,i,⟨as,hr,hp⟩,hn⟩ =>
 ⟨a,ra,x,e,k.tup hA hB _ _ h,i.tups (k.tup hA hB),⟨as,k _ _ hr (n ra hn).1 (n ra hn).2,hp.tups (k.tup hA hB)⟩,hn⟩
theorem b8.app{α β:Type}{R:α→β→Prop}:∀ {as cs:List α} {bs ds:List β},b8 R as bs→b8 R cs ds→b8 R (as++cs) (bs++ds)
 | _,_,_,_,.nil,h=>h
 | _,_,_,_,.cons r t,h=>.cons r (t.app h)
structure nR(H1:Hp)(A B:Addr)(l1 l2:List Item)(H2:Hp):Prop where
 a:∃ vs,H2 A=some (.lst vs)∧b8 (cS H2) vs l1
 b:∃ vs,H2 B=some (.lst vs)∧b8 (cS H2) vs l2
 k:Jy A B H1 H2
theorem nR.same{H1 H2 H3:Hp}{A B:Addr}{l1 l2:List Item}(p:nR H1 A B l1 l2 H2)(s:aH H2 H3):nR H1 A B l1 l2 H3:=by
 obtain⟨⟨v1,h1,t1⟩,⟨v2,h2,t2⟩,k⟩:=p
 exact⟨⟨v1,s _ _ h1,t1.mono fun _ _ h=>h.same s⟩,⟨v2,s _ _ h2,t2.mono fun _ _ h=>h.same s⟩,fun a o e n m=>s _ _ (k a o e n m)⟩
theorem nR.Jz{H1 H2:Hp}{A B:Addr}{l1 l2 l3:List Item}{v1 v3:List V}(p:nR H1 A B l1 l2 H2)(n:A≠B)(h1:H2 A=some (.lst v1))(t3:b8 (cS H2) v3 l3):nR H1 A B (l1++l3) l2 (upd H2 A (.lst (v1++v3))):=by
 obtain⟨⟨v1',h1',t1⟩,⟨v2,h2,t2⟩,k⟩:=p
 rw[h1]at h1'
 cases h1'
 have kp:∀ v i,cS H2 v i→cS (upd H2 A (.lst (v1++v3))) v i:=fun v i h=>h.keep h1 (aK A _ _)
 refine⟨⟨_,af,(t1.mono kp).app (t3.mono kp)⟩,⟨v2,by rw[aF n.symm];exact h2,t2.mono kp⟩,fun a o e m1 m2=>?_⟩
 rw[aF m1]
 exact k a o e m1 m2
theorem nR.JA{H1 H2:Hp}{A B:Addr}{l1 l2 l3:List Item}{v2 v3:List V}(p:nR H1 A B l1 l2 H2)(n:A≠B)(h2:H2 B=some (.lst v2))(t3:b8 (cS H2) v3 l3):nR H1 A B l1 (l2++l3) (upd H2 B (.lst (v2++v3))):=by
 obtain⟨⟨v1,h1,t1⟩,⟨v2',h2',t2⟩,k⟩:=p
 rw[h2]at h2'
 cases h2'
 have kp:∀ v i,cS H2 v i→cS (upd H2 B (.lst (v2++v3))) v i:=fun v i h=>h.keep h2 (aK B _ _)
 refine⟨⟨v1,by rw[aF n];exact h1,t1.mono kp⟩,⟨_,af,(t2.mono kp).app (t3.mono kp)⟩,fun a o e m1 m2=>?_⟩
 rw[aF m2]
 exact k a o e m1 m2
theorem AS{rows:gB}{sh:Int→List Int}(MR:Sound rows)(hrk:HQ rows)(hsh:Gg rows sh):∀ x:Int,0≤x→x<rows.length→∀ y∈sh x,0≤y:=by
 obtain⟨rk,hb,hd⟩:=hrk
 have key:∀ (k:Nat) (x:Int),rk x<k→0≤x→x<rows.length→∀ y∈sh x,0≤y:=by
  intro k
  induction k with
  | zero=>intro x h;omega
  | succ k ih =>
   intro x hx x0 x1 y hy
   have he:rows[x.toNat]?=some rows[x.toNat]:=nU (by omega)
   rw[hsh x _ x0 he]at hy
   unfold cz at hy
   obtain⟨e,hm,hy⟩:=List.mem_flatMap.mp hy
   unfold mC at hy
   by_cases c:e<0
   ·rw[if_pos c]at hy
    have nx:BP rows x (-1-e):=⟨x0,_,he,CP.mpr ⟨by omega,by rw[show -1-(-1-e)=e by omega];exact hm⟩⟩
    obtain⟨a,b⟩:=MR.OC nx
    have:=hd _ _ nx
    exact ih _ (by omega) a b y hy
   ·rw[if_neg c]at hy
    rw[List.mem_singleton.mp hy]
    omega
 exact fun x=>key (rk x+1) x (Nat.lt_succ_self _)
theorem zL{rows:gB}{s n:Int}{es:List Int}(h0:0≤s)(he:rows[s.toNat]?=some es)(h:Item.win n∈itemsOf es):BP rows s n:=by
 refine⟨h0,es,he,?_⟩
 rw[← j5]
 unfold eX
 rw[List.mem_filterMap]
 exact⟨.win n,h,rfl⟩
structure vE(H:Hp)(r:Addr)(rows:gB)(sh:Int→List Int):Prop where
 at_:iM H r (rows.map itemsOf)
 len:rows.length≤1000
 ents:∀ es∈rows,es.length≤1000
 snd:Sound rows
 rk:HQ rows
 U9:Gg rows sh
 bd:∀ x:Int,0≤x→x<rows.length→(sh x).length≤10000
theorem vE.same{H H':Hp}{r:Addr}{rows:gB}{sh:Int→List Int}(s:aH H H')(h:vE H r rows sh):vE H' r rows sh:={ h with at_:=h.at_.same s }
structure Va(H:Hp)(r:Addr)(rows:gB)(sh:Int→List Int)(s:Int)(es:List Int)(Ia:List V)(b:Addr):Prop where
 he:rows[s.toNat]?=some es
 hr:H r=some (.lst Ia)
 ix:xF Ia s=some (.ref b)
 it:bx H (.ref b) (itemsOf es)
 il:(itemsOf es).length≤1000
 rl:(bh sh (itemsOf es)).length≤10000
 tt:tot (rowOf (sh s))=(sh s).length
 se:sh s=cz sh es
theorem vE.one{H:Hp}{r:Addr}{rows:gB}{sh:Int→List Int}{s:Int}(h:vE H r rows sh)(h0:0≤s)(h1:s<rows.length):∃ es Ia b,Va H r rows sh s es Ia b:=by
 have oj:rows[s.toNat]?=some rows[s.toNat]:=nU (by omega)
 obtain⟨Ia,hr2,wK⟩:=h.at_
 obtain⟨vi,OP,hI⟩:=wK.get' (i:=s.toNat) (b:=itemsOf rows[s.toNat]) (by rw[jV,oj];rfl)
 obtain⟨b,NG,rfl,hb,hit⟩:=id hI
 have z:=eV OP
 rw[show ((s.toNat:Nat):Int)=s by omega]at z
 have hil:=tZ rows[s.toNat] []
 have hel:=h.ents _ (uA oj)
 obtain⟨Hu,hok⟩:=AQ sh rows[s.toNat]
 have se:=h.U9 s _ h0 oj
 refine⟨_,Ia,b,oj,hr2,z,hI,?_,?_,?_,se⟩
 ·show (rows[s.toNat].foldl aY []).length≤_
  simp only[qu]at hil
  omega
 ·have q:=vD sh (itemsOf rows[s.toNat]) hok
  rw[Hu,← se]at q
  have:=h.bd s h0 h1
  omega
 ·rw[← tU _ (qL _),ff]
theorem qx.small{i:Int}(h0:0≤i)(h1:i≤10000):qx i:=by
 have a:(0:Int)<10^60:=by decide
 have b:(10000:Int)<10^60:=by decide
 exact⟨by omega,by omega⟩
theorem uf(ns:List Int):(rowOf ns).length≤ns.length:=by
 have z:=FD ns []
 simpa [rowOf] using z
def lg(sh:Int→List Int)(p:Int)(es new:List Int):List Int:=if new=[] then es else aE sh p 0 es++new++bE sh p 0 es
inductive zM(vs:List V)(H:Hp)(Q:VK)(E:XK):Prop
 | mk (r S:Addr) (its:List Item) (kvs:List (Key × V)) (sh:Int→List Int) (N:Addr→Prop) (_:vs=[.ref r,.ref S]) (_:bx H (.ref r) its) (_:H S=some (.dK kvs)) (_:ya H kvs sh its) (_:its.length≤100000) (_:(∀ it∈its,(dQ sh it).length≤100000)) (_:(∀ n a,Item.win n∈its→cC kvs (Sum.inl n)=some (.ref a)→N a)) (_:(∀ a,H a=none→N a)) (_ :
 ∀ (o:Addr) (vs':List V) (H':Hp),H' o=some (.lst vs')→b8 (pM N H') vs' (bR sh 0 its)→aH H H'→H o=none→Q (.ref o) H'):zM vs H Q E
theorem rL:aJ ["items","views","told","first","item","row","last"] ["items","views"] (ay rG):=⟨rfl,rfl,rfl,by decide +kernel,rfl,by decide +kernel,by decide +kernel⟩
theorem Gm{f fI fZ:Addr}{fd BG Tg:FuncData}(F:iI K "dealt" "dealt" rG f fd)(T:n9 mg)(cB:aA K mg "item_row" fH xm fI BG)(ju:aA K mg "size" ssize eU fZ Tg):aC P w K mg base bU 2 f fd Dj zM:=by
 have xZ:aC P w K mg base bU 1 fI BG xm ua:=yM cB.F T
 have Jv:aC P w K mg base bU 1 fZ Tg eU DA:=Ju ju.F T
 refine F.ok rL (fun vs H Q E h=>?_) (fun cdv A outer s H vs Q E hr h=>?_)
 ·obtain⟨r,S,its,kvs,sh,N,rfl,_⟩:=h
  rfl
 obtain⟨r,S,its,kvs,sh,N,rfl,⟨r',NG,e,hr1,hit⟩,hS,hW,hlen,hrl,nW,nN,k⟩:=h
 cases e
 refine⟨_,(ak (aO (i:=2) rL.nd rfl (Or.inl rfl) (bH ah))
   (ak (aO (i:=3) rL.nd rfl (Or.inl rfl) az)
   (ak (jr PassesOwn.never rfl (cM (pv 0)) (aW (i:=4) rL.nd rfl (Or.inl rfl))
   (ak (aO (i:=5) rL.nd rfl (Or.inl rfl) (aN cB xZ hr (aa (pv 4) (aa (pv 1) ah))))
   (ak (aO (i:=6) rL.nd rfl (Or.inl rfl) (bw iy (pv 3) (j4.zF ju (T.qy _ ju.m) Jv hr (aa (pv 5) ah))))
   (ak (bq (je rA vg vh cP (pv 2) (aa (iz (aa (pv 4) (aa (pv 5) (aa (pv 3) (aa (pv 6) ah))))) ah)))
   (ao (aO (i:=3) rL.nd rfl (Or.inl rfl) (pv 6)))))))
   (ao (aT (pv 2)))))),?_⟩
 refine⟨(by show 0≤sizeLine;decide),fun q hq=>?_⟩
 have s0:aH H (upd H q (.lst [])):=aj hq _
 refine⟨_,rfl,r,rfl,⟨_,bN.of (s0 _ _ hr1)⟩,jy (K:=K) (a:=r) (xs:=NG) (fun i σ H2=>∃ (vs:List V) (u1 u2 u3:Option V),σ=[some (.ref r),some (.ref S),some (.ref q),some (.int (0+tot (bh sh (its.take i)))),u1,u2,u3]∧H2 q=some (.lst vs)∧b8 (pM (fun a=>N a∧a≠q) H2) vs (bR sh 0 (its.take i))∧aH H H2)
  ⟨[],none,none,none,rfl,af,.nil,s0⟩ (fun i σ H2 _ ⟨_,_,_,_,_,_,_,s⟩=>bN.of (s _ _ hr1)) ?_ ?_⟩
 ·rintro i x σ H2 hi ⟨vs,u1,u2,u3,rfl,hq2,hb,s⟩
  obtain⟨it,ei,hiv⟩:=hit.get hi
  have im:=uA ei
  have bl:=hb.len
  rw[C3,rj]at bl
  refine⟨_,rfl,_,rfl,x,it,S,kvs,fun n=>rowOf (sh n),rfl,hiv.same s,s _ _ hS,fun n hn=>(hW.same s) n (by rw[← hn];exact im),fun a H3 R3 s3 w3=>?_⟩
  have na:N a∧a≠q:=by
   rcases w3 with ⟨n,rfl,hv⟩|h0
   ·refine⟨nW n a im hv,?_⟩
    obtain⟨b,hb1,⟨as,hb2,_⟩⟩:=hW n im
    rw[hv]at hb1
    cases hb1
    exact au hb2 hq
   ·exact⟨nN a (aX s h0),(au hq2 h0).symm⟩
  refine⟨_,rfl,_,rfl,a,dQ sh it,rfl,R3,kT (hrl it im) (by decide),fun H4 s4=>⟨_,_,rfl,rfl,?_⟩⟩
  have Vb:=s4 _ _ (s3 _ _ hq2)
  refine⟨_,rfl,.inl ⟨rfl,_,bN.of Vb⟩,_,rfl,_,rfl,_,rfl,_,rfl,(by show 4≤sizeLine;decide),fun t ht=>?_⟩
  have RP:=aj ht (.tup [x,.ref a,.int (0+tot (bh sh (its.take i))),.int (0+tot (bh sh (its.take i))+tot (dQ sh it))]) _ _ Vb
  refine⟨q,_,_,rfl,rfl,RP,aL (by omega),?_⟩
  refine⟨_,rfl,_,some x,some (.ref a),some (.int (0+tot (bh sh (its.take i))+tot (dQ sh it))),?_,af,?_,cD hq (s.trans (s3.trans (s4.trans (aj ht _)))) (aK q _ _)⟩
  ·have e:bh sh (its.take (i+1))=bh sh (its.take i)++dQ sh it:=by rw[take_snoc ei,fy,mG];rfl
   rw[e,An,← Int.add_assoc]
   rfl
  ·have e:bR sh 0 (its.take (i+1))=bR sh 0 (its.take i)++[(it,dQ sh it,0+tot (bh sh (its.take i)),0+tot (bh sh (its.take i))+tot (dQ sh it))]:=by rw[take_snoc ei,wQ];rfl
   rw[e]
   have Ro:t≠q:=(au Vb ht).symm
   refine b8.snoc (hb.mono fun v d h=>(((h.same s3).same s4).same (aj ht _)).keep RP (fun a h=>h.2) (aK q _ _)) ⟨t,a,x,rfl,?_,?_,?_,na⟩
   ·rw[aF Ro,af]
   ·exact ((((hiv.same s).same s3).same s4).same (aj ht _)).keep RP (aK q _ _)
   ·exact (((R3.same s4).same (aj ht _))).keep RP na.2 (aK q _ _)
 ·rintro σ H2 ⟨vs,u1,u2,u3,rfl,hq2,hb,s⟩
  rw[hit.len,kQ]at hb
  exact⟨_,rfl,k q vs H2 hq2 (hb.mono fun v d ⟨a,ra,x,e,h,i,r,n⟩=>⟨a,ra,x,e,h,i,r,n.1⟩) s hq⟩
inductive vF(vs:List V)(H:Hp)(Q:VK)(E:XK):Prop
 | mk (r S o:Addr) (p:Int) (its KG:List Item) (kvs:List (Key × V)) (sh:Int→List Int) (_:vs=[.ref r,.ref S,.int p,.ref o]) (_:bx H (.ref r) its) (_:H S=some (.dK kvs)) (_:ya H kvs sh its) (_:bx H (.ref o) KG) (_:iS its) (_:iS KG) (_:RM sh its) (_:its.length≤50000) (_:(bh sh its).length≤50000) (_:KG.length≤50000) (_ :
 ∀ (q:Addr) (H':Hp),bx H' (.ref q) (itemsOf (aE sh p 0 (dI its)++dI KG++bE sh p 0 (dI its)))→aH H H'→H q=none→Q (.ref q) H'):vF vs H Q E
theorem ic:aJ ["items","views","place","others","ahead","behind","item","row","first","last"] ["items","views","place","others"] (ay mD):=⟨rfl,rfl,rfl,by decide +kernel,rfl,by decide +kernel,by decide +kernel⟩
theorem DX{f fI fZ fP fS fG fK fD:Addr}{fd BG Tg KP KO WS fdK Vc:FuncData}(F:iI K "put_among" "put_among" mD f fd)(T:n9 mg)(cB:aA K mg "item_row" fH xm fI BG)(ju:aA K mg "size" ssize eU fZ Tg)(gu:aA K mg "plain" lO eU fP KP)(gY:aA K mg "pieces" mR nE fS KO)(jO:aA K mg "goes_on" lR EW fG WS)(cV:aA K mg "plain_items" gV nF fK fdK)(pO:aA K mg "dealt" rG Dj fD Vc){fN:Addr}{M4:FuncData}(gy:aA K mg "inked" rF eU fN M4):aC P w K mg base bU 3 f fd LD vF:=by
 have Il:aC P w K mg base bU 2 fD Vc Dj zM:=Gm pO.F T cB ju
 have qe:aC P w K mg base bU 1 fS KO nE sV:=xW gY.F T
 have rM:aC P w K mg base bU 2 fN M4 eU uc:=wN gy.F T gu
 have j8:aC P w K mg base bU 2 fK fdK nF lW:=pJ cV.F T jO
 refine F.ok ic (fun vs H Q E h=>?_) (fun cdv A outer s H vs Q E hr h=>?_)
 ·obtain⟨r,S,o,p,its,KG,kvs,sh,rfl,_⟩:=h
  rfl
 obtain⟨r,S,o,p,its,KG,kvs,sh,rfl,hI,hS,hW,hO,RQ,ok2,nn,l1,l2,l3,k⟩:=h
 refine⟨_,(ak (aO (i:=4) ic.nd rfl (Or.inl rfl) (bH ah))
   (ak (aO (i:=5) ic.nd rfl (Or.inl rfl) (bH ah))
   (ak (jr PassesOwn.never rfl (cM (aN pO Il hr (aa (pv 0) (aa (pv 1) ah)))) (rD (n:=4) rfl (bL (aW (i:=6) ic.nd rfl (Or.inl rfl)) (bL (aW (i:=7) ic.nd rfl (Or.inl rfl)) (bL (aW (i:=8) ic.nd rfl (Or.inl rfl)) (bL (aW (i:=9) ic.nd rfl (Or.inl rfl)) jX)))))
   (ao (cG (cj lM (pv 9) (pv 2) (bZ _))
   (ao (bq (je rA vg vh cP (pv 4) (aa (pv 6) ah))))
   (ao (cG (cj lM (pv 2) (pv 8) (bZ _))
   (ao (bq (je rA vg vh cP (pv 5) (aa (pv 6) ah))))
   (ak (xA (i:=4) ic.nd rfl (Or.inl rfl) (aN gy rM hr (aa (aN gY qe hr (aa (pv 7) (aa az (aa (bw iV (pv 2) (pv 8)) ah)))) ah)) xU)
   (ao (xA (i:=5) ic.nd rfl (Or.inl rfl) (aN gy rM hr (aa (aN gY qe hr (aa (pv 7) (aa (bw iV (pv 2) (pv 8)) (aa (bw iV (pv 9) (pv 8)) ah)))) ah)) xU))))))))
   (ao (aT (aN cV j8 hr (aa (bw oR (bw oR (pv 4) (pv 3)) (pv 5)) ah))))))),?_⟩
 refine⟨(by show 0≤sizeLine;decide),fun A hA=>⟨(by show 0≤sizeLine;decide),fun B hB=>?_⟩⟩
 have sA:aH H (upd H A (.lst [])):=aj hA _
 have sB:aH _ (upd (upd H A (.lst [])) B (.lst [])):=aj hB _
 have s0:=sA.trans sB
 have M5:A≠B:=au af hB
 have Vd:=aX sA hB
 refine⟨_,rfl,_,rfl,r,S,its,kvs,sh,fun a=>a≠A∧a≠B,rfl,hI.same s0,s0 _ _ hS,hW.same s0,by omega,(fun it hi=>by have:=wR sh hi;omega),?_,?_,fun D dv H1 hD hdl s1 _=>?_⟩
 ·intro n a hn hv
  obtain⟨b,e,as,hb,_⟩:=hW n hn
  rw[hv]at e
  cases e
  exact⟨au hb hA,au hb Vd⟩
 ·intro a ha
  exact⟨(au (sB _ _ af) ha).symm,(au af ha).symm⟩
 have Ve:=s1 _ _ (sB _ _ (af (H:=H) (a:=A) (o:=.lst [])))
 have Vf:=s1 _ _ (af (H:=upd H A (.lst [])) (a:=B) (o:=.lst []))
 have nD:D≠A∧D≠B:=by
  rename_i Vg
  exact⟨(au (sB _ _ af) Vg).symm,(au af Vg).symm⟩
 have aeB:=AR sh (RN p) its 0
 have aeC:=AR sh (RO p) its 0
 have RS:=DV sh its 0 RQ nn
 refine⟨D,rfl,⟨_,bN.of hD⟩,jy (K:=K) (a:=D) (xs:=dv) (fun i σ H2=>∃ u1 u2 u3 u4:Option V,σ=[some (.ref r),some (.ref S),some (.int p),some (.ref o),some (.ref A),some (.ref B),u1,u2,u3,u4]∧nR H1 A B (((bR sh 0 its).take i).flatMap (aD p)) (((bR sh 0 its).take i).flatMap (bD p)) H2)
  ⟨none,none,none,none,rfl,⟨_,Ve,.nil⟩,⟨_,Vf,.nil⟩,fun _ _ e _ _=>e⟩ (fun i σ H2 _ ⟨_,_,_,_,_,pv⟩=>bN.of (pv.k _ _ hD nD.1 nD.2)) ?_ ?_⟩
 ·rintro i x σ H2 hi ⟨u1,u2,u3,u4,rfl,pv⟩
  obtain⟨d,ed,hd1⟩:=hdl.get hi
  have hd2:=hd1.Qd Ve Vf (fun a h=>h) pv.k
  obtain⟨a,ra,xi,rfl,hta,hxi,Th,nra⟩:=hd2
  have eA:=ue (aD p) ed
  have eB:=ue (bD p) ed
  have bA:=lF (aD p) (bR sh 0 its) i
  have bB:=lF (bD p) (bR sh 0 its) i
  have bA1:=lF (aD p) (bR sh 0 its) (i+1)
  have bB1:=lF (bD p) (bR sh 0 its) (i+1)
  obtain⟨v1,hv1,t1⟩:=pv.a
  obtain⟨v2,hv2,t2⟩:=pv.b
  have z1:=t1.len
  have z2:=t2.len
  obtain⟨it,row,fi,la⟩:=d
  have rl:row.length≤50000:=by
   have z:=uA ed
   have:∃ it'∈its,row=dQ sh it':=by
    have q:∀ (its:List Item) (f:Int),(it,row,fi,la)∈bR sh f its→∃ it'∈its,row=dQ sh it':=by
     intro its
     induction its with
     | nil=>intro f h;cases h
     | cons i0 r0 ih =>
      intro f h
      rw[bR]at h
      rcases List.mem_cons.mp h with e|e
      ·cases e;exact⟨it,by simp,rfl⟩
      ·obtain⟨i1,m1,e1⟩:=ih _ e
       exact⟨i1,sJ _ m1,e1⟩
    exact q its 0 z
   obtain⟨i1,m1,rfl⟩:=this
   have:=wR sh m1
   omega
  refine⟨a,_,rfl,jW.of hta,rfl,_,_,rfl,_,_,rfl,_,_,rfl,_,_,rfl,rfl,?_⟩
  refine⟨_,rfl,_,rfl,_,_,rfl,rfl,_,rfl,eG (fun c=>?_) (fun c=>?_)⟩
  ·have c':la≤p:=of_decide_eq_true c
   refine⟨_,rfl,.inl ⟨rfl,_,bN.of hv1⟩,_,rfl,A,_,_,rfl,rfl,hv1,aL (by omega),?_⟩
   refine⟨_,_,_,_,rfl,?_⟩
   rw[eA,eB]
   have e1:aD p (it,row,fi,la)=[it]:=by unfold aD;rw[if_pos c']
   have e2:bD p (it,row,fi,la)=[]:=by unfold bD;rw[if_pos c']
   rw[e1,e2,kj]
   exact pv.Jz M5 hv1 (.cons hxi .nil)
  ·have c':¬ la≤p:=fun z=>c (decide_eq_true z)
   refine⟨_,rfl,_,rfl,_,_,rfl,rfl,_,rfl,eG (fun c2=>?_) (fun c2=>?_)⟩
   ·have RT:p≤fi:=of_decide_eq_true c2
    refine⟨_,rfl,.inl ⟨rfl,_,bN.of hv2⟩,_,rfl,B,_,_,rfl,rfl,hv2,aL (by omega),?_⟩
    refine⟨_,_,_,_,rfl,?_⟩
    rw[eA,eB]
    have e1:aD p (it,row,fi,la)=[]:=by unfold aD;rw[if_neg c',if_pos RT]
    have e2:bD p (it,row,fi,la)=[it]:=by unfold bD;rw[if_neg c',if_pos RT]
    rw[e1,e2,kj]
    exact pv.JA M5 hv2 (.cons hxi .nil)
   ·have RT:¬ p≤fi:=fun z=>c2 (decide_eq_true z)
    have e1:aD p (it,row,fi,la)=dW (bW (nP 0 (p-fi) 0 row)):=by unfold aD;rw[if_neg c',if_neg RT]
    have e2:bD p (it,row,fi,la)=dW (bW (nP (p-fi) (la-fi) 0 row)):=by unfold bD;rw[if_neg c',if_neg RT]
    rw[eA,e1,dU]at bA1
    rw[eB,e2,dU]at bB1
    refine⟨_,rfl,_,rfl,_,rfl,_,rfl,_,_,rfl,rfl,ra,row,0,p-fi,rfl,Th,by omega,fun q1 H3 R3 s3 hq1=>⟨q1,_,rfl,R3,kT (o7 _ _ _ _) (by omega),fun q2 H4 I4 s4 hq2=>?_⟩⟩
    obtain⟨q2',v3,e3,h3,t3⟩:=I4
    cases e3
    have z3:=t3.len
    have Lc:=s4 _ _ (s3 _ _ hv1)
    refine⟨A,q2,_,_,rfl,rfl,Lc,h3,iR (aL (by omega)),?_⟩
    have pv5:=((pv.same s3).same s4).Jz M5 Lc t3
    have aeI:bQ (upd H4 A (.lst (v1++v3))) ra row:=((Th.same s3).same s4).keep Lc nra.1 (aK A _ _)
    have aeJ:(upd H4 A (.lst (v1++v3))) B=some (.lst v2):=by rw[aF M5.symm];exact s4 _ _ (s3 _ _ hv2)
    refine⟨_,rfl,_,rfl,_,rfl,_,rfl,_,_,rfl,rfl,_,rfl,_,rfl,_,_,rfl,rfl,ra,row,p-fi,la-fi,rfl,aeI,by omega,fun q3 H6 R6 s6 OL=>⟨q3,_,rfl,R6,kT (o7 _ _ _ _) (by omega),fun q4 H7 I7 s7 Vb=>?_⟩⟩
    obtain⟨q4',v4,e4,h4,t4⟩:=I7
    cases e4
    have z4:=t4.len
    have Qe:=s7 _ _ (s6 _ _ aeJ)
    refine⟨B,q4,_,_,rfl,rfl,Qe,h4,iR (aL (by omega)),?_⟩
    refine⟨_,_,_,_,rfl,?_⟩
    rw[eA,eB,e1,e2]
    exact ((pv5.same s6).same s7).JA M5 Qe t4
 ·rintro σ H2 ⟨u1,u2,u3,u4,rfl,pv⟩
  have dl:=hdl.len
  rw[dl,kQ]at pv
  obtain⟨v1,hv1,t1⟩:=pv.a
  obtain⟨v2,hv2,t2⟩:=pv.b
  have z1:=t1.len
  have z2:=t2.len
  have sm:aH H H2:=fun a ob e=>pv.k a ob (s1 _ _ (s0 _ _ e)) (au e hA) (au e Vd)
  obtain⟨o',v3,e3,h3,t3⟩:=hO.same sm
  cases e3
  have z3:=t3.len
  refine⟨_,rfl,_,rfl,A,o,_,_,rfl,rfl,hv1,h3,iR (aL (by omega)),fun c1 hc1=>?_⟩
  have n1:aH H2 (upd H2 c1 (.lst (v1++v3))):=aj hc1 _
  refine⟨_,rfl,c1,B,_,_,rfl,rfl,af,n1 _ _ hv2,iR (aL (by rw[dU];omega)),fun c2 hc2=>?_⟩
  have n2:aH _ (upd (upd H2 c1 (.lst (v1++v3))) c2 (.lst (v1++v3++v2))):=aj hc2 _
  have Oi:=n1.trans n2
  refine⟨c2,_,rfl,⟨c2,_,rfl,af,((t1.app t3).app t2).mono fun v i h=>h.same Oi⟩,by rw[dU,dU];omega,fun q H9 I9 s9 WT=>?_⟩
  have okA:iS ((bR sh 0 its).flatMap (aD p)):=DW fun d hd=>U6 (RS d hd).1 (RS d hd).2
  have okB:iS ((bR sh 0 its).flatMap (bD p)):=DW fun d hd=>U8 (RS d hd).1 (RS d hd).2
  rw[qg _ ((okA.append ok2).append okB),gZ,gZ,Gj sh p its 0 RQ,C6 sh p its 0 RQ]at I9
  exact k q H9 I9 (sm.trans (Oi.trans s9)) (aX (sm.trans Oi) WT)
inductive mH(C:Addr)(vs:List V)(H:Hp)(Q:VK)(E:XK):Prop
 | mk (r o:Addr) (rows:gB) (s p:Int) (its:List Item) (sh:Int→List Int) (_:vs=[.ref r,.int s,.int p,.ref o]) (_:vE H r rows sh) (_:0≤s) (_:s<rows.length) (_:bx H (.ref o) its) (_:iS its) (_:its.length≤10000) (_:qx p) (_:(0≤p∧p≤(sh s).length→∀ (es:List Int) (q:Addr) (H':Hp),rows[s.toNat]?=some es→bx H' (.ref q) (itemsOf (lg sh p es (dI its)))→aH H H'→H q=none→Q (.ref q) H')) (_:(¬ (0≤p∧p≤(sh s).length)→∀ H',aH H H'→E (.ref C) none H')):mH C vs H Q E
theorem M6{its:List Item}(h:iS its):dI its=[]↔its=[]:=by
 refine⟨fun e=>?_,fun e=>by rw[e];rfl⟩
 cases its with
 | nil=>rfl
 | cons it r =>
  have e1:dI (it::r)=iT it++dI r:=by unfold dI;rw[mq]
  rw[e1]at e
  have e2:=(List.append_eq_nil_iff.mp e).1
  cases it with
  | win n=>cases e2
  | aB a b =>
   have ab:a<b:=(h (.aB a b) (by simp)).2
   have:=gj a (b-a).toNat
   have e3:run a (b-a).toNat=[]:=e2
   rw[e3]at this
   simp only[qu]at this
   omega
theorem yN:aJ ["rows","sheet","place","items","views"] ["rows","sheet","place","items"] (ay oU):=⟨rfl,rfl,rfl,by decide +kernel,rfl,by decide +kernel,by decide +kernel⟩
theorem rN{f fw fb fi fp fv fs fc fg fk fd' fq fn fa C:Addr}{fd gw gb gi gp gv gs gc gg gk gd gq gn ga:FuncData}(F:iI K "put_items" "put_items" oU f fd)(T:n9 mg)(Z:ExcAt K mg C)
  (cy:aA K mg "windows" eL nF fw gw) (jN:aA K mg "below" lQ mj fb gb) (cB:aA K mg "item_row" fH xm fi gi) (gu:aA K mg "plain" lO eU fp gp) (dh:aA K mg "views_below" dR mj fv gv) (ju:aA K mg "size" ssize eU fs gs) (bY:aA K mg "check_places" eZ nE fc gc)
  (jO:aA K mg "goes_on" lR EW fg gg) (cV:aA K mg "plain_items" gV nF fk gk) (pO:aA K mg "dealt" rG Dj fd' gd) (gY:aA K mg "pieces" mR nE fq gq) (gy:aA K mg "inked" rF eU fn gn) (rO:aA K mg "put_among" mD LD fa ga):aC P w K mg base (nB P w) 4 f fd JV (mH C):=by
 have iC:aC P w K mg base (nB P w) 2 _ _ nE (tY C):=kL bY.F T Z ju
 have lV:aC P w K mg base bU 3 _ _ mj wM:=pI dh.F T cy jN cB gu
 have j8:aC P w K mg base bU 2 _ _ nF lW:=pJ cV.F T jO
 have Im:aC P w K mg base bU 3 _ _ LD vF:=DX rO.F T cB ju gu gY jO cV pO gy
 refine ER F yN (fun vs H Q E h=>?_) (fun cdv A outer s0 H vs Q E hr h=>?_)
 ·obtain⟨r,o,rows,s,p,its,sh,rfl,_⟩:=h
  rfl
 obtain⟨r,o,rows,s,p,its,sh,rfl,R,h0,h1,hO,ok,ol,fp,k1,k2⟩:=h
 have hu:=m5 hr
 refine⟨_,(ak (aO (i:=4) yN.nd rfl (Or.inl rfl) (aN dh lV hr (aa (pv 0) (aa (bH (aa (pv 1) ah)) ah))))
   (ak (bq (n8 bY iC hr kr (aa (gW hu (pv 4) (pv 1) (fun _ _=>rfl)) (aa (pv 2) (aa (pv 2) ah)))))
   (ak (cG (oN (oQ (pv 3) (fun _=>rfl)))
   (ao (aT (aN cV j8 hr (aa (bG bM (pv 0) (pv 1) (fun _ _=>rfl)) ah))))
   bK)
   (ao (aT (aN rO Im hr (aa (bG bM (pv 0) (pv 1) (fun _ _=>rfl)) (aa (pv 4) (aa (pv 2) (aa (pv 3) ah)))))))))),?_⟩
 refine⟨_,rfl,_,rfl,(by show 1≤sizeLine;decide),fun L hL=>?_⟩
 have s1:aH H (upd H L (.lst [.int s])):=aj hL _
 refine⟨r,L,rows,[s],sh,rfl,R.at_.same s1,af,by simp,R.len,R.ents,R.snd,R.rk,(fun x hx=>by rw[List.mem_singleton.mp hx];exact⟨h0,h1⟩),R.U9,R.bd,fun S kvs ks H2 hS hv tp sk hn s2 hS0=>?_⟩
 have Vh:=sk s (by simp)
 obtain⟨a,ha,Ra⟩:=hv s Vh
 have z:=pB.k (k:=Sum.inl s) hS
 rw[ha]at z
 have s12:=s1.trans s2
 have shl:=R.bd s h0 h1
 have rol:=uf (sh s)
 obtain⟨es,Ia,b,O⟩:=(R.same s12).one h0 h1
 refine⟨_,rfl,_,rfl,S,_,rfl,z,_,rfl,_,rfl,a,rowOf (sh s),p,p,rfl,Ra,by omega,fp,fp,(by rw[O.tt];exact qx.small (by omega) (by omega)),fun hin H3 s3=>?_,fun hin H3 s3=>?_⟩
 ·have hp:0≤p∧p≤(sh s).length:=⟨hin.1,by rw[← O.tt];exact hin.2.2⟩
  obtain⟨es',aeK,b',O3⟩:=(R.same (s12.trans s3)).one h0 h1
  have ee:es=es':=sM (O.he.symm.trans O3.he)
  subst ee
  have hO3:=hO.same (s12.trans s3)
  obtain⟨o',WU,eo,ho,to⟩:=id hO3
  cases eo
  refine⟨_,rfl,!WU.isEmpty,.inl ⟨_,bN.of ho,rfl⟩,?_⟩
  have el:=to.len
  cases its with
  | nil =>
   have:WU=[]:=List.eq_nil_of_length_eq_zero (by simpa using el)
   subst this
   refine jZ ?_
   refine⟨_,rfl,_,rfl,r,_,_,_,rfl,rfl,bN.of O3.hr,O3.ix,b',itemsOf es,rfl,O3.it,kT O3.il (by decide),fun q H4 I4 s4 hq=>?_⟩
   refine k1 hp es q H4 O.he ?_ (s12.trans (s3.trans s4)) (aX (s12.trans s3) hq)
   obtain⟨e1,e2⟩:=rJ es
   rw[qg _ e2,e1]at I4
   exact I4
  | cons it r0 =>
   have:(!WU.isEmpty)=true:=by
    cases WU with
    | nil=>simp at el
    | cons _ _=>rfl
   rw[this]
   refine jY ?_
   refine⟨_,rfl,_,rfl,r,_,_,_,rfl,rfl,bN.of O3.hr,O3.ix,_,rfl,_,rfl,_,rfl,b',S,o,p,itemsOf es,it::r0,kvs,sh,rfl,O3.it,s3 _ _ hS,fun n hn=>?_,hO3,(rJ es).2,ok,fun n hn=>?_,kT O3.il (by decide),kT O3.rl (by decide),kT ol (by decide),fun q H4 I4 s4 hq=>?_⟩
   ·have nx:=zL h0 O.he hn
    obtain⟨i,hi⟩:=List.getElem?_of_mem Vh
    obtain⟨a2,e2,R2⟩:=hv n (List.mem_of_mem_take (tp.dn i s hi n nx))
    exact⟨a2,e2,R2.same s3⟩
   ·have nx:=zL h0 O.he hn
    obtain⟨n0,n1⟩:=R.snd.OC nx
    exact AS R.snd R.rk R.U9 n n0 n1
   ·refine k1 hp es q H4 O.he ?_ (s12.trans (s3.trans s4)) (aX (s12.trans s3) hq)
    rw[(rJ es).1]at I4
    unfold lg
    rw[if_neg (fun z=>by cases (M6 ok).mp z)]
    exact I4
 ·exact k2 (fun hp=>hin ⟨hp.1,Int.le_refl _,by rw[O.tt];exact hp.2⟩) H3 (s12.trans s3)
def kD(a b:Int)(d:qQ):List Item:=if d.2.2.2≤a∨b≤d.2.2.1 then [d.1] else if a≤d.2.2.1∧d.2.2.2≤b then [] else dW (bW (nP 0 (a-d.2.2.1) 0 d.2.1++nP (b-d.2.2.1) (d.2.2.2-d.2.2.1) 0 d.2.1))
def tD(a b:Int)(d:qQ):List Item:=if d.2.2.2≤a∨b≤d.2.2.1 then [] else if a≤d.2.2.1∧d.2.2.2≤b then [d.1] else dW (bW (nP (a-d.2.2.1) (b-d.2.2.1) 0 d.2.1))
def WV(sh:Int→List Int)(a b f e:Int):List Int:=if f+(mC sh e).length≤a∨b≤f then [e] else if a≤f∧f+(mC sh e).length≤b then [] else (mC sh e).take (a-f).toNat++(mC sh e).drop (b-f).toNat
def kE(sh:Int→List Int)(a b:Int):Int→List Int→List Int
 | _,[]=>[]
 | f,e::r=>WV sh a b f e++kE sh a b (f+(mC sh e).length) r
theorem C7(sh:Int→List Int)(a b:Int)(y:List Int):∀ (x:List Int) (f:Int),kE sh a b f (x++y)=kE sh a b f x++kE sh a b (f+(cz sh x).length) y
 | [],f=>by simp[kE,cz]
 | e::x,f=>by
  rw[List.cons_append,kE,kE,C7 sh a b y x,qD,gx,dU,Int.add_assoc]
  push_cast
  rfl
theorem tnS{a f:Int}(h:f<a):(a-f).toNat=(a-(f+1)).toNat+1:=by omega
theorem Qf{a f:Int}(h:a≤f):(a-f).toNat=0:=Int.toNat_of_nonpos (Int.sub_nonpos_of_le h)
theorem WW{a f:Int}(h:a≤f):(a-(f+1)).toNat=0:=Qf (Int.le_trans h (Int.le_of_lt (Int.lt_succ f)))
theorem nS{a f:Int}(h:¬ f+1≤a):a≤f:=Int.not_lt.mp h
theorem M7(sh:Int→List Int){a b:Int}(ab:a<b):∀ (n:Nat) (x f:Int),0≤x→kE sh a b f (run x n)=(run x n).take (a-f).toNat++(run x n).drop (b-f).toNat
 | 0,_,_,_=>by simp[run,kE]
 | n+1,x,f,h=>by
  rw[run,kE,M7 sh ab n (x+1) _ (by omega)]
  unfold WV
  rw[qh sh h]
  show (if f+1≤a∨b≤f then [x] else if a≤f∧f+1≤b then [] else _)++((run (x+1) n).take (a-(f+1)).toNat++(run (x+1) n).drop (b-(f+1)).toNat)=_
  by_cases c1:f+1≤a
  ·rw[if_pos (.inl c1),tnS c1,tnS (Int.lt_trans c1 ab)]
   rfl
  ·by_cases c2:b≤f
   ·rw[if_pos (.inr c2),Qf (nS c1),Qf c2,WW (nS c1),WW c2]
    rfl
   ·rw[if_neg (fun z=>z.elim c1 c2),if_pos ⟨nS c1,Int.not_le.mp c2⟩,Qf (nS c1),tnS (Int.not_le.mp c2),WW (nS c1)]
    rfl
theorem Ld{a b t:Int}{r:Row}(ok:∀ p∈r,p.1≤p.2)(h:(aS r).length≤t.toNat):aS (bW (nP 0 a 0 r++nP b t 0 r))=(aS r).take a.toNat++(aS r).drop b.toNat:=by
 rw[lD _ (Ru (DB _ _ _ _) (DB _ _ _ _)),cI,tX _ _ _ _ ok,tX _ _ _ _ ok]
 show ((aS r).take (a-0).toNat).drop 0++((aS r).take (t-0).toNat).drop (b-0).toNat=_
 rw[Int.sub_zero,Int.sub_zero,Int.sub_zero,vj h]
 rfl
theorem Vi(sh:Int→List Int){a b:Int}(ab:a<b)(f:Int)(it:Item)(h:qf it):dI (kD a b (it,dQ sh it,f,f+tot (dQ sh it)))=kE sh a b f (iT it):=by
 have tt:=qS sh it h
 have sp:dI (dW (bW (nP 0 (a-f) 0 (dQ sh it)++nP (b-f) (f+tot (dQ sh it)-f) 0 (dQ sh it))))=(cz sh (iT it)).take (a-f).toNat++(cz sh (iT it)).drop (b-f).toNat:=by
  rw[pL,Ld (zJ sh it h) (by rw[pN sh it h,tt];omega),pN sh it h]
 unfold kD
 show dI (if f+tot (dQ sh it)≤a∨b≤f then [it] else if a≤f∧f+tot (dQ sh it)≤b then [] else dW (bW (nP 0 (a-f) 0 (dQ sh it)++nP (b-f) (f+tot (dQ sh it)-f) 0 (dQ sh it))))=_
 have c1:(f+tot (dQ sh it)≤a∨b≤f)=(f+(cz sh (iT it)).length≤a∨b≤f):=by rw[tt]
 have c2:(a≤f∧f+tot (dQ sh it)≤b)=(a≤f∧f+(cz sh (iT it)).length≤b):=by rw[tt]
 simp only[c1,c2]
 cases it with
 | win n =>
  have e1:cz sh (iT (.win n))=mC sh (-1-n):=by show cz sh [-1-n]=_;rw[gx];simp[cz]
  rw[e1]at sp ⊢
  show _=kE sh a b f [-1-n]
  rw[kE,kE,kj]
  unfold WV
  split
  ·rfl
  ·split
   ·rfl
   ·exact sp
 | aB x y =>
  have e1:cz sh (iT (.aB x y))=run x (y-x).toNat:=qR sh _ _ h.1
  rw[e1]at sp ⊢
  show _=kE sh a b f (run x (y-x).toNat)
  rw[M7 sh ab _ _ _ h.1]
  have rl:=gj x (y-x).toNat
  split
  ·rename_i c
   rw[pK]
   rcases c with c|c
   ·rw[vj (by omega),List.drop_of_length_le (by omega),kj]
    rfl
   ·rw[Qf (Int.le_trans (Int.le_of_lt ab) c),Qf c]
    rfl
  ·split
   ·rename_i c
    rw[Qf c.1,List.drop_of_length_le (by omega)]
    rfl
   ·exact sp
theorem JB(sh:Int→List Int){a b:Int}(ab:a<b):∀ (its:List Item) (f:Int),iS its→dI ((bR sh f its).flatMap (kD a b))=kE sh a b f (dI its)
 | [],f,_=>rfl
 | it::r,f,h=>by
  have h1:=h it (by simp)
  rw[bR,mq,gZ,Vi sh ab f it h1,JB sh ab r _ fun i hi=>h i (sJ _ hi)]
  have e:dI (it::r)=iT it++dI r:=by unfold dI;rw[mq]
  rw[e,C7,qS sh it h1]
theorem Vj{a b:Int}{d:qQ}(h:qf d.1)(g:pF d.2.1):iS (kD a b d):=by
 unfold kD
 split
 ·exact iS.one h
 ·split
  ·exact fun i hi=>by cases hi
  ·exact wO (qP fun p hp=>(List.mem_append.mp hp).elim (Az _ _ _ _ g p) (Az _ _ _ _ g p))
theorem M8(a b:Int)(d:qQ):(kD a b d).length≤d.2.1.length+d.2.1.length+1:=by
 unfold kD
 split
 ·simp
 ·split
  ·simp
  ·rw[zK]
   refine kT (qO _) ?_
   rw[dU]
   have:=o7 0 (a-d.2.2.1) d.2.1 0
   have:=o7 (b-d.2.2.1) (d.2.2.2-d.2.2.1) d.2.1 0
   omega
theorem RU(a b:Int)(d:qQ):(tD a b d).length≤d.2.1.length+d.2.1.length+1:=by
 unfold tD
 split
 ·simp
 ·split
  ·simp
  ·exact kT (ud _ _ _) (by omega)
theorem ug(sh:Int→List Int){g:qQ→List Item}(hg:∀ d,(g d).length≤d.2.1.length+d.2.1.length+1):∀ (its:List Item) (f:Int),((bR sh f its).flatMap g).length≤(bh sh its).length+(bh sh its).length+its.length
 | [],_=>by simp[bR]
 | it::r,f=>by
  rw[bR,mq,dU]
  have a:=hg (it,dQ sh it,f,f+tot (dQ sh it))
  have b:=ug sh hg r (f+tot (dQ sh it))
  have e:bh sh (it::r)=dQ sh it++bh sh r:=by unfold bh;rw[mq];rfl
  rw[e,dU,nG]
  simp only at a
  omega
theorem Gn(sh:Int→List Int)(it:Item)(row:Row)(fi la:Int):∀ (its:List Item) (f:Int),(it,row,fi,la)∈bR sh f its→∃ it'∈its,row=dQ sh it'
 | [],_,h=>by cases h
 | i0::r0,f,h=>by
  rw[bR]at h
  rcases List.mem_cons.mp h with e|e
  ·cases e;exact⟨it,by simp,rfl⟩
  ·obtain⟨i1,m1,e1⟩:=Gn sh it row fi la r0 _ e
   exact⟨i1,sJ _ m1,e1⟩
theorem C8{H:Hp}{A:Addr}{l:List Item}{vs:List V}(h:H A=some (.lst vs))(t:b8 (cS H) vs l):bx H (.ref A) l:=⟨A,vs,rfl,h,t⟩
def vG(sh:Int→List Int)(a b:Int)(es:List Int):List Int:=if a=b then es else kE sh a b 0 es
inductive AU(vs:List V)(H:Hp)(Q:VK)(E:XK):Prop
 | mk (r S:Addr) (a b:Int) (its:List Item) (kvs:List (Key × V)) (sh:Int→List Int) (_:vs=[.ref r,.ref S,.int a,.int b]) (_:bx H (.ref r) its) (_:H S=some (.dK kvs)) (_:ya H kvs sh its) (_:its.length≤10000) (_:(bh sh its).length≤20000) (_ :
 ∀ (t L M:Addr) (H':Hp),H' t=some (.tup [.ref L,.ref M])→bx H' (.ref L) ((bR sh 0 its).flatMap (kD a b))→bx H' (.ref M) ((bR sh 0 its).flatMap (tD a b))→aH H H'→Q (.ref t) H'):AU vs H Q E
theorem lX:aJ ["items","views","start","stop","left","taken","item","row","first","last"] ["items","views","start","stop"] (ay tT):=⟨rfl,rfl,rfl,by decide +kernel,rfl,by decide +kernel,by decide +kernel⟩
theorem Le{f fI fZ fP fS fD fN:Addr}{fd BG Tg KP KO Vc M4:FuncData}(F:iI K "parted" "parted" tT f fd)(T:n9 mg)(cB:aA K mg "item_row" fH xm fI BG)(ju:aA K mg "size" ssize eU fZ Tg)(gu:aA K mg "plain" lO eU fP KP)(gY:aA K mg "pieces" mR nE fS KO)(pO:aA K mg "dealt" rG Dj fD Vc)(gy:aA K mg "inked" rF eU fN M4):aC P w K mg base bU 3 f fd LF AU:=by
 have Il:aC P w K mg base bU 2 fD Vc Dj zM:=Gm pO.F T cB ju
 have qe:aC P w K mg base bU 1 fS KO nE sV:=xW gY.F T
 have rM:aC P w K mg base bU 2 fN M4 eU uc:=wN gy.F T gu
 refine F.ok lX (fun vs H Q E h=>?_) (fun cdv A outer s H vs Q E hr h=>?_)
 ·obtain⟨r,S,a,b,its,kvs,sh,rfl,_⟩:=h
  rfl
 obtain⟨r,S,p,q,its,kvs,sh,rfl,hI,hS,hW,l1,l2,k⟩:=h
 refine⟨_,(ak (aO (i:=4) lX.nd rfl (Or.inl rfl) (bH ah))
   (ak (aO (i:=5) lX.nd rfl (Or.inl rfl) (bH ah))
   (ak (jr PassesOwn.never rfl (cM (aN pO Il hr (aa (pv 0) (aa (pv 1) ah)))) (rD (n:=4) rfl (bL (aW (i:=6) lX.nd rfl (Or.inl rfl)) (bL (aW (i:=7) lX.nd rfl (Or.inl rfl)) (bL (aW (i:=8) lX.nd rfl (Or.inl rfl)) (bL (aW (i:=9) lX.nd rfl (Or.inl rfl)) jX)))))
   (ao (cG (PW.pt (LK (cj lM (pv 9) (pv 2) (bZ _)) (Hg (cj lM (pv 3) (pv 8) (bZ _)))))
   (ao (bq (je rA vg vh cP (pv 4) (aa (pv 6) ah))))
   (ao (cG (PW.pt (Hh (cj lM (pv 2) (pv 8) (bZ _)) (Dn (cj lM (pv 9) (pv 3) (bZ _)))))
   (ao (bq (je rA vg vh cP (pv 5) (aa (pv 6) ah))))
   (ak (xA (i:=4) lX.nd rfl (Or.inl rfl) (aN gy rM hr (aa (bw oR (aN gY qe hr (aa (pv 7) (aa az (aa (bw iV (pv 2) (pv 8)) ah)))) (aN gY qe hr (aa (pv 7) (aa (bw iV (pv 3) (pv 8)) (aa (bw iV (pv 9) (pv 8)) ah))))) ah)) xU)
   (ao (xA (i:=5) lX.nd rfl (Or.inl rfl) (aN gy rM hr (aa (aN gY qe hr (aa (pv 7) (aa (bw iV (pv 2) (pv 8)) (aa (bw iV (pv 3) (pv 8)) ah)))) ah)) xU))))))))
   (ao (aT (iz (aa (pv 4) (aa (pv 5) ah)))))))),?_⟩
 refine⟨(by show 0≤sizeLine;decide),fun A hA=>⟨(by show 0≤sizeLine;decide),fun B hB=>?_⟩⟩
 have sA:aH H (upd H A (.lst [])):=aj hA _
 have sB:aH _ (upd (upd H A (.lst [])) B (.lst [])):=aj hB _
 have s0:=sA.trans sB
 have M5:A≠B:=au af hB
 have Vd:=aX sA hB
 refine⟨_,rfl,_,rfl,r,S,its,kvs,sh,fun a=>a≠A∧a≠B,rfl,hI.same s0,s0 _ _ hS,hW.same s0,by omega,(fun it hi=>by have:=wR sh hi;omega),?_,?_,fun D dv H1 hD hdl s1 _=>?_⟩
 ·intro n a hn hv
  obtain⟨b,e,as,hb,_⟩:=hW n hn
  rw[hv]at e
  cases e
  exact⟨au hb hA,au hb Vd⟩
 ·intro a ha
  exact⟨(au (sB _ _ af) ha).symm,(au af ha).symm⟩
 have Ve:=s1 _ _ (sB _ _ (af (H:=H) (a:=A) (o:=.lst [])))
 have Vf:=s1 _ _ (af (H:=upd H A (.lst [])) (a:=B) (o:=.lst []))
 have nD:D≠A∧D≠B:=by
  rename_i Vg
  exact⟨(au (sB _ _ af) Vg).symm,(au af Vg).symm⟩
 have aeB:=ug sh (M8 p q) its 0
 have aeC:=ug sh (RU p q) its 0
 refine⟨D,rfl,⟨_,bN.of hD⟩,jy (K:=K) (a:=D) (xs:=dv) (fun i σ H2=>∃ u1 u2 u3 u4:Option V,σ=[some (.ref r),some (.ref S),some (.int p),some (.int q),some (.ref A),some (.ref B),u1,u2,u3,u4]∧nR H1 A B (((bR sh 0 its).take i).flatMap (kD p q)) (((bR sh 0 its).take i).flatMap (tD p q)) H2)
  ⟨none,none,none,none,rfl,⟨_,Ve,.nil⟩,⟨_,Vf,.nil⟩,fun _ _ e _ _=>e⟩ (fun i σ H2 _ ⟨_,_,_,_,_,pv⟩=>bN.of (pv.k _ _ hD nD.1 nD.2)) ?_ ?_⟩
 ·rintro i x σ H2 hi ⟨u1,u2,u3,u4,rfl,pv⟩
  obtain⟨d,ed,hd1⟩:=hdl.get hi
  have hd2:=hd1.Qd Ve Vf (fun a h=>h) pv.k
  obtain⟨a,ra,xi,rfl,hta,hxi,Th,nra⟩:=hd2
  have eA:=ue (kD p q) ed
  have eB:=ue (tD p q) ed
  have bA:=lF (kD p q) (bR sh 0 its) i
  have bB:=lF (tD p q) (bR sh 0 its) i
  have bA1:=lF (kD p q) (bR sh 0 its) (i+1)
  have bB1:=lF (tD p q) (bR sh 0 its) (i+1)
  obtain⟨v1,hv1,t1⟩:=pv.a
  obtain⟨v2,hv2,t2⟩:=pv.b
  have z1:=t1.len
  have z2:=t2.len
  obtain⟨it,row,fi,la⟩:=d
  have rl:row.length≤20000:=by
   obtain⟨i1,m1,rfl⟩:=Gn sh it row fi la its 0 (uA ed)
   have:=wR sh m1
   omega
  have mV:v1.length<sizeLine:=aL (by omega)
  have M9:(la≤p∨q≤fi)→nR H1 A B (((bR sh 0 its).take (i+1)).flatMap (kD p q)) (((bR sh 0 its).take (i+1)).flatMap (tD p q)) (upd H2 A (.lst (v1++[xi]))):=fun c=>by
   rw[eA,eB]
   have e1:kD p q (it,row,fi,la)=[it]:=by unfold kD;rw[if_pos c]
   have e2:tD p q (it,row,fi,la)=[]:=by unfold tD;rw[if_pos c]
   rw[e1,e2,kj]
   exact pv.Jz M5 hv1 (.cons hxi .nil)
  refine⟨a,_,rfl,jW.of hta,rfl,_,_,rfl,_,_,rfl,_,_,rfl,_,_,rfl,rfl,?_⟩
  refine⟨_,rfl,_,rfl,_,_,rfl,rfl,_,rfl,eG (fun c=>jZ ?_) (fun c=>?_)⟩
  ·exact⟨_,rfl,.inl ⟨rfl,_,bN.of hv1⟩,_,rfl,A,_,_,rfl,rfl,hv1,mV,_,_,_,_,rfl,M9 (.inl (of_decide_eq_true c))⟩
  have c':¬ la≤p:=fun z=>c (decide_eq_true z)
  refine⟨_,rfl,_,rfl,_,_,rfl,rfl,_,rfl,eG (fun c2=>?_) (fun c2=>?_)⟩
  ·exact⟨_,rfl,.inl ⟨rfl,_,bN.of hv1⟩,_,rfl,A,_,_,rfl,rfl,hv1,mV,_,_,_,_,rfl,M9 (.inr (of_decide_eq_true c2))⟩
  have RT:¬ q≤fi:=fun z=>c2 (decide_eq_true z)
  have n1:¬ (la≤p∨q≤fi):=fun z=>z.elim c' RT
  have part:¬ (p≤fi∧la≤q)→nR H1 A B (((bR sh 0 its).take i).flatMap (kD p q)) (((bR sh 0 its).take i).flatMap (tD p q)) H2→kD p q (it,row,fi,la)=dW (bW (nP 0 (p-fi) 0 row++nP (q-fi) (la-fi) 0 row))∧tD p q (it,row,fi,la)=dW (bW (nP (p-fi) (q-fi) 0 row)):=fun c3 _=>by
   refine⟨?_,?_⟩
   ·unfold kD;rw[if_neg n1,if_neg c3]
   ·unfold tD;rw[if_neg n1,if_neg c3]
  have go:¬ (p≤fi∧la≤q)→∀ (q1 q2:Addr) (v3:List V) (H4:Hp),H4 q2=some (.lst v3)→b8 (cS H4) v3 (dW (bW (nP 0 (p-fi) 0 row++nP (q-fi) (la-fi) 0 row)))→aH H2 H4→v1.length+v3.length≤sizeLine∧nR H1 A B (((bR sh 0 its).take (i+1)).flatMap (kD p q)) (((bR sh 0 its).take i).flatMap (tD p q)) (upd H4 A (.lst (v1++v3)))∧bQ (upd H4 A (.lst (v1++v3))) ra row∧(upd H4 A (.lst (v1++v3))) B=some (.lst v2):=fun c3 q1 q2 v3 H4 h3 t3 s4=>by
   obtain⟨e1,e2⟩:=part c3 pv
   have z3:=t3.len
   rw[eA,e1,dU]at bA1
   have Lc:=s4 _ _ hv1
   refine⟨Nat.le_of_lt (aL (by omega)),?_,(Th.same s4).keep Lc nra.1 (aK A _ _),by rw[aF M5.symm];exact s4 _ _ hv2⟩
   rw[eA,e1]
   exact (pv.same s4).Jz M5 Lc t3
  have go2:¬ (p≤fi∧la≤q)→∀ (v4:List V) (H5 H7:Hp),nR H1 A B (((bR sh 0 its).take (i+1)).flatMap (kD p q)) (((bR sh 0 its).take i).flatMap (tD p q)) H5→H5 B=some (.lst v2)→b8 (cS H7) v4 (dW (bW (nP (p-fi) (q-fi) 0 row)))→aH H5 H7→v2.length+v4.length≤sizeLine∧nR H1 A B (((bR sh 0 its).take (i+1)).flatMap (kD p q)) (((bR sh 0 its).take (i+1)).flatMap (tD p q)) (upd H7 B (.lst (v2++v4))):=fun c3 v4 H5 H7 pv5 h5 t4 s7=>by
   obtain⟨e1,e2⟩:=part c3 pv
   have z4:=t4.len
   rw[eB,e2,dU]at bB1
   refine⟨Nat.le_of_lt (aL (by omega)),?_⟩
   rw[eB,e2]
   exact (pv5.same s7).JA M5 (s7 _ _ h5) t4
  have pl1:=o7 0 (p-fi) row 0
  have pl2:=o7 (q-fi) (la-fi) row 0
  have pl3:=o7 (p-fi) (q-fi) row 0
  refine⟨_,rfl,_,rfl,_,_,rfl,rfl,_,rfl,Ry (fun z=>⟨_,rfl,_,rfl,_,_,rfl,rfl,_,rfl,z⟩) (fun c5=>?_) (fun c5=>?_)⟩
  ·refine⟨_,rfl,.inl ⟨rfl,_,bN.of hv2⟩,_,rfl,B,_,_,rfl,rfl,hv2,aL (by omega),_,_,_,_,rfl,?_⟩
   rw[eA,eB]
   have e1:kD p q (it,row,fi,la)=[]:=by unfold kD;rw[if_neg n1,if_pos c5]
   have e2:tD p q (it,row,fi,la)=[it]:=by unfold tD;rw[if_neg n1,if_pos c5]
   rw[e1,e2,kj]
   exact pv.JA M5 hv2 (.cons hxi .nil)
  ·refine⟨_,rfl,_,rfl,_,rfl,_,rfl,_,_,rfl,rfl,ra,row,0,p-fi,rfl,Th,by omega,fun q1 H3 R3 s3 hq1=>?_⟩
   obtain⟨as3,ha3,pa3⟩:=id R3
   have n3:=pa3.len
   refine⟨_,rfl,_,rfl,_,rfl,_,_,rfl,rfl,_,rfl,_,rfl,_,_,rfl,rfl,ra,row,q-fi,la-fi,rfl,Th.same s3,by omega,fun q2 H4 R4 s4 hq2=>?_⟩
   obtain⟨as4,ha4,pa4⟩:=id R4
   have n4:=pa4.len
   refine⟨q1,q2,_,_,rfl,rfl,s4 _ _ ha3,ha4,(by rw[cA,cA];exact iR (aL (by omega))),fun m hm=>?_⟩
   have s5:aH H4 (upd H4 m (.lst (as3.map V.ref++as4.map V.ref))):=aj hm _
   refine⟨m,nP 0 (p-fi) 0 row++nP (q-fi) (la-fi) 0 row,rfl,⟨as3++as4,by rw[af,lH],bf.append ((pa3.same s4).same s5) (pa4.same s5)⟩,by rw[dU];omega,fun q3 H6 I6 s6 OL=>?_⟩
   obtain⟨q3',v3,e3,h3,t3⟩:=I6
   cases e3
   have WX:=s3.trans (s4.trans (s5.trans s6))
   obtain⟨g1,g2,g3,g4⟩:=go c5 q1 q3 v3 H6 h3 t3 WX
   refine⟨A,q3,_,_,rfl,rfl,WX _ _ hv1,h3,g1,?_⟩
   refine⟨_,rfl,_,rfl,_,rfl,_,rfl,_,_,rfl,rfl,_,rfl,_,rfl,_,_,rfl,rfl,ra,row,p-fi,q-fi,rfl,g3,by omega,fun q4 H7 R7 s7 Vb=>⟨q4,_,rfl,R7,by omega,fun q5 H8 I8 s8 RP=>?_⟩⟩
   obtain⟨q5',v4,e4,h4,t4⟩:=I8
   cases e4
   obtain⟨f1,f2⟩:=go2 c5 v4 _ H8 g2 g4 t4 (s7.trans s8)
   exact⟨B,q5,_,_,rfl,rfl,(s7.trans s8) _ _ g4,h4,f1,_,_,_,_,rfl,f2⟩
 ·rintro σ H2 ⟨u1,u2,u3,u4,rfl,pv⟩
  have dl:=hdl.len
  rw[dl,kQ]at pv
  obtain⟨v1,hv1,t1⟩:=pv.a
  obtain⟨v2,hv2,t2⟩:=pv.b
  have sm:aH H H2:=fun a ob e=>pv.k a ob (s1 _ _ (s0 _ _ e)) (au e hA) (au e Vd)
  refine⟨_,rfl,_,rfl,(by show 2≤sizeLine;decide),fun t ht=>k t A B _ af ?_ ?_ (sm.trans (aj ht _))⟩
  ·exact (C8 hv1 t1).same (aj ht _)
  ·exact (C8 hv2 t2).same (aj ht _)
inductive vH(C:Addr)(vs:List V)(H:Hp)(Q:VK)(E:XK):Prop
 | mk (r:Addr) (rows:gB) (s a b:Int) (sh:Int→List Int) (_:vs=[.ref r,.int s,.int a,.int b]) (_:vE H r rows sh) (_:0≤s) (_:s<rows.length) (_:qx a) (_:qx b) (_:(GY a b (sh s).length→∀ (es:List Int) (q:Addr) (H':Hp),rows[s.toNat]?=some es→bx H' (.ref q) (itemsOf (vG sh a b es))→aH H H'→H q=none→Q (.ref q) H')) (_:(¬ GY a b (sh s).length→∀ H',aH H H'→E (.ref C) none H')):vH C vs H Q E
theorem yO:aJ ["rows","sheet","start","stop","views"] ["rows","sheet","start","stop"] (ay oV):=⟨rfl,rfl,rfl,by decide +kernel,rfl,by decide +kernel,by decide +kernel⟩
theorem DY{f fw fb fi fp fv fs fc fg fk fd' fq fn fa C:Addr}{fd gw gb gi gp gv gs gc gg gk gd gq gn ga:FuncData}(F:iI K "cut_items" "cut_items" oV f fd)(T:n9 mg)(Z:ExcAt K mg C)
  (cy:aA K mg "windows" eL nF fw gw) (jN:aA K mg "below" lQ mj fb gb) (cB:aA K mg "item_row" fH xm fi gi) (gu:aA K mg "plain" lO eU fp gp) (dh:aA K mg "views_below" dR mj fv gv) (ju:aA K mg "size" ssize eU fs gs) (bY:aA K mg "check_places" eZ nE fc gc)
  (jO:aA K mg "goes_on" lR EW fg gg) (cV:aA K mg "plain_items" gV nF fk gk) (pO:aA K mg "dealt" rG Dj fd' gd) (gY:aA K mg "pieces" mR nE fq gq) (gy:aA K mg "inked" rF eU fn gn) (uh:aA K mg "parted" tT LF fa ga):aC P w K mg base (nB P w) 4 f fd NO (vH C):=by
 have iC:aC P w K mg base (nB P w) 2 _ _ nE (tY C):=kL bY.F T Z ju
 have lV:aC P w K mg base bU 3 _ _ mj wM:=pI dh.F T cy jN cB gu
 have j8:aC P w K mg base bU 2 _ _ nF lW:=pJ cV.F T jO
 have OX:aC P w K mg base bU 3 _ _ LF AU:=Le uh.F T cB ju gu gY pO gy
 refine ER F yO (fun vs H Q E h=>?_) (fun cdv A outer s0 H vs Q E hr h=>?_)
 ·obtain⟨r,rows,s,p,q,sh,rfl,_⟩:=h
  rfl
 obtain⟨r,rows,s,p,q,sh,rfl,R,h0,h1,fp,fq,k1,k2⟩:=h
 have hu:=m5 hr
 refine⟨_,(ak (aO (i:=4) yO.nd rfl (Or.inl rfl) (aN dh lV hr (aa (pv 0) (aa (bH (aa (pv 1) ah)) ah))))
   (ak (bq (n8 bY iC hr kr (aa (gW hu (pv 4) (pv 1) (fun _ _=>rfl)) (aa (pv 2) (aa (pv 3) ah)))))
   (ak (cG (cj mY (pv 2) (pv 3) (bZ _))
   (ao (aT (aN cV j8 hr (aa (bG bM (pv 0) (pv 1) (fun _ _=>rfl)) ah))))
   bK)
   (ao (aT (aN cV j8 hr (aa (bG eF (aN uh OX hr (aa (bG bM (pv 0) (pv 1) (fun _ _=>rfl)) (aa (pv 4) (aa (pv 2) (aa (pv 3) ah))))) az (fun _ _=>rfl)) ah))))))),?_⟩
 refine⟨_,rfl,_,rfl,(by show 1≤sizeLine;decide),fun L hL=>?_⟩
 have s1:aH H (upd H L (.lst [.int s])):=aj hL _
 refine⟨r,L,rows,[s],sh,rfl,R.at_.same s1,af,by simp,R.len,R.ents,R.snd,R.rk,(fun x hx=>by rw[List.mem_singleton.mp hx];exact⟨h0,h1⟩),R.U9,R.bd,fun S kvs ks H2 hS hv tp sk hn s2 hS0=>?_⟩
 have Vh:=sk s (by simp)
 obtain⟨a,ha,Ra⟩:=hv s Vh
 have z:=pB.k (k:=Sum.inl s) hS
 rw[ha]at z
 have s12:=s1.trans s2
 have shl:=R.bd s h0 h1
 have rol:=uf (sh s)
 obtain⟨es,Ia,b,O⟩:=(R.same s12).one h0 h1
 refine⟨_,rfl,_,rfl,S,_,rfl,z,_,rfl,_,rfl,a,rowOf (sh s),p,q,rfl,Ra,by omega,fp,fq,(by rw[O.tt];exact qx.small (by omega) (by omega)),fun hin H3 s3=>?_,fun hin H3 s3=>?_⟩
 ·have hp:GY p q (sh s).length:=⟨hin.1,hin.2.1,by rw[← O.tt];exact hin.2.2⟩
  obtain⟨es',aeK,b',O3⟩:=(R.same (s12.trans s3)).one h0 h1
  have ee:es=es':=sM (O.he.symm.trans O3.he)
  subst ee
  obtain⟨e1,e2⟩:=rJ es
  refine⟨_,rfl,_,rfl,rfl,_,rfl,eG (fun c=>?_) (fun c=>?_)⟩
  ·have c':p=q:=V.int.inj (of_decide_eq_true c)
   refine⟨_,rfl,_,rfl,r,_,_,_,rfl,rfl,bN.of O3.hr,O3.ix,b',itemsOf es,rfl,O3.it,kT O3.il (by decide),fun o H4 I4 s4 ho=>?_⟩
   refine k1 hp es o H4 O.he ?_ (s12.trans (s3.trans s4)) (aX (s12.trans s3) ho)
   rw[qg _ e2,e1]at I4
   unfold vG
   rw[if_pos c']
   exact I4
  ·have c':¬ p=q:=fun z=>c (by rw[z];exact decide_eq_true rfl)
   have pq:p<q:=by have:=hp.2.1;omega
   refine⟨_,rfl,_,rfl,r,_,_,_,rfl,rfl,bN.of O3.hr,O3.ix,_,rfl,_,rfl,_,rfl,b',S,p,q,itemsOf es,kvs,sh,rfl,O3.it,s3 _ _ hS,fun n hn=>?_,kT O3.il (by decide),kT O3.rl (by decide),fun t L M H4 ht hL4 hM4 s4=>?_⟩
   ·have nx:=zL h0 O.he hn
    obtain⟨i,hi⟩:=List.getElem?_of_mem Vh
    obtain⟨a2,e2,R2⟩:=hv n (List.mem_of_mem_take (tp.dn i s hi n nx))
    exact⟨a2,e2,R2.same s3⟩
   have nn:RM sh (itemsOf es):=fun n hn=>by
    have nx:=zL h0 O.he hn
    obtain⟨n0,n1⟩:=R.snd.OC nx
    exact AS R.snd R.rk R.U9 n n0 n1
   have RS:=DV sh (itemsOf es) 0 e2 nn
   have lk:iS ((bR sh 0 (itemsOf es)).flatMap (kD p q)):=DW fun d hd=>Vj (RS d hd).1 (RS d hd).2
   have ll:=ug sh (M8 p q) (itemsOf es) 0
   have oil:=O3.il
   have orl:=O3.rl
   refine⟨t,_,_,_,rfl,rfl,jW.of ht,rfl,L,_,rfl,hL4,by omega,fun o H5 I5 s5 ho=>?_⟩
   refine k1 hp es o H5 O.he ?_ (s12.trans (s3.trans (s4.trans s5))) (aX (s12.trans (s3.trans s4)) ho)
   rw[qg _ lk,JB sh pq _ _ e2,e1]at I5
   unfold vG
   rw[if_neg c']
   exact I5
 ·exact k2 (fun hp=>hin ⟨hp.1,hp.2.1,by rw[O.tt];exact hp.2.2⟩) H3 (s12.trans s3)
abbrev gz(ws:nA):HO:=.lst (ws.map fun w=>V.str (txt w))
abbrev RV:List (Str × Int):=[(Str.ofString "fresh",0),(Str.ofString "cut",3),(Str.ofString "move",4),(Str.ofString "quote",5),(Str.ofString "window",3),(Str.ofString "fix",1),(Str.ofString "back",2),(Str.ofString "fork",2),(Str.ofString "untie",1),(Str.ofString "read",1)]
abbrev Vk:List (Str × Int):=[(Str.ofString "put",2),(Str.ofString "strike",0),(Str.ofString "blot",1),(Str.ofString "lift",1)]
def tabAt(D:List (Str × Int))(n:List Nat):Option Int:=(D.find? fun p=>decide (txt n=p.1)).map (·.2)
theorem AV{D:List (Str × Int)}{n:List Nat}{i:Int}(h:tabAt D n=some i):(D.find? fun p=>decide (txt n=p.1))=some (txt n,i):=by
 unfold tabAt at h
 obtain⟨⟨x,j⟩,e,rfl⟩:=Option.map_eq_some_iff.mp h
 have z:=List.find?_some e
 have:txt n=x:=of_decide_eq_true z
 rw[e,this]
abbrev om:List Nat:=[116,105,101]
inductive mJ where
 | BV (h:Int) (t:List Nat)
 | G2 (a b:Row)
 | plain (n:List Nat) (ns:List Int)
 | uZ (n:List Nat) (ns:List Int) (r:Row)
def mJ.At(H:Hp)(p:Addr):mJ→Prop
 | .BV h t=>H p=some (.tup [.str (Str.ofString "pour"),.int h,.str (txt t)])
 | .G2 a b=>∃ q1 q2,H p=some (.tup [.str (Str.ofString "tie"),.ref q1,.ref q2])∧bQ H q1 a∧bQ H q2 b∧q1≠q2
 | .plain n ns=>H p=some (.tup (.str (txt n)::ns.map V.int))
 | .uZ n ns r=>∃ q,H p=some (.tup (.str (txt n)::ns.map V.int++[.ref q]))∧bQ H q r
def wU(n:Int):Prop:=0≤n∧n<10^60
def Io(r:Row):Prop:=r.length≤29∧∀ p∈r,wU p.1∧wU p.2
def mJ.Ok:mJ→Prop
 | .BV h t=>wU h∧t.length≤200
 | .G2 a b=>Io a∧Io b
 | .plain n ns=>tabAt RV n=some (ns.length:Int)∧∀ x∈ns,wU x
 | .uZ n ns r=>tabAt Vk n=some (ns.length:Int)∧(∀ x∈ns,wU x)∧Io r
abbrev ie(p:Int × Int):List Nat:=gX.dg p.1++45::gX.dg p.2
theorem Lf{p:Int × Int}(h:wU p.1∧wU p.2):(ie p).length≤121:=by
 rw[dU,nG]
 have a:=gX.HV h.1.1 h.1.2
 have b:=gX.HV h.2.1 h.2.2
 omega
theorem DZ{n:Int}(h:wU n):n.natAbs.log2<1920:=by
 obtain⟨h0,h1⟩:=h
 by_cases z:n.natAbs=0
 ·rw[z];decide
 ·rw[Nat.log2_lt z]
  have a:n.natAbs<10^60:=by omega
  exact rB a (kT (show (10:Nat)^60≤2^200 by decide) (Nat.pow_le_pow_right (by decide) (by decide)))
inductive Part where
 | num (x:Int)
 | tx (t:List Nat)
 | row (r:Row)
def Part.At(H:Hp)(v:V):Part→Prop
 | .num x=>v=.int x
 | .tx t=>v=.str (txt t)
 | .row r=>∃ q,v=.ref q∧bQ H q r
def Part.Ok:Part→Prop
 | .num x=>wU x
 | .tx t=>t.length≤200
 | .row r=>Io r
abbrev wV(r:Row):List Nat:=r.flatMap fun p=>32::ie p
def Part.line:Part→List Nat
 | .num x=>32::gX.dg x
 | .tx t=>32::t
 | .row r=>wV r
theorem AW{r:Row}(h:Io r):(wV r).length≤4000:=by
 have key:∀ l:Row,(∀ p∈l,wU p.1∧wU p.2)→(wV l).length≤122*l.length:=by
  intro l
  induction l with
  | nil=>intro _;exact gQ _
  | cons p l ih =>
   intro g
   have z:=ih fun q hq=>g q (sJ _ hq)
   have z2:=Lf (g p sD)
   show ((32::ie p)++wV l).length≤_
   rw[dU,nG,nG]
   omega
 have:=key r h.2
 have:=h.1
 omega
theorem Part.Gp{p:Part}(h:p.Ok):p.line.length≤4000:=by
 cases p with
 | num x=>have:=gX.HV h.1 h.2;show (32::gX.dg x).length≤_;rw[nG];omega
 | tx t=>have h':t.length≤200:=h;show (32::t).length≤_;rw[nG];omega
 | row r=>exact AW h
def mJ.nm:mJ→List Nat
 | .BV _ _=>[112,111,117,114]
 | .G2 _ _=>om
 | .plain n _=>n
 | .uZ n _ _=>n
def mJ.parts:mJ→List Part
 | .BV h t=>[.num h,.tx t]
 | .G2 _ _=>[]
 | .plain _ ns=>ns.map .num
 | .uZ _ ns r=>ns.map .num++[.row r]
def mJ.line:mJ→List Nat
 | .G2 a b=>om++wV a++[32,47]++wV b
 | d=>d.nm++d.parts.flatMap Part.line
theorem Na{H:Hp}{p:Addr}{d:mJ}(h:d.At H p)(nt:∀ a b,d≠.G2 a b):∃ vs,H p=some (.tup (.str (txt d.nm)::vs))∧b8 (fun v q=>Part.At H v q) vs d.parts:=by
 have nums:∀ ns:List Int,b8 (fun v q=>Part.At H v q) (ns.map V.int) (ns.map Part.num):=fun ns=>by
  induction ns with
  | nil=>exact .nil
  | cons x ns ih=>exact .cons rfl ih
 cases d with
 | BV x t=>exact⟨_,by rw[h,show Str.ofString "pour"=txt [112,111,117,114] by decide +kernel];rfl,.cons rfl (.cons rfl .nil)⟩
 | G2 a b=>exact absurd rfl (nt a b)
 | plain n ns=>exact⟨_,h,nums ns⟩
 | uZ n ns r =>
  obtain⟨q,e,z⟩:=h
  exact⟨ns.map V.int++[.ref q],by rw[e];rfl,(nums ns).snoc ⟨q,rfl,z⟩⟩
theorem Lg{d:mJ}(h:d.Ok):∀ q∈d.parts,q.Ok:=by
 cases d with
 | BV x t =>
  intro q hq
  rcases List.mem_cons.mp hq with z|z
  ·rw[z];exact h.1
  ·rw[List.mem_singleton.mp z];exact h.2
 | G2 a b=>intro q hq;cases hq
 | plain n ns =>
  intro q hq
  obtain⟨x,hx,rfl⟩:=List.mem_map.mp hq
  exact h.2 x hx
 | uZ n ns r =>
  intro q hq
  rcases List.mem_append.mp hq with z|z
  ·obtain⟨x,hx,rfl⟩:=List.mem_map.mp z
   exact h.2.1 x hx
  ·rw[List.mem_singleton.mp z];exact h.2.2
theorem Gq{H:Hp}:∀ {vs:List V} {ps:List Part} {i:Nat} {v:V},b8 (fun v q=>Part.At H v q) vs ps→vs[i]?=some v→∃ q,ps[i]?=some q∧q.At H v
 | _,_,_,_,.nil,h=>by simp at h
 | _,_,0,_,.cons o t,h=>by
  have e:=sM h
  subst e
  exact⟨_,rfl,o⟩
 | _,_,i+1,_,.cons o t,h=>by
  obtain⟨q,e,z⟩:=Gq (i:=i) t (by simpa using h)
  exact⟨q,by simpa using e,z⟩
theorem C9{ps:List Part}(h:∀ q∈ps,q.Ok):(ps.flatMap Part.line).length≤4000*ps.length:=by
 induction ps with
 | nil=>exact lI _
 | cons p ps ih =>
  have z:=ih fun q hq=>h q (sJ _ hq)
  have z2:=Part.Gp (h p sD)
  rw[mq,dU,nG,Nat.mul_add,Nat.mul_one]
  omega
theorem JC(n:List Nat):∀ ws:nA,gX.jn 32 (n::ws)=n++ws.flatMap (fun w=>32::w):=by
 intro ws
 induction ws generalizing n with
 | nil=>show n=_;simp
 | cons w ws ih =>
  show n++32::gX.jn 32 (w::ws)=_
  rw[ih w,mq]
  simp
theorem Gr{D:List (Str × Int)}{n:List Nat}{k:Int}(hD:∀ p∈D,32∉p.1.cps.toList∧p.1.cps.toList≠[112,111,117,114]∧p.1.cps.toList≠om∧p.1.cps.toList.length≤10)(h:tabAt D n=some k):32∉n∧n≠[112,111,117,114]∧n≠om∧n.length≤10:=by
 have z:=hD _ (List.mem_of_find?_eq_some (AV h))
 have e:(txt n).cps.toList=n:=gX.t9 n
 rw[show ((txt n,k):Str × Int).1=txt n from rfl,e]at z
 exact z
theorem Nb{n:List Nat}{k:Int}(h:tabAt RV n=some k):32∉n∧n≠[112,111,117,114]∧n≠om∧n.length≤10:=Gr (by decide +kernel) h
theorem Nc{n:List Nat}{k:Int}(h:tabAt Vk n=some k):32∉n∧n≠[112,111,117,114]∧n≠om∧n.length≤10:=Gr (by decide +kernel) h
theorem tw(r:Row):wV r=(r.map ie).flatMap fun w=>32::w:=by
 induction r with
 | nil=>rfl
 | cons x r ih=>rw[mz,mq,← ih];rfl
theorem mJ.At.same{H H':Hp}{p:Addr}{d:mJ}(h:d.At H p)(s:aH H H'):d.At H' p:=by
 cases d with
 | BV x t=>exact s _ _ h
 | G2 a b=>obtain⟨q1,q2,e,r1,r2,n⟩:=h;exact⟨q1,q2,s _ _ e,r1.same s,r2.same s,n⟩
 | plain n ns=>exact s _ _ h
 | uZ n ns r=>obtain⟨q,e,r1⟩:=h;exact⟨q,s _ _ e,r1.same s⟩
theorem Lh{n:List Nat}{k:Int}(h:tabAt RV n=some k):k≤5:=by
 have z:∀ p∈RV,p.2≤5:=by decide +kernel
 exact z _ (List.mem_of_find?_eq_some (AV h))
theorem Li{n:List Nat}{k:Int}(h:tabAt Vk n=some k):k≤5:=by
 have z:∀ p∈Vk,p.2≤5:=by decide +kernel
 exact z _ (List.mem_of_find?_eq_some (AV h))
theorem Ip{d:mJ}(ok:d.Ok):(∀ a b,d≠.G2 a b)→d.nm≠om∧d.nm.length≤10∧d.parts.length≤10:=by
 intro nt
 cases d with
 | BV x t=>exact⟨by show [112,111,117,114]≠om;decide,by show 4≤10;decide,by show 2≤10;decide⟩
 | G2 a b=>exact absurd rfl (nt a b)
 | plain n ns =>
  obtain⟨_,_,f3,f4⟩:=Nb ok.1
  have:=Lh ok.1
  exact⟨f3,f4,by show (ns.map Part.num).length≤10;rw[cA];omega⟩
 | uZ n ns r =>
  obtain⟨_,_,f3,f4⟩:=Nc ok.1
  have:=Li ok.1
  exact⟨f3,f4,by show (ns.map Part.num++[Part.row r]).length≤10;rw[dU,cA];show ns.length+1≤10;omega⟩
inductive vI(vs:List V)(H:Hp)(Q:VK)(E:XK):Prop
 | mk (q:Addr) (r:Row) (_:vs=[.ref q]) (_:bQ H q r) (_:Io r) (_: ∀ (a:Addr) (H':Hp),H' a=some (gz (r.map ie))→aH H H'→H a=none→Q (.ref a) H'):vI vs H Q E
theorem Gs:aJ ["row"] ["row"] (ay jA):=⟨rfl,rfl,rfl,by decide +kernel,rfl,by decide +kernel,by decide +kernel⟩
theorem Nf{a b:Int}(ha:0≤a)(hb:0≤b):(Str.empty++Str.ofString (toString a)++Str.ofString "-"++Str.ofString (toString b))=txt (ie (a,b)):=by
 rw[gX.zE ha,gX.zE hb,show Str.ofString "-"=txt [45] by decide +kernel,show Str.empty=txt [] from rfl,zD,zD,zD]
 simp
theorem Ea{f:Addr}{fd:FuncData}(F:iI K "ink_words" "ink_words" jA f fd)(T:n9 mg):aC P w K mg base bU 1 f fd eU vI:=by
 refine F.ok Gs (fun vs H Q E h=>?_) (fun cdv A outer s H vs Q E hr h=>?_)
 ·obtain⟨q,r,rfl,_⟩:=h
  rfl
 obtain⟨q,r,rfl,⟨as,hq,pa⟩,⟨lr,fr⟩,k⟩:=h
 refine⟨_,(ao (aT (ku (N:=["start","stop"]) (r9 (sc:=ay jA) (NX:=["row"]) (jx:=[none,none]) rfl rfl rfl (by decide +kernel) (by decide +kernel) rfl (by decide +kernel) rfl (by decide +kernel)) rfl (cM (pv 0)) (fun _ _ _ _ _ _=>(DF (n:=2) rfl (bL (aW (i:=0) (show List.Nodup (["start","stop"]:List Str) by decide +kernel) rfl (Or.inl rfl)) (bL (aW (i:=1) (show List.Nodup (["start","stop"]:List Str) by decide +kernel) rfl (Or.inl rfl)) jX)))) (fun _ _ _ _ _ _=>iJ) (fun _ _ _ _ _ _=>(gX.MN (gX.Js (pv 0) (gX.OJ (gX.Js (pv 1) gX.OI)))))))),?_⟩
 have lp:=Paired.length pa
 refine⟨_,rfl,q,rfl,⟨_,bN.of hq⟩,fun acc hacc=>jL (K:=K) (a:=q) (xs:=as.map V.ref) (fun i σ H2=>∃ u0 u1:Option V,σ=[u0,u1]∧H2 acc=some (gz ((r.take i).map ie))∧aH H H2) ⟨none,none,rfl,af,aj hacc _⟩ (fun i σ H2 _ ⟨_,_,_,_,s2⟩=>bN.of (s2 _ _ hq)) ?_ ?_⟩
 ·rintro i y σ H2 hi ⟨u0,u1,rfl,h2,s2⟩
  rw[jV]at hi
  obtain⟨a,ei,rfl⟩:=Option.map_eq_some_iff.mp hi
  obtain⟨p,ep,hp⟩:=pa.get ei
  have fp:=fr p (uA ep)
  have il:=(List.getElem?_eq_some_iff.mp ep).1
  refine⟨a,_,rfl,jW.of (s2 _ _ hp),rfl,_,_,rfl,_,_,rfl,rfl,?_⟩
  refine⟨_,rfl,_,rfl,DZ fp.1,_,rfl,_,rfl,DZ fp.2,_,h2,aL (by rw[cA,cA,rj];omega),_,_,rfl,?_,cD hacc s2 (aK acc _ _)⟩
  rw[af,take_snoc ep,lH,mz,List.map_nil,Nf fp.1.1 fp.2.1]
  show some (HO.lst _)=some (HO.lst _)
  rw[lH]
  rfl
 ·rintro σ H2 ⟨u0,u1,rfl,h2,s2⟩
  rw[cA,lp,kQ]at h2
  exact k acc H2 h2 s2 hacc
def Part.words:Part→nA
 | .num x=>[gX.dg x]
 | .tx t=>[t]
 | .row r=>r.map ie
theorem vJ(ps:List Part):(ps.flatMap Part.words).flatMap (fun w=>32::w)=ps.flatMap Part.line:=by
 induction ps with
 | nil=>rfl
 | cons p ps ih =>
  rw[mq,mq,List.flatMap_append,ih]
  congr 1
  cases p with
  | num x=>show (32::gX.dg x)++[]=32::gX.dg x;rw[kj]
  | tx t=>show (32::t)++[]=32::t;rw[kj]
  | row r=>exact (tw r).symm
inductive AX(vs:List V)(H:Hp)(Q:VK)(E:XK):Prop
 | mk (p:Addr) (d:mJ) (_:vs=[.ref p]) (_:d.At H p) (_:d.Ok) (_:((∀ a b,d≠.G2 a b)→d.nm≠om∧d.nm.length≤10∧d.parts.length≤10)) (_: ∀ H',aH H H'→Q (.str (txt d.line)) H'):AX vs H Q E
theorem oq:aJ ["deed","words","thing"] ["deed"] (ay ly):=⟨rfl,rfl,rfl,by decide +kernel,rfl,by decide +kernel,by decide +kernel⟩
theorem AY(W:nA):(W.map List.length).sum+W.length=(W.flatMap fun w=>32::w).length:=by
 induction W with
 | nil=>rfl
 | cons x W ih =>
  rw[mz,List.sum_cons,nG,mq,dU,nG,← ih]
  omega
theorem um(a b:nA):(a.map fun w=>V.str (txt w))++(b.map fun w=>V.str (txt w))=(a++b).map fun w=>V.str (txt w):=List.map_append.symm
set_option maxHeartbeats 4000000 in
theorem BW{f fI:Addr}{fd gI:FuncData}(F:iI K "shown_deed" "shown_deed" ly f fd)(T:n9 mg)(jP:aA K mg "ink_words" jA eU fI gI):aC P w K mg base bU 2 f fd ["deed"] AX:=by
 have vK:aC P w K mg base bU 1 _ _ eU vI:=Ea jP.F T
 refine F.ok oq (fun vs H Q E h=>?_) (fun cdv A outer s H vs Q E hr h=>?_)
 ·obtain⟨p,d,rfl,_⟩:=h
  rfl
 obtain⟨p,d,rfl,hd,ok,nn,k⟩:=h
 refine⟨_,(ak (cG (cj mY (bG eF (pv 0) az (fun _ _=>rfl)) bS (bZ _))
   (ao (aT (je PySem.F.plainAttrs_str PySem.F.slot_str_join PySem.F.type_str_join gX.F3 bS (aa (bw oR (bw oR (bw oR (bH (aa bS ah)) (aN jP vK hr (aa (bG eF (pv 0) az (fun _ _=>rfl)) ah))) (bH (aa bS ah))) (aN jP vK hr (aa (bG eF (pv 0) az (fun _ _=>rfl)) ah))) ah))))
   bK)
   (ak (aO (i:=1) oq.nd rfl (Or.inl rfl) (bH (aa (bG eF (pv 0) az (fun _ _=>rfl)) ah)))
   (ak (jr PassesOwn.never rfl (QO (jd QY (pv 0) (kH az) kG)) (aW (i:=2) oq.nd rfl (Or.inl rfl))
   (ao (xA (i:=1) oq.nd rfl (Or.inl rfl) (E4 (oM (aR dF rfl T.cU yV (aa (pv 2) (aa (rZ rfl T.pG zS) ah)))) (aN jP vK hr (aa (pv 2) ah)) (bH (aa (F5.UN (pv 2)) ah))) xU)))
   (ao (aT (je PySem.F.plainAttrs_str PySem.F.slot_str_join PySem.F.type_str_join gX.F3 bS (aa (pv 1) ah))))))),?_⟩
 have tt:Str.ofString "tie"=txt om:=by decide +kernel
 have kil:PySem.W.kitOne K (.type "int") (.type "list")=some false:=by kernel_rfl
 have ksl:PySem.W.kitOne K (.type "str") (.type "list")=some false:=by kernel_rfl
 by_cases ht:∃ a b,d=.G2 a b
 ·obtain⟨a,b,rfl⟩:=ht
  obtain⟨q1,q2,hp,r1,r2,_⟩:=hd
  have la:=AW ok.1
  have lb:=AW ok.2
  have ea:(a.map ie).length=a.length:=cA _
  have eb:(b.map ie).length=b.length:=cA _
  have a29:=ok.1.1
  have b29:=ok.2.1
  refine⟨_,rfl,p,_,_,_,rfl,rfl,jW.of hp,eV (j:=0) rfl,?_⟩
  refine⟨rfl,_,rfl,eG (fun _=>?_) (fun c=>absurd (decide_eq_true rfl) c)⟩
  refine⟨rfl,(by show 1≤sizeLine;decide),fun t1 f1=>?_⟩
  have s1:=aj f1 (.lst [.str (Str.ofString "tie")])
  have h1:(upd H t1 (.lst [.str (Str.ofString "tie")])) t1=some (gz [om]):=by rw[tt];exact af
  generalize upd H t1 (.lst [.str (Str.ofString "tie")])=H1 at s1 h1
  refine⟨_,rfl,p,_,_,_,rfl,rfl,jW.of (s1 _ _ hp),eV (j:=1) rfl,q1,a,rfl,r1.same s1,ok.1,fun w1 H2 hw1 s2 fw1=>?_⟩
  refine⟨t1,w1,_,_,rfl,rfl,s2 _ _ h1,hw1,iR (aL (by simp only[cA,nG,qu];omega)),fun t2 f2=>?_⟩
  rw[um]
  have s3:=aj f2 (gz ([om]++a.map ie))
  have h3:(upd H2 t2 (gz ([om]++a.map ie))) t2=some (gz ([om]++a.map ie)):=af
  generalize upd H2 t2 (gz ([om]++a.map ie))=H3 at s3 h3
  refine⟨(by show 1≤sizeLine;decide),fun t3 f3=>?_⟩
  have s4:=aj f3 (.lst [.str (Str.ofString "/")])
  have h4:(upd H3 t3 (.lst [.str (Str.ofString "/")])) t3=some (gz [[47]]):=by rw[show Str.ofString "/"=txt [47] by decide +kernel];exact af
  generalize upd H3 t3 (.lst [.str (Str.ofString "/")])=H4 at s4 h4
  refine⟨t2,t3,_,_,rfl,rfl,s4 _ _ h3,h4,iR (aL (by simp only[cA,dU,nG,qu];omega)),fun t4 f4=>?_⟩
  rw[um]
  have s5:=aj f4 (gz ([om]++a.map ie++[[47]]))
  have h5:(upd H4 t4 (gz ([om]++a.map ie++[[47]]))) t4=some (gz ([om]++a.map ie++[[47]])):=af
  generalize upd H4 t4 (gz ([om]++a.map ie++[[47]]))=H5 at s5 h5
  have Lx:aH H H5:=s1.trans (s2.trans (s3.trans (s4.trans s5)))
  refine⟨_,rfl,p,_,_,_,rfl,rfl,jW.of (Lx _ _ hp),eV (j:=2) rfl,q2,b,rfl,r2.same Lx,ok.2,fun w2 H6 hw2 s6 fw2=>?_⟩
  refine⟨t4,w2,_,_,rfl,rfl,s6 _ _ h5,hw2,iR (aL (by simp only[cA,dU,nG,qu];omega)),fun t5 f5=>?_⟩
  rw[um]
  have s7:=aj f5 (gz ([om]++a.map ie++[[47]]++b.map ie))
  have e5:[om]++a.map ie++[[47]]++b.map ie=om::(a.map ie++[47]::b.map ie):=by simp
  have el:gX.jn 32 (om::(a.map ie++[47]::b.map ie))=(mJ.G2 a b).line:=by
   rw[JC,List.flatMap_append,mq,← tw,← tw]
   show _=om++wV a++[32,47]++wV b
   simp
  have fs:=AY (a.map ie++[47]::b.map ie)
  rw[List.flatMap_append,mq,← tw,← tw]at fs
  simp only[dU,nG,qu]at fs
  refine⟨t5,32,_,by rw[show Str.ofString " "=⟨#[32]⟩ by decide +kernel],rfl,af,?_,?_⟩
  ·rw[e5,mz,List.sum_cons,nG]
   simp only[dU,nG,qu]
   omega
  rw[e5]at s7 ⊢
  rw[el]
  exact k _ (Lx.trans (s6.trans s7))
 have nt:∀ a b,d≠.G2 a b:=fun a b e=>ht ⟨a,b,e⟩
 obtain⟨vs,hp,al⟩:=Na hd nt
 obtain⟨n1,n2,n3⟩:=nn nt
 have pk:=Lg ok
 have lv:=al.len
 have ln:d.line=d.nm++d.parts.flatMap Part.line:=by
  cases d with
  | G2 a b=>exact absurd rfl (nt a b)
  | _=>rfl
 refine⟨_,rfl,p,_,_,_,rfl,rfl,jW.of hp,eV (j:=0) rfl,?_⟩
 refine⟨rfl,_,rfl,eG (fun c=>absurd (of_decide_eq_true c) (by rw[tt];intro z;exact n1 (OH (V.str.inj z)))) (fun _=>?_)⟩
 refine⟨_,rfl,p,_,_,_,rfl,rfl,jW.of hp,eV (j:=0) rfl,(by show 1≤sizeLine;decide),fun wl fwl=>?_⟩
 have s0:=aj fwl (.lst [.str (txt d.nm)])
 have h0:(upd H wl (.lst [.str (txt d.nm)])) wl=some (gz [d.nm]):=af
 refine⟨_,rfl,_,rfl,p,_,rfl,jW.of (s0 _ _ hp),?_,fun tp htp=>?_⟩
 ·rintro⟨z,_⟩
  have e:HT.iG (V.str (txt d.nm)::vs).length 0 (some 1)=min 1 (V.str (txt d.nm)::vs).length:=HT.IS _ _ 1
  have z':HT.iG (V.str (txt d.nm)::vs).length 0 (some 1)=0:=z
  rw[e,nG]at z'
  omega
 have ec:nX (V.str (txt d.nm)::vs) (some 1) none=vs:=by
  unfold nX
  have e:HT.iG (V.str (txt d.nm)::vs).length 0 (some 1)=1:=(HT.IS _ _ 1).trans (by rw[nG];omega)
  have e2:HT.iG (V.str (txt d.nm)::vs).length (V.str (txt d.nm)::vs).length none=vs.length+1:=rfl
  rw[e,e2]
  show vs.take (vs.length+1-1)=vs
  exact vj (by omega)
 rw[ec]
 change (upd H wl (.lst [.str (txt d.nm)])) tp=none at htp
 have s1':=aj htp (.tup vs)
 have h1:(upd (upd H wl (.lst [.str (txt d.nm)])) tp (.tup vs)) tp=some (.tup vs):=af
 have h1w:=s1' _ _ h0
 have s1:=s0.trans s1'
 have nwt:wl≠tp:=au h0 htp
 generalize upd (upd H wl (.lst [.str (txt d.nm)])) tp (.tup vs)=H1 at s1 h1 h1w
 refine⟨tp,rfl,⟨_,jW.of h1⟩,NZ (K:=K) (a:=tp) (xs:=vs) (fun i σ H2=>∃ u:Option V,σ=[some (.ref p),some (.ref wl),u]∧H2 wl=some (gz (d.nm::(d.parts.take i).flatMap Part.words))∧H2 tp=some (.tup vs)∧aH H H2) ⟨none,rfl,by rw[List.take_zero,List.flatMap_nil];exact h1w,h1,s1⟩ (fun i σ H2 _ ⟨_,_,_,h2,_⟩=>jW.of h2) ?_ ?_⟩
 ·rintro i v σ H2 hi ⟨u,rfl,h2,h2t,s2⟩
  obtain⟨q,eq,hq⟩:=Gq al hi
  have qk:=pk q (uA eq)
  have ql:=Part.Gp qk
  have fl:=C9 (ps:=d.parts.take i) fun q hq=>pk q (List.mem_of_mem_take hq)
  have ft:(d.parts.take i).length≤10:=by rw[rj];omega
  have fs:=AY ((d.parts.take i).flatMap Part.words)
  rw[vJ]at fs
  have nx:d.nm::(d.parts.take (i+1)).flatMap Part.words=(d.nm::(d.parts.take i).flatMap Part.words)++q.words:=by
   rw[take_snoc eq,List.flatMap_append,mq,List.flatMap_nil,kj,List.cons_append]
  have lB:(d.nm::(d.parts.take i).flatMap Part.words).length≤50000:=by rw[nG];omega
  have lq:q.words.length≤29:=by
   cases q with
   | num x=>show 1≤29;decide
   | tx t=>show 1≤29;decide
   | row r=>show (r.map ie).length≤29;rw[cA];exact qk.1
  have fin:∀ (t:Addr) (H3:Hp) (v':V),aH H2 H3→H2 t=none→H3 t=some (gz q.words)→∃ (l b:Addr) (xs zs:List V),V.ref wl=.ref l∧V.ref t=.ref b∧H3 l=some (.lst xs)∧H3 b=some (.lst zs)∧xs.length+zs.length≤sizeLine∧∃ u:Option V,([some (.ref p),some (.ref wl),some v']:List (Option V)).set 1 (some (.ref l))=[some (.ref p),some (.ref wl),u]∧(upd H3 l (.lst (xs++zs))) wl=some (gz (d.nm::(d.parts.take (i+1)).flatMap Part.words))∧(upd H3 l (.lst (xs++zs))) tp=some (.tup vs)∧aH H (upd H3 l (.lst (xs++zs))):=by
   intro t H3 v' s3 Cz h3
   refine⟨wl,t,_,_,rfl,rfl,s3 _ _ h2,h3,iR (aL (by rw[cA,cA];omega)),_,rfl,?_,?_,?_⟩
   ·rw[um,af,nx]
   ·rw[aF nwt.symm];exact s3 _ _ h2t
   ·exact cD fwl (s2.trans s3) (aK wl _ _)
  cases q with
  | num x =>
   cases (show v=.int x from hq)
   refine⟨_,rfl,_,rfl,_,"list",_,_,rfl,.int x,kil,_,rfl,jY ⟨_,rfl,.inl ⟨x,rfl,DZ qk,?_⟩⟩⟩
   rw[gX.zE qk.1]
   exact⟨(by show 1≤sizeLine;decide),fun t Cz=>fin t _ (.int x) (aj Cz _) Cz af⟩
  | tx t =>
   cases (show v=.str (txt t) from hq)
   have lt:t.length≤200:=qk
   refine⟨_,rfl,_,rfl,_,"list",_,_,rfl,.str _,ksl,_,rfl,jY ⟨_,rfl,.inr ⟨t,rfl,by omega,?_⟩⟩⟩
   exact⟨(by show 1≤sizeLine;decide),fun t' Cz=>fin t' _ (.str (txt t)) (aj Cz _) Cz af⟩
  | row r =>
   obtain⟨qa,rfl,hr⟩:=hq
   have hr2:=hr.same s2
   obtain⟨as,has,_⟩:=id hr2
   refine⟨_,rfl,_,rfl,_,"list",_,_,rfl,.lst has,Ux K,_,rfl,jZ ?_⟩
   exact⟨_,rfl,qa,r,rfl,hr2,qk,fun t H3 h3 s3 Cz=>fin t H3 (.ref qa) s3 Cz h3⟩
 ·rintro σ H2 ⟨u,rfl,h2,h2t,s2⟩
  rw[lv,kQ]at h2
  have fs:=AY (d.parts.flatMap Part.words)
  rw[vJ]at fs
  have fl:=C9 (ps:=d.parts) pk
  refine⟨rfl,_,rfl,wl,32,_,by rw[show Str.ofString " "=⟨#[32]⟩ by decide +kernel],rfl,h2,?_,?_⟩
  ·rw[mz,List.sum_cons,nG]
   omega
  rw[JC,vJ,← ln]
  exact k H2 s2
structure Vl(S:Addr→Prop)(H:Hp)(st op r:Addr)(its:List Item):Prop where
 own:S r
 ne:r≠st∧r≠op
 at':bx H (.ref r) its
def Iq(S:Addr→Prop)(H:Hp)(st op a:Addr)(rows:List (List Item)):Prop:=S a∧a≠st∧a≠op∧∃ rs:List Addr,H a=some (.lst (rs.map V.ref))∧b8 (Vl S H st op) rs rows
abbrev ou:=List (List (List Item))
structure WY(past:ou)(ops:List Int):Prop where
 Dc:∃ last,past.getLast?=some last∧ops.length=last.length
 fit:∀ (s:Nat) (o:Int),ops[s]?=some o→0≤o∧o<past.length∧∀ (m:Nat) (rows:List (List Item)),past[m]?=some rows→(o≤m↔s<rows.length)
 less:∀ (m:Nat) (rows:List (List Item)),past[m]?=some rows→rows.length≤ops.length
structure Sh(C:Addr)(S:Addr→Prop)(H:Hp)(x d st op:Addr)(past:ou)(ops:List Int):Prop where
 sx:S x
 ss:S st
 so:S op
 al:∀ a,S a→∃ ob,H a=some ob
 hx:H x=some (.ins C d [("states",.ref st),("openings",.ref op)])
 hs:∃ as:List Addr,H st=some (.lst (as.map V.ref))∧b8 (Iq S H st op) as past
 ho:H op=some (.lst (ops.map V.int))
 ne:st≠op
 NH:WY past ops
theorem bx.fr{H H':Hp}{r:Addr}{its:List Item}(h:bx H (.ref r) its)(k:∀ xs,H r=some (.lst xs)→H' r=some (.lst xs))(t:∀ a xs,H a=some (.tup xs)→H' a=some (.tup xs)):bx H' (.ref r) its:=by
 obtain⟨a,vs,e,h1,h2⟩:=h
 cases e
 exact⟨r,vs,rfl,k _ h1,h2.mono fun v it ⟨b,e,hb⟩=>⟨b,e,t _ _ hb⟩⟩
theorem Iq.fr{S S':Addr→Prop}{H H':Hp}{st op a:Addr}{rows:List (List Item)}(h:Iq S H st op a rows)(sub:∀ a,S a→S' a)(k:∀ a ob,H a=some ob→S a→a≠st→a≠op→H' a=some ob)(t:∀ a xs,H a=some (.tup xs)→H' a=some (.tup xs)):Iq S' H' st op a rows:=by
 obtain⟨sa,n1,n2,rs,hr,al⟩:=h
 exact⟨sub _ sa,n1,n2,rs,k _ _ hr sa n1 n2,al.mono fun r its q=>⟨sub _ q.own,q.ne,q.at'.fr (fun xs e=>k _ _ e q.own q.ne.1 q.ne.2) t⟩⟩
theorem Sh.fr{C:Addr}{S:Addr→Prop}{H H':Hp}{x d st op:Addr}{past:ou}{ops:List Int}(h:Sh C S H x d st op past ops)(k:∀ a ob,H a=some ob→S a→H' a=some ob)(t:∀ a xs,H a=some (.tup xs)→H' a=some (.tup xs)):Sh C S H' x d st op past ops:=by
 obtain⟨sx,ss,so,al,hx,⟨as,hs,a2⟩,ho,ne,NH⟩:=h
 refine⟨sx,ss,so,fun a z=>?_,k _ _ hx sx,⟨as,k _ _ hs ss,a2.mono fun a rows q=>q.fr (fun _ z=>z) (fun a ob e z _ _=>k _ _ e z) t⟩,k _ _ ho so,ne,NH⟩
 obtain⟨ob,e⟩:=al a z
 exact⟨ob,k _ _ e z⟩
theorem Sh.same{C:Addr}{S:Addr→Prop}{H H':Hp}{x d st op:Addr}{past:ou}{ops:List Int}(h:Sh C S H x d st op past ops)(k:aH H H'):Sh C S H' x d st op past ops:=h.fr (fun a ob e _=>k a ob e) (fun a xs e=>k _ _ e)
theorem Sh.keep{C:Addr}{S:Addr→Prop}{H H':Hp}{x d st op l:Addr}{past:ou}{ops:List Int}{ls:List V}(h:Sh C S H x d st op past ops)(hl:H l=some (.lst ls))(nl:¬ S l)(k:cO l H H'):Sh C S H' x d st op past ops :=
 h.fr (fun a ob e z=>k a ob e (fun q=>nl (by rw[← q];exact z))) (fun a xs e=>k _ _ e (cY e hl (by intro z;cases z)))
theorem AZ:∀ {as bs:List Addr},as.map V.ref=bs.map V.ref→as=bs
 | [],[],_=>rfl
 | [],_::_,h=>by cases h
 | _::_,[],h=>by cases h
 | a::as,b::bs,h=>by
  rw[mz,mz]at h
  injection h with h1 h2
  cases h1
  rw[AZ h2]
theorem Sh.last{C:Addr}{S:Addr→Prop}{H:Hp}{x d st op:Addr}{past:ou}{ops:List Int}(h:Sh C S H x d st op past ops){as:List Addr}(ha:H st=some (.lst (as.map V.ref))):∃ as' a,as=as'++[a]∧∀ last,past.getLast?=some last→Iq S H st op a last:=by
 obtain⟨bs,hb,a2⟩:=h.hs
 have e:as=bs:=by
  rw[ha]at hb
  have:=HO.lst.inj (sM hb)
  exact AZ this
 subst e
 obtain⟨last,hl,_⟩:=h.NH.Dc
 obtain⟨p',rfl⟩:∃ p',past=p'++[last]:=by
  rcases vn past with rfl|⟨p',l,rfl⟩
  ·cases hl
  ·rw[sC,xr]at hl
   cases hl
   exact⟨p',sC⟩
 obtain⟨as',a,rfl,_,r⟩:=a2.split
 refine⟨as',a,rfl,fun l e=>?_⟩
 rw[hl]at e
 cases e
 exact r
theorem Ir(xs:List V){p:Int}(h:0≤p):nX xs none (some p)=xs.take p.toNat:=by
 unfold nX
 have e1:HT.iG xs.length 0 none=0:=rfl
 have e2:HT.iG xs.length xs.length (some p)=min p.toNat xs.length:=by
  show (if p<0 then (p+(xs.length:Int)).toNat else min p.toNat xs.length)=_
  rw[if_neg (by omega)]
 rw[e1,e2,List.drop_zero,Nat.sub_zero]
 rcases Nat.le_total p.toNat xs.length with z|z
 ·rw[Nat.min_eq_left z]
 ·rw[Nat.min_eq_right z,vj (gQ _),vj z]
theorem Lj(xs:List V){p:Int}(h:0≤p):nX xs (some p) none=xs.drop p.toNat:=by
 unfold nX
 have e1:HT.iG xs.length xs.length none=xs.length:=rfl
 have e2:HT.iG xs.length 0 (some p)=min p.toNat xs.length:=by
  show (if p<0 then (p+(xs.length:Int)).toNat else min p.toNat xs.length)=_
  rw[if_neg (by omega)]
 rw[e1,e2]
 rcases Nat.le_total p.toNat xs.length with z|z
 ·rw[Nat.min_eq_left z,vj (by rw[sL];omega)]
 ·rw[Nat.min_eq_right z,List.drop_of_length_le (gQ _),List.drop_of_length_le z]
  simp
inductive uo(vs:List V)(H:Hp)(Q:VK)(E:XK):Prop
 | mk (a r:Addr) (rs:List V) (s:Nat) (_:vs=[.ref a,.int (s:Nat),.ref r]) (_:H a=some (.lst rs)) (_:s≤rs.length) (_:rs.length≤1000) (_: ∀ (p:Addr) (H':Hp),H' p=some (.lst (rs.take s++[.ref r]++rs.drop (s+1)))→aH H H'→H p=none→Q (.ref p) H'):uo vs H Q E
inductive Eb(C:Addr)(vs:List V)(H:Hp)(Q:VK)(E:XK):Prop
 | mk (x d:Addr) (_:vs=[.ref x]) (_:H x=some (.ins C d [])) (_: ∀ (st op z:Addr) (H':Hp),Sh C (fun a=>a=x∨a=st∨a=op∨a=z) H' x d st op [[]] []→cO x H H'→H st=none→H op=none→H z=none→Q .jw H'):Eb C vs H Q E
inductive Gu(C:Addr)(vs:List V)(H:Hp)(Q:VK)(E:XK):Prop
 | mk (x d st op:Addr) (as:List V) (_:vs=[.ref x]) (_:H x=some (.ins C d [("states",.ref st),("openings",.ref op)])) (_:H st=some (.lst as)) (_:Q (.int ((as.length:Nat)-1)) H):Gu C vs H Q E
inductive Ec(C:Addr)(vs:List V)(H:Hp)(Q:VK)(E:XK):Prop
 | mk (S:Addr→Prop) (x d st op:Addr) (past:ou) (ops:List Int) (_:vs=[.ref x]) (_:Sh C S H x d st op past ops) (_:Q (.int (ops.length:Nat)) H):Ec C vs H Q E
theorem Lk:aJ ["state","sheet","items"] ["state","sheet","items"] (ay oW):=⟨rfl,rfl,rfl,by decide +kernel,rfl,by decide +kernel,by decide +kernel⟩
theorem yb:aJ ["self"] ["self"] (ay jg):=⟨rfl,rfl,rfl,by decide +kernel,rfl,by decide +kernel,by decide +kernel⟩
theorem Gv:aJ ["self"] ["self"] (ay iA):=⟨rfl,rfl,rfl,by decide +kernel,rfl,by decide +kernel,by decide +kernel⟩
theorem Ed:aJ ["self"] ["self"] (ay jB):=⟨rfl,rfl,rfl,by decide +kernel,rfl,by decide +kernel,by decide +kernel⟩
theorem A0{f:Addr}{fd:FuncData}(F:iI K "changed" "changed" oW f fd)(T:n9 mg):aC P w K mg base bU 1 f fd G6 uo:=by
 refine F.ok Lk (fun vs H Q E h=>?_) (fun cdv A outer s H vs Q E hr h=>?_)
 ·obtain⟨a,r,rs,s,rfl,_⟩:=h
  rfl
 obtain⟨a,r,rs,s,rfl,ha,sl,l1,k⟩:=h
 refine⟨_,(ak (cG (oN (v8 lM lM az (pv 1) (aR bP rfl T.iH mw (aa (pv 0) ah))))
   (ao zX)
   bK)
   (ao (aT (bw oR (bw oR (jd wg (pv 0) kG (kH (pv 1))) (bH (aa (pv 2) ah))) (jd wg (pv 0) (kH (bw iy (pv 1) az)) kG))))),?_⟩
 refine⟨_,rfl,_,_,rfl,rfl,_,rfl,eG (fun c0=>?_) (fun c0=>absurd (decide_eq_true (by omega)) c0)⟩
 refine⟨_,rfl,a,_,rfl,.inl (bN.of ha),_,_,rfl,rfl,_,rfl,?_⟩
 rw[decide_eq_true (show ((s:Nat):Int)≤((rs.length:Nat):Int) by omega)]
 refine jY ?_
 refine⟨_,rfl,_,rfl,_,rfl,a,_,rfl,bN.of ha,fun p1 hp1=>?_⟩
 rw[Ir _ (by omega),Int.toNat_natCast]
 have s1:aH H (upd H p1 (.lst (rs.take s))):=aj hp1 _
 have h1:(upd H p1 (.lst (rs.take s))) p1=some (.lst (rs.take s)):=af
 generalize upd H p1 (.lst (rs.take s))=H1 at s1 h1
 refine⟨_,rfl,(by show 1≤sizeLine;decide),fun p2 hp2=>?_⟩
 have s2:aH H1 (upd H1 p2 (.lst [.ref r])):=aj hp2 _
 have h2:(upd H1 p2 (.lst [.ref r])) p2=some (.lst [.ref r]):=af
 generalize upd H1 p2 (.lst [.ref r])=H2 at s2 h2
 refine⟨p1,p2,_,_,rfl,rfl,s2 _ _ h1,h2,(by rw[rj];exact iR (aL (by simp only[lK];omega))),fun p3 hp3=>?_⟩
 have s3:aH H2 (upd H2 p3 (.lst (rs.take s++[.ref r]))):=aj hp3 _
 have h3:(upd H2 p3 (.lst (rs.take s++[.ref r]))) p3=some (.lst (rs.take s++[.ref r])):=af
 generalize upd H2 p3 (.lst (rs.take s++[.ref r]))=H3 at s3 h3
 have Ng:=s1.trans (s2.trans s3)
 refine⟨_,rfl,_,rfl,_,_,rfl,rfl,_,rfl,a,_,rfl,bN.of (Ng _ _ ha),fun p4 hp4=>?_⟩
 rw[Lj _ (by omega),show (((s:Nat):Int)+1).toNat=s+1 by omega]
 have s4:aH H3 (upd H3 p4 (.lst (rs.drop (s+1)))):=aj hp4 _
 have h4:(upd H3 p4 (.lst (rs.drop (s+1)))) p4=some (.lst (rs.drop (s+1))):=af
 generalize upd H3 p4 (.lst (rs.drop (s+1)))=H4 at s4 h4
 refine⟨p3,p4,_,_,rfl,rfl,s4 _ _ h3,h4,(by rw[dU,rj,sL];exact iR (aL (by simp only[lK];omega))),fun p5 hp5=>?_⟩
 have s04:=Ng.trans s4
 exact k p5 _ af (s04.trans (aj hp5 _)) (aX s04 hp5)
theorem wW{f C:Addr}{fd:FuncData}(F:iI K "__init__" "Shelf.__init__" jg f fd)(cl:BK K C)(n1:aZ K C "states")(n2:aZ K C "openings"):aC P w K mg base bU 1 f fd jk (Eb C):=by
 refine F.ok yb (fun vs H Q E h=>?_) (fun cdv A outer s H vs Q E hr h=>?_)
 ·obtain⟨x,d,rfl,_⟩:=h
  rfl
 obtain⟨x,d,rfl,hx,k⟩:=h
 refine⟨_,(ak (kU (pv 0) (bH (aa (bH ah) ah)) rfl)
   (ao (kU (pv 0) (bH ah) rfl))),?_⟩
 refine⟨(by show 0≤sizeLine;decide),fun z hz=>?_⟩
 have a0:aH H (upd H z (.lst [])):=aj hz _
 have z0:(upd H z (.lst [])) z=some (.lst []):=af
 generalize upd H z (.lst [])=H0 at a0 z0
 refine⟨(by show 1≤sizeLine;decide),fun st hst=>?_⟩
 have a1:aH H0 (upd H0 st (.lst [.ref z])):=aj hst _
 have b1:(upd H0 st (.lst [.ref z])) st=some (.lst [.ref z]):=af
 generalize upd H0 st (.lst [.ref z])=H1 at a1 b1
 have a01:=a0.trans a1
 refine⟨_,rfl,x,C,d,_,rfl,a01 _ _ hx,cl,n1,by decide,?_⟩
 have k2:cO x H1 (upd H1 x (.ins C d (L2.dH "states" (.ref st) []))):=aK x _ _
 have h2:(upd H1 x (.ins C d (L2.dH "states" (.ref st) []))) x=some (.ins C d [("states",.ref st)]):=af
 generalize upd H1 x (.ins C d (L2.dH "states" (.ref st) []))=H2 at k2 h2
 have RW:st≠x:=(au (a0 _ _ hx) hst).symm
 have nzx:z≠x:=(au hx hz).symm
 have nzs:z≠st:=au z0 hst
 have b2:=k2 _ _ b1 RW
 have z2:=k2 _ _ (a1 _ _ z0) nzx
 refine⟨(by show 0≤sizeLine;decide),fun op hop=>?_⟩
 have Lr:op≠x:=(au h2 hop).symm
 have nso:st≠op:=au b2 hop
 have nzo:z≠op:=au z2 hop
 refine⟨_,rfl,x,C,d,_,rfl,aj hop _ _ _ h2,cl,n2,(by show 1<1000;decide),?_⟩
 have k5:cO x H (upd (upd H2 op (.lst [])) x (.ins C d (L2.dH "openings" (.ref op) [("states",.ref st)]))):=fun a ob e n=>by
  rw[aF n]
  exact aj hop _ _ _ (k2 _ _ (a01 _ _ e) n)
 have z5:(upd (upd H2 op (.lst [])) x (.ins C d (L2.dH "openings" (.ref op) [("states",.ref st)]))) z=some (.lst []):=by rw[aF nzx];exact aj hop _ _ _ z2
 have s5:(upd (upd H2 op (.lst [])) x (.ins C d (L2.dH "openings" (.ref op) [("states",.ref st)]))) st=some (.lst [.ref z]):=by rw[aF RW];exact aj hop _ _ _ b2
 have o5:(upd (upd H2 op (.lst [])) x (.ins C d (L2.dH "openings" (.ref op) [("states",.ref st)]))) op=some (.lst []):=by rw[aF Lr];exact af
 have x5:(upd (upd H2 op (.lst [])) x (.ins C d (L2.dH "openings" (.ref op) [("states",.ref st)]))) x=some (.ins C d [("states",.ref st),("openings",.ref op)]):=af
 generalize upd (upd H2 op (.lst [])) x (.ins C d (L2.dH "openings" (.ref op) [("states",.ref st)]))=H5 at k5 z5 s5 o5 x5
 refine k st op z _ ⟨.inl rfl,.inr (.inl rfl),.inr (.inr (.inl rfl)),fun a w=>?_,x5,⟨[z],s5,.cons ⟨.inr (.inr (.inr rfl)),nzs,nzo,[],z5,.nil⟩ .nil⟩,o5,nso,⟨⟨[],rfl,rfl⟩,fun s o e=>(by cases s <;> cases e),fun m rows e=>?_⟩⟩ k5 (aX a0 hst) ?_ hz
 ·rcases w with rfl|rfl|rfl|rfl
  ·exact⟨_,x5⟩
  ·exact⟨_,s5⟩
  ·exact⟨_,o5⟩
  ·exact⟨_,z5⟩
 ·match m,e with
  | 0,e=>cases e;exact gQ _
  | m+1,e=>cases e
 ·exact aX a01 (j3 k2 Lr hop)
theorem rP{f C:Addr}{fd:FuncData}(F:iI K "now" "Shelf.now" iA f fd)(T:n9 mg)(cl:BK K C)(n1:aZ K C "states"):aC P w K mg base bU 1 f fd jk (Gu C):=by
 refine F.ok Gv (fun vs H Q E h=>?_) (fun cdv A outer s H vs Q E hr h=>?_)
 ·obtain⟨x,d,st,op,as,rfl,_⟩:=h
  rfl
 obtain⟨x,d,st,op,as,rfl,hx,hs,k⟩:=h
 refine⟨_,(ao (aT (bw iV (aR bP rfl T.iH mw (aa (dM (pv 0) rfl) ah)) az))),?_⟩
 exact⟨_,rfl,x,C,d,_,.ref st,rfl,hx,cl,n1,rfl,st,_,rfl,.inl (bN.of hs),_,_,rfl,rfl,k⟩
theorem u7{f C:Addr}{fd:FuncData}(F:iI K "many" "Shelf.many" jB f fd)(T:n9 mg)(cl:BK K C)(n1:aZ K C "states"):aC P w K mg base bU 1 f fd jk (Ec C):=by
 refine F.ok Ed (fun vs H Q E h=>?_) (fun cdv A outer s H vs Q E hr h=>?_)
 ·obtain⟨S,x,d,st,op,past,ops,rfl,_⟩:=h
  rfl
 obtain⟨S,x,d,st,op,past,ops,rfl,W,k⟩:=h
 obtain⟨as,hs,a2⟩:=W.hs
 obtain⟨last,hl,ol⟩:=W.NH.Dc
 refine⟨_,(ao (aT (aR bP rfl T.iH mw (aa (bG bM (dM (pv 0) rfl) (uI qw az) (fun _ _=>rfl)) ah)))),?_⟩
 obtain⟨as',a,rfl,r⟩:=W.last hs
 refine⟨_,rfl,x,C,d,_,.ref st,rfl,W.hx,cl,n1,rfl,_,rfl,st,_,_,.ref a,rfl,rfl,bN.of hs,(by rw[lH];exact m9 _ _),?_⟩
 obtain⟨_,_,_,rs,ha,al⟩:=r last hl
 refine⟨a,_,rfl,.inl (bN.of ha),?_⟩
 rw[cA,al.len,← ol]
 exact k
def Vm(rows:List (List Item))(ch:Nat × List Item):List (List Item):=rows.take ch.1++[ch.2]++rows.drop (ch.1+1)
def rQ(rows:List (List Item))(rm:List (Nat × List Item)):List (List Item):=rm.foldl Vm rows
def RX(rows:List (List Item))(rm:List (Nat × List Item)):Prop:=∀ (i:Nat) (ch:Nat × List Item),rm[i]?=some ch→ch.1≤(rQ rows (rm.take i)).length
theorem OY{rows:List (List Item)}{ch:Nat × List Item}(h:ch.1≤rows.length):rows.length≤(Vm rows ch).length∧(Vm rows ch).length≤rows.length+1:=by
 unfold Vm
 rw[dU,dU,rj,sL]
 simp only[lK]
 omega
theorem Dd{rows:List (List Item)}{rm:List (Nat × List Item)}{i:Nat}{ch:Nat × List Item}(h:rm[i]?=some ch):rQ rows (rm.take (i+1))=Vm (rQ rows (rm.take i)) ch:=by
 unfold rQ
 rw[take_snoc h,List.foldl_append]
 rfl
theorem A7{rows:List (List Item)}{rm:List (Nat × List Item)}(ok:RX rows rm):∀ i,i≤rm.length→rows.length≤(rQ rows (rm.take i)).length∧(rQ rows (rm.take i)).length≤rows.length+i
 | 0,_=>⟨Nat.le_refl _,gQ _⟩
 | i+1,h=>by
  have e:rm[i]?=some rm[i]:=nU (by omega)
  have a:=A7 ok i (by omega)
  have b:=OY (ok i _ e)
  rw[Dd e]
  omega
theorem WY.step{past:ou}{ops:List Int}{last rows:List (List Item)}(h:WY past ops)(hl:past.getLast?=some last)(le:last.length≤rows.length):WY (past++[rows]) (ops++List.replicate (rows.length-last.length) ((past.length:Nat):Int)):=by
 obtain⟨⟨l',hl',ol⟩,fit,less⟩:=h
 rw[hl]at hl'
 cases hl'
 have get:∀ (m:Nat) (r:List (List Item)),(past++[rows])[m]?=some r→past[m]?=some r∧m<past.length∨m=past.length∧r=rows:=fun m r e=>by
  by_cases c:m<past.length
  ·rw[BH c]at e
   exact .inl ⟨e,c⟩
  ·rw[List.getElem?_append_right (by omega)]at e
   match hm:m-past.length,e with
   | 0,e=>cases e;exact .inr ⟨by omega,rfl⟩
   | k+1,e=>cases e
 refine⟨⟨rows,xr,by rw[dU,vm];omega⟩,fun s o e=>?_,fun m r e=>?_⟩
 ·by_cases c:s<ops.length
  ·rw[BH c]at e
   obtain⟨f0,f1,f2⟩:=fit s o e
   refine⟨f0,by rw[dU];simp only[lK];omega,fun m r em=>?_⟩
   rcases get m r em with ⟨q,_⟩|⟨rfl,rfl⟩
   ·exact f2 m r q
   ·constructor
    ·intro _;omega
    ·intro _;omega
  ·rw[List.getElem?_append_right (by omega),List.getElem?_replicate]at e
   split at e
   ·cases e
    refine⟨by omega,by rw[dU];simp only[lK];omega,fun m r em=>?_⟩
    rcases get m r em with ⟨q,lt⟩|⟨rfl,rfl⟩
    ·have:=less m r q
     constructor
     ·intro z;omega
     ·intro z;omega
    ·constructor
     ·intro _;omega
     ·intro _;omega
   ·cases e
 ·rw[dU,vm]
  rcases get m r e with ⟨q,_⟩|⟨rfl,rfl⟩
  ·have:=less m r q
   omega
  ·omega
theorem b8.take{α β:Type}{R:α→β→Prop}:∀ {as:List α} {bs:List β} (n:Nat),b8 R as bs→b8 R (as.take n) (bs.take n)
 | _,_,0,_=>by rw[List.take_zero,List.take_zero];exact .nil
 | _,_,n+1,.nil=>.nil
 | _,_,n+1,.cons e r=>.cons e (r.take n)
theorem b8.drop{α β:Type}{R:α→β→Prop}:∀ {as:List α} {bs:List β} (n:Nat),b8 R as bs→b8 R (as.drop n) (bs.drop n)
 | _,_,0,h=>h
 | _,_,n+1,.nil=>.nil
 | _,_,n+1,.cons _ r=>r.drop n
theorem Gw(v:V):∀ n:Nat,(List.replicate n [v]).flatten=List.replicate n v
 | 0=>rfl
 | n+1=>by rw[List.replicate_succ,List.flatten_cons,Gw v n,List.replicate_succ];rfl
theorem OZ{H:Hp}{a:Addr}{ob:HO}(h:H a=some ob):upd H a ob=H:=by
 funext b
 by_cases e:b=a
 ·rw[e,af,h]
 ·rw[aF e]
def Iu(H:Hp)(a:Addr)(ch:Nat × List Item):Prop:=∃ r:Addr,H a=some (.tup [.int (ch.1:Nat),.ref r])∧bx H (.ref r) ch.2
theorem Iu.same{H H':Hp}{a:Addr}{ch:Nat × List Item}(s:aH H H'):Iu H a ch→Iu H' a ch:=fun ⟨r,h1,h2⟩=>⟨r,s _ _ h1,h2.same s⟩
inductive A8(C:Addr)(vs:List V)(H:Hp)(Q:VK)(E:XK):Prop
 | mk (S:Addr→Prop) (x d st op c:Addr) (past:ou) (ops:List Int) (cs:List Addr) (rm:List (Nat × List Item)) (last:List (List Item)) (_:vs=[.ref x,.ref c]) (_:Sh C S H x d st op past ops) (_:H c=some (.lst (cs.map V.ref))) (_:b8 (Iu H) cs rm) (_:past.getLast?=some last) (_:RX last rm) (_:rm.length≤200) (_:last.length≤500) (_:past.length≤1000) (_ :
 ∀ (S':Addr→Prop) (H':Hp),Sh C S' H' x d st op (past++[rQ last rm]) (ops++List.replicate ((rQ last rm).length-last.length) ((past.length:Nat):Int))→(∀ a,S' a→S a∨H a=none)→(∀ a ob,H a=some ob→¬ S a→H' a=some ob)→(∀ a xs,H a=some (.tup xs)→H' a=some (.tup xs))→Q .jw H'):A8 C vs H Q E
theorem j9:aJ ["self","changes","state","ahead","sheet","items"] ["self","changes"] (ay lA):=⟨rfl,rfl,rfl,by decide +kernel,rfl,by decide +kernel,by decide +kernel⟩
theorem BX{f C fi fN fC:Addr}{fd gN gC:FuncData}(F:iI K "step" "Shelf.step" lA f fd)(T:n9 mg)(bF:ClsAt K mg "Shelf" C fi)(n1:aZ K C "states")(n2:aZ K C "openings")(jh:aA K mg "changed" oW G6 fC gC)(bX:aU K C "now" "Shelf.now" iA jk fN gN):aC P w K mg base bU 2 f fd Tz (A8 C):=by
 have A9:aC P w K mg base bU 1 _ _ G6 uo:=A0 jh.F T
 have mK:aC P w K mg base bU 1 _ _ jk (Gu C):=rP bX.F T bF.cl n1
 refine F.ok j9 (fun vs H Q E h=>?_) (fun cdv A outer s H vs Q E hr h=>?_)
 ·obtain⟨S,x,d,st,op,c,past,ops,cs,rm,last,rfl,_⟩:=h
  rfl
 obtain⟨S,x,d,st,op,c,past,ops,cs,rm,last,rfl,W,hc,a2,hl,okc,lc,ll,lp,k⟩:=h
 refine⟨_,(ak (aO (i:=2) j9.nd rfl (Or.inl rfl) (bG bM (dM (pv 0) rfl) (uI qw az) (fun _ _=>rfl)))
   (ak (aO (i:=3) j9.nd rfl (Or.inl rfl) (aR bP rfl T.iH mw (aa (pv 2) ah)))
   (ak (jr PassesOwn.never rfl (cM (pv 1)) (rD (n:=2) rfl (bL (aW (i:=4) j9.nd rfl (Or.inl rfl)) (bL (aW (i:=5) j9.nd rfl (Or.inl rfl)) jX)))
   (ao (aO (i:=2) j9.nd rfl (Or.inl rfl) (aN jh A9 hr (aa (pv 2) (aa (pv 4) (aa (jl nY rfl T.pG zS (aa (pv 5) ah)) ah)))))))
   (ak (bq (je rA vg vh cP (dM (pv 0) rfl) (aa (pv 2) ah)))
   (ao (xD (pv 0) (bw Ma (bH (aa (cJ (pv 0) bF.cl bX.mt mK (hr.mono (by decide)) bX.b .nil cQ) ah)) (bw iV (aR bP rfl T.iH mw (aa (pv 2) ah)) (pv 3))) HS)))))),?_⟩
 obtain⟨as,hs,al⟩:=id W.hs
 obtain⟨as',a,ea,r⟩:=W.last hs
 obtain⟨Sa,na1,na2,rs,ha,ar⟩:=r last hl
 have lal:=al.len
 refine⟨_,rfl,x,C,d,_,.ref st,rfl,W.hx,bF.cl,n1,rfl,_,rfl,st,_,_,.ref a,rfl,rfl,bN.of hs,(by rw[ea,lH];exact m9 _ _),?_⟩
 refine⟨_,rfl,a,_,rfl,.inl (bN.of ha),?_⟩
 rw[cA,ar.len]
 have hst:∀ q,H q=none→q≠st∧q≠op:=fun q hq=>⟨fun z=>(by rw[z,hs]at hq;cases hq),fun z=>(by rw[z,W.ho]at hq;cases hq)⟩
 refine⟨_,rfl,c,rfl,⟨_,bN.of hc⟩,jy (K:=K) (a:=c) (xs:=cs.map V.ref) (fun i σ H1=>∃ (u4 u5:Option V) (S1:Addr→Prop) (ai:Addr),σ=[some (.ref x),some (.ref c),some (.ref ai),some (.int (last.length:Nat)),u4,u5]∧aH H H1∧(∀ q,S q→S1 q)∧(∀ q,S1 q→S q∨H q=none)∧(∀ q,S1 q→∃ ob,H1 q=some ob)∧Iq S1 H1 st op ai (rQ last (rm.take i))) ⟨none,none,S,a,rfl,aH.refl _,fun _ z=>z,fun _ z=>.inl z,W.al,r last hl⟩ (fun i σ H1 _ ⟨_,_,_,_,_,s,_⟩=>bN.of (s _ _ hc)) ?_ ?_⟩
 ·rintro i y σ H1 hi ⟨u4,u5,S1,ai,rfl,s1,up,sub,al1,Vn⟩
  rw[jV]at hi
  obtain⟨t,et,rfl⟩:=Option.map_eq_some_iff.mp hi
  obtain⟨ch,ech,q⟩:=a2.get et
  have il:=(List.getElem?_eq_some_iff.mp ech).1
  obtain⟨ri,ht,hri⟩:=q.same s1
  obtain⟨b,vs,eb,hb,itb⟩:=id hri
  cases eb
  obtain⟨Sai,Vo,aeR,WZ,hai,W0⟩:=id Vn
  refine⟨t,_,rfl,jW.of ht,rfl,_,_,rfl,_,_,rfl,rfl,?_⟩
  refine⟨_,rfl,_,rfl,_,rfl,ri,_,rfl,.inl (bN.of hb),fun z hz=>?_⟩
  have s2:aH H1 (upd H1 z (.lst vs)):=aj hz _
  have z2:(upd H1 z (.lst vs)) z=some (.lst vs):=af
  generalize upd H1 z (.lst vs)=H2 at s2 z2
  have lens:=A7 okc i (by omega)
  have aeS:=okc i ch ech
  have Xa:=W0.len
  refine⟨ai,z,_,ch.1,rfl,s2 _ _ hai,by rw[cA,Xa];exact aeS,by rw[cA,Xa];omega,fun p H3 hp3 s3 fp=>?_⟩
  have Ti:=s2.trans s3
  have fz:H z=none:=aX s1 hz
  have fp':H p=none:=aX (s1.trans s2) fp
  refine⟨_,_,fun q=>S1 q∨q=z∨q=p,p,rfl,s1.trans Ti,fun q z=>.inl (up q z),fun q w=>?_,fun q w=>?_,.inr (.inr rfl),(hst p fp').1,(hst p fp').2,WZ.take ch.1++[z]++WZ.drop (ch.1+1),?_,?_⟩
  ·rcases w with w|rfl|rfl
   ·exact sub q w
   ·exact .inr fz
   ·exact .inr fp'
  ·rcases w with w|rfl|rfl
   ·obtain⟨ob,e⟩:=al1 q w
    exact⟨ob,Ti _ _ e⟩
   ·exact⟨_,s3 _ _ z2⟩
   ·exact⟨_,hp3⟩
  ·rw[hp3]
   simp only[lH,List.map_take,List.map_drop,mz,List.map_nil]
  ·rw[Dd ech]
   have mv:b8 (Vl (fun q=>S1 q∨q=z∨q=p) H3 st op) WZ (rQ last (rm.take i)):=W0.mono fun r its q=>⟨.inl q.own,q.ne,q.at'.same Ti⟩
   refine ((mv.take ch.1).app (.cons ⟨.inr (.inl rfl),hst z fz,⟨z,vs,rfl,s3 _ _ z2,itb.mono fun v it q=>q.same Ti⟩⟩ .nil)).app (mv.drop (ch.1+1))
 ·rintro σ H1 ⟨u4,u5,S1,ai,rfl,s1,up,sub,al1,Vn⟩
  have lcs:(cs.map V.ref).length=rm.length:=by rw[cA,a2.len]
  rw[lcs,kQ]at Vn
  have lens:=A7 okc rm.length (gQ _)
  rw[kQ]at lens
  obtain⟨Sai,Vo,aeR,WZ,hai,W0⟩:=id Vn
  have Xa:=W0.len
  have W1:=W.same s1
  have hs1:=s1 _ _ hs
  refine⟨_,rfl,x,C,d,_,.ref st,rfl,W1.hx,bF.cl,n1,rfl,.inl ⟨rfl,_,bN.of hs1⟩,_,rfl,st,_,_,rfl,rfl,hs1,(by rw[cA];exact aL (by omega)),?_⟩
  rw[show as.map V.ref++[.ref ai]=(as++[ai]).map V.ref by rw[lH];rfl]
  have k2:cO st H1 (upd H1 st (.lst ((as++[ai]).map V.ref))):=aK st _ _
  have st2:(upd H1 st (.lst ((as++[ai]).map V.ref))) st=some (.lst ((as++[ai]).map V.ref)):=af
  generalize upd H1 st (.lst ((as++[ai]).map V.ref))=H2 at k2 st2
  have Xb:x≠st:=cY W1.hx hs1 (by intro z;cases z)
  have nxo:x≠op:=cY W1.hx W1.ho (by intro z;cases z)
  have x2:=k2 _ _ W1.hx Xb
  have o2:=k2 _ _ W1.ho W.ne.symm
  have ai2:=k2 _ _ hai Vo
  have lmn:(((as++[ai]).map V.ref).length:Int)-1=((past.length:Nat):Int):=by
   rw[cA,dU,lal]
   simp only[lK]
   omega
  refine⟨_,rfl,x,C,d,_,.ref op,rfl,x2,bF.cl,n2,rfl,_,rfl,x,d,_,rfl,x2,rfl,x,d,st,op,_,rfl,x2,st2,?_⟩
  rw[lmn]
  refine⟨(by show 1≤sizeLine;decide),fun t2 Fy=>?_⟩
  have s3:aH H2 (upd H2 t2 (.lst [.int (past.length:Nat)])):=aj Fy _
  have b3:(upd H2 t2 (.lst [.int (past.length:Nat)])) t2=some (.lst [.int (past.length:Nat)]):=af
  generalize upd H2 t2 (.lst [.int (past.length:Nat)])=H3 at s3 b3
  refine⟨_,rfl,ai,_,rfl,.inl (bN.of (s3 _ _ ai2)),_,rfl,_,_,rfl,rfl,?_⟩
  rw[cA,Xa]
  have ek:(((rQ last rm).length:Nat):Int)-((last.length:Nat):Int)=(((rQ last rm).length-last.length:Nat):Int):=by omega
  show Um _ (V.int ((((rQ last rm).length:Nat):Int)-((last.length:Nat):Int))) _ _
  rw[ek]
  refine⟨t2,_,_,rfl,rfl,b3,by omega,by omega,(by simp only[lK];exact iR (aL (by omega))),fun t3 Tj=>?_⟩
  rw[Int.toNat_natCast,Gw]
  generalize hk:(rQ last rm).length-last.length=kk
  have s4:aH H3 (upd H3 t3 (.lst (List.replicate kk (V.int (past.length:Nat))))):=aj Tj _
  have b4:(upd H3 t3 (.lst (List.replicate kk (V.int (past.length:Nat))))) t3=some (.lst (List.replicate kk (V.int (past.length:Nat)))):=af
  generalize upd H3 t3 (.lst (List.replicate kk (V.int (past.length:Nat))))=H4 at s4 b4
  have Xc:=s3.trans s4
  have lo:ops.length≤700:=by
   obtain⟨l',hl',ol⟩:=W.NH.Dc
   rw[hl]at hl'
   cases hl'
   omega
  refine⟨op,t3,_,_,rfl,rfl,Xc _ _ o2,b4,(by rw[cA,vm];exact iR (aL (by omega))),?_⟩
  rw[show ops.map V.int++List.replicate kk (V.int (past.length:Nat))=(ops++List.replicate kk ((past.length:Nat):Int)).map V.int by rw[lH,List.map_replicate]]
  have k5:cO op H4 (upd H4 op (.lst ((ops++List.replicate kk ((past.length:Nat):Int)).map V.int))):=aK op _ _
  have o5:(upd H4 op (.lst ((ops++List.replicate kk ((past.length:Nat):Int)).map V.int))) op=some (.lst ((ops++List.replicate kk ((past.length:Nat):Int)).map V.int)):=af
  generalize upd H4 op (.lst ((ops++List.replicate kk ((past.length:Nat):Int)).map V.int))=H5 at k5 o5
  have x5:=k5 _ _ (Xc _ _ x2) nxo
  refine⟨d,_,x5,(by show 2<1000;decide),?_⟩
  have e5:upd H5 x (.ins C d (L2.dH "openings" (.ref op) ([("states",.ref st),("openings",.ref op)]:List (Str × V))))=H5:=OZ x5
  rw[e5]
  have Vp:∀ q ob,H1 q=some ob→q≠st→q≠op→H5 q=some ob:=fun q ob e m1 m2=>k5 _ _ (Xc _ _ (k2 _ _ e m1)) m2
  have t15:∀ q xs,H1 q=some (.tup xs)→H5 q=some (.tup xs):=fun q xs e=>Vp _ _ e (cY e hs1 (by intro z;cases z)) (cY e W1.ho (by intro z;cases z))
  have SQ:=k5 _ _ (Xc _ _ st2) W.ne
  refine k S1 H5 ⟨up _ W.sx,up _ W.ss,up _ W.so,fun q w=>?_,x5,⟨as++[ai],SQ,?_⟩,by rw[hk];exact o5,W.ne,W.NH.step hl lens.1⟩ sub (fun q ob e n=>?_) (fun q xs e=>t15 _ _ (s1 _ _ e))
  ·by_cases z1:q=st
   ·rw[z1];exact⟨_,SQ⟩
   by_cases z2:q=op
   ·rw[z2];exact⟨_,o5⟩
   obtain⟨ob,e⟩:=al1 q w
   exact⟨ob,Vp _ _ e z1 z2⟩
  ·refine (b8.mono (fun a rows q=>?_) al).app (.cons (Vn.fr (fun _ z=>z) (fun q ob e _ m1 m2=>Vp _ _ e m1 m2) t15) .nil)
   exact q.fr up (fun q ob e _ m1 m2=>Vp _ _ (s1 _ _ e) m1 m2) (fun q xs e=>t15 _ _ (s1 _ _ e))
  ·exact Vp _ _ (s1 _ _ e) (fun z=>n (by rw[z];exact W.ss)) (fun z=>n (by rw[z];exact W.so))
def zb(n:Nat)(a:Int):Prop:=0≤a∧a<(n:Nat)
theorem zb.get{n:Nat}{a:Int}(h:zb n a):∃ j:Nat,a=j∧j<n:=by
 obtain⟨h0,h1⟩:=h
 exact⟨a.toNat,by omega,by omega⟩
def Iv(past:ou)(ops:List Int):Prop:=past.length≤1000∧ops.length≤1000
inductive qT(C XS:Addr)(vs:List V)(H:Hp)(Q:VK)(E:XK):Prop
 | mk (S:Addr→Prop) (x d st op:Addr) (past:ou) (ops:List Int) (s:Int) (_:vs=[.ref x,.int s]) (_:Sh C S H x d st op past ops) (_:Iv past ops) (_:qx s) (_:(zb ops.length s→Q .jw H)) (_:(¬ zb ops.length s→E (.ref XS) none H)):qT C XS vs H Q E
inductive Ba(C XM:Addr)(vs:List V)(H:Hp)(Q:VK)(E:XK):Prop
 | mk (S:Addr→Prop) (x d st op:Addr) (past:ou) (ops:List Int) (m:Int) (_:vs=[.ref x,.int m]) (_:Sh C S H x d st op past ops) (_:Iv past ops) (_:qx m) (_:(zb past.length m→Q .jw H)) (_:(¬ zb past.length m→E (.ref XM) none H)):Ba C XM vs H Q E
def O0(H H':Hp)(q:Addr)(rows:List (List Item)):Prop:=H q=none∧∃ rs:List Addr,H' q=some (.lst (rs.map V.ref))∧b8 (fun r its=>H r=none∧r≠q∧bx H' (.ref r) its) rs rows
inductive vL(C XM:Addr)(vs:List V)(H:Hp)(Q:VK)(E:XK):Prop
 | mk (S:Addr→Prop) (x d st op:Addr) (past:ou) (ops:List Int) (m:Int) (_:vs=[.ref x,.int m]) (_:Sh C S H x d st op past ops) (_:Iv past ops) (_:qx m) (_:(∀ (mi:Nat) (rows:List (List Item)),m=mi→past[mi]?=some rows→∀ (q:Addr) (H':Hp),O0 H H' q rows→aH H H'→Q (.ref q) H')) (_:(¬ zb past.length m→E (.ref XM) none H)):vL C XM vs H Q E
inductive tE(C:Addr)(vs:List V)(H:Hp)(Q:VK)(E:XK):Prop
 | mk (S:Addr→Prop) (x d st op:Addr) (past:ou) (ops:List Int) (_:vs=[.ref x]) (_:Sh C S H x d st op past ops) (_:Iv past ops) (_:(∀ (rows:List (List Item)),past.getLast?=some rows→∀ (q:Addr) (H':Hp),O0 H H' q rows→aH H H'→Q (.ref q) H')):tE C vs H Q E
theorem uC:aJ ["self","sheet"] ["self","sheet"] (ay gf):=⟨rfl,rfl,rfl,by decide +kernel,rfl,by decide +kernel,by decide +kernel⟩
theorem tF:aJ ["self","moment"] ["self","moment"] (ay cK):=⟨rfl,rfl,rfl,by decide +kernel,rfl,by decide +kernel,by decide +kernel⟩
theorem wX:aJ ["self","moment"] ["self","moment"] (ay dN):=⟨rfl,rfl,rfl,by decide +kernel,rfl,by decide +kernel,by decide +kernel⟩
theorem Ef:aJ ["self"] ["self"] (ay m6):=⟨rfl,rfl,rfl,by decide +kernel,rfl,by decide +kernel,by decide +kernel⟩
structure Vq(K:PySem.W.Frag)(mg:Str→Option Value)(C XS XM:Addr):Prop where
 T:n9 mg
 c:∃ fi,ClsAt K mg "Shelf" C fi
 n1:aZ K C "states"
 n2:aZ K C "openings"
 zs:AB K mg "NoSheet" XS
 zm:AB K mg "NoMoment" XM
theorem ig{f C XS XM fM:Addr}{fd gM:FuncData}(F:iI K "check_sheet" "Shelf.check_sheet" gf f fd)(M:Vq K mg C XS XM)(dX:aU K C "many" "Shelf.many" jB jk fM gM):aC P w K mg base (nB P w) 2 f fd Di (qT C XS):=by
 obtain⟨T,⟨fi,bF⟩,n1,n2,eO,dB⟩:=M
 have qj:aC P w K mg base bU 1 _ _ jk (Ec C):=u7 dX.F T bF.cl n1
 refine ER F uC (fun vs H Q E h=>?_) (fun cdv A outer s H vs Q E hr h=>?_)
 ·obtain⟨S,x,d,st,op,past,ops,a,rfl,_⟩:=h
  rfl
 obtain⟨S,x,d,st,op,past,ops,a,rfl,W,ok,fa,k1,k2⟩:=h
 refine⟨_,(ao (cG (oN (v8 lM Ab az (pv 1) (cJ (pv 0) bF.cl dX.mt qj (hr.mono (by decide)) dX.b .nil cQ)))
   (ao (qN PySem.F.excBase_ValueError eO.x eO.m rfl xM (aa (tW (nJ (o6 (pv 1) (nJ (o6 (cJ (pv 0) bF.cl dX.mt qj (hr.mono (by decide)) dX.b .nil cQ) xN))))) ah)))
   bK)),?_⟩
 have fl:qx ((ops.length:Nat):Int):=⟨by have:=ok.2;omega,by have:=ok.2;omega⟩
 refine⟨_,rfl,_,_,rfl,rfl,_,rfl,eG (fun c0=>?_) (fun c0=>⟨_,rfl,jZ ⟨_,rfl,a,rfl,fa.log,_,rfl,x,d,_,rfl,W.hx,rfl,S,x,d,st,op,past,ops,rfl,W,_,rfl,fl.log,fun y=>⟨(by show 1≤sizeLine;decide),k2 fun iw=>c0 (decide_eq_true iw.1)⟩⟩⟩)⟩
 refine⟨_,rfl,x,d,_,rfl,W.hx,rfl,S,x,d,st,op,past,ops,rfl,W,_,_,rfl,rfl,_,rfl,?_⟩
 by_cases iw:zb ops.length a
 ·rw[decide_eq_true iw.2]
  exact jY (k1 iw)
 ·rw[decide_eq_false (fun z=>iw ⟨of_decide_eq_true c0,z⟩)]
  exact jZ ⟨_,rfl,a,rfl,fa.log,_,rfl,x,d,_,rfl,W.hx,rfl,S,x,d,st,op,past,ops,rfl,W,_,rfl,fl.log,fun y=>⟨(by show 1≤sizeLine;decide),k2 iw⟩⟩
theorem sF{f C XS XM fN:Addr}{fd gN:FuncData}(F:iI K "check_moment" "Shelf.check_moment" cK f fd)(M:Vq K mg C XS XM)(bX:aU K C "now" "Shelf.now" iA jk fN gN):aC P w K mg base (nB P w) 2 f fd LA (Ba C XM):=by
 obtain⟨T,⟨fi,bF⟩,n1,n2,eO,dB⟩:=M
 have mK:aC P w K mg base bU 1 _ _ jk (Gu C):=rP bX.F T bF.cl n1
 refine ER F tF (fun vs H Q E h=>?_) (fun cdv A outer s H vs Q E hr h=>?_)
 ·obtain⟨S,x,d,st,op,past,ops,a,rfl,_⟩:=h
  rfl
 obtain⟨S,x,d,st,op,past,ops,a,rfl,W,ok,fa,k1,k2⟩:=h
 obtain⟨as,hs,al⟩:=W.hs
 have la:(as.map V.ref).length=past.length:=by rw[cA,al.len]
 refine⟨_,(ao (cG (oN (v8 lM lM az (pv 1) (cJ (pv 0) bF.cl bX.mt mK (hr.mono (by decide)) bX.b .nil cQ)))
   (ao (qN PySem.F.excBase_ValueError dB.x dB.m rfl xM (aa (tW (nJ (o6 (pv 1) (nJ (o6 (cJ (pv 0) bF.cl bX.mt mK (hr.mono (by decide)) bX.b .nil cQ) xN))))) ah)))
   bK)),?_⟩
 have fl:qx (((as.map V.ref).length:Int)-1):=⟨by rw[la];have:=ok.1;omega,by rw[la];have:=ok.1;omega⟩
 refine⟨_,rfl,_,_,rfl,rfl,_,rfl,eG (fun c0=>?_) (fun c0=>⟨_,rfl,jZ ⟨_,rfl,a,rfl,fa.log,_,rfl,x,d,_,rfl,W.hx,rfl,x,d,st,op,_,rfl,W.hx,hs,_,rfl,fl.log,fun y=>⟨(by show 1≤sizeLine;decide),k2 fun iw=>c0 (decide_eq_true iw.1)⟩⟩⟩)⟩
 refine⟨_,rfl,x,d,_,rfl,W.hx,rfl,x,d,st,op,_,rfl,W.hx,hs,_,_,rfl,rfl,_,rfl,?_⟩
 by_cases iw:zb past.length a
 ·rw[decide_eq_true (show a≤((as.map V.ref).length:Int)-1 by rw[la];have:=iw.2;omega)]
  exact jY (k1 iw)
 ·rw[decide_eq_false (show ¬ a≤((as.map V.ref).length:Int)-1 by rw[la];exact fun z=>iw ⟨of_decide_eq_true c0,by omega⟩)]
  exact jZ ⟨_,rfl,a,rfl,fa.log,_,rfl,x,d,_,rfl,W.hx,rfl,x,d,st,op,_,rfl,W.hx,hs,_,rfl,fl.log,fun y=>⟨(by show 1≤sizeLine;decide),k2 iw⟩⟩
theorem Sh.at'{C:Addr}{S:Addr→Prop}{H:Hp}{x d st op:Addr}{past:ou}{ops:List Int}(h:Sh C S H x d st op past ops){as:List Addr}(ha:H st=some (.lst (as.map V.ref))){i:Nat}{rows:List (List Item)}(e:past[i]?=some rows):∃ a,as[i]?=some a∧Iq S H st op a rows:=by
 obtain⟨bs,hb,a2⟩:=h.hs
 have e':as=bs:=by
  rw[ha]at hb
  exact AZ (HO.lst.inj (sM hb))
 subst e'
 exact a2.get' e
theorem Sh.Vr{C:Addr}{S:Addr→Prop}{H:Hp}{x d st op:Addr}{past:ou}{ops:List Int}(h:Sh C S H x d st op past ops):∃ last,past.getLast?=some last∧past[past.length-1]?=some last∧ops.length=last.length:=by
 obtain⟨last,hl,ol⟩:=h.NH.Dc
 refine⟨last,hl,?_,ol⟩
 rw[List.getLast?_eq_getElem?]at hl
 exact hl
theorem vM{f C XS XM fN fm:Addr}{fd gN gm:FuncData}(F:iI K "rows_then" "Shelf.rows_then" dN f fd)(M:Vq K mg C XS XM)(bX:aU K C "now" "Shelf.now" iA jk fN gN)(cL:aU K C "check_moment" "Shelf.check_moment" cK LA fm gm):aC P w K mg base (nB P w) 3 f fd LA (vL C XM):=by
 have uD:aC P w K mg base (nB P w) 2 _ _ LA (Ba C XM):=sF cL.F M bX
 obtain⟨T,⟨fi,bF⟩,n1,n2,eO,dB⟩:=M
 refine ER F wX (fun vs H Q E h=>?_) (fun cdv A outer s H vs Q E hr h=>?_)
 ·obtain⟨S,x,d,st,op,past,ops,m,rfl,_⟩:=h
  rfl
 obtain⟨S,x,d,st,op,past,ops,m,rfl,W,ok,fm,k1,k2⟩:=h
 obtain⟨as,hs,al⟩:=id W.hs
 refine⟨_,(ak (bq (bO (pv 0) bF.cl cL.mt uD (hr.mono (by decide)) cL.b .nil kr (aa (pv 1) ah)))
   (ao (aT (ku (N:=["items"]) (r9 (sc:=ay dN) (NX:=["self","moment"]) (jx:=[none]) rfl rfl rfl (by decide +kernel) (by decide +kernel) rfl (by decide +kernel) rfl (by decide +kernel)) rfl (cM (bG bM (dM (pv 0) rfl) (pv 1) (fun _ _=>rfl))) (fun _ _ _ _ _ _=>(aW (i:=0) (show List.Nodup (["items"]:List Str) by decide +kernel) rfl (Or.inl rfl))) (fun _ _ _ _ _ _=>iJ) (fun _ _ _ _ _ _=>(jl HR rfl T.pG zS (aa (pv 0) ah))))))),?_⟩
 refine⟨_,rfl,x,d,_,rfl,W.hx,rfl,_,rfl,S,x,d,st,op,past,ops,m,rfl,W,ok,fm,fun im=>?_,k2⟩
 obtain⟨i,rfl,il⟩:=im.get
 have er:past[i]?=some past[i]:=nU il
 generalize past[i]=rows at er
 obtain⟨b,eb,_,_,_,rs,hb,ar⟩:=W.at' hs er
 have lr:=ar.len
 have lo:=W.NH.less i rows er
 have ok2:=ok.2
 refine⟨_,rfl,x,C,d,_,.ref st,rfl,W.hx,bF.cl,n1,rfl,_,rfl,st,_,_,.ref b,rfl,rfl,bN.of hs,eV (by rw[jV,eb];rfl),?_⟩
 refine⟨b,rfl,⟨_,bN.of hb⟩,fun acc hacc=>jL (K:=K) (a:=b) (xs:=rs.map V.ref) (fun j σ H1=>∃ (u:Option V) (qs:List Addr),σ=[u]∧H1 acc=some (.lst (qs.map V.ref))∧aH H H1∧b8 (fun r its=>H r=none∧r≠acc∧bx H1 (.ref r) its) qs (rows.take j)) ⟨none,[],rfl,af,aj hacc _,by rw[List.take_zero];exact .nil⟩ (fun j σ H1 _ ⟨_,_,_,_,s,_⟩=>bN.of (s _ _ hb)) ?_ ?_⟩
 ·rintro j y σ H1 hj ⟨u,qs,rfl,ha,s1,aq⟩
  rw[jV]at hj
  obtain⟨ri,eri,rfl⟩:=Option.map_eq_some_iff.mp hj
  obtain⟨its,aeV,rw'⟩:=ar.get eri
  obtain⟨c,vs,ec,hc,it⟩:=rw'.at'
  cases ec
  refine⟨_,rfl,ri,_,rfl,.inl (bN.of (s1 _ _ hc)),fun z hz=>⟨_,aj hz _ _ _ ha,?_,_,qs++[z],rfl,?_,?_,?_⟩⟩
  ·have:=aq.len
   rw[rj]at this
   rw[cA]
   exact aL (by omega)
  ·rw[af,lH]
   rfl
  ·intro q ob e
   rw[aF (au e hacc)]
   exact aj hz _ _ _ (s1 _ _ e)
  ·have nza:z≠acc:=(au ha hz).symm
   have fr:∀ q ob,H1 q=some ob→q≠acc→(upd (upd H1 z (.lst vs)) acc (.lst (qs.map V.ref++[.ref z]))) q=some ob:=fun q ob e n=>by
    rw[aF n]
    exact aj hz _ _ _ e
   have tu:∀ q xs,H1 q=some (.tup xs)→(upd (upd H1 z (.lst vs)) acc (.lst (qs.map V.ref++[.ref z]))) q=some (.tup xs):=fun q xs e=>fr _ _ e (cY e ha (by intro w;cases w))
   rw[take_snoc aeV]
   refine b8.snoc (aq.mono fun r its ⟨h1,h2,h3⟩=>⟨h1,h2,h3.fr (fun xs e=>fr _ _ e h2) tu⟩) ⟨aX s1 hz,nza,z,vs,rfl,?_,it.mono fun v i ⟨q,e,hq⟩=>⟨q,e,tu _ _ (s1 _ _ hq)⟩⟩
   rw[aF nza]
   exact af
 ·rintro σ H1 ⟨u,qs,rfl,ha,s1,aq⟩
  rw[cA,lr,kQ]at aq
  exact k1 i rows rfl er acc H1 ⟨hacc,qs,ha,aq⟩ s1
theorem jq{f C XS XM fN fm fr:Addr}{fd gN gm gr:FuncData}(F:iI K "rows" "Shelf.rows" m6 f fd)(M:Vq K mg C XS XM)(bX:aU K C "now" "Shelf.now" iA jk fN gN)(cL:aU K C "check_moment" "Shelf.check_moment" cK LA fm gm)(iP:aU K C "rows_then" "Shelf.rows_then" dN LA fr gr):aC P w K mg base bU 4 f fd jk (tE C):=by
 have yc:aC P w K mg base (nB P w) 3 _ _ LA (vL C XM):=vM iP.F M bX cL
 obtain⟨T,⟨fi,bF⟩,n1,n2,eO,dB⟩:=M
 have mK:aC P w K mg base bU 1 _ _ jk (Gu C):=rP bX.F T bF.cl n1
 refine F.ok Ef (fun vs H Q E h=>?_) (fun cdv A outer s H vs Q E hr h=>?_)
 ·obtain⟨S,x,d,st,op,past,ops,rfl,_⟩:=h
  rfl
 obtain⟨S,x,d,st,op,past,ops,rfl,W,ok,k⟩:=h
 obtain⟨as,hs,al⟩:=id W.hs
 obtain⟨last,hl,hl2,_⟩:=W.Vr
 have lp:past.length-1<past.length:=(List.getElem?_eq_some_iff.mp hl2).1
 have RQ:=ok.1
 have la:(((as.map V.ref).length:Nat):Int)-1=((past.length-1:Nat):Int):=by rw[cA,al.len];omega
 refine⟨_,(ao (aT (bO (pv 0) bF.cl iP.mt yc (hr.mono (by decide)) iP.b .nil sW (aa (cJ (pv 0) bF.cl bX.mt mK (hr.mono (by decide)) bX.b .nil cQ) ah)))),?_⟩
 refine⟨_,rfl,x,d,_,rfl,W.hx,rfl,_,rfl,x,d,_,rfl,W.hx,rfl,x,d,st,op,_,rfl,W.hx,hs,?_⟩
 rw[la]
 refine⟨S,x,d,st,op,past,ops,_,rfl,W,ok,⟨by omega,by omega⟩,fun mi rows em er q H1 fs s1=>?_,fun nm=>absurd ⟨by omega,by omega⟩ nm⟩
 have:mi=past.length-1:=by omega
 subst this
 rw[hl2]at er
 cases er
 exact k last hl q H1 fs s1
inductive wY(C:Addr)(vs:List V)(H:Hp)(Q:VK)(E:XK):Prop
 | mk (x d:Addr) (_:vs=[.ref x]) (_:H x=some (.ins C d [])) (_: ∀ (fs:List (Str × V)) (H':Hp),H' x=some (.ins C d fs)→cO x H H'→Q .jw H'):wY C vs H Q E
theorem zc:aJ ["self"] ["self"] (ay jC):=⟨rfl,rfl,rfl,by decide +kernel,rfl,by decide +kernel,by decide +kernel⟩
theorem zd:aJ ["self"] ["self"] (ay jD):=⟨rfl,rfl,rfl,by decide +kernel,rfl,by decide +kernel,by decide +kernel⟩
theorem Gx{x z:Addr}{H:Hp}{o o':HO}(hz:H z=none):cO x H (upd (upd H z o) x o'):=fun a ob e n=>by
 rw[aF n]
 exact aj hz o a ob e
theorem yd{f C:Addr}{fd:FuncData}(F:iI K "__init__" "Dues.__init__" jD f fd)(cl:BK K C)(n1:aZ K C "sums"):aC P w K mg base bU 1 f fd jk (wY C):=by
 refine F.ok zd (fun vs H Q E h=>?_) (fun cdv A outer s H vs Q E hr h=>?_)
 ·obtain⟨x,d,rfl,_⟩:=h
  rfl
 obtain⟨x,d,rfl,hx,k⟩:=h
 refine⟨_,(ao (kU (pv 0) pC rfl)),?_⟩
 intro z hz
 exact⟨_,rfl,x,C,d,_,rfl,aj hz _ _ _ hx,cl,n1,by decide,k _ _ af (Gx hz)⟩
theorem ye{f C:Addr}{fd:FuncData}(F:iI K "__init__" "Ties.__init__" jC f fd)(cl:BK K C)(n1:aZ K C "given")(n2:aZ K C "pairs"):aC P w K mg base bU 1 f fd jk (wY C):=by
 refine F.ok zc (fun vs H Q E h=>?_) (fun cdv A outer s H vs Q E hr h=>?_)
 ·obtain⟨x,d,rfl,_⟩:=h
  rfl
 obtain⟨x,d,rfl,hx,k⟩:=h
 refine⟨_,(ak (kU (pv 0) az rfl)
   (ao (kU (pv 0) pC rfl))),?_⟩
 refine⟨_,rfl,x,C,d,_,rfl,hx,cl,n1,by decide,?_⟩
 have k1:cO x H (upd H x (.ins C d (L2.dH "given" (.int 0) []))):=aK x _ _
 have h1:(upd H x (.ins C d (L2.dH "given" (.int 0) []))) x=some (.ins C d (L2.dH "given" (.int 0) [])):=af
 generalize upd H x (.ins C d (L2.dH "given" (.int 0) []))=H1 at k1 h1
 intro z hz
 exact⟨_,rfl,x,C,d,_,rfl,aj hz _ _ _ h1,cl,n2,(by show 1<1000;decide),k _ _ af (k1.trans (Gx hz))⟩
def Nh(aB:jU):List V:=aB.map fun p=>wG p.2
def hds(aB:jU):List V:=aB.map fun p=>V.int p.1
def sG(h:Int)(cs:List Nat):jU:=cs.map fun c=>(h,c)
theorem uq(h:Int)(cs:List Nat):(sG h cs).length=cs.length:=cA ..
theorem O1(aB:jU)(h:Int)(cs:List Nat):Nh (aB++sG h cs)=Nh aB++cs.map wG:=by
 unfold Nh sG
 rw[lH,List.map_map]
 rfl
theorem Eg(v:V):∀ n:Nat,(List.replicate n [v]).flatten=List.replicate n v
 | 0=>rfl
 | n+1=>by rw[List.replicate_succ,List.flatten_cons,Eg v n,List.replicate_succ];rfl
theorem O2(aB:jU)(h:Int)(cs:List Nat):hds (aB++sG h cs)=hds aB++(List.replicate cs.length [V.int h]).flatten:=by
 rw[Eg]
 unfold hds sG
 rw[lH,List.map_map]
 congr 1
 exact List.map_eq_replicate_iff.mpr fun c _=>rfl
def vN(h:Int):Nat→jU→List Int
 | _,[]=>[]
 | i,p::r=>if p.1=h then (i:Int)::vN h (i+1) r else vN h (i+1) r
theorem pP(h:Int):∀ (a b:jU) (i:Nat),vN h i (a++b)=vN h i a++vN h (i+a.length) b
 | [],b,i=>rfl
 | p::a,b,i=>by
  rw[List.cons_append,vN,vN,nG,pP h a b (i+1),show i+1+a.length=i+(a.length+1) by omega]
  split <;> rfl
theorem yf(h:Int):∀ (cs:List Nat) (i:Nat),vN h i (sG h cs)=run (i:Int) cs.length
 | [],i=>rfl
 | c::cs,i=>by
  show vN h i ((h,c)::sG h cs)=_
  rw[vN,if_pos rfl,yf h cs (i+1),nG,run,show ((i+1:Nat):Int)=(i:Int)+1 by omega]
theorem pQ{h g:Int}(n:g≠h):∀ (cs:List Nat) (i:Nat),vN h i (sG g cs)=[]
 | [],i=>rfl
 | c::cs,i=>by
  show vN h i ((g,c)::sG g cs)=_
  rw[vN,if_neg n,pQ n cs (i+1)]
theorem Bb(a b:Int)(k:Nat)(e:b=a+k):aS [(a,b)]=run a k:=by
 show span (a,b)++[]=_
 rw[kj]
 show run a (b-a).toNat=_
 rw[show (b-a).toNat=k by omega]
structure Pw(S:Addr→Prop)(H:Hp)(s o:Addr)(n:Nat)(kvs:List (Key × V))(aB:jU):Prop where
 got:∀ h v,cC kvs (Sum.inl h)=some v→∃ (l:Addr) (row:Row),v=.ref l∧S l∧l≠s∧l≠o∧bQ H l row∧(∀ p∈row,p.1≤p.2)∧aS row=vN h 0 aB∧row.length≤n
 jw:∀ h,cC kvs (Sum.inl h)=none→vN h 0 aB=[]
 one:∀ h g v,cC kvs (Sum.inl h)=some v→cC kvs (Sum.inl g)=some v→h=g
 len:kvs.length≤n
structure We(C:Addr)(S:Addr→Prop)(H:Hp)(x d s o p:Addr)(n:Nat)(aB:jU):Prop where
 sx:S x
 ss:S s
 so:S o
 sp:S p
 al:∀ a,S a→∃ ob,H a=some ob
 hx:H x=some (.ins C d [("signs",.ref s),("owners",.ref o),("pourings",.ref p)])
 hs:H s=some (.lst (Nh aB))
 ho:H o=some (.lst (hds aB))
 ne:s≠o
 dk:∃ kvs,H p=some (.dK kvs)∧Pw S H s o n kvs aB
theorem bQ.two{H H':Hp}{r:Addr}{row:Row}(h:bQ H r row)(k:∀ xs,H r=some (.lst xs)→H' r=some (.lst xs))(t:∀ a xs,H a=some (.tup xs)→H' a=some (.tup xs)):bQ H' r row:=by
 obtain⟨as,h1,h2⟩:=h
 exact⟨as,k _ h1,h2.tups t⟩
theorem We.fr{C:Addr}{S:Addr→Prop}{H H':Hp}{x d s o p:Addr}{n:Nat}{aB:jU}(h:We C S H x d s o p n aB)(k:∀ a ob,H a=some ob→S a→H' a=some ob)(t:∀ a xs,H a=some (.tup xs)→H' a=some (.tup xs)):We C S H' x d s o p n aB:=by
 obtain⟨sx,ss,so,sp,al,hx,hs,ho,ne,kvs,hp,pw⟩:=h
 refine⟨sx,ss,so,sp,fun a z=>?_,k _ _ hx sx,k _ _ hs ss,k _ _ ho so,ne,kvs,k _ _ hp sp,fun h v e=>?_,pw.jw,pw.one,pw.len⟩
 ·obtain⟨ob,e⟩:=al a z
  exact⟨ob,k _ _ e z⟩
 ·obtain⟨l,row,e1,e2,e3,e4,e5,r⟩:=pw.got h v e
  exact⟨l,row,e1,e2,e3,e4,e5.two (fun xs q=>k _ _ q e2) t,r⟩
theorem We.same{C:Addr}{S:Addr→Prop}{H H':Hp}{x d s o p:Addr}{n:Nat}{aB:jU}(h:We C S H x d s o p n aB)(k:aH H H'):We C S H' x d s o p n aB:=h.fr (fun a ob e _=>k a ob e) (fun a xs e=>k _ _ e)
theorem JD(aB:jU):(Nh aB).length=aB.length:=cA ..
theorem O4(aB:jU):(hds aB).length=aB.length:=cA ..
theorem Ni{H:Hp}{a:Addr}{ob:HO}(h:H a=some ob):upd H a ob=H:=by
 funext b
 by_cases e:b=a
 ·rw[e,af,h]
 ·rw[aF e]
inductive Eh(C:Addr)(vs:List V)(H:Hp)(Q:VK)(E:XK):Prop
 | mk (x d:Addr) (_:vs=[.ref x]) (_:H x=some (.ins C d [])) (_: ∀ (s o p:Addr) (H':Hp),We C (fun a=>a=x∨a=s∨a=o∨a=p) H' x d s o p 0 []→cO x H H'→H s=none→H o=none→H p=none→Q .jw H'):Eh C vs H Q E
inductive ur(C:Addr)(vs:List V)(H:Hp)(Q:VK)(E:XK):Prop
 | mk (x d s o p:Addr) (aB:jU) (_:vs=[.ref x]) (_:H x=some (.ins C d [("signs",.ref s),("owners",.ref o),("pourings",.ref p)])) (_:H s=some (.lst (Nh aB))) (_:Q (.int (aB.length:Nat)) H):ur C vs H Q E
inductive Iw(C:Addr)(vs:List V)(H:Hp)(Q:VK)(E:XK):Prop
 | mk (S:Addr→Prop) (x d s o p:Addr) (n:Nat) (aB:jU) (h:Int) (cs:List Nat) (_:vs=[.ref x,.int h,.str (txt cs)]) (_:We C S H x d s o p n aB) (_:aB.length+cs.length≤100000) (_:n≤1000) (_ :
 ∀ (S':Addr→Prop) (q:Addr) (H':Hp),We C S' H' x d s o p (n+1) (aB++sG h cs)→H' q=some (.tup [.int (aB.length:Nat),.int ((aB++sG h cs).length:Nat)])→(∀ a,S' a→S a∨H a=none)→(∀ a ob,H a=some ob→¬ S a→H' a=some ob)→(∀ a xs,H a=some (.tup xs)→H' a=some (.tup xs))→Q (.ref q) H'):Iw C vs H Q E
theorem ze:aJ ["self"] ["self"] (ay jE):=⟨rfl,rfl,rfl,by decide +kernel,rfl,by decide +kernel,by decide +kernel⟩
theorem Gy:aJ ["self"] ["self"] (ay iZ):=⟨rfl,rfl,rfl,by decide +kernel,rfl,by decide +kernel,by decide +kernel⟩
theorem tG:aJ ["self","hand","text","start","stretch"] ["self","hand","text"] (ay oX):=⟨rfl,rfl,rfl,by decide +kernel,rfl,by decide +kernel,by decide +kernel⟩
theorem yg{f C:Addr}{fd:FuncData}(F:iI K "__init__" "Well.__init__" jE f fd)(cl:BK K C)(n1:aZ K C "signs")(n2:aZ K C "owners")(n3:aZ K C "pourings"):aC P w K mg base bU 1 f fd jk (Eh C):=by
 refine F.ok ze (fun vs H Q E h=>?_) (fun cdv A outer s H vs Q E hr h=>?_)
 ·obtain⟨x,d,rfl,_⟩:=h
  rfl
 obtain⟨x,d,rfl,hx,k⟩:=h
 refine⟨_,(ak (kU (pv 0) (bH ah) rfl)
   (ak (kU (pv 0) (bH ah) rfl)
   (ao (kU (pv 0) pC rfl)))),?_⟩
 refine⟨(by show 0≤sizeLine;decide),fun s hs=>?_⟩
 have a1:aH H (upd H s (.lst [])):=aj hs _
 have b1:(upd H s (.lst [])) s=some (.lst []):=af
 generalize upd H s (.lst [])=H1 at a1 b1
 refine⟨_,rfl,x,C,d,_,rfl,a1 _ _ hx,cl,n1,by decide,?_⟩
 have k2:cO x H1 (upd H1 x (.ins C d (L2.dH "signs" (.ref s) []))):=aK x _ _
 have h2:(upd H1 x (.ins C d (L2.dH "signs" (.ref s) []))) x=some (.ins C d [("signs",.ref s)]):=af
 generalize upd H1 x (.ins C d (L2.dH "signs" (.ref s) []))=H2 at k2 h2
 have RW:s≠x:=(au hx hs).symm
 have b2:=k2 _ _ b1 RW
 refine⟨(by show 0≤sizeLine;decide),fun o ho=>?_⟩
 have a3:aH H2 (upd H2 o (.lst [])):=aj ho _
 have c3:(upd H2 o (.lst [])) o=some (.lst []):=af
 generalize upd H2 o (.lst [])=H3 at a3 c3
 refine⟨_,rfl,x,C,d,_,rfl,a3 _ _ h2,cl,n2,(by show 1<1000;decide),?_⟩
 have k4:cO x H3 (upd H3 x (.ins C d (L2.dH "owners" (.ref o) [("signs",.ref s)]))):=aK x _ _
 have h4:(upd H3 x (.ins C d (L2.dH "owners" (.ref o) [("signs",.ref s)]))) x=some (.ins C d [("signs",.ref s),("owners",.ref o)]):=af
 generalize upd H3 x (.ins C d (L2.dH "owners" (.ref o) [("signs",.ref s)]))=H4 at k4 h4
 have Lr:o≠x:=(au h2 ho).symm
 have c4:=k4 _ _ c3 Lr
 have b4:=k4 _ _ (a3 _ _ b2) RW
 intro p hp
 have Xd:p≠x:=(au h4 hp).symm
 refine⟨_,rfl,x,C,d,_,rfl,aj hp _ _ _ h4,cl,n3,(by show 2<1000;decide),?_⟩
 have k5:cO x H (upd (upd H4 p (.dK [])) x (.ins C d (L2.dH "pourings" (.ref p) [("signs",.ref s),("owners",.ref o)]))):=fun a ob e n=>by
  rw[aF n]
  exact aj hp _ _ _ (k4 _ _ (a3 _ _ (k2 _ _ (a1 _ _ e) n)) n)
 refine k s o p _ ⟨.inl rfl,.inr (.inl rfl),.inr (.inr (.inl rfl)),.inr (.inr (.inr rfl)),fun a z=>?_,af,?_,?_,au b2 ho,[],?_,?_⟩ k5 hs ?_ ?_
 ·rcases z with rfl|rfl|rfl|rfl
  ·exact⟨_,af⟩
  ·exact⟨_,by rw[aF RW];exact aj hp _ _ _ b4⟩
  ·exact⟨_,by rw[aF Lr];exact aj hp _ _ _ c4⟩
  ·exact⟨_,by rw[aF Xd];exact af⟩
 ·rw[aF RW];exact aj hp _ _ _ b4
 ·rw[aF Lr];exact aj hp _ _ _ c4
 ·rw[aF Xd];exact af
 ·exact⟨fun h v e=>(by cases e),fun h e=>rfl,fun h g v e=>(by cases e),gQ _⟩
 ·exact aX a1 (j3 k2 Lr ho)
 ·exact aX a1 (j3 k2 Xd (aX a3 (j3 k4 Xd hp)))
theorem oz{f C:Addr}{fd:FuncData}(F:iI K "size" "Well.size" iZ f fd)(T:n9 mg)(cl:BK K C)(n1:aZ K C "signs"):aC P w K mg base bU 1 f fd jk (ur C):=by
 refine F.ok Gy (fun vs H Q E h=>?_) (fun cdv A outer s H vs Q E hr h=>?_)
 ·obtain⟨x,d,s,o,p,aB,rfl,_⟩:=h
  rfl
 obtain⟨x,d,s,o,p,aB,rfl,hx,hs,k⟩:=h
 refine⟨_,(ao (aT (aR bP rfl T.iH mw (aa (dM (pv 0) rfl) ah)))),?_⟩
 refine⟨_,rfl,x,C,d,_,.ref s,rfl,hx,cl,n1,rfl,s,_,rfl,.inl (bN.of hs),?_⟩
 rw[JD]
 exact k
theorem Ei{f C fs fi:Addr}{fd gs:FuncData}(F:iI K "pour" "Well.pour" oX f fd)(T:n9 mg)(dJ:ClsAt K mg "Well" C fi)(n1:aZ K C "signs")(n2:aZ K C "owners")(n3:aZ K C "pourings")(bu:aU K C "size" "Well.size" iZ jk fs gs):aC P w K mg base bU 2 f fd NL (Iw C):=by
 have ja:aC P w K mg base bU 1 fs gs jk (ur C):=oz bu.F T dJ.cl n1
 refine F.ok tG (fun vs H Q E h=>?_) (fun cdv A outer s H vs Q E hr h=>?_)
 ·obtain⟨S,x,d,s,o,p,n,aB,h,cs,rfl,_⟩:=h
  rfl
 obtain⟨S,x,d,s,o,p,n,aB,h,cs,rfl,W,len,nn,k⟩:=h
 have hu:=m5 hr
 refine⟨_,(ak (aO (i:=3) tG.nd rfl (Or.inl rfl) (cJ (pv 0) dJ.cl bu.mt ja (hr.mono (by decide)) bu.b .nil cQ))
   (ak (xD (pv 0) (jl (BQ rfl) rfl T.pG zS (aa (pv 2) ah)) HS)
   (ak (xD (pv 0) (bw Ma (bH (aa (pv 1) ah)) (aR cZ rfl T.iH mw (aa (pv 2) ah))) HS)
   (ak (aO (i:=4) tG.nd rfl (Or.inl rfl) (iz (aa (pv 3) (aa (cJ (pv 0) dJ.cl bu.mt ja (hr.mono (by decide)) bu.b .nil cQ) ah))))
   (ak (bq (je rA vg vh cP (MK (dM (pv 0) rfl) (pv 1) (bH ah) ⟨rfl,rfl,rfl,rfl⟩) (aa (pv 4) ah)))
   (ao (aT (pv 4)))))))),?_⟩
 refine⟨_,rfl,x,d,_,rfl,W.hx,rfl,x,d,s,o,p,aB,rfl,W.hx,W.hs,?_⟩
 obtain⟨sx,ss,so,sp,al,hx,hs,ho,ne,kvs,hp,pw⟩:=id W
 have Xb:x≠s:=cY hx hs (by intro z;cases z)
 have nxo:x≠o:=cY hx ho (by intro z;cases z)
 have nxp:x≠p:=cY hx hp (by intro z;cases z)
 have Xe:p≠s:=cY hp hs (by intro z;cases z)
 have npo:p≠o:=cY hp ho (by intro z;cases z)
 refine⟨_,rfl,x,C,d,_,.ref s,rfl,hx,dJ.cl,n1,rfl,_,rfl,cs,rfl,iR (aL (by omega)),fun t ht=>?_⟩
 have a1:aH H (upd H t (.lst (cs.map wG))):=aj ht _
 have b1:(upd H t (.lst (cs.map wG))) t=some (.lst (cs.map wG)):=af
 generalize upd H t (.lst (cs.map wG))=H1 at a1 b1
 refine⟨s,t,_,_,rfl,rfl,a1 _ _ hs,b1,(by rw[JD,cA];exact iR (aL (by omega))),?_⟩
 rw[← O1 aB h cs]
 have k2:cO s H1 (upd H1 s (.lst (Nh (aB++sG h cs)))):=aK s _ _
 have s2:(upd H1 s (.lst (Nh (aB++sG h cs)))) s=some (.lst (Nh (aB++sG h cs))):=af
 generalize upd H1 s (.lst (Nh (aB++sG h cs)))=H2 at k2 s2
 have k02:cO s H H2:=fun a ob e m=>k2 _ _ (a1 _ _ e) m
 have x2:=k02 _ _ hx Xb
 refine⟨d,_,x2,(by show 3<1000;decide),?_⟩
 have e3:upd H2 x (.ins C d (L2.dH "signs" (.ref s) ([("signs",.ref s),("owners",.ref o),("pourings",.ref p)]:List (Str × V))))=H2:=Ni x2
 rw[e3]
 refine⟨_,rfl,x,C,d,_,.ref o,rfl,x2,dJ.cl,n2,rfl,_,rfl,(by show 1≤sizeLine;decide),fun t2 Fy=>?_⟩
 have a3:aH H2 (upd H2 t2 (.lst [.int h])):=aj Fy _
 have b3:(upd H2 t2 (.lst [.int h])) t2=some (.lst [.int h]):=af
 generalize upd H2 t2 (.lst [.int h])=H3 at a3 b3
 refine⟨_,rfl,txt cs,rfl,(by rw[dZ];exact iR (aL (by omega))),?_⟩
 rw[dZ]
 refine⟨t2,_,_,rfl,rfl,b3,by omega,by omega,(by simp only[lK];exact iR (aL (by omega))),fun t3 Tj=>?_⟩
 rw[Int.toNat_natCast]
 have a4:aH H3 (upd H3 t3 (.lst (List.replicate cs.length [V.int h]).flatten)):=aj Tj _
 have b4:(upd H3 t3 (.lst (List.replicate cs.length [V.int h]).flatten)) t3=some (.lst (List.replicate cs.length [V.int h]).flatten):=af
 generalize upd H3 t3 (.lst (List.replicate cs.length [V.int h]).flatten)=H4 at a4 b4
 have Qg:cO s H H4:=fun a ob e m=>a4 _ _ (a3 _ _ (k02 _ _ e m))
 refine⟨o,t3,_,_,rfl,rfl,Qg _ _ ho ne.symm,b4,(by rw[O4,Eg,vm];exact iR (aL (by omega))),?_⟩
 rw[← O2 aB h cs]
 have k5:cO o H4 (upd H4 o (.lst (hds (aB++sG h cs)))):=aK o _ _
 have o5:(upd H4 o (.lst (hds (aB++sG h cs)))) o=some (.lst (hds (aB++sG h cs))):=af
 generalize upd H4 o (.lst (hds (aB++sG h cs)))=H5 at k5 o5
 have Vs:∀ a ob,H a=some ob→a≠s→a≠o→H5 a=some ob:=fun a ob e m m2=>k5 _ _ (Qg _ _ e m) m2
 have x5:=Vs _ _ hx Xb nxo
 have s5:=k5 _ _ (a4 _ _ (a3 _ _ s2)) ne
 refine⟨d,_,x5,(by show 3<1000;decide),?_⟩
 have e5:upd H5 x (.ins C d (L2.dH "owners" (.ref o) ([("signs",.ref s),("owners",.ref o),("pourings",.ref p)]:List (Str × V))))=H5:=Ni x5
 rw[e5]
 have T6:∀ q,H5 q=none→H q=none:=fun q hq=>by
  cases e:H q with
  | none=>rfl
  | some ob =>
   by_cases z1:q=s
   ·rw[z1,s5]at hq;cases hq
   by_cases z2:q=o
   ·rw[z2,o5]at hq;cases hq
   rw[Vs _ _ e z1 z2]at hq
   cases hq
 refine⟨_,rfl,_,rfl,x,d,_,rfl,x5,rfl,x,d,s,o,p,_,rfl,x5,s5,?_⟩
 refine⟨(by show 2≤sizeLine;decide),fun q hq=>?_⟩
 have a6:aH H5 (upd H5 q (.tup [.int (aB.length:Nat),.int ((aB++sG h cs).length:Nat)])):=aj hq _
 have b6:(upd H5 q (.tup [.int (aB.length:Nat),.int ((aB++sG h cs).length:Nat)])) q=some (.tup [.int (aB.length:Nat),.int ((aB++sG h cs).length:Nat)]):=af
 generalize upd H5 q (.tup [.int (aB.length:Nat),.int ((aB++sG h cs).length:Nat)])=H6 at a6 b6
 have p6:=a6 _ _ (Vs _ _ hp Xe npo)
 have GW:∀ q,H6 q=none→H q=none:=fun q hq=>T6 q (aX a6 hq)
 refine⟨_,rfl,x,C,d,_,.ref p,rfl,a6 _ _ x5,dJ.cl,n3,rfl,p,rfl,.inl ⟨_,.inl p6⟩,_,rfl,(by show 0≤sizeLine;decide),fun z hz=>?_⟩
 have a7:aH H6 (upd H6 z (.lst [])):=aj hz _
 have b7:(upd H6 z (.lst [])) z=some (.lst []):=af
 generalize upd H6 z (.lst [])=H7 at a7 b7
 have lp:=pw.len
 refine⟨kvs,Sum.inl h,a7 _ _ p6,rfl,aL (by omega),fun v hv=>?_,fun hv=>?_⟩
 ·obtain⟨l,row,rfl,Sl,ls,lo,⟨as,hl,pa⟩,ok,sp1,rl⟩:=pw.got h v hv
  have Vt:∀ a ob,H a=some ob→a≠s→a≠o→H7 a=some ob:=fun a ob e m m2=>a7 _ _ (a6 _ _ (Vs _ _ e m m2))
  have l7:=Vt _ _ hl ls lo
  have nxl:x≠l:=cY hx hl (by intro z;cases z)
  have npl:p≠l:=cY hp hl (by intro z;cases z)
  have la:=pa.len
  refine⟨.inl ⟨rfl,_,bN.of l7⟩,_,rfl,l,_,_,rfl,rfl,l7,(by rw[cA];exact aL (by omega)),?_⟩
  have k8:cO l H7 (upd H7 l (.lst (as.map V.ref++[.ref q]))):=aK l _ _
  have l8:(upd H7 l (.lst (as.map V.ref++[.ref q]))) l=some (.lst (as.map V.ref++[.ref q])):=af
  generalize upd H7 l (.lst (as.map V.ref++[.ref q]))=H8 at k8 l8
  have t07:∀ a xs,H a=some (.tup xs)→H7 a=some (.tup xs):=fun a xs e=>Vt _ _ e (cY e hs (by intro z;cases z)) (cY e ho (by intro z;cases z))
  have RY:∀ a xs,H7 a=some (.tup xs)→H8 a=some (.tup xs):=fun a xs e=>k8 _ _ e (cY e l7 (by intro z;cases z))
  have s8:=k8 _ _ (a7 _ _ (a6 _ _ s5)) ls.symm
  have o8:=k8 _ _ (a7 _ _ (a6 _ _ o5)) lo.symm
  refine⟨_,rfl,k S q H8 ⟨sx,ss,so,sp,fun a z=>?_,k8 _ _ (a7 _ _ (a6 _ _ x5)) nxl,s8,o8,ne,kvs,k8 _ _ (a7 _ _ p6) npl,fun g v e=>?_,fun g e=>?_,pw.one,by omega⟩ (RY _ _ (a7 _ _ b6)) (fun a z=>.inl z) (fun a ob e m=>?_) (fun a xs e=>RY _ _ (t07 _ _ e))⟩
  ·by_cases z1:a=s
   ·rw[z1];exact⟨_,s8⟩
   by_cases z2:a=o
   ·rw[z2];exact⟨_,o8⟩
   by_cases z3:a=l
   ·rw[z3];exact⟨_,l8⟩
   obtain⟨ob,e⟩:=al a z
   exact⟨ob,k8 _ _ (Vt _ _ e z1 z2) z3⟩
  ·by_cases c:g=h
   ·subst c
    rw[hv]at e
    cases e
    refine⟨l,row++([(((aB.length:Nat):Int),(((aB++sG g cs).length:Nat):Int))]:Row),rfl,Sl,ls,lo,⟨as++[q],by rw[lH];exact l8,?_⟩,?_,?_,?_⟩
    ·exact bf.append (pa.tups fun a xs e=>RY _ _ (t07 _ _ e)) (.cons (b:=(((aB.length:Nat):Int),(((aB++sG g cs).length:Nat):Int))) (RY _ _ (a7 _ _ b6)) .nil)
    ·intro r hr
     rcases List.mem_append.mp hr with z|z
     ·exact ok r z
     ·rw[List.mem_singleton.mp z]
      show ((aB.length:Nat):Int)≤((aB++sG g cs).length:Nat)
      rw[dU]
      omega
    ·rw[cI,sp1,pP,yf,Nat.zero_add]
     congr 1
     refine Bb _ _ _ ?_
     rw[dU,uq]
     omega
    ·rw[dU]
     simp only[lK]
     omega
   ·obtain⟨l',BY,e1,e2,e3,e4,e5,e6,e7,e8⟩:=pw.got g v e
    subst e1
    have nl:l'≠l:=fun z=>c (pw.one g h _ e (by rw[z];exact hv))
    refine⟨l',BY,rfl,e2,e3,e4,e5.two (fun xs q=>k8 _ _ (Vt _ _ q e3 e4) nl) (fun a xs e=>RY _ _ (t07 _ _ e)),e6,?_,by omega⟩
    rw[e7,pP,pQ (fun z=>c z.symm),kj]
  ·have c:g≠h:=fun z=>by rw[z,hv]at e;cases e
   rw[pP,pw.jw g e,pQ (fun z=>c z.symm),kj]
  ·have z1:a≠s:=fun z=>m (by rw[z];exact ss)
   have z2:a≠o:=fun z=>m (by rw[z];exact so)
   have z3:a≠l:=fun z=>m (by rw[z];exact Sl)
   exact k8 _ _ (Vt _ _ e z1 z2) z3
 ·have fz:H z=none:=GW z hz
  have p7:=a7 _ _ p6
  have k8:cO p H7 (upd H7 p (.dK (putK kvs (Sum.inl h) (.ref z)))):=aK p _ _
  have p8:(upd H7 p (.dK (putK kvs (Sum.inl h) (.ref z)))) p=some (.dK (putK kvs (Sum.inl h) (.ref z))):=af
  generalize upd H7 p (.dK (putK kvs (Sum.inl h) (.ref z)))=H8 at k8 p8
  have z8:=k8 _ _ b7 (cY b7 p7 (by intro z;cases z))
  refine⟨.inl ⟨rfl,_,bN.of z8⟩,_,rfl,z,_,_,rfl,rfl,z8,(by show 0<sizeLine;decide),?_⟩
  have k9:cO z H8 (upd H8 z (.lst ([]++[.ref q]))):=aK z _ _
  have z9:(upd H8 z (.lst ([]++[.ref q]))) z=some (.lst ([]++[.ref q])):=af
  generalize upd H8 z (.lst ([]++[.ref q]))=H9 at k9 z9
  have Vu:∀ a ob,H6 a=some ob→a≠p→H9 a=some ob:=fun a ob e m=>k9 _ _ (k8 _ _ (a7 _ _ e) m) (au e hz)
  have RZ:∀ a ob,H a=some ob→a≠s→a≠o→a≠p→H9 a=some ob:=fun a ob e m m2 m3=>Vu _ _ (a6 _ _ (Vs _ _ e m m2)) m3
  have t69:∀ a xs,H6 a=some (.tup xs)→H9 a=some (.tup xs):=fun a xs e=>Vu _ _ e (cY e p6 (by intro z;cases z))
  have t09:∀ a xs,H a=some (.tup xs)→H9 a=some (.tup xs):=fun a xs e=>RZ _ _ e (cY e hs (by intro z;cases z)) (cY e ho (by intro z;cases z)) (cY e hp (by intro z;cases z))
  have s9:=Vu _ _ (a6 _ _ s5) Xe.symm
  have o9:=Vu _ _ (a6 _ _ o5) npo.symm
  have p9:=k9 _ _ p8 (cY p7 b7 (by intro z;cases z))
  have nz:∀ a,S a→a≠z:=fun a sa=>by
   obtain⟨ob,e⟩:=al a sa
   exact au e fz
  refine⟨_,rfl,k (fun a=>S a∨a=z) q H9 ⟨.inl sx,.inl ss,.inl so,.inl sp,fun a w=>?_,Vu _ _ (a6 _ _ x5) nxp,s9,o9,ne,_,p9,fun g v e=>?_,fun g e=>?_,fun g g' v e e'=>?_,(by have:=jK kvs (Sum.inl h:Key) (V.ref z);omega)⟩ (t69 _ _ b6) (fun a w=>w.imp id fun y=>by rw[y];exact fz) (fun a ob e m=>?_) (fun a xs e=>t09 _ _ e)⟩
  ·rcases w with w|w
   ·by_cases z1:a=s
    ·rw[z1];exact⟨_,s9⟩
    by_cases z2:a=o
    ·rw[z2];exact⟨_,o9⟩
    by_cases z3:a=p
    ·rw[z3];exact⟨_,p9⟩
    obtain⟨ob,e⟩:=al a w
    exact⟨ob,RZ _ _ e z1 z2 z3⟩
   ·rw[w];exact⟨_,z9⟩
  ·rw[ng]at e
   by_cases c:g=h
   ·subst c
    rw[if_pos rfl]at e
    cases e
    refine⟨z,([(((aB.length:Nat):Int),(((aB++sG g cs).length:Nat):Int))]:Row),rfl,.inr rfl,(nz _ ss).symm,(nz _ so).symm,⟨[q],z9,.cons (t69 _ _ b6) .nil⟩,?_,?_,?_⟩
    ·intro r hr
     rw[List.mem_singleton.mp hr]
     show ((aB.length:Nat):Int)≤((aB++sG g cs).length:Nat)
     rw[dU]
     omega
    ·rw[pP,pw.jw g hv,yf,Nat.zero_add,List.nil_append]
     refine Bb _ _ _ ?_
     rw[dU,uq]
     omega
    ·simp only[lK]
     omega
   ·rw[if_neg (fun z=>c (Sum.inl.inj z))]at e
    obtain⟨l',BY,e1,e2,e3,e4,e5,e6,e7,e8⟩:=pw.got g v e
    subst e1
    refine⟨l',BY,rfl,.inl e2,e3,e4,e5.two (fun xs q=>RZ _ _ q e3 e4 (cY q hp (by intro z;cases z))) (fun a xs e=>t09 _ _ e),e6,?_,by omega⟩
    rw[e7,pP,pQ (fun z=>c z.symm),kj]
  ·rw[ng]at e
   have c:g≠h:=fun z=>by rw[z,if_pos rfl]at e;cases e
   rw[if_neg (fun z=>c (Sum.inl.inj z))]at e
   rw[pP,pw.jw g e,pQ (fun z=>c z.symm),kj]
  ·have other:∀ g v,g≠h→cC kvs (Sum.inl g)=some v→v≠.ref z:=fun g v c e y=>by
    obtain⟨l',BY,e1,e2,_⟩:=pw.got g v e
    rw[e1]at y
    cases y
    exact nz _ e2 rfl
   rw[ng]at e e'
   by_cases c:g=h
   ·by_cases c':g'=h
    ·rw[c,c']
    ·rw[c,if_pos rfl]at e
     rw[if_neg (fun z=>c' (Sum.inl.inj z))]at e'
     cases e
     exact absurd rfl (other _ _ c' e')
   ·rw[if_neg (fun z=>c (Sum.inl.inj z))]at e
    by_cases c':g'=h
    ·rw[c',if_pos rfl]at e'
     cases e'
     exact absurd rfl (other _ _ c e)
    ·rw[if_neg (fun z=>c' (Sum.inl.inj z))]at e'
     exact pw.one _ _ _ e e'
  ·have z1:a≠s:=fun z=>m (by rw[z];exact ss)
   have z2:a≠o:=fun z=>m (by rw[z];exact so)
   have z3:a≠p:=fun z=>m (by rw[z];exact sp)
   exact RZ _ _ e z1 z2 z3
def Tn(aB:jU)(a:Int):Prop:=0≤a∧a<(aB.length:Nat)
inductive Bc(C XN:Addr)(vs:List V)(H:Hp)(Q:VK)(E:XK):Prop
 | mk (S:Addr→Prop) (x d s o p:Addr) (n:Nat) (aB:jU) (a:Int) (_:vs=[.ref x,.int a]) (_:We C S H x d s o p n aB) (_:qx a) (_:aB.length≤100000) (_:(Tn aB a→Q .jw H)) (_:(¬ Tn aB a→E (.ref XN) none H)):Bc C XN vs H Q E
inductive Ej(C XN:Addr)(vs:List V)(H:Hp)(Q:VK)(E:XK):Prop
 | mk (S:Addr→Prop) (x d s o p:Addr) (n:Nat) (aB:jU) (a:Int) (_:vs=[.ref x,.int a]) (_:We C S H x d s o p n aB) (_:qx a) (_:aB.length≤100000) (_:(∀ (j:Nat) (q:Int × Nat),a=j→aB[j]?=some q→Q (wG q.2) H)) (_:(¬ Tn aB a→E (.ref XN) none H)):Ej C XN vs H Q E
theorem Tn.get{aB:jU}{a:Int}(h:Tn aB a):∃ (j:Nat) (q:Int × Nat),a=j∧aB[j]?=some q:=by
 obtain⟨h0,h1⟩:=h
 exact⟨a.toNat,aB[a.toNat]'(by omega),by omega,by simp⟩
theorem tH:aJ ["self","address"] ["self","address"] (ay dz):=⟨rfl,rfl,rfl,by decide +kernel,rfl,by decide +kernel,by decide +kernel⟩
theorem Gz:aJ ["self","address"] ["self","address"] (ay oY):=⟨rfl,rfl,rfl,by decide +kernel,rfl,by decide +kernel,by decide +kernel⟩
theorem sH{f C XN fs fi:Addr}{fd gs:FuncData}(F:iI K "check_address" "Well.check_address" dz f fd)(T:n9 mg)(dJ:ClsAt K mg "Well" C fi)(n1:aZ K C "signs")(ef:AB K mg "OutOfInk" XN)(bu:aU K C "size" "Well.size" iZ jk fs gs):aC P w K mg base (nB P w) 2 f fd JQ (Bc C XN):=by
 have ja:aC P w K mg base bU 1 fs gs jk (ur C):=oz bu.F T dJ.cl n1
 refine ER F tH (fun vs H Q E h=>?_) (fun cdv A outer s H vs Q E hr h=>?_)
 ·obtain⟨S,x,d,s,o,p,n,aB,a,rfl,_⟩:=h
  rfl
 obtain⟨S,x,d,s,o,p,n,aB,a,rfl,W,fa,len,k1,k2⟩:=h
 refine⟨_,(ao (cG (oN (v8 lM Ab az (pv 1) (cJ (pv 0) dJ.cl bu.mt ja (hr.mono (by decide)) bu.b .nil cQ)))
   (ao (qN PySem.F.excBase_ValueError ef.x ef.m rfl xM (aa (tW (nJ (o6 (pv 1) (nJ (o6 (cJ (pv 0) dJ.cl bu.mt ja (hr.mono (by decide)) bu.b .nil cQ) xN))))) ah)))
   bK)),?_⟩
 have fl:qx ((aB.length:Nat):Int):=⟨by omega,by omega⟩
 refine⟨_,rfl,_,_,rfl,rfl,_,rfl,eG (fun c0=>?_) (fun c0=>⟨_,rfl,jZ ⟨_,rfl,a,rfl,fa.log,_,rfl,x,d,_,rfl,W.hx,rfl,x,d,s,o,p,aB,rfl,W.hx,W.hs,_,rfl,fl.log,fun y=>⟨(by show 1≤sizeLine;decide),k2 fun iw=>c0 (decide_eq_true iw.1)⟩⟩⟩)⟩
 refine⟨_,rfl,x,d,_,rfl,W.hx,rfl,x,d,s,o,p,aB,rfl,W.hx,W.hs,_,_,rfl,rfl,_,rfl,?_⟩
 by_cases iw:Tn aB a
 ·rw[decide_eq_true iw.2]
  exact jY (k1 iw)
 ·rw[decide_eq_false (fun z=>iw ⟨of_decide_eq_true c0,z⟩)]
  exact jZ ⟨_,rfl,a,rfl,fa.log,_,rfl,x,d,_,rfl,W.hx,rfl,x,d,s,o,p,aB,rfl,W.hx,W.hs,_,rfl,fl.log,fun y=>⟨(by show 1≤sizeLine;decide),k2 iw⟩⟩
theorem Ek{f C XN fc fs fi:Addr}{fd gc gs:FuncData}(F:iI K "sign" "Well.sign" oY f fd)(T:n9 mg)(dJ:ClsAt K mg "Well" C fi)(n1:aZ K C "signs")(ef:AB K mg "OutOfInk" XN)(bu:aU K C "size" "Well.size" iZ jk fs gs)(eS:aU K C "check_address" "Well.check_address" dz JQ fc gc):aC P w K mg base (nB P w) 3 f fd JQ (Ej C XN):=by
 have uE:aC P w K mg base (nB P w) 2 fc gc JQ (Bc C XN):=sH eS.F T dJ n1 ef bu
 refine ER F Gz (fun vs H Q E h=>?_) (fun cdv A outer s H vs Q E hr h=>?_)
 ·obtain⟨S,x,d,s,o,p,n,aB,a,rfl,_⟩:=h
  rfl
 obtain⟨S,x,d,s,o,p,n,aB,a,rfl,W,fa,len,k1,k2⟩:=h
 refine⟨_,(ak (bq (bO (pv 0) dJ.cl eS.mt uE (hr.mono (by decide)) eS.b .nil kr (aa (pv 1) ah)))
   (ao (aT (bG bM (dM (pv 0) rfl) (pv 1) (fun _ _=>rfl))))),?_⟩
 refine⟨_,rfl,x,d,_,rfl,W.hx,rfl,_,rfl,S,x,d,s,o,p,n,aB,a,rfl,W,fa,len,fun iw=>?_,k2⟩
 obtain⟨j,q,ej,eq⟩:=iw.get
 refine⟨_,rfl,x,C,d,_,.ref s,rfl,W.hx,dJ.cl,n1,rfl,_,rfl,s,_,_,_,rfl,rfl,bN.of W.hs,(?_:_=some (wG q.2)),k1 j q ej eq⟩
 rw[ej]
 exact eV (by unfold Nh;rw[jV,eq];rfl)
def NI(n:Nat)(p:Int × Int):Bool:=decide (0≤p.1)&&decide (p.1<p.2)&&decide (p.2≤(n:Int))
def qB(n:Nat)(row:Row):Bool:=row.all (NI n)
inductive El(C:Addr)(vs:List V)(H:Hp)(Q:VK)(E:XK):Prop
 | mk (S:Addr→Prop) (x d s o p r:Addr) (n:Nat) (aB:jU) (row:Row) (_:vs=[.ref x,.ref r]) (_:We C S H x d s o p n aB) (_:bQ H r row) (_:row.length≤1000) (_: ∀ H',aH H H'→Q (.bl (qB aB.length row)) H'):El C vs H Q E
theorem Em:aJ ["self","row"] ["self","row"] (ay lC):=⟨rfl,rfl,rfl,by decide +kernel,rfl,by decide +kernel,by decide +kernel⟩
theorem BZ{f C fs fi:Addr}{fd gs:FuncData}(F:iI K "holds" "Well.holds" lC f fd)(T:n9 mg)(dJ:ClsAt K mg "Well" C fi)(n1:aZ K C "signs")(bu:aU K C "size" "Well.size" iZ jk fs gs):aC P w K mg base bU 2 f fd Pp (El C):=by
 have ja:aC P w K mg base bU 1 fs gs jk (ur C):=oz bu.F T dJ.cl n1
 refine F.ok Em (fun vs H Q E h=>?_) (fun cdv A outer s H vs Q E hr h=>?_)
 ·obtain⟨S,x,d,s,o,p,r,n,aB,row,rfl,_⟩:=h
  rfl
 obtain⟨S,x,d,s,o,p,r,n,aB,row,rfl,W,R,len,k⟩:=h
 refine⟨_,(ao (aT (aR (KJ rfl) rfl T.UP PyProof.Rows.boot_all (aa (ku (N:=["start","stop","self"]) (r9 (sc:=ay lC) (NX:=["self","row"]) (jx:=[none,none,some 0]) rfl rfl rfl (by decide +kernel) (by decide +kernel) rfl (by decide +kernel) rfl (by decide +kernel)) rfl (cM (pv 1)) (fun _ _ _ _ _ _=>(DF (n:=2) rfl (bL (aW (i:=0) (show List.Nodup (["start","stop","self"]:List Str) by decide +kernel) rfl (Or.inl rfl)) (bL (aW (i:=1) (show List.Nodup (["start","stop","self"]:List Str) by decide +kernel) rfl (Or.inl rfl)) jX)))) (fun _ _ _ _ _ _=>iJ) (fun _ _ _ _ _ _=>(KL lM Ab lM az (pv 0) (pv 1) (cJ (pv 2) dJ.cl bu.mt ja (hr.mono (by decide)) bu.b .nil cQ)))) ah)))),?_⟩
 obtain⟨as,hr1,pa⟩:=id R
 have la:=pa.len
 refine⟨_,rfl,r,rfl,⟨_,bN.of hr1⟩,fun acc hacc=>jL (K:=K) (a:=r) (xs:=as.map V.ref) (fun i σ H1=>∃ u w:Option V,σ=[u,w,some (.ref x)]∧H1 acc=some (.lst (((row.take i).map (NI aB.length)).map V.bl))∧aH H H1) ⟨none,none,rfl,af,aj hacc _⟩ (fun i σ H1 _ ⟨_,_,_,_,s⟩=>bN.of (s _ _ hr1)) ?_ ?_⟩
 ·rintro i y σ H1 hi ⟨u,w,rfl,ha,s1⟩
  rw[jV]at hi
  obtain⟨t,et,rfl⟩:=Option.map_eq_some_iff.mp hi
  obtain⟨q,eq,ht⟩:=rH pa et
  have W1:=W.same s1
  refine⟨t,_,rfl,jW.of (s1 _ _ ht),rfl,_,_,rfl,_,_,rfl,rfl,?_⟩
  have fin:∀ v:Bool,NI aB.length q=v→∃ ys,H1 acc=some (.lst ys)∧ys.length<sizeLine∧∃ u w:Option V,[some (V.int q.1),some (V.int q.2),some (.ref x)]=[u,w,some (.ref x)]∧(upd H1 acc (.lst (ys++[.bl v]))) acc=some (.lst (((row.take (i+1)).map (NI aB.length)).map V.bl))∧aH H (upd H1 acc (.lst (ys++[.bl v]))):=fun v hv=>by
   refine⟨_,ha,?_,_,_,rfl,?_,?_⟩
   ·rw[cA,cA,rj]
    exact aL (by omega)
   ·rw[af,take_snoc eq,lH,lH,← hv]
    rfl
   ·intro b ob e
    rw[aF (au e hacc)]
    exact s1 _ _ e
  refine⟨_,rfl,_,_,rfl,rfl,_,rfl,eG (fun c1=>?_) (fun c1=>fin false ?_)⟩
  ·refine⟨_,rfl,_,_,rfl,rfl,_,rfl,eG (fun c2=>?_) (fun c2=>fin false ?_)⟩
   ·refine⟨_,rfl,x,d,_,rfl,W1.hx,rfl,x,d,s,o,p,aB,rfl,W1.hx,W1.hs,_,_,rfl,rfl,fin _ ?_⟩
    unfold NI
    rw[c1,c2]
    rfl
   ·unfold NI
    rw[c1,Bool.eq_false_iff.mpr c2]
    rfl
  ·unfold NI
   rw[Bool.eq_false_iff.mpr c1]
   rfl
 ·rintro σ H1 ⟨u,w,rfl,ha,s1⟩
  rw[cA,la,kQ]at ha
  refine⟨acc,_,rfl,bN.of ha,?_⟩
  have e:(row.map (NI aB.length)).all id=qB aB.length row:=by
   unfold qB
   rw[List.all_map]
   rfl
  rw[e]
  exact k H1 s1
structure Xf(mg:Str→Option Value):Prop where
 s:∃ t,mg "MOST_SHEETS"=some (.int 40 t)
 w:∃ t,mg "MOST_WEIGHT"=some (.int 200 t)
 h:∃ t,mg "HIDDEN"=some (.str (Str.ofString "#") t)
theorem HQ.irr{rows:gB}(h:HQ rows){s:Int}:¬ Reach (BP rows) s s:=by
 obtain⟨rk,_,hr⟩:=h
 have key:∀ g,Reach (BP rows) s g→rk g<rk s:=by
  intro g r
  induction r with
  | one e=>exact hr _ _ e
  | step _ e ih=>exact Nat.lt_trans (hr _ _ e) ih
 exact fun z=>Nat.lt_irrefl _ (key s z)
theorem HQ.walk{rows:gB}(h:HQ rows){s:Int}{way:List Int}(w:Walk (BP rows) s way)(l:2≤way.length)(e:way.getLast?=some s):False:=by
 rw[List.getLast?_eq_getElem?]at e
 exact h.irr (w.reach (way.length-2) s (by rw[show way.length-2+1=way.length-1 by omega];exact e))
structure sj(rows:gB)(f:Int→Int):Prop where
 len:rows.length≤100
 es:∀ es∈rows,es.length≤1000
 sd:Sound rows
 rk:HQ rows
 wt:Weighs rows f
 most:∀ x:Int,0≤x→x<rows.length→f x≤200
inductive Bd(vs:List V)(H:Hp)(Q:VK)(E:XK):Prop
 | mk (r:Addr) (rows:gB) (s:Int) (f:Int→Int) (_:vs=[.ref r,.int s]) (_:iM H r (rows.map itemsOf)) (_:sj rows f) (_:0≤s) (_:s<rows.length) (_: ∀ H',aH H H'→Q .jw H'):Bd vs H Q E
theorem mU:aJ ["rows","sheet","way","weights","number"] ["rows","sheet"] (ay lS):=⟨rfl,rfl,rfl,by decide +kernel,rfl,by decide +kernel,by decide +kernel⟩
theorem Be{g fI fB fW fV fY fR:Addr}{fd BG OT G1 UY fdY fdR:FuncData}(F:iI K "check_weave" "check_weave" lS g fd)(T:n9 mg)(G:Xf mg)(cy:aA K mg "windows" eL nF fI BG)(jN:aA K mg "below" lQ mj fB OT)(j7:aA K mg "item_weight" iY JU fW G1)(lY:aA K mg "weights_below" fX mj fV UY)(j6:aA K mg "way_between" iX JT fY fdY)(JE:aA K mg "ring" Co xo fR fdR):aC P w K mg base bU 4 g fd xo Bd:=by
 have Bf:aC P w K mg base bU 3 fV UY mj vC:=xY lY.F T cy jN j7
 have Vv:aC P w K mg base bU 3 fR fdR xo Ib:=OS JE.F T cy j6
 refine F.ok mU (fun vs H Q E h=>?_) (fun cdv A outer s0 H vs Q E hr h=>?_)
 ·obtain⟨r,rows,s,f,rfl,_⟩:=h
  rfl
 obtain⟨r,rows,s,f,rfl,hR,B,h0,h1,k⟩:=h
 have hu:=m5 hr
 obtain⟨En,Eo⟩:=G.w
 have bl:=B.len
 refine⟨_,(ak (aO (i:=2) mU.nd rfl (Or.inl rfl) (aN JE Vv hr (aa (pv 0) (aa (pv 1) ah))))
   (ak (cG (zW (IL (pv 2)))
   (ao zX)
   bK)
   (ak (aO (i:=3) mU.nd rfl (Or.inl rfl) (aN lY Bf hr (aa (pv 0) (aa (jl (uV rfl) rfl T.pG zS (aa (jl DG rfl T.oh PyProof.Rows.boot_range (aa (aR bP rfl T.iH mw (aa (pv 0) ah)) ah)) ah)) ah))))
   (ao (jr PassesOwn.never rfl (oG rfl T.oh (aa (aR bP rfl T.iH mw (aa (pv 0) ah)) ah)) (aW (i:=4) mU.nd rfl (Or.inl rfl))
   (ao (cG (cj Ce (gW hu (pv 3) (pv 4) (fun _ _=>rfl)) (Dm (v:=.int 200) rfl Eo ⟨En,rfl⟩) (bZ _))
   (ao zX)
   bK))))))),?_⟩
 refine⟨_,rfl,_,rfl,r,s,rfl,r,rows,s,s,rfl,hR,by omega,B.es,B.sd,h0,h1,fun way o H' _ _ wk l2 _ eg=>(B.rk.walk wk l2 eg).elim,fun _ H1 s1=>?_⟩
 refine⟨_,rfl,false,rfl,jY ?_⟩
 have hR1:=hR.same s1
 obtain⟨vs,hr1,al⟩:=id hR1
 have lv:vs.length=rows.length:=by rw[al.len,cA]
 refine⟨_,rfl,_,rfl,r,_,rfl,.inl (bN.of hr1),_,rfl,fun p1 hp1=>⟨p1,_,_,rfl,af,⟨by omega,by omega,by omega,by omega⟩,iR (aL (by omega)),fun L hL=>?_⟩⟩
 rw[Ao,lv,show ((rows.length:Int)-0).toNat=rows.length by omega]
 rw[lv]at hL
 have s2:=s1.trans ((aj hp1 (.EO 0 ((rows.length:Nat):Int))).trans (aj hL (.lst ((run 0 rows.length).map V.int))))
 have WI:(upd (upd H1 p1 (.EO 0 ((rows.length:Nat):Int))) L (.lst ((run 0 rows.length).map V.int))) L=some (.lst ((run 0 rows.length).map V.int)):=af
 generalize upd (upd H1 p1 (.EO 0 ((rows.length:Nat):Int))) L (.lst ((run 0 rows.length).map V.int))=H2 at s2 WI
 refine⟨r,L,rows,run 0 rows.length,f,rfl,hR.same s2,WI,by rw[Jo];omega,by omega,B.es,B.sd,B.rk,(fun x hx=>by have:=MJ hx;omega),B.wt,fun S kvs H3 hS hv s3 _=>?_⟩
 have Ng:=s2.trans s3
 obtain⟨vs3,G0,al3⟩:=hR.same Ng
 have lv3:vs3.length=rows.length:=by rw[al3.len,cA]
 refine⟨_,rfl,r,_,rfl,.inl (bN.of G0),_,rfl,by omega,by omega,?_⟩
 refine qE (lo:=0) (n:=((vs3.length:Nat):Int).toNat) (fun i σ H4=>∃ u:Option V,σ=[some (.ref r),some (.int s),some .jw,some (.ref S),u]∧aH H H4∧H4 S=some (.dK kvs)) ⟨none,rfl,Ng,hS⟩ ?_ ?_
 ·rintro i σ H4 hi ⟨u,rfl,s4,US⟩
  have il:i<rows.length:=by omega
  have z:=pB.k (k:=Sum.inl (0+(i:Int))) US
  rw[hv (0+(i:Int)) (by rw[show (0:Int)+(i:Int)=0+i from rfl];exact uA (run_get 0 rows.length i il))]at z
  refine⟨_,rfl,_,rfl,S,_,rfl,z,_,_,rfl,rfl,_,rfl,?_⟩
  rw[decide_eq_false (show ¬ f (0+(i:Int)) > 200 from fun y=>by have:=B.most (0+(i:Int)) (by omega) (by omega);omega)]
  exact jY ⟨_,rfl,s4,US⟩
 ·rintro σ H4 ⟨u,rfl,s4,_⟩
  exact k H4 s4
structure ki(C CS:Addr)(S:Addr→Prop)(H:Hp)(x d wl sh bl kn du bk dS st op:Addr)(past:ou)(ops:List Int)(lines:nA):Prop where
 hx:H x=some (.ins C d [("well",.ref wl),("shelf",.ref sh),("blots",.ref bl),("knots",.ref kn),("dues",.ref du),("book",.ref bk)])
 W:Sh CS S H sh dS st op past ops
 hb:H bk=some (gz lines)
 nx:¬ S x
 nb:¬ S bk
structure Ep(K:PySem.W.Frag)(mg:Str→Option Value)(C CS XS XM XT:Addr):Prop where
 M:Vq K mg CS XS XM
 c:∃ fi,ClsAt K mg "Library" C fi
 nw:aZ K C "well"
 ns:aZ K C "shelf"
 ES:aZ K C "blots"
 nk:aZ K C "knots"
 nd:aZ K C "dues"
 ET:aZ K C "book"
 zt:AB K mg "TooMany" XT
 G:Xf mg
def Fr(S S':Addr→Prop)(bk:Addr)(H H':Hp):Prop:=(∀ a,S' a→S a∨H a=none)∧(∀ a ob,H a=some ob→¬ S a→a≠bk→H' a=some ob)∧∀ a xs,H a=some (.tup xs)→H' a=some (.tup xs)
theorem Fr.same{S S':Addr→Prop}{bk:Addr}{H0 H H':Hp}(s:aH H0 H)(f:Fr S S' bk H H'):Fr S S' bk H0 H' :=
 ⟨fun a z=>(f.1 a z).imp id fun y=>aX s y,fun a ob e n1 n2=>f.2.1 a ob (s _ _ e) n1 n2,fun a xs e=>f.2.2 a xs (s _ _ e)⟩
theorem ki.same{C CS:Addr}{S:Addr→Prop}{H H':Hp}{x d wl sh bl kn du bk dS st op:Addr}{past:ou}{ops:List Int}{lines:nA}(L:ki C CS S H x d wl sh bl kn du bk dS st op past ops lines)(s:aH H H'):ki C CS S H' x d wl sh bl kn du bk dS st op past ops lines :=
 ⟨s _ _ L.hx,L.W.same s,s _ _ L.hb,L.nx,L.nb⟩
theorem ki.neb{C CS:Addr}{S:Addr→Prop}{H:Hp}{x d wl sh bl kn du bk dS st op:Addr}{past:ou}{ops:List Int}{lines:nA}(L:ki C CS S H x d wl sh bl kn du bk dS st op past ops lines):x≠bk:=fun e=>by
 have z:=L.hx
 rw[e,L.hb]at z
 cases z
inductive Er(C CS:Addr)(vs:List V)(H:Hp)(Q:VK)(E:XK):Prop
 | mk (S:Addr→Prop) (x d wl sh bl kn du bk dS st op:Addr) (past:ou) (ops:List Int) (lines:nA) (_:vs=[.ref x]) (_:ki C CS S H x d wl sh bl kn du bk dS st op past ops lines) (_:Q (.int (ops.length:Nat)) H):Er C CS vs H Q E
inductive zN(C CS:Addr)(vs:List V)(H:Hp)(Q:VK)(E:XK):Prop
 | mk (S:Addr→Prop) (x d wl sh bl kn du bk dS st op:Addr) (past:ou) (ops:List Int) (lines:nA) (dd c:Addr) (e:mJ) (cs:List Addr) (rm:List (Nat × List Item)) (last:List (List Item)) (_:vs=[.ref x,.ref dd,.ref c]) (_:ki C CS S H x d wl sh bl kn du bk dS st op past ops lines) (_:e.At H dd) (_:e.Ok) (_:H c=some (.lst (cs.map V.ref))) (_:c≠bk) (_:b8 (Iu H) cs rm) (_:(∀ a∈cs,∀ (s:Int) (r:Addr),H a=some (.tup [.int s,.ref r])→r≠bk)) (_:past.getLast?=some last) (_:RX last rm) (_:rm.length≤200) (_:last.length≤500) (_:past.length≤1000) (_:lines.length≤1000) (_ :
 ∀ (S':Addr→Prop) (H':Hp),ki C CS S' H' x d wl sh bl kn du bk dS st op (past++[rQ last rm]) (ops++List.replicate ((rQ last rm).length-last.length) ((past.length:Nat):Int)) (lines++[e.line])→Fr S S' bk H H'→Q .jw H'):zN C CS vs H Q E
theorem zf:aJ ["self","deed","changes"] ["self","deed","changes"] (ay bV):=⟨rfl,rfl,rfl,by decide +kernel,rfl,by decide +kernel,by decide +kernel⟩
theorem Bg:aJ ["self"] ["self"] (ay kq):=⟨rfl,rfl,rfl,by decide +kernel,rfl,by decide +kernel,by decide +kernel⟩
theorem zg{f C CS XS XM XT fM:Addr}{fd gM:FuncData}(F:iI K "many" "Library.many" kq f fd)(L:Ep K mg C CS XS XM XT)(dX:aU K CS "many" "Shelf.many" jB jk fM gM):aC P w K mg base bU 2 f fd jk (Er C CS):=by
 obtain⟨M,⟨fi,aG⟩,nw,ns,ES,nk,nd,ET,dm,G⟩:=L
 obtain⟨T,⟨fj,bF⟩,n1,n2,eO,dB⟩:=M
 have qj:aC P w K mg base bU 1 _ _ jk (Ec CS):=u7 dX.F T bF.cl n1
 refine F.ok Bg (fun vs H Q E h=>?_) (fun cdv A outer s H vs Q E hr h=>?_)
 ·obtain⟨S,x,d,wl,sh,bl,kn,du,bk,dS,st,op,past,ops,lines,rfl,_⟩:=h
  rfl
 obtain⟨S,x,d,wl,sh,bl,kn,du,bk,dS,st,op,past,ops,lines,rfl,L,k⟩:=h
 refine⟨_,(ao (aT (cJ (dM (pv 0) rfl) bF.cl dX.mt qj (hr.mono (by decide)) dX.b .nil cQ))),?_⟩
 exact⟨_,rfl,x,C,d,_,.ref sh,rfl,L.hx,aG.cl,ns,rfl,sh,dS,_,rfl,L.W.hx,rfl,S,sh,dS,st,op,past,ops,rfl,L.W,k⟩
theorem qU{f C CS XS XM XT fI fD fN fC fT:Addr}{fd gI gD gN gC gT:FuncData}(F:iI K "enter" "Library.enter" bV f fd)(L:Ep K mg C CS XS XM XT)(jP:aA K mg "ink_words" jA eU fI gI)(qm:aA K mg "shown_deed" ly ["deed"] fD gD)(jh:aA K mg "changed" oW G6 fC gC)(bX:aU K CS "now" "Shelf.now" iA jk fN gN)(nj:aU K CS "step" "Shelf.step" lA Tz fT gT):aC P w K mg base bU 3 f fd JR (zN C CS):=by
 obtain⟨M,⟨fi,aG⟩,nw,ns,ES,nk,nd,ET,dm,G⟩:=L
 obtain⟨T,⟨fj,bF⟩,n1,n2,eO,dB⟩:=M
 have GA:aC P w K mg base bU 2 _ _ ["deed"] AX:=BW qm.F T jP
 have GB:aC P w K mg base bU 2 _ _ Tz (A8 CS):=BX nj.F T bF n1 n2 jh bX
 refine F.ok zf (fun vs H Q E h=>?_) (fun cdv A outer s H vs Q E hr h=>?_)
 ·obtain⟨S,x,d,wl,sh,bl,kn,du,bk,dS,st,op,past,ops,lines,dd,c,e,cs,rm,last,rfl,_⟩:=h
  rfl
 obtain⟨S,x,d,wl,sh,bl,kn,du,bk,dS,st,op,past,ops,lines,dd,c,e,cs,rm,last,rfl,L,de,ok,hc,ncb,al,nr,hl,oc,l1,l2,l3,l4,k⟩:=h
 refine⟨_,(ak (bq (je rA vg vh cP (dM (pv 0) rfl) (aa (aN qm GA hr (aa (pv 1) ah)) ah)))
   (ao (bq (bO (dM (pv 0) rfl) bF.cl nj.mt GB (hr.mono (by decide)) nj.b .nil cQ (aa (pv 2) ah))))),?_⟩
 refine⟨_,rfl,x,C,d,_,.ref bk,rfl,L.hx,aG.cl,ET,rfl,.inl ⟨rfl,_,bN.of L.hb⟩,_,rfl,dd,e,rfl,de,ok,Ip ok,fun H1 s1=>?_⟩
 refine⟨bk,_,_,rfl,rfl,s1 _ _ L.hb,aL (by rw[cA];omega),?_⟩
 have e2:(lines.map fun w=>V.str (txt w))++[V.str (txt e.line)]=(lines++[e.line]).map fun w=>V.str (txt w):=by rw[lH];rfl
 rw[e2]
 have k2:cO bk H (upd H1 bk (gz (lines++[e.line]))):=fun a o q n=>by
  rw[aF n]
  exact s1 _ _ q
 have hb2:(upd H1 bk (gz (lines++[e.line]))) bk=some (gz (lines++[e.line])):=af
 have To:∀ a,(upd H1 bk (gz (lines++[e.line]))) a=none→H a=none:=fun a q=>by
  by_cases z:a=bk
  ·rw[z,af]at q;cases q
  ·rw[aF z]at q;exact aX s1 q
 generalize upd H1 bk (gz (lines++[e.line]))=H2 at k2 hb2 To
 have t2:∀ a xs,H a=some (.tup xs)→H2 a=some (.tup xs):=fun a xs q=>k2 _ _ q (cY q L.hb (by intro z;cases z))
 have W2:Sh CS S H2 sh dS st op past ops:=L.W.keep L.hb L.nb k2
 have x2:=k2 _ _ L.hx L.neb
 refine⟨_,rfl,x,C,d,_,.ref sh,rfl,x2,aG.cl,ns,rfl,sh,dS,_,rfl,W2.hx,rfl,_,rfl,S,sh,dS,st,op,c,past,ops,cs,rm,last,rfl,W2,k2 _ _ hc ncb,?_,hl,oc,l1,l2,l3,fun S' H3 W3 sub fr tp=>?_⟩
 ·have key:∀ {as:List Addr} {ds:List (Nat × List Item)},b8 (Iu H) as ds→(∀ a∈as,a∈cs)→b8 (Iu H2) as ds:=by
   intro as ds q
   induction q with
   | nil=>intro _;exact .nil
   | cons o t ih =>
    intro sub
    refine .cons ?_ (ih fun a ha=>sub a (sJ _ ha))
    obtain⟨r,ha,it⟩:=o
    have Vw:=nr _ (sub _ sD) _ r ha
    exact⟨r,t2 _ _ ha,it.fr (fun xs q=>k2 _ _ q Vw) t2⟩
  exact key al fun _ z=>z
 ·refine k S' H3 ⟨fr _ _ x2 L.nx,W3,fr _ _ hb2 L.nb,fun z=>?_,fun z=>?_⟩ ⟨fun a z=>(sub a z).imp id fun q=>To a q,fun a ob q n n'=>fr _ _ (k2 _ _ q n') n,fun a xs q=>tp _ _ (t2 _ _ q)⟩
  ·rcases sub _ z with q|q
   ·exact L.nx q
   ·rw[x2]at q;cases q
  ·rcases sub _ z with q|q
   ·exact L.nb q
   ·rw[hb2]at q;cases q
abbrev qV(pe:nC):ou:=pe.map fun rows=>rows.map itemsOf
def oA(rows:gB)(s:Nat)(es:List Int):gB:=rows.take s++[es]++rows.drop (s+1)
theorem O5(rows:gB)(s:Nat)(es:List Int):rQ (rows.map itemsOf) [(s,itemsOf es)]=(oA rows s es).map itemsOf:=by
 show (rows.map itemsOf).take s++[itemsOf es]++(rows.map itemsOf).drop (s+1)=_
 unfold oA
 rw[lH,lH,List.map_take,List.map_drop]
 rfl
theorem GC{rows:gB}{s:Nat}{es:List Int}(h:s≤rows.length):(oA rows s es).length=if s=rows.length then rows.length+1 else rows.length:=by
 unfold oA
 rw[dU,dU,rj,sL]
 show min s rows.length+1+_=_
 split <;> omega
def Nj(ops:List Int)(n s m:Nat):List Int:=ops++if s=n then [(m:Int)] else []
theorem R0{rows:gB}{s:Nat}{es:List Int}{ops:List Int}{m:Nat}(h:s≤rows.length):ops++List.replicate (((oA rows s es).map itemsOf).length-(rows.map itemsOf).length) (m:Int)=Nj ops rows.length s m:=by
 rw[cA,cA,GC h]
 unfold Nj
 by_cases c:s=rows.length
 ·rw[if_pos c,if_pos c,show rows.length+1-rows.length=1 by omega]
  rfl
 ·rw[if_neg c,if_neg c,Nat.sub_self]
  rfl
inductive pR(C CS:Addr)(vs:List V)(H:Hp)(Q:VK)(E:XK):Prop
 | mk (S:Addr→Prop) (x d wl sh bl kn du bk dS st op:Addr) (pe:nC) (ops:List Int) (lines:nA) (dd r:Addr) (e:mJ) (s:Nat) (es:List Int) (rows:gB) (f:Int→Int) (_:vs=[.ref x,.ref dd,.int (s:Nat),.ref r]) (_:ki C CS S H x d wl sh bl kn du bk dS st op (qV pe) ops lines) (_:e.At H dd) (_:e.Ok) (_:bx H (.ref r) (itemsOf es)) (_:r≠bk) (_:pe.getLast?=some rows) (_:s≤rows.length) (_:rows.length≤50) (_:pe.length≤900) (_:lines.length≤900) (_:sj (oA rows s es) f) (_ :
 ∀ (S':Addr→Prop) (H':Hp),ki C CS S' H' x d wl sh bl kn du bk dS st op (qV (pe++[oA rows s es])) (Nj ops rows.length s pe.length) (lines++[e.line])→Fr S S' bk H H'→Q .jw H'):pR C CS vs H Q E
theorem yh:aJ ["self","deed","sheet","items"] ["self","deed","sheet","items"] (ay cT):=⟨rfl,rfl,rfl,by decide +kernel,rfl,by decide +kernel,by decide +kernel⟩
structure JF(K:PySem.W.Frag)(mg:Str→Option Value)(CS:Addr):Prop where
 many:∃ f g,aU K CS "many" "Shelf.many" jB jk f g
 now:∃ f g,aU K CS "now" "Shelf.now" iA jk f g
 cs:∃ f g,aU K CS "check_sheet" "Shelf.check_sheet" gf Di f g
 cm:∃ f g,aU K CS "check_moment" "Shelf.check_moment" cK LA f g
 rst:∃ f g,aU K CS "rows_then" "Shelf.rows_then" dN LA f g
 rs:∃ f g,aU K CS "rows" "Shelf.rows" m6 jk f g
 stp:∃ f g,aU K CS "step" "Shelf.step" lA Tz f g
structure Ly(K:PySem.W.Frag)(mg:Str→Option Value):Prop where
 win:∃ f g,aA K mg "windows" eL nF f g
 bel:∃ f g,aA K mg "below" lQ mj f g
 iw:∃ f g,aA K mg "item_weight" iY JU f g
 wb:∃ f g,aA K mg "weights_below" fX mj f g
 wy:∃ f g,aA K mg "way_between" iX JT f g
 rg:∃ f g,aA K mg "ring" Co xo f g
 cw:∃ f g,aA K mg "check_weave" lS xo f g
 ch:∃ f g,aA K mg "changed" oW G6 f g
 ik:∃ f g,aA K mg "ink_words" jA eU f g
 sd:∃ f g,aA K mg "shown_deed" ly ["deed"] f g
theorem iU{pe:nC}{rows:gB}(h:pe.getLast?=some rows):(qV pe).getLast?=some (rows.map itemsOf):=by
 rw[List.getLast?_map,h]
 rfl
theorem Nk{H H':Hp}{rs:List Addr}{rows:List (List Item)}{r:Addr}{its:List Item}{s:Nat}(al:b8 (fun q i=>bx H' (.ref q) i) rs rows)(it:bx H' (.ref r) its):b8 (bx H') ((rs.map V.ref).take s++[.ref r]++(rs.map V.ref).drop (s+1)) (rows.take s++[its]++rows.drop (s+1)):=by
 have key:b8 (bx H') (rs.map V.ref) rows:=by
  induction al with
  | nil=>exact .nil
  | cons o t ih=>exact .cons o ih
 exact ((key.take s).app (.cons it .nil)).app (key.drop (s+1))
theorem iu{f C CS XS XM XT fE:Addr}{fd gE:FuncData}(F:iI K "change" "Library.change" cT f fd)(L:Ep K mg C CS XS XM XT)(A1:JF K mg CS)(A2:Ly K mg)(aP:aU K C "enter" "Library.enter" bV JR fE gE):aC P w K mg base bU 5 f fd Lq (pR C CS):=by
 obtain⟨⟨_,_,d1⟩,⟨_,_,d2⟩,⟨_,_,d3⟩,⟨_,_,d4⟩,⟨_,_,d7⟩,⟨_,_,br⟩,⟨_,_,d9⟩⟩:=A1
 obtain⟨⟨_,_,w1⟩,⟨_,_,w2⟩,⟨_,_,w3⟩,⟨_,_,w4⟩,⟨_,_,w5⟩,⟨_,_,w6⟩,⟨_,_,oB⟩,⟨_,_,jh⟩,⟨_,_,w9⟩,⟨_,_,w10⟩⟩:=A2
 have pS:aC P w K mg base bU 3 _ _ JR (zN C CS):=qU aP.F L w9 w10 jh d2 d9
 obtain⟨M,⟨fi,aG⟩,nw,ns,ES,nk,nd,ET,dm,G⟩:=L
 have dY:aC P w K mg base bU 4 _ _ jk (tE CS):=jq br.F M d2 d4 d7
 obtain⟨T,⟨fj,bF⟩,n1,n2,eO,dB⟩:=M
 have A9:aC P w K mg base bU 1 _ _ G6 uo:=A0 jh.F T
 have Es:aC P w K mg base bU 4 _ _ xo Bd:=Be oB.F T G w1 w2 w3 w4 w5 w6
 refine F.ok yh (fun vs H Q E h=>?_) (fun cdv A outer s H vs Q E hr h=>?_)
 ·obtain⟨S,x,d,wl,sh,bl,kn,du,bk,dS,st,op,pe,ops,lines,dd,r,e,s,es,rows,f,rfl,_⟩:=h
  rfl
 obtain⟨S,x,d,wl,sh,bl,kn,du,bk,dS,st,op,pe,ops,lines,dd,r,e,s,es,rows,f,rfl,L,de,ok,hi,Vw,hl,sl,l1,l2,l3,B,k⟩:=h
 have hl':=iU hl
 have lp:(qV pe).length=pe.length:=cA _
 have lo:ops.length=rows.length:=by
  obtain⟨last,z1,z2⟩:=L.W.NH.Dc
  rw[hl']at z1
  cases z1
  rw[z2,cA]
 refine⟨_,(ak (bq (aN oB Es hr (aa (aN jh A9 hr (aa (cJ (dM (pv 0) rfl) bF.cl br.mt dY (hr.mono (by decide)) br.b .nil cQ) (aa (pv 2) (aa (pv 3) ah)))) (aa (pv 2) ah))))
   (ao (bq (bO (pv 0) aG.cl aP.mt pS (hr.mono (by decide)) aP.b .nil cQ (aa (pv 1) (aa (bH (aa (iz (aa (pv 2) (aa (pv 3) ah))) ah)) ah)))))),?_⟩
 refine⟨_,rfl,x,C,d,_,.ref sh,rfl,L.hx,aG.cl,ns,rfl,sh,dS,_,rfl,L.W.hx,rfl,S,sh,dS,st,op,qV pe,ops,rfl,L.W,⟨by omega,by omega⟩,fun rws el q H1 fs s1=>?_⟩
 rw[hl']at el
 cases el
 obtain⟨fq,rs,hq,al⟩:=fs
 have lr:rs.length=rows.length:=by rw[al.len,cA]
 have hi1:=hi.same s1
 have L1:=L.same s1
 refine⟨_,rfl,_,rfl,q,r,_,s,rfl,hq,by rw[cA,lr];exact sl,by rw[cA,lr];omega,fun p2 H2 hp2 s2 f2=>?_⟩
 refine⟨_,rfl,p2,oA rows s es,(s:Int),f,rfl,⟨_,hp2,?_⟩,B,by omega,by rw[GC sl];split <;> omega,fun H3 s3=>?_⟩
 ·have z:=Nk (H:=H) (H':=H2) (s:=s) (al.mono fun q' i' w'=>(w'.2.2).same s2) (hi1.same s2)
  have e':(rows.map itemsOf).take s++[itemsOf es]++(rows.map itemsOf).drop (s+1)=(oA rows s es).map itemsOf:=by
   unfold oA
   rw[lH,lH,List.map_take,List.map_drop]
   rfl
  rw[e']at z
  exact z
 have yJ:=s1.trans (s2.trans s3)
 have L3:=L.same yJ
 refine⟨_,rfl,x,d,_,rfl,L3.hx,rfl,_,rfl,_,rfl,_,rfl,(by show 2≤sizeLine;decide),fun t ht=>⟨(by show 1≤sizeLine;decide),fun c hc=>?_⟩⟩
 have s4:aH H3 (upd (upd H3 t (.tup [.int (s:Nat),.ref r])) c (.lst [.ref t])):=(aj ht _).trans (aj hc _)
 have ht4:(upd (upd H3 t (.tup [.int (s:Nat),.ref r])) c (.lst [.ref t])) t=some (.tup [.int (s:Nat),.ref r]):=aj hc _ _ _ af
 have hc4:(upd (upd H3 t (.tup [.int (s:Nat),.ref r])) c (.lst [.ref t])) c=some (.lst ([t].map V.ref)):=af
 have nc:c≠bk:=fun z=>by
  have:=aj ht (.tup [.int (s:Nat),.ref r]) _ _ L3.hb
  rw[← z,hc]at this
  cases this
 generalize upd (upd H3 t (.tup [.int (s:Nat),.ref r])) c (.lst [.ref t])=H4 at s4 ht4 hc4
 have G3:=yJ.trans s4
 refine⟨S,x,d,wl,sh,bl,kn,du,bk,dS,st,op,qV pe,ops,lines,dd,c,e,[t],[(s,itemsOf es)],rows.map itemsOf,rfl,L.same G3,de.same G3,ok,hc4,nc,.cons ⟨r,ht4,hi.same G3⟩ .nil,?_,hl',?_,(by show 1≤200;decide),by rw[cA];omega,by omega,by omega,fun S' H' L' fr=>?_⟩
 ·intro a ha s' r' e'
  rw[List.mem_singleton.mp ha,ht4]at e'
  cases e'
  exact Vw
 ·intro i ch ei
  match i,ei with
  | 0,ei =>
   cases ei
   show s≤(rows.map itemsOf).length
   rw[cA]
   exact sl
  | i+1,ei=>cases ei
 ·rw[O5,R0 sl,lp]at L'
  refine k S' H' ?_ (fr.same G3)
  have ep:qV (pe++[oA rows s es])=qV pe++[(oA rows s es).map itemsOf]:=by
   show (pe++[oA rows s es]).map _=_
   rw[lH]
   rfl
  rw[ep]
  exact L'
theorem O6{n:Nat}(h:n≤1000):qx ((n:Nat):Int):=⟨by omega,by omega⟩
inductive Et(C CS XT:Addr)(vs:List V)(H:Hp)(Q:VK)(E:XK):Prop
 | mk (S:Addr→Prop) (x d wl sh bl kn du bk dS st op:Addr) (pe:nC) (ops:List Int) (lines:nA) (dd r:Addr) (e:mJ) (es:List Int) (rows:gB) (_:vs=[.ref x,.ref dd,.ref r]) (_:ki C CS S H x d wl sh bl kn du bk dS st op (qV pe) ops lines) (_:e.At H dd) (_:e.Ok) (_:bx H (.ref r) (itemsOf es)) (_:r≠bk) (_:pe.getLast?=some rows) (_:rows.length≤50) (_:pe.length≤900) (_:lines.length≤900) (_:(40≤rows.length→E (.ref XT) none H)) (_:(rows.length<40→(∃ f,sj (rows++[es]) f)∧∀ (S':Addr→Prop) (H':Hp),ki C CS S' H' x d wl sh bl kn du bk dS st op (qV (pe++[rows++[es]])) (ops++[((pe.length:Nat):Int)]) (lines++[e.line])→Fr S S' bk H H'→Q (.int (rows.length:Nat)) H')):Et C CS XT vs H Q E
theorem sr:aJ ["self","deed","items","sheet"] ["self","deed","items"] (ay jF):=⟨rfl,rfl,rfl,by decide +kernel,rfl,by decide +kernel,by decide +kernel⟩
theorem GD(rows:gB)(es:List Int):oA rows rows.length es=rows++[es]:=by
 unfold oA
 rw[kQ,List.drop_of_length_le (by omega),kj]
structure Vx(K:PySem.W.Frag)(mg:Str→Option Value)(C:Addr):Prop where
 en:∃ f g,aU K C "enter" "Library.enter" bV JR f g
 ch:∃ f g,aU K C "change" "Library.change" cT Lq f g
 many:∃ f g,aU K C "many" "Library.many" kq jk f g
 bg:∃ f g,aU K C "begin" "Library.begin" jF Wr f g
theorem uu{C CS:Addr}{S:Addr→Prop}{H:Hp}{x d wl sh bl kn du bk dS st op:Addr}{pe:nC}{ops:List Int}{lines:nA}{rows:gB}(L:ki C CS S H x d wl sh bl kn du bk dS st op (qV pe) ops lines)(hl:pe.getLast?=some rows):ops.length=rows.length:=by
 obtain⟨last,z1,z2⟩:=L.W.NH.Dc
 rw[iU hl]at z1
 cases z1
 rw[z2,cA]
theorem yi{f C CS XS XM XT:Addr}{fd:FuncData}(F:iI K "begin" "Library.begin" jF f fd)(L:Ep K mg C CS XS XM XT)(A1:JF K mg CS)(A2:Ly K mg)(A3:Vx K mg C):aC P w K mg base (nB P w) 6 f fd Wr (Et C CS XT):=by
 obtain⟨⟨_,_,e1⟩,⟨_,_,aM⟩,⟨_,_,kC⟩,_⟩:=A3
 have cW:aC P w K mg base bU 5 _ _ Lq (pR C CS):=iu aM.F L A1 A2 e1
 obtain⟨⟨_,_,d1⟩,_⟩:=A1
 have B0:aC P w K mg base bU 2 _ _ jk (Er C CS):=zg kC.F L d1
 obtain⟨M,⟨fi,aG⟩,nw,ns,ES,nk,nd,ET,dm,G⟩:=L
 obtain⟨Eu,Ew⟩:=G.s
 refine ER F sr (fun vs H Q E h=>?_) (fun cdv A outer s H vs Q E hr h=>?_)
 ·obtain⟨S,x,d,wl,sh,bl,kn,du,bk,dS,st,op,pe,ops,lines,dd,r,e,es,rows,rfl,_⟩:=h
  rfl
 obtain⟨S,x,d,wl,sh,bl,kn,du,bk,dS,st,op,pe,ops,lines,dd,r,e,es,rows,rfl,L,de,ok,hi,Vw,hl,l1,l2,l3,k1,k2⟩:=h
 have lo:=uu L hl
 refine⟨_,(ak (aO (i:=3) sr.nd rfl (Or.inl rfl) (cJ (pv 0) aG.cl kC.mt B0 (hr.mono (by decide)) kC.b .nil cQ))
   (ak (cG (cj PB (pv 3) (Dm (v:=.int 40) rfl Ew ⟨Eu,rfl⟩) (bZ _))
   (ao (qN PySem.F.excBase_ValueError dm.x dm.m rfl xM (aa (tW (nJ (o6 (pv 3) (nJ xN)))) ah)))
   bK)
   (ak (bq (bO (pv 0) aG.cl aM.mt cW (hr.mono (by decide)) aM.b .nil cQ (aa (pv 1) (aa (pv 3) (aa (pv 2) ah)))))
   (ao (aT (pv 3)))))),?_⟩
 refine⟨_,rfl,x,d,_,rfl,L.hx,rfl,S,x,d,wl,sh,bl,kn,du,bk,dS,st,op,qV pe,ops,lines,rfl,L,?_⟩
 rw[lo]
 refine⟨_,rfl,_,_,rfl,rfl,_,rfl,eG (fun c=>?_) (fun c=>?_)⟩
 ·have c':=of_decide_eq_true c
  exact⟨_,rfl,_,rfl,(O6 (by omega)).log,fun y=>⟨(by show 1≤sizeLine;decide),k1 (by omega)⟩⟩
 ·have c':¬ ((rows.length:Nat):Int)≥40:=fun z=>c (decide_eq_true z)
  obtain⟨⟨f,B⟩,k3⟩:=k2 (by omega)
  refine⟨_,rfl,x,d,_,rfl,L.hx,rfl,_,rfl,_,rfl,_,rfl,S,x,d,wl,sh,bl,kn,du,bk,dS,st,op,pe,ops,lines,dd,r,e,rows.length,es,rows,f,rfl,L,de,ok,hi,Vw,hl,gQ _,l1,l2,l3,by rw[GD];exact B,fun S' H' L' fr=>?_⟩
  rw[GD]at L'
  have eo:Nj ops rows.length rows.length pe.length=ops++[((pe.length:Nat):Int)]:=by unfold Nj;rw[if_pos rfl]
  rw[eo]at L'
  exact⟨_,rfl,k3 S' H' L' fr⟩
abbrev frW:List Nat:=(Str.ofString "fresh").cps.toList
theorem Nl:(mJ.plain frW []).Ok:=⟨by decide +kernel,fun _ z=>by cases z⟩
inductive Ex(C CS XT:Addr)(vs:List V)(H:Hp)(Q:VK)(E:XK):Prop
 | mk (S:Addr→Prop) (x d wl sh bl kn du bk dS st op:Addr) (pe:nC) (ops:List Int) (lines:nA) (rows:gB) (_:vs=[.ref x]) (_:ki C CS S H x d wl sh bl kn du bk dS st op (qV pe) ops lines) (_:pe.getLast?=some rows) (_:rows.length≤50) (_:pe.length≤900) (_:lines.length≤900) (_:(40≤rows.length→∀ H',aH H H'→E (.ref XT) none H')) (_:(rows.length<40→(∃ f,sj (rows++[[]]) f)∧∀ (S':Addr→Prop) (H':Hp),ki C CS S' H' x d wl sh bl kn du bk dS st op (qV (pe++[rows++[[]]])) (ops++[((pe.length:Nat):Int)]) (lines++[(mJ.plain frW []).line])→Fr S S' bk H H'→Q (.int (rows.length:Nat)) H')):Ex C CS XT vs H Q E
theorem zh:aJ ["self"] ["self"] (ay iK):=⟨rfl,rfl,rfl,by decide +kernel,rfl,by decide +kernel,by decide +kernel⟩
theorem yj{f C CS XS XM XT:Addr}{fd:FuncData}(F:iI K "fresh" "Library.fresh" iK f fd)(L:Ep K mg C CS XS XM XT)(A1:JF K mg CS)(A2:Ly K mg)(A3:Vx K mg C):aC P w K mg base (nB P w) 7 f fd jk (Ex C CS XT):=by
 obtain⟨_,_,jQ⟩:=A3.bg
 have Bh:aC P w K mg base (nB P w) 6 _ _ Wr (Et C CS XT):=yi jQ.F L A1 A2 A3
 obtain⟨M,⟨fi,aG⟩,nw,ns,ES,nk,nd,ET,dm,G⟩:=L
 refine ER F zh (fun vs H Q E h=>?_) (fun cdv A outer s H vs Q E hr h=>?_)
 ·obtain⟨S,x,d,wl,sh,bl,kn,du,bk,dS,st,op,pe,ops,lines,rows,rfl,_⟩:=h
  rfl
 obtain⟨S,x,d,wl,sh,bl,kn,du,bk,dS,st,op,pe,ops,lines,rows,rfl,L,hl,l1,l2,l3,k1,k2⟩:=h
 refine⟨_,(ao (aT (bO (pv 0) aG.cl jQ.mt Bh (hr.mono (by decide)) jQ.b .nil kr (aa (iz (aa bS ah)) (aa (bH ah) ah))))),?_⟩
 refine⟨_,rfl,x,d,_,rfl,L.hx,rfl,(by show 1≤sizeLine;decide),fun t ht=>⟨(by show 0≤sizeLine;decide),fun r hr0=>?_⟩⟩
 have s1:aH H (upd (upd H t (.tup [.str (Str.ofString "fresh")])) r (.lst [])):=(aj ht _).trans (aj hr0 _)
 have ht1:(upd (upd H t (.tup [.str (Str.ofString "fresh")])) r (.lst [])) t=some (.tup [.str (Str.ofString "fresh")]):=aj hr0 _ _ _ af
 have hr1:(upd (upd H t (.tup [.str (Str.ofString "fresh")])) r (.lst [])) r=some (.lst []):=af
 have nr:r≠bk:=fun z=>by
  have:=aj ht (.tup [.str (Str.ofString "fresh")]) _ _ L.hb
  rw[← z,hr0]at this
  cases this
 generalize upd (upd H t (.tup [.str (Str.ofString "fresh")])) r (.lst [])=H1 at s1 ht1 hr1
 refine⟨S,x,d,wl,sh,bl,kn,du,bk,dS,st,op,pe,ops,lines,t,r,.plain frW [],[],rows,rfl,L.same s1,by show H1 t=_;rw[ht1,AD];rfl,Nl,⟨r,[],rfl,hr1,.nil⟩,nr,hl,l1,l2,l3,fun c=>k1 c H1 s1,fun c=>?_⟩
 obtain⟨B,k3⟩:=k2 c
 exact⟨B,fun S' H' L' fr=>k3 S' H' L' (fr.same s1)⟩
theorem oK{H H1:Hp}{xw dw:Addr}{o:HO}(h1:H xw=none)(h2:H dw=none)(k:cO xw (upd (upd H dw (.own xw)) xw o) H1):aH H H1:=fun a ob e=>k a ob (by rw[aF (au e h1),aF (au e h2)];exact e) (au e h1)
theorem Sh.nu{C C':Addr}{S:Addr→Prop}{H H':Hp}{x d st op l d':Addr}{past:ou}{ops:List Int}{fs:List (Str × V)}(h:Sh C S H x d st op past ops)(hl:H l=some (.ins C' d' fs))(nl:¬ S l)(k:cO l H H'):Sh C S H' x d st op past ops :=
 h.fr (fun a ob e z=>k a ob e (fun q=>nl (by rw[← q];exact z))) (fun a xs e=>k _ _ e (cY e hl (by intro z;cases z)))
structure Vy(K:PySem.W.Frag)(mg:Str→Option Value)(fS fZ:Addr):Prop where
 win:∃ f g,aA K mg "windows" eL nF f g
 bel:∃ f g,aA K mg "below" lQ mj f g
 ir:∃ f g,aA K mg "item_row" fH xm f g
 pl:∃ f g,aA K mg "plain" lO eU f g
 vb:∃ f g,aA K mg "views_below" dR mj f g
 sh:∃ g,aA K mg "shown" Aj xo fS g
 sz:∃ g,aA K mg "size" ssize eU fZ g
structure Seen(rows:gB)(sh:Int→List Int):Prop where
 es:∀ es∈rows,es.length≤1000
 sd:Sound rows
 rk:HQ rows
 ss:Gg rows sh
 ln:∀ x:Int,0≤x→x<rows.length→(sh x).length≤10000
inductive tK(C CS XS:Addr)(vs:List V)(H:Hp)(Q:VK)(E:XK):Prop
 | mk (S:Addr→Prop) (x d wl sh bl kn du bk dS st op:Addr) (pe:nC) (ops:List Int) (lines:nA) (rows:gB) (s:Int) (_:vs=[.ref x,.int s]) (_:ki C CS S H x d wl sh bl kn du bk dS st op (qV pe) ops lines) (_:pe.getLast?=some rows) (_:rows.length≤50) (_:pe.length≤900) (_:qx s) (_:(¬ zb rows.length s→E (.ref XS) none H)) (_:(zb rows.length s→∃ f,Seen rows f∧∀ (o:Addr) (H':Hp),bQ H' o (rowOf (f s))→aH H H'→H o=none→Q (.ref o) H')):tK C CS XS vs H Q E
theorem zj:aJ ["self","sheet"] ["self","sheet"] (ay gh):=⟨rfl,rfl,rfl,by decide +kernel,rfl,by decide +kernel,by decide +kernel⟩
theorem mL{f C CS XS XM XT fS fZ:Addr}{fd:FuncData}(F:iI K "shown" "Library.shown" gh f fd)(L:Ep K mg C CS XS XM XT)(A1:JF K mg CS)(A4:Vy K mg fS fZ):aC P w K mg base (nB P w) 5 f fd Di (tK C CS XS):=by
 obtain⟨⟨_,_,d1⟩,⟨_,_,d2⟩,⟨_,_,aQ⟩,⟨_,_,d4⟩,⟨_,_,d7⟩,⟨_,_,br⟩,_⟩:=A1
 obtain⟨⟨_,_,w1⟩,⟨_,_,w2⟩,⟨_,_,w3⟩,⟨_,_,w4⟩,⟨_,_,w5⟩,⟨_,Bj⟩,_⟩:=A4
 obtain⟨M,⟨fi,aG⟩,nw,ns,ES,nk,nd,ET,dm,G⟩:=L
 have dY:aC P w K mg base bU 4 _ _ jk (tE CS):=jq br.F M d2 d4 d7
 have cF:aC P w K mg base (nB P w) 2 _ _ Di (qT CS XS):=ig aQ.F M d1
 obtain⟨T,⟨fj,bF⟩,n1,n2,eO,dB⟩:=M
 have Sb:aC P w K mg base bU 4 _ _ xo DU:=MW Bj.F T w1 w2 w3 w4 w5
 refine ER F zj (fun vs H Q E h=>?_) (fun cdv A outer s H vs Q E hr h=>?_)
 ·obtain⟨S,x,d,wl,sh,bl,kn,du,bk,dS,st,op,pe,ops,lines,rows,s,rfl,_⟩:=h
  rfl
 obtain⟨S,x,d,wl,sh,bl,kn,du,bk,dS,st,op,pe,ops,lines,rows,s,rfl,L,hl,l1,l2,fs,k1,k2⟩:=h
 have lo:=uu L hl
 have lp:(qV pe).length=pe.length:=cA _
 have hl':=iU hl
 refine⟨_,(ak (bq (bO (dM (pv 0) rfl) bF.cl aQ.mt cF (hr.mono (by decide)) aQ.b .nil kr (aa (pv 1) ah)))
   (ao (aT (j4.zF Bj (T.AF _ Bj.m) Sb hr (aa (cJ (dM (pv 0) rfl) bF.cl br.mt dY (hr.mono (by decide)) br.b .nil cQ) (aa (pv 1) ah)))))),?_⟩
 refine⟨_,rfl,x,C,d,_,.ref sh,rfl,L.hx,aG.cl,ns,rfl,sh,dS,_,rfl,L.W.hx,rfl,_,rfl,S,sh,dS,st,op,qV pe,ops,s,rfl,L.W,⟨by omega,by omega⟩,fs,fun ia=>?_,fun z=>k1 (by rw[← lo];exact z)⟩
 rw[lo]at ia
 obtain⟨f0,sn,k3⟩:=k2 ia
 refine⟨_,rfl,x,C,d,_,.ref sh,rfl,L.hx,aG.cl,ns,rfl,sh,dS,_,rfl,L.W.hx,rfl,S,sh,dS,st,op,qV pe,ops,rfl,L.W,⟨by omega,by omega⟩,fun rws el q H1 Vz s1=>?_⟩
 rw[hl']at el
 cases el
 obtain⟨fq,rs,hq,al⟩:=Vz
 have hR:iM H1 q (rows.map itemsOf):=by
  refine⟨rs.map V.ref,hq,?_⟩
  have key:∀ {as:List Addr} {ds:List (List Item)},b8 (fun r its=>H r=none∧r≠q∧bx H1 (.ref r) its) as ds→b8 (bx H1) (as.map V.ref) ds:=by
   intro as ds z
   induction z with
   | nil=>exact .nil
   | cons o t ih=>exact .cons o.2.2 ih
  exact key al
 exact⟨_,rfl,q,rows,s,f0,rfl,hR,by omega,sn.es,sn.sd,sn.rk,ia.1,ia.2,sn.ss,sn.ln,fun o H2 ho s2 fo=>k3 o H2 ho (s1.trans s2) (aX s1 fo)⟩
theorem ki.fr{C CS:Addr}{S:Addr→Prop}{H H':Hp}{x d wl sh bl kn du bk dS st op:Addr}{past:ou}{ops:List Int}{lines:nA}(L:ki C CS S H x d wl sh bl kn du bk dS st op past ops lines)(k:∀ a ob,H a=some ob→(S a∨a=bk∨a=x)→H' a=some ob)(t:∀ a xs,H a=some (.tup xs)→H' a=some (.tup xs)):ki C CS S H' x d wl sh bl kn du bk dS st op past ops lines :=
 ⟨k _ _ L.hx (.inr (.inr rfl)),L.W.fr (fun a ob e z=>k a ob e (.inl z)) t,k _ _ L.hb (.inr (.inl rfl)),L.nx,L.nb⟩
structure B3(C CS CW CB:Addr)(U S SW:Addr→Prop)(H:Hp)(x d wl sh bl kn du bk dS st op dw sg ow pw db tb:Addr)(pe:nC)(ops:List Int)(lines:nA)(aB:jU)(nW:Nat)(bC:Row):Prop where
 L:ki C CS S H x d wl sh bl kn du bk dS st op (qV pe) ops lines
 W:We CW SW H wl dw sg ow pw nW aB
 B:Bl CB H bl db tb
 R:bQ H tb bC
 DN:S9 bC
 dj:∀ a,SW a→¬ S a∧a≠bk∧a≠x
 db:¬ S bl∧¬ SW bl∧bl≠bk
 dt:¬ S tb∧¬ SW tb∧tb≠bk
 u:∀ a,U a↔S a∨SW a∨a=bk∨a=x∨a=bl∨a=tb
inductive vV(C CS CW CB:Addr)(U:Addr→Prop)(H:Hp)(x:Addr)(pe:nC)(lines:nA)(aB:jU)(nW:Nat)(bC:Row):Prop
 | mk (S SW:Addr→Prop) (d wl sh bl kn du bk dS st op dw sg ow pw db tb:Addr) (ops:List Int) (_:B3 C CS CW CB U S SW H x d wl sh bl kn du bk dS st op dw sg ow pw db tb pe ops lines aB nW bC):vV C CS CW CB U H x pe lines aB nW bC
def Lz(U U':Addr→Prop)(H H':Hp):Prop:=(∀ a,U' a→U a∨H a=none)∧(∀ a ob,H a=some ob→¬ U a→H' a=some ob)∧∀ a xs,H a=some (.tup xs)→H' a=some (.tup xs)
theorem Lz.pre{U U':Addr→Prop}{H0 H H':Hp}(s:aH H0 H)(f:Lz U U' H H'):Lz U U' H0 H':=⟨fun a z=>(f.1 a z).imp id fun y=>aX s y,fun a ob e n=>f.2.1 a ob (s _ _ e) n,fun a xs e=>f.2.2 a xs (s _ _ e)⟩
theorem B3.fr{C CS CW CB:Addr}{U S SW:Addr→Prop}{H H':Hp}{x d wl sh bl kn du bk dS st op dw sg ow pw db tb:Addr}{pe:nC}{ops:List Int}{lines:nA}{aB:jU}{nW:Nat}{bC:Row}(h:B3 C CS CW CB U S SW H x d wl sh bl kn du bk dS st op dw sg ow pw db tb pe ops lines aB nW bC)(k:∀ a ob,H a=some ob→U a→H' a=some ob)(t:∀ a xs,H a=some (.tup xs)→H' a=some (.tup xs)):B3 C CS CW CB U S SW H' x d wl sh bl kn du bk dS st op dw sg ow pw db tb pe ops lines aB nW bC:=by
 obtain⟨L,W,B,R,DN,dj,db',dt,u⟩:=h
 refine⟨L.fr (fun a ob e z=>k a ob e ((u a).mpr ?_)) t,W.fr (fun a ob e z=>k a ob e ((u a).mpr (.inr (.inl z)))) t,k _ _ B ((u _).mpr (.inr (.inr (.inr (.inr (.inl rfl)))))),R.two (fun xs e=>k _ _ e ((u _).mpr (.inr (.inr (.inr (.inr (.inr rfl))))))) t,DN,dj,db',dt,u⟩
 rcases z with z|z|z
 ·exact .inl z
 ·exact .inr (.inr (.inl z))
 ·exact .inr (.inr (.inr (.inl z)))
theorem B3.same{C CS CW CB:Addr}{U S SW:Addr→Prop}{H H':Hp}{x d wl sh bl kn du bk dS st op dw sg ow pw db tb:Addr}{pe:nC}{ops:List Int}{lines:nA}{aB:jU}{nW:Nat}{bC:Row}(h:B3 C CS CW CB U S SW H x d wl sh bl kn du bk dS st op dw sg ow pw db tb pe ops lines aB nW bC)(s:aH H H'):B3 C CS CW CB U S SW H' x d wl sh bl kn du bk dS st op dw sg ow pw db tb pe ops lines aB nW bC:=h.fr (fun a ob e _=>s a ob e) fun a xs e=>s _ _ e
theorem vV.fr{C CS CW CB:Addr}{U:Addr→Prop}{H H':Hp}{x:Addr}{pe:nC}{lines:nA}{aB:jU}{nW:Nat}{bC:Row}(h:vV C CS CW CB U H x pe lines aB nW bC)(k:∀ a ob,H a=some ob→U a→H' a=some ob)(t:∀ a xs,H a=some (.tup xs)→H' a=some (.tup xs)):vV C CS CW CB U H' x pe lines aB nW bC:=by
 obtain⟨S,SW,d,wl,sh,bl,kn,du,bk,dS,st,op,dw,sg,ow,pw,db,tb,ops,z⟩:=h
 exact⟨S,SW,d,wl,sh,bl,kn,du,bk,dS,st,op,dw,sg,ow,pw,db,tb,ops,z.fr k t⟩
theorem vV.same{C CS CW CB:Addr}{U:Addr→Prop}{H H':Hp}{x:Addr}{pe:nC}{lines:nA}{aB:jU}{nW:Nat}{bC:Row}(h:vV C CS CW CB U H x pe lines aB nW bC)(s:aH H H'):vV C CS CW CB U H' x pe lines aB nW bC:=h.fr (fun a ob e _=>s a ob e) fun a xs e=>s _ _ e
theorem B3.ux{C CS CW CB:Addr}{U S S' SW:Addr→Prop}{H H':Hp}{x d wl sh bl kn du bk dS st op dw sg ow pw db tb:Addr}{pe Tp:nC}{ops ops':List Int}{lines jR:nA}{aB:jU}{nW:Nat}{bC:Row}(h:B3 C CS CW CB U S SW H x d wl sh bl kn du bk dS st op dw sg ow pw db tb pe ops lines aB nW bC)(L':ki C CS S' H' x d wl sh bl kn du bk dS st op (qV Tp) ops' jR)(fr:Fr S S' bk H H'):∃ U',vV C CS CW CB U' H' x Tp jR aB nW bC∧Lz U U' H H':=by
 obtain⟨L,W,B,R,DN,dj,db',dt,u⟩:=h
 obtain⟨as,hR,_⟩:=id R
 have nS':∀ a ob,H a=some ob→¬ S a→¬ S' a:=fun a ob e n z=>by
  rcases fr.1 a z with y|y
  ·exact n y
  ·rw[e]at y;cases y
 refine⟨fun a=>S' a∨SW a∨a=bk∨a=x∨a=bl∨a=tb,⟨S',SW,d,wl,sh,bl,kn,du,bk,dS,st,op,dw,sg,ow,pw,db,tb,ops',L',W.fr (fun a ob e z=>fr.2.1 _ _ e (dj a z).1 (dj a z).2.1) fr.2.2,fr.2.1 _ _ B db'.1 db'.2.2,R.two (fun xs e=>fr.2.1 _ _ e dt.1 dt.2.2) fr.2.2,DN,fun a z=>?_,⟨nS' _ _ B db'.1,db'.2⟩,⟨nS' _ _ hR dt.1,dt.2⟩,fun a=>Iff.rfl⟩,fun a z=>?_,fun a ob e n=>?_,fr.2.2⟩
 ·obtain⟨ob,e⟩:=W.al a z
  exact⟨nS' _ _ e (dj a z).1,(dj a z).2⟩
 ·rcases z with z|z
  ·exact (fr.1 a z).imp (fun y=>(u a).mpr (.inl y)) id
  ·exact .inl ((u a).mpr (.inr z))
 ·exact fr.2.1 a ob e (fun z=>n ((u a).mpr (.inl z))) (fun z=>n ((u a).mpr (.inr (.inr (.inl z)))))
structure yk(K:PySem.W.Frag)(mg:Str→Option Value)(C CS CW CB XS XM XT XO XP:Addr):Prop where
 M:Ep K mg C CS XS XM XT
 cw:∃ f,ClsAt K mg "Well" CW f
 w1:aZ K CW "signs"
 w2:aZ K CW "owners"
 w3:aZ K CW "pourings"
 cb:∃ f,ClsAt K mg "Blots" CB f
 b1:aZ K CB "stains"
 zo:AB K mg "OutOfInk" XO
 zp:ExcAt K mg XP
structure O7(K:PySem.W.Frag)(mg:Str→Option Value)(CW CB:Addr):Prop where
 sz:∃ f g,aU K CW "size" "Well.size" iZ jk f g
 pr:∃ f g,aU K CW "pour" "Well.pour" oX NL f g
 ca:∃ f g,aU K CW "check_address" "Well.check_address" dz JQ f g
 sg:∃ f g,aU K CW "sign" "Well.sign" oY JQ f g
 hl:∃ f g,aU K CW "holds" "Well.holds" lC Pp f g
 hd:∃ f g,aU K CB "hides" "Blots.hides" lP JQ f g
 fr:∃ f g,aA K mg "first_reaching" eK JS f g
 wi:∃ f g,aA K mg "within" tS LC f g
 ad:∃ f g,aA K mg "addresses" oS eU f g
inductive Ey(C CS CW CB:Addr)(vs:List V)(H:Hp)(Q:VK)(E:XK):Prop
 | mk (U:Addr→Prop) (x:Addr) (pe:nC) (lines:nA) (aB:jU) (nW:Nat) (bC:Row) (h:Int) (cs:List Nat) (rows:gB) (_:vs=[.ref x,.int h,.str (txt cs)]) (_:vV C CS CW CB U H x pe lines aB nW bC) (_:wU h) (_:cs.length≤200) (_:aB.length≤90000) (_:nW≤900) (_:pe.getLast?=some rows) (_:rows.length≤50) (_:pe.length≤900) (_:lines.length≤900) (_ :
 ∀ (U':Addr→Prop) (q:Addr) (H':Hp),vV C CS CW CB U' H' x (pe++[rows]) (lines++[(mJ.BV h cs).line]) (aB++sG h cs) (nW+1) bC→Lz U U' H H'→H' q=some (.tup [.int (aB.length:Nat),.int ((aB++sG h cs).length:Nat)])→Q (.ref q) H'):Ey C CS CW CB vs H Q E
theorem tL:aJ ["self","hand","text","stretch"] ["self","hand","text"] (ay jo):=⟨rfl,rfl,rfl,by decide +kernel,rfl,by decide +kernel,by decide +kernel⟩
theorem zk{f C CS CW CB XS XM XT XO XP fE:Addr}{fd gE:FuncData}(F:iI K "pour" "Library.pour" jo f fd)(X:yk K mg C CS CW CB XS XM XT XO XP)(A1:JF K mg CS)(A2:Ly K mg)(A5:O7 K mg CW CB)(aP:aU K C "enter" "Library.enter" bV JR fE gE):aC P w K mg base bU 4 f fd NL (Ey C CS CW CB):=by
 obtain⟨LM,⟨_,dJ⟩,w1,w2,w3,⟨_,mO⟩,b1,ef,Z⟩:=X
 obtain⟨_,⟨_,_,d2⟩,_,_,_,_,⟨_,_,d9⟩⟩:=A1
 obtain⟨_,_,_,_,_,_,_,⟨_,_,jh⟩,⟨_,_,v9⟩,⟨_,_,v10⟩⟩:=A2
 have pS:aC P w K mg base bU 3 _ _ JR (zN C CS):=qU aP.F LM v9 v10 jh d2 d9
 obtain⟨⟨_,_,s1⟩,⟨_,_,pT⟩,_⟩:=A5
 obtain⟨⟨T,_,_,_,_,_⟩,⟨fi,aG⟩,nw,ns,ES,nk,nd,ET,dm,G⟩:=LM
 have Iz:aC P w K mg base bU 2 _ _ NL (Iw CW):=Ei pT.F T dJ w1 w2 w3 s1
 refine F.ok tL (fun vs H Q E h=>?_) (fun cdv A outer s H vs Q E hr h=>?_)
 ·obtain⟨U,x,pe,lines,aB,nW,bC,h,cs,rows,rfl,_⟩:=h
  rfl
 obtain⟨U,x,pe,lines,aB,nW,bC,h,cs,rows,rfl,⟨S,SW,d,wl,sh,bl,kn,du,bk,dS,st,op,dw,sg,ow,pw,db,tb,ops,LU⟩,fh,lc,li,ln,hl,l1,l2,l3,k⟩:=h
 obtain⟨L,W,B,R,DN,dj,db',dt,u⟩:=id LU
 refine⟨_,(ak (aO (i:=3) tL.nd rfl (Or.inl rfl) (bO (dM (pv 0) rfl) dJ.cl pT.mt Iz (hr.mono (by decide)) pT.b .nil cQ (aa (pv 1) (aa (pv 2) ah))))
   (ak (bq (bO (pv 0) aG.cl aP.mt pS (hr.mono (by decide)) aP.b .nil cQ (aa (iz (aa bS (aa (pv 1) (aa (pv 2) ah)))) (aa (bH ah) ah))))
   (ao (aT (pv 3))))),?_⟩
 refine⟨_,rfl,x,C,d,_,.ref wl,rfl,L.hx,aG.cl,nw,rfl,wl,dw,_,rfl,W.hx,rfl,_,rfl,_,rfl,SW,wl,dw,sg,ow,pw,nW,aB,h,cs,rfl,W,by omega,by omega,fun VA q H1 W1 hq sub fr tp=>?_⟩
 have nSW:∀ a ob,H a=some ob→¬ SW a→¬ VA a:=fun a ob e n z=>by
  rcases sub a z with y|y
  ·exact n y
  ·rw[e]at y;cases y
 have nk1:∀ a ob,H a=some ob→(S a∨a=bk∨a=x)→¬ SW a:=fun a ob e z y=>by
  obtain⟨y1,y2,y3⟩:=dj a y
  rcases z with z|z|z
  ·exact y1 z
  ·exact y2 z
  ·exact y3 z
 have L1:ki C CS S H1 x d wl sh bl kn du bk dS st op (qV pe) ops lines:=L.fr (fun a ob e z=>fr _ _ e (nk1 a ob e z)) tp
 obtain⟨as,hR,_⟩:=id R
 have LU1:B3 C CS CW CB (fun a=>S a∨VA a∨a=bk∨a=x∨a=bl∨a=tb) S VA H1 x d wl sh bl kn du bk dS st op dw sg ow pw db tb pe ops lines (aB++sG h cs) (nW+1) bC:=by
  refine⟨L1,W1,fr _ _ B db'.2.1,R.two (fun xs e=>fr _ _ e dt.2.1) tp,DN,fun a z=>?_,⟨db'.1,nSW _ _ B db'.2.1,db'.2.2⟩,⟨dt.1,nSW _ _ hR dt.2.1,dt.2.2⟩,fun a=>Iff.rfl⟩
  rcases sub a z with y|y
  ·exact dj a y
  ·refine⟨fun q'=>?_,fun q'=>?_,fun q'=>?_⟩
   ·obtain⟨ob,e⟩:=L.W.al a q'
    rw[y]at e;cases e
   ·rw[q',L.hb]at y;cases y
   ·rw[q',L.hx]at y;cases y
 refine⟨_,rfl,x,d,_,rfl,L1.hx,rfl,_,rfl,_,rfl,(by show 3≤sizeLine;decide),fun t ht=>⟨(by show 0≤sizeLine;decide),fun c hc=>?_⟩⟩
 have s2:aH H1 (upd (upd H1 t (.tup [.str (Str.ofString "pour"),.int h,.str (txt cs)])) c (.lst [])):=(aj ht _).trans (aj hc _)
 have Fy:(upd (upd H1 t (.tup [.str (Str.ofString "pour"),.int h,.str (txt cs)])) c (.lst [])) t=some (.tup [.str (Str.ofString "pour"),.int h,.str (txt cs)]):=aj hc _ _ _ af
 have hc2:(upd (upd H1 t (.tup [.str (Str.ofString "pour"),.int h,.str (txt cs)])) c (.lst [])) c=some (.lst (([]:List Addr).map V.ref)):=af
 have nc:c≠bk:=fun z=>by
  have:=aj ht (.tup [.str (Str.ofString "pour"),.int h,.str (txt cs)]) _ _ L1.hb
  rw[← z,hc]at this
  cases this
 generalize upd (upd H1 t (.tup [.str (Str.ofString "pour"),.int h,.str (txt cs)])) c (.lst [])=H2 at s2 Fy hc2
 have lp:(qV pe).length=pe.length:=cA _
 have Ez:=LU1.same s2
 refine⟨S,x,d,wl,sh,bl,kn,du,bk,dS,st,op,qV pe,ops,lines,t,c,.BV h cs,[],[],rows.map itemsOf,rfl,Ez.L,Fy,⟨fh,lc⟩,hc2,nc,.nil,(fun _ z=>by cases z),iU hl,(fun i ch e=>by cases e),(by show 0≤200;decide),by rw[cA];omega,by omega,by omega,fun S' H3 L3 Wy=>?_⟩
 have ep:qV pe++[rQ (rows.map itemsOf) []]=qV (pe++[rows]):=by
  show _=(pe++[rows]).map _
  rw[lH]
  rfl
 have eo:ops++List.replicate ((rQ (rows.map itemsOf) []).length-(rows.map itemsOf).length) (((qV pe).length:Nat):Int)=ops:=by
  show ops++List.replicate ((rows.map itemsOf).length-(rows.map itemsOf).length) _=ops
  rw[Nat.sub_self]
  exact kj _
 rw[ep,eo]at L3
 obtain⟨U',hL',f'⟩:=Ez.ux L3 Wy
 refine⟨_,rfl,k U' q H3 hL' ⟨fun a z=>?_,fun a ob e n=>?_,fun a xs e=>f'.2.2 _ _ (s2 _ _ (tp _ _ e))⟩ (f'.2.2 _ _ (s2 _ _ hq))⟩
 ·rcases f'.1 a z with y|y
  ·rcases y with y|y|y
   ·exact .inl ((u a).mpr (.inl y))
   ·exact (sub a y).imp (fun w=>(u a).mpr (.inr (.inl w))) id
   ·exact .inl ((u a).mpr (.inr (.inr y)))
  ·have y1:=aX s2 y
   cases e:H a with
   | none=>exact .inr rfl
   | some ob =>
    by_cases z2:SW a
    ·exact .inl ((u a).mpr (.inr (.inl z2)))
    ·rw[fr _ _ e z2]at y1;cases y1
 ·have n1:¬ SW a:=fun z=>n ((u a).mpr (.inr (.inl z)))
  refine f'.2.1 a ob (s2 _ _ (fr _ _ e n1)) fun z=>?_
  rcases z with z|z|z
  ·exact n ((u a).mpr (.inl z))
  ·exact nSW _ _ e n1 z
  ·exact n ((u a).mpr (.inr (.inr z)))
inductive Bk(C CS CW CB:Addr)(vs:List V)(H:Hp)(Q:VK)(E:XK):Prop
 | mk (U:Addr→Prop) (x:Addr) (pe:nC) (lines:nA) (aB:jU) (nW:Nat) (bC:Row) (_:vs=[.ref x]) (_:vV C CS CW CB U H x pe lines aB nW bC) (_:Q (.int (aB.length:Nat)) H):Bk C CS CW CB vs H Q E
inductive tM(C CS CW CB XO:Addr)(vs:List V)(H:Hp)(Q:VK)(E:XK):Prop
 | mk (U:Addr→Prop) (x r:Addr) (pe:nC) (lines:nA) (aB:jU) (nW:Nat) (bC row:Row) (_:vs=[.ref x,.ref r]) (_:vV C CS CW CB U H x pe lines aB nW bC) (_:bQ H r row) (_:row.length≤1000) (_:aB.length≤100000) (_:(qB aB.length row=true→∀ H',aH H H'→Q .jw H')) (_:(qB aB.length row=false→∀ H',aH H H'→E (.ref XO) none H')):tM C CS CW CB XO vs H Q E
theorem B4:aJ ["self"] ["self"] (ay j0):=⟨rfl,rfl,rfl,by decide +kernel,rfl,by decide +kernel,by decide +kernel⟩
theorem tN:aJ ["self","row"] ["self","row"] (ay eN):=⟨rfl,rfl,rfl,by decide +kernel,rfl,by decide +kernel,by decide +kernel⟩
theorem Bm{f C CS CW CB XS XM XT XO XP:Addr}{fd:FuncData}(F:iI K "ink" "Library.ink" j0 f fd)(X:yk K mg C CS CW CB XS XM XT XO XP)(A5:O7 K mg CW CB):aC P w K mg base bU 2 f fd jk (Bk C CS CW CB):=by
 obtain⟨LM,⟨_,dJ⟩,w1,w2,w3,⟨_,mO⟩,b1,ef,Z⟩:=X
 obtain⟨⟨T,_,_,_,_,_⟩,⟨fi,aG⟩,nw,ns,ES,nk,nd,ET,dm,G⟩:=LM
 obtain⟨_,_,bu⟩:=A5.sz
 have ja:aC P w K mg base bU 1 _ _ jk (ur CW):=oz bu.F T dJ.cl w1
 refine F.ok B4 (fun vs H Q E h=>?_) (fun cdv A outer s H vs Q E hr h=>?_)
 ·obtain⟨U,x,pe,lines,aB,nW,bC,rfl,_⟩:=h
  rfl
 obtain⟨U,x,pe,lines,aB,nW,bC,rfl,⟨S,SW,d,wl,sh,bl,kn,du,bk,dS,st,op,dw,sg,ow,pw,db,tb,ops,LU⟩,k⟩:=h
 refine⟨_,(ao (aT (cJ (dM (pv 0) rfl) dJ.cl bu.mt ja (hr.mono (by decide)) bu.b .nil cQ))),?_⟩
 exact⟨_,rfl,x,C,d,_,.ref wl,rfl,LU.L.hx,aG.cl,nw,rfl,wl,dw,_,rfl,LU.W.hx,rfl,wl,dw,sg,ow,pw,aB,rfl,LU.W.hx,LU.W.hs,k⟩
theorem sI{f C CS CW CB XS XM XT XO XP fI:Addr}{fd gI:FuncData}(F:iI K "check_held" "Library.check_held" eN f fd)(X:yk K mg C CS CW CB XS XM XT XO XP)(A5:O7 K mg CW CB)(jb:aU K C "ink" "Library.ink" j0 jk fI gI):aC P w K mg base (nB P w) 3 f fd Pp (tM C CS CW CB XO):=by
 have EA:aC P w K mg base bU 2 _ _ jk (Bk C CS CW CB):=Bm jb.F X A5
 obtain⟨LM,⟨_,dJ⟩,w1,w2,w3,⟨_,mO⟩,b1,ef,Z⟩:=X
 obtain⟨⟨T,_,_,_,_,_⟩,⟨fi,aG⟩,nw,ns,ES,nk,nd,ET,dm,G⟩:=LM
 obtain⟨⟨_,_,bu⟩,_,_,_,⟨_,_,nv⟩,_⟩:=A5
 have GF:aC P w K mg base bU 2 _ _ Pp (El CW):=BZ nv.F T dJ w1 bu
 refine ER F tN (fun vs H Q E h=>?_) (fun cdv A outer s H vs Q E hr h=>?_)
 ·obtain⟨U,x,r,pe,lines,aB,nW,bC,row,rfl,_⟩:=h
  rfl
 obtain⟨U,x,r,pe,lines,aB,nW,bC,row,rfl,LB,hr1,lr,li,k1,k2⟩:=h
 obtain⟨S,SW,d,wl,sh,bl,kn,du,bk,dS,st,op,dw,sg,ow,pw,db,tb,ops,LU⟩:=id LB
 refine⟨_,(ao (cG (oN (oM (bO (dM (pv 0) rfl) dJ.cl nv.mt GF (hr.mono (by decide)) nv.b .nil cQ (aa (pv 1) ah))))
   (ao (qN PySem.F.excBase_ValueError ef.x ef.m rfl xM (aa (tW (nJ (o6 (cJ (pv 0) aG.cl jb.mt EA (hr.mono (by decide)) jb.b .nil cQ) xN))) ah)))
   bK)),?_⟩
 refine⟨_,rfl,x,C,d,_,.ref wl,rfl,LU.L.hx,aG.cl,nw,rfl,wl,dw,_,rfl,LU.W.hx,rfl,_,rfl,SW,wl,dw,sg,ow,pw,r,nW,aB,row,rfl,LU.W,hr1,lr,fun H1 s1=>⟨_,rfl,?_⟩⟩
 cases g:qB aB.length row with
 | true=>exact jY (k1 g H1 s1)
 | false =>
  have LB1:=LB.same s1
  have LU1:=LU.same s1
  have fl:qx ((aB.length:Nat):Int):=⟨by omega,by omega⟩
  exact jZ ⟨_,rfl,x,d,_,rfl,LU1.L.hx,rfl,U,x,pe,lines,aB,nW,bC,rfl,LB1,_,rfl,fl.log,fun y=>⟨(by show 1≤sizeLine;decide),k2 g H1 s1⟩⟩
structure VB(K:PySem.W.Frag)(mg:Str→Option Value):Prop where
 win:∃ f g,aA K mg "windows" eL nF f g
 bel:∃ f g,aA K mg "below" lQ mj f g
 ir:∃ f g,aA K mg "item_row" fH xm f g
 pl:∃ f g,aA K mg "plain" lO eU f g
 vb:∃ f g,aA K mg "views_below" dR mj f g
 sz:∃ f g,aA K mg "size" ssize eU f g
 cp:∃ f g,aA K mg "check_places" eZ nE f g
 go:∃ f g,aA K mg "goes_on" lR EW f g
 pi:∃ f g,aA K mg "plain_items" gV nF f g
 de:∃ f g,aA K mg "dealt" rG Dj f g
 pc:∃ f g,aA K mg "pieces" mR nE f g
 ik:∃ f g,aA K mg "inked" rF eU f g
 pa:∃ f g,aA K mg "put_among" mD LD f g
 pu:∃ f g,aA K mg "put_items" oU JV f g
abbrev ptW:List Nat:=(Str.ofString "put").cps.toList
inductive zO(C CS CW CB XS XO XP:Addr)(vs:List V)(H:Hp)(Q:VK)(E:XK):Prop
 | mk (U:Addr→Prop) (x r:Addr) (pe:nC) (lines:nA) (aB:jU) (nW:Nat) (bC row:Row) (s p:Int) (rows:gB) (_:vs=[.ref x,.int s,.int p,.ref r]) (_:vV C CS CW CB U H x pe lines aB nW bC) (_:bQ H r row) (_:Io row) (_:aB.length≤100000) (_:pe.getLast?=some rows) (_:rows.length≤50) (_:pe.length≤900) (_:lines.length≤900) (_:qx s) (_:qx p) (_:(¬ zb rows.length s→∀ H',aH H H'→E (.ref XS) none H')) (_:(zb rows.length s→∃ sh,Seen rows sh∧(¬ (0≤p∧p≤(sh s).length)→∀ H',aH H H'→E (.ref XP) none H')∧(0≤p∧p≤(sh s).length→(qB aB.length row=false→∀ H',aH H H'→E (.ref XO) none H')∧(qB aB.length row=true→∀ es,rows[s.toNat]?=some es→(∃ f,sj (oA rows s.toNat (lg sh p es (dI (dW (bW row))))) f) ∧
  ∀ (U':Addr→Prop) (H':Hp),vV C CS CW CB U' H' x (pe++[oA rows s.toNat (lg sh p es (dI (dW (bW row))))]) (lines++[(mJ.uZ ptW [s,p] row).line]) aB nW bC→Lz U U' H H'→Q .jw H')))):zO C CS CW CB XS XO XP vs H Q E
theorem u9:aJ ["self","sheet","place","row","items"] ["self","sheet","place","row"] (ay nZ):=⟨rfl,rfl,rfl,by decide +kernel,rfl,by decide +kernel,by decide +kernel⟩
theorem yl(ns:List Int):tot (rowOf ns)=(ns.length:Int):=by rw[← tU _ (qL _),ff]
theorem JG{n:Nat}(h:n≤100000):qx ((n:Nat):Int):=⟨by omega,by omega⟩
theorem Ll{n:Nat}{row:Row}(h:qB n row=true):∀ p∈row,0≤p.1∧p.1<p.2∧p.2≤n:=fun p hp=>by
 have z:=List.all_eq_true.mp h p hp
 unfold NI at z
 simpa [and_assoc] using z
theorem qx.big{s:Int}(h:qx s):s<10^60:=by
 obtain⟨_,h1⟩:=h
 omega
set_option maxHeartbeats 4000000 in
theorem Bo{f C CS CW CB XS XM XT XO XP fS fZ f1 f2 f3 f4 f5:Addr}{fd g1 g2 g3 g4 g5:FuncData}(F:iI K "put" "Library.put" nZ f fd)(X:yk K mg C CS CW CB XS XM XT XO XP)(A1:JF K mg CS)(A2:Ly K mg)(A4:Vy K mg fS fZ)(A5:O7 K mg CW CB)(A6:VB K mg)(aP:aU K C "enter" "Library.enter" bV JR f1 g1)(aM:aU K C "change" "Library.change" cT Lq f2 g2)(bI:aU K C "shown" "Library.shown" gh Di f3 g3)(jb:aU K C "ink" "Library.ink" j0 jk f4 g4)(eT:aU K C "check_held" "Library.check_held" eN Pp f5 g5):aC P w K mg base (nB P w) 6 f fd Qu (zO C CS CW CB XS XO XP):=by
 have uF:aC P w K mg base (nB P w) 3 _ _ Pp (tM C CS CW CB XO):=sI eT.F X A5 jb
 obtain⟨LM,⟨_,dJ⟩,w1,w2,w3,⟨_,mO⟩,b1,ef,Z⟩:=X
 have cW:aC P w K mg base bU 5 _ _ Lq (pR C CS):=iu aM.F LM A1 A2 aP
 have jS:aC P w K mg base (nB P w) 5 _ _ Di (tK C CS XS):=mL bI.F LM A1 A4
 obtain⟨M,⟨fi,aG⟩,nw,ns,ES,nk,nd,ET,dm,G⟩:=LM
 obtain⟨⟨_,_,d1⟩,⟨_,_,d2⟩,⟨_,_,d3⟩,⟨_,_,d4⟩,⟨_,_,d7⟩,⟨_,_,br⟩,⟨_,_,d9⟩⟩:=A1
 have dY:aC P w K mg base bU 4 _ _ jk (tE CS):=jq br.F M d2 d4 d7
 obtain⟨T,⟨fj,bF⟩,n1,n2,eO,dB⟩:=M
 obtain⟨⟨_,_,i1⟩,⟨_,_,i2⟩,⟨_,_,i3⟩,⟨_,_,i4⟩,⟨_,_,i5⟩,⟨_,_,i6⟩,⟨_,_,bY⟩,⟨_,_,i8⟩,⟨_,_,i9⟩,⟨_,_,Sd⟩,⟨_,_,Qh⟩,⟨_,_,gy⟩,⟨_,_,Tq⟩,⟨_,_,iD⟩⟩:=A6
 have iC:aC P w K mg base (nB P w) 2 _ _ nE (tY XP):=kL bY.F T Z i6
 have rM:aC P w K mg base bU 2 _ _ eU uc:=wN gy.F T i4
 have pU:aC P w K mg base (nB P w) 4 _ _ JV (mH XP):=rN iD.F T Z i1 i2 i3 i4 i5 i6 bY i8 i9 Sd Qh gy Tq
 refine ER F u9 (fun vs H Q E h=>?_) (fun cdv A outer s0 H vs Q E hr h=>?_)
 ·obtain⟨U,x,r,pe,lines,aB,nW,bC,row,s,p,rows,rfl,_⟩:=h
  rfl
 obtain⟨U,x,r,pe,lines,aB,nW,bC,row,s,p,rows,rfl,LB,hr1,fr,li,hl,l1,l2,l3,fs,fp,k1,k2⟩:=h
 obtain⟨S,SW,d,wl,sh,bl,kn,du,bk,dS,st,op,dw,sg,ow,pw,db,tb,ops,LU⟩:=id LB
 have lo:=uu LU.L hl
 have hl':=iU hl
 have lp:(qV pe).length=pe.length:=cA _
 refine⟨_,(ak (bq (n8 bY iC hr kr (aa (bO (pv 0) aG.cl bI.mt jS (hr.mono (by decide)) bI.b .nil kr (aa (pv 1) ah)) (aa (pv 2) (aa (pv 2) ah)))))
   (ak (bq (bO (pv 0) aG.cl eT.mt uF (hr.mono (by decide)) eT.b .nil kr (aa (pv 3) ah)))
   (ak (aO (i:=4) u9.nd rfl (Or.inl rfl) (n8 iD pU hr kr (aa (cJ (dM (pv 0) rfl) bF.cl br.mt dY (hr.mono (by decide)) br.b .nil cQ) (aa (pv 1) (aa (pv 2) (aa (aN gy rM hr (aa (pv 3) ah)) ah))))))
   (ao (bq (bO (pv 0) aG.cl aM.mt cW (hr.mono (by decide)) aM.b .nil cQ (aa (iz (aa bS (aa (pv 1) (aa (pv 2) (aa (pv 3) ah))))) (aa (pv 1) (aa (pv 4) ah))))))))),?_⟩
 refine⟨_,rfl,x,d,_,rfl,LU.L.hx,rfl,_,rfl,S,x,d,wl,sh,bl,kn,du,bk,dS,st,op,pe,ops,lines,rows,s,rfl,LU.L,hl,l1,l2,fs,fun z=>k1 z H (aH.refl _),fun ia=>?_⟩
 obtain⟨f0,sn,k3,k4⟩:=k2 ia
 have ls:(f0 s).length≤10000:=sn.ln s ia.1 ia.2
 have lr0:=uf (f0 s)
 refine⟨f0,sn,fun o H1 ho s1 fo=>?_⟩
 have i3:GY p p (tot (rowOf (f0 s)))↔(0≤p∧p≤(f0 s).length):=by
  rw[yl]
  unfold GY
  omega
 refine⟨_,rfl,_,rfl,o,rowOf (f0 s),p,p,rfl,ho,by omega,fp,fp,by rw[yl];exact JG (by omega),fun z H2 s2=>?_,fun z H2 s2=>k3 (fun y=>z (i3.mpr y)) H2 (s1.trans s2)⟩
 have s12:=s1.trans s2
 obtain⟨k5,k6⟩:=k4 (i3.mp z)
 have Ez:=LU.same s12
 have hr2:=hr1.same s12
 refine⟨_,rfl,x,d,_,rfl,Ez.L.hx,rfl,_,rfl,U,x,r,pe,lines,aB,nW,bC,row,rfl,LB.same s12,hr2,by have:=fr.1;omega,li,fun g H3 s3=>?_,fun g H3 s3=>k5 g H3 (s12.trans s3)⟩
 have yJ:=s12.trans s3
 have Tr:=LU.same yJ
 have G0:=hr1.same yJ
 have hp:=Ll g
 have sl:s.toNat<rows.length:=by have:=ia.1;have:=ia.2;omega
 obtain⟨es,es1⟩:∃ es,rows[s.toNat]?=some es:=⟨_,nU sl⟩
 obtain⟨⟨fB,B⟩,k7⟩:=k6 g _ es1
 refine⟨_,rfl,x,C,d,_,.ref sh,rfl,Tr.L.hx,aG.cl,ns,rfl,sh,dS,_,rfl,Tr.L.W.hx,rfl,S,sh,dS,st,op,qV pe,ops,rfl,Tr.L.W,⟨by omega,by omega⟩,fun rws el q H4 fs4 s4=>?_⟩
 rw[hl']at el
 cases el
 obtain⟨fq,rs,hq,al⟩:=fs4
 have hR:iM H4 q (rows.map itemsOf):=by
  refine⟨rs.map V.ref,hq,?_⟩
  have key:∀ {as:List Addr} {ds:List (List Item)},b8 (fun r its=>H3 r=none∧r≠q∧bx H4 (.ref r) its) as ds→b8 (bx H4) (as.map V.ref) ds:=by
   intro as ds z
   induction z with
   | nil=>exact .nil
   | cons o t ih=>exact .cons o.2.2 ih
  exact key al
 have hr4:=G0.same s4
 refine⟨_,rfl,_,rfl,_,rfl,r,row,rfl,hr4,by have:=fr.1;omega,fun oi H5 VC s5 foi=>?_⟩
 have nn:pF row:=fun p' Jd=>⟨(hp p' Jd).1,by have:=(hp p' Jd).2.1;omega⟩
 refine⟨q,oi,rows,s,p,_,f0,rfl,⟨hR.same s5,by omega,sn.es,sn.sd,sn.rk,sn.ss,sn.ln⟩,ia.1,ia.2,VC,wO (qP nn),?_,fp,fun _ es q2 H6 Bp hq2 s6 Se=>?_,fun y=>absurd (i3.mp z) y⟩
 ·unfold dW
  rw[cA]
  have:=qO row
  have:=fr.1
  omega
 rw[es1]at Bp
 cases Bp
 have Qi:aH H H6:=yJ.trans (s4.trans (s5.trans s6))
 have Sf:=LU.same Qi
 have Sg:q2≠bk:=fun e=>by
  have y:=(LU.same (yJ.trans (s4.trans s5))).L.hb
  rw[← e,Se]at y
  cases y
 refine⟨_,rfl,x,d,_,rfl,Sf.L.hx,rfl,_,rfl,_,rfl,_,rfl,(by show 4≤sizeLine;decide),fun t ht=>?_⟩
 have s7:=aj ht (.tup [.str (Str.ofString "put"),.int s,.int p,.ref r])
 have ht7:(upd H6 t (.tup [.str (Str.ofString "put"),.int s,.int p,.ref r])) t=some (.tup [.str (Str.ofString "put"),.int s,.int p,.ref r]):=af
 generalize upd H6 t (.tup [.str (Str.ofString "put"),.int s,.int p,.ref r])=H7 at s7 ht7
 have s17:=Qi.trans s7
 have LU7:=LU.same s17
 have ss:((s.toNat:Nat):Int)=s:=by have:=ia.1;omega
 refine⟨_,rfl,_,rfl,S,x,d,wl,sh,bl,kn,du,bk,dS,st,op,pe,ops,lines,t,q2,.uZ ptW [s,p] row,s.toNat,_,rows,fB,by rw[ss];rfl,LU7.L,⟨r,by rw[ht7,AD];rfl,hr1.same s17⟩,⟨(by show tabAt Vk ptW=some 2;decide +kernel),?_,fr⟩,hq2.same s7,Sg,hl,by have:=ia.2;have:=ia.1;omega,l1,l2,l3,B,fun S' H8 L8 CA=>?_⟩
 ·intro y hy
  have b1:=ia.1
  have b2:=(i3.mp z).1
  rcases List.mem_cons.mp hy with e|e
  ·rw[e];exact⟨b1,fs.big⟩
  ·rw[List.mem_singleton.mp e];exact⟨b2,fp.big⟩
 ·obtain⟨U',hL',f'⟩:=LU7.ux L8 CA
  exact k7 U' H8 hL' (f'.pre s17)
def ji(aB:jU)(bC:Row)(v:Nat)(a:Int):Nat:=if Rz bC a=true then v else ((aB[a.toNat]?).map Prod.snd).getD 0
inductive Bq(C CS CW CB:Addr)(vs:List V)(H:Hp)(Q:VK)(E:XK):Prop
 | mk (U:Addr→Prop) (x r:Addr) (pe:nC) (lines:nA) (aB:jU) (nW:Nat) (bC row:Row) (v:Nat) (_:vs=[.ref x,.ref r,wG v]) (_:vV C CS CW CB U H x pe lines aB nW bC) (_:bQ H r row) (_:(∀ p∈row,p.1≤p.2)) (_:(aS row).length≤100000) (_:aB.length≤100000) (_:(∀ a∈aS row,0≤a∧a<(aB.length:Nat))) (_: ∀ H',aH H H'→Q (.str (txt ((aS row).map (ji aB bC v)))) H'):Bq C CS CW CB vs H Q E
inductive yo(C CS CW CB XS:Addr)(vs:List V)(H:Hp)(Q:VK)(E:XK):Prop
 | mk (U:Addr→Prop) (x:Addr) (pe:nC) (lines:nA) (aB:jU) (nW:Nat) (bC:Row) (rows:gB) (s:Int) (_:vs=[.ref x,.int s]) (_:vV C CS CW CB U H x pe lines aB nW bC) (_:pe.getLast?=some rows) (_:rows.length≤50) (_:pe.length≤900) (_:aB.length≤100000) (_:qx s) (_:(¬ zb rows.length s→E (.ref XS) none H)) (_:(zb rows.length s→∃ sh,Seen rows sh∧(∀ a∈sh s,0≤a∧a<(aB.length:Nat))∧∀ H',aH H H'→Q (.str (txt ((sh s).map (ji aB bC 35)))) H')):yo C CS CW CB XS vs H Q E
theorem yp:aJ ["self","row","veil"] ["self","row","veil"] (ay gH):=⟨rfl,rfl,rfl,by decide +kernel,rfl,by decide +kernel,by decide +kernel⟩
theorem Br:aJ ["self","sheet"] ["self","sheet"] (ay mS):=⟨rfl,rfl,rfl,by decide +kernel,rfl,by decide +kernel,by decide +kernel⟩
set_option maxHeartbeats 4000000 in
theorem wZ{f C CS CW CB XS XM XT XO XP:Addr}{fd:FuncData}(F:iI K "veiled" "Library.veiled" gH f fd)(X:yk K mg C CS CW CB XS XM XT XO XP)(A5:O7 K mg CW CB):aC P w K mg base bU 4 f fd NN (Bq C CS CW CB):=by
 obtain⟨LM,⟨_,dJ⟩,w1,w2,w3,⟨_,mO⟩,b1,ef,Z⟩:=X
 obtain⟨⟨T,_,_,_,_,_⟩,⟨fi,aG⟩,nw,ns,ES,nk,nd,ET,dm,G⟩:=LM
 obtain⟨⟨_,_,bu⟩,_,⟨_,_,d3⟩,⟨_,_,pV⟩,_,⟨_,_,lZ⟩,⟨_,_,d7⟩,⟨_,_,d8⟩,⟨_,_,rR⟩⟩:=A5
 have IA:aC P w K mg base (nB P w) 3 _ _ JQ (Ej CW XO):=Ek pV.F T dJ w1 ef bu d3
 have EB:aC P w K mg base bU 3 _ _ JQ (DP CB):=AJ lZ.F T mO.cl b1 d7 d8
 have IB:aC P w K mg base bU 1 _ _ eU Dz:=DM rR.F T
 refine F.ok yp (fun vs H Q E h=>?_) (fun cdv A outer s0 H vs Q E hr h=>?_)
 ·obtain⟨U,x,r,pe,lines,aB,nW,bC,row,v,rfl,_⟩:=h
  rfl
 obtain⟨U,x,r,pe,lines,aB,nW,bC,row,v,rfl,LB,hr1,ok,ls,li,ia,k⟩:=h
 obtain⟨S,SW,d,wl,sh,bl,kn,du,bk,dS,st,op,dw,sg,ow,pw,db,tb,ops,LU⟩:=id LB
 refine⟨_,(ao (aT (je PySem.F.plainAttrs_str PySem.F.slot_str_join PySem.F.type_str_join sY bS (aa (ku (N:=["address","self","veil"]) (r9 (sc:=ay gH) (NX:=["self","row","veil"]) (jx:=[none,some 0,some 2]) rfl rfl rfl (by decide +kernel) (by decide +kernel) rfl (by decide +kernel) rfl (by decide +kernel)) rfl (cM (aN rR IB hr (aa (pv 1) ah))) (fun _ _ _ _ _ _=>(aW (i:=0) (show List.Nodup (["address","self","veil"]:List Str) by decide +kernel) rfl (Or.inl rfl))) (fun _ _ _ _ _ _=>iJ) (fun _ _ _ _ _ _=>(E4 (oM (bO (Jq (pv 1) rfl) mO.cl lZ.mt EB (hr.mono (by decide)) lZ.b .nil cQ (aa (pv 0) ah))) (pv 2) (bO (Jq (pv 1) rfl) dJ.cl pV.mt IA (hr.mono (by decide)) pV.b .nil sW (aa (pv 0) ah))))) ah)))),?_⟩
 refine⟨rfl,_,rfl,r,row,rfl,hr1,ok,by omega,fun n H1 hn s1 fn=>?_⟩
 refine⟨n,rfl,⟨_,bN.of hn⟩,fun acc hacc=>jL (K:=K) (a:=n) (xs:=(aS row).map V.int) (fun i σ H2=>∃ u:Option V,σ=[u,some (.ref x),some (wG v)]∧H2 acc=some (.lst ((((aS row).take i).map (ji aB bC v)).map wG))∧aH H1 H2) ⟨none,rfl,af,aj hacc _⟩ (fun i σ H2 _ ⟨_,_,_,s2⟩=>bN.of (s2 _ _ hn)) ?_ ?_⟩
 ·rintro i y σ H2 hi ⟨u,rfl,h2,s2⟩
  rw[jV]at hi
  obtain⟨a,ei,rfl⟩:=Option.map_eq_some_iff.mp hi
  have il:=(List.getElem?_eq_some_iff.mp ei).1
  obtain⟨a0,a1⟩:=ia a (uA ei)
  have Ez:=LU.same (s1.trans s2)
  have nx:((((aS row).take (i+1)).map (ji aB bC v)).map wG)=(((aS row).take i).map (ji aB bC v)).map wG++[wG (ji aB bC v a)]:=by
   rw[take_snoc ei,lH,lH]
   rfl
  refine⟨_,rfl,x,C,d,_,.ref bl,rfl,Ez.L.hx,aG.cl,ES,rfl,bl,db,_,rfl,Ez.B,rfl,_,rfl,bl,db,tb,bC,a,rfl,Ez.B,Ez.R,Ez.DN,?_⟩
  cases g:Rz bC a with
  | true =>
   have e:ji aB bC v a=v:=if_pos g
   refine⟨_,rfl,jZ ⟨_,rfl,_,h2,aL (by rw[cA,cA,rj];omega),_,rfl,?_,cD hacc s2 (aK acc _ _)⟩⟩
   rw[af,nx,e]
  | false =>
   have e:ji aB bC v a=((aB[a.toNat]?).map Prod.snd).getD 0:=if_neg (by rw[g];exact tP)
   refine⟨_,rfl,jY ⟨_,rfl,x,C,d,_,.ref wl,rfl,Ez.L.hx,aG.cl,nw,rfl,wl,dw,_,rfl,Ez.W.hx,rfl,_,rfl,SW,wl,dw,sg,ow,pw,nW,aB,a,rfl,Ez.W,⟨by omega,by omega⟩,li,fun j q ej eq=>?_,fun nw'=>absurd ⟨a0,a1⟩ nw'⟩⟩
   have et:a.toNat=j:=by omega
   rw[et,eq]at e
   refine⟨_,h2,aL (by rw[cA,cA,rj];omega),_,rfl,?_,cD hacc s2 (aK acc _ _)⟩
   rw[af,nx,e]
   rfl
 ·rintro σ H2 ⟨u,rfl,h2,s2⟩
  rw[cA,kQ]at h2
  exact⟨acc,_,rfl,rfl,h2,by rw[cA];omega,k H2 (s1.trans s2)⟩
theorem zl{f C CS CW CB XS XM XT XO XP fS fZ f1 f2:Addr}{fd g1 g2:FuncData}(F:iI K "text" "Library.text" mS f fd)(X:yk K mg C CS CW CB XS XM XT XO XP)(A1:JF K mg CS)(A4:Vy K mg fS fZ)(A5:O7 K mg CW CB)(bI:aU K C "shown" "Library.shown" gh Di f1 g1)(jj:aU K C "veiled" "Library.veiled" gH NN f2 g2):aC P w K mg base (nB P w) 6 f fd Di (yo C CS CW CB XS):=by
 have zq:aC P w K mg base bU 4 _ _ NN (Bq C CS CW CB):=wZ jj.F X A5
 obtain⟨LM,_,_,_,_,_,_,_,_⟩:=X
 have jS:aC P w K mg base (nB P w) 5 _ _ Di (tK C CS XS):=mL bI.F LM A1 A4
 obtain⟨⟨T,_,_,_,_,_⟩,⟨fi,aG⟩,nw,ns,ES,nk,nd,ET,dm,G⟩:=LM
 obtain⟨O8,O9⟩:=G.h
 refine ER F Br (fun vs H Q E h=>?_) (fun cdv A outer s0 H vs Q E hr h=>?_)
 ·obtain⟨U,x,pe,lines,aB,nW,bC,rows,s,rfl,_⟩:=h
  rfl
 obtain⟨U,x,pe,lines,aB,nW,bC,rows,s,rfl,LB,hl,l1,l2,li,fs,k1,k2⟩:=h
 obtain⟨S,SW,d,wl,sh,bl,kn,du,bk,dS,st,op,dw,sg,ow,pw,db,tb,ops,LU⟩:=id LB
 refine⟨_,(ao (aT (bO (pv 0) aG.cl jj.mt zq (hr.mono (by decide)) jj.b .nil cQ (aa (bO (pv 0) aG.cl bI.mt jS (hr.mono (by decide)) bI.b .nil kr (aa (pv 1) ah)) (aa (Dm (v:=.str (Str.ofString "#")) rfl O9 ⟨O8,rfl⟩) ah))))),?_⟩
 refine⟨_,rfl,x,d,_,rfl,LU.L.hx,rfl,_,rfl,x,d,_,rfl,LU.L.hx,rfl,_,rfl,S,x,d,wl,sh,bl,kn,du,bk,dS,st,op,pe,ops,lines,rows,s,rfl,LU.L,hl,l1,l2,fs,k1,fun ia=>?_⟩
 obtain⟨f0,sn,ha,k3⟩:=k2 ia
 refine⟨f0,sn,fun o H1 ho s1 fo=>?_⟩
 have ls:=sn.ln s ia.1 ia.2
 exact⟨U,x,o,pe,lines,aB,nW,bC,rowOf (f0 s),35,by rw[show Str.ofString "#"=⟨#[35]⟩ by decide +kernel];rfl,LB.same s1,ho,qL _,by rw[ff];omega,li,by rw[ff];exact ha,by rw[ff];exact fun H2 s2=>k3 H2 (s1.trans s2)⟩
theorem We.nu{C C':Addr}{S:Addr→Prop}{H H':Hp}{x d s o p l d':Addr}{n:Nat}{aB:jU}{fs:List (Str × V)}(h:We C S H x d s o p n aB)(hl:H l=some (.ins C' d' fs))(nl:¬ S l)(k:cO l H H'):We C S H' x d s o p n aB :=
 h.fr (fun a ob e z=>k a ob e (fun q=>nl (by rw[← q];exact z))) (fun a xs e=>k _ _ e (cY e hl (by intro z;cases z)))
theorem bQ.nu{C':Addr}{H H':Hp}{r l d':Addr}{row:Row}{fs:List (Str × V)}(h:bQ H r row)(hl:H l=some (.ins C' d' fs))(k:cO l H H'):bQ H' r row :=
 h.two (fun xs e=>k _ _ e (cY e hl (by intro z;cases z))) (fun a xs e=>k _ _ e (cY e hl (by intro z;cases z)))
theorem qW{H:Hp}{xw dw a:Addr}{o:HO}(e:(upd (upd H dw (.own xw)) xw o) a=none):H a=none:=by
 by_cases z1:a=xw
 ·rw[z1,af]at e;cases e
 rw[aF z1]at e
 by_cases z2:a=dw
 ·rw[z2,af]at e;cases e
 rw[aF z2]at e
 exact e
inductive yq(C CS CW CB:Addr)(vs:List V)(H:Hp)(Q:VK)(E:XK):Prop
 | mk (x d:Addr) (_:vs=[.ref x]) (_:H x=some (.ins C d [])) (_: ∀ (U:Addr→Prop) (H':Hp),vV C CS CW CB U H' x [[]] [] [] 0 []→(∀ a,U a→a=x∨H a=none)→cO x H H'→Q .jw H'):yq C CS CW CB vs H Q E
theorem vO:aJ ["self"] ["self"] (ay jt):=⟨rfl,rfl,rfl,by decide +kernel,rfl,by decide +kernel,by decide +kernel⟩
theorem uG{f C CS XS XM XT CW CB CT CD f1 f2 f3 f4 f5:Addr}{fd g1 g2 g3 g4 g5:FuncData}(F:iI K "__init__" "Library.__init__" jt f fd)(L:Ep K mg C CS XS XM XT)(bF:ClsAt K mg "Shelf" CS f1)(kM:aU K CS "__init__" "Shelf.__init__" jg jk f1 g1)
  (dJ:ClsAt K mg "Well" CW f2) (l5:aU K CW "__init__" "Well.__init__" jE jk f2 g2) (w1:aZ K CW "signs") (w2:aZ K CW "owners") (w3:aZ K CW "pourings")
  (mO:ClsAt K mg "Blots" CB f3) (kO:aU K CB "__init__" "Blots.__init__" jf jk f3 g3) (b1:aZ K CB "stains")
  (GG:ClsAt K mg "Ties" CT f4) (l6:aU K CT "__init__" "Ties.__init__" jC jk f4 g4) (t1:aZ K CT "given") (t2:aZ K CT "pairs")
  (GH:ClsAt K mg "Dues" CD f5) (l9:aU K CD "__init__" "Dues.__init__" jD jk f5 g5) (u1:aZ K CD "sums"):aC P w K mg base bU 3 f fd jk (yq C CS CW CB):=by
 obtain⟨M,⟨fi,aG⟩,nw,ns,ES,nk,nd,ET,dm,G⟩:=L
 obtain⟨T,_,n1,n2,eO,dB⟩:=M
 have zu:aC P w K mg base bU 1 _ _ jk (Eb CS):=wW kM.F bF.cl n1 n2
 have Bs:aC P w K mg base bU 1 _ _ jk (Eh CW):=yg l5.F dJ.cl w1 w2 w3
 have zw:aC P w K mg base bU 1 _ _ jk (DO CB):=wI kO.F mO.cl b1
 have Bt:aC P w K mg base bU 1 _ _ jk (wY CT):=ye l6.F GG.cl t1 t2
 have Bu:aC P w K mg base bU 1 _ _ jk (wY CD):=yd l9.F GH.cl u1
 refine F.ok vO (fun vs H Q E h=>?_) (fun cdv A outer s H vs Q E hr h=>?_)
 ·obtain⟨x,d,rfl,_⟩:=h
  rfl
 obtain⟨x,d,rfl,hx,k⟩:=h
 refine⟨_,(ak (kU (pv 0) (qG dJ.Tc Bs (hr.mono (by decide)) rfl dJ.m l5.b .nil cQ) rfl)
   (ak (kU (pv 0) (qG bF.Tc zu (hr.mono (by decide)) rfl bF.m kM.b .nil cQ) rfl)
   (ak (kU (pv 0) (qG mO.Tc zw (hr.mono (by decide)) rfl mO.m kO.b .nil cQ) rfl)
   (ak (kU (pv 0) (qG GG.Tc Bt (hr.mono (by decide)) rfl GG.m l6.b .nil cQ) rfl)
   (ak (kU (pv 0) (qG GH.Tc Bu (hr.mono (by decide)) rfl GH.m l9.b .nil cQ) rfl)
   (ao (kU (pv 0) (bH ah) rfl))))))),?_⟩
 intro wl dw hw1 hw2 _
 refine⟨wl,dw,rfl,af,fun sg ow pw H1 V1 k1 fsg fow fpw=>⟨rfl,?_⟩⟩
 have s1:=oK hw1 hw2 k1
 have fW:∀ a,(a=wl∨a=sg∨a=ow∨a=pw)→H a=none:=fun a e=>by
  rcases e with rfl|rfl|rfl|rfl
  ·exact hw1
  ·exact qW fsg
  ·exact qW fow
  ·exact qW fpw
 have Si:¬ (x=wl∨x=sg∨x=ow∨x=pw):=fun e=>by
  have:=fW x e
  rw[hx]at this
  cases this
 refine⟨_,rfl,x,C,d,_,rfl,s1 _ _ hx,aG.cl,nw,by decide,?_⟩
 have q2:cO x H (upd H1 x (.ins C d (L2.dH "well" (.ref wl) []))):=cO.trans (jm.aH.keep s1) (aK x _ _)
 have x2:(upd H1 x (.ins C d (L2.dH "well" (.ref wl) []))) x=some (.ins C d [("well",.ref wl)]):=af
 have kx2:cO x H1 (upd H1 x (.ins C d (L2.dH "well" (.ref wl) []))):=aK x _ _
 generalize upd H1 x (.ins C d (L2.dH "well" (.ref wl) []))=H2 at q2 x2 kx2
 have V2:=V1.nu (s1 _ _ hx) Si kx2
 intro sh dS hs1 hs2 _
 refine⟨sh,dS,rfl,af,fun st op z H3 W3 k3 fst fop fz=>⟨rfl,?_⟩⟩
 have s3:=oK hs1 hs2 k3
 have up:∀ a,(upd (upd H2 dS (.own sh)) sh (.ins CS dS [])) a=none→H2 a=none:=fun a e=>by
  by_cases z1:a=sh
  ·rw[z1,af]at e;cases e
  rw[aF z1]at e
  by_cases z2:a=dS
  ·rw[z2,af]at e;cases e
  rw[aF z2]at e
  exact e
 have fS:∀ a,(a=sh∨a=st∨a=op∨a=z)→H2 a=none:=fun a e=>by
  rcases e with rfl|rfl|rfl|rfl
  ·exact hs1
  ·exact up _ fst
  ·exact up _ fop
  ·exact up _ fz
 have Sj:¬ (x=sh∨x=st∨x=op∨x=z):=fun e=>by
  have:=fS x e
  rw[x2]at this
  cases this
 have x3:=s3 _ _ x2
 have V3:=V2.same s3
 refine⟨_,rfl,x,C,d,_,rfl,x3,aG.cl,ns,(by show 1<1000;decide),?_⟩
 have k4:cO x H3 (upd H3 x (.ins C d (L2.dH "shelf" (.ref sh) [("well",.ref wl)]))):=aK x _ _
 have x4:(upd H3 x (.ins C d (L2.dH "shelf" (.ref sh) [("well",.ref wl)]))) x=some (.ins C d [("well",.ref wl),("shelf",.ref sh)]):=af
 generalize upd H3 x (.ins C d (L2.dH "shelf" (.ref sh) [("well",.ref wl)]))=H4 at k4 x4
 have W4:=W3.nu x3 Sj k4
 have V4:=V3.nu x3 Si k4
 have q4:cO x H H4:=(q2.trans (jm.aH.keep s3)).trans k4
 intro bl db hb1 hb2 _
 refine⟨bl,db,rfl,af,fun tb H5 B5 R5 k5 ftb=>⟨rfl,?_⟩⟩
 have s5:=oK hb1 hb2 k5
 have Sk:=qW ftb
 have x5:=s5 _ _ x4
 have W5:=W4.same s5
 have V5:=V4.same s5
 have Nm:bl≠x:=(au x4 hb1).symm
 refine⟨_,rfl,x,C,d,_,rfl,x5,aG.cl,ES,(by show 2<1000;decide),?_⟩
 have k6:cO x H5 (upd H5 x (.ins C d (L2.dH "blots" (.ref bl) [("well",.ref wl),("shelf",.ref sh)]))):=aK x _ _
 have x6:(upd H5 x (.ins C d (L2.dH "blots" (.ref bl) [("well",.ref wl),("shelf",.ref sh)]))) x=some (.ins C d [("well",.ref wl),("shelf",.ref sh),("blots",.ref bl)]):=af
 generalize upd H5 x (.ins C d (L2.dH "blots" (.ref bl) [("well",.ref wl),("shelf",.ref sh)]))=H6 at k6 x6
 have W6:=W5.nu x5 Sj k6
 have V6:=V5.nu x5 Si k6
 have B6:Bl CB H6 bl db tb:=k6 _ _ B5 Nm
 have R6:=R5.nu x5 k6
 have q6:cO x H H6:=(q4.trans (jm.aH.keep s5)).trans k6
 intro kn dk hk1 hk2 _
 refine⟨kn,dk,rfl,af,fun fs7 H7 _ k7=>⟨rfl,?_⟩⟩
 have s7:=oK hk1 hk2 k7
 have x7:=s7 _ _ x6
 have W7:=W6.same s7
 have V7:=V6.same s7
 have B7:Bl CB H7 bl db tb:=s7 _ _ B6
 have R7:=R6.same s7
 refine⟨_,rfl,x,C,d,_,rfl,x7,aG.cl,nk,(by show 3<1000;decide),?_⟩
 have k8:cO x H7 (upd H7 x (.ins C d (L2.dH "knots" (.ref kn) [("well",.ref wl),("shelf",.ref sh),("blots",.ref bl)]))):=aK x _ _
 have x8:(upd H7 x (.ins C d (L2.dH "knots" (.ref kn) [("well",.ref wl),("shelf",.ref sh),("blots",.ref bl)]))) x=some (.ins C d [("well",.ref wl),("shelf",.ref sh),("blots",.ref bl),("knots",.ref kn)]):=af
 generalize upd H7 x (.ins C d (L2.dH "knots" (.ref kn) [("well",.ref wl),("shelf",.ref sh),("blots",.ref bl)]))=H8 at k8 x8
 have W8:=W7.nu x7 Sj k8
 have V8:=V7.nu x7 Si k8
 have B8:Bl CB H8 bl db tb:=k8 _ _ B7 Nm
 have R8:=R7.nu x7 k8
 have q8:cO x H H8:=(q6.trans (jm.aH.keep s7)).trans k8
 intro du dd hd1 hd2 _
 refine⟨du,dd,rfl,af,fun fs9 H9 _ k9=>⟨rfl,?_⟩⟩
 have s9:=oK hd1 hd2 k9
 have x9:=s9 _ _ x8
 have W9:=W8.same s9
 have V9:=V8.same s9
 have B9:Bl CB H9 bl db tb:=s9 _ _ B8
 have R9:=R8.same s9
 refine⟨_,rfl,x,C,d,_,rfl,x9,aG.cl,nd,(by show 4<1000;decide),?_⟩
 have Tt:cO x H9 (upd H9 x (.ins C d (L2.dH "dues" (.ref du) [("well",.ref wl),("shelf",.ref sh),("blots",.ref bl),("knots",.ref kn)]))):=aK x _ _
 have Qj:(upd H9 x (.ins C d (L2.dH "dues" (.ref du) [("well",.ref wl),("shelf",.ref sh),("blots",.ref bl),("knots",.ref kn)]))) x=some (.ins C d [("well",.ref wl),("shelf",.ref sh),("blots",.ref bl),("knots",.ref kn),("dues",.ref du)]):=af
 generalize upd H9 x (.ins C d (L2.dH "dues" (.ref du) [("well",.ref wl),("shelf",.ref sh),("blots",.ref bl),("knots",.ref kn)]))=GX at Tt Qj
 have W10:=W9.nu x9 Sj Tt
 have V10:=V9.nu x9 Si Tt
 have B10:Bl CB GX bl db tb:=Tt _ _ B9 Nm
 have R10:=R9.nu x9 Tt
 have vU:cO x H GX:=(q8.trans (jm.aH.keep s9)).trans Tt
 refine⟨(by show 0≤sizeLine;decide),fun bk Qk=>⟨_,rfl,x,C,d,_,rfl,aj Qk _ _ _ Qj,aG.cl,ET,(by show 5<1000;decide),?_⟩⟩
 have nbx:bk≠x:=(au Qj Qk).symm
 have nSb:¬ (bk=sh∨bk=st∨bk=op∨bk=z):=fun e=>by
  obtain⟨ob,w⟩:=W10.al bk e
  rw[Qk]at w
  cases w
 have nI:=aj Qk (.lst [])
 have VD:cO x (upd GX bk (.lst [])) (upd (upd GX bk (.lst [])) x (.ins C d (L2.dH "book" (.ref bk) [("well",.ref wl),("shelf",.ref sh),("blots",.ref bl),("knots",.ref kn),("dues",.ref du)]))):=aK x _ _
 have W12:=(W10.same nI).nu (nI _ _ Qj) Sj VD
 have V12:=(V10.same nI).nu (nI _ _ Qj) Si VD
 have B12:=VD _ _ (nI _ _ B10) Nm
 have R12:=(R10.same nI).nu (nI _ _ Qj) VD
 obtain⟨as5,hR5,_⟩:=id R5
 have VE:∀ a,(a=sh∨a=st∨a=op∨a=z)→a=x∨H a=none:=fun a e=>.inr (j3 q2 (fun e'=>by rw[e']at e;exact Sj e) (fS a e))
 refine k (fun a=>(a=sh∨a=st∨a=op∨a=z)∨(a=wl∨a=sg∨a=ow∨a=pw)∨a=bk∨a=x∨a=bl∨a=tb) _ ⟨_,_,d,wl,sh,bl,kn,du,bk,dS,st,op,dw,sg,ow,pw,db,tb,[],⟨af,W12,?_,Sj,nSb⟩,V12,B12,R12,?_,?_,?_,?_,fun a=>Iff.rfl⟩ ?_ ((vU.trans (jm.aH.keep nI)).trans VD)
 ·rw[aF nbx]
  exact af
 ·exact⟨.nil,fun _ z=>by cases z⟩
 ·intro a ea
  obtain⟨ob,hob⟩:=V2.al a ea
  refine⟨fun es=>?_,fun eb=>?_,fun ex=>?_⟩
  ·rw[fS a es]at hob;cases hob
  ·obtain⟨ob',w⟩:=V10.al a ea
   rw[eb,Qk]at w
   cases w
  ·rw[ex]at ea;exact Si ea
 ·refine⟨fun es=>?_,fun ew=>?_,fun eb=>?_⟩
  ·obtain⟨ob,w⟩:=W4.al bl es
   rw[hb1]at w;cases w
  ·obtain⟨ob,w⟩:=V4.al bl ew
   rw[hb1]at w;cases w
  ·rw[eb]at B10
   have VF:GX bk=some _:=B10
   rw[Qk]at VF;cases VF
 ·refine⟨fun es=>?_,fun ew=>?_,fun eb=>?_⟩
  ·obtain⟨ob,w⟩:=W4.al tb es
   rw[Sk]at w;cases w
  ·obtain⟨ob,w⟩:=V4.al tb ew
   rw[Sk]at w;cases w
  ·obtain⟨as,hR,_⟩:=id R10
   rw[eb,Qk]at hR;cases hR
 ·intro a ea
  rcases ea with ea|ea|ea|ea|ea|ea
  ·exact VE a ea
  ·exact .inr (fW a ea)
  ·rw[ea];exact .inr (j3 vU nbx Qk)
  ·exact .inl ea
  ·rw[ea];exact .inr (j3 q4 Nm hb1)
  ·by_cases ex:a=x
   ·exact .inl ex
   ·rw[ea]at ex ⊢;exact .inr (j3 q4 ex Sk)
theorem O0.at_{H H':Hp}{q:Addr}{rows:List (List Item)}(h:O0 H H' q rows):iM H' q rows:=by
 obtain⟨_,rs,hq,al⟩:=h
 refine⟨rs.map V.ref,hq,?_⟩
 have key:∀ {as:List Addr} {ds:List (List Item)},b8 (fun r its=>H r=none∧r≠q∧bx H' (.ref r) its) as ds→b8 (bx H') (as.map V.ref) ds:=by
  intro as ds z
  induction z with
  | nil=>exact .nil
  | cons o t ih=>exact .cons o.2.2 ih
 exact key al
abbrev ctW:List Nat:=(Str.ofString "cut").cps.toList
abbrev qtW:List Nat:=(Str.ofString "quote").cps.toList
inductive EC(C CS CW CB XS XP:Addr)(vs:List V)(H:Hp)(Q:VK)(E:XK):Prop
 | mk (U:Addr→Prop) (x:Addr) (pe:nC) (lines:nA) (aB:jU) (nW:Nat) (bC:Row) (s a b:Int) (rows:gB) (_:vs=[.ref x,.int s,.int a,.int b]) (_:vV C CS CW CB U H x pe lines aB nW bC) (_:pe.getLast?=some rows) (_:rows.length≤50) (_:pe.length≤900) (_:lines.length≤900) (_:qx s) (_:qx a) (_:qx b)
  (_:¬ zb rows.length s→∀ H',aH H H'→E (.ref XS) none H') (_:zb rows.length s→∃ sh,Seen rows sh∧(¬ GY a b (sh s).length→∀ H',aH H H'→E (.ref XP) none H')∧(GY a b (sh s).length→∀ es,rows[s.toNat]?=some es→(∃ f,sj (oA rows s.toNat (vG sh a b es)) f) ∧
  ∀ (U':Addr→Prop) (H':Hp),vV C CS CW CB U' H' x (pe++[oA rows s.toNat (vG sh a b es)]) (lines++[(mJ.plain ctW [s,a,b]).line]) aB nW bC→Lz U U' H H'→Q .jw H')):EC C CS CW CB XS XP vs H Q E
inductive yr(C CS CW CB XS XP:Addr)(vs:List V)(H:Hp)(Q:VK)(E:XK):Prop
 | mk (U:Addr→Prop) (x:Addr) (pe:nC) (lines:nA) (aB:jU) (nW:Nat) (bC:Row) (t p s a b:Int) (rows:gB) (_:vs=[.ref x,.int t,.int p,.int s,.int a,.int b]) (_:vV C CS CW CB U H x pe lines aB nW bC) (_:pe.getLast?=some rows) (_:rows.length≤50) (_:pe.length≤900) (_:lines.length≤900) (_:qx t) (_:qx p) (_:qx s) (_:qx a) (_:qx b)
  (_:¬ zb rows.length t→∀ H',aH H H'→E (.ref XS) none H') (_:zb rows.length t→(¬ zb rows.length s→∀ H',aH H H'→E (.ref XS) none H')∧(zb rows.length s→∃ sh,Seen rows sh∧(¬ GY a b (sh s).length→∀ H',aH H H'→E (.ref XP) none H')∧(GY a b (sh s).length→(¬ (0≤p∧p≤(sh t).length)→∀ H',aH H H'→E (.ref XP) none H')∧(0≤p∧p≤(sh t).length→∀ es,rows[t.toNat]?=some es→(∃ f,sj (oA rows t.toNat (lg sh p es (((sh s).take b.toNat).drop a.toNat))) f) ∧
  ∀ (U':Addr→Prop) (H':Hp),vV C CS CW CB U' H' x (pe++[oA rows t.toNat (lg sh p es (((sh s).take b.toNat).drop a.toNat))]) (lines++[(mJ.plain qtW [t,p,s,a,b]).line]) aB nW bC→Lz U U' H H'→Q .jw H')))):yr C CS CW CB XS XP vs H Q E
theorem vc:aJ ["self","sheet","start","stop","items"] ["self","sheet","start","stop"] (ay n6):=⟨rfl,rfl,rfl,by decide +kernel,rfl,by decide +kernel,by decide +kernel⟩
set_option maxHeartbeats 4000000 in
theorem Bv{f C CS CW CB XS XM XT XO XP f1 f2 fc fp:Addr}{fd g1 g2 gc gp:FuncData}(F:iI K "cut" "Library.cut" n6 f fd)(X:yk K mg C CS CW CB XS XM XT XO XP)(A1:JF K mg CS)(A2:Ly K mg)(A6:VB K mg)(aP:aU K C "enter" "Library.enter" bV JR f1 g1)(aM:aU K C "change" "Library.change" cT Lq f2 g2)(rS:aA K mg "cut_items" oV NO fc gc)(uh:aA K mg "parted" tT LF fp gp):aC P w K mg base (nB P w) 6 f fd Qv (EC C CS CW CB XS XP):=by
 obtain⟨LM,_,_,_,_,_,_,_,Z⟩:=X
 have cW:aC P w K mg base bU 5 _ _ Lq (pR C CS):=iu aM.F LM A1 A2 aP
 obtain⟨M,⟨fi,aG⟩,nw,ns,ES,nk,nd,ET,dm,G⟩:=LM
 obtain⟨⟨_,_,d1⟩,⟨_,_,d2⟩,⟨_,_,aQ⟩,⟨_,_,d4⟩,⟨_,_,d7⟩,⟨_,_,br⟩,⟨_,_,d9⟩⟩:=A1
 have dY:aC P w K mg base bU 4 _ _ jk (tE CS):=jq br.F M d2 d4 d7
 have cF:aC P w K mg base (nB P w) 2 _ _ Di (qT CS XS):=ig aQ.F M d1
 obtain⟨T,⟨fj,bF⟩,n1,n2,eO,dB⟩:=M
 obtain⟨⟨_,_,i1⟩,⟨_,_,i2⟩,⟨_,_,i3⟩,⟨_,_,i4⟩,⟨_,_,i5⟩,⟨_,_,i6⟩,⟨_,_,i7⟩,⟨_,_,i8⟩,⟨_,_,i9⟩,⟨_,_,Sd⟩,⟨_,_,Qh⟩,⟨_,_,i12⟩,⟨_,_,Tq⟩,⟨_,_,i14⟩⟩:=A6
 have IC:aC P w K mg base (nB P w) 4 _ _ NO (vH XP):=DY rS.F T Z i1 i2 i3 i4 i5 i6 i7 i8 i9 Sd Qh i12 uh
 refine ER F vc (fun vs H Q E h=>?_) (fun cdv A outer s0 H vs Q E hr h=>?_)
 ·obtain⟨U,x,pe,lines,aB,nW,bC,s,a,b,rows,rfl,_⟩:=h
  rfl
 obtain⟨U,x,pe,lines,aB,nW,bC,s,a,b,rows,rfl,LB,hl,l1,l2,l3,fs,fa,fb,k1,k2⟩:=h
 obtain⟨S,SW,d,wl,sh,bl,kn,du,bk,dS,st,op,dw,sg,ow,pw,db,tb,ops,LU⟩:=id LB
 have lo:=uu LU.L hl
 have hl':=iU hl
 have lp:(qV pe).length=pe.length:=cA _
 have ok:Iv (qV pe) ops:=⟨by omega,by omega⟩
 refine⟨_,(ak (bq (bO (dM (pv 0) rfl) bF.cl aQ.mt cF (hr.mono (by decide)) aQ.b .nil kr (aa (pv 1) ah)))
   (ak (aO (i:=4) vc.nd rfl (Or.inl rfl) (n8 rS IC hr kr (aa (cJ (dM (pv 0) rfl) bF.cl br.mt dY (hr.mono (by decide)) br.b .nil cQ) (aa (pv 1) (aa (pv 2) (aa (pv 3) ah))))))
   (ao (bq (bO (pv 0) aG.cl aM.mt cW (hr.mono (by decide)) aM.b .nil cQ (aa (iz (aa bS (aa (pv 1) (aa (pv 2) (aa (pv 3) ah))))) (aa (pv 1) (aa (pv 4) ah)))))))),?_⟩
 refine⟨_,rfl,x,C,d,_,.ref sh,rfl,LU.L.hx,aG.cl,ns,rfl,sh,dS,_,rfl,LU.L.W.hx,rfl,_,rfl,S,sh,dS,st,op,qV pe,ops,s,rfl,LU.L.W,ok,fs,fun ia=>?_,fun z=>k1 (by rw[← lo];exact z) H (aH.refl _)⟩
 rw[lo]at ia
 obtain⟨f0,sn,k3,k4⟩:=k2 ia
 refine⟨_,rfl,x,C,d,_,.ref sh,rfl,LU.L.hx,aG.cl,ns,rfl,sh,dS,_,rfl,LU.L.W.hx,rfl,S,sh,dS,st,op,qV pe,ops,rfl,LU.L.W,ok,fun rws el q H1 Vz s1=>?_⟩
 rw[hl']at el
 cases el
 have sl:s.toNat<rows.length:=by have:=ia.1;have:=ia.2;omega
 obtain⟨es,es1⟩:∃ es,rows[s.toNat]?=some es:=⟨_,nU sl⟩
 refine⟨_,rfl,_,rfl,_,rfl,q,rows,s,a,b,f0,rfl,⟨Vz.at_,by omega,sn.es,sn.sd,sn.rk,sn.ss,sn.ln⟩,ia.1,ia.2,fa,fb,fun i3 es' q2 H2 Bp hq2 s2 Se=>?_,fun n3 H2 s2=>k3 n3 H2 (s1.trans s2)⟩
 rw[es1]at Bp
 cases Bp
 obtain⟨⟨fB,B⟩,k5⟩:=k4 i3 es es1
 have s12:=s1.trans s2
 have Ez:=LU.same s12
 have Sg:q2≠bk:=fun e=>by
  have y:=(LU.same s1).L.hb
  rw[← e,Se]at y
  cases y
 refine⟨_,rfl,x,d,_,rfl,Ez.L.hx,rfl,_,rfl,_,rfl,_,rfl,(by show 4≤sizeLine;decide),fun t ht=>?_⟩
 have s3:=aj ht (.tup [.str (Str.ofString "cut"),.int s,.int a,.int b])
 have Tj:(upd H2 t (.tup [.str (Str.ofString "cut"),.int s,.int a,.int b])) t=some (.tup [.str (Str.ofString "cut"),.int s,.int a,.int b]):=af
 generalize upd H2 t (.tup [.str (Str.ofString "cut"),.int s,.int a,.int b])=H3 at s3 Tj
 have yJ:=s12.trans s3
 have Tr:=LU.same yJ
 have ss:((s.toNat:Nat):Int)=s:=by have:=ia.1;omega
 refine⟨_,rfl,_,rfl,S,x,d,wl,sh,bl,kn,du,bk,dS,st,op,pe,ops,lines,t,q2,.plain ctW [s,a,b],s.toNat,_,rows,fB,by rw[ss];rfl,Tr.L,(by show H3 t=_;rw[Tj,AD];rfl),⟨(by show tabAt RV ctW=some 3;decide +kernel),?_⟩,hq2.same s3,Sg,hl,by omega,l1,l2,l3,B,fun S' H8 L8 CA=>?_⟩
 ·intro y hy
  have b1:=ia.1
  unfold GY at i3
  rcases List.mem_cons.mp hy with e|hy
  ·rw[e];exact⟨b1,fs.big⟩
  rcases List.mem_cons.mp hy with e|hy
  ·rw[e];exact⟨by omega,fa.big⟩
  ·rw[List.mem_singleton.mp hy];exact⟨by omega,fb.big⟩
 ·obtain⟨U',hL',f'⟩:=Tr.ux L8 CA
  exact k5 U' H8 hL' (f'.pre yJ)
theorem nL:aJ ["self","target","place","source","start","stop","row","items"] ["self","target","place","source","start","stop"] (ay lT):=⟨rfl,rfl,rfl,by decide +kernel,rfl,by decide +kernel,by decide +kernel⟩
set_option maxHeartbeats 4000000 in
theorem yt{f C CS CW CB XS XM XT XO XP fS fZ f1 f2 f3 fp:Addr}{fd g1 g2 g3 gp:FuncData}(F:iI K "quote" "Library.quote" lT f fd)(X:yk K mg C CS CW CB XS XM XT XO XP)(A1:JF K mg CS)(A2:Ly K mg)(A4:Vy K mg fS fZ)(A6:VB K mg)(aP:aU K C "enter" "Library.enter" bV JR f1 g1)(aM:aU K C "change" "Library.change" cT Lq f2 g2)(bI:aU K C "shown" "Library.shown" gh Di f3 g3)(JH:aA K mg "part" Fe nE fp gp):aC P w K mg base (nB P w) 6 f fd Qw (yr C CS CW CB XS XP):=by
 obtain⟨LM,_,_,_,_,_,_,_,Z⟩:=X
 have cW:aC P w K mg base bU 5 _ _ Lq (pR C CS):=iu aM.F LM A1 A2 aP
 have jS:aC P w K mg base (nB P w) 5 _ _ Di (tK C CS XS):=mL bI.F LM A1 A4
 obtain⟨M,⟨fi,aG⟩,nw,ns,ES,nk,nd,ET,dm,G⟩:=LM
 obtain⟨⟨_,_,d1⟩,⟨_,_,d2⟩,⟨_,_,aQ⟩,⟨_,_,d4⟩,⟨_,_,d7⟩,⟨_,_,br⟩,⟨_,_,d9⟩⟩:=A1
 have dY:aC P w K mg base bU 4 _ _ jk (tE CS):=jq br.F M d2 d4 d7
 have cF:aC P w K mg base (nB P w) 2 _ _ Di (qT CS XS):=ig aQ.F M d1
 obtain⟨T,⟨fj,bF⟩,n1,n2,eO,dB⟩:=M
 obtain⟨⟨_,_,i1⟩,⟨_,_,i2⟩,⟨_,_,i3⟩,⟨_,_,i4⟩,⟨_,_,i5⟩,⟨_,_,i6⟩,⟨_,_,i7⟩,⟨_,_,i8⟩,⟨_,_,i9⟩,⟨_,_,Sd⟩,⟨_,_,Qh⟩,⟨_,_,gy⟩,⟨_,_,Tq⟩,⟨_,_,iD⟩⟩:=A6
 have VG:aC P w K mg base (nB P w) 3 _ _ nE (HH XP):=OM JH.F T Z i6 i7 i4 Qh
 have rM:aC P w K mg base bU 2 _ _ eU uc:=wN gy.F T i4
 have pU:aC P w K mg base (nB P w) 4 _ _ JV (mH XP):=rN iD.F T Z i1 i2 i3 i4 i5 i6 i7 i8 i9 Sd Qh gy Tq
 refine ER F nL (fun vs H Q E h=>?_) (fun cdv A outer s0 H vs Q E hr h=>?_)
 ·obtain⟨U,x,pe,lines,aB,nW,bC,t,p,s,a,b,rows,rfl,_⟩:=h
  rfl
 obtain⟨U,x,pe,lines,aB,nW,bC,t,p,s,a,b,rows,rfl,LB,hl,l1,l2,l3,ft,fp,fs,fa,fb,k1,k2⟩:=h
 obtain⟨S,SW,d,wl,sh,bl,kn,du,bk,dS,st,op,dw,sg,ow,pw,db,tb,ops,LU⟩:=id LB
 have lo:=uu LU.L hl
 have hl':=iU hl
 have lp:(qV pe).length=pe.length:=cA _
 have ok:Iv (qV pe) ops:=⟨by omega,by omega⟩
 refine⟨_,(ak (bq (bO (dM (pv 0) rfl) bF.cl aQ.mt cF (hr.mono (by decide)) aQ.b .nil kr (aa (pv 1) ah)))
   (ak (aO (i:=6) nL.nd rfl (Or.inl rfl) (n8 JH VG hr kr (aa (bO (pv 0) aG.cl bI.mt jS (hr.mono (by decide)) bI.b .nil kr (aa (pv 3) ah)) (aa (pv 4) (aa (pv 5) ah)))))
   (ak (aO (i:=7) nL.nd rfl (Or.inl rfl) (n8 iD pU hr kr (aa (cJ (dM (pv 0) rfl) bF.cl br.mt dY (hr.mono (by decide)) br.b .nil cQ) (aa (pv 1) (aa (pv 2) (aa (aN gy rM hr (aa (pv 6) ah)) ah))))))
   (ao (bq (bO (pv 0) aG.cl aM.mt cW (hr.mono (by decide)) aM.b .nil cQ (aa (iz (aa bS (aa (pv 1) (aa (pv 2) (aa (pv 3) (aa (pv 4) (aa (pv 5) ah))))))) (aa (pv 1) (aa (pv 7) ah))))))))),?_⟩
 refine⟨_,rfl,x,C,d,_,.ref sh,rfl,LU.L.hx,aG.cl,ns,rfl,sh,dS,_,rfl,LU.L.W.hx,rfl,_,rfl,S,sh,dS,st,op,qV pe,ops,t,rfl,LU.L.W,ok,ft,fun it=>?_,fun z=>k1 (by rw[← lo];exact z) H (aH.refl _)⟩
 rw[lo]at it
 obtain⟨k3,k4⟩:=k2 it
 refine⟨_,rfl,x,d,_,rfl,LU.L.hx,rfl,_,rfl,S,x,d,wl,sh,bl,kn,du,bk,dS,st,op,pe,ops,lines,rows,s,rfl,LU.L,hl,l1,l2,fs,fun z=>k3 z H (aH.refl _),fun ia=>?_⟩
 obtain⟨f0,sn,k5,k6⟩:=k4 ia
 refine⟨f0,sn,fun o H1 ho s1 fo=>?_⟩
 have ls:(f0 s).length≤10000:=sn.ln s ia.1 ia.2
 have lr0:=uf (f0 s)
 have tt:tot (rowOf (f0 s))=(f0 s).length:=yl _
 refine⟨_,rfl,_,rfl,o,rowOf (f0 s),a,b,rfl,ho,by omega,fa,fb,by rw[tt];exact JG (by omega),fun i3 q0 H2 UH s2 fq0=>?_,fun n3 H2 s2=>k5 (by rw[← tt];exact n3) H2 (s1.trans s2)⟩
 rw[tt]at i3
 have s12:=s1.trans s2
 obtain⟨k7,k8⟩:=k6 i3
 have Ez:=LU.same s12
 refine⟨_,rfl,x,C,d,_,.ref sh,rfl,Ez.L.hx,aG.cl,ns,rfl,sh,dS,_,rfl,Ez.L.W.hx,rfl,S,sh,dS,st,op,qV pe,ops,rfl,Ez.L.W,ok,fun rws el q H3 fs3 s3=>?_⟩
 rw[hl']at el
 cases el
 have yJ:=s12.trans s3
 have tl:t.toNat<rows.length:=by have:=it.1;have:=it.2;omega
 obtain⟨es,es1⟩:∃ es,rows[t.toNat]?=some es:=⟨_,nU tl⟩
 have nnp:∀ {r:Row},lU r→pF r:=fun h p hp=>⟨(h p hp).1,by have:=(h p hp).2;omega⟩
 have Xg:pF (rowOf (f0 s)):=nnp (CU (AS sn.sd sn.rk sn.ss s ia.1 ia.2))
 have nn1:pF (bW (nP a b 0 (rowOf (f0 s)))):=nnp (qP (Az a b _ 0 Xg))
 have lpl:(bW (nP a b 0 (rowOf (f0 s)))).length≤10000:=by
  have:=ud a b (rowOf (f0 s))
  rw[zK]at this
  omega
 have epl:dI (dW (bW (bW (nP a b 0 (rowOf (f0 s))))))=((f0 s).take b.toNat).drop a.toNat:=by
  rw[pL,lD _ fun q hq=>(nn1 q hq).2,vv _ _ _ (qL _),ff]
 refine⟨_,rfl,_,rfl,_,rfl,q0,_,rfl,UH.same s3,by omega,fun oi H4 VC s4 foi=>?_⟩
 have G3:=yJ.trans s4
 refine⟨q,oi,rows,t,p,_,f0,rfl,⟨fs3.at_.same s4,by omega,sn.es,sn.sd,sn.rk,sn.ss,sn.ln⟩,it.1,it.2,VC,wO (qP nn1),?_,fp,fun ip es' q2 H5 Bp hq2 s5 Se=>?_,fun np H5 s5=>k7 np H5 (G3.trans s5)⟩
 ·rw[zK]
  have:=qO (bW (nP a b 0 (rowOf (f0 s))))
  omega
 rw[es1]at Bp
 cases Bp
 rw[epl]at hq2
 obtain⟨⟨fB,B⟩,k9⟩:=k8 ip es es1
 have Lx:=G3.trans s5
 have LU5:=LU.same Lx
 have Sg:q2≠bk:=fun e=>by
  have y:=(LU.same G3).L.hb
  rw[← e,Se]at y
  cases y
 refine⟨_,rfl,x,d,_,rfl,LU5.L.hx,rfl,_,rfl,_,rfl,_,rfl,_,rfl,_,rfl,(by show 6≤sizeLine;decide),fun t' ht=>?_⟩
 have s6:=aj ht (.tup [.str (Str.ofString "quote"),.int t,.int p,.int s,.int a,.int b])
 have VH:(upd H5 t' (.tup [.str (Str.ofString "quote"),.int t,.int p,.int s,.int a,.int b])) t'=some (.tup [.str (Str.ofString "quote"),.int t,.int p,.int s,.int a,.int b]):=af
 generalize upd H5 t' (.tup [.str (Str.ofString "quote"),.int t,.int p,.int s,.int a,.int b])=H6 at s6 VH
 have Qi:=Lx.trans s6
 have Sf:=LU.same Qi
 have ss:((t.toNat:Nat):Int)=t:=by have:=it.1;omega
 refine⟨_,rfl,_,rfl,S,x,d,wl,sh,bl,kn,du,bk,dS,st,op,pe,ops,lines,t',q2,.plain qtW [t,p,s,a,b],t.toNat,_,rows,fB,by rw[ss];rfl,Sf.L,(by show H6 t'=_;rw[VH,AD];rfl),⟨(by show tabAt RV qtW=some 5;decide +kernel),?_⟩,hq2.same s6,Sg,hl,by omega,l1,l2,l3,B,fun S' H8 L8 CA=>?_⟩
 ·intro y hy
  have b1:=ia.1
  have b2:=it.1
  unfold GY at i3
  rcases List.mem_cons.mp hy with e|hy
  ·rw[e];exact⟨b2,ft.big⟩
  rcases List.mem_cons.mp hy with e|hy
  ·rw[e];exact⟨ip.1,fp.big⟩
  rcases List.mem_cons.mp hy with e|hy
  ·rw[e];exact⟨b1,fs.big⟩
  rcases List.mem_cons.mp hy with e|hy
  ·rw[e];exact⟨by omega,fa.big⟩
  ·rw[List.mem_singleton.mp hy];exact⟨by omega,fb.big⟩
 ·obtain⟨U',hL',f'⟩:=Sf.ux L8 CA
  exact k9 U' H8 hL' (f'.pre Qi)
abbrev wnW:List Nat:=(Str.ofString "window").cps.toList
inductive Bw(C CS CW CB XS XP:Addr)(vs:List V)(H:Hp)(Q:VK)(E:XK):Prop
 | mk (U:Addr→Prop) (x:Addr) (pe:nC) (lines:nA) (aB:jU) (nW:Nat) (bC:Row) (t p s:Int) (rows:gB) (_:vs=[.ref x,.int t,.int p,.int s]) (_:vV C CS CW CB U H x pe lines aB nW bC) (_:pe.getLast?=some rows) (_:rows.length≤50) (_:pe.length≤900) (_:lines.length≤900) (_:qx t) (_:qx p) (_:qx s)
  (_:¬ zb rows.length t→∀ H',aH H H'→E (.ref XS) none H') (_:zb rows.length t→(¬ zb rows.length s→∀ H',aH H H'→E (.ref XS) none H')∧(zb rows.length s→∃ sh,Seen rows sh∧(¬ (0≤p∧p≤(sh t).length)→∀ H',aH H H'→E (.ref XP) none H')∧(0≤p∧p≤(sh t).length→∀ es,rows[t.toNat]?=some es→(∃ f,sj (oA rows t.toNat (lg sh p es [-1-s])) f) ∧
  ∀ (U':Addr→Prop) (H':Hp),vV C CS CW CB U' H' x (pe++[oA rows t.toNat (lg sh p es [-1-s])]) (lines++[(mJ.plain wnW [t,p,s]).line]) aB nW bC→Lz U U' H H'→Q .jw H'))):Bw C CS CW CB XS XP vs H Q E
theorem qX:aJ ["self","target","place","source","items"] ["self","target","place","source"] (ay kJ):=⟨rfl,rfl,rfl,by decide +kernel,rfl,by decide +kernel,by decide +kernel⟩
set_option maxHeartbeats 4000000 in
theorem xg{f C CS CW CB XS XM XT XO XP f1 f2:Addr}{fd g1 g2:FuncData}(F:iI K "window" "Library.window" kJ f fd)(X:yk K mg C CS CW CB XS XM XT XO XP)(A1:JF K mg CS)(A2:Ly K mg)(A6:VB K mg)(aP:aU K C "enter" "Library.enter" bV JR f1 g1)(aM:aU K C "change" "Library.change" cT Lq f2 g2):aC P w K mg base (nB P w) 6 f fd Qx (Bw C CS CW CB XS XP):=by
 obtain⟨LM,_,_,_,_,_,_,_,Z⟩:=X
 have cW:aC P w K mg base bU 5 _ _ Lq (pR C CS):=iu aM.F LM A1 A2 aP
 obtain⟨M,⟨fi,aG⟩,nw,ns,ES,nk,nd,ET,dm,G⟩:=LM
 obtain⟨⟨_,_,d1⟩,⟨_,_,d2⟩,⟨_,_,aQ⟩,⟨_,_,d4⟩,⟨_,_,d7⟩,⟨_,_,br⟩,⟨_,_,d9⟩⟩:=A1
 have dY:aC P w K mg base bU 4 _ _ jk (tE CS):=jq br.F M d2 d4 d7
 have cF:aC P w K mg base (nB P w) 2 _ _ Di (qT CS XS):=ig aQ.F M d1
 obtain⟨T,⟨fj,bF⟩,n1,n2,eO,dB⟩:=M
 obtain⟨⟨_,_,i1⟩,⟨_,_,i2⟩,⟨_,_,i3⟩,⟨_,_,i4⟩,⟨_,_,i5⟩,⟨_,_,i6⟩,⟨_,_,i7⟩,⟨_,_,i8⟩,⟨_,_,i9⟩,⟨_,_,Sd⟩,⟨_,_,Qh⟩,⟨_,_,gy⟩,⟨_,_,Tq⟩,⟨_,_,iD⟩⟩:=A6
 have pU:aC P w K mg base (nB P w) 4 _ _ JV (mH XP):=rN iD.F T Z i1 i2 i3 i4 i5 i6 i7 i8 i9 Sd Qh gy Tq
 refine ER F qX (fun vs H Q E h=>?_) (fun cdv A outer s0 H vs Q E hr h=>?_)
 ·obtain⟨U,x,pe,lines,aB,nW,bC,t,p,s,rows,rfl,_⟩:=h
  rfl
 obtain⟨U,x,pe,lines,aB,nW,bC,t,p,s,rows,rfl,LB,hl,l1,l2,l3,ft,fp,fs,k1,k2⟩:=h
 obtain⟨S,SW,d,wl,sh,bl,kn,du,bk,dS,st,op,dw,sg,ow,pw,db,tb,ops,LU⟩:=id LB
 have lo:=uu LU.L hl
 have hl':=iU hl
 have lp:(qV pe).length=pe.length:=cA _
 have ok:Iv (qV pe) ops:=⟨by omega,by omega⟩
 refine⟨_,(ak (bq (bO (dM (pv 0) rfl) bF.cl aQ.mt cF (hr.mono (by decide)) aQ.b .nil kr (aa (pv 1) ah)))
   (ak (bq (bO (dM (pv 0) rfl) bF.cl aQ.mt cF (hr.mono (by decide)) aQ.b .nil kr (aa (pv 3) ah)))
   (ak (aO (i:=4) qX.nd rfl (Or.inl rfl) (n8 iD pU hr kr (aa (cJ (dM (pv 0) rfl) bF.cl br.mt dY (hr.mono (by decide)) br.b .nil cQ) (aa (pv 1) (aa (pv 2) (aa (bH (aa (iz (aa bS (aa (pv 3) ah))) ah)) ah))))))
   (ao (bq (bO (pv 0) aG.cl aM.mt cW (hr.mono (by decide)) aM.b .nil cQ (aa (iz (aa bS (aa (pv 1) (aa (pv 2) (aa (pv 3) ah))))) (aa (pv 1) (aa (pv 4) ah))))))))),?_⟩
 refine⟨_,rfl,x,C,d,_,.ref sh,rfl,LU.L.hx,aG.cl,ns,rfl,sh,dS,_,rfl,LU.L.W.hx,rfl,_,rfl,S,sh,dS,st,op,qV pe,ops,t,rfl,LU.L.W,ok,ft,fun it=>?_,fun z=>k1 (by rw[← lo];exact z) H (aH.refl _)⟩
 rw[lo]at it
 obtain⟨k3,k4⟩:=k2 it
 refine⟨_,rfl,x,C,d,_,.ref sh,rfl,LU.L.hx,aG.cl,ns,rfl,sh,dS,_,rfl,LU.L.W.hx,rfl,_,rfl,S,sh,dS,st,op,qV pe,ops,s,rfl,LU.L.W,ok,fs,fun ia=>?_,fun z=>k3 (by rw[← lo];exact z) H (aH.refl _)⟩
 rw[lo]at ia
 obtain⟨f0,sn,k7,k8⟩:=k4 ia
 refine⟨_,rfl,x,C,d,_,.ref sh,rfl,LU.L.hx,aG.cl,ns,rfl,sh,dS,_,rfl,LU.L.W.hx,rfl,S,sh,dS,st,op,qV pe,ops,rfl,LU.L.W,ok,fun rws el q H1 Vz s1=>?_⟩
 rw[hl']at el
 cases el
 have tl:t.toNat<rows.length:=by have:=it.1;have:=it.2;omega
 obtain⟨es,es1⟩:∃ es,rows[t.toNat]?=some es:=⟨_,nU tl⟩
 refine⟨_,rfl,_,rfl,_,rfl,(by show 2≤sizeLine;decide),fun t2 Fy=>⟨(by show 1≤sizeLine;decide),fun o ho=>?_⟩⟩
 have s2:=aj Fy (.tup [.str (Str.ofString "win"),.int s])
 have t2':(upd H1 t2 (.tup [.str (Str.ofString "win"),.int s])) t2=some (.tup [.str (Str.ofString "win"),.int s]):=af
 generalize upd H1 t2 (.tup [.str (Str.ofString "win"),.int s])=H2 at s2 t2' ho
 have s3:=aj ho (.lst [.ref t2])
 have o3:(upd H2 o (.lst [.ref t2])) o=some (.lst [.ref t2]):=af
 show mH _ _ (upd H2 o (.lst [.ref t2])) _ _
 generalize upd H2 o (.lst [.ref t2])=H3 at s3 o3
 have yJ:=s1.trans (s2.trans s3)
 have VC:bx H3 (.ref o) [.win s]:=⟨o,_,rfl,o3,.cons ⟨t2,rfl,s3 _ _ t2'⟩ .nil⟩
 refine⟨q,o,rows,t,p,[.win s],f0,rfl,⟨Vz.at_.same (s2.trans s3),by omega,sn.es,sn.sd,sn.rk,sn.ss,sn.ln⟩,it.1,it.2,VC,.one ia.1,(by show 1≤10000;decide),fp,fun ip es' q2 H5 Bp hq2 s5 Se=>?_,fun np H5 s5=>k7 np H5 (yJ.trans s5)⟩
 rw[es1]at Bp
 cases Bp
 rw[show dI [Item.win s]=[-1-s] from rfl]at hq2
 obtain⟨⟨fB,B⟩,k9⟩:=k8 ip es es1
 have Lx:=yJ.trans s5
 have LU5:=LU.same Lx
 have Sg:q2≠bk:=fun e=>by
  have y:=(LU.same yJ).L.hb
  rw[← e,Se]at y
  cases y
 refine⟨_,rfl,x,d,_,rfl,LU5.L.hx,rfl,_,rfl,_,rfl,_,rfl,(by show 4≤sizeLine;decide),fun t' ht=>?_⟩
 have s6:=aj ht (.tup [.str (Str.ofString "window"),.int t,.int p,.int s])
 have VH:(upd H5 t' (.tup [.str (Str.ofString "window"),.int t,.int p,.int s])) t'=some (.tup [.str (Str.ofString "window"),.int t,.int p,.int s]):=af
 generalize upd H5 t' (.tup [.str (Str.ofString "window"),.int t,.int p,.int s])=H6 at s6 VH
 have Qi:=Lx.trans s6
 have Sf:=LU.same Qi
 have ss:((t.toNat:Nat):Int)=t:=by have:=it.1;omega
 refine⟨_,rfl,_,rfl,S,x,d,wl,sh,bl,kn,du,bk,dS,st,op,pe,ops,lines,t',q2,.plain wnW [t,p,s],t.toNat,_,rows,fB,by rw[ss];rfl,Sf.L,(by show H6 t'=_;rw[VH,AD];rfl),⟨(by show tabAt RV wnW=some 3;decide +kernel),?_⟩,hq2.same s6,Sg,hl,by omega,l1,l2,l3,B,fun S' H8 L8 CA=>?_⟩
 ·intro y hy
  have b1:=ia.1
  have b2:=it.1
  rcases List.mem_cons.mp hy with e|hy
  ·rw[e];exact⟨b2,ft.big⟩
  rcases List.mem_cons.mp hy with e|hy
  ·rw[e];exact⟨ip.1,fp.big⟩
  ·rw[List.mem_singleton.mp hy];exact⟨b1,fs.big⟩
 ·obtain⟨U',hL',f'⟩:=Sf.ux L8 CA
  exact k9 U' H8 hL' (f'.pre Qi)
theorem Nn{z:Str}{i:Int}{n:Nat}(hn:z.length=n)(h0:0≤i)(h1:i<n):∃ c,xF z.cps.toList i=some c:=by
 have hl:i.toNat<z.cps.toList.length:=by
  have:z.cps.toList.length=z.length:=by show _=z.cps.size;simp
  omega
 refine⟨z.cps.toList[i.toNat],?_⟩
 have e:xF z.cps.toList ((i.toNat:Nat):Int)=some z.cps.toList[i.toNat]:=eV (by simp)
 rw[Int.toNat_of_nonneg h0]at e
 exact e
inductive ED(vs:List V)(H:Hp)(Q:VK)(E:XK):Prop
 | mk (l c:Addr) (b:Bool) (_:vs=[.ref l,.bl b]) (_:dG H l c) (_: ∀ (ch:Nat) (H':Hp),dG H' l c→(∀ a,a≠l→H' a=H a)→Q (wG ch) H'):ED vs H Q E
inductive EE(vs:List V)(H:Hp)(Q:VK)(E:XK):Prop
 | mk (l c:Addr) (m:Nat) (_:vs=[.ref l,.int (m:Nat)]) (_:dG H l c) (_:m≤1000) (_: ∀ (cs:List Nat) (H':Hp),cs.length=m→dG H' l c→cO l H H'→Q (.str (txt cs)) H'):EE vs H Q E
theorem yP:aJ ["_law_src_here","_law_few","_law_some"] ["_law_src_here","_law_few"] (ay kW):=⟨rfl,rfl,rfl,by decide +kernel,rfl,by decide +kernel,by decide +kernel⟩
theorem yQ:aJ ["_law_src_here","_law_many","_law_few"] ["_law_src_here","_law_many"] (ay kX):=⟨rfl,rfl,rfl,by decide +kernel,rfl,by decide +kernel,by decide +kernel⟩
theorem GI{f fN:Addr}{fd M4:FuncData}(F:iI K "_law_sign" "_law_sign" kW f fd)(T:n9 mg)(aV:aA K mg "_law_next" iW xq fN M4):aC P w K mg base bU 2 f fd JW ED:=by
 have bJ:aC P w K mg base bU 1 fN M4 xq sU:=lE aV.F T
 refine F.ok yP (fun vs H Q E h=>?_) (fun cdv A outer s H vs Q E hr h=>?_)
 ·obtain⟨l,c,b,rfl,_⟩:=h
  rfl
 obtain⟨l,c,b,rfl,S,k⟩:=h
 refine⟨_,(ak (aO (i:=2) yP.nd rfl (Or.inl rfl) bS)
   (ak (cG (oQ (pv 1) (fun _=>rfl))
   (ao (aT (bG L0 bS (aN aV bJ hr (aa (pv 0) (aa az ah))) (fun _ _=>rfl))))
   bK)
   (ao (aT (bG L0 (pv 2) (aN aV bJ hr (aa (pv 0) (aa az ah))) (fun _ _=>rfl)))))),?_⟩
 refine⟨_,rfl,b,rfl,eG (fun _=>?_) (fun _=>?_)⟩
 ·refine⟨_,rfl,l,c,4,rfl,S,by decide,by decide,fun v H1 a0 a1 S1 k1=>?_⟩
  obtain⟨ch,e⟩:=Nn (z:=Str.ofString "a# b") (n:=4) (by decide +kernel) a0 a1
  exact⟨_,_,ch,rfl,rfl,(by decide +kernel),e,k ch H1 S1 k1⟩
 ·refine⟨_,rfl,_,rfl,l,c,94,rfl,S,by decide,by decide,fun v H1 a0 a1 S1 k1=>?_⟩
  obtain⟨ch,e⟩:=Nn (z:=Str.ofString " !\"#$&'()*+,-./0123456789:;<=>?@ABCDEFGHIJKLMNOPQRSTUVWXYZ[\\]^_`abcdefghijklmnopqrstuvwxyz{|}~") (n:=94) (by decide +kernel) a0 a1
  exact⟨_,_,ch,rfl,rfl,(by decide +kernel),e,k ch H1 S1 k1⟩
theorem GJ{f fN fS:Addr}{fd M4 KO:FuncData}(F:iI K "_law_text" "_law_text" kX f fd)(T:n9 mg)(aV:aA K mg "_law_next" iW xq fN M4)(jT:aA K mg "_law_sign" kW JW fS KO):aC P w K mg base bU 3 f fd LG EE:=by
 have bJ:aC P w K mg base bU 1 fN M4 xq sU:=lE aV.F T
 have ID:aC P w K mg base bU 2 fS KO JW ED:=GI jT.F T aV
 refine F.ok yQ (fun vs H Q E h=>?_) (fun cdv A outer s H vs Q E hr h=>?_)
 ·obtain⟨l,c,m,rfl,_⟩:=h
  rfl
 obtain⟨l,c,m,rfl,S,hm,k⟩:=h
 refine⟨_,(ak (aO (i:=2) yQ.nd rfl (Or.inr rfl) (nV mY (aN aV bJ hr (aa (pv 0) (aa az ah))) az (bZ _)))
   (ao (aT (je PySem.F.plainAttrs_str PySem.F.slot_str_join PySem.F.type_str_join sY bS (aa (ku (N:=["_law_k","_law_src_here","_law_few"]) (r9 (sc:=ay kX) (NX:=["_law_src_here","_law_many","_law_few"]) (jx:=[none,some 0,some 2]) rfl rfl rfl (by decide +kernel) (by decide +kernel) rfl (by decide +kernel) rfl (by decide +kernel)) rfl (oG rfl T.oh (aa (pv 1) ah)) (fun _ _ _ _ _ _=>(aW (i:=0) (show List.Nodup (["_law_k","_law_src_here","_law_few"]:List Str) by decide +kernel) rfl (Or.inl rfl))) (fun _ _ _ _ _ _=>iJ) (fun _ _ _ _ _ _=>(aN jT ID hr (aa (pv 1) (aa (pv 2) ah))))) ah))))),?_⟩
 refine⟨_,rfl,l,c,2,rfl,S,by decide,by decide,fun v H1 _ _ S1 k1=>⟨rfl,?_⟩⟩
 have K1:cO l H H1:=fun b o e m=>(k1 b m).trans e
 refine⟨rfl,_,rfl,(m:Nat),rfl,by omega,by omega,fun acc hacc=>FQ (lo:=0) (k:=((m:Nat):Int).toNat) (fun i σ H2=>∃ (u:Option V) (cs:List Nat),σ=[u,some (.ref l),some (.bl (decide (V.int v=V.int 0)))]∧H2 acc=some (.lst (cs.map wG))∧cs.length=i∧dG H2 l c∧cO l H H2) ⟨none,[],rfl,af,rfl,S1.same (aj hacc _),fun b o e m=>aj hacc _ _ _ (K1 _ _ e m)⟩ ?_ ?_⟩
 ·rintro i σ H2 hi ⟨u,cs,rfl,ha,hl,S2,K2⟩
  have na:acc≠l:=(S1.ne hacc).1.symm
  have nc:acc≠c:=(S1.ne hacc).2.symm
  refine⟨_,rfl,_,rfl,l,c,_,rfl,S2,fun ch H3 S3 k3=>⟨_,by rw[k3 acc na];exact ha,(by rw[cA];exact aL (by omega)),_,cs++[ch],rfl,?_,?_,?_,?_⟩⟩
  ·rw[af,lH]
   rfl
  ·rw[dU,hl]
   rfl
  ·exact S3.keep (aK acc _ _) na.symm nc.symm
  ·intro b o e m
   by_cases z:b=acc
   ·rw[z]at e
    have:=j3 K1 na hacc
    rw[this]at e
    cases e
   rw[aF z,k3 b m]
   exact K2 _ _ e m
 ·rintro σ H2 ⟨u,cs,rfl,ha,hl,S2,K2⟩
  have hl':cs.length=m:=by omega
  exact⟨acc,cs,rfl,rfl,ha,by omega,k cs H2 hl' S2 K2⟩
theorem xh{α β:Type}{F:α→β→Prop}:∀ {xs:List α} {ys:List β} {x:α} {y:β},Paired F xs ys→F x y→Paired F (xs++[x]) (ys++[y])
 | _,_,_,_,.nil,e=>.cons e .nil
 | _,_,_,_,.cons r t,e=>.cons r (xh t e)
theorem vd{α β:Type}{F:α→β→Prop}:∀ {xs xs':List α} {ys ys':List β},Paired F xs ys→Paired F xs' ys'→Paired F (xs++xs') (ys++ys')
 | _,_,_,_,.nil,t=>t
 | _,_,_,_,.cons e r,t=>.cons e (vd r t)
def Ql(H:Hp)(a:Addr)(q:Int × Nat):Prop:=H a=some (.tup [.int q.1,wG q.2])
inductive Bx(H:Hp)(v:Addr)(aB:jU):Prop
 | mk (as:List Addr) (_:H v=some (.lst (as.map V.ref))) (_:Paired (Ql H) as aB):Bx H v aB
abbrev kI:Key:=.inr (Str.ofString "ink")
abbrev kR:Key:=.inr (Str.ofString "rows")
abbrev kP:Key:=.inr (Str.ofString "past")
abbrev kVl:Key:=.inr (Str.ofString "veil")
abbrev zP(ik rw ps vl:Addr):List (Key × V):=[(kI,.ref ik),(kR,.ref rw),(kP,.ref ps),(kVl,.ref vl)]
def Tu(W:Addr→Prop)(ik ps:Addr)(H:Hp)(v:V)(es:List Int):Prop:=∃ b,v=.ref b∧W b∧b≠ik∧b≠ps∧H b=some (.lst (es.map V.int))
def Pa(W:Addr→Prop)(ik ps:Addr)(H:Hp)(a:Addr)(rows:gB):Prop:=W a∧a≠ik∧a≠ps∧∃ vs,H a=some (.lst vs)∧b8 (Tu W ik ps H) vs rows
structure Pb(W:Addr→Prop)(H:Hp)(w ik rw ps vl:Addr)(aB:jU)(pe:nC)(rows:gB):Prop where
 ww:W w
 wi:W ik
 wp:W ps
 wv:W vl
 al:∀ a,W a→∃ ob,H a=some ob
 hw:H w=some (.dK (zP ik rw ps vl))
 hi:Bx H ik aB
 hr:Pa W ik ps H rw rows
 hp:∃ vs,H ps=some (.lst vs)∧b8 (fun v rs=>∃ a,v=.ref a∧Pa W ik ps H a rs) vs pe
 ne:ik≠ps
 lst:pe.getLast?=some rows
def Wo(W:Addr→Prop)(H:Hp)(w:Addr)(aB:jU)(pe:nC)(rows:gB):Prop:=∃ ik rw ps vl,Pb W H w ik rw ps vl aB pe rows
theorem Tu.fr{W W':Addr→Prop}{ik ps:Addr}{H H':Hp}{v:V}{es:List Int}(s:∀ a,W a→W' a)(k:∀ a xs,H a=some (.lst xs)→W a→a≠ik→a≠ps→H' a=some (.lst xs)):Tu W ik ps H v es→Tu W' ik ps H' v es:=fun ⟨b,e,w,n1,n2,h⟩=>⟨b,e,s _ w,n1,n2,k _ _ h w n1 n2⟩
theorem Pa.fr{W W':Addr→Prop}{ik ps:Addr}{H H':Hp}{a:Addr}{rows:gB}(s:∀ a,W a→W' a)(k:∀ a xs,H a=some (.lst xs)→W a→a≠ik→a≠ps→H' a=some (.lst xs)):Pa W ik ps H a rows→Pa W' ik ps H' a rows:=fun ⟨w,n1,n2,vs,h,al⟩=>⟨s _ w,n1,n2,vs,k _ _ h w n1 n2,al.mono fun _ _=>Tu.fr s k⟩
theorem Bx.two{H H':Hp}{v:Addr}{aB:jU}(h:Bx H v aB)(k:∀ xs,H v=some (.lst xs)→H' v=some (.lst xs))(t:∀ a xs,H a=some (.tup xs)→H' a=some (.tup xs)):Bx H' v aB:=by
 obtain⟨as,hv,pa⟩:=h
 exact⟨as,k _ hv,Paired.EZ pa fun a q e=>t _ _ e⟩
theorem Pb.fr{W:Addr→Prop}{H H':Hp}{w ik rw ps vl:Addr}{aB:jU}{pe:nC}{rows:gB}(h:Pb W H w ik rw ps vl aB pe rows)(k:∀ a ob,H a=some ob→W a→H' a=some ob)(t:∀ a xs,H a=some (.tup xs)→H' a=some (.tup xs)):Pb W H' w ik rw ps vl aB pe rows:=by
 obtain⟨ww,wi,wp,wv,al,hw,hi,hr,⟨vs,hp,a2⟩,ne,lst⟩:=h
 refine⟨ww,wi,wp,wv,fun a z=>?_,k _ _ hw ww,hi.two (fun xs e=>k _ _ e wi) t,hr.fr (fun _ z=>z) (fun a xs e z _ _=>k _ _ e z),⟨vs,k _ _ hp wp,a2.mono fun v rs ⟨a,e,z⟩=>⟨a,e,z.fr (fun _ y=>y) (fun a xs e y _ _=>k _ _ e y)⟩⟩,ne,lst⟩
 obtain⟨ob,e⟩:=al a z
 exact⟨ob,k _ _ e z⟩
theorem Wo.fr{W:Addr→Prop}{H H':Hp}{w:Addr}{aB:jU}{pe:nC}{rows:gB}(h:Wo W H w aB pe rows)(k:∀ a ob,H a=some ob→W a→H' a=some ob)(t:∀ a xs,H a=some (.tup xs)→H' a=some (.tup xs)):Wo W H' w aB pe rows:=by
 obtain⟨ik,rw,ps,vl,z⟩:=h
 exact⟨ik,rw,ps,vl,z.fr k t⟩
theorem Wo.same{W:Addr→Prop}{H H':Hp}{w:Addr}{aB:jU}{pe:nC}{rows:gB}(h:Wo W H w aB pe rows)(s:aH H H'):Wo W H' w aB pe rows:=h.fr (fun a ob e _=>s a ob e) fun a xs e=>s _ _ e
def JI:Sp:=fun vs H Q _=>vs=[]∧∀ (W:Addr→Prop) (w:Addr) (H':Hp),Wo W H' w [] [[]] []→(∀ a,W a→H a=none)→aH H H'→Q (.ref w) H'
theorem EF:aJ [] [] (ay m7):=⟨rfl,rfl,rfl,by decide +kernel,rfl,by decide +kernel,by decide +kernel⟩
theorem VI{X:Cx}{s1 s2 s3 s4:Str}{a1 a2 a3 a4:Nat}{p1 p2 p3 p4 pos:Pos}{v1 v2 v3 v4:Expr}{t1 t2 t3 t4:TE}(h1:PE X v1 t1)(h2:PE X v2 t2)(h3:PE X v3 t3)(h4:PE X v4 t4) :
  PE X (.Dict [some (.Constant (.str s1) a1 p1),some (.Constant (.str s2) a2 p2),some (.Constant (.str s3) a3 p3),some (.Constant (.str s4) a4 p4)] [v1,v2,v3,v4] pos) (MD [(tC (.str s1),t1),(tC (.str s2),t2),(tC (.str s3),t3),(tC (.str s4),t4)]) :=
 Oz (wD bS h1 (wD bS h2 (wD bS h3 (wD bS h4 Ox)))) rfl rfl (by simp) (by show 4≤15;decide)
abbrev tWo:TE:=MD [(tC (.str (Str.ofString "ink")),Kd Dp),(tC (.str (Str.ofString "rows")),Kd Dp),(tC (.str (Str.ofString "past")),Kd (PF (Kd Dp) Dp)),(tC (.str (Str.ofString "veil")),Kd Dp)]
theorem Np:∃ (e:Expr) (p:Pos),lN m7=[.Return (some e) p]∧∀ X:Cx,PE X e tWo :=
 ⟨_,_,rfl,fun X=>@VI X _ _ _ _ _ _ _ _ _ _ _ _ _ _ _ _ _ _ _ _ _ (bH ah) (bH ah) (bH (aa (bH ah) ah)) (bH ah)⟩
theorem EG{f:Addr}{fd:FuncData}(F:iI K "_law_world" "_law_world" m7 f fd):aC P w K mg base bU 1 f fd [] JI:=by
 refine F.ok EF (fun vs H Q E h=>?_) (fun cdv A outer s H vs Q E hr h=>?_)
 ·obtain⟨rfl,_⟩:=h
  rfl
 obtain⟨rfl,k⟩:=h
 obtain⟨e,p,he,pw⟩:=Np
 rw[he]
 refine⟨_,ao (aT (pw _)),?_⟩
 intro w hw
 refine⟨(by show 0≤sizeLine;decide),fun ik hik=>⟨(by show 0≤sizeLine;decide),fun rw hrw=>⟨(by show 0≤sizeLine;decide),fun z hz=>⟨(by show 1≤sizeLine;decide),fun ps hps=>⟨(by show 0≤sizeLine;decide),fun vl hvl=>?_⟩⟩⟩⟩⟩
 have s0:=aj hw (.dK [])
 have w0:(upd H w (.dK [])) w=some (.dK []):=af
 generalize upd H w (.dK [])=H0 at s0 w0 hik hrw hz hps hvl
 have s1:=aj hik (.lst [])
 have i1:(upd H0 ik (.lst [])) ik=some (.lst []):=af
 generalize upd H0 ik (.lst [])=H1 at s1 i1 hrw hz hps hvl
 have s2:=aj hrw (.lst [])
 have r2:(upd H1 rw (.lst [])) rw=some (.lst []):=af
 generalize upd H1 rw (.lst [])=H2 at s2 r2 hz hps hvl
 have s3:=aj hz (.lst [])
 have z3:(upd H2 z (.lst [])) z=some (.lst []):=af
 generalize upd H2 z (.lst [])=H3 at s3 z3 hps hvl
 have s4:=aj hps (.lst [.ref z])
 have p4:(upd H3 ps (.lst [.ref z])) ps=some (.lst [.ref z]):=af
 generalize upd H3 ps (.lst [.ref z])=H4 at s4 p4 hvl
 have s5:=aj hvl (.lst [])
 have v5:(upd H4 vl (.lst [])) vl=some (.lst []):=af
 generalize upd H4 vl (.lst [])=H5 at s5 v5
 have Lx:aH H1 H5:=s2.trans (s3.trans (s4.trans s5))
 have s05:aH H0 H5:=s1.trans Lx
 have w5:=s05 _ _ w0
 have i5:=Lx _ _ i1
 have r5:=(s3.trans (s4.trans s5)) _ _ r2
 have z5:=(s4.trans s5) _ _ z3
 have p5:=s5 _ _ p4
 have nl:∀ {a:Addr} {xs:List V},H5 a=some (.lst xs)→a≠w:=fun {a xs} e q=>by rw[q,w5]at e;cases e
 have n1:rw≠ik:=(au i1 hrw).symm
 have n2:rw≠ps:=au (s3 _ _ r2) hps
 have n3:z≠ik:=(au (s2 _ _ i1) hz).symm
 have n4:z≠ps:=au z3 hps
 have n5:ik≠ps:=au ((s2.trans s3) _ _ i1) hps
 refine⟨w5,zP ik rw ps vl,rfl,(by show 4≤15;decide),?_⟩
 rw[show xP [] (zP ik rw ps vl)=zP ik rw ps vl by kernel_rfl]
 have up:∀ {a:Addr} {xs:List V},H5 a=some (.lst xs)→(upd H5 w (.dK (zP ik rw ps vl))) a=some (.lst xs):=fun {a xs} e=>by rw[aF (nl e)];exact e
 have f0:∀ a,H0 a=none→H a=none:=fun a e=>aX s0 e
 refine k (fun a=>a=w∨a=ik∨a=rw∨a=z∨a=ps∨a=vl) w _ ⟨ik,rw,ps,vl,.inl rfl,.inr (.inl rfl),.inr (.inr (.inr (.inr (.inl rfl)))),.inr (.inr (.inr (.inr (.inr rfl)))),fun a e=>?_,af,⟨[],up i5,.nil⟩,⟨.inr (.inr (.inl rfl)),n1,n2,[],up r5,.nil⟩,⟨[.ref z],up p5,.cons ⟨z,rfl,.inr (.inr (.inr (.inl rfl))),n3,n4,[],up z5,.nil⟩ .nil⟩,n5,rfl⟩ (fun a e=>?_) (cD hw (s0.trans s05) (aK w _ _))
 ·rcases e with rfl|rfl|rfl|rfl|rfl|rfl
  ·exact⟨_,af⟩
  ·exact⟨_,up i5⟩
  ·exact⟨_,up r5⟩
  ·exact⟨_,up z5⟩
  ·exact⟨_,up p5⟩
  ·exact⟨_,up v5⟩
 ·rcases e with rfl|rfl|rfl|rfl|rfl|rfl
  ·exact hw
  ·exact f0 _ hik
  ·exact f0 _ (aX s1 hrw)
  ·exact f0 _ (aX s1 (aX s2 hz))
  ·exact f0 _ (aX s1 (aX s2 (aX s3 hps)))
  ·exact f0 _ (aX s1 (aX s2 (aX s3 (aX s4 hvl))))
inductive EH(vs:List V)(H:Hp)(Q:VK)(E:XK):Prop
 | mk (W:Addr→Prop) (w r:Addr) (aB:jU) (pe:nC) (rows rows':gB) (_:vs=[.ref w,.ref r]) (_:Wo W H w aB pe rows) (_:pe.length≤1000) (_:(∀ ik ps,(∃ rw vl,H w=some (.dK (zP ik rw ps vl)))→Pa W ik ps H r rows')) (_: ∀ (H':Hp),Wo W H' w aB (pe++[rows']) rows'→(∀ a ob,H a=some ob→¬ W a→H' a=some ob)→(∀ a xs,H a=some (.tup xs)→H' a=some (.tup xs))→Q .jw H'):EH vs H Q E
theorem GK:aJ ["_law_world_here","_law_rows"] ["_law_world_here","_law_rows"] (ay kZ):=⟨rfl,rfl,rfl,by decide +kernel,rfl,by decide +kernel,by decide +kernel⟩
theorem yR{f:Addr}{fd:FuncData}(F:iI K "_law_keep" "_law_keep" kZ f fd):aC P w K mg base bU 1 f fd G7 EH:=by
 refine F.ok GK (fun vs H Q E h=>?_) (fun cdv A outer s H vs Q E hr h=>?_)
 ·obtain⟨W,w,r,aB,pe,rows,rows',rfl,_⟩:=h
  rfl
 obtain⟨W,w,r,aB,pe,rows,rows',rfl,⟨ik,rw,ps,vl,h⟩,lp,hr',k⟩:=h
 have hu:=m5 hr
 refine⟨_,(ak (wC hu (pv 0) bS (pv 1) rfl)
   (ao (bq (je rA vg vh cP (gW hu (pv 0) bS (fun _ _=>rfl)) (aa (pv 1) ah))))),?_⟩
 have hr2:=hr' ik ps ⟨rw,vl,h.hw⟩
 refine⟨_,rfl,_,rfl,w,_,rfl,DE.k (k:=kR) h.hw (by show 4<sizeLine;decide),?_⟩
 rw[show putK (zP ik rw ps vl) kR (.ref r)=zP ik r ps vl by kernel_rfl]
 obtain⟨Sm,hp,al⟩:=h.hp
 have k1:=aK w H (.dK (zP ik r ps vl))
 have w1:(upd H w (.dK (zP ik r ps vl))) w=some (.dK (zP ik r ps vl)):=af
 have nw:∀ {a:Addr} {o:HO},H a=some o→(∀ kvs,o≠.dK kvs)→a≠w:=fun {a o} e n q=>by rw[q,h.hw]at e;cases e;exact n _ rfl
 generalize upd H w (.dK (zP ik r ps vl))=H1 at k1 w1
 have hp1:=k1 _ _ hp (nw hp (fun _ z=>by cases z))
 have z:=pB.k (k:=kP) w1
 rw[show cC (zP ik r ps vl) kP=some (.ref ps) by kernel_rfl]at z
 have lpv:Sm.length=pe.length:=al.len
 refine⟨_,rfl,w,_,rfl,z,.inl ⟨rfl,_,bN.of hp1⟩,_,rfl,ps,_,_,rfl,rfl,hp1,aL (by omega),?_⟩
 have Xe:w≠ps:=(nw hp (fun _ z=>by cases z)).symm
 have ls:∀ a xs,H a=some (.lst xs)→a≠ps→(upd H1 ps (.lst (Sm++[.ref r]))) a=some (.lst xs):=fun a xs e n=>by
  rw[aF n]
  exact k1 _ _ e (nw e (fun _ z=>by cases z))
 have tp:∀ a xs,H a=some (.tup xs)→(upd H1 ps (.lst (Sm++[.ref r]))) a=some (.tup xs):=fun a xs e=>by
  rw[aF (cY e hp (by intro z;cases z))]
  exact k1 _ _ e (nw e (fun _ z=>by cases z))
 have rwf:∀ {a:Addr} {rs:gB},Pa W ik ps H a rs→Pa W ik ps (upd H1 ps (.lst (Sm++[.ref r]))) a rs:=fun {a rs} q=>q.fr (fun _ y=>y) fun a xs e _ _ n=>ls a xs e n
 have G0:=rwf hr2
 refine k _ ⟨ik,r,ps,vl,h.ww,h.wi,h.wp,h.wv,fun a wa=>?_,?_,h.hi.two (fun xs e=>ls _ _ e h.ne) tp,G0,⟨_,af,(al.mono fun v rs ⟨a,e,q⟩=>⟨a,e,rwf q⟩).app (.cons ⟨r,rfl,G0⟩ .nil)⟩,h.ne,xr⟩ (fun a ob e n=>?_) tp
 ·by_cases e1:a=ps
  ·rw[e1];exact⟨_,af⟩
  rw[aF e1]
  by_cases e2:a=w
  ·rw[e2];exact⟨_,w1⟩
  ·obtain⟨ob,e⟩:=h.al a wa
   exact⟨ob,k1 _ _ e e2⟩
 ·rw[aF Xe]
  exact w1
 ·rw[aF (fun q=>n (by rw[q];exact h.wp))]
  exact k1 _ _ e (fun q=>n (by rw[q];exact h.ww))
theorem vV.al{C CS CW CB:Addr}{U:Addr→Prop}{H:Hp}{x:Addr}{pe:nC}{lines:nA}{aB:jU}{nW:Nat}{bC:Row}(h:vV C CS CW CB U H x pe lines aB nW bC){a:Addr}(z:U a):∃ ob,H a=some ob:=by
 obtain⟨S,SW,d,wl,sh,bl,kn,du,bk,dS,st,op,dw,sg,ow,pw,db,tb,ops,L,W,B,R,DN,dj,db',dt,u⟩:=h
 obtain⟨as,hR,_⟩:=R
 rcases (u a).mp z with y|y|y|y|y|y
 ·exact L.W.al a y
 ·exact W.al a y
 ·rw[y];exact⟨_,L.hb⟩
 ·rw[y];exact⟨_,L.hx⟩
 ·rw[y];exact⟨_,B⟩
 ·rw[y];exact⟨_,hR⟩
theorem Wo.al{W:Addr→Prop}{H:Hp}{w:Addr}{aB:jU}{pe:nC}{rows:gB}(h:Wo W H w aB pe rows){a:Addr}(z:W a):∃ ob,H a=some ob:=by
 obtain⟨ik,rw,ps,vl,y⟩:=h
 exact y.al a z
structure zQ(C CS CW CB:Addr)(H:Hp)(l c w x:Addr)(U W:Addr→Prop)(pe:nC)(rows:gB)(pq:nC)(rq:gB)(lines:nA)(aB:jU)(nW:Nat)(bC:Row):Prop where
 src:dG H l c
 EU:vV C CS CW CB U H x pe lines aB nW bC
 lst:pe.getLast?=some rows
 wo:Wo W H w aB pq rq
 du:∀ a,U a→¬ W a∧a≠l∧a≠c
 dw:∀ a,W a→a≠l∧a≠c
def JJ(l:Addr)(U W U' W':Addr→Prop)(H H':Hp):Prop:=(∀ a,U' a∨W' a→U a∨W a∨H a=none)∧(∀ a ob,H a=some ob→a≠l→¬ U a→¬ W a→H' a=some ob)∧∀ a xs,H a=some (.tup xs)→H' a=some (.tup xs)
theorem JJ.trans{l:Addr}{U W U1 W1 U2 W2:Addr→Prop}{H H1 H2:Hp}(f:JJ l U W U1 W1 H H1)(hl:∃ ls,H1 l=some ls)(g:JJ l U1 W1 U2 W2 H1 H2):JJ l U W U2 W2 H H2:=by
 have key:∀ a,U1 a∨W1 a∨H1 a=none→U a∨W a∨H a=none:=by
  intro a z
  rcases z with z|z|z
  ·exact f.1 a (.inl z)
  ·exact f.1 a (.inr z)
  by_cases u:U a
  ·exact .inl u
  by_cases v:W a
  ·exact .inr (.inl v)
  refine .inr (.inr ?_)
  cases ea:H a with
  | none=>rfl
  | some ob =>
   exfalso
   by_cases n:a=l
   ·obtain⟨ls,hl⟩:=hl
    rw[n,hl]at z
    cases z
   rw[f.2.1 _ _ ea n u v]at z
   cases z
 have out:∀ a ob,H a=some ob→¬ U a→¬ W a→¬ U1 a∧¬ W1 a:=by
  intro a ob e u v
  refine⟨fun z=>?_,fun z=>?_⟩
  ·rcases f.1 a (.inl z) with y|y|y
   ·exact u y
   ·exact v y
   ·rw[y]at e;cases e
  ·rcases f.1 a (.inr z) with y|y|y
   ·exact u y
   ·exact v y
   ·rw[y]at e;cases e
 exact⟨fun a z=>key a (g.1 a z),fun a ob e n u v=>g.2.1 _ _ (f.2.1 _ _ e n u v) n (out a ob e u v).1 (out a ob e u v).2,fun a xs e=>g.2.2 _ _ (f.2.2 _ _ e)⟩
theorem zQ.mv{C CS CW CB:Addr}{H H':Hp}{l c w x:Addr}{U W:Addr→Prop}{pe:nC}{rows:gB}{pq:nC}{rq:gB}{lines:nA}{aB:jU}{nW:Nat}{bC:Row}(h:zQ C CS CW CB H l c w x U W pe rows pq rq lines aB nW bC)(k:cO l H H')(s:dG H' l c):zQ C CS CW CB H' l c w x U W pe rows pq rq lines aB nW bC:=by
 obtain⟨ls,hl⟩:=h.src.lst
 have t:∀ a xs,H a=some (.tup xs)→H' a=some (.tup xs):=fun a xs e=>k _ _ e (cY e hl (by intro z;cases z))
 exact⟨s,h.EU.fr (fun a ob e z=>k _ _ e (h.du a z).2.1) t,h.lst,h.wo.fr (fun a ob e z=>k _ _ e (h.dw a z).1) t,h.du,h.dw⟩
theorem zQ.same{C CS CW CB:Addr}{H H':Hp}{l c w x:Addr}{U W:Addr→Prop}{pe:nC}{rows:gB}{pq:nC}{rq:gB}{lines:nA}{aB:jU}{nW:Nat}{bC:Row}(h:zQ C CS CW CB H l c w x U W pe rows pq rq lines aB nW bC)(s:aH H H'):zQ C CS CW CB H' l c w x U W pe rows pq rq lines aB nW bC:=h.mv (fun a o e _=>s a o e) (h.src.same s)
inductive yu(C CS CW CB:Addr)(vs:List V)(H:Hp)(Q:VK)(E:XK):Prop
 | mk (l c w x:Addr) (U W:Addr→Prop) (pe:nC) (rows:gB) (pq:nC) (rq:gB) (lines:nA) (aB:jU) (nW:Nat) (bC:Row) (_:vs=[.ref l,.ref w,.ref x]) (_:zQ C CS CW CB H l c w x U W pe rows pq rq lines aB nW bC) (_:pe.length≤800) (_:pq.length≤800) (_:rows.length≤50) (_:lines.length≤800) (_:aB.length≤50000) (_:nW≤800) (_ :
 ∀ (U':Addr→Prop) (H':Hp) (h:Int) (cs:List Nat) (jR:nA),cs.length≤60→jR.length=lines.length+1→zQ C CS CW CB H' l c w x U' W (pe++[rows]) rows (pq++[rq]) rq jR (aB++sG h cs) (nW+1) bC→JJ l U W U' W H H'→Q (.bl true) H'):yu C CS CW CB vs H Q E
theorem GL{α:Type}{xs:List α}{v:Int}(v0:0≤v)(v1:v<xs.length):∃ x∈xs,xF xs v=some x:=by
 obtain⟨j,rfl⟩:∃ j:Nat,v=j:=⟨v.toNat,by omega⟩
 have hj:j<xs.length:=by omega
 exact⟨xs[j],List.getElem_mem hj,eV (nU hj)⟩
def lpT:TS:=fun D σ H=>∃ (l c:Addr) (s1 s2 s3 s4 s6:Option V) (h:Int),σ=[some (.ref l),s1,s2,s3,s4,some (.int h),s6]∧dG H l c∧wU h∧∀ (h':Int) (H':Hp),wU h'→dG H' l c→(∀ a,a≠l→H' a=H a)→D.nx [some (.ref l),s1,s2,s3,s4,some (.int h'),s6] H'
theorem lG:aJ ["_law_src_here","_law_world_here","_law_house","_law_many","_law_text_here","_law_hand","_law_start"] ["_law_src_here","_law_world_here","_law_house"] (ay mE):=⟨rfl,rfl,rfl,by decide +kernel,rfl,by decide +kernel,by decide +kernel⟩
set_option maxHeartbeats 4000000 in
theorem GN{f C CS CW CB XS XM XT XO XP f1 f2 fN fT fG fK fM fO:Addr}{fd g1 g2 gN gT gG gK gM gO:FuncData}(F:iI K "_law_pour" "_law_pour" mE f fd)(X:yk K mg C CS CW CB XS XM XT XO XP)(A1:JF K mg CS)(A2:Ly K mg)(A5:O7 K mg CW CB)(aP:aU K C "enter" "Library.enter" bV JR f1 g1)(iE:aU K C "pour" "Library.pour" jo NL f2 g2)(aV:aA K mg "_law_next" iW xq fN gN)(mP:aA K mg "_law_text" kX LG fT gT)(jT:aA K mg "_law_sign" kW JW fG gG)(iF:aA K mg "_law_keep" kZ G7 fK gK)(ck:aA K mg "_law_same" jz yU fM gM)(cE:aA K mg "_law_whole" gU EV fO gO):aC P w K mg base bU 5 f fd G8 (yu C CS CW CB):=by
 have Ca:aC P w K mg base bU 4 _ _ NL (Ey C CS CW CB):=zk iE.F X A1 A2 A5 aP
 obtain⟨⟨⟨T,_,_,_,_,_⟩,⟨fi,aG⟩,_,_,_,_,_,_,_,_⟩,_,_,_,_,_,_,_,_⟩:=X
 have bJ:aC P w K mg base bU 1 _ _ xq sU:=lE aV.F T
 have IE:aC P w K mg base bU 3 _ _ LG EE:=GJ mP.F T aV jT
 have vP:aC P w K mg base bU 1 _ _ G7 EH:=yR iF.F
 have jM:aC P w K mg base bU 3 _ _ yU (vt 2):=qd T cE ck 2
 refine F.ok lG (fun vs H Q E h=>?_) (fun cdv A outer s H vs Q E hr h=>?_)
 ·obtain⟨l,c,w,x,U,W,pe,rows,pq,rq,lines,aB,nW,bC,rfl,_⟩:=h
  rfl
 obtain⟨l,c,w,x,U,W,pe,rows,pq,rq,lines,aB,nW,bC,rfl,St,b1,b1',b2,b3,b4,b5,k⟩:=h
 have hu:=m5 hr
 refine⟨_,(ak (aO (i:=3) lG.nd rfl (Or.inl rfl) (bG bM (bH (aa az (aa az (aa az (aa az (aa az ah)))))) (aN aV bJ hr (aa (pv 0) (aa az ah))) (fun _ _=>rfl)))
   (ak (aO (i:=4) lG.nd rfl (Or.inl rfl) (aN mP IE hr (aa (pv 0) (aa (aN aV bJ hr (aa (pv 0) (aa (bw iy (pv 3) az) ah))) ah))))
   (ak (aO (i:=5) lG.nd rfl (Or.inr rfl) (aN aV bJ hr (aa (pv 0) (aa az ah))))
   (ak (vq (t':=lpT) (cG (cj mY (aN aV bJ hr (aa (pv 0) (aa az ah))) az (bZ _))
   (ao (aO (i:=5) lG.nd rfl (Or.inr rfl) (aN aV bJ hr (aa (pv 0) (aa (bw LN az az) ah)))))
   bK) ?b3)
   (ak (aO (i:=6) lG.nd rfl (Or.inl rfl) (aR bP rfl T.iH mw (aa (gW hu (pv 1) bS (fun _ _=>rfl)) ah)))
   (ak (bq (je rA PySem.F.slot_list_extend PySem.F.type_list_extend Cm (gW hu (pv 1) bS (fun _ _=>rfl)) (aa (ku (N:=["_law_sign_here","_law_hand"]) (r9 (sc:=ay mE) (NX:=["_law_src_here","_law_world_here","_law_house","_law_many","_law_text_here","_law_hand","_law_start"]) (jx:=[none,some 5]) rfl rfl rfl (by decide +kernel) (by decide +kernel) rfl (by decide +kernel) rfl (by decide +kernel)) rfl (RB (pv 4)) (fun _ _ _ _ _ _=>(aW (i:=0) (show List.Nodup (["_law_sign_here","_law_hand"]:List Str) by decide +kernel) rfl (Or.inl rfl))) (fun _ _ _ _ _ _=>iJ) (fun _ _ _ _ _ _=>(iz (aa (pv 1) (aa (pv 0) ah))))) ah)))
   (ak (bq (aN iF vP hr (aa (pv 1) (aa (gW hu (pv 1) bS (fun _ _=>rfl)) ah))))
   (ao (aT (aN ck jM hr (aa (bO (pv 2) aG.cl iE.mt Ca (hr.mono (by decide)) iE.b .nil cQ (aa (pv 5) (aa (pv 4) ah))) (aa (iz (aa (pv 6) (aa (bw iy (pv 6) (aR cZ rfl T.iH mw (aa (pv 4) ah))) ah))) ah)))))))))))),?_⟩
 case b3 =>
  rintro D σ H ⟨l,c,s1,s2,s3,s4,s6,h,rfl,S,fh,k⟩
  refine⟨_,rfl,l,c,4,rfl,S,by decide,by decide,fun v H1 v0 v1 S1 k1=>⟨rfl,_,rfl,eG (fun _=>?_) (fun _=>k h H1 fh S1 k1)⟩⟩
  refine⟨_,rfl,_,_,rfl,rfl,⟨by decide,by decide,by decide⟩,l,c,_,rfl,S1,by decide,by decide,fun v2 H2 q0 q1 S2 k2=>?_⟩
  rw[show (10:Int)^(59:Int).toNat=10^59 from rfl]at q1
  exact k v2 H2 ⟨q0,Int.lt_trans q1 (by decide)⟩ S2 fun y hy=>(k2 y hy).trans (k1 y hy)
 refine⟨(by show 5≤sizeLine;decide),fun t ht=>?_⟩
 have s1:=aj ht (.lst [.int 1,.int 3,.int 5,.int 8,.int 60])
 have h1:(upd H t (.lst [.int 1,.int 3,.int 5,.int 8,.int 60])) t=some (.lst [.int 1,.int 3,.int 5,.int 8,.int 60]):=af
 have nt:=St.src.ne ht
 generalize upd H t (.lst [.int 1,.int 3,.int 5,.int 8,.int 60])=H1 at s1 h1
 have G4:=St.same s1
 refine⟨_,rfl,l,c,5,rfl,G4.src,by decide,by decide,fun i H2 i0 i1 S2 k2=>?_⟩
 have Tv:=G4.mv (cR k2) S2
 obtain⟨z,hz,ez⟩:=GL (xs:=[V.int 1,.int 3,.int 5,.int 8,.int 60]) i0 (by show i<5;omega)
 obtain⟨tn,rfl,Qf,WW⟩:∃ j:Int,z=.int j∧0≤j∧j≤60:=by
  have key:∀ y∈[V.int 1,.int 3,.int 5,.int 8,.int 60],∃ j:Int,y=.int j∧0≤j∧j≤60:=by
   intro y hy
   rcases List.mem_cons.mp hy with q|hy
   ·exact⟨1,q,by decide,by decide⟩
   rcases List.mem_cons.mp hy with q|hy
   ·exact⟨3,q,by decide,by decide⟩
   rcases List.mem_cons.mp hy with q|hy
   ·exact⟨5,q,by decide,by decide⟩
   rcases List.mem_cons.mp hy with q|hy
   ·exact⟨8,q,by decide,by decide⟩
   ·exact⟨60,List.mem_singleton.mp hy,by decide,by decide⟩
  exact key z hz
 refine⟨t,_,_,_,rfl,rfl,bN.of ((k2 t nt.1.symm).trans h1),ez,?_⟩
 refine⟨_,rfl,_,rfl,_,rfl,_,_,rfl,rfl,l,c,_,rfl,S2,by omega,by omega,fun m H3 m0 m1 S3 k3=>?_⟩
 have Qm:=Tv.mv (cR k3) S3
 refine⟨l,c,m.toNat,by rw[show ((m.toNat:Nat):Int)=m by omega];rfl,S3,by omega,fun cs H4 hcs S4 K4=>?_⟩
 have Sn:=Qm.mv K4 S4
 refine⟨_,rfl,l,c,3,rfl,S4,by decide,by decide,fun h0 H5 p0 p1 S5 k5=>?_⟩
 have St5:=Sn.mv (cR k5) S5
 refine⟨l,c,_,_,_,_,_,h0,rfl,S5,⟨p0,by omega⟩,fun h H6 fh S6 k6=>?_⟩
 have JK:=St5.mv (cR k6) S6
 have K16:cO l H H6:=((((((jm.aH.keep s1).trans (cR k2)).trans (cR k3)).trans K4).trans (cR k5)).trans (cR k6))
 obtain⟨ik,rw,ps,vl,wu⟩:=id JK.wo
 obtain⟨as,hik,pa⟩:=id wu.hi
 have la:=Paired.length pa
 have zi:=pB.k (k:=kI) wu.hw
 rw[show cC (zP ik rw ps vl) kI=some (.ref ik) by kernel_rfl]at zi
 refine⟨_,rfl,w,_,rfl,zi,ik,_,rfl,.inl (bN.of hik),?_⟩
 refine⟨_,rfl,w,_,rfl,zi,.inl ⟨rfl,_,bN.of hik⟩,_,rfl,cs,rfl,fun acc hacc=>KN (fun j σ H7=>∃ (u:Option V) (bs:List Addr),σ=[u,some (.int h)]∧H7 acc=some (.lst (bs.map V.ref))∧Paired (Ql H7) bs (sG h (cs.take j))∧aH H6 H7) ⟨none,[],rfl,af,.nil,aj hacc _⟩ ?_ ?_⟩
 ·rintro j ch σ H7 hj ⟨u,bs,rfl,ha,pb,s7⟩
  have lb:=Paired.length pb
  rw[uq,rj]at lb
  refine⟨_,rfl,_,rfl,(by show 2≤sizeLine;decide),fun t ht=>⟨_,aj ht _ _ _ ha,(by rw[cA];exact aL (by omega)),_,bs++[t],rfl,?_,?_,?_⟩⟩
  ·rw[af,lH]
   rfl
  ·have nta:t≠acc:=(au ha ht).symm
   rw[take_snoc hj]
   unfold sG
   rw[lH]
   refine xh (Paired.EZ pb fun a q e=>?_) ?_
   ·show upd _ acc _ a=_
    rw[aF (cY e ha (by intro z;cases z))]
    exact aj ht _ _ _ e
   ·show upd _ acc _ t=_
    rw[aF nta]
    exact af
  ·intro b ob e
   rw[aF (au e hacc)]
   exact aj ht _ _ _ (s7 _ _ e)
 rintro σ H7 ⟨u,bs,rfl,ha,pb,s7⟩
 rw[kQ]at pb
 have lb:=Paired.length pb
 rw[uq]at lb
 have VJ:=s7 _ _ hik
 refine⟨ik,acc,_,_,rfl,rfl,VJ,ha,(by rw[cA,cA];exact iR (aL (by omega))),?_⟩
 rw[← lH]
 have k8:cO ik H7 (upd H7 ik (.lst ((as++bs).map V.ref))):=aK ik _ _
 have i8:(upd H7 ik (.lst ((as++bs).map V.ref))) ik=some (.lst ((as++bs).map V.ref)):=af
 generalize upd H7 ik (.lst ((as++bs).map V.ref))=H8 at k8 i8
 have NJ:∀ a ob,H6 a=some ob→a≠ik→H8 a=some ob:=fun a ob e n=>k8 _ _ (s7 _ _ e) n
 have t68:∀ a xs,H6 a=some (.tup xs)→H8 a=some (.tup xs):=fun a xs e=>NJ _ _ e (cY e hik (by intro z;cases z))
 have RY:∀ a xs,H7 a=some (.tup xs)→H8 a=some (.tup xs):=fun a xs e=>k8 _ _ e (cY e VJ (by intro z;cases z))
 have w8:H8 w=some (.dK (zP ik rw ps vl)):=NJ _ _ wu.hw (cY wu.hw hik (by intro z;cases z))
 have VL:Pa W ik ps H8 rw rq:=wu.hr.fr (fun _ z=>z) fun a xs e _ n _=>NJ _ _ e n
 have wo8:Pb W H8 w ik rw ps vl (aB++sG h cs) pq rq:=by
  obtain⟨Sm,hp,al⟩:=wu.hp
  refine⟨wu.ww,wu.wi,wu.wp,wu.wv,fun a z=>?_,w8,⟨as++bs,i8,vd (Paired.EZ pa fun a q e=>t68 _ _ e) (Paired.EZ pb fun a q e=>RY _ _ e)⟩,VL,⟨Sm,NJ _ _ hp wu.ne.symm,al.mono fun v rs ⟨a,e,q⟩=>⟨a,e,q.fr (fun _ y=>y) fun a xs e _ n _=>NJ _ _ e n⟩⟩,wu.ne,wu.lst⟩
  by_cases e:a=ik
  ·rw[e];exact⟨_,i8⟩
  ·obtain⟨ob,e2⟩:=wu.al a z
   exact⟨ob,NJ _ _ e2 e⟩
 have afa:=JK.EU.fr (fun a ob e z=>NJ _ _ e (fun q=>(JK.du a z).1 (by rw[q];exact wu.wi))) t68
 have afb:dG H8 l c:=by
  obtain⟨n,ns,i,d,r,e1,e2,h3⟩:=S6
  exact⟨n,ns,i,d,r,NJ _ _ e1 (fun q=>(JK.dw ik wu.wi).1 q.symm),NJ _ _ e2 (fun q=>(JK.dw ik wu.wi).2 q.symm),h3⟩
 have zr:=pB.k (k:=kR) w8
 rw[show cC (zP ik rw ps vl) kR=some (.ref rw) by kernel_rfl]at zr
 refine⟨_,rfl,_,rfl,w,_,rfl,zr,W,w,rw,aB++sG h cs,pq,rq,rq,rfl,⟨ik,rw,ps,vl,wo8⟩,by omega,fun ik' ps' ⟨rw',vl',e⟩=>?_,fun H9 wo9 Xh tp9=>?_⟩
 ·rw[w8]at e
  simp only[Option.some.injEq,HO.dK.injEq,zP,List.cons.injEq,Prod.mk.injEq,V.ref.injEq,true_and,and_true]at e
  obtain⟨rfl,rfl,rfl,rfl⟩:=e
  exact VL
 have VM:=afa.fr (fun a ob e z=>Xh _ _ e (JK.du a z).1) tp9
 have Pc:dG H9 l c:=by
  obtain⟨n,ns,i,d,r,e1,e2,h3⟩:=afb
  exact⟨n,ns,i,d,r,Xh _ _ e1 (fun q=>(JK.dw l q).1 rfl),Xh _ _ e2 (fun q=>(JK.dw c q).2 rfl),h3⟩
 obtain⟨S',VA,d',WQ,sh',bl',kn',du',bk',dS',st',op',dw',sg',ow',pw',db',tb',ops',LU⟩:=id VM
 refine⟨_,rfl,x,d',_,rfl,LU.L.hx,rfl,_,rfl,_,rfl,U,x,pe,lines,aB,nW,bC,h,cs,rows,rfl,VM,fh,by omega,by omega,by omega,JK.lst,b2,by omega,by omega,fun U' q GX VN GO hq=>?_⟩
 refine⟨_,rfl,_,rfl,_,rfl,txt cs,rfl,(by rw[dZ];exact iR (aL (by omega))),_,_,rfl,rfl,(by show 2≤sizeLine;decide),fun t2 Fy=>?_⟩
 refine⟨_,_,rfl,.inr ⟨false,q,t2,_,_,rfl,rfl,aj Fy _ _ _ hq,af,rfl,fun i u v eu ev=>?_⟩,fun PV afd=>?_⟩
 ·match i,eu,ev with
  | 0,eu,ev =>
   cases eu;cases ev
   rw[show (as.map V.ref).length=aB.length by rw[cA,la]]
   exact Eqv.int _
  | 1,eu,ev =>
   cases eu;cases ev
   rw[show ((aB++sG h cs).length:Int)=((as.map V.ref).length:Int)+((txt cs).length:Int) by rw[cA,la,dZ,dU,uq];omega]
   exact Eqv.int _
 have s12:aH GX PV:=fun a ob e=>afd _ _ (aj Fy _ _ _ e)
 have RZ:∀ a ob,H a=some ob→a≠l→¬ W a→H9 a=some ob:=fun a ob e n z=>Xh _ _ (NJ _ _ (K16 _ _ e n) (fun q=>z (by rw[q];exact wu.wi))) z
 have f09:∀ a,H9 a=none→H a=none:=by
  intro a e
  cases ea:H a with
  | none=>rfl
  | some ob =>
   exfalso
   by_cases n:a=l
   ·obtain⟨_,ns,i,d,r,e1,_⟩:=Pc
    rw[n,e1]at e
    cases e
   by_cases z:W a
   ·obtain⟨ob,e2⟩:=wo9.al z
    rw[e2]at e
    cases e
   rw[RZ _ _ ea n z]at e
   cases e
 have VO:dG PV l c:=by
  obtain⟨n,ns,i,d,r,e1,e2,h3⟩:=Pc
  exact⟨n,ns,i,d,r,s12 _ _ (GO.2.1 _ _ e1 (fun q=>(JK.du l q).2.1 rfl)),s12 _ _ (GO.2.1 _ _ e2 (fun q=>(JK.du c q).2.2 rfl)),h3⟩
 refine k U' PV h cs _ (by omega) (by rw[dU];rfl) ⟨VO,VN.fr (fun a ob e _=>s12 _ _ e) (fun a xs e=>s12 _ _ e),(by simp),wo9.fr (fun a ob e z=>s12 _ _ (GO.2.1 _ _ e (fun y=>(JK.du a y).1 z))) (fun a xs e=>s12 _ _ (GO.2.2 _ _ e)),fun a z=>?_,JK.dw⟩ ⟨fun a z=>z.elim (fun z=>(GO.1 a z).elim .inl fun y=>.inr (.inr (f09 a y))) (fun z=>.inr (.inl z)),fun a ob e n y z=>s12 _ _ (GO.2.1 _ _ (RZ _ _ e n z) y),fun a xs e=>?_⟩
 ·rcases GO.1 a z with y|y
  ·exact JK.du a y
  ·refine⟨fun z=>?_,fun q=>?_,fun q=>?_⟩
   ·obtain⟨ob,e2⟩:=wo9.al z
    rw[e2]at y
    cases y
   ·obtain⟨_,ns,i,d,r,e1,_⟩:=Pc
    rw[q,e1]at y
    cases y
   ·obtain⟨_,ns,i,d,r,_,e1,_⟩:=Pc
    rw[q,e1]at y
    cases y
 ·obtain⟨ls,hl⟩:=St.src.lst
  exact s12 _ _ (GO.2.2 _ _ (tp9 _ _ (t68 _ _ (K16 _ _ e (cY e hl (by intro z;cases z))))))
theorem zQ.VP{W W':Addr→Prop}{H:Hp}{w ik rw ps vl:Addr}{aB:jU}{pe:nC}{rows:gB}(h:Pb W H w ik rw ps vl aB pe rows)(s:∀ a,W a→W' a)(al:∀ a,W' a→∃ ob,H a=some ob):Pb W' H w ik rw ps vl aB pe rows:=by
 obtain⟨ww,wi,wp,wv,_,hw,hi,hr,⟨vs,hp,a2⟩,ne,lst⟩:=h
 exact⟨s _ ww,s _ wi,s _ wp,s _ wv,al,hw,hi,hr.fr s (fun a xs e _ _ _=>e),⟨vs,hp,a2.mono fun v rs ⟨a,e,z⟩=>⟨a,e,z.fr s (fun a xs e _ _ _=>e)⟩⟩,ne,lst⟩
inductive vQ(C CS CW CB:Addr)(vs:List V)(H:Hp)(Q:VK)(E:XK):Prop
 | mk (l c w x:Addr) (U W:Addr→Prop) (pe:nC) (rows:gB) (pq:nC) (rq:gB) (lines:nA) (aB:jU) (nW:Nat) (bC:Row) (_:vs=[.ref w,.ref x]) (_:zQ C CS CW CB H l c w x U W pe rows pq rq lines aB nW bC) (_:pe.length≤800) (_:pq.length≤800) (_:rows.length<40) (_:rq.length=rows.length) (_:lines.length≤800) (_:(∃ f,sj (rows++[[]]) f)) (_ :
 ∀ (U' W':Addr→Prop) (H':Hp) (jR:nA),jR.length=lines.length+1→zQ C CS CW CB H' l c w x U' W' (pe++[rows++[[]]]) (rows++[[]]) (pq++[rq++[[]]]) (rq++[[]]) jR aB nW bC→JJ l U W U' W' H H'→Q (.bl true) H'):vQ C CS CW CB vs H Q E
theorem EI:aJ ["_law_world_here","_law_house"] ["_law_world_here","_law_house"] (ay m8):=⟨rfl,rfl,rfl,by decide +kernel,rfl,by decide +kernel,by decide +kernel⟩
set_option maxHeartbeats 4000000 in
theorem EJ{f C CS CW CB XS XM XT XO XP f1 fK fM fO:Addr}{fd g1 gK gM gO:FuncData}(F:iI K "_law_fresh" "_law_fresh" m8 f fd)(X:yk K mg C CS CW CB XS XM XT XO XP)(A1:JF K mg CS)(A2:Ly K mg)(A3:Vx K mg C)(gA:aU K C "fresh" "Library.fresh" iK jk f1 g1)(iF:aA K mg "_law_keep" kZ G7 fK gK)(ck:aA K mg "_law_same" jz yU fM gM)(cE:aA K mg "_law_whole" gU EV fO gO):aC P w K mg base bU 8 f fd NP (vQ C CS CW CB):=by
 have LM:=X.1
 have By:aC P w K mg base (nB P w) 7 _ _ jk (Ex C CS XT):=yj gA.F LM A1 A2 A3
 obtain⟨⟨⟨T,_,_,_,_,_⟩,⟨fi,aG⟩,_,_,_,_,_,_,_,_⟩,_,_,_,_,_,_,_,_⟩:=X
 have vP:aC P w K mg base bU 1 _ _ G7 EH:=yR iF.F
 have jM:aC P w K mg base bU 2 _ _ yU (vt 1):=qd T cE ck 1
 refine F.ok EI (fun vs H Q E h=>?_) (fun cdv A outer s H vs Q E hr h=>?_)
 ·obtain⟨l,c,w,x,U,W,pe,rows,pq,rq,lines,aB,nW,bC,rfl,_⟩:=h
  rfl
 obtain⟨l,c,w,x,U,W,pe,rows,pq,rq,lines,aB,nW,bC,rfl,St,b1,b1',b2,b2',b3,B,k⟩:=h
 have hu:=m5 hr
 refine⟨_,(ak (bq (aN iF vP hr (aa (pv 0) (aa (bw oR (gW hu (pv 0) bS (fun _ _=>rfl)) (bH (aa (bH ah) ah))) ah))))
   (ao (aT (aN ck jM hr (aa (cJ (pv 1) aG.cl gA.mt By (hr.mono (by decide)) gA.b .nil sW) (aa (bw iV (aR bP rfl T.iH mw (aa (gW hu (pv 0) bS (fun _ _=>rfl)) ah)) az) ah)))))),?_⟩
 obtain⟨ik,rw,ps,vl,wu⟩:=id St.wo
 have zr:=pB.k (k:=kR) wu.hw
 rw[show cC (zP ik rw ps vl) kR=some (.ref rw) by kernel_rfl]at zr
 refine⟨_,rfl,_,rfl,w,_,rfl,zr,?_⟩
 obtain⟨wrw,n1,n2,vs,hvs,al⟩:=id wu.hr
 have lv:=b8.len al
 refine⟨(by show 0≤sizeLine;decide),fun e he=>⟨(by show 1≤sizeLine;decide),fun o ho=>?_⟩⟩
 have s1:=aj he (.lst [])
 have e1:(upd H e (.lst [])) e=some (.lst []):=af
 generalize upd H e (.lst [])=H1 at s1 e1 ho
 have s2:=aj ho (.lst [.ref e])
 have o2:(upd H1 o (.lst [.ref e])) o=some (.lst [.ref e]):=af
 show Q6 _ _ (upd H1 o (.lst [.ref e])) _
 generalize upd H1 o (.lst [.ref e])=H2 at s2 o2
 have s02:=s1.trans s2
 refine⟨rw,o,_,_,rfl,rfl,s02 _ _ hvs,o2,(by rw[lv];exact iR (aL (by simp only[nG,qu];omega))),fun r hr2=>?_⟩
 have s3:=aj hr2 (.lst (vs++[.ref e]))
 have r3:(upd H2 r (.lst (vs++[.ref e]))) r=some (.lst (vs++[.ref e])):=af
 generalize upd H2 r (.lst (vs++[.ref e]))=H3 at s3 r3
 have Ng:=s02.trans s3
 have fr:=aX s02 hr2
 obtain⟨as,hik,_⟩:=id wu.hi
 obtain⟨Sm,hps,_⟩:=id wu.hp
 have e3:=s3 _ _ (s2 _ _ e1)
 have wu3:Pb W H3 w ik rw ps vl aB pq rq:=wu.fr (fun a ob e _=>Ng _ _ e) (fun a xs e=>Ng _ _ e)
 have wu':Pb (fun a=>W a∨a=e∨a=r) H3 w ik rw ps vl aB pq rq:=zQ.VP wu3 (fun a z=>.inl z) (by
  rintro a (z|z|z)
  ·exact wu3.al a z
  ·rw[z];exact⟨_,e3⟩
  ·rw[z];exact⟨_,r3⟩)
 have VQ:∀ a ob,H a=some ob→¬ W a→¬ (W a∨a=e∨a=r):=by
  rintro a ob h0 n (z|z|z)
  ·exact n z
  ·rw[z,he]at h0;cases h0
  ·rw[z,fr]at h0;cases h0
 refine⟨fun a=>W a∨a=e∨a=r,w,r,aB,pq,rq,rq++[[]],rfl,⟨ik,rw,ps,vl,wu'⟩,by omega,fun ik' ps' ⟨rw',vl',ee⟩=>?_,fun H4 wo4 fr4 tp4=>?_⟩
 ·rw[wu3.hw]at ee
  simp only[Option.some.injEq,HO.dK.injEq,zP,List.cons.injEq,Prod.mk.injEq,V.ref.injEq,true_and,and_true]at ee
  obtain⟨rfl,rfl,rfl,rfl⟩:=ee
  exact⟨.inr (.inr rfl),(au hik fr).symm,(au hps fr).symm,_,r3,b8.snoc (al.mono fun _ _=>Tu.fr (fun a z=>.inl z) (fun a xs e _ _ _=>Ng _ _ e)) ⟨e,rfl,.inr (.inl rfl),(au hik he).symm,(au hps he).symm,e3⟩⟩
 have Qg:∀ a ob,H a=some ob→¬ W a→H4 a=some ob:=fun a ob e n=>fr4 _ _ (Ng _ _ e) (VQ _ _ e n)
 have t04:∀ a xs,H a=some (.tup xs)→H4 a=some (.tup xs):=fun a xs e=>tp4 _ _ (Ng _ _ e)
 have afi:=St.EU.fr (fun a ob e z=>Qg _ _ e (St.du a z).1) t04
 have So:dG H4 l c:=by
  obtain⟨n,ns,i,d,r,e1,e2,h3⟩:=St.src
  exact⟨n,ns,i,d,r,Qg _ _ e1 (fun q=>(St.dw l q).1 rfl),Qg _ _ e2 (fun q=>(St.dw c q).2 rfl),h3⟩
 have uw:∀ a,U a→¬ (W a∨a=e∨a=r):=fun a z=>by
  obtain⟨ob,h0⟩:=St.EU.al z
  exact VQ _ _ h0 (St.du a z).1
 obtain⟨S',VA,d',WQ,sh',bl',kn',du',bk',dS',st',op',dw',sg',ow',pw',db',tb',ops',LU⟩:=id afi
 refine⟨_,rfl,x,d',_,rfl,LU.L.hx,rfl,S',x,d',WQ,sh',bl',kn',du',bk',dS',st',op',pe,ops',lines,rows,rfl,LU.L,St.lst,by omega,by omega,by omega,fun c=>absurd c (by omega),fun _=>⟨B,fun S'' H5 L5 T6=>?_⟩⟩
 obtain⟨U',afj,fu⟩:=LU.ux L5 T6
 have wo5:=wo4.fr (fun a ob e z=>fu.2.1 _ _ e (fun y=>uw a y z)) fu.2.2
 obtain⟨ik5,rw5,ps5,vl5,wu5⟩:=id wo5
 obtain⟨_,_,_,vs5,afl,al5⟩:=id wu5.hr
 have lv5:=b8.len al5
 rw[dU]at lv5
 have zr5:=pB.k (k:=kR) wu5.hw
 rw[show cC (zP ik5 rw5 ps5 vl5) kR=some (.ref rw5) by kernel_rfl]at zr5
 refine⟨_,rfl,w,_,rfl,zr5,rw5,_,rfl,.inl (bN.of afl),_,_,rfl,rfl,_,_,rfl,.inl ⟨rfl,?_⟩,fun H6 s6=>?_⟩
 ·rw[lv5]
  simp only[nG,qu]
  congr 1
  omega
 have k06:∀ a ob,H a=some ob→¬ U a→¬ W a→H6 a=some ob:=fun a ob e y z=>s6 _ _ (fu.2.1 _ _ (Qg _ _ e z) y)
 have afm:dG H6 l c:=by
  obtain⟨n,ns,i,d,r,e1,e2,h3⟩:=So
  exact⟨n,ns,i,d,r,s6 _ _ (fu.2.1 _ _ e1 (fun q=>(St.du l q).2.1 rfl)),s6 _ _ (fu.2.1 _ _ e2 (fun q=>(St.du c q).2.2 rfl)),h3⟩
 have f04:∀ a,H4 a=none→H a=none:=by
  intro a h0
  cases ea:H a with
  | none=>rfl
  | some ob =>
   exfalso
   by_cases z:W a
   ·obtain⟨ob,e2⟩:=wo4.al (a:=a) (.inl z)
    rw[e2]at h0
    cases h0
   rw[Qg _ _ ea z]at h0
   cases h0
 refine k U' (fun a=>W a∨a=e∨a=r) H6 _ (by rw[dU];rfl) ⟨afm,afj.same s6,by simp,wo5.same s6,fun a z=>?_,fun a z=>?_⟩ ⟨fun a z=>z.elim (fun z=>(fu.1 a z).elim .inl fun y=>.inr (.inr (f04 a y))) (fun z=>?_),fun a ob e n y z=>k06 _ _ e y z,fun a xs e=>s6 _ _ (fu.2.2 _ _ (t04 _ _ e))⟩
 ·rcases fu.1 a z with y|y
  ·exact⟨uw a y,(St.du a y).2⟩
  ·change H4 a=none at y
   refine⟨fun z=>?_,fun q=>?_,fun q=>?_⟩
   ·obtain⟨ob,e2⟩:=wo4.al z
    rw[e2]at y
    cases y
   ·obtain⟨_,ns,i,d,r,e1,_⟩:=So
    rw[q,e1]at y
    cases y
   ·obtain⟨_,ns,i,d,r,_,e1,_⟩:=So
    rw[q,e1]at y
    cases y
 ·have ne:=St.src.ne he
  have nr:=St.src.ne fr
  rcases z with z|z|z
  ·exact St.dw a z
  ·rw[z];exact⟨ne.1.symm,ne.2.symm⟩
  ·rw[z];exact⟨nr.1.symm,nr.2.symm⟩
 ·rcases z with z|z|z
  ·exact .inr (.inl z)
  ·rw[z];exact .inr (.inr he)
  ·rw[z];exact .inr (.inr fr)
abbrev e0(n:Nat):gB:=List.replicate n []
theorem JL(n:Nat):e0 n++[[]]=e0 (n+1):=(List.replicate_succ').symm
theorem vR{n:Nat}{es:List Int}(h:es∈e0 n):es=[]:=(List.mem_replicate.mp h).2
theorem Sq{n:Nat}{x y:Int}:¬ BP (e0 n) x y:=fun ⟨_,es,he,hy⟩=>by
 rw[vR (uA he)]at hy
 cases hy
theorem Nq(n:Nat):Sound (e0 n):=fun es he y hy=>by
 rw[vR he]at hy
 cases hy
theorem Ss(n:Nat):HQ (e0 n):=⟨fun _=>0,fun _=>lI _,fun _ _ z=>absurd z Sq⟩
theorem Nr{n:Nat}(h:n≤100):sj (e0 n) fun _=>0:=by
 refine⟨by rw[vm];exact h,fun es he=>by rw[vR he];exact lI _,Nq n,Ss n,fun x es _ he=>?_,fun _ _ _=>by decide⟩
 rw[vR (uA he)]
 rfl
def BA(n:Nat):nC:=[[],[],[]]++(List.range n).map fun k=>e0 (k+1)
theorem Lm(n:Nat):BA (n+1)=BA n++[e0 (n+1)]:=by
 unfold BA
 rw[List.range_succ,lH,qD]
 rfl
theorem BB(n:Nat):(BA n).length=n+3:=by
 unfold BA
 rw[dU,cA,List.length_range]
 show 3+n=_
 omega
inductive vS(C CS CW CB:Addr)(vs:List V)(H:Hp)(Q:VK)(E:XK):Prop
 | mk (l c w x:Addr) (U W:Addr→Prop) (_:vs=[.ref l,.ref w,.ref x]) (_:zQ C CS CW CB H l c w x U W [[]] [] [[]] [] [] [] 0 []) (_ :
 ∀ (U' W':Addr→Prop) (H':Hp) (n:Nat) (aB:jU) (lines:nA),2≤n→n≤4→aB.length≤120→lines.length=n+2→zQ C CS CW CB H' l c w x U' W' (BA n) (e0 n) (BA n) (e0 n) lines aB 2 []→JJ l U W U' W' H H'→Q (.bl true) H'):vS C CS CW CB vs H Q E
theorem kg:aJ ["_law_src_here","_law_world_here","_law_house","_law_good","_law_k"] ["_law_src_here","_law_world_here","_law_house"] (ay pZ):=⟨rfl,rfl,rfl,by decide +kernel,rfl,by decide +kernel,by decide +kernel⟩
set_option maxHeartbeats 4000000 in
theorem EK{f C CS CW CB XS XM XT XO XP f1 f2 f3 fN fT fG fK fM fO fP fF:Addr}{fd g1 g2 g3 gN gT gG gK gM gO gP gF:FuncData}(F:iI K "_law_begin" "_law_begin" pZ f fd)(X:yk K mg C CS CW CB XS XM XT XO XP)(A1:JF K mg CS)(A2:Ly K mg)(A3:Vx K mg C)(A5:O7 K mg CW CB)(aP:aU K C "enter" "Library.enter" bV JR f1 g1)(iE:aU K C "pour" "Library.pour" jo NL f2 g2)(gA:aU K C "fresh" "Library.fresh" iK jk f3 g3)(aV:aA K mg "_law_next" iW xq fN gN)(mP:aA K mg "_law_text" kX LG fT gT)(jT:aA K mg "_law_sign" kW JW fG gG)(iF:aA K mg "_law_keep" kZ G7 fK gK)(ck:aA K mg "_law_same" jz yU fM gM)(cE:aA K mg "_law_whole" gU EV fO gO)(rT:aA K mg "_law_pour" mE G8 fP gP)(qo:aA K mg "_law_fresh" m8 NP fF gF):aC P w K mg base bU 9 f fd G8 (vS C CS CW CB):=by
 have IF:aC P w K mg base bU 5 _ _ G8 (yu C CS CW CB):=GN rT.F X A1 A2 A5 aP iE aV mP jT iF ck cE
 have GP:aC P w K mg base bU 8 _ _ NP (vQ C CS CW CB):=EJ qo.F X A1 A2 A3 gA iF ck cE
 obtain⟨⟨⟨T,_,_,_,_,_⟩,_,_,_,_,_,_,_,_,_⟩,_,_,_,_,_,_,_,_⟩:=X
 have bJ:aC P w K mg base bU 1 _ _ xq sU:=lE aV.F T
 refine F.ok kg (fun vs H Q E h=>?_) (fun cdv A outer s H vs Q E hr h=>?_)
 ·obtain⟨l,c,w,x,U,W,rfl,_⟩:=h
  rfl
 obtain⟨l,c,w,x,U,W,rfl,St,k⟩:=h
 have hu:=m5 hr
 refine⟨_,(ak (aO (i:=3) kg.nd rfl (Or.inl rfl) rX)
   (ak (jr PassesOwn.never rfl (oG rfl T.oh (aa az ah)) (aW (i:=4) kg.nd rfl (Or.inl rfl))
   (ao (aO (i:=3) kg.nd rfl (Or.inl rfl) (rC (aN rT IF hr (aa (pv 0) (aa (pv 1) (aa (pv 2) ah)))) (sN (pv 3))))))
   (ak (jr PassesOwn.never rfl (oG rfl T.oh (aa (bw iy az (aN aV bJ hr (aa (pv 0) (aa az ah)))) ah)) (aW (i:=4) kg.nd rfl (Or.inl rfl))
   (ao (aO (i:=3) kg.nd rfl (Or.inl rfl) (rC (aN qo GP hr (aa (pv 1) (aa (pv 2) ah))) (sN (pv 3))))))
   (ao (aT (pv 3)))))),?_⟩
 have f0:JJ l U W U W H H:=⟨fun a z=>z.elim .inl fun y=>.inr (.inl y),fun a ob e _ _ _=>e,fun _ _ e=>e⟩
 refine⟨2,rfl,by decide,by decide,?_⟩
 refine qE (lo:=0) (n:=(2:Int).toNat) (fun j σ H1=>∃ (u4:Option V) (U1 W1:Addr→Prop) (aB:jU) (lines:nA),σ=[some (.ref l),some (.ref w),some (.ref x),some (.bl true),u4]∧zQ C CS CW CB H1 l c w x U1 W1 (List.replicate (j+1) []) [] (List.replicate (j+1) []) [] lines aB j []∧aB.length≤60*j∧lines.length=j∧JJ l U W U1 W1 H H1) ⟨none,U,W,[],[],rfl,St,gQ _,rfl,f0⟩ ?_ ?_
 ·rintro j σ H1 hj ⟨u4,U1,W1,aB,lines,rfl,G4,li,ll,f1⟩
  have hj2:j<2:=hj
  refine⟨_,rfl,_,rfl,_,rfl,l,c,w,x,U1,W1,_,_,_,_,lines,aB,j,[],rfl,G4,(by rw[vm];omega),(by rw[vm];omega),(by show 0≤50;decide),by omega,by omega,by omega,fun U2 H2 h cs Su hcs hl2 Tv f2=>?_⟩
  rw[← List.replicate_succ']at Tv
  have g:∃ (u4:Option V) (U3 W3:Addr→Prop) (VR:jU) (jR:nA),[some (.ref l),some (.ref w),some (.ref x),some (.bl true),some (V.int (0+(j:Int)))]=[some (.ref l),some (.ref w),some (.ref x),some (V.bl true),u4]∧zQ C CS CW CB H2 l c w x U3 W3 (List.replicate (j+1+1) []) [] (List.replicate (j+1+1) []) [] jR VR (j+1) []∧VR.length≤60*(j+1)∧jR.length=j+1∧JJ l U W U3 W3 H H2:=⟨_,U2,W1,_,Su,rfl,Tv,(by rw[dU,uq];omega),by omega,f1.trans (by obtain⟨ls,hl⟩:=G4.src.lst;exact⟨_,hl⟩) f2⟩
  refine⟨true,rfl,?_⟩
  rw[if_pos rfl]
  exact⟨_,rfl,g⟩
 rintro σ H1 ⟨u4,U1,W1,aB,lines,rfl,G4,li,ll,f1⟩
 refine⟨_,rfl,l,c,3,rfl,G4.src,by decide,by decide,fun v H2 v0 v1 S2 k2=>⟨_,_,rfl,rfl,2+v,rfl,by omega,by omega,?_⟩⟩
 have Tv:=G4.mv (cR k2) S2
 have f2:JJ l U W U1 W1 H H2:=f1.trans (by obtain⟨ls,hl⟩:=G4.src.lst;exact⟨_,hl⟩) ⟨fun a z=>z.elim .inl fun y=>.inr (.inl y),fun a ob e n _ _=>(cR k2) _ _ e n,fun a xs e=>by
  obtain⟨ls,hl⟩:=G4.src.lst
  exact (cR k2) _ _ e (cY e hl (by intro z;cases z))⟩
 clear f1
 refine qE (lo:=0) (n:=(2+v).toNat) (fun j σ H3=>∃ (u4:Option V) (U3 W3:Addr→Prop) (lines:nA),σ=[some (.ref l),some (.ref w),some (.ref x),some (.bl true),u4]∧zQ C CS CW CB H3 l c w x U3 W3 (BA j) (e0 j) (BA j) (e0 j) lines aB 2 []∧lines.length=j+2∧JJ l U W U3 W3 H H3) ⟨u4,U1,W1,lines,rfl,Tv,ll,f2⟩ ?_ ?_
 ·rintro j σ H3 hj ⟨u4,U3,W3,lines,rfl,Qm,ll,f3⟩
  have hj2:j<4:=by omega
  refine⟨_,rfl,_,rfl,l,c,w,x,U3,W3,_,_,_,_,lines,aB,2,[],rfl,Qm,(by rw[BB];omega),(by rw[BB];omega),(by rw[vm];omega),rfl,by omega,⟨_,by rw[JL];exact Nr (by omega)⟩,fun U4 W4 H4 Sv hl4 Sn f4=>?_⟩
  rw[JL,← Lm]at Sn
  have g:∃ (u4:Option V) (U5 W5:Addr→Prop) (jR:nA),[some (.ref l),some (.ref w),some (.ref x),some (.bl true),some (V.int (0+(j:Int)))]=[some (.ref l),some (.ref w),some (.ref x),some (V.bl true),u4]∧zQ C CS CW CB H4 l c w x U5 W5 (BA (j+1)) (e0 (j+1)) (BA (j+1)) (e0 (j+1)) jR aB 2 []∧jR.length=j+1+2∧JJ l U W U5 W5 H H4:=⟨_,U4,W4,Sv,rfl,Sn,by omega,f3.trans (by obtain⟨ls,hl⟩:=Qm.src.lst;exact⟨_,hl⟩) f4⟩
  refine⟨true,rfl,?_⟩
  rw[if_pos rfl]
  exact⟨_,rfl,g⟩
 rintro σ H3 ⟨u4,U3,W3,lines,rfl,Qm,ll,f3⟩
 exact⟨_,rfl,k U3 W3 H3 (2+v).toNat aB lines (by omega) (by omega) (by have:(2:Int).toNat=2:=rfl;omega) ll Qm f3⟩
inductive BC(vs:List V)(H:Hp)(Q:VK)(E:XK):Prop
 | mk (l c w:Addr) (W:Addr→Prop) (aB:jU) (pq:nC) (rq:gB) (_:vs=[.ref l,.ref w]) (_:dG H l c) (_:Wo W H w aB pq rq) (_:(∀ a,W a→a≠l∧a≠c)) (_:aB.length≤50000) (_ :
 ∀ (r:Addr) (row:Row) (H':Hp),row.length≤2→bQ H' r row→(∀ p∈row,0≤p.1∧p.1<p.2∧p.2≤aB.length∧p.2≤p.1+40)→H r=none→dG H' l c→cO l H H'→Q (.ref r) H'):BC vs H Q E
theorem iQ:aJ ["_law_src_here","_law_world_here","_law_many","_law_row","_law_k","_law_start","_law_span"] ["_law_src_here","_law_world_here"] (ay mT):=⟨rfl,rfl,rfl,by decide +kernel,rfl,by decide +kernel,by decide +kernel⟩
set_option maxHeartbeats 4000000 in
theorem BD{f fN:Addr}{fd gN:FuncData}(F:iI K "_law_ink_row" "_law_ink_row" mT f fd)(T:n9 mg)(aV:aA K mg "_law_next" iW xq fN gN):aC P w K mg base bU 2 f fd Qy BC:=by
 have bJ:aC P w K mg base bU 1 _ _ xq sU:=lE aV.F T
 refine F.ok iQ (fun vs H Q E h=>?_) (fun cdv A outer s H vs Q E hr h=>?_)
 ·obtain⟨l,c,w,W,aB,pq,rq,rfl,_⟩:=h
  rfl
 obtain⟨l,c,w,W,aB,pq,rq,rfl,S,wo,dw,b1,k⟩:=h
 have hu:=m5 hr
 refine⟨_,(ak (aO (i:=2) iQ.nd rfl (Or.inl rfl) (aR bP rfl T.iH mw (aa (gW hu (pv 1) bS (fun _ _=>rfl)) ah)))
   (ak (aO (i:=3) iQ.nd rfl (Or.inl rfl) (bH ah))
   (ak (jr PassesOwn.never rfl (oG rfl T.oh (aa (bw Hj (aN aV bJ hr (aa (pv 0) (aa az ah))) (aR (qF rfl) rfl T.F6 PyProof.Rows.boot_min (aa az (aa (pv 2) ah)))) ah)) (aW (i:=4) iQ.nd rfl (Or.inl rfl))
   (ak (aO (i:=5) iQ.nd rfl (Or.inl rfl) (aN aV bJ hr (aa (pv 0) (aa (aR (xB rfl) rfl T.MP PyProof.Rows.boot_max (aa az (aa (pv 2) ah))) ah))))
   (ak (aO (i:=6) iQ.nd rfl (Or.inl rfl) (bw iy az (aN aV bJ hr (aa (pv 0) (aa (aR (xB rfl) rfl T.MP PyProof.Rows.boot_max (aa az (aa (aR (qF rfl) rfl T.F6 PyProof.Rows.boot_min (aa (bG bM (bH (aa az (aa az (aa az (aa az ah))))) (aN aV bJ hr (aa (pv 0) (aa az ah))) (fun _ _=>rfl)) (aa (bw iV (pv 2) (pv 5)) ah))) ah))) ah)))))
   (ao (bq (je rA vg vh cP (pv 3) (aa (iz (aa (pv 5) (aa (bw iy (pv 5) (pv 6)) ah))) ah)))))))
   (ao (aT (pv 3)))))),?_⟩
 obtain⟨ik,rw,ps,vl,wu⟩:=id wo
 obtain⟨as,hik,pa⟩:=id wu.hi
 have la:=Paired.length pa
 have zi:=pB.k (k:=kI) wu.hw
 rw[show cC (zP ik rw ps vl) kI=some (.ref ik) by kernel_rfl]at zi
 refine⟨_,rfl,w,_,rfl,zi,ik,_,rfl,.inl (bN.of hik),?_⟩
 refine⟨(by show 0≤sizeLine;decide),fun r hr0=>?_⟩
 have s1:=aj hr0 (.lst [])
 have r1:(upd H r (.lst [])) r=some (.lst []):=af
 have nr:=S.ne hr0
 have S1:=S.same s1
 generalize upd H r (.lst [])=H1 at s1 r1 S1
 refine⟨_,rfl,l,c,3,rfl,S1,by decide,by decide,fun v H2 v0 v1 S2 k2=>?_⟩
 rw[show (as.map V.ref).length=aB.length by rw[cA,la]]
 refine⟨_,rfl,_,_,rfl,_,_,rfl,rfl,.inl ⟨by omega,by omega⟩,?_⟩
 have hm:∃ n:Nat,(v*(if (aB.length:Int)<1 then (aB.length:Int) else 1))=n∧n≤2∧(0<n→1≤aB.length):=by
  split
  ·rename_i z
   refine⟨0,?_,by omega,by omega⟩
   rw[show (aB.length:Int)=0 by omega]
   exact Int.mul_zero _
  ·exact⟨v.toNat,by rw[Int.mul_one];omega,by omega,fun _=>by omega⟩
 obtain⟨n,en,n2,n1⟩:=hm
 have hM:(if (aB.length:Int) > 1 then (aB.length:Int) else 1)=if 1≤aB.length then (aB.length:Int) else 1:=by split <;> split <;> omega
 refine⟨n,congrArg (fun z=>[V.int z]) en,by omega,by omega,qE (lo:=0) (n:=((n:Nat):Int).toNat) (fun j σ H3=>∃ (u4 u5 u6:Option V) (row:Row),σ=[some (.ref l),some (.ref w),some (.int (aB.length:Nat)),some (.ref r),u4,u5,u6]∧bQ H3 r row∧row.length=j∧(∀ p∈row,0≤p.1∧p.1<p.2∧p.2≤aB.length∧p.2≤p.1+40)∧dG H3 l c∧cO l H H3) ⟨none,none,none,[],rfl,⟨[],(k2 r nr.1.symm).trans r1,.nil⟩,rfl,(fun p hp=>nomatch hp),S2,(jm.aH.keep s1).trans (cR k2)⟩ ?_ ?_⟩
 ·rintro j σ H3 hj ⟨u4,u5,u6,row,rfl,R3,lr,hp,S3,K3⟩
  have hk:1≤aB.length:=n1 (by omega)
  rw[if_pos hk]at hM
  refine⟨_,rfl,_,rfl,_,_,rfl,l,c,_,rfl,S3,(by rw[hM];omega),(by rw[hM];omega),fun a H4 a0 a1 S4 k4=>?_⟩
  rw[hM]at a1
  refine⟨_,rfl,(by show 4≤sizeLine;decide),fun t ht=>?_⟩
  have s5:=aj ht (.lst [.int 4,.int 4,.int 4,.int 40])
  have h5:(upd H4 t (.lst [.int 4,.int 4,.int 4,.int 40])) t=some (.lst [.int 4,.int 4,.int 4,.int 40]):=af
  have nt:=S4.ne ht
  have S5:=S4.same s5
  generalize upd H4 t (.lst [.int 4,.int 4,.int 4,.int 40])=H5 at s5 h5 S5
  refine⟨_,rfl,l,c,4,rfl,S5,by decide,by decide,fun i H6 i0 i1 S6 k6=>?_⟩
  obtain⟨z,hz,ez⟩:=GL (xs:=[V.int 4,.int 4,.int 4,.int 40]) i0 (by show i<4;omega)
  obtain⟨q,rfl,q0,q1⟩:∃ q:Int,z=.int q∧4≤q∧q≤40:=by
   rcases List.mem_cons.mp hz with y|hz
   ·exact⟨4,y,by decide,by decide⟩
   rcases List.mem_cons.mp hz with y|hz
   ·exact⟨4,y,by decide,by decide⟩
   rcases List.mem_cons.mp hz with y|hz
   ·exact⟨4,y,by decide,by decide⟩
   ·exact⟨40,List.mem_singleton.mp hz,by decide,by decide⟩
  refine⟨t,_,_,_,rfl,rfl,bN.of ((k6 t nt.1.symm).trans h5),ez,?_⟩
  have hX:∃ x:Int,(if (if (aB.length:Int)-a<q then (aB.length:Int)-a else q) > 1 then (if (aB.length:Int)-a<q then (aB.length:Int)-a else q) else 1)=x∧1≤x∧x≤aB.length-a∧x≤40:=⟨_,rfl,by split <;> split <;> omega,by split <;> split <;> omega,by split <;> split <;> omega⟩
  obtain⟨M,eM,M1,M2,M3⟩:=hX
  refine⟨_,rfl,_,rfl,_,_,rfl,rfl,_,_,rfl,_,_,rfl,l,c,_,rfl,S6,(by rw[eM];omega),(by rw[eM];omega),fun b H7 b0 b1 S7 k7=>⟨_,_,rfl,rfl,?_⟩⟩
  rw[eM]at b1
  have K7:cO l H3 H7:=(((cR k4).trans (jm.aH.keep s5)).trans (cR k6)).trans (cR k7)
  obtain⟨bs,hb,pb⟩:=R3
  obtain⟨ls,hl⟩:=S3.lst
  have hb7:=K7 _ _ hb nr.1.symm
  have pb7:bf H7 bs row:=pb.tups fun a xs e=>K7 _ _ e (cY e hl (by intro z;cases z))
  have lb:=Paired.length pb
  refine⟨_,rfl,.inl ⟨rfl,_,bN.of hb7⟩,_,rfl,_,rfl,_,rfl,_,_,rfl,rfl,(by show 2≤sizeLine;decide),fun p hp2=>⟨r,_,_,rfl,rfl,aj hp2 _ _ _ hb7,(by rw[cA];exact aL (by omega)),?_⟩⟩
  have sp:=aj hp2 (.tup [.int a,.int (a+(1+b))])
  have p8:(upd H7 p (.tup [.int a,.int (a+(1+b))])) p=some (.tup [.int a,.int (a+(1+b))]):=af
  have hb8:=sp _ _ hb7
  have S8:=S7.same sp
  have K8:cO l H (upd H7 p (.tup [.int a,.int (a+(1+b))])):=(K3.trans K7).trans (jm.aH.keep sp)
  have pb8:=bf.snoc (p:=(a,a+(1+b))) (pb7.same sp) p8
  refine⟨_,_,_,row++[(a,a+(1+b))],rfl,⟨bs++[p],by rw[lH];exact af,pb8.tups fun y xs e=>?_⟩,by rw[dU,lr];rfl,fun y hy=>?_,?_,fun y ob e n=>?_⟩
  ·exact (aF (cY e hb8 (by intro z;cases z))).trans e
  ·rcases List.mem_append.mp hy with hy|hy
   ·exact hp y hy
   ·rw[List.mem_singleton.mp hy]
    exact⟨a0,by show a<a+(1+b);omega,by show a+(1+b)≤_;omega,by show a+(1+b)≤a+40;omega⟩
  ·obtain⟨n,ns,i,d,r',e1,e2,h3⟩:=S8
   exact⟨n,ns,i,d,r',(aF nr.1).trans e1,(aF nr.2).trans e2,h3⟩
  ·exact (aF (au e hr0)).trans (K8 _ _ e n)
 rintro σ H3 ⟨u4,u5,u6,row,rfl,R3,lr,hp,S3,K3⟩
 exact⟨_,rfl,k r row H3 (by omega) R3 hp hr0 S3 K3⟩
theorem oE:aJ ["_law_row","_law_numbers","_law_start","_law_stop"] ["_law_row"] (ay qb):=⟨rfl,rfl,rfl,by decide +kernel,rfl,by decide +kernel,by decide +kernel⟩
theorem EL{f:Addr}{fd:FuncData}(F:iI K "_law_spell" "_law_spell" qb f fd)(T:n9 mg):aC P w K mg base bU 1 f fd ["_law_row"] (Du 1000000):=by
 refine F.ok oE (fun vs H Q E h=>?_) (fun cdv A outer s H vs Q E hr h=>?_)
 ·obtain⟨r,row,rfl,_⟩:=h
  rfl
 obtain⟨r,row,rfl,⟨as,hr1,hp⟩,hbd,hlen,hrl,k⟩:=h
 refine⟨_,(ak (aO (i:=1) oE.nd rfl (Or.inl rfl) (bH ah))
   (ak (jr PassesOwn.never rfl (cM (pv 0)) (rD (n:=2) rfl (bL (aW (i:=2) oE.nd rfl (Or.inl rfl)) (bL (aW (i:=3) oE.nd rfl (Or.inl rfl)) jX)))
   (ao (bq (je rA PySem.F.slot_list_extend PySem.F.type_list_extend Cm (pv 1) (aa (jl (uV rfl) rfl T.pG zS (aa (jl Fl rfl T.oh PyProof.Rows.boot_range (aa (pv 2) (aa (pv 3) ah))) ah)) ah)))))
   (ao (aT (pv 1))))),?_⟩
 refine⟨(by show 0≤sizeLine;decide),fun q hq=>?_⟩
 have s0:aH H (upd H q (.lst [])):=aj hq _
 refine⟨_,rfl,r,rfl,⟨_,bN.of (s0 _ _ hr1)⟩,jy (K:=K) (a:=r) (xs:=as.map V.ref) (fun i σ H2=>∃ (u v:Option V),σ=[some (.ref r),some (.ref q),u,v]∧H2 q=some (.lst ((aS (row.take i)).map V.int))∧aH H H2)
  ⟨none,none,rfl,af,s0⟩ (fun i σ H2 _ ⟨_,_,_,_,s⟩=>bN.of (s _ _ hr1)) ?_ ?_⟩
 ·rintro i x σ H2 hi ⟨u,v,rfl,hq2,s⟩
  rw[jV]at hi
  obtain⟨a,ea,rfl⟩:=Option.map_eq_some_iff.mp hi
  obtain⟨⟨st,en⟩,ep,ha⟩:=hp.get ea
  obtain⟨b1,b2,b3⟩:=hbd _ (uA ep)
  simp only at b1 b2 b3
  have step:=As ep
  have lz:(aS (row.take i)).length+(en-st).toNat≤1000000:=by
   have z:=uW row (i+1)
   rw[step,dU,span,gj]at z
   exact kT z hlen
  refine⟨a,_,rfl,jW.of (s _ _ ha),rfl,_,_,rfl,_,_,rfl,rfl,?_⟩
  refine⟨_,rfl,.inl ⟨rfl,_,bN.of hq2⟩,_,rfl,_,rfl,_,_,rfl,fun p hp=>⟨p,_,_,rfl,af,⟨by omega,by omega,by omega,by omega⟩,iR (aL (by omega)),fun m hm=>?_⟩⟩
  have s1:aH H2 (upd H2 p (.EO st en)):=aj hp _
  have s2:=s1.trans (aj hm (.lst (Cv st (en-st).toNat)))
  refine⟨q,m,_,_,rfl,rfl,s2 _ _ hq2,af,?_,?_⟩
  ·rw[cA,Ao,cA,gj]
   exact iR (aL (by omega))
  ·refine⟨_,_,rfl,?_,cD hq (s.trans s2) (aK q _ _)⟩
   rw[af,step,lH,Ao]
   rfl
 ·rintro σ H2 ⟨u,v,rfl,hq2,s⟩
  refine⟨_,rfl,k q H2 ?_ s hq⟩
  rw[cA,hp.len,kQ]at hq2
  exact hq2
theorem oF(cs:List Nat){k:Int}(h:0≤k):gX.AE cs none (some k)=cs.take k.toNat:=by
 unfold gX.AE
 have e1:HT.iG cs.length 0 none=0:=rfl
 have e2:HT.iG cs.length cs.length (some k)=min k.toNat cs.length:=by
  show (if k<0 then (k+(cs.length:Int)).toNat else min k.toNat cs.length)=_
  rw[if_neg (by omega)]
 rw[e1,e2,List.drop_zero,Nat.sub_zero]
 rcases Nat.le_total k.toNat cs.length with z|z
 ·rw[Nat.min_eq_left z]
 ·rw[Nat.min_eq_right z,vj (gQ _),vj z]
theorem mQ(cs:List Nat){k:Int}(h:0≤k):gX.AE cs (some k) none=cs.drop k.toNat:=by
 unfold gX.AE
 have e2:HT.iG cs.length 0 (some k)=min k.toNat cs.length:=by
  show (if k<0 then (k+(cs.length:Int)).toNat else min k.toNat cs.length)=_
  rw[if_neg (by omega)]
 have e1:HT.iG cs.length cs.length none=cs.length:=rfl
 rw[e1,e2]
 rcases Nat.le_total k.toNat cs.length with z|z
 ·rw[Nat.min_eq_left z,vj (by rw[sL];omega)]
 ·rw[Nat.min_eq_right z,List.drop_of_length_le (gQ _),List.drop_of_length_le z]
  simp
theorem pW{es:List Int}(h:∀ e∈es,0≤e):iN es=[]:=by
 unfold iN
 rw[List.filterMap_eq_nil_iff]
 intro e he
 rw[if_neg (by have:=h e he;omega)]
theorem qY(sh:Int→List Int):∀ {es:List Int},(∀ e∈es,0≤e)→cz sh es=es
 | [],_=>rfl
 | e::r,h=>by
  rw[gx,qh sh (h e (sD ..)),qY sh fun y hy=>h y (sJ _ hy)]
  rfl
theorem Qn(sh:Int→List Int)(p:Int):∀ (es:List Int) (f:Int),(∀ e∈es,0≤e)→aE sh p f es=es.take (p-f).toNat
 | [],_,_=>by simp[aE]
 | a::r,f,h=>by
  rw[aE,Qn sh p r _ fun y hy=>h y (sJ _ hy),qh sh (h a (sD ..))]
  show (if f+1≤p then [a] else if p≤f then [] else _)++r.take (p-(f+1)).toNat=_
  by_cases c:f+1≤p
  ·rw[if_pos c,show (p-f).toNat=(p-(f+1)).toNat+1 by omega]
   rfl
  ·rw[if_neg c,if_pos (by omega),show (p-f).toNat=0 by omega,show (p-(f+1)).toNat=0 by omega]
   rfl
theorem Qo(sh:Int→List Int)(p:Int):∀ (es:List Int) (f:Int),(∀ e∈es,0≤e)→bE sh p f es=es.drop (p-f).toNat
 | [],_,_=>by simp[bE]
 | a::r,f,h=>by
  rw[bE,Qo sh p r _ fun y hy=>h y (sJ _ hy),qh sh (h a (sD ..))]
  show (if f+1≤p then [] else if p≤f then [a] else _)++r.drop (p-(f+1)).toNat=_
  by_cases c:f+1≤p
  ·rw[if_pos c,show (p-f).toNat=(p-(f+1)).toNat+1 by omega]
   rfl
  ·rw[if_neg c,if_pos (by omega),show (p-f).toNat=0 by omega,show (p-(f+1)).toNat=0 by omega]
   rfl
theorem uy(f:Int→Int):∀ {es:List Int},(∀ e∈es,0≤e)→AN f es=(es.length:Int)
 | [],_=>rfl
 | e::r,h=>by
  have ih:=uy f (es:=r) fun y hy=>h y (sJ _ hy)
  have he:=h e (sD ..)
  unfold AN at ih ⊢
  rw[mz,List.sum_cons,ih,if_neg (by omega),nG]
  omega
def G5(n:Nat)(rows:gB):Prop:=∀ es∈rows,es.length≤200∧∀ e∈es,0≤e∧e<(n:Nat)
def own(rows:gB)(x:Int):List Int:=(rows[x.toNat]?).getD []
theorem G5.OC{n:Nat}{rows:gB}(h:G5 n rows){x y:Int}:¬ BP rows x y:=fun ⟨_,es,he,hy⟩=>by
 rw[pW fun e z=>((h es (uA he)).2 e z).1]at hy
 cases hy
theorem G5.sound{n:Nat}{rows:gB}(h:G5 n rows):Sound rows:=fun es he y hy=>by
 rw[pW fun e z=>((h es he).2 e z).1]at hy
 cases hy
theorem G5.VS{n:Nat}{rows:gB}(h:G5 n rows):HQ rows:=⟨fun _=>0,fun _=>lI _,fun _ _ z=>absurd z h.OC⟩
theorem Nt{rows:gB}{x:Int}{es:List Int}(h:rows[x.toNat]?=some es):own rows x=es:=by
 unfold own
 rw[h]
 rfl
theorem G5.own{n:Nat}{rows:gB}(h:G5 n rows)(x:Int):(own rows x).length≤200∧∀ e∈own rows x,0≤e∧e<(n:Nat):=by
 unfold jm.own
 cases e:rows[x.toNat]? with
 | none=>exact⟨Nat.zero_le _,fun _ z=>nomatch z⟩
 | some es=>exact h es (uA e)
theorem G5.seen{n:Nat}{rows:gB}(h:G5 n rows):Seen rows (jm.own rows):=by
 refine⟨fun es he=>by have:=(h es he).1;omega,h.sound,h.VS,fun x es _ he=>?_,fun x _ _=>by have:=(h.own x).1;omega⟩
 rw[Nt he,qY _ fun e z=>((h es (uA he)).2 e z).1]
theorem G5.bears{n:Nat}{rows:gB}(h:G5 n rows)(l:rows.length≤100):sj rows fun x=>((jm.own rows x).length:Int):=by
 refine⟨l,fun es he=>by have:=(h es he).1;omega,h.sound,h.VS,fun x es _ he=>?_,fun x _ _=>by have:=(h.own x).1;omega⟩
 rw[Nt he,uy _ fun e z=>((h es (uA he)).2 e z).1]
theorem qZ{k:Nat}:∀ {row:Row},(∀ p∈row,p.2≤p.1+(k:Nat))→(aS row).length≤k*row.length
 | [],_=>lI _
 | p::r,h=>by
  have ih:=qZ (row:=r) fun q hq=>h q (sJ _ hq)
  have hp:=h p (sD ..)
  have e:aS (p::r)=span p++aS r:=by unfold aS;rw[mq]
  rw[e,dU,nG,Nat.mul_add,Nat.mul_one]
  have:(span p).length≤k:=by unfold span;rw[gj];omega
  omega
theorem rf{n:Nat}{row:Row}(h:∀ p∈row,0≤p.1∧p.1<p.2∧p.2≤(n:Nat)){e:Int}(he:e∈aS row):0≤e∧e<(n:Nat):=by
 unfold aS at he
 obtain⟨p,hp,hm⟩:=List.mem_flatMap.mp he
 have b:=h p hp
 have m:=Jp.mp hm
 omega
theorem uz{sh:Int→List Int}{p:Int}{es new:List Int}(h:∀ e∈es,0≤e):lg sh p es new=es.take p.toNat++new++es.drop p.toNat:=by
 unfold lg
 split
 ·rename_i e
  rw[e,kj,List.take_append_drop]
 ·rw[Qn sh p es 0 h,Qo sh p es 0 h,Int.sub_zero]
theorem dG.fru{U U':Addr→Prop}{H H':Hp}{l c:Addr}(S:dG H l c)(fr:Lz U U' H H')(nl:¬ U l)(nc:¬ U c):dG H' l c:=by
 obtain⟨n,ns,i,d,r,e1,e2,h3⟩:=S
 exact⟨n,ns,i,d,r,fr.2.1 _ _ e1 nl,fr.2.1 _ _ e2 nc,h3⟩
theorem zQ.afo{C CS CW CB:Addr}{H H':Hp}{l c w x:Addr}{U U' W:Addr→Prop}{pe Tp:nC}{rows rows':gB}{pq:nC}{rq:gB}{lines jR:nA}{aB:jU}{nW VQ:Nat}{bC Qp:Row}(St:zQ C CS CW CB H l c w x U W pe rows pq rq lines aB nW bC)(L':vV C CS CW CB U' H' x Tp jR aB VQ Qp)(hl:Tp.getLast?=some rows')(fr:Lz U U' H H'):zQ C CS CW CB H' l c w x U' W Tp rows' pq rq jR aB VQ Qp∧JJ l U W U' W H H':=by
 refine⟨⟨St.src.fru fr (fun z=>(St.du l z).2.1 rfl) (fun z=>(St.du c z).2.2 rfl),L',hl,St.wo.fr (fun a ob e z=>fr.2.1 _ _ e (fun y=>(St.du a y).1 z)) fr.2.2,fun a z=>?_,St.dw⟩,fun a z=>z.elim (fun z=>(fr.1 a z).elim .inl fun y=>.inr (.inr y)) (fun z=>.inr (.inl z)),fun a ob e _ u _=>fr.2.1 a ob e u,fr.2.2⟩
 rcases fr.1 a z with y|y
 ·exact St.du a y
 ·have n:=St.src.ne y
  refine⟨fun z=>?_,n.1.symm,n.2.symm⟩
  obtain⟨ob,e⟩:=St.wo.al z
  rw[y]at e;cases e
theorem Qq(sh:Int→List Int){a b:Int}(ab:a≤b):∀ (es:List Int) (f:Int),(∀ e∈es,0≤e)→kE sh a b f es=es.take (a-f).toNat++es.drop (b-f).toNat
 | [],_,_=>by simp[kE]
 | e::r,f,h=>by
  rw[kE,Qq sh ab r _ fun y hy=>h y (sJ _ hy)]
  unfold WV
  rw[qh sh (h e (sD ..))]
  show (if f+1≤a∨b≤f then [e] else if a≤f∧f+1≤b then [] else _)++(r.take (a-(f+1)).toNat++r.drop (b-(f+1)).toNat)=_
  by_cases c:f+1≤a
  ·rw[if_pos (.inl c),show (a-f).toNat=(a-(f+1)).toNat+1 by omega,show (b-f).toNat=(b-(f+1)).toNat+1 by omega]
   rfl
  by_cases d:b≤f
  ·rw[if_pos (.inr d),show (a-f).toNat=0 by omega,show (b-f).toNat=0 by omega,show (a-(f+1)).toNat=0 by omega,show (b-(f+1)).toNat=0 by omega]
   rfl
  ·rw[if_neg (fun z=>z.elim c d),if_pos ⟨by omega,by omega⟩,show (a-f).toNat=0 by omega,show (a-(f+1)).toNat=0 by omega,show (b-f).toNat=(b-(f+1)).toNat+1 by omega]
   rfl
theorem Ln{sh:Int→List Int}{a b:Int}{es:List Int}(ab:a≤b)(h:∀ e∈es,0≤e):vG sh a b es=es.take a.toNat++es.drop b.toNat:=by
 unfold vG
 split
 ·rename_i e
  rw[e,List.take_append_drop]
 ·rw[Qq sh ab es 0 h,Int.sub_zero,Int.sub_zero]
abbrev Pd(cs:List Nat):V:=.str (txt cs)
theorem Qs{aB:jU}{i:Nat}{q:Int × Nat}(h:aB[i]?=some q):ji aB [] 35 ((i:Nat):Int)=q.2:=by
 unfold ji
 rw[if_neg (by intro z;cases z),Int.toNat_natCast,h]
 rfl
theorem De{K:PySem.W.Frag}{q acc w:Addr}{W:Addr→Prop}{aB:jU}{pq:nC}{rq:gB}{ns:List Int}{H:Hp}{Q:VK}(wo:Wo W H w aB pq rq)(hq:H q=some (.lst (ns.map V.int)))(hacc:H acc=none)(hz:∀ e∈ns,0≤e∧e<(aB.length:Nat))(ls:ns.length≤1000)(k:∀ H',H' acc=some (.lst ((ns.map (ji aB [] 35)).map wG))→aH H H'→Q (.ref acc) H') :
  wF (J5 K q) acc (vZ 0) Kq (SR (LZ K) (SR (N9 K) (PY (J2 1) (tC (V.str (Str.ofString "ink")))) (J2 0)) (tC (V.int 1))) [none,some (.ref w)] (upd H acc (.lst [])) Q:=by
 obtain⟨ik,rw',ps,vl,wu⟩:=wo
 obtain⟨as,hik,pa⟩:=id wu.hi
 have la:=Paired.length pa
 refine jL (K:=K) (a:=q) (xs:=ns.map V.int) (fun i σ H6=>∃ u:Option V,σ=[u,some (.ref w)]∧H6 acc=some (.lst (((ns.take i).map (ji aB [] 35)).map wG))∧aH H H6) ⟨none,rfl,af,aj hacc _⟩ (fun i σ H6 _ ⟨_,_,_,s6⟩=>bN.of (s6 _ _ hq)) ?_ ?_
 ·rintro i y σ H6 hi ⟨u,rfl,h6,s6⟩
  rw[jV]at hi
  obtain⟨e,ei,rfl⟩:=Option.map_eq_some_iff.mp hi
  have il:=(List.getElem?_eq_some_iff.mp ei).1
  have he:=hz e (uA ei)
  have zi:=pB.k (k:=kI) (s6 _ _ wu.hw)
  rw[show cC (zP ik rw' ps vl) kI=some (.ref ik) by kernel_rfl]at zi
  obtain⟨e',rfl⟩:∃ e':Nat,e=e':=⟨e.toNat,by omega⟩
  have le':e'<as.length:=by omega
  obtain⟨q',eq',htp⟩:=rH pa (nU le')
  refine⟨_,rfl,w,_,rfl,zi,_,rfl,ik,_,_,_,rfl,rfl,bN.of (s6 _ _ hik),eV (by rw[jV,nU le'];rfl),as[e'],_,_,_,rfl,rfl,jW.of (s6 _ _ htp),rfl,_,h6,aL (by rw[cA,cA,rj];omega),_,rfl,?_,cD hacc s6 (aK acc _ _)⟩
  rw[af,take_snoc ei,lH,lH]
  show _=some (HO.lst (_++[wG (ji aB [] 35 ((e':Nat):Int))]))
  rw[Qs eq']
 ·rintro σ H6 ⟨u,rfl,h6,s6⟩
  rw[cA,kQ]at h6
  exact k H6 h6 s6
theorem GQ{aB:jU}{m:Nat}(h:m≤aB.length):(aB.take m).map Prod.snd=(aS [(0,(m:Int))]).map (ji aB [] 35):=by
 have e:aS [(0,(m:Int))]=run 0 m:=by
  unfold aS
  rw[mq,List.flatMap_nil,kj]
  unfold span
  rw[show ((0,(m:Int)).2-(0,(m:Int)).1).toNat=m by show ((m:Int)-0).toNat=m;omega]
 rw[e]
 refine List.ext_getElem? fun i=>?_
 rw[jV,jV,List.getElem?_take]
 by_cases c:i<m
 ·rw[if_pos c,run_get 0 m i c,nU (by omega)]
  show some _=some (ji aB [] 35 (0+(i:Int)))
  rw[show (0+(i:Int))=((i:Nat):Int) by omega,Qs (nU (by omega))]
 ·rw[if_neg c,zT (by rw[gj];omega)]
  rfl
theorem vV.hx{C CS CW CB:Addr}{U:Addr→Prop}{H:Hp}{x:Addr}{pe:nC}{lines:nA}{aB:jU}{nW:Nat}{bC:Row}(h:vV C CS CW CB U H x pe lines aB nW bC):∃ d wl sh bl kn du bk:Addr,H x=some (.ins C d [("well",.ref wl),("shelf",.ref sh),("blots",.ref bl),("knots",.ref kn),("dues",.ref du),("book",.ref bk)]):=by
 obtain⟨S,SW,d,wl,sh,bl,kn,du,bk,dS,st,op,dw,sg,ow,pw,db,tb,ops,LU⟩:=h
 exact⟨d,wl,sh,bl,kn,du,bk,LU.L.hx⟩
theorem Nu(sh:Int→List Int)(p:Int):∀ (es:List Int) (f:Int),f+(cz sh es).length≤p→aE sh p f es=es∧bE sh p f es=[]
 | [],_,_=>⟨rfl,rfl⟩
 | e::r,f,h=>by
  rw[gx,dU]at h
  push_cast at h
  obtain⟨h1,h2⟩:=Nu sh p r (f+(mC sh e).length) (by omega)
  rw[aE,bE,h1,h2,if_pos (by omega),if_pos (by omega)]
  exact⟨rfl,rfl⟩
theorem IG{sh:Int→List Int}{es new:List Int}{p:Int}(h:p=(cz sh es).length):lg sh p es new=es++new:=by
 unfold lg
 split
 ·rename_i e
  rw[e,kj]
 ·obtain⟨h1,h2⟩:=Nu sh p es 0 (by omega)
  rw[h1,h2,kj]
def Cb(n:Nat)(es:List Int):Prop:=∀ e∈es,0≤e∧e<(n:Nat)
theorem Cb.app{n:Nat}{a b:List Int}(h:Cb n a)(g:Cb n b):Cb n (a++b):=fun e he=>(List.mem_append.mp he).elim (h e) (g e)
theorem Cb.take{n:Nat}{a:List Int}(h:Cb n a)(k:Nat):Cb n (a.take k):=fun e he=>h e (List.mem_of_mem_take he)
theorem Cb.drop{n:Nat}{a:List Int}(h:Cb n a)(k:Nat):Cb n (a.drop k):=fun e he=>h e (List.mem_of_mem_drop he)
theorem Cb.nn{n:Nat}{a:List Int}(h:Cb n a):∀ e∈a,0≤e:=fun e he=>(h e he).1
def Df(a o:List Int)(p:Nat)(q:List Int)(n:Nat):gB:=a::(o.take p++[-1]++o.drop p++q)::List.replicate n []
def zx(a o:List Int)(p:Nat)(q:List Int)(x:Int):List Int:=if x=0 then a else if x=1 then o.take p++a++o.drop p++q else []
def PR(a o:List Int)(q:List Int)(x:Int):Int:=if x=0 then a.length else if x=1 then (o.length:Int)+1+a.length+q.length else 0
theorem EM{a o q es:List Int}{p n:Nat}{x:Int}(h:(Df a o p q n)[x.toNat]?=some es)(x0:0≤x):(x=0∧es=a)∨(x=1∧es=o.take p++[-1]++o.drop p++q)∨(x≠0∧x≠1∧es=[]):=by
 unfold Df at h
 by_cases c:x=0
 ·rw[c]at h
  cases h
  exact .inl ⟨c,rfl⟩
 by_cases d:x=1
 ·rw[d]at h
  cases h
  exact .inr (.inl ⟨d,rfl⟩)
 ·obtain⟨k,hk⟩:∃ k,x.toNat=k+2:=⟨x.toNat-2,by omega⟩
  rw[hk,List.getElem?_cons_succ,List.getElem?_cons_succ]at h
  exact .inr (.inr ⟨c,d,(List.mem_replicate.mp (uA h)).2⟩)
theorem JM{a o q es:List Int}{p n:Nat}(h:es∈Df a o p q n):es=a∨es=o.take p++[-1]++o.drop p++q∨es=[]:=by
 unfold Df at h
 rcases List.mem_cons.mp h with h|h
 ·exact .inl h
 rcases List.mem_cons.mp h with h|h
 ·exact .inr (.inl h)
 ·exact .inr (.inr (List.mem_replicate.mp h).2)
theorem yv(a b:List Int):iN (a++b)=iN a++iN b:=by unfold iN;rw[List.filterMap_append]
theorem Nv{N p:Nat}{o q:List Int}(ho:Cb N o)(hq:Cb N q):iN (o.take p++[-1]++o.drop p++q)=[0]:=by
 rw[yv,yv,yv,pW (ho.take p).nn,pW (ho.drop p).nn,pW hq.nn]
 rfl
structure ny(N:Nat)(a o:List Int)(p:Nat)(q:List Int)(n:Nat):Prop where
 ha:Cb N a
 ho:Cb N o
 hq:Cb N q
 la:a.length≤80
 lo:o.length≤60
 lq:q.length≤40
 pl:p≤o.length
 ln:n≤2
section
variable {N p n:Nat} {a o q:List Int}
theorem ny.VT(h:ny N a o p q n):(o.take p++[-1]++o.drop p++q).length=o.length+1+q.length:=by
 have:=h.pl
 rw[dU,dU,dU,rj,sL]
 simp only[nG,qu]
 omega
theorem ny.OC(h:ny N a o p q n){x y:Int}(e:BP (Df a o p q n) x y):x=1∧y=0:=by
 obtain⟨x0,es,he,hy⟩:=e
 rcases EM he x0 with ⟨_,rfl⟩|⟨c,rfl⟩|⟨_,_,rfl⟩
 ·rw[pW h.ha.nn]at hy;cases hy
 ·rw[Nv h.ho h.hq]at hy
  exact⟨c,List.mem_singleton.mp hy⟩
 ·cases hy
theorem ny.sound(h:ny N a o p q n):Sound (Df a o p q n):=fun es he y hy=>by
 rcases JM he with rfl|rfl|rfl
 ·rw[pW h.ha.nn]at hy;cases hy
 ·rw[Nv h.ho h.hq]at hy
  rw[List.mem_singleton.mp hy]
  show (0:Int)<((List.replicate n ([]:List Int)).length+1+1:Nat)
  omega
 ·cases hy
theorem ny.VS(h:ny N a o p q n):HQ (Df a o p q n):=⟨fun x=>if x=1 then 1 else 0,fun x=>by show (if x=1 then 1 else 0)≤40;split <;> omega,fun x y e=>by
 obtain⟨rfl,rfl⟩:=h.OC e
 decide⟩
theorem ny.es(h:ny N a o p q n):∀ es∈Df a o p q n,es.length≤1000:=fun es he=>by
 have l:=h.VT
 have:=h.la;have:=h.lo;have:=h.lq
 rcases JM he with rfl|rfl|rfl
 ·omega
 ·omega
 ·exact lI _
theorem Ny(h:ny N a o p q n)(sh:Int→List Int)(e:sh 0=a):cz sh (o.take p++[-1]++o.drop p++q)=o.take p++a++o.drop p++q:=by
 rw[rK,rK,rK,qY sh (h.ho.take p).nn,qY sh (h.ho.drop p).nn,qY sh h.hq.nn,gx]
 show o.take p++(mC sh (-1-0)++[])++_++_=_
 rw[Gi sh (Int.le_refl 0),e,kj]
theorem ny.Sw(h:ny N a o p q n):(o.take p++a++o.drop p++q).length=o.length+a.length+q.length:=by
 have:=h.pl
 rw[dU,dU,dU,rj,sL]
 omega
theorem ny.seen(h:ny N a o p q n):Seen (Df a o p q n) (zx a o p q):=by
 refine⟨h.es,h.sound,h.VS,fun x es x0 he=>?_,fun x _ _=>?_⟩
 ·rcases EM he x0 with ⟨rfl,rfl⟩|⟨rfl,rfl⟩|⟨c,d,rfl⟩
  ·rw[qY _ h.ha.nn];rfl
  ·rw[Ny h _ rfl];rfl
  ·unfold zx;rw[if_neg c,if_neg d];rfl
 ·have:=h.la;have:=h.lo;have:=h.lq;have:=h.Sw
  unfold zx
  split
  ·omega
  split
  ·omega
  ·exact lI _
theorem ny.bears(h:ny N a o p q n):sj (Df a o p q n) (PR a o q):=by
 have:=h.la;have:=h.lo;have:=h.lq;have:=h.ln
 refine⟨?_,h.es,h.sound,h.VS,fun x es x0 he=>?_,fun x _ _=>?_⟩
 ·show (List.replicate n ([]:List Int)).length+1+1≤100
  rw[vm];omega
 ·rcases EM he x0 with ⟨rfl,rfl⟩|⟨rfl,rfl⟩|⟨c,d,rfl⟩
  ·rw[uy _ h.ha.nn];rfl
  ·have e:∀ (f:Int→Int) (u v:List Int),AN f (u++v)=AN f u+AN f v:=fun f u v=>by unfold AN;rw[lH,List.sum_append]
   have pl:=h.pl
   rw[e,e,e,uy _ (h.ho.take p).nn,uy _ (h.ho.drop p).nn,uy _ h.hq.nn,rj,sL]
   show (o.length:Int)+1+a.length+q.length=_+(1+PR a o q (-1 - -1)+0)+_+_
   rw[show PR a o q (-1 - -1)=a.length from rfl]
   omega
  ·unfold PR;rw[if_neg c,if_neg d];rfl
 ·unfold PR
  split
  ·omega
  split <;> omega
theorem ny.in1(h:ny N a o p q n):∀ e∈o.take p++a++o.drop p++q,0≤e∧e<(N:Nat):=(((h.ho.take p).app h.ha).app (h.ho.drop p)).app h.hq
end
inductive zR(C CS CW CB l c x w:Addr)(aB:jU)(rows:gB)(k:Nat)(H:Hp):Prop
 | mk (U W:Addr→Prop) (pe:nC) (pq:nC) (rq:gB) (lines:nA) (_:zQ C CS CW CB H l c w x U W pe rows pq rq lines aB 2 []) (_:pe.length≤k) (_:lines.length≤k):zR C CS CW CB l c x w aB rows k H
theorem zR.same{C CS CW CB l c x w:Addr}{aB:jU}{rows:gB}{k:Nat}{H H':Hp}(h:zR C CS CW CB l c x w aB rows k H)(s:aH H H'):zR C CS CW CB l c x w aB rows k H':=by
 obtain⟨U,W,pe,pq,rq,lines,St,l1,l2⟩:=h
 exact⟨U,W,pe,pq,rq,lines,St.same s,l1,l2⟩
theorem zR.mv{C CS CW CB l c x w:Addr}{aB:jU}{rows:gB}{k:Nat}{H H':Hp}(h:zR C CS CW CB l c x w aB rows k H)(kp:cO l H H')(s:dG H' l c):zR C CS CW CB l c x w aB rows k H':=by
 obtain⟨U,W,pe,pq,rq,lines,St,l1,l2⟩:=h
 exact⟨U,W,pe,pq,rq,lines,St.mv kp s,l1,l2⟩
theorem zR.on{C CS CW CB l c x w:Addr}{aB:jU}{rows rows':gB}{k:Nat}{H H':Hp}{U U' W:Addr→Prop}{pe pq:nC}{rq:gB}{lines:nA}{ln:List Nat}(St:zQ C CS CW CB H l c w x U W pe rows pq rq lines aB 2 [])(l1:pe.length≤k)(l2:lines.length≤k)(L:vV C CS CW CB U' H' x (pe++[rows']) (lines++[ln]) aB 2 [])(fr:Lz U U' H H'):zR C CS CW CB l c x w aB rows' (k+1) H':=by
 refine⟨U',W,_,pq,rq,_,(St.afo L (by simp) fr).1,?_,?_⟩
 ·rw[dU];simp only[nG,qu];omega
 ·rw[dU];simp only[nG,qu];omega
def afp(C CS CW CB:Addr):TS:=fun D σ H=>∃ (l c x w:Addr) (s0 s5 s6 s7 s8 s9 BO nI s12 yJ G3:Option V) (m n:Nat) (aB:jU),σ=[s0,some (.ref l),some (.ref x),some (.ref w),some (.int (m:Nat)),s5,s6,s7,s8,s9,BO,nI,s12,yJ,G3]∧m≤40∧m≤aB.length∧aB.length≤120∧n≤2∧zR C CS CW CB l c x w aB (e0 (n+2)) 10 H∧∀ H',zR C CS CW CB l c x w aB (aS [(0,(m:Int))]::e0 (n+1)) 11 H'→D.nx [s0,some (.ref l),some (.ref x),some (.ref w),some (.int (m:Nat)),s5,s6,s7,s8,s9,BO,nI,s12,yJ,G3] H'
def afq:TS:=fun D σ H=>∃ (r:Addr) (s0 s1 s2 s3 s4 s5 s8 s9 BO nI s12 yJ G3:Option V) (aB:jU) (row:Row),σ=[s0,s1,s2,s3,s4,s5,some (.ref r),some (Pd ((aS row).map (ji aB [] 35))),s8,s9,BO,nI,s12,yJ,G3]∧(aS row).length≤100∧bQ H r row∧∀ (r':Addr) (BY:Row) (H':Hp),aH H H'→bQ H' r' BY→(BY=row∨BY=[])→(aS BY).length≤60→D.nx [s0,s1,s2,s3,s4,s5,some (.ref r'),some (Pd ((aS BY).map (ji aB [] 35))),s8,s9,BO,nI,s12,yJ,G3] H'
def afr(C CS CW CB:Addr):TS:=fun D σ H=>∃ (l c x w r:Addr) (s0 s4 s6 s7 s8 s9 BO:Option V) (aB:jU) (a o q:List Int) (p n k:Nat) (u v:Int) (row:Row),σ=[s0,some (.ref l),some (.ref x),some (.ref w),s4,some (Pd (a.map (ji aB [] 35))),s6,s7,s8,s9,BO,some (.int u),some (.int v),some (.ref r),some (Pd ((aS row).map (ji aB [] 35)))]∧ny aB.length a o p q n∧aB.length≤120∧k≤100∧0≤u∧u≤v∧v≤a.length∧bQ H r row∧r≠l∧row.length≤1∧(∀ z∈row,0≤z.1∧z.1<z.2∧z.2≤(aB.length:Nat)∧z.2≤z.1+40)∧zR C CS CW CB l c x w aB (Df a o p q n) k H∧∀ (a':List Int) (H':Hp),ny aB.length a' o p q n→zR C CS CW CB l c x w aB (Df a' o p q n) (k+1) H'→D.nx [s0,some (.ref l),some (.ref x),some (.ref w),s4,some (Pd (a'.map (ji aB [] 35))),s6,s7,s8,s9,BO,some (.int u),some (.int v),some (.ref r),some (Pd ((aS row).map (ji aB [] 35)))] H'
theorem holds_of{n:Nat}{row:Row}(h:∀ z∈row,0≤z.1∧z.1<z.2∧z.2≤(n:Nat)):qB n row=true:=List.all_eq_true.mpr fun q hq=>by
 have:=h q hq
 unfold NI
 simp only[Bool.and_eq_true,decide_eq_true_eq]
 omega
theorem mh:aJ ["_law_script","_law_src_here","_law_house","_law_world_here","_law_many","_law_first","_law_row","_law_own","_law_place","_law_kept","_law_k","_law_start","_law_stop","_law_more","_law_new"] ["_law_script"] (ay HA):=⟨rfl,rfl,rfl,by decide +kernel,rfl,by decide +kernel,by decide +kernel⟩
set_option maxHeartbeats 4000000 in
theorem Sx{C:Addr}{f x0 x1 x2 x3 x4 x5 x6 x7 x8 x9 Qj x11 x12 x13 x14 x15 x16 x17 x18 x19 x20 x21 x22 x23 x24 x25 x26 x27 x28 x29 x30 x31 x32 x33 x34 x35 x36 x37 x38 x39 x40 x41 x42 x43 x44 x45 x46 x47 x48 x49 x50 x51 x52 x53 x54 x55 x56 x57 x58 x59 x60 x61 x62 x63 x64 x65 x66 x67 x68 x69 x70 x71 x72 x73 x74 x75 x76 x77:Addr}{fd y0 y1 y2 y3 y4 y5 y6 y7 y8 y9 y10 y11 y12 y13 y14 y15 y16 y17 y18 y19 y20 y21 y22 y23 y24 y25 y26 y27 y28 y29 y30 y31 y32 y33 y34 y35 y36 y37 y38 y39 y40 y41 y42 y43 y44 y45 y46 y47 y48 y49 y50 y51 y52 y53 y54 y55 y56 y57 y58 y59 y60 y61 y62 y63 y64 y65 y66 y67 y68 y69 y70 y71 y72 y73 y74 y75 y76 y77:FuncData}{bT:Addr}{dc:Addr}{dO:Addr}{uK:Addr}{yD:Addr}{aI:Addr}(F:iI K "law" "law" HA f fd)(T:n9 mg)(G:Xf mg)(Z:ExcAt K mg C){jG:Addr}{oH:Addr}{oJ:Addr}{qH:Addr}(eO:AB K mg "NoSheet" jG)(dB:AB K mg "NoMoment" oH)(ef:AB K mg "OutOfInk" oJ)(dm:AB K mg "TooMany" qH)(Dg:aA K mg "_law_src" tR NQ x0 y0)
  (aV:aA K mg "_law_next" iW xq x1 y1)
  (cE:aA K mg "_law_whole" gU EV x2 y2)
  (ck:aA K mg "_law_same" jz yU x3 y3)
  (gu:aA K mg "plain" lO eU x4 y4)
  (ju:aA K mg "size" ssize eU x5 y5)
  (bY:aA K mg "check_places" eZ nE x6 y6)
  (gY:aA K mg "pieces" mR nE x7 y7)
  (JH:aA K mg "part" Fe nE x8 y8)
  (rR:aA K mg "addresses" oS eU x9 y9)
  (gJ:aA K mg "first_reaching" eK JS Qj y10)
  (zH:aA K mg "within" tS LC x11 y11)
  (kO:aU K dO "__init__" "Blots.__init__" jf jk x12 y12)
  (lZ:aU K dO "hides" "Blots.hides" lP JQ x13 y13)
  (cy:aA K mg "windows" eL nF x14 y14)
  (jN:aA K mg "below" lQ mj x15 y15)
  (j6:aA K mg "way_between" iX JT x16 y16)
  (JE:aA K mg "ring" Co xo x17 y17)
  (j7:aA K mg "item_weight" iY JU x18 y18)
  (lY:aA K mg "weights_below" fX mj x19 y19)
  (cB:aA K mg "item_row" fH xm x20 y20)
  (dh:aA K mg "views_below" dR mj x21 y21)
  (Bj:aA K mg "shown" Aj xo x22 y22)
  (jO:aA K mg "goes_on" lR EW x23 y23)
  (cV:aA K mg "plain_items" gV nF x24 y24)
  (gy:aA K mg "inked" rF eU x25 y25)
  (pO:aA K mg "dealt" rG Dj x26 y26)
  (rO:aA K mg "put_among" mD LD x27 y27)
  (iD:aA K mg "put_items" oU JV x28 y28)
  (uh:aA K mg "parted" tT LF x29 y29)
  (rS:aA K mg "cut_items" oV NO x30 y30)
  (jP:aA K mg "ink_words" jA eU x31 y31)
  (qm:aA K mg "shown_deed" ly ["deed"] x32 y32)
  (jh:aA K mg "changed" oW G6 x33 y33)
  (kM:aU K bT "__init__" "Shelf.__init__" jg jk x34 y34)
  (bX:aU K bT "now" "Shelf.now" iA jk x35 y35)
  (dX:aU K bT "many" "Shelf.many" jB jk x36 y36)
  (nj:aU K bT "step" "Shelf.step" lA Tz x37 y37)
  (aQ:aU K bT "check_sheet" "Shelf.check_sheet" gf Di x38 y38)
  (cL:aU K bT "check_moment" "Shelf.check_moment" cK LA x39 y39)
  (iP:aU K bT "rows_then" "Shelf.rows_then" dN LA x40 y40)
  (br:aU K bT "rows" "Shelf.rows" m6 jk x41 y41)
  (l6:aU K uK "__init__" "Ties.__init__" jC jk x42 y42)
  (l9:aU K yD "__init__" "Dues.__init__" jD jk x43 y43)
  (l5:aU K dc "__init__" "Well.__init__" jE jk x44 y44)
  (bu:aU K dc "size" "Well.size" iZ jk x45 y45)
  (pT:aU K dc "pour" "Well.pour" oX NL x46 y46)
  (eS:aU K dc "check_address" "Well.check_address" dz JQ x47 y47)
  (pV:aU K dc "sign" "Well.sign" oY JQ x48 y48)
  (nv:aU K dc "holds" "Well.holds" lC Pp x49 y49)
  (oB:aA K mg "check_weave" lS xo x50 y50)
  (qp:aU K aI "__init__" "Library.__init__" jt jk x51 y51)
  (aP:aU K aI "enter" "Library.enter" bV JR x52 y52)
  (aM:aU K aI "change" "Library.change" cT Lq x53 y53)
  (kC:aU K aI "many" "Library.many" kq jk x54 y54)
  (Pe:aU K aI "now" "Library.now" wj jk x55 y55)
  (jQ:aU K aI "begin" "Library.begin" jF Wr x56 y56)
  (gA:aU K aI "fresh" "Library.fresh" iK jk x57 y57)
  (jb:aU K aI "ink" "Library.ink" j0 jk x58 y58)
  (eT:aU K aI "check_held" "Library.check_held" eN Pp x59 y59)
  (iE:aU K aI "pour" "Library.pour" jo NL x60 y60)
  (jc:aU K aI "put" "Library.put" nZ Qu x61 y61)
  (bI:aU K aI "shown" "Library.shown" gh Di x62 y62)
  (jj:aU K aI "veiled" "Library.veiled" gH NN x63 y63)
  (kF:aU K aI "text" "Library.text" mS Di x64 y64)
  (NK:aU K aI "size" "Library.size" uJ Di x65 y65)
  (rV:aU K aI "cut" "Library.cut" n6 Qv x66 y66)
  (pX:aU K aI "quote" "Library.quote" lT Qw x67 y67)
  (nM:aU K aI "window" "Library.window" kJ Qx x68 y68)
  (jT:aA K mg "_law_sign" kW JW x69 y69)
  (mP:aA K mg "_law_text" kX LG x70 y70)
  (qq:aA K mg "_law_world" m7 [] x71 y71)
  (iF:aA K mg "_law_keep" kZ G7 x72 y72)
  (rT:aA K mg "_law_pour" mE G8 x73 y73)
  (qo:aA K mg "_law_fresh" m8 NP x74 y74)
  (yS:aA K mg "_law_begin" pZ G8 x75 y75)
  (qC:aA K mg "_law_ink_row" mT Qy x76 y76)
  (tO:aA K mg "_law_spell" qb ["_law_row"] x77 y77) (bF:ClsAt K mg "Shelf" bT x34) (Pf:aZ K bT "states") (Lo:aZ K bT "openings") (dJ:ClsAt K mg "Well" dc x44) (Nz:aZ K dc "signs") (JN:aZ K dc "owners") (Dh:aZ K dc "pourings") (mO:ClsAt K mg "Blots" dO x12) (JO:aZ K dO "stains") (GG:ClsAt K mg "Ties" uK x42) (Sy:aZ K uK "given") (Sz:aZ K uK "pairs") (GH:ClsAt K mg "Dues" yD x43) (VU:aZ K yD "sums") (aG:ClsAt K mg "Library" aI x51) (VW:aZ K aI "well") (SA:aZ K aI "shelf") (SD:aZ K aI "blots") (SE:aZ K aI "knots") (VX:aZ K aI "dues") (VY:aZ K aI "book"):aC P w K mg base bU 14 f fd NQ (Fd K):=by
 have Lp:aC P w K mg base bU 1 _ _ NQ (Mq K):=HY Dg.F T
 have bJ:aC P w K mg base bU 1 _ _ xq sU:=lE aV.F T
 have LM:Ep K mg aI bT jG oH qH:=⟨⟨T,⟨_,bF⟩,Pf,Lo,eO,dB⟩,⟨_,aG⟩,VW,SA,SD,SE,VX,VY,dm,G⟩
 have X:yk K mg aI bT dc dO jG oH qH oJ C:=⟨LM,⟨_,dJ⟩,Nz,JN,Dh,⟨_,mO⟩,JO,ef,Z⟩
 have A1:JF K mg bT:=⟨⟨_,_,dX⟩,⟨_,_,bX⟩,⟨_,_,aQ⟩,⟨_,_,cL⟩,⟨_,_,iP⟩,⟨_,_,br⟩,⟨_,_,nj⟩⟩
 have A2:Ly K mg:=⟨⟨_,_,cy⟩,⟨_,_,jN⟩,⟨_,_,j7⟩,⟨_,_,lY⟩,⟨_,_,j6⟩,⟨_,_,JE⟩,⟨_,_,oB⟩,⟨_,_,jh⟩,⟨_,_,jP⟩,⟨_,_,qm⟩⟩
 have A3:Vx K mg aI:=⟨⟨_,_,aP⟩,⟨_,_,aM⟩,⟨_,_,kC⟩,⟨_,_,jQ⟩⟩
 have A4:Vy K mg _ _:=⟨⟨_,_,cy⟩,⟨_,_,jN⟩,⟨_,_,cB⟩,⟨_,_,gu⟩,⟨_,_,dh⟩,⟨_,Bj⟩,⟨_,ju⟩⟩
 have A5:O7 K mg dc dO:=⟨⟨_,_,bu⟩,⟨_,_,pT⟩,⟨_,_,eS⟩,⟨_,_,pV⟩,⟨_,_,nv⟩,⟨_,_,lZ⟩,⟨_,_,gJ⟩,⟨_,_,zH⟩,⟨_,_,rR⟩⟩
 have A6:VB K mg:=⟨⟨_,_,cy⟩,⟨_,_,jN⟩,⟨_,_,cB⟩,⟨_,_,gu⟩,⟨_,_,dh⟩,⟨_,_,ju⟩,⟨_,_,bY⟩,⟨_,_,jO⟩,⟨_,_,cV⟩,⟨_,_,pO⟩,⟨_,_,gY⟩,⟨_,_,gy⟩,⟨_,_,rO⟩,⟨_,_,iD⟩⟩
 have xj:aC P w K mg base bU 3 _ _ jk (yq aI bT dc dO):=uG qp.F LM bF kM dJ l5 Nz JN Dh mO kO JO GG l6 Sy Sz GH l9 VU
 have rW:aC P w K mg base (nB P w) 6 _ _ Qu (zO aI bT dc dO jG oJ C):=Bo jc.F X A1 A2 A4 A5 A6 aP aM bI jb eT
 have EN:aC P w K mg base (nB P w) 6 _ _ Qv (EC aI bT dc dO jG C):=Bv rV.F X A1 A2 A6 aP aM rS uh
 have GR:aC P w K mg base bU 1 _ _ [] JI:=EG qq.F
 have GS:aC P w K mg base bU 9 _ _ G8 (vS aI bT dc dO):=EK yS.F X A1 A2 A3 A5 aP iE gA aV mP jT iF ck cE rT qo
 have yT:aC P w K mg base bU 1 _ _ ["_law_row"] (Du 1000000):=EL tO.F T
 have ve:aC P w K mg base bU 2 _ _ Qy BC:=BD qC.F T aV
 have jM:aC P w K mg base bU 2 _ _ yU (vt 1):=qd T cE ck 1
 have BE:aC P w K mg base (nB P w) 6 _ _ Qw (yr aI bT dc dO jG C):=yt pX.F X A1 A2 A4 A6 aP aM bI JH
 have zy:aC P w K mg base (nB P w) 6 _ _ Qx (Bw aI bT dc dO jG C):=xg nM.F X A1 A2 A6 aP aM
 have vf:aC P w K mg base (nB P w) 6 _ _ Di (yo aI bT dc dO jG):=zl kF.F X A1 A4 A5 bI jj
 refine F.ok mh (fun vs H Q E h=>?_) (fun cdv A outer s H vs Q E hr h=>?_)
 ·obtain⟨a,ns,rfl,_⟩:=h
  rfl
 obtain⟨a,ns,rfl,hS,h63,k⟩:=h
 have hu:=m5 hr
 refine⟨_,(ak (aO (i:=1) mh.nd rfl (Or.inl rfl) (aN Dg Lp hr (aa (pv 0) ah)))
   (ak (aO (i:=2) mh.nd rfl (Or.inl rfl) (qG aG.Tc xj (hr.mono (by decide)) rfl aG.m qp.b .nil cQ))
   (ak (aO (i:=3) mh.nd rfl (Or.inr rfl) (LV GR (hr.mono (by decide)) rfl qq.m qq.F.kp qq.b .nil cQ))
   (ak (cG (oN (oM (aN yS GS hr (aa (pv 1) (aa (pv 3) (aa (pv 2) ah))))))
   (ao (aT rX))
   bK)
   (ak (aO (i:=4) mh.nd rfl (Or.inl rfl) (aR (qF rfl) rfl T.F6 PyProof.Rows.boot_min (aa az (aa (aR bP rfl T.iH mw (aa (gW hu (pv 3) bS (fun _ _=>rfl)) ah)) ah))))
   (ak (aO (i:=5) mh.nd rfl (Or.inl rfl) (je PySem.F.plainAttrs_str PySem.F.slot_str_join PySem.F.type_str_join sY bS (aa (ku (N:=["_law_hand","_law_sign_here"]) (r9 (sc:=ay HA) (NX:=["_law_script","_law_src_here","_law_house","_law_world_here","_law_many","_law_first","_law_row","_law_own","_law_place","_law_kept","_law_k","_law_start","_law_stop","_law_more","_law_new"]) (jx:=[none,none]) rfl rfl rfl (by decide +kernel) (by decide +kernel) rfl (by decide +kernel) rfl (by decide +kernel)) rfl (cM (jd wg (gW hu (pv 3) bS (fun _ _=>rfl)) kG (kH (pv 4)))) (fun _ _ _ _ _ _=>(DF (n:=2) rfl (bL (aW (i:=0) (show List.Nodup (["_law_hand","_law_sign_here"]:List Str) by decide +kernel) rfl (Or.inl rfl)) (bL (aW (i:=1) (show List.Nodup (["_law_hand","_law_sign_here"]:List Str) by decide +kernel) rfl (Or.inl rfl)) jX)))) (fun _ _ _ _ _ _=>iJ) (fun _ _ _ _ _ _=>(pv 1))) ah)))
   (ak (vq (t':=afp aI bT dc dO) (cG (cj Ce (pv 4) az (bZ _))
   (ao (bq (bO (pv 2) aG.cl jc.mt rW (hr.mono (by decide)) jc.b .nil sW (aa az (aa az (aa (bH (aa (iz (aa az (aa (pv 4) ah))) ah)) ah))))))
   bK) ?b6)
   (ak (aO (i:=6) mh.nd rfl (Or.inl rfl) (aN qC ve hr (aa (pv 1) (aa (pv 3) ah))))
   (ak (aO (i:=7) mh.nd rfl (Or.inl rfl) (je PySem.F.plainAttrs_str PySem.F.slot_str_join PySem.F.type_str_join sY bS (aa (ku (N:=["_law_number","_law_world_here"]) (r9 (sc:=ay HA) (NX:=["_law_script","_law_src_here","_law_house","_law_world_here","_law_many","_law_first","_law_row","_law_own","_law_place","_law_kept","_law_k","_law_start","_law_stop","_law_more","_law_new"]) (jx:=[none,some 3]) rfl rfl rfl (by decide +kernel) (by decide +kernel) rfl (by decide +kernel) rfl (by decide +kernel)) rfl (cM (aN tO yT hr (aa (pv 6) ah))) (fun _ _ _ _ _ _=>(aW (i:=0) (show List.Nodup (["_law_number","_law_world_here"]:List Str) by decide +kernel) rfl (Or.inl rfl))) (fun _ _ _ _ _ _=>iJ) (fun _ _ _ _ _ _=>(bG Jl (bG FT (gW hu (pv 1) bS (fun _ _=>rfl)) (pv 0) (fun _ _=>rfl)) az (fun _ _=>rfl)))) ah)))
   (ak (vq (t':=afq) (cG (cj Ce (aR cZ rfl T.iH mw (aa (pv 7) ah)) az (bZ _))
   (ak (aO (i:=7) mh.nd rfl (Or.inl rfl) bS)
   (ao (aO (i:=6) mh.nd rfl (Or.inl rfl) (bH ah))))
   bK) ?b9)
   (ak (bq (bO (pv 2) aG.cl jc.mt rW (hr.mono (by decide)) jc.b .nil sW (aa az (aa az (aa (pv 6) ah)))))
   (ak (aO (i:=8) mh.nd rfl (Or.inl rfl) (aN aV bJ hr (aa (pv 1) (aa (bw iy (aR cZ rfl T.iH mw (aa (pv 7) ah)) az) ah))))
   (ak (cG (zW (IL (bO (pv 2) aG.cl nM.mt zy (hr.mono (by decide)) nM.b .nil sW (aa az (aa (pv 8) (aa az ah))))))
   (ao (aT rX))
   bK)
   (ak (bq (bO (pv 2) aG.cl pX.mt BE (hr.mono (by decide)) pX.b .nil sW (aa az (aa (bw iy (aR cZ rfl T.iH mw (aa (pv 7) ah)) (aR cZ rfl T.iH mw (aa (pv 5) ah))) (aa az (aa az (aa (aR cZ rfl T.iH mw (aa (pv 5) ah)) ah)))))))
   (ak (aO (i:=9) mh.nd rfl (Or.inl rfl) (pv 5))
   (ak (jr PassesOwn.never rfl (oG rfl T.oh (aa (aN aV bJ hr (aa (pv 1) (aa az ah))) ah)) (aW (i:=10) mh.nd rfl (Or.inl rfl))
   (ak (aO (i:=11) mh.nd rfl (Or.inl rfl) (aN aV bJ hr (aa (pv 1) (aa (bw iy (aR cZ rfl T.iH mw (aa (pv 5) ah)) az) ah))))
   (ak (aO (i:=12) mh.nd rfl (Or.inl rfl) (bw iy (pv 11) (aN aV bJ hr (aa (pv 1) (aa (aR (qF rfl) rfl T.F6 PyProof.Rows.boot_min (aa az (aa (bw iy (bw iV (aR cZ rfl T.iH mw (aa (pv 5) ah)) (pv 11)) az) ah))) ah)))))
   (ak (aO (i:=13) mh.nd rfl (Or.inl rfl) (jd wg (aN qC ve hr (aa (pv 1) (aa (pv 3) ah))) kG (kH az)))
   (ak (aO (i:=14) mh.nd rfl (Or.inl rfl) (je PySem.F.plainAttrs_str PySem.F.slot_str_join PySem.F.type_str_join sY bS (aa (ku (N:=["_law_number","_law_world_here"]) (r9 (sc:=ay HA) (NX:=["_law_script","_law_src_here","_law_house","_law_world_here","_law_many","_law_first","_law_row","_law_own","_law_place","_law_kept","_law_k","_law_start","_law_stop","_law_more","_law_new"]) (jx:=[none,some 3]) rfl rfl rfl (by decide +kernel) (by decide +kernel) rfl (by decide +kernel) rfl (by decide +kernel)) rfl (cM (aN tO yT hr (aa (pv 13) ah))) (fun _ _ _ _ _ _=>(aW (i:=0) (show List.Nodup (["_law_number","_law_world_here"]:List Str) by decide +kernel) rfl (Or.inl rfl))) (fun _ _ _ _ _ _=>iJ) (fun _ _ _ _ _ _=>(bG Jl (bG FT (gW hu (pv 1) bS (fun _ _=>rfl)) (pv 0) (fun _ _=>rfl)) az (fun _ _=>rfl)))) ah)))
   (ak (vq (t':=afr aI bT dc dO) (cG (PW.pt (LK (cj mY (aN aV bJ hr (aa (pv 1) (aa az ah))) az (bZ _)) (Hg (cj Ce (bw iy (aR cZ rfl T.iH mw (aa (pv 5) ah)) (aR cZ rfl T.iH mw (aa (pv 14) ah))) az (bZ _)))))
   (ak (bq (bO (pv 2) aG.cl rV.mt EN (hr.mono (by decide)) rV.b .nil sW (aa az (aa (pv 11) (aa (pv 12) ah)))))
   (ao (aO (i:=5) mh.nd rfl (Or.inl rfl) (bw t7 (jd gX.xV (pv 5) kG (kH (pv 11))) (jd gX.xV (pv 5) (kH (pv 12)) kG)))))
   (ak (bq (bO (pv 2) aG.cl jc.mt rW (hr.mono (by decide)) jc.b .nil sW (aa az (aa (pv 11) (aa (pv 13) ah)))))
   (ao (aO (i:=5) mh.nd rfl (Or.inl rfl) (bw t7 (bw t7 (jd gX.xV (pv 5) kG (kH (pv 11))) (pv 14)) (jd gX.xV (pv 5) (kH (pv 11)) kG)))))) ?b4)
   (ak (cG (oN (oM (aN ck jM hr (aa (bO (pv 2) aG.cl kF.mt vf (hr.mono (by decide)) kF.b .nil sW (aa az ah)) (aa (pv 5) ah)))))
   (ao (aT rX))
   bK)
   (ao (cG (oN (oM (aN ck jM hr (aa (bO (pv 2) aG.cl kF.mt vf (hr.mono (by decide)) kF.b .nil sW (aa az ah)) (aa (bw t7 (bw t7 (bw t7 (jd gX.xV (pv 7) kG (kH (pv 8))) (pv 5)) (jd gX.xV (pv 7) (kH (pv 8)) kG)) (pv 9)) ah)))))
   (ao (aT rX))
   bK)))))))))
   (ao (aT rX)))))))))))))))))),?_⟩
 case b6 =>
  rintro D σ H ⟨l,c,x,w,s0,s5,s6,s7,s8,s9,BO,nI,s12,yJ,G3,m,n,aB,rfl,m40,mi,li,n2,I,k⟩
  obtain⟨U,W,pe,pq,rq,lines,St,l1,l2⟩:=id I
  refine⟨_,rfl,_,_,rfl,rfl,_,rfl,eG (fun m0=>?_) (fun m0=>?_)⟩
  ·have m0:=of_decide_eq_true m0
   obtain⟨d',_,_,_,_,_,_,hx⟩:=St.EU.hx
   refine⟨_,rfl,x,d',_,rfl,hx,rfl,_,rfl,(by show 2≤sizeLine;decide),fun tp htp=>⟨(by show 1≤sizeLine;decide),fun r hr1=>?_⟩⟩
   have s6:=aj htp (.tup [.int 0,.int m])
   have t6:(upd H tp (.tup [.int 0,.int m])) tp=some (.tup [.int 0,.int m]):=af
   generalize upd H tp (.tup [.int 0,.int m])=H6 at s6 t6 hr1
   have s7:=aj hr1 (.lst [.ref tp])
   have r7:(upd H6 r (.lst [.ref tp])) r=some (.lst [.ref tp]):=af
   show zO _ _ _ _ _ _ _ _ (upd H6 r (.lst [.ref tp])) _ _
   generalize upd H6 r (.lst [.ref tp])=H7 at s7 r7
   have SG:=St.same (s6.trans s7)
   have II:bQ H7 r [(0,(m:Int))]:=⟨[tp],r7,.cons (s7 _ _ t6) .nil⟩
   have hz:∀ z∈[(0,(m:Int))],0≤z.1∧z.1<z.2∧z.2≤(aB.length:Nat):=fun z hz=>by rw[List.mem_singleton.mp hz];exact⟨Int.le_refl _,by show (0:Int)<m;omega,by show (m:Int)≤_;omega⟩
   have nn:G5 aB.length (e0 (n+2)):=fun es he=>by rw[vR he];exact⟨Nat.zero_le _,fun _ z=>nomatch z⟩
   have l0:(e0 (n+2)).length=n+2:=vm ..
   have nn':G5 aB.length (aS [(0,(m:Int))]::e0 (n+1)):=fun es he=>by
    rcases List.mem_cons.mp he with rfl|he
    ·refine⟨?_,fun e h=>rf hz h⟩
     have:=qZ (k:=40) (row:=[(0,(m:Int))]) fun p hp=>by rw[List.mem_singleton.mp hp];show (m:Int)≤0+40;omega
     exact kT this (by show 40*1≤200;decide)
    ·rw[vR he];exact⟨Nat.zero_le _,fun _ z=>nomatch z⟩
   refine⟨U,x,r,pe,lines,aB,2,[],[(0,(m:Int))],0,0,e0 (n+2),rfl,SG.EU,II,⟨(by show 1≤29;decide),fun q hq=>?_⟩,by omega,St.lst,by omega,by omega,by omega,⟨by omega,by omega⟩,⟨by omega,by omega⟩,fun z=>absurd ⟨by omega,by omega⟩ z,fun _=>⟨own (e0 (n+2)),nn.seen,fun z=>absurd ⟨Int.le_refl _,by omega⟩ z,fun _=>⟨fun hb=>?_,fun _ es' Bp=>?_⟩⟩⟩
   ·rw[List.mem_singleton.mp hq]
    exact⟨⟨Int.le_refl _,(by show (0:Int)<10^60;decide)⟩,⟨by show (0:Int)≤m;omega,by show (m:Int)<_;omega⟩⟩
   ·rw[holds_of hz]at hb
    cases hb
   cases Bp
   have afs:lg (own (e0 (n+2))) 0 [] (dI (dW (bW [(0,(m:Int))])))=aS [(0,(m:Int))]:=by
    rw[uz (es:=[]) (fun e z=>by cases z),pL,lD _ fun q hq=>by rw[List.mem_singleton.mp hq];show (0:Int)≤m;omega]
    simp
   rw[afs]
   refine⟨⟨_,nn'.bears (by show (e0 (n+1)).length+1≤100;rw[vm];omega)⟩,fun U' H8 L8 CA=>k H8 (zR.on SG l1 l2 L8 CA)⟩
  ·have m0:=of_decide_eq_false (Bool.eq_false_iff.mpr m0)
   obtain rfl:m=0:=by omega
   exact k H ⟨U,W,pe,pq,rq,lines,St,by omega,by omega⟩
 case b9 =>
  rintro D σ H ⟨r,s0,s1,s2,s3,s4,s5,s8,s9,BO,nI,s12,yJ,G3,aB,row,rfl,ls,hr1,k⟩
  refine⟨_,rfl,txt _,rfl,(by rw[dZ,cA];exact iR (aL (by omega))),_,_,rfl,rfl,_,rfl,?_⟩
  rw[dZ,cA]
  refine eG (fun _=>?_) (fun c=>k r row H (aH.refl _) hr1 (.inl rfl) ?_)
  ·exact⟨(by show 0≤sizeLine;decide),fun q hq=>k q [] _ (aj hq _) ⟨[],af,.nil⟩ (.inr rfl) (lI _)⟩
  ·have:=of_decide_eq_false (Bool.eq_false_iff.mpr c)
   omega
 case b4 =>
  rintro D σ H ⟨l,c,x,w,r,s0,s4,s6,s7,s8,s9,BO,aB,a,o,q,p,n,kk,u,v,row,rfl,ok,li,lk,u0,uv,va,II,nrl,lr,hz,I,k⟩
  obtain⟨U,W,pe,pq,rq,lines,St,l1,l2⟩:=id I
  refine⟨_,rfl,l,c,2,rfl,St.src,by decide,by decide,fun z H1 z0 z1 S1 k1=>⟨rfl,_,rfl,?_⟩⟩
  have G4:=St.mv (cR k1) S1
  obtain⟨ls,hls⟩:=St.src.lst
  have VZ:=II.keep hls nrl (cR k1)
  have V0:(Df a o p q n).length=n+2:=by
   show (List.replicate n ([]:List Int)).length+1+1=n+2
   rw[vm]
  have ln:=ok.ln
  have la:=ok.la
  have ma:(a.map (ji aB [] 35)).length=a.length:=cA _
  have apS:(aS row).length≤40:=by
   have:=qZ (k:=40) (row:=row) fun z h=>(hz z h).2.2.2
   omega
  have hz':∀ z∈row,0≤z.1∧z.1<z.2∧z.2≤(aB.length:Nat):=fun z h=>⟨(hz z h).1,(hz z h).2.1,(hz z h).2.2.1⟩
  obtain⟨d',_,_,_,_,_,_,hx⟩:=G4.EU.hx
  have s0':(zx a o p q 0)=a:=rfl
  refine eG (fun _=>jZ ?apT) (fun _=>⟨_,rfl,txt _,rfl,(by rw[dZ,ma];exact iR (aL (by omega))),_,rfl,txt _,rfl,(by rw[dZ,cA];exact iR (aL (by omega))),_,_,rfl,rfl,_,_,rfl,rfl,_,rfl,eG (fun _=>?apU) (fun zz=>?put)⟩)
  case put =>
   have zz:=of_decide_eq_false (Bool.eq_false_iff.mpr zz)
   rw[dZ,dZ,ma,cA]at zz
   have ok':ny aB.length (a.take u.toNat++aS row++a.drop u.toNat) o p q n:=by
    refine⟨((ok.ha.take _).app fun e he=>rf hz' he).app (ok.ha.drop _),ok.ho,ok.hq,?_,ok.lo,ok.lq,ok.pl,ok.ln⟩
    rw[dU,dU,rj,sL]
    omega
   refine⟨_,rfl,x,d',_,rfl,hx,rfl,_,rfl,_,rfl,U,x,r,pe,lines,aB,2,[],row,0,u,_,rfl,G4.EU,VZ,⟨by omega,fun z h=>by have:=hz' z h;exact⟨⟨by omega,by omega⟩,⟨by omega,by omega⟩⟩⟩,by omega,St.lst,by omega,by omega,by omega,⟨by omega,by omega⟩,⟨by omega,by omega⟩,fun z=>absurd ⟨by omega,by omega⟩ z,fun _=>⟨zx a o p q,ok.seen,fun z=>absurd ⟨u0,by rw[s0'];omega⟩ z,fun _=>⟨fun hb=>?_,fun _ es Bp=>?_⟩⟩⟩
   ·rw[holds_of hz']at hb
    cases hb
   obtain rfl:a=es:=by cases Bp;rfl
   rw[uz ok.ha.nn,pL,lD _ fun z h=>by have:=(hz' z h).2.1;omega]
   refine⟨⟨_,ok'.bears⟩,fun U' H2 L2 To=>?_⟩
   have I2:=zR.on (rows':=Df (a.take u.toNat++aS row++a.drop u.toNat) o p q n) G4 l1 l2 L2 To
   refine⟨_,rfl,_,rfl,_,rfl,a.map (ji aB [] 35),rfl,by omega,_,rfl,_,_,rfl,rfl,?_,_,rfl,_,rfl,_,rfl,a.map (ji aB [] 35),rfl,by omega,_,_,rfl,rfl,?_,?_⟩
   ·rw[oF _ u0,rj,ma,cA]
    omega
   ·rw[oF _ u0,mQ _ u0,dU,rj,sL,ma,cA]
    omega
   rw[oF _ u0,mQ _ u0,← List.map_take,← List.map_drop,← lH,← lH]
   exact k _ H2 ok' I2
  all_goals
   have ok':ny aB.length (a.take u.toNat++a.drop v.toNat) o p q n:=by
    refine⟨(ok.ha.take _).app (ok.ha.drop _),ok.ho,ok.hq,?_,ok.lo,ok.lq,ok.pl,ok.ln⟩
    rw[dU,rj,sL]
    omega
   refine⟨_,rfl,x,d',_,rfl,hx,rfl,_,rfl,_,rfl,U,x,pe,lines,aB,2,[],0,u,v,_,rfl,G4.EU,St.lst,by omega,by omega,by omega,⟨by omega,by omega⟩,⟨by omega,by omega⟩,⟨by omega,by omega⟩,fun z=>absurd ⟨by omega,by omega⟩ z,fun _=>⟨zx a o p q,ok.seen,fun z=>absurd ⟨u0,uv,by rw[s0'];exact va⟩ z,fun _ es Bp=>?_⟩⟩
   obtain rfl:a=es:=by cases Bp;rfl
   rw[Ln uv ok.ha.nn]
   refine⟨⟨_,ok'.bears⟩,fun U' H2 L2 To=>?_⟩
   have I2:=zR.on (rows':=Df (a.take u.toNat++a.drop v.toNat) o p q n) G4 l1 l2 L2 To
   refine⟨_,rfl,_,rfl,_,rfl,a.map (ji aB [] 35),rfl,by omega,_,rfl,_,rfl,_,rfl,a.map (ji aB [] 35),rfl,by omega,_,_,rfl,rfl,?_,?_⟩
   ·rw[oF _ u0,mQ _ (by omega),rj,sL]
    omega
   rw[oF _ u0,mQ _ (by omega),← List.map_take,← List.map_drop,← lH]
   exact k _ H2 ok' I2
 refine⟨_,rfl,a,ns,rfl,hS,fun l c H1 S1 s1 _ _=>?_⟩
 intro x dx fx fdx _
 refine⟨x,dx,rfl,af,fun U H2 L2 fU k2=>⟨rfl,?_⟩⟩
 have s2:=oK fx fdx k2
 have S2:=S1.same s2
 have fU':∀ a,U a→H1 a=none:=fun a z=>by
  rcases fU a z with y|y
  ·rw[y];exact fx
  ·exact qW y
 refine⟨rfl,fun W w H3 wo3 fW s3=>?_⟩
 have Qm:zQ aI bT dc dO H3 l c w x U W [[]] [] [[]] [] [] [] 0 []:=by
  refine⟨S2.same s3,L2.same s3,rfl,wo3,fun a z=>⟨fun y=>?_,?_⟩,fun a z=>?_⟩
  ·obtain⟨ob,e⟩:=L2.al z
   rw[fW a y]at e;cases e
  ·have n:=S1.ne (fU' a z)
   exact⟨n.1.symm,n.2.symm⟩
  ·have n:=S2.ne (fW a z)
   exact⟨n.1.symm,n.2.symm⟩
 refine⟨_,rfl,_,rfl,_,rfl,l,c,w,x,U,W,rfl,Qm,fun U4 W4 H4 n4 aB lines n2 n5 li ll Sn fr4=>⟨true,rfl,jY ?_⟩⟩
 obtain⟨n,rfl⟩:∃ n,n4=n+2:=⟨n4-2,by omega⟩
 obtain⟨ik,rw',ps,vl,wu⟩:=id Sn.wo
 have zi:∀ {H':Hp},H' w=some (.dK (zP ik rw' ps vl))→_:=fun {H'} h=>pB.k (k:=kI) h
 rw[show cC (zP ik rw' ps vl) kI=some (.ref ik) by kernel_rfl]at zi
 obtain⟨as,hik,pa⟩:=id wu.hi
 have la:=Paired.length pa
 refine⟨_,rfl,w,_,rfl,zi wu.hw,ik,_,rfl,.inl (bN.of hik),_,_,rfl,?_⟩
 rw[show (as.map V.ref).length=aB.length by rw[cA,la]]
 obtain⟨m,em0,m40,mi⟩:∃ m:Nat,(if (aB.length:Int)<40 then (aB.length:Int) else 40)=m∧m≤40∧m≤aB.length:=by
  split
  ·exact⟨aB.length,rfl,by omega,by omega⟩
  ·exact⟨40,rfl,by omega,by omega⟩
 rw[em0]
 refine⟨rfl,_,rfl,w,_,rfl,zi wu.hw,_,rfl,_,rfl,ik,_,rfl,bN.of hik,fun q5 RP=>?_⟩
 have s5:=aj RP (.lst (nX (as.map V.ref) none (some (m:Int))))
 have h5:(upd H4 q5 (.lst (nX (as.map V.ref) none (some (m:Int))))) q5=some (.lst ((as.take m).map V.ref)):=by rw[af,FI _ (by omega),Int.toNat_natCast]
 generalize upd H4 q5 (.lst (nX (as.map V.ref) none (some (m:Int))))=H5 at s5 h5
 refine⟨q5,rfl,⟨_,bN.of h5⟩,fun acc hacc=>jL (K:=K) (a:=q5) (xs:=(as.take m).map V.ref) (fun i σ H6=>∃ u v:Option V,σ=[u,v]∧H6 acc=some (.lst (((aB.take i).map Prod.snd).map wG))∧aH H5 H6) ⟨none,none,rfl,af,aj hacc _⟩ (fun i σ H6 _ ⟨_,_,_,_,s6⟩=>bN.of (s6 _ _ h5)) ?_ ?_⟩
 ·rintro i y σ H6 hi ⟨u,v,rfl,h6,s6⟩
  rw[jV]at hi
  obtain⟨b,ei,rfl⟩:=Option.map_eq_some_iff.mp hi
  rw[List.getElem?_take]at ei
  have im:i<m:=by
   by_cases z:i<m
   ·exact z
   ·rw[if_neg z]at ei;cases ei
  rw[if_pos im]at ei
  obtain⟨q',eq',htp⟩:=rH pa ei
  refine⟨b,_,rfl,jW.of ((s5.trans s6) _ _ htp),rfl,_,_,rfl,_,_,rfl,rfl,_,rfl,_,h6,aL (by rw[cA,cA,rj];omega),_,_,rfl,?_,cD hacc s6 (aK acc _ _)⟩
  rw[af,take_snoc eq',lH,lH]
  rfl
 rintro σ H6 ⟨u,v,rfl,h6,s6⟩
 have lat:(as.take m).length=m:=by rw[rj];omega
 rw[cA,lat,GQ mi]at h6
 have ls0:(aS [(0,(m:Int))]).length≤40:=by
  have:=qZ (k:=40) (row:=[(0,(m:Int))]) fun p hp=>by rw[List.mem_singleton.mp hp];show (m:Int)≤0+40;omega
  exact this
 refine⟨acc,_,rfl,rfl,h6,by rw[cA];omega,?_⟩
 have I6:zR aI bT dc dO l c x w aB (e0 (n+2)) 10 H6:=⟨U4,W4,_,_,_,lines,Sn.same (s5.trans s6),by rw[BB];omega,by omega⟩
 refine⟨l,c,x,w,_,_,_,_,_,_,_,_,_,_,_,m,n,aB,rfl,m40,mi,li,by omega,I6,fun H7 I7=>?_⟩
 obtain⟨a0,ha0⟩:∃ a0,a0=aS [(0,(m:Int))]:=⟨_,rfl⟩
 have Wa:Cb aB.length a0:=fun e he=>by
  rw[ha0]at he
  by_cases z:m=0
  ·rw[z]at he;cases he
  ·exact rf (fun p hp=>by rw[List.mem_singleton.mp hp];exact⟨Int.le_refl _,by show (0:Int)<m;omega,by show (m:Int)≤_;omega⟩) he
 rw[← ha0]at I7 ls0 ⊢
 obtain⟨U7,W7,pe7,pq7,rq7,aft,SG,lp7,ll7⟩:=id I7
 refine⟨_,rfl,_,rfl,l,c,w,W7,aB,pq7,rq7,rfl,SG.src,SG.wo,SG.dw,by omega,fun r row H8 lr VL hp CA S8 K8=>?_⟩
 have I8:=I7.mv K8 S8
 have St8:=SG.mv K8 S8
 have sl:(aS row).length≤80:=by
  have:=qZ (k:=40) (row:=row) fun q hq=>(hp q hq).2.2.2
  omega
 have hz:∀ z∈row,0≤z.1∧z.1<z.2∧z.2≤(aB.length:Nat):=fun z h=>⟨(hp z h).1,(hp z h).2.1,(hp z h).2.2.1⟩
 refine⟨rfl,_,rfl,r,row,rfl,VL,fun q hq=>by have:=hz q hq;exact⟨by omega,by omega,by omega⟩,by omega,by omega,fun q9 H9 WT s9 fq9=>?_⟩
 refine⟨q9,rfl,⟨_,bN.of WT⟩,fun afu Wb=>De (St8.same s9).wo WT Wb (fun e he=>rf hz he) (by omega) fun GX h10 BO=>?_⟩
 refine⟨afu,_,rfl,rfl,h10,by rw[cA];omega,?_⟩
 have Wc:=s9.trans BO
 refine⟨r,_,_,_,_,_,_,_,_,_,_,_,_,_,aB,row,rfl,by omega,VL.same Wc,fun r1 Pg SY nI afv e11 afw=>?_⟩
 have hz1:∀ z∈Pg,0≤z.1∧z.1<z.2∧z.2≤(aB.length:Nat):=by
  rcases e11 with e|e
  ·rw[e];exact hz
  ·rw[e];exact fun _ z=>nomatch z
 have lr1:Pg.length≤2:=by
  rcases e11 with e|e
  ·rw[e];exact lr
  ·rw[e];exact lI _
 have Rj:=I8.same (Wc.trans nI)
 obtain⟨o,ho⟩:∃ o,o=aS Pg:=⟨_,rfl⟩
 have no:Cb aB.length o:=fun e he=>by rw[ho]at he;exact rf hz1 he
 rw[← ho]at afw ⊢
 obtain⟨U11,W11,afx,ap6,ap7,Ph,NB,afy,afz⟩:=id Rj
 obtain⟨d11,_,_,_,_,_,_,afA⟩:=NB.EU.hx
 have SH:∀ (u v:List Int),(u::v::e0 n).length=n+2:=fun u v=>by
  show (e0 n).length+1+1=n+2
  rw[vm]
 have Xg:∀ {u v:List Int},Cb aB.length u→Cb aB.length v→u.length≤200→v.length≤200→G5 aB.length (u::v::e0 n):=fun {u v} hu hv lu lv es he=>by
  rcases List.mem_cons.mp he with rfl|he
  ·exact⟨lu,hu⟩
  rcases List.mem_cons.mp he with rfl|he
  ·exact⟨lv,hv⟩
  ·rw[vR he];exact⟨Nat.zero_le _,fun _ z=>nomatch z⟩
 have nnA:=Xg (v:=[]) Wa (fun _ z=>nomatch z) (by omega) (lI _)
 have nnB:=Xg Wa no (by omega) (by omega)
 have eA:a0::e0 (n+1)=a0::[]::e0 n:=rfl
 rw[eA]at NB
 refine⟨_,rfl,x,d11,_,rfl,afA,rfl,_,rfl,U11,x,r1,afx,Ph,aB,2,[],Pg,1,0,_,rfl,NB.EU,afv,⟨by omega,fun z h=>by have:=hz1 z h;exact⟨⟨by omega,by omega⟩,⟨by omega,by omega⟩⟩⟩,by omega,NB.lst,by rw[SH];omega,by omega,by omega,⟨by omega,by omega⟩,⟨by omega,by omega⟩,fun z=>absurd ⟨by omega,by rw[SH];omega⟩ z,fun _=>⟨own _,nnA.seen,fun z=>absurd ⟨Int.le_refl _,by omega⟩ z,fun _=>⟨fun hb=>?_,fun _ es Bp=>?_⟩⟩⟩
 ·rw[holds_of hz1]at hb
  cases hb
 obtain rfl:[]=es:=by cases Bp;rfl
 rw[uz (es:=[]) (fun e z=>by cases z),pL,lD _ fun z h=>by have:=(hz1 z h).2.1;omega,← ho]
 rw[show ([]:List Int).take (0:Int).toNat++o++([]:List Int).drop (0:Int).toNat=o by simp]
 refine⟨⟨_,(show G5 aB.length (oA (a0::[]::e0 n) (1:Int).toNat o) from nnB).bears (by show (a0::o::e0 n).length≤100;rw[SH];omega)⟩,fun U12 PV L12 afB=>?_⟩
 have Rk:zR aI bT dc dO l c x w aB (a0::o::e0 n) 12 PV:=zR.on NB afy afz L12 afB
 obtain⟨afC,W12,afD,aqb,aqc,Pj,SI,afE,afF⟩:=id Rk
 have Xi:(txt (o.map (ji aB [] 35))).length=o.length:=by rw[dZ,cA]
 have lta:(txt (a0.map (ji aB [] 35))).length=a0.length:=by rw[dZ,cA]
 refine⟨_,rfl,_,rfl,txt _,rfl,(by rw[Xi];exact iR (aL (by omega))),_,_,rfl,rfl,?_⟩
 rw[Xi]
 refine⟨l,c,_,rfl,SI.src,by omega,by omega,fun p' H13 p0 p1 S13 k13=>?_⟩
 obtain⟨p,rfl⟩:∃ p:Nat,p'=p:=⟨p'.toNat,by omega⟩
 have SJ:=SI.mv (cR k13) S13
 obtain⟨d13,_,_,_,_,_,_,afH⟩:=SJ.EU.hx
 have Wd:ny aB.length a0 o p [] n:=⟨Wa,no,(fun _ z=>nomatch z),by omega,by omega,lI _,by omega,by omega⟩
 have RQ:ny aB.length a0 o p a0 n:=⟨Wa,no,Wa,by omega,by omega,by omega,by omega,by omega⟩
 have eo1:own (a0::o::e0 n) 1=o:=rfl
 refine⟨_,rfl,x,d13,_,rfl,afH,rfl,_,rfl,afC,x,afD,Pj,aB,2,[],1,((p:Nat):Int),0,_,rfl,SJ.EU,SI.lst,by rw[SH];omega,by omega,by omega,⟨by omega,by omega⟩,⟨by omega,by omega⟩,⟨by omega,by omega⟩,fun z=>absurd ⟨by omega,by rw[SH];omega⟩ z,fun _=>⟨fun z=>absurd ⟨by omega,by rw[SH];omega⟩ z,fun _=>⟨own _,nnB.seen,fun z=>absurd ⟨by omega,by rw[eo1];omega⟩ z,fun _ es Bp=>?_⟩⟩⟩
 obtain rfl:o=es:=by cases Bp;rfl
 have ew:lg (own (a0::o::e0 n)) ((p:Nat):Int) o [-1-0]=o.take p++[-1]++o.drop p++[]:=by
  rw[uz no.nn,Int.toNat_natCast,kj]
  rfl
 rw[ew]
 refine⟨⟨_,Wd.bears⟩,fun U14 H14 L14 afI=>⟨false,rfl,jY ?_⟩⟩
 have I14:zR aI bT dc dO l c x w aB (Df a0 o p [] n) 13 H14:=zR.on SJ afE afF L14 afI
 obtain⟨afJ,W14,afK,aqk,aql,Pk,Pn,afL,afM⟩:=id I14
 obtain⟨d14,_,_,_,_,_,_,afN⟩:=Pn.EU.hx
 have V0:∀ (u q:List Int),(Df u o p q n).length=n+2:=fun u q=>SH u _
 have sh1:(zx a0 o p [] 1).length=o.length+a0.length:=by
  have:=Wd.Sw
  show (o.take p++a0++o.drop p++[]).length=_
  simpa using this
 refine⟨_,rfl,x,d14,_,rfl,afN,rfl,_,rfl,txt _,rfl,(by rw[Xi];exact iR (aL (by omega))),_,rfl,txt _,rfl,(by rw[lta];exact iR (aL (by omega))),_,_,rfl,rfl,_,rfl,txt _,rfl,(by rw[lta];exact iR (aL (by omega))),?_⟩
 rw[Xi,lta]
 refine⟨afJ,x,afK,Pk,aB,2,[],1,_,0,0,_,_,rfl,Pn.EU,Pn.lst,by rw[V0];omega,by omega,by omega,⟨by omega,by omega⟩,⟨by omega,by omega⟩,⟨by omega,by omega⟩,⟨by omega,by omega⟩,⟨by omega,by omega⟩,fun z=>absurd ⟨by omega,by rw[V0];omega⟩ z,fun _=>⟨fun z=>absurd ⟨by omega,by rw[V0];omega⟩ z,fun _=>⟨zx a0 o p [],Wd.seen,fun z=>absurd ⟨Int.le_refl _,by omega,(by show (a0.length:Int)≤a0.length;omega)⟩ z,fun _=>⟨fun z=>absurd ⟨by omega,by rw[sh1];omega⟩ z,fun _ es Bp=>?_⟩⟩⟩⟩
 obtain rfl:o.take p++[-1]++o.drop p++[]=es:=by cases Bp;rfl
 have eq1:lg (zx a0 o p []) ((o.length:Int)+(a0.length:Int)) (o.take p++[-1]++o.drop p++[]) (((zx a0 o p [] 0).take (a0.length:Int).toNat).drop (0:Int).toNat)=o.take p++[-1]++o.drop p++a0:=by
  rw[IG (by rw[Ny Wd _ rfl,Wd.Sw];show (o.length:Int)+a0.length=((o.length+a0.length+0:Nat):Int);omega),kj]
  show _++(a0.take (a0.length:Int).toNat).drop 0=_
  rw[Int.toNat_natCast,kQ,List.drop_zero]
 rw[eq1]
 refine⟨⟨_,RQ.bears⟩,fun U15 H15 L15 afO=>?_⟩
 have I15:zR aI bT dc dO l c x w aB (Df a0 o p a0 n) 14 H15:=zR.on Pn afL afM L15 afO
 refine⟨_,rfl,?_⟩
 obtain⟨aqq,W15,aqr,aqs,aqt,Xj,afP,aqu,aqv⟩:=id I15
 refine⟨_,rfl,l,c,7,rfl,afP.src,by decide,by decide,fun v H16 v0 v1 S16 k16=>?_⟩
 refine⟨v,rfl,by omega,by omega,qE (lo:=0) (n:=v.toNat) (fun j σ Xk=>∃ (u10 u11 u12 u13 u14:Option V) (a':List Int),σ=[some (.ref a),some (.ref l),some (.ref x),some (.ref w),some (.int (m:Nat)),some (Pd (a'.map (ji aB [] 35))),some (.ref r1),some (Pd (o.map (ji aB [] 35))),some (.int (p:Nat)),some (Pd (a0.map (ji aB [] 35))),u10,u11,u12,u13,u14]∧ny aB.length a' o p a0 n∧zR aI bT dc dO l c x w aB (Df a' o p a0 n) (14+j) Xk) ?_ ?_ ?_⟩
 ·exact⟨none,none,none,none,none,a0,rfl,RQ,I15.mv (cR k16) S16⟩
 ·rintro j σ Xk hj ⟨u10,u11,u12,u13,u14,a',rfl,ok,I17⟩
  obtain⟨U17,W17,afV,Wf,Wg,Po,Wh,afW,afX⟩:=id I17
  have la':=ok.la
  have lt':(txt (a'.map (ji aB [] 35))).length=a'.length:=by rw[dZ,cA]
  have lt2:(txt (a'.map (ji aB [] 35))).length≤sizeLine:=by rw[lt'];exact iR (aL (by omega))
  refine⟨_,rfl,_,rfl,txt _,rfl,lt2,_,_,rfl,rfl,?_⟩
  rw[lt']
  refine⟨l,c,_,rfl,Wh.src,by omega,by omega,fun u H18 u0 u1 S18 k18=>?_⟩
  have afY:=Wh.mv (cR k18) S18
  refine⟨_,rfl,_,rfl,_,rfl,txt _,rfl,lt2,_,rfl,_,_,rfl,rfl,_,_,rfl,rfl,_,_,rfl,?_⟩
  rw[lt']
  refine⟨l,c,_,rfl,S18,by split <;> omega,by split <;> omega,fun v' H19 v0' v1' S19 k19=>⟨_,_,rfl,rfl,?_⟩⟩
  have vb:u+v'≤a'.length:=by
   split at v1' <;> omega
  have SK:=afY.mv (cR k19) S19
  refine⟨_,rfl,_,rfl,l,c,w,W17,aB,Wf,Wg,rfl,S19,SK.wo,SK.dw,by omega,fun r2 row2 H20 lr2 afZ hp2 aqB S20 K20=>?_⟩
  have Wi:=SK.mv K20 S20
  obtain⟨K6,hr2,pa2⟩:=afZ
  refine⟨_,rfl,r2,_,rfl,bN.of hr2,fun r3 G0=>?_⟩
  have s21:=aj G0 (.lst (nX (K6.map V.ref) none (some 1)))
  have h21:(upd H20 r3 (.lst (nX (K6.map V.ref) none (some 1)))) r3=some (.lst ((K6.take 1).map V.ref)):=by rw[af,FI _ (by decide)];rfl
  generalize upd H20 r3 (.lst (nX (K6.map V.ref) none (some 1)))=H21 at s21 h21
  have II:bQ H21 r3 (row2.take 1):=⟨K6.take 1,h21,Au 1 (pa2.same s21)⟩
  have nr3:=Wi.src.ne G0
  have hz2:∀ z∈row2.take 1,0≤z.1∧z.1<z.2∧z.2≤(aB.length:Nat)∧z.2≤z.1+40:=fun z h=>hp2 z (List.mem_of_mem_take h)
  have hz3:∀ z∈row2.take 1,0≤z.1∧z.1<z.2∧z.2≤(aB.length:Nat):=fun z h=>⟨(hz2 z h).1,(hz2 z h).2.1,(hz2 z h).2.2.1⟩
  have l1:(row2.take 1).length≤1:=List.length_take_le _ _
  have ls2:(aS (row2.take 1)).length≤40:=by
   have:=qZ (k:=40) (row:=row2.take 1) fun q hq=>(hz2 q hq).2.2.2
   omega
  generalize row2.take 1=Wj at II hz2 hz3 l1 ls2
  have Wk:=Wi.same s21
  refine⟨rfl,_,rfl,r3,Wj,rfl,II,fun q hq=>by have:=hz3 q hq;exact⟨by omega,by omega,by omega⟩,by omega,by omega,fun WC H22 Wl s22 aqI=>?_⟩
  refine⟨WC,rfl,⟨_,bN.of Wl⟩,fun Wm SM=>De (Wk.same s22).wo Wl SM (fun e he=>rf hz3 he) (by omega) fun H23 h23 Ti=>?_⟩
  refine⟨Wm,_,rfl,rfl,h23,by rw[cA];omega,?_⟩
  have Qt:=s22.trans Ti
  refine⟨l,c,x,w,r3,_,_,_,_,_,_,_,aB,a',o,a0,p,n,14+j,u,u+v',Wj,rfl,ok,by omega,by omega,u0,by omega,vb,II.same Qt,nr3.1.symm,l1,hz2,⟨U17,W17,afV,Wf,Wg,Po,Wk.same Qt,afW,afX⟩,fun b H24 Tw I24=>?_⟩
  obtain⟨U24,W24,Wn,aqJ,aqK,JP,NC,aqL,aqM⟩:=id I24
  obtain⟨d24,_,_,_,_,_,_,Wq⟩:=NC.EU.hx
  have aqN:(Df b o p a0 n).length=n+2:=V0 b a0
  refine⟨_,rfl,x,d24,_,rfl,Wq,rfl,U24,x,Wn,JP,aB,2,[],_,0,rfl,NC.EU,NC.lst,by omega,by omega,by omega,⟨by omega,by omega⟩,fun z=>absurd ⟨by omega,by omega⟩ z,fun _=>⟨zx b o p a0,Tw.seen,Tw.ha,fun H25 s25=>?_⟩⟩
  refine⟨_,rfl,_,_,rfl,.inl ⟨rfl,rfl⟩,fun H26 WX=>⟨true,rfl,jY ?_⟩⟩
  have ND:=s25.trans WX
  refine⟨_,rfl,x,d24,_,rfl,ND _ _ Wq,rfl,U24,x,Wn,JP,aB,2,[],_,1,rfl,NC.EU.same ND,NC.lst,by omega,by omega,by omega,⟨by omega,by omega⟩,fun z=>absurd ⟨by omega,by omega⟩ z,fun _=>⟨zx b o p a0,Tw.seen,Tw.in1,fun H27 s27=>?_⟩⟩
  have lom:(o.map (ji aB [] 35)).length=o.length:=cA _
  have lbm:(b.map (ji aB [] 35)).length=b.length:=cA _
  have lam:(a0.map (ji aB [] 35)).length=a0.length:=cA _
  have lb':=Tw.la
  refine⟨_,rfl,_,rfl,_,rfl,o.map (ji aB [] 35),rfl,by omega,_,rfl,_,_,rfl,rfl,?_,_,rfl,_,rfl,_,rfl,o.map (ji aB [] 35),rfl,by omega,_,_,rfl,rfl,?_,_,rfl,_,_,rfl,rfl,?_,_,_,rfl,.inl ⟨rfl,?_⟩,fun H28 s28=>⟨true,rfl,jY ?_⟩⟩
  ·rw[oF _ (by omega),rj]
   omega
  ·rw[oF _ (by omega),mQ _ (by omega),dU,rj,sL]
   omega
  ·rw[oF _ (by omega),mQ _ (by omega),dU,dU,rj,sL]
   omega
  ·rw[oF _ (by omega),mQ _ (by omega),Int.toNat_natCast,← List.map_take,← List.map_drop,← lH,← lH,← lH]
   rfl
  exact⟨_,_,_,_,_,b,rfl,Tw,I24.same (ND.trans (s27.trans s28))⟩
 ·rintro σ Xk ⟨u10,u11,u12,u13,u14,a',rfl,ok,I17⟩
  exact k Xk
end
end jm
namespace jm
open PySem L2 dD j4 Ay OD
set_option maxHeartbeats 4000000 in
theorem all_mk:PN:=by
 intro l w K h mg fa f0 f1 f2 f3 f4 f5 f6 f7 f8 f9 f10 f11 f12 f13 f14 f15 f16 f17 f18 f19 f20 f21 X6 f23 f24 f25 f26 f27 f28 f29 f30 f31 f32 f33 f34 f35 f36 PR f38 f39 f40 f41 f42 f43 f44 f45 f46 f47 f48 f49 f50 f51 f52 f53 f54 f55 f56 f57 f58 f59 f60 f61 f62 f63 f64 f65 f66 f67 f68 f69 f70 f71 f72 f73 f74 f75 f76 f77 f78 bT dc dO uK yD aI C0 jG oH oJ qH uL uM Ff X G hfa IZ uN rY Mf yE wm sP I0 uO Mg yF yG Mh Ak Cp uP sQ sR sS uQ uR q0 q1 q2 q3 q4 q5 q6 q7 q8 q9 vU q11 q12 q13 q14 q15 q16 q17 q18 q19 q20 q21 WC q23 q24 q25 q26 q27 q28 q29 q30 q31 q32 q33 q34 q35 q36 q37 q38 q39 q40 q41 q42 q43 q44 q45 q46 q47 q48 q49 q50 q51 q52 q53 q54 q55 q56 q57 q58 q59 q60 q61 q62 q63 q64 q65 q66 q67 q68 q69 q70 q71 q72 q73 q74 q75 q76 q77 q78 z0 z1 z2 z3 z4 z5 z6 z7 z8 z9 z10 z11 z12 e0 Fg Cq Cr Fi uS uT Fj wz uU
 obtain⟨al,ll,cl,kl⟩:=q78
 have e:=hfa.symm.trans (PySem.W.mg_of X G al)
 cases e
 have F:=Hz (st:=HA) ll cl kl
 obtain⟨_,D0⟩:=q0.d (ps:=["_law_script"]) X G (fun _ _ _ _ _ _=>yZ fun _=>rfl)
 obtain⟨_,D1⟩:=q1.d (ps:=["_law_src_here","_law_base"]) X G (fun _ _ _ _ _ _=>vA fun _ _=>rfl)
 obtain⟨_,D2⟩:=q2.d (ps:=["_law_found"]) X G (fun _ _ _ _ _ _=>yZ fun _=>rfl)
 obtain⟨_,D3⟩:=q3.d (ps:=["_law_found","_law_due"]) X G (fun _ _ _ _ _ _=>vA fun _ _=>rfl)
 obtain⟨_,D4⟩:=q4.d (ps:=["row"]) X G (fun _ _ _ _ _ _=>yZ fun _=>rfl)
 obtain⟨_,D5⟩:=q5.d (ps:=["row"]) X G (fun _ _ _ _ _ _=>yZ fun _=>rfl)
 obtain⟨_,D6⟩:=q6.d (ps:=["row","start","stop"]) X G (fun _ _ _ _ _ _=>Lv fun _ _ _=>rfl)
 obtain⟨_,D7⟩:=q7.d (ps:=["row","start","stop"]) X G (fun _ _ _ _ _ _=>Lv fun _ _ _=>rfl)
 obtain⟨_,D8⟩:=q8.d (ps:=["row","start","stop"]) X G (fun _ _ _ _ _ _=>Lv fun _ _ _=>rfl)
 obtain⟨_,D9⟩:=q9.d (ps:=["row"]) X G (fun _ _ _ _ _ _=>yZ fun _=>rfl)
 obtain⟨_,D10⟩:=vU.d (ps:=["holes","start"]) X G (fun _ _ _ _ _ _=>vA fun _ _=>rfl)
 obtain⟨_,D11⟩:=q11.d (ps:=["holes","address"]) X G (fun _ _ _ _ _ _=>vA fun _ _=>rfl)
 obtain⟨_,D12⟩:=q12.d (ps:=["self"]) (fun _ _ _ _ _ _=>yZ fun _=>rfl)
 obtain⟨_,D13⟩:=q13.d (ps:=["self","address"]) (fun _ _ _ _ _ _=>vA fun _ _=>rfl)
 obtain⟨_,D14⟩:=q14.d (ps:=["items"]) X G (fun _ _ _ _ _ _=>yZ fun _=>rfl)
 obtain⟨_,D15⟩:=q15.d (ps:=["rows","sheets"]) X G (fun _ _ _ _ _ _=>vA fun _ _=>rfl)
 obtain⟨_,D16⟩:=q16.d (ps:=["rows","start","goal"]) X G (fun _ _ _ _ _ _=>Lv fun _ _ _=>rfl)
 obtain⟨_,D17⟩:=q17.d (ps:=["rows","sheet"]) X G (fun _ _ _ _ _ _=>vA fun _ _=>rfl)
 obtain⟨_,D18⟩:=q18.d (ps:=["item","weights"]) X G (fun _ _ _ _ _ _=>vA fun _ _=>rfl)
 obtain⟨_,D19⟩:=q19.d (ps:=["rows","sheets"]) X G (fun _ _ _ _ _ _=>vA fun _ _=>rfl)
 obtain⟨_,D20⟩:=q20.d (ps:=["item","views"]) X G (fun _ _ _ _ _ _=>vA fun _ _=>rfl)
 obtain⟨_,D21⟩:=q21.d (ps:=["rows","sheets"]) X G (fun _ _ _ _ _ _=>vA fun _ _=>rfl)
 obtain⟨_,D22⟩:=WC.d (ps:=["rows","sheet"]) X G (fun _ _ _ _ _ _=>vA fun _ _=>rfl)
 obtain⟨_,D23⟩:=q23.d (ps:=["one","other"]) X G (fun _ _ _ _ _ _=>vA fun _ _=>rfl)
 obtain⟨_,D24⟩:=q24.d (ps:=["items"]) X G (fun _ _ _ _ _ _=>yZ fun _=>rfl)
 obtain⟨_,D25⟩:=q25.d (ps:=["row"]) X G (fun _ _ _ _ _ _=>yZ fun _=>rfl)
 obtain⟨_,D26⟩:=q26.d (ps:=["items","views"]) X G (fun _ _ _ _ _ _=>vA fun _ _=>rfl)
 obtain⟨_,D27⟩:=q27.d (ps:=["items","views","place","others"]) X G (fun _ _ _ _ _ _=>P0 fun _ _ _ _=>rfl)
 obtain⟨_,D28⟩:=q28.d (ps:=["rows","sheet","place","items"]) X G (fun _ _ _ _ _ _=>P0 fun _ _ _ _=>rfl)
 obtain⟨_,D29⟩:=q29.d (ps:=["items","views","start","stop"]) X G (fun _ _ _ _ _ _=>P0 fun _ _ _ _=>rfl)
 obtain⟨_,D30⟩:=q30.d (ps:=["rows","sheet","start","stop"]) X G (fun _ _ _ _ _ _=>P0 fun _ _ _ _=>rfl)
 obtain⟨_,D31⟩:=q31.d (ps:=["row"]) X G (fun _ _ _ _ _ _=>yZ fun _=>rfl)
 obtain⟨_,D32⟩:=q32.d (ps:=["deed"]) X G (fun _ _ _ _ _ _=>yZ fun _=>rfl)
 obtain⟨_,D33⟩:=q33.d (ps:=["state","sheet","items"]) X G (fun _ _ _ _ _ _=>Lv fun _ _ _=>rfl)
 obtain⟨_,D34⟩:=q34.d (ps:=["self"]) (fun _ _ _ _ _ _=>yZ fun _=>rfl)
 obtain⟨_,D35⟩:=q35.d (ps:=["self"]) (fun _ _ _ _ _ _=>yZ fun _=>rfl)
 obtain⟨_,D36⟩:=q36.d (ps:=["self"]) (fun _ _ _ _ _ _=>yZ fun _=>rfl)
 obtain⟨_,D37⟩:=q37.d (ps:=["self","changes"]) (fun _ _ _ _ _ _=>vA fun _ _=>rfl)
 obtain⟨_,D38⟩:=q38.d (ps:=["self","sheet"]) (fun _ _ _ _ _ _=>vA fun _ _=>rfl)
 obtain⟨_,D39⟩:=q39.d (ps:=["self","moment"]) (fun _ _ _ _ _ _=>vA fun _ _=>rfl)
 obtain⟨_,D40⟩:=q40.d (ps:=["self","moment"]) (fun _ _ _ _ _ _=>vA fun _ _=>rfl)
 obtain⟨_,D41⟩:=q41.d (ps:=["self"]) (fun _ _ _ _ _ _=>yZ fun _=>rfl)
 obtain⟨_,D42⟩:=q42.d (ps:=["self"]) (fun _ _ _ _ _ _=>yZ fun _=>rfl)
 obtain⟨_,D43⟩:=q43.d (ps:=["self"]) (fun _ _ _ _ _ _=>yZ fun _=>rfl)
 obtain⟨_,D44⟩:=q44.d (ps:=["self"]) (fun _ _ _ _ _ _=>yZ fun _=>rfl)
 obtain⟨_,D45⟩:=q45.d (ps:=["self"]) (fun _ _ _ _ _ _=>yZ fun _=>rfl)
 obtain⟨_,D46⟩:=q46.d (ps:=["self","hand","text"]) (fun _ _ _ _ _ _=>Lv fun _ _ _=>rfl)
 obtain⟨_,D47⟩:=q47.d (ps:=["self","address"]) (fun _ _ _ _ _ _=>vA fun _ _=>rfl)
 obtain⟨_,D48⟩:=q48.d (ps:=["self","address"]) (fun _ _ _ _ _ _=>vA fun _ _=>rfl)
 obtain⟨_,D49⟩:=q49.d (ps:=["self","row"]) (fun _ _ _ _ _ _=>vA fun _ _=>rfl)
 obtain⟨_,D50⟩:=q50.d (ps:=["rows","sheet"]) X G (fun _ _ _ _ _ _=>vA fun _ _=>rfl)
 obtain⟨_,D51⟩:=q51.d (ps:=["self"]) (fun _ _ _ _ _ _=>yZ fun _=>rfl)
 obtain⟨_,D52⟩:=q52.d (ps:=["self","deed","changes"]) (fun _ _ _ _ _ _=>Lv fun _ _ _=>rfl)
 obtain⟨_,D53⟩:=q53.d (ps:=["self","deed","sheet","items"]) (fun _ _ _ _ _ _=>P0 fun _ _ _ _=>rfl)
 obtain⟨_,D54⟩:=q54.d (ps:=["self"]) (fun _ _ _ _ _ _=>yZ fun _=>rfl)
 obtain⟨_,D55⟩:=q55.d (ps:=["self"]) (fun _ _ _ _ _ _=>yZ fun _=>rfl)
 obtain⟨_,D56⟩:=q56.d (ps:=["self","deed","items"]) (fun _ _ _ _ _ _=>Lv fun _ _ _=>rfl)
 obtain⟨_,D57⟩:=q57.d (ps:=["self"]) (fun _ _ _ _ _ _=>yZ fun _=>rfl)
 obtain⟨_,D58⟩:=q58.d (ps:=["self"]) (fun _ _ _ _ _ _=>yZ fun _=>rfl)
 obtain⟨_,D59⟩:=q59.d (ps:=["self","row"]) (fun _ _ _ _ _ _=>vA fun _ _=>rfl)
 obtain⟨_,D60⟩:=q60.d (ps:=["self","hand","text"]) (fun _ _ _ _ _ _=>Lv fun _ _ _=>rfl)
 obtain⟨_,D61⟩:=q61.d (ps:=["self","sheet","place","row"]) (fun _ _ _ _ _ _=>P0 fun _ _ _ _=>rfl)
 obtain⟨_,D62⟩:=q62.d (ps:=["self","sheet"]) (fun _ _ _ _ _ _=>vA fun _ _=>rfl)
 obtain⟨_,D63⟩:=q63.d (ps:=["self","row","veil"]) (fun _ _ _ _ _ _=>Lv fun _ _ _=>rfl)
 obtain⟨_,D64⟩:=q64.d (ps:=["self","sheet"]) (fun _ _ _ _ _ _=>vA fun _ _=>rfl)
 obtain⟨_,D65⟩:=q65.d (ps:=["self","sheet"]) (fun _ _ _ _ _ _=>vA fun _ _=>rfl)
 obtain⟨_,D66⟩:=q66.d (ps:=["self","sheet","start","stop"]) (fun _ _ _ _ _ _=>P0 fun _ _ _ _=>rfl)
 obtain⟨_,D67⟩:=q67.d (ps:=["self","target","place","source","start","stop"]) (fun _ _ _ _ _ _=>us6 fun _ _ _ _ _ _=>rfl)
 obtain⟨_,D68⟩:=q68.d (ps:=["self","target","place","source"]) (fun _ _ _ _ _ _=>P0 fun _ _ _ _=>rfl)
 obtain⟨_,D69⟩:=q69.d (ps:=["_law_src_here","_law_few"]) X G (fun _ _ _ _ _ _=>vA fun _ _=>rfl)
 obtain⟨_,D70⟩:=q70.d (ps:=["_law_src_here","_law_many"]) X G (fun _ _ _ _ _ _=>vA fun _ _=>rfl)
 obtain⟨_,D71⟩:=q71.d (ps:=[]) X G (fun _ _ _ _ _ _=>us0 rfl)
 obtain⟨_,D72⟩:=q72.d (ps:=["_law_world_here","_law_rows"]) X G (fun _ _ _ _ _ _=>vA fun _ _=>rfl)
 obtain⟨_,D73⟩:=q73.d (ps:=["_law_src_here","_law_world_here","_law_house"]) X G (fun _ _ _ _ _ _=>Lv fun _ _ _=>rfl)
 obtain⟨_,D74⟩:=q74.d (ps:=["_law_world_here","_law_house"]) X G (fun _ _ _ _ _ _=>vA fun _ _=>rfl)
 obtain⟨_,D75⟩:=q75.d (ps:=["_law_src_here","_law_world_here","_law_house"]) X G (fun _ _ _ _ _ _=>Lv fun _ _ _=>rfl)
 obtain⟨_,D76⟩:=q76.d (ps:=["_law_src_here","_law_world_here"]) X G (fun _ _ _ _ _ _=>vA fun _ _=>rfl)
 obtain⟨_,D77⟩:=q77.d (ps:=["_law_row"]) X G (fun _ _ _ _ _ _=>yZ fun _=>rfl)
 have T:n9 mg:=⟨PySem.W.mg_none_of X G z0,PySem.W.mg_none_of X G z1,PySem.W.mg_none_of X G z2,PySem.W.mg_none_of X G z3,PySem.W.mg_none_of X G z4,PySem.W.mg_none_of X G z5,PySem.W.mg_none_of X G z6,PySem.W.mg_none_of X G z7,PySem.W.mg_none_of X G z8,PySem.W.mg_none_of X G z9,PySem.W.mg_none_of X G z10,PySem.W.mg_none_of X G z11,PySem.W.mg_none_of X G z12,fun f e=>(D5.m).symm.trans e ▸ PySem.W.mg_of X G wz,fun f e=>(D22.m).symm.trans e ▸ PySem.W.mg_of X G uU⟩
 have Gb:Xf mg:=⟨⟨_,PySem.W.mg_of X G uS⟩,⟨_,PySem.W.mg_of X G uT⟩,⟨_,PySem.W.mg_of X G Fj⟩⟩
 obtain⟨ea,eb,ec⟩:=e0
 have Z:ExcAt K mg C0:=⟨PySem.W.mg_of X G ea,eb,ec⟩
 exact⟨_,fun s v=>.of_eq rfl,fun base _ _=>Sx F T Gb Z (Fg.d X G) (Cq.d X G) (Cr.d X G) (Fi.d X G) D0 D1 D2 D3 D4 D5 D6 D7 D8 D9 D10 D11 D12 D13 D14 D15 D16 D17 D18 D19 D20 D21 D22 D23 D24 D25 D26 D27 D28 D29 D30 D31 D32 D33 D34 D35 D36 D37 D38 D39 D40 D41 D42 D43 D44 D45 D46 D47 D48 D49 D50 D51 D52 D53 D54 D55 D56 D57 D58 D59 D60 D61 D62 D63 D64 D65 D66 D67 D68 D69 D70 D71 D72 D73 D74 D75 D76 D77 (IZ.d X G D34.mt) uN rY (Mf.d X G D44.mt) yE wm sP (I0.d X G D12.mt) uO (Mg.d X G D42.mt) yF yG (Mh.d X G D43.mt) Ak (Cp.d X G D51.mt) uP sQ sR sS uQ uR⟩
end jm
theorem PySem.Challenge.cw_inkroot_k37_windows_live_holds : PySem.Challenge.rw_inkroot_k37_windows_live.Holds :=
 InkHd.hd2 jm.all_mk
