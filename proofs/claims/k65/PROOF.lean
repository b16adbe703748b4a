import PyProof.Rows.All
import KE.KIntText
import KE.KTryMore
import KE.KDictLaws
import KE.KItem
import Open.Pieces
import KE.RegKTryMore
import OpenK.KOwn
import Lean
import PyProof.EqAt
import PyProof.EqKinds
import PyProof.TupleCall
import PySem.Challenge.RW_inkroot_k65_heavy_forks_at_forty
set_option Elab.async false
set_option linter.all false
set_option maxRecDepth 100000
abbrev mq:=List (List (List Int))
abbrev gj:=List (List Int)
abbrev pO:=List (List Nat)
abbrev um:=List (Int × Nat)
abbrev gy:List PySem.Str:=["self"]
abbrev tX:List PySem.Str:=["self","sheet"]
abbrev F8:List PySem.Str:=["self","moment"]
abbrev vA:List PySem.Str:=["self","sheet","moment"]
abbrev Rh:List PySem.Str:=["self","changes"]
abbrev IM:List PySem.Str:=["self","deed","changes"]
abbrev HB:List PySem.Str:=["self","deed","sheet","items"]
abbrev QJ:List PySem.Str:=["self","deed","items"]
abbrev NR:List PySem.Str:=["self","hand","text"]
abbrev QK:List PySem.Str:=["self","address"]
abbrev CN:List PySem.Str:=["self","row"]
abbrev Ml:List PySem.Str:=["self","sheet","place","row"]
abbrev IP:List PySem.Str:=["self","target","place","source"]
abbrev Mm:List PySem.Str:=["self","sheet","start","stop"]
abbrev Ka:List PySem.Str:=["_law_found"]
abbrev F9:List PySem.Str:=["_law_found","_law_due"]
abbrev gJ:List PySem.Str:=["row"]
abbrev mF:List PySem.Str:=["items"]
abbrev IQ:List PySem.Str:=["rows","start","goal"]
abbrev j4:List PySem.Str:=["rows","sheets"]
abbrev Ga:List PySem.Str:=["item","weights"]
abbrev wJ:List PySem.Str:=["item","views"]
abbrev Ed:List PySem.Str:=["one","other"]
abbrev rR:List PySem.Str:=["row","start","stop"]
abbrev CO:List PySem.Str:=["items","views"]
abbrev Kc:List PySem.Str:=["items","views","place","others"]
abbrev IS:List PySem.Str:=["items","views","start","stop"]
abbrev Gd:List PySem.Str:=["state","sheet","items"]
abbrev rS:List PySem.Str:=["rows","sheet"]
abbrev Kd:List PySem.Str:=["rows","sheet","place","items"]
abbrev Ke:List PySem.Str:=["rows","sheet","start","stop"]
abbrev Kf:List PySem.Str:=["_law_src_here","_law_base"]
abbrev Mn:List PySem.Str:=["_law_script"]
abbrev OL:List PySem.Str:=["_law_house","_law_name","_law_moment"]
abbrev OM:List PySem.Str:=["_law_wins","_law_small","_law_great"]
abbrev ON:List PySem.Str:=["_law_src_here","_law_house"]
abbrev eT:=@List.length_append.{0}
abbrev dW:=@List.length_map.{0,0}
abbrev jj:=@Nat.le_refl
abbrev rP:=@List.length_replicate.{0}
abbrev pP:=@List.length_cons.{0}
abbrev tY:=@List.mem_cons_of_mem.{0}
abbrev qd:=@List.map_append.{0,0}
abbrev vD:=@List.length_singleton.{0}
abbrev uo:=@Bool.false_ne_true
abbrev uq:=@List.getElem?_map.{0,0}
abbrev j5:=@List.size_toArray.{0}
abbrev j6:=@List.append_nil.{0}
abbrev oY:=@List.mem_append_right.{0}
abbrev nQ:=@List.mem_of_getElem?.{0}
abbrev mG:=@Int.toNat_natCast
abbrev mH:=@List.flatMap_cons.{0,0}
abbrev rL:=@List.getElem?_eq_getElem.{0}
abbrev mZ:=@List.take_length.{0}
abbrev rM:=@List.concat_eq_append.{0}
abbrev oZ:=@List.append_assoc.{0}
abbrev o6:=@List.length_take.{0}
abbrev lS:=@List.map_cons.{0,0}
abbrev kO:=@Nat.ne_of_lt
abbrev nR:=@List.foldl_cons.{0,0}
abbrev uJ:=@PySem.F.plainAttrs_list
abbrev qE:=@Nat.lt_of_lt_of_le
abbrev lO:=@Nat.le_trans
abbrev yt:=@PyProof.Rows.boot_isinstance
abbrev wK:=@List.getElem?_append_left.{0}
abbrev rT:=@List.replicate_succ.{0}
abbrev uK:=@List.eq_nil_or_concat.{0}
abbrev mJ:=@Nat.le_of_lt
abbrev wL:=@PySem.F.slot_list_append
abbrev wM:=@PySem.F.type_list_append
abbrev rN:=@Option.some.inj.{0}
abbrev uL:=@List.mem_cons_self.{0}
abbrev yu:=@List.take_of_length_le.{0}
abbrev yv:=@PyProof.Rows.boot_list
abbrev A9:=@List.getElem?_append_right.{0}
abbrev wN:=@List.getLast?_concat.{0}
namespace L2
open PySem PySem.Spec PyProof.Rows
abbrev Key:=Sum Int Str
def zu:Key→Value→Bool
 | .inl k,v=>Value.isInt k v
 | .inr x,v=>Value.isStrOf x v
def UO(w:World):Key→Int
 | .inl k=>hashInt k
 | .inr x=>hashStr w x
theorem eY:∀ {k:Key} {v:Value},zu k v=true→(∃ i t,k=Sum.inl i∧v=Value.int i t)∨(∃ x t,k=Sum.inr x∧v=Value.str x t)
 | .inl i,v,h=>by
  obtain⟨t,e⟩:=Value.isInt_shape (k:=i) (v:=v) h
  exact .inl ⟨i,t,rfl,e⟩
 | .inr x,v,h=>by
  obtain⟨t,e⟩:=Value.isStrOf_shape (x:=x) (v:=v) h
  exact .inr ⟨x,t,rfl,e⟩
theorem IT(i:Int)(t:Tok):zu (.inl i) (.int i t)=true:=by simp[zu,Value.isInt]
theorem IU(x:Str)(t:Tok):zu (.inr x) (.str x t)=true:=by simp[zu,Value.isStrOf]
theorem OO(a b:Int):decide ((Sum.inl a:Key)=Sum.inl b)=(a == b):=by
 by_cases e:a=b
 ·subst e;simp
 ·have h:¬ (Sum.inl a:Key)=Sum.inl b:=fun q=>e (Sum.inl.inj q)
  rw[decide_eq_false h]
  exact (beq_eq_false_iff_ne.mpr e).symm
theorem OP(a b:Str):decide ((Sum.inr a:Key)=Sum.inr b)=decide (a=b):=by
 by_cases e:a=b
 ·subst e;simp
 ·have h:¬ (Sum.inr a:Key)=Sum.inr b:=fun q=>e (Sum.inr.inj q)
  rw[decide_eq_false h,decide_eq_false e]
theorem OQ(a:Int)(b:Str):decide ((Sum.inl a:Key)=Sum.inr b)=false:=decide_eq_false (fun q=>nomatch q)
theorem OR(a:Str)(b:Int):decide ((Sum.inr a:Key)=Sum.inl b)=false:=decide_eq_false (fun q=>nomatch q)
def iQ(prog:Program)(w:World):PySem.KeyKind prog w Key where
 is:=zu
 hash:=UO w
 inj:=fun v a b ha hb=>by
  rcases eY ha with ⟨i,t,rfl,rfl⟩|⟨x,t,rfl,rfl⟩
  ·rcases eY hb with ⟨j,u,rfl,e⟩|⟨y,u,rfl,e⟩
   ·injection e with e1 _;rw[e1]
   ·exact nomatch e
  ·rcases eY hb with ⟨j,u,rfl,e⟩|⟨y,u,rfl,e⟩
   ·exact nomatch e
   ·injection e with e1 _;rw[e1]
 byValue:=fun k v h=>by
  rcases eY h with ⟨i,t,rfl,rfl⟩|⟨x,t,rfl,rfl⟩ <;> rfl
 pyHash:=fun hv h=>by
  rcases eY hv with ⟨i,t,rfl,rfl⟩|⟨x,t,rfl,rfl⟩
  ·exact wpAny_pyHash_int h
  ·exact wpAny_pyHash_str h
 eqBool:=fun hu hv h=>by
  rcases eY hu with ⟨i,t,rfl,rfl⟩|⟨x,t,rfl,rfl⟩
  ·rcases eY hv with ⟨j,u,rfl,rfl⟩|⟨y,u,rfl,rfl⟩
   ·rw[OO]at h;exact wpAny_eqBool_int h
   ·rw[OQ]at h;exact SeqAt.EqAt.int_str i t y u _ _ _ _ h
  ·rcases eY hv with ⟨j,u,rfl,rfl⟩|⟨y,u,rfl,rfl⟩
   ·rw[OR]at h;exact SeqAt.EqAt.str_int x t j u _ _ _ _ h
   ·rw[OP]at h;exact wpAny_eqBool_str h
 «strs»:=fun k x t v h=>by
  rcases eY h with ⟨i,u,rfl,e⟩|⟨y,u,rfl,e⟩
  ·exact nomatch e
  ·injection e with e1 _
   subst e1
   cases v <;> rfl
theorem Ef(prog:Program)(w:World)(i:Int)(t:Tok):(iQ prog w).is (.inl i) (.int i t)=true:=IT i t
theorem Eg(prog:Program)(w:World)(x:Str)(t:Tok):(iQ prog w).is (.inr x) (.str x t)=true:=IU x t
end L2
namespace L2
open PySem PySem.Spec PyProof.Rows
inductive V where
 | jc | bl (b:Bool) | int (i:Int) | str (x:Str) | Ge (b:Array UInt8) | NS (b:UInt64) | ref (a:Addr) | ty (n:String)
 deriving DecidableEq
def RelV:V→Value→Prop
 | .jc,u=>u=Value.none
 | .bl b,u=>u=Value.bool b
 | .int i,u=>∃ t,u=Value.int i t
 | .str x,u=>∃ t,u=Value.str x t
 | .Ge b,u=>∃ t,u=Value.bytes b t
 | .NS b,u=>∃ t,u=Value.float b t
 | .ref a,u=>u=Value.ref a
 | .ty n,u=>u=Value.type n
abbrev Vals:List V→List Value→Prop:=Paired RelV
theorem Vals.length{xs:List V}{us:List Value}(r:Vals xs us):xs.length=us.length:=Paired.length r
theorem Vals.get:∀ {xs:List V} {us:List Value} {i:Nat} {x:V},Vals xs us→xs[i]?=some x→∃ u,us[i]?=some u∧RelV x u
 | _,_,_,_,.nil,e=>by simp at e
 | _,_,0,_,.cons r _,e=>by simp at e;subst e;exact⟨_,rfl,r⟩
 | _,_,i+1,x,.cons _ t,e=>by
  obtain⟨u,h1,h2⟩:=Vals.get (i:=i) (x:=x) t (by simpa using e)
  exact⟨u,by simpa using h1,h2⟩
theorem Vals.set{x:V}{u:Value}(r:RelV x u):∀ {xs:List V} {us:List Value} (i:Nat),Vals xs us→Vals (xs.set i x) (us.set i u)
 | _,_,_,.nil=>.nil
 | _,_,0,.cons _ t=>.cons r t
 | _,_,i+1,.cons q t=>.cons q (Vals.set r i t)
theorem Vals.append:∀ {xs ys:List V} {us ws:List Value},Vals xs us→Vals ys ws→Vals (xs++ys) (us++ws)
 | _,_,_,_,.nil,s=>s
 | _,_,_,_,.cons r t,s=>.cons r (Vals.append t s)
theorem Vals.take:∀ {xs:List V} {us:List Value} (n:Nat),Vals xs us→Vals (xs.take n) (us.take n)
 | _,_,0,_=>.nil
 | _,_,_+1,.nil=>.nil
 | _,_,n+1,.cons r t=>.cons r (Vals.take n t)
theorem Vals.drop:∀ {xs:List V} {us:List Value} (n:Nat),Vals xs us→Vals (xs.drop n) (us.drop n)
 | _,_,0,r=>r
 | _,_,_+1,.nil=>.nil
 | _,_,n+1,.cons _ t=>Vals.drop n t
def tZ:Option V→Option Value→Prop
 | some v,some u=>RelV v u
 | none,none=>True
 | _,_=>False
def KV{κ:Type}:List (κ × V)→List (κ × Value)→Prop:=Paired fun (p:κ × V) (q:κ × Value)=>p.1=q.1∧RelV p.2 q.2
def kV:Key→V
 | .inl i=>.int i
 | .inr x=>.str x
inductive HO where
 | lst (xs:List V)
 | tup (xs:List V)
 | dK (kvs:List (Key × V)) | dT (kvs:List (List Key × V))
 | set (S:Int→Bool) (n:Nat)
 | ins (C dx:Addr) (fs:List (Str × V))
 | own (x:Addr)
 | xd (fs:List (Str × V))
 | met (f x:Addr)
 | Gf (lo hi:Int)
 | Gg (o:Obj) (u:HO)
 | Mp (ps:Array Value)
 | ext (φ:Heap→Prop)
abbrev Hp:=Addr→Option HO
def upd(H:Hp)(a:Addr)(o:HO):Hp:=fun b=>if b=a then some o else H b
theorem ah{H:Hp}{a:Addr}{o:HO}:upd H a o a=some o:=by unfold upd;rw[if_pos rfl]
theorem aM{H:Hp}{a b:Addr}{o:HO}(h:b≠a):upd H a o b=H b:=by unfold upd;rw[if_neg h]
theorem gx{H:Hp}{a b:Addr}{o u:HO}(h:H a=some o)(h':H b=some u)(d:o≠u):a≠b:=by
 intro e;subst e;rw[h]at h';exact d (rN h')
theorem ay{H:Hp}{a b:Addr}{o:HO}(h:H a=some o)(h':H b=none):a≠b:=by
 intro e;subst e;rw[h]at h';cases h'
section
variable (P:Program) (w:World)
def gK(H:Hp)(h:Heap)(a:Addr):HO→Prop
 | .lst xs=>xs.length≤sizeLine∧∃ (its:List Value) (n:Nat),Vals xs its∧h.get? a=some { cls:=.type "list",data:=.seq its.toArray n }
 | .tup xs=>xs.length≤sizeLine∧∃ its:List Value,Vals xs its∧IsTup h a its.toArray
 | .dK kvs=>kvs.length≤sizeLine∧(a == sysModules)=false∧∃ vs,KV kvs vs∧h.DictOf (iQ P w) a vs
 | .dT kvs=>kvs.length≤sizeLine∧(a == sysModules)=false∧∃ xs:List (List Key × Addr × Value),
   Paired (fun (p:List Key × V) (q:List Key × Addr × Value)=>p.1=q.1∧H q.2.1=some (.tup (p.1.map kV))∧RelV p.2 q.2.2) kvs xs ∧
   ∃ o es ep,h.get? a=some o∧o.ExactDict∧o.data=.dict es ep∧es.toList=xs.map (entryOfKey (tupleKind (iQ P w)))∧(xs.map (·.1)).Nodup
 | .set S n=>h.SetOf (intKind P w) a S n
 | .ins C dx fs=>H dx=some (.own a)∧fs.length≤1000∧dx≠a∧h.get? a=some (PySem.W.instObj C dx) ∧
   ∃ mA,h.Ns1 dx mA∧(∀ f,tZ (fs.lookup f) (mA f))∧PySem.Within mA (fs.map (·.1))
 | .own _=>∃ o,h.get? a=some o
 | .xd fs=>∃ mA,h.Ns1 a mA∧∀ f,tZ (fs.lookup f) (mA f)
 | .Gf lo hi=>∃ t u v,h.get? a=some { cls:=.type "range",data:=.fields #[.int lo t,.int hi u,.int 1 v] }
 | .Gg o u=>h.get? a=some o∧gK H h a u
 | .Mp ps=>h.get? a=some { cls:=.none,data:=.fields ps }
 | .met f x=>h.get? a=some (PySem.W.methodObj (.ref f) (.ref x))
 | .ext φ=>φ h∧(∃ o,h.get? a=some o)∧∀ h1 h2:Heap,φ h1→(∀ o,h1.get? a=some o→h2.get? a=some o)→φ h2
def rV(H:Hp)(h:Heap):Prop:=∀ a o,H a=some o→gK P w H h a o
end
section
variable {P:Program} {w:World} {H H':Hp} {h h':Heap} {a:Addr} {o:HO}
theorem gK.lt(x:gK P w H h a o):a<h.objs.size:=by
 cases o with
 | lst xs=>obtain⟨_,_,_,_,e⟩:=x;exact Heap.lt_size e
 | tup xs=>obtain⟨_,_,_,p⟩:=x;exact p.lt
 | dK kvs=>obtain⟨_,_,_,_,o,_,_,e,_⟩:=x;exact Heap.lt_size e
 | dT kvs=>obtain⟨_,_,_,_,o,_,_,e,_⟩:=x;exact Heap.lt_size e
 | set S n=>obtain⟨o,_,_,_,e,_⟩:=x;exact Heap.lt_size e
 | ins C dx fs=>obtain⟨_,_,_,e,_⟩:=x;exact Heap.lt_size e
 | own y=>obtain⟨_,e⟩:=x;exact Heap.lt_size e
 | xd fs=>obtain⟨_,⟨_,_,_,e,_⟩,_⟩:=x;exact Heap.lt_size e
 | Gf lo hi=>obtain⟨_,_,_,e⟩:=x;exact Heap.lt_size e
 | Gg ob u=>obtain⟨e,_⟩:=x;exact Heap.lt_size e
 | Mp ps=>exact Heap.lt_size (show h.get? a=some _ from x)
 | met f y=>exact Heap.lt_size (show h.get? a=some _ from x)
 | ext φ=>obtain⟨_,⟨_,e⟩,_⟩:=x;exact Heap.lt_size e
theorem Paired.Mq{α β:Type}{F G:α→β→Prop}:∀ {l₁:List α} {l₂:List β},Paired F l₁ l₂→(∀ a b,F a b→G a b)→Paired G l₁ l₂
 | _,_,.nil,_=>.nil
 | _,_,.cons r t,f=>.cons (f _ _ r) (Paired.Mq t f)
theorem gK.stay(x:gK P w H h a o)(k:∀ b u,(b=a∨H b=some (.own a))→h.get? b=some u→h'.get? b=some u)
  (ho:∀ b,H b=some (.own a)→H' b=some (.own a)) (ht:∀ b xs,H b=some (.tup xs)→H' b=some (.tup xs)):gK P w H' h' a o:=by
 induction o with
 | lst xs=>obtain⟨z,its,n,r,e⟩:=x;exact⟨z,its,n,r,k _ _ (.inl rfl) e⟩
 | tup xs=>obtain⟨z,its,r,ob,e,c⟩:=x;exact⟨z,its,r,ob,k _ _ (.inl rfl) e,c⟩
 | dK kvs=>obtain⟨z,y,vs,r,ob,es,ep,e,c⟩:=x;exact⟨z,y,vs,r,ob,es,ep,k _ _ (.inl rfl) e,c⟩
 | dT kvs =>
  obtain⟨z,y,xs,r,ob,es,ep,e,c⟩:=x
  exact⟨z,y,xs,Paired.Mq r fun p q z=>⟨z.1,ht _ _ z.2.1,z.2.2⟩,ob,es,ep,k _ _ (.inl rfl) e,c⟩
 | set S n=>obtain⟨ob,es,ep,t,e,c⟩:=x;exact⟨ob,es,ep,t,k _ _ (.inl rfl) e,c⟩
 | ins C dx fs =>
  obtain⟨d,z,ne,e,mA,⟨od,es,ep,e2,c⟩,r⟩:=x
  exact⟨ho _ d,z,ne,k _ _ (.inl rfl) e,mA,⟨od,es,ep,k _ _ (.inr d) e2,c⟩,r⟩
 | own y=>obtain⟨ob,e⟩:=x;exact⟨ob,k _ _ (.inl rfl) e⟩
 | xd fs=>obtain⟨mA,⟨od,es,ep,e,c⟩,r⟩:=x;exact⟨mA,⟨od,es,ep,k _ _ (.inl rfl) e,c⟩,r⟩
 | Gf lo hi=>obtain⟨t,u,v,e⟩:=x;exact⟨t,u,v,k _ _ (.inl rfl) e⟩
 | Gg ob u ih=>obtain⟨e,q⟩:=x;exact⟨k _ _ (.inl rfl) e,ih q⟩
 | Mp ps =>
  have e:h.get? a=some { cls:=.none,data:=.fields ps }:=x
  show h'.get? a=some { cls:=.none,data:=.fields ps }
  exact k a _ (.inl rfl) e
 | met f y =>
  have e:h.get? a=some (PySem.W.methodObj (.ref f) (.ref y)):=x
  show h'.get? a=some (PySem.W.methodObj (.ref f) (.ref y))
  exact k a _ (.inl rfl) e
 | ext φ=>obtain⟨p,⟨o,e⟩,st⟩:=x;exact⟨st _ _ p fun o q=>k _ _ (.inl rfl) q,⟨o,k _ _ (.inl rfl) e⟩,st⟩
theorem rV.lt(x:rV P w H h)(e:H a=some o):a<h.objs.size:=(x a o e).lt
theorem rV.fresh(x:rV P w H h)(e:h.objs.size≤a):H a=none:=by
 cases q:H a with
 | none=>rfl
 | some u=>exact absurd (qE (x.lt q) e) (Nat.lt_irrefl _)
theorem rV.kept(x:rV P w H h)(k:∀ b u,h.get? b=some u→h'.get? b=some u):rV P w H h':=fun a o e =>
 (x a o e).stay (fun b u _ q=>k b u q) (fun _ q=>q) fun _ _ q=>q
theorem rV.laid(x:rV P w H h)(k:∀ b u,h.get? b=some u→h'.get? b=some u)(hp:h.objs.size≤a)(new:gK P w (upd H a o) h' a o):rV P w (upd H a o) h':=fun b u e=>by
 have hn:=x.fresh hp
 by_cases hb:b=a
 ·subst hb;rw[ah]at e;cases e;exact new
 ·rw[aM hb]at e
  exact (x b u e).stay (fun c v _ q=>k c v q) (fun c q=>by rw[aM (ay q hn)];exact q) fun c xs q=>by rw[aM (ay q hn)];exact q
end
def Rd(H:Hp)(a:Addr)(u:HO):Prop:=H a=some u∨∃ o,H a=some (.Gg o u)
theorem Rd.ok{P:Program}{w:World}{H:Hp}{h:Heap}{a:Addr}{u:HO}(r:Rd H a u)(x:rV P w H h):gK P w H h a u:=by
 rcases r with r|⟨o,r⟩
 ·exact x a u r
 ·obtain⟨_,q⟩:=x a _ r
  exact q
def Ri:Option HO→Prop
 | some (.lst _)=>True
 | some (.dK _)=>True
 | some (.dT _)=>True
 | some (.set _ _)=>True
 | some (.ins _ _ _)=>True
 | some (.ext _)=>True
 | _=>False
section
variable {P:Program} {w:World} {H:Hp} {h h':Heap} {x e:Addr} {o':HO}
theorem rV.write(ok:rV P w H h)(mu:Ri (H x))(he:e=x∨H e=some (.own x))(k:∀ b u,b≠e→h.get? b=some u→h'.get? b=some u)(QL:∃ u,h'.get? e=some u)
  (new:gK P w (upd H x o') h' x o'):rV P w (upd H x o') h':=fun b u q=>by
 have Rj:∀ c y,H c=some (.own y)→c≠x:=fun c y r z=>by subst z;rw[r]at mu;exact mu
 have UP:∀ c xs,H c=some (.tup xs)→c≠x:=fun c xs r z=>by subst z;rw[r]at mu;exact mu
 by_cases hb:b=x
 ·subst hb;rw[ah]at q;cases q;exact new
 ·rw[aM hb]at q
  by_cases OS:b=e
  ·have q':H b=some (.own x):=by
    rcases he with z|z
    ·exact absurd (OS.trans z) hb
    ·rw[OS];exact z
   rw[q]at q';cases q'
   obtain⟨v,hv⟩:=QL
   exact⟨v,by rw[OS];exact hv⟩
  ·refine (ok b u q).stay (fun c v hc r=>k c v ?_ r) (fun c r=>by rw[aM (Rj c b r)];exact r) fun c xs r=>by rw[aM (UP c xs r)];exact r
   rcases hc with rfl|hc
   ·exact OS
   ·rintro rfl
    rcases he with z|z
    ·exact Rj c b hc z
    ·rw[hc]at z;cases z;exact hb rfl
end
structure Un(fs ex:List Addr)(H H':Hp)(h h':Heap):Prop where
 keep:∀ b o,h.get? b=some o→H b=none→b∉fs→b∉ex→h'.get? b=some o
 slot:∀ b o,h.get? b=some o→H b=none→b∈fs→b∉ex→∃ sl,h'.get? b=some { o with slots:=sl }
 free:∀ b o,h.get? b=some o→H b=none→b∉ex→H' b=none
 there:∀ b o,h.get? b=some o→b∉ex→∃ o',h'.get? b=some o'
 tups:∀ b xs,H b=some (.tup xs)→H' b=some (.tup xs)
 Ba:∀ b o u,H b=some (.Gg o u)→H' b=some (.Gg o u)
 CP:∀ b ps,H b=some (.Mp ps)→∃ more,H' b=some (.Mp (ps++more))
section
variable {fs fs' ex ex':List Addr} {H H1 H2:Hp} {h h1 h2 h':Heap} {a x e:Addr} {o:HO}
theorem Un.any(u:Un fs ex H H1 h h1){b:Addr}{ob:Obj}(q:h.get? b=some ob)(n:H b=none)(hx:b∉ex):∃ sl,h1.get? b=some { ob with slots:=sl }:=by
 by_cases hb:b∈fs
 ·exact u.slot b ob q n hb hx
 ·exact⟨ob.slots,u.keep b ob q n hb hx⟩
theorem Un.kept(k:∀ b u,h.get? b=some u→h'.get? b=some u):Un fs ex H H h h' :=
 ⟨fun b ob q _ _ _=>k b ob q,fun b ob q _ _ _=>⟨ob.slots,k b ob q⟩,fun _ _ _ n _=>n,fun b ob q _=>⟨ob,k b ob q⟩,fun _ _ q=>q,fun _ _ _ q=>q,fun _ ps q=>⟨#[],by rw[q];simp⟩⟩
theorem Un.refl:Un fs ex H H h h:=Un.kept fun _ _ q=>q
theorem Un.laid(k:∀ b u,h.get? b=some u→h'.get? b=some u)(hp:h.objs.size≤a)(hn:H a=none):Un fs ex H (upd H a o) h h' where
 keep:=fun b u q _ _ _=>k b u q
 slot:=fun b u q _ _ _=>⟨u.slots,k b u q⟩
 free:=fun b u q n _=>by rw[aM (kO (qE (Heap.lt_size q) hp))];exact n
 there:=fun b u q _=>⟨u,k b u q⟩
 tups:=fun b xs q=>by rw[aM (ay q hn)];exact q
 Ba:=fun b u xs q=>by rw[aM (ay q hn)];exact q
 CP:=fun b ps q=>⟨#[],by rw[aM (ay q hn),q];simp⟩
theorem Un.write(mu:Ri (H x))(he:e=x∨H e=some (.own x))(k:∀ b u,b≠e→h.get? b=some u→h'.get? b=some u)(QL:∃ u,h'.get? e=some u):Un fs ex H (upd H x o) h h':=by
 have hx:∀ b,H b=none→b≠x:=fun b n z=>by subst z;rw[n]at mu;exact mu
 have hb:∀ b,H b=none→b≠e:=fun b n z=>by
  subst z
  rcases he with r|r
  ·exact hx b n r
  ·rw[n]at r;cases r
 have hm:∀ b u,H b=some u→¬ Ri (some u)→b≠x:=fun b u q nm z=>by subst z;rw[q]at mu;exact nm mu
 refine⟨fun b u q n _ _=>k b u (hb b n) q,fun b u q n _ _=>⟨u.slots,k b u (hb b n) q⟩,fun b u q n _=>by rw[aM (hx b n)];exact n,fun b u q _=>?_,
  fun b xs q=>by rw[aM (hm b _ q fun z=>z)];exact q,fun b u xs q=>by rw[aM (hm b _ q fun z=>z)];exact q,fun b ps q=>⟨#[],by rw[aM (hm b _ q fun z=>z),q];simp⟩⟩
 by_cases OS:b=e
 ·subst OS;exact QL
 ·exact⟨u,k b u OS q⟩
end
def T3(h:Heap)(H:Hp):List Addr:=(List.range h.objs.size).filter fun a=>(H a).isSome
def CQ(h:Heap)(H:Hp):Heap:=PySem.W.hideAll h (T3 h H)
theorem IV(h:Heap)(H:Hp):(CQ h H).objs.size=h.objs.size:=PySem.W.hideAll_size _ _
theorem Kg{h:Heap}{H:Hp}{b:Addr}{o:Obj}(e:h.get? b=some o)(n:H b=none):(CQ h H).get? b=some o :=
 PySem.W.hideAll_get _ e fun hm=>by
  have q:(H b).isSome=true:=(List.mem_filter.mp hm).2
  rw[n]at q;simp at q
theorem Mr{h:Heap}{H:Hp}{b:Addr}{o:Obj}(e:(CQ h H).get? b=some o):h.get? b=some o∧H b=none:=by
 have e':h.get? b=some o:=PySem.W.of_hideAll (T3 h H) e
 refine⟨e',?_⟩
 cases q:H b with
 | none=>rfl
 | some x =>
  have hm:b∈T3 h H:=List.mem_filter.mpr ⟨List.mem_range.mpr (Heap.lt_size e'),by simp[q]⟩
  have z:(CQ h H).get? b=none:=PySem.W.hideAll_none (T3 h H) hm
  rw[z]at e;cases e
end L2
namespace L2
open PySem PySem.Spec PyProof.Rows
structure Mod(K:PySem.W.Frag)(mg:Str→Option Value)(base:Heap):Prop where
 QM:K.In base
 glob:base.Ns mainGlobals mg
 blt:∃ mb,base.Ns builtinsNs mb∧∀ x:Str,x≠"__name__"→mb x=bootBuiltins x
 nolimit:base.NoLimit
structure Cx where
 prog:Program
 w:World
 K:PySem.W.Frag
 mg:Str→Option Value
 base:Heap
 A:Around
 N:List Str
 s₀:Shared
 H₀:Hp
 env:Env
 outer:List Env
 stack:List Env
 ex:List Addr
 fn:Str→Bool
 calm:Bool
 pn:List (Addr × Obj)
 xe:Value→Shared→Prop
def frs(l:List Env):List Addr:=l.filterMap (·.frame)
abbrev Cx.fs(X:Cx):List Addr:=frs X.outer
def T4(sc:Scope)(x:Str):Prop:=sc.names.lookup x=some .local∨sc.names.lookup x=some .cell∨sc.names.lookup x=some .free
def Loc(sc:Scope)(x:Str):Prop:=sc.names.lookup x=some .local∨sc.names.lookup x=some .cell
def Look(env:Env)(h:Heap)(m:Str→Option Value)(x:Str)(u:Value):Prop :=
 (env.kindOf x=some .local∧m x=some u)∨((env.kindOf x=some .cell∨env.kindOf x=some .free)∧∃ c,env.cells.lookup x=some c∧h.IsCell c (some u))
structure Cx.Ok(X:Cx):Prop where
 mod:Mod X.K X.mg X.base
 kind:X.env.scope.kind=.function
 glob:X.env.globals=mainGlobals
 blt:X.env.builtins=builtinsNs
 above:X.s₀.heap.objs.size≤X.env.locals
 inj:∀ x y c,X.env.cells.lookup x=some c→X.env.cells.lookup y=some c→x=y
 has:∀ x,(X.env.kindOf x=some .cell∨X.env.kindOf x=some .free)→∃ c,X.env.cells.lookup x=some c
 OT:∀ x c,X.fn x=true→X.env.cells.lookup x=some c→X.s₀.heap.objs.size≤c
 hd:X.calm=true→X.A.handled=none
 frames:X.A.frames=some X.stack
 stk:X.stack=X.outer∨(X.stack=X.env::X.outer∧X.env.frame=some X.env.locals)
 T5:∀ b∈X.ex,b≠X.env.locals∧∀ x c,X.env.cells.lookup x=some c→c≠b
 bs:∀ b o,X.base.get? b=some o→X.s₀.heap.get? b=some o∧X.H₀ b=none
 Kh:X.base.objs.size≤X.s₀.heap.objs.size
 Eh:∀ b o,X.base.get? b=some o→b∉X.ex
 IW:∀ b∈X.ex,b∉X.fs
 t9:X.s₀.heap.FunFrames X.base X.outer
 Ms:∀ b∈X.fs,X.H₀ b=none
structure Inv(X:Cx)(pins:List (Addr × Obj))(σ:List (Option V))(H:Hp)(s:Shared):Prop where
 ok:X.Ok
 os:s.os=X.s₀.os
 bare:AllBare s.gens
 base:Un X.fs X.ex X.H₀ H X.s₀.heap s.heap
 loc:∃ m,s.heap.Ns X.env.locals m∧∀ (i:Nat) (x:Str) (v:V),X.N[i]?=some x→σ[i]?=some (some v)→T4 X.env.scope x→∃ u,RelV v u∧Look X.env s.heap m x u
 cell:∀ x c,X.env.cells.lookup x=some c→∃ v,s.heap.IsCell c v
 free:H X.env.locals=none
 pA:∀ x c,X.env.cells.lookup x=some c→H c=none
 pin:∀ p∈X.pn++pins,s.heap.get? p.1=some p.2∧H p.1=none∧p.1≠X.env.locals∧p.1∉X.fs∧∀ v,p.2.data≠.cell v
 hok:rV X.prog X.w H s.heap
 len:σ.length=X.N.length
section
variable {X:Cx} {pins:List (Addr × Obj)} {σ:List (Option V)} {H H':Hp} {s:Shared} {h':Heap}
theorem Cx.Ok.UQ(ok:X.Ok){b:Addr}{o:Obj}(e:X.base.get? b=some o):b∉X.fs:=fun hb=>by
 have:=(ok.t9.mem hb).1
 rw[e]at this;cases this
theorem Inv.bs(I:Inv X pins σ H s):∀ b o,X.base.get? b=some o→s.heap.get? b=some o∧H b=none:=fun b o e =>
 ⟨I.base.keep b o (I.ok.bs b o e).1 (I.ok.bs b o e).2 (I.ok.UQ e) (I.ok.Eh b o e),I.base.free b o (I.ok.bs b o e).1 (I.ok.bs b o e).2 (I.ok.Eh b o e)⟩
theorem Inv.bk(I:Inv X pins σ H s):∀ b o,X.base.get? b=some o→s.heap.get? b=some o:=fun b o e=>(I.bs b o e).1
theorem Inv.mod(I:Inv X pins σ H s):Mod X.K X.mg X.base:=I.ok.mod
theorem Inv.vE(I:Inv X pins σ H s):X.K.In s.heap:=I.ok.mod.QM.keeps I.bk
theorem Inv.lt(I:Inv X pins σ H s):X.env.locals<s.heap.objs.size:=let ⟨_,hn,_⟩:=I.loc;hn.lt
theorem Inv.sz(I:Inv X pins σ H s):X.s₀.heap.objs.size≤s.heap.objs.size:=lO I.ok.above (mJ I.lt)
theorem Inv.UR(I:Inv X pins σ H s){a:Addr}(h:s.heap.objs.size≤a):a∉X.fs:=fun hb=>by
 obtain⟨_,o,ho,_⟩:=I.ok.t9.mem hb
 exact absurd (qE (Heap.lt_size ho) (lO I.sz h)) (Nat.lt_irrefl _)
theorem Inv.OU(I:Inv X pins σ H s):∀ x c,X.env.cells.lookup x=some c→c≠X.env.locals:=fun x c e z=>by
 obtain⟨v,o,ho,hd⟩:=I.cell x c e
 obtain⟨m,⟨o',es,ep,ho',hd',_⟩,_⟩:=I.loc
 rw[z,ho']at ho;cases ho;rw[hd']at hd;cases hd
theorem Inv.t9(I:Inv X pins σ H s):s.heap.FunFrames X.base X.outer:=by
 have all:∀ (l:List Env),(∀ b∈frs l,b∈X.fs)→X.s₀.heap.FunFrames X.base l→s.heap.FunFrames X.base l:=by
  intro l
  induction l with
  | nil=>intro _ _;trivial
  | cons env r ih =>
   intro hs hl
   obtain⟨hk,⟨L,o,hf,hn,ho,hd⟩,hr⟩:=hl
   have hL:L∈X.fs:=hs L (by unfold frs;rw[List.filterMap_cons,hf];exact uL)
   obtain⟨sl,e⟩:=I.base.slot L o ho (I.ok.Ms L hL) hL fun z=>I.ok.IW L z hL
   exact⟨hk,⟨L,_,hf,hn,e,hd⟩,ih (fun b hb=>hs b (by unfold frs;rw[List.filterMap_cons,hf];exact tY _ hb)) hr⟩
 exact all X.outer (fun _ hb=>hb) I.ok.t9
theorem Inv.stack(I:Inv X pins σ H s):s.heap.FunFrames X.base X.stack:=by
 rcases I.ok.stk with e|⟨e,hf⟩
 ·rw[e];exact I.t9
 ·rw[e]
  obtain⟨m,hn,_⟩:=I.loc
  refine .cons (by rw[I.ok.kind];decide) hf hn ?_ I.t9
  exact Heap.get?_none_of_le (lO I.ok.Kh I.ok.above)
theorem Inv.qF(I:Inv X pins σ H s):∀ b∈frs X.stack,b∈X.env.locals::X.fs:=fun b hb=>by
 rcases I.ok.stk with e|⟨e,hf⟩
 ·rw[e]at hb;exact tY _ hb
 ·rw[e]at hb
  unfold frs at hb
  rw[List.filterMap_cons,hf]at hb
  exact hb
theorem Inv.sU(I:Inv X pins σ H s):∀ b∈frs X.stack,H b=none:=fun b hb=>by
 rcases List.mem_cons.mp (I.qF b hb) with e|hb
 ·rw[e];exact I.free
 ·obtain⟨_,o,ho,_⟩:=I.ok.t9.mem hb
  exact I.base.free b o ho (I.ok.Ms b hb) fun z=>I.ok.IW b z hb
theorem Inv.step{g':Array GenState}{t':Nat}{d':Drawn}{ch:List Addr}(I:Inv X pins σ H s)
  (hch:∀ b∈ch,(b∈X.ex∨X.s₀.heap.objs.size≤b)∧b≠X.env.locals∧(∀ x c,X.env.cells.lookup x=some c→c≠b)∧∀ p∈X.pn++pins,p.1≠b)
  (keep:∀ b o,b≠X.env.locals→b∉X.fs→b∉ch→s.heap.get? b=some o→H b=none→h'.get? b=some o)
  (slot:∀ b o,b≠X.env.locals→b∈X.fs→b∉ch→s.heap.get? b=some o→H b=none→∃ sl,h'.get? b=some { o with slots:=sl }) (free:∀ b o,b∉ch→s.heap.get? b=some o→H b=none→H' b=none)
  (there:∀ b o,b∉ch→s.heap.get? b=some o→∃ o',h'.get? b=some o')
  (tups:∀ b xs,H b=some (.tup xs)→H' b=some (.tup xs)) (Ba:∀ b o u,H b=some (.Gg o u)→H' b=some (.Gg o u)) (CP:∀ b ps,H b=some (.Mp ps)→∃ more,H' b=some (.Mp (ps++more)))
  (ns:∀ m,s.heap.Ns X.env.locals m→h'.Ns X.env.locals m) (hok:rV X.prog X.w H' h') (hg:AllBare g') :
  Inv X pins σ H' { s with heap:=h',gens:=g',drawn:=d',toks:=t' }:=by
 have neL:∀ b o,X.s₀.heap.get? b=some o→b≠X.env.locals:=fun b o e=>kO (qE (Heap.lt_size e) I.ok.above)
 have T6:∀ b o,X.s₀.heap.get? b=some o→b∉X.ex→b∉ch:=fun b o e hx hb=>by
  rcases (hch b hb).1 with z|z
  ·exact hx z
  ·exact absurd (qE (Heap.lt_size e) z) (Nat.lt_irrefl _)
 have cellK:∀ x c,X.env.cells.lookup x=some c→∀ v,s.heap.IsCell c v→h'.IsCell c v:=fun x c e v ⟨o,ho,hd⟩=>by
  have Rk:c∉ch:=fun z=>(hch c z).2.2.1 x c e rfl
  by_cases hc:c∈X.fs
  ·obtain⟨sl,q⟩:=slot c o (I.OU x c e) hc Rk ho (I.pA x c e)
   exact⟨_,q,hd⟩
  ·exact⟨o,keep c o (I.OU x c e) hc Rk ho (I.pA x c e),hd⟩
 refine⟨I.ok,I.os,hg,⟨fun b o e n hb hx=>?_,fun b o e n hb hx=>?_,fun b o e n hx=>?_,fun b o e hx=>?_,fun b xs e=>tups b xs (I.base.tups b xs e),fun b o xs e=>Ba b o xs (I.base.Ba b o xs e),fun b ps e=>?_⟩,?_,fun x c e=>?_,?_,fun x c e=>?_,fun p hp=>?_,hok,I.len⟩
 ·exact keep b o (neL b o e) hb (T6 b o e hx) (I.base.keep b o e n hb hx) (I.base.free b o e n hx)
 ·obtain⟨sl,e1⟩:=I.base.slot b o e n hb hx
  obtain⟨T7,e2⟩:=slot b _ (neL b o e) hb (T6 b o e hx) e1 (I.base.free b o e n hx)
  exact⟨T7,e2⟩
 ·obtain⟨o',e1⟩:=I.base.there b o e hx
  exact free b o' (T6 b o e hx) e1 (I.base.free b o e n hx)
 ·obtain⟨o',e1⟩:=I.base.there b o e hx
  exact there b o' (T6 b o e hx) e1
 ·obtain⟨m1,e1⟩:=I.base.CP b ps e
  obtain⟨m2,e2⟩:=CP b _ e1
  exact⟨m1++m2,by rw[e2,Array.append_assoc]⟩
 ·obtain⟨m,hn,hl⟩:=I.loc
  refine⟨m,ns m hn,fun i x v e1 e2 e3=>?_⟩
  obtain⟨u,r,l⟩:=hl i x v e1 e2 e3
  refine⟨u,r,?_⟩
  rcases l with l|⟨k,c,e,z⟩
  ·exact .inl l
  ·exact .inr ⟨k,c,e,cellK x c e _ z⟩
 ·obtain⟨v,z⟩:=I.cell x c e
  exact⟨v,cellK x c e v z⟩
 ·obtain⟨m,⟨o,_,_,ho,_⟩,_⟩:=I.loc
  exact free _ o (fun z=>(hch _ z).2.1 rfl) ho I.free
 ·obtain⟨v,o,ho,hd⟩:=I.cell x c e
  exact free c o (fun z=>(hch c z).2.2.1 x c e rfl) ho (I.pA x c e)
 ·obtain⟨e,n,ne,nf,d⟩:=I.pin p hp
  have Rk:p.1∉ch:=fun z=>(hch p.1 z).2.2.2 p hp rfl
  exact⟨keep p.1 p.2 ne nf Rk e n,free p.1 p.2 Rk e n,ne,nf,d⟩
theorem Inv.un{t':Nat}(I:Inv X pins σ H s)(u:Un X.fs [] H H' s.heap h')(hok:rV X.prog X.w H' h'):Inv X pins σ H' { s with heap:=h',toks:=t' }:=by
 obtain⟨m,⟨o,es,ep,ho,r⟩,_⟩:=id I.loc
 obtain⟨sl,hL⟩:=u.any ho I.free (by simp)
 exact I.step (g':=s.gens) (d':=s.drawn) (ch:=[]) (fun _ z=>nomatch z) (fun b o _ hb _ e n=>u.keep b o e n hb (by simp)) (fun b o _ hb _ e n=>u.slot b o e n hb (by simp)) (fun b o _ e n=>u.free b o e n (by simp)) (fun b o _ e=>u.there b o e (by simp)) u.tups u.Ba u.CP (fun m' hm=>by
  obtain⟨o',es',US,ho',r'⟩:=hm
  rw[ho]at ho';cases ho'
  exact⟨_,es',US,hL,r'⟩) hok I.bare
theorem Inv.call{g':Array GenState}{t':Nat}{d':Drawn}{ch:List Addr}(I:Inv X pins σ H s)(u:Un (frs X.stack) ch H H' s.heap h')(hok:rV X.prog X.w H' h')(hg:AllBare g')
  (hch:∀ b∈ch,(b∈X.ex∨X.s₀.heap.objs.size≤b)∧b≠X.env.locals∧(∀ x c,X.env.cells.lookup x=some c→c≠b)∧∀ p∈X.pn++pins,p.1≠b) :
  Inv X pins σ H' { s with heap:=h',gens:=g',drawn:=d',toks:=t' }:=by
 obtain⟨m,⟨o,es,ep,ho,r⟩,_⟩:=id I.loc
 obtain⟨sl,hL⟩:=u.any ho I.free fun z=>(hch _ z).2.1 rfl
 exact I.step (ch:=ch) hch (fun b o hL hb hc e n=>u.keep b o e n (fun z=>(List.mem_cons.mp (I.qF b z)).elim hL hb) hc) (fun b o _ _ hc e n=>u.any e n hc) (fun b o hc e n=>u.free b o e n hc) (fun b o hc e=>u.there b o e hc) u.tups u.Ba u.CP (fun m' hm=>by
  obtain⟨o',es',US,ho',r'⟩:=hm
  rw[ho]at ho';cases ho'
  exact⟨_,es',US,hL,r'⟩) hok hg
theorem Inv.turned{t':Nat}{it:Addr}(I:Inv X pins σ H s)(k:∀ b o,b≠it→s.heap.get? b=some o→h'.get? b=some o)(hn:H it=none)(hL:it≠X.env.locals)
  (h1:it∈X.ex∨X.s₀.heap.objs.size≤it) (h2:∀ x c,X.env.cells.lookup x=some c→c≠it) (h3:∀ p∈X.pn++pins,p.1≠it):Inv X pins σ H { s with heap:=h',toks:=t' }:=by
 have NT:∀ b u,H b=some u→b≠it:=fun b u e z=>by rw[z,hn]at e;cases e
 refine I.step (g':=s.gens) (d':=s.drawn) (ch:=[it]) (fun b hb=>?_) (fun b o _ _ hc e _=>k b o (fun z=>hc (by simp[z])) e) (fun b o _ _ hc e _=>⟨o.slots,k b o (fun z=>hc (by simp[z])) e⟩) (fun _ _ _ _ n=>n)
  (fun b o hc e=>⟨o,k b o (fun z=>hc (by simp[z])) e⟩) (fun _ _ e=>e) (fun _ _ _ e=>e) (fun b ps e=>⟨#[],by rw[e];simp⟩) (fun m hm=>?_) (fun b u e=>?_) I.bare
 ·have e:b=it:=by simpa using hb
  subst e
  exact⟨h1,hL,h2,h3⟩
 ·obtain⟨o,es,ep,ho,r⟩:=hm
  exact⟨o,es,ep,k _ o (Ne.symm hL) ho,r⟩
 ·refine (I.hok b u e).stay (fun c v hc q=>k c v ?_ q) (fun _ q=>q) fun _ _ q=>q
  rcases hc with z|z
  ·rw[z];exact NT b u e
  ·exact NT c _ z
theorem Inv.tok(I:Inv X pins σ H s)(t:Nat):Inv X pins σ H { s with toks:=t }:=I.un (h':=s.heap) (t':=t) Un.refl I.hok
theorem Inv.kept{t':Nat}(I:Inv X pins σ H s)(k:∀ b u,s.heap.get? b=some u→h'.get? b=some u):Inv X pins σ H { s with heap:=h',toks:=t' }:=I.un (Un.kept k) (I.hok.kept k)
theorem Inv.laid{a:Addr}{o:HO}{t':Nat}(I:Inv X pins σ H s)(k:∀ b u,s.heap.get? b=some u→h'.get? b=some u)(hp:s.heap.objs.size≤a)(new:gK X.prog X.w (upd H a o) h' a o) :
  Inv X pins σ (upd H a o) { s with heap:=h',toks:=t' }:=I.un (Un.laid k hp (I.hok.fresh hp)) (I.hok.laid k hp new)
theorem Inv.write{x e:Addr}{o:HO}{t':Nat}(I:Inv X pins σ H s)(mu:Ri (H x))(he:e=x∨H e=some (.own x))(k:∀ b u,b≠e→s.heap.get? b=some u→h'.get? b=some u)(QL:∃ u,h'.get? e=some u)
  (new:gK X.prog X.w (upd H x o) h' x o):Inv X pins σ (upd H x o) { s with heap:=h',toks:=t' }:=I.un (Un.write mu he k QL) (I.hok.write mu he k QL new)
theorem Inv.HC{NU:List (Addr × Obj)}(I:Inv X pins σ H s)(h:∀ p∈NU,s.heap.get? p.1=some p.2∧H p.1=none∧p.1≠X.env.locals∧p.1∉X.fs∧∀ v,p.2.data≠.cell v):Inv X NU σ H s :=
 ⟨I.ok,I.os,I.bare,I.base,I.loc,I.cell,I.free,I.pA,fun p hp=>(List.mem_append.mp hp).elim (fun z=>I.pin p (List.mem_append_left _ z)) (h p),I.hok,I.len⟩
theorem Ei{N:List Str}(hN:N.Nodup){i j:Nat}{x:Str}(a:N[i]?=some x)(b:N[j]?=some x):i=j:=by
 obtain⟨h1,e1⟩:=List.getElem?_eq_some_iff.mp a
 obtain⟨h2,e2⟩:=List.getElem?_eq_some_iff.mp b
 exact (List.getElem_inj hN).mp (e1.trans e2.symm)
theorem BC{M:Model}{A:Around}{E:Value→Shared→Prop}{i:Nat}{x:Str}{v:V}{u:Value}{Q:Unit→Shared→Prop}(I:Inv X pins σ H s)(hN:X.N.Nodup)(hi:X.N[i]?=some x)(hx:Loc X.env.scope x)(r:RelV v u)
  (h:∀ s',Inv X pins (σ.set i (some v)) H s'→(∃ a,Heap.SameBut a s.heap s'.heap∧(a=X.env.locals∨X.env.cells.lookup x=some a))→Q () s') (hf:X.fn x=true∨X.env.scope.names.lookup x=some .local:=by first|exact .inl rfl|exact .inr rfl|assumption):wpAny M A (storeName X.env x u) Q E s:=by
 obtain⟨m,hn,hl⟩:=id I.loc
 have hcls:(X.env.scope.kind == .class || (X.env.scope.kind == .module&&X.env.locals != X.env.globals))=false:=by rw[I.ok.kind];rfl
 have hiσ:i<σ.length:=by rw[I.len];exact (List.getElem?_eq_some_iff.mp hi).1
 have OU:=I.OU
 have tracked:∀ {a:Addr} {h':Heap},(∃ o,s.heap.get? a=some o∧H a=none)→Heap.SameBut a s.heap h'→rV X.prog X.w H h':=fun {a h'} ha hs b ob e=>by
  obtain⟨_,_,hfree⟩:=ha
  refine (I.hok b ob e).stay (fun c w' hc q=>(hs.2 c ?_).trans q) (fun _ q=>q) fun _ _ q=>q
  rintro rfl
  rcases hc with rfl|hc
  ·rw[hfree]at e;cases e
  ·rw[hfree]at hc;cases hc
 rcases hx with hk|hk
 ·refine wpAny_storeName_local hk hn (fun h' hn' hs=>?_) hcls
  obtain⟨oL,_,_,hoL,_⟩:=id hn
  refine h _ ⟨I.ok,I.os,I.bare,⟨fun b o e n hb hx=>?_,fun b o e n hb hx=>?_,I.base.free,fun b o e hx=>?_,I.base.tups,I.base.Ba,I.base.CP⟩,⟨_,hn',fun j y v' e1 e2 e3=>?_⟩,fun y c e=>?_,I.free,I.pA,fun p hp=>?_,tracked ⟨oL,hoL,I.free⟩ hs,by simpa using I.len⟩ ⟨_,hs,.inl rfl⟩
  ·exact (hs.2 b (kO (qE (Heap.lt_size e) I.ok.above))).trans (I.base.keep b o e n hb hx)
  ·obtain⟨sl,e1⟩:=I.base.slot b o e n hb hx
   exact⟨sl,(hs.2 b (kO (qE (Heap.lt_size e) I.ok.above))).trans e1⟩
  ·obtain⟨o',e1⟩:=I.base.there b o e hx
   exact⟨o',(hs.2 b (kO (qE (Heap.lt_size e) I.ok.above))).trans e1⟩
  ·by_cases hj:j=i
   ·subst hj
    rw[hi]at e1;cases e1
    rw[List.getElem?_set_self hiσ]at e2
    cases e2
    exact⟨u,r,.inl ⟨hk,by simp⟩⟩
   ·rw[List.getElem?_set_ne (Ne.symm hj)]at e2
    obtain⟨u',r',q⟩:=hl j y v' e1 e2 e3
    refine⟨u',r',?_⟩
    rcases q with ⟨k,e⟩|⟨k,c,e,z⟩
    ·refine .inl ⟨k,?_⟩
     have:y≠x:=fun e=>hj (Ei hN e1 (e ▸ hi))
     simp[this,e]
    ·exact .inr ⟨k,c,e,z.sameBut hs (OU y c e)⟩
  ·obtain⟨w',z⟩:=I.cell y c e
   exact⟨w',z.sameBut hs (OU y c e)⟩
  ·obtain⟨e,n,ne,nf,d⟩:=I.pin p hp
   exact⟨(hs.2 p.1 ne).trans e,n,ne,nf,d⟩
 ·have hfn:X.fn x=true:=by
   rcases hf with z|z
   ·exact z
   ·rw[z]at hk;cases hk
  obtain⟨c,hc⟩:=I.ok.has x (.inl hk)
  obtain⟨w',z⟩:=I.cell x c hc
  refine wpAny_storeName_cell I.ok.kind hk hc z (fun h' hc' hs=>?_)
  obtain⟨oc,hoc,UT⟩:=id z
  refine h { s with heap:=h' } ⟨I.ok,I.os,I.bare,⟨fun b o e n hb hx=>?_,fun b o e n hb hx=>?_,I.base.free,fun b o e hx=>?_,I.base.tups,I.base.Ba,I.base.CP⟩,⟨m,hn.sameBut hs (Ne.symm (OU x c hc)),fun j y v' e1 e2 e3=>?_⟩,fun y c' e=>?_,I.free,I.pA,fun p hp=>?_,tracked ⟨oc,hoc,I.pA x c hc⟩ hs,by simpa using I.len⟩ ⟨c,hs,.inr hc⟩
  ·exact (hs.2 b (kO (qE (Heap.lt_size e) (I.ok.OT x c hfn hc)))).trans (I.base.keep b o e n hb hx)
  ·obtain⟨sl,e1⟩:=I.base.slot b o e n hb hx
   exact⟨sl,(hs.2 b (kO (qE (Heap.lt_size e) (I.ok.OT x c hfn hc)))).trans e1⟩
  ·obtain⟨o',e1⟩:=I.base.there b o e hx
   exact⟨o',(hs.2 b (kO (qE (Heap.lt_size e) (I.ok.OT x c hfn hc)))).trans e1⟩
  ·by_cases hj:j=i
   ·subst hj
    rw[hi]at e1;cases e1
    rw[List.getElem?_set_self hiσ]at e2
    cases e2
    exact⟨u,r,.inr ⟨.inl hk,c,hc,hc'⟩⟩
   ·rw[List.getElem?_set_ne (Ne.symm hj)]at e2
    obtain⟨u',r',q⟩:=hl j y v' e1 e2 e3
    refine⟨u',r',?_⟩
    rcases q with q|⟨k,c',e,z'⟩
    ·exact .inl q
    ·refine .inr ⟨k,c',e,z'.sameBut hs ?_⟩
     rintro rfl
     exact hj (Ei hN e1 (I.ok.inj _ _ _ e hc ▸ hi))
  ·by_cases hcc:c'=c
   ·subst hcc;exact⟨_,hc'⟩
   ·obtain⟨w2,z2⟩:=I.cell y c' e
    exact⟨w2,z2.sameBut hs hcc⟩
  ·obtain⟨e,n,ne,nf,d⟩:=I.pin p hp
   refine⟨(hs.2 p.1 ?_).trans e,n,ne,nf,d⟩
   intro q
   rw[q,hoc]at e
   have q':oc=p.2:=rN e
   exact d w' (by rw[← q'];exact UT)
theorem vF{M:Model}{A:Around}{E:Value→Shared→Prop}{i:Nat}{x:Str}{v:V}{u:Value}{Q:Unit→Shared→Prop}(I:Inv X pins σ H s)(hN:X.N.Nodup)(hi:X.N[i]?=some x)(hx:Loc X.env.scope x)(r:RelV v u)
  (h:∀ s',Inv X pins (σ.set i (some v)) H s'→Q () s') (hf:X.fn x=true∨X.env.scope.names.lookup x=some .local:=by first|exact .inl rfl|exact .inr rfl|assumption):wpAny M A (storeName X.env x u) Q E s :=
 BC I hN hi hx r (fun s' I' _=>h s' I') hf
theorem Inv.BD{s':Shared}{ch:List Addr}(I:Inv X pins σ H s)(ho:s'.os=s.os)(u:Un (frs X.stack) ch H H' s.heap s'.heap)(hok:rV X.prog X.w H' s'.heap)(hg:AllBare s'.gens)
  (hch:∀ b∈ch,(b∈X.ex∨X.s₀.heap.objs.size≤b)∧b≠X.env.locals∧(∀ x c,X.env.cells.lookup x=some c→c≠b)∧∀ p∈X.pn++pins,p.1≠b):Inv X pins σ H' s':=by
 obtain⟨h',g',d',t',o'⟩:=s'
 have e:o'=s.os:=ho
 subst e
 exact I.call (g':=g') (t':=t') (d':=d') u hok hg hch
end
abbrev XK:=Value→Option Addr→Hp→Prop
abbrev St:=List (Option V)
abbrev VK:=V→Hp→Prop
abbrev TE:=St→Hp→VK→Prop
abbrev TT:=St→Hp→(Bool→Hp→Prop)→Prop
abbrev TA:=St→Hp→(List V→Hp→Prop)→Prop
structure Ends where
 nx:St→Hp→Prop
 rt:VK
 bk:St→Hp→Prop:=fun _ _=>False
 ct:St→Hp→Prop:=fun _ _=>False
abbrev TS:=Ends→St→Hp→Prop
inductive EP(X:Cx)(pins:List (Addr × Obj))(σ:St)(Q:VK)(u:Value)(s':Shared):Prop
 | mk (v:V) (H':Hp) (_:Inv X pins σ H' s') (_:RelV v u) (_:Q v H'):EP X pins σ Q u s'
def TP(X:Cx)(pins:List (Addr × Obj))(σ:St)(Q:Bool→Hp→Prop)(b:Bool)(s':Shared):Prop:=∃ H',Inv X pins σ H' s'∧Q b H'
inductive AP(X:Cx)(pins:List (Addr × Obj))(σ:St)(Q:List V→Hp→Prop)(us:List Value)(s':Shared):Prop
 | mk (vs:List V) (H':Hp) (_:Inv X pins σ H' s') (_:Vals vs us) (_:Q vs H'):AP X pins σ Q us s'
def SP(X:Cx)(pins:List (Addr × Obj))(D:Ends)(f:Flow)(s':Shared):Prop :=
 match f with
 | .next=>∃ σ' H',Inv X pins σ' H' s'∧D.nx σ' H'
 | .brk=>∃ σ' H',Inv X pins σ' H' s'∧D.bk σ' H'
 | .cont=>∃ σ' H',Inv X pins σ' H' s'∧D.ct σ' H'
 | .ret u=>∃ v σ' H',Inv X pins σ' H' s'∧RelV v u∧D.rt v H'
def PE(X:Cx)(e:Expr)(t:TE):Prop :=
 ∀ (pins:List (Addr × Obj)) (s:Shared) (σ:St) (H:Hp) (Q:VK),Inv X pins σ H s→t σ H Q→wpAny (model X.prog X.w) X.A (eval e X.env) (EP X pins σ Q) X.xe s
def PT(X:Cx)(e:Expr)(t:TT):Prop :=
 ∀ (pins:List (Addr × Obj)) (s:Shared) (σ:St) (H:Hp) (Q:Bool→Hp→Prop),Inv X pins σ H s→t σ H Q→wpAny (model X.prog X.w) X.A (isTrue e X.env (eval e X.env)) (TP X pins σ Q) X.xe s
def PW(X:Cx)(e:Expr)(t:TT):Prop :=
 ∀ (whole:Sem Value) (pins:List (Addr × Obj)) (s:Shared) (σ:St) (H:Hp) (Q:Bool→Hp→Prop),Inv X pins σ H s→t σ H Q→wpAny (model X.prog X.w) X.A (isTrue e X.env whole) (TP X pins σ Q) X.xe s
theorem PW.pt{X:Cx}{e:Expr}{t:TT}(h:PW X e t):PT X e t:=h _
def PA(X:Cx)(es:List Expr)(t:TA):Prop :=
 ∀ (pos:Pos) (pins:List (Addr × Obj)) (s:Shared) (σ:St) (H:Hp) (Q:List V→Hp→Prop),Inv X pins σ H s→t σ H Q→wpAny (model X.prog X.w) X.A (spliced (backTo pos (starEach es X.env))) (AP X pins σ Q) X.xe s
def PS(X:Cx)(st:Stmt)(t:TS):Prop :=
 ∀ (pins:List (Addr × Obj)) (s:Shared) (σ:St) (H:Hp) (D:Ends),Inv X pins σ H s→t D σ H→wpAny (model X.prog X.w) X.A (exec st X.env) (SP X pins D) X.xe s
def FZ(X:Cx)(st:List Stmt)(t:TS):Prop :=
 ∀ (pins:List (Addr × Obj)) (s:Shared) (σ:St) (H:Hp) (D:Ends),Inv X pins σ H s→t D σ H→wpAny (model X.prog X.w) X.A (execs st X.env) (SP X pins D) X.xe s
theorem cE{α:Type}{t:Sem α}{Q Q':α→Shared→Prop}{M:Model}{A:Around}{E:Value→Shared→Prop}{s:Shared}(h:wpAny M A t Q E s)(hQ:∀ a s,Q a s→Q' a s):wpAny M A t Q' E s:=wpAny_mono h hQ fun _ _ x=>x
end L2
namespace L2
open PySem PySem.Spec PyProof.Rows
section
variable {X:Cx}
inductive Mt(i:Nat)(σ:St)(H:Hp)(Q:VK):Prop
 | mk (v:V) (_:σ[i]?=some (some v)) (_:Q v H):Mt i σ H Q
inductive Rl(x:V)(H:Hp)(Q:Bool→Hp→Prop):Prop
 | mk (c:Bool) (_:x=.bl c) (_:Q c H):Rl x H Q
inductive isI(x:V)(H:Hp)(Q:Option Int→Hp→Prop):Prop
 | mk (i:Int) (_:x=.int i) (_:Q (some i) H):isI x H Q
def tC(v:V):TE:=fun _ H Q=>Q v H
theorem OV{i:Nat}{x:Str}{pos:Pos}(hN:X.N[i]?=some x)(hv:T4 X.env.scope x)(hd:(x == ("__debug__":Str))=false:=by decide)(hcd:(x == ("__classdict__":Str))=false:=by decide):PE X (.Name x pos) (Mt i):=by
 intro pins s σ H Q I h
 obtain⟨v,e,h⟩:=h
 obtain⟨m,hn,hl⟩:=I.loc
 obtain⟨u,r,l⟩:=hl i x v hN e hv
 have fin:EP X pins σ Q u s:=⟨v,H,I,r,h⟩
 rcases l with ⟨hk,hm⟩|⟨hk,c,hc,hcell⟩
 ·exact wpAny_Name (wpAny_loadName_local I.ok.kind hk hn hm fin) hd
 ·rcases hk with hk|hk
  ·exact wpAny_Name (wpAny_loadName_cell I.ok.kind hk hc hcell fin) hd
  ·exact wpAny_Name (wpAny_loadName_free I.ok.kind hk hc hcell fin hcd) hd
theorem aC{i j pos}:PE X (.Constant (.int i) j pos) (tC (.int i)):=fun _ _ _ H _ I h=>wpAny_Constant_int ⟨.int i,H,I.tok _,⟨_,rfl⟩,h⟩
theorem rW{b j pos}:PE X (.Constant (.bool b) j pos) (tC (.bl b)):=fun _ _ _ H _ I h=>Constant_bool ⟨.bl b,H,I,rfl,h⟩
theorem Gh{j pos}:PE X (.Constant .none j pos) (tC .jc):=fun _ _ _ H _ I h=>Constant_none ⟨.jc,H,I,rfl,h⟩
theorem cN{x j pos}:PE X (.Constant (.str x) j pos) (tC (.str x)):=fun _ _ _ H _ I h=>Calls.Constant_str ⟨.str x,H,I.tok _,⟨_,rfl⟩,h⟩
def Gl(X:Cx)(x:Str):Prop:=X.env.kindOf x=some .globalImplicit
theorem vG{E:Value→Shared→Prop}{pins:List (Addr × Obj)}{s:Shared}{σ:St}{H:Hp}{x:Str}{u:Value}{pos:Pos}{Q:Value→Shared→Prop}(I:Inv X pins σ H s)(hg:Gl X x)(hm:X.mg x=some u)(h:Q u s)
  (hd:(x == ("__debug__":Str))=false:=by decide):wpAny (model X.prog X.w) X.A (eval (.Name x pos) X.env) Q E s :=
 Calls.Name_function_global I.ok.kind hg (Calls.loadGlobal_global (by rw[I.ok.glob];exact I.mod.glob.keeps I.bk) hm h) hd
theorem zw{E:Value→Shared→Prop}{pins:List (Addr × Obj)}{s:Shared}{σ:St}{H:Hp}{x:Str}{u:Value}{pos:Pos}{Q:Value→Shared→Prop}(I:Inv X pins σ H s)(hg:Gl X x)(hm:X.mg x=none)(hv:bootBuiltins x=some u)(h:Q u s)
  (hn:x≠"__name__":=by decide) (hd:(x == ("__debug__":Str))=false:=by decide):wpAny (model X.prog X.w) X.A (eval (.Name x pos) X.env) Q E s:=by
 obtain⟨mb,h1,h2⟩:=I.mod.blt
 exact Calls.Name_function_global I.ok.kind hg (Calls.loadGlobal_builtin (by rw[I.ok.glob];exact I.mod.glob.keeps I.bk) hm (by rw[I.ok.blt];exact h1.keeps I.bk) ((h2 x hn).trans hv) h) hd
theorem HD{x:Str}{v:V}{u:Value}{pos:Pos}(hg:Gl X x)(hm:X.mg x=some u)(r:RelV v u)(hd:(x == ("__debug__":Str))=false:=by decide):PE X (.Name x pos) (tC v) :=
 fun _ _ _ H _ I h=>vG I hg hm ⟨v,H,I,r,h⟩ hd
theorem Mu{x:Str}{v:V}{u:Value}{pos:Pos}(hg:Gl X x)(hm:X.mg x=none)(hv:bootBuiltins x=some u)(r:RelV v u)(hn:x≠"__name__":=by decide)(hd:(x == ("__debug__":Str))=false:=by decide):PE X (.Name x pos) (tC v) :=
 fun _ _ _ H _ I h=>zw I hg hm hv ⟨v,H,I,r,h⟩ hn hd
variable {a b:Expr} {ta tb:TE} {pos:Pos}
def PC(X:Cx)(op:CmpOp)(a b:Expr)(t:TE):Prop :=
 ∀ (pins:List (Addr × Obj)) (s:Shared) (σ:St) (H:Hp) (Q:VK),Inv X pins σ H s→t σ H Q →
  wpAny (model X.prog X.w) X.A (eval a X.env) (fun v s₁=>wpAny (model X.prog X.w) X.A (eval b X.env) (fun u s₂=>wpAny (model X.prog X.w) X.A (compareOp op v u) (EP X pins σ Q) X.xe s₂) X.xe s₁) X.xe s
theorem Ej(b:Expr){op:CmpOp}(h:op≠.In)(h2:op≠.NotIn):behindInMarks op b=false:=by
 have e1:(op == CmpOp.In)=false:=by cases op <;> first|rfl|exact absurd rfl h
 have e2:(op == CmpOp.NotIn)=false:=by cases op <;> first|rfl|exact absurd rfl h2
 cases b <;> simp[behindInMarks,e1,e2]
def UU(ta:TE):TE:=fun σ H Q=>ta σ H fun x H1=>Q (.bl (decide (x=.jc))) H1
def Rm(ta:TE):TE:=fun σ H Q=>ta σ H fun x H1=>Q (.bl (!decide (x=.jc))) H1
theorem RelV.Ek{x:V}{v:Value}(r:RelV x v):(v == Value.none)=decide (x=.jc):=by
 cases x with
 | jc=>cases r;rfl
 | bl _=>cases r;rfl
 | int _=>obtain⟨t,rfl⟩:=r;rfl
 | str _=>obtain⟨t,rfl⟩:=r;rfl
 | Ge _=>obtain⟨t,rfl⟩:=r;rfl
 | NS _=>obtain⟨t,rfl⟩:=r;rfl
 | ref _=>cases r;rfl
 | ty _=>cases r;rfl
theorem Kl{j pos'}(ha:PE X a ta):PC X .Is a (.Constant .none j pos') (UU ta):=by
 intro pins s σ H Q I h
 refine cE (ha pins s σ H _ I h) fun v s1 ⟨x,H1,I1,r1,q1⟩=>?_
 exact Constant_none (is_none_gen ⟨.bl _,H1,I1,by rw[r1.Ek];rfl,q1⟩)
theorem Mv{j pos'}(ha:PE X a ta):PC X .IsNot a (.Constant .none j pos') (Rm ta):=by
 intro pins s σ H Q I h
 refine cE (ha pins s σ H _ I h) fun v s1 ⟨x,H1,I1,r1,q1⟩=>?_
 exact Constant_none (isnot_none_gen ⟨.bl _,H1,I1,by rw[r1.Ek];rfl,q1⟩)
def tB(t:TE):TT:=fun σ H Q=>t σ H fun x H1=>Rl x H1 Q
theorem OW{op:CmpOp}{t:TE}(h:PC X op a b t)(h1:behindInMarks op b=false:=by first|exact Ej _ (by decide) (by decide)|rfl):PE X (.Compare a [op] [b] pos) t:=fun pins s σ H Q I hw=>wpAny_Compare1 (h pins s σ H Q I hw) h1
theorem CU{op:CmpOp}{t:TE}(h:PC X op a b t)(h1:behindInMarks op b=false:=by first|exact Ej _ (by decide) (by decide)|rfl):PT X (.Compare a [op] [b] pos) (tB t):=by
 intro pins s σ H Q I hw
 refine wpAny_isTrue_Compare1 (cE (h pins s σ H _ I hw) fun v s1 h1=>cE h1 fun u s2 h2=>cE h2 fun c s3 ⟨x,H1,I1,r1,q1⟩=>?_) h1
 obtain⟨d,rfl,q⟩:=q1
 cases r1
 exact wpAny_truthy_bool ⟨H1,I1,q⟩
theorem kP{e:Expr}{t:TE}(h:PE X e t)(he:∀ whole,isTrue e X.env whole=(do let v ← whole;standAt e.pos;holding [v] (truthy v)):=by intro _;rfl):PT X e (tB t):=by
 intro pins s σ H Q I hw
 refine isTrue_plain (cE (h pins s σ H _ I hw) fun v s1 ⟨x,H1,I1,r1,q1⟩=>?_) (he _)
 obtain⟨d,rfl,q⟩:=q1
 cases r1
 exact wpAny_truthy_bool ⟨H1,I1,q⟩
variable {tA T8:TT} {rest:List Expr}
def UW(t u:TT):TT:=fun σ H Q=>t σ H fun c H1=>if c=true then u σ H1 Q else Q false H1
def tOr(t u:TT):TT:=fun σ H Q=>t σ H fun c H1=>if c=true then Q true H1 else u σ H1 Q
def UX(t:TT):TT:=fun σ H Q=>t σ H fun c H1=>Q (!c) H1
theorem yT(ha:PT X a tA):PW X (.BoolOp .And [a] pos) tA:=by
 intro wh pins s σ H Q I h
 refine isTrue_and (cE (ha pins s σ H Q I h) fun c s1 e=>?_)
 cases c with
 | true=>exact isTrue_and_nil e
 | false=>exact e
theorem zx(ha:PT X a tA):PW X (.BoolOp .Or [a] pos) tA:=by
 intro wh pins s σ H Q I h
 refine isTrue_or (cE (ha pins s σ H Q I h) fun c s1 e=>?_)
 cases c with
 | false=>exact isTrue_or_nil e
 | true=>exact e
theorem zy(ha:PT X a tA)(hb:PW X (.BoolOp .And (b::rest) pos) T8):PW X (.BoolOp .And (a::b::rest) pos) (UW tA T8):=by
 intro wh pins s σ H Q I h
 refine isTrue_and (cE (ha pins s σ H _ I h) fun c s1 ⟨H1,I1,q1⟩=>?_)
 cases c with
 | true=>exact hb wh pins s1 σ H1 Q I1 q1
 | false=>exact⟨H1,I1,q1⟩
theorem El(ha:PT X a tA)(hb:PW X (.BoolOp .Or (b::rest) pos) T8):PW X (.BoolOp .Or (a::b::rest) pos) (tOr tA T8):=by
 intro wh pins s σ H Q I h
 refine isTrue_or (cE (ha pins s σ H _ I h) fun c s1 ⟨H1,I1,q1⟩=>?_)
 cases c with
 | true=>exact⟨H1,I1,q1⟩
 | false=>exact hb wh pins s1 σ H1 Q I1 q1
theorem j7(ha:PT X a tA):PT X (.UnaryOp .Not a pos) (UX tA):=by
 intro pins s σ H Q I h
 exact isTrue_not (ha pins s σ H (fun c H1=>Q (!c) H1) I h)
def Rn(ta tb:TE):TE:=fun σ H Q=>ta σ H fun x H1=>Rl x H1 fun c H1=>if c=true then tb σ H1 Q else Q (.bl false) H1
def Ro(ta:TE):TE:=fun σ H Q=>ta σ H fun x H1=>Rl x H1 fun c H1=>Q (.bl (!c)) H1
theorem wO{op}{t:TE}(h:PE X a t):PE X (.BoolOp op [a] pos) t:=fun pins s σ H Q I hw=>BoolOp_one (h pins s σ H Q I hw)
theorem uM(ha:PE X a ta)(hb:PE X (.BoolOp .And (b::rest) pos) tb):PE X (.BoolOp .And (a::b::rest) pos) (Rn ta tb):=by
 intro pins s σ H Q I h
 refine BoolOp_and (cE (ha pins s σ H _ I h) fun v s1 ⟨x,H1,I1,r1,q1⟩=>?_)
 obtain⟨c,rfl,q1⟩:=q1
 cases r1
 refine wpAny_truthy_bool ?_
 cases c with
 | true=>exact hb pins s1 σ H1 Q I1 q1
 | false=>exact⟨.bl false,H1,I1,rfl,q1⟩
theorem OX(ha:PE X a ta):PE X (.UnaryOp .Not a pos) (Ro ta):=by
 intro pins s σ H Q I h
 refine UnaryOp_ (cE (ha pins s σ H _ I h) fun v s1 ⟨x,H1,I1,r1,q1⟩=>?_)
 obtain⟨c,rfl,q1⟩:=q1
 cases r1
 exact not_of (wpAny_truthy_bool ⟨.bl (!c),H1,I1,rfl,q1⟩)
def tIf(t:TT)(ta tb:TE):TE:=fun σ H Q=>t σ H fun c H1=>if c=true then ta σ H1 Q else tb σ H1 Q
theorem Km{c:Expr}(hc:PT X c tA)(ha:PE X a ta)(hb:PE X b tb):PE X (.IfExp c a b pos) (tIf tA ta tb):=by
 intro pins s σ H Q I h
 refine wpAny_IfExp (cE (hc pins s σ H _ I h) fun d s1 ⟨H1,I1,q1⟩=>?_)
 cases d with
 | true=>exact ha pins s1 σ H1 Q I1 q1
 | false=>exact hb pins s1 σ H1 Q I1 q1
end
end L2
namespace L2
open PySem PySem.Spec PyProof.Rows
def b8(K:PySem.W.Frag)(H:Hp)(a:Addr)(xs:List V):Prop :=
 Rd H a (.lst xs) ∨
  ∃ (o:Obj) (its:Array Value) (n:Nat),K.lookup a=some o∧o.cls=.type "list"∧o.dict=none∧o.data=.seq its n∧its.size≤sizeLine∧Vals xs its.toList
def jL(K:PySem.W.Frag)(H:Hp)(a:Addr)(xs:List V):Prop :=
 Rd H a (.tup xs) ∨
  ∃ (o:Obj) (its:Array Value) (n:Nat),K.lookup a=some o∧o.cls=.type "tuple"∧o.data=.seq its n∧its.size≤sizeLine∧Vals xs its.toList
def UY:Value→Option V
 | .none=>some .jc
 | .bool b=>some (.bl b)
 | .int i _=>some (.int i)
 | .str x _=>some (.str x)
 | .bytes b _=>some (.Ge b)
 | .float b _=>some (.NS b)
 | .ref a=>some (.ref a)
 | .type n=>some (.ty n)
 | _=>none
theorem RelV.abs{x:V}{u:Value}(r:RelV x u):UY u=some x:=by
 cases x with
 | jc=>cases r;rfl
 | bl _=>cases r;rfl
 | int _=>obtain⟨t,rfl⟩:=r;rfl
 | str _=>obtain⟨t,rfl⟩:=r;rfl
 | Ge _=>obtain⟨t,rfl⟩:=r;rfl
 | NS _=>obtain⟨t,rfl⟩:=r;rfl
 | ref _=>cases r;rfl
 | ty _=>cases r;rfl
theorem RelV.inj{x y:V}{u:Value}(r:RelV x u)(q:RelV y u):x=y:=rN (r.abs.symm.trans q.abs)
theorem Vals.inj:∀ {xs ys:List V} {us:List Value},Vals xs us→Vals ys us→xs=ys
 | _,_,_,.nil,.nil=>rfl
 | _,_,_,.cons r t,.cons r' t'=>by rw[r.inj r',Vals.inj t t']
section
variable {X:Cx} {pins:List (Addr × Obj)} {σ:St} {H:Hp} {s:Shared} {a:Addr} {xs ys:List V}
theorem b8.of{K:PySem.W.Frag}(h:H a=some (.lst xs)):b8 K H a xs:=.inl (.inl h)
theorem jL.of{K:PySem.W.Frag}(h:H a=some (.tup xs)):jL K H a xs:=.inl (.inl h)
theorem Inv.list(I:Inv X pins σ H s)(h:b8 X.K H a xs):∃ its:List Value,Vals xs its∧PlainL s.heap a its.toArray∧xs.length≤sizeLine:=by
 rcases h with h|⟨o,its,n,hk,hc,hd,hs,hz,r⟩
 ·obtain⟨z,its,n,r,e⟩:=h.ok I.hok
  exact⟨its,r,⟨_,n,e,rfl,rfl,rfl⟩,z⟩
 ·refine⟨its.toList,r,⟨o,n,I.vE a o hk,hc,hd,by simpa using hs⟩,?_⟩
  have e:=r.length
  simp only[Array.length_toList]at e
  omega
theorem Inv.tuple(I:Inv X pins σ H s)(h:jL X.K H a xs):∃ its:List Value,Vals xs its∧IsTup s.heap a its.toArray∧xs.length≤sizeLine:=by
 rcases h with h|⟨o,its,n,hk,hc,hs,hz,r⟩
 ·obtain⟨z,its,r,p⟩:=h.ok I.hok
  exact⟨its,r,p,z⟩
 ·refine⟨its.toList,r,⟨o,I.vE a o hk,hc,n,by simpa using hs⟩,?_⟩
  have e:=r.length
  simp only[Array.length_toList]at e
  omega
theorem Inv.Em(I:Inv X pins σ H s)(h:b8 X.K H a xs)(h':b8 X.K H a ys):xs=ys:=by
 obtain⟨its,r,⟨o,n,e,_,_,d⟩,_⟩:=I.list h
 obtain⟨its',r',⟨o',n',e',_,_,d'⟩,_⟩:=I.list h'
 rw[e]at e';cases e'
 rw[d]at d'
 injection d' with d1 _
 have:its=its':=by simpa using congrArg Array.toList d1
 subst this
 exact r.inj r'
theorem Inv.BE(I:Inv X pins σ H s)(h:jL X.K H a xs)(h':jL X.K H a ys):xs=ys:=by
 obtain⟨its,r,⟨o,e,_,n,d⟩,_⟩:=I.tuple h
 obtain⟨its',r',⟨o',e',_,n',d'⟩,_⟩:=I.tuple h'
 rw[e]at e';cases e'
 rw[d]at d'
 injection d' with d1 _
 have:its=its':=by simpa using congrArg Array.toList d1
 subst this
 exact r.inj r'
end
abbrev Cx.wQ(X:Cx)(E:Value→Shared→Prop):Cx:={ X with xe:=E }
abbrev Cx.En(X:Cx):Cx:=X.wQ fun _ _=>False
theorem Cx.Ok.wQ{X:Cx}(ok:X.Ok)(E:Value→Shared→Prop):(X.wQ E).Ok :=
 ⟨ok.mod,ok.kind,ok.glob,ok.blt,ok.above,ok.inj,ok.has,ok.OT,ok.hd,ok.frames,ok.stk,ok.T5,ok.bs,ok.Kh,ok.Eh,ok.IW,ok.t9,ok.Ms⟩
theorem Cx.Ok.m5{X:Cx}{E:Value→Shared→Prop}(ok:(X.wQ E).Ok):X.Ok :=
 ⟨ok.mod,ok.kind,ok.glob,ok.blt,ok.above,ok.inj,ok.has,ok.OT,ok.hd,ok.frames,ok.stk,ok.T5,ok.bs,ok.Kh,ok.Eh,ok.IW,ok.t9,ok.Ms⟩
section
variable {X:Cx} {pins:List (Addr × Obj)} {σ:St} {H:Hp} {s:Shared} {E:Value→Shared→Prop}
theorem Inv.wQ(I:Inv X pins σ H s)(E:Value→Shared→Prop):Inv (X.wQ E) pins σ H s:=⟨I.ok.wQ E,I.os,I.bare,I.base,I.loc,I.cell,I.free,I.pA,I.pin,I.hok,I.len⟩
theorem Inv.m5(I:Inv (X.wQ E) pins σ H s):Inv X pins σ H s:=⟨I.ok.m5,I.os,I.bare,I.base,I.loc,I.cell,I.free,I.pA,I.pin,I.hok,I.len⟩
theorem SP.m5{D:Ends}{f:Flow}{s':Shared}(h:SP (X.wQ E) pins D f s'):SP X pins D f s':=by
 cases f with
 | next=>obtain⟨σ',H',I,q⟩:=h;exact⟨σ',H',I.m5,q⟩
 | brk=>obtain⟨σ',H',I,q⟩:=h;exact⟨σ',H',I.m5,q⟩
 | cont=>obtain⟨σ',H',I,q⟩:=h;exact⟨σ',H',I.m5,q⟩
 | ret u=>obtain⟨v,σ',H',I,r,q⟩:=h;exact⟨v,σ',H',I.m5,r,q⟩
theorem FZ.En{st:List Stmt}{t:TS}(h:FZ X.En st t):FZ X st t:=fun pins s σ H D I hw =>
 wpAny_mono (h pins s σ H D (I.wQ _) hw) (fun _ _ q=>q.m5) fun _ _ z=>False.elim z
end
section
variable {X:Cx} {st:Stmt} {rest:List Stmt} {t u:TS} {e:Expr} {te:TE} {pos:Pos}
def Rp:TS:=fun D σ H=>D.nx σ H
def UZ(t u:TS):TS:=fun D σ H=>t { D with nx:=u D } σ H
theorem bF:FZ X [] Rp:=fun _ _ σ H _ I h=>wpAny_execs_nil ⟨σ,H,I,h⟩
theorem ao(h1:PS X st t)(h2:FZ X rest u):FZ X (st::rest) (UZ t u):=by
 intro pins s σ H D I h
 refine wpAny_execs_cons (cE (h1 pins s σ H { D with nx:=u D } I h) fun f s1 q=>?_)
 cases f with
 | next =>
  obtain⟨σ',H',I',q⟩:=q
  exact h2 pins s1 σ' H' D I' q
 | ret v=>exact q
 | brk=>exact q
 | cont=>exact q
theorem au(h1:PS X st t):FZ X [st] t:=by
 intro pins s σ H D I h
 refine wpAny_execs_cons (cE (h1 pins s σ H D I h) fun f s1 q=>?_)
 cases f with
 | next=>exact wpAny_execs_nil q
 | ret v=>exact q
 | brk=>exact q
 | cont=>exact q
def Rq:TS:=fun D σ H=>D.ct σ H
theorem Eo:PS X (.Continue pos) Rq:=fun _ _ σ H _ I h=>wpAny_Continue ⟨σ,H,I,h⟩
theorem Inv.quiet{pins:List (Addr × Obj)}{σ:St}{H:Hp}{s:Shared}(I:Inv X pins σ H s):interactive X.env=false:=by simp[interactive,I.ok.kind]
def Rr(te:TE):TS:=fun D σ H=>te σ H fun _ H1=>D.nx σ H1
theorem bq(he:PE X e te)(hs:swapsWith e none pos.line X.env=pure false:=by rfl):PS X (.Expr e pos) (Rr te):=by
 intro pins s σ H D I h
 exact wpAny_Expr_any (cE (he pins s σ H _ I h) fun v s1 ⟨x,H1,I1,r1,q1⟩=>⟨σ,H1,I1,q1⟩) I.quiet hs
def U0(te:TE):TS:=fun D σ H=>te σ H D.rt
theorem aP(he:PE X e te):PS X (.Return (some e) pos) (U0 te):=by
 intro pins s σ H D I h
 exact wpAny_Return_some (cE (he pins s σ H _ I h) fun v s1 ⟨x,H1,I1,r1,q1⟩=>⟨x,σ,H1,I1,r1,q1⟩)
def U1(c:TT)(t u:TS):TS:=fun D σ H=>c σ H fun b H1=>if b=true then t D σ H1 else u D σ H1
theorem cC{c:Expr}{a b:List Stmt}{tc:TT}(hc:PT X c tc)(ha:FZ X a t)(hb:FZ X b u):PS X (.If c a b pos) (U1 tc t u):=by
 intro pins s σ H D I h
 refine wpAny_If (cE (hc pins s σ H _ I h) fun d s1 ⟨H1,I1,q1⟩=>?_)
 cases d with
 | true=>exact ha pins s1 σ H1 D I1 q1
 | false=>exact hb pins s1 σ H1 D I1 q1
def OY:TS:=fun _ _ _=>False
theorem Ep:PS X st OY:=fun _ _ _ _ _ _ h=>h.elim
end
abbrev TG:=V→St→Hp→(St→Hp→Prop)→Prop
abbrev NV:=List V→St→Hp→(St→Hp→Prop)→Prop
def PG(X:Cx)(target:Expr)(t:TG):Prop :=
 ∀ (pins:List (Addr × Obj)) (s:Shared) (σ:St) (H:Hp) (v:V) (u:Value) (Q:St→Hp→Prop),Inv X pins σ H s→RelV v u→t v σ H Q →
  wpAny (model X.prog X.w) X.A (assign target X.env u) (fun _ s'=>∃ σ' H',Inv X pins σ' H' s'∧Q σ' H') X.xe s
def QN(X:Cx)(ts:List Expr)(t:NV):Prop :=
 ∀ (pins:List (Addr × Obj)) (s:Shared) (σ:St) (H:Hp) (vs:List V) (us:List Value) (Q:St→Hp→Prop),Inv X pins σ H s→Vals vs us→t vs σ H Q →
  wpAny (model X.prog X.w) X.A (assignInOrder ((assignEach ts X.env).map (·.2)) us) (fun _ s'=>∃ σ' H',Inv X pins σ' H' s'∧Q σ' H') X.xe s
abbrev OZ:=V→V→V→Hp→(Hp→Prop)→Prop
def Rt(X:Cx)(t:OZ):Prop :=
 ∀ (pins:List (Addr × Obj)) (s:Shared) (σ:St) (H:Hp) (o i v:V) (ov iv u:Value) (Q:Hp→Prop),Inv X pins σ H s→RelV o ov→RelV i iv→RelV v u→t o i v H Q →
  wpAny (model X.prog X.w) X.A (setItem ov iv u) (fun _ s'=>∃ H',Inv X pins σ H' s'∧Q H') X.xe s
abbrev T9:=V→V→Hp→VK→Prop
def U6(X:Cx)(op:Operator)(t:T9):Prop :=
 ∀ (pins:List (Addr × Obj)) (s:Shared) (σ:St) (H:Hp) (x y:V) (v u:Value) (Q:VK),Inv X pins σ H s→RelV x v→RelV y u→t x y H Q →
  wpAny (model X.prog X.w) X.A (inplaceOp op v u) (EP X pins σ Q) X.xe s
section
variable {X:Cx} {pos:Pos}
def vH(i:Nat):TG:=fun v σ H Q=>Q (σ.set i (some v)) H
theorem br{i:Nat}{x:Str}(hN:X.N.Nodup)(hi:X.N[i]?=some x)(hx:Loc X.env.scope x)(hf:X.fn x=true∨X.env.scope.names.lookup x=some .local:=by first|exact .inl rfl|exact .inr rfl|assumption):PG X (.Name x pos) (vH i):=by
 intro pins s σ H v u Q I r h
 exact wpAny_assign_Name (vF I hN hi hx r (fun s' I'=>⟨_,H,I',h⟩) hf)
def Va:NV:=fun vs σ H Q=>vs=[]∧Q σ H
inductive NW(t:TG)(u:NV)(vs:List V)(σ:St)(H:Hp)(Q:St→Hp→Prop):Prop
 | mk (v:V) (r:List V) (_:vs=v::r) (_:t v σ H fun σ' H'=>u r σ' H' Q):NW t u vs σ H Q
theorem jX:QN X [] Va:=by
 intro pins s σ H vs us Q I r h
 obtain⟨e,h⟩:=h
 subst e
 cases r
 exact assignInOrder_nil ⟨σ,H,I,h⟩
theorem bR{e:Expr}{es:List Expr}{t:TG}{u:NV}(h1:PG X e t)(h2:QN X es u)
  (hs:(assignEach (e::es) X.env).map (·.2)=assign e X.env::(assignEach es X.env).map (·.2):=by rfl):QN X (e::es) (NW t u):=by
 intro pins s σ H vs us Q I r h
 obtain⟨v,vr,e1,h⟩:=h
 subst e1
 cases r with
 | cons r rr =>
  rw[hs]
  refine assignInOrder_cons (cE (h1 pins s σ H _ _ _ I r h) fun _ s1 ⟨σ1,H1,I1,q1⟩=>?_)
  exact h2 pins s1 σ1 H1 _ _ Q I1 rr q1
inductive Mw(K:PySem.W.Frag)(n:Nat)(t:NV)(v:V)(σ:St)(H:Hp)(Q:St→Hp→Prop):Prop
 | mk (a:Addr) (xs:List V) (_:v=.ref a) (_:jL K H a xs) (_:xs.length=n) (_:t xs σ H Q):Mw K n t v σ H Q
theorem pQ{es:List Expr}{k:Nat}{t:NV}{n:Nat}(hc:X.calm=true)(h:QN X es t)
  (hn:(assignEach es X.env).length=n:=by rfl) (hst:(assignEach es X.env).findIdx? (·.1)=none:=by rfl):PG X (.Tuple es k pos) (Mw X.K n t):=by
 intro pins s σ H v u Q I r hw
 obtain⟨a,xs,e1,hq,hl,hw⟩:=hw
 subst e1
 cases r
 obtain⟨its,rv,ht,hz⟩:=I.tuple hq
 refine assign_Tuple_tuple (I.ok.hd hc) ht (by simp[hn,← hl,rv.length]) hst fun h' hx=>?_
 have I1:Inv X pins σ H { s with heap:=h' }:=I.kept (t':=s.toks) fun b o e=>hx b o (kO (Heap.lt_size e)) e
 exact h pins _ σ H xs _ Q I1 (by simpa using rv) hw
def Vb(to ti:TE)(t:OZ):TG:=fun v σ H Q=>to σ H fun o H1=>ti σ H1 fun i H2=>t o i v H2 fun H3=>Q σ H3
theorem wR{o i:Expr}{to ti:TE}{t:OZ}(ho:PE X o to)(hi:PE X i ti)(hs:Rt X t)
  (ha:∀ v,assign (.Subscript o i pos) X.env v=(do
   let ov ← holding [v] (eval o X.env)
   let iv ← holding [v,ov] (eval i X.env)
   standAt pos
   holding [v,ov,iv] (setItem ov iv v)
   release [v,ov,iv] []):=by intro _;rfl):PG X (.Subscript o i pos) (Vb to ti t):=by
 intro pins s σ H v u Q I r h
 rw[ha]
 refine wpAny_bind (wpAny_holding (cE (ho pins s σ H _ I h) fun ov s1 ⟨x,H1,I1,r1,q1⟩=>?_))
 refine wpAny_bind (wpAny_holding (cE (hi pins s1 σ H1 _ I1 q1) fun iv s2 ⟨y,H2,I2,r2,q2⟩=>?_))
 refine wpAny_bind (wpAny_standAt (wpAny_bind (wpAny_holding (cE (hs pins s2 σ H2 x y v ov iv u _ I2 r1 r2 r q2) fun _ s3 ⟨H3,I3,q3⟩=>?_))))
 exact wpAny_release ⟨σ,H3,I3,q3⟩
def Mx(te:TE)(g:TG):TS:=fun D σ H=>te σ H fun x H1=>g x σ H1 D.nx
theorem rX{tg e:Expr}{te:TE}{g:TG}(he:PE X e te)(hg:PG X tg g)(hs:swapsWithSole [tg] e pos.line X.env=pure false:=by rfl)(hw:swappedStores [tg] e X.env=pure none:=by rfl)
  (h1:(assignEach [tg] X.env).map (·.2)=[assign tg X.env]:=by rfl):PS X (.Assign [tg] e pos) (Mx te g):=by
 intro pins s σ H D I h
 refine wpAny_Assign_stores (cE (he pins s σ H _ I h) fun v s1 ⟨x,H1,I1,r1,q1⟩=>?_) hs hw
 rw[h1]
 exact cE (hg pins s1 σ H1 x v _ I1 r1 q1) fun _ s2 q=>q
theorem aY{i:Nat}{x:Str}{e:Expr}{te:TE}{pos':Pos}(hN:X.N.Nodup)(hi:X.N[i]?=some x)(hx:Loc X.env.scope x)(he:PE X e te)(hs:swapsWith e (some (.Name x pos')) pos.line X.env=pure false:=by rfl)(hf:X.fn x=true∨X.env.scope.names.lookup x=some .local:=by first|exact .inl rfl|exact .inr rfl|assumption) :
  PS X (.Assign [.Name x pos'] e pos) (Mx te (vH i)):=by
 intro pins s σ H D I h
 refine wpAny_Assign_Name (cE (he pins s σ H _ I h) fun v s1 ⟨y,H1,I1,r1,q1⟩=>?_) hs
 exact vF I1 hN hi hx r1 (fun s2 I2=>⟨_,H1,I2,q1⟩) hf
def Vc(i:Nat)(te:TE)(ti:T9):TS:=fun D σ H=>∃ x,σ[i]?=some (some x)∧te σ H fun y H1=>ti x y H1 fun z H2=>D.nx (σ.set i (some z)) H2
theorem wU{i:Nat}{x:Str}{e:Expr}{te:TE}{op:Operator}{ti:T9}{pos':Pos}(hN:X.N.Nodup)(hi:X.N[i]?=some x)(hx:Loc X.env.scope x)(he:PE X e te)(ho:U6 X op ti)(hf:X.fn x=true∨X.env.scope.names.lookup x=some .local:=by first|exact .inl rfl|exact .inr rfl|assumption) :
  PS X (.AugAssign (.Name x pos') op e pos) (Vc i te ti):=by
 intro pins s σ H D I h
 obtain⟨v,e1,h⟩:=h
 obtain⟨m,hn,hl⟩:=I.loc
 have vis:T4 X.env.scope x:=by rcases hx with k|k;exact .inl k;exact .inr (.inl k)
 obtain⟨u,r,l⟩:=hl i x v hi e1 vis
 refine wpAny_AugAssign_Name ?_
 have go:wpAny (model X.prog X.w) X.A (eval e X.env) (fun w s₂=>wpAny (model X.prog X.w) X.A (inplaceOp op u w) (fun r s₃=>wpAny (model X.prog X.w) X.A (storeName X.env x r) (fun _=>SP X pins D .next) X.xe s₃) X.xe s₂) X.xe s:=by
  refine cE (he pins s σ H _ I h) fun w s1 ⟨y,H1,I1,r1,q1⟩=>?_
  refine cE (ho pins s1 σ H1 v y u w _ I1 r r1 q1) fun z s2 ⟨zv,H2,I2,r2,q2⟩=>?_
  exact vF I2 hN hi hx r2 (fun s3 I3=>⟨_,H2,I3,q2⟩) hf
 rcases l with ⟨hk,hm⟩|⟨hk,c,hc,hcell⟩
 ·exact wpAny_loadName_local I.ok.kind hk hn hm go
 ·rcases hk with hk|hk
  ·exact wpAny_loadName_cell I.ok.kind hk hc hcell go
  ·rcases hx with k|k
   ·have:X.env.scope.names.lookup x=some .free:=hk
    rw[k]at this;cases this
   ·have:X.env.scope.names.lookup x=some .free:=hk
    rw[k]at this;cases this
def ipI(f:Int→Int→Int):T9:=fun x y H Q=>∃ i j,x=.int i∧y=.int j∧Q (.int (f i j)) H
theorem O0:U6 X .Add (ipI fun i j=>i+j):=by
 intro pins s σ H x y v u Q I r1 r2 h
 obtain⟨i,j,e1,e2,q⟩:=h
 subst e1;subst e2
 obtain⟨t,rfl⟩:=r1
 obtain⟨t',rfl⟩:=r2
 exact iadd_int ⟨.int _,H,I.tok _,⟨_,rfl⟩,q⟩
end
section
variable {X:Cx} {pos:Pos}
def O1(c:TT)(tb:TS):TS:=fun D σ H=>∃ W:Nat→St→Hp→Prop,(∃ m,W m σ H)∧∀ m σ H,W m σ H →
 c σ H fun b H1=>if b=true then ∃ N:St→Hp→Prop,(∀ σ' H',N σ' H'→∃ m',m'<m∧W m' σ' H')∧tb { D with nx:=N,ct:=N,bk:=D.nx } σ H1 else D.nx σ H1
theorem Er{c:Expr}{body:List Stmt}{tc:TT}{tb:TS}(hp:PassesOwn (model X.prog X.w) X.A X.env X.xe)(hc:PT X c tc)(hb:FZ X body tb):PS X (.While c body [] pos) (O1 tc tb):=by
 intro pins s σ H D I h
 obtain⟨W,⟨m0,w0⟩,turn⟩:=h
 refine wpAny_While (codeAny_whileLoop (fun n s'=>∃ σ' H',Inv X pins σ' H' s'∧W n σ' H') ?_ m0 ⟨σ,H,I,w0⟩)
 rintro n s1 ⟨σ1,H1,I1,w1⟩
 refine wpAny_passesOwn hp (cE (hc pins s1 σ1 H1 _ I1 (turn n σ1 H1 w1)) fun b s2 ⟨H2,I2,q2⟩=>?_)
 cases b with
 | true =>
  obtain⟨N,hN,q2⟩:=q2
  rw[if_pos rfl]
  refine wpAny_passesOwn hp (cE (hb pins s2 σ1 H2 _ I2 q2) fun f s3 q3=>?_)
  cases f with
  | next =>
   obtain⟨σ3,H3,I3,n3⟩:=q3
   obtain⟨m',hm,w3⟩:=hN σ3 H3 n3
   exact⟨m',hm,σ3,H3,I3,w3⟩
  | cont =>
   obtain⟨σ3,H3,I3,n3⟩:=q3
   obtain⟨m',hm,w3⟩:=hN σ3 H3 n3
   exact⟨m',hm,σ3,H3,I3,w3⟩
  | brk=>exact q3
  | ret v=>exact q3
 | false =>
  rw[if_neg uo]
  exact wpAny_execs_nil ⟨σ1,H2,I2,q2⟩
end
structure It where
 go:Nat→Hp→Prop
 Kn:Nat→Hp→V→Hp→Prop
 stop:Nat→Hp→Prop
def pR(X:Cx)(pins:List (Addr × Obj))(H:Hp)(b:Addr):Prop :=
 H b=none∧b≠X.env.locals∧b∉X.fs∧(b∈X.ex∨X.s₀.heap.objs.size≤b)∧(∀ x c,X.env.cells.lookup x=some c→c≠b)∧∀ p∈X.pn++pins,p.1≠b
theorem Inv.My{X:Cx}{pins:List (Addr × Obj)}{σ:St}{H H':Hp}{s:Shared}{b:Addr}(I:Inv X pins σ H s)(hb:s.heap.objs.size≤b)(hn:H' b=none):pR X pins H' b:=by
 refine⟨hn,Nat.ne_of_gt (qE I.lt hb),I.UR hb,.inr (lO I.sz hb),fun x c e z=>?_,fun p hp z=>?_⟩
 ·obtain⟨v,q⟩:=I.cell x c e
  exact absurd (qE q.lt (by rw[z];exact hb)) (Nat.lt_irrefl _)
 ·exact absurd (qE (Heap.lt_size (I.pin p hp).1) (by rw[z];exact hb)) (Nat.lt_irrefl _)
structure Turn(P:Program)(w:World)(K:PySem.W.Frag)(tg:Expr)(J:It)(fp:List Addr)(it:Addr)(tn:Nat→Heap→Prop):Prop where
 mem:it∈fp
 obj:∀ i h,tn i h→∀ b∈fp,∃ o,h.get? b=some o∧∀ v,o.data≠.cell v
 keep:∀ i h h',tn i h→(∀ b∈fp,∀ o,h.get? b=some o→h'.get? b=some o)→tn i h'
 item:∀ (X:Cx),X.prog=P→X.w=w→X.K=K→X.calm=true→∀ (i:Nat) (pins:List (Addr × Obj)) (s:Shared) (σ:St) (H:Hp) (E:Value→Shared→Prop),Inv X pins σ H s→(∀ b∈fp,pR X pins H b)→tn i s.heap→J.go i H →
  wpAny (model P w) X.A (pyNext (.ref it)) (fun r s1=>∃ u,r=some u ∧
   wpAny (model P w) X.A (letOwnedTupleGo tg (.ref it) u) (fun _ s2=>∃ x H',Inv X pins σ H' s2∧RelV x u∧J.Kn i H x H'∧tn (i+1) s2.heap∧∀ b∈fp,H' b=none) E s1) E s
 done:∀ (X:Cx),X.prog=P→X.w=w→X.K=K→X.calm=true→∀ (i:Nat) (pins:List (Addr × Obj)) (s:Shared) (σ:St) (H:Hp) (E:Value→Shared→Prop),Inv X pins σ H s→(∀ b∈fp,pR X pins H b)→tn i s.heap→J.stop i H →
  wpAny (model P w) X.A (pyNext (.ref it)) (fun r s1=>r=none∧Inv X pins σ H s1) E s
 self:∀ (A:Around) (i:Nat) (s:Shared) (Q:Value→Shared→Prop) (E:Value→Shared→Prop),tn i s.heap→Q (.ref it) s→wpAny (model P w) A (pyIter (.ref it)) Q E s
abbrev TI:=St→Hp→(It→Hp→Prop)→Prop
def PIE(X:Cx)(pins:List (Addr × Obj))(σ:St)(tg:Expr)(R:It→Hp→Prop)(itv:Value)(s2:Shared):Prop :=
 ∃ (it:Addr) (fp:List Addr) (tn:Nat→Heap→Prop) (J:It) (H':Hp),itv=.ref it∧Inv X pins σ H' s2∧Turn X.prog X.w X.K tg J fp it tn∧tn 0 s2.heap∧(∀ b∈fp,pR X pins H' b)∧R J H'
def PI(X:Cx)(tg iter:Expr)(wi:TI):Prop :=
 ∀ (pins:List (Addr × Obj)) (s:Shared) (σ:St) (H:Hp) (R:It→Hp→Prop),Inv X pins σ H s→wi σ H R →
  wpAny (model X.prog X.w) X.A (eval iter X.env) (fun v s1=>wpAny (model X.prog X.w) X.A (pyIter v) (PIE X pins σ tg R) X.xe s1) X.xe s
theorem Ko{M:Model}{A:Around}{E:Value→Shared→Prop}{s:Shared}{tg:Expr}{it:Addr}{u:Value}{o:Obj}{n:String}{vs:Array Value}{Q:Unit→Shared→Prop}(ho:s.heap.get? it=some o)(hc:o.cls=.type n)(hd:o.data=.fields vs)
  (hn:["enumerate","zip","dict_itemiterator","dict_reverseitemiterator","odict_iterator","itertools.zip_longest","itertools.pairwise"].contains n=false) (hQ:Q () s):wpAny M A (letOwnedTupleGo tg (.ref it) u) Q E s:=by
 unfold letOwnedTupleGo
 cases tg <;> first
  | exact wpAny_pure hQ
  | (cases u <;> first
    | exact wpAny_pure hQ
    | (refine wpAny_bind (wpAny_load ho ?_);rw[hc,hd];show wpAny M A (if (["enumerate","zip","dict_itemiterator","dict_reverseitemiterator","odict_iterator","itertools.zip_longest","itertools.pairwise"].contains n&&vs[0]? == some (rawInt _))=true then _ else _) Q E s;rw[if_neg (by intro h;rw[hn,Bool.false_and]at h;cases h)];exact wpAny_pure hQ))
def Kp(K:PySem.W.Frag)(a:Addr):It :=
 ⟨fun i H=>∃ xs x,b8 K H a xs∧xs[i]?=some x,fun i H x H'=>H'=H∧∀ xs,b8 K H a xs→xs[i]?=some x,fun i H=>∃ xs,b8 K H a xs∧xs.length≤i⟩
def Ru(K:PySem.W.Frag)(a:Addr):It :=
 ⟨fun i H=>∃ xs x,jL K H a xs∧xs[i]?=some x,fun i H x H'=>H'=H∧∀ xs,jL K H a xs→xs[i]?=some x,fun i H=>∃ xs,jL K H a xs∧xs.length≤i⟩
def O2(lo:Int)(n:Nat):It:=⟨fun i _=>i<n,fun i H x H'=>H'=H∧x=.int (lo+i),fun i _=>n≤i⟩
theorem IX{P:Program}{w:World}{K:PySem.W.Frag}{tg:Expr}(a it:Addr):Turn P w K tg (Kp K a) [it] it (fun i h=>h.IsListIter it a i) where
 mem:=by simp
 obj:=fun i h st b hb=>by
  have e:b=it:=by simpa using hb
  subst e
  obtain⟨o,e,c,d⟩:=st
  exact⟨o,e,fun v z=>by rw[d]at z;cases z⟩
 keep:=fun i h h' st k=>st.at fun o e=>k it (by simp) o e
 item:=by
  intro X hP hw hK hc i pins s σ H E I hf st hg
  subst hP hw hK
  obtain⟨xs,x,hq,hx⟩:=hg
  obtain⟨its,rv,p,hz⟩:=I.list hq
  obtain⟨u,hu,ru⟩:=rv.get hx
  obtain⟨f0,f1,f2,f3,f4,f5⟩:=hf it (by simp)
  refine wpAny_pyNext_list_item st p.isList (x:=u) (by simpa using hu) fun h' st' sb=>?_
  have I1:Inv X pins σ H { s with heap:=h' }:=I.turned (t':=s.toks) (fun b o hb e=>(sb.2 b hb).trans e) f0 f1 f3 f4 f5
  obtain⟨o,e,c,d⟩:=id st'
  exact⟨u,rfl,Ko (s:={ s with heap:=h' }) e c d (by decide) ⟨x,H,I1,ru,⟨rfl,fun ys hy=>by rw[I.Em hy hq];exact hx⟩,st',fun b hb=>(hf b hb).1⟩⟩
 done:=by
  intro X hP hw hK hc i pins s σ H E I hf st hg
  subst hP hw hK
  obtain⟨xs,hq,hx⟩:=hg
  obtain⟨its,rv,p,hz⟩:=I.list hq
  obtain⟨f0,f1,f2,f3,f4,f5⟩:=hf it (by simp)
  have hl:=rv.length
  exact wpAny_pyNext_list_end (I.ok.hd hc) st p.isList (by simp;omega) fun h' eb=>⟨rfl,I.turned (t':=s.toks) (fun b o hb e=>eb b o hb e) f0 f1 f3 f4 f5⟩
 self:=fun _ _ _ _ _ st h=>wpAny_pyIter_listiter st h
theorem Gi{P:Program}{w:World}{K:PySem.W.Frag}{tg:Expr}(a it:Addr):Turn P w K tg (Ru K a) [it] it (fun i h=>h.IsTupleIter it a i) where
 mem:=by simp
 obj:=fun i h st b hb=>by
  have e:b=it:=by simpa using hb
  subst e
  obtain⟨o,e,c,d⟩:=st
  exact⟨o,e,fun v z=>by rw[d]at z;cases z⟩
 keep:=fun i h h' st k=>st.at fun o e=>k it (by simp) o e
 item:=by
  intro X hP hw hK hc i pins s σ H E I hf st hg
  subst hP hw hK
  obtain⟨xs,x,hq,hx⟩:=hg
  obtain⟨its,rv,p,hz⟩:=I.tuple hq
  obtain⟨u,hu,ru⟩:=rv.get hx
  obtain⟨f0,f1,f2,f3,f4,f5⟩:=hf it (by simp)
  refine wpAny_pyNext_tuple_item st (show s.heap.IsTuple a its.toArray from p) (x:=u) (by simpa using hu) fun h' st' sb=>?_
  have I1:Inv X pins σ H { s with heap:=h' }:=I.turned (t':=s.toks) (fun b o hb e=>(sb.2 b hb).trans e) f0 f1 f3 f4 f5
  obtain⟨o,e,c,d⟩:=id st'
  exact⟨u,rfl,Ko (s:={ s with heap:=h' }) e c d (by decide) ⟨x,H,I1,ru,⟨rfl,fun ys hy=>by rw[I.BE hy hq];exact hx⟩,st',fun b hb=>(hf b hb).1⟩⟩
 done:=by
  intro X hP hw hK hc i pins s σ H E I hf st hg
  subst hP hw hK
  obtain⟨xs,hq,hx⟩:=hg
  obtain⟨its,rv,p,hz⟩:=I.tuple hq
  obtain⟨f0,f1,f2,f3,f4,f5⟩:=hf it (by simp)
  have hl:=rv.length
  exact wpAny_pyNext_tuple_end (I.ok.hd hc) st (show s.heap.IsTuple a its.toArray from p) (by simp;omega) fun h' eb=>⟨rfl,I.turned (t':=s.toks) (fun b o hb e=>eb b o hb e) f0 f1 f3 f4 f5⟩
 self:=fun _ _ _ _ _ st h=>wpAny_pyIter_tupleiter st h
theorem Gj{P:Program}{w:World}{K:PySem.W.Frag}{tg:Expr}(it:Addr)(lo:Int)(n:Nat):Turn P w K tg (O2 lo n) [it] it (fun i h=>IsRangeIter h it (lo+(i:Nat)*1) ((n:Int)-(i:Nat)) 1) where
 mem:=by simp
 obj:=fun i h st b hb=>by
  have e:b=it:=by simpa using hb
  subst e
  exact⟨_,st,fun v z=>by
   have z':Data.fields _=Data.cell v:=z
   cases z'⟩
 keep:=fun i h h' st k=>k it (by simp) _ st
 item:=by
  intro X hP hw hK hc i pins s σ H E I hf st hg
  subst hP hw hK
  obtain⟨f0,f1,f2,f3,f4,f5⟩:=hf it (by simp)
  have W:=Walks.range (prog:=X.prog) (w:=X.w) (I.ok.hd hc) it lo 1 n
  refine W.item i s _ _ hg st fun v h' tk hv st' kk=>?_
  obtain⟨t,rfl⟩:=hv
  have I1:Inv X pins σ H { s with heap:=h',toks:=tk }:=I.turned (fun b o hb e=>kk b o (by simpa using hb) e) f0 f1 f3 f4 f5
  refine⟨_,rfl,Ko (s:={ s with heap:=h',toks:=tk }) (n:="range_iterator") st' rfl rfl (by decide) ⟨.int (lo+i),H,I1,⟨t,?_⟩,⟨rfl,rfl⟩,st',fun b hb=>(hf b hb).1⟩⟩
  rw[Int.mul_one]
 done:=by
  intro X hP hw hK hc i pins s σ H E I hf st hg
  subst hP hw hK
  obtain⟨f0,f1,f2,f3,f4,f5⟩:=hf it (by simp)
  exact wpAny_pyNext_range_end (I.ok.hd hc) st (by have:n≤i:=hg;omega) fun h' eb=>⟨rfl,I.turned (t':=s.toks) (fun b o hb e=>eb b o hb e) f0 f1 f3 f4 f5⟩
 self:=fun _ _ _ _ _ st h=>wpAny_pyIter_rangeiter st h
end L2
namespace L2
open PySem PySem.Spec PyProof.Rows
section
variable {X:Cx} {tg:Expr}
inductive isL(K:PySem.W.Frag)(x:V)(H:Hp)(R:It→Hp→Prop):Prop
 | mk (a:Addr) (_:x=.ref a) (_:∃ xs,b8 K H a xs) (_:R (Kp K a) H):isL K x H R
def NY(K:PySem.W.Frag)(tl:TE):TI:=fun σ H R=>tl σ H fun x H1=>isL K x H1 R
def Vd(K:PySem.W.Frag)(tl:TE):TI:=fun σ H R=>tl σ H fun x H1=>∃ a,x=.ref a∧(∃ xs,jL K H1 a xs)∧R (Ru K a) H1
theorem eK{l:Expr}{tl:TE}(hl:PE X l tl):PI X tg l (NY X.K tl):=by
 intro pins s σ H R I h
 refine cE (hl pins s σ H _ I h) fun v s1 ⟨x,H1,I1,r1,q1⟩=>?_
 obtain⟨a,e,⟨xs,hq⟩,q⟩:=q1
 subst e
 cases r1
 obtain⟨its,rv,p,hz⟩:=I1.list hq
 refine wpAny_pyIter_list p.isList ?_
 refine⟨s1.heap.objs.size,[s1.heap.objs.size],_,_,H1,rfl,I1.kept (t':=s1.toks) fun b o e=>Heap.get?_push_of_some _ e,IX a _,⟨_,Heap.get?_push_size _ rfl,rfl,rfl⟩,fun b hb=>?_,q⟩
 have e:b=s1.heap.objs.size:=by simpa using hb
 subst e
 exact I1.My (jj _) (I1.hok.fresh (jj _))
theorem O4{l:Expr}{tl:TE}(hl:PE X l tl):PI X tg l (Vd X.K tl):=by
 intro pins s σ H R I h
 refine cE (hl pins s σ H _ I h) fun v s1 ⟨x,H1,I1,r1,q1⟩=>?_
 obtain⟨a,e,⟨xs,hq⟩,q⟩:=q1
 subst e
 cases r1
 obtain⟨its,rv,p,hz⟩:=I1.tuple hq
 refine wpAny_pyIter_tuple (show s1.heap.IsTuple a its.toArray from p) ?_
 refine⟨s1.heap.objs.size,[s1.heap.objs.size],_,_,H1,rfl,I1.kept (t':=s1.toks) fun b o e=>Heap.get?_push_of_some _ e,Gi a _,⟨_,Heap.get?_push_size _ rfl,rfl,rfl⟩,fun b hb=>?_,q⟩
 have e:b=s1.heap.objs.size:=by simpa using hb
 subst e
 exact I1.My (jj _) (I1.hok.fresh (jj _))
theorem Kq{pins:List (Addr × Obj)}{σ:St}{H:Hp}{s:Shared}{R:It→Hp→Prop}{E:Value→Shared→Prop}{lo hi:Int}{t u v:Tok}{tk:Nat}(I:Inv X pins σ H s)(h1:-(2^62)≤lo)(h2:lo<2^62)(h3:-(2^62)≤hi)(h4:hi<2^62)
  (q:R (O2 lo (hi-lo).toNat) H):wpAny (model X.prog X.w) X.A (pyIter (.ref s.heap.objs.size)) (PIE X pins σ tg R) E { s with heap:=s.heap.push { cls:=.type "range",data:=.fields #[.int lo t,.int hi u,.int 1 v] },toks:=tk }:=by
 refine wpAny_pyIter_range (IsRange.new ..) (small_one h1 h2 h3 h4) ?_
 have I1:Inv X pins σ H { s with heap:=s.heap.push { cls:=.type "range",data:=.fields #[.int lo t,.int hi u,.int 1 v] },toks:=tk }:=I.kept fun b o e=>Heap.get?_push_of_some _ e
 refine⟨(s.heap.push { cls:=.type "range",data:=.fields #[.int lo t,.int hi u,.int 1 v] }).objs.size,[(s.heap.push { cls:=.type "range",data:=.fields #[.int lo t,.int hi u,.int 1 v] }).objs.size],_,_,H,rfl,
  I1.kept (t':=tk) fun b o e=>Heap.get?_push_of_some _ e,Gj _ lo (hi-lo).toNat,?_,fun b hb=>?_,q⟩
 ·have e1:lo+((0:Nat):Int)*1=lo:=by simp
  have e2:(((hi-lo).toNat:Nat):Int)-((0:Nat):Int)=Builtin.Range.rangeSize lo hi 1:=by rw[rangeSize_one];split <;> omega
  show IsRangeIter _ _ (lo+((0:Nat):Int)*1) ((((hi-lo).toNat:Nat):Int)-((0:Nat):Int)) 1
  rw[e1,e2]
  exact Heap.get?_push_size _ rfl
 ·have e:b=(s.heap.push { cls:=.type "range",data:=.fields #[.int lo t,.int hi u,.int 1 v] }).objs.size:=by simpa using hb
  subst e
  exact I1.My (jj _) (I1.hok.fresh (jj _))
inductive isR(vs:List V)(H:Hp)(R:It→Hp→Prop):Prop
 | mk (j:Int) (_:vs=[.int j]) (_:-(2^62)≤j) (_:j<2^62) (_:R (O2 0 j.toNat) H):isR vs H R
def Rv(ta:TA):TI:=fun σ H R=>ta σ H fun vs H1=>isR vs H1 R
theorem qf{a:Expr}{ta:TA}{p pos:Pos}(hg:Gl X "range")(hm:X.mg "range"=none)(ha:PA X [a] ta)(hs:starEach [a] X.env=[(false,eval a X.env)]:=by rfl):PI X tg (.Call (.Name "range" p) [a] [] pos) (Rv ta):=by
 intro pins s σ H R I h
 refine Call_ (zw I hg hm boot_range (PyProof.Rows.callWith_type1 (cE (ha pos pins s σ H _ I h) fun us s1 ⟨vs,H1,I1,r1,q1⟩=>?_) hs rfl))
 obtain⟨j,e,q1,q2,q⟩:=q1
 subst e
 cases r1 with
 | cons r rr =>
  cases rr
  obtain⟨t,rfl⟩:=r
  exact call_range_1 (Kq I1 (by omega) (by omega) q1 q2 (by simpa using q))
def Ve(wi:TI)(g:TG)(tb:TS):TS:=fun D σ H=>wi σ H fun J H1=>∃ W:Nat→Nat→St→Hp→Prop,(∃ m,W 0 m σ H1)∧∀ i m σ H,W i m σ H →
 (J.stop i H∧D.nx σ H)∨(J.go i H∧∃ N:St→Hp→Prop,(∀ σ' H',N σ' H'→∃ m',m'<m∧W (i+1) m' σ' H')∧∀ x H',J.Kn i H x H'→g x σ H' fun σ2 H2=>tb { D with nx:=N,ct:=N,bk:=D.nx } σ2 H2)
def rY(fp:List Addr)(h:Heap):List (Addr × Obj):=fp.filterMap fun b=>(h.get? b).map fun o=>(b,o)
theorem ig{fp:List Addr}{h:Heap}{b:Addr}{o:Obj}(hb:b∈fp)(e:h.get? b=some o):(b,o)∈rY fp h:=List.mem_filterMap.mpr ⟨b,hb,by rw[e];rfl⟩
theorem IY{fp:List Addr}{h:Heap}{p:Addr × Obj}(hp:p∈rY fp h):p.1∈fp∧h.get? p.1=some p.2:=by
 obtain⟨b,hb,e⟩:=List.mem_filterMap.mp hp
 cases q:h.get? b with
 | none=>rw[q]at e;cases e
 | some o =>
  rw[q]at e
  have e':(b,o)=p:=rN e
  subst e'
  exact⟨hb,q⟩
theorem Inv.pinned{pins:List (Addr × Obj)}{σ:St}{H:Hp}{s:Shared}{fp:List Addr}(I:Inv X pins σ H s)(hf:∀ b∈fp,pR X pins H b)(ho:∀ b∈fp,∃ o,s.heap.get? b=some o∧∀ v,o.data≠.cell v):Inv X (pins++rY fp s.heap) σ H s :=
 I.HC fun p hp=>(List.mem_append.mp hp).elim (fun z=>I.pin p (oY _ z)) fun z=>by
  obtain⟨hb,e⟩:=IY z
  obtain⟨f0,f1,f2,_⟩:=hf p.1 hb
  obtain⟨o,e',d⟩:=ho p.1 hb
  rw[e]at e';cases e'
  exact⟨e,f0,f1,f2,d⟩
theorem Inv.nU{pins pl:List (Addr × Obj)}{σ:St}{H:Hp}{s:Shared}(I:Inv X (pins++pl) σ H s):Inv X pins σ H s:=I.HC fun p hp=>I.pin p (oY _ (List.mem_append_left _ hp))
theorem jI{iter:Expr}{body:List Stmt}{wi:TI}{g:TG}{tb:TS}{pos:Pos}(hp:PassesOwn (model X.prog X.w) X.A X.env X.xe)(hc:X.calm=true)(hi:PI X tg iter wi)(hg:PG X tg g)(hb:FZ X body tb)
  (hs:∀ x,foldedSetIterable iter X.env x=pure x:=by intro _;rfl):PS X (.For tg iter body [] pos) (Ve wi g tb):=by
 intro pins s σ H D I h
 refine wpAny_For (cE (hi pins s σ H _ I h) fun v s1 h1=>cE h1 fun itv s2 h2=>?_) hs
 obtain⟨it,fp,tn,J,H2,e,I2,T,st2,f2,W,⟨m0,w0⟩,turn⟩:=h2
 subst e
 have qG:∀ {H':Hp},(∀ b∈fp,H' b=none)→∀ b∈fp,pR X pins H' b:=fun hn b hb=>⟨hn b hb,(f2 b hb).2⟩
 refine codeAny_forLoop_any (fun n s'=>∃ i σ' H',Inv X pins σ' H' s'∧tn i s'.heap∧(∀ b∈fp,H' b=none)∧W i n σ' H') ?_ m0 ⟨0,σ,H2,I2,st2,fun b hb=>(f2 b hb).1,w0⟩
 rintro n s3 ⟨i,σ3,H3,I3,st3,Ua,w3⟩
 rcases turn i n σ3 H3 w3 with ⟨stop,qn⟩|⟨go,N,hN,step⟩
 ·refine wpAny_passesOwn hp (cE (T.done X rfl rfl rfl hc i pins s3 σ3 H3 X.xe I3 (qG Ua) st3 stop) fun r s4 ⟨hr,I4⟩=>?_)
  subst hr
  exact wpAny_execs_nil ⟨σ3,H3,I4,qn⟩
 ·refine wpAny_passesOwn hp (cE (T.item X rfl rfl rfl hc i pins s3 σ3 H3 X.xe I3 (qG Ua) st3 go) fun r s4 ⟨u,hr,h4⟩=>?_)
  subst hr
  refine wpAny_passesOwn hp (cE h4 fun _ s5 ⟨x,H5,I5,r5,y5,QO,Vf⟩=>?_)
  have I5':=I5.pinned (qG Vf) (T.obj _ _ QO)
  refine wpAny_passesOwn hp (cE (hg _ s5 σ3 H5 x u _ I5' r5 (step x H5 y5)) fun _ s6 ⟨σ6,H6,I6,q6⟩=>?_)
  refine wpAny_passesOwn hp (cE (hb _ s6 σ6 H6 _ I6 q6) fun f s7 q7=>?_)
  have again:∀ {σ7:St} {H7:Hp},Inv X (pins++rY fp s5.heap) σ7 H7 s7→N σ7 H7→∃ m,m<n∧∃ i σ' H',Inv X pins σ' H' s7∧tn i s7.heap∧(∀ b∈fp,H' b=none)∧W i m σ' H':=fun {σ7 H7} I7 n7=>by
   obtain⟨m',hm,w7⟩:=hN σ7 H7 n7
   refine⟨m',hm,i+1,σ7,H7,I7.nU,T.keep _ _ _ QO fun b hb o e=>(I7.pin (b,o) (oY _ (oY _ (ig hb e)))).1,fun b hb=>?_,w7⟩
   obtain⟨o,e,d⟩:=T.obj _ _ QO b hb
   exact (I7.pin (b,o) (oY _ (oY _ (ig hb e)))).2.1
  cases f with
  | next=>obtain⟨σ7,H7,I7,n7⟩:=q7;exact again I7 n7
  | cont=>obtain⟨σ7,H7,I7,n7⟩:=q7;exact again I7 n7
  | brk=>obtain⟨σ7,H7,I7,q7⟩:=q7;exact⟨σ7,H7,I7.nU,q7⟩
  | ret v=>obtain⟨x7,σ7,H7,I7,r7,q7⟩:=q7;exact⟨x7,σ7,H7,I7.nU,r7,q7⟩
end
theorem jM{K:PySem.W.Frag}{a:Addr}{xs:List V}{g:TG}{tb:TS}{D:Ends}{σ:St}{H:Hp}(Pv:Nat→St→Hp→Prop)(h0:Pv 0 σ H)(hl:∀ i σ H,i≤xs.length→Pv i σ H→b8 K H a xs)
  (hs:∀ i x σ H,xs[i]?=some x→Pv i σ H→g x σ H fun σ2 H2=>tb { D with nx:=Pv (i+1),ct:=Pv (i+1),bk:=D.nx } σ2 H2) (hd:∀ σ H,Pv xs.length σ H→D.nx σ H) :
  ∃ W:Nat→Nat→St→Hp→Prop,(∃ m,W 0 m σ H)∧∀ i m σ H,W i m σ H →
   ((Kp K a).stop i H∧D.nx σ H)∨((Kp K a).go i H∧∃ N:St→Hp→Prop,(∀ σ' H',N σ' H'→∃ m',m'<m∧W (i+1) m' σ' H')∧∀ x H',(Kp K a).Kn i H x H'→g x σ H' fun σ2 H2=>tb { D with nx:=N,ct:=N,bk:=D.nx } σ2 H2):=by
 refine⟨fun i m σ H=>m=xs.length-i∧i≤xs.length∧Pv i σ H,⟨xs.length,by simp,Nat.zero_le _,h0⟩,?_⟩
 rintro i m σ H ⟨rfl,hi,p⟩
 have q:=hl i σ H hi p
 by_cases hlt:i<xs.length
 ·refine .inr ⟨⟨xs,xs[i],q,by simp[hlt]⟩,Pv (i+1),fun σ' H' p'=>⟨xs.length-(i+1),by omega,rfl,hlt,p'⟩,fun x H' y=>?_⟩
  obtain⟨e,y⟩:=y
  subst e
  exact hs i x σ _ (y xs q) p
 ·have e:i=xs.length:=by omega
  subst e
  exact .inl ⟨⟨xs,q,jj _⟩,hd σ H p⟩
theorem Mz{K:PySem.W.Frag}{a:Addr}{xs:List V}{g:TG}{tb:TS}{D:Ends}{σ:St}{H:Hp}(Pv:Nat→St→Hp→Prop)(h0:Pv 0 σ H)(hl:∀ i σ H,i≤xs.length→Pv i σ H→jL K H a xs)
  (hs:∀ i x σ H,xs[i]?=some x→Pv i σ H→g x σ H fun σ2 H2=>tb { D with nx:=Pv (i+1),ct:=Pv (i+1),bk:=D.nx } σ2 H2) (hd:∀ σ H,Pv xs.length σ H→D.nx σ H) :
  ∃ W:Nat→Nat→St→Hp→Prop,(∃ m,W 0 m σ H)∧∀ i m σ H,W i m σ H →
   ((Ru K a).stop i H∧D.nx σ H)∨((Ru K a).go i H∧∃ N:St→Hp→Prop,(∀ σ' H',N σ' H'→∃ m',m'<m∧W (i+1) m' σ' H')∧∀ x H',(Ru K a).Kn i H x H'→g x σ H' fun σ2 H2=>tb { D with nx:=N,ct:=N,bk:=D.nx } σ2 H2):=by
 refine⟨fun i m σ H=>m=xs.length-i∧i≤xs.length∧Pv i σ H,⟨xs.length,by simp,Nat.zero_le _,h0⟩,?_⟩
 rintro i m σ H ⟨rfl,hi,p⟩
 have q:=hl i σ H hi p
 by_cases hlt:i<xs.length
 ·refine .inr ⟨⟨xs,xs[i],q,by simp[hlt]⟩,Pv (i+1),fun σ' H' p'=>⟨xs.length-(i+1),by omega,rfl,hlt,p'⟩,fun x H' y=>?_⟩
  obtain⟨e,y⟩:=y
  subst e
  exact hs i x σ _ (y xs q) p
 ·have e:i=xs.length:=by omega
  subst e
  exact .inl ⟨⟨xs,q,jj _⟩,hd σ H p⟩
theorem sV{lo:Int}{n:Nat}{g:TG}{tb:TS}{D:Ends}{σ:St}{H:Hp}(Pv:Nat→St→Hp→Prop)(h0:Pv 0 σ H)
  (hs:∀ i σ H,i<n→Pv i σ H→g (.int (lo+i)) σ H fun σ2 H2=>tb { D with nx:=Pv (i+1),ct:=Pv (i+1),bk:=D.nx } σ2 H2) (hd:∀ σ H,Pv n σ H→D.nx σ H) :
  ∃ W:Nat→Nat→St→Hp→Prop,(∃ m,W 0 m σ H)∧∀ i m σ H,W i m σ H →
   ((O2 lo n).stop i H∧D.nx σ H)∨((O2 lo n).go i H∧∃ N:St→Hp→Prop,(∀ σ' H',N σ' H'→∃ m',m'<m∧W (i+1) m' σ' H')∧∀ x H',(O2 lo n).Kn i H x H'→g x σ H' fun σ2 H2=>tb { D with nx:=N,ct:=N,bk:=D.nx } σ2 H2):=by
 refine⟨fun i m σ H=>m=n-i∧i≤n∧Pv i σ H,⟨n,by simp,Nat.zero_le _,h0⟩,?_⟩
 rintro i m σ H ⟨rfl,hi,p⟩
 by_cases hlt:i<n
 ·refine .inr ⟨hlt,Pv (i+1),fun σ' H' p'=>⟨n-(i+1),by omega,rfl,hlt,p'⟩,fun x H' y=>?_⟩
  obtain⟨e,y⟩:=y
  subst e y
  exact hs i σ _ hlt p
 ·have e:i=n:=by omega
  subst e
  exact .inl ⟨Nat.le_refl _,hd σ H p⟩
end L2
namespace L2
open PySem PySem.Spec PyProof.Rows
abbrev R2:=V→V→Hp→VK→Prop
def vI(X:Cx)(f:Value→Value→Sem Value)(r:R2):Prop :=
 ∀ (pins:List (Addr × Obj)) (s:Shared) (σ:St) (H:Hp) (x y:V) (v u:Value) (Q:VK),Inv X pins σ H s→RelV x v→RelV y u→r x y H Q →
  wpAny (model X.prog X.w) X.A (f v u) (EP X pins σ Q) X.xe s
def Vg(X:Cx)(f:Value→Sem Value)(r:V→Hp→VK→Prop):Prop :=
 ∀ (pins:List (Addr × Obj)) (s:Shared) (σ:St) (H:Hp) (x:V) (v:Value) (Q:VK),Inv X pins σ H s→RelV x v→r x H Q →
  wpAny (model X.prog X.w) X.A (f v) (EP X pins σ Q) X.xe s
def nj(X:Cx)(f:Value)(r:List V→Hp→VK→Prop):Prop :=
 ∀ (pins:List (Addr × Obj)) (s:Shared) (σ:St) (H:Hp) (xs:List V) (us:List Value) (Q:VK),Inv X pins σ H s→Vals xs us→r xs H Q →
  wpAny (model X.prog X.w) X.A (call f us) (EP X pins σ Q) X.xe s
def Vh(X:Cx)(r:V→Hp→(Bool→Hp→Prop)→Prop):Prop :=
 ∀ (pins:List (Addr × Obj)) (s:Shared) (σ:St) (H:Hp) (x:V) (v:Value) (Q:Bool→Hp→Prop),Inv X pins σ H s→RelV x v→r x H Q →
  wpAny (model X.prog X.w) X.A (truthy v) (TP X pins σ Q) X.xe s
def Ub(r:R2)(ta tb:TE):TE:=fun σ H Q=>ta σ H fun x H1=>tb σ H1 fun y H2=>r x y H2 Q
def tUn(r:V→Hp→VK→Prop)(ta:TE):TE:=fun σ H Q=>ta σ H fun x H1=>r x H1 Q
inductive rI(C:Int→Int→Prop)(g:Int→Int→V)(x y:V)(H:Hp)(Q:VK):Prop
 | mk (i j:Int) (_:x=.int i) (_:y=.int j) (_:C i j) (_:Q (g i j) H):rI C g x y H Q
inductive MA(g:Int→Int→V)(x y:V)(H:Hp)(Q:VK):Prop
 | mk (i j:Int) (_:x=.int i) (_:y=.int j) (_:Q (g i j) H):MA g x y H Q
def rU(g:Int→V):V→Hp→VK→Prop:=fun x H Q=>∃ i,x=.int i∧Q (g i) H
section
variable {X:Cx} {a b c:Expr} {ta tb tc:TE} {pos:Pos}
theorem O5(ha:PE X a ta)(hb:PE X b tb){pins:List (Addr × Obj)}{s:Shared}{σ:St}{H:Hp}{R:V→V→Hp→Prop}(I:Inv X pins σ H s)
  (h:ta σ H fun x H1=>tb σ H1 fun y H2=>R x y H2) {Q:Value→Shared→Prop} {f:Value→Value→Sem Value}
  (hf:∀ v u s2 x y H2,Inv X pins σ H2 s2→RelV x v→RelV y u→R x y H2→wpAny (model X.prog X.w) X.A (f v u) Q X.xe s2) :
  wpAny (model X.prog X.w) X.A (eval a X.env) (fun v s₁=>wpAny (model X.prog X.w) X.A (eval b X.env) (fun u s₂=>wpAny (model X.prog X.w) X.A (f v u) Q X.xe s₂) X.xe s₁) X.xe s:=by
 refine cE (ha pins s σ H _ I h) fun v s1 ⟨x,H1,I1,r1,q1⟩=>?_
 refine cE (hb pins s1 σ H1 _ I1 q1) fun u s2 ⟨y,H2,I2,r2,q2⟩=>?_
 exact hf v u s2 x y H2 I2 r1 r2 q2
theorem bw{op:Operator}{r:R2}(ho:vI X (binaryOp op) r)(ha:PE X a ta)(hb:PE X b tb):PE X (.BinOp a op b pos) (Ub r ta tb):=by
 intro pins s σ H Q I h
 exact wpAny_BinOp (O5 ha hb I h fun v u s2 x y H2 I2 rx ry q=>ho pins s2 σ H2 x y v u Q I2 rx ry q)
theorem rZ{op:UnaryOp}{r:V→Hp→VK→Prop}(ho:Vg X (unaryOp op) r)(ha:PE X a ta):PE X (.UnaryOp op a pos) (tUn r ta):=by
 intro pins s σ H Q I h
 exact UnaryOp_ (cE (ha pins s σ H _ I h) fun v s1 ⟨x,H1,I1,r1,q1⟩=>ho pins s1 σ H1 x v Q I1 r1 q1)
theorem Uc{f:Value→Value→Sem Value}{C:Int→Int→Prop}{g:Int→Int→Int}
  (rule:∀ (i j:Int) (t u:Tok) (s:Shared) (Q:Value→Shared→Prop) (E:Value→Shared→Prop),C i j→Q (.int (g i j) s.toks) { s with toks:=s.toks+1 }→wpAny (model X.prog X.w) X.A (f (.int i t) (.int j u)) Q E s) :
  vI X f (rI C fun i j=>.int (g i j)):=by
 intro pins s σ H x y v u Q I rx ry h
 obtain⟨i,j,rfl,rfl,hc,q⟩:=h
 obtain⟨t,rfl⟩:=rx
 obtain⟨t',rfl⟩:=ry
 exact rule i j t t' s _ _ hc ⟨.int (g i j),H,I.tok _,⟨_,rfl⟩,q⟩
theorem Rw{f:Value→Value→Sem Value}{g:Int→Int→Int}
  (rule:∀ (i j:Int) (t u:Tok) (s:Shared) (Q:Value→Shared→Prop) (E:Value→Shared→Prop),Q (.int (g i j) s.toks) { s with toks:=s.toks+1 }→wpAny (model X.prog X.w) X.A (f (.int i t) (.int j u)) Q E s) :
  vI X f (MA fun i j=>.int (g i j)):=by
 intro pins s σ H x y v u Q I rx ry h
 obtain⟨i,j,rfl,rfl,q⟩:=h
 obtain⟨t,rfl⟩:=rx
 obtain⟨t',rfl⟩:=ry
 exact rule i j t t' s _ _ ⟨.int (g i j),H,I.tok _,⟨_,rfl⟩,q⟩
theorem MB{f:Value→Value→Sem Value}{g:Int→Int→Bool}
  (rule:∀ (i j:Int) (t u:Tok) (s:Shared) (Q:Value→Shared→Prop) (E:Value→Shared→Prop),Q (.bool (g i j)) s→wpAny (model X.prog X.w) X.A (f (.int i t) (.int j u)) Q E s) :
  vI X f (MA fun i j=>.bl (g i j)):=by
 intro pins s σ H x y v u Q I rx ry h
 obtain⟨i,j,rfl,rfl,q⟩:=h
 obtain⟨t,rfl⟩:=rx
 obtain⟨t',rfl⟩:=ry
 exact rule i j t t' s _ _ ⟨.bl (g i j),H,I,rfl,q⟩
def Vi(i j:Int):Prop:=0≤j∧j≤1000000∧i.natAbs<2^64
def O6(i j:Int):Prop:=(-(2^64)<i∧i<2^64)∨(-(2^64)<j∧j<2^64)
theorem O6.ok{i j:Int}(h:O6 i j):IntMulOk i j:=by
 rcases h with ⟨h1,h2⟩|⟨h1,h2⟩
 ·exact .of_left (intBits_le_64 h1 h2)
 ·exact .of_right (intBits_le_64 h1 h2)
theorem gz:vI X (binaryOp .Add) (MA fun i j=>.int (i+j)):=Rw fun _ _ _ _ _ _ _ q=>add_int q
theorem iu:vI X (binaryOp .Sub) (MA fun i j=>.int (i-j)):=Rw fun _ _ _ _ _ _ _ q=>sub_int q
theorem pS:vI X (binaryOp .Mult) (rI O6 fun i j=>.int (i*j)):=Uc fun _ _ _ _ _ _ _ hc q=>mul_int q hc.ok
theorem zz:vI X (binaryOp .Mod) (rI (fun _ j=>0<j) fun i j=>.int (i % j)):=Uc fun i j _ _ _ _ _ hc q=>by
 have h1:(0:Int)<j:=hc
 exact mod_int' (by omega) (by rw[Int.fmod_eq_emod_of_nonneg i (by omega)];exact q)
theorem O7:vI X (binaryOp .Pow) (rI Vi fun i j=>.int (i^j.toNat)):=Uc fun _ _ _ _ _ _ _ hc q=>pow_int_small hc.1 hc.2.1 hc.2.2 q
theorem unI{f:Value→Sem Value}{g:Int→Int}
  (rule:∀ (i:Int) (t:Tok) (s:Shared) (Q:Value→Shared→Prop) (E:Value→Shared→Prop),Q (.int (g i) s.toks) { s with toks:=s.toks+1 }→wpAny (model X.prog X.w) X.A (f (.int i t)) Q E s) :
  Vg X f (rU fun i=>.int (g i)):=by
 intro pins s σ H x v Q I rx h
 obtain⟨i,rfl,q⟩:=h
 obtain⟨t,rfl⟩:=rx
 exact rule i t s _ _ ⟨.int (g i),H,I.tok _,⟨_,rfl⟩,q⟩
theorem nV:Vg X (unaryOp .USub) (rU fun i=>.int (-i)):=unI fun _ _ _ _ _ q=>neg_int q
end
def O8:V→V→Bool
 | .jc,.jc=>true | .jc,.int _=>true | .int _,.jc=>true | .jc,.bl _=>true | .bl _,.jc=>true | .jc,.str _=>true | .str _,.jc=>true
 | .int _,.int _=>true | .bl _,.bl _=>true | .str _,.str _=>true | .Ge _,.Ge _=>true
 | .int _,.str _=>true | .str _,.int _=>true | .bl _,.str _=>true | .str _,.bl _=>true
 | _,_=>false
def rEq:R2:=fun x y H Q=>O8 x y=true∧Q (.bl (decide (x=y))) H
def rNe:R2:=fun x y H Q=>O8 x y=true∧Q (.bl (!decide (x=y))) H
theorem HE{i j:Int}:decide (V.int i=V.int j)=(i == j):=by
 rw[Bool.eq_iff_iff]
 simp
theorem Kr{i j:Bool}:decide (V.bl i=V.bl j)=(i == j):=by
 rw[Bool.eq_iff_iff]
 simp
theorem HF{i j:Str}:decide (V.str i=V.str j)=(i == j):=by
 rw[Bool.eq_iff_iff]
 simp
theorem HG{i j:Array UInt8}:decide (V.Ge i=V.Ge j)=(i.toList == j.toList):=by
 rw[Bool.eq_iff_iff]
 cases i
 cases j
 simp
section
variable {X:Cx} {a b c:Expr} {ta tb tc:TE} {pos:Pos}
theorem cV{pins:List (Addr × Obj)}{σ:St}{H:Hp}{s:Shared}{Q:VK}{k k':Bool}(I:Inv X pins σ H s)(q:Q (.bl k) H)(e:k=k'):EP X pins σ Q (.bool k') s:=by
 subst e
 exact⟨.bl k,H,I,rfl,q⟩
theorem kQ:vI X (compareOp .Eq) rEq:=by
 intro pins s σ H x y v u Q I rx ry h
 obtain⟨hs,q⟩:=h
 cases x with
 | jc =>
  cases rx
  cases y with
  | jc=>cases ry;exact PySem.EqNone.eq_none_none (cV I q (by simp))
  | bl j=>cases ry;exact PySem.EqNone.eq_none_bool (cV I q (by simp))
  | int j=>obtain⟨t',rfl⟩:=ry;exact PySem.EqNone.eq_none_int (cV I q (by simp))
  | str j=>obtain⟨t',rfl⟩:=ry;exact PySem.EqNone.eq_none_str (cV I q (by simp))
  | _=>exact absurd (show false=true from hs) uo
 | bl i =>
  cases rx
  cases y with
  | jc=>cases ry;exact PySem.EqNone.eq_bool_none (cV I q (by simp))
  | bl j=>cases ry;exact eq_bool (cV I q Kr)
  | str j=>obtain⟨t',rfl⟩:=ry;exact PySem.EqMixed.eq_bool_str (cV I q (by simp))
  | _=>exact absurd (show false=true from hs) uo
 | int i =>
  obtain⟨t,rfl⟩:=rx
  cases y with
  | jc=>cases ry;exact PySem.EqNone.eq_int_none (cV I q (by simp))
  | int j=>obtain⟨t',rfl⟩:=ry;exact eq_int (cV I q HE)
  | str j=>obtain⟨t',rfl⟩:=ry;exact PySem.EqMixed.eq_int_str (cV I q (by simp))
  | _=>exact absurd (show false=true from hs) uo
 | str i =>
  obtain⟨t,rfl⟩:=rx
  cases y with
  | jc=>cases ry;exact PySem.EqNone.eq_str_none (cV I q (by simp))
  | bl j=>cases ry;exact PySem.EqMixed.eq_str_bool (cV I q (by simp))
  | int j=>obtain⟨t',rfl⟩:=ry;exact PySem.EqMixed.eq_str_int (cV I q (by simp))
  | str j=>obtain⟨t',rfl⟩:=ry;exact eq_str (cV I q HF)
  | _=>exact absurd (show false=true from hs) uo
 | Ge i =>
  obtain⟨t,rfl⟩:=rx
  cases y with
  | Ge j=>obtain⟨t',rfl⟩:=ry;exact PySem.W.eq_bytes (cV I q HG)
  | _=>exact absurd (show false=true from hs) uo
 | _=>cases y <;> exact absurd (show false=true from hs) uo
theorem HH:vI X (compareOp .NotEq) rNe:=by
 intro pins s σ H x y v u Q I rx ry h
 obtain⟨hs,q⟩:=h
 cases x with
 | jc =>
  cases rx
  cases y with
  | jc=>cases ry;exact PySem.EqNone.ne_none_none (cV I q (by simp))
  | bl j=>cases ry;exact PySem.EqNone.ne_none_bool (cV I q (by simp))
  | int j=>obtain⟨t',rfl⟩:=ry;exact PySem.EqNone.ne_none_int (cV I q (by simp))
  | str j=>obtain⟨t',rfl⟩:=ry;exact PySem.EqNone.ne_none_str (cV I q (by simp))
  | _=>exact absurd (show false=true from hs) uo
 | bl i =>
  cases rx
  cases y with
  | jc=>cases ry;exact PySem.EqNone.ne_bool_none (cV I q (by simp))
  | bl j=>cases ry;exact ne_bool (cV I q (congrArg not Kr))
  | str j=>obtain⟨t',rfl⟩:=ry;exact PySem.EqMixed.ne_bool_str (cV I q (by simp))
  | _=>exact absurd (show false=true from hs) uo
 | int i =>
  obtain⟨t,rfl⟩:=rx
  cases y with
  | jc=>cases ry;exact PySem.EqNone.ne_int_none (cV I q (by simp))
  | int j=>obtain⟨t',rfl⟩:=ry;exact ne_int (cV I q (congrArg not HE))
  | str j=>obtain⟨t',rfl⟩:=ry;exact PySem.EqMixed.ne_int_str (cV I q (by simp))
  | _=>exact absurd (show false=true from hs) uo
 | str i =>
  obtain⟨t,rfl⟩:=rx
  cases y with
  | jc=>cases ry;exact PySem.EqNone.ne_str_none (cV I q (by simp))
  | bl j=>cases ry;exact PySem.EqMixed.ne_str_bool (cV I q (by simp))
  | int j=>obtain⟨t',rfl⟩:=ry;exact PySem.EqMixed.ne_str_int (cV I q (by simp))
  | str j=>obtain⟨t',rfl⟩:=ry;exact ne_str (cV I q (congrArg not HF))
  | _=>exact absurd (show false=true from hs) uo
 | Ge i =>
  obtain⟨t,rfl⟩:=rx
  cases y with
  | Ge j=>obtain⟨t',rfl⟩:=ry;exact PySem.W.ne_bytes (cV I q (congrArg not HG))
  | _=>exact absurd (show false=true from hs) uo
 | _=>cases y <;> exact absurd (show false=true from hs) uo
theorem BF:vI X (compareOp .Lt) (MA fun i j=>.bl (decide (i<j))):=MB fun _ _ _ _ _ _ _ q=>lt_int q
theorem lQ:vI X (compareOp .LtE) (MA fun i j=>.bl (decide (i≤j))):=MB fun _ _ _ _ _ _ _ q=>le_int q
theorem HJ:vI X (compareOp .Gt) (MA fun i j=>.bl (decide (j<i))):=MB fun _ _ _ _ _ _ _ q=>gt_int q
theorem NZ:vI X (compareOp .GtE) (MA fun i j=>.bl (decide (j≤i))):=MB fun _ _ _ _ _ _ _ q=>ge_int q
theorem bU(b:Expr){op:CmpOp}(h:op≠.In:=by decide)(h2:op≠.NotIn:=by decide):behindInMarks op b=false:=by
 have e1:(op == CmpOp.In)=false:=by cases op <;> first|rfl|exact absurd rfl h
 have e2:(op == CmpOp.NotIn)=false:=by cases op <;> first|rfl|exact absurd rfl h2
 cases b <;> simp[behindInMarks,e1,e2]
theorem qH{op:CmpOp}{r:R2}(ho:vI X (compareOp op) r)(ha:PE X a ta)(hb:PE X b tb)(hm:behindInMarks op b=false):PE X (.Compare a [op] [b] pos) (Ub r ta tb):=by
 intro pins s σ H Q I h
 exact wpAny_Compare1 (O5 ha hb I h fun v u s2 x y H2 I2 rx ry q=>ho pins s2 σ H2 x y v u Q I2 rx ry q) hm
def N1(t:TE):TT:=fun σ H Q=>t σ H fun x H'=>Rl x H' Q
theorem bP{op:CmpOp}{r:R2}(ho:vI X (compareOp op) r)(ha:PE X a ta)(hb:PE X b tb)(hm:behindInMarks op b=false):PT X (.Compare a [op] [b] pos) (N1 (Ub r ta tb)):=by
 intro pins s σ H Q I h
 refine wpAny_isTrue_Compare1 (cE (ha pins s σ H _ I h) fun v s1 ⟨x,H1,I1,r1,q1⟩=>cE (hb pins s1 σ H1 _ I1 q1) fun u s2 ⟨y,H2,I2,r2,q2⟩ =>
  cE (ho pins s2 σ H2 x y v u _ I2 r1 r2 q2) fun c s3 ⟨z,H3,I3,r3,k,e,q3⟩=>?_) hm
 subst e
 cases r3
 exact wpAny_truthy_bool ⟨H3,I3,q3⟩
def O9(r r':R2)(ta tb tc:TE):TE:=fun σ H Q=>ta σ H fun x H1=>tb σ H1 fun y H2=>r x y H2 fun z H3=>∃ k,z=.bl k ∧
 (if k=true then tc σ H3 fun w' H4=>r' y w' H4 Q else Q (.bl false) H3)
theorem zA{op op':CmpOp}{r r':R2}(ho:vI X (compareOp op) r)(ho':vI X (compareOp op') r')(ha:PE X a ta)(hb:PE X b tb)(hc:PE X c tc)
  (hm:lastMarks [op,op'] [b,c]=false:=by with_unfolding_all rfl):PT X (.Compare a [op,op'] [b,c] pos) (N1 (O9 r r' ta tb tc)):=by
 intro pins s σ H Q I h
 refine isTrue_chain (cE (ha pins s σ H _ I h) fun v s1 ⟨x,H1,I1,r1,q1⟩=>test_link (cE (hb pins s1 σ H1 _ I1 q1) fun u s2 ⟨y,H2,I2,r2,q2⟩ =>
  cE (ho pins s2 σ H2 x y v u _ I2 r1 r2 q2) fun d s3 ⟨z,H3,I3,r3,k,e,q3⟩=>?_)) hm
 subst e
 cases r3
 refine wpAny_truthy_bool ?_
 cases k with
 | false =>
  obtain⟨k',e',q'⟩:=q3
  cases e'
  exact ite_ff ⟨H3,I3,q'⟩
 | true =>
  refine ite_tt (test_last (cE (hc pins s3 σ H3 _ I3 q3) fun w' s4 ⟨z',H4,I4,r4,q4⟩=>cE (ho' pins s4 σ H4 y z' u w' _ I4 r2 r4 q4) fun d' s5 ⟨z2,H5,I5,r5,k2,e2,q5⟩=>?_))
  subst e2
  cases r5
  exact wpAny_truthy_bool ⟨H5,I5,q5⟩
def Rx(K:PySem.W.Frag)(x:V)(H:Hp)(k:Bool):Prop :=
 match x with
 | .jc=>k=false
 | .bl b=>k=b
 | .int i=>k=(i != 0)
 | .str y=>y.length≤sizeLine∧k=((y.length:Int) != 0)
 | .Ge y=>y.size≤sizeLine∧k=((y.size:Int) != 0)
 | .ref p=>(∃ xs,b8 K H p xs∧k=!xs.isEmpty)∨(∃ xs,jL K H p xs∧k=!xs.isEmpty)∨∃ kvs,H p=some (.dK kvs)∧k=!kvs.isEmpty
 | _=>False
theorem Gk{κ:Type}{kvs:List (κ × V)}{vs:List (κ × Value)}(r:KV kvs vs):(!vs.isEmpty)=!kvs.isEmpty:=by
 cases r <;> rfl
theorem zB{xs:List V}{its:List Value}(r:Vals xs its):(!its.toArray.isEmpty)=!xs.isEmpty:=by
 cases r <;> simp
theorem wV:(sizeLine:Nat)<2^63:=by rw[sizeLine_eq];decide
theorem Pa:Vh X (fun x H Q=>∃ k,Rx X.K x H k∧Q k H):=by
 intro pins s σ H x v Q I rx h
 obtain⟨k,e,q⟩:=h
 have hl:=wV
 have hs:sizeLine=16777216:=sizeLine_eq
 cases x with
 | jc =>
  cases rx
  have e':k=false:=e
  subst e'
  exact truthy_none ⟨H,I,q⟩
 | bl b =>
  cases rx
  have e':k=b:=e
  subst e'
  exact wpAny_truthy_bool ⟨H,I,q⟩
 | int i =>
  obtain⟨t,rfl⟩:=rx
  have e':k=(i != 0):=e
  subst e'
  exact PySem.P.truthy_int ⟨H,I,q⟩
 | str y =>
  obtain⟨t,rfl⟩:=rx
  obtain⟨hy,e'⟩:y.length≤sizeLine∧k=((y.length:Int) != 0):=e
  subst e'
  exact PySem.P.truthy_str (by omega) ⟨H,I.tok _,q⟩
 | Ge y =>
  obtain⟨t,rfl⟩:=rx
  obtain⟨hy,e'⟩:y.size≤sizeLine∧k=((y.size:Int) != 0):=e
  subst e'
  exact PySem.W.truthy_bytes (by omega) ⟨H,I.tok _,q⟩
 | ref p =>
  cases rx
  have e':(∃ xs,b8 X.K H p xs∧k=!xs.isEmpty)∨(∃ xs,jL X.K H p xs∧k=!xs.isEmpty)∨∃ kvs,H p=some (.dK kvs)∧k=!kvs.isEmpty:=e
  rcases e' with ⟨xs,hx,e'⟩|⟨xs,hx,e'⟩|⟨kvs,hx,e'⟩
  ·subst e'
   obtain⟨its,r,pl,hz⟩:=I.list hx
   have hlen:=r.length
   exact wpAny_truthy_list pl.isList (by simp only[j5];omega) ⟨H,I.tok _,by rw[zB r];exact q⟩
  ·subst e'
   obtain⟨its,r,pl,hz⟩:=I.tuple hx
   have hlen:=r.length
   exact truthy_tuple pl (by simp only[j5];omega) ⟨H,I.tok _,by rw[zB r];exact q⟩
  ·subst e'
   obtain⟨hz,hS,vs,r,m⟩:kvs.length≤sizeLine∧(p == sysModules)=false∧∃ vs,KV kvs vs∧s.heap.DictOf (iQ X.prog X.w) p vs:=I.hok p _ hx
   have hlen:kvs.length=vs.length:=Paired.length r
   exact wpAny_truthy_dict hS m (by omega) ⟨H,I.tok _,by rw[Gk r];exact q⟩
 | _=>exact (show False from e).elim
theorem mK(ha:PE X a ta)(he:∀ whole,isTrue a X.env whole=(do let v ← whole;standAt a.pos;holding [v] (truthy v))) :
  PT X a (fun σ H Q=>ta σ H fun x H'=>∃ k,Rx X.K x H' k∧Q k H'):=by
 intro pins s σ H Q I h
 exact isTrue_plain (cE (ha pins s σ H _ I h) fun v s1 ⟨x,H1,I1,r1,q1⟩=>Pa pins s1 σ H1 x v Q I1 r1 q1) (he _)
theorem vals1{x:V}{us:List Value}(r:Vals [x] us):∃ u,us=[u]∧RelV x u:=by
 cases r with
 | cons r1 r2=>cases r2;exact⟨_,rfl,r1⟩
theorem vals2{x y:V}{us:List Value}(r:Vals [x,y] us):∃ u w',us=[u,w']∧RelV x u∧RelV y w':=by
 cases r with
 | cons r1 r2 =>
  cases r2 with
  | cons r3 r4=>cases r4;exact⟨_,_,rfl,r1,r3⟩
theorem IZ(hc:X.calm=true):nj X (.builtin "max") (fun xs H Q=>∃ i j,xs=[.int i,.int j]∧Q (.int (if j > i then j else i)) H):=by
 intro pins s σ H xs us Q I r h
 obtain⟨i,j,rfl,q⟩:=h
 obtain⟨u,w',rfl,⟨t,rfl⟩,⟨t',rfl⟩⟩:=vals2 r
 refine max_two_ints (I.ok.hd hc) fun h' tk k=>⟨_,H,I.kept k,?_,q⟩
 by_cases hj:j > i
 ·rw[if_pos hj,if_pos hj];exact⟨_,rfl⟩
 ·rw[if_neg hj,if_neg hj];exact⟨_,rfl⟩
theorem I0(hc:X.calm=true):nj X (.builtin "min") (fun xs H Q=>∃ i j,xs=[.int i,.int j]∧Q (.int (if j<i then j else i)) H):=by
 intro pins s σ H xs us Q I r h
 obtain⟨i,j,rfl,q⟩:=h
 obtain⟨u,w',rfl,⟨t,rfl⟩,⟨t',rfl⟩⟩:=vals2 r
 refine min_two_ints (I.ok.hd hc) fun h' tk k=>⟨_,H,I.kept k,?_,q⟩
 by_cases hj:j<i
 ·rw[if_pos hj,if_pos hj];exact⟨_,rfl⟩
 ·rw[if_neg hj,if_neg hj];exact⟨_,rfl⟩
end
end L2
namespace L2
open PySem PySem.Spec PyProof.Rows
structure Gm(h:Heap)(x dx C:Addr)(mA:Str→Option Value):Prop where
 obj:h.get? x=some (PySem.W.instObj C dx)
 ns:h.Ns1 dx mA
 ne:dx≠x
theorem Ja{h:Heap}{dx:Addr}{mA:Str→Option Value}(n:h.Ns1 dx mA):∃ od,h.get? dx=some od∧∀ name,PySem.W.lookIn name od=some (mA name):=by
 obtain⟨o,es,ep,ho,hd,hk,_,hm⟩:=n
 refine⟨o,ho,fun name=>?_⟩
 have e:=hm name
 unfold nsFind findBy at e
 rw[← Array.find?_toList]at e
 unfold PySem.W.lookIn
 rw[hd]
 dsimp only
 split
 ·rename_i y q
  rw[q]at e
  exact congrArg some e
 ·rename_i q
  rw[q]at e
  have a:es.toList.any (·.refKey)=false:=by
   rw[List.any_eq_false]
   intro y hy
   obtain⟨z,t,hkey⟩:=hk y (Array.mem_toList_iff.mp hy)
   simp[DictEntry.refKey,hkey]
  have a':¬ es.toList.any (·.refKey)=true:=by rw[a];exact uo
  rw[if_neg a']
  exact congrArg some e
theorem Gm.look{h:Heap}{x dx C:Addr}{mA:Str→Option Value}(I:Gm h x dx C mA):∃ od,PySem.W.InstAt h x (PySem.W.instObj C dx) C (some od)∧∀ name,PySem.W.lookIn name od=some (mA name) :=
 let ⟨od,ho,hl⟩:=Ja I.ns
 ⟨od,⟨I.obj,rfl,rfl,ho⟩,hl⟩
section
variable {prog:Program} {w:World} {A:Around} {E:Value→Shared→Prop} {s:Shared} {K:PySem.W.Frag} {x dx C f:Addr} {mA:Str→Option Value} {name:Str} {v:Value}
theorem get_map{expr:Bool}{Q:Value→Shared→Prop}(X:K.In s.heap)(I:Gm s.heap x dx C mA)(hg:PySem.W.plainGet K C name=true)(hh:PySem.W.hasDictIn K C=true)
  (ha:PySem.W.findIn K (.ref C) name=some none) (hv:mA name=some v) (hv':PySem.W.handedIn v=true) (h:Q v { s with toks:=s.toks+1 }) :
  wpAny (model prog w) A (getAttr (.ref x) name expr) Q E s:=by
 obtain⟨od,J,hl⟩:=I.look
 exact PySem.W.get_value X J (PySem.W.plainGet_of hg).1 (PySem.W.findObj_own hh ha rfl (by rw[hl,hv])) hv' h
theorem Ks{pl:Sem Bool}{Q:Value × List Value→Shared→Prop}(X:K.In s.heap)(I:Gm s.heap x dx C mA)(hg:PySem.W.plainGet K C name=true)
  (hf:PySem.W.findIn K (.ref C) name=some (some (.ref f))) (ht:PySem.W.isFn K (.ref f)=true) (hv:mA name=none) (h:Q (.ref f,[.ref x]) s) :
  wpAny (model prog w) A (getMethod (.ref x) name pl) Q E s:=by
 obtain⟨od,J,hl⟩:=I.look
 exact PySem.W.method_fn X J (PySem.W.plainGet_of hg).1 (PySem.W.plainGet_of hg).2 hf (beq_iff_eq.mp ht) (by show (PySem.W.lookIn name od).map (·.isSome)=some false;rw[hl,hv];rfl) h
theorem MC{ns:List Str}{Q:Unit→Shared→Prop}(X:K.In s.heap)(I:Gm s.heap x dx C mA)
  (hs:PySem.W.findIn K (.ref C) "__setattr__"=some (some (.builtin "object.__setattr__"))) (hp:PySem.W.plainOver K C=true) (ht:PySem.W.takerIn K C name=some none) (hh:PySem.W.hasDictIn K C=true)
  (hw:PySem.Within mA ns) (hsz:ns.length≤sizeLine)
  (h:∀ h',Gm h' x dx C (fun y=>if y=name then some v else mA y)→Heap.SameBut dx s.heap h'→Q () { s with heap:=h',toks:=s.toks+2 }) :
  wpAny (model prog w) A (setAttr (.ref x) name v) Q E s:=by
 obtain⟨od,J,hl⟩:=I.look
 refine PySem.W.set_plain X J hs (PySem.W.osa_open (s:={ s with toks:=s.toks+1 }) (r:=none) X J hp ht fun b=>?_)
 obtain⟨cd,hc,hd'⟩:=PySem.W.any_some hh
 have hx:s.heap.get? x=some ⟨.ref C,some dx,.plain,#[]⟩:=I.obj
 refine wpAny_bind (wpAny_pure (wpAny_bind (wpAny_bind (wpAny_loadPart hx (wpAny_bind (PySem.W.Looks.here (s:={ s with toks:=s.toks+1 }) (PySem.W.looks_clsIn X hc) ?_))))))
 rw[hd']
 refine wpAny_pure (a:=some dx) (wpAny_bind (wpAny_pure (wpAny_bind ?_)))
 refine wpAny_nsSet1 (s:={ s with toks:=s.toks+1 }) I.ns fun h' hn2 hs2=>?_
 obtain⟨oD,esD,epD,hoD,hdD,hcD⟩:=hn2.count (PySem.Within.cons name v hw)
 refine wpAny_bind (wpAny_lookBehind hoD (by rw[hdD];exact pastItsLine_dict (lO hcD (by rw[pP];omega))) ?_)
 exact wpAny_pure (h _ ⟨(hs2.2 _ (Ne.symm I.ne)).trans I.obj,hn2,I.ne⟩ hs2)
theorem Ku{R:Result→Shared→Prop}{vs:List Value}{kw:List (Str × Value)}(X:K.In s.heap)(hm:PySem.W.makesIn K C=true)
  (hi:PySem.W.findIn K (.ref C) "__init__"=some (some (.ref f))) (hf:PySem.W.typeIn K (.ref f)=some (.type "function"))
  (h:codeAny (model prog w) (A.under (.builtin "type.__call__" ⟨.ref C::vs,kw⟩)) (.call (.ref f) ⟨.ref (s.heap.objs.size+1)::vs,kw⟩) (PySem.W.InitBack (s.heap.objs.size+1) R)
   { s with heap:=(s.heap.push PySem.W.emptyDict).push (PySem.W.instObj C s.heap.objs.size) }) :
  codeAny (model prog w) A (.call (.ref C) ⟨vs,kw⟩) R s:=by
 obtain⟨hh,g,d,t,os⟩:=s
 exact PySem.W.make_core (PySem.W.makes_of X hm) (PySem.W.looks_findIn X hi) (fun self=>PySem.W.bind_fn X self hf) (.inl rfl) h
end
def dJ(f:Str)(v:V):List (Str × V)→List (Str × V)
 | []=>[(f,v)]
 | (g,x)::r=>if g=f then (g,v)::r else (g,x)::dJ f v r
theorem xZ(f g:Str)(v:V):∀ fs:List (Str × V),(dJ f v fs).lookup g=if g=f then some v else fs.lookup g
 | []=>by
  show List.lookup g [(f,v)]=_
  by_cases h:g=f
  ·have hb:(g == f)=true:=beq_iff_eq.mpr h
   simp only[List.lookup,hb,if_pos h]
  ·have hb:(g == f)=false:=beq_eq_false_iff_ne.mpr h
   simp only[List.lookup,hb,if_neg h]
 | (k,x)::r=>by
  have ih:=xZ f g v r
  rw[show dJ f v ((k,x)::r)=(if k=f then (k,v)::r else (k,x)::dJ f v r) from rfl]
  by_cases hk:k=f
  ·rw[if_pos hk]
   by_cases h:g=k
   ·have hb:(g == k)=true:=beq_iff_eq.mpr h
    simp only[List.lookup,hb,if_pos (h.trans hk)]
   ·have hb:(g == k)=false:=beq_eq_false_iff_ne.mpr h
    simp only[List.lookup,hb,if_neg (fun e:g=f=>h (e.trans hk.symm))]
  ·rw[if_neg hk]
   by_cases h:g=k
   ·have hb:(g == k)=true:=beq_iff_eq.mpr h
    simp only[List.lookup,hb,if_neg (fun e:g=f=>hk (h.symm.trans e))]
   ·have hb:(g == k)=false:=beq_eq_false_iff_ne.mpr h
    simp only[List.lookup,hb]
    exact ih
theorem wW(f:Str)(v:V):∀ fs:List (Str × V),f∈(dJ f v fs).map (·.1)∧∀ g,g∈fs.map (·.1)→g∈(dJ f v fs).map (·.1)
 | []=>⟨by simp[dJ],fun g h=>by simp at h⟩
 | (k,x)::r=>by
  obtain⟨i1,i2⟩:=wW f v r
  rw[show dJ f v ((k,x)::r)=(if k=f then (k,v)::r else (k,x)::dJ f v r) from rfl]
  by_cases hk:k=f
  ·rw[if_pos hk]
   subst hk
   exact⟨by simp,fun g h=>by simpa using h⟩
  ·rw[if_neg hk]
   refine⟨?_,fun g h=>?_⟩
   ·rw[lS]
    exact tY _ i1
   ·rw[lS]at h ⊢
    rcases List.mem_cons.mp h with e|e
    ·exact List.mem_cons.mpr (.inl e)
    ·exact tY _ (i2 g e)
theorem ya(f:Str)(v:V):∀ fs:List (Str × V),(dJ f v fs).length≤fs.length+1
 | []=>by simp[dJ]
 | (k,x)::r=>by
  have ih:=ya f v r
  rw[show dJ f v ((k,x)::r)=(if k=f then (k,v)::r else (k,x)::dJ f v r) from rfl]
  by_cases hk:k=f
  ·rw[if_pos hk,pP,pP];omega
  ·rw[if_neg hk,pP,pP];omega
theorem tZ.some_of{v:V}{o:Option Value}(r:tZ (some v) o):∃ u,o=some u∧RelV v u:=by
 cases o with
 | none=>exact (show False from r).elim
 | some u=>exact⟨u,rfl,r⟩
theorem tZ.none_of{o:Option Value}(r:tZ none o):o=none:=by
 cases o with
 | none=>rfl
 | some u=>exact (show False from r).elim
theorem Jb{v:V}{u:Value}(r:RelV v u):PySem.W.handedIn u=true:=by
 cases v with
 | jc=>cases (show u=Value.none from r);rfl
 | bl b=>cases (show u=Value.bool b from r);rfl
 | int i=>obtain⟨t,e⟩:=(show ∃ t,u=Value.int i t from r);cases e;rfl
 | str x=>obtain⟨t,e⟩:=(show ∃ t,u=Value.str x t from r);cases e;rfl
 | Ge b=>obtain⟨t,e⟩:=(show ∃ t,u=Value.bytes b t from r);cases e;rfl
 | NS b=>obtain⟨t,e⟩:=(show ∃ t,u=Value.float b t from r);cases e;rfl
 | ref a=>cases (show u=Value.ref a from r);rfl
 | ty n=>cases (show u=Value.type n from r);rfl
section
variable {P:Program} {w:World} {H H':Hp} {h h':Heap} {a C dx:Addr} {fs fs':List (Str × V)}
theorem yU(hok:rV P w H h)(e:H a=some (.ins C dx fs)):∃ mA,Gm h a dx C mA∧(∀ f,tZ (fs.lookup f) (mA f))∧PySem.Within mA (fs.map (·.1))∧fs.length≤1000∧H dx=some (.own a):=by
 obtain⟨d,z,ne,ob,mA,n,r,q⟩:=(show gK P w H h a (.ins C dx fs) from hok a _ e)
 exact⟨mA,⟨ob,n,ne⟩,r,q,z,d⟩
end
structure AZ(K:PySem.W.Frag)(C:Addr):Prop where
 pg:PySem.W.plainGet K C Str.empty=true
 hd:PySem.W.hasDictIn K C=true
 po:PySem.W.plainOver K C=true
 sa:PySem.W.findIn K (.ref C) "__setattr__"=some (some (.builtin "object.__setattr__"))
theorem AZ.get{K:PySem.W.Frag}{C:Addr}(c:AZ K C)(f:Str):PySem.W.plainGet K C f=true:=c.pg
def bh(K:PySem.W.Frag)(C:Addr)(f:Str):Prop:=PySem.W.findIn K (.ref C) f=some none
theorem bh.Ry{K:PySem.W.Frag}{C:Addr}{f:Str}(n:bh K C f):PySem.W.takerIn K C f=some none:=by
 unfold PySem.W.takerIn
 rw[show PySem.W.findIn K (.ref C) f=some none from n]
 rfl
structure Meth(K:PySem.W.Frag)(C:Addr)(m:Str)(f:Addr):Prop where
 at_:PySem.W.findIn K (.ref C) m=some (some (.ref f))
 fn:PySem.W.isFn K (.ref f)=true
 kp:PySem.W.keepIn K (.ref f)=true
section
variable {X:Cx} {pins:List (Addr × Obj)} {σ:St} {H:Hp} {s:Shared} {a C dx:Addr} {fs:List (Str × V)} {f:Str} {v:V} {A:Around} {E:Value→Shared→Prop}
theorem zC{b:Bool}{Q:Value→Shared→Prop}(I:Inv X pins σ H s)(e:H a=some (.ins C dx fs))(c:AZ X.K C)(n:bh X.K C f)(l:fs.lookup f=some v)
  (h:∀ u s',Inv X pins σ H s'→RelV v u→Q u s'):wpAny (model X.prog X.w) A (getAttr (.ref a) f b) Q E s:=by
 obtain⟨mA,O,r,_,_,_⟩:=yU I.hok e
 obtain⟨u,hu,ru⟩:=tZ.some_of (v:=v) (o:=mA f) (by rw[← l];exact r f)
 exact get_map I.vE O (c.get f) c.hd n hu (Jb ru) (h u _ (I.tok _) ru)
theorem uN{m:Str}{g:Addr}{pl:Sem Bool}{Q:Value × List Value→Shared→Prop}(I:Inv X pins σ H s)(e:H a=some (.ins C dx fs))(c:AZ X.K C)(k:Meth X.K C m g)(l:fs.lookup m=none)
  (h:Q (.ref g,[.ref a]) s):wpAny (model X.prog X.w) A (getMethod (.ref a) m pl) Q E s:=by
 obtain⟨mA,O,r,_,_,_⟩:=yU I.hok e
 have hn:mA m=none:=tZ.none_of (by rw[← l];exact r m)
 exact Ks I.vE O (c.get m) k.at_ k.fn hn h
theorem zD{y:V}{u:Value}{Q:Unit→Shared→Prop}(I:Inv X pins σ H s)(e:H a=some (.ins C dx fs))(c:AZ X.K C)(n:bh X.K C f)(hl:fs.length<1000)(ry:RelV y u)
  (h:∀ s',Inv X pins σ (upd H a (.ins C dx (dJ f y fs))) s'→Q () s'):wpAny (model X.prog X.w) A (setAttr (.ref a) f u) Q E s:=by
 obtain⟨mA,O,r,wi,_,ho⟩:=yU I.hok e
 have hz:(fs.map (·.1)).length≤sizeLine:=by rw[dW,sizeLine_eq];omega
 refine MC I.vE O c.sa c.po n.Ry c.hd wi hz fun h' O' sb=>h _ ?_
 have hd:∃ o,h'.get? dx=some o:=let ⟨o,_,_,e',_⟩:=O'.ns;⟨o,e'⟩
 refine I.write (x:=a) (e:=dx) (by rw[e];exact True.intro) (.inr ho) (fun b q hb z=>(sb.2 b hb).trans z) hd ?_
 refine⟨by rw[aM O.ne];exact ho,?_,O.ne,O'.obj,_,O'.ns,fun g=>?_,fun g hg=>?_⟩
 ·have:=ya f y fs;omega
 ·show tZ ((dJ f y fs).lookup g) (if g=f then some u else mA g)
  rw[xZ]
  by_cases q:g=f
  ·rw[if_pos q,if_pos q];exact ry
  ·rw[if_neg q,if_neg q];exact r g
 ·by_cases q:g=f
  ·rw[q];exact (wW f y fs).1
  ·refine (wW f y fs).2 g (wi g fun z=>hg ?_)
   show (if g=f then some u else mA g)=none
   rw[if_neg q];exact z
theorem Inv.made(I:Inv X pins σ H s):Inv X pins σ (upd (upd H s.heap.objs.size (.own (s.heap.objs.size+1))) (s.heap.objs.size+1) (.ins C s.heap.objs.size []))
  { s with heap:=(s.heap.push PySem.W.emptyDict).push (PySem.W.instObj C s.heap.objs.size) }:=by
 have e1:(s.heap.push PySem.W.emptyDict).get? s.heap.objs.size=some PySem.W.emptyDict:=Heap.get?_push_size s.heap rfl
 have e2:((s.heap.push PySem.W.emptyDict).push (PySem.W.instObj C s.heap.objs.size)).get? (s.heap.objs.size+1)=some (PySem.W.instObj C s.heap.objs.size):=by
  have:=Heap.get?_push_size (s.heap.push PySem.W.emptyDict) (o:=PySem.W.instObj C s.heap.objs.size) rfl
  rwa [Heap.size_push]at this
 have e3:(s.heap.push PySem.W.emptyDict).Ns s.heap.objs.size (fun _=>none):=⟨PySem.W.emptyDict,#[],_,e1,rfl,(fun e he=>absurd he (by simp)),fun _=>rfl⟩
 have I1:=I.laid (a:=s.heap.objs.size) (o:=.own (s.heap.objs.size+1)) (h':=s.heap.push PySem.W.emptyDict) (t':=s.toks) (fun b u q=>Heap.get?_push_of_some _ q) (jj _) ⟨_,e1⟩
 refine I1.laid (a:=s.heap.objs.size+1) (o:=.ins C s.heap.objs.size []) (t':=s.toks) (fun b u q=>Heap.get?_push_of_some _ q) (Nat.le_of_eq (Heap.size_push _ _)) ?_
 have ne:s.heap.objs.size≠s.heap.objs.size+1:=kO (Nat.lt_succ_self _)
 refine⟨by rw[aM ne,ah],Nat.zero_le _,ne,e2,fun _=>none,(Heap.Ns1.of_empty e3).at fun o q=>Heap.get?_push_of_some _ q,fun _=>True.intro,fun y hy=>absurd rfl hy⟩
theorem MD{prog:Program}{w:World}{env:Env}{e:Expr}{f:Str}{pos:Pos}{s:Shared}{Q:Value→Shared→Prop}(hb:attributeBase e f env (eval e env)=eval e env)
  (h:wpAny (model prog w) A (eval e env) (fun o s₁=>wpAny (model prog w) A (getAttr o f true) Q E s₁) E s):wpAny (model prog w) A (eval (.Attribute e f pos) env) Q E s :=
 Attribute_any_ h (by rw[arm_eval_Attribute,hb])
end
inductive Rz(K:PySem.W.Frag)(f:Str)(x:V)(H:Hp)(Q:VK):Prop
 | mk (a C dx:Addr) (fs:List (Str × V)) (v:V) (_:x=.ref a) (_:H a=some (.ins C dx fs)) (_:AZ K C) (_:bh K C f) (_:fs.lookup f=some v) (_:Q v H):Rz K f x H Q
def Vj(K:PySem.W.Frag)(ta:TE)(f:Str):TE:=fun σ H Q=>ta σ H fun x H1=>Rz K f x H1 Q
def Vk(K:PySem.W.Frag)(ta tv:TE)(f:Str):TS:=fun D σ H=>tv σ H fun y H1=>ta σ H1 fun x H2=>∃ a C dx fs,x=.ref a∧H2 a=some (.ins C dx fs)∧AZ K C∧bh K C f∧fs.length<1000 ∧
 D.nx σ (upd H2 a (.ins C dx (dJ f y fs)))
def RA(X:Cx)(op:Operator)(rd:V→V→Hp→VK→Prop):Prop :=
 ∀ (pins:List (Addr × Obj)) (s:Shared) (σ:St) (H:Hp) (x y:V) (u v:Value) (Q:VK),Inv X pins σ H s→RelV x u→RelV y v→rd x y H Q→wpAny (model X.prog X.w) X.A (inplaceOp op u v) (EP X pins σ Q) X.xe s
def ME(K:PySem.W.Frag)(ta tv:TE)(rd:V→V→Hp→VK→Prop)(f:Str):TS:=fun D σ H=>ta σ H fun x H1=>∃ a C dx fs v,x=.ref a∧H1 a=some (.ins C dx fs)∧AZ K C∧bh K C f∧fs.lookup f=some v ∧
 tv σ H1 fun y H2=>rd v y H2 fun z H3=>∃ Vl fs',H3 a=some (.ins C Vl fs')∧fs'.length<1000∧D.nx σ (upd H3 a (.ins C Vl (dJ f z fs')))
section
variable {X:Cx} {o e value:Expr} {f:Str} {pos pos' tpos:Pos} {ta tv:TE}
theorem cW(he:PE X e ta)(hb:attributeBase e f X.env (eval e X.env)=eval e X.env):PE X (.Attribute e f pos) (Vj X.K ta f):=by
 intro pins s σ H Q I h
 refine MD hb (cE (he pins s σ H _ I h) fun u s1 ⟨x,H1,I1,rx,a,C,dx,fs,v,ex,ea,c,n,l,q⟩=>?_)
 subst ex
 obtain rfl:u=Value.ref a:=rx
 exact zC I1 ea c n l fun u' s2 I2 ru=>⟨v,H1,I2,ru,q⟩
theorem j8(ha:PE X o ta)(hv:PE X value tv)(hs:swapsWith value (some (.Attribute o f pos')) pos.line X.env=pure false):PS X (.Assign [.Attribute o f pos'] value pos) (Vk X.K ta tv f):=by
 intro pins s σ H D I h
 refine plainObj_wpAny_Assign_Attribute (cE (hv pins s σ H _ I h) fun u s1 ⟨y,H1,I1,ry,q⟩=>cE (ha pins s1 σ H1 _ I1 q) fun ov s2 ⟨x,H2,I2,rx,a,C,dx,fs,ex,ea,c,n,l,q2⟩=>?_) hs
 subst ex
 obtain rfl:ov=Value.ref a:=rx
 exact zD I2 ea c n l ry fun s3 I3=>⟨σ,_,I3,q2⟩
theorem wX{op:Operator}{rd:V→V→Hp→VK→Prop}(ha:PE X o ta)(hv:PE X value tv)(hop:RA X op rd):PS X (.AugAssign (.Attribute o f tpos) op value pos) (ME X.K ta tv rd f):=by
 intro pins s σ H D I h
 refine wpAny_AugAssign_AttributeAny (cE (ha pins s σ H _ I h) fun ov s1 ⟨x,H1,I1,rx,a,C,dx,fs,v,ex,ea,c,n,l,q⟩=>?_)
 subst ex
 obtain rfl:ov=Value.ref a:=rx
 refine zC I1 ea c n l fun u s2 I2 ru=>cE (hv pins s2 σ H1 _ I2 q) fun w3 s3 ⟨y,H2,I3,ry,q3⟩=>cE (hop pins s3 σ H2 v y u w3 _ I3 ru ry q3) fun w4 s4 ⟨z,H3,I4,rz,Vl,fs',ea',l',q4⟩=>?_
 exact zD I4 ea' c n l' rz fun s5 I5=>⟨σ,_,I5,q4⟩
end
section
variable {X:Cx} {pins:List (Addr × Obj)} {σ:St} {H:Hp} {s:Shared} {A:Around} {E:Value→Shared→Prop} {Q:Value→Shared→Prop} {c:Value} {b:Bool}
inductive mL(K:PySem.W.Frag)(H:Hp):V→Value→Prop where
 | jc:mL K H .jc (.type "NoneType")
 | bl (x:Bool):mL K H (.bl x) (.type "bool")
 | int (i:Int):mL K H (.int i) (.type "int")
 | str (x:Str):mL K H (.str x) (.type "str")
 | NS (x:UInt64):mL K H (.NS x) (.type "float")
 | lst {a:Addr} {xs:List V} (e:H a=some (.lst xs)):mL K H (.ref a) (.type "list")
 | Gg {a:Addr} {o:Obj} {xs:List V} (e:H a=some (.Gg o (.lst xs))):mL K H (.ref a) (.type "list")
 | tup {a:Addr} {xs:List V} (e:H a=some (.tup xs)):mL K H (.ref a) (.type "tuple")
 | dK {a:Addr} {kvs:List (Key × V)} (e:H a=some (.dK kvs)):mL K H (.ref a) (.type "dict")
 | dT {a:Addr} {kvs:List (List Key × V)} (e:H a=some (.dT kvs)):mL K H (.ref a) (.type "dict")
 | ins {a C dx:Addr} {fs:List (Str × V)} (e:H a=some (.ins C dx fs)) (cl:AZ K C) (ha:PySem.W.findIn K (.ref C) "__class__"=some (some (.builtin "object.__class__")))
   (hn:PySem.W.specialIn K (.builtin "object.__class__") "__get__"=some (some (.builtin "getset_descriptor.__get__"))) (htk:PySem.W.takesIn K (.builtin "object.__class__")=some true)
   (hm:PySem.W.mroIn K C (.type "object")=some true):mL K H (.ref a) (.ref C)
theorem Jc{x:V}{u t:Value}(I:Inv X pins σ H s)(rx:RelV x u)(ty:mL X.K H x t)(e:PySem.W.kitOne X.K t c=some b)(h:∀ tk,Q (.bool b) { s with toks:=tk }) :
  wpAny (model X.prog X.w) A (call (.builtin "isinstance") [u,c]) Q E s:=by
 cases ty with
 | jc=>cases (show u=Value.none from rx);exact PySem.W.kia_one PySem.W.kitx_none I.vE True.intro e (fun z=>nomatch z) h
 | bl y=>cases (show u=Value.bool y from rx);exact PySem.W.kia_one PySem.W.kitx_bool I.vE True.intro e (fun z=>nomatch z) h
 | int i=>obtain⟨t,q⟩:=(show ∃ t,u=Value.int i t from rx);cases q;exact PySem.W.kia_one PySem.W.kitx_int I.vE True.intro e (fun z=>nomatch z) h
 | str y=>obtain⟨t,q⟩:=(show ∃ t,u=Value.str y t from rx);cases q;exact PySem.W.kia_one PySem.W.kitx_str I.vE True.intro e (fun z=>nomatch z) h
 | NS y=>obtain⟨t,q⟩:=(show ∃ t,u=Value.float y t from rx);cases q;exact PySem.W.kia_one PySem.W.kitx_float I.vE True.intro e (fun z=>nomatch z) h
 | @lst a xs ea =>
  cases (show u=Value.ref a from rx)
  obtain⟨_,_,n,_,h1⟩:=(show gK X.prog X.w H s.heap a (.lst xs) from I.hok a _ ea)
  exact PySem.W.kia_one PySem.W.kitx_list I.vE ⟨_,h1,rfl⟩ e (fun z=>nomatch z) h
 | @Gg a ob xs ea =>
  cases (show u=Value.ref a from rx)
  obtain⟨_,_,_,n,_,h1⟩:=(show gK X.prog X.w H s.heap a (.Gg ob (.lst xs)) from I.hok a _ ea)
  exact PySem.W.kia_one PySem.W.kitx_list I.vE ⟨_,h1,rfl⟩ e (fun z=>nomatch z) h
 | @tup a xs ea =>
  cases (show u=Value.ref a from rx)
  obtain⟨_,_,_,p⟩:=(show gK X.prog X.w H s.heap a (.tup xs) from I.hok a _ ea)
  obtain⟨o,h1,h2,_⟩:=p
  exact PySem.W.kia_one PySem.W.kitx_tuple I.vE ⟨o,h1,h2⟩ e (fun z=>nomatch z) h
 | @dK a kvs ea =>
  cases (show u=Value.ref a from rx)
  obtain⟨_,_,vs,_,p⟩:=(show gK X.prog X.w H s.heap a (.dK kvs) from I.hok a _ ea)
  obtain⟨o,es,ep,h1,h2,_⟩:=p
  exact PySem.W.kia_one PySem.W.kitx_dict I.vE ⟨o,h1,h2.1⟩ e (fun z=>nomatch z) h
 | @dT a kvs ea =>
  cases (show u=Value.ref a from rx)
  obtain⟨_,_,xs,_,o,es,ep,h1,h2,_⟩:=(show gK X.prog X.w H s.heap a (.dT kvs) from I.hok a _ ea)
  exact PySem.W.kia_one PySem.W.kitx_dict I.vE ⟨o,h1,h2.1⟩ e (fun z=>nomatch z) h
 | @ins a C dx fs ea cl ha hn htk hm =>
  cases (show u=Value.ref a from rx)
  obtain⟨mA,O,_⟩:=yU I.hok ea
  obtain⟨od,J,_⟩:=O.look
  exact PySem.W.kia_one (PySem.W.kitx_own (cl.get _) cl.hd ha hn htk hm) I.vE J e (fun z=>nomatch z) h
end
end L2
namespace L2
open PySem PySem.Spec PyProof.Rows
structure j9(k:Nat)(A:Around):Prop where
 hd:A.handled=none
 dp:A.depth+3*k+5<recursionLimit
 un:A.units+16*k+200<cLine
theorem j9.mono{j k:Nat}{A:Around}(r:j9 k A)(h:j≤k):j9 j A:=⟨r.hd,by have:=r.dp;omega,by have:=r.un;omega⟩
theorem j9.deeper{k:Nat}{A:Around}(r:j9 (k+1) A)(env:Env):j9 k (A.deeper env) :=
 ⟨r.hd,by have:=r.dp;show A.depth+1+3*k+5<_;omega,by have:=r.un;show A.units+3+16*k+200<_;omega⟩
theorem Gn{A:Around}{C:Addr}{us:List Value}{kw:List (Str × Value)}:(A.under (.builtin "type.__call__" ⟨.ref C::us,kw⟩)).depth=A.depth+1:=by
 first|rfl|simp[Around.under,Code.weight,Code.isCreation,Code.isGuard,Code.isCaller,Code.frames,Code.isFrame,guardIds]
theorem Gp{A:Around}{C:Addr}{us:List Value}{kw:List (Str × Value)}:(A.under (.builtin "type.__call__" ⟨.ref C::us,kw⟩)).units=A.units+1:=by
 first|rfl|simp[Around.under,Code.cUnits,Code.frames,Code.isFrame]
theorem j9.make{k:Nat}{A:Around}(r:j9 (k+1) A)(C:Addr)(us:List Value)(kw:List (Str × Value)):j9 k (A.under (.builtin "type.__call__" ⟨.ref C::us,kw⟩)) :=
 ⟨r.hd,by have:=r.dp;rw[Gn];omega,by have:=r.un;rw[Gp];omega⟩
theorem j9.depth{k:Nat}{A:Around}(r:j9 k A):A.depth<recursionLimit:=by have:=r.dp;omega
theorem j9.units{k:Nat}{A:Around}(r:j9 k A):A.units+64<cLine:=by have:=r.un;omega
def Pb:TA:=fun _ H Q=>Q [] H
def RB(ta:TE)(tr:TA):TA:=fun σ H Q=>ta σ H fun x H1=>tr σ H1 fun xs H2=>Q (x::xs) H2
section
variable {X:Cx} {e:Expr} {es:List Expr} {te:TE} {t:TA} {pos:Pos}
theorem aj:PA X [] Pb:=fun _ _ _ _ H Q I h=>Calls.spliced_nil ⟨[],H,I,.nil,h⟩
theorem af(ha:PE X e te)(hr:PA X es t)(hs:starEach (e::es) X.env=(false,eval e X.env)::starEach es X.env:=by rfl):PA X (e::es) (RB te t):=by
 intro pos pins s σ H Q I h
 rw[hs]
 show wpAny _ _ (spliced ((false,eval e X.env)::backTo pos (starEach es X.env))) _ _ s
 refine Calls.spliced_cons (cE (ha pins s σ H _ I h) fun u s1 ⟨x,H1,I1,r1,q1⟩=>?_)
 exact cE (hr pos pins s1 σ H1 _ I1 q1) fun us s2 ⟨xs,H2,I2,r2,q2⟩=>⟨x::xs,H2,I2,.cons r1 r2,q2⟩
def Vm(t:TA):TE:=fun σ H Q=>t σ H fun xs H1=>xs.length≤sizeLine∧∀ p,H1 p=none→Q (.ref p) (upd H1 p (.tup xs))
def Vn(t:TA):TE:=fun σ H Q=>t σ H fun xs H1=>xs.length≤sizeLine∧∀ p,H1 p=none→Q (.ref p) (upd H1 p (.lst xs))
theorem fF{x1}(h:PA X es t):PE X (.Tuple es x1 pos) (Vm t):=by
 intro pins s σ H Q I hq
 refine wpAny_Tuple_spliced (cE (h pos pins s σ H _ I hq) fun us s1 ⟨xs,H1,I1,r,z,q⟩=>⟨by rw[← r.length];exact z,?_⟩)
 have hf:H1 s1.heap.objs.size=none:=I1.hok.fresh (jj _)
 refine⟨.ref s1.heap.objs.size,upd H1 s1.heap.objs.size (.tup xs),I1.laid (t':=s1.toks) (fun b u e=>Heap.get?_push_of_some _ e) (jj _) ?_,rfl,q _ hf⟩
 exact⟨z,us,r,⟨_,Heap.get?_push_size _ rfl,rfl,_,rfl⟩⟩
theorem bW(h:PA X es t):PE X (.List es pos) (Vn t):=by
 intro pins s σ H Q I hq
 refine wpAny_List_spliced (cE (h pos pins s σ H _ I hq) fun us s1 ⟨xs,H1,I1,r,z,q⟩=>⟨by rw[← r.length];exact z,?_⟩)
 have hf:H1 s1.heap.objs.size=none:=I1.hok.fresh (jj _)
 refine⟨.ref s1.heap.objs.size,upd H1 s1.heap.objs.size (.lst xs),I1.laid (t':=s1.toks) (fun b u e=>Heap.get?_push_of_some _ e) (jj _) ?_,rfl,q _ hf⟩
 exact⟨z,us,0,r,Heap.get?_push_size _ rfl⟩
end
abbrev Sp:=List V→Hp→VK→XK→Prop
abbrev J5:=List Env→Hp→Shared→XK→Value→Shared→Prop
structure Gq(P:Program)(w:World)(K:PySem.W.Frag)(mg:Str→Option Value)(base:Heap)(A:Around)(outer:List Env)(s:Shared)(H:Hp):Prop where
 frames:A.frames=some outer
 mod:Mod K mg base
 bs:∀ b o,base.get? b=some o→s.heap.get? b=some o∧H b=none
 Kh:base.objs.size≤s.heap.objs.size
 t9:s.heap.FunFrames base outer
 Ms:∀ b∈frs outer,H b=none
 hok:rV P w H s.heap
 bare:AllBare s.gens
def CE(outer:List Env)(P:Program)(w:World)(H:Hp)(s:Shared)(Q:VK)(u:Value)(s':Shared):Prop :=
 ∃ v H',s'.os=s.os∧AllBare s'.gens∧Un (frs outer) [] H H' s.heap s'.heap∧rV P w H' s'.heap∧RelV v u∧Q v H'
def CR(CX:J5)(outer:List Env)(P:Program)(w:World)(H:Hp)(s:Shared)(Q:VK)(E:XK)(r:Result)(s':Shared):Prop :=
 match r with
 | .ok (.ret u)=>CE outer P w H s Q u s'
 | .ok _=>False
 | .error e=>CX outer H s E e s'
structure aH(P:Program)(w:World)(K:PySem.W.Frag)(mg:Str→Option Value)(base:Heap)(CX:J5)(k:Nat)(f:Addr)(fd:FuncData)(ps:List Str)(sp:Sp):Prop where
 len:∀ vs H Q E,sp vs H Q E→vs.length=ps.length
 run:∀ (A:Around) (outer:List Env) (s:Shared) (H:Hp) (args:Args) (us:List Value) (vs:List V) (Q:VK) (E:XK),j9 k A→Gq P w K mg base A outer s H→BindsTo s fd args (ps.zip us)→Vals vs us→sp vs H Q E →
  codeAny (model P w) A (.call (.ref f) args) (CR CX outer P w H s Q E) s
theorem aH.imp{P:Program}{w:World}{K:PySem.W.Frag}{mg:Str→Option Value}{base:Heap}{CX:J5}{k:Nat}{f:Addr}{fd:FuncData}{ps:List Str}{sp sp':Sp}(F:aH P w K mg base CX k f fd ps sp)
  (h:∀ vs H Q E,sp' vs H Q E→sp vs H Q E):aH P w K mg base CX k f fd ps sp' :=
 ⟨fun vs H Q E q=>F.len vs H Q E (h _ _ _ _ q),fun A outer s H args us vs Q E hr he hb hv hs=>F.run A outer s H args us vs Q E hr he hb hv (h _ _ _ _ hs)⟩
theorem Gq.make{P:Program}{w:World}{K:PySem.W.Frag}{mg:Str→Option Value}{base:Heap}{A:Around}{outer:List Env}{s:Shared}{H:Hp}(e:Gq P w K mg base A outer s H)(C:Addr)(us:List Value)(kw:List (Str × Value)) :
  Gq P w K mg base (A.under (.builtin "type.__call__" ⟨.ref C::us,kw⟩)) outer s H:=⟨by first|exact e.frames|(simpa [Around.under,Code.envs,Code.isFrame,pushEnvs] using e.frames),e.mod,e.bs,e.Kh,e.t9,e.Ms,e.hok,e.bare⟩
section
variable {X:Cx} {pins:List (Addr × Obj)} {σ:St} {H:Hp} {s s':Shared}
theorem Inv.Pc(I:Inv X pins σ H s):Gq X.prog X.w X.K X.mg X.base X.A X.stack s H :=
 ⟨I.ok.frames,I.ok.mod,I.bs,lO I.ok.Kh I.sz,I.stack,I.sU,I.hok,I.bare⟩
theorem Inv.after{Q:VK}{u:Value}(I:Inv X pins σ H s)(h:CE X.stack X.prog X.w H s Q u s'):EP X pins σ Q u s':=by
 obtain⟨v,H',os,bare,un,hok,r,q⟩:=h
 obtain⟨hh,g,d,t,os'⟩:=s'
 obtain rfl:os'=s.os:=os
 exact⟨v,H',I.call (h':=hh) (g':=g) (d':=d) (t':=t) (ch:=[]) un hok bare (fun b z=>absurd z (by simp)),r,q⟩
end
def HK(sp:Sp)(Bb:List V)(E:XK)(t:TA):TE:=fun σ H Q=>t σ H fun vs H1=>sp (vs++Bb) H1 Q E
inductive RC(C:Addr)(m:Str)(x:V)(H:Hp)(N:Prop):Prop
 | mk (a dx:Addr) (fs:List (Str × V)) (_:x=.ref a) (_:H a=some (.ins C dx fs)) (_:fs.lookup m=none) (_:N):RC C m x H N
def N3(C:Addr)(m:Str)(sp:Sp)(Bb:List V)(E:XK)(ta:TE)(t:TA):TE:=fun σ H Q=>ta σ H fun x H1=>RC C m x H1 (t σ H1 fun vs H2=>sp (x::(vs++Bb)) H2 Q E)
def RD(C:Addr)(sp:Sp)(Bb:List V)(E:XK)(t:TA):TE:=fun σ H Q=>t σ H fun vs H1=>∀ x dx,H1 x=none→H1 dx=none→dx≠x →
 sp (.ref x::(vs++Bb)) (upd (upd H1 dx (.own x)) x (.ins C dx [])) (fun v H2=>v=.jc∧Q (.ref x) H2) E
def Binds(K:PySem.W.Frag)(fd:FuncData)(ps:List Str)(ds:List Value):Prop :=
 ∀ (s:Shared) (us:List Value),K.In s.heap→(us++ds).length=ps.length→BindsTo s fd ⟨us,[]⟩ (ps.zip (us++ds))
theorem Binds.all{K:PySem.W.Frag}{fd:FuncData}{ps:List Str}(h:∀ us:List Value,us.length=ps.length→bindArgs fd ⟨us,[]⟩=pure (ps.zip us)):Binds K fd ps []:=fun s us _ hl=>by
 rw[j6]at hl ⊢
 exact .of_eq (h us hl)
def Passes(CX:J5)(X:Cx)(E:XK):Prop:=∀ (pins:List (Addr × Obj)) (σ:St) (H:Hp) (s:Shared) (e:Value) (s':Shared),Inv X pins σ H s→CX X.stack H s E e s'→X.xe e s'
section
variable {X:Cx} {CX:J5} {k:Nat} {f C:Addr} {fd:FuncData} {ps:List Str} {sp:Sp} {Bb:List V} {ds:List Value} {E:XK} {x m:Str} {p pos apos:Pos} {e o:Expr} {es:List Expr} {ta:TE} {t:TA}
theorem Gr{pins:List (Addr × Obj)}{σ:St}{H:Hp}{s:Shared}{Q:VK}{us:List Value}{vs:List V}(F:aH X.prog X.w X.K X.mg X.base CX k f fd ps sp)(hr:j9 k X.A)(hb:Binds X.K fd ps ds)(hd:Vals Bb ds)(hx:Passes CX X E)
  (I:Inv X pins σ H s) (r:Vals vs us) (h:sp (vs++Bb) H Q E):wpAny (model X.prog X.w) X.A (call (.ref f) us) (EP X pins σ Q) X.xe s:=by
 have r2:Vals (vs++Bb) (us++ds):=r.append hd
 have hl:(us++ds).length=ps.length:=by rw[← r2.length];exact F.len _ _ _ _ h
 refine wpAny_call (codeAny_mono (F.run X.A X.stack s H ⟨us,[]⟩ (us++ds) (vs++Bb) Q E hr I.Pc (hb s us I.vE hl) r2 h) fun r s' hq=>?_)
 cases r with
 | error e=>exact hx pins σ H s e s' I hq
 | ok fl =>
  cases fl with
  | ret u=>exact I.after hq
  | next=>exact False.elim hq
  | brk=>exact False.elim hq
  | cont=>exact False.elim hq
theorem CV(F:aH X.prog X.w X.K X.mg X.base CX k f fd ps sp)(hr:j9 k X.A)(hg:Gl X x)(hm:X.mg x=some (.ref f))(hk:PySem.W.keepIn X.K (.ref f)=true)(hb:Binds X.K fd ps ds)(hd:Vals Bb ds)(hx:Passes CX X E)
  (ha:PA X (e::es) t) (hdb:(x == ("__debug__":Str))=false:=by decide) (he:starEach (e::es) X.env=(false,eval e X.env)::starEach es X.env:=by rfl) (hpl:(backTo pos (starEach es X.env)).any (·.1)=false:=by rfl) :
  PE X (.Call (.Name x p) (e::es) [] pos) (HK sp Bb E t):=by
 intro pins s σ H Q I h
 refine wpAny_Call_Name_kw (vG I hg hm ?_ hdb)
 refine PySem.W.callWith_K (h₀:=X.base) I.ok.mod.QM hk (cE (ha pos pins s σ H _ I h) fun us s1 ⟨vs,H1,I1,r,q⟩=>⟨I1.vE,?_⟩) he hpl
 exact Gr F hr hb hd hx I1 r q
theorem bC{pl:Sem Bool}(he:PE X o ta)(c:AZ X.K C)(hm:Meth X.K C m f)(F:aH X.prog X.w X.K X.mg X.base CX k f fd ps sp)(hr:j9 k X.A)(hb:Binds X.K fd ps ds)(hd:Vals Bb ds)(hx:Passes CX X E)(ha:PA X (e::es) t)
  (hst:starEach (e::es) X.env=(false,eval e X.env)::starEach es X.env:=by rfl) (hpl:(backTo pos (starEach es X.env)).any (·.1)=false:=by rfl)
  (ht:eval (.Call (.Attribute o m apos) (e::es) [] pos) X.env=(do
   let ov ← eval o X.env
   standAt apos.atName
   let (f,first) ← holding [ov] (getMethod ov m pl)
   callWith pos f first (backTo pos (starEach (e::es) X.env)) (backToKw pos (keywordEach [] X.env))):=by rfl) :
  PE X (.Call (.Attribute o m apos) (e::es) [] pos) (N3 C m sp Bb E ta t):=by
 intro pins s σ H Q I h
 refine PySem.W.methodCall_KW (pl:=pl) (cE (he pins s σ H _ I h) fun u s1 ⟨x,H1,I1,rx,a,dx,fs,ex,ea,l,q⟩=>?_) ht
 subst ex
 obtain rfl:u=Value.ref a:=rx
 refine uN I1 ea c hm l ?_
 refine PySem.W.callWith_K (first:=[.ref a]) (h₀:=X.base) I.ok.mod.QM hm.kp (cE (ha pos pins s1 σ H1 _ I1 q) fun us s2 ⟨vs,H2,I2,r,q2⟩=>⟨I2.vE,?_⟩) hst hpl
 exact Gr (us:=.ref a::us) (vs:=.ref a::vs) F hr hb hd hx I2 (.cons rfl r) q2
theorem bS{pl:Sem Bool}(he:PE X o ta)(c:AZ X.K C)(hm:Meth X.K C m f)(F:aH X.prog X.w X.K X.mg X.base CX k f fd ps sp)(hr:j9 k X.A)(hb:Binds X.K fd ps ds)(hd:Vals Bb ds)(hx:Passes CX X E)
  (ht:eval (.Call (.Attribute o m apos) [] [] pos) X.env=(do
   let ov ← eval o X.env
   standAt apos.atName
   let (f,first) ← holding [ov] (getMethod ov m pl)
   callWith pos f first (backTo pos (starEach [] X.env)) (backToKw pos (keywordEach [] X.env))):=by rfl) :
  PE X (.Call (.Attribute o m apos) [] [] pos) (N3 C m sp Bb E ta Pb):=by
 intro pins s σ H Q I h
 refine PySem.W.methodCall_KW (pl:=pl) (cE (he pins s σ H _ I h) fun u s1 ⟨x,H1,I1,rx,a,dx,fs,ex,ea,l,q⟩=>?_) ht
 subst ex
 obtain rfl:u=Value.ref a:=rx
 refine uN I1 ea c hm l ?_
 exact PySem.W.callWith_K0 (first:=[.ref a]) I1.vE hm.kp (Gr (us:=[.ref a]) (vs:=[.ref a]) F hr hb hd hx I1 (.cons rfl .nil) q)
structure Mk(K:PySem.W.Frag)(C f:Addr):Prop where
 makes:PySem.W.makesIn K C=true
 init:PySem.W.findIn K (.ref C) "__init__"=some (some (.ref f))
 fn:PySem.W.isFn K (.ref f)=true
 kp:PySem.W.keepIn K (.ref C)=true
theorem Kv{pins:List (Addr × Obj)}{σ:St}{H:Hp}{s:Shared}{Q:VK}{us:List Value}{vs:List V}(M:Mk X.K C f)(F:aH X.prog X.w X.K X.mg X.base CX k f fd ps sp)(hr:j9 (k+1) X.A)(hb:Binds X.K fd ps ds)(hd:Vals Bb ds)
  (hx:Passes CX X E) (I:Inv X pins σ H s) (r:Vals vs us)
  (h:∀ x dx,H x=none→H dx=none→dx≠x→sp (.ref x::(vs++Bb)) (upd (upd H dx (.own x)) x (.ins C dx [])) (fun v H2=>v=.jc∧Q (.ref x) H2) E) :
  wpAny (model X.prog X.w) X.A (call (.ref C) us) (EP X pins σ Q) X.xe s:=by
 have hq:=h (s.heap.objs.size+1) s.heap.objs.size (I.hok.fresh (Nat.le_succ _)) (I.hok.fresh (jj _)) (kO (Nat.lt_succ_self _))
 have I2:=Inv.made (C:=C) I
 have r2:Vals (V.ref (s.heap.objs.size+1)::(vs++Bb)) (Value.ref (s.heap.objs.size+1)::(us++ds)):=.cons rfl (r.append hd)
 have hl:(Value.ref (s.heap.objs.size+1)::us++ds).length=ps.length:=by
  have e:=r2.length
  rw[F.len _ _ _ _ hq]at e
  exact e.symm
 refine wpAny_call (Ku (f:=f) I.vE M.makes M.init (beq_iff_eq.mp M.fn) (codeAny_mono (F.run _ X.stack _ _ ⟨Value.ref (s.heap.objs.size+1)::us,[]⟩ (Value.ref (s.heap.objs.size+1)::(us++ds)) _ _ E (hr.make C us [])
  (I2.Pc.make C us []) (hb _ (Value.ref (s.heap.objs.size+1)::us) I2.vE hl) r2 hq) fun r s' hq'=>?_))
 cases r with
 | error e=>exact hx pins σ _ _ e s' I2 hq'
 | ok fl =>
  cases fl with
  | ret u =>
   obtain⟨v,H',I3,rv,ev,q3⟩:=I2.after hq'
   subst ev
   exact⟨rv,⟨V.ref (s.heap.objs.size+1),H',I3,rfl,q3⟩⟩
  | next=>exact False.elim hq'
  | brk=>exact False.elim hq'
  | cont=>exact False.elim hq'
theorem qg(M:Mk X.K C f)(F:aH X.prog X.w X.K X.mg X.base CX k f fd ps sp)(hr:j9 (k+1) X.A)(hg:Gl X x)(hm:X.mg x=some (.ref C))(hb:Binds X.K fd ps ds)(hd:Vals Bb ds)(hx:Passes CX X E)
  (hdb:(x == ("__debug__":Str))=false:=by decide):PE X (.Call (.Name x p) [] [] pos) (RD C sp Bb E Pb):=by
 intro pins s σ H Q I h
 refine wpAny_Call_Name_kw (vG I hg hm ?_ hdb)
 exact PySem.W.callWith_K0 I.vE M.kp (Kv (us:=[]) M F hr hb hd hx I .nil h)
end
structure aL(N P:List Str)(sc:Scope):Prop where
 kind:sc.kind=.function
 co:sc.isCoroutine=false
 gen:sc.isGenerator=false
 nd:N.Nodup
 pre:N.take P.length=P
 par:∀ x∈P,sc.names.lookup x=some .local∨sc.names.lookup x=some .cell
 Pd:∀ y∈sc.names,y.2≠.free
theorem BG{kindOf:Str→Option NameKind}{x:Str}:∀ {binds:List (Str × Value)} {m:Str→Option Value},(∀ v,(x,v)∉binds)→bindL kindOf binds m x=m x
 | [],_,_=>rfl
 | (n,v)::r,m,h=>by
  unfold bindL
  rw[BG fun w hw=>h w (tY _ hw)]
  split
  ·have:x≠n:=by rintro rfl;exact h v uL
   simp[this]
  ·rfl
theorem BH{kindOf:Str→Option NameKind}{x:Str}:∀ {binds:List (Str × Value)} {m:Str→Option Value},(∀ v,(x,v)∉binds)→bindC kindOf binds m x=m x
 | [],_,_=>rfl
 | (n,v)::r,m,h=>by
  unfold bindC
  rw[BH fun w hw=>h w (tY _ hw)]
  split
  ·rfl
  ·have:x≠n:=by rintro rfl;exact h v uL
   simp[this]
theorem BI{kindOf:Str→Option NameKind}{x:Str}{v:Value}:∀ {P:List Str} {vs:List Value} {i:Nat} {m:Str→Option Value},P.Nodup→P[i]?=some x→vs[i]?=some v→kindOf x=some .local →
  bindL kindOf (P.zip vs) m x=some v
 | [],_,_,_,_,h,_,_=>by simp at h
 | _::_,[],_,_,_,_,h,_=>by simp at h
 | p::P,w::vs,0,m,nd,h1,h2,hk=>by
  simp at h1 h2;subst h1;subst h2
  show bindL kindOf ((p,w)::P.zip vs) m p=_
  unfold bindL
  rw[BG fun v hv=>(List.nodup_cons.mp nd).1 (List.of_mem_zip hv).1,if_pos hk]
  simp
 | p::P,w::vs,i+1,m,nd,h1,h2,hk=>by
  show bindL kindOf ((p,w)::P.zip vs) m x=_
  unfold bindL
  exact BI (i:=i) (List.nodup_cons.mp nd).2 (by simpa using h1) (by simpa using h2) hk
theorem BJ{kindOf:Str→Option NameKind}{x:Str}{v:Value}:∀ {P:List Str} {vs:List Value} {i:Nat} {m:Str→Option Value},P.Nodup→P[i]?=some x→vs[i]?=some v→kindOf x≠some .local →
  bindC kindOf (P.zip vs) m x=some v
 | [],_,_,_,_,h,_,_=>by simp at h
 | _::_,[],_,_,_,_,h,_=>by simp at h
 | p::P,w::vs,0,m,nd,h1,h2,hk=>by
  simp at h1 h2;subst h1;subst h2
  show bindC kindOf ((p,w)::P.zip vs) m p=_
  unfold bindC
  rw[BH fun v hv=>(List.nodup_cons.mp nd).1 (List.of_mem_zip hv).1,if_neg hk]
  simp
 | p::P,w::vs,i+1,m,nd,h1,h2,hk=>by
  show bindC kindOf ((p,w)::P.zip vs) m x=_
  unfold bindC
  exact BJ (i:=i) (List.nodup_cons.mp nd).2 (by simpa using h1) (by simpa using h2) hk
def start(N:List Str)(vs:List V):St:=vs.map some++List.replicate (N.length-vs.length) none
def Gs(CX:J5)(P:Program)(w:World)(K:PySem.W.Frag)(mg:Str→Option Value)(base:Heap)(N:List Str)(qual:Str)(scope:Scope)(f:Addr)(cd:Value)(A:Around)(outer:List Env)(s:Shared)(H:Hp)(E:XK):Cx where
 prog:=P
 w:=w
 K:=K
 mg:=mg
 base:=base
 A:=A.deeper (envOfC qual scope s.heap.objs.size f cd)
 N:=N
 s₀:=s
 H₀:=H
 env:=envOfC qual scope s.heap.objs.size f cd
 outer:=outer
 stack:=envOfC qual scope s.heap.objs.size f cd::outer
 ex:=[]
 calm:=true
 fn:=fun _=>true
 pn:=[]
 xe:=fun e s'=>wpAny (model P w) (A.deeper (envOfC qual scope s.heap.objs.size f cd)) (leaving (envOfC qual scope s.heap.objs.size f cd) e) (fun _ s''=>CX outer H s E e s'') (fun e' s''=>CX outer H s E e' s'') s'
theorem Es{sc:Scope}{n:Nat}{x:Str}(h:sc.names.lookup x=some .cell):∃ c,(cellsFrom n sc.names []).lookup x=some c:=by
 have q:=PySem.W.cellsFrom_some sc.names n [] (.inl h)
 exact Option.isSome_iff_exists.mp q
theorem Jd{CX:J5}{P:Program}{w:World}{K:PySem.W.Frag}{mg:Str→Option Value}{base:Heap}{N ps:List Str}{qual:Str}{scope:Scope}{f:Addr}{cd:Value}{A:Around}{outer:List Env}{s s1:Shared}{H:Hp}{E:XK}{us:List Value}{vs:List V}
  (S:aL N ps scope) (hd:A.handled=none) (e0:Gq P w K mg base A outer s H) (hl:vs.length=ps.length) (r:Vals vs us)
  (x:InCallC s s.heap.objs.size (bindL (envOfC qual scope s.heap.objs.size f cd).kindOf (ps.zip us) fun _=>none) (cellsFrom (s.heap.objs.size+1) scope.names []) (bindC (envOfC qual scope s.heap.objs.size f cd).kindOf (ps.zip us) fun _=>none) s1) :
  Inv (Gs CX P w K mg base N qual scope f cd A outer s H E) [] (start N vs) H s1:=by
 have hpl:ps.length≤N.length:=by have:=congrArg List.length S.pre;rw[o6]at this;omega
 obtain⟨h1,tk,rfl,hk⟩:=x.done
 have RE:∀ b:Addr,b∉(Gs CX P w K mg base N qual scope f cd A outer s H E).ex:=fun b z=>absurd (show b∈([]:List Addr) from z) (by simp)
 refine⟨⟨e0.mod,S.kind,rfl,rfl,jj _,fun y z c h1 h2=>?_,fun y hy=>?_,fun y c _ h=>?_,fun _=>hd,Around.frames_deeper e0.frames,.inr ⟨rfl,rfl⟩,fun b z=>absurd z (RE b),e0.bs,e0.Kh,fun b _ _=>RE b,fun b z=>absurd z (RE b),e0.t9,e0.Ms⟩,
  rfl,e0.bare,Un.kept hk,⟨_,x.toInCall.ns,fun i y v h1 h2 h3=>?_⟩,fun y c h=>⟨_,x.cell y c h⟩,e0.hok.fresh (jj _),fun y c h=>?_,fun p hp=>absurd (show p∈([]:List (Addr × Obj)) from hp) (by simp),e0.hok.kept hk,?_⟩
 ·exact name_of_addr x.apart (PySem.mem_of_lookup h1) (PySem.mem_of_lookup h2)
 ·have hy:scope.names.lookup y=some .cell∨scope.names.lookup y=some .free:=hy
  rcases hy with hy|hy
  ·exact Es hy
  ·exact absurd rfl (S.Pd _ (PySem.mem_of_lookup hy))
 ·exact mJ (x.above y c (PySem.mem_of_lookup h))
 ·have hi:i<vs.length:=by
   unfold start at h2
   by_cases hi:i<vs.length
   ·exact hi
   ·rw[A9 (by simpa using hi)]at h2
    rw[List.getElem?_replicate]at h2
    split at h2 <;> cases h2
  have ha:vs[i]?=some v:=by
   unfold start at h2
   rw[wK (by simpa using hi),uq]at h2
   cases e:vs[i]? with
   | none=>rw[e]at h2;cases h2
   | some a=>rw[e]at h2;cases h2;rfl
  obtain⟨u,hu,rv⟩:=r.get ha
  have hp:ps[i]?=some y:=by
   rw[← S.pre,List.getElem?_take_of_lt (by omega)];exact h1
  have ndP:ps.Nodup:=by rw[← S.pre];exact S.nd.sublist (List.take_sublist _ _)
  refine⟨u,rv,?_⟩
  rcases S.par y (nQ hp) with k|k
  ·exact .inl ⟨k,BI ndP hp hu k⟩
  ·obtain⟨c,e⟩:=Es (n:=s.heap.objs.size+1) k
   refine .inr ⟨.inl k,c,e,?_⟩
   have q:=x.cell y c e
   rw[BJ ndP hp hu (by show scope.names.lookup y≠_;rw[k];decide)]at q
   exact q
 ·exact e0.hok.fresh (mJ (x.above y c (PySem.mem_of_lookup h)))
 ·unfold start
  show _=N.length
  rw[eT,dW,rP]
  omega
theorem N4{CX:J5}{P:Program}{w:World}{K:PySem.W.Frag}{mg:Str→Option Value}{base:Heap}{k:Nat}{f:Addr}{name qual:Str}{params:Arguments}{body:List Stmt}{scope:Scope}{dV kV doc pm cdv ct oc:Value}{an od:Option Addr}
  {osl:Array (Option Value)} {N ps:List Str} {sp:Sp} (lk:K.lookup f=some ⟨oc,od,.func (PySem.W.fnOf name qual params body scope dV kV doc pm an cdv ct),osl⟩) (hcd:PySem.W.codeIn K cdv qual=true) (S:aL N ps scope)
  (len:∀ vs H Q E,sp vs H Q E→vs.length=ps.length)
  (hbody:∀ (A:Around) (outer:List Env) (s:Shared) (H:Hp) (vs:List V) (Q:VK) (E:XK),j9 k (A.deeper (envOfC qual scope s.heap.objs.size f cdv))→sp vs H Q E →
   ∃ t,FZ (Gs CX P w K mg base N qual scope f cdv A outer s H E) body t∧t { nx:=fun _ H'=>Q .jc H',rt:=Q } (start N vs) H) :
  aH P w K mg base CX (k+1) f (PySem.W.fnOf name qual params body scope dV kV doc pm an cdv ct) ps sp:=by
 refine⟨len,fun A outer s H args us vs Q E hr e0 hb r Gu=>?_⟩
 have hl:=len _ _ _ _ Gu
 have KX:K.In s.heap:=e0.mod.QM.keeps fun b o e=>(e0.bs b o e).1
 have lim:s.heap.NoLimit:=e0.mod.nolimit.keeps fun b o e=>(e0.bs b o e).1
 have hkind:∀ y∈ps.zip us,scope.names.lookup y.1=some .local∨(scope.names.lookup y.1=some .cell∧((cellsFrom (s.heap.objs.size+1) scope.names []).lookup y.1).isSome=true):=fun ⟨n,v⟩ hy=>by
  rcases S.par n (List.of_mem_zip hy).1 with q|q
  ·exact .inl q
  ·exact .inr ⟨q,PySem.W.cellsFrom_some _ _ _ (.inl q)⟩
 refine codeAny_call_function hr.depth (KX _ _ lk) rfl S.co S.gen rfl (PySem.W.codeRec_of KX hcd) (hb _ _ _ _ ?_)
 refine wpAny_newFunctionEnv_cells S.kind hkind fun env he s1 x=>?_
 subst he
 refine⟨lim.keeps x.toInCall.keep,codeAny_func ?_⟩
 obtain⟨t,ht,hq⟩:=hbody A outer s H vs Q E (hr.deeper _) Gu
 have I:Inv (Gs CX P w K mg base N qual scope f cdv A outer s H E) [] (start N vs) H s1:=Jd S hr.hd e0 hl r x
 refine wpAny_mono (ht [] s1 (start N vs) H _ I hq) (fun fl s' hs=>?_) fun e s' hs=>hs
 have fin:∀ {σ':St} {H':Hp} {v:V} {u:Value},Inv (Gs CX P w K mg base N qual scope f cdv A outer s H E) [] σ' H' s'→RelV v u→Q v H'→CE outer P w H s Q u s' :=
  fun {σ' H' v u} J rv q=>⟨v,H',J.os,J.bare,J.base,J.hok,rv,q⟩
 cases fl with
 | ret u =>
  obtain⟨v,σ',H',J,rv,q⟩:=hs
  exact fin J rv q
 | next =>
  obtain⟨σ',H',J,q⟩:=hs
  exact fin (v:=V.jc) (u:=Value.none) J rfl q
 | brk =>
  obtain⟨_,_,_,q⟩:=hs
  exact False.elim q
 | cont =>
  obtain⟨_,_,_,q⟩:=hs
  exact False.elim q
end L2
namespace L2
open PySem PySem.Spec PyProof.Rows
section
variable {X:Cx} {x:Str} {p pos:Pos} {e:Expr} {es:List Expr} {t:TA} {id T:String} {r:List V→Hp→VK→Prop}
def tCB(r:List V→Hp→VK→Prop)(t:TA):TE:=fun σ H Q=>t σ H fun vs H1=>r vs H1 Q
theorem bL(hc:nj X (.builtin id) r)(hg:Gl X x)(hm:X.mg x=none)(hv:bootBuiltins x=some (.builtin id))(ha:PA X (e::es) t)(hn:x≠"__name__":=by decide)(hdb:(x == ("__debug__":Str))=false:=by decide)
  (he:starEach (e::es) X.env=(false,eval e X.env)::starEach es X.env:=by rfl) (hpl:(backTo pos (starEach es X.env)).any (·.1)=false:=by rfl):PE X (.Call (.Name x p) (e::es) [] pos) (tCB r t):=by
 intro pins s σ H Q I h
 refine wpAny_Call_Name_kw (zw I hg hm hv ?_ hn hdb)
 exact PyProof.Rows.callWith_builtin1 (cE (ha pos pins s σ H _ I h) fun us s1 ⟨vs,H1,I1,r1,q1⟩=>hc pins s1 σ H1 vs us Q I1 r1 q1) he hpl
theorem iB(hc:nj X (.type T) r)(hg:Gl X x)(hm:X.mg x=none)(hv:bootBuiltins x=some (.type T))(ha:PA X (e::es) t)(hn:x≠"__name__":=by decide)(hdb:(x == ("__debug__":Str))=false:=by decide)
  (he:starEach (e::es) X.env=(false,eval e X.env)::starEach es X.env:=by rfl) (hpl:(backTo pos (starEach es X.env)).any (·.1)=false:=by rfl):PE X (.Call (.Name x p) (e::es) [] pos) (tCB r t):=by
 intro pins s σ H Q I h
 refine wpAny_Call_Name_kw (zw I hg hm hv ?_ hn hdb)
 exact PyProof.Rows.callWith_type1 (cE (ha pos pins s σ H _ I h) fun us s1 ⟨vs,H1,I1,r1,q1⟩=>hc pins s1 σ H1 vs us Q I1 r1 q1) he hpl
end
end L2
namespace HT
open PySem PyProof.Rows
section
variable {prog:Program} {w:World} {A:Around} {E:Value→Shared→Prop} {s:Shared}
def jN(n d:Nat):Option Int→Nat
 | none=>d
 | some v=>if v<0 then (v+(n:Int)).toNat else min v.toNat n
theorem HL(n d k:Nat):jN n d (some (k:Int))=min k n:=by
 show (if (k:Int)<0 then ((k:Int)+(n:Int)).toNat else min (k:Int).toNat n)=min k n
 rw[if_neg (by omega),mG]
theorem Pe(n d:Nat)(hd:d≤n)(o:Option Int):jN n d o≤n:=by
 cases o with
 | none=>exact hd
 | some v =>
  show (if v<0 then (v+(n:Int)).toNat else min v.toNat n)≤n
  by_cases hv:v<0
  ·rw[if_pos hv];omega
  ·rw[if_neg hv];exact Nat.min_le_right _ _
theorem HM(v:Int)(n d:Nat):(if v<0 then max (v+(n:Int)) 0 else min v (n:Int))=((jN n d (some v):Nat):Int):=by
 show (if v<0 then max (v+(n:Int)) 0 else min v (n:Int))=(((if v<0 then (v+(n:Int)).toNat else min v.toNat n):Nat):Int)
 by_cases hv:v<0
 ·simp only[if_pos hv];omega
 ·simp only[if_neg hv];omega
theorem Gv(lo hi:Option Int)(n:Nat):Builtin.Slice.sliceAdjust lo hi 1 (n:Int)=(((jN n 0 lo:Nat):Int),((jN n n hi:Nat):Int)):=by
 have h1:¬ ((1:Int)<0):=by omega
 unfold Builtin.Slice.sliceAdjust
 simp only[h1,if_false]
 refine Prod.ext ?_ ?_
 ·cases lo with
  | none=>rfl
  | some v=>exact HM v n 0
 ·cases hi with
  | none=>rfl
  | some v=>exact HM v n n
theorem Gw(i j:Nat):Builtin.Slice.slicePlaces (i:Int) (j:Int) 1=j-i:=by
 unfold Builtin.Slice.slicePlaces
 have h1:(1:Int) > 0:=by omega
 simp only[h1,if_true,Int.ediv_one]
 split <;> omega
theorem zE{v:Value}{o:Option Int}{Q:Option Int→Shared→Prop}(p:IsPart v o)(h:Q o s):wpAny (model prog w) A (Builtin.Slice.slicePartIndex v) Q E s:=by
 cases p with
 | none=>exact slicePart_none h
 | int i t=>exact slicePart_int h
theorem wY{sl:Addr}{vl vu:Value}{lo hi:Option Int}{n:Nat}{Q:Int × Int × Nat→Shared→Prop}(hs:s.heap.IsSliceOf sl vl vu .none)(pl:IsPart vl lo)(pu:IsPart vu hi)
  (h:Q (((jN n 0 lo:Nat):Int),1,jN n n hi-jN n 0 lo) s):wpAny (model prog w) A (Builtin.Slice.sliceApplied (.ref sl) (pure (n:Int))) Q E s:=by
 obtain⟨os,hos,hcs,hds⟩:=id hs
 unfold Builtin.Slice.sliceApplied Builtin.Slice.sliceFields
 refine wpAny_bind (wpAny_bind (wpAny_field hos hds (x:=vl) rfl (wpAny_bind (wpAny_field hos hds (x:=vu) rfl (wpAny_bind (wpAny_field hos hds (x:=.none) rfl (wpAny_pure ?_)))))))
 refine wpAny_bind (slicePart_none ?_)
 show wpAny _ _ (if ((1:Int) == 0)=true then _ else _) _ _ s
 rw[if_neg (by decide)]
 refine wpAny_bind (zE pl (wpAny_bind (zE pu (wpAny_bind (wpAny_pure ?_)))))
 show wpAny _ _ (match Builtin.Slice.sliceAdjust lo hi 1 (n:Int) with|(lo,hi)=>pure (lo,(1:Int),Builtin.Slice.slicePlaces lo hi 1)) _ _ s
 rw[Gv lo hi n]
 show wpAny _ _ (pure (((jN n 0 lo:Nat):Int),(1:Int),Builtin.Slice.slicePlaces ((jN n 0 lo:Nat):Int) ((jN n n hi:Nat):Int) 1)) _ _ s
 rw[Gw]
 exact wpAny_pure h
theorem Kw(xs:Array Value)(i k:Nat):((List.range k).filterMap fun (m:Nat)=>xs[((i:Int)+(m:Int)*1).toNat]?).toArray=((xs.toList.drop i).take k).toArray:=by
 have e:(fun (m:Nat)=>xs[((i:Int)+(m:Int)*1).toNat]?)=fun m=>xs[i+m]?:=by
  funext m
  have:((i:Int)+(m:Int)*1).toNat=i+m:=by omega
  rw[this]
 rw[e]
 have:=pick_run xs i k
 rw[List.filterMap_map]at this
 have e2:((fun x=>xs[x]?) ∘ fun x=>i+x)=fun m=>xs[i+m]?:=rfl
 rw[e2]at this
 rw[this]
theorem vJ{t sl:Addr}{items:Array Value}{vl vu:Value}{lo hi:Option Int}{Q:Value→Shared→Prop}(ht:IsTup s.heap t items)(hs:s.heap.IsSliceOf sl vl vu .none)(pl:IsPart vl lo)(pu:IsPart vu hi)
  (hw:¬ (jN items.size 0 lo=0∧jN items.size items.size hi=items.size))
  (h:Q (.ref s.heap.objs.size) { s with heap:=s.heap.push { cls:=.type "tuple",data:=.seq ((items.toList.drop (jN items.size 0 lo)).take (jN items.size items.size hi-jN items.size 0 lo)).toArray } })
  (hsz:items.size≤sizeLine):wpAny (model prog w) A (getItem (.ref t) (.ref sl)) Q E s:=by
 have HN:sizeOk (.seq ((items.toList.drop (jN items.size 0 lo)).take (jN items.size items.size hi-jN items.size 0 lo)).toArray):=by
  show ((items.toList.drop (jN items.size 0 lo)).take (jN items.size items.size hi-jN items.size 0 lo)).toArray.size≤sizeLine
  rw[j5,o6,List.length_drop,Array.length_toList]
  omega
 have hj:jN items.size items.size hi≤items.size:=Pe _ _ (jj _) hi
 obtain⟨os,hos,hcs,hds⟩:=id hs
 have hTs:s.TypeIs (.ref sl) "slice":=⟨os,hos,hcs⟩
 unfold getItem
 try with_reducible refine wpAny_holding ?_
 first|refine wpAny_bind (wpAny_pure ?_)|skip
 refine wpAny_bind (wpAny_sequenceKey ht.typeIs (by decide) ?_)
 refine wpAny_bind (wpAny_callSpecial?_slot (name:=Str.ofString "__getitem__") ht.typeIs PyProof.Rows.slot_tuple_getitem
  (wpAny_call_entry PyProof.Rows.slot_tuple_getitem ht.typeIs entry_tuple_getitem ?_ (args_tuple_getitem _ _)))
 show wpAny _ _ (Builtin.Tuple.tupleItemsOf (.ref t) >>= _) _ _ s
 refine wpAny_bind (tupleItemsOf_ ht ?_)
 refine wpAny_bind (wpAny_typeOf hTs ?_)
 rw[if_pos (by decide)]
 refine wpAny_bind (wY hs pl pu ?_)
 have hno:¬ ((((jN items.size 0 lo:Nat):Int) == 0&&(1:Int) == 1&&(jN items.size items.size hi-jN items.size 0 lo) == items.size)=true):=by
  intro q
  rw[Bool.and_eq_true,Bool.and_eq_true]at q
  have q1:((jN items.size 0 lo:Nat):Int)=0:=eq_of_beq q.1.1
  have q2:jN items.size items.size hi-jN items.size 0 lo=items.size:=eq_of_beq q.2
  exact hw ⟨by omega,by omega⟩
 show wpAny _ _ (if (((jN items.size 0 lo:Nat):Int) == 0&&(1:Int) == 1&&(jN items.size items.size hi-jN items.size 0 lo) == items.size)=true then _ else _) _ _ s
 rw[if_neg hno,Kw]
 first
  | exact wpAny_bind (m:=Builtin.Tuple.tupleExact _) (wpAny_newObj_type (wpAny_pure ⟨_,rfl,wpAny_pure h⟩) HN)
  | exact wpAny_bind (m:=Builtin.Tuple.tupleExact _) (wpAny_newObj_type (wpAny_bind (wpAny_pure (wpAny_pure ⟨_,rfl,wpAny_pure h⟩))) HN)
  | exact wpAny_bind (wpAny_bind (m:=Builtin.Tuple.tupleExact _) (wpAny_newObj_type (wpAny_pure (wpAny_pure ⟨_,rfl,wpAny_pure h⟩)) HN))
  | exact wpAny_bind (wpAny_bind (m:=Builtin.Tuple.tupleExact _) (wpAny_newObj_type (wpAny_pure ⟨_,rfl,wpAny_pure h⟩) HN))
end
end HT
namespace L2
open PySem PySem.Spec PyProof.Rows
abbrev TO:=St→Hp→(Option Int→Hp→Prop)→Prop
def PO(X:Cx)(e:Option Expr)(t:TO):Prop :=
 ∀ (pins:List (Addr × Obj)) (s:Shared) (σ:St) (H:Hp) (Q:Option Int→Hp→Prop),Inv X pins σ H s→t σ H Q →
  wpAny (model X.prog X.w) X.A (evalPart e X.env) (fun u s'=>∃ o H',Inv X pins σ H' s'∧IsPart u o∧Q o H') X.xe s
def MF:TO:=fun _ H Q=>Q none H
def RG(t:TE):TO:=fun σ H Q=>t σ H fun x H1=>isI x H1 Q
theorem intsAre_of{ns:List Int}:∀ {us:List Value},Vals (ns.map V.int) us→IntsAre us ns:=by
 induction ns with
 | nil=>intro us r;rw[List.map_nil]at r;cases r;exact .nil
 | cons n ns ih =>
  intro us r
  rw[lS]at r
  cases r with
  | cons r1 r2 =>
   obtain⟨t,e⟩:=r1
   subst e
   exact .cons n t (ih r2)
section
variable {X:Cx} {e:Expr} {te:TE} {lo hi:Option Expr} {tl th:TO} {pos p2:Pos}
theorem vK:PO X none MF:=by
 intro pins s σ H Q I h
 rw[evalPart_none]
 exact wpAny_pure ⟨none,H,I,.none,h⟩
theorem vL(h:PE X e te):PO X (some e) (RG te):=by
 intro pins s σ H Q I hw
 rw[evalPart_some]
 refine cE (h pins s σ H _ I hw) fun u s1 ⟨x,H1,I1,r1,q1⟩=>?_
 obtain⟨i,rfl,q⟩:=q1
 obtain⟨t,rfl⟩:=r1
 exact⟨some i,H1,I1,.int i t,q⟩
def Vo(X:Cx)(r:V→Option Int→Option Int→Hp→VK→Prop):Prop :=
 ∀ (pins:List (Addr × Obj)) (s:Shared) (σ:St) (H:Hp) (x:V) (v vl vu:Value) (lo hi:Option Int) (sl:Addr) (Q:VK),Inv X pins σ H s→RelV x v→s.heap.IsSliceOf sl vl vu .none→IsPart vl lo→IsPart vu hi→r x lo hi H Q →
  ∃ T id,typeLookup (.type T) "__getitem__"=pure (some (.builtin id))∧s.TypeIs v T∧wpAny (model X.prog X.w) X.A (getItem v (.ref sl)) (EP X pins σ Q) X.xe s
def tSl(r:V→Option Int→Option Int→Hp→VK→Prop)(te:TE)(tl th:TO):TE:=fun σ H Q=>te σ H fun x H1=>tl σ H1 fun l H2=>th σ H2 fun u H3=>r x l u H3 Q
theorem r9{r:V→Option Int→Option Int→Hp→VK→Prop}(hr:Vo X r)(he:PE X e te)(hl:PO X lo tl)(hu:PO X hi th):PE X (.Subscript e (.Slice lo hi none p2) pos) (tSl r te tl th):=by
 intro pins s σ H Q I h
 refine Subscript_ (cE (he pins s σ H _ I h) fun v s1 ⟨x,H1,I1,r1,q1⟩=>?_)
 refine wpAny_Slice (cE (hl pins s1 σ H1 _ I1 q1) fun vl s2 ⟨l,H2,I2,pl,q2⟩=>cE (hu pins s2 σ H2 _ I2 q2) fun vu s3 ⟨u,H3,I3,pu,q3⟩=>?_)
 rw[evalPart_none]
 refine wpAny_pure ?_
 have I4:Inv X pins σ H3 { s3 with heap:=s3.heap.push { cls:=.type "slice",data:=.fields #[vl,vu,.none] } }:=I3.kept (t':=s3.toks) fun b ob q=>Heap.get?_push_of_some _ q
 obtain⟨T,id,hT,ht,hg⟩:=hr pins { s3 with heap:=s3.heap.push { cls:=.type "slice",data:=.fields #[vl,vu,.none] } } σ H3 x v vl vu l u s3.heap.objs.size Q I4 r1 (Heap.IsSliceOf.new ..) pl pu q3
 show wpAny (model X.prog X.w) X.A (subscriptTail e (.Slice lo hi none p2) v (.ref s3.heap.objs.size)) (EP X pins σ Q) X.xe { s3 with heap:=s3.heap.push { cls:=.type "slice",data:=.fields #[vl,vu,.none] } }
 exact tail_any (ops:=[.ref s3.heap.objs.size,v]) ht hT hg (by with_unfolding_all rfl)
def qI(xs:List V)(lo hi:Option Int):List V:=(xs.drop (HT.jN xs.length 0 lo)).take (HT.jN xs.length xs.length hi-HT.jN xs.length 0 lo)
theorem yb(xs:List V)(lo hi:Option Int):(qI xs lo hi).length≤xs.length:=by
 unfold qI
 rw[o6,List.length_drop]
 omega
def Vp(K:PySem.W.Frag):V→Option Int→Option Int→Hp→VK→Prop:=fun x lo hi H Q=>∃ a xs,x=.ref a∧jL K H a xs ∧
 ¬ (HT.jN xs.length 0 lo=0∧HT.jN xs.length xs.length hi=xs.length)∧∀ p,H p=none→Q (.ref p) (upd H p (.tup (qI xs lo hi)))
theorem Pf:Vo X (Vp X.K):=by
 intro pins s σ H x v vl vu lo hi sl Q I rx hs pl pu h
 obtain⟨a,xs,rfl,hx,hw,q⟩:=h
 cases rx
 obtain⟨its,r,ht,hz⟩:=I.tuple hx
 have hlen:its.toArray.size=xs.length:=by rw[j5];exact r.length.symm
 refine⟨"tuple",_,PyProof.Rows.slot_tuple_getitem.lookup,ht.typeIs,?_⟩
 refine HT.vJ ht hs pl pu (by rw[hlen];exact hw) ?_ (by rw[hlen];exact hz)
 rw[hlen]
 refine⟨.ref s.heap.objs.size,_,I.laid (t':=s.toks) (o:=.tup (qI xs lo hi)) (fun b ob q=>Heap.get?_push_of_some _ q) (jj _) ?_,rfl,q _ (I.hok.fresh (jj _))⟩
 exact⟨Nat.le_trans (yb xs lo hi) hz,_,(r.drop (HT.jN xs.length 0 lo)).take (HT.jN xs.length xs.length hi-HT.jN xs.length 0 lo),IsTup.new _ _⟩
end
end L2
namespace L2
open PySem PySem.Spec PyProof.Rows
def J6(n:Nat)(i:Int):Option Nat:=if 0≤i then (if i<n then some i.toNat else none) else if -(n:Int)≤i then some (i+n).toNat else none
def A0{α:Type}(xs:List α)(i:Int):Option α:=(J6 xs.length i).bind fun j=>xs[j]?
theorem HP{n:Nat}{i:Int}{j:Nat}(h:J6 n i=some j):seqIndex? i n=some j∧j<n∧-(n:Int)≤i∧i<n:=by
 unfold J6 at h
 by_cases h0:0≤i
 ·rw[if_pos h0]at h
  by_cases h1:i<n
  ·rw[if_pos h1]at h
   have e:i.toNat=j:=rN h
   exact⟨by rw[seqIndex_of h0 h1,e],by omega,by omega,h1⟩
  ·rw[if_neg h1]at h;cases h
 ·rw[if_neg h0]at h
  by_cases h1:-(n:Int)≤i
  ·rw[if_pos h1]at h
   have e:(i+n).toNat=j:=rN h
   exact⟨by rw[seqIndex_neg (by omega) h1,e],by omega,h1,by omega⟩
  ·rw[if_neg h1]at h;cases h
theorem HQ{α:Type}{xs:List α}{i:Int}{v:α}(h:A0 xs i=some v):∃ j,seqIndex? i xs.length=some j∧xs[j]?=some v∧j<xs.length∧-(xs.length:Int)≤i∧i<xs.length:=by
 unfold A0 at h
 cases e:J6 xs.length i with
 | none=>rw[e]at h;cases h
 | some j =>
  rw[e]at h
  obtain⟨h1,h2,h3,h4⟩:=HP e
  exact⟨j,h1,h,h2,h3,h4⟩
theorem gO{α:Type}{xs:List α}{j:Nat}{v:α}(h:xs[j]?=some v):A0 xs (j:Int)=some v:=by
 have hj:j<xs.length:=(List.getElem?_eq_some_iff.mp h).1
 have e:J6 xs.length (j:Int)=some j:=by
  unfold J6
  rw[if_pos (by omega),if_pos (by omega)];simp
 unfold A0;rw[e];exact h
theorem Kx{α:Type}(xs:List α)(v:α):A0 (xs++[v]) (-1)=some v:=by
 have hl:(xs++[v]).length=xs.length+1:=by simp
 have e:J6 (xs++[v]).length (-1)=some xs.length:=by
  unfold J6
  rw[hl,if_neg (by decide),if_pos (by omega)]
  congr 1
  omega
 unfold A0
 rw[e]
 show (xs++[v])[xs.length]?=some v
 simp
def MG(b:Expr):Prop:=∀ o i,subscripted b false o i=operate [o,i] (getItem o i)
def Ud(X:Cx)(r:R2):Prop :=
 ∀ (value slice:Expr) (pins:List (Addr × Obj)) (s:Shared) (σ:St) (H:Hp) (x y:V) (v u:Value) (Q:VK),Inv X pins σ H s→RelV x v→RelV y u→r x y H Q →
  subscripted slice false v u=operate [v,u] (getItem v u)→wpAny (model X.prog X.w) X.A (subscriptTail value slice v u) (EP X pins σ Q) X.xe s
def MtR(X:Cx)(id:String)(r:V→List V→Hp→VK→Prop):Prop :=
 ∀ (pins:List (Addr × Obj)) (s:Shared) (σ:St) (H:Hp) (x:V) (xs:List V) (v:Value) (us:List Value) (Q:VK),Inv X pins σ H s→RelV x v→Vals xs us→r x xs H Q →
  wpAny (model X.prog X.w) X.A (call (.builtin id) (v::us)) (EP X pins σ Q) X.xe s
section
variable {X:Cx} {a b:Expr} {ta tb:TE} {pos:Pos}
theorem bN{r:R2}(hr:Ud X r)(ha:PE X a ta)(hb:PE X b tb)(hs:MG b):PE X (.Subscript a b pos) (Ub r ta tb):=by
 intro pins s σ H Q I h
 exact Subscript_ (O5 ha hb I h fun v u s2 x y H2 I2 rx ry q=>hr a b pins s2 σ H2 x y v u Q I2 rx ry q (hs _ _))
inductive RH(K:PySem.W.Frag)(x y:V)(H:Hp)(Q:VK):Prop
 | mk (p:Addr) (xs:List V) (i:Int) (v:V) (_:x=.ref p) (_:y=.int i) (_:b8 K H p xs) (_:A0 xs i=some v) (_:Q v H):RH K x y H Q
inductive Pg(K:PySem.W.Frag)(x y:V)(H:Hp)(Q:VK):Prop
 | mk (p:Addr) (xs:List V) (i:Int) (v:V) (_:x=.ref p) (_:y=.int i) (_:jL K H p xs) (_:A0 xs i=some v) (_:Q v H):Pg K x y H Q
theorem bM:Ud X (RH X.K):=by
 intro value slice pins s σ H x y v u Q I rx ry h hs
 obtain⟨p,xs,i,z,rfl,rfl,hq,he,q⟩:=h
 cases rx
 obtain⟨t,rfl⟩:=ry
 obtain⟨its,r,pl,hz⟩:=I.list hq
 obtain⟨j,h1,h2,h3,h4,h5⟩:=HQ he
 obtain⟨w,ew,rw'⟩:=r.get h2
 have hl:=r.length
 have hn:=wV
 have fin:EP X pins σ Q w s:=⟨z,H,I,rw',q⟩
 by_cases h0:0≤i
 ·have hj:i.toNat=j:=by
   rw[seqIndex_of h0 h5]at h1
   exact rN h1
  exact item_listR pl.isList h0 (by omega) (by rw[hj];simpa using ew) fin hs
 ·have hj:(i+(its.toArray.size:Int)).toNat=j:=by
   rw[seqIndex_neg (by omega) h4]at h1
   rw[j5,← hl]
   exact rN h1
  exact subscriptTail_builtinR (x:=w) pl.isList.typeIs slot_list_getitem.lookup
   (wpAny_getItem_list_neg (Q:=fun r s'=>r=w∧EP X pins σ Q r s') pl.isList (by omega) (by rw[j5] <;> omega) (by omega) (by rw[hj];simpa using ew) ⟨rfl,fin⟩) hs
theorem gA:Ud X (Pg X.K):=by
 intro value slice pins s σ H x y v u Q I rx ry h hs
 obtain⟨p,xs,i,z,rfl,rfl,hq,he,q⟩:=h
 cases rx
 obtain⟨t,rfl⟩:=ry
 obtain⟨its,r,pl,hz⟩:=I.tuple hq
 obtain⟨j,h1,h2,h3,h4,h5⟩:=HQ he
 obtain⟨w,ew,rw'⟩:=r.get h2
 have hl:=r.length
 have hn:=wV
 have fin:EP X pins σ Q w s:=⟨z,H,I,rw',q⟩
 exact subscriptTail_builtinR (x:=w) pl.typeIs slot_tuple_getitem.lookup
  (getItem_tuple (j:=j) (Q:=fun r s'=>r=w∧EP X pins σ Q r s') pl (by omega) (by omega) (by rw[j5,← hl];exact h1) (by simpa using ew) ⟨rfl,fin⟩) hs
theorem Gx(its:List Value)(n j:Nat)(u:Value):Obj.mapSeq (·.setIfInBounds j u) { cls:=.type "list",data:=.seq its.toArray n }={ cls:=.type "list",data:=.seq (its.set j u).toArray n }:=by
 simp[Obj.mapSeq]
theorem Inv.lst{pins:List (Addr × Obj)}{σ:St}{H:Hp}{s:Shared}{p:Addr}{xs:List V}(I:Inv X pins σ H s)(h:H p=some (.lst xs)) :
  ∃ (its:List Value) (n:Nat),Vals xs its∧s.heap.get? p=some { cls:=.type "list",data:=.seq its.toArray n }∧xs.length≤sizeLine:=by
 obtain⟨z,its,n,r,e⟩:=I.hok p _ h
 exact⟨its,n,r,e,z⟩
theorem Inv.Ph{pins:List (Addr × Obj)}{σ:St}{H:Hp}{s:Shared}{p:Addr}{xs ys:List V}{its its':List Value}{n n':Nat}{f:Obj→Obj}(I:Inv X pins σ H s)(h:H p=some (.lst xs))
  (ho:s.heap.get? p=some { cls:=.type "list",data:=.seq its.toArray n }) (hf:f { cls:=.type "list",data:=.seq its.toArray n }={ cls:=.type "list",data:=.seq its'.toArray n' }) (r:Vals ys its') (hz:ys.length≤sizeLine) (t:Nat) :
  Inv X pins σ (upd H p (.lst ys)) { s with heap:=s.heap.update p f,toks:=t }:=by
 have e:(s.heap.update p f).get? p=some { cls:=.type "list",data:=.seq its'.toArray n' }:=by
  rw[Heap.get?_update_self f ho (by rw[hf] <;> rfl),hf]
 refine I.write (x:=p) (e:=p) (by rw[h];trivial) (.inl rfl) (fun b u hb q=>(Heap.get?_update_other _ _ (Ne.symm hb)).trans q) ⟨_,e⟩ ?_
 exact⟨hz,its',n',r,e⟩
inductive N5(o i v:V)(H:Hp)(Q:Hp→Prop):Prop
 | mk (p:Addr) (xs:List V) (k:Int) (j:Nat) (_:o=.ref p) (_:i=.int k) (_:H p=some (.lst xs)) (_:J6 xs.length k=some j) (_:Q (upd H p (.lst (xs.set j v)))):N5 o i v H Q
theorem set_list:Rt X N5:=by
 intro pins s σ H o i v ov iv u Q I ro ri rv h
 obtain⟨p,xs,k,j,rfl,rfl,hp,hj,q⟩:=h
 cases ro
 obtain⟨t,rfl⟩:=ri
 obtain⟨its,n,r,ho,hz⟩:=I.lst hp
 obtain⟨h1,h2,h3,h4⟩:=HP hj
 have hl:=r.length
 have hn:=wV
 have I':Inv X pins σ (upd H p (.lst (xs.set j v))) { s with heap:=s.heap.update p (Obj.mapSeq (·.setIfInBounds j u)) } :=
  I.Ph hp ho (Gx its n j u) (r.set rv j) (by rw[List.length_set];exact hz) s.toks
 by_cases h0:0≤k
 ·have hk:k.toNat=j:=by
   rw[seqIndex_of h0 h4]at h1
   exact rN h1
  exact PySem.W.ki_setAt ho h0 (by omega) (by rw[j5,← hl];exact h4) (by rw[hk];exact⟨_,I',q⟩)
 ·have hk:(k+(its.toArray.size:Int)).toNat=j:=by
   rw[seqIndex_neg (by omega) h3]at h1
   rw[j5,← hl]
   exact rN h1
  exact PySem.W.ki_setBack ho (by omega) (by rw[j5,← hl];exact h3) (by omega) (by rw[hk];exact⟨_,I',q⟩)
theorem CY(lo hi:Option Int)(n:Nat):(sliceBounds lo hi none n).1=((HT.jN n 0 lo:Nat):Int)∧(sliceBounds lo hi none n).2.1=((HT.jN n n hi:Nat):Int)∧(sliceBounds lo hi none n).2.2=1:=by
 refine⟨?_,?_,rfl⟩
 ·cases lo with
  | none=>simp[sliceBounds,HT.jN]
  | some i =>
   simp only[sliceBounds,HT.jN,Option.getD_none,show (1:Int) > 0 by decide,if_true]
   by_cases h:i<0
   ·simp only[h,if_true] <;> omega
   ·simp only[h,if_false] <;> omega
 ·cases hi with
  | none=>simp[sliceBounds,HT.jN]
  | some i =>
   simp only[sliceBounds,HT.jN,Option.getD_none,show (1:Int) > 0 by decide,if_true]
   by_cases h:i<0
   ·simp only[h,if_true] <;> omega
   ·simp only[h,if_false] <;> omega
theorem Bc(its:List Value)(lo hi:Option Int):slicePick its.toArray lo hi none=((its.drop (HT.jN its.length 0 lo)).take (HT.jN its.length its.length hi-HT.jN its.length 0 lo)).toArray:=by
 obtain⟨h1,h2,h3⟩:=CY lo hi its.toArray.size
 unfold slicePick
 rw[h1,h2,h3]
 simp only[sliceRange_one,pick_run,j5] <;> rfl
inductive RI(K:PySem.W.Frag)(x:V)(lo hi:Option Int)(H:Hp)(Q:VK):Prop
 | mk (a:Addr) (xs:List V) (_:x=.ref a) (_:b8 K H a xs) (_:∀ p,H p=none→Q (.ref p) (upd H p (.lst (qI xs lo hi)))):RI K x lo hi H Q
theorem yV:Vo X (RI X.K):=by
 intro pins s σ H x v vl vu lo hi sl Q I rx hs pl pu h
 obtain⟨a,xs,rfl,hx,q⟩:=h
 cases rx
 obtain⟨its,r,ht,hz⟩:=I.list hx
 have hlen:=r.length
 refine⟨"list",_,slot_list_getitem.lookup,ht.isList.typeIs,?_⟩
 refine wpAny_getItem_list_slice ht.isList hs pl pu .none (by simp) ?_ (by rw[j5] <;> omega)
 rw[Bc,← hlen]
 refine⟨.ref s.heap.objs.size,_,I.laid (t':=s.toks) (o:=.lst (qI xs lo hi)) (fun b ob q=>Heap.get?_push_of_some _ q) (jj _) ?_,rfl,q _ (I.hok.fresh (jj _))⟩
 exact⟨Nat.le_trans (yb xs lo hi) hz,_,0,(r.drop (HT.jN xs.length 0 lo)).take (HT.jN xs.length xs.length hi-HT.jN xs.length 0 lo),Heap.get?_push_size _ rfl⟩
inductive RJ(K:PySem.W.Frag)(xs:List V)(H:Hp)(Q:VK):Prop
 | mk (p:Addr) (ys:List V) (_:xs=[.ref p]) (_:b8 K H p ys∨jL K H p ys) (_:Q (.int ys.length) H):RJ K xs H Q
inductive Pj(K:PySem.W.Frag)(xs:List V)(H:Hp)(Q:VK):Prop
 | mk (p:Addr) (ys:List V) (_:xs=[.ref p]) (_:b8 K H p ys∨jL K H p ys) (_:∀ l,H l=none→Q (.ref l) (upd H l (.lst ys))):Pj K xs H Q
theorem cY:nj X (.builtin "len") (RJ X.K):=by
 intro pins s σ H xs us Q I r h
 obtain⟨p,ys,rfl,hq,q⟩:=h
 obtain⟨u,rfl,rx⟩:=vals1 r
 cases rx
 have hn:=wV
 rcases hq with hq|hq
 ·obtain⟨its,r',pl,hz⟩:=I.list hq
  have hlen:=r'.length
  exact Calls.call_len_list pl.isList (by simp only[j5] <;> omega) ⟨.int ys.length,H,I.tok _,⟨s.toks+1,by rw[j5,hlen]⟩,q⟩
 ·obtain⟨its,r',pl,hz⟩:=I.tuple hq
  have hlen:=r'.length
  exact len_tuple pl (by simp only[j5] <;> omega) ⟨.int ys.length,H,I.tok _,⟨s.toks+1,by rw[j5,hlen]⟩,q⟩
theorem CZ:nj X (.builtin "len") (fun xs H Q=>∃ z,xs=[.str z]∧z.length≤sizeLine∧Q (.int z.length) H):=by
 intro pins s σ H xs us Q I r h
 obtain⟨z,rfl,hz,q⟩:=h
 obtain⟨u,rfl,t,rfl⟩:=vals1 r
 have hn:=wV
 exact len_str (by omega) ⟨.int z.length,H,I.tok _,⟨_,rfl⟩,q⟩
theorem jD:nj X (.type "list") (Pj X.K):=by
 intro pins s σ H xs us Q I r h
 obtain⟨p,ys,rfl,hq,q⟩:=h
 obtain⟨u,rfl,rx⟩:=vals1 r
 cases rx
 have fin:∀ (its:List Value),Vals ys its→ys.length≤sizeLine→∀ (h':Heap) (c':Nat),(∀ b o',s.heap.get? b=some o'→h'.get? b=some o') →
   h'.get? s.heap.objs.size=some { cls:=.type "list",dict:=none,data:=.seq its.toArray c',slots:=#[] }→EP X pins σ Q (.ref s.heap.objs.size) { s with heap:=h' }:=fun its r' hz h' c' kp e =>
  ⟨.ref s.heap.objs.size,_,I.laid (t':=s.toks) kp (jj _) (show gK X.prog X.w _ h' _ (.lst ys) from ⟨hz,its,c',r',e⟩),rfl,q _ (I.hok.fresh (jj _))⟩
 rcases hq with hq|hq
 ·obtain⟨its,r',pl,hz⟩:=I.list hq
  have hlen:=r'.length
  obtain⟨o,ho,hc,n,hd⟩:=pl.isList
  exact call_list_seq p (.inl rfl) ho hc hd (fun h' c' kp e=>fin its r' hz h' c' kp e) (by simp only[j5] <;> omega)
 ·obtain⟨its,r',pl,hz⟩:=I.tuple hq
  have hlen:=r'.length
  obtain⟨o,ho,hc,n,hd⟩:=pl
  exact call_list_seq p (.inr rfl) ho hc hd (fun h' c' kp e=>fin its r' hz h' c' kp e) (by simp only[j5] <;> omega)
def Vq(K:PySem.W.Frag)(T:String)(x:V)(H:Hp):Prop:=match x with
 | .str _=>T="str"
 | .int _=>T="int"
 | .ref p=>(T="list"∧∃ xs,b8 K H p xs)∨(T="tuple"∧∃ o,K.lookup p=some o∧o.cls=.type "tuple"∧o.dict=none) ∨
   (T="dict"∧((∃ kvs,H p=some (.dK kvs))∨∃ kvs,H p=some (.dT kvs)))∨(T="set"∧∃ S n,H p=some (.set S n))
 | _=>False
theorem Ky{pins:List (Addr × Obj)}{σ:St}{H:Hp}{s:Shared}{T:String}{x:V}{v:Value}(I:Inv X pins σ H s)(r:RelV x v)(ty:Vq X.K T x H) :
  s.TypeIs v T∧∀ a,v=.ref a→∃ ob,s.heap.get? a=some ob∧ob.dict=none:=by
 cases x with
 | str z =>
  obtain⟨t,rfl⟩:=r
  cases (show T="str" from ty)
  exact⟨typeIs_str s z t,fun _ e=>nomatch e⟩
 | int i =>
  obtain⟨t,rfl⟩:=r
  cases (show T="int" from ty)
  exact⟨typeIs_int s i t,fun _ e=>nomatch e⟩
 | ref p =>
  cases r
  rcases ty with ⟨rfl,xs,hq⟩|⟨rfl,o,hk,hc,hd⟩|⟨rfl,hk⟩|⟨rfl,S,n,hk⟩
  ·obtain⟨its,_,pl,_⟩:=I.list hq
   refine⟨pl.isList.typeIs,fun a e=>?_⟩
   cases e
   obtain⟨o,n,e,c,hd,_⟩:=pl
   exact⟨o,e,hd⟩
  ·refine⟨⟨o,I.vE p o hk,hc⟩,fun a e=>?_⟩
   cases e
   exact⟨o,I.vE _ o hk,hd⟩
  ·have z:∃ o,s.heap.get? p=some o∧o.ExactDict:=by
    rcases hk with ⟨kvs,hk⟩|⟨kvs,hk⟩
    ·obtain⟨_,_,_,_,o,_,_,e,ex,_⟩:=I.hok p _ hk
     exact⟨o,e,ex⟩
    ·obtain⟨_,_,_,_,o,_,_,e,ex,_⟩:=I.hok p _ hk
     exact⟨o,e,ex⟩
   obtain⟨o,e,ex⟩:=z
   refine⟨⟨o,e,ex.1⟩,fun a e2=>?_⟩
   cases e2
   exact⟨o,e,ex.2.1⟩
  ·obtain⟨o,_,_,_,e,ex,_⟩:=I.hok p _ hk
   refine⟨⟨o,e,ex.1⟩,fun a e2=>?_⟩
   cases e2
   exact⟨o,e,ex.2.1⟩
 | _=>exact False.elim ty
def Vr(K:PySem.W.Frag)(T:String)(r:V→List V→Hp→VK→Prop)(to:TE):TE:=fun σ H Q=>to σ H fun x H1=>Vq K T x H1∧r x [] H1 Q
def tBM(K:PySem.W.Frag)(T:String)(r:V→List V→Hp→VK→Prop)(to:TE)(t:TA):TE:=fun σ H Q=>to σ H fun x H1=>Vq K T x H1∧t σ H1 fun xs H2=>r x xs H2 Q
variable {o e:Expr} {es:List Expr} {to:TE} {t:TA} {name:Str} {apos cpos:Pos} {T id:String} {r:V→List V→Hp→VK→Prop}
theorem Pk(pa:PlainAttrs T)(slot:Slot T name id)(hty:typeOf (.builtin id)=pure (.type "method_descriptor"))(hm:MtR X id r)(ho:PE X o to)
  (hbase:attributeBase o name X.env (eval o X.env)=eval o X.env:=by rfl) (hline:(apos.endLine == cpos.line)=true:=by rfl):PE X (.Call (.Attribute o name apos) [] [] cpos) (Vr X.K T r to):=by
 intro pins s σ H Q I h
 refine wpAny_Call_method0_late hbase hline (cE (ho pins s σ H _ I h) fun v s1 ⟨x,H1,I1,r1,ty,q1⟩=>?_)
 obtain⟨h1,h2⟩:=Ky I1 r1 ty
 exact⟨T,id,pa,slot,hty,h1,h2,Calls.callWith_builtin rfl (PySem.evalArgs_none (hm pins s1 σ H1 x [] v [] Q I1 r1 .nil q1))⟩
theorem nu(pa:PlainAttrs T)(slot:Slot T name id)(hty:typeOf (.builtin id)=pure (.type "method_descriptor"))(hm:MtR X id r)(ho:PE X o to)(ha:PA X (e::es) t)
  (hbase:attributeBase o name X.env (eval o X.env)=eval o X.env:=by rfl)
  (hfew:((backTo cpos (starEach (e::es) X.env)).all (fun x=>!x.1)&&(backToKw cpos (keywordEach [] X.env)).all (fun x=>x.1.isSome)
   && decide ((e::es).length+([]:List Keyword).length+(if ([]:List Keyword).isEmpty then 0 else 1)<30))=true:=by rfl)
  (hline:(apos.endLine == cpos.line)=true:=by rfl) (hs:starEach (e::es) X.env=(false,eval e X.env)::starEach es X.env:=by rfl) (hplain:(backTo cpos (starEach es X.env)).any (·.1)=false:=by rfl) :
  PE X (.Call (.Attribute o name apos) (e::es) [] cpos) (tBM X.K T r to t):=by
 intro pins s σ H Q I h
 refine wpAny_Call_method_late hbase hfew hline rfl (cE (ho pins s σ H _ I h) fun v s1 ⟨x,H1,I1,r1,ty,q1⟩=>?_)
 obtain⟨h1,h2⟩:=Ky I1 r1 ty
 refine⟨T,id,pa,slot,hty,h1,h2,?_⟩
 have hA:=ha cpos pins s1 σ H1 _ I1 q1
 rw[hs]at hA ⊢
 refine Calls.callWith_builtin (by show (false || (backTo cpos (starEach es X.env)).any (·.1))=false;rw[hplain] <;> rfl) (Calls.evalArgs_plain ?_)
 exact cE hA fun us s2 ⟨vs,H2,I2,r2,q2⟩=>hm pins s2 σ H2 x vs v us Q I2 r1 r2 q2
end
end L2
namespace L2
open PySem PySem.Spec PyProof.Rows
def Ue(X:Cx)(id:String)(r:V→List V→Hp→VK→Prop):Prop :=
 ∀ (pins:List (Addr × Obj)) (s:Shared) (σ:St) (H:Hp) (x:V) (xs:List V) (v:Value) (us:List Value) (Q:VK),Inv X pins σ H s→RelV x v→Vals xs us→r x xs H Q →
  wpAny (model X.prog X.w) X.A (call (.builtin id) (v::us)) (EP X pins σ Q) X.xe s
theorem Vals.one:∀ {x:V} {us:List Value},Vals [x] us→∃ u,us=[u]∧RelV x u
 | _,_,.cons r .nil=>⟨_,rfl,r⟩
theorem Vals.two:∀ {x y:V} {us:List Value},Vals [x,y] us→∃ u v,us=[u,v]∧RelV x u∧RelV y v
 | _,_,_,.cons r (.cons q .nil)=>⟨_,_,rfl,r,q⟩
theorem Vals.zero:∀ {us:List Value},Vals [] us→us=[]
 | _,.nil=>rfl
theorem Vals.dropLast{xs:List V}{us:List Value}(h:Vals xs us):Vals xs.dropLast us.dropLast:=by
 induction h with
 | nil=>exact .nil
 | cons r t ih =>
  cases t with
  | nil=>exact .nil
  | cons q t'=>exact .cons r ih
theorem Vals.eraseIdx:∀ {xs:List V} {us:List Value} (i:Nat),Vals xs us→Vals (xs.eraseIdx i) (us.eraseIdx i)
 | _,_,_,.nil=>.nil
 | _,_,0,.cons _ t=>t
 | _,_,i+1,.cons r t=>.cons r (Vals.eraseIdx i t)
theorem Vals.rep{xs:List V}{us:List Value}(h:Vals xs us):∀ k:Nat,Vals (List.replicate k xs).flatten (List.replicate k us).flatten
 | 0=>.nil
 | k+1=>by
  rw[rT,rT,List.flatten_cons,List.flatten_cons]
  exact Vals.append h (Vals.rep h k)
theorem Gy{α:Type}(l:List α):l.eraseIdx (l.length-1)=l.dropLast:=by
 induction l with
 | nil=>rfl
 | cons a r ih =>
  cases r with
  | nil=>rfl
  | cons b r =>
   have e:(a::b::r).length-1=((b::r).length-1)+1:=by
    have h1:(a::b::r).length=r.length+2:=rfl
    have h2:(b::r).length=r.length+1:=rfl
    omega
   rw[e,List.eraseIdx_cons_succ,ih]
   all_goals rfl
theorem BK{α:Type}:∀ (l:List α) (i:Nat),(l.eraseIdx i).length≤l.length
 | [],_=>jj _
 | _::_,0=>Nat.le_succ _
 | _::r,i+1=>Nat.succ_le_succ (BK r i)
theorem foldl_rep(its:List Value):∀ (k:Nat) (acc:List Value),
  List.foldl (fun x1 x2=>x1++x2) acc.toArray (List.replicate k its.toArray)=(acc++(List.replicate k its).flatten).toArray
 | 0,acc=>by simp
 | k+1,acc=>by
  have e:acc.toArray++its.toArray=(acc++its).toArray:=by simp
  have e2:(acc++its)++(List.replicate k its).flatten=acc++(List.replicate (k+1) its).flatten:=by
   rw[rT,List.flatten_cons,oZ]
  rw[← e2,← foldl_rep its k (acc++its),← e,rT,nR]
section
variable {X:Cx} {pins:List (Addr × Obj)} {σ:St} {H:Hp} {s:Shared} {l b:Addr} {xs ys zs:List V}
theorem Inv.MH{its its':List Value}{n:Nat}{f:Array Value→Array Value}{t':Nat}(I:Inv X pins σ H s)(hH:H l=some (.lst xs))
  (e:s.heap.get? l=some { cls:=.type "list",data:=.seq its.toArray n }) (hf:f its.toArray=its'.toArray) (hv:Vals ys its') (hz:ys.length≤sizeLine) :
  Inv X pins σ (upd H l (.lst ys)) { s with heap:=s.heap.update l (Obj.mapSeq f),toks:=t' }:=by
 have q:=PySem.IsL.update e f
 rw[hf]at q
 refine I.write (x:=l) (e:=l) (by rw[hH];exact trivial) (.inl rfl) (fun b' u hb hu=>(Heap.get?_update_other s.heap (Obj.mapSeq f) (Ne.symm hb)).trans hu) ⟨_,q⟩ ?_
 exact⟨hz,its',_,hv,q⟩
theorem Inv.Kz{its:List Value}{t':Nat}(I:Inv X pins σ H s)(hv:Vals ys its)(hz:ys.length≤sizeLine) :
  Inv X pins σ (upd H s.heap.objs.size (.lst ys)) { s with heap:=s.heap.push { cls:=.type "list",data:=.seq its.toArray },toks:=t' } :=
 I.laid (fun _ _ q=>Heap.get?_push_of_some _ q) (jj _) ⟨hz,its,0,hv,Heap.get?_push_size _ rfl⟩
theorem Inv.fresh(I:Inv X pins σ H s):H s.heap.objs.size=none:=I.hok.fresh (jj _)
theorem Inv.Et(I:Inv X pins σ H s)(hH:H l=some (.lst xs)):xs.length≤sizeLine∧∃ (its:List Value) (n:Nat),Vals xs its∧xs.length=its.length∧s.heap.get? l=some { cls:=.type "list",data:=.seq its.toArray n }:=by
 obtain⟨z,its,n,r,e⟩:=I.hok l _ hH
 exact⟨z,its,n,r,r.length,e⟩
theorem Eu{n:Nat}(h:n≤sizeLine):Builtin.List.listTooLong n=false:=by
 unfold Builtin.List.listTooLong
 exact decide_eq_false (by omega)
end
section
variable {X:Cx}
inductive HR(x:V)(vs:List V)(H:Hp)(Q:VK):Prop
 | mk (l:Addr) (xs:List V) (y:V) (_:x=.ref l) (_:vs=[y]) (_:H l=some (.lst xs)) (_:xs.length<sizeLine) (_:Q .jc (upd H l (.lst (xs++[y])))):HR x vs H Q
theorem dF:Ue X "list.append" HR:=by
 intro pins s σ H x vs v us Q I rx rv h
 obtain⟨l,xs,y,rfl,rfl,hH,hz,q⟩:=h
 cases rx
 obtain⟨u,rfl,ru⟩:=rv.one
 obtain⟨z,its,n,r,hl,e⟩:=I.Et hH
 refine call_meets F.slot_list_append ⟨_,e,rfl⟩ F.entry_list_append (F.args_list_append_2 _ _) (PySem.list_append l its.toArray n u (by rw[j5];omega)) ⟨e,?_⟩
 refine⟨.jc,_,I.MH (its':=its++[u]) hH e (by simp) (r.append (.cons ru .nil)) ?_,rfl,q⟩
 rw[eT,vD]
 omega
def Vs:V→List V→Hp→VK→Prop:=fun x vs H Q=>∃ l xs y,x=.ref l∧vs=[]∧H l=some (.lst xs)∧xs[xs.length-1]?=some y∧Q y (upd H l (.lst xs.dropLast))
theorem Pn:Ue X "list.pop" Vs:=by
 intro pins s σ H x vs v us Q I rx rv h
 obtain⟨l,xs,y,rfl,rfl,hH,hy,q⟩:=h
 cases rx
 have hus:=rv.zero
 subst hus
 obtain⟨z,its,n,r,hl,e⟩:=I.Et hH
 obtain⟨u,hu,ru⟩:=r.get hy
 have hy':its.toArray[its.toArray.size-1]?=some u:=by
  show its.toArray[its.length-1]?=some u
  rw[← Array.getElem?_toList,← hl]
  exact hu
 refine call_meets F.slot_list_pop ⟨_,e,rfl⟩ F.entry_list_pop (F.args_list_pop_1 _) (MeetsSeq.list_pop_last l its.toArray n u hy' (by rw[j5];omega)) ⟨e,?_⟩
 refine⟨y,_,I.MH (its':=its.dropLast) hH e ?_ r.dropLast ?_,ru,q⟩
 ·show its.toArray.eraseIdxIfInBounds (its.toArray.size-1)=its.dropLast.toArray
  rw[j5,List.eraseIdxIfInBounds_toArray,Gy]
 ·rw[List.length_dropLast]
  omega
def Po:V→List V→Hp→VK→Prop:=fun x vs H Q=>∃ l xs i k y,x=.ref l∧vs=[.int i]∧H l=some (.lst xs)∧-(2^63)≤i∧i<2^63∧seqIndex? i xs.length=some k∧xs[k]?=some y∧Q y (upd H l (.lst (xs.eraseIdx k)))
theorem KA:Ue X "list.pop" Po:=by
 intro pins s σ H x vs v us Q I rx rv h
 obtain⟨l,xs,i,k,y,rfl,rfl,hH,h1,h2,hk,hy,q⟩:=h
 cases rx
 obtain⟨u,rfl,ru⟩:=rv.one
 obtain⟨t,rfl⟩:=ru
 obtain⟨z,its,n,r,hl,e⟩:=I.Et hH
 obtain⟨w,hw,rw'⟩:=r.get hy
 refine call_meets F.slot_list_pop ⟨_,e,rfl⟩ F.entry_list_pop (F.args_list_pop_2 _ _)
  (MeetsSeq.list_pop_at l its.toArray n i t k w (fitsIndex_both h1 h2) (by rw[j5,← hl];exact hk) (by rw[← Array.getElem?_toList];exact hw) (by rw[j5];omega)) ⟨e,?_⟩
 refine⟨y,_,I.MH (its':=its.eraseIdx k) hH e ?_ (r.eraseIdx k) ?_,rw',q⟩
 ·show its.toArray.eraseIdxIfInBounds k=(its.eraseIdx k).toArray
  rw[List.eraseIdxIfInBounds_toArray]
 ·have:=BK xs k
  omega
inductive RK(x y:V)(H:Hp)(Q:VK):Prop
 | mk (l b:Addr) (xs zs:List V) (_:x=.ref l) (_:y=.ref b) (_:H l=some (.lst xs)) (_:H b=some (.lst zs)) (_:xs.length+zs.length≤sizeLine) (_:∀ p,H p=none→Q (.ref p) (upd H p (.lst (xs++zs)))):RK x y H Q
theorem pT:vI X (binaryOp .Add) RK:=by
 intro pins s σ H x y v u Q I rx ry h
 obtain⟨l,b,xs,zs,rfl,rfl,hH,hB,hz,q⟩:=h
 cases rx
 cases ry
 obtain⟨z,its,n,r,hl,e⟩:=I.Et hH
 obtain⟨z2,its2,n2,r2,hl2,e2⟩:=I.Et hB
 refine PySem.P.add_list e e2 ?_ (by rw[j5,j5];omega)
 have ea:its.toArray++its2.toArray=(its++its2).toArray:=by simp
 rw[ea]
 exact⟨.ref _,_,I.Kz (t':=s.toks) (r.append r2) (by rw[eT];omega),rfl,q _ I.fresh⟩
def RL:R2:=fun x y H Q=>∃ l k xs,x=.ref l∧y=.int k∧H l=some (.lst xs)∧-(2^63)≤k∧k<2^63∧xs.length*k.toNat≤sizeLine ∧
 ∀ p,H p=none→Q (.ref p) (upd H p (.lst (List.replicate k.toNat xs).flatten))
theorem len_rep{α:Type}(xs:List α)(k:Nat):(List.replicate k xs).flatten.length=k*xs.length:=by
 induction k with
 | zero=>simp
 | succ k ih=>rw[rT,List.flatten_cons,eT,ih,Nat.succ_mul,Nat.add_comm]
theorem KC:vI X (binaryOp .Mult) RL:=by
 intro pins s σ H x y v u Q I rx ry h
 obtain⟨l,k,xs,rfl,rfl,hH,h1,h2,hz,q⟩:=h
 cases rx
 obtain⟨t,rfl⟩:=ry
 obtain⟨z,its,n,r,hl,e⟩:=I.Et hH
 have hlen:its.toArray.size*k.toNat≤sizeLine:=by rw[j5,← hl];exact hz
 have hcap:¬ its.toArray.size*k.toNat > (2^63-1) / 8:=by
  have:(sizeLine:Nat)≤(2^63-1) / 8:=by decide
  omega
 have hfit:¬ (!Builtin.List.listFitsIndex k)=true:=by
  rw[fitsIndex_both h1 h2]
  exact uo
 have KD:¬ Builtin.List.listTooLong (its.toArray.size*k.toNat)=true:=by
  rw[Eu hlen]
  exact uo
 have hnew:List.foldl (fun x1 x2=>x1++x2) #[] (List.replicate (if its.toArray.isEmpty=true then 0 else k.toNat) its.toArray)=(List.replicate k.toNat its).flatten.toArray:=by
  have f0:∀ m:Nat,List.foldl (fun x1 x2=>x1++x2) #[] (List.replicate m its.toArray)=(List.replicate m its).flatten.toArray:=fun m=>by
   have:=foldl_rep its m []
   rw[List.nil_append]at this
   exact this
  rw[f0]
  cases its with
  | nil=>simp
  | cons a r'=>rw[if_neg (by simp)]
 refine wpAny_binaryOp_repeat_ref (T:="list") (U:="int") (by decide) ⟨_,e,rfl⟩ (fun s'=>typeIs_int s' k t) noFill_list_mul F.fills_int_mul F.slot_int_rmul repeat_list F.slot_int_index.lookup
  (call_meets F.slot_int_rmul (typeIs_int s k t) F.entry_int_rmul (F.args_int_rmul_2 _ _) (int___rmul___int_list k t l its.toArray n)
   ⟨e,rfl,⟨_,e,rfl⟩,call_meets F.slot_list_mul ⟨_,e,rfl⟩ F.entry_list_mul (F.args_list_mul_2 _ _) (AutoListH.list___mul___list_int_3 l its.toArray n k t hfit hcap KD) ⟨e,?_⟩⟩)
 rw[hnew]
 exact⟨.ref _,_,I.Kz (t':=s.toks) (r.rep k.toNat) (by rw[len_rep,Nat.mul_comm];exact hz),rfl,q _ I.fresh⟩
end
end L2
namespace Att
open PySem PySem.W PySem.Calls PyProof.Rows
theorem yx{P:Params}{h:Heap}:∀ (ns:List Int) (vs:List Value),WellAll P h vs (ns.map WData.int)→IntsAre vs ns:=by
 intro ns
 induction ns with
 | nil =>
  intro vs w
  rw[List.map_nil]at w
  cases w
  exact .nil
 | cons n ns ih =>
  intro vs w
  rw[lS]at w
  cases w with
  | cons a b =>
   cases a
   exact .cons _ _ (ih _ b)
theorem Je{l:OpenLaw}{n:Nat}(hn:l.most=some n){P:Params}{h:Heap}{args:List WData}{vals:List Value}
  (hpre:l.row.toRowW.claim.pre args=true) (hwl:WellAll P h vals args) :
  ∃ a vs ns,vals=[Value.ref a]∧args=[WData.list (ns.map WData.int)]∧h.get? a=some { cls:=.type "list",data:=.seq vs.toArray }∧IntsAre vs ns∧ns.length≤n:=by
 have hsh:WShape.hasAll [] args [.list .int]=true:=(pre_splitW hpre).1
 have hc:l.pre.holds [] { args:=args }=true:=(pre_splitW hpre).2
 obtain⟨d,r,rfl,h1,h2⟩:=hasAllW_cons hsh
 obtain rfl:=hasAllW_nil h2
 obtain⟨xs,rfl,h3⟩:=hasW_list h1
 obtain⟨ns,rfl⟩:=items_int h3
 have hlen:ns.length≤n:=by
  unfold OpenLaw.pre at hc
  have h4:(WTm.not (.lt (.lit (.int (n:Int))) (.len (.arg 0)))).holds [] { args:=[.list (ns.map .int)] }=true:=by
   have h4:=(holds_andW hc).1
   rw[hn]at h4
   exact h4
  have h5:=condW_of h4 (w_not (w_lt w_lit (w_len_list (w_arg rfl))))
  rw[dW]at h5
  refine Nat.le_of_not_lt fun q=>?_
  have q':(n:Int)<((ns.length:Nat):Int):=by omega
  first
   | (rw[decide_eq_true q']at h5;exact absurd h5 (by decide))
   | (simp at h5;omega)
 cases hwl with
 | cons w1 w2 =>
  cases w2
  cases w1 with
  | list ho hall=>exact⟨_,_,ns,rfl,rfl,ho,yx ns _ hall,hlen⟩
theorem Jf(l:OpenLaw)(args:List WData):l.row.toRowW.claim.post args (.bool true) args=true :=
 postW_of (r:=l.row.toRowW) (X:=(true == true))
  (show WShape.has [] (.bool true) .bool=true by first|rfl|decide|simp[WShape.has,WShape.arms,WShape.armsAll])
  (show (WTm.eq .res (.lit (.bool true))).value [] { args:=args,res:=some (.bool true),after:=args }=some (.bool (true == true)) from w_eq_bool (w_res rfl) w_lit) rfl
theorem Ew{l:OpenLaw}{n:Nat}{q:Program}{loose:List Str}{XP:(Str→Option Value)→Heap→Prop}{YP:World→Heap→Prop}{d:DefRec}
  (hn:l.most=some n) (hdf:d.params.defaults=[])
  (call:∀ (w:World) (s₀ s₁:Shared) (mg mb:Str→Option Value) (fa:Addr) (o:Obj) (pm cd doc:Value) (a:Addr) (vs:List Value) (ns:List Int),
   Ground q loose [] XP w s₀ mg mb s₁.heap→YP w s₁.heap →
   s₁.heap.get? fa=some o→o.data=.func (docDef d.name d.params d.body d.scope pm cd doc)→s₁.heap.CodeRec cd d.name→mg d.name=some (.ref fa) →
   s₁.heap.get? a=some { cls:=.type "list",data:=.seq vs.toArray }→IntsAre vs ns→ns.length≤n→s₁.gens=#[] →
   codeAny (model l.prog w) callerA (.call (.ref fa) ⟨[.ref a],[]⟩) (fun r s'=>r=.ok (.ret (.bool true))∧OldK s₁.heap s'.heap∧s'.os=s₁.os∧AllBare s'.gens) s₁) :
  WalkO q loose XP YP l.row.toRowW d [] (fun f vs=>PySem.call f vs):=by
 intro w s₀ s₁ mg mb G Y fa o pm cd doc dV kV ho hd hcd hD hmg hg args vals as hpre hlay hrd hwl hlo
 obtain rfl:dV=.none:=Dflts.none hD hdf
 obtain rfl:kV=.none:=Dflts.noKw hD
 obtain⟨a,vs,ns,rfl,rfl,hobj,hints,hlen⟩:=Je hn hpre hwl
 refine enter_call (codeAny_mono (call w s₀ s₁ mg mb fa o pm cd doc a vs ns G Y ho (fd_plain hd) hcd hmg hobj hints hlen hg) fun r s' hq=>?_)
 obtain⟨rfl,h2,h3,h4⟩:=hq
 exact⟨.inl ⟨.bool true,.bool true,[],rfl,fun _=>rfl,.bool true,Jf l _,fun _=>⟨List.Pairwise.nil,fun _ hm=>(nomatch hm)⟩⟩,h2,h3,h4⟩
end Att
namespace L2
open PySem PySem.Spec PyProof.Rows
theorem BL:∀ {vs:List Value} {ns:List Int},IntsAre vs ns→Vals (ns.map V.int) vs
 | _,_,.nil=>.nil
 | _,_,.cons n t h=>.cons ⟨t,rfl⟩ (BL h)
def Pp(H:Hp):Prop:=∀ b,H b=none∨∃ o xs,H b=some (.Gg o (.lst xs))
theorem KG{P:Program}{w:World}{K:PySem.W.Frag}{mg mb:Str→Option Value}{CX:J5}{k:Nat}{fa a:Addr}{fd:FuncData}{x:Str}{sp:Sp}{s₁:Shared}{vs:List Value}{ns:List Int}
  (KX:K.In s₁.heap) (hns:s₁.heap.Ns mainGlobals mg) (hb:s₁.heap.Ns builtinsNs mb) (hbb:∀ x:Str,x≠"__name__"→mb x=bootBuiltins x) (hlim:s₁.heap.NoLimit) (hg:s₁.gens=#[])
  (ha:s₁.heap.get? a=some { cls:=.type "list",data:=.seq vs.toArray }) (hi:IntsAre vs ns) (hl:ns.length≤sizeLine) (hr:j9 k callerA)
  (F:∀ base:Heap,K.In base→base.Ns mainGlobals mg→aH P w K mg base CX k fa fd [x] sp) (hbind:∀ (s:Shared) (u:Value),BindsTo s fd ⟨[u],[]⟩ [(x,u)])
  (Gu:∀ H:Hp,Pp H→b8 K H a (ns.map V.int)→sp [.ref a] H (fun v _=>v=.bl true) fun _ _ _=>False)
  (Vt:∀ H e s',CX [] H s₁ (fun _ _ _=>False) e s'→False) :
  codeAny (model P w) callerA (.call (.ref fa) ⟨[.ref a],[]⟩) (fun r s'=>r=.ok (.ret (.bool true))∧OldK s₁.heap s'.heap∧s'.os=s₁.os∧AllBare s'.gens) s₁:=by
 have rv:=BL hi
 have Vu:=hi.length
 have core:∀ H:Hp,Pp H→b8 K H a (ns.map V.int)→rV P w H s₁.heap→(∀ b,H b≠none→b=a)→(H a≠none→K.lookup a=none) →
   codeAny (model P w) callerA (.call (.ref fa) ⟨[.ref a],[]⟩) (fun r s'=>r=.ok (.ret (.bool true))∧OldK s₁.heap s'.heap∧s'.os=s₁.os∧AllBare s'.gens) s₁:=by
  intro H hO hS hok hA hK
  have HS:∀ {b:Addr} {o:Obj},s₁.heap.get? b=some o→H b=none→(CQ s₁.heap H).get? b=some o:=fun e n=>Kg e n
  have RE:∀ {b:Addr} {o:Obj} {es:Array DictEntry} {ep:Nat},s₁.heap.get? b=some o→o.data=.dict es ep→H b=none:=fun {b o es ep} e d=>by
   cases q:H b with
   | none=>rfl
   | some u =>
    have e':b=a:=hA b (by rw[q];simp)
    subst e'
    rw[ha]at e;cases e
    have d':Data.seq vs.toArray _=Data.dict es ep:=d
    cases d'
  have Ug:∀ {b:Addr} {m:Str→Option Value},s₁.heap.Ns b m→(CQ s₁.heap H).Ns b m:=fun {b m} ⟨o,es,ep,e,d,r⟩=>⟨o,es,ep,HS e (RE e d),d,r⟩
  have hKb:K.In (CQ s₁.heap H):=fun b o e=>HS (KX b o e) (by
   cases q:H b with
   | none=>rfl
   | some u =>
    have e':b=a:=hA b (by rw[q];simp)
    subst e'
    rw[hK (by rw[q];simp)]at e;cases e)
  have hM:Mod K mg (CQ s₁.heap H):=⟨hKb,Ug hns,⟨mb,Ug hb,hbb⟩,let ⟨mc,h1,h2⟩:=hlim;⟨mc,Ug h1,h2⟩⟩
  have e0:Gq P w K mg (CQ s₁.heap H) callerA [] s₁ H:=⟨rfl,hM,fun b o e=>Mr e,Nat.le_of_eq (IV _ _),trivial,fun b hb=>absurd (show b∈([]:List Addr) from hb) (by simp),hok,.of_eq hg⟩
  refine codeAny_mono ((F _ hKb (Ug hns)).run callerA [] s₁ H ⟨[.ref a],[]⟩ [.ref a] [.ref a] _ _ hr e0 (hbind s₁ (.ref a)) (.cons rfl .nil) (Gu H hO hS)) fun r s' h=>?_
  cases r with
  | error e=>exact (Vt H e s' h).elim
  | ok fl =>
   cases fl with
   | next=>exact False.elim h
   | brk=>exact False.elim h
   | cont=>exact False.elim h
   | ret u =>
    obtain⟨v,H',os,bare,un,Gz,r',q⟩:=h
    have q':v=.bl true:=q
    subst q'
    obtain rfl:u=Value.bool true:=r'
    refine⟨rfl,OldK.of_keep fun b o e=>?_,os,bare⟩
    cases q:H b with
    | none=>exact un.keep b o e q (by intro z;exact absurd (show b∈([]:List Addr) from z) (by simp)) (by simp)
    | some u =>
     rcases hO b with z|⟨ob,xs,z⟩
     ·rw[q]at z;cases z
     ·have z2:=un.Ba b ob _ z
      obtain⟨e1,_⟩:=hok b _ z
      obtain⟨e2,_⟩:=Gz b _ z2
      rw[e]at e1;cases e1
      exact e2
 cases hk:K.lookup a with
 | some o =>
  have e:=KX a o hk
  rw[ha]at e
  cases e
  refine core (fun _=>none) (fun _=>.inl rfl) (.inr ⟨_,vs.toArray,_,hk,rfl,rfl,rfl,by rw[j5,Vu];exact hl,by simpa using rv⟩) (fun b u z=>by have z':(none:Option HO)=some u:=z;cases z') (fun b z=>absurd rfl z) fun z=>absurd rfl z
 | none =>
  refine core (fun b=>if b=a then some (.Gg { cls:=.type "list",data:=.seq vs.toArray } (.lst (ns.map V.int))) else none) (fun b=>?_) (.inl (.inr ⟨{ cls:=.type "list",data:=.seq vs.toArray },if_pos rfl⟩)) (fun b u z=>?_) (fun b z=>?_) fun _=>hk
  ·by_cases hb:b=a
   ·exact .inr ⟨_,_,if_pos hb⟩
   ·exact .inl (if_neg hb)
  ·by_cases hb:b=a
   ·have z':=(if_pos hb).symm.trans z
    cases z'
    subst hb
    exact⟨ha,by rw[dW];exact hl,vs,_,rv,ha⟩
   ·have z':=(if_neg hb).symm.trans z
    cases z'
  ·by_cases hb:b=a
   ·exact hb
   ·exact absurd (if_neg hb) z
end L2
namespace L2
open PySem PySem.Spec PyProof.Rows
theorem MJ{l:PySem.W.OpenLaw}{n k:Nat}{q:Program}{loose:List Str}{XP:(Str→Option Value)→Heap→Prop}{YP:World→Heap→Prop}{d:DefRec}{K:Params→PySem.W.Frag}{CX:World→J5}{sp:World→Sp}{x:Str}
  (hn:l.most=some n) (hn2:n≤sizeLine) (hdf:d.params.defaults=[]) (hr:j9 k callerA)
  (hY:∀ (w:World) (h:Heap),YP w h→(K w.params).In h)
  (F:∀ (w:World) (mg:Str→Option Value) (fa:Addr) (h:Heap),(K w.params).In h→h.Ns mainGlobals mg→mg d.name=some (.ref fa) →
   ∃ fd:FuncData,(∀ (s:Shared) (u:Value),BindsTo s fd ⟨[u],[]⟩ [(x,u)]) ∧
    ∀ base:Heap,(K w.params).In base→base.Ns mainGlobals mg→aH l.prog w (K w.params) mg base (CX w) k fa fd [x] (sp w))
  (Gu:∀ (w:World) (H:Hp) (a:Addr) (ns:List Int),ns.length≤n→Pp H→b8 (K w.params) H a (ns.map V.int)→sp w [.ref a] H (fun v _=>v=.bl true) fun _ _ _=>False)
  (Vt:∀ (w:World) (H:Hp) (s:Shared) (e:Value) (s':Shared),CX w [] H s (fun _ _ _=>False) e s'→False) :
  PySem.W.WalkO q loose XP YP l.row.toRowW d [] (fun f vs=>PySem.call f vs):=by
 refine Att.Ew hn hdf fun w s₀ s₁ mg mb fa o pm cd doc a vs ns G Y ho hd hcd hmg hobj hints hlen hg=>?_
 have KX:=hY w _ Y
 obtain⟨fd,hb,hF⟩:=F w mg fa _ KX G.T.g hmg
 exact KG KX G.T.g G.T.b G.T.builtins G.T.nolimit hg hobj hints (lO hlen hn2) hr hF hb (fun H hO hS=>Gu w H a ns hlen hO hS) fun H e s'=>Vt w H s₁ e s'
end L2
namespace L2
open PySem PySem.Spec PyProof.Rows
def pB(s:Stmt):Arguments:=match s with
 | .FunctionDef _ a _ _ _ _ _ _ _ _=>a
 | _=>{ posonlyargs:=[],args:=[],vararg:=none,kwonlyargs:=[],kw_defaults:=[],kwarg:=none,defaults:=[] }
def mw(s:Stmt):List Stmt:=match s with
 | .FunctionDef _ _ b _ _ _ _ _ _ _=>b
 | _=>[]
def az(s:Stmt):Scope:=match s with
 | .FunctionDef _ _ _ _ _ _ sc _ _ _=>sc
 | _=>{ kind:=.function,names:=[],isGenerator:=false,isCoroutine:=false }
abbrev cK:J5:=fun _ _ _ _ _ _=>False
abbrev E0:XK:=fun _ _ _=>False
theorem cZ{X:Cx}:Passes cK X E0:=fun _ _ _ _ _ _ _ h=>h.elim
structure iJ(K:PySem.W.Frag)(x qual:Str)(st:Stmt)(f:Addr)(fd:FuncData):Prop where
 ex:∃ (oc:Value) (od:Option Addr) (kV doc pm:Value) (an:Option Addr) (cdv ct:Value) (osl:Array (Option Value)),
  fd=PySem.W.fnOf x qual (pB st) (mw st) (az st) .none kV doc pm an cdv ct∧K.lookup f=some ⟨oc,od,.func fd,osl⟩∧PySem.W.codeIn K cdv qual=true
 kp:PySem.W.keepIn K (.ref f)=true
section
variable {P:Program} {w:World} {K:PySem.W.Frag} {mg:Str→Option Value} {base:Heap}
theorem iJ.ok{x qual:Str}{st:Stmt}{f:Addr}{fd:FuncData}{N ps:List Str}{k:Nat}{sp:Sp}(F:iJ K x qual st f fd)(S:aL N ps (az st))(len:∀ vs H Q E,sp vs H Q E→vs.length=ps.length)
  (hbody:∀ (cdv:Value) (A:Around) (outer:List Env) (s:Shared) (H:Hp) (vs:List V) (Q:VK) (E:XK),j9 k (A.deeper (envOfC qual (az st) s.heap.objs.size f cdv))→sp vs H Q E →
   ∃ t,FZ (Gs cK P w K mg base N qual (az st) f cdv A outer s H E).En (mw st) t∧t { nx:=fun _ H'=>Q .jc H',rt:=Q } (start N vs) H):aH P w K mg base cK (k+1) f fd ps sp:=by
 obtain⟨oc,od,kV,doc,pm,an,cdv,ct,osl,rfl,lk,hcd⟩:=F.ex
 refine N4 lk hcd S len fun A outer s H vs Q E hr Gu=>?_
 obtain⟨t,h,q⟩:=hbody cdv A outer s H vs Q E hr Gu
 exact⟨t,h.En,q⟩
theorem iJ.binds{x qual:Str}{st:Stmt}{f:Addr}{fd:FuncData}{ps:List Str}(F:iJ K x qual st f fd)
  (h:∀ (kV doc pm:Value) (an:Option Addr) (cdv ct:Value) (us:List Value),us.length=ps.length→bindArgs (PySem.W.fnOf x qual (pB st) (mw st) (az st) .none kV doc pm an cdv ct) ⟨us,[]⟩=pure (ps.zip us)):Binds K fd ps []:=by
 obtain⟨oc,od,kV,doc,pm,an,cdv,ct,osl,rfl,lk,hcd⟩:=F.ex
 exact .all (h kV doc pm an cdv ct)
theorem GA{x qual:Str}{st:Stmt}{f:Addr}{oc:Value}{od an:Option Addr}{osl:Array (Option Value)}{kV doc pm cdv ct:Value}(l:K.lookup f=some ⟨oc,od,.func (PySem.W.fnOf x qual (pB st) (mw st) (az st) .none kV doc pm an cdv ct),osl⟩)
  (c:PySem.W.codeIn K cdv qual=true) (k:PySem.W.keepIn K (.ref f)=true):iJ K x qual st f (PySem.W.fnOf x qual (pB st) (mw st) (az st) .none kV doc pm an cdv ct):=⟨⟨oc,od,kV,doc,pm,an,cdv,ct,osl,rfl,l,c⟩,k⟩
end
theorem qh{A:Around}{k:Nat}(hr:j9 k A):A.units+1<cLine:=Nat.lt_of_le_of_lt (Nat.add_le_add_left (by decide:1≤64) _) hr.units
section
variable {X:Cx}
theorem pv(i:Nat){x:Str}{pos:Pos}(hN:X.N[i]?=some x:=by rfl)(hv:T4 X.env.scope x:=by first|exact Or.inl rfl|exact Or.inr (Or.inl rfl)|exact Or.inr (Or.inr rfl))(hd:(x == ("__debug__":Str))=false:=by decide)
  (hcd:(x == ("__classdict__":Str))=false:=by decide):PE X (.Name x pos) (Mt i):=OV hN hv hd hcd
end
theorem eU{A B:Prop}(h:B):if false=true then A else B:=by
 rw[if_neg uo]
 exact h
theorem iR{A B:Prop}(h:A):if true=true then A else B:=by
 rw[if_pos rfl]
 exact h
theorem gP{c A B:Prop} [Decidable c] (h1:c→A) (h2:¬ c→B):if c then A else B:=by
 by_cases h:c
 ·rw[if_pos h]
  exact h1 h
 ·rw[if_neg h]
  exact h2 h
theorem KH{c A B:Prop} [Decidable c] (hc:c) (h:B):if (!decide c)=true then A else B:=by
 rw[decide_eq_true hc]
 exact eU h
def aJ(H H':Hp):Prop:=∀ b o,H b=some o→H' b=some o
theorem aJ.refl(H:Hp):aJ H H:=fun _ _ h=>h
theorem aJ.trans{H H1 H2:Hp}(a:aJ H H1)(b:aJ H1 H2):aJ H H2:=fun c o h=>b c o (a c o h)
theorem aJ.free{H H':Hp}(e:aJ H H'){l:Addr}(h:H' l=Option.none):H l=Option.none:=by
 cases q:H l with
 | none=>rfl
 | some o =>
  rw[e l o q]at h
  cases h
end L2
namespace jk
open PySem L2
def top(i:Nat):Stmt:=PySem.Challenge.pw_inkroot_k65_heavy_forks_at_forty.main.body.getD i (.Pass ⟨0,0,0,0⟩)
def MK:Stmt→List Stmt
 | .ClassDef (body:=b) ..=>b
 | _=>[]
def iC(i j:Nat):Stmt:=(MK (top i)).getD j (.Pass ⟨0,0,0,0⟩)
inductive DI(K:PySem.W.Frag)(x:Str)(st:Stmt)(f:Addr):Prop
 | mk {oc:Value} {od an:Option Addr} {osl:Array (Option Value)} {kV doc pm cdv ct:Value} (_:PySem.W.nsIn K mainGlobals x=some (some (.ref f))) (_:K.lookup f=some ⟨oc,od,.func (PySem.W.fnOf x x (pB st) (mw st) (az st) .none kV doc pm an cdv ct),osl⟩) (_:PySem.W.codeIn K cdv x=true) (_:PySem.W.keepIn K (.ref f)=true):DI K x st f
inductive MI(K:PySem.W.Frag)(C:Addr)(x qual:Str)(st:Stmt)(f:Addr):Prop
 | mk {oc:Value} {od an:Option Addr} {osl:Array (Option Value)} {kV doc pm cdv ct:Value} (_:PySem.W.findIn K (.ref C) x=some (some (.ref f))) (_:PySem.W.isFn K (.ref f)=true) (_:K.lookup f=some ⟨oc,od,.func (PySem.W.fnOf x qual (pB st) (mw st) (az st) .none kV doc pm an cdv ct),osl⟩) (_:PySem.W.codeIn K cdv qual=true) (_:PySem.W.keepIn K (.ref f)=true):MI K C x qual st f
inductive CI(K:PySem.W.Frag)(x:Str)(C:Addr):Prop
 | mk (_:PySem.W.nsIn K mainGlobals x=some (some (.ref C))) (_:PySem.W.plainGet K C Str.empty=true) (_:PySem.W.hasDictIn K C=true) (_:PySem.W.plainOver K C=true) (_:PySem.W.findIn K (.ref C) "__setattr__"=some (some (.builtin "object.__setattr__"))) (_:PySem.W.makesIn K C=true) (_:PySem.W.keepIn K (.ref C)=true):CI K x C
inductive XI(K:PySem.W.Frag)(x:Str)(C:Addr):Prop
 | mk (_:PySem.W.nsIn K mainGlobals x=some (some (.ref C))) (_:PySem.W.excIn K C [.type "ValueError",.type "Exception",.type "BaseException",.type "object"] "ValueError.__new__"=true) (_:PySem.W.exmOne K (.ref C) (.ref C)=some true):XI K x C
inductive Ex(K:PySem.W.Frag)(vs:List V)(H:Hp)(Q:VK)(E:XK):Prop
 | mk (a:Addr) (ns:List Int) (_:vs=[.ref a]) (_:b8 K H a (ns.map V.int)) (_:ns.length≤63) (_: ∀ H',Q (.bl true) H'):Ex K vs H Q E
abbrev sW:Stmt:=top 68
abbrev nX:Stmt:=top 69
abbrev ku:Stmt:=top 70
abbrev nY:Stmt:=top 71
abbrev lT:Stmt:=top 11
abbrev ssize:Stmt:=top 12
abbrev iy:Stmt:=top 14
abbrev nB:Stmt:=top 15
abbrev uO:Stmt:=top 16
abbrev m6:Stmt:=top 21
abbrev C1:Stmt:=top 22
abbrev iX:Stmt:=iC 26 0
abbrev qJ:Stmt:=iC 26 3
abbrev dX:Stmt:=top 30
abbrev kg:Stmt:=top 31
abbrev iS:Stmt:=top 40
abbrev BN:Stmt:=top 41
abbrev gQ:Stmt:=top 36
abbrev dY:Stmt:=top 37
abbrev vM:Stmt:=top 38
abbrev fy:Stmt:=top 32
abbrev dU:Stmt:=top 33
abbrev zF:Stmt:=top 34
abbrev kR:Stmt:=top 43
abbrev gR:Stmt:=top 44
abbrev qK:Stmt:=top 45
abbrev qL:Stmt:=top 46
abbrev lU:Stmt:=top 47
abbrev nZ:Stmt:=top 49
abbrev qM:Stmt:=top 48
abbrev lV:Stmt:=top 50
abbrev jm:Stmt:=top 52
abbrev kB:Stmt:=top 53
abbrev n5:Stmt:=top 55
abbrev iY:Stmt:=iC 56 0
abbrev dc:Stmt:=iC 56 3
abbrev dZ:Stmt:=iC 56 2
abbrev kC:Stmt:=iC 56 1
abbrev b5:Stmt:=iC 56 4
abbrev bJ:Stmt:=iC 56 5
abbrev cA:Stmt:=iC 56 6
abbrev n6:Stmt:=iC 56 7
abbrev dH:Stmt:=iC 56 8
abbrev dN:Stmt:=iC 56 10
abbrev mO:Stmt:=iC 56 9
abbrev jo:Stmt:=iC 58 0
abbrev jq:Stmt:=iC 28 0
abbrev jt:Stmt:=iC 60 0
abbrev ki:Stmt:=iC 60 2
abbrev n8:Stmt:=iC 60 1
abbrev jJ:Stmt:=iC 60 5
abbrev uP:Stmt:=iC 60 3
abbrev kF:Stmt:=iC 60 6
abbrev kT:Stmt:=top 65
abbrev bV:Stmt:=iC 66 1
abbrev jO:Stmt:=iC 66 26
abbrev kU:Stmt:=iC 66 25
abbrev cj:Stmt:=iC 66 2
abbrev iD:Stmt:=iC 66 3
abbrev iE:Stmt:=iC 66 7
abbrev fO:Stmt:=iC 66 30
abbrev mz:Stmt:=iC 66 34
abbrev jP:Stmt:=iC 66 6
abbrev iT:Stmt:=iC 66 27
abbrev dG:Stmt:=iC 66 4
abbrev kW:Stmt:=iC 66 8
abbrev gU:Stmt:=iC 66 0
abbrev kX:Stmt:=iC 66 9
abbrev nC:Stmt:=iC 66 28
abbrev gF:Stmt:=iC 66 12
abbrev dh:Stmt:=iC 66 29
abbrev jQ:Stmt:=iC 66 15
abbrev jR:Stmt:=iC 66 14
abbrev jY:Stmt:=iC 66 35
abbrev qN:Stmt:=top 72
abbrev pC:Stmt:=top 73
abbrev qO:Stmt:=top 74
abbrev KI:Stmt:=top 75
end jk
namespace jk
open PySem L2
def N6:Prop:=∀ {l:PySem.W.OpenLaw} {w:World} {K:PySem.W.Frag} {h:Heap} {mg:Str→Option Value} {fa:Addr} {f0 f1 f2 f3 f4 f5 f6 f7 f8 f9 N7 Vv Vw f13 Uh f15 f16 f17 f18 Vx f20 f21 Vy f23 f24 f25 f26 f27 f28 f29 f30 f31 f32 f33 f34 f35 f36 f37 f38 f39 f40 f41 f42 f43 f44 f45 f46 f47 f48 f49 f50 f51 f52 f53 f54 f55 f56 f57 f58 f59 f60 f61 f62 f63 f64 zG f66 f67 f68 f69 f70 f71 f72 f73 f74 f75 f76 f77 bG eL gB ur yc aG C0 mP nL qj mQ nM sX:Addr} {uu uv Ey:Tok} (X:K.In h) (G:h.Ns mainGlobals mg) (hfa:mg "law"=some (.ref fa))
  (HU:CI K "Shelf" bG)
  (uw:PySem.W.findIn K (.ref bG) "states"=some none)
  (rC:PySem.W.findIn K (.ref bG) "openings"=some none)
  (KJ:CI K "Well" eL)
  (yd:PySem.W.findIn K (.ref eL) "signs"=some none)
  (vN:PySem.W.findIn K (.ref eL) "owners"=some none)
  (sf:PySem.W.findIn K (.ref eL) "pourings"=some none)
  (HV:CI K "Blots" gB)
  (ux:PySem.W.findIn K (.ref gB) "stains"=some none)
  (KL:CI K "Ties" ur)
  (ye:PySem.W.findIn K (.ref ur) "given"=some none)
  (yf:PySem.W.findIn K (.ref ur) "pairs"=some none)
  (KN:CI K "Dues" yc)
  (zH:PySem.W.findIn K (.ref yc) "sums"=some none)
  (BO:CI K "Library" aG)
  (uy:PySem.W.findIn K (.ref aG) "well"=some none)
  (sj:PySem.W.findIn K (.ref aG) "shelf"=some none)
  (sr:PySem.W.findIn K (.ref aG) "blots"=some none)
  (su:PySem.W.findIn K (.ref aG) "knots"=some none)
  (uz:PySem.W.findIn K (.ref aG) "dues"=some none)
  (uA:PySem.W.findIn K (.ref aG) "book"=some none)
  (q0:DI K "_law_src" sW f0)
  (q1:DI K "_law_next" nX f1)
  (q2:DI K "_law_whole" ku f2)
  (q3:DI K "_law_same" nY f3)
  (q4:DI K "plain" lT f4)
  (q5:DI K "size" ssize f5)
  (q6:DI K "check_places" iy f6)
  (q7:DI K "pieces" nB f7)
  (q8:DI K "addresses" uO f8)
  (q9:DI K "first_reaching" m6 f9)
  (yy:DI K "within" C1 N7)
  (q11:MI K gB "__init__" "Blots.__init__" iX Vv)
  (q12:MI K gB "hides" "Blots.hides" qJ Vw)
  (q13:DI K "windows" dX f13)
  (q14:DI K "below" kg Uh)
  (q15:DI K "way_between" iS f15)
  (q16:DI K "ring" BN f16)
  (q17:DI K "item_weight" gQ f17)
  (q18:DI K "weights_below" dY f18)
  (q19:DI K "weight" vM Vx)
  (q20:DI K "item_row" fy f20)
  (q21:DI K "views_below" dU f21)
  (q22:DI K "shown" zF Vy)
  (q23:DI K "goes_on" kR f23)
  (q24:DI K "plain_items" gR f24)
  (q25:DI K "inked" qK f25)
  (q26:DI K "dealt" qL f26)
  (q27:DI K "put_among" lU f27)
  (q28:DI K "put_items" nZ f28)
  (q29:DI K "parted" qM f29)
  (q30:DI K "cut_items" lV f30)
  (q31:DI K "ink_words" jm f31)
  (q32:DI K "shown_deed" kB f32)
  (q33:DI K "changed" n5 f33)
  (q34:MI K bG "__init__" "Shelf.__init__" iY f34)
  (q35:MI K bG "now" "Shelf.now" dc f35)
  (q36:MI K bG "many" "Shelf.many" dZ f36)
  (q37:MI K bG "step" "Shelf.step" kC f37)
  (q38:MI K bG "check_sheet" "Shelf.check_sheet" b5 f38)
  (q39:MI K bG "check_moment" "Shelf.check_moment" bJ f39)
  (q40:MI K bG "check_then" "Shelf.check_then" cA f40)
  (q41:MI K bG "row" "Shelf.row" n6 f41)
  (q42:MI K bG "row_then" "Shelf.row_then" dH f42)
  (q43:MI K bG "rows_then" "Shelf.rows_then" dN f43)
  (q44:MI K bG "rows" "Shelf.rows" mO f44)
  (q45:MI K ur "__init__" "Ties.__init__" jo f45)
  (q46:MI K yc "__init__" "Dues.__init__" jq f46)
  (q47:MI K eL "__init__" "Well.__init__" jt f47)
  (q48:MI K eL "size" "Well.size" ki f48)
  (q49:MI K eL "pour" "Well.pour" n8 f49)
  (q50:MI K eL "check_address" "Well.check_address" jJ f50)
  (q51:MI K eL "sign" "Well.sign" uP f51)
  (q52:MI K eL "holds" "Well.holds" kF f52)
  (q53:DI K "check_weave" kT f53)
  (q54:MI K aG "__init__" "Library.__init__" gU f54)
  (q55:MI K aG "enter" "Library.enter" bV f55)
  (q56:MI K aG "change" "Library.change" cj f56)
  (q57:MI K aG "many" "Library.many" jO f57)
  (q58:MI K aG "now" "Library.now" kU f58)
  (q59:MI K aG "begin" "Library.begin" iD f59)
  (q60:MI K aG "fresh" "Library.fresh" iE f60)
  (q61:MI K aG "ink" "Library.ink" iT f61)
  (q62:MI K aG "check_held" "Library.check_held" dG f62)
  (q63:MI K aG "pour" "Library.pour" jP f63)
  (q64:MI K aG "put" "Library.put" kW f64)
  (vB:MI K aG "shown" "Library.shown" fO zG)
  (q66:MI K aG "size" "Library.size" mz f66)
  (q67:MI K aG "cut" "Library.cut" kX f67)
  (q68:MI K aG "row" "Library.row" nC f68)
  (q69:MI K aG "window" "Library.window" gF f69)
  (q70:MI K aG "row_then" "Library.row_then" dh f70)
  (q71:MI K aG "fork" "Library.fork" jQ f71)
  (q72:MI K aG "back" "Library.back" jR f72)
  (q73:MI K aG "weight" "Library.weight" jY f73)
  (q74:DI K "_law_deed" qN f74)
  (q75:DI K "_law_ready" pC f75)
  (q76:DI K "_law_more" qO f76)
  (q77:DI K "law" KI f77)
  (z0:PySem.W.nsIn K mainGlobals "len"=some none)
  (z1:PySem.W.nsIn K mainGlobals "list"=some none)
  (z2:PySem.W.nsIn K mainGlobals "tuple"=some none)
  (z3:PySem.W.nsIn K mainGlobals "int"=some none)
  (z4:PySem.W.nsIn K mainGlobals "bool"=some none)
  (z5:PySem.W.nsIn K mainGlobals "str"=some none)
  (z6:PySem.W.nsIn K mainGlobals "range"=some none)
  (z7:PySem.W.nsIn K mainGlobals "zip"=some none)
  (z8:PySem.W.nsIn K mainGlobals "isinstance"=some none)
  (z9:PySem.W.nsIn K mainGlobals "sum"=some none)
  (z10:PySem.W.nsIn K mainGlobals "min"=some none)
  (z11:PySem.W.nsIn K mainGlobals "max"=some none)
  (z12:PySem.W.nsIn K mainGlobals "all"=some none)
  (e0:XI K "OutOfPlace" C0)
  (Ez:XI K "NoSheet" mP)
  (BP:XI K "NoMoment" nL)
  (BQ:XI K "OutOfInk" qj)
  (EA:XI K "TooMany" mQ)
  (BR:XI K "TooHeavy" nM)
  (BS:XI K "InkError" sX)
  (uB:PySem.W.nsIn K mainGlobals "MOST_SHEETS"=some (some (.int 40 uu)))
  (uC:PySem.W.nsIn K mainGlobals "MOST_WEIGHT"=some (some (.int 200 uv)))
  (EB:PySem.W.nsIn K mainGlobals "HIDDEN"=some (some (.str (Str.ofString "#") Ey)))
  (vO:PySem.W.nsIn K mainGlobals "size_spans"=some (some (.ref f5)))
  (uD:PySem.W.nsIn K mainGlobals "shown_weave"=some (some (.ref Vy)))
  (sC:PySem.W.nsIn K mainGlobals "weight_weave"=some (some (.ref Vx)))
  (xn0:PySem.W.exmOne K (.ref nM) (.ref mQ)=some false),
  ∃ fd:FuncData,(∀ (s:Shared) (v:Value),BindsTo s fd ⟨[v],[]⟩ [("_law_script",v)])∧∀ base:Heap,K.In base→base.Ns mainGlobals mg→aH l.prog w K mg base cK 14 fa fd ["_law_script"] (Ex K)
theorem walk{l:PySem.W.OpenLaw}{q:Program}{loose:List Str}{XP:(Str→Option Value)→Heap→Prop}{YP:World→Heap→Prop}{d:DefRec}{K:Params→PySem.W.Frag}(hn:l.most=some 63)(hdf:d.params.defaults=[])
  (hY:∀ (w:World) (h:Heap),YP w h→(K w.params).In h)
  (F:∀ (w:World) (mg:Str→Option Value) (fa:Addr) (h:Heap),(K w.params).In h→h.Ns mainGlobals mg→mg d.name=some (.ref fa) →
   ∃ fd:FuncData,(∀ (s:Shared) (u:Value),BindsTo s fd ⟨[u],[]⟩ [("_law_script",u)])∧∀ base:Heap,(K w.params).In base→base.Ns mainGlobals mg→aH l.prog w (K w.params) mg base cK 14 fa fd ["_law_script"] (Ex (K w.params))) :
  PySem.W.WalkO q loose XP YP l.row.toRowW d [] (fun f vs=>PySem.call f vs) :=
 L2.MJ (n:=63) (k:=14) (x:="_law_script") (CX:=fun _=>cK) (sp:=fun w=>Ex (K w.params)) hn (by decide) hdf ⟨rfl,by decide,by decide⟩ hY F (fun _ _ a ns hl _ hS=>⟨a,ns,rfl,hS,hl,fun _=>rfl⟩) fun _ _ _ _ _ z=>z
end jk
namespace PySem.W.Fast
theorem tw605904592817014151:True:=⟨⟩
theorem tw2563948553743823404:True:=⟨⟩
theorem tw13106630060642719106:True:=⟨⟩
theorem tw1494403283560815912:True:=⟨⟩
theorem tw13477492415930191590:True:=⟨⟩
theorem tw811743885820969268:True:=⟨⟩
theorem tw1507053438214914581:True:=⟨⟩
theorem tw9361456021359662947:True:=⟨⟩
theorem tw10780457899729828154:True:=⟨⟩
theorem tw18342027581841266126:True:=⟨⟩
theorem tw12203920561962091332:True:=⟨⟩
theorem tw939242530252869791:True:=⟨⟩
theorem tw1193303961538754390:True:=⟨⟩
theorem tw1862585932415076781:True:=⟨⟩
theorem tw15914616379228391775:True:=⟨⟩
theorem tw7686373073370199463:True:=⟨⟩
theorem tw9362459901547965818:True:=⟨⟩
theorem tw1834129590089596015:True:=⟨⟩
theorem tw14084862251627091942:True:=⟨⟩
theorem tw5705506972410153244:True:=⟨⟩
theorem tw10125139120224632559:True:=⟨⟩
theorem tw4530808673940933688:True:=⟨⟩
theorem tw17925460255549354295:True:=⟨⟩
theorem tw5953803223824535582:True:=⟨⟩
theorem tw4937352734460082506:True:=⟨⟩
theorem tw12275122279225762435:True:=⟨⟩
theorem tw16332904379957623211:True:=⟨⟩
theorem tw1633100836052788359:True:=⟨⟩
theorem tw7819144270879261545:True:=⟨⟩
theorem tw12728631968287412249:True:=⟨⟩
theorem tw17390454635899712481:True:=⟨⟩
theorem tw10389497969393730045:True:=⟨⟩
theorem tw6274881367250214956:True:=⟨⟩
theorem tw6891234202875316733:True:=⟨⟩
theorem tw10472991024240181040:True:=⟨⟩
theorem tw16533659082087322710:True:=⟨⟩
theorem tw736248545631355285:True:=⟨⟩
theorem tw14355638409128934407:True:=⟨⟩
theorem tw4995278839684659579:True:=⟨⟩
theorem tw14406435868745757100:True:=⟨⟩
theorem tw15413305579988457416:True:=⟨⟩
theorem tw15217887490539988664:True:=⟨⟩
theorem tw3762828896016036102:True:=⟨⟩
theorem tw5871616462540045351:True:=⟨⟩
theorem tw12166777765999884801:True:=⟨⟩
theorem tw3385395814009616308:True:=⟨⟩
theorem tw7478342663553759865:True:=⟨⟩
theorem tw6897528688559045356:True:=⟨⟩
theorem tw14111636536108468781:True:=⟨⟩
theorem tw14692299578098713970:True:=⟨⟩
theorem tw11531359131107363997:True:=⟨⟩
theorem tw6526784364116257307:True:=⟨⟩
theorem tw12374570660880208098:True:=⟨⟩
theorem tw27525352651994981:True:=⟨⟩
theorem tw17781520641107415719:True:=⟨⟩
theorem tw1803115329994341027:True:=⟨⟩
theorem tw2579696556269157278:True:=⟨⟩
theorem tw9840475688160417916:True:=⟨⟩
theorem tw2522365935124084852:True:=⟨⟩
theorem tw13434210968737022645:True:=⟨⟩
theorem tw2698571088435839494:True:=⟨⟩
theorem tw8293894960646460695:True:=⟨⟩
theorem tw13701474760867576158:True:=⟨⟩
theorem tw4553140232785366936:True:=⟨⟩
theorem tw8551768240724716985:True:=⟨⟩
theorem tw7913091221202170412:True:=⟨⟩
theorem tw10421217499714567657:True:=⟨⟩
theorem tw8268224097612934356:True:=⟨⟩
theorem tw11604235440287295010:True:=⟨⟩
theorem tw10776955645816903164:True:=⟨⟩
theorem tw207795386799708191:True:=⟨⟩
theorem tw16126779504677802321:True:=⟨⟩
theorem tw8738369630808277183:True:=⟨⟩
theorem tw18251180914451776743:True:=⟨⟩
theorem tw14575161698965313933:True:=⟨⟩
theorem tw7267071757810160892:True:=⟨⟩
theorem tw3248582946355065033:True:=⟨⟩
theorem tw13897066389606185649:True:=⟨⟩
theorem tw8380304913718614479:True:=⟨⟩
theorem tw17374955288233161795:True:=⟨⟩
theorem tw17267337385874405188:True:=⟨⟩
theorem tw2649754032755489480:True:=⟨⟩
theorem tw4467295805397054357:True:=⟨⟩
theorem tw16146446708698394461:True:=⟨⟩
theorem tw10246819678752480190:True:=⟨⟩
theorem tw3168463494349530484:True:=⟨⟩
theorem tw17101111851950386802:True:=⟨⟩
theorem tw8114486493911480041:True:=⟨⟩
theorem tw184328913871800080:True:=⟨⟩
theorem tw3575745010994418173:True:=⟨⟩
theorem tw344228614303790770:True:=⟨⟩
theorem tw17077216041367705423:True:=⟨⟩
theorem tw4301214611169576099:True:=⟨⟩
theorem tw8171403666536165066:True:=⟨⟩
theorem tw9909447255839313857:True:=⟨⟩
theorem tw8134366499503682036:True:=⟨⟩
theorem tw4207469114087467507:True:=⟨⟩
theorem tw15848407283504956142:True:=⟨⟩
theorem tw9643492772126696698:True:=⟨⟩
theorem tw167211592978819082:True:=⟨⟩
theorem tw15704173683977828910:True:=⟨⟩
theorem tw9261334807704476920:True:=⟨⟩
theorem tw13333433251184663525:True:=⟨⟩
theorem tw190631197195024778:True:=⟨⟩
theorem tw13052913381014042032:True:=⟨⟩
theorem tw1674943913290338310:True:=⟨⟩
theorem tw6051317561553907618:True:=⟨⟩
theorem tw8080519711895831014:True:=⟨⟩
theorem tw17945550837172694003:True:=⟨⟩
theorem tw6131896605450315552:True:=⟨⟩
theorem tw4012347106752408431:True:=⟨⟩
theorem tw547463751719774927:True:=⟨⟩
theorem tw16956753140938780283:True:=⟨⟩
theorem tw1662947998407612246:True:=⟨⟩
theorem tw4493666024247147939:True:=⟨⟩
theorem tw783094891023281238:True:=⟨⟩
theorem tw5281920410758173124:True:=⟨⟩
theorem tw8387908970115945386:True:=⟨⟩
theorem tw7626757522652795689:True:=⟨⟩
theorem tw7827056320314602274:True:=⟨⟩
theorem tw14875800407762351476:True:=⟨⟩
theorem tw13687987320525662888:True:=⟨⟩
theorem tw15040197417901641007:True:=⟨⟩
theorem tw9390197185379114780:True:=⟨⟩
theorem tw14782754827671890774:True:=⟨⟩
theorem tw16593393106619447585:True:=⟨⟩
theorem tw13482336732834525381:True:=⟨⟩
theorem tw2511279462276074399:True:=⟨⟩
theorem tw17080822284036484970:True:=⟨⟩
theorem tw14604228522406390568:True:=⟨⟩
theorem tw237848892744324536:True:=⟨⟩
theorem tw6440190141139642213:True:=⟨⟩
theorem tw8366936752783194131:True:=⟨⟩
theorem tw13734557750529968816:True:=⟨⟩
theorem tw13709827757068845807:True:=⟨⟩
theorem tw1860645213171160645:True:=⟨⟩
theorem tw16053751784138015100:True:=⟨⟩
theorem tw3641009040337893873:True:=⟨⟩
theorem tw4728392472301582176:True:=⟨⟩
theorem tw15514882789969625335:True:=⟨⟩
theorem tw16879795386275680737:True:=⟨⟩
theorem tw3889013234318592530:True:=⟨⟩
theorem tw13872752439742977342:True:=⟨⟩
theorem tw9430972754655135496:True:=⟨⟩
theorem tw6880038639319396981:True:=⟨⟩
theorem tw10991538672134778173:True:=⟨⟩
theorem tw1086267927655588863:True:=⟨⟩
theorem tw16483265754305658776:True:=⟨⟩
theorem tw15120566508003727800:True:=⟨⟩
theorem tw11068849785014406765:True:=⟨⟩
theorem tw16277597484777555209:True:=⟨⟩
theorem tw4027510550128471741:True:=⟨⟩
theorem tw7095244101946602474:True:=⟨⟩
theorem tw10831248949461956668:True:=⟨⟩
theorem tw12369192198026927694:True:=⟨⟩
theorem tw17855301879033695439:True:=⟨⟩
theorem tw16281024041663110309:True:=⟨⟩
theorem tw7102687892468922813:True:=⟨⟩
theorem tw18001939137964270878:True:=⟨⟩
theorem tw15005822148034858369:True:=⟨⟩
theorem tw16133516880805722646:True:=⟨⟩
theorem tw2795767952671515106:True:=⟨⟩
theorem tw5223887000359381344:True:=⟨⟩
theorem tw7137478508293987490:True:=⟨⟩
theorem tw14318364231731083199:True:=⟨⟩
theorem tw5819826274947123133:True:=⟨⟩
theorem tw111085372521756785:True:=⟨⟩
theorem tw17592252833480580246:True:=⟨⟩
theorem tw4777360691839232623:True:=⟨⟩
theorem tw9520858294792854094:True:=⟨⟩
theorem tw2678065718522177335:True:=⟨⟩
theorem tw16702719469170768689:True:=⟨⟩
theorem tw2665096841313133170:True:=⟨⟩
theorem tw16959982468232223576:True:=⟨⟩
theorem tw487026957197405592:True:=⟨⟩
theorem tw15882777834785171217:True:=⟨⟩
theorem tw10141441513439461193:True:=⟨⟩
theorem tw9822904700618882783:True:=⟨⟩
theorem tw3551429792098754134:True:=⟨⟩
theorem tw18203926585352483690:True:=⟨⟩
theorem tw14283375429694618843:True:=⟨⟩
theorem tw8145556229093320915:True:=⟨⟩
theorem tw18330081064967958596:True:=⟨⟩
theorem tw6520177339659035468:True:=⟨⟩
theorem tw11900213970771838741:True:=⟨⟩
theorem tw6221348833195793499:True:=⟨⟩
theorem tw4716409054860223739:True:=⟨⟩
theorem tw9087748158253302249:True:=⟨⟩
theorem tw11116870502777657146:True:=⟨⟩
theorem tw3539284921163466830:True:=⟨⟩
theorem tw14135909627524444329:True:=⟨⟩
theorem tw10457359855406304200:True:=⟨⟩
theorem tw3437175233225347488:True:=⟨⟩
theorem tw7098875258789409731:True:=⟨⟩
theorem tw15571770824511192673:True:=⟨⟩
theorem tw7823467405238228305:True:=⟨⟩
theorem tw13261751362122224471:True:=⟨⟩
theorem tw11123480764859513076:True:=⟨⟩
theorem tw1623618658396339626:True:=⟨⟩
theorem tw8474130989882614510:True:=⟨⟩
theorem tw7474382187163684846:True:=⟨⟩
theorem tw10992466231599846088:True:=⟨⟩
theorem tw11621239698226307547:True:=⟨⟩
theorem tw2784381226078599327:True:=⟨⟩
theorem tw1188443084915012945:True:=⟨⟩
theorem tw3625526954897024166:True:=⟨⟩
theorem tw8951809914743602109:True:=⟨⟩
theorem tw7603953952572800822:True:=⟨⟩
theorem tw14240785475757707861:True:=⟨⟩
theorem tw18257427850821500553:True:=⟨⟩
theorem tw17651392851076539668:True:=⟨⟩
theorem tw5714344252815447484:True:=⟨⟩
theorem tw17086071729342359620:True:=⟨⟩
theorem tw373808761481269181:True:=⟨⟩
theorem tw13904394274849283805:True:=⟨⟩
theorem tw3815717499979367769:True:=⟨⟩
theorem tw19643994265869158:True:=⟨⟩
theorem tw8105797581535221850:True:=⟨⟩
theorem tw16214512771374138022:True:=⟨⟩
theorem tw13326495410163488990:True:=⟨⟩
theorem tw15220099331079001181:True:=⟨⟩
theorem tw9383687580527856288:True:=⟨⟩
theorem tw13560278353126970230:True:=⟨⟩
theorem tw13341538007602123783:True:=⟨⟩
theorem tw1683024176562277438:True:=⟨⟩
theorem tw3963212916992712303:True:=⟨⟩
theorem tw5096330536316795255:True:=⟨⟩
theorem tw5445445825574675526:True:=⟨⟩
theorem tw2286032394986036384:True:=⟨⟩
theorem tw12111691205687713997:True:=⟨⟩
theorem tw4717812607913801631:True:=⟨⟩
theorem tw12273818669862388812:True:=⟨⟩
theorem tw5403388353251547190:True:=⟨⟩
theorem tw8926496005369963452:True:=⟨⟩
theorem tw4924157724832428858:True:=⟨⟩
theorem tw14868750789292559876:True:=⟨⟩
theorem tw949916343041871089:True:=⟨⟩
theorem tw4730106012817521388:True:=⟨⟩
theorem tw6278030293691533318:True:=⟨⟩
theorem tw2806324185758049254:True:=⟨⟩
theorem tw17502133890901156874:True:=⟨⟩
theorem tw15538427820965169070:True:=⟨⟩
theorem tw9246358177171348703:True:=⟨⟩
theorem tw16878601945272990939:True:=⟨⟩
theorem tw3875644747978339985:True:=⟨⟩
theorem tw13469494695379471155:True:=⟨⟩
theorem tw11887081516001597903:True:=⟨⟩
theorem tw2236427792876407180:True:=⟨⟩
theorem tw4566918806536784729:True:=⟨⟩
theorem tw5106940828564517184:True:=⟨⟩
theorem tw17908733064243205876:True:=⟨⟩
theorem tw16951720962191234816:True:=⟨⟩
theorem tw15313785432385659676:True:=⟨⟩
theorem tw11677656790281987099:True:=⟨⟩
theorem tw13553170716655788126:True:=⟨⟩
theorem tw12542384858764522442:True:=⟨⟩
theorem tw3889888019992763855:True:=⟨⟩
theorem tw7761276733975542159:True:=⟨⟩
theorem tw10344848736865245636:True:=⟨⟩
theorem tw3327791649927042367:True:=⟨⟩
theorem tw12609666429935607130:True:=⟨⟩
theorem tw7469148460282823463:True:=⟨⟩
theorem tw5900470597947005418:True:=⟨⟩
theorem tw3080132308555653698:True:=⟨⟩
theorem tw18109215563450933499:True:=⟨⟩
theorem tw17082665771208702460:True:=⟨⟩
theorem tw7127833195996093676:True:=⟨⟩
theorem tw12340597727064104588:True:=⟨⟩
theorem tw9577545195770880766:True:=⟨⟩
theorem tw4217900664033361513:True:=⟨⟩
theorem tw20173761963414662:True:=⟨⟩
theorem tw6176060654584888579:True:=⟨⟩
theorem tw6785342703605463191:True:=⟨⟩
theorem tw17401619358061667150:True:=⟨⟩
theorem tw8065072631518848753:True:=⟨⟩
theorem tw521807013363858524:True:=⟨⟩
theorem tw11872016268803958888:True:=⟨⟩
theorem tw2186907964767136953:True:=⟨⟩
theorem tw10141309886110254039:True:=⟨⟩
theorem tw10810991468923637584:True:=⟨⟩
theorem tw5057915718115969159:True:=⟨⟩
theorem tw7078999286129298640:True:=⟨⟩
theorem tw22705470348115213:True:=⟨⟩
theorem tw1522652062503522289:True:=⟨⟩
theorem tw3357220593774238301:True:=⟨⟩
theorem tw3109290131205293074:True:=⟨⟩
theorem tw8425562801282285434:True:=⟨⟩
theorem tw16463678228610632169:True:=⟨⟩
theorem tw7892865332284423938:True:=⟨⟩
theorem tw5532090566442659984:True:=⟨⟩
theorem tw6387270572627706484:True:=⟨⟩
theorem tw18244944158029428968:True:=⟨⟩
theorem tw16281486525785646543:True:=⟨⟩
theorem tw9159312286772329059:True:=⟨⟩
theorem tw2913651381920534443:True:=⟨⟩
theorem tw7781247200883025679:True:=⟨⟩
theorem tw18306186554480089336:True:=⟨⟩
theorem tw17453519081855546978:True:=⟨⟩
theorem tw17014980610284105479:True:=⟨⟩
theorem tw7372375386912573348:True:=⟨⟩
theorem tw6031026669041293163:True:=⟨⟩
theorem tw16511068935422505571:True:=⟨⟩
theorem tw2674394158709112273:True:=⟨⟩
theorem tw675595924052210907:True:=⟨⟩
theorem tw1300326755963560408:True:=⟨⟩
theorem tw15733024379838586542:True:=⟨⟩
theorem tw5507597107663425989:True:=⟨⟩
theorem tw1010325273562584319:True:=⟨⟩
theorem tw17624066473624047453:True:=⟨⟩
theorem tw12421027823249284848:True:=⟨⟩
theorem tw11714815658406482183:True:=⟨⟩
theorem tw859195624427582033:True:=⟨⟩
theorem tw12688540423674481047:True:=⟨⟩
theorem tw10699241455102626749:True:=⟨⟩
theorem tw18048026197854279834:True:=⟨⟩
theorem tw7225221327815512937:True:=⟨⟩
theorem tw3697329845931888339:True:=⟨⟩
theorem tw12403399072591916679:True:=⟨⟩
theorem tw11305711317002663725:True:=⟨⟩
theorem tw1664994203912704915:True:=⟨⟩
theorem tw8481239301521464083:True:=⟨⟩
theorem tw16606959810196038502:True:=⟨⟩
theorem tw2204754979281442334:True:=⟨⟩
theorem tw17164800878199662299:True:=⟨⟩
theorem tw17592323113784520109:True:=⟨⟩
theorem tw13071469674711926221:True:=⟨⟩
theorem tw14890837591963273250:True:=⟨⟩
theorem tw5058777378621411011:True:=⟨⟩
theorem tw5950424228736913541:True:=⟨⟩
theorem tw5006182645516953366:True:=⟨⟩
theorem tw7765856236318500551:True:=⟨⟩
theorem tw7416384851353085390:True:=⟨⟩
theorem tw28356917755441891:True:=⟨⟩
theorem tw12359132641971202756:True:=⟨⟩
theorem tw11234435560729889359:True:=⟨⟩
theorem tw10803672683341700476:True:=⟨⟩
theorem tw11257942604374291546:True:=⟨⟩
theorem tw12921727089725322379:True:=⟨⟩
theorem tw15707426313333817458:True:=⟨⟩
theorem tw8593617010474835082:True:=⟨⟩
theorem tw11674988600127579714:True:=⟨⟩
theorem tw7033039114001924700:True:=⟨⟩
theorem tw4717212222596727502:True:=⟨⟩
theorem tw13352829085448707809:True:=⟨⟩
theorem tw6202689113468482824:True:=⟨⟩
theorem tw14343315282528766032:True:=⟨⟩
theorem tw12019427789149190230:True:=⟨⟩
theorem tw17111101908465287963:True:=⟨⟩
theorem tw17078434610430891725:True:=⟨⟩
theorem tw2242932790941229960:True:=⟨⟩
theorem tw7675399403942219595:True:=⟨⟩
theorem tw14187923781843353450:True:=⟨⟩
theorem tw14402481249662232127:True:=⟨⟩
theorem tw1881552913105462385:True:=⟨⟩
theorem tw7305142291323800303:True:=⟨⟩
theorem tw12267123884766066321:True:=⟨⟩
theorem tw8069062081235447476:True:=⟨⟩
theorem tw15456080362070237521:True:=⟨⟩
theorem tw16074095119231167219:True:=⟨⟩
theorem tw5889709770245326726:True:=⟨⟩
theorem tw17896399851584114017:True:=⟨⟩
theorem tw4970146950553746555:True:=⟨⟩
theorem tw3790546936502120861:True:=⟨⟩
theorem tw12735482486380819753:True:=⟨⟩
theorem tw3183698896448557283:True:=⟨⟩
theorem tw12369249543041848584:True:=⟨⟩
theorem tw16378989311482558061:True:=⟨⟩
theorem tw16351681842894510934:True:=⟨⟩
theorem tw10095089806000807381:True:=⟨⟩
theorem tw5664964701396444485:True:=⟨⟩
theorem tw14593014035676966862:True:=⟨⟩
theorem tw9547027181195853716:True:=⟨⟩
theorem tw13794071876128460024:True:=⟨⟩
theorem tw2187454635195655711:True:=⟨⟩
theorem tw11380979003945201677:True:=⟨⟩
theorem tw11156224673543258778:True:=⟨⟩
theorem tw7828394916492530875:True:=⟨⟩
theorem tw4286078292440335699:True:=⟨⟩
theorem tw15982114676780892263:True:=⟨⟩
theorem tw5637069037019425910:True:=⟨⟩
theorem tw14061369220616620286:True:=⟨⟩
theorem tw12744583835116306865:True:=⟨⟩
theorem tw12891058815193101536:True:=⟨⟩
theorem tw10252728996294903313:True:=⟨⟩
theorem tw17663925768083723740:True:=⟨⟩
theorem tw6786099503413446180:True:=⟨⟩
theorem tw16692795535025530045:True:=⟨⟩
theorem tw8369975583136717261:True:=⟨⟩
theorem tw16025729281073605018:True:=⟨⟩
theorem tw12235310224900445674:True:=⟨⟩
theorem tw3193879902348388093:True:=⟨⟩
theorem tw10587658564082217299:True:=⟨⟩
theorem tw9594023189835288768:True:=⟨⟩
theorem tw1634069774730632637:True:=⟨⟩
theorem tw6172160096117407397:True:=⟨⟩
theorem tw18084575305217747121:True:=⟨⟩
theorem tw521178820221926272:True:=⟨⟩
theorem tw11649573826688818782:True:=⟨⟩
theorem tw11717789655465043419:True:=⟨⟩
theorem tw6312963796759783509:True:=⟨⟩
theorem tw17293785267261448191:True:=⟨⟩
theorem tw16873283907844017798:True:=⟨⟩
theorem tw14048421127345090060:True:=⟨⟩
theorem tw13000580020908824885:True:=⟨⟩
theorem tw2120042101592497242:True:=⟨⟩
theorem tw17930779374451071158:True:=⟨⟩
theorem tw11983456644249365400:True:=⟨⟩
theorem tw17009192024450468334:True:=⟨⟩
theorem tw6492079882511895283:True:=⟨⟩
theorem tw11947767281262634653:True:=⟨⟩
theorem tw4517790772909946643:True:=⟨⟩
theorem tw4227839817708788840:True:=⟨⟩
end PySem.W.Fast
namespace InkHd
open PySem PySem.W PyProof.Rows
set_option maxRecDepth 100000 in
set_option maxHeartbeats 0 in
open_top hd_k65 for PySem.Challenge.rw_inkroot_k65_heavy_forks_at_forty
set_option maxRecDepth 100000 in
set_option maxHeartbeats 0 in
theorem hd2(A:jk.N6):PySem.Challenge.rw_inkroot_k65_heavy_forks_at_forty.Holds:=by
 refine hd_k65 ?_
 k_fill
 refine jk.walk (l:=PySem.Challenge.rw_inkroot_k65_heavy_forks_at_forty) rfl rfl (fun w h Y=>PySem.W.kIn_of Y) ?F
 case F =>
  intro w mg fa h KX G hmg
  refine' A KX G hmg (.mk ?g1 ?g2 ?g3 ?g4 ?g5 ?g6 ?g7) ?g8 ?g9 (.mk ?g10 ?g11 ?g12 ?g13 ?g14 ?g15 ?g16) ?g17 ?g18 ?g19 (.mk ?g20 ?g21 ?g22 ?g23 ?g24 ?g25 ?g26) ?g27 (.mk ?g28 ?g29 ?g30 ?g31 ?g32 ?g33 ?g34) ?g35 ?g36 (.mk ?g37 ?g38 ?g39 ?g40 ?g41 ?g42 ?g43) ?g44 (.mk ?g45 ?g46 ?g47 ?g48 ?g49 ?g50 ?g51) ?g52 ?g53 ?g54 ?g55 ?g56 ?g57 (.mk ?g58 ?g59 ?g60 ?g61) (.mk ?g62 ?g63 ?g64 ?g65) (.mk ?g66 ?g67 ?g68 ?g69) (.mk ?g70 ?g71 ?g72 ?g73) (.mk ?g74 ?g75 ?g76 ?g77) (.mk ?g78 ?g79 ?g80 ?g81) (.mk ?g82 ?g83 ?g84 ?g85) (.mk ?g86 ?g87 ?g88 ?g89) (.mk ?g90 ?g91 ?g92 ?g93) (.mk ?g94 ?g95 ?g96 ?g97) (.mk ?g98 ?g99 ?Vz ?VA) (.mk ?VB ?VC ?VD ?VE ?VF) (.mk ?VG ?VH ?VI ?VJ ?VL) (.mk ?VM ?VN ?VO ?VP) (.mk ?VQ ?VR ?VS ?VT) (.mk ?VU ?VV ?VW ?VX) (.mk ?VY ?VZ ?V0 ?Wa) (.mk ?Wb ?Wc ?Wd ?Wf) (.mk ?Wg ?Wh ?Wi ?Wj) (.mk ?Wk ?Wl ?Wm ?Wn) (.mk ?Wo ?Wq ?Wr ?Ws) (.mk ?Wt ?Wu ?Ww ?Wx) (.mk ?Wy ?Wz ?WA ?WB) (.mk ?WC ?WD ?WE ?WG) (.mk ?WH ?WI ?WJ ?WK) (.mk ?WL ?WM ?WN ?WO) (.mk ?WQ ?WR ?WS ?WT) (.mk ?WU ?WV ?WW ?WX) (.mk ?WY ?WZ ?W0 ?Xa) (.mk ?Xb ?Xc ?Xd ?Xe) (.mk ?Xf ?Xg ?Xh ?Xi) (.mk ?Xj ?Xk ?Xl ?Xm) (.mk ?Xn ?Xo ?Xp ?Xq) (.mk ?Xr ?Xs ?Xu ?Xv) (.mk ?Xw ?Xx ?Xy ?Xz ?XA) (.mk ?XC ?XD ?XF ?XG ?XJ) (.mk ?XN ?XQ ?XR ?XU ?XW) (.mk ?XX ?XY ?XZ ?X0 ?X3) (.mk ?X4 ?X5 ?X6 ?X7 ?X8) (.mk ?X9 ?Yb ?Yc ?Yd ?Ye) (.mk ?Yg ?Yh ?Yi ?Yj ?Yk) (.mk ?Yl ?Ym ?Yn ?Yo ?Yp) (.mk ?Yq ?Yr ?Ys ?Yt ?Yu) (.mk ?Yv ?Yw ?Yx ?Yy ?Yz) (.mk ?YA ?YB ?YC ?YD ?YE) (.mk ?YF ?YG ?YH ?YI ?YJ) (.mk ?YK ?YL ?YM ?YN ?YO) (.mk ?YQ ?YR ?YS ?YT ?YU) (.mk ?YV ?YW ?YX ?YY ?YZ) (.mk ?Y0 ?Y3 ?Y4 ?Y5 ?Y6) (.mk ?Y7 ?Y8 ?Y9 ?Za ?Zb) (.mk ?Zc ?Zd ?Ze ?Zf ?Zg) (.mk ?Zh ?Zi ?Zj ?Zk ?Zl) (.mk ?Zm ?Zo ?Zp ?Zq) (.mk ?Zr ?Zs ?Zt ?Zu ?Zv) (.mk ?Zw ?Zx ?Zy ?Zz ?ZA) (.mk ?ZC ?ZD ?ZE ?ZF ?ZG) (.mk ?ZI ?ZJ ?ZK ?ZL ?ZM) (.mk ?ZN ?ZO ?ZP ?ZQ ?ZR) (.mk ?ZS ?ZT ?ZU ?ZV ?ZW) (.mk ?ZX ?ZY ?ZZ ?Z0 ?Z1) (.mk ?Z2 ?Z3 ?Z4 ?Z5 ?Z6) (.mk ?Z7 ?Z8 ?Z9 ?aaa ?aab) (.mk ?aac ?aad ?aae ?aaf ?aag) (.mk ?aah ?aai ?aaj ?aak ?aal) (.mk ?aam ?aan ?aao ?aap ?aaq) (.mk ?aar ?aas ?aat ?aau ?aav) (.mk ?aaw ?aax ?aay ?aaz ?aaA) (.mk ?aaB ?aaC ?aaD ?aaE ?aaF) (.mk ?aaG ?aaH ?aaI ?aaJ ?aaK) (.mk ?aaL ?aaM ?aaN ?aaO ?aaP) (.mk ?aaQ ?aaR ?aaS ?aaT ?aaU) (.mk ?aaV ?aaW ?aaX ?aaY ?aaZ) (.mk ?aa0 ?aa1 ?aa2 ?aa3 ?aa4) (.mk ?aa5 ?aa6 ?aa7 ?aa8) (.mk ?aa9 ?aba ?abb ?abc) (.mk ?abd ?abe ?abf ?abg) (.mk ?abh ?abi ?abj ?abk) ?abl ?abm ?abn ?abo ?abp ?abq ?abr ?abt ?abu ?abv ?abw ?abx ?aby (.mk ?abz ?abA ?abB) (.mk ?abC ?abD ?abE) (.mk ?abF ?abG ?abH) (.mk ?abI ?abJ ?abK) (.mk ?abL ?abM ?abN) (.mk ?abO ?abP ?abQ) (.mk ?abR ?abS ?abT) ?abU ?abV ?abW ?abX ?abY ?abZ ?ab0
  case g1|g2|g3|g4|g5|g6|g7|g8|g9|g10|g11|g12|g13|g14|g15|g16|g17|g18|g19|g20|g21|g22|g23|g24|g25|g26|g27|g28|g29|g30|g31|g32|g33|g34|g35|g36|g37|g38|g39|g40|g41|g42|g43|g44|g45|g46|g47|g48|g49|g50|g51|g52|g53|g54|g55|g56|g57|g58|g59|g60|g61|g62|g63|g64|g65|g66|g67|g68|g69|g70|g71|g72|g73|g74|g75|g76|g77|g78|g79|g80|g81|g82|g83|g84|g85|g86|g87|g88|g89|g90|g91|g92|g93|g94|g95|g96|g97|g98|g99|Vz|VA|VB|VC|VD|VE|VF|VG|VH|VI|VJ|VL|VM|VN|VO|VP|VQ|VR|VS|VT|VU|VV|VW|VX|VY|VZ|V0|Wa|Wb|Wc|Wd|Wf|Wg|Wh|Wi|Wj|Wk|Wl|Wm|Wn|Wo|Wq|Wr|Ws|Wt|Wu|Ww|Wx|Wy|Wz|WA|WB|WC|WD|WE|WG|WH|WI|WJ|WK|WL|WM|WN|WO|WQ|WR|WS|WT|WU|WV|WW|WX|WY|WZ|W0|Xa|Xb|Xc|Xd|Xe|Xf|Xg|Xh|Xi|Xj|Xk|Xl|Xm|Xn|Xo|Xp|Xq|Xr|Xs|Xu|Xv|Xw|Xx|Xy|Xz|XA|XC|XD|XF|XG|XJ|XN|XQ|XR|XU|XW|XX|XY|XZ|X0|X3|X4|X5|X6|X7|X8|X9|Yb|Yc|Yd|Ye|Yg|Yh|Yi|Yj|Yk|Yl|Ym|Yn|Yo|Yp|Yq|Yr|Ys|Yt|Yu|Yv|Yw|Yx|Yy|Yz|YA|YB|YC|YD|YE|YF|YG|YH|YI|YJ|YK|YL|YM|YN|YO|YQ|YR|YS|YT|YU|YV|YW|YX|YY|YZ|Y0|Y3|Y4|Y5|Y6|Y7|Y8|Y9|Za|Zb|Zc|Zd|Ze|Zf|Zg|Zh|Zi|Zj|Zk|Zl|Zm|Zo|Zp|Zq|Zr|Zs|Zt|Zu|Zv|Zw|Zx|Zy|Zz|ZA|ZC|ZD|ZE|ZF|ZG|ZI|ZJ|ZK|ZL|ZM|ZN|ZO|ZP|ZQ|ZR|ZS|ZT|ZU|ZV|ZW|ZX|ZY|ZZ|Z0|Z1|Z2|Z3|Z4|Z5|Z6|Z7|Z8|Z9|aaa|aab|aac|aad|aae|aaf|aag|aah|aai|aaj|aak|aal|aam|aan|aao|aap|aaq|aar|aas|aat|aau|aav|aaw|aax|aay|aaz|aaA|aaB|aaC|aaD|aaE|aaF|aaG|aaH|aaI|aaJ|aaK|aaL|aaM|aaN|aaO|aaP|aaQ|aaR|aaS|aaT|aaU|aaV|aaW|aaX|aaY|aaZ|aa0|aa1|aa2|aa3|aa4|aa5|aa6|aa7|aa8|aa9|aba|abb|abc|abd|abe|abf|abg|abh|abi|abj|abk|abl|abm|abn|abo|abp|abq|abr|abt|abu|abv|abw|abx|aby|abz|abC|abF|abI|abL|abO|abR|abU|abV|abW|abX|abY|abZ=>k_is
  case abA|abD|abG|abJ|abM|abP|abS=>k_exc
  case abB|abE|abH|abK|abN|abQ|abT|ab0=>kts_exm
end InkHd
namespace cX
open PySem PySem.Spec PyProof.Rows L2
section
variable {X:Cx}
theorem dI:nj X (.builtin "isinstance") (fun xs H Q=>∃ x T t b,xs=[x,.ty T]∧mL X.K H x t∧PySem.W.kitOne X.K t (.type T)=some b∧Q (.bl b) H):=by
 intro pins s σ H xs us Q I r h
 obtain⟨x,T,t,b,rfl,ty,e,q⟩:=h
 obtain⟨u,v,rfl,rx,rv⟩:=r.two
 cases (show v=Value.type T from rv)
 exact Jc I rx ty e fun tk=>⟨.bl b,H,I.tok tk,rfl,q⟩
theorem rD{x:Str}{T:String}{pos:Pos}(hg:Gl X x)(hm:X.mg x=none)(hv:bootBuiltins x=some (.type T))(hn:x≠"__name__":=by decide)(hd:(x == ("__debug__":Str))=false:=by decide):PE X (.Name x pos) (tC (.ty T)) :=
 Mu hg hm hv rfl hn hd
end
theorem ML{X:Cx}{pins:List (Addr × Obj)}{σ:L2.St}{H:Hp}{s:Shared}{h':Heap}{t':Nat}{ch:List Addr}(I:Inv X pins σ H s)(k:∀ b o,b∉ch→s.heap.get? b=some o→h'.get? b=some o)
  (hf:∀ b∈ch,pR X pins H b):Inv X pins σ H { s with heap:=h',toks:=t' }:=by
 have NT:∀ b u,H b=some u→b∉ch:=fun b u e z=>by rw[(hf b z).1]at e;cases e
 refine I.step (g':=s.gens) (d':=s.drawn) (ch:=ch) (fun b hb=>?_) (fun b o _ _ hc e _=>k b o hc e) (fun b o _ _ hc e _=>⟨o.slots,k b o hc e⟩) (fun _ _ _ _ n=>n)
  (fun b o hc e=>⟨o,k b o hc e⟩) (fun _ _ e=>e) (fun _ _ _ e=>e) (fun b ps e=>⟨#[],by rw[e];simp⟩) (fun m hm=>?_) (fun b u e=>?_) I.bare
 ·obtain⟨_,f1,_,f3,f4,f5⟩:=hf b hb
  exact⟨f3,f1,f4,f5⟩
 ·obtain⟨o,es,ep,ho,r⟩:=hm
  exact⟨o,es,ep,k _ o (fun z=>(hf _ z).2.1 rfl) ho,r⟩
 ·refine (I.hok b u e).stay (fun c v hc q=>k c v ?_ q) (fun _ q=>q) fun _ _ q=>q
  rcases hc with z|z
  ·rw[z];exact NT b u e
  ·exact NT c _ z
theorem adopt{X:Cx}{pins:List (Addr × Obj)}{σ:L2.St}{H:Hp}{s:Shared}{h':Heap}{t':Nat}{ch:List Addr}{p:Addr}{xs:List V}{us:List Value}(I:Inv X pins σ H s)(k:∀ b o,b∉ch→s.heap.get? b=some o→h'.get? b=some o)
  (hf:∀ b∈ch,pR X pins H b) (hp:s.heap.objs.size≤p) (hz:xs.length≤sizeLine) (rv:Vals xs us) (ht:IsTup h' p us.toArray):Inv X pins σ (upd H p (.tup xs)) { s with heap:=h',toks:=t' }:=by
 have hn:H p=none:=I.hok.fresh hp
 have NT:∀ b u,H b=some u→b∉ch:=fun b u e z=>by rw[(hf b z).1]at e;cases e
 have nep:∀ b o,s.heap.get? b=some o→b≠p:=fun b o e z=>by subst z;exact absurd (qE (Heap.lt_size e) hp) (Nat.lt_irrefl _)
 refine I.step (g':=s.gens) (d':=s.drawn) (ch:=ch) (fun b hb=>?_) (fun b o _ _ hc e _=>k b o hc e) (fun b o _ _ hc e _=>⟨o.slots,k b o hc e⟩) (fun b o _ e n=>by rw[aM (nep b o e)];exact n)
  (fun b o hc e=>⟨o,k b o hc e⟩) (fun b ys e=>by rw[aM (ay e hn)];exact e) (fun b _ _ e=>by rw[aM (ay e hn)];exact e) (fun b ps e=>⟨#[],by rw[aM (ay e hn),e];simp⟩) (fun m hm=>?_) (fun b u e=>?_) I.bare
 ·obtain⟨_,f1,_,f3,f4,f5⟩:=hf b hb
  exact⟨f3,f1,f4,f5⟩
 ·obtain⟨o,es,ep,ho,r⟩:=hm
  exact⟨o,es,ep,k _ o (fun z=>(hf _ z).2.1 rfl) ho,r⟩
 ·by_cases hb:b=p
  ·subst hb
   rw[ah]at e
   cases e
   exact⟨hz,us,rv,ht⟩
  ·rw[aM hb]at e
   refine (I.hok b u e).stay (fun c v hc q=>k c v ?_ q) (fun c q=>by rw[aM (ay q hn)];exact q) fun c ys q=>by rw[aM (ay q hn)];exact q
   rcases hc with z|z
   ·rw[z];exact NT b u e
   ·exact NT c _ z
def F1(k:Bool)(h:Heap)(i a:Addr)(n:Nat):Prop:=match k with
 | true=>h.IsListIter i a n
 | false=>h.IsTupleIter i a n
def A7(k:Bool)(h:Heap)(a:Addr)(xs:Array Value):Prop:=match k with
 | true=>h.IsList a xs
 | false=>h.IsTuple a xs
theorem F1.at{k:Bool}{h h':Heap}{i a:Addr}{n:Nat}(x:F1 k h i a n)(e:∀ o,h.get? i=some o→h'.get? i=some o):F1 k h' i a n:=by
 cases k
 ·obtain⟨o,ho,r⟩:=x;exact⟨o,e o ho,r⟩
 ·obtain⟨o,ho,r⟩:=x;exact⟨o,e o ho,r⟩
theorem A7.at{k:Bool}{h h':Heap}{a:Addr}{xs:Array Value}(x:A7 k h a xs)(e:∀ o,h.get? a=some o→h'.get? a=some o):A7 k h' a xs:=by
 cases k
 ·obtain⟨o,ho,r⟩:=x;exact⟨o,e o ho,r⟩
 ·obtain⟨o,ho,r⟩:=x;exact⟨o,e o ho,r⟩
theorem F1.obj{k:Bool}{h:Heap}{i a:Addr}{n:Nat}(x:F1 k h i a n):∃ o,h.get? i=some o∧∀ v,o.data≠.cell v:=by
 cases k
 ·obtain⟨o,ho,_,d⟩:=x;exact⟨o,ho,fun v z=>by rw[d]at z;cases z⟩
 ·obtain⟨o,ho,_,d⟩:=x;exact⟨o,ho,fun v z=>by rw[d]at z;cases z⟩
section
variable {prog:Program} {w:World} {A:Around} {E:Value→Shared→Prop} {s:Shared}
theorem GB{it t:Addr}{i:Nat}{items:Array Value}{x:Value}{Q:Value→Shared→Prop}(hit:s.heap.IsTupleIter it t i)(ht:s.heap.IsTuple t items)(hx:items[i]?=some x)
  (hQ:∀ h',h'.IsTupleIter it t (i+1)→Heap.SameBut it s.heap h'→Q x { s with heap:=h' }):wpAny (model prog w) A (Builtin.SmallTypes.nextOf (.ref it)) Q E s:=by
 obtain⟨o,ho,hc,hd⟩:=id hit
 obtain⟨ol,hol,_,nl,hdl⟩:=ht
 unfold Builtin.SmallTypes.nextOf
 refine wpAny_bind (wpAny_callSpecial?_slot (name:=Str.ofString "__next__") hit.typeIs F.slot_tuple_iterator_next (wpAny_call_entry F.slot_tuple_iterator_next hit.typeIs F.entry_tuple_iterator_next ?_ (F.args_tuple_iterator_next_1 _)))
 show wpAny _ _ (field (.ref it) 0 >>= _) _ _ s
 refine wpAny_bind (wpAny_field ho hd (x:=.ref t) rfl ?_)
 show wpAny _ _ (if (Value.ref t == Value.none)=true then _ else _) _ _ s
 rw[if_neg (show ¬ ((Value.ref t == Value.none)=true) from uo)]
 show wpAny _ _ (field (.ref it) 1 >>= _) _ _ s
 refine wpAny_bind (wpAny_field ho hd (x:=.int i 0) rfl ?_)
 show wpAny _ _ (seqItems? (.ref t) >>= _) _ _ s
 refine wpAny_bind (wpAny_seqItems hol hdl ?_)
 simp only[mG,hx]
 refine wpAny_bind (wpAny_setField ho hd (by simp) (wpAny_pure ⟨x,rfl,wpAny_pure (hQ _ ?_ (Heap.SameBut.update ..))⟩))
 refine⟨_,Heap.get?_update_self _ ho (Obj.isFreed_of_fields (Obj.data_mapFields hd _)),(Obj.cls_mapFields ..).trans hc,?_⟩
 rw[Obj.data_mapFields hd];simp[rawInt]
theorem Jg{it t:Addr}{i:Nat}{items:Array Value}{Q:Value→Shared→Prop}(hh:A.handled=none)(hit:s.heap.IsTupleIter it t i)(ht:s.heap.IsTuple t items)(hx:items[i]?=none)
  (hE:∀ h' e,Heap.ExtBut it s.heap h'→(∃ o,h'.get? e=some o∧o.cls=.type "StopIteration")→E (.ref e) { s with heap:=h' }):wpAny (model prog w) A (Builtin.SmallTypes.nextOf (.ref it)) Q E s:=by
 obtain⟨o,ho,hc,hd⟩:=id hit
 obtain⟨ol,hol,_,nl,hdl⟩:=ht
 unfold Builtin.SmallTypes.nextOf
 refine wpAny_bind (wpAny_callSpecial?_slot (name:=Str.ofString "__next__") hit.typeIs F.slot_tuple_iterator_next (wpAny_call_entry F.slot_tuple_iterator_next hit.typeIs F.entry_tuple_iterator_next ?_ (F.args_tuple_iterator_next_1 _)))
 show wpAny _ _ (field (.ref it) 0 >>= _) _ _ s
 refine wpAny_bind (wpAny_field ho hd (x:=.ref t) rfl ?_)
 show wpAny _ _ (if (Value.ref t == Value.none)=true then _ else _) _ _ s
 rw[if_neg (show ¬ ((Value.ref t == Value.none)=true) from uo)]
 show wpAny _ _ (field (.ref it) 1 >>= _) _ _ s
 refine wpAny_bind (wpAny_field ho hd (x:=.int i 0) rfl ?_)
 show wpAny _ _ (seqItems? (.ref t) >>= _) _ _ s
 refine wpAny_bind (wpAny_seqItems hol hdl ?_)
 simp only[mG,hx]
 refine wpAny_bind (wpAny_rule (wpAny_bind (wpAny_setField ho hd (by simp) ?_)))
 show wpAny _ _ (newExc (.type "StopIteration") [] >>= _) _ _ _
 refine wpAny_bind ?_
 simp only[newExc,newTuple]
 refine wpAny_bind (wpAny_newObj_type ?_ (by size_fits))
 refine wpAny_bind (m:=firstArgMember _ _) (wpAny_of_eq (a:=Value.none) (by first|rfl|(simp only[firstArgMember];rfl)) ?_)
 refine wpAny_newObj_type ?_ (by size_fits)
 simp only[raiseNew]
 refine wpAny_bind (wpAny_handled ?_)
 first|rw[show A.in1.handled=none from hh]|rw[hh]
 refine wpAny_bind (wpAny_pure (wpAny_throw ?_))
 exact hE _ _ (((Heap.SameBut.update ..).extBut.push _).push _) ⟨_,Heap.get?_push_size _ rfl,rfl⟩
theorem uQ{k:Bool}{it t:Addr}{i:Nat}{items:Array Value}{x:Value}{Q:Value→Shared→Prop}(hit:F1 k s.heap it t i)(ht:A7 k s.heap t items)(hx:items[i]?=some x)
  (hQ:∀ h',F1 k h' it t (i+1)→Heap.SameBut it s.heap h'→Q x { s with heap:=h' }):wpAny (model prog w) A (Builtin.SmallTypes.nextOf (.ref it)) Q E s:=by
 cases k
 ·exact GB hit ht hx hQ
 ·exact wpAny_nextOf_list_item hit ht hx hQ
theorem BU{k:Bool}{it t:Addr}{i:Nat}{items:Array Value}{Q:Value→Shared→Prop}(hh:A.handled=none)(hit:F1 k s.heap it t i)(ht:A7 k s.heap t items)(hx:items[i]?=none)
  (hE:∀ h' e,Heap.ExtBut it s.heap h'→(∃ o,h'.get? e=some o∧o.cls=.type "StopIteration")→E (.ref e) { s with heap:=h' }):wpAny (model prog w) A (Builtin.SmallTypes.nextOf (.ref it)) Q E s:=by
 cases k
 ·exact Jg hh hit ht hx hE
 ·exact wpAny_nextOf_list_end hh hit ht hx hE
abbrev BV(k:Bool)(l:Addr):Obj:={ cls:=.type (if k then "list_iterator" else "tuple_iterator"),data:=.fields #[.ref l,.int 0 0] }
theorem N8{k:Bool}{l:Addr}{xs:Array Value}{Q:Value→Shared→Prop}(h:A7 k s.heap l xs)(hQ:Q (.ref s.heap.objs.size) { s with heap:=s.heap.push (BV k l) }):wpAny (model prog w) A (pyIter (.ref l)) Q E s:=by
 cases k
 ·exact wpAny_pyIter_tuple h hQ
 ·exact wpAny_pyIter_list h hQ
structure BW(k:Bool)(h:Heap)(z TI TO i1 i2 l1 l2:Addr)(n:Nat):Prop where
 z:IsZip h z TI TO .none
 ti:IsPair h TI (.ref i1) (.ref i2)
 to:∃ a b,IsPair h TO a b
 i1:F1 k h i1 l1 n
 i2:F1 k h i2 l2 n
theorem Jh{k:Bool}{z TI TO i1 i2 l1 l2:Addr}{n:Nat}{xs ys:Array Value}{x y:Value}{Q:Value→Shared→Prop}(D:ZipApart z TI TO i1 i2 l1 l2)(st:BW k s.heap z TI TO i1 i2 l1 l2 n)
  (hl1:A7 k s.heap l1 xs) (hl2:A7 k s.heap l2 ys) (hx:xs[n]?=some x) (hy:ys[n]?=some y)
  (hQ:∀ h',IsZip h' z TI TO (rawInt s.heap.objs.size)→IsPair h' TO x y→F1 k h' i1 l1 (n+1)→F1 k h' i2 l2 (n+1)→IsPair h' s.heap.objs.size x y →
   (∀ c o,c≠z→c≠TO→c≠i1→c≠i2→s.heap.get? c=some o→h'.get? c=some o)→Q (.ref s.heap.objs.size) { s with heap:=h' }) :
  wpAny (model prog w) A (Builtin.«zip.__next__» ⟨[.ref z],[]⟩) (fun fin s'=>∃ v,fin=.done (.ret v)∧Q v s') E s:=by
 obtain⟨hz,hTI,⟨a,b,hTO⟩,h1,h2⟩:=st
 show wpAny _ _ (field (.ref z) 2 >>= _) _ _ _
 refine wpAny_bind (wpAny_field hz rfl (x:=.bool false) rfl ?_)
 show wpAny _ _ (field (.ref z) 3 >>= _) _ _ _
 refine wpAny_bind (wpAny_field hz rfl (x:=.ref TI) rfl (wpAny_bind (wpAny_seqItems hTI rfl ?_)))
 show wpAny _ _ (Builtin.SmallTypes.ownedTupleIsFree (.ref z) >>= _) _ _ _
 refine wpAny_bind ?_
 unfold Builtin.SmallTypes.ownedTupleIsFree
 refine wpAny_bind (wpAny_field hz rfl (x:=.none) rfl (wpAny_pure ?_))
 simp only[if_true]
 refine wpAny_bind (wpAny_rule (wpAny_bind (wpAny_field hz rfl (x:=.ref TO) rfl (wpAny_bind (wpAny_setField_rec hz (by simp) fun g1 z1 c1=>?_)))))
 replace z1:IsZip g1 z TI TO .ellipsis:=z1
 refine wpAny_bind ?_
 simp only[List.zipIdx_cons,List.zipIdx_nil,List.forIn_cons,List.forIn_nil]
 refine wpAny_bind (wpAny_bind (wpAny_onRaise ?_))
 show wpAny _ _ (Builtin.SmallTypes.nextOf (.ref i1) >>= _) _ _ _
 refine wpAny_bind (uQ (h1.at fun o e=>c1.extBut _ _ D.i1z e) (hl1.at fun o e=>c1.extBut _ _ D.l1z e) hx fun g2 h12 c2=>wpAny_pure ?_)
 have o2:IsPair g2 TO a b:=c2.extBut _ _ D.TOi1 (c1.extBut _ _ D.TOz hTO)
 refine wpAny_bind (wpAny_seqItems o2 rfl (wpAny_bind (wpAny_updateSeq_pair o2 fun g3 o3 c3=>?_)))
 replace o3:IsPair g3 TO x b:=o3
 refine wpAny_bind (wpAny_letGo (wpAny_pure (wpAny_bind (wpAny_bind (wpAny_onRaise ?_)))))
 show wpAny _ _ (Builtin.SmallTypes.nextOf (.ref i2) >>= _) _ _ _
 refine wpAny_bind (uQ (((h2.at fun o e=>c1.extBut _ _ D.i2z e).at fun o e=>c2.extBut _ _ D.i12.symm e).at fun o e=>c3.extBut _ _ D.TOi2.symm e)
  (((hl2.at fun o e=>c1.extBut _ _ D.l2z e).at fun o e=>c2.extBut _ _ D.l2i1 e).at fun o e=>c3.extBut _ _ D.l2TO e) hy fun g4 h24 c4=>wpAny_pure ?_)
 have o4:IsPair g4 TO x b:=c4.extBut _ _ D.TOi2 o3
 refine wpAny_bind (wpAny_seqItems o4 rfl (wpAny_bind (wpAny_updateSeq_pair o4 fun g5 o5 c5=>?_)))
 replace o5:IsPair g5 TO x y:=o5
 refine wpAny_bind (wpAny_letGo (wpAny_pure (wpAny_pure (wpAny_bind (wpAny_seqItems o5 rfl (wpAny_bind (wpAny_newTuple ?_)))))))
 have sz:g5.objs.size=s.heap.objs.size:=by rw[c5.1,c4.1,c3.1,c2.1,c1.1]
 have z5:IsZip g5 z TI TO .ellipsis:=c5.extBut _ _ D.TOz.symm (c4.extBut _ _ D.i2z.symm (c3.extBut _ _ D.TOz.symm (c2.extBut _ _ D.i1z.symm z1)))
 have k5:∀ c o,c≠z→c≠TO→c≠i1→c≠i2→s.heap.get? c=some o→g5.get? c=some o:=fun c o n1 n2 n3 n4 e=>c5.extBut _ _ n2 (c4.extBut _ _ n4 (c3.extBut _ _ n2 (c2.extBut _ _ n3 (c1.extBut _ _ n1 e))))
 have h15:F1 k g5 i1 l1 (n+1):=((h12.at fun o e=>c3.extBut _ _ D.TOi1.symm e).at fun o e=>c4.extBut _ _ D.i12 e).at fun o e=>c5.extBut _ _ D.TOi1.symm e
 have h25:F1 k g5 i2 l2 (n+1):=h24.at fun o e=>c5.extBut _ _ D.TOi2.symm e
 have zlt:z<g5.objs.size:=Heap.lt_size z5
 show wpAny _ _ (Builtin.SmallTypes.ownedTupleHandOut (.ref z) (.ref g5.objs.size) >>= _) _ _ _
 refine wpAny_bind ?_
 unfold Builtin.SmallTypes.ownedTupleHandOut
 have z6:IsZip (g5.push { cls:=.type "tuple",data:=.seq #[x,y] }) z TI TO .ellipsis:=Heap.get?_push_of_some _ z5
 refine wpAny_bind (wpAny_setField_rec z6 (by simp) fun g7 z7 c7=>?_)
 replace z7:IsZip g7 z TI TO (rawInt g5.objs.size):=z7
 refine wpAny_setField_rec z7 (by simp) fun g8 z8 c8=>?_
 replace z8:IsZip g8 z TI TO (rawInt g5.objs.size):=z8
 have up:∀ c o,c≠z→g5.get? c=some o→g8.get? c=some o:=fun c o n1 e=>c8.extBut _ _ n1 (c7.extBut _ _ n1 (Heap.get?_push_of_some _ e))
 have t8:IsPair g8 g5.objs.size x y:=c8.extBut _ _ (Nat.ne_of_gt zlt) (c7.extBut _ _ (Nat.ne_of_gt zlt) (Heap.get?_push_size _ rfl))
 rw[sz]at z8 t8
 refine wpAny_pure ⟨_,rfl,?_⟩
 show Q (.ref g5.objs.size) _
 rw[sz]
 exact hQ g8 z8 (up _ _ D.TOz o5) (h15.at fun o e=>up _ o D.i1z e) (h25.at fun o e=>up _ o D.i2z e) t8 fun c o n1 n2 n3 n4 e=>up c o n1 (k5 c o n1 n2 n3 n4 e)
theorem KO{k:Bool}{z TI TO i1 i2 l1 l2:Addr}{n:Nat}{xs ys:Array Value}{Q:Fin→Shared→Prop}(hh:A.handled=none)(D:ZipApart z TI TO i1 i2 l1 l2)(st:BW k s.heap z TI TO i1 i2 l1 l2 n)
  (hl1:A7 k s.heap l1 xs) (hl2:A7 k s.heap l2 ys) (hend:xs[n]?=none∨ys[n]?=none)
  (hE:∀ h' e,(∀ c o,c≠z→c≠TO→c≠i1→c≠i2→s.heap.get? c=some o→h'.get? c=some o)→(∃ o,h'.get? e=some o∧o.cls=.type "StopIteration")→E (.ref e) { s with heap:=h' }) :
  wpAny (model prog w) A (Builtin.«zip.__next__» ⟨[.ref z],[]⟩) Q E s:=by
 obtain⟨hz,hTI,⟨a,b,hTO⟩,h1,h2⟩:=st
 show wpAny _ _ (field (.ref z) 2 >>= _) _ _ _
 refine wpAny_bind (wpAny_field hz rfl (x:=.bool false) rfl ?_)
 show wpAny _ _ (field (.ref z) 3 >>= _) _ _ _
 refine wpAny_bind (wpAny_field hz rfl (x:=.ref TI) rfl (wpAny_bind (wpAny_seqItems hTI rfl ?_)))
 show wpAny _ _ (Builtin.SmallTypes.ownedTupleIsFree (.ref z) >>= _) _ _ _
 refine wpAny_bind ?_
 unfold Builtin.SmallTypes.ownedTupleIsFree
 refine wpAny_bind (wpAny_field hz rfl (x:=.none) rfl (wpAny_pure ?_))
 simp only[if_true]
 refine wpAny_bind (wpAny_rule (wpAny_bind (wpAny_field hz rfl (x:=.ref TO) rfl (wpAny_bind (wpAny_setField_rec hz (by simp) fun g1 z1 c1=>?_)))))
 replace z1:IsZip g1 z TI TO .ellipsis:=z1
 refine wpAny_bind ?_
 simp only[List.zipIdx_cons,List.zipIdx_nil,List.forIn_cons,List.forIn_nil]
 refine wpAny_bind (wpAny_bind (wpAny_onRaise ?_))
 show wpAny _ _ (Builtin.SmallTypes.nextOf (.ref i1) >>= _) _ _ _
 cases hx:xs[n]? with
 | none =>
  refine wpAny_bind (BU hh (h1.at fun o e=>c1.extBut _ _ D.i1z e) (hl1.at fun o e=>c1.extBut _ _ D.l1z e) hx fun g2 e c2 he=>?_)
  obtain⟨oe,Pq,hce⟩:=he
  have z2:IsZip g2 z TI TO .ellipsis:=c2 _ _ D.i1z.symm z1
  have hez:e≠z:=fun x=>by subst x;rw[z2]at Pq;cases Pq;simp at hce
  exact wpAny_setField_rec z2 (by simp) fun g3 _ c3=>hE g3 e (fun c o n1 _ n3 _ x=>c3.extBut _ _ n1 (c2 _ _ n3 (c1.extBut _ _ n1 x))) ⟨oe,c3.extBut _ _ hez Pq,hce⟩
 | some x =>
  have hy:ys[n]?=none:=by rcases hend with h|h;(rw[hx]at h;cases h);exact h
  refine wpAny_bind (uQ (h1.at fun o e=>c1.extBut _ _ D.i1z e) (hl1.at fun o e=>c1.extBut _ _ D.l1z e) hx fun g2 h12 c2=>wpAny_pure ?_)
  have o2:IsPair g2 TO a b:=c2.extBut _ _ D.TOi1 (c1.extBut _ _ D.TOz hTO)
  refine wpAny_bind (wpAny_seqItems o2 rfl (wpAny_bind (wpAny_updateSeq_pair o2 fun g3 o3 c3=>?_)))
  refine wpAny_bind (wpAny_letGo (wpAny_pure (wpAny_bind (wpAny_bind (wpAny_onRaise ?_)))))
  show wpAny _ _ (Builtin.SmallTypes.nextOf (.ref i2) >>= _) _ _ _
  refine wpAny_bind (BU hh (((h2.at fun o e=>c1.extBut _ _ D.i2z e).at fun o e=>c2.extBut _ _ D.i12.symm e).at fun o e=>c3.extBut _ _ D.TOi2.symm e)
   (((hl2.at fun o e=>c1.extBut _ _ D.l2z e).at fun o e=>c2.extBut _ _ D.l2i1 e).at fun o e=>c3.extBut _ _ D.l2TO e) hy fun g4 e c4 he=>?_)
  obtain⟨oe,Pq,hce⟩:=he
  have z4:IsZip g4 z TI TO .ellipsis:=c4 _ _ D.i2z.symm (c3.extBut _ _ D.TOz.symm (c2.extBut _ _ D.i1z.symm z1))
  have hez:e≠z:=fun x=>by subst x;rw[z4]at Pq;cases Pq;simp at hce
  exact wpAny_setField_rec z4 (by simp) fun g5 _ c5=>hE g5 e (fun c o n1 n2 n3 n4 x=>c5.extBut _ _ n1 (c4 _ _ n4 (c3.extBut _ _ n2 (c2.extBut _ _ n3 (c1.extBut _ _ n1 x))))) ⟨oe,c5.extBut _ _ hez Pq,hce⟩
theorem GC{k:Bool}{z TI TO i1 i2 l1 l2:Addr}{n:Nat}{xs ys:Array Value}{x y:Value}{Q:Option Value→Shared→Prop}(D:ZipApart z TI TO i1 i2 l1 l2)(st:BW k s.heap z TI TO i1 i2 l1 l2 n)
  (hl1:A7 k s.heap l1 xs) (hl2:A7 k s.heap l2 ys) (hx:xs[n]?=some x) (hy:ys[n]?=some y)
  (hQ:∀ h',IsZip h' z TI TO (rawInt s.heap.objs.size)→IsPair h' TO x y→F1 k h' i1 l1 (n+1)→F1 k h' i2 l2 (n+1)→IsPair h' s.heap.objs.size x y →
   (∀ c o,c≠z→c≠TO→c≠i1→c≠i2→s.heap.get? c=some o→h'.get? c=some o)→Q (some (.ref s.heap.objs.size)) { s with heap:=h' }):wpAny (model prog w) A (pyNext (.ref z)) Q E s:=by
 have hT:s.TypeIs (.ref z) "zip":=⟨_,st.z,rfl⟩
 unfold pyNext
 exact wpAny_bind (wpAny_attempt (wpAny_callSpecial?_slot (name:=Str.ofString "__next__") hT F.slot_zip_next (wpAny_call_entry F.slot_zip_next hT F.entry_zip_next
  (Jh D st hl1 hl2 hx hy fun h' a1 a2 a3 a4 a5 a7=>wpAny_pure (hQ h' a1 a2 a3 a4 a5 a7)) (F.args_zip_next_1 _))))
theorem Ji{k:Bool}{z TI TO i1 i2 l1 l2:Addr}{n:Nat}{xs ys:Array Value}{Q:Option Value→Shared→Prop}(hh:A.handled=none)(D:ZipApart z TI TO i1 i2 l1 l2)(st:BW k s.heap z TI TO i1 i2 l1 l2 n)
  (hl1:A7 k s.heap l1 xs) (hl2:A7 k s.heap l2 ys) (hend:xs[n]?=none∨ys[n]?=none)
  (hQ:∀ h',(∀ c o,c≠z→c≠TO→c≠i1→c≠i2→s.heap.get? c=some o→h'.get? c=some o)→Q none { s with heap:=h' }):wpAny (model prog w) A (pyNext (.ref z)) Q E s:=by
 have hT:s.TypeIs (.ref z) "zip":=⟨_,st.z,rfl⟩
 unfold pyNext
 refine wpAny_bind (wpAny_attempt (wpAny_callSpecial?_slot (name:=Str.ofString "__next__") hT F.slot_zip_next (wpAny_call_entry F.slot_zip_next hT F.entry_zip_next
  (KO hh D st hl1 hl2 hend fun h' e hk he=>?_) (F.args_zip_next_1 _))))
 obtain⟨o,ho,hc⟩:=he
 exact wpAny_bind (wpAny_isInstance (T:="StopIteration") (b:=true) ⟨o,ho,hc⟩ isSubtype_stop (wpAny_pure (hQ _ hk)))
end
abbrev Ui(k:Bool)(h:Heap)(l1:Addr):Heap:=h.push (BV k l1)
abbrev Uj(k:Bool)(h:Heap)(l1 l2:Addr):Heap:=(Ui k h l1).push (BV k l2)
abbrev Uk(k:Bool)(h:Heap)(l1 l2:Addr):Heap:=(Uj k h l1 l2).push { cls:=.type "tuple",data:=.seq #[.ref h.objs.size,.ref (Ui k h l1).objs.size] }
abbrev Ul(k:Bool)(h:Heap)(l1 l2:Addr):Heap:=(Uk k h l1 l2).push { cls:=.type "tuple",data:=.seq #[.none,.none] }
abbrev QS(k:Bool)(h:Heap)(l1 l2:Addr):Heap:=(Ul k h l1 l2).push { cls:=.type "zip",data:=.fields #[.none,.bool false,.bool false,.ref (Uj k h l1 l2).objs.size,.ref (Uk k h l1 l2).objs.size] }
theorem GD(k:Bool)(l1 l2:Addr)(xs ys:Array Value) :
  Meets (Builtin.«zip.__new__» ⟨[.type "zip",.ref l1,.ref l2],[]⟩) (fun _ R s=>A7 k s.heap l1 xs∧A7 k s.heap l2 ys∧R (.ok (.ret (.ref (Ul k s.heap l1 l2).objs.size))) { s with heap:=QS k s.heap l1 l2 }) :=
 .of_wp fun prog w A R s h=>by
  obtain⟨hp,g,d,tk,os⟩:=s;obtain⟨hl1,hl2,h⟩:=h
  have hsub:=sub_zip
  have hL1:A7 k (Shared.heap ⟨hp,g,d,tk,os⟩) l1 xs:=hl1
  have Um:A7 k (Shared.heap ⟨hp.push (BV k l1),g,d,tk,os⟩) l2 ys:=hl2.at fun o e=>Heap.get?_push_of_some _ e
  wp_walk using N8 hL1,N8 Um
  exact⟨_,rfl,h⟩
section
variable {prog:Program} {w:World} {A:Around} {E:Value→Shared→Prop} {s:Shared}
theorem Jj{k:Bool}{l1 l2:Addr}{xs ys:Array Value}{Q:Value→Shared→Prop}(hl1:A7 k s.heap l1 xs)(hl2:A7 k s.heap l2 ys)
  (h:∀ h',BW k h' (s.heap.objs.size+4) (s.heap.objs.size+2) (s.heap.objs.size+3) s.heap.objs.size (s.heap.objs.size+1) l1 l2 0→(∀ c o,s.heap.get? c=some o→h'.get? c=some o)→Q (.ref (s.heap.objs.size+4)) { s with heap:=h' }) :
  wpAny (model prog w) A (call (.type "zip") [.ref l1,.ref l2]) Q E s:=by
 refine callType_new F.called_zip (by decide) (F.typeCall_zip_2 _ _) (F.newCall_zip_2 _ _) (fun obj=>F.args_object_init_3 obj _ _) F.entry_zip_new (GD k l1 l2 xs ys) ⟨hl1,hl2,?_⟩
 have z1:(Ui k s.heap l1).objs.size=s.heap.objs.size+1:=Heap.size_push ..
 have z2:(Uj k s.heap l1 l2).objs.size=s.heap.objs.size+2:=by rw[Heap.size_push,z1]
 have z3:(Uk k s.heap l1 l2).objs.size=s.heap.objs.size+3:=by rw[Heap.size_push,z2]
 have z4:(Ul k s.heap l1 l2).objs.size=s.heap.objs.size+4:=by rw[Heap.size_push,z3]
 have g5:(QS k s.heap l1 l2).get? (Ul k s.heap l1 l2).objs.size=some _:=Heap.get?_push_size _ rfl
 have g4:(QS k s.heap l1 l2).get? (Uk k s.heap l1 l2).objs.size=some _:=Heap.get?_push_of_some _ (Heap.get?_push_size _ rfl)
 have g3:(QS k s.heap l1 l2).get? (Uj k s.heap l1 l2).objs.size=some _:=Heap.get?_push_of_some _ (Heap.get?_push_of_some _ (Heap.get?_push_size _ rfl))
 have g2:(QS k s.heap l1 l2).get? (Ui k s.heap l1).objs.size=some (BV k l2):=Heap.get?_push_of_some _ (Heap.get?_push_of_some _ (Heap.get?_push_of_some _ (Heap.get?_push_size _ rfl)))
 have g1:(QS k s.heap l1 l2).get? s.heap.objs.size=some (BV k l1):=Heap.get?_push_of_some _ (Heap.get?_push_of_some _ (Heap.get?_push_of_some _ (Heap.get?_push_of_some _ (Heap.get?_push_size _ rfl))))
 show _∧_
 rw[z2,z3,z4]at g5
 rw[z1,z2]at g3
 rw[z3]at g4
 rw[z1]at g2
 rw[z4]
 refine⟨⟨_,g5,rfl⟩,h _ ⟨g5,g3,⟨_,_,g4⟩,?_,?_⟩ fun c o x=>Heap.get?_push_of_some _ (Heap.get?_push_of_some _ (Heap.get?_push_of_some _ (Heap.get?_push_of_some _ (Heap.get?_push_of_some _ x))))⟩
 ·cases k
  ·exact⟨_,g1,rfl,rfl⟩
  ·exact⟨_,g1,rfl,rfl⟩
 ·cases k
  ·exact⟨_,g2,rfl,rfl⟩
  ·exact⟨_,g2,rfl,rfl⟩
end
def HW(K:PySem.W.Frag)(k:Bool)(H:Hp)(a:Addr)(xs:List V):Prop:=match k with
 | true=>b8 K H a xs
 | false=>jL K H a xs
theorem wZ{X:Cx}{pins:List (Addr × Obj)}{σ:L2.St}{H:Hp}{s:Shared}{k:Bool}{a:Addr}{xs:List V}(I:Inv X pins σ H s)(h:HW X.K k H a xs):∃ its:List Value,Vals xs its∧A7 k s.heap a its.toArray∧xs.length≤sizeLine:=by
 cases k
 ·obtain⟨its,r,p,z⟩:=I.tuple h
  exact⟨its,r,p,z⟩
 ·obtain⟨its,r,p,z⟩:=I.list h
  exact⟨its,r,p.isList,z⟩
theorem HX{X:Cx}{pins:List (Addr × Obj)}{σ:L2.St}{H:Hp}{s:Shared}{k:Bool}{a:Addr}{xs ys:List V}(I:Inv X pins σ H s)(h:HW X.K k H a xs)(h':HW X.K k H a ys):xs=ys:=by
 cases k
 ·exact I.BE h h'
 ·exact I.Em h h'
theorem KP{k:Bool}{h:Heap}{a:Addr}{xs:Array Value}(x:A7 k h a xs):a<h.objs.size:=by
 cases k
 ·obtain⟨o,ho,_⟩:=x;exact Heap.lt_size ho
 ·obtain⟨o,ho,_⟩:=x;exact Heap.lt_size ho
def RM(K:PySem.W.Frag)(k:Bool)(a1 a2:Addr):It :=
 ⟨fun i H=>∃ xs ys x y,HW K k H a1 xs∧HW K k H a2 ys∧xs[i]?=some x∧ys[i]?=some y,fun i H v H'=>∃ p x y,H p=none∧v=.ref p∧H'=upd H p (.tup [x,y])∧(∀ xs,HW K k H a1 xs→xs[i]?=some x)∧∀ ys,HW K k H a2 ys→ys[i]?=some y,fun i H=>∃ xs ys,HW K k H a1 xs∧HW K k H a2 ys∧(xs.length≤i∨ys.length≤i)⟩
theorem KQ{P:Program}{w:World}{K:PySem.W.Frag}{elts:List Expr}{x1:Nat}{tpos:Pos}{k:Bool}{z TI TO i1 i2 l1 l2:Addr}(D:ZipApart z TI TO i1 i2 l1 l2) :
  Turn P w K (.Tuple elts x1 tpos) (RM K k l1 l2) [z,TI,TO,i1,i2] z (fun i h=>BW k h z TI TO i1 i2 l1 l2 i) where
 mem:=by simp
 obj:=fun i h st b hb=>by
  obtain⟨hz,hTI,⟨a,c,hTO⟩,h1,h2⟩:=st
  simp only[List.mem_cons,List.not_mem_nil,or_false]at hb
  rcases hb with rfl|rfl|rfl|rfl|rfl
  ·exact⟨_,hz,fun v e=>by cases e⟩
  ·exact⟨_,hTI,fun v e=>by cases e⟩
  ·exact⟨_,hTO,fun v e=>by cases e⟩
  ·exact h1.obj
  ·exact h2.obj
 keep:=fun i h h' st kk=>by
  obtain⟨hz,hTI,⟨a,c,hTO⟩,h1,h2⟩:=st
  exact⟨kk z (by simp) _ hz,kk TI (by simp) _ hTI,⟨a,c,kk TO (by simp) _ hTO⟩,h1.at fun o e=>kk i1 (by simp) o e,h2.at fun o e=>kk i2 (by simp) o e⟩
 item:=by
  intro X hP hw hK hc i pins s σ H E I hf st hg
  subst hP hw hK
  obtain⟨xs,ys,x,y,q1,q2,e1,e2⟩:=hg
  obtain⟨us,r1,p1,_⟩:=wZ I q1
  obtain⟨vs,r2,p2,_⟩:=wZ I q2
  obtain⟨u,eu,ru⟩:=r1.get e1
  obtain⟨v,ev,rv⟩:=r2.get e2
  refine GC (x:=u) (y:=v) D st p1 p2 (by simpa using eu) (by simpa using ev) fun h' g1 g2 g3 g4 g5 g7=>?_
  refine⟨_,rfl,wpAny_letOwnedTupleGo_zip g1 fun h2 hz2 c2=>?_⟩
  have ne:∀ {b o},s.heap.get? b=some o→s.heap.objs.size≠b:=fun e=>Nat.ne_of_gt (Heap.lt_size e)
  have k2:∀ b o,b∉[z,TI,TO,i1,i2]→s.heap.get? b=some o→h2.get? b=some o:=fun b o hb e=>by
   simp only[List.mem_cons,List.not_mem_nil,or_false,not_or]at hb
   exact c2.extBut _ _ hb.1 (g7 b o hb.1 hb.2.2.1 hb.2.2.2.1 hb.2.2.2.2 e)
  have I2:Inv X pins σ (upd H s.heap.objs.size (.tup [x,y])) { s with heap:=h2,toks:=s.toks } :=
   adopt I k2 hf (jj _) (by show 2≤sizeLine;decide) (.cons ru (.cons rv .nil)) ⟨_,c2.extBut _ _ (ne st.z) g5,rfl,_,rfl⟩
  refine⟨.ref s.heap.objs.size,_,I2,rfl,⟨_,x,y,I.hok.fresh (jj _),rfl,rfl,fun xs' q=>?_,fun ys' q=>?_⟩,?_,fun b hb=>?_⟩
  ·rw[HX I q q1];exact e1
  ·rw[HX I q q2];exact e2
  ·exact⟨hz2,c2.extBut _ _ D.TIz (g7 _ _ D.TIz D.TITO D.TIi1 D.TIi2 st.ti),⟨u,v,c2.extBut _ _ D.TOz g2⟩,g3.at fun o e=>c2.extBut _ _ D.i1z e,g4.at fun o e=>c2.extBut _ _ D.i2z e⟩
  ·have hlt:∃ o,s.heap.get? b=some o:=by
    obtain⟨hz,hTI,⟨a,c,hTO⟩,h1,h2⟩:=st
    simp only[List.mem_cons,List.not_mem_nil,or_false]at hb
    rcases hb with rfl|rfl|rfl|rfl|rfl
    ·exact⟨_,hz⟩
    ·exact⟨_,hTI⟩
    ·exact⟨_,hTO⟩
    ·exact h1.obj.imp fun _ e=>e.1
    ·exact h2.obj.imp fun _ e=>e.1
   obtain⟨o,e⟩:=hlt
   rw[aM (ne e).symm]
   exact (hf b hb).1
 done:=by
  intro X hP hw hK hc i pins s σ H E I hf st hg
  subst hP hw hK
  obtain⟨xs,ys,q1,q2,e⟩:=hg
  obtain⟨us,r1,p1,_⟩:=wZ I q1
  obtain⟨vs,r2,p2,_⟩:=wZ I q2
  have l1:=r1.length
  have l2:=r2.length
  refine Ji (I.ok.hd hc) D st p1 p2 (e.imp (fun e=>by simp;omega) (fun e=>by simp;omega)) fun h' kk=>⟨rfl,ML (t':=s.toks) (ch:=[z,TI,TO,i1,i2]) I (fun b o hb e=>?_) hf⟩
  simp only[List.mem_cons,List.not_mem_nil,or_false,not_or]at hb
  exact kk b o hb.1 hb.2.2.1 hb.2.2.2.1 hb.2.2.2.2 e
 self:=fun _ _ _ _ _ st h=>wpAny_pyIter_zip st.z h
def ab3(K:PySem.W.Frag)(ta:TA):TI:=fun σ H R=>ta σ H fun vs H1=>∃ k a1 a2 xs ys,vs=[.ref a1,.ref a2]∧HW K k H1 a1 xs∧HW K k H1 a2 ys∧R (RM K k a1 a2) H1
theorem Pr{X:Cx}{elts:List Expr}{x1:Nat}{tpos:Pos}{a b:Expr}{ta:TA}{p pos:Pos}(hg:Gl X "zip")(hm:X.mg "zip"=none)(ha:PA X [a,b] ta)
  (hs:starEach [a,b] X.env=[(false,eval a X.env),(false,eval b X.env)]:=by rfl) (hs2:starEach [b] X.env=[(false,eval b X.env)]:=by rfl):PI X (.Tuple elts x1 tpos) (.Call (.Name "zip" p) [a,b] [] pos) (ab3 X.K ta):=by
 intro pins s σ H R I h
 refine Call_ (zw I hg hm boot_zip (PyProof.Rows.callWith_type1 (cE (ha pos pins s σ H _ I h) fun us s1 ⟨vs,H1,I1,r1,q1⟩=>?_) (by rw[hs,hs2]) (by rw[hs2];rfl)))
 obtain⟨k,a1,a2,xs,ys,e,q1,q2,q⟩:=q1
 subst e
 obtain⟨u1,u2,rfl,e1,e2⟩:=r1.two
 cases (show u1=Value.ref a1 from e1)
 cases (show u2=Value.ref a2 from e2)
 obtain⟨us,rr1,p1,_⟩:=wZ I1 q1
 obtain⟨ws,rr2,p2,_⟩:=wZ I1 q2
 have b1:=KP p1
 have b2:=KP p2
 refine Jj p1 p2 fun h' st kk=>wpAny_pyIter_zip st.z ?_
 have I2:Inv X pins σ H1 { s1 with heap:=h',toks:=s1.toks }:=I1.kept kk
 refine⟨_,_,_,_,H1,rfl,I2,KQ (zipApart_new b1 b2),st,fun b hb=>?_,q⟩
 have hb':s1.heap.objs.size≤b:=by
  simp only[List.mem_cons,List.not_mem_nil,or_false]at hb
  rcases hb with rfl|rfl|rfl|rfl|rfl
  ·exact Nat.le_add_right _ _
  ·exact Nat.le_add_right _ _
  ·exact Nat.le_add_right _ _
  ·exact jj _
  ·exact Nat.le_add_right _ _
 exact I1.My hb' (I1.hok.fresh hb')
theorem MM{K:PySem.W.Frag}{k:Bool}{a1 a2:Addr}{xs ys:List V}{g:TG}{tb:TS}{D:Ends}{σ:L2.St}{H:Hp}(Pv:Nat→L2.St→Hp→Prop)(hn:xs.length=ys.length)(h0:Pv 0 σ H)
  (hl:∀ i σ H,i≤xs.length→Pv i σ H→HW K k H a1 xs∧HW K k H a2 ys)
  (hs:∀ i x y p σ H,xs[i]?=some x→ys[i]?=some y→H p=none→Pv i σ H→g (.ref p) σ (upd H p (.tup [x,y])) fun σ2 H2=>tb { D with nx:=Pv (i+1),ct:=Pv (i+1),bk:=D.nx } σ2 H2) (hd:∀ σ H,Pv xs.length σ H→D.nx σ H) :
  ∃ W:Nat→Nat→L2.St→Hp→Prop,(∃ m,W 0 m σ H)∧∀ i m σ H,W i m σ H →
   ((RM K k a1 a2).stop i H∧D.nx σ H)∨((RM K k a1 a2).go i H∧∃ N:L2.St→Hp→Prop,(∀ σ' H',N σ' H'→∃ m',m'<m∧W (i+1) m' σ' H')∧∀ x H',(RM K k a1 a2).Kn i H x H'→g x σ H' fun σ2 H2=>tb { D with nx:=N,ct:=N,bk:=D.nx } σ2 H2):=by
 refine⟨fun i m σ H=>m=xs.length-i∧i≤xs.length∧Pv i σ H,⟨xs.length,by simp,Nat.zero_le _,h0⟩,?_⟩
 rintro i m σ H ⟨rfl,hi,p⟩
 obtain⟨q1,q2⟩:=hl i σ H hi p
 by_cases hlt:i<xs.length
 ·have ab4:i<ys.length:=by omega
  refine .inr ⟨⟨xs,ys,xs[i],ys[i],q1,q2,by simp[hlt],by simp[ab4]⟩,Pv (i+1),fun σ' H' p'=>⟨xs.length-(i+1),by omega,rfl,hlt,p'⟩,fun x H' y=>?_⟩
  obtain⟨a,x',y',hn',rfl,rfl,e1,e2⟩:=y
  exact hs i x' y' a σ _ (e1 xs q1) (e2 ys q2) hn' p
 ·have e:i=xs.length:=by omega
  subst e
  exact .inl ⟨⟨xs,ys,q1,q2,.inl (jj _)⟩,hd σ H p⟩
def EC(lo:Int)(n:Nat):List V:=(List.range n).map fun i:Nat=>V.int (lo+i)
section
variable {X:Cx}
theorem Bd(hc:X.calm=true):nj X (.type "list") (fun xs H Q=>∃ p i j,xs=[.ref p]∧H p=some (.Gf i j)∧(-(2^62)≤i∧i<2^62∧-(2^62)≤j∧j<2^62)∧(j-i).toNat≤sizeLine ∧
  ∀ l,H l=none→Q (.ref l) (upd H l (.lst (EC i (j-i).toNat)))):=by
 intro pins s σ H xs us Q I r h
 obtain⟨p,i,j,rfl,hp,⟨b1,b2,b3,b4⟩,hz,q⟩:=h
 obtain⟨u,rfl,rx⟩:=r.one
 cases (show u=Value.ref p from rx)
 obtain⟨t,u,v,e⟩:=(show gK X.prog X.w H s.heap p (.Gf i j) from I.hok p _ hp)
 have e2:Builtin.Range.rangeSize i j 1=(((j-i).toNat:Nat):Int):=by rw[rangeSize_one];split <;> omega
 have hz':(j-i).toNat≤2^24:=by have:=sizeLine_eq;omega
 refine call_list_range (I.ok.hd hc) e (small_one b1 b2 b3 b4) e2 hz' fun h' tk acc' c' hk hS hacc=>?_
 refine⟨.ref s.heap.objs.size,_,I.laid (o:=.lst (EC i (j-i).toNat)) (t':=tk) hk (jj _) ⟨?_,acc'.toList,c',?_,by simpa using hS⟩,rfl,q _ (I.hok.fresh (jj _))⟩
 ·unfold EC;simpa using hz
 ·have hl:acc'.toList.length=(j-i).toNat:=by simpa using hacc.1
  have key:∀ (n:Nat) (us:List Value) (lo:Int),us.length=n→(∀ k v,us[k]?=some v→∃ t,v=Value.int (lo+(k:Nat)*1) t)→Vals ((List.range n).map fun i:Nat=>V.int (lo+i)) us:=by
   intro n
   induction n with
   | zero=>intro us lo hl _;cases us with
    | nil=>exact .nil
    | cons=>simp at hl
   | succ n ih =>
    intro us lo hl hv
    cases us with
    | nil=>simp at hl
    | cons u us =>
     rw[List.range_succ_eq_map,lS,List.map_map]
     refine .cons ?_ ?_
     ·obtain⟨t,e⟩:=hv 0 u rfl
      exact⟨t,by rw[e];simp⟩
     ·have:=ih us (lo+1) (by simpa using hl) fun k v e=>by
       obtain⟨t,e'⟩:=hv (k+1) v (by simpa using e)
       refine⟨t,?_⟩
       rw[e']
       have:lo+((k+1:Nat):Int)*1=lo+1+(k:Int)*1:=by omega
       rw[this]
      have e3:((fun i:Nat=>V.int (lo+i)) ∘ Nat.succ)=fun i:Nat=>V.int (lo+1+i):=by
       funext i
       simp only[Function.comp,Nat.succ_eq_add_one]
       have:lo+((i+1:Nat):Int)=lo+1+(i:Int):=by omega
       rw[this]
      rw[e3]
      exact this
  exact key _ _ i hl fun k v e=>hacc.2 k v (by simpa using e)
end
section
variable {X:Cx}
theorem KR{j:Int}(h0:0<j)(h1:j<10^70):j.natAbs.log2<9000:=by
 have h:j.natAbs<2^9000:=Nat.lt_trans (show j.natAbs<10^70 by omega) (by decide +kernel)
 exact (Nat.log2_lt (by omega)).mpr h
theorem zI:vI X (binaryOp .FloorDiv) (rI (fun _ j=>0<j∧j<10^70) fun i j=>.int (i / j)):=Uc fun i j _ _ _ _ _ hc q=>by
 have h1:(0:Int)<j:=hc.1
 exact floordiv_int (by omega) (by rw[Int.fdiv_eq_ediv_of_nonneg i (by omega)];exact q) (.inl (PyProof.noPylong_of_log2 (KR hc.1 hc.2)))
theorem ED(hc:X.calm=true):nj X (.builtin "sum") (fun xs H Q=>∃ (p:Addr) (ns:List Int),xs=[.ref p]∧b8 X.K H p (ns.map V.int)∧Q (.int ns.sum) H):=by
 intro pins s σ H xs us Q I r h
 obtain⟨p,ns,rfl,hq,q⟩:=h
 obtain⟨u,rfl,rx⟩:=r.one
 cases (show u=Value.ref p from rx)
 obtain⟨its,rv,pl,hz⟩:=I.list hq
 have hi:IntsAre its ns:=intsAre_of rv
 have hall:AllInts its.toArray:=hi.allInts
 obtain⟨zs,ez⟩:=hall.items
 have hl:=pl.isList
 have es:(numsOf its.toArray.toList).sum=ns.sum:=by rw[show its.toArray.toList=its from rfl,hi.numsOf]
 rw[ez]at hl es
 rw[nums_intItems]at es
 refine PySem.sum_intListG (I.ok.hd hc) hl fun h' tk t' hk=>⟨.int ns.sum,H,I.kept hk,⟨t',?_⟩,q⟩
 rw[preSum_eq,yu (by simp),es]
end
end cX
namespace jk
abbrev Row:=List (Int × Int)
def grow(t:Row)(s e:Int):Row :=
 match t.getLast? with
 | some p=>if p.2=s then t.dropLast++[(p.1,e)] else t++[(s,e)]
 | none=>t++[(s,e)]
def dO(t:Row)(p:Int × Int):Row:=if p.1=p.2 then t else grow t p.1 p.2
def cF(r:Row):Row:=r.foldl dO []
def run(s:Int):Nat→List Int
 | 0=>[]
 | n+1=>s::run (s+1) n
def span(p:Int × Int):List Int:=run p.1 (p.2-p.1).toNat
def bT(r:Row):List Int:=r.flatMap span
def rowOf(ns:List Int):Row:=ns.foldl (fun t n=>grow t n (n+1)) []
theorem n9(s:Int)(n:Nat):(run s n).length=n:=by
 induction n generalizing s with
 | zero=>rfl
 | succ n ih=>simp[run,ih]
theorem qm(s e:Int):grow [] s e=[(s,e)]:=rfl
theorem qo(t:Row){q:Int × Int}{s:Int}{e:Int}(h:q.2=s):grow (t++[q]) s e=t++[(q.1,e)]:=by
 simp[grow,h]
theorem qp(t:Row){q:Int × Int}{s:Int}{e:Int}(h:¬ q.2=s):grow (t++[q]) s e=t++[q]++[(s,e)]:=by
 simp[grow,h]
theorem Jk(t:Row)(a s e:Int):grow (t++[(a,s)]) s e=t++[(a,e)]:=by
 simp[grow]
theorem zJ(t:Row)(a s:Int)(n:Nat):(run s n).foldl (fun t n=>grow t n (n+1)) (t++[(a,s)])=t++[(a,s+n)]:=by
 induction n generalizing s with
 | zero=>simp[run]
 | succ n ih =>
  rw[run,nR,Jk,ih]
  have:s+1+(n:Int)=s+((n+1:Nat):Int):=by omega
  rw[this]
theorem KS(t:Row)(p:Int × Int)(h:p.1≤p.2):dO t p=(span p).foldl (fun t n=>grow t n (n+1)) t:=by
 obtain⟨s,e⟩:=p
 simp only at h
 unfold dO span
 by_cases he:s=e
 ·subst he;simp[run]
 ·obtain⟨n,hn⟩:∃ n:Nat,e=s+1+n:=⟨(e-s-1).toNat,by omega⟩
  subst hn
  rw[if_neg he]
  have h2:((s,s+1+(n:Int)).2-(s,s+1+(n:Int)).1).toNat=n+1:=by simp only;omega
  rw[h2,run,nR]
  simp only
  rcases uK t with rfl|⟨u,q,rfl⟩
  ·rw[qm,qm]
   exact (zJ [] s (s+1) n).symm
  ·by_cases hq:q.2=s
   ·rw[rM,qo u hq,qo u hq,zJ]
   ·rw[rM,qp u hq,qp u hq,zJ]
theorem oh{α β γ:Type}(f:γ→β→γ)(g:α→List β):∀ (l:List α) (c:γ),(l.flatMap g).foldl f c=l.foldl (fun c a=>(g a).foldl f c) c
 | [],_=>rfl
 | a::l,c=>by rw[mH,List.foldl_append,nR,oh f g l]
theorem EE(r:Row)(h:∀ p∈r,p.1≤p.2):cF r=rowOf (bT r):=by
 unfold cF rowOf bT
 rw[oh]
 have key:∀ (r:Row),(∀ p∈r,p.1≤p.2)→∀ t:Row,r.foldl dO t=r.foldl (fun c a=>(span a).foldl (fun t n=>grow t n (n+1)) c) t:=by
  intro r
  induction r with
  | nil=>intro _ t;rfl
  | cons p r ih =>
   intro h t
   rw[nR,nR,KS t p (h p (uL ..))]
   exact ih (fun q hq=>h q (tY _ hq)) _
 exact key r h []
theorem yg(t:Row)(s e:Int):(grow t s e).length≤t.length+1:=by
 rcases uK t with rfl|⟨u,q,rfl⟩
 ·rw[qm];simp
 ·by_cases hq:q.2=s
  ·rw[rM,qo u hq];simp
  ·rw[rM,qp u hq];simp
theorem foldl_take_succ{α β:Type}(f:β→α→β)(l:List α)(b:β)(i:Nat)(x:α)(h:l[i]?=some x):(l.take (i+1)).foldl f b=f ((l.take i).foldl f b) x:=by
 rw[List.take_add_one,h,List.foldl_append]
 rfl
end jk
namespace jk
def tot(r:Row):Int:=(r.map fun p=>p.2-p.1).sum
theorem MN:tot []=0:=rfl
theorem EF(p:Int × Int)(r:Row):tot (p::r)=(p.2-p.1)+tot r:=by simp[tot]
theorem KU(r:Row)(p:Int × Int):tot (r++[p])=tot r+(p.2-p.1):=by simp[tot]
theorem zK(r q:Row):tot (r++q)=tot r+tot q:=by simp[tot]
theorem take_snoc{α:Type}{l:List α}{i:Nat}{x:α}(h:l[i]?=some x):l.take (i+1)=l.take i++[x]:=by rw[List.take_add_one,h];rfl
end jk
namespace jk
theorem zL(s:Int)(n:Nat):run s (n+1)=run s n++[s+n]:=by
 induction n generalizing s with
 | zero=>simp[run]
 | succ n ih =>
  rw[run,ih,run]
  have:s+1+(n:Int)=s+((n+1:Nat):Int):=by omega
  rw[this];rfl
theorem BX{a n:Int}(h:a≤n):span (a,n+1)=span (a,n)++[n]:=by
 unfold span
 have e:((a,n+1).2-(a,n+1).1).toNat=((a,n).2-(a,n).1).toNat+1:=by simp only;omega
 rw[e,zL]
 have:a+((((a,n).2-(a,n).1).toNat:Nat):Int)=n:=by simp only;omega
 simp only at this ⊢
 rw[this]
theorem EG(n:Int):span (n,n+1)=[n]:=by
 have:=BX (a:=n) (n:=n) (Int.le_refl _)
 rw[this]
 have e:span (n,n)=[]:=by unfold span;simp[run]
 rw[e];rfl
theorem di(r q:Row):bT (r++q)=bT r++bT q:=by unfold bT;rw[List.flatMap_append]
theorem jd(p:Int × Int):bT [p]=span p:=by simp[bT]
theorem GF(t:Row)(n:Int)(h:∀ p∈t,p.1≤p.2):bT (grow t n (n+1))=bT t++[n]:=by
 rcases uK t with rfl|⟨u,q,rfl⟩
 ·rw[qm,jd,EG];rfl
 ·rw[rM]at h ⊢
  by_cases hq:q.2=n
  ·obtain⟨a,b⟩:=q
   simp only at hq
   subst hq
   have hb:a≤b:=h (a,b) (by simp)
   rw[qo u rfl,di,di,jd,jd,BX hb,oZ]
  ·rw[qp u hq,di,jd,EG]
theorem HY(t:Row)(n:Int)(h:∀ p∈t,p.1≤p.2):∀ p∈grow t n (n+1),p.1≤p.2:=by
 rcases uK t with rfl|⟨u,q,rfl⟩
 ·rw[qm];intro p hp;simp at hp;subst hp;show n≤n+1;omega
 ·rw[rM]at h ⊢
  by_cases hq:q.2=n
  ·rw[qo u hq]
   intro p hp
   rcases List.mem_append.mp hp with z|z
   ·exact h p (List.mem_append_left _ z)
   ·simp at z;subst z
    have:=h q (by simp)
    show q.1≤n+1
    omega
  ·rw[qp u hq]
   intro p hp
   rcases List.mem_append.mp hp with z|z
   ·exact h p z
   ·simp at z;subst z;show n≤n+1;omega
theorem kG(ns:List Int):bT (rowOf ns)=ns:=by
 have key:∀ (ns:List Int) (t:Row),(∀ p∈t,p.1≤p.2)→bT (ns.foldl (fun t n=>grow t n (n+1)) t)=bT t++ns:=by
  intro ns
  induction ns with
  | nil=>intro t _;simp
  | cons n ns ih =>
   intro t h
   rw[nR,ih _ (HY t n h),GF t n h,oZ];rfl
 have:=key ns [] (fun p hp=>by cases hp)
 simpa [rowOf,bT] using this
theorem vP(ns:List Int):∀ p∈rowOf ns,p.1≤p.2:=by
 have key:∀ (ns:List Int) (t:Row),(∀ p∈t,p.1≤p.2)→∀ p∈ns.foldl (fun t n=>grow t n (n+1)) t,p.1≤p.2:=by
  intro ns
  induction ns with
  | nil=>intro t h;exact h
  | cons n ns ih=>intro t h;exact ih _ (HY t n h)
 exact key ns [] (fun p hp=>by cases hp)
end jk
namespace jk
theorem yh(p:Int × Int)(h:p.1≤p.2):((span p).length:Int)=p.2-p.1:=by
 unfold span;rw[n9];omega
theorem sY:∀ (r:Row),(∀ p∈r,p.1≤p.2)→((bT r).length:Int)=tot r
 | [],_=>rfl
 | p::r,h=>by
  have ih:=sY r fun q hq=>h q (tY _ hq)
  have hp:=yh p (h p (uL ..))
  have e:bT (p::r)=span p++bT r:=rfl
  rw[e,eT,EF]
  omega
end jk
namespace jk
open PySem L2 cX
structure aF(K:PySem.W.Frag)(mg:Str→Option Value)(x:Str)(st:Stmt)(ps:List Str)(a:Addr)(d:FuncData):Prop where
 F:iJ K x x st a d
 b:Binds K d ps []
 m:mg x=some (.ref a)
section
variable {X:Cx}
theorem aS{x:Str}{st:Stmt}{ps:List Str}{f:Addr}{fd:FuncData}{j k:Nat}{sp:Sp}{e:Expr}{es:List Expr}{t:TA}{p pos:Pos}(d:aF X.K X.mg x st ps f fd)(G:aH X.prog X.w X.K X.mg X.base cK k f fd ps sp)(hr:j9 j X.A)
  (ha:PA X (e::es) t) (hjk:k≤j:=by first|decide|omega) (hg:Gl X x:=by rfl) (hdb:(x == ("__debug__":Str))=false:=by decide) (he:starEach (e::es) X.env=(false,eval e X.env)::starEach es X.env:=by rfl)
  (hpl:(backTo pos (starEach es X.env)).any (·.1)=false:=by rfl):PE X (.Call (.Name x p) (e::es) [] pos) (HK sp [] E0 t) :=
 CV G (hr.mono hjk) hg d.m d.F.kp d.b .nil cZ ha hdb he hpl
theorem pU{st:Stmt}{t t':TS}(h:PS X st t)(hi:∀ D σ H,t' D σ H→t D σ H):PS X st t':=fun pins s σ H D I q=>h pins s σ H D I (hi D σ H q)
end
def eE(l:Addr)(H H':Hp):Prop:=∀ a o,H a=some o→a≠l→H' a=some o
theorem aJ.keep{l:Addr}{H H':Hp}(s:aJ H H'):eE l H H':=fun a o e _=>s a o e
theorem eE.trans{l:Addr}{H H1 H2:Hp}(a:eE l H H1)(b:eE l H1 H2):eE l H H2:=fun c o e n=>b c o (a c o e n) n
theorem aN(l:Addr)(H:Hp)(o:HO):eE l H (upd H l o):=fun a u e n=>by rw[aM n];exact e
theorem dM{l:Addr}{H H1 H2:Hp}(h:H l=none)(a:aJ H H1)(b:eE l H1 H2):aJ H H2:=fun c o e=>b c o (a c o e) (ay e h)
theorem ak{H:Hp}{p:Addr}(h:H p=none)(o:HO):aJ H (upd H p o):=fun b u q=>by rw[aM (ay q h)];exact q
theorem kH{l a:Addr}{H H':Hp}(k:eE l H H')(n:a≠l)(h:H' a=none):H a=none:=by
 cases q:H a with
 | none=>rfl
 | some o=>rw[k a o q n]at h;cases h
def iL(H:Hp)(l c:Addr):Prop:=c≠l∧∃ (ns:List Int) (i d r:Int),H l=some (.lst [.ref c,.int i,.int d,.int r])∧H c=some (.lst (ns.map V.int))∧0≤i∧0≤r∧r<2147483647
theorem iL.same{H H':Hp}{l c:Addr}(s:iL H l c)(k:aJ H H'):iL H' l c:=by
 obtain⟨n,ns,i,d,r,h1,h2,h3⟩:=s
 exact⟨n,ns,i,d,r,k _ _ h1,k _ _ h2,h3⟩
theorem iL.has{H:Hp}{l c:Addr}(s:iL H l c):(∃ o,H l=some o)∧∃ o,H c=some o:=by
 obtain⟨n,ns,i,d,r,e1,e2,h3⟩:=s
 exact⟨⟨_,e1⟩,⟨_,e2⟩⟩
theorem RN{a b c d:V}:A0 [a,b,c,d] 0=some a:=rfl
theorem Pu{a b c d:V}:A0 [a,b,c,d] 1=some b:=rfl
theorem MO{a b c d:V}:A0 [a,b,c,d] 2=some c:=rfl
theorem RO{a b c d:V}:A0 [a,b,c,d] 3=some d:=rfl
theorem ab5{a b:V}:A0 [a,b] 0=some a:=rfl
theorem ab6{a b:V}:A0 [a,b] 1=some b:=rfl
inductive C2(vs:List V)(H:Hp)(Q:VK)(E:XK):Prop
 | mk (l c:Addr) (b:Int) (_:vs=[.ref l,.int b]) (_:iL H l c) (_:0<b) (_:b<10^70) (_ :
 ∀ (v:Int) (H':Hp),0≤v→v<b→iL H' l c→(∀ a,a≠l→H' a=H a)→Q (.int v) H'):C2 vs H Q E
inductive KW(K:PySem.W.Frag)(vs:List V)(H:Hp)(Q:VK)(E:XK):Prop
 | mk (a:Addr) (ns:List Int) (_:vs=[.ref a]) (_:b8 K H a (ns.map V.int)) (_ :
 ∀ (l c:Addr) (H':Hp),iL H' l c→aJ H H'→H l=none→H c=none→Q (.ref l) H'):KW K vs H Q E
def flat:V→Bool
 | .int _ | .bl _ | .str _ | .jc=>true
 | _=>false
def KY(k:Bool)(H:Hp)(a:Addr)(xs:List V):Prop:=match k with
 | true=>H a=some (.lst xs)
 | false=>H a=some (.tup xs)
theorem KY.same{k:Bool}{H H':Hp}{a:Addr}{xs:List V}(h:KY k H a xs)(s:aJ H H'):KY k H' a xs:=by
 cases k
 ·exact s _ _ h
 ·exact s _ _ h
theorem KY.sq{K:PySem.W.Frag}{k:Bool}{H:Hp}{a:Addr}{xs:List V}(h:KY k H a xs):HW K k H a xs:=by
 cases k
 ·exact jL.of h
 ·exact b8.of h
def Eqv(H:Hp):Nat→V→V→Prop
 | 0,_,_=>False
 | n+1,x,y=>(flat x=true∧x=y)∨∃ (k:Bool) (a b:Addr) (xs ys:List V),x=.ref a∧y=.ref b∧KY k H a xs∧KY k H b ys∧xs.length=ys.length ∧
   ∀ (i:Nat) (u v:V),xs[i]?=some u→ys[i]?=some v→Eqv H n u v
theorem Eqv.same{H H':Hp}(s:aJ H H'):∀ {n:Nat} {x y:V},Eqv H n x y→Eqv H' n x y
 | 0,_,_,h=>h
 | n+1,x,y,h=>by
  rcases h with h|⟨k,a,b,xs,ys,e1,e2,h1,h2,hl,hi⟩
  ·exact .inl h
  ·exact .inr ⟨k,a,b,xs,ys,e1,e2,h1.same s,h2.same s,hl,fun i u v eu ev=>Eqv.same s (hi i u v eu ev)⟩
theorem Eqv.int{H:Hp}{n:Nat}(i:Int):Eqv H (n+1) (.int i) (.int i):=.inl ⟨rfl,rfl⟩
def zM(n:Nat):Sp:=fun vs H Q _=>∃ x y,vs=[x,y]∧Eqv H n x y∧∀ H',aJ H H'→Q (.bl true) H'
inductive C3(vs:List V)(H:Hp)(Q:VK)(E:XK):Prop
 | mk (i:Int) (_:vs=[.int i]) (_:Q (.bl true) H):C3 vs H Q E
section
variable (K:PySem.W.Frag)
theorem RP:PySem.W.kitOne K (.type "bool") (.type "bool")=some true:=by rfl
theorem RQ:PySem.W.kitOne K (.type "int") (.type "bool")=some false:=by kernel_rfl
theorem RS:PySem.W.kitOne K (.type "int") (.type "int")=some true:=by rfl
theorem ab7:PySem.W.kitOne K (.type "str") (.type "bool")=some false:=by kernel_rfl
theorem ab8:PySem.W.kitOne K (.type "str") (.type "int")=some false:=by kernel_rfl
theorem RT:PySem.W.kitOne K (.type "str") (.type "str")=some true:=by rfl
theorem ab9:PySem.W.kitOne K (.type "list") (.type "bool")=some false:=by kernel_rfl
theorem acd:PySem.W.kitOne K (.type "list") (.type "int")=some false:=by kernel_rfl
theorem ace:PySem.W.kitOne K (.type "list") (.type "str")=some false:=by kernel_rfl
theorem RU:PySem.W.kitOne K (.type "list") (.type "list")=some true:=by rfl
theorem k_lt:PySem.W.kitOne K (.type "list") (.type "tuple")=some false:=by kernel_rfl
theorem acf:PySem.W.kitOne K (.type "tuple") (.type "bool")=some false:=by kernel_rfl
theorem acg:PySem.W.kitOne K (.type "tuple") (.type "int")=some false:=by kernel_rfl
theorem ach:PySem.W.kitOne K (.type "tuple") (.type "str")=some false:=by kernel_rfl
theorem aci:PySem.W.kitOne K (.type "tuple") (.type "list")=some false:=by kernel_rfl
theorem acj:PySem.W.kitOne K (.type "tuple") (.type "tuple")=some true:=by rfl
end
def QT(k:Bool):Value:=.type (if k then "list" else "tuple")
theorem KY.ty{K:PySem.W.Frag}{k:Bool}{H:Hp}{a:Addr}{xs:List V}(h:KY k H a xs):mL K H (.ref a) (QT k):=by
 cases k
 ·exact mL.tup h
 ·exact mL.lst h
theorem ack(K:PySem.W.Frag)(k:Bool):PySem.W.kitOne K (QT k) (.type "bool")=some false:=by cases k;exact acf K;exact ab9 K
theorem acm(K:PySem.W.Frag)(k:Bool):PySem.W.kitOne K (QT k) (.type "int")=some false:=by cases k;exact acg K;exact acd K
theorem acn(K:PySem.W.Frag)(k:Bool):PySem.W.kitOne K (QT k) (.type "str")=some false:=by cases k;exact ach K;exact ace K
theorem RV(K:PySem.W.Frag)(k:Bool):PySem.W.kitOne K (QT k) (.type "list")=some k:=by cases k;exact aci K;exact RU K
theorem RW(K:PySem.W.Frag)(k:Bool):PySem.W.kitOne K (QT k) (.type "tuple")=some (!k):=by cases k;exact acj K;exact k_lt K
def xg(H:Hp)(a:Addr)(p:Int × Int):Prop:=H a=some (.tup [.int p.1,.int p.2])
abbrev bu(H:Hp):List Addr→Row→Prop:=Paired (xg H)
inductive cL(H:Hp)(r:Addr)(row:Row):Prop
 | mk (as:List Addr) (_:H r=some (.lst (as.map V.ref))) (_:bu H as row):cL H r row
theorem bu.tups{H H':Hp}{as:List Addr}{row:Row}(h:bu H as row)(t:∀ a xs,H a=some (.tup xs)→H' a=some (.tup xs)):bu H' as row:=Paired.Mq h fun a p e=>t a _ e
theorem bu.same{H H':Hp}{as:List Addr}{row:Row}(h:bu H as row)(s:aJ H H'):bu H' as row:=h.tups fun a xs e=>s a _ e
theorem cL.same{H H':Hp}{r:Addr}{row:Row}(h:cL H r row)(s:aJ H H'):cL H' r row:=by
 obtain⟨as,h1,h2⟩:=h
 exact⟨as,s _ _ h1,h2.same s⟩
theorem bu.keep{H H':Hp}{as:List Addr}{row:Row}{l:Addr}{xs:List V}(h:bu H as row)(hl:H l=some (.lst xs))(s:eE l H H'):bu H' as row :=
 h.tups fun a ys e=>s a _ e (gx e hl (by intro z;cases z))
theorem cL.keep{H H':Hp}{r:Addr}{row:Row}{l:Addr}{xs:List V}(h:cL H r row)(hl:H l=some (.lst xs))(n:r≠l)(s:eE l H H'):cL H' r row:=by
 obtain⟨as,h1,h2⟩:=h
 exact⟨as,s _ _ h1 n,h2.keep hl s⟩
theorem bu.get{H:Hp}:∀ {as:List Addr} {row:Row} {i:Nat} {a:Addr},bu H as row→as[i]?=some a→∃ p,row[i]?=some p∧xg H a p
 | _,_,_,_,.nil,e=>by simp at e
 | _,_,0,_,.cons r _,e=>by simp at e;subst e;exact⟨_,rfl,r⟩
 | _,_,i+1,a,.cons _ t,e=>by
  obtain⟨p,h1,h2⟩:=bu.get (i:=i) (a:=a) t (by simpa using e)
  exact⟨p,by simpa using h1,h2⟩
theorem bu.snoc{H:Hp}:∀ {as:List Addr} {row:Row} {a:Addr} {p:Int × Int},bu H as row→xg H a p→bu H (as++[a]) (row++[p])
 | _,_,_,_,.nil,e=>.cons e .nil
 | _,_,_,_,.cons r t,e=>.cons r (bu.snoc t e)
theorem bu.split{H:Hp}:∀ {as:List Addr} {row:Row} {p:Int × Int},bu H as (row++[p])→∃ bs a,as=bs++[a]∧bu H bs row∧xg H a p
 | as,[],p,h=>by
  cases h with
  | cons r t=>cases t;exact⟨[],_,rfl,.nil,r⟩
 | as,q::row,p,h=>by
  cases h with
  | cons r t =>
   obtain⟨bs,a,rfl,h1,h2⟩:=bu.split (row:=row) (p:=p) t
   exact⟨_::bs,a,rfl,.cons r h1,h2⟩
theorem bu.len{H:Hp}{as:List Addr}{row:Row}(h:bu H as row):as.length=row.length:=Paired.length h
theorem kZ{α:Type}(xs:List α)(v:α):A0 (xs++[v]) (-1)=some v:=Kx xs v
theorem EH(n:Nat):J6 (n+1) (-1)=some n:=by
 unfold J6
 rw[if_neg (by decide),if_pos (by omega)]
 congr 1
 omega
theorem EI{α:Type}(xs:List α)(a b:α):(xs++[a]).set xs.length b=xs++[b]:=by
 simp
theorem KZ(lo:Int)(n:Nat):EC lo n=(run lo n).map V.int:=by
 unfold EC
 induction n generalizing lo with
 | zero=>rfl
 | succ n ih =>
  rw[List.range_succ_eq_map,lS,List.map_map,run,lS,← ih (lo+1)]
  congr 1
  ·simp
  ·apply List.map_congr_left
   intro i _
   simp only[Function.comp,Nat.succ_eq_add_one]
   congr 1
   omega
inductive yW(vs:List V)(H:Hp)(Q:VK)(E:XK):Prop
 | mk (r:Addr) (row:Row) (_:vs=[.ref r]) (_:cL H r row) (_:row.length≤1000000) (_ :
 ∀ (q:Addr) (H':Hp),cL H' q (cF row)→aJ H H'→H q=none→Q (.ref q) H'):yW vs H Q E
theorem aV{n:Nat}(h:n≤1000001):n<sizeLine:=Nat.lt_of_le_of_lt h (by decide)
end jk
namespace jk
open PySem L2 cX
def Px:TS:=fun D σ H=>∃ (l c:Addr) (b:Int),σ=[some (.ref l),some (.int b),none,none]∧iL H l c ∧
 ∀ (cell:Option V) (H':Hp),iL H' l c→(∀ a,a≠l→H' a=H a)→D.nx [some (.ref l),some (.int b),cell,none] H'
def Py:TS:=fun D σ H=>∃ (l c:Addr) (b:Int),σ=[some (.ref l),some (.int b),some (.int 7),none]∧iL H l c ∧
 ∀ (cell:Int) (H':Hp),iL H' l c→(∀ a,a≠l→H' a=H a)→D.nx [some (.ref l),some (.int b),some (.int cell),none] H'
theorem MP{ns:List Int}{i:Int}(h0:0≤i)(h1:i<(ns.length:Int)):∃ v:Int,A0 (ns.map V.int) i=some (.int v):=by
 have hk:i.toNat<ns.length:=by omega
 refine⟨ns[i.toNat],?_⟩
 have q:A0 (ns.map V.int) ((i.toNat:Nat):Int)=some (.int ns[i.toNat]):=gO (by rw[uq,rL hk] <;> rfl)
 have ei:((i.toNat:Nat):Int)=i:=by omega
 rw[ei]at q
 exact q
theorem K0(ns:List Int)(lo hi:Option Int):∃ ms:List Int,qI (ns.map V.int) lo hi=ms.map V.int:=by
 unfold qI
 refine⟨(ns.drop (HT.jN (ns.map V.int).length 0 lo)).take (HT.jN (ns.map V.int).length (ns.map V.int).length hi-HT.jN (ns.map V.int).length 0 lo),?_⟩
 rw[List.map_take,List.map_drop]
theorem tt{p:Prop} [Decidable p] {Q:V→Hp→Prop} {H:Hp} (hp:p) (h:Q (.bl true) H):Q (.bl (decide p)) H:=by
 rw[decide_eq_true hp]
 exact h
theorem KY.or{K:PySem.W.Frag}{k:Bool}{H:Hp}{a:Addr}{xs:List V}(h:KY k H a xs):b8 K H a xs∨jL K H a xs:=by
 cases k
 ·exact .inr (jL.of h)
 ·exact .inl (b8.of h)
end jk
namespace jk
open PySem L2 cX
theorem iL.lst{H:Hp}{l c:Addr}(s:iL H l c):∃ xs,H l=some (.lst xs):=by
 obtain⟨n,ns,i,d,r,e1,_⟩:=s
 exact⟨_,e1⟩
end jk
namespace cX
open PySem PySem.Spec PyProof.Rows L2
def Bf(X:Cx)(N:List Str)(scope:Scope)(C:Addr)(s₀:Shared)(H₀:Hp)(ex:List Addr)(pn:List (Addr × Obj)):Cx where
 prog:=X.prog
 w:=X.w
 K:=X.K
 mg:=X.mg
 base:=X.base
 A:=X.A
 N:=N
 s₀:=s₀
 H₀:=H₀
 env:=newEnv scope C X.env.globals [] X.env.qual none .none (some X.env) X.env.builtins
 outer:=X.stack
 stack:=X.stack
 ex:=ex
 fn:=fun _=>true
 calm:=X.calm
 pn:=pn
 xe:=fun _ _=>False
structure BY(scope:Scope):Prop where
 kind:scope.kind=.function
 free:∀ x∈scope.names,x.2≠.free
 cell:∀ x∈scope.names,x.2≠.cell
 names:∀ x∈scope.names,x.2=.local→scope.names.lookup x.1=some .local
section
variable {prog:Program} {w:World} {A:Around} {R:Result→Shared→Prop} {s:Shared}
def sZ(ifs:List Expr)(env:Env):Sem Bool:=forIn ifs true fun c r=>if r=true then do let ok ← isTrue c env (eval c env);pure (ForInStep.yield ok) else pure (ForInStep.yield r)
theorem BZ{elt target iter:Expr}{ifs:List Expr}{scope:Scope}{pos:Pos}{it acc:Value}{env:Env}(I:Nat→Shared→Prop)
  (turn:∀ n s,I n s→wpAny (model prog w) A (pyNext it) (fun r s₁=>match r with
   | none=>R (.ok .next) s₁
   | some v=>wpAny (model prog w) A (letOwnedTupleGo target it v) (fun _ s₂=>wpAny (model prog w) A (assign target env v) (fun _ s₃ =>
     wpAny (model prog w) A (sZ ifs env) (fun ok s₄ =>
      if ok=true then wpAny (model prog w) A (eval elt env) (fun x s₅=>wpAny (model prog w) A (call (.builtin "list.append") [acc,x]) (fun _ s₆=>∃ m,m<n∧I m s₆) (fun _ _=>False) s₅) (fun _ _=>False) s₄
      else ∃ m,m<n∧I m s₄) (fun _ _=>False) s₃) (fun _ _=>False) s₂) (fun _ _=>False) s₁) (fun _ _=>False) s)
  (n:Nat) (h:I n s):codeAny (model prog w) A (.compLoop (.ListComp elt [⟨target,iter,ifs,0⟩] scope pos) 0 it acc env) R s:=by
 refine codeAny_loop rfl I (fun n s hI=>?_) n h
 show wpAny _ A ((compTurn (.ListComp elt [⟨target,iter,ifs,0⟩] scope pos) 0 it acc env).onRaise (fun x=>do noteFrame x env;theTreesLotGoes x)) _ _ s
 refine wpAny_noted ?_
 rw[compTurn_list]
 refine wpAny_bind (wpAny_standAt (wpAny_bind (wpAny_mono (turn n s hI) (fun r s₁ h₁=>?_) fun _ _ h'=>h'.elim)))
 cases r with
 | none=>exact wpAny_pure h₁
 | some v =>
  refine wpAny_bind (wpAny_mono h₁ (fun _ s₂ h₂=>wpAny_bind (wpAny_mono h₂ (fun _ s₃ h₃=>wpAny_bind (wpAny_mono h₃ (fun ok s₄ h₄=>?_) fun _ _ h'=>h'.elim)) fun _ _ h'=>h'.elim)) fun _ _ h'=>h'.elim)
  cases ok with
  | false=>exact wpAny_pure ⟨rfl,h₄⟩
  | true=>exact wpAny_bind (wpAny_bind (wpAny_mono h₄ (fun x s₅ h₅=>wpAny_bind (wpAny_mono h₅ (fun _ s₆ h₆=>wpAny_pure (wpAny_pure ⟨rfl,h₆⟩)) fun _ _ h'=>h'.elim)) fun _ _ h'=>h'.elim))
end
section
variable {X:Cx} {N:List Str} {scope:Scope}
theorem GG{pins:List (Addr × Obj)}{σ:L2.St}{H:Hp}{s:Shared}{fp:List Addr}{h₁:Heap}{t:Nat}(cs:BY scope)(I:Inv X pins σ H s)(hf:∀ b∈fp,pR X pins H b)(hlt:∀ b∈fp,b<s.heap.objs.size)
  (hns:h₁.Ns s.heap.objs.size fun _=>none) (hk:∀ b o,s.heap.get? b=some o→h₁.get? b=some o) :
  Inv (Bf X N scope s.heap.objs.size s H fp (X.pn++pins)) [] (List.replicate N.length none) H { s with heap:=h₁,toks:=t }:=by
 have RX:∀ {x c},(Bf X N scope s.heap.objs.size s H fp (X.pn++pins)).env.cells.lookup x=some c→False:=fun {x c} e=>by
  have e':(none:Option Addr)=some c:=e
  cases e'
 refine⟨⟨I.ok.mod,cs.kind,I.ok.glob,I.ok.blt,jj _,fun x y c e _=>(RX e).elim,fun x hx=>?_,fun x c _ e=>(RX e).elim,I.ok.hd,I.ok.frames,.inl rfl,fun b hb=>⟨Nat.ne_of_lt (hlt b hb),fun x c e=>(RX e).elim⟩,I.bs,lO I.ok.Kh I.sz,fun b o e hb=>?_,fun b hb z=>?_,I.stack,I.sU⟩,
  rfl,I.bare,Un.kept hk,⟨_,hns,fun i x v e1 e2 _=>?_⟩,fun x c e=>(RX e).elim,I.hok.fresh (jj _),fun x c e=>(RX e).elim,fun p hp=>?_,I.hok.kept hk,by rw[rP];rfl⟩
 ·have hx':scope.names.lookup x=some .cell∨scope.names.lookup x=some .free:=hx
  rcases hx' with z|z
  ·exact absurd rfl (cs.cell _ (PySem.mem_of_lookup z))
  ·exact absurd rfl (cs.free _ (PySem.mem_of_lookup z))
 ·rcases (hf b hb).2.2.2.1 with z|z
  ·exact I.ok.Eh b o e z
  ·exact absurd (qE (Heap.lt_size (I.ok.bs b o e).1) z) (Nat.lt_irrefl _)
 ·rcases List.mem_cons.mp (I.qF b z) with e|e
  ·exact (hf b hb).2.1 e
  ·exact (hf b hb).2.2.1 e
 ·rw[List.getElem?_replicate]at e2
  split at e2 <;> cases e2
 ·have J7:p∈X.pn++pins:=by
   have z:p∈(X.pn++pins)++[]:=hp
   simpa using z
  obtain⟨e,n,nl,nf,d⟩:=I.pin p J7
  refine⟨hk _ _ e,n,kO (Heap.lt_size e),fun z=>?_,d⟩
  rcases List.mem_cons.mp (I.qF p.1 z) with e|e
  ·exact nl e
  ·exact nf e
theorem K1{pins:List (Addr × Obj)}{σ σ':L2.St}{H H':Hp}{s s':Shared}{fp:List Addr}{h':Heap}(I:Inv X pins σ H s)(hf:∀ b∈fp,pR X pins H b)(J:Inv (Bf X N scope s.heap.objs.size s H fp (X.pn++pins)) [] σ' H' s')
  (hs:Heap.SameBut s.heap.objs.size s'.heap h'):Inv X pins σ H' { s' with heap:=h' }:=by
 have I4:Inv X pins σ H' s':=I.BD (ch:=fp) J.os J.base J.hok J.bare fun b hb=>⟨(hf b hb).2.2.2.1,(hf b hb).2.1,(hf b hb).2.2.2.2.1,(hf b hb).2.2.2.2.2⟩
 refine I4.turned (t':=s'.toks) (it:=s.heap.objs.size) (fun b o hb e=>hs.extBut _ _ hb e) J.free (Nat.ne_of_gt I.lt) (.inr I.sz) (fun x c e z=>?_) fun p hp z=>?_
 ·obtain⟨v,o,ho,_⟩:=I.cell x c e
  exact absurd (Heap.lt_size ho) (by rw[z];exact Nat.lt_irrefl _)
 ·exact absurd (Heap.lt_size (I.pin p hp).1) (by rw[z];exact Nat.lt_irrefl _)
def HZ(X:Cx)(ifs:List Expr)(t:TT):Prop :=
 ∀ (pins:List (Addr × Obj)) (s:Shared) (σ:L2.St) (H:Hp) (Q:Bool→Hp→Prop),Inv X pins σ H s→t σ H Q→wpAny (model X.prog X.w) X.A (sZ ifs X.env) (TP X pins σ Q) X.xe s
def Jl:TT:=fun _ H Q=>Q true H
theorem nE:HZ X [] Jl:=fun pins s σ H Q I h=>wpAny_tests_nil ⟨H,I,h⟩
theorem Ia{c:Expr}{t:TT}(h:PT X c t):HZ X [c] t:=fun pins s σ H Q I q=>wpAny_tests_one (h pins s σ H Q I q)
def K2(J:It)(acc:Addr)(g:TG)(tt:TT)(te:TE)(n:Nat)(H:Hp)(Q:VK):Prop :=
 ∃ W:Nat→Nat→L2.St→Hp→Prop,(∃ m,W 0 m (List.replicate n none) H)∧∀ i m σ H,W i m σ H →
  (J.stop i H∧Q (.ref acc) H)∨(J.go i H∧∃ Nx:L2.St→Hp→Prop,(∀ σ' H',Nx σ' H'→∃ m',m'<m∧W (i+1) m' σ' H')∧∀ x H',J.Kn i H x H'→g x σ H' fun σ2 H2=>tt σ2 H2 fun b H3 =>
   if b=true then te σ2 H3 fun v H4=>∃ xs,H4 acc=some (.lst xs)∧xs.length<sizeLine∧Nx σ2 (upd H4 acc (.lst (xs++[v]))) else Nx σ2 H3)
def RY(n:Nat)(wi:TI)(g:TG)(tt:TT)(te:TE):TE:=fun σ H Q=>wi σ H fun J H1=>∀ acc,H1 acc=none→K2 J acc g tt te n (upd H1 acc (.lst [])) Q
theorem C4{elt tg iter:Expr}{ifs:List Expr}{pos:Pos}{wi:TI}{g:TG}{tt:TT}{te:TE}(cs:BY scope)(hc:X.calm=true)(hi:PI X tg iter wi)
  (hg:∀ C s₀ H₀ ex pn,PG (Bf X N scope C s₀ H₀ ex pn) tg g) (ht:∀ C s₀ H₀ ex pn,HZ (Bf X N scope C s₀ H₀ ex pn) ifs tt) (he:∀ C s₀ H₀ ex pn,PE (Bf X N scope C s₀ H₀ ex pn) elt te)
  (hs:∀ x,foldedSetIterable iter X.env x=pure x:=by intro _;rfl):PE X (.ListComp elt [⟨tg,iter,ifs,0⟩] scope pos) (RY N.length wi g tt te):=by
 intro pins s σ H Q I h
 refine wpAny_ListComp cs.free cs.kind cs.names (cE (hi pins s σ H _ I h) fun v s1 h1=>cE h1 fun itv s2 h2=>?_) hs
 obtain⟨it,fp,tn,J,H2,e,I2,T,st2,f2,q⟩:=h2
 subst e
 refine wpAny_newObj_type (hd:=by size_fits) ?_
 have hacc:H2 s2.heap.objs.size=none:=I2.hok.fresh (jj _)
 have I3:Inv X pins σ (upd H2 s2.heap.objs.size (.lst [])) { s2 with heap:=s2.heap.push { cls:=.type "list",data:=.seq ([]:List Value).toArray },toks:=s2.toks }:=I2.Kz (ys:=[]) .nil (Nat.zero_le _)
 have N9:∀ b∈fp,b<s2.heap.objs.size:=fun b hb=>by
  obtain⟨o,ho,_⟩:=T.obj _ _ st2 b hb
  exact Heap.lt_size ho
 have f3:∀ b∈fp,pR X pins (upd H2 s2.heap.objs.size (.lst [])) b:=fun b hb=>⟨by rw[aM (kO (N9 b hb))];exact (f2 b hb).1,(f2 b hb).2⟩
 have k3:∀ b o,s2.heap.get? b=some o→(s2.heap.push { cls:=.type "list",data:=.seq ([]:List Value).toArray }).get? b=some o:=fun b o e=>Heap.get?_push_of_some _ e
 have q3:=q _ hacc
 generalize RZ:({ s2 with heap:=s2.heap.push { cls:=.type "list",data:=.seq ([]:List Value).toArray },toks:=s2.toks }:Shared)=s3 at I3
 generalize hH3:upd H2 s2.heap.objs.size (.lst [])=H3 at I3 f3 q3
 have Oa:s3.heap=s2.heap.push { cls:=.type "list",data:=.seq ([]:List Value).toArray }:=by rw[← RZ]
 have EJ:∀ b∈fp,b<s3.heap.objs.size:=fun b hb=>by rw[Oa,Heap.size_push];exact Nat.lt_succ_of_lt (N9 b hb)
 have st3:tn 0 s3.heap:=T.keep _ _ _ st2 fun b _ o e=>by rw[Oa];exact k3 b o e
 show wpAny _ _ _ _ _ s3
 refine wpAny_newFunctionEnv cs.cell (fun y hy=>by simp at hy) (fun h₁ hns K3=>?_) cs.kind
 have kh:∀ b o,s3.heap.get? b=some o→h₁.get? b=some o:=fun b o e=>K3.extBut _ _ (kO (Heap.lt_size e)) (Heap.get?_push_of_some _ e)
 have J0:Inv (Bf X N scope s3.heap.objs.size s3 H3 fp (X.pn++pins)) [] (List.replicate N.length none) H3 { s3 with heap:=h₁,toks:=s3.toks+([]:List (Str × Value)).length }:=GG cs I3 f3 EJ hns kh
 have Ob:tn 0 h₁:=T.keep _ _ _ st3 fun b _ o e=>kh b o e
 obtain⟨W,⟨m0,w0⟩,turn⟩:=q3
 have qG:∀ {H':Hp},(∀ b∈fp,H' b=none)→∀ b∈fp,pR (Bf X N scope s3.heap.objs.size s3 H3 fp (X.pn++pins)) [] H' b:=fun hn b hb=>by
  refine⟨hn b hb,kO (EJ b hb),fun z=>?_,.inl hb,fun x c e=>?_,fun p hp=>?_⟩
  ·rcases List.mem_cons.mp (I3.qF b z) with e|e
   ·exact (f3 b hb).2.1 e
   ·exact (f3 b hb).2.2.1 e
  ·have e':(none:Option Addr)=some c:=e
   cases e'
  ·have J7:p∈X.pn++pins:=by
    have z:p∈(X.pn++pins)++[]:=hp
    simpa using z
   exact (f3 b hb).2.2.2.2.2 p J7
 have loop:∀ s5:Shared,s5={ s3 with heap:=h₁,toks:=s3.toks+([]:List (Str × Value)).length }→codeAny (model X.prog X.w) X.A (.compLoop (.ListComp elt [⟨tg,iter,ifs,0⟩] scope pos) 0 (.ref it) (.ref s2.heap.objs.size) (Bf X N scope s3.heap.objs.size s3 H3 fp (X.pn++pins)).env)
   (fun r s'=>∃ m,s'.heap.Ns s3.heap.objs.size m∧∀ h',Heap.SameBut s3.heap.objs.size s'.heap h'→match r with
    | .ok _=>EP X pins σ Q (.ref s2.heap.objs.size) { s' with heap:=h' }
    | .error x=>wpAny (model X.prog X.w) X.A (passOn "comprehension.variables-let-go" x (Bf X N scope s3.heap.objs.size s3 H3 fp (X.pn++pins)).env) (EP X pins σ Q) X.xe { s' with heap:=h' }) s5:=by
  rintro s5 rfl
  refine BZ (fun n s'=>∃ i σ' H',Inv (Bf X N scope s3.heap.objs.size s3 H3 fp (X.pn++pins)) [] σ' H' s'∧tn i s'.heap∧(∀ b∈fp,H' b=none)∧W i n σ' H') ?_ m0 ⟨0,_,H3,J0,Ob,fun b hb=>(f3 b hb).1,w0⟩
  rintro n s6 ⟨i,σ6,H6,I6,K4,Jm,w6⟩
  rcases turn i n σ6 H6 w6 with ⟨stop,qn⟩|⟨go,Nx,hN,step⟩
  ·refine cE (T.done (Bf X N scope s3.heap.objs.size s3 H3 fp (X.pn++pins)) rfl rfl rfl hc i [] s6 σ6 H6 _ I6 (qG Jm) K4 stop) fun r s7 ⟨hr,I7⟩=>?_
   subst hr
   obtain⟨m,hm,_⟩:=I7.loc
   exact⟨m,hm,fun h' aco=>⟨.ref s2.heap.objs.size,H6,K1 I3 f3 I7 aco,rfl,qn⟩⟩
  ·refine cE (T.item (Bf X N scope s3.heap.objs.size s3 H3 fp (X.pn++pins)) rfl rfl rfl hc i [] s6 σ6 H6 _ I6 (qG Jm) K4 go) fun r s7 ⟨u,hr,h7⟩=>?_
   subst hr
   refine cE h7 fun _ s8 ⟨x,H8,I8,r8,y8,GH,Jo⟩=>?_
   have Pz:=I8.pinned (qG Jo) (T.obj _ _ GH)
   refine cE (hg _ _ _ _ _ _ s8 σ6 H8 x u _ Pz r8 (step x H8 y8)) fun _ s9 ⟨σ9,H9,I9,q9⟩=>?_
   refine cE (ht _ _ _ _ _ _ s9 σ9 H9 _ I9 q9) fun ok Me ⟨Bg,K5,yy⟩=>?_
   have again:∀ {σ7:L2.St} {H7:Hp} {nO:Shared},Inv (Bf X N scope s3.heap.objs.size s3 H3 fp (X.pn++pins)) ([]++rY fp s8.heap) σ7 H7 nO→Nx σ7 H7→∃ m,m<n∧∃ i σ' H',Inv (Bf X N scope s3.heap.objs.size s3 H3 fp (X.pn++pins)) [] σ' H' nO∧tn i nO.heap∧(∀ b∈fp,H' b=none)∧W i m σ' H':=fun {σ7 H7 nO} I7 n7=>by
    obtain⟨m',hm,w7⟩:=hN σ7 H7 n7
    refine⟨m',hm,i+1,σ7,H7,I7.nU,T.keep _ _ _ GH fun b hb o e=>(I7.pin (b,o) (oY _ (oY _ (ig hb e)))).1,fun b hb=>?_,w7⟩
    obtain⟨o,e,d⟩:=T.obj _ _ GH b hb
    exact (I7.pin (b,o) (oY _ (oY _ (ig hb e)))).2.1
   cases ok with
   | false =>
    rw[if_neg uo]at yy
    exact again K5 yy
   | true =>
    rw[if_pos rfl]at yy
    refine cE (he _ _ _ _ _ _ Me σ9 Bg _ K5 yy) fun v nO ⟨y,EK,R0,Sb,xs,hx,hz,Sd⟩=>?_
    refine cE (dF _ nO σ9 EK (.ref s2.heap.objs.size) [y] (.ref s2.heap.objs.size) [v] (fun _ H'=>Nx σ9 H') R0 rfl (.cons Sb .nil) ⟨_,xs,y,rfl,rfl,hx,hz,Sd⟩) fun _ s12 ⟨_,Ib,Se,_,MQ⟩=>?_
    exact again Se MQ
 exact codeAny_compStart_list (loop _ rfl) (T.self _ _ _ _ _ Ob (loop _ rfl))
theorem xh{K:PySem.W.Frag}{a acc:Addr}{xs:List V}{g:TG}{tt:TT}{te:TE}{n:Nat}{H:Hp}{Q:VK}(Pv:Nat→L2.St→Hp→Prop)(h0:Pv 0 (List.replicate n none) H)(hl:∀ i σ H,i≤xs.length→Pv i σ H→b8 K H a xs)
  (hs:∀ i x σ H,xs[i]?=some x→Pv i σ H→g x σ H fun σ2 H2=>tt σ2 H2 fun b H3=>if b=true then te σ2 H3 fun v H4=>∃ ys,H4 acc=some (.lst ys)∧ys.length<sizeLine∧Pv (i+1) σ2 (upd H4 acc (.lst (ys++[v]))) else Pv (i+1) σ2 H3)
  (hd:∀ σ H,Pv xs.length σ H→Q (.ref acc) H):K2 (Kp K a) acc g tt te n H Q:=by
 refine⟨fun i m σ H=>m=xs.length-i∧i≤xs.length∧Pv i σ H,⟨xs.length,by simp,Nat.zero_le _,h0⟩,?_⟩
 rintro i m σ H ⟨rfl,hi,p⟩
 have q:=hl i σ H hi p
 by_cases hlt:i<xs.length
 ·refine .inr ⟨⟨xs,xs[i],q,by simp[hlt]⟩,Pv (i+1),fun σ' H' p'=>⟨xs.length-(i+1),by omega,rfl,hlt,p'⟩,fun x H' y=>?_⟩
  obtain⟨e,y⟩:=y
  subst e
  exact hs i x σ _ (y xs q) p
 ·have e:i=xs.length:=by omega
  subst e
  exact .inl ⟨⟨xs,q,jj _⟩,hd σ H p⟩
end
end cX
namespace cX
open PySem PySem.Spec PyProof.Rows L2
end cX
namespace cX
open PySem PySem.Spec PyProof.Rows L2
section
variable {prog:Program} {w:World} {A:Around} {R:Result→Shared→Prop} {s:Shared}
theorem MR(elt tg iter rQ dm:Expr)(ifs kj:List Expr)(scope:Scope)(pos:Pos)(it acc:Value)(env:Env) :
  compTurn (.ListComp elt [⟨tg,iter,ifs,0⟩,⟨rQ,dm,kj,0⟩] scope pos) 1 it acc env=(do
   standAt dm.pos
   match ← pyNext it with
   | none=>pure (.done .next)
   | some v =>
    letOwnedTupleGo rQ it v
    assign rQ env v
    let ok ← sZ kj env
    if ok then (do let _ ← call (.builtin "list.append") [acc,← eval elt env])
    again (.compLoop (.ListComp elt [⟨tg,iter,ifs,0⟩,⟨rQ,dm,kj,0⟩] scope pos) 1 it acc env)):=by rfl
theorem K6(elt tg iter rQ dm:Expr)(ifs kj:List Expr)(scope:Scope)(pos:Pos)(it acc:Value)(env:Env) :
  compTurn (.ListComp elt [⟨tg,iter,ifs,0⟩,⟨rQ,dm,kj,0⟩] scope pos) 0 it acc env=(do
   standAt iter.pos
   match ← pyNext it with
   | none=>pure (.done .next)
   | some v =>
    letOwnedTupleGo tg it v
    assign tg env v
    let ok ← sZ ifs env
    if ok then
     let x ← eval dm env
     standAt dm.pos
     let x ← foldedSetIterable dm env x
     let _ ← runOwn (.compStart (.ListComp elt [⟨tg,iter,ifs,0⟩,⟨rQ,dm,kj,0⟩] scope pos) 1 (← holding [x] (pyIter x)) acc env) env
    again (.compLoop (.ListComp elt [⟨tg,iter,ifs,0⟩,⟨rQ,dm,kj,0⟩] scope pos) 0 it acc env)):=by rfl
theorem PB{elt tg iter rQ dm:Expr}{ifs kj:List Expr}{scope:Scope}{pos:Pos}{it acc:Value}{env:Env}(I:Nat→Shared→Prop)
  (turn:∀ n s,I n s→wpAny (model prog w) A (pyNext it) (fun r s₁=>match r with
   | none=>R (.ok .next) s₁
   | some v=>wpAny (model prog w) A (letOwnedTupleGo rQ it v) (fun _ s₂=>wpAny (model prog w) A (assign rQ env v) (fun _ s₃ =>
     wpAny (model prog w) A (sZ kj env) (fun ok s₄ =>
      if ok=true then wpAny (model prog w) A (eval elt env) (fun x s₅=>wpAny (model prog w) A (call (.builtin "list.append") [acc,x]) (fun _ s₆=>∃ m,m<n∧I m s₆) (fun _ _=>False) s₅) (fun _ _=>False) s₄
      else ∃ m,m<n∧I m s₄) (fun _ _=>False) s₃) (fun _ _=>False) s₂) (fun _ _=>False) s₁) (fun _ _=>False) s)
  (n:Nat) (h:I n s):codeAny (model prog w) A (.compLoop (.ListComp elt [⟨tg,iter,ifs,0⟩,⟨rQ,dm,kj,0⟩] scope pos) 1 it acc env) R s:=by
 refine codeAny_loop rfl I (fun n s hI=>?_) n h
 show wpAny _ A ((compTurn (.ListComp elt [⟨tg,iter,ifs,0⟩,⟨rQ,dm,kj,0⟩] scope pos) 1 it acc env).onRaise (fun x=>do noteFrame x env;theTreesLotGoes x)) _ _ s
 refine wpAny_noted ?_
 rw[MR]
 refine wpAny_bind (wpAny_standAt (wpAny_bind (wpAny_mono (turn n s hI) (fun r s₁ h₁=>?_) fun _ _ h'=>h'.elim)))
 cases r with
 | none=>exact wpAny_pure h₁
 | some v =>
  refine wpAny_bind (wpAny_mono h₁ (fun _ s₂ h₂=>wpAny_bind (wpAny_mono h₂ (fun _ s₃ h₃=>wpAny_bind (wpAny_mono h₃ (fun ok s₄ h₄=>?_) fun _ _ h'=>h'.elim)) fun _ _ h'=>h'.elim)) fun _ _ h'=>h'.elim)
  cases ok with
  | false=>exact wpAny_pure ⟨rfl,h₄⟩
  | true=>exact wpAny_bind (wpAny_bind (wpAny_mono h₄ (fun x s₅ h₅=>wpAny_bind (wpAny_mono h₅ (fun _ s₆ h₆=>wpAny_pure (wpAny_pure ⟨rfl,h₆⟩)) fun _ _ h'=>h'.elim)) fun _ _ h'=>h'.elim))
theorem MS{elt tg iter rQ dm:Expr}{ifs kj:List Expr}{scope:Scope}{pos:Pos}{it acc:Value}{env:Env}
  (h0:codeAny (model prog w) A (.compLoop (.ListComp elt [⟨tg,iter,ifs,0⟩,⟨rQ,dm,kj,0⟩] scope pos) 1 it acc env) R s)
  (h:wpAny (model prog w) A (pyIter it) (fun it' s'=>codeAny (model prog w) A (.compLoop (.ListComp elt [⟨tg,iter,ifs,0⟩,⟨rQ,dm,kj,0⟩] scope pos) 1 it' acc env) R s') (fun _ _=>False) s) :
  codeAny (model prog w) A (.compStart (.ListComp elt [⟨tg,iter,ifs,0⟩,⟨rQ,dm,kj,0⟩] scope pos) 1 it acc env) R s:=by
 refine codeAny_of_tree ?_
 show wpAny _ _ ((compStart (.ListComp elt [⟨tg,iter,ifs,0⟩,⟨rQ,dm,kj,0⟩] scope pos) 1 it acc env).onRaise (fun x=>do noteFrame x env;standAt theWindowsPlace)) _ _ s
 refine wpAny_notedAt ?_
 unfold compStart
 show wpAny _ _ (ask >>= _) _ _ s
 refine wpAny_bind (wpAny_askSetting (wpAny_ite ?_))
 split
 ·first
   | exact wpAny_bind (wpAny_pure (wpAny_pure (And.intro rfl h0)))
   | exact wpAny_pure (And.intro rfl h0)
 ·first
   | exact wpAny_bind (wpAny_rule (wpAny_bind (wpAny_standAt (wpAny_bind (wpAny_mono h (fun it' s' h'=>wpAny_pure (And.intro rfl h')) fun _ _ x=>x.elim)))))
   | (refine wpAny_bind (wpAny_rule ?_);show wpAny _ _ (standAt dm.pos >>= _) _ _ s;exact wpAny_bind (wpAny_standAt (wpAny_bind (wpAny_mono h (fun it' s' h'=>wpAny_pure (And.intro rfl h')) fun _ _ x=>x.elim))))
theorem MT{elt tg iter rQ dm:Expr}{ifs kj:List Expr}{scope:Scope}{pos:Pos}{it acc:Value}{env:Env}(I:Nat→Shared→Prop)
  (hs2:∀ x,foldedSetIterable dm env x=pure x)
  (turn:∀ n s,I n s→wpAny (model prog w) A (pyNext it) (fun r s₁=>match r with
   | none=>R (.ok .next) s₁
   | some v=>wpAny (model prog w) A (letOwnedTupleGo tg it v) (fun _ s₂=>wpAny (model prog w) A (assign tg env v) (fun _ s₃ =>
     wpAny (model prog w) A (sZ ifs env) (fun ok s₄ =>
      if ok=true then wpAny (model prog w) A (eval dm env) (fun x s₅=>wpAny (model prog w) A (pyIter x) (fun Sf s₆ =>
       codeAny (model prog w) A (.compStart (.ListComp elt [⟨tg,iter,ifs,0⟩,⟨rQ,dm,kj,0⟩] scope pos) 1 Sf acc env) (fun r s₇=>(∃ f,r=.ok f)∧∃ m,m<n∧I m s₇) s₆) (fun _ _=>False) s₅) (fun _ _=>False) s₄
      else ∃ m,m<n∧I m s₄) (fun _ _=>False) s₃) (fun _ _=>False) s₂) (fun _ _=>False) s₁) (fun _ _=>False) s)
  (n:Nat) (h:I n s):codeAny (model prog w) A (.compLoop (.ListComp elt [⟨tg,iter,ifs,0⟩,⟨rQ,dm,kj,0⟩] scope pos) 0 it acc env) R s:=by
 refine codeAny_loop rfl I (fun n s hI=>?_) n h
 show wpAny _ A ((compTurn (.ListComp elt [⟨tg,iter,ifs,0⟩,⟨rQ,dm,kj,0⟩] scope pos) 0 it acc env).onRaise (fun x=>do noteFrame x env;theTreesLotGoes x)) _ _ s
 refine wpAny_noted ?_
 rw[K6]
 refine wpAny_bind (wpAny_standAt (wpAny_bind (wpAny_mono (turn n s hI) (fun r s₁ h₁=>?_) fun _ _ h'=>h'.elim)))
 cases r with
 | none=>exact wpAny_pure h₁
 | some v =>
  refine wpAny_bind (wpAny_mono h₁ (fun _ s₂ h₂=>wpAny_bind (wpAny_mono h₂ (fun _ s₃ h₃=>wpAny_bind (wpAny_mono h₃ (fun ok s₄ h₄=>?_) fun _ _ h'=>h'.elim)) fun _ _ h'=>h'.elim)) fun _ _ h'=>h'.elim)
  cases ok with
  | false=>exact wpAny_pure ⟨rfl,h₄⟩
  | true =>
   refine wpAny_bind (wpAny_mono h₄ (fun x s₅ h₅=>wpAny_bind (wpAny_standAt (wpAny_bind (wpAny_of_eq (hs2 x) (wpAny_bind (wpAny_holding (wpAny_mono h₅ (fun Sf s₆ h₆=>?_) fun _ _ h'=>h'.elim))))))) fun _ _ h'=>h'.elim)
   refine wpAny_bind (wpAny_runOwn (codeAny_mono h₆ fun r s₇ ⟨⟨f,hf⟩,hm⟩=>?_))
   subst hf
   exact wpAny_pure ⟨rfl,hm⟩
end
section
variable {X:Cx} {N:List Str} {scope:Scope}
def GI(wi:TI)(acc:Addr)(g:TG)(tt:TT)(te:TE):L2.St→Hp→(L2.St→Hp→Prop)→Prop:=fun σ H Nx=>wi σ H fun J H1 =>
 ∃ W:Nat→Nat→L2.St→Hp→Prop,(∃ m,W 0 m σ H1)∧∀ i m σ H,W i m σ H →
  (J.stop i H∧Nx σ H)∨(J.go i H∧∃ N2:L2.St→Hp→Prop,(∀ σ' H',N2 σ' H'→∃ m',m'<m∧W (i+1) m' σ' H')∧∀ x H',J.Kn i H x H'→g x σ H' fun σ2 H2=>tt σ2 H2 fun b H3 =>
   if b=true then te σ2 H3 fun v H4=>∃ xs,H4 acc=some (.lst xs)∧xs.length<sizeLine∧N2 σ2 (upd H4 acc (.lst (xs++[v]))) else N2 σ2 H3)
theorem Jp{Y:Cx}{elt tg iter rQ dm:Expr}{ifs kj:List Expr}{pos:Pos}{GJ:TI}{g2:TG}{GK:TT}{te:TE}{acc:Addr}(hc:Y.calm=true)(hxe:Y.xe=fun _ _=>False)(hi:PI Y rQ dm GJ)(hg:PG Y rQ g2)(ht:HZ Y kj GK)(he:PE Y elt te)
  {pins:List (Addr × Obj)} {s:Shared} {σ:L2.St} {H:Hp} {Nx:L2.St→Hp→Prop} (I:Inv Y pins σ H s) (h:GI GJ acc g2 GK te σ H Nx) :
  wpAny (model Y.prog Y.w) Y.A (eval dm Y.env) (fun x s₅=>wpAny (model Y.prog Y.w) Y.A (pyIter x) (fun Sf s₆ =>
   codeAny (model Y.prog Y.w) Y.A (.compStart (.ListComp elt [⟨tg,iter,ifs,0⟩,⟨rQ,dm,kj,0⟩] scope pos) 1 Sf (.ref acc) Y.env) (fun r s₇=>(∃ f,r=.ok f)∧∃ σ' H',Inv Y pins σ' H' s₇∧Nx σ' H') s₆) (fun _ _=>False) s₅) (fun _ _=>False) s:=by
 have hi':=hi pins s σ H _ I h
 have hg':=hg
 have ht':=ht
 have he':=he
 unfold PG at hg'
 unfold HZ at ht'
 unfold PE at he'
 rw[hxe]at hi' hg' ht' he'
 refine cE hi' fun v s1 h1=>cE h1 fun itv s2 h2=>?_
 obtain⟨it,fp,tn,J,H2,e,I2,T,st2,f2,W,⟨m0,w0⟩,turn⟩:=h2
 subst e
 have qG:∀ {H':Hp},(∀ b∈fp,H' b=none)→∀ b∈fp,pR Y pins H' b:=fun hn b hb=>⟨hn b hb,(f2 b hb).2⟩
 have loop:codeAny (model Y.prog Y.w) Y.A (.compLoop (.ListComp elt [⟨tg,iter,ifs,0⟩,⟨rQ,dm,kj,0⟩] scope pos) 1 (.ref it) (.ref acc) Y.env) (fun r s₇=>(∃ f,r=.ok f)∧∃ σ' H',Inv Y pins σ' H' s₇∧Nx σ' H') s2:=by
  refine PB (fun n s'=>∃ i σ' H',Inv Y pins σ' H' s'∧tn i s'.heap∧(∀ b∈fp,H' b=none)∧W i n σ' H') ?_ m0 ⟨0,σ,H2,I2,st2,fun b hb=>(f2 b hb).1,w0⟩
  rintro n s6 ⟨i,σ6,H6,I6,K4,Jm,w6⟩
  rcases turn i n σ6 H6 w6 with ⟨stop,qn⟩|⟨go,N2,hN,step⟩
  ·refine cE (T.done Y rfl rfl rfl hc i pins s6 σ6 H6 _ I6 (qG Jm) K4 stop) fun r s7 ⟨hr,I7⟩=>?_
   subst hr
   exact⟨⟨_,rfl⟩,σ6,H6,I7,qn⟩
  ·refine cE (T.item Y rfl rfl rfl hc i pins s6 σ6 H6 _ I6 (qG Jm) K4 go) fun r s7 ⟨u,hr,h7⟩=>?_
   subst hr
   refine cE h7 fun _ s8 ⟨x,H8,I8,r8,y8,GH,Jo⟩=>?_
   have Pz:=I8.pinned (qG Jo) (T.obj _ _ GH)
   refine cE (hg' _ s8 σ6 H8 x u _ Pz r8 (step x H8 y8)) fun _ s9 ⟨σ9,H9,I9,q9⟩=>?_
   refine cE (ht' _ s9 σ9 H9 _ I9 q9) fun ok Me ⟨Bg,K5,yy⟩=>?_
   have again:∀ {σ7:L2.St} {H7:Hp} {nO:Shared},Inv Y (pins++rY fp s8.heap) σ7 H7 nO→N2 σ7 H7→∃ m,m<n∧∃ i σ' H',Inv Y pins σ' H' nO∧tn i nO.heap∧(∀ b∈fp,H' b=none)∧W i m σ' H':=fun {σ7 H7 nO} I7 n7=>by
    obtain⟨m',hm,w7⟩:=hN σ7 H7 n7
    refine⟨m',hm,i+1,σ7,H7,I7.nU,T.keep _ _ _ GH fun b hb o e=>(I7.pin (b,o) (oY _ (oY _ (ig hb e)))).1,fun b hb=>?_,w7⟩
    obtain⟨o,e,d⟩:=T.obj _ _ GH b hb
    exact (I7.pin (b,o) (oY _ (oY _ (ig hb e)))).2.1
   cases ok with
   | false =>
    rw[if_neg uo]at yy
    exact again K5 yy
   | true =>
    rw[if_pos rfl]at yy
    refine cE (he' _ Me σ9 Bg _ K5 yy) fun v nO ⟨y,EK,R0,Sb,xs,hx,hz,Sd⟩=>?_
    have ap:=dF _ nO σ9 EK (.ref acc) [y] (.ref acc) [v] (fun _ H'=>N2 σ9 H') R0 rfl (.cons Sb .nil) ⟨_,xs,y,rfl,rfl,hx,hz,Sd⟩
    rw[hxe]at ap
    exact cE ap fun _ s12 ⟨_,Ib,Se,_,MQ⟩=>again Se MQ
 exact MS loop (T.self _ _ _ _ _ st2 loop)
end
theorem Sg{i:Nat}{v:V}{σ:L2.St}{H:Hp}{Q:L2.St→Bool→Hp→Prop}(h:Q (σ.set i (some v)) true H):vH i v σ H (fun σ2 H2=>Jl σ2 H2 (Q σ2)):=h
theorem yes{σ:L2.St}{H:Hp}{Q:Bool→Hp→Prop}(h:Q true H):Jl σ H Q:=h
section
variable {X:Cx} {N:List Str} {scope:Scope} {C:Addr} {s₀:Shared} {H₀:Hp} {ex:List Addr} {pn:List (Addr × Obj)}
theorem Ic{es:List Expr}{k:Nat}{t:NV}{n:Nat}{pos:Pos}(hc:X.calm=true)(h:QN (Bf X N scope C s₀ H₀ ex pn) es t)
  (hn:(assignEach es (Bf X N scope C s₀ H₀ ex pn).env).length=n:=by rfl) (hst:(assignEach es (Bf X N scope C s₀ H₀ ex pn).env).findIdx? (·.1)=none:=by rfl):PG (Bf X N scope C s₀ H₀ ex pn) (.Tuple es k pos) (Mw X.K n t):=pQ (X:=Bf X N scope C s₀ H₀ ex pn) hc h hn hst
theorem Ie:Ud (Bf X N scope C s₀ H₀ ex pn) (Pg X.K):=gA
end
end cX
namespace jk
open PySem L2 cX
theorem grown{H0 H2:Hp}{q t:Addr}{bs:List Addr}{row:Row}{st en:Int}(hq0:H0 q=none)(s:aJ H0 H2)(hq2:H2 q=some (.lst (bs.map V.ref)))(hb:bu H2 bs row)(ht:H2 t=none) :
  (upd (upd H2 t (.tup [.int st,.int en])) q (.lst (bs.map V.ref++[.ref t]))) q=some (.lst ((bs++[t]).map V.ref)) ∧
  bu (upd (upd H2 t (.tup [.int st,.int en])) q (.lst (bs.map V.ref++[.ref t]))) (bs++[t]) (row++[(st,en)])∧aJ H0 (upd (upd H2 t (.tup [.int st,.int en])) q (.lst (bs.map V.ref++[.ref t]))):=by
 have PD:q≠t:=ay hq2 ht
 have s1:aJ H2 (upd H2 t (.tup [.int st,.int en])):=ak ht _
 refine⟨by rw[ah,qd];rfl,?_,dM hq0 (s.trans s1) (aN q _ _)⟩
 refine bu.snoc ((hb.same s1).keep (s1 _ _ hq2) (aN q _ _)) ?_
 show upd _ q _ t=_
 rw[aM PD.symm,ah]
theorem turned{H0 H2:Hp}{q t a:Addr}{bs:List Addr}{row:Row}{st en:Int}(hq0:H0 q=none)(s:aJ H0 H2)(hq2:H2 q=some (.lst (bs.map V.ref++[.ref a])))(hb:bu H2 bs row)(ht:H2 t=none) :
  (upd (upd H2 t (.tup [.int st,.int en])) q (.lst ((bs.map V.ref++[V.ref a]).set bs.length (V.ref t)))) q=some (.lst ((bs++[t]).map V.ref)) ∧
  bu (upd (upd H2 t (.tup [.int st,.int en])) q (.lst ((bs.map V.ref++[V.ref a]).set bs.length (V.ref t)))) (bs++[t]) (row++[(st,en)])∧aJ H0 (upd (upd H2 t (.tup [.int st,.int en])) q (.lst ((bs.map V.ref++[V.ref a]).set bs.length (V.ref t)))):=by
 have PD:q≠t:=ay hq2 ht
 have s1:aJ H2 (upd H2 t (.tup [.int st,.int en])):=ak ht _
 have e:(bs.map V.ref++[V.ref a]).set bs.length (V.ref t)=(bs++[t]).map V.ref:=by
  have z:=EI (bs.map V.ref) (V.ref a) (V.ref t)
  rw[dW]at z
  rw[z,qd];rfl
 rw[e]
 refine⟨ah,?_,dM hq0 (s.trans s1) (aN q _ _)⟩
 refine bu.snoc ((hb.same s1).keep (s1 _ _ hq2) (aN q _ _)) ?_
 show upd _ q _ t=_
 rw[aM PD.symm,ah]
theorem PF(bs:List Addr)(a:Addr):J6 (bs.map V.ref++[V.ref a]).length (-1)=some bs.length:=by
 rw[eT,dW,vD]
 exact EH _
theorem Jq{f:Row→Int × Int→Row}{row:Row}{i:Nat}{p:Int × Int}(h:row[i]?=some p):(row.take (i+1)).foldl f []=f ((row.take i).foldl f []) p:=foldl_take_succ f row [] i p h
theorem EL(row:Row):∀ t:Row,(row.foldl dO t).length≤t.length+row.length:=by
 induction row with
 | nil=>intro t;simp
 | cons p row ih =>
  intro t
  have h1:=ih (dO t p)
  have h2:(dO t p).length≤t.length+1:=by
   unfold dO
   split
   ·omega
   ·exact yg _ _ _
  rw[nR,pP]
  omega
theorem EM(ns:List Int):∀ t:Row,(ns.foldl (fun t n=>grow t n (n+1)) t).length≤t.length+ns.length:=by
 induction ns with
 | nil=>intro t;simp
 | cons n ns ih =>
  intro t
  have h1:=ih (grow t n (n+1))
  have h2:=yg t n (n+1)
  rw[nR,pP]
  omega
end jk
namespace jk
open PySem PySem.Spec PyProof.Rows L2 cX
inductive zN(vs:List V)(H:Hp)(Q:VK)(E:XK):Prop
 | mk (r:Addr) (row:Row) (_:vs=[.ref r]) (_:cL H r row) (_:row.length≤1000000) (_: ∀ H',aJ H H'→Q (.int (tot row)) H'):zN vs H Q E
end jk
namespace gu
open PySem PySem.Spec PyProof.Rows PySem.W L2
section
variable {P:Program} {w:World} {H H':Hp} {h h0 g:Heap} {a T:Addr} {C a0:Value} {o:HO}
theorem MU(x:gK P w H h a o):∃ u,h.get? a=some u:=by
 cases o with
 | lst xs=>obtain⟨_,_,_,_,e⟩:=x;exact⟨_,e⟩
 | tup xs=>obtain⟨_,_,_,_,e,_⟩:=x;exact⟨_,e⟩
 | dK kvs=>obtain⟨_,_,_,_,_,_,_,e,_⟩:=x;exact⟨_,e⟩
 | dT kvs=>obtain⟨_,_,_,_,_,_,_,e,_⟩:=x;exact⟨_,e⟩
 | set S n=>obtain⟨_,_,_,_,e,_⟩:=x;exact⟨_,e⟩
 | ins C dx fs=>obtain⟨_,_,_,e,_⟩:=x;exact⟨_,e⟩
 | own y=>exact x
 | xd fs=>obtain⟨_,⟨_,_,_,e,_⟩,_⟩:=x;exact⟨_,e⟩
 | Gf lo hi=>obtain⟨_,_,_,e⟩:=x;exact⟨_,e⟩
 | Gg ob u=>exact⟨_,x.1⟩
 | Mp ps=>exact⟨_,x⟩
 | met f y=>exact⟨_,x⟩
 | ext φ=>exact x.2.1
theorem Ig(x:rV P w H h){b:Addr}(e:h.get? b=none):H b=none:=by
 cases q:H b with
 | none=>rfl
 | some u =>
  obtain⟨z,hz⟩:=MU (x b u q)
  rw[e]at hz
  cases hz
theorem B0{l:List Addr}{b:Addr}(e:(hideAll h l).get? b=none):b∈l∨h.get? b=none:=by
 by_cases hb:b∈l
 ·exact .inl hb
 ·right
  cases q:h.get? b with
  | none=>rfl
  | some u=>rw[hideAll_get l q hb]at e;cases e
def Uo(h0:Heap)(H:Hp)(h:Heap)(a T:Addr)(C a0:Value):Prop :=
 (∃ oe vs oT ts,h.get? a=some oe∧(oe.cls=C∧vs[0]?=some a0)∧oe.data=.fields vs∧vs[1]?=some (.ref T)∧T≠a∧h.get? T=some oT∧oT.data=.fields ts∧ts[3]?=some .none)∧(H a=none∧H T=none)∧h0.get? a=none∧h0.get? T=none
theorem zO{fs hd:List Addr}{l':List Env}(u:Un fs [] H H' h0 h)(hok:rV P w H' h)(h1:∀ b o,h0.get? b=some o→b∉fs→b∉hd)(h2:∀ b∈hd,H' b=none)
  (h3:∀ b∈fs,∃ o,h.get? b=some o∧∀ vs,o.data≠.fields vs) (h4:∀ b∈hd,h0.get? b=none∨∃ o,h.get? b=some o∧∀ vs,o.data≠.fields vs)
  (ha:h0.get? a=none) (ha':H' a=none) (f:Heap.FlyingW (hideAll h hd) l' a C a0 g) (k:h.UpToSlots g) :
  Un fs [] H H' h0 g∧rV P w H' g∧∃ T,Uo h0 H' g a T C a0:=by
 have nil:∀ b:Addr,b∉([]:List Addr):=fun b=>List.not_mem_nil
 have kp:∀ b o,h.get? b=some o→b∉hd→g.get? b=some o:=fun b o e n=>f.1 b o (hideAll_get hd e n)
 refine⟨⟨fun b o e n hb _=>kp b o (u.keep b o e n hb (nil b)) (h1 b o e hb),fun b o e n hb _=>?_,fun b o e n _=>u.free b o e n (nil b),fun b o e _=>?_,u.tups,u.Ba,u.CP⟩,fun b o e=>?_,?_⟩
 ·obtain⟨sl,e1⟩:=u.slot b o e n hb (nil b)
  obtain⟨o',e2,nf⟩:=h3 b hb
  obtain⟨T7,e3⟩:=k b o' e2 nf
  rw[e1]at e2
  cases e2
  exact⟨T7,e3⟩
 ·by_cases hb:b∈fs
  ·obtain⟨o',e2,nf⟩:=h3 b hb
   obtain⟨T7,e3⟩:=k b o' e2 nf
   exact⟨_,e3⟩
  ·obtain⟨o',e1⟩:=u.there b o e (nil b)
   exact⟨o',kp b o' e1 (h1 b o e hb)⟩
 ·refine (hok b o e).stay (fun c v hc q=>kp c v q fun hm=>?_) (fun _ q=>q) fun _ _ q=>q
  have hn:=h2 c hm
  rcases hc with rfl|hc
  ·rw[e]at hn;cases hn
  ·rw[hc]at hn;cases hn
 ·obtain⟨_,_,_,oe,vs,T,oT,ts,e1,e2,e3,e4,e5,e6,e7,e8,e9⟩:=f
  refine⟨T,⟨oe,vs,oT,ts,e1,e2,e3,e4,e6,e7,e8,e9⟩,⟨ha',?_⟩,ha,?_⟩
  ·rcases B0 e5 with hm|hn
   ·exact h2 T hm
   ·exact Ig hok hn
  ·rcases B0 e5 with hm|hn
   ·rcases h4 T hm with z|⟨o,eo,nf⟩
    ·exact z
    ·obtain⟨sl,eg⟩:=k T o eo nf
     rw[e7]at eg
     cases eg
     exact absurd e8 (nf ts)
   ·cases q:h0.get? T with
    | none=>rfl
    | some o =>
     obtain⟨o',eo⟩:=u.there T o q (nil T)
     rw[hn]at eo
     cases eo
theorem zP{base:Heap}{l:List Env}(F:Uo h0 H h a T C a0)(S:h.FunFrames base l):Heap.FlyingW (hideAll h (a::T::frs l)) l a C a0 h:=by
 obtain⟨⟨oe,vs,oT,ts,e1,e2,e3,e4,e5,e6,e7,e8⟩,_,_⟩:=F
 refine⟨fun b o e=>of_hideAll _ e,hideAll_none _ (uL),funFrames_hide S fun env he b hb=>?_,oe,vs,T,oT,ts,e1,e2,e3,e4,?_,e5,e6,e7,e8⟩
 ·exact tY _ (tY _ (List.mem_filterMap.mpr ⟨env,he,hb⟩))
 ·exact hideAll_none _ (tY _ uL)
end
def iM(P:Program)(w:World):J5:=fun outer H s E e s'=>∃ a T C a0 H',e=.ref a∧(s'.os=s.os∧AllBare s'.gens)∧Un (frs outer) [] H H' s.heap s'.heap∧rV P w H' s'.heap∧Uo s.heap H' s'.heap a T C a0∧E C none H'
section
variable {X:Cx} {pins:List (Addr × Obj)} {σ:L2.St} {H H1:Hp} {s s':Shared} {a T:Addr} {C a0:Value}
theorem K9(hst:X.stack=X.env::X.outer)(hf:X.env.frame=some X.env.locals):frs X.stack=X.env.locals::X.fs:=by
 rw[hst]
 unfold frs
 rw[List.filterMap_cons,hf]
 rfl
theorem tw(I:Inv X pins σ H s):∀ b∈frs X.stack,∃ o,s.heap.get? b=some o∧∀ vs,o.data≠.fields vs:=fun b hb=>(I.stack.mem hb).2
theorem EN{l':List Env}{g:Heap}(I:Inv X pins σ H s)(os:s'.os=s.os)(bare:AllBare s'.gens)(u:Un (frs X.stack) [] H H1 s.heap s'.heap)(hok:rV X.prog X.w H1 s'.heap)(F:Uo s.heap H1 s'.heap a T C a0)
  (f:Heap.FlyingW (hideAll s'.heap (a::T::frs X.stack)) l' a C a0 g) (k:s'.heap.UpToSlots g):Inv X pins σ H1 { s' with heap:=g }:=by
 have I1:Inv X pins σ H1 s':=I.BD (ch:=[]) os u hok bare (fun b z=>absurd z (by simp))
 obtain⟨_,⟨na,nT⟩,sa,sT⟩:=id F
 have p1:∀ b o,s.heap.get? b=some o→b∉frs X.stack→b∉a::T::frs X.stack:=fun b o e hb hm=>by
  rcases List.mem_cons.mp hm with rfl|hm
  ·rw[sa]at e;cases e
  rcases List.mem_cons.mp hm with rfl|hm
  ·rw[sT]at e;cases e
  ·exact hb hm
 have p2:∀ b∈a::T::frs X.stack,H1 b=none:=fun b hm=>by
  rcases List.mem_cons.mp hm with rfl|hm
  ·exact na
  rcases List.mem_cons.mp hm with rfl|hm
  ·exact nT
  ·exact I1.sU b hm
 have p4:∀ b∈a::T::frs X.stack,s.heap.get? b=none∨∃ o,s'.heap.get? b=some o∧∀ vs,o.data≠.fields vs:=fun b hm=>by
  rcases List.mem_cons.mp hm with rfl|hm
  ·exact .inl sa
  rcases List.mem_cons.mp hm with rfl|hm
  ·exact .inl sT
  ·exact .inr (tw I1 b hm)
 obtain⟨u',Gz,_⟩:=zO (hd:=a::T::frs X.stack) u hok p1 p2 (tw I1) p4 sa na f k
 exact I.BD (s':={ s' with heap:=g }) (ch:=[]) os u' Gz bare (fun b z=>absurd z (by simp))
end
section
variable {P:Program} {w:World} {K:PySem.W.Frag} {mg:Str→Option Value} {base:Heap} {N:List Str} {qual:Str} {scope:Scope} {f:Addr} {cd:Value} {A:Around} {outer:List Env} {s:Shared} {H:Hp} {E:XK}
abbrev J8(P:Program)(w:World)(K:PySem.W.Frag)(mg:Str→Option Value)(base:Heap)(N:List Str)(qual:Str)(scope:Scope)(f:Addr)(cd:Value)(A:Around)(outer:List Env)(s:Shared)(H:Hp)(E:XK):Cx :=
 Gs (iM P w) P w K mg base N qual scope f cd A outer s H E
theorem fQ:Passes (iM P w) (J8 P w K mg base N qual scope f cd A outer s H E) E:=by
 intro pins σ H1 s1 e s' I h
 obtain⟨a,T,C,a0,H',rfl,⟨os,bare⟩,u,hok,F,q⟩:=h
 have I1:Inv (J8 P w K mg base N qual scope f cd A outer s H E) pins σ H' s':=I.BD (ch:=[]) os u hok bare (fun b z=>absurd z (by simp))
 obtain⟨_,⟨na,nT⟩,sa,sT⟩:=id F
 have old:∀ b,s1.heap.get? b=none→s.heap.get? b=none:=fun b e=>by
  cases z:s.heap.get? b with
  | none=>rfl
  | some o =>
   obtain⟨o',e'⟩:=I.base.there b o z (fun m=>absurd (show b∈([]:List Addr) from m) (by simp))
   rw[e]at e'
   cases e'
 refine wpAny_leaves_onW (base:=hideAll s'.heap (a::T::frs (J8 P w K mg base N qual scope f cd A outer s H E).stack)) I.ok.frames rfl (zP F I1.stack) fun g fl k=>?_
 have p1:∀ b o,s.heap.get? b=some o→b∉frs outer→b∉a::T::frs (J8 P w K mg base N qual scope f cd A outer s H E).stack:=fun b o e hb hm=>by
  rcases List.mem_cons.mp hm with rfl|hm
  ·rw[old b sa]at e;cases e
  rcases List.mem_cons.mp hm with rfl|hm
  ·rw[old b sT]at e;cases e
  ·rw[K9 rfl rfl]at hm
   rcases List.mem_cons.mp hm with rfl|hm
   ·exact absurd (Heap.lt_size e) (Nat.not_lt.mpr I.ok.above)
   ·exact hb hm
 have p2:∀ b∈a::T::frs (J8 P w K mg base N qual scope f cd A outer s H E).stack,H' b=none:=fun b hm=>by
  rcases List.mem_cons.mp hm with rfl|hm
  ·exact na
  rcases List.mem_cons.mp hm with rfl|hm
  ·exact nT
  ·exact I1.sU b hm
 have p4:∀ b∈a::T::frs (J8 P w K mg base N qual scope f cd A outer s H E).stack,s.heap.get? b=none∨∃ o,s'.heap.get? b=some o∧∀ vs,o.data≠.fields vs:=fun b hm=>by
  rcases List.mem_cons.mp hm with rfl|hm
  ·exact .inl (old b sa)
  rcases List.mem_cons.mp hm with rfl|hm
  ·exact .inl (old b sT)
  ·exact .inr (tw I1 b hm)
 obtain⟨u',Gz,T',F'⟩:=zO (h0:=s.heap) (fs:=frs outer) (hd:=a::T::frs (J8 P w K mg base N qual scope f cd A outer s H E).stack) I1.base hok p1 p2 (fun b hb=>(I1.t9.mem hb).2) p4 (old a sa) na fl k
 exact⟨a,T',C,a0,H',rfl,⟨I1.os,bare⟩,u',Gz,F',q⟩
def Raises(X:Cx)(E:XK):Prop:=∀ (pins:List (Addr × Obj)) (σ:L2.St) (H:Hp) (s:Shared) (h':Heap) (e:Addr) (C:Value) (args:List Value),Inv X pins σ H s→Heap.MadeExcOf s.heap h' e C args→E C none H→X.xe (.ref e) { s with heap:=h' }
theorem uR:Raises (J8 P w K mg base N qual scope f cd A outer s H E) E:=by
 intro pins σ H1 s1 h' e C args I M q
 have old:∀ b,s1.heap.get? b=none→s.heap.get? b=none:=fun b e=>by
  cases z:s.heap.get? b with
  | none=>rfl
  | some o =>
   obtain⟨o',e'⟩:=I.base.there b o z (fun m=>absurd (show b∈([]:List Addr) from m) (by simp))
   rw[e]at e'
   cases e'
 refine wpAny_leaves_madeW (base:=hideAll s1.heap (frs (J8 P w K mg base N qual scope f cd A outer s H E).stack)) (h:=s1.heap) I.ok.frames rfl (fun b o e=>of_hideAll _ e) (funFrames_hide I.stack fun env he b hb=>List.mem_filterMap.mpr ⟨env,he,hb⟩) M fun g t fl _ _ k=>?_
 have k1:s1.heap.UpToSlots g:=(Heap.UpToSlots.of_keeps M.keeps).trans k
 have p1:∀ b o,s.heap.get? b=some o→b∉frs outer→b∉frs (J8 P w K mg base N qual scope f cd A outer s H E).stack:=fun b o e hb hm=>by
  rw[K9 rfl rfl]at hm
  rcases List.mem_cons.mp hm with rfl|hm
  ·exact absurd (Heap.lt_size e) (Nat.not_lt.mpr I.ok.above)
  ·exact hb hm
 obtain⟨u',Gz,T',F'⟩:=zO (h0:=s.heap) (fs:=frs outer) (hd:=frs (J8 P w K mg base N qual scope f cd A outer s H E).stack) I.base I.hok p1 (fun b hm=>I.sU b hm) (fun b hb=>(I.t9.mem hb).2) (fun b hm=>.inr (tw I b hm)) (old e M.new) (Ig I.hok M.new) fl k1
 exact⟨e,T',C,.ref t,H1,rfl,⟨I.os,I.bare⟩,u',Gz,F',q⟩
theorem yX{x qual:Str}{st:Stmt}{f:Addr}{fd:FuncData}{N ps:List Str}{k:Nat}{sp:Sp}(F:iJ K x qual st f fd)(S:aL N ps (az st))(len:∀ vs H Q E,sp vs H Q E→vs.length=ps.length)
  (hbody:∀ (cdv:Value) (A:Around) (outer:List Env) (s:Shared) (H:Hp) (vs:List V) (Q:VK) (E:XK),j9 k (A.deeper (envOfC qual (az st) s.heap.objs.size f cdv))→sp vs H Q E →
   ∃ t,FZ (J8 P w K mg base N qual (az st) f cdv A outer s H E) (mw st) t∧t { nx:=fun _ H'=>Q .jc H',rt:=Q } (start N vs) H):aH P w K mg base (iM P w) (k+1) f fd ps sp:=by
 obtain⟨oc,od,kV,doc,pm,an,cdv,ct,osl,rfl,lk,hcd⟩:=F.ex
 exact N4 lk hcd S len fun A outer s H vs Q E hr Gu=>hbody cdv A outer s H vs Q E hr Gu
end
section
variable {X:Cx}
theorem MV{K:Frag}{h:Heap}{C:Addr}{bmB:List Value}{newId:String}{x:Str}{mg:Str→Option Value}(I:K.In h)(m:mg x=some (.ref C))(q:excIn K C bmB newId=true):OwnCls x C bmB newId mg h:=by
 refine⟨m,?_⟩
 unfold excIn at q
 split at q
 case h_2=>cases q
 rename_i dd cd sl ho
 split at q
 case h_2=>cases q
 rename_i c1 bm k0 k1 k2 k3 n k5 hm hs
 simp only[Bool.and_eq_true,beq_iff_eq,Bool.not_eq_true']at q
 obtain⟨⟨⟨⟨⟨e1,e2⟩,acq⟩,ht⟩,hno⟩,hni⟩:=q
 cases e1
 cases e2
 cases cd with
 | mk nm bs mro ns qn hd sn sub ab col del =>
  cases hm
  cases acq
  cases sl with
  | mk l =>
   have hs':l=[k0,k1,k2,k3,some (.builtin newId),k5]:=hs
   subst hs'
   exact⟨bm,ns,nm,qn,bs,hd,sn,sub,ab,col,dd,k0,k1,k2,k3,k5,_,I _ _ ho,.of_isNs (isNs_of_in I hno),nsMap_none_of_in I hno hni,tail_of_in I ht⟩
def PK(C:Addr)(E:XK)(t:TA):TS:=fun _ σ H=>t σ H fun vs H1=>vs.length≤sizeLine∧E (.ref C) none H1
theorem oj{E:XK}{x:Str}{C:Addr}{bmB:List Value}{newId initId B:String}{e:Expr}{es:List Expr}{t:TA}{np cpos pos:Pos}(FB:ExcBaseFacts B newId initId bmB)(hx:excIn X.K C bmB newId=true)(hm:X.mg x=some (.ref C))(hc:X.calm=true)(hr:Raises X E)
  (ha:PA X (e::es) t) (hg:Gl X x:=by rfl) (hdb:(x == ("__debug__":Str))=false:=by decide) (he:starEach (e::es) X.env=(false,eval e X.env)::starEach es X.env:=by rfl) (hpl:(backTo cpos (starEach es X.env)).any (·.1)=false:=by rfl) :
  PS X (.Raise (some (.Call (.Name x np) (e::es) [] cpos)) none pos) (PK C E t):=by
 intro pins s σ H D I h
 obtain⟨tl,Nd,c1,c2,c3,c4,c5,c6,c7,c8,c9,d0,d1,d2,d3,d5,mN,hC,hN,hni,T⟩:=(MV I.mod.QM hm hx).obj
 refine wpAny_Raise_call_subT (nm:=c1) (q:=c2) (N:=Nd) (bs:=c3) (hdct:=c4) (sn:=c5) (sub:=c6) (ab:=c7) (col:=c8) (dd:=c9) (k0:=d0) (k1:=d1) (k2:=d2) (k3:=d3) (k5:=d5) FB (T.hasType FB.hasBase) (I.ok.hd hc) (by rw[he];show (false || (backTo cpos (starEach es X.env)).any (·.1))=false;rw[hpl];rfl) hni (vG I hg hm ⟨rfl,?_⟩ hdb)
 rw[he]
 have hw:=ha cpos pins s σ H _ I h
 rw[he]at hw
 refine Calls.evalArgs_plain (cE hw fun us s1 ⟨vs,H1,I1,r,q1,q2⟩=>?_)
 exact⟨rfl,by rw[← r.length];exact q1,I1.bk _ _ hC,hN.keeps I1.bk,T.keeps I1.bk,fun h' e M=>hr pins σ H1 s1 h' e _ _ I1 M q2⟩
end
section
variable {X:Cx} {x:Str} {st:Stmt} {ps:List Str} {f:Addr} {fd:FuncData} {j k:Nat} {sp:Sp} {e:Expr} {es:List Expr} {t:TA} {p pos:Pos} {E:XK}
theorem qP(d:jk.aF X.K X.mg x st ps f fd)(G:aH X.prog X.w X.K X.mg X.base (iM X.prog X.w) k f fd ps sp)(hr:j9 j X.A)(hx:Passes (iM X.prog X.w) X E)
  (ha:PA X (e::es) t) (hjk:k≤j:=by first|decide|omega) (hg:Gl X x:=by rfl) (hdb:(x == ("__debug__":Str))=false:=by decide) (he:starEach (e::es) X.env=(false,eval e X.env)::starEach es X.env:=by rfl)
  (hpl:(backTo pos (starEach es X.env)).any (·.1)=false:=by rfl):PE X (.Call (.Name x p) (e::es) [] pos) (HK sp [] E t) :=
 CV G (hr.mono hjk) hg d.m d.F.kp d.b .nil hx ha hdb he hpl
end
abbrev PL(X:Cx)(a:Addr):Cx:={ X with A:=X.A.mark (some (.ref a)),calm:=false,xe:=fun _ _=>False }
section
variable {X:Cx} {pins:List (Addr × Obj)} {σ:L2.St} {H:Hp} {s:Shared} {a:Addr}
theorem okH(ok:X.Ok)(a:Addr):(PL X a).Ok :=
 { mod:=ok.mod,kind:=ok.kind,glob:=ok.glob,blt:=ok.blt,above:=ok.above,inj:=ok.inj,has:=ok.has,OT:=ok.OT,hd:=fun z=>(uo z).elim,frames:=ok.frames,stk:=ok.stk,T5:=ok.T5,bs:=ok.bs,Kh:=ok.Kh,Eh:=ok.Eh,IW:=ok.IW,t9:=ok.t9,Ms:=ok.Ms }
theorem inH(I:Inv X pins σ H s)(a:Addr):Inv (PL X a) pins σ H s:={ ok:=okH I.ok a,os:=I.os,bare:=I.bare,base:=I.base,loc:=I.loc,cell:=I.cell,free:=I.free,pA:=I.pA,pin:=I.pin,hok:=I.hok,len:=I.len }
theorem MW(ok:X.Ok)(I:Inv (PL X a) pins σ H s):Inv X pins σ H s:={ ok:=ok,os:=I.os,bare:=I.bare,base:=I.base,loc:=I.loc,cell:=I.cell,free:=I.free,pA:=I.pA,pin:=I.pin,hok:=I.hok,len:=I.len }
theorem spH(ok:X.Ok){D:Ends}{f:Flow}{s':Shared}(h:SP (PL X a) pins D f s'):SP X pins D f s':=by
 cases f with
 | next=>obtain⟨σ',H',I,q⟩:=h;exact⟨σ',H',MW ok I,q⟩
 | brk=>obtain⟨σ',H',I,q⟩:=h;exact⟨σ',H',MW ok I,q⟩
 | cont=>obtain⟨σ',H',I,q⟩:=h;exact⟨σ',H',MW ok I,q⟩
 | ret u=>obtain⟨v,σ',H',I,r,q⟩:=h;exact⟨v,σ',H',MW ok I,r,q⟩
variable {x y:Str} {st:Stmt} {ps:List Str} {f:Addr} {fd:FuncData} {j k:Nat} {sp:Sp} {e:Expr} {es:List Expr} {t:TA} {p pos pos1 pos2 ajs np hpos:Pos} {C Cy:Addr} {b0:Stmt} {suite:List Stmt} {tb:TS}
end
end gu
namespace gu
open PySem PySem.Spec PyProof.Rows L2
section
variable {X:Cx}
abbrev TJ:=L2.St→Hp→(Hp→Prop)→Prop
def PJ(X:Cx)(es:List Expr)(m:Nat)(t:TJ):Prop:=∀ (pins:List (Addr × Obj)) (s:Shared) (σ:L2.St) (H:Hp) (out:Str) (Q:Hp→Prop),L2.Inv X pins σ H s→t σ H Q→out.length+m≤1000000 →
 wpAny (model X.prog X.w) X.A (joinParts out (evalEach es X.env)) (fun u s'=>∃ x tk H',u=.str x tk∧L2.Inv X pins σ H' s'∧Q H') X.xe s
theorem uS:PJ X [] 0 (fun _ H Q=>Q H):=fun pins s σ H out Q I h hl =>
 joinParts_nil ⟨out,_,H,rfl,I.tok _,h⟩ (mJ (Nat.lt_of_le_of_lt hl (by decide)))
theorem yY{out y:Str}{m n:Nat}(h:out.length+(n+m)≤1000000)(hy:y.length≤n):(out++y).length≤sizeLine∧(out++y).length+m≤1000000:=by
 rw[PySem.strLen_append]
 refine⟨Nat.le_of_lt (Nat.lt_of_le_of_lt (show out.length+y.length≤1000000 by omega) (by decide)),by omega⟩
theorem lg{x:Str}{j:Nat}{pos:Pos}{es:List Expr}{m:Nat}{t:TJ}(h:PJ X es m t):PJ X (.Constant (.str x) j pos::es) (x.length+m) t:=by
 intro pins s σ H out Q I q hl
 refine joinParts_consE (joinParts_cons (Calls.Constant_str ?_))
 have z:=yY (y:=x) hl (jj _)
 exact⟨z.1,h pins _ σ H _ Q (I.tok _) q z.2⟩
theorem lW{e:Expr}{te:TE}{pos:Pos}{es:List Expr}{m:Nat}{t:TJ}(he:PE X e te)(h:PJ X es m t):PJ X (.FormattedValue e (-1) none pos::es) (1921+m) (fun σ H Q=>te σ H fun v H1=>∃ i:Int,v=.int i∧i.natAbs.log2<1920∧t σ H1 Q):=by
 intro pins s σ H out Q I q hl
 refine joinParts_consE (joinParts_cons (FormattedValue_plain (cE (he pins s σ H _ I q) fun v s1 ⟨x,H1,I1,r1,i,e1,hi,q1⟩=>?_)))
 subst e1
 obtain⟨tk,rfl⟩:=r1
 refine formatField_int_small hi ?_
 have z:=yY (y:=Str.ofString (toString i)) hl (int_text_len_1921 hi)
 exact⟨z.1,h pins _ σ H1 _ Q (I1.tok _) q1 z.2⟩
theorem qQ{v1 v2:Expr}{rest:List Expr}{pos:Pos}{m:Nat}{t:TJ}(h:PJ X (v1::v2::rest) m t)(hm:m≤1000000:=by decide +kernel):PE X (.JoinedStr (v1::v2::rest) pos) (fun σ H Q=>t σ H fun H1=>∀ x,Q (.str x) H1):=by
 intro pins s σ H Q I q
 refine JoinedStr_many (cE (h pins s σ H Str.empty _ I q (by show 0+m≤_;omega)) fun u s1 ⟨x,tk,H1,e,I1,q1⟩=>?_)
 subst e
 exact⟨.str x,H1,I1,⟨_,rfl⟩,q1 x⟩
def MX(r r' r2:R2)(ta tb tc td:TE):TT:=fun σ H Q=>ta σ H fun x H1=>tb σ H1 fun y H2=>r x y H2 fun z H3=>∃ k,z=.bl k ∧
 (if k=true then tc σ H3 fun u H4=>r' y u H4 fun z' H5=>∃ k',z'=.bl k'∧(if k'=true then td σ H5 fun v H6=>r2 u v H6 fun z2 H7=>∃ k2,z2=.bl k2∧Q k2 H7 else Q false H5) else Q false H3)
theorem Jr{op op' PM:CmpOp}{r r' r2:R2}{a b c d:Expr}{ta tb tc td:TE}{pos:Pos}(ho:vI X (compareOp op) r)(ho':vI X (compareOp op') r')(ho2:vI X (compareOp PM) r2)(ha:PE X a ta)(hb:PE X b tb)(hc:PE X c tc)(hd:PE X d td)
  (hm:lastMarks [op,op',PM] [b,c,d]=false:=by with_unfolding_all rfl):PT X (.Compare a [op,op',PM] [b,c,d] pos) (MX r r' r2 ta tb tc td):=by
 intro pins s σ H Q I h
 refine isTrue_chain (cE (ha pins s σ H _ I h) fun v s1 ⟨x,H1,I1,r1,q1⟩=>test_link (cE (hb pins s1 σ H1 _ I1 q1) fun u s2 ⟨y,H2,I2,r2',q2⟩ =>
  cE (ho pins s2 σ H2 x y v u _ I2 r1 r2' q2) fun z s3 ⟨z',H3,I3,r3,k,e,q3⟩=>?_)) hm
 subst e
 cases r3
 refine wpAny_truthy_bool ?_
 cases k with
 | false=>exact ite_ff ⟨H3,I3,q3⟩
 | true =>
  refine ite_tt (test_link (cE (hc pins s3 σ H3 _ I3 q3) fun v4 s4 ⟨x4,H4,I4,r4,q4⟩=>cE (ho' pins s4 σ H4 y x4 u v4 _ I4 r2' r4 q4) fun z5 s5 ⟨x5,H5,I5,r5,k5,e5,q5⟩=>?_))
  subst e5
  cases r5
  refine wpAny_truthy_bool ?_
  cases k5 with
  | false=>exact ite_ff ⟨H5,I5,q5⟩
  | true =>
   refine ite_tt (test_last (cE (hd pins s5 σ H5 _ I5 q5) fun v6 s6 ⟨x6,H6,I6,r6,q6⟩=>cE (ho2 pins s6 σ H6 x4 x6 v4 v6 _ I6 r4 r6 q6) fun z7 s7 ⟨x7,H7,I7,r7,k7,e7,q7⟩=>?_))
   subst e7
   cases r7
   exact wpAny_truthy_bool ⟨H7,I7,q7⟩
end
end gu
namespace jk
open PySem L2 cX gu
theorem bK{H H':Hp}{a:Addr}(s:aJ H H')(h:H' a=none):H a=none:=by
 cases q:H a with
 | none=>rfl
 | some o=>rw[s a o q]at h;cases h
def qe(i:Int):Prop:=-(10^60)<i∧i<10^60
theorem qe.log{i:Int}(h:qe i):i.natAbs.log2<1920:=by
 have h1:i.natAbs<2^1920:=by
  have:i.natAbs<10^60:=by
   obtain⟨a,b⟩:=h
   have e:((10:Int)^60)=(((10:Nat)^60:Nat):Int):=by norm_cast
   rw[e]at a b
   omega
  exact qE this (by decide +kernel)
 by_cases h0:i.natAbs=0
 ·rw[h0]
  decide
 ·exact (Nat.log2_lt h0).mpr h1
def La(a b h:Int)(p:Int × Int):Row:=if max (a-h) 0<min (b-h) (p.2-p.1) then [(p.1+max (a-h) 0,p.1+min (b-h) (p.2-p.1))] else []
def o7(a b:Int):Int→Row→Row
 | _,[]=>[]
 | h,p::r=>La a b h p++o7 a b (h+(p.2-p.1)) r
theorem EO(a b:Int)(p:Int × Int):∀ (r:Row) (c:Int),o7 a b c (r++[p])=o7 a b c r++La a b (c+tot r) p
 | [],c=>by simp[o7,MN]
 | q::r,c=>by
  have e:c+(q.2-q.1)+tot r=c+tot (q::r):=by rw[EF];omega
  rw[List.cons_append,o7,EO a b p r,o7,e,oZ]
theorem PN(a b h:Int)(p:Int × Int):(La a b h p).length≤1:=by
 unfold La
 split <;> simp
theorem pV(a b:Int):∀ (r:Row) (c:Int),(o7 a b c r).length≤r.length
 | [],_=>jj _
 | q::r,c=>by
  have ih:=pV a b r (c+(q.2-q.1))
  have z:=PN a b c q
  rw[o7,eT,pP]
  omega
theorem Lb(a b h:Int)(p:Int × Int):∀ q∈La a b h p,q.1≤q.2:=by
 unfold La
 split
 ·intro q hq
  simp only[List.mem_singleton]at hq
  subst hq
  simp only
  omega
 ·intro q hq
  cases hq
theorem C5(a b:Int):∀ (r:Row) (c:Int),∀ q∈o7 a b c r,q.1≤q.2
 | [],_=>fun q hq=>by cases hq
 | p::r,c=>fun q hq=>by
  rw[o7]at hq
  rcases List.mem_append.mp hq with z|z
  ·exact Lb a b c p q z
  ·exact C5 a b r _ q z
theorem ER(s:Int):∀ (n k:Nat),(run s n).drop k=run (s+k) (n-k)
 | n,0=>by simp
 | 0,k+1=>by simp[run]
 | n+1,k+1=>by
  rw[run,List.drop_succ_cons,ER (s+1) n k]
  have e1:s+1+(k:Int)=s+((k+1:Nat):Int):=by omega
  have e2:n+1-(k+1)=n-k:=by omega
  rw[e1,e2]
theorem ES(s:Int):∀ (n k:Nat),(run s n).take k=run s (min k n)
 | n,0=>by simp[run]
 | 0,k+1=>by simp[run]
 | n+1,k+1=>by
  rw[run,List.take_succ_cons,ES (s+1) n k]
  have e2:min (k+1) (n+1)=min k n+1:=by omega
  rw[e2,run]
theorem Js(a b h:Int)(p:Int × Int)(hp:p.1≤p.2):bT (La a b h p)=((span p).take (b-h).toNat).drop (a-h).toNat:=by
 obtain⟨s,e⟩:=p
 simp only at hp
 unfold La span
 simp only
 rw[ES,ER]
 split
 ·rename_i hc
  rw[jd,span]
  simp only
  congr 1
  ·omega
  ·omega
 ·rename_i hc
  have z:min (b-h).toNat (e-s).toNat-(a-h).toNat=0:=by omega
  rw[z]
  rfl
theorem tE(a b:Int):∀ (r:Row) (h:Int),(∀ p∈r,p.1≤p.2)→bT (o7 a b h r)=((bT r).take (b-h).toNat).drop (a-h).toNat
 | [],h,_=>by simp[o7,bT]
 | p::r,h,ok=>by
  have hp:=ok p (uL ..)
  have ih:=tE a b r (h+(p.2-p.1)) fun q hq=>ok q (tY _ hq)
  have e:bT (p::r)=span p++bT r:=rfl
  have hl:=yh p hp
  rw[o7,di,Js a b h p hp,ih,e,List.take_append,List.drop_append,o6]
  congr 1
  have e1:(b-(h+(p.2-p.1))).toNat=(b-h).toNat-(span p).length:=by omega
  rw[e1]
  by_cases hb:(span p).length≤(b-h).toNat
  ·have e2:(a-(h+(p.2-p.1))).toNat=(a-h).toNat-min (b-h).toNat (span p).length:=by omega
   rw[e2]
  ·have e3:(b-h).toNat-(span p).length=0:=by omega
   rw[e3]
   simp
def Lc(a b t:Int):Prop:=0≤a∧a≤b∧b≤t
inductive vQ(C:Addr)(vs:List V)(H:Hp)(Q:VK)(E:XK):Prop
 | mk (r:Addr) (row:Row) (a b:Int) (_:vs=[.ref r,.int a,.int b]) (_:cL H r row) (_:row.length≤1000000) (_:qe a) (_:qe b) (_:qe (tot row)) (_:(Lc a b (tot row)→∀ H',aJ H H'→Q .jc H')) (_:(¬ Lc a b (tot row)→∀ H',aJ H H'→E (.ref C) none H')):vQ C vs H Q E
inductive vR(vs:List V)(H:Hp)(Q:VK)(E:XK):Prop
 | mk (r:Addr) (row:Row) (a b:Int) (_:vs=[.ref r,.int a,.int b]) (_:cL H r row) (_:row.length≤1000000) (_ :
 ∀ (q:Addr) (H':Hp),cL H' q (o7 a b 0 row)→aJ H H'→H q=none→Q (.ref q) H'):vR vs H Q E
structure ExcAt(K:PySem.W.Frag)(mg:Str→Option Value)(C:Addr):Prop where
 m:mg "OutOfPlace"=some (.ref C)
 x:PySem.W.excIn K C [.type "ValueError",.type "Exception",.type "BaseException",.type "object"] "ValueError.__new__"=true
 h:PySem.W.exmOne K (.ref C) (.ref C)=some true
end jk
namespace jk
open PySem L2 cX gu
theorem qq{P:Program}{w:World}{X:Cx}:Passes (iM P w) X (fun _ _ _=>False):=fun _ _ _ _ _ _ _ h=>by
 obtain⟨_,_,_,_,_,_,_,_,_,_,z⟩:=h
 exact z.elim
theorem Ld(as:List Addr){k:Int}(h:0≤k):qI (as.map V.ref) none (some k)=(as.take k.toNat).map V.ref:=by
 unfold qI
 have e1:HT.jN (as.map V.ref).length 0 none=0:=rfl
 have e2:HT.jN (as.map V.ref).length (as.map V.ref).length (some k)=min k.toNat as.length:=by
  show (if k<0 then (k+((as.map V.ref).length:Int)).toNat else min k.toNat (as.map V.ref).length)=_
  rw[if_neg (by omega),dW]
 rw[e1,e2,List.drop_zero,Nat.sub_zero,List.map_take]
 rcases Nat.le_total k.toNat as.length with z|z
 ·rw[Nat.min_eq_left z]
 ·rw[Nat.min_eq_right z,yu (by simp),yu (by rw[dW];exact z)]
end jk
namespace jk
open PySem L2 cX gu
theorem sD(r:Row)(ok:∀ p∈r,p.1≤p.2):bT (cF r)=bT r:=by rw[EE r ok,kG]
theorem zQ(a b:Int)(row:Row)(ok:∀ p∈row,p.1≤p.2):bT (cF (o7 a b 0 row))=((bT row).take b.toNat).drop a.toNat:=by
 rw[sD _ (C5 a b row 0),tE a b row 0 ok,Int.sub_zero,Int.sub_zero]
theorem run_get(s:Int):∀ (n k:Nat),k<n→(run s n)[k]?=some (s+k)
 | 0,k,h=>by omega
 | n+1,0,_=>by simp[run]
 | n+1,k+1,h=>by
  rw[run,List.getElem?_cons_succ,run_get (s+1) n k (by omega)]
  congr 1
  omega
theorem tF(r:Row):(cF r).length≤r.length:=by
 have z:=EL r []
 simpa [cF] using z
end jk
namespace jk
open PySem PySem.Spec PyProof.Rows L2 cX gu
theorem bu.append{H:Hp}:∀ {as bs:List Addr} {r q:Row},bu H as r→bu H bs q→bu H (as++bs) (r++q)
 | _,_,_,_,.nil,t=>t
 | _,_,_,_,.cons e r,t=>.cons e (bu.append r t)
theorem PR{r q:Row}(h:∀ p∈r,p.1≤p.2)(g:∀ p∈q,p.1≤p.2):∀ p∈r++q,p.1≤p.2:=fun p hp=>(List.mem_append.mp hp).elim (h p) (g p)
end jk
namespace L2
open PySem PySem.Spec PyProof.Rows
section
variable {κ:Type} [DecidableEq κ]
def cP(kvs:List (κ × V))(k:κ):Option V:=(kvs.find? fun kv=>decide (kv.1=k)).map (·.2)
def putK(kvs:List (κ × V))(k:κ)(v:V):List (κ × V) :=
 if (kvs.any fun kv=>decide (kv.1=k))=true then kvs.map (fun kv=>if kv.1=k then (kv.1,v) else kv) else kvs++[(k,v)]
theorem ju{p:κ × V}{r:List (κ × V)}{k:κ}(e:p.1=k):cP (p::r) k=some p.2:=by simp[cP,List.find?_cons,e]
theorem jv{p:κ × V}{r:List (κ × V)}{k:κ}(e:¬ p.1=k):cP (p::r) k=cP r k:=by simp[cP,List.find?_cons,e]
theorem om(k:κ):∀ kvs:List (κ × V),(kvs.any fun kv=>decide (kv.1=k))=(cP kvs k).isSome
 | []=>rfl
 | p::r=>by
  rw[List.any_cons]
  by_cases e:p.1=k
  ·simp only[ju e,decide_eq_true e,Bool.true_or,Option.isSome_some]
  ·rw[jv e,decide_eq_false e,Bool.false_or];exact om k r
theorem ET(k j:κ)(y:V):∀ kvs:List (κ × V),cP (kvs.map fun kv=>if kv.1=k then (kv.1,y) else kv) j=(cP kvs j).map fun x=>if j=k then y else x
 | []=>rfl
 | p::r=>by
  have ih:=ET k j y r
  rw[lS]
  by_cases h:p.1=k
  ·rw[if_pos h]
   by_cases e:p.1=j
   ·rw[ju (p:=(p.1,y)) e,ju e,Option.map_some,if_pos (e.symm.trans h)]
   ·rw[jv (p:=(p.1,y)) e,jv e,ih]
  ·rw[if_neg h]
   by_cases e:p.1=j
   ·rw[ju (p:=p) e,ju e,Option.map_some,if_neg (fun z=>h (e.trans z))]
   ·rw[jv (p:=p) e,jv e,ih]
theorem Ca(k j:κ)(y:V):∀ kvs:List (κ × V),cP kvs k=none→cP (kvs++[(k,y)]) j=if j=k then some y else cP kvs j
 | [],_=>by
  by_cases e:k=j
  ·rw[if_pos e.symm];exact ju (p:=(k,y)) e
  ·rw[if_neg (fun z=>e z.symm)];exact jv (p:=(k,y)) e
 | p::r,hn=>by
  rw[List.cons_append]
  have hk:¬ p.1=k:=fun z=>by rw[ju z]at hn;cases hn
  rw[jv hk]at hn
  have ih:=Ca k j y r hn
  by_cases e:p.1=j
  ·rw[ju e,ju e,if_neg (fun z=>hk (e.trans z))]
  ·rw[jv e,jv e,ih]
theorem mR(kvs:List (κ × V))(k j:κ)(y:V):cP (putK kvs k y) j=if j=k then some y else cP kvs j:=by
 unfold putK
 by_cases a:(kvs.any fun kv=>decide (kv.1=k))=true
 ·rw[if_pos a,ET]
  rw[om]at a
  by_cases e:j=k
  ·obtain⟨x,hx⟩:=Option.isSome_iff_exists.mp a
   rw[if_pos e,e,hx,Option.map_some,if_pos rfl]
  ·rw[if_neg e]
   cases cP kvs j with
   | none=>rfl
   | some x=>rw[Option.map_some,if_neg e]
 ·rw[if_neg a]
  refine Ca k j y kvs ?_
  rw[om]at a
  cases q:cP kvs k with
  | none=>rfl
  | some x=>rw[q]at a;exact (a rfl).elim
theorem kI(kvs:List (κ × V))(k:κ)(v:V):(putK kvs k v).length≤kvs.length+1:=by
 unfold putK
 split
 ·rw[dW];omega
 ·rw[eT,pP,List.length_nil];omega
theorem zR{kvs:List (κ × V)}{k:κ}(v:V)(h:cP kvs k=none):putK kvs k v=kvs++[(k,v)]:=by
 unfold putK
 rw[om,h]
 exact if_neg (by decide)
theorem tZ.xj{o:Option V}{u:Option Value}(r:tZ o u):o.isSome=u.isSome:=by
 cases o with
 | none=>cases u with
  | none=>rfl
  | some _=>exact (show False from r).elim
 | some _=>cases u with
  | none=>exact (show False from r).elim
  | some _=>rfl
theorem KV.val{kvs:List (κ × V)}{vs:List (κ × Value)}(r:KV kvs vs)(k:κ):tZ (cP kvs k) (valueAt vs k):=by
 unfold KV at r
 induction r with
 | nil=>exact True.intro
 | @cons p q ps qs h t ih =>
  obtain⟨h1,h2⟩:=h
  by_cases e:p.1=k
  ·have e':q.1=k:=h1.symm.trans e
   have b:valueAt (q::qs) k=some q.2:=by simp[valueAt,List.find?_cons,e']
   rw[ju e,b];exact h2
  ·have e':¬ q.1=k:=fun z=>e (h1.trans z)
   have b:valueAt (q::qs) k=valueAt qs k:=by simp[valueAt,List.find?_cons,e']
   rw[jv e,b];exact ih
theorem KV.any{kvs:List (κ × V)}{vs:List (κ × Value)}(r:KV kvs vs)(k:κ):(kvs.any fun kv=>decide (kv.1=k))=vs.any fun kv=>decide (kv.1=k):=by
 unfold KV at r
 induction r with
 | nil=>rfl
 | cons h t ih=>rw[List.any_cons,List.any_cons,ih,h.1]
theorem KV.repl{kvs:List (κ × V)}{vs:List (κ × Value)}(r:KV kvs vs)(k:κ){y:V}{u:Value}(ry:RelV y u) :
  KV (kvs.map fun kv=>if kv.1=k then (kv.1,y) else kv) (vs.map fun kv=>if kv.1=k then (kv.1,u) else kv):=by
 unfold KV at r ⊢
 induction r with
 | nil=>exact .nil
 | @cons p q ps qs h t ih =>
  rw[lS,lS]
  refine .cons ?_ ih
  obtain⟨h1,h2⟩:=h
  by_cases e:p.1=k
  ·rw[if_pos e,if_pos (h1.symm.trans e)];exact⟨h1,ry⟩
  ·rw[if_neg e,if_neg (fun z=>e (h1.trans z))];exact⟨h1,h2⟩
theorem KV.put{kvs:List (κ × V)}{vs:List (κ × Value)}(r:KV kvs vs)(k:κ){y:V}{u:Value}(ry:RelV y u):KV (putK kvs k y) (stored vs k u):=by
 unfold putK stored
 rw[r.any k]
 by_cases e:(vs.any fun kv=>decide (kv.1=k))=true
 ·rw[if_pos e,if_pos e];exact r.repl k ry
 ·rw[if_neg e,if_neg e];exact Paired.snoc r ⟨rfl,ry⟩
theorem KV.length{kvs:List (κ × V)}{vs:List (κ × Value)}(r:KV kvs vs):kvs.length=vs.length:=Paired.length r
end
theorem EU{P:Program}{w:World}{k:Key}{u:Value}(r:RelV (kV k) u):(iQ P w).is k u=true:=by
 cases k with
 | inl i=>obtain⟨t,e⟩:=(show ∃ t,u=Value.int i t from r);subst e;exact Ef P w i t
 | inr x=>obtain⟨t,e⟩:=(show ∃ t,u=Value.str x t from r);subst e;exact Eg P w x t
theorem Cb{P:Program}{w:World}:∀ {ks:List Key} {us:List Value},Vals (ks.map kV) us→ItemsAre (iQ P w) ks us
 | [],_,r=>by rw[List.map_nil]at r;cases r;exact .nil
 | k::ks,_,r=>by
  rw[lS]at r
  cases r with
  | cons h t=>exact .cons (EU h) (Cb t)
abbrev KT(H:Hp):List (List Key × V)→List (List Key × Addr × Value)→Prop:=Paired fun p q=>p.1=q.1∧H q.2.1=some (.tup (p.1.map kV))∧RelV p.2 q.2.2
theorem KT.val{H:Hp}{kvs:List (List Key × V)}{xs:List (List Key × Addr × Value)}(r:KT H kvs xs)(k:List Key):tZ (cP kvs k) ((atKey xs k).map (·.2)):=by
 induction r with
 | nil=>exact True.intro
 | @cons p q ps qs h t ih =>
  obtain⟨h1,_,h2⟩:=h
  by_cases e:p.1=k
  ·have e':q.1=k:=h1.symm.trans e
   have b:atKey (q::qs) k=some q.2:=by simp[atKey,List.find?_cons,e']
   rw[ju e,b];exact h2
  ·have e':¬ q.1=k:=fun z=>e (h1.trans z)
   have b:atKey (q::qs) k=atKey qs k:=by simp[atKey,List.find?_cons,e']
   rw[jv e,b];exact ih
theorem KT.repl{H:Hp}{kvs:List (List Key × V)}{xs:List (List Key × Addr × Value)}(r:KT H kvs xs)(k:List Key){y:V}{u:Value}(ry:RelV y u) :
  KT H (kvs.map fun kv=>if kv.1=k then (kv.1,y) else kv) (xs.map (putAt k u)):=by
 induction r with
 | nil=>exact .nil
 | @cons p q ps qs h t ih =>
  rw[lS,lS]
  refine .cons ?_ ih
  obtain⟨h1,h2,h3⟩:=h
  unfold putAt
  by_cases e:p.1=k
  ·rw[if_pos e,if_pos (h1.symm.trans e)];exact⟨h1,h2,ry⟩
  ·rw[if_neg e,if_neg (fun z=>e (h1.trans z))];exact⟨h1,h2,h3⟩
theorem KT.put{H:Hp}{kvs:List (List Key × V)}{xs:List (List Key × Addr × Value)}(r:KT H kvs xs)(k:List Key){b:Addr}{y:V}{u:Value}(hb:H b=some (.tup (k.map kV)))(ry:RelV y u) :
  KT H (putK kvs k y) (storedH xs k b u):=by
 have e:(kvs.any fun kv=>decide (kv.1=k))=(atKey xs k).isSome:=by
  rw[om,(r.val k).xj,Option.isSome_map]
 unfold putK storedH
 rw[e]
 by_cases q:(atKey xs k).isSome=true
 ·rw[if_pos q,if_pos q];exact r.repl k ry
 ·rw[if_neg q,if_neg q];exact Paired.snoc r ⟨rfl,hb,ry⟩
theorem KT.keeps{H H':Hp}{kvs:List (List Key × V)}{xs:List (List Key × Addr × Value)}(r:KT H kvs xs)(ht:∀ b ys,H b=some (.tup ys)→H' b=some (.tup ys)):KT H' kvs xs :=
 Paired.Mq r fun _ _ z=>⟨z.1,ht _ _ z.2.1,z.2.2⟩
section
variable {P:Program} {w:World} {H:Hp} {h:Heap} {a:Addr}
theorem Oc{u:HO}(ok:rV P w H h)(e:Rd H a u):gK P w H h a u:=e.ok ok
theorem EV{kvs:List (Key × V)}(ok:rV P w H h)(e:Rd H a (.dK kvs)):kvs.length≤sizeLine∧(a == sysModules)=false∧∃ vs,KV kvs vs∧h.DictOf (iQ P w) a vs :=
 show gK P w H h a (.dK kvs) from Oc ok e
theorem Od{kvs:List (Key × V)}(ok:rV P w H h)(e:H a=some (.dK kvs)):kvs.length≤sizeLine∧(a == sysModules)=false∧∃ vs,KV kvs vs∧h.DictOf (iQ P w) a vs:=EV ok (.inl e)
theorem C6{ks:List Key}(ok:rV P w H h)(e:H a=some (.tup (ks.map kV))):(tupleKind (iQ P w)).is h ks a:=by
 obtain⟨_,its,r,o,h1,h2,n,h3⟩:=(show gK P w H h a (.tup (ks.map kV)) from ok a _ e)
 exact⟨o,its.toArray,n,h1,h2,h3,by simpa using Cb r⟩
theorem EW{kvs:List (List Key × V)}(ok:rV P w H h)(e:Rd H a (.dT kvs)):kvs.length≤sizeLine∧(a == sysModules)=false ∧
  ∃ xs,KT H kvs xs∧h.DictOfH (tupleKind (iQ P w)) a xs:=by
 obtain⟨z,y,xs,r,o,es,ep,h1,h2,h3,h4,h5⟩:=(show gK P w H h a (.dT kvs) from Oc ok e)
 refine⟨z,y,xs,r,o,es,ep,h1,h2,h3,h4,fun x hx=>?_,h5⟩
 have all:∀ {l:List (List Key × V)} {m:List (List Key × Addr × Value)},KT H l m→∀ x∈m,(tupleKind (iQ P w)).is h x.1 x.2.1:=by
  intro l m q
  induction q with
  | nil=>intro x hx;exact nomatch hx
  | @cons p q ps qs hq t ih =>
   intro x hx
   rcases List.mem_cons.mp hx with e|hx
   ·subst e
    exact C6 ok (by rw[← hq.1];exact hq.2.1)
   ·exact ih x hx
 exact all r x hx
theorem Si{kvs:List (List Key × V)}(ok:rV P w H h)(e:H a=some (.dT kvs)):kvs.length≤sizeLine∧(a == sysModules)=false ∧
  ∃ xs,KT H kvs xs∧h.DictOfH (tupleKind (iQ P w)) a xs:=EW ok (.inl e)
end
def ua(H:Hp)(a:Addr)(y:V)(r:Option V):Prop :=
 (∃ kvs k,Rd H a (.dK kvs)∧y=kV k∧r=cP kvs k)∨∃ kvs k b,Rd H a (.dT kvs)∧y=.ref b∧H b=some (.tup (k.map kV))∧r=cP kvs k
def EX(H:Hp)(a:Addr)(y v:V)(H':Hp):Prop :=
 (∃ kvs k,H a=some (.dK kvs)∧y=kV k∧kvs.length<sizeLine∧H'=upd H a (.dK (putK kvs k v))) ∨
 ∃ kvs k b,H a=some (.dT kvs)∧y=.ref b∧H b=some (.tup (k.map kV))∧kvs.length<sizeLine∧H'=upd H a (.dT (putK kvs k v))
theorem ua.k{H:Hp}{a:Addr}{kvs:List (Key × V)}{k:Key}(e:H a=some (.dK kvs)):ua H a (kV k) (cP kvs k):=.inl ⟨kvs,k,.inl e,rfl,rfl⟩
theorem EX.k{H:Hp}{a:Addr}{kvs:List (Key × V)}{k:Key}{v:V}(e:H a=some (.dK kvs))(hl:kvs.length<sizeLine):EX H a (kV k) v (upd H a (.dK (putK kvs k v))):=.inl ⟨kvs,k,e,rfl,hl,rfl⟩
section
variable {X:Cx} {pins:List (Addr × Obj)} {σ:St} {H:Hp} {s:Shared} {a:Addr} {y v:V} {u r:Value} {o:Option V} {A:Around} {E:Value→Shared→Prop}
theorem Inv.big(I:Inv X pins σ H s):sysModules<s.heap.objs.size:=by
 have h:mainGlobals<s.heap.objs.size:=(I.mod.glob.keeps I.bk).lt
 exact Nat.lt_trans (by decide) h
theorem Jt{Q:Value→Shared→Prop}(hu:A.units+1<cLine)(I:Inv X pins σ H s)(g:ua H a y (some v))(ry:RelV y u)(h:∀ w' s',Inv X pins σ H s'→RelV v w'→Q w' s') :
  wpAny (model X.prog X.w) A (getItem (.ref a) u) Q E s:=by
 rcases g with ⟨kvs,k,e,ey,l⟩|⟨kvs,k,b,e,ey,eb,l⟩
 ·subst ey
  obtain⟨z,hd,vs,rel,dd⟩:=EV I.hok e
  obtain⟨w',hw,rw'⟩:=tZ.some_of (v:=v) (o:=valueAt vs k) (by rw[l];exact rel.val k)
  exact wpAny_getItem_of (EU ry) dd.mapOf hw (h w' _ (I.tok _) rw')
 ·subst ey
  cases (show u=Value.ref b from ry)
  obtain⟨z,hd,xs,rel,dd⟩:=EW I.hok e
  obtain⟨w',hw,rw'⟩:=tZ.some_of (v:=v) (o:=(atKey xs k).map (·.2)) (by rw[l];exact rel.val k)
  obtain⟨p,hp,hp2⟩:=Option.map_eq_some_iff.mp hw
  refine wpAny_getItem_heap (tupleKind_room_in1 hu) (C6 I.hok eb) dd hp ?_
  rw[hp2]
  exact h w' _ (I.tok _) rw'
theorem MY{Q:Value→Shared→Prop}(hu:A.units+1<cLine)(I:Inv X pins σ H s)(g:ua H a y o)(ry:RelV y u)(h:∀ s',Inv X pins σ H s'→Q (.bool (!o.isSome)) s') :
  wpAny (model X.prog X.w) A (compareOp .NotIn u (.ref a)) Q E s:=by
 rcases g with ⟨kvs,k,e,ey,l⟩|⟨kvs,k,b,e,ey,eb,l⟩
 ·subst ey
  obtain⟨z,hd,vs,rel,dd⟩:=EV I.hok e
  refine wpAny_notIn_of (EU ry) hd dd.mapOf ?_
  rw[← (rel.val k).xj,← l]
  exact h _ (I.tok _)
 ·subst ey
  cases (show u=Value.ref b from ry)
  obtain⟨z,hd,xs,rel,dd⟩:=EW I.hok e
  refine wpAny_notIn_heap (tupleKind_room_in1 hu) (C6 I.hok eb) hd dd ?_
  have q:=(rel.val k).xj
  rw[Option.isSome_map]at q
  rw[← q,← l]
  exact h _ (I.tok _)
theorem C7{h':Heap}{t':Nat}{ob:HO}(I:Inv X pins σ H s)(mu:Ri (H a))(hs:Heap.SameBut a s.heap h')(he:∃ q,h'.get? a=some q)(new:gK X.prog X.w (upd H a ob) h' a ob) :
  Inv X pins σ (upd H a ob) { s with heap:=h',toks:=t' } :=
 I.write (x:=a) (e:=a) mu (.inl rfl) (fun b q hb z=>(hs.2 b hb).trans z) he new
theorem Le{P:Program}{w:World}{H':Hp}{h':Heap}{kvs:List (Key × V)}{vs:List (Key × Value)}(z:kvs.length≤sizeLine)(hd:(a == sysModules)=false)(rel:KV kvs vs)(dd:h'.DictOf (iQ P w) a vs) :
  gK P w H' h' a (.dK kvs):=⟨z,hd,vs,rel,dd⟩
theorem Ju{H':Hp}{Q:Unit→Shared→Prop}(hu:A.units+1<cLine)(I:Inv X pins σ H s)(g:EX H a y v H')(ry:RelV y u)(rv:RelV v r)(h:∀ s',Inv X pins σ H' s'→Q () s') :
  wpAny (model X.prog X.w) A (setItem (.ref a) u r) Q E s:=by
 rcases g with ⟨kvs,k,e,ey,l,eH⟩|⟨kvs,k,b,e,ey,eb,l,eH⟩
 ·subst ey eH
  obtain⟨z,hd,vs,rel,dd⟩:=Od I.hok e
  have hz:vs.length≤sizeLine:=by rw[← rel.length];exact z
  have hl:(putK kvs k v).length≤sizeLine:=by have:=kI kvs k v;omega
  refine wpAny_setItem_pairs (hsz:=hz) (EU ry) dd fun h' PU hs=>h _ ?_
  have he:∃ q,h'.get? a=some q:=let ⟨q,_,_,hq,_⟩:=PU;⟨q,hq⟩
  exact C7 I (by rw[e];exact True.intro) hs he (Le hl hd (rel.put k rv) PU)
 ·subst ey eH
  cases (show u=Value.ref b from ry)
  obtain⟨z,hd,xs,rel,dd⟩:=Si I.hok e
  have hz:xs.length≤sizeLine:=by rw[← Paired.length rel];exact z
  have hl:(putK kvs k v).length≤sizeLine:=by have:=kI kvs k v;omega
  refine wpAny_setItem_heap (hsz:=hz) (tupleKind_room_in1 hu) (C6 I.hok eb) dd fun h' PU hs=>h _ ?_
  obtain⟨q,es,ep,hq,h2,h3,h4,_,h5⟩:=PU
  refine C7 I (by rw[e];exact True.intro) hs ⟨q,hq⟩ ⟨hl,hd,_,(rel.put k eb rv).keeps fun c ys ec=>?_,q,es,ep,hq,h2,h3,h4,h5⟩
  rw[aM (gx ec e (fun z=>nomatch z))]
  exact ec
end
def Sj(i:Expr):Prop:=∀ ov iv,subscripted i false ov iv=operate [ov,iv] (getItem ov iv)
theorem MZ{prog:Program}{w:World}{A:Around}{E:Value→Shared→Prop}{s:Shared}{env:Env}{value slice:Expr}{pos:Pos}{T id:String}{Q:Value→Shared→Prop}
  (hl:typeLookup (.type T) "__getitem__"=pure (some (.builtin id))) (hs:Sj slice)
  (h:wpAny (model prog w) A (eval value env) (fun o s₁=>wpAny (model prog w) A (eval slice env) (fun i s₂=>s₂.TypeIs o T∧wpAny (model prog w) A (getItem o i) Q E s₂) E s₁) E s) :
  wpAny (model prog w) A (eval (.Subscript value slice pos) env) Q E s:=by
 refine Subscript_ (wpAny_mono h (fun o s₁ h₁=>wpAny_mono h₁ (fun i s₂ h₂=>?_) fun _ _ x=>x) fun _ _ x=>x)
 obtain⟨hT,h₂⟩:=h₂
 unfold subscriptTail
 refine wpAny_bind ?_
 rw[getitemInPython_of_ne hT.not_modules]
 refine wpAny_bind (wpAny_specialOf hT hl ?_)
 have fin:wpAny (model prog w) A (subscripted slice false o i) (fun r s₃=>wpAny (model prog w) A (letTemporaryGo value o r >>= fun _=>pure r) Q E s₃) E s₂:=by
  rw[hs o i]
  exact wpAny_operating (wpAny_mono h₂ (fun r s₃ h₃=>wpAny_bind (wpAny_letTemporaryGo (wpAny_pure h₃))) fun _ _ x=>x)
 first
  | exact wpAny_pure (wpAny_bind fin)
  | exact wpAny_bind (wpAny_pure (wpAny_bind fin))
  | exact wpAny_bind fin
theorem EY{X:Cx}{pins:List (Addr × Obj)}{σ:St}{H:Hp}{s:Shared}{a:Addr}{y:V}{o:Option V}(I:Inv X pins σ H s)(g:ua H a y o):s.TypeIs (.ref a) "dict":=by
 rcases g with ⟨kvs,k,e,_,_⟩|⟨kvs,k,b,e,_,_,_⟩
 ·obtain⟨_,_,vs,_,dd⟩:=EV I.hok e
  exact dd.typeIs
 ·obtain⟨_,_,xs,_,dd⟩:=EW I.hok e
  exact dd.typeIs
inductive Sk(x y:V)(H:Hp)(Q:VK):Prop
 | mk (a:Addr) (v:V) (_:x=.ref a) (_:ua H a y (some v)) (_:Q v H):Sk x y H Q
def Sm(td ty:TE):TE:=fun σ H Q=>td σ H fun x H1=>ty σ H1 fun y H2=>Sk x y H2 Q
def M0(ty td:TE):TE:=fun σ H Q=>ty σ H fun y H1=>td σ H1 fun x H2=>∃ a o,x=.ref a∧ua H2 a y o∧Q (.bl (!o.isSome)) H2
def Sn(td ty tv:TE):TS:=fun D σ H=>tv σ H fun v H1=>td σ H1 fun x H2=>ty σ H2 fun y H3=>∃ a H4,x=.ref a∧EX H3 a y v H4∧D.nx σ H4
section
variable {X:Cx} {o i e value:Expr} {pos pos' tpos:Pos} {td ty tv:TE}
theorem pD(hu:X.A.units+1<cLine)(ho:PE X o td)(hi:PE X i ty)(hs:Sj i):PE X (.Subscript o i pos) (Sm td ty):=by
 intro pins s σ H Q I h
 refine MZ PySem.F.slot_dict_getitem.lookup hs (cE (ho pins s σ H _ I h) fun u s1 ⟨x,H1,I1,rx,q1⟩=>cE (hi pins s1 σ H1 _ I1 q1) fun iv s2 ⟨y,H2,I2,ry,a,v,ex,g,q2⟩=>?_)
 subst ex
 obtain rfl:u=Value.ref a:=rx
 exact⟨EY I2 g,Jt hu I2 g ry fun w' s3 I3 rw'=>⟨v,H2,I3,rw',q2⟩⟩
theorem Cc(hu:X.A.units+1<cLine)(hi:PE X i ty)(ho:PE X o td):PC X .NotIn i o (M0 ty td):=by
 intro pins s σ H Q I h
 refine cE (hi pins s σ H _ I h) fun iv s1 ⟨y,H1,I1,ry,q1⟩=>cE (ho pins s1 σ H1 _ I1 q1) fun u s2 ⟨x,H2,I2,rx,a,ov,ex,g,q2⟩=>?_
 subst ex
 obtain rfl:u=Value.ref a:=rx
 exact MY hu I2 g ry fun s3 I3=>⟨.bl (!ov.isSome),H2,I3,rfl,q2⟩
theorem yZ(hu:X.A.units+1<cLine)(ho:PE X o td)(hi:PE X i ty)(hv:PE X value tv)(hs:swapsWith value (some (.Subscript o i pos')) pos.line X.env=pure false) :
  PS X (.Assign [.Subscript o i pos'] value pos) (Sn td ty tv):=by
 intro pins s σ H D I h
 refine wpAny_Assign_Subscript (cE (hv pins s σ H _ I h) fun r s1 ⟨v,H1,I1,rv,q1⟩=>cE (ho pins s1 σ H1 _ I1 q1) fun u s2 ⟨x,H2,I2,rx,q2⟩=>cE (hi pins s2 σ H2 _ I2 q2) fun iv s3 ⟨y,H3,I3,ry,a,H4,ex,g,q3⟩=>?_) hs
 subst ex
 obtain rfl:u=Value.ref a:=rx
 exact Ju hu I3 g ry rv fun s4 I4=>⟨σ,H4,I4,q3⟩
end
theorem Lf{P:Program}{w:World}{H:Hp}(h:Heap)(hb:sysModules<h.objs.size):gK P w H (h.push { cls:=.type "dict",data:=.dict #[] }) h.objs.size (.dK []) :=
 ⟨Nat.zero_le _,beq_eq_false_iff_ne.mpr (Ne.symm (kO hb)),[],.nil,Heap.DictOf.new h⟩
def PV:TE:=fun _ H Q=>∀ p,H p=none→Q (.ref p) (upd H p (.dK []))
section
variable {X:Cx} {pos:Pos}
theorem oq:PE X (.Dict [] [] pos) PV:=fun pins s σ H Q I h =>
 wpAny_Dict_empty ⟨.ref s.heap.objs.size,_,I.laid (a:=s.heap.objs.size) (o:=.dK []) (t':=s.toks) (fun _ _ q=>Heap.get?_push_of_some _ q) (jj _) (Lf s.heap I.big),rfl,h _ (I.hok.fresh (jj _))⟩
end
structure M2(X:Cx)(o:Expr)(m:Str)(apos:Pos)(e f:Expr)(cpos:Pos):Prop where
 base:attributeBase o m X.env (eval o X.env)=eval o X.env
 few:((backTo cpos (starEach [e,f] X.env)).all (fun x=>!x.1)&&(backToKw cpos (keywordEach [] X.env)).all (fun x=>x.1.isSome)
  && decide (([e,f]:List Expr).length+([]:List Keyword).length+(if ([]:List Keyword).isEmpty then 0 else 1)<30))=true
 line:(apos.endLine == cpos.line)=true
 trees:backTo cpos (starEach [e,f] X.env)=[(false,eval e X.env),(false,eval f X.env)]
def IsD(H:Hp)(a:Addr):Prop:=(∃ kvs,Rd H a (.dK kvs))∨∃ kvs,Rd H a (.dT kvs)
theorem PX{X:Cx}{pins:List (Addr × Obj)}{σ:St}{H:Hp}{s:Shared}{a:Addr}(I:Inv X pins σ H s)(d:IsD H a) :
  s.TypeIs (.ref a) "dict"∧(∀ b,Value.ref a=.ref b→∃ ob,s.heap.get? b=some ob∧ob.dict=none)∧(a == sysModules)=false:=by
 rcases d with ⟨kvs,e⟩|⟨kvs,e⟩
 ·obtain⟨_,hd,vs,_,dd⟩:=EV I.hok e
  refine⟨dd.typeIs,fun b q=>?_,hd⟩
  cases q
  obtain⟨ob,_,_,h1,h2,_⟩:=dd
  exact⟨ob,h1,h2.2.1⟩
 ·obtain⟨_,hd,xs,_,dd⟩:=EW I.hok e
  refine⟨dd.typeIs,fun b q=>?_,hd⟩
  cases q
  obtain⟨ob,_,_,h1,h2,_⟩:=dd
  exact⟨ob,h1,h2.2.1⟩
end L2
namespace cX
open PySem PySem.Spec PyProof.Rows L2
def lP(X:Cx)(N:List Str)(scope:Scope)(cl:List (Str × Addr))(C:Addr)(s₀:Shared)(H₀:Hp)(ex:List Addr)(pn:List (Addr × Obj)):Cx where
 prog:=X.prog
 w:=X.w
 K:=X.K
 mg:=X.mg
 base:=X.base
 A:=X.A
 N:=N
 s₀:=s₀
 H₀:=H₀
 env:=compEnvC scope cl C X.env
 outer:=X.stack
 stack:=X.stack
 ex:=ex
 fn:=fun _=>false
 calm:=X.calm
 pn:=pn
 xe:=fun _ _=>False
structure Cd(X:Cx)(N:List Str)(scope:Scope)(cl:List (Str × Addr))(jx:List (Option Nat)):Prop where
 kind:scope.kind=.function
 cell:∀ x∈scope.names,x.2≠.cell
 names:∀ x∈scope.names,x.2=.local→scope.names.lookup x.1=some .local
 clos:closureFor scope X.env=pure cl
 sub:∀ x c,cl.lookup x=some c→X.env.cells.lookup x=some c
 has:∀ x,((relabel scope X.env).names.lookup x=some .cell∨(relabel scope X.env).names.lookup x=some .free)→∃ c,cl.lookup x=some c
 len:jx.length=N.length
 free:∀ (i j:Nat) (x:Str),jx[i]?=some (some j)→N[i]?=some x→X.N[j]?=some x∧X.env.scope.names.lookup x=some .cell∧(relabel scope X.env).names.lookup x=some .cell
def uT(jx:List (Option Nat))(σ:L2.St):L2.St:=jx.map fun o=>o.bind fun j=>(σ[j]?).join
section
variable {X:Cx} {N:List Str} {scope:Scope} {cl:List (Str × Addr)} {jx:List (Option Nat)}
theorem yi{pins:List (Addr × Obj)}{σ:L2.St}{H:Hp}{s:Shared}{fp:List Addr}{h₁:Heap}{t:Nat}(cs:Cd X N scope cl jx)(I:Inv X pins σ H s)(hf:∀ b∈fp,pR X pins H b)(hlt:∀ b∈fp,b<s.heap.objs.size)
  (hns:h₁.Ns s.heap.objs.size fun _=>none) (hk:∀ b o,s.heap.get? b=some o→h₁.get? b=some o) :
  Inv (lP X N scope cl s.heap.objs.size s H fp (X.pn++pins)) [] (uT jx σ) H { s with heap:=h₁,toks:=t }:=by
 have sub:∀ {x c},(lP X N scope cl s.heap.objs.size s H fp (X.pn++pins)).env.cells.lookup x=some c→X.env.cells.lookup x=some c:=fun {x c} e=>cs.sub x c e
 refine⟨⟨I.ok.mod,cs.kind,I.ok.glob,I.ok.blt,jj _,fun x y c e e'=>I.ok.inj x y c (sub e) (sub e'),fun x hx=>cs.has x hx,fun x c z _=>(by cases z),I.ok.hd,I.ok.frames,.inl rfl,fun b hb=>⟨Nat.ne_of_lt (hlt b hb),fun x c e=>(hf b hb).2.2.2.2.1 x c (sub e)⟩,I.bs,lO I.ok.Kh I.sz,fun b o e hb=>?_,fun b hb z=>?_,I.stack,I.sU⟩,
  rfl,I.bare,Un.kept hk,⟨_,hns,fun i x v e1 e2 _=>?_⟩,fun x c e=>?_,I.hok.fresh (jj _),fun x c e=>I.pA x c (sub e),fun p hp=>?_,I.hok.kept hk,by unfold uT;rw[dW];exact cs.len⟩
 ·rcases (hf b hb).2.2.2.1 with z|z
  ·exact I.ok.Eh b o e z
  ·exact absurd (qE (Heap.lt_size (I.ok.bs b o e).1) z) (Nat.lt_irrefl _)
 ·rcases List.mem_cons.mp (I.qF b z) with e|e
  ·exact (hf b hb).2.1 e
  ·exact (hf b hb).2.2.1 e
 ·unfold uT at e2
  rw[uq]at e2
  cases ej:jx[i]? with
  | none=>rw[ej]at e2;cases e2
  | some o =>
   rw[ej]at e2
   cases o with
   | none=>cases e2
   | some j =>
    have e3:σ[j]?=some (some v):=by
     have z:((σ[j]?).join)=some v:=rN e2
     cases hs:σ[j]? with
     | none=>rw[hs]at z;cases z
     | some q=>rw[hs]at z;exact congrArg some z
    obtain⟨f1,f2,f3⟩:=cs.free i j x ej e1
    obtain⟨m,hn,hl⟩:=I.loc
    obtain⟨u,ru,look⟩:=hl j x v f1 e3 (.inr (.inl f2))
    refine⟨u,ru,?_⟩
    rcases look with ⟨k,_⟩|⟨_,c,hc,o,ho,hd⟩
    ·have k':X.env.scope.names.lookup x=some .local:=k
     rw[f2]at k'
     cases k'
    ·obtain⟨c',hc'⟩:=cs.has x (.inl f3)
     have z:=cs.sub x c' hc'
     rw[hc]at z
     cases z
     exact .inr ⟨.inl f3,c,hc',o,hk _ _ ho,hd⟩
 ·obtain⟨v,o,ho,hd⟩:=I.cell x c (sub e)
  exact⟨v,o,hk _ _ ho,hd⟩
 ·have J7:p∈X.pn++pins:=by
   have z:p∈(X.pn++pins)++[]:=hp
   simpa using z
  obtain⟨e,n,nl,nf,d⟩:=I.pin p J7
  refine⟨hk _ _ e,n,kO (Heap.lt_size e),fun z=>?_,d⟩
  rcases List.mem_cons.mp (I.qF p.1 z) with e|e
  ·exact nl e
  ·exact nf e
theorem xm{pins:List (Addr × Obj)}{σ σ':L2.St}{H H':Hp}{s s':Shared}{fp:List Addr}(I:Inv X pins σ H s)(hf:∀ b∈fp,pR X pins H b)(J:Inv (lP X N scope cl s.heap.objs.size s H fp (X.pn++pins)) [] σ' H' s'):Inv X pins σ H' s' :=
 I.BD (ch:=fp) J.os J.base J.hok J.bare fun b hb=>⟨(hf b hb).2.2.2.1,(hf b hb).2.1,(hf b hb).2.2.2.2.1,(hf b hb).2.2.2.2.2⟩
theorem xo{pins:List (Addr × Obj)}{σ σ2:L2.St}{H H':Hp}{s s':Shared}{h':Heap}(I:Inv X pins σ H s)(I4:Inv X pins σ2 H' s')(hfree:H' s.heap.objs.size=none)(hs:Heap.SameBut s.heap.objs.size s'.heap h'):Inv X pins σ2 H' { s' with heap:=h' }:=by
 refine I4.turned (t':=s'.toks) (it:=s.heap.objs.size) (fun b o hb e=>hs.extBut _ _ hb e) hfree (Nat.ne_of_gt I.lt) (.inr I.sz) (fun x c e z=>?_) fun p hp z=>?_
 ·obtain⟨v,o,ho,_⟩:=I.cell x c e
  exact absurd (Heap.lt_size ho) (by rw[z];exact Nat.lt_irrefl _)
 ·exact absurd (Heap.lt_size (I.pin p hp).1) (by rw[z];exact Nat.lt_irrefl _)
def C8(J:It)(acc:Addr)(g:TG)(tt:TT)(te:TE)(σ0:L2.St)(H:Hp)(Q:VK):Prop :=
 ∃ W:Nat→Nat→L2.St→Hp→Prop,(∃ m,W 0 m σ0 H)∧∀ i m σ H,W i m σ H →
  (J.stop i H∧Q (.ref acc) H)∨(J.go i H∧∃ Nx:L2.St→Hp→Prop,(∀ σ' H',Nx σ' H'→∃ m',m'<m∧W (i+1) m' σ' H')∧∀ x H',J.Kn i H x H'→g x σ H' fun σ2 H2=>tt σ2 H2 fun b H3 =>
   if b=true then te σ2 H3 fun v H4=>∃ xs,H4 acc=some (.lst xs)∧xs.length<sizeLine∧Nx σ2 (upd H4 acc (.lst (xs++[v]))) else Nx σ2 H3)
def xq(jx:List (Option Nat))(wi:TI)(g:TG)(tt:TT)(te:TE):TE:=fun σ H Q=>wi σ H fun J H1=>∀ acc,H1 acc=none→C8 J acc g tt te (uT jx σ) (upd H1 acc (.lst [])) Q
theorem Ce{elt tg iter:Expr}{ifs:List Expr}{pos pos':Pos}{wi:TI}{g:TG}{tt:TT}{te:TE}(cs:Cd X N scope cl jx)(hc:X.calm=true)(hi:PI X tg iter wi)
  (hg:∀ C s₀ H₀ ex pn,PG (lP X N scope cl C s₀ H₀ ex pn) tg g) (ht:∀ C s₀ H₀ ex pn,HZ (lP X N scope cl C s₀ H₀ ex pn) ifs tt) (he:∀ C s₀ H₀ ex pn,PE (lP X N scope cl C s₀ H₀ ex pn) elt te)
  (hs:∀ x,foldedSetIterable iter X.env x=pure x) {use:Option (Value→Sem Unit)} {Q':Value→Shared→Prop} {Q:VK} {pins:List (Addr × Obj)} {s:Shared} {σ:L2.St} {H:Hp} (I:Inv X pins σ H s) (h:xq jx wi g tt te σ H Q)
  (fin:∀ (s3:Shared) (H3:Hp) (fp:List Addr) (acc:Addr) (σ6:L2.St) (H6:Hp) (s7:Shared),Inv X pins σ H3 s3→(∀ b∈fp,pR X pins H3 b)→Inv (lP X N scope cl s3.heap.objs.size s3 H3 fp (X.pn++pins)) [] σ6 H6 s7→Q (.ref acc) H6 →
   compPost (model X.prog X.w) X.A X.xe use Q' (.ref acc) s3.heap.objs.size (.ok .next) s7) :
  wpAny (model X.prog X.w) X.A (comprehension (.ListComp elt [⟨tg,iter,ifs,0⟩] scope pos) scope X.env pos' (newList []) false (eval iter X.env) use) Q' X.xe s:=by
 refine wpAny_comprehension_free (use:=use) rfl hs cs.clos cs.kind cs.names (cE (hi pins s σ H _ I h) fun v s1 h1=>cE h1 fun itv s2 h2=>?_)
 obtain⟨it,fp,tn,J,H2,e,I2,T,st2,f2,q⟩:=h2
 subst e
 refine wpAny_newObj_type (hd:=by size_fits) ?_
 have hacc:H2 s2.heap.objs.size=none:=I2.hok.fresh (jj _)
 have I3:Inv X pins σ (upd H2 s2.heap.objs.size (.lst [])) { s2 with heap:=s2.heap.push { cls:=.type "list",data:=.seq ([]:List Value).toArray },toks:=s2.toks }:=I2.Kz (ys:=[]) .nil (Nat.zero_le _)
 have N9:∀ b∈fp,b<s2.heap.objs.size:=fun b hb=>by
  obtain⟨o,ho,_⟩:=T.obj _ _ st2 b hb
  exact Heap.lt_size ho
 have f3:∀ b∈fp,pR X pins (upd H2 s2.heap.objs.size (.lst [])) b:=fun b hb=>⟨by rw[aM (kO (N9 b hb))];exact (f2 b hb).1,(f2 b hb).2⟩
 have k3:∀ b o,s2.heap.get? b=some o→(s2.heap.push { cls:=.type "list",data:=.seq ([]:List Value).toArray }).get? b=some o:=fun b o e=>Heap.get?_push_of_some _ e
 have q3:=q _ hacc
 generalize RZ:({ s2 with heap:=s2.heap.push { cls:=.type "list",data:=.seq ([]:List Value).toArray },toks:=s2.toks }:Shared)=s3 at I3
 generalize hH3:upd H2 s2.heap.objs.size (.lst [])=H3 at I3 f3 q3
 have Oa:s3.heap=s2.heap.push { cls:=.type "list",data:=.seq ([]:List Value).toArray }:=by rw[← RZ]
 have EJ:∀ b∈fp,b<s3.heap.objs.size:=fun b hb=>by rw[Oa,Heap.size_push];exact Nat.lt_succ_of_lt (N9 b hb)
 have st3:tn 0 s3.heap:=T.keep _ _ _ st2 fun b _ o e=>by rw[Oa];exact k3 b o e
 show wpAny _ _ _ _ _ s3
 refine wpAny_newFunctionEnv cs.cell (fun y hy=>by simp at hy) (fun h₁ hns K3=>?_) cs.kind
 have kh:∀ b o,s3.heap.get? b=some o→h₁.get? b=some o:=fun b o e=>K3.extBut _ _ (kO (Heap.lt_size e)) (Heap.get?_push_of_some _ e)
 have J0:Inv (lP X N scope cl s3.heap.objs.size s3 H3 fp (X.pn++pins)) [] (uT jx σ) H3 { s3 with heap:=h₁,toks:=s3.toks+([]:List (Str × Value)).length }:=yi cs I3 f3 EJ hns kh
 have Ob:tn 0 h₁:=T.keep _ _ _ st3 fun b _ o e=>kh b o e
 obtain⟨W,⟨m0,w0⟩,turn⟩:=q3
 have qG:∀ {H':Hp},(∀ b∈fp,H' b=none)→∀ b∈fp,pR (lP X N scope cl s3.heap.objs.size s3 H3 fp (X.pn++pins)) [] H' b:=fun hn b hb=>by
  refine⟨hn b hb,kO (EJ b hb),fun z=>?_,.inl hb,fun x c e=>(f3 b hb).2.2.2.2.1 x c (cs.sub x c e),fun p hp=>?_⟩
  ·rcases List.mem_cons.mp (I3.qF b z) with e|e
   ·exact (f3 b hb).2.1 e
   ·exact (f3 b hb).2.2.1 e
  ·have J7:p∈X.pn++pins:=by
    have z:p∈(X.pn++pins)++[]:=hp
    simpa using z
   exact (f3 b hb).2.2.2.2.2 p J7
 have loop:∀ s5:Shared,s5={ s3 with heap:=h₁,toks:=s3.toks+([]:List (Str × Value)).length }→codeAny (model X.prog X.w) X.A (.compLoop (.ListComp elt [⟨tg,iter,ifs,0⟩] scope pos) 0 (.ref it) (.ref s2.heap.objs.size) (lP X N scope cl s3.heap.objs.size s3 H3 fp (X.pn++pins)).env)
   (compPost (model X.prog X.w) X.A X.xe use Q' (.ref s2.heap.objs.size) s3.heap.objs.size) s5:=by
  rintro s5 rfl
  refine BZ (fun n s'=>∃ i σ' H',Inv (lP X N scope cl s3.heap.objs.size s3 H3 fp (X.pn++pins)) [] σ' H' s'∧tn i s'.heap∧(∀ b∈fp,H' b=none)∧W i n σ' H') ?_ m0 ⟨0,_,H3,J0,Ob,fun b hb=>(f3 b hb).1,w0⟩
  rintro n s6 ⟨i,σ6,H6,I6,K4,Jm,w6⟩
  rcases turn i n σ6 H6 w6 with ⟨stop,qn⟩|⟨go,Nx,hN,step⟩
  ·refine cE (T.done (lP X N scope cl s3.heap.objs.size s3 H3 fp (X.pn++pins)) rfl rfl rfl hc i [] s6 σ6 H6 _ I6 (qG Jm) K4 stop) fun r s7 ⟨hr,I7⟩=>?_
   subst hr
   exact fin s3 H3 fp _ σ6 H6 s7 I3 f3 I7 qn
  ·refine cE (T.item (lP X N scope cl s3.heap.objs.size s3 H3 fp (X.pn++pins)) rfl rfl rfl hc i [] s6 σ6 H6 _ I6 (qG Jm) K4 go) fun r s7 ⟨u,hr,h7⟩=>?_
   subst hr
   refine cE h7 fun _ s8 ⟨x,H8,I8,r8,y8,GH,Jo⟩=>?_
   have Pz:=I8.pinned (qG Jo) (T.obj _ _ GH)
   refine cE (hg _ _ _ _ _ _ s8 σ6 H8 x u _ Pz r8 (step x H8 y8)) fun _ s9 ⟨σ9,H9,I9,q9⟩=>?_
   refine cE (ht _ _ _ _ _ _ s9 σ9 H9 _ I9 q9) fun ok Me ⟨Bg,K5,yy⟩=>?_
   have again:∀ {σ7:L2.St} {H7:Hp} {nO:Shared},Inv (lP X N scope cl s3.heap.objs.size s3 H3 fp (X.pn++pins)) ([]++rY fp s8.heap) σ7 H7 nO→Nx σ7 H7→∃ m,m<n∧∃ i σ' H',Inv (lP X N scope cl s3.heap.objs.size s3 H3 fp (X.pn++pins)) [] σ' H' nO∧tn i nO.heap∧(∀ b∈fp,H' b=none)∧W i m σ' H':=fun {σ7 H7 nO} I7 n7=>by
    obtain⟨m',hm,w7⟩:=hN σ7 H7 n7
    refine⟨m',hm,i+1,σ7,H7,I7.nU,T.keep _ _ _ GH fun b hb o e=>(I7.pin (b,o) (oY _ (oY _ (ig hb e)))).1,fun b hb=>?_,w7⟩
    obtain⟨o,e,d⟩:=T.obj _ _ GH b hb
    exact (I7.pin (b,o) (oY _ (oY _ (ig hb e)))).2.1
   cases ok with
   | false =>
    rw[if_neg uo]at yy
    exact again K5 yy
   | true =>
    rw[if_pos rfl]at yy
    refine cE (he _ _ _ _ _ _ Me σ9 Bg _ K5 yy) fun v nO ⟨y,EK,R0,Sb,xs,hx,hz,Sd⟩=>?_
    refine cE (dF _ nO σ9 EK (.ref s2.heap.objs.size) [y] (.ref s2.heap.objs.size) [v] (fun _ H'=>Nx σ9 H') R0 rfl (.cons Sb .nil) ⟨_,xs,y,rfl,rfl,hx,hz,Sd⟩) fun _ s12 ⟨_,Ib,Se,_,MQ⟩=>?_
    exact again Se MQ
 exact codeAny_compStart_list (loop _ rfl) (T.self _ _ _ _ _ Ob (loop _ rfl))
theorem Lg{elt tg iter:Expr}{ifs:List Expr}{pos:Pos}{wi:TI}{g:TG}{tt:TT}{te:TE}(cs:Cd X N scope cl jx)(hc:X.calm=true)(hi:PI X tg iter wi)
  (hg:∀ C s₀ H₀ ex pn,PG (lP X N scope cl C s₀ H₀ ex pn) tg g) (ht:∀ C s₀ H₀ ex pn,HZ (lP X N scope cl C s₀ H₀ ex pn) ifs tt) (he:∀ C s₀ H₀ ex pn,PE (lP X N scope cl C s₀ H₀ ex pn) elt te)
  (hs:∀ x,foldedSetIterable iter X.env x=pure x:=by intro _;rfl):PE X (.ListComp elt [⟨tg,iter,ifs,0⟩] scope pos) (xq jx wi g tt te):=by
 intro pins s σ H Q I h
 rw[eval_ListComp]
 refine Ce (use:=none) cs hc hi hg ht he hs I h fun s3 H3 fp acc σ6 H6 s7 I3 f3 I7 qn=>?_
 obtain⟨m,hm,_⟩:=I7.loc
 exact⟨m,hm,fun h' K3=>⟨.ref acc,H6,xo I3 (xm I3 f3 I7) I7.free K3,rfl,qn⟩⟩
theorem M1{elt tg iter:Expr}{ifs:List Expr}{pos pos' pos2:Pos}{wi:TI}{g:TG}{tt:TT}{te:TE}{i:Nat}{x:Str}(cs:Cd X N scope cl jx)(hc:X.calm=true)(hN:X.N.Nodup)(hix:X.N[i]?=some x)(hx:X.env.scope.names.lookup x=some .local)(hi:PI X tg iter wi)
  (hg:∀ C s₀ H₀ ex pn,PG (lP X N scope cl C s₀ H₀ ex pn) tg g) (ht:∀ C s₀ H₀ ex pn,HZ (lP X N scope cl C s₀ H₀ ex pn) ifs tt) (he:∀ C s₀ H₀ ex pn,PE (lP X N scope cl C s₀ H₀ ex pn) elt te)
  (hsw:swapsWith (.ListComp elt [⟨tg,iter,ifs,0⟩] scope pos) (some (.Name x pos')) pos2.line X.env=pure true:=by rfl)
  (hs:∀ x,foldedSetIterable iter X.env x=pure x:=by intro _;rfl):PS X (.Assign [.Name x pos'] (.ListComp elt [⟨tg,iter,ifs,0⟩] scope pos) pos2) (Mx (xq jx wi g tt te) (vH i)):=by
 intro pins s σ H D I h
 rw[exec_Assign_Name_used _ _ _ _ hsw]
 refine wpAny_bind (wpAny_standAt (wpAny_bind ?_))
 show wpAny _ X.A (do let _ ← comprehension (.ListComp elt [⟨tg,iter,ifs,0⟩] scope pos) scope X.env _ (newList []) false (eval iter X.env) (some (assign (.Name x pos') X.env))) _ _ s
 have h':xq jx wi g tt te σ H (fun v H'=>vH i v σ H' D.nx):=h
 refine wpAny_bind (cE (Ce (use:=some (assign (.Name x pos') X.env)) (Q':=fun _ s'=>∃ σ' H',Inv X pins σ' H' s'∧D.nx σ' H') cs hc hi hg ht he hs I h' fun s3 H3 fp acc σ6 H6 s7 I3 f3 I7 qn=>?_) fun _ s' q=>?_)
 ·have I4:=xm I3 f3 I7
  obtain⟨m,hm,_⟩:=I7.loc
  refine wpAny_assign_Name (BC I4 hN hix (.inl hx) (v:=.ref acc) rfl (fun s8 I8 ⟨a,K3,ha⟩=>?_) (.inr hx))
  have na:s3.heap.objs.size≠a:=by
   rcases ha with rfl|ha
   ·exact Nat.ne_of_gt I3.lt
   ·intro z
    obtain⟨v,o,ho,_⟩:=I3.cell x a ha
    exact absurd (Heap.lt_size ho) (by rw[z];exact Nat.lt_irrefl _)
  refine⟨m,hm.at' fun o e=>K3.extBut _ o na e,fun h' hs'=>⟨_,H6,xo I3 I8 I7.free hs',qn⟩⟩
 ·exact wpAny_pure (wpAny_pure q)
theorem ou{K:PySem.W.Frag}{a acc:Addr}{xs:List V}{g:TG}{tt:TT}{te:TE}{σ0:L2.St}{H:Hp}{Q:VK}(Pv:Nat→L2.St→Hp→Prop)(h0:Pv 0 σ0 H)(hl:∀ i σ H,i≤xs.length→Pv i σ H→b8 K H a xs)
  (hs:∀ i x σ H,xs[i]?=some x→Pv i σ H→g x σ H fun σ2 H2=>tt σ2 H2 fun b H3=>if b=true then te σ2 H3 fun v H4=>∃ ys,H4 acc=some (.lst ys)∧ys.length<sizeLine∧Pv (i+1) σ2 (upd H4 acc (.lst (ys++[v]))) else Pv (i+1) σ2 H3)
  (hd:∀ σ H,Pv xs.length σ H→Q (.ref acc) H):C8 (Kp K a) acc g tt te σ0 H Q:=by
 refine⟨fun i m σ H=>m=xs.length-i∧i≤xs.length∧Pv i σ H,⟨xs.length,by simp,Nat.zero_le _,h0⟩,?_⟩
 rintro i m σ H ⟨rfl,hi,p⟩
 have q:=hl i σ H hi p
 by_cases hlt:i<xs.length
 ·refine .inr ⟨⟨xs,xs[i],q,by simp[hlt]⟩,Pv (i+1),fun σ' H' p'=>⟨xs.length-(i+1),by omega,rfl,hlt,p'⟩,fun x H' y=>?_⟩
  obtain⟨e,y⟩:=y
  subst e
  exact hs i x σ _ (y xs q) p
 ·have e:i=xs.length:=by omega
  subst e
  exact .inl ⟨⟨xs,q,jj _⟩,hd σ H p⟩
theorem EZ{lo:Int}{k:Nat}{acc:Addr}{g:TG}{tt:TT}{te:TE}{σ0:L2.St}{H:Hp}{Q:VK}(Pv:Nat→L2.St→Hp→Prop)(h0:Pv 0 σ0 H)
  (hs:∀ i σ H,i<k→Pv i σ H→g (.int (lo+i)) σ H fun σ2 H2=>tt σ2 H2 fun b H3=>if b=true then te σ2 H3 fun v H4=>∃ ys,H4 acc=some (.lst ys)∧ys.length<sizeLine∧Pv (i+1) σ2 (upd H4 acc (.lst (ys++[v]))) else Pv (i+1) σ2 H3)
  (hd:∀ σ H,Pv k σ H→Q (.ref acc) H):C8 (O2 lo k) acc g tt te σ0 H Q:=by
 refine⟨fun i m σ H=>m=k-i∧i≤k∧Pv i σ H,⟨k,by simp,Nat.zero_le _,h0⟩,?_⟩
 rintro i m σ H ⟨rfl,hi,p⟩
 by_cases hlt:i<k
 ·refine .inr ⟨hlt,Pv (i+1),fun σ' H' p'=>⟨k-(i+1),by omega,rfl,hlt,p'⟩,fun x H' y=>?_⟩
  obtain⟨e,y⟩:=y
  subst e y
  exact hs i σ _ hlt p
 ·have e:i=k:=by omega
  subst e
  exact .inl ⟨Nat.le_refl _,hd σ H p⟩
end
section
variable {X:Cx} {N:List Str} {scope:Scope} {cl:List (Str × Addr)} {C:Addr} {s₀:Shared} {H₀:Hp} {ex:List Addr} {pn:List (Addr × Obj)}
theorem Ih{es:List Expr}{k:Nat}{t:NV}{n:Nat}{pos:Pos}(hc:X.calm=true)(h:QN (lP X N scope cl C s₀ H₀ ex pn) es t)
  (hn:(assignEach es (lP X N scope cl C s₀ H₀ ex pn).env).length=n:=by rfl) (hst:(assignEach es (lP X N scope cl C s₀ H₀ ex pn).env).findIdx? (·.1)=none:=by rfl):PG (lP X N scope cl C s₀ H₀ ex pn) (.Tuple es k pos) (Mw X.K n t):=pQ (X:=lP X N scope cl C s₀ H₀ ex pn) hc h hn hst
theorem Lh{tg l:Expr}{tl:TE}(hl:PE (lP X N scope cl C s₀ H₀ ex pn) l tl):PI (lP X N scope cl C s₀ H₀ ex pn) tg l (NY X.K tl):=eK hl
end
theorem C9{X:Cx}:nj X (.type "range") (fun xs H Q=>∃ j:Int,xs=[.int j]∧∀ p,H p=none→Q (.ref p) (upd H p (.Gf 0 j))):=by
 intro pins s σ H xs us Q I r h
 obtain⟨j,rfl,q⟩:=h
 obtain⟨u1,rfl,⟨t,rfl⟩⟩:=r.one
 refine call_range_1 ⟨.ref s.heap.objs.size,_,I.laid (o:=.Gf 0 j) (fun b o e=>Heap.get?_push_of_some _ e) (jj _) ⟨_,_,_,Heap.get?_push_size _ rfl⟩,rfl,q _ (I.hok.fresh (jj _))⟩
theorem xr{scope:Scope}{env:Env}(h:∀ p∈scope.names,p.2=.free→∃ c,env.cells.lookup p.1=some c) :
  ∃ cl,closureFor scope env=pure cl∧(∀ x c,cl.lookup x=some c→env.cells.lookup x=some c)∧(∀ p∈scope.names,p.2=.free→∃ c,cl.lookup p.1=some c):=by
 unfold closureFor
 have key:∀ (l:List (Str × NameKind)) (cs:List (Str × Addr)),(∀ p∈l,p.2=.free→∃ c,env.cells.lookup p.1=some c)→(∀ x c,cs.lookup x=some c→env.cells.lookup x=some c) →
   ∃ cl,(forIn l cs (fun p r=>if (p.2 == NameKind.free)=true then do let c ← cellOf env p.1;pure (ForInStep.yield ((p.1,c)::r)) else pure (ForInStep.yield r)):Sem (List (Str × Addr)))=pure cl∧(∀ x c,cl.lookup x=some c→env.cells.lookup x=some c)∧(∀ p∈l,p.2=.free→∃ c,cl.lookup p.1=some c)∧(∀ x c,cs.lookup x=some c→∃ c,cl.lookup x=some c):=by
  intro l
  induction l with
  | nil=>intro cs _ hcs;exact⟨cs,rfl,hcs,(fun p hp=>by cases hp),fun x c e=>⟨c,e⟩⟩
  | cons p l ih =>
   intro cs hl hcs
   rw[List.forIn_cons]
   by_cases hp:p.2=.free
   ·obtain⟨c,hc⟩:=hl p uL hp
    have e1:(p.2 == NameKind.free)=true:=by rw[hp];rfl
    have e2:cellOf env p.1=pure c:=by
     unfold cellOf
     rw[hc]
    rw[if_pos e1,e2]
    simp only[pure_bind]
    obtain⟨cl,h1,h2,h3,h4⟩:=ih ((p.1,c)::cs) (fun q hq=>hl q (tY _ hq)) (fun x d e=>by
     rw[List.lookup_cons]at e
     cases hx:x == p.1 with
     | true =>
      rw[hx]at e
      cases e
      rw[eq_of_beq hx]
      exact hc
     | false =>
      rw[hx]at e
      exact hcs x d e)
    refine⟨cl,h1,h2,fun q hq hf=>?_,fun x d e=>?_⟩
    ·rcases List.mem_cons.mp hq with rfl|hq
     ·exact h4 q.1 c (by rw[List.lookup_cons];simp)
     ·exact h3 q hq hf
    ·cases hx:x == p.1 with
     | true=>exact h4 x c (by rw[List.lookup_cons,hx])
     | false=>exact h4 x d (by rw[List.lookup_cons,hx];exact e)
   ·have e1:¬ (p.2 == NameKind.free)=true:=fun z=>hp (eq_of_beq z)
    rw[if_neg e1]
    simp only[pure_bind]
    obtain⟨cl,h1,h2,h3,h4⟩:=ih cs (fun q hq=>hl q (tY _ hq)) hcs
    refine⟨cl,h1,h2,fun q hq hf=>?_,h4⟩
    rcases List.mem_cons.mp hq with rfl|hq
    ·exact absurd hf hp
    ·exact h3 q hq hf
 obtain⟨cl,h1,h2,h3,_⟩:=key scope.names [] h (fun x c e=>by cases e)
 refine⟨cl,?_,h2,h3⟩
 rw[← h1]
 simp only[bind_pure]
theorem oz{env:Env}:∀ {names:List (Str × NameKind)} {x:Str} {k:NameKind},names.lookup x=some k →
  (names.map fun (n,k)=>if (k == NameKind.free&&env.scope.kind == .function&&env.kindOf n == some .cell) then (n,NameKind.cell) else (n,k)).lookup x=some (if (k == NameKind.free&&env.scope.kind == .function&&env.kindOf x == some .cell) then NameKind.cell else k)
 | [],_,_,h=>by cases h
 | (n,k')::r,x,k,h=>by
  rw[lS]
  by_cases hx:(x == n)=true
  ·have e:x=n:=eq_of_beq hx
   subst e
   rw[List.lookup_cons,hx]at h
   cases h
   by_cases hc:(k' == NameKind.free&&env.scope.kind == .function&&env.kindOf x == some .cell)=true
   ·show List.lookup x ((if (k' == NameKind.free&&env.scope.kind == .function&&env.kindOf x == some .cell)=true then (x,NameKind.cell) else (x,k'))::_)=_
    rw[if_pos hc,if_pos hc,List.lookup_cons,hx]
   ·show List.lookup x ((if (k' == NameKind.free&&env.scope.kind == .function&&env.kindOf x == some .cell)=true then (x,NameKind.cell) else (x,k'))::_)=_
    rw[if_neg hc,if_neg hc,List.lookup_cons,hx]
  ·have hf:(x == n)=false:=by simpa using hx
   rw[List.lookup_cons,hf]at h
   have ih:=oz (env:=env) h
   show List.lookup x ((if (k' == NameKind.free&&env.scope.kind == .function&&env.kindOf n == some .cell)=true then (n,NameKind.cell) else (n,k'))::_)=_
   by_cases hc:(k' == NameKind.free&&env.scope.kind == .function&&env.kindOf n == some .cell)=true
   ·rw[if_pos hc,List.lookup_cons,hf];exact ih
   ·rw[if_neg hc,List.lookup_cons,hf];exact ih
theorem nv{env:Env}:∀ {names:List (Str × NameKind)} {x:Str},names.lookup x=none →
  (names.map fun (n,k)=>if (k == NameKind.free&&env.scope.kind == .function&&env.kindOf n == some .cell) then (n,NameKind.cell) else (n,k)).lookup x=none
 | [],_,_=>rfl
 | (n,k')::r,x,h=>by
  rw[lS]
  have hf:(x == n)=false:=by
   cases hx:x == n with
   | false=>rfl
   | true=>rw[List.lookup_cons,hx]at h;cases h
  rw[List.lookup_cons,hf]at h
  have ih:=nv (env:=env) h
  show List.lookup x ((if (k' == NameKind.free&&env.scope.kind == .function&&env.kindOf n == some .cell)=true then (n,NameKind.cell) else (n,k'))::_)=_
  by_cases hc:(k' == NameKind.free&&env.scope.kind == .function&&env.kindOf n == some .cell)=true
  ·rw[if_pos hc,List.lookup_cons,hf];exact ih
  ·rw[if_neg hc,List.lookup_cons,hf];exact ih
structure Cf(X:Cx)(N:List Str)(scope:Scope)(jx:List (Option Nat)):Prop where
 kind:scope.kind=.function
 cell:∀ x∈scope.names,x.2≠.cell
 names:∀ x∈scope.names,x.2=.local→scope.names.lookup x.1=some .local
 xk:X.env.scope.kind=.function
 fr:∀ x∈scope.names,x.2=.free→X.env.scope.names.lookup x.1=some .cell
 len:jx.length=N.length
 free:∀ (i j:Nat) (x:Str),jx[i]?=some (some j)→N[i]?=some x→X.N[j]?=some x∧scope.names.lookup x=some .free
def freeOk(NX N:List Str)(scope:Scope)(jx:List (Option Nat)):Bool:=(jx.zip N).all fun p=>match p.1 with
 | none=>true
 | some j=>decide (NX[j]?=some p.2)&&decide (scope.names.lookup p.2=some .free)
theorem zS{X:Cx}{N NX:List Str}{scope sc:Scope}{jx:List (Option Nat)}(e1:X.env.scope=sc)(e2:X.N=NX)(k:scope.kind=.function)(h1:∀ x∈scope.names,x.2≠.cell)(h2:∀ x∈scope.names,x.2=.local→scope.names.lookup x.1=some .local)
  (h3:sc.kind=.function) (h4:∀ x∈scope.names,x.2=.free→sc.names.lookup x.1=some .cell) (h5:jx.length=N.length) (h6:freeOk NX N scope jx=true):Cf X N scope jx:=by
 refine⟨k,h1,h2,by rw[e1];exact h3,by rw[e1];exact h4,h5,fun i j x a b=>?_⟩
 rw[e2]
 unfold freeOk at h6
 rw[List.all_eq_true]at h6
 have z:=h6 (some j,x) (nQ (i:=i) (by rw[List.getElem?_zip_eq_some];exact⟨a,b⟩))
 simp only[Bool.and_eq_true,decide_eq_true_eq]at z
 exact z
section
variable {X:Cx} {N:List Str} {scope:Scope} {jx:List (Option Nat)}
theorem Cf.toF{pins:List (Addr × Obj)}{σ:L2.St}{H:Hp}{s:Shared}(cg:Cf X N scope jx)(I:Inv X pins σ H s):∃ cl,Cd X N scope cl jx:=by
 obtain⟨cl,h1,h2,h3⟩:=xr (scope:=scope) (env:=X.env) fun p hp hf=>I.ok.has p.1 (.inl (cg.fr p hp hf))
 have rel:∀ x,scope.names.lookup x=some .free→(relabel scope X.env).names.lookup x=some .cell:=fun x hx=>by
  have z:=oz (env:=X.env) hx
  have c:(NameKind.free == NameKind.free&&X.env.scope.kind == .function&&X.env.kindOf x == some .cell)=true:=by
   have q:X.env.kindOf x=some .cell:=cg.fr (x,.free) (PySem.mem_of_lookup hx) rfl
   rw[cg.xk,q]
   rfl
  rw[if_pos c]at z
  exact z
 refine⟨cl,cg.kind,cg.cell,cg.names,h1,h2,fun x hx=>?_,cg.len,fun i j x a b=>?_⟩
 ·cases e:scope.names.lookup x with
  | none =>
   have z:(relabel scope X.env).names.lookup x=none:=nv (env:=X.env) e
   rw[z]at hx
   rcases hx with q|q <;> cases q
  | some k =>
   by_cases hk:k=.free
   ·subst hk
    exact h3 (x,.free) (PySem.mem_of_lookup e) rfl
   ·have z:(relabel scope X.env).names.lookup x=some (if (k == NameKind.free&&X.env.scope.kind == .function&&X.env.kindOf x == some .cell) then NameKind.cell else k):=oz (env:=X.env) e
    have c:(k == NameKind.free)=false:=by
     cases q:k == NameKind.free with
     | false=>rfl
     | true=>exact absurd (eq_of_beq q) hk
    rw[c]at z
    simp only[Bool.false_and,Bool.false_eq_true,if_false]at z
    rw[z]at hx
    rcases hx with q|q
    ·cases q
     exact absurd rfl (cg.cell (x,.cell) (PySem.mem_of_lookup e))
    ·cases q
     exact absurd rfl hk
 ·obtain⟨f1,f2⟩:=cg.free i j x a b
  exact⟨f1,cg.fr (x,.free) (PySem.mem_of_lookup f2) rfl,rel x f2⟩
theorem sE{elt tg iter:Expr}{ifs:List Expr}{pos:Pos}{wi:TI}{g:TG}{tt:TT}{te:TE}(cg:Cf X N scope jx)(hc:X.calm=true)(hi:PI X tg iter wi)
  (hg:∀ cl C s₀ H₀ ex pn,PG (lP X N scope cl C s₀ H₀ ex pn) tg g) (ht:∀ cl C s₀ H₀ ex pn,HZ (lP X N scope cl C s₀ H₀ ex pn) ifs tt) (he:∀ cl C s₀ H₀ ex pn,PE (lP X N scope cl C s₀ H₀ ex pn) elt te)
  (hs:∀ x,foldedSetIterable iter X.env x=pure x:=by intro _;rfl):PE X (.ListComp elt [⟨tg,iter,ifs,0⟩] scope pos) (xq jx wi g tt te):=by
 intro pins s σ H Q I h
 obtain⟨cl,cs⟩:=cg.toF I
 exact Lg cs hc hi (hg cl) (ht cl) (he cl) hs pins s σ H Q I h
theorem M3{elt tg iter:Expr}{ifs:List Expr}{pos pos' pos2:Pos}{wi:TI}{g:TG}{tt:TT}{te:TE}{i:Nat}{x:Str}(cg:Cf X N scope jx)(hc:X.calm=true)(hN:X.N.Nodup)(hix:X.N[i]?=some x)(hx:X.env.scope.names.lookup x=some .local)(hi:PI X tg iter wi)
  (hg:∀ cl C s₀ H₀ ex pn,PG (lP X N scope cl C s₀ H₀ ex pn) tg g) (ht:∀ cl C s₀ H₀ ex pn,HZ (lP X N scope cl C s₀ H₀ ex pn) ifs tt) (he:∀ cl C s₀ H₀ ex pn,PE (lP X N scope cl C s₀ H₀ ex pn) elt te)
  (hsw:swapsWith (.ListComp elt [⟨tg,iter,ifs,0⟩] scope pos) (some (.Name x pos')) pos2.line X.env=pure true:=by rfl)
  (hs:∀ x,foldedSetIterable iter X.env x=pure x:=by intro _;rfl):PS X (.Assign [.Name x pos'] (.ListComp elt [⟨tg,iter,ifs,0⟩] scope pos) pos2) (Mx (xq jx wi g tt te) (vH i)):=by
 intro pins s σ H D I h
 obtain⟨cl,cs⟩:=cg.toF I
 exact M1 cs hc hN hix hx hi (hg cl) (ht cl) (he cl) hsw hs pins s σ H D I h
end
end cX
namespace cX
open PySem PySem.Spec PyProof.Rows L2
section
variable {X:Cx} {N:List Str} {scope:Scope} {cl:List (Str × Addr)} {jx:List (Option Nat)}
def E1(J:It)(acc:Addr)(g:TG)(tt:TT)(GJ:TI)(g2:TG)(GK:TT)(te:TE)(σ0:L2.St)(H:Hp)(Q:VK):Prop :=
 ∃ W:Nat→Nat→L2.St→Hp→Prop,(∃ m,W 0 m σ0 H)∧∀ i m σ H,W i m σ H →
  (J.stop i H∧Q (.ref acc) H)∨(J.go i H∧∃ Nx:L2.St→Hp→Prop,(∀ σ' H',Nx σ' H'→∃ m',m'<m∧W (i+1) m' σ' H')∧∀ x H',J.Kn i H x H'→g x σ H' fun σ2 H2=>tt σ2 H2 fun b H3 =>
   if b=true then GI GJ acc g2 GK te σ2 H3 Nx else Nx σ2 H3)
def Ii(jx:List (Option Nat))(wi:TI)(g:TG)(tt:TT)(GJ:TI)(g2:TG)(GK:TT)(te:TE):TE:=fun σ H Q=>wi σ H fun J H1=>∀ acc,H1 acc=none→E1 J acc g tt GJ g2 GK te (uT jx σ) (upd H1 acc (.lst [])) Q
theorem GL{elt tg iter rQ dm:Expr}{ifs kj:List Expr}{pos pos':Pos}{wi GJ:TI}{g g2:TG}{tt GK:TT}{te:TE}(cs:Cd X N scope cl jx)(hc:X.calm=true)(hi:PI X tg iter wi)
  (hg:∀ C s₀ H₀ ex pn,PG (lP X N scope cl C s₀ H₀ ex pn) tg g) (ht:∀ C s₀ H₀ ex pn,HZ (lP X N scope cl C s₀ H₀ ex pn) ifs tt) (hi2:∀ C s₀ H₀ ex pn,PI (lP X N scope cl C s₀ H₀ ex pn) rQ dm GJ) (hg2:∀ C s₀ H₀ ex pn,PG (lP X N scope cl C s₀ H₀ ex pn) rQ g2) (Ij:∀ C s₀ H₀ ex pn,HZ (lP X N scope cl C s₀ H₀ ex pn) kj GK) (he:∀ C s₀ H₀ ex pn,PE (lP X N scope cl C s₀ H₀ ex pn) elt te)
  (hs:∀ x,foldedSetIterable iter X.env x=pure x) (hs2:∀ (env:Env) x,foldedSetIterable dm env x=pure x) {use:Option (Value→Sem Unit)} {Q':Value→Shared→Prop} {Q:VK} {pins:List (Addr × Obj)} {s:Shared} {σ:L2.St} {H:Hp} (I:Inv X pins σ H s) (h:Ii jx wi g tt GJ g2 GK te σ H Q)
  (fin:∀ (s3:Shared) (H3:Hp) (fp:List Addr) (acc:Addr) (σ6:L2.St) (H6:Hp) (s7:Shared),Inv X pins σ H3 s3→(∀ b∈fp,pR X pins H3 b)→Inv (lP X N scope cl s3.heap.objs.size s3 H3 fp (X.pn++pins)) [] σ6 H6 s7→Q (.ref acc) H6 →
   compPost (model X.prog X.w) X.A X.xe use Q' (.ref acc) s3.heap.objs.size (.ok .next) s7) :
  wpAny (model X.prog X.w) X.A (comprehension (.ListComp elt [⟨tg,iter,ifs,0⟩,⟨rQ,dm,kj,0⟩] scope pos) scope X.env pos' (newList []) false (eval iter X.env) use) Q' X.xe s:=by
 refine wpAny_comprehension_free (use:=use) rfl hs cs.clos cs.kind cs.names (cE (hi pins s σ H _ I h) fun v s1 h1=>cE h1 fun itv s2 h2=>?_)
 obtain⟨it,fp,tn,J,H2,e,I2,T,st2,f2,q⟩:=h2
 subst e
 refine wpAny_newObj_type (hd:=by size_fits) ?_
 have hacc:H2 s2.heap.objs.size=none:=I2.hok.fresh (jj _)
 have I3:Inv X pins σ (upd H2 s2.heap.objs.size (.lst [])) { s2 with heap:=s2.heap.push { cls:=.type "list",data:=.seq ([]:List Value).toArray },toks:=s2.toks }:=I2.Kz (ys:=[]) .nil (Nat.zero_le _)
 have N9:∀ b∈fp,b<s2.heap.objs.size:=fun b hb=>by
  obtain⟨o,ho,_⟩:=T.obj _ _ st2 b hb
  exact Heap.lt_size ho
 have f3:∀ b∈fp,pR X pins (upd H2 s2.heap.objs.size (.lst [])) b:=fun b hb=>⟨by rw[aM (kO (N9 b hb))];exact (f2 b hb).1,(f2 b hb).2⟩
 have k3:∀ b o,s2.heap.get? b=some o→(s2.heap.push { cls:=.type "list",data:=.seq ([]:List Value).toArray }).get? b=some o:=fun b o e=>Heap.get?_push_of_some _ e
 have q3:=q _ hacc
 generalize RZ:({ s2 with heap:=s2.heap.push { cls:=.type "list",data:=.seq ([]:List Value).toArray },toks:=s2.toks }:Shared)=s3 at I3
 generalize hH3:upd H2 s2.heap.objs.size (.lst [])=H3 at I3 f3 q3
 have Oa:s3.heap=s2.heap.push { cls:=.type "list",data:=.seq ([]:List Value).toArray }:=by rw[← RZ]
 have EJ:∀ b∈fp,b<s3.heap.objs.size:=fun b hb=>by rw[Oa,Heap.size_push];exact Nat.lt_succ_of_lt (N9 b hb)
 have st3:tn 0 s3.heap:=T.keep _ _ _ st2 fun b _ o e=>by rw[Oa];exact k3 b o e
 show wpAny _ _ _ _ _ s3
 refine wpAny_newFunctionEnv cs.cell (fun y hy=>by simp at hy) (fun h₁ hns K3=>?_) cs.kind
 have kh:∀ b o,s3.heap.get? b=some o→h₁.get? b=some o:=fun b o e=>K3.extBut _ _ (kO (Heap.lt_size e)) (Heap.get?_push_of_some _ e)
 have J0:Inv (lP X N scope cl s3.heap.objs.size s3 H3 fp (X.pn++pins)) [] (uT jx σ) H3 { s3 with heap:=h₁,toks:=s3.toks+([]:List (Str × Value)).length }:=yi cs I3 f3 EJ hns kh
 have Ob:tn 0 h₁:=T.keep _ _ _ st3 fun b _ o e=>kh b o e
 obtain⟨W,⟨m0,w0⟩,turn⟩:=q3
 have qG:∀ {H':Hp},(∀ b∈fp,H' b=none)→∀ b∈fp,pR (lP X N scope cl s3.heap.objs.size s3 H3 fp (X.pn++pins)) [] H' b:=fun hn b hb=>by
  refine⟨hn b hb,kO (EJ b hb),fun z=>?_,.inl hb,fun x c e=>(f3 b hb).2.2.2.2.1 x c (cs.sub x c e),fun p hp=>?_⟩
  ·rcases List.mem_cons.mp (I3.qF b z) with e|e
   ·exact (f3 b hb).2.1 e
   ·exact (f3 b hb).2.2.1 e
  ·have J7:p∈X.pn++pins:=by
    have z:p∈(X.pn++pins)++[]:=hp
    simpa using z
   exact (f3 b hb).2.2.2.2.2 p J7
 have loop:∀ s5:Shared,s5={ s3 with heap:=h₁,toks:=s3.toks+([]:List (Str × Value)).length }→codeAny (model X.prog X.w) X.A (.compLoop (.ListComp elt [⟨tg,iter,ifs,0⟩,⟨rQ,dm,kj,0⟩] scope pos) 0 (.ref it) (.ref s2.heap.objs.size) (lP X N scope cl s3.heap.objs.size s3 H3 fp (X.pn++pins)).env)
   (compPost (model X.prog X.w) X.A X.xe use Q' (.ref s2.heap.objs.size) s3.heap.objs.size) s5:=by
  rintro s5 rfl
  refine MT (fun n s'=>∃ i σ' H',Inv (lP X N scope cl s3.heap.objs.size s3 H3 fp (X.pn++pins)) [] σ' H' s'∧tn i s'.heap∧(∀ b∈fp,H' b=none)∧W i n σ' H') (hs2 _) ?_ m0 ⟨0,_,H3,J0,Ob,fun b hb=>(f3 b hb).1,w0⟩
  rintro n s6 ⟨i,σ6,H6,I6,K4,Jm,w6⟩
  rcases turn i n σ6 H6 w6 with ⟨stop,qn⟩|⟨go,Nx,hN,step⟩
  ·refine cE (T.done (lP X N scope cl s3.heap.objs.size s3 H3 fp (X.pn++pins)) rfl rfl rfl hc i [] s6 σ6 H6 _ I6 (qG Jm) K4 stop) fun r s7 ⟨hr,I7⟩=>?_
   subst hr
   exact fin s3 H3 fp _ σ6 H6 s7 I3 f3 I7 qn
  ·refine cE (T.item (lP X N scope cl s3.heap.objs.size s3 H3 fp (X.pn++pins)) rfl rfl rfl hc i [] s6 σ6 H6 _ I6 (qG Jm) K4 go) fun r s7 ⟨u,hr,h7⟩=>?_
   subst hr
   refine cE h7 fun _ s8 ⟨x,H8,I8,r8,y8,GH,Jo⟩=>?_
   have Pz:=I8.pinned (qG Jo) (T.obj _ _ GH)
   refine cE (hg _ _ _ _ _ _ s8 σ6 H8 x u _ Pz r8 (step x H8 y8)) fun _ s9 ⟨σ9,H9,I9,q9⟩=>?_
   refine cE (ht _ _ _ _ _ _ s9 σ9 H9 _ I9 q9) fun ok Me ⟨Bg,K5,yy⟩=>?_
   have again:∀ {σ7:L2.St} {H7:Hp} {nO:Shared},Inv (lP X N scope cl s3.heap.objs.size s3 H3 fp (X.pn++pins)) ([]++rY fp s8.heap) σ7 H7 nO→Nx σ7 H7→∃ m,m<n∧∃ i σ' H',Inv (lP X N scope cl s3.heap.objs.size s3 H3 fp (X.pn++pins)) [] σ' H' nO∧tn i nO.heap∧(∀ b∈fp,H' b=none)∧W i m σ' H':=fun {σ7 H7 nO} I7 n7=>by
    obtain⟨m',hm,w7⟩:=hN σ7 H7 n7
    refine⟨m',hm,i+1,σ7,H7,I7.nU,T.keep _ _ _ GH fun b hb o e=>(I7.pin (b,o) (oY _ (oY _ (ig hb e)))).1,fun b hb=>?_,w7⟩
    obtain⟨o,e,d⟩:=T.obj _ _ GH b hb
    exact (I7.pin (b,o) (oY _ (oY _ (ig hb e)))).2.1
   cases ok with
   | false =>
    rw[if_neg uo]at yy
    exact again K5 yy
   | true =>
    rw[if_pos rfl]at yy
    refine cE (Jp (Y:=lP X N scope cl s3.heap.objs.size s3 H3 fp (X.pn++pins)) hc rfl (hi2 _ _ _ _ _) (hg2 _ _ _ _ _) (Ij _ _ _ _ _) (he _ _ _ _ _) K5 yy) fun x nO h11=>cE h11 fun Sf s12 h12=>codeAny_mono h12 fun r Dc ⟨hr,σ',H',I13,n13⟩=>⟨hr,again I13 n13⟩
 exact codeAny_compStart_list (loop _ rfl) (T.self _ _ _ _ _ Ob (loop _ rfl))
theorem Jv{elt tg iter rQ dm:Expr}{ifs kj:List Expr}{pos:Pos}{wi GJ:TI}{g g2:TG}{tt GK:TT}{te:TE}(cg:Cf X N scope jx)(hc:X.calm=true)(hi:PI X tg iter wi)
  (hg:∀ cl C s₀ H₀ ex pn,PG (lP X N scope cl C s₀ H₀ ex pn) tg g) (ht:∀ cl C s₀ H₀ ex pn,HZ (lP X N scope cl C s₀ H₀ ex pn) ifs tt)
  (hi2:∀ cl C s₀ H₀ ex pn,PI (lP X N scope cl C s₀ H₀ ex pn) rQ dm GJ) (hg2:∀ cl C s₀ H₀ ex pn,PG (lP X N scope cl C s₀ H₀ ex pn) rQ g2) (Ij:∀ cl C s₀ H₀ ex pn,HZ (lP X N scope cl C s₀ H₀ ex pn) kj GK) (he:∀ cl C s₀ H₀ ex pn,PE (lP X N scope cl C s₀ H₀ ex pn) elt te)
  (hs:∀ x,foldedSetIterable iter X.env x=pure x:=by intro _;rfl) (hs2:∀ (env:Env) x,foldedSetIterable dm env x=pure x:=by intro _ _;rfl) :
  PE X (.ListComp elt [⟨tg,iter,ifs,0⟩,⟨rQ,dm,kj,0⟩] scope pos) (Ii jx wi g tt GJ g2 GK te):=by
 intro pins s σ H Q I h
 obtain⟨cl,cs⟩:=cg.toF I
 rw[eval_ListComp]
 refine GL (use:=none) cs hc hi (hg cl) (ht cl) (hi2 cl) (hg2 cl) (Ij cl) (he cl) hs hs2 I h fun s3 H3 fp acc σ6 H6 s7 I3 f3 I7 qn=>?_
 obtain⟨m,hm,_⟩:=I7.loc
 exact⟨m,hm,fun h' K3=>⟨.ref acc,H6,xo I3 (xm I3 f3 I7) I7.free K3,rfl,qn⟩⟩
theorem E2{K:PySem.W.Frag}{a acc:Addr}{xs:List V}{g:TG}{tt:TT}{GJ:TI}{g2:TG}{GK:TT}{te:TE}{σ0:L2.St}{H:Hp}{Q:VK}(Pv:Nat→L2.St→Hp→Prop)(h0:Pv 0 σ0 H)(hl:∀ i σ H,i≤xs.length→Pv i σ H→b8 K H a xs)
  (hs:∀ i x σ H,xs[i]?=some x→Pv i σ H→g x σ H fun σ2 H2=>tt σ2 H2 fun b H3=>if b=true then GI GJ acc g2 GK te σ2 H3 (Pv (i+1)) else Pv (i+1) σ2 H3)
  (hd:∀ σ H,Pv xs.length σ H→Q (.ref acc) H):E1 (Kp K a) acc g tt GJ g2 GK te σ0 H Q:=by
 refine⟨fun i m σ H=>m=xs.length-i∧i≤xs.length∧Pv i σ H,⟨xs.length,by simp,Nat.zero_le _,h0⟩,?_⟩
 rintro i m σ H ⟨rfl,hi,p⟩
 have q:=hl i σ H hi p
 by_cases hlt:i<xs.length
 ·refine .inr ⟨⟨xs,xs[i],q,by simp[hlt]⟩,Pv (i+1),fun σ' H' p'=>⟨xs.length-(i+1),by omega,rfl,hlt,p'⟩,fun x H' y=>?_⟩
  obtain⟨e,y⟩:=y
  subst e
  exact hs i x σ _ (y xs q) p
 ·have e:i=xs.length:=by omega
  subst e
  exact .inl ⟨⟨xs,q,jj _⟩,hd σ H p⟩
theorem GN{K:PySem.W.Frag}{a acc:Addr}{xs:List V}{g:TG}{tt:TT}{te:TE}{σ:L2.St}{H:Hp}{Nx:L2.St→Hp→Prop}(Pv:Nat→L2.St→Hp→Prop)(h0:Pv 0 σ H)(hl:∀ i σ H,i≤xs.length→Pv i σ H→b8 K H a xs)
  (hs:∀ i x σ H,xs[i]?=some x→Pv i σ H→g x σ H fun σ2 H2=>tt σ2 H2 fun b H3=>if b=true then te σ2 H3 fun v H4=>∃ ys,H4 acc=some (.lst ys)∧ys.length<sizeLine∧Pv (i+1) σ2 (upd H4 acc (.lst (ys++[v]))) else Pv (i+1) σ2 H3)
  (hd:∀ σ H,Pv xs.length σ H→Nx σ H):∃ W:Nat→Nat→L2.St→Hp→Prop,(∃ m,W 0 m σ H)∧∀ i m σ H,W i m σ H →
  ((Kp K a).stop i H∧Nx σ H)∨((Kp K a).go i H∧∃ N2:L2.St→Hp→Prop,(∀ σ' H',N2 σ' H'→∃ m',m'<m∧W (i+1) m' σ' H')∧∀ x H',(Kp K a).Kn i H x H'→g x σ H' fun σ2 H2=>tt σ2 H2 fun b H3 =>
   if b=true then te σ2 H3 fun v H4=>∃ xs,H4 acc=some (.lst xs)∧xs.length<sizeLine∧N2 σ2 (upd H4 acc (.lst (xs++[v]))) else N2 σ2 H3):=by
 refine⟨fun i m σ H=>m=xs.length-i∧i≤xs.length∧Pv i σ H,⟨xs.length,by simp,Nat.zero_le _,h0⟩,?_⟩
 rintro i m σ H ⟨rfl,hi,p⟩
 have q:=hl i σ H hi p
 by_cases hlt:i<xs.length
 ·refine .inr ⟨⟨xs,xs[i],q,by simp[hlt]⟩,Pv (i+1),fun σ' H' p'=>⟨xs.length-(i+1),by omega,rfl,hlt,p'⟩,fun x H' y=>?_⟩
  obtain⟨e,y⟩:=y
  subst e
  exact hs i x σ _ (y xs q) p
 ·have e:i=xs.length:=by omega
  subst e
  exact .inl ⟨⟨xs,q,jj _⟩,hd σ H p⟩
end
end cX
namespace cX
open PySem PySem.Spec PyProof.Rows L2
open AutoSeq1 (wpAny_loadPart')
section
variable {prog:Program} {w:World} {A:Around} {E:Value→Shared→Prop} {s:Shared} {κ:Type} [DecidableEq κ] {knd:KeyKind prog w κ}
theorem Jw{d:Addr}{Q:Bool→Shared→Prop}(hT:s.TypeIs (.ref d) "dict")(h:Q false s):wpAny (model prog w) A (Builtin.List.listLengthHint (.ref d)) Q E s:=by
 unfold Builtin.List.listLengthHint
 refine wpAny_bind (wpAny_specialOf hT F.slot_dict_len.lookup ?_)
 generalize hid:("dict.__len__":String)=id0
 wp_delta
 rw[show splitId id0=some ("dict","__len__") by subst hid;decide +kernel]
 subst hid
 refine wpAny_bind (wpAny_isInstance (T:="dict") (b:=true) hT (by rw[isSubtype_type];kernel_rfl) ?_)
 refine wpAny_ite_split (fun q=>absurd q (by decide)) fun _=>?_
 refine wpAny_ite_split (fun _=>?_) fun q=>absurd (by decide +kernel) q
 exact wpAny_bind (wpAny_typeOf hT (wpAny_pure h))
theorem E3{R:Result→Shared→Prop}{d:Addr}{kvs:List (κ × Value)}{ep:Nat}(hh:A.handled=none)(hs:(d == sysModules)=false)(hd:s.heap.DictAt knd d kvs ep)(hlen:kvs.length≤sizeLine)(S:Addr)(res:Value)(c₀:Nat)(hS:s.heap.get? S=some { cls:=.type "list",data:=.seq #[] c₀ })
  (hR:∀ h' tk acc' c',(∀ b o,b≠S→s.heap.get? b=some o→h'.get? b=some o)→h'.get? S=some { cls:=.type "list",dict:=none,data:=.seq acc' c',slots:=#[] } →
   ItemsOf (fun i v=>∃ k x,kvs[i]?=some (k,x)∧knd.is k v=true) acc' kvs.length→R (.ok (.ret res)) { s with heap:=h',toks:=tk }) :
  wpAny (model prog w) A.in1 (Builtin.List.listExtendWith (.ref S) (.ref d) res)
   (fun fin s'=>match fin with|.done f=>R (.ok f) s'|.again c'=>c'.quiet=true∧codeAny (model prog w) A c' R s') (fun e s'=>R (.error e) s') s:=by
 have hT:s.TypeIs (.ref d) "dict":=by
  obtain⟨o,es,ho,hx,_⟩:=hd
  exact⟨o,ho,hx.1⟩
 have hSd:S≠d:=fun e=>by
  obtain⟨o,es,ho,hx,hda,_⟩:=hd
  rw[← e,hS]at ho
  cases ho
  cases hda
 have acs:S<s.heap.objs.size:=Heap.lt_size hS
 have acu:d<s.heap.objs.size:=by
  obtain⟨o,es,ho,_⟩:=hd
  exact Heap.lt_size ho
 have hSI:S≠s.heap.objs.size:=kO acs
 have hdI:d≠s.heap.objs.size:=kO acu
 have W:=(Walks.dictKeys (prog:=prog) (w:=w) (A:=A.in1) (knd:=knd) hh s.heap.objs.size d hdI kvs ep).toS
 unfold Builtin.List.listExtendWith
 refine wpAny_bind (wpAny_typeOf hT ?_)
 have h1:Builtin.List.listSameRef (.ref S) (.ref d)=false:=by simp[Builtin.List.listSameRef,hSd]
 have h2:(Value.type "dict" == Value.type "list")=false:=by decide
 have h3:(Value.type "dict" == Value.type "tuple")=false:=by decide
 simp only[h1,h2,h3,Bool.or_false,Bool.false_eq_true,if_false]
 refine wpAny_bind (wpAny_pyIter_dict hs hd ?_)
 have hit:(s.heap.push { cls:=.type "dict_keyiterator",data:=.fields #[.ref d,.int 0 0,.int kvs.length 0,.int ep 0] }).IsKeyIter s.heap.objs.size d 0 kvs.length ep:=⟨_,Heap.get?_push_size _ rfl,rfl,rfl⟩
 have grow:∀ b o,s.heap.get? b=some o→(s.heap.push { cls:=.type "dict_keyiterator",data:=.fields #[.ref d,.int 0 0,.int kvs.length 0,.int ep 0] }).get? b=some o:=fun b o e=>Heap.get?_push_of_some _ e
 generalize s.heap.push { cls:=.type "dict_keyiterator",data:=.fields #[.ref d,.int 0 0,.int kvs.length 0,.int ep 0] }=g1 at hit grow
 have hT1:({ s with heap:=g1 }:Shared).TypeIs (.ref d) "dict":=by
  obtain⟨o,ho,hc⟩:=hT
  exact⟨o,grow _ _ ho,hc⟩
 refine wpAny_bind (wpAny_holding (Jw hT1 ?_))
 refine wpAny_ite_split (fun _=>?_) fun q=>absurd (by decide +kernel) q
 refine wpAny_bind (wpAny_rule (wpAny_bind ?_))
 show wpAny _ A.in1 (updateSeq S (fun z=>z.push .none) >>= fun _=>updateSeq S fun z=>z.pop) _ _ _
 have g1S:=grow _ _ hS
 refine wpAny_bind (wpAny_updateSeq g1S rfl ?_)
 have g2S:=Heap.get?_update_self (Obj.mapSeq fun z=>z.push Value.none) g1S rfl
 refine wpAny_updateSeq (hz:=by seq_fits) g2S rfl ?_
 have g3S:=Heap.get?_update_self (Obj.mapSeq fun z=>z.pop) g2S rfl
 have Jx:∀ b o,b≠S→g1.get? b=some o→((g1.update S (Obj.mapSeq fun z=>z.push Value.none)).update S (Obj.mapSeq fun z=>z.pop)).get? b=some o:=fun b o nb e =>
  (Heap.get?_update_other _ _ nb.symm).trans ((Heap.get?_update_other _ _ nb.symm).trans e)
 refine wpAny_pure ⟨plainId_quiet F.plain_extend_loop _,codeAny_extend_loopS W hlen S (fun hm=>?_) res kvs.length 0 _ #[] _ rfl (Nat.zero_le _) ⟨hit.at fun o e=>Jx _ o hSI.symm e,(hd.at' fun o e=>Jx _ o hSd.symm (grow _ o e))⟩ g3S (ItemsOf.nil _) fun s' acc' c' hm hS' hacc=>?_⟩
 ·rcases List.mem_cons.mp hm with e|e
  ·exact hSI e
  ·exact hSd (List.mem_singleton.mp e)
 ·rw[Moved.eq_with hm]
  refine hR s'.heap s'.toks acc' c' (fun b o nb e=>hm.heap b o (fun q=>?_) (Jx b o nb (grow b o e))) hS' hacc
  rcases List.mem_cons.mp q with z|z
  ·exact nb z
  ·exact absurd (Heap.lt_size e) (by rw[List.mem_singleton.mp z];exact Nat.lt_irrefl _)
theorem zT{Q:Value→Shared→Prop}{d:Addr}{kvs:List (κ × Value)}{ep:Nat}(hh:A.handled=none)(hs:(d == sysModules)=false)(hd:s.heap.DictAt knd d kvs ep)(hlen:kvs.length≤sizeLine)
  (hQ:∀ h' tk acc' c',(∀ b o,s.heap.get? b=some o→h'.get? b=some o)→h'.get? s.heap.objs.size=some { cls:=.type "list",dict:=none,data:=.seq acc' c',slots:=#[] } →
   ItemsOf (fun i v=>∃ k x,kvs[i]?=some (k,x)∧knd.is k v=true) acc' kvs.length→Q (.ref s.heap.objs.size) { s with heap:=h',toks:=tk }) :
  wpAny (model prog w) A (call (.type "list") [.ref d]) Q E s:=by
 refine callType_codes (Q₁:=fun u s1=>u=.ref s.heap.objs.size∧s1={ s with heap:=s.heap.push { cls:=.type "list",data:=.seq #[] } }) F.called_list (F.typeCall_list_1 _) F.entry_list_init (code_list_new _ ⟨rfl,rfl⟩) fun u s1 e1=>?_
 obtain⟨rfl,rfl⟩:=e1
 have hS:(s.heap.push { cls:=.type "list",data:=.seq #[] }).get? s.heap.objs.size=some { cls:=.type "list",data:=.seq #[] }:=Heap.get?_push_size _ rfl
 have hd1:(s.heap.push { cls:=.type "list",data:=.seq #[] }).DictAt knd d kvs ep:=hd.at' fun o e=>Heap.get?_push_of_some _ e
 have hdn:d≠s.heap.objs.size:=by
  obtain⟨o,es,ho,_⟩:=hd
  exact kO (Heap.lt_size ho)
 refine⟨⟨_,hS,rfl⟩,F.args_list_init_2 _ _,?_⟩
 show wpAny _ _ (do let old ← Builtin.List.listItems (.ref s.heap.objs.size);Builtin.List.listUpdate (.ref s.heap.objs.size) (fun _=>#[]);letGo old.toList.reverse;Builtin.List.listExtendWith (.ref s.heap.objs.size) (.ref d) .none) _ _ _
 refine wpAny_bind ?_
 unfold Builtin.List.listItems
 refine wpAny_bind (wpAny_seqItems hS rfl (wpAny_pure ?_))
 show wpAny _ _ (updateSeq s.heap.objs.size (fun _=>#[]) >>= fun _=>letGo (#[]:Array Value).toList.reverse >>= fun _=>Builtin.List.listExtendWith (.ref s.heap.objs.size) (.ref d) .none) _ _ _
 refine wpAny_bind (wpAny_updateSeq hS rfl ?_)
 have PY:=Heap.get?_update_self (Obj.mapSeq fun _=>(#[]:Array Value)) hS rfl
 have Jx:∀ b o,b≠s.heap.objs.size→(s.heap.push { cls:=.type "list",data:=.seq #[] }).get? b=some o→((s.heap.push { cls:=.type "list",data:=.seq #[] }).update s.heap.objs.size (Obj.mapSeq fun _=>(#[]:Array Value))).get? b=some o:=fun b o nb e=>(Heap.get?_update_other _ _ nb.symm).trans e
 refine wpAny_bind (wpAny_letGo ?_)
 refine E3 (A:=A.in1) (knd:=knd) hh hs (hd1.at' fun o e=>Jx _ o hdn e) hlen s.heap.objs.size .none _ PY fun h' tk acc' c' hk hS' hacc=>?_
 exact⟨rfl,hQ h' tk acc' c' (fun b o e=>hk b o (kO (Heap.lt_size e)) (Jx b o (kO (Heap.lt_size e)) (Heap.get?_push_of_some _ e))) hS' hacc⟩
end
theorem GO{X:Cx}(hc:X.calm=true):nj X (.type "list") (fun xs H Q=>∃ (d:Addr) (kvs:List (Key × V)),xs=[.ref d]∧H d=some (.dK kvs)∧∀ l,H l=none→Q (.ref l) (upd H l (.lst (kvs.map fun p=>kV p.1)))):=by
 intro pins s σ H xs us Q I r h
 obtain⟨d,kvs,rfl,hd,q⟩:=h
 obtain⟨u,rfl,rx⟩:=r.one
 cases (show u=Value.ref d from rx)
 obtain⟨hz,hs,vs,kv,o,es,ep,ho,hx⟩:=(show gK X.prog X.w H s.heap d (.dK kvs) from I.hok d _ hd)
 have len:=kv.length
 refine zT (I.ok.hd hc) hs ⟨o,es,ho,hx⟩ (by omega) fun h' tk acc' c' hk hS hacc=>?_
 refine⟨.ref s.heap.objs.size,_,I.laid (o:=.lst (kvs.map fun p=>kV p.1)) (t':=tk) hk (jj _) ⟨by rw[dW];exact hz,acc'.toList,c',?_,by simpa using hS⟩,rfl,q _ (I.hok.fresh (jj _))⟩
 have key:∀ (kvs:List (Key × V)) (vs:List (Key × Value)) (us:List Value),KV kvs vs→us.length=vs.length→(∀ (j:Nat) (v:Value),us[j]?=some v→∃ k x,vs[j]?=some (k,x)∧zu k v=true)→Vals (kvs.map fun p=>kV p.1) us:=by
  intro kvs
  induction kvs with
  | nil =>
   intro vs us kv hl _
   cases kv
   cases us with
   | nil=>exact .nil
   | cons=>simp at hl
  | cons p r ih =>
   intro vs us kv hl hp
   cases kv with
   | @cons _ q _ vs' h1 h2 =>
   cases us with
   | nil=>simp at hl
   | cons u us =>
    obtain⟨k,x,e1,e2⟩:=hp 0 u rfl
    have e3:q=(k,x):=by simpa using e1
    subst e3
    refine .cons ?_ (ih vs' us h2 (by simpa using hl) fun j v e=>?_)
    ·show L2.RelV (kV p.1) u
     rw[show p.1=k from h1.1]
     rcases eY e2 with ⟨i,t,rfl,rfl⟩|⟨i,t,rfl,rfl⟩
     ·exact⟨t,rfl⟩
     ·exact⟨t,rfl⟩
    ·obtain⟨k',x',e4,e5⟩:=hp (j+1) v (by simpa using e)
     exact⟨k',x',by simpa using e4,e5⟩
 exact key kvs vs acc'.toList kv (by simpa using hacc.1) fun j v e=>hacc.2 j v (by simpa using e)
end cX
namespace zU
open PySem PySem.Spec PyProof.Rows L2 cX jk
end zU
namespace jk
open PySem PySem.Spec PyProof.Rows L2 cX gu zU
inductive cu{α β:Type}(R:α→β→Prop):List α→List β→Prop
 | nil:cu R [] []
 | cons {a:α} {b:β} {as:List α} {bs:List β}:R a b→cu R as bs→cu R (a::as) (b::bs)
section
variable {α β:Type} {R R':α→β→Prop} {as:List α} {bs:List β} {a:α} {b:β}
theorem cu.len:∀ {as:List α} {bs:List β},cu R as bs→as.length=bs.length
 | _,_,.nil=>rfl
 | _,_,.cons _ t=>by rw[pP,pP,t.len]
theorem cu.get:∀ {as:List α} {bs:List β} {i:Nat},cu R as bs→as[i]?=some a→∃ b,bs[i]?=some b∧R a b
 | _,_,_,.nil,h=>by simp at h
 | _,_,0,.cons r _,h=>by simp at h;subst h;exact⟨_,rfl,r⟩
 | _,_,i+1,.cons _ t,h=>by simp at h;simpa using t.get h
theorem cu.get':∀ {as:List α} {bs:List β} {i:Nat},cu R as bs→bs[i]?=some b→∃ a,as[i]?=some a∧R a b
 | _,_,_,.nil,h=>by simp at h
 | _,_,0,.cons r _,h=>by simp at h;subst h;exact⟨_,rfl,r⟩
 | _,_,i+1,.cons _ t,h=>by simp at h;simpa using t.get' h
theorem cu.snoc:∀ {as:List α} {bs:List β},cu R as bs→R a b→cu R (as++[a]) (bs++[b])
 | _,_,.nil,h=>.cons h .nil
 | _,_,.cons r t,h=>.cons r (t.snoc h)
theorem cu.mono:∀ {as:List α} {bs:List β},(∀ a b,R a b→R' a b)→cu R as bs→cu R' as bs
 | _,_,_,.nil=>.nil
 | _,_,h,.cons r t=>.cons (h _ _ r) (t.mono h)
theorem cu.split:∀ {as:List α} {bs:List β},cu R as (bs++[b])→∃ as' a,as=as'++[a]∧cu R as' bs∧R a b
 | _,[],.cons r .nil=>⟨[],_,rfl,.nil,r⟩
 | _,c::bs,.cons r t=>by
  obtain⟨as',a,rfl,t',r'⟩:=t.split
  exact⟨_::as',a,rfl,.cons r t',r'⟩
end
inductive Item where
 | win (n:Int)
 | aR (a b:Int)
def zV:Item→List V
 | .win n=>[.str "win",.int n]
 | .aR a b=>[.str "ink",.int a,.int b]
def cB(H:Hp)(v:V)(it:Item):Prop:=∃ a,v=.ref a∧H a=some (.tup (zV it))
theorem cB.same{H H':Hp}{v:V}{it:Item}(s:aJ H H'):cB H v it→cB H' v it:=fun ⟨a,e,h⟩=>⟨a,e,s _ _ h⟩
theorem cB.keep{H H':Hp}{v:V}{it:Item}{q:Addr}{xs:List V}(hq:H q=some (.lst xs))(k:eE q H H'):cB H v it→cB H' v it:=fun ⟨a,e,h⟩=>⟨a,e,k a _ h (by
 intro z
 rw[z,hq]at h
 cases h)⟩
def aW(H:Hp)(v:V)(its:List Item):Prop:=∃ a vs,v=.ref a∧H a=some (.lst vs)∧cu (cB H) vs its
theorem aW.same{H H':Hp}{v:V}{its:List Item}(s:aJ H H'):aW H v its→aW H' v its:=fun ⟨a,vs,e,h,t⟩=>⟨a,vs,e,s _ _ h,t.mono fun _ _=>cB.same s⟩
def gV(H:Hp)(r:Addr)(rows:List (List Item)):Prop:=∃ vs,H r=some (.lst vs)∧cu (aW H) vs rows
theorem gV.same{H H':Hp}{r:Addr}{rows:List (List Item)}(s:aJ H H'):gV H r rows→gV H' r rows:=fun ⟨vs,h,t⟩=>⟨vs,s _ _ h,t.mono fun _ _=>aW.same s⟩
theorem cB.eqv{H:Hp}{x y:V}{it:Item}(n:Nat)(h1:cB H x it)(h2:cB H y it):Eqv H (n+2) x y:=by
 obtain⟨a,rfl,e1⟩:=h1
 obtain⟨b,rfl,e2⟩:=h2
 refine .inr ⟨false,a,b,_,_,rfl,rfl,e1,e2,rfl,fun i u v eu ev=>?_⟩
 rw[eu]at ev
 cases ev
 cases it with
 | win n =>
  match i,eu with
  | 0,e=>cases e;exact .inl ⟨rfl,rfl⟩
  | 1,e=>cases e;exact .inl ⟨rfl,rfl⟩
  | k+2,e=>simp[zV]at e
 | aR p q =>
  match i,eu with
  | 0,e=>cases e;exact .inl ⟨rfl,rfl⟩
  | 1,e=>cases e;exact .inl ⟨rfl,rfl⟩
  | 2,e=>cases e;exact .inl ⟨rfl,rfl⟩
  | k+3,e=>simp[zV]at e
theorem aW.eqv{H:Hp}{x y:V}{its:List Item}(n:Nat)(h1:aW H x its)(h2:aW H y its):Eqv H (n+3) x y:=by
 obtain⟨a,vs,rfl,e1,t1⟩:=h1
 obtain⟨b,us,rfl,e2,t2⟩:=h2
 refine .inr ⟨true,a,b,_,_,rfl,rfl,e1,e2,by rw[t1.len,t2.len],fun i u v eu ev=>?_⟩
 obtain⟨z,ez,r1⟩:=t1.get eu
 obtain⟨z',ez',r2⟩:=t2.get ev
 rw[ez]at ez'
 cases ez'
 exact r1.eqv n r2
def aU(t:List Item)(e:Int):List Item :=
 if e<0 then t++[.win (-1-e)] else
 match t.getLast? with
 | some (.aR a b)=>if b=e then t.dropLast++[.aR a (e+1)] else t++[.aR e (e+1)]
 | _=>t++[.aR e (e+1)]
def itemsOf(es:List Int):List Item:=es.foldl aU []
def eV(its:List Item):List Int:=its.filterMap fun it=>match it with|.win n=>some n|.aR _ _=>none
def jg(es:List Int):List Int:=es.filterMap fun e=>if e<0 then some (-1-e) else none
theorem iz(a b:List Item):eV (a++b)=eV a++eV b:=by unfold eV;rw[List.filterMap_append]
theorem Jy(t:List Item)(e:Int):eV (aU t e)=eV t++(if e<0 then [-1-e] else []):=by
 unfold aU
 by_cases h:e<0
 ·rw[if_pos h,if_pos h,iz];rfl
 ·rw[if_neg h,if_neg h,j6]
  rcases uK t with rfl|⟨t',l,rfl⟩
  ·rfl
  ·rw[rM,wN]
   cases l with
   | win n=>simp[iz,eV]
   | aR a b =>
    show eV (if b=e then (t'++[Item.aR a b]).dropLast++[.aR a (e+1)] else (t'++[Item.aR a b])++[.aR e (e+1)])=_
    by_cases hb:b=e
    ·rw[if_pos hb,List.dropLast_concat,iz,iz];rfl
    ·rw[if_neg hb,iz,iz];simp[eV]
theorem Jz(es:List Int):∀ t:List Item,eV (es.foldl aU t)=eV t++jg es:=by
 induction es with
 | nil=>intro t;simp[jg]
 | cons e es ih =>
  intro t
  rw[nR,ih,Jy,oZ]
  unfold jg
  rw[List.filterMap_cons]
  by_cases h:e<0
  ·simp[h]
  ·simp[h]
theorem jE(es:List Int):eV (itemsOf es)=jg es:=by
 unfold itemsOf
 rw[Jz]
 rfl
theorem Cg{es:List Int}{y:Int}:y∈jg es↔0≤y∧-1-y∈es:=by
 unfold jg
 rw[List.mem_filterMap]
 constructor
 ·rintro⟨e,he,h⟩
  by_cases h0:e<0
  ·rw[if_pos h0]at h
   cases h
   exact⟨by omega,by rw[show -1-(-1-e)=e by omega];exact he⟩
  ·rw[if_neg h0]at h
   cases h
 ·rintro⟨h0,h1⟩
  refine⟨-1-y,h1,?_⟩
  rw[if_pos (by omega)]
  congr 1
  omega
theorem tG(es:List Int):∀ t:List Item,(es.foldl aU t).length≤t.length+es.length:=by
 induction es with
 | nil=>intro t;simp
 | cons e es ih =>
  intro t
  rw[nR]
  have z:=ih (aU t e)
  have z2:(aU t e).length≤t.length+1:=by
   unfold aU
   split
   ·simp
   ·split
    ·split
     ·rw[eT,List.length_dropLast,vD];omega
     ·simp
    ·simp
  rw[pP]
  omega
def Ci(rows:gj)(x y:Int):Prop:=0≤x∧∃ es,rows[x.toNat]?=some es∧y∈jg es
inductive Reach(E:Int→Int→Prop)(s:Int):Int→Prop
 | one {y:Int}:E s y→Reach E s y
 | step {y z:Int}:Reach E s y→E y z→Reach E s z
theorem Reach.closed{E:Int→Int→Prop}{s:Int}{S:Int→Prop}(h0:∀ y,E s y→S y)(h1:∀ x y,S x→E x y→S y):∀ {g:Int},Reach E s g→S g
 | _,.one h=>h0 _ h
 | _,.step r h=>h1 _ _ (Reach.closed h0 h1 r) h
def Sound(rows:gj):Prop:=∀ es∈rows,∀ y∈jg es,y<rows.length
theorem Sound.Oe{rows:gj}(h:Sound rows){x y:Int}(e:Ci rows x y):0≤y∧y<rows.length:=by
 obtain⟨_,es,he,hy⟩:=e
 exact⟨(Cg.mp hy).1,h es (nQ he) y hy⟩
def Walk(E:Int→Int→Prop)(s:Int)(w:List Int):Prop:=w[0]?=some s∧∀ (i:Nat) (x y:Int),w[i]?=some x→w[i+1]?=some y→E x y
theorem Walk.one(E:Int→Int→Prop)(s:Int):Walk E s [s]:=⟨rfl,fun i x y _ h=>by simp at h⟩
theorem Walk.snoc{E:Int→Int→Prop}{s e y:Int}{w:List Int}(h:Walk E s w)(hl:w.getLast?=some e)(he:E e y):Walk E s (w++[y]):=by
 obtain⟨h0,h1⟩:=h
 have hw:w≠[]:=by intro z;rw[z]at hl;cases hl
 have hpos:0<w.length:=by cases w with|nil=>exact absurd rfl hw|cons _ _=>simp
 refine⟨by rw[wK hpos];exact h0,fun i x z hx hz=>?_⟩
 by_cases c:i+1<w.length
 ·rw[wK c]at hz
  rw[wK (by omega)]at hx
  exact h1 i x z hx hz
 ·have c2:i+1=w.length:=by
   have:i+1<(w++[y]).length:=by
    rcases Nat.lt_or_ge (i+1) (w++[y]).length with q|q
    ·exact q
    ·rw[List.getElem?_eq_none q]at hz;cases hz
   rw[eT,vD]at this
   omega
  rw[c2,A9 (jj _),Nat.sub_self]at hz
  rw[wK (by omega)]at hx
  rw[List.getLast?_eq_getElem?]at hl
  have:i=w.length-1:=by omega
  rw[this,hl]at hx
  cases hx
  cases hz
  exact he
theorem Walk.reach{E:Int→Int→Prop}{s:Int}{w:List Int}(h:Walk E s w):∀ (i:Nat) (y:Int),w[i+1]?=some y→Reach E s y:=by
 intro i
 induction i with
 | zero=>intro y hy;exact .one (h.2 0 s y h.1 hy)
 | succ i ih =>
  intro y hy
  have:∃ x,w[i+1]?=some x:=by
   rcases Nat.lt_or_ge (i+1) w.length with q|q
   ·exact⟨w[i+1],rL q⟩
   ·rw[List.getElem?_eq_none (by omega)]at hy;cases hy
  obtain⟨x,hx⟩:=this
  exact .step (ih x hx) (h.2 _ _ _ hx hy)
def cnt(n:Nat)(p:Nat→Bool):Nat:=((List.range n).filter p).length
theorem Li(n:Nat){p q:Nat→Bool}(h:∀ i,i<n→p i=q i):cnt n p=cnt n q:=by
 unfold cnt
 rw[List.filter_congr fun i hi=>h i (List.mem_range.mp hi)]
theorem E4(n:Nat)(p:Nat→Bool):cnt (n+1) p=cnt n p+(if p n=true then 1 else 0):=by
 unfold cnt
 rw[List.range_succ,List.filter_append,eT]
 congr 1
 by_cases h:p n=true
 ·rw[if_pos h];simp[h]
 ·rw[if_neg h];simp[h]
theorem E5(j:Nat):∀ (n:Nat) {p q:Nat→Bool},j<n→p j=true→(∀ i,q i=(p i&&decide (i≠j)))→cnt n q+1=cnt n p
 | 0,_,_,h,_,_=>by omega
 | n+1,p,q,h,hj,hq=>by
  rw[E4,E4]
  by_cases e:j=n
  ·subst e
   have z:cnt j q=cnt j p:=Li j fun i hi=>by
    rw[hq i]
    have:decide (i≠j)=true:=by simp;omega
    rw[this,Bool.and_true]
   have z2:q j=false:=by rw[hq j];simp
   rw[z,z2,if_pos hj]
   simp
  ·have ih:=E5 j n (p:=p) (q:=q) (by omega) hj hq
   have z:q n=p n:=by
    rw[hq n]
    have:decide (n≠j)=true:=by simp;omega
    rw[this,Bool.and_true]
   rw[z]
   omega
theorem Lj(n:Nat)(p:Nat→Bool):cnt n p≤n:=by
 unfold cnt
 have:=List.length_filter_le p (List.range n)
 rw[List.length_range]at this
 exact this
def iF(av:Addr→Prop)(H:Hp)(v:V)(es:List Int):Prop:=∃ a,v=.ref a∧¬ av a∧H a=some (.lst (es.map V.int))
theorem iF.keep{av:Addr→Prop}{H H':Hp}{v:V}{es:List Int}(k:∀ a o,¬ av a→H a=some o→H' a=some o):iF av H v es→iF av H' v es:=fun ⟨a,e,n,h⟩=>⟨a,e,n,k a _ n h⟩
def F3(rows:gj):Prop:=∃ rk:Int→Nat,(∀ x,rk x≤40)∧∀ x y,Ci rows x y→rk y<rk x
theorem iF.at{av:Addr→Prop}{H:Hp}{v:V}{es:List Int}{q:Addr}(o:HO)(hq:av q):iF av H v es→iF av (upd H q o) v es:=iF.keep fun a u n e=>by
 rw[aM (fun z=>n (by rw[z];exact hq))]
 exact e
theorem iF.same{av:Addr→Prop}{H H':Hp}{v:V}{es:List Int}(s:aJ H H'):iF av H v es→iF av H' v es:=iF.keep fun a u _ e=>s a u e
def seen(kvs:List (Key × V))(x:Int):Prop:=(cP kvs (Sum.inl x)).isSome=true
def miss(n:Nat)(kvs:List (Key × V)):Nat:=cnt n fun i=>(cP kvs (Sum.inl (i:Int))).isNone
theorem sF{kvs:List (Key × V)}{y x:Int}(v:V):seen (putK kvs (Sum.inl y) v) x↔x=y∨seen kvs x:=by
 unfold seen
 rw[mR]
 by_cases h:x=y
 ·rw[if_pos (by rw[h]),h];simp
 ·rw[if_neg (fun z=>h (Sum.inl.inj z))];simp[h]
theorem E6{n:Nat}{kvs:List (Key × V)}{y:Int}(v:V)(h0:0≤y)(h1:y<n)(hn:cP kvs (Sum.inl y)=none):miss n (putK kvs (Sum.inl y) v)+1=miss n kvs:=by
 refine E5 y.toNat n (by omega) ?_ fun i=>?_
 ·show (cP kvs (Sum.inl (y.toNat:Int))).isNone=true
  rw[show ((y.toNat:Nat):Int)=y by omega,hn]
  rfl
 ·show (cP (putK kvs (Sum.inl y) v) (Sum.inl (i:Int))).isNone=((cP kvs (Sum.inl (i:Int))).isNone&&decide (i≠y.toNat))
  rw[mR]
  by_cases h:(i:Int)=y
  ·rw[if_pos (by rw[h])]
   have:decide (i≠y.toNat)=false:=by simp;omega
   rw[this,Bool.and_false]
   rfl
  ·rw[if_neg (fun z=>h (Sum.inl.inj z))]
   have:decide (i≠y.toNat)=true:=by simp;omega
   rw[this,Bool.and_true]
theorem jZ(lo:Int)(n:Nat):(run lo n).length=n:=by
 induction n generalizing lo with
 | zero=>rfl
 | succ n ih=>rw[run,pP,ih]
theorem GP:∀ {n:Nat} {lo y:Int},y∈run lo n→lo≤y∧y<lo+n
 | 0,_,_,h=>by cases h
 | n+1,lo,y,h=>by
  rcases List.mem_cons.mp h with rfl|z
  ·omega
  ·have:=GP z
   omega
theorem cu.new{H2:Hp}{q t:Addr}{vs:List V}{its:List Item}{it:Item}{ys:List V}(hq2:H2 q=some (.lst ys))(hb:cu (cB H2) vs its)(ht:H2 t=none)(zs:List V) :
  cu (cB (upd (upd H2 t (.tup (zV it))) q (.lst zs))) (vs++[.ref t]) (its++[it]):=by
 have PD:q≠t:=ay hq2 ht
 have s1:aJ H2 (upd H2 t (.tup (zV it))):=ak ht _
 refine cu.snoc (hb.mono fun v i h=>(h.same s1).keep (s1 _ _ hq2) (aN q _ _)) ⟨t,rfl,?_⟩
 rw[aM PD.symm,ah]
end jk
namespace M4
open PySem PySem.Spec PyProof.Rows L2 cX
section
variable {M:Model} {A:Around} {E:Value→Shared→Prop} {s:Shared}
theorem Dd{a b:Value}{Q:Value→Shared→Prop}(ha:s.TypeIs a "list")(hb:s.TypeIs b "list")(hc:wpAny M A (call (.builtin "list.__iadd__") [a,b]) Q E s):wpAny M A (inplaceOp .Add a b) Q E s:=by
 unfold inplaceOp
 refine wpAny_holding ?_
 have hq:isSeqSlot (some (.builtin "list.__iadd__"))=true:=by decide +kernel
 have hfi:fillsInplaceSlot (.type "list") "add" (Operator.Add == .Add)=pure false:=by
  unfold fillsInplaceSlot
  show (typeLookup (.type "list") (dunderI "add") >>= fun fi=>pure (fi.isSome&&!isSeqSlot fi))=pure false
  rw[PySem.F.slot_list_iadd.lookup,pure_bind,hq];rfl
 have hsi:seqSlot? (.type "list") (dunderI "add")=pure (some (.builtin "list.__iadd__")):=PySem.seqSlot_of PySem.F.slot_list_iadd.lookup hq
 refine wpAny_bind (wpAny_typeOf ha (wpAny_bind (wpAny_of_eq hfi ?_)))
 show wpAny M A (if false=true then _ else _) Q E s
 rw[if_neg uo]
 refine wpAny_bind (binaryOp1_none (nm:="add") ha hb PySem.noFill_list_add ?_)
 refine wpAny_bind (wpAny_of_eq hsi ?_)
 exact wpAny_bind (wpAny_rule hc)
end
section
variable {X:Cx}
def Of:V→V→Hp→VK→Prop:=fun x y H Q=>∃ l b xs zs,x=.ref l∧y=.ref b∧H l=some (.lst xs)∧H b=some (.lst zs)∧xs.length+zs.length≤sizeLine∧Q (.ref l) (upd H l (.lst (xs++zs)))
theorem xu:U6 X .Add Of:=by
 intro pins s σ H x y v u Q I rx ry h
 obtain⟨l,b,xs,zs,rfl,rfl,hH,hB,hz,q⟩:=h
 cases rx
 cases ry
 obtain⟨z,its,n,r,hl,e⟩:=I.Et hH
 obtain⟨z2,its2,n2,r2,hl2,e2⟩:=I.Et hB
 have hsz:its.toArray.size+its2.toArray.size≤sizeLine:=by rw[j5,j5];omega
 have KD:¬ (!its.toArray.isEmpty&&Builtin.List.listTooLong (its.toArray.size+its2.toArray.size))=true:=by
  rw[Eu hsz,Bool.and_false]
  exact uo
 refine Dd ⟨_,e,rfl⟩ ⟨_,e2,rfl⟩ ?_
 refine call_meets PySem.F.slot_list_iadd ⟨_,e,rfl⟩ PySem.F.entry_list_iadd (PySem.F.args_list_iadd_2 _ _)
  (AutoSeq1.list___iadd___list_list_0 l its.toArray n b its2.toArray n2 KD (by rw[j5];omega) (by omega)) ⟨e,e2,?_⟩
 refine⟨.ref l,_,I.MH (its':=its++its2) hH e (by simp) (r.append r2) ?_,rfl,q⟩
 rw[eT]
 omega
section
variable {N:List Str} {scope:Scope} {cl:List (Str × Addr)} {C:Addr} {s₀:Shared} {H₀:Hp} {ex:List Addr} {pn:List (Addr × Obj)}
theorem GQ:nj (lP X N scope cl C s₀ H₀ ex pn) (.type "list") (Pj X.K):=jD
end
theorem GR:RA X .Add Of:=fun pins s σ H x y u v Q I rx ry h=>xu pins s σ H x y u v Q I rx ry h
end
theorem M5{p q A B T:Prop} [Decidable p] [Decidable q] (w:p→(if decide q=true then A else B)→T) (h1:p∧q→A) (h2:¬ (p∧q)→B):if decide p=true then T else (if false=true then A else B):=by
 by_cases a:p
 ·rw[if_pos (decide_eq_true a)]
  by_cases b:q
  ·exact w a (by rw[if_pos (decide_eq_true b)];exact h1 ⟨a,b⟩)
  ·exact w a (by rw[decide_eq_false b,if_neg uo];exact h2 fun z=>b z.2)
 ·rw[decide_eq_false a,if_neg uo,if_neg uo]
  exact h2 fun z=>a z.1
theorem PZ{p q A B T:Prop} [Decidable p] [Decidable q] (w:(if decide q=true then A else B)→T) (h1:p∧q→A) (h2:¬ (p∧q)→B):if decide p=true then T else (if false=true then A else B):=M5 (fun _=>w) h1 h2
end M4
namespace jk
open PySem PySem.Spec PyProof.Rows L2 cX gu zU
def rE(r:Row):Prop:=∀ p∈r,0≤p.1∧p.1≤p.2
def lX(r:Row):Prop:=∀ p∈r,0≤p.1∧p.1<p.2
theorem Cj{t:Row}{s e:Int}(h:lX t)(h0:0≤s)(h1:s<e):lX (grow t s e):=by
 have add:lX (t++[(s,e)]):=fun p hp=>by
  rcases List.mem_append.mp hp with z|z
  ·exact h p z
  ·rw[List.mem_singleton.mp z];exact⟨h0,h1⟩
 unfold grow
 rcases uK t with rfl|⟨t',l,rfl⟩
 ·exact add
 ·rw[rM]at h add ⊢
  rw[wN]
  show lX (if l.2=s then (t'++[l]).dropLast++[(l.1,e)] else t'++[l]++[(s,e)])
  by_cases c:l.2=s
  ·rw[if_pos c,List.dropLast_concat]
   intro p hp
   rcases List.mem_append.mp hp with z|z
   ·exact h p (List.mem_append_left _ z)
   ·have:=h l (by simp)
    rw[List.mem_singleton.mp z]
    exact⟨this.1,by show l.1<e;omega⟩
  ·rw[if_neg c]
   exact add
theorem xx{r:Row}(h:rE r):lX (cF r):=by
 have z:∀ (r t:Row),rE r→lX t→lX (r.foldl dO t):=by
  intro r
  induction r with
  | nil=>intro t _ g;exact g
  | cons p r ih =>
   intro t h g
   rw[nR]
   refine ih _ (fun q hq=>h q (tY _ hq)) ?_
   unfold dO
   have hp:=h p (by simp)
   by_cases c:p.1=p.2
   ·rw[if_pos c];exact g
   ·rw[if_neg c];exact Cj g hp.1 (by omega)
 exact z r [] h fun p hp=>by cases hp
theorem JA{ns:List Int}(h:∀ x∈ns,0≤x):lX (rowOf ns):=by
 have z:∀ (ns:List Int) (t:Row),(∀ x∈ns,0≤x)→lX t→lX (ns.foldl (fun t n=>grow t n (n+1)) t):=by
  intro ns
  induction ns with
  | nil=>intro t _ g;exact g
  | cons n ns ih =>
   intro t h g
   rw[nR]
   exact ih _ (fun x hx=>h x (tY _ hx)) (Cj g (h n (by simp)) (by omega))
 exact z ns [] h fun p hp=>by cases hp
theorem lX.nn{r:Row}(h:lX r):rE r:=fun p hp=>⟨(h p hp).1,by have:=(h p hp).2;omega⟩
theorem De(a b:Int):∀ (r:Row) (h:Int),rE r→rE (o7 a b h r)
 | [],_,_=>fun p hp=>by cases hp
 | q::r,h,g=>by
  intro p hp
  rw[o7]at hp
  rcases List.mem_append.mp hp with z|z
  ·have gq:=g q (by simp)
   refine⟨?_,Lb a b h q p z⟩
   unfold La at z
   split at z
   ·rw[List.mem_singleton.mp z]
    show 0≤q.1+max (a-h) 0
    omega
   ·cases z
  ·exact De a b r _ (fun x hx=>g x (tY _ hx)) p z
end jk
namespace M6
open PySem PySem.Spec PyProof.Rows L2 cX
end M6
namespace jk
open PySem PySem.Spec PyProof.Rows L2 cX gu zU M6
end jk
namespace jk
open PySem PySem.Spec PyProof.Rows L2 cX gu zU M6
def Ris(r:Row):Prop:=r.Pairwise (fun p q=>p.2<q.1)∧∀ p∈r,p.1<p.2
end jk
namespace jk
open PySem PySem.Spec PyProof.Rows L2 cX gu zU M6
end jk
namespace jk
open PySem PySem.Spec PyProof.Rows L2 cX gu zU M4
structure aI(K:PySem.W.Frag)(C:Addr)(m qual:Str)(st:Stmt)(ps:List Str)(a:Addr)(d:FuncData):Prop where
 F:iJ K m qual st a d
 b:Binds K d ps []
 mt:Meth K C m a
structure ClsAt(K:PySem.W.Frag)(mg:Str→Option Value)(x:Str)(C fi:Addr):Prop where
 cl:AZ K C
 m:mg x=some (.ref C)
 QU:Mk K C fi
structure qR(K:PySem.W.Frag)(mg:Str→Option Value)(x:Str)(C:Addr):Prop where
 m:mg x=some (.ref C)
 x:PySem.W.excIn K C [.type "ValueError",.type "Exception",.type "BaseException",.type "object"] "ValueError.__new__"=true
 h:PySem.W.exmOne K (.ref C) (.ref C)=some true
end jk
namespace jk
open PySem L2 cX gu
section
variable {K:PySem.W.Frag} {mg:Str→Option Value} {h:Heap} {x qual:Str} {st:Stmt} {f C:Addr} {ps:List Str}
theorem DI.d(q:DI K x st f)(X:K.In h)(G:h.Ns mainGlobals mg)(b:∀ (kV doc pm:Value) (an:Option Addr) (cdv ct:Value) (us:List Value),us.length=ps.length→bindArgs (PySem.W.fnOf x x (pB st) (mw st) (az st) .none kV doc pm an cdv ct) ⟨us,[]⟩=pure (ps.zip us)):∃ fd,aF K mg x st ps f fd:=by
 obtain⟨a,l,c,k⟩:=q
 have F:=GA l c k
 exact⟨_,F,F.binds b,PySem.W.mg_of X G a⟩
theorem MI.d(q:MI K C x qual st f)(b:∀ (kV doc pm:Value) (an:Option Addr) (cdv ct:Value) (us:List Value),us.length=ps.length→bindArgs (PySem.W.fnOf x qual (pB st) (mw st) (az st) .none kV doc pm an cdv ct) ⟨us,[]⟩=pure (ps.zip us)):∃ fd,aI K C x qual st ps f fd:=by
 obtain⟨a,i,l,c,k⟩:=q
 have F:=GA l c k
 exact⟨_,F,F.binds b,⟨a,i,k⟩⟩
theorem CI.d{fi:Addr}(q:CI K x C)(X:K.In h)(G:h.Ns mainGlobals mg)(m:Meth K C "__init__" fi):ClsAt K mg x C fi:=by
 obtain⟨a,pg,hd,po,sa,mk,kc⟩:=q
 obtain⟨a1,i1,k1⟩:=m
 exact⟨⟨pg,hd,po,sa⟩,PySem.W.mg_of X G a,⟨mk,a1,i1,kc⟩⟩
theorem XI.d(q:XI K x C)(X:K.In h)(G:h.Ns mainGlobals mg):qR K mg x C:=by
 obtain⟨a,b,c⟩:=q
 exact⟨PySem.W.mg_of X G a,b,c⟩
end
section
variable {p:List Value→Prop}
theorem za(h:∀ a,p [a]):∀ us:List Value,us.length=1→p us
 | [a],_=>h a
theorem vC(h:∀ a b,p [a,b]):∀ us:List Value,us.length=2→p us
 | [a,b],_=>h a b
theorem GS(h:∀ a b c,p [a,b,c]):∀ us:List Value,us.length=3→p us
 | [a,b,c],_=>h a b c
theorem Og(h:∀ a b c d,p [a,b,c,d]):∀ us:List Value,us.length=4→p us
 | [a,b,c,d],_=>h a b c d
end
end jk
namespace cX
open PySem PySem.Spec PyProof.Rows L2
theorem zW{α β:Type}{F:α→β→Prop}:∀ {xs:List α} {ys:List β} {i:Nat} {x:α},Paired F xs ys→xs[i]?=some x→∃ y,ys[i]?=some y∧F x y
 | _,_,_,_,.nil,e=>by simp at e
 | _,_,0,_,.cons r _,e=>by simp at e;subst e;exact⟨_,rfl,r⟩
 | _,_,i+1,x,.cons _ t,e=>by
  obtain⟨y,h1,h2⟩:=zW (i:=i) (x:=x) t (by simpa using e)
  exact⟨y,by simpa using h1,h2⟩
theorem yj{α β:Type}{F:α→β→Prop}:∀ {xs:List α} {ys:List β} {i:Nat} {y:β},Paired F xs ys→ys[i]?=some y→∃ x,xs[i]?=some x∧F x y
 | _,_,_,_,.nil,e=>by simp at e
 | _,_,0,_,.cons r _,e=>by simp at e;subst e;exact⟨_,rfl,r⟩
 | _,_,i+1,y,.cons _ t,e=>by
  obtain⟨x,h1,h2⟩:=yj (i:=i) (y:=y) t (by simpa using e)
  exact⟨x,by simpa using h1,h2⟩
end cX
namespace cX
open PySem PySem.Spec PyProof.Rows L2 jk zU
def P0(td ty tx:TE):TE:=fun σ H Q=>td σ H fun x H1=>∃ a,x=.ref a∧IsD H1 a∧ty σ H1 fun y H2=>tx σ H2 fun z H3=>∃ kvs k,H3 a=some (.dK kvs)∧y=kV k∧kvs.length<sizeLine ∧
 (∀ v,cP kvs k=some v→Q v H3)∧(cP kvs k=none→Q z (upd H3 a (.dK (putK kvs k z))))
theorem Lk{X:Cx}{o e f:Expr}{apos cpos:Pos}{td ty tx:TE}(ho:PE X o td)(he:PE X e ty)(hf:PE X f tx)(m:M2 X o "setdefault" apos e f cpos):PE X (.Call (.Attribute o "setdefault" apos) [e,f] [] cpos) (P0 td ty tx):=by
 intro pins s σ H Q I h
 refine wpAny_Call_method m.base m.few m.line PySem.F.plainAttrs_dict PySem.F.slot_dict_setdefault PySem.F.type_dict_setdefault (cE (ho pins s σ H _ I h) fun u s1 ⟨x,H1,I1,rx,a,ex,d,q1⟩=>?_)
 subst ex
 obtain rfl:u=Value.ref a:=rx
 obtain⟨t1,t2,_⟩:=PX I1 d
 refine⟨t1,t2,?_⟩
 rw[m.trees]
 refine Calls.callWith_builtin rfl (Calls.evalArgs_plain (Calls.spliced_cons (cE (he pins s1 σ H1 _ I1 q1) fun iv s2 ⟨y,H2,I2,ry,q2⟩ =>
  Calls.spliced_cons (cE (hf pins s2 σ H2 _ I2 q2) fun fv s3 ⟨z,H3,I3,rz,kvs,k,ea,ey,hlen,g1,g2⟩=>Calls.spliced_nil ?_))))
 subst ey
 obtain⟨hz,hd,vs,rel,dd⟩:=Od I3.hok ea
 have len:=rel.length
 refine call_meetsIn PySem.F.slot_dict_setdefault dd.typeIs PySem.F.entry_dict_setdefault (PySem.F.args_dict_setdefault_3 _ _ _) (kt_meets_setdefault (iQ X.prog X.w) a (EU ry) hd fv) ⟨vs,dd,by omega,fun v hv=>?_,fun hn h' PU hs=>?_⟩
 ·have r:=rel.val k
  rw[hv]at r
  cases ev:cP kvs k with
  | none=>rw[ev]at r;exact (show False from r).elim
  | some w =>
   rw[ev]at r
   exact⟨w,H3,I3.tok _,r,g1 w ev⟩
 ·have r:=rel.val k
  rw[hn]at r
  cases ev:cP kvs k with
  | some w=>rw[ev]at r;exact (show False from r).elim
  | none =>
   have hl:(putK kvs k z).length≤sizeLine:=by have:=kI kvs k z;omega
   have he':∃ q,h'.get? a=some q:=let ⟨q,_,_,hq,_⟩:=PU;⟨q,hq⟩
   exact⟨z,_,C7 I3 (by rw[ea];exact True.intro) hs he' (Le hl hd (rel.put k rz) PU),rz,g2 ev⟩
end cX
namespace cX
open PySem PySem.Spec PyProof.Rows L2
end cX
namespace cX
open PySem PySem.Spec PyProof.Rows L2 jk zU
end cX
namespace gu
open PySem PySem.Spec PyProof.Rows PySem.W L2
section
variable {X:Cx} {o:Expr} {m:Str} {ps:List Str} {f C:Addr} {fd:FuncData} {k:Nat} {sp:Sp} {e:Expr} {es:List Expr} {ta:TE} {t:TA} {apos pos:Pos} {E:XK} {pl:Sem Bool}
theorem Ll{pins:List (Addr × Obj)}{σ:L2.St}{H:Hp}{s:Shared}{Q:VK}{E':Value→Shared→Prop}(ho:PE X.En o ta)(c:AZ X.K C)(hm:Meth X.K C m f)(hb:Binds X.K fd ps [])(G:aH X.prog X.w X.K X.mg X.base (iM X.prog X.w) k f fd ps sp)(hr:j9 k X.A)(ha:PA X.En (e::es) t)(I:Inv X pins σ H s)
  (h:ta σ H fun x H1=>∃ a dx fs,x=.ref a∧H1 a=some (.ins C dx fs)∧fs.lookup m=none∧t σ H1 fun vs H2=>sp (x::vs) H2 Q E) (hE:∀ H1 s1 e s',Inv X pins σ H1 s1→iM X.prog X.w X.stack H1 s1 E e s'→E' e s')
  (he:starEach (e::es) X.env=(false,eval e X.env)::starEach es X.env) (hpl:(backTo pos (starEach es X.env)).any (·.1)=false)
  (ht:eval (.Call (.Attribute o m apos) (e::es) [] pos) X.env=(do
   let ov ← eval o X.env
   standAt apos.atName
   let (f,first) ← holding [ov] (getMethod ov m pl)
   callWith pos f first (backTo pos (starEach (e::es) X.env)) (backToKw pos (keywordEach [] X.env)))):wpAny (model X.prog X.w) X.A (eval (.Call (.Attribute o m apos) (e::es) [] pos) X.env) (EP X pins σ Q) E' s:=by
 refine PySem.W.methodCall_KW (pl:=pl) (wpAny_mono (ho pins s σ H _ (I.wQ _) h) (fun u s1 ⟨x,H1,I1,rx,a,dx,fs,ex,ea,l,q⟩=>?_) fun _ _ z=>False.elim z) ht
 subst ex
 obtain rfl:u=Value.ref a:=rx
 have I1:=I1.m5
 refine uN I1 ea c hm l ?_
 refine PySem.W.callWith_K (first:=[.ref a]) (h₀:=X.base) I.ok.mod.QM hm.kp (wpAny_mono (ha pos pins s1 σ H1 _ (I1.wQ _) q) (fun us s2 ⟨vs,H2,I2,r,q2⟩=>⟨I2.m5.vE,?_⟩) fun _ _ z=>False.elim z) he hpl
 have I2:=I2.m5
 have r2:Vals (.ref a::vs) (Value.ref a::us):=.cons rfl r
 have hl:((Value.ref a::us)++[]).length=ps.length:=by rw[j6,← r2.length];exact G.len _ _ _ _ q2
 have B:=hb s2 (.ref a::us) I2.vE hl
 rw[j6]at B
 refine wpAny_call (codeAny_mono (G.run X.A X.stack s2 H2 ⟨.ref a::us,[]⟩ (.ref a::us) (.ref a::vs) Q E hr I2.Pc B r2 q2) fun r s' hq=>?_)
 cases r with
 | error e=>exact hE H2 s2 e s' I2 hq
 | ok fl =>
  cases fl with
  | ret u=>exact I2.after hq
  | next=>exact False.elim hq
  | brk=>exact False.elim hq
  | cont=>exact False.elim hq
end
end gu
namespace cX
open PySem PySem.Spec PyProof.Rows L2 gu
def M7(c:Nat):V:=.str ⟨#[c]⟩
def txt(cs:List Nat):Str:=⟨cs.toArray⟩
theorem uU(x:Str):txt x.cps.toList=x:=by cases x;rfl
theorem qS(cs:List Nat):(txt cs).length=cs.length:=by show (cs.toArray).size=_;simp
theorem M8{a b:List Nat}(h:txt a=txt b):a=b:=by
 have e:=congrArg (fun x:Str=>x.cps.toList) h
 simpa [txt] using e
theorem all_range:∀ bs:List Bool,(List.range bs.length).all (fun i=>bs.getD i false)=bs.all id
 | []=>rfl
 | b::bs=>by
  rw[pP,List.range_succ_eq_map,List.all_cons,List.all_map,List.all_cons,← all_range bs]
  rfl
section
variable {X:Cx}
theorem Bh(hc:X.calm=true):nj X (.type "list") (fun xs H Q=>∃ cs:List Nat,xs=[.str (txt cs)]∧cs.length≤sizeLine∧∀ l,H l=none→Q (.ref l) (upd H l (.lst (cs.map M7)))):=by
 intro pins s σ H xs us Q I r h
 obtain⟨cs,rfl,hz,q⟩:=h
 obtain⟨u,rfl,t,rfl⟩:=r.one
 refine call_list_str (I.ok.hd hc) (txt cs) t (hn:=by show cs.toArray.size≤_;simpa using hz) fun h' tk acc' c' hk hS hacc=>?_
 refine⟨.ref s.heap.objs.size,_,I.laid (o:=.lst (cs.map M7)) (t':=tk) hk (jj _) ⟨by rw[dW];exact hz,acc'.toList,c',?_,by simpa using hS⟩,rfl,q _ (I.hok.fresh (jj _))⟩
 have key:∀ (cs:List Nat) (us:List Value),us.length=cs.length→(∀ (j:Nat) (v:Value),us[j]?=some v→∃ c u,cs[j]?=some c∧v=Value.str ⟨#[c]⟩ u)→Vals (cs.map M7) us:=by
  intro cs
  induction cs with
  | nil=>intro us hl _;cases us with
   | nil=>exact .nil
   | cons=>simp at hl
  | cons c cs ih=>intro us hl hp;cases us with
   | nil=>simp at hl
   | cons u us =>
    obtain⟨c',t',e1,e2⟩:=hp 0 u rfl
    refine .cons ?_ (ih us (by simpa using hl) fun j v e=>by simpa using hp (j+1) v (by simpa using e))
    have:c=c':=by simpa using e1
    subst this
    exact⟨t',e2⟩
 refine key cs acc'.toList (by have:=hacc.1;simpa [txt] using this) fun j v e=>?_
 obtain⟨c,u,e1,e2⟩:=hacc.2 j v (by simpa using e)
 exact⟨c,u,by simpa [txt] using e1,e2⟩
theorem JB(hc:X.calm=true):nj X (.builtin "all") (fun xs H Q=>∃ (p:Addr) (bs:List Bool),xs=[.ref p]∧b8 X.K H p (bs.map V.bl)∧Q (.bl (bs.all id)) H):=by
 intro pins s σ H xs us Q I r h
 obtain⟨p,bs,rfl,hq,q⟩:=h
 obtain⟨u,rfl,rx⟩:=r.one
 cases (show u=Value.ref p from rx)
 obtain⟨its,rv,pl,hz⟩:=I.list hq
 have len:=rv.length
 rw[dW]at len
 have hpl:=pl.isList
 have plt:p<s.heap.objs.size:=by
  obtain⟨o,ho,_⟩:=hpl
  exact Heap.lt_size ho
 refine call_all_walk (wpAny_pyIter_list hpl ?_)
 refine⟨s.heap.objs.size,[s.heap.objs.size,p],[s.heap.objs.size],its.toArray.size,_,_,fun i=>bs.getD i false,rfl,Walks.list (A:=X.A.in1) (I.ok.hd hc) s.heap.objs.size p (kO plt) its.toArray,⟨⟨_,Heap.get?_push_size _ rfl,rfl,rfl⟩,hpl.at fun o e=>Heap.get?_push_of_some _ e⟩,fun i v s' Q' E' hP hQ=>?_,fun h' tk hk=>?_⟩
 ·have hv:its[i]?=some v:=by simpa using hP
  obtain⟨x,ex,er⟩:=yj rv hv
  rw[uq]at ex
  obtain⟨b,eb,rfl⟩:=Option.map_eq_some_iff.mp ex
  cases (show v=Value.bool b from er)
  refine wpAny_truthy_bool ?_
  have e:bs.getD i false=b:=by rw[List.getD_eq_getElem?_getD,eb];rfl
  have hQ':Q' (bs.getD i false) s':=hQ
  rw[e]at hQ'
  exact hQ'
 ·have e:(List.range its.toArray.size).all (fun i=>bs.getD i false)=bs.all id:=by
   rw[j5,← len]
   exact all_range bs
  rw[e]
  exact⟨.bl (bs.all id),H,I.kept fun b o e=>hk b o (fun z=>by rw[List.mem_singleton.mp z]at e;exact absurd (Heap.lt_size e) (Nat.lt_irrefl _)) (Heap.get?_push_of_some _ e),rfl,q⟩
def Lm(r r' r2:R2)(ta tb tc td:TE):TE:=fun σ H Q=>ta σ H fun x H1=>tb σ H1 fun y H2=>r x y H2 fun z H3=>∃ k,z=.bl k ∧
 (if k=true then tc σ H3 fun u H4=>r' y u H4 fun z' H5=>∃ k',z'=.bl k'∧(if k'=true then td σ H5 fun v H6=>r2 u v H6 Q else Q (.bl false) H5) else Q (.bl false) H3)
theorem JC{op op' PM:CmpOp}{r r' r2:R2}{a b c d:Expr}{ta tb tc td:TE}{pos:Pos}(ho:vI X (compareOp op) r)(ho':vI X (compareOp op') r')(ho2:vI X (compareOp PM) r2)(ha:PE X a ta)(hb:PE X b tb)(hc:PE X c tc)(hd:PE X d td)
  (hm:lastMarks [op,op',PM] [b,c,d]=false:=by with_unfolding_all rfl):PE X (.Compare a [op,op',PM] [b,c,d] pos) (Lm r r' r2 ta tb tc td):=by
 intro pins s σ H Q I h
 refine Compare_chain (cE (ha pins s σ H _ I h) fun v s1 ⟨x,H1,I1,r1,q1⟩=>chain_link (cE (hb pins s1 σ H1 _ I1 q1) fun u s2 ⟨y,H2,I2,r2',q2⟩ =>
  cE (ho pins s2 σ H2 x y v u _ I2 r1 r2' q2) fun z s3 ⟨z',H3,I3,r3,k,e,q3⟩=>?_)) hm
 subst e
 cases r3
 refine wpAny_truthy_bool ?_
 cases k with
 | false=>exact ite_ff ⟨.bl false,H3,I3,rfl,q3⟩
 | true =>
  refine ite_tt (chain_link (cE (hc pins s3 σ H3 _ I3 q3) fun v4 s4 ⟨x4,H4,I4,r4,q4⟩=>cE (ho' pins s4 σ H4 y x4 u v4 _ I4 r2' r4 q4) fun z5 s5 ⟨x5,H5,I5,r5,k5,e5,q5⟩=>?_))
  subst e5
  cases r5
  refine wpAny_truthy_bool ?_
  cases k5 with
  | false=>exact ite_ff ⟨.bl false,H5,I5,rfl,q5⟩
  | true=>exact ite_tt (chain_last (cE (hd pins s5 σ H5 _ I5 q5) fun v6 s6 ⟨x6,H6,I6,r6,q6⟩=>ho2 pins s6 σ H6 x4 x6 v4 v6 Q I6 r4 r6 q6))
end
end cX
namespace cX
open PySem PySem.Spec PyProof.Rows L2 gu jk
section
variable {X:Cx}
theorem Df(a b:List Nat):txt a++txt b=txt (a++b):=by
 show (⟨a.toArray++b.toArray⟩:Str)=⟨(a++b).toArray⟩
 simp
end
end cX
namespace uV
open PySem
end uV
namespace uV
open PySem PySem.Spec PyProof.Rows
end uV
namespace uV
open PySem PySem.Spec PyProof.Rows
end uV
namespace uV
open PySem PySem.Spec PyProof.Rows
end uV
namespace uV
open PySem PySem.Spec PyProof.Rows
end uV
namespace uV
open PySem PySem.Spec PyProof.Rows
end uV
namespace uV
open PySem PySem.Spec PyProof.Rows
end uV
namespace uV
open PySem PySem.Spec PyProof.Rows L2
end uV
namespace jf
open PySem PySem.Spec PyProof.Rows L2 cX PySem.Builtin PySem.Builtin.Str
theorem tH(cs:List Nat):(txt cs).cps.toList=cs:=by simp[txt]
def jn(c:Nat):pO→List Nat
 | []=>[]
 | [x]=>x
 | x::y::r=>x++c::jn c (y::r)
theorem Ln(c:Nat):∀ ps:pO,Str.join ⟨#[c]⟩ (ps.map txt)=txt (jn c ps)
 | []=>rfl
 | [x]=>rfl
 | x::y::r=>by
  show txt x++⟨#[c]⟩++Str.join ⟨#[c]⟩ ((y::r).map txt)=_
  rw[Ln c (y::r)]
  refine ext_toList ?_
  rw[tH]
  show ((txt x).cps++#[c]++(txt (jn c (y::r))).cps).toList=_
  rw[Array.toList_append,Array.toList_append,tH,tH]
  simp[jn]
end jf
namespace jf
open PySem PySem.Spec PyProof.Rows L2 cX PySem.Builtin PySem.Builtin.Str
section
variable {X:Cx}
theorem Ck:∀ {ys:List Str} {us:List Value},Vals (ys.map V.str) us→StrsAre us ys
 | [],_,.nil=>.nil
 | _::_,_,.cons r t=>by
  obtain⟨t',rfl⟩:=r
  exact .cons _ t' (Ck t)
theorem E7:Ue X "str.join" (fun x xs H Q=>∃ (l:Addr) (c:Nat) (ps:pO),x=.str ⟨#[c]⟩∧xs=[.ref l]∧H l=some (.lst (ps.map fun w=>V.str (txt w)))∧(ps.map List.length).sum+ps.length≤1000000∧Q (.str (txt (jn c ps))) H):=by
 intro pins s σ H x xs v us Q I rx rs h
 obtain⟨l,c,ps,rfl,rfl,hl,hz,q⟩:=h
 obtain⟨t,rfl⟩:=rx
 obtain⟨u,rfl,ru⟩:=rs.one
 cases (show u=Value.ref l from ru)
 obtain⟨its,rv,pl,_⟩:=I.list (b8.of (K:=X.K) hl)
 have rv':Vals ((ps.map txt).map V.str) its:=by rw[List.map_map];exact rv
 refine join_list pl.isList (Ck rv') ?_ fun t' k=>?_
 ·rw[List.map_map,dW]
  have e1:(⟨#[c]⟩:Str).length=1:=rfl
  have e2:ps.map ((fun x:Str=>x.length) ∘ txt)=ps.map List.length:=List.map_congr_left fun p _=>qS p
  rw[e1,e2]
  omega
 ·have e:Txt.join ⟨#[c]⟩ (ps.map txt)=txt (jn c ps):=by
   show glued _ _=_
   rw[StrLaws.glued_eq_join,Ln]
  rw[e]
  exact⟨.str (txt (jn c ps)),H,I.tok _,⟨t',rfl⟩,q⟩
abbrev Up:=L2.St→Hp→Str→(Str→Hp→Prop)→Prop
def QV(X:Cx)(es:List Expr)(m:Nat)(t:Up):Prop:=∀ (pins:List (Addr × Obj)) (s:Shared) (σ:L2.St) (H:Hp) (out:Str) (Q:Str→Hp→Prop),L2.Inv X pins σ H s→t σ H out Q→out.length+m≤1000000 →
 wpAny (model X.prog X.w) X.A (joinParts out (evalEach es X.env)) (fun u s'=>∃ x tk H',u=.str x tk∧L2.Inv X pins σ H' s'∧Q x H') X.xe s
theorem M9:QV X [] 0 (fun _ H out Q=>Q out H):=fun pins s σ H out Q I h hl =>
 joinParts_nil ⟨out,_,H,rfl,I.tok _,h⟩ (mJ (Nat.lt_of_le_of_lt hl (by decide)))
theorem Na{x:Str}{j:Nat}{pos:Pos}{es:List Expr}{m:Nat}{t:Up}(h:QV X es m t):QV X (.Constant (.str x) j pos::es) (x.length+m) (fun σ H out Q=>t σ H (out++x) Q):=by
 intro pins s σ H out Q I q hl
 refine joinParts_consE (joinParts_cons (Calls.Constant_str ?_))
 have z:=gu.yY (y:=x) hl (jj _)
 exact⟨z.1,h pins _ σ H _ Q (I.tok _) q z.2⟩
theorem Ik{e:Expr}{te:TE}{pos:Pos}{es:List Expr}{m:Nat}{t:Up}(he:PE X e te)(h:QV X es m t):QV X (.FormattedValue e (-1) none pos::es) (1921+m) (fun σ H out Q=>te σ H fun v H1=>∃ i:Int,v=.int i∧i.natAbs.log2<1920∧t σ H1 (out++Str.ofString (toString i)) Q):=by
 intro pins s σ H out Q I q hl
 refine joinParts_consE (joinParts_cons (FormattedValue_plain (cE (he pins s σ H _ I q) fun v s1 ⟨x,H1,I1,r1,i,e1,hi,q1⟩=>?_)))
 subst e1
 obtain⟨tk,rfl⟩:=r1
 refine formatField_int_small hi ?_
 have z:=gu.yY (y:=Str.ofString (toString i)) hl (int_text_len_1921 hi)
 exact⟨z.1,h pins _ σ H1 _ Q (I1.tok _) q1 z.2⟩
theorem Lo{v1 v2:Expr}{rest:List Expr}{pos:Pos}{m:Nat}{t:Up}(h:QV X (v1::v2::rest) m t)(hm:m≤1000000:=by decide +kernel):PE X (.JoinedStr (v1::v2::rest) pos) (fun σ H Q=>t σ H Str.empty fun x H1=>Q (.str x) H1):=by
 intro pins s σ H Q I q
 refine JoinedStr_many (cE (h pins s σ H Str.empty _ I q (by show 0+m≤_;omega)) fun u s1 ⟨x,tk,H1,e,I1,q1⟩=>?_)
 subst e
 exact⟨.str x,H1,I1,⟨_,rfl⟩,q1⟩
end
end jf
namespace jf
open PySem PySem.Spec PyProof.Rows L2 cX PySem.Builtin PySem.Builtin.Str
end jf
namespace jf
open PySem PySem.Spec PyProof.Rows L2 cX PySem.Builtin PySem.Builtin.Str jk
def dg(n:Int):List Nat:=(Nat.toDigits 10 n.toNat).map Char.toNat
theorem zb{n:Int}(h:0≤n):Str.ofString (toString n)=txt (dg n):=by
 refine ext_toList ?_
 rw[tH]
 obtain⟨m,rfl⟩:∃ m:Nat,n=(m:Int):=⟨n.toNat,by omega⟩
 exact PySem.W.KIN.signs_num m
theorem GU{n:Int}(h0:0≤n)(h1:n<10^60):(dg n).length≤60:=by
 have:=toString_length_le h0 (k:=60) (by decide) h1
 rw[zb h0,qS]at this
 exact this
end jf
namespace Lp
open PySem PySem.Spec PyProof.Rows PySem.W L2 cX gu
end Lp
namespace Lp
open PySem PySem.Spec PyProof.Rows PySem.W L2 cX gu
end Lp
namespace jf
open PySem PySem.Spec PyProof.Rows L2 cX PySem.Builtin PySem.Builtin.Str jk
end jf
namespace Lp
open PySem PySem.Spec PyProof.Rows PySem.W L2 cX gu
end Lp
namespace E8
open PySem PySem.Spec PyProof.Rows L2 cX gu jk
end E8
namespace E8
open PySem PySem.Spec PyProof.Rows L2 cX gu jk PySem.W
section
variable {X:Cx}
theorem So{e:Expr}{te:TE}{pos pos':Pos}(he:PE X e te):PE X (.JoinedStr [.FormattedValue e (-1) none pos] pos') (fun σ H Q=>te σ H fun v H1=>(∃ i:Int,v=.int i∧i.natAbs.log2<1920∧Q (.str (Str.ofString (toString i))) H1)∨∃ cs:List Nat,v=.str (txt cs)∧cs.length≤100000∧Q (.str (txt cs)) H1):=by
 intro pins s σ H Q I q
 refine JoinedStr_one (FormattedValue_plain (cE (he pins s σ H _ I q) fun v s1 ⟨x,H1,I1,r1,h1⟩=>?_))
 rcases h1 with ⟨i,rfl,hi,q1⟩|⟨cs,rfl,hc,q1⟩
 ·obtain⟨tk,rfl⟩:=r1
  exact formatField_int_small hi ⟨.str _,H1,I1.tok _,⟨_,rfl⟩,q1⟩
 ·obtain⟨tk,rfl⟩:=r1
  exact formatField_str (fun t' k=>⟨.str _,H1,I1.tok _,⟨_,rfl⟩,q1⟩) (by rw[qS];exact lO hc (by decide))
end
end E8
namespace E8
open PySem PySem.Spec PyProof.Rows L2 cX gu jk jf PySem.Builtin PySem.Builtin.Str
end E8
namespace E8
open PySem PySem.Spec PyProof.Rows L2 cX PySem.Builtin PySem.Builtin.Str jk
end E8
namespace gu
open PySem PySem.Spec PyProof.Rows PySem.W L2
structure Hd where
 y:Str
 C:Addr
 b0:Stmt
 bs:List Stmt
 np:Pos
 hp:Pos
 t:TS
abbrev Hd.st(h:Hd):ExceptHandler:=.ExceptHandler (some (.Name h.y h.np)) none (h.b0::h.bs) h.hp
structure Hd.Ok(X:Cx)(h:Hd):Prop where
 m:X.mg h.y=some (.ref h.C)
 g:Gl X h.y
 d:(h.y == ("__debug__":Str))=false
 b:∀ a,FZ (PL X a) (h.b0::h.bs) h.t
def takes(K:PySem.W.Frag)(c:Value):List Hd→Ends→L2.St→Hp→Prop
 | [],_,_,_=>False
 | h::r,D,σ,H=>(exmOne K c (.ref h.C)=some true∧h.t D σ H)∨(exmOne K c (.ref h.C)=some false∧takes K c r D σ H)
section
variable {X:Cx} {pins:List (Addr × Obj)} {σ:L2.St} {H:Hp} {s:Shared} {a:Addr}
theorem clauses{hs:List Hd}{D:Ends}{e:Value}{s':Shared}(hst:X.stack=X.env::X.outer)(hf:X.env.frame=some X.env.locals)(ok:∀ h∈hs,h.Ok X)(I:Inv X pins σ H s)(h:iM X.prog X.w X.stack H s (fun c _ H2=>takes X.K c hs D σ H2) e s') :
  wpAny (model X.prog X.w) X.A (noteFrame e X.env) (fun _ s₂=>wpAny (model X.prog X.w) X.A (setFlight e none) (fun _ s₃=>wpAny (model X.prog X.w) X.A (handleBy e X.env (hs.map Hd.st)) (SP X pins D) X.xe s₃) X.xe s₂) X.xe s':=by
 obtain⟨a,T,c,a0,H2,rfl,⟨os,bare⟩,u,hok,F,q⟩:=h
 have I1:Inv X pins σ H2 s':=I.BD (ch:=[]) os u hok bare (fun b z=>absurd z (by simp))
 have G0:=zP F I1.stack
 have G0':Heap.FlyingW (hideAll s'.heap (a::T::frs X.stack)) (X.env::X.outer) a c a0 s'.heap:=by
  have z:=G0
  rw[hst]at z
  rw[hst]
  exact z
 refine wpAny_looks_onW (I.ok.frames.trans (by rw[hst])) hf G0' fun h4 held k4=>wpAny_landsW held fun h5 fl5 k5=>?_
 have I5:Inv X pins σ H2 { s' with heap:=h5 }:=EN I os bare u hok F fl5 (k4.trans k5)
 obtain⟨ob,hob,hcl⟩:=fl5.there
 have LT:Looks (model X.prog X.w) h5 (typeOf (.ref a)) c:=hcl ▸ (Looks.ld hob).andThen .now
 clear G0 G0'
 induction hs with
 | nil=>exact False.elim q
 | cons h r ih =>
  have o:=ok h uL
  refine wpAny_handleBy_cons (codeAny_handlers_test (vG (X:=PL X a) (inH I5 a) o.g o.m ?_ o.d)) (by intro z;cases z)
  rcases q with ⟨hx,q⟩|⟨hn,q⟩
  ·refine (exm_one (M:=model X.prog X.w) I5.vE LT hx).here ?_
   refine codeAny_handlers_suite (lands_againW fl5 fun h6 fl6 k6=>?_)
   have I6:Inv X pins σ H2 { s' with heap:=h6 }:=EN I os bare u hok F fl6 ((k4.trans k5).trans k6)
   exact wpAny_mono (o.b a pins _ σ H2 D (inH I6 a) q) (fun fl s2 z=>spH I6.ok z) fun _ _ z=>False.elim z
  ·refine (exm_one (M:=model X.prog X.w) I5.vE LT hn).here ?_
   exact ih (fun g hg=>ok g (tY _ hg)) q
abbrev Uq:=L2.St→Hp→VK→XK→Prop
def PEx(X:Cx)(e:Expr)(t:Uq):Prop:=∀ (pins:List (Addr × Obj)) (s:Shared) (σ:L2.St) (H:Hp) (Q:VK) (E:XK),Inv X pins σ H s→t σ H Q E →
 wpAny (model X.prog X.w) X.A (eval e X.env) (EP X pins σ Q) (fun e s'=>∃ H1 s1,Inv X pins σ H1 s1∧iM X.prog X.w X.stack H1 s1 E e s') s
variable {x m:Str} {st:Stmt} {ps:List Str} {f C:Addr} {fd:FuncData} {j k:Nat} {sp:Sp} {e o:Expr} {es:List Expr} {ta:TE} {t:TA} {p apos pos:Pos} {pl:Sem Bool}
def P1(C:Addr)(m:Str)(sp:Sp)(ta:TE)(t:TA):Uq:=fun σ H Q E=>ta σ H fun x H1=>∃ a dx fs,x=.ref a∧H1 a=some (.ins C dx fs)∧fs.lookup m=none∧t σ H1 fun vs H2=>sp (x::vs) H2 Q E
theorem Il(ho:PE X.En o ta)(c:AZ X.K C)(hm:Meth X.K C m f)(hb:Binds X.K fd ps [])(G:aH X.prog X.w X.K X.mg X.base (iM X.prog X.w) k f fd ps sp)(hr:j9 k X.A)(ha:PA X.En (e::es) t)
  (he:starEach (e::es) X.env=(false,eval e X.env)::starEach es X.env:=by rfl) (hpl:(backTo pos (starEach es X.env)).any (·.1)=false:=by rfl)
  (ht:eval (.Call (.Attribute o m apos) (e::es) [] pos) X.env=(do
   let ov ← eval o X.env
   standAt apos.atName
   let (f,first) ← holding [ov] (getMethod ov m pl)
   callWith pos f first (backTo pos (starEach (e::es) X.env)) (backToKw pos (keywordEach [] X.env))):=by rfl):PEx X (.Call (.Attribute o m apos) (e::es) [] pos) (P1 C m sp ta t):=fun pins s σ H Q E I q =>
 Ll (pl:=pl) ho c hm hb G hr ha I q (fun H1 s1 e s' I1 z=>⟨H1,s1,I1,z⟩) he hpl ht
abbrev QW:=Ends→L2.St→Hp→XK→Prop
abbrev XP(X:Cx)(pins:List (Addr × Obj))(σ:L2.St)(E:XK):Value→Shared→Prop:=fun e s'=>∃ H1 s1,Inv X pins σ H1 s1∧iM X.prog X.w X.stack H1 s1 E e s'
def QX(X:Cx)(st:Stmt)(t:QW):Prop:=∀ (pins:List (Addr × Obj)) (s:Shared) (σ:L2.St) (H:Hp) (D:Ends) (E:XK),Inv X pins σ H s→t D σ H E→wpAny (model X.prog X.w) X.A (exec st X.env) (SP X pins D) (XP X pins σ E) s
variable {te:Uq} {i:Nat} {z:Str} {pos':Pos} {c:Expr} {tc:TT} {tx ty:QW} {a b:Stmt} {hs:List Hd}
def Sq(i:Nat)(te:Uq):QW:=fun D σ H E=>te σ H (fun v H1=>D.nx (σ.set i (some v)) H1) E
theorem Im(hN:X.N.Nodup)(hi:X.N[i]?=some z)(hz:Loc X.env.scope z)(he:PEx X e te)(hs:swapsWith e (some (.Name z pos')) pos.line X.env=pure false:=by rfl)(hf:X.fn z=true∨X.env.scope.names.lookup z=some .local:=by first|exact .inl rfl|exact .inr rfl|assumption) :
  QX X (.Assign [.Name z pos'] e pos) (Sq i te):=by
 intro pins s σ H D E I h
 refine wpAny_Assign_Name (cE (he pins s σ H _ E I h) fun v s1 ⟨y,H1,I1,r1,q1⟩=>?_) hs
 exact vF I1 hN hi hz r1 (fun s2 I2=>⟨_,H1,I2,q1⟩) hf
def acw(tc:TT)(tx ty:QW):QW:=fun D σ H E=>tc σ H fun b H1=>if b=true then tx D σ H1 E else ty D σ H1 E
theorem P4(hc:PT X.En c tc)(ha:QX X a tx)(hb:QX X b ty):QX X (.If c [a] [b] pos) (acw tc tx ty):=by
 intro pins s σ H D E I h
 refine wpAny_If (wpAny_mono (hc pins s σ H _ (I.wQ _) h) (fun d s1 ⟨H1,I1,q1⟩=>?_) fun _ _ z=>False.elim z)
 have I1:=I1.m5
 cases d with
 | true=>exact wpAny_execs_cons (cE (ha pins s1 σ H1 D E I1 q1) fun f s2 z=>by cases f <;> first | exact wpAny_execs_nil z | exact z)
 | false=>exact wpAny_execs_cons (cE (hb pins s1 σ H1 D E I1 q1) fun f s2 z=>by cases f <;> first | exact wpAny_execs_nil z | exact z)
def Oh(K:PySem.W.Frag)(tx:QW)(hs:List Hd):TS:=fun D σ H=>tx D σ H (fun c _ H2=>takes K c hs D σ H2)
theorem Nb{h0:Hd}(ha:QX X a tx)(ok:∀ h∈h0::hs,h.Ok X)(hst:X.stack=X.env::X.outer:=by rfl)(hf:X.env.frame=some X.env.locals:=by rfl) :
  PS X (.Try [a] (h0.st::hs.map Hd.st) [] [] pos) (Oh X.K tx (h0::hs)):=by
 intro pins s σ H D I h
 refine wpAny_Try_except (wpAny_execs_cons (wpAny_mono (ha pins s σ H D _ I h) (fun f s1 z=>?_) fun e s' ⟨H1,s1,I1,z⟩=>?_))
 ·cases f with
  | next=>exact wpAny_execs_nil (wpAny_execs_nil z)
  | brk=>exact z
  | cont=>exact z
  | ret u=>exact z
 ·exact clauses hst hf ok I1 z
def Ur(X:Cx)(hl:List ExceptHandler)(hs:List Hd):Prop:=hl=hs.map Hd.st∧∀ h∈hs,h.Ok X
theorem Nc:Ur X [] []:=⟨rfl,fun _ z=>by cases z⟩
theorem zX{y:Str}{Cy:Addr}{b0:Stmt}{bs:List Stmt}{np hp:Pos}{tb:TS}{hl:List ExceptHandler}(hm:X.mg y=some (.ref Cy))(hb:∀ a,FZ (PL X a) (b0::bs) tb)(r:Ur X hl hs)(g:Gl X y:=by rfl)(d:(y == ("__debug__":Str))=false:=by decide) :
  Ur X (.ExceptHandler (some (.Name y np)) none (b0::bs) hp::hl) (⟨y,Cy,b0,bs,np,hp,tb⟩::hs):=by
 refine⟨by rw[r.1];rfl,fun h m=>?_⟩
 rcases List.mem_cons.mp m with z|z
 ·rw[z];exact⟨hm,g,d,hb⟩
 ·exact r.2 h z
theorem Nf{h0:ExceptHandler}{hl:List ExceptHandler}(ha:QX X a tx)(r:Ur X (h0::hl) hs)(hst:X.stack=X.env::X.outer:=by rfl)(hf:X.env.frame=some X.env.locals:=by rfl):PS X (.Try [a] (h0::hl) [] [] pos) (Oh X.K tx hs):=by
 cases hs with
 | nil=>cases r.1
 | cons g gs =>
  have e:=r.1
  rw[lS]at e
  rw[e]
  exact Nb ha r.2 hst hf
theorem tK{y:Str}(d:jk.aF X.K X.mg x st ps f fd)(hm:X.mg y=some (.ref f))(G:aH X.prog X.w X.K X.mg X.base cK k f fd ps sp)(hr:j9 j X.A)
  (ha:PA X (e::es) t) (hjk:k≤j:=by first|decide|omega) (hg:Gl X y:=by rfl) (hdb:(y == ("__debug__":Str))=false:=by decide) (he:starEach (e::es) X.env=(false,eval e X.env)::starEach es X.env:=by rfl)
  (hpl:(backTo pos (starEach es X.env)).any (·.1)=false:=by rfl):PE X (.Call (.Name y p) (e::es) [] pos) (HK sp [] E0 t) :=
 CV G (hr.mono hjk) hg hm d.F.kp d.b .nil cZ ha hdb he hpl
end
end gu
set_option Elab.async false
set_option linter.all false
set_option maxRecDepth 100000
namespace jk
open PySem L2 cX gu zU M4
structure qT(mg:Str→Option Value):Prop where
 rF:mg "len"=none
 m7:mg "list"=none
 Io:mg "tuple"=none
 Lq:mg "int"=none
 GV:mg "bool"=none
 Oi:mg "str"=none
 tL:mg "range"=none
 Ss:mg "zip"=none
 cQ:mg "isinstance"=none
 Oj:mg "sum"=none
 Su:mg "min"=none
 Sv:mg "max"=none
 Sw:mg "all"=none
 mC:∀ f,mg "size"=some (.ref f)→mg "size_spans"=some (.ref f)
 zY:∀ f,mg "shown"=some (.ref f)→mg "shown_weave"=some (.ref f)
 yz:∀ f,mg "weight"=some (.ref f)→mg "weight_weave"=some (.ref f)
section
variable {P:Program} {w:World} {K:PySem.W.Frag} {mg:Str→Option Value} {base:Heap}
theorem GW:aL ["_law_script"] ["_law_script"] (az sW):=⟨rfl,rfl,rfl,by decide +kernel,rfl,by decide +kernel,by decide +kernel⟩
theorem GX{f:Addr}{fd:FuncData}(F:iJ K "_law_src" "_law_src" sW f fd)(T:qT mg):aH P w K mg base cK 1 f fd Mn (KW K):=by
 refine F.ok GW (fun vs H Q E h=>?_) (fun cdv A outer s H vs Q E hr h=>?_)
 ·obtain⟨a,ns,rfl,_⟩:=h
  rfl
 obtain⟨a,ns,rfl,hS,k⟩:=h
 refine⟨_,(au (aP (bW (af (iB jD rfl T.m7 yv (af (r9 yV (pv 0) vK (vL aC)) aj)) (af aC (af aC (af aC aj))))))),?_⟩
 refine⟨_,rfl,_,rfl,a,_,rfl,hS,fun p hp=>?_⟩
 refine⟨p,_,rfl,.inl (b8.of ah),fun c hc=>?_⟩
 refine⟨(by show 4≤sizeLine;decide),fun l hl=>?_⟩
 obtain⟨ms,em⟩:=K0 ns none (some 63)
 have F4:c≠l:=ay (H:=upd (upd H p _) c _) ah hl
 have s1:aJ H (upd H p (.lst (qI (ns.map V.int) none (some 63)))):=ak hp _
 have s2:=s1.trans (ak hc (.lst (qI (ns.map V.int) none (some 63))))
 refine k l c _ ⟨F4,ms,0,0,1,ah,?_,by decide,by decide,by decide⟩ (s2.trans (ak hl _)) (s2.free hl) (s1.free hc)
 rw[aM F4,ah,em]
theorem pF:aL ["_law_src_here","_law_base","_law_cell","_law_digit"] ["_law_src_here","_law_base"] (az nX):=⟨rfl,rfl,rfl,by decide +kernel,rfl,by decide +kernel,by decide +kernel⟩
theorem yk{f:Addr}{fd:FuncData}(F:iJ K "_law_next" "_law_next" nX f fd)(T:qT mg):aH P w K mg base cK 1 f fd Kf C2:=by
 refine F.ok pF (fun vs H Q E h=>?_) (fun cdv A outer s H vs Q E hr h=>?_)
 ·obtain⟨l,c,b,rfl,_⟩:=h
  rfl
 obtain⟨l,c,b,rfl,S,hb0,hb1,k⟩:=h
 refine⟨_,(ao (pU (t':=Px) (cC (bP lQ (bN bM (pv 0) aC (fun _ _=>rfl)) aC (bU _))
   (ao (aY (i:=2) pF.nd rfl (Or.inl rfl) aC)
   (ao (pU (t':=Py) (cC (bP BF (bN bM (pv 0) aC (fun _ _=>rfl)) (bL cY rfl T.rF PySem.boot_len (af (bN bM (pv 0) aC (fun _ _=>rfl)) aj)) (bU _))
   (ao (aY (i:=2) pF.nd rfl (Or.inl rfl) (bN bM (bN bM (pv 0) aC (fun _ _=>rfl)) (bN bM (pv 0) aC (fun _ _=>rfl)) (fun _ _=>rfl)))
   (au (rX (bw gz (bN bM (pv 0) aC (fun _ _=>rfl)) aC) (wR (pv 0) aC set_list))))
   bF) ?b2)
   (ao (rX (bw zz (bw gz (bw gz (bw pS (bN bM (pv 0) aC (fun _ _=>rfl)) aC) (bw zz (pv 2) aC)) aC) aC) (wR (pv 0) aC set_list))
   (au (cC (bP NZ (pv 2) (bw O7 aC aC) (bU _))
   (au (rX (pv 2) (wR (pv 0) aC set_list)))
   bF)))))
   bF) ?b1)
   (ao (cC (bP HJ (bN bM (pv 0) aC (fun _ _=>rfl)) aC (bU _))
   (ao (aY (i:=3) pF.nd rfl (Or.inl rfl) (bw zz (bN bM (pv 0) aC (fun _ _=>rfl)) (pv 1)))
   (ao (rX (bw zI (bN bM (pv 0) aC (fun _ _=>rfl)) (pv 1)) (wR (pv 0) aC set_list))
   (au (aP (pv 3)))))
   bF)
   (au (aP (bw zz (bw zI (bw zz (bw pS (bN bM (pv 0) aC (fun _ _=>rfl)) aC) aC) aC) (pv 1)))))),?_⟩
 case b2 =>
  rintro D σ H ⟨l,c,b,rfl,⟨F4,ns,i,d,r,hl,hc,hi,hr0,hr1⟩,k⟩
  refine⟨_,rfl,l,_,_,_,rfl,rfl,b8.of hl,Pu,_,rfl,l,_,_,_,rfl,rfl,b8.of hl,RN,c,_,rfl,.inl (b8.of hc),_,_,rfl,rfl,_,rfl,?_⟩
  refine gP (fun c2=>?_) (fun c2=>?_)
  ·have c3:i<(ns.length:Int):=by
    have z:=of_decide_eq_true c2
    rwa [dW]at z
   obtain⟨v,hv⟩:=MP hi c3
   refine⟨_,rfl,l,_,_,_,rfl,rfl,b8.of hl,RN,_,rfl,l,_,_,_,rfl,rfl,b8.of hl,Pu,c,_,_,_,rfl,rfl,b8.of hc,hv,?_⟩
   refine⟨_,rfl,l,_,_,_,rfl,rfl,b8.of hl,Pu,_,_,rfl,rfl,_,rfl,l,_,_,1,rfl,rfl,hl,rfl,?_⟩
   exact k v _ ⟨F4,ns,i+1,d,r,ah,by rw[aM F4];exact hc,by omega,hr0,hr1⟩ fun a ha=>aM ha
  ·exact k 7 H ⟨F4,ns,i,d,r,hl,hc,hi,hr0,hr1⟩ fun a _=>rfl
 case b1 =>
  rintro D σ H ⟨l,c,b,rfl,S,k⟩
  obtain⟨F4,ns,i,d,r,hl,hc,hi,hr0,hr1⟩:=id S
  refine⟨_,rfl,l,_,_,_,rfl,rfl,b8.of hl,MO,_,_,rfl,rfl,_,rfl,?_⟩
  refine gP (fun c1=>?_) (fun c1=>?_)
  ·refine⟨l,c,b,rfl,S,fun cell H1 S1 k1=>?_⟩
   obtain⟨_,ns1,i1,d1,r1,hl1,hc1,hi1,hr2,Mf⟩:=id S1
   refine⟨_,rfl,l,_,_,_,rfl,rfl,b8.of hl1,RO,_,_,rfl,rfl,.inl ⟨by omega,by omega⟩,_,rfl,_,_,rfl,rfl,(by show (0:Int)<998244353;decide),_,_,rfl,rfl,_,_,rfl,rfl,_,_,rfl,rfl,(by show (0:Int)<2147483647;decide),_,rfl,l,_,_,3,rfl,rfl,hl1,rfl,?_⟩
   refine⟨_,rfl,_,_,rfl,rfl,⟨by decide,by decide,by decide⟩,_,_,rfl,rfl,_,rfl,?_⟩
   have b0:0≤(r1*48271+cell % 998244353+1) % 2147483647:=Int.emod_nonneg _ (by decide)
   have b1:(r1*48271+cell % 998244353+1) % 2147483647<2147483647:=Int.emod_lt_of_pos _ (by decide)
   refine gP (fun c2=>?_) (fun c2=>?_)
   ·refine⟨_,rfl,_,rfl,l,_,_,2,rfl,rfl,ah,rfl,?_⟩
    refine k _ _ ⟨F4,ns1,i1,cell,_,ah,?_,hi1,b0,b1⟩ fun a ha=>?_
    ·rw[aM F4,aM F4];exact hc1
    ·rw[aM ha,aM ha];exact k1 a ha
   ·refine k _ _ ⟨F4,ns1,i1,d1,_,ah,?_,hi1,b0,b1⟩ fun a ha=>?_
    ·rw[aM F4];exact hc1
    ·rw[aM ha];exact k1 a ha
  ·exact k none H S fun a _=>rfl
 refine⟨l,c,b,rfl,S,fun cell H1 S1 k1=>?_⟩
 obtain⟨F4,ns,i,d,r,hl,hc,hi,hr0,hr1⟩:=S1
 refine⟨_,rfl,l,_,_,_,rfl,rfl,b8.of hl,MO,_,_,rfl,rfl,_,rfl,?_⟩
 refine gP (fun c1=>?_) (fun c1=>?_)
 ·refine⟨_,rfl,l,_,_,_,rfl,rfl,b8.of hl,MO,_,rfl,_,_,rfl,rfl,hb0,?_⟩
  refine⟨_,rfl,l,_,_,_,rfl,rfl,b8.of hl,MO,_,rfl,_,_,rfl,rfl,⟨hb0,hb1⟩,_,rfl,l,_,_,2,rfl,rfl,hl,rfl,?_⟩
  refine⟨_,rfl,?_⟩
  refine k (d % b) _ (Int.emod_nonneg _ (by omega)) (Int.emod_lt_of_pos _ hb0) ⟨F4,ns,i,d / b,r,ah,?_,hi,hr0,hr1⟩ fun a ha=>?_
  ·rw[aM F4];exact hc
  ·rw[aM ha];exact k1 a ha
 ·refine⟨_,rfl,l,_,_,_,rfl,rfl,b8.of hl,RO,_,_,rfl,rfl,.inl ⟨by omega,by omega⟩,_,_,rfl,rfl,(by show (0:Int)<2147483399;decide),_,_,rfl,rfl,⟨by decide,by decide⟩,_,rfl,_,_,rfl,rfl,hb0,?_⟩
  exact k _ _ (Int.emod_nonneg _ (by omega)) (Int.emod_lt_of_pos _ hb0) ⟨F4,ns,i,d,r,hl,hc,hi,hr0,hr1⟩ k1
theorem Dg:aL ["_law_found"] ["_law_found"] (az ku):=⟨rfl,rfl,rfl,by decide +kernel,rfl,by decide +kernel,by decide +kernel⟩
theorem sG:aL ["_law_found","_law_due","_law_one","_law_other"] ["_law_found","_law_due"] (az nY):=⟨rfl,rfl,rfl,by decide +kernel,rfl,by decide +kernel,by decide +kernel⟩
theorem Dh{f:Addr}{fd:FuncData}(F:iJ K "_law_whole" "_law_whole" ku f fd)(T:qT mg):aH P w K mg base cK 1 f fd Ka C3:=by
 refine F.ok Dg (fun vs H Q E h=>?_) (fun cdv A outer s H vs Q E hr h=>?_)
 ·obtain⟨i,rfl,_⟩:=h
  rfl
 obtain⟨i,rfl,k⟩:=h
 refine⟨_,(au (aP (uM (bL dI rfl T.cQ yt (af (pv 0) (af (rD rfl T.Lq PyProof.Rows.boot_int) aj))) (wO (OX (bL dI rfl T.cQ yt (af (pv 0) (af (rD rfl T.GV PyProof.Rows.boot_bool) aj)))))))),?_⟩
 exact⟨_,rfl,_,_,_,_,rfl,mL.int i,RS K,_,rfl,iR ⟨_,rfl,_,_,_,_,rfl,mL.int i,RQ K,_,rfl,k⟩⟩
theorem Bj{f fW:Addr}{fd F5:FuncData}{n:Nat}(T:qT mg)(jw:aF K mg "_law_whole" ku Ka fW F5)(E9:aH P w K mg base cK 1 fW F5 Ka C3)
  (cG:aF K mg "_law_same" nY F9 f fd) (eO:aH P w K mg base cK (n+1) f fd F9 (zM n)):aH P w K mg base cK (n+2) f fd F9 (zM (n+1)):=by
 refine cG.F.ok sG (fun vs H Q E h=>?_) (fun cdv A outer s H vs Q E hr h=>?_)
 ·obtain⟨x,y,rfl,_⟩:=h
  rfl
 obtain⟨x,y,rfl,h,k⟩:=h
 refine⟨_,(ao (cC (CU (Kl (pv 1)))
   (au (aP (OW (Kl (pv 0)))))
   bF)
   (ao (cC (kP (bL dI rfl T.cQ yt (af (pv 1) (af (rD rfl T.GV PyProof.Rows.boot_bool) aj))))
   (au (aP (uM (bL dI rfl T.cQ yt (af (pv 0) (af (rD rfl T.GV PyProof.Rows.boot_bool) aj))) (wO (qH kQ (pv 0) (pv 1) (bU _))))))
   bF)
   (ao (cC (kP (bL dI rfl T.cQ yt (af (pv 1) (af (rD rfl T.Lq PyProof.Rows.boot_int) aj))))
   (au (aP (uM (aS jw E9 hr (af (pv 0) aj)) (wO (qH kQ (pv 0) (pv 1) (bU _))))))
   bF)
   (ao (cC (kP (bL dI rfl T.cQ yt (af (pv 1) (af (rD rfl T.Oi PyProof.Rows.boot_str) aj))))
   (au (aP (uM (bL dI rfl T.cQ yt (af (pv 0) (af (rD rfl T.Oi PyProof.Rows.boot_str) aj))) (wO (qH kQ (pv 0) (pv 1) (bU _))))))
   bF)
   (ao (cC (PW.pt (El (bP HH (bL dI rfl T.cQ yt (af (pv 1) (af (rD rfl T.m7 yv) aj))) (bL dI rfl T.cQ yt (af (pv 0) (af (rD rfl T.m7 yv) aj))) (bU _)) (zx (bP HH (bL dI rfl T.cQ yt (af (pv 1) (af (rD rfl T.Io PyProof.Rows.boot_tuple) aj))) (bL dI rfl T.cQ yt (af (pv 0) (af (rD rfl T.Io PyProof.Rows.boot_tuple) aj))) (bU _)))))
   (au (aP rW))
   bF)
   (ao (cC (bP HH (bL cY rfl T.rF PySem.boot_len (af (pv 0) aj)) (bL cY rfl T.rF PySem.boot_len (af (pv 1) aj)) (bU _))
   (au (aP rW))
   bF)
   (ao (jI PassesOwn.never rfl (Pr rfl T.Ss (af (pv 0) (af (pv 1) aj))) (pQ (n:=2) rfl (bR (br (i:=2) sG.nd rfl (Or.inl rfl)) (bR (br (i:=3) sG.nd rfl (Or.inl rfl)) jX)))
   (au (cC (j7 (kP (aS cG eO hr (af (pv 2) (af (pv 3) aj)))))
   (au (aP rW))
   bF)))
   (au (aP rW))))))))),?_⟩
 have kk:=k H (aJ.refl H)
 rcases h with ⟨hf,rfl⟩|⟨kd,a,b,xs,ys,rfl,rfl,h1,h2,hl,hi⟩
 ·cases x with
  | jc =>
   refine⟨_,rfl,_,rfl,gP (fun _=>?_) (fun c=>absurd (decide_eq_true rfl) c)⟩
   exact⟨_,rfl,tt rfl kk⟩
  | bl v =>
   refine⟨_,rfl,_,rfl,gP (fun c=>absurd (of_decide_eq_true c) (fun z=>nomatch z)) (fun _=>?_)⟩
   refine⟨_,rfl,_,_,_,_,rfl,mL.bl v,RP K,_,rfl,iR ?_⟩
   exact⟨_,rfl,_,_,_,_,rfl,mL.bl v,RP K,_,rfl,iR ⟨_,rfl,_,rfl,rfl,tt rfl kk⟩⟩
  | int i =>
   refine⟨_,rfl,_,rfl,gP (fun c=>absurd (of_decide_eq_true c) (fun z=>nomatch z)) (fun _=>?_)⟩
   refine⟨_,rfl,_,_,_,_,rfl,mL.int i,RQ K,_,rfl,eU ?_⟩
   refine⟨_,rfl,_,_,_,_,rfl,mL.int i,RS K,_,rfl,iR ?_⟩
   exact⟨_,rfl,i,rfl,_,rfl,iR ⟨_,rfl,_,rfl,rfl,tt rfl kk⟩⟩
  | str v =>
   refine⟨_,rfl,_,rfl,gP (fun c=>absurd (of_decide_eq_true c) (fun z=>nomatch z)) (fun _=>?_)⟩
   refine⟨_,rfl,_,_,_,_,rfl,mL.str v,ab7 K,_,rfl,eU ?_⟩
   refine⟨_,rfl,_,_,_,_,rfl,mL.str v,ab8 K,_,rfl,eU ?_⟩
   refine⟨_,rfl,_,_,_,_,rfl,mL.str v,RT K,_,rfl,iR ?_⟩
   exact⟨_,rfl,_,_,_,_,rfl,mL.str v,RT K,_,rfl,iR ⟨_,rfl,_,rfl,rfl,tt rfl kk⟩⟩
  | _=>cases hf
 ·refine⟨_,rfl,_,rfl,gP (fun c=>absurd (of_decide_eq_true c) (fun z=>nomatch z)) (fun _=>?_)⟩
  refine⟨_,rfl,_,_,_,_,rfl,h2.ty,ack K kd,_,rfl,eU ?_⟩
  refine⟨_,rfl,_,_,_,_,rfl,h2.ty,acm K kd,_,rfl,eU ?_⟩
  refine⟨_,rfl,_,_,_,_,rfl,h2.ty,acn K kd,_,rfl,eU ?_⟩
  refine⟨_,rfl,_,_,_,_,rfl,h2.ty,RV K kd,_,rfl,_,_,_,_,rfl,h1.ty,RV K kd,rfl,_,rfl,KH rfl ?_⟩
  refine⟨_,rfl,_,_,_,_,rfl,h2.ty,RW K kd,_,rfl,_,_,_,_,rfl,h1.ty,RW K kd,rfl,_,rfl,KH rfl ?_⟩
  refine⟨_,rfl,a,_,rfl,h1.or,_,rfl,b,_,rfl,h2.or,rfl,_,rfl,KH (by rw[hl]) ?_⟩
  refine⟨_,rfl,_,rfl,kd,a,b,xs,ys,rfl,h1.sq,h2.sq,MM (fun i σ H2=>∃ u v,σ=[some (.ref a),some (.ref b),u,v]∧aJ H H2) hl ⟨none,none,rfl,aJ.refl H⟩ (fun i σ H2 _ ⟨_,_,_,s⟩=>⟨(h1.same s).sq,(h2.same s).sq⟩) ?_ ?_⟩
  ·rintro i u v p σ H2 eu ev hp ⟨_,_,rfl,s⟩
   refine⟨p,_,rfl,jL.of ah,rfl,u,[v],rfl,v,[],rfl,rfl,?_⟩
   have s2:=s.trans (ak hp (.tup [u,v]))
   refine⟨_,rfl,_,rfl,u,v,rfl,Eqv.same s2 (hi i u v eu ev),fun H4 s4=>⟨_,rfl,eU ?_⟩⟩
   exact⟨_,_,rfl,s2.trans s4⟩
  ·rintro σ H2 ⟨_,_,rfl,s⟩
   exact k H2 s
theorem yl{f fW:Addr}{fd F5:FuncData}(T:qT mg)(jw:aF K mg "_law_whole" ku Ka fW F5)(cG:aF K mg "_law_same" nY F9 f fd):∀ n:Nat,aH P w K mg base cK (n+1) f fd F9 (zM n)
 | 0=>by
  have no:∀ vs H Q E,¬ zM 0 vs H Q E:=fun vs H Q E h=>by
   obtain⟨x,y,_,h,_⟩:=h
   exact h
  exact⟨fun vs H Q E h=>absurd h (no vs H Q E),fun A outer s H args us vs Q E _ _ _ _ h=>absurd h (no vs H Q E)⟩
 | n+1=>Bj T jw (Dh jw.F T) cG (yl T jw cG n)
theorem zc:aL ["row","told","start","stop"] ["row"] (az lT):=⟨rfl,rfl,rfl,by decide +kernel,rfl,by decide +kernel,by decide +kernel⟩
theorem Fb{f:Addr}{fd:FuncData}(F:iJ K "plain" "plain" lT f fd):aH P w K mg base cK 1 f fd gJ yW:=by
 refine F.ok zc (fun vs H Q E h=>?_) (fun cdv A outer s H vs Q E hr h=>?_)
 ·obtain⟨r,row,rfl,_⟩:=h
  rfl
 obtain⟨r,row,rfl,⟨as,hr1,hp⟩,hlen,k⟩:=h
 refine⟨_,(ao (aY (i:=1) zc.nd rfl (Or.inl rfl) (bW aj))
   (ao (jI PassesOwn.never rfl (eK (pv 0)) (pQ (n:=2) rfl (bR (br (i:=2) zc.nd rfl (Or.inl rfl)) (bR (br (i:=3) zc.nd rfl (Or.inl rfl)) jX)))
   (ao (cC (bP kQ (pv 2) (pv 3) (bU _))
   (au Eo)
   bF)
   (au (cC (PW.pt (zy (mK (pv 1) (fun _=>rfl)) (yT (bP kQ (bN gA (bN bM (pv 1) (rZ nV aC) (fun _ _=>rfl)) aC (fun _ _=>rfl)) (pv 2) (bU _)))))
   (au (rX (fF (af (bN gA (bN bM (pv 1) (rZ nV aC) (fun _ _=>rfl)) aC (fun _ _=>rfl)) (af (pv 3) aj))) (wR (pv 1) (rZ nV aC) set_list)))
   (au (bq (nu uJ wL wM dF (pv 1) (af (fF (af (pv 2) (af (pv 3) aj))) aj))))))))
   (au (aP (pv 1))))),?_⟩
 refine⟨(by show 0≤sizeLine;decide),fun q hq=>?_⟩
 have s0:aJ H (upd H q (.lst [])):=ak hq _
 refine⟨_,rfl,r,rfl,⟨_,b8.of (s0 _ _ hr1)⟩,jM (K:=K) (a:=r) (xs:=as.map V.ref) (fun i σ H2=>∃ (bs:List Addr) (u v:Option V),σ=[some (.ref r),some (.ref q),u,v]∧H2 q=some (.lst (bs.map V.ref))∧bu H2 bs ((row.take i).foldl dO [])∧aJ H H2)
  ⟨[],none,none,rfl,ah,.nil,s0⟩ (fun i σ H2 _ ⟨_,_,_,_,_,_,s⟩=>b8.of (s _ _ hr1)) ?_ ?_⟩
 ·rintro i x σ H2 hi ⟨bs,u,v,rfl,hq2,hb,s⟩
  rw[uq]at hi
  obtain⟨a,ea,rfl⟩:=Option.map_eq_some_iff.mp hi
  obtain⟨⟨st,en⟩,ep,ha⟩:=hp.get ea
  have step:=Jq (f:=dO) ep
  have bl:bs.length<sizeLine:=by
   have z:=hb.len
   have z2:=EL (row.take i) []
   rw[o6]at z2
   exact aV (by simp only[List.length_nil]at z2;omega)
  refine⟨a,_,rfl,jL.of (s _ _ ha),rfl,_,_,rfl,_,_,rfl,rfl,?_⟩
  refine⟨_,rfl,_,rfl,rfl,_,rfl,gP (fun c=>?_) (fun c=>?_)⟩
  ·have e:st=en:=V.int.inj (of_decide_eq_true c)
   refine⟨bs,_,_,rfl,hq2,?_,s⟩
   rw[step,dO,if_pos e]
   exact hb
  ·have e:¬ st=en:=fun z=>c (decide_eq_true (congrArg V.int z))
   rw[dO,if_neg e]at step
   rcases uK ((row.take i).foldl dO []) with hn|⟨rw0,q0,hn⟩
   ·rw[hn]at hb step
    have hbs:bs=[]:=List.eq_nil_of_length_eq_zero hb.len
    subst hbs
    refine⟨_,rfl,false,.inl ⟨_,b8.of hq2,rfl⟩,eU (eU ?_)⟩
    refine⟨_,rfl,.inl ⟨rfl,_,b8.of hq2⟩,_,rfl,_,rfl,(by show 2≤sizeLine;decide),fun t ht=>⟨q,_,_,rfl,rfl,ak ht _ _ _ hq2,(by show 0<sizeLine;decide),?_⟩⟩
    obtain⟨g1,g2,g3⟩:=grown (st:=st) (en:=en) hq s hq2 hb ht
    refine⟨[]++[t],_,_,rfl,g1,?_,g3⟩
    rw[step,qm]
    exact g2
   ·rw[rM]at hn
    rw[hn]at hb step
    obtain⟨cs,a0,rfl,hc,ha0⟩:=hb.split
    have Ol:H2 q=some (.lst (cs.map V.ref++[.ref a0])):=by rw[hq2,qd];rfl
    refine⟨_,rfl,true,.inl ⟨_,b8.of Ol,by simp⟩,iR ?_⟩
    refine⟨_,rfl,_,rfl,q,_,_,_,rfl,rfl,b8.of Ol,kZ _ _,a0,_,_,_,rfl,rfl,jL.of ha0,ab6,_,rfl,rfl,_,rfl,gP (fun c2=>?_) (fun c2=>?_)⟩
    ·have e2:q0.2=st:=V.int.inj (of_decide_eq_true c2)
     refine⟨_,rfl,_,rfl,q,_,_,_,rfl,rfl,b8.of Ol,kZ _ _,a0,_,_,_,rfl,rfl,jL.of ha0,ab5,_,rfl,(by show 2≤sizeLine;decide),fun t ht=>?_⟩
     refine⟨_,rfl,_,rfl,q,_,_,cs.length,rfl,rfl,ak ht _ _ _ Ol,PF cs a0,?_⟩
     obtain⟨g1,g2,g3⟩:=turned (st:=q0.1) (en:=en) hq s Ol hc ht
     refine⟨cs++[t],_,_,rfl,g1,?_,g3⟩
     rw[step,qo _ e2]
     exact g2
    ·have e2:¬ q0.2=st:=fun z=>c2 (decide_eq_true (congrArg V.int z))
     refine⟨_,rfl,.inl ⟨rfl,_,b8.of hq2⟩,_,rfl,_,rfl,(by show 2≤sizeLine;decide),fun t ht=>⟨q,_,_,rfl,rfl,ak ht _ _ _ hq2,(by rw[dW];exact bl),?_⟩⟩
     obtain⟨g1,g2,g3⟩:=grown (st:=st) (en:=en) hq s hq2 hb ht
     refine⟨cs++[a0]++[t],_,_,rfl,g1,?_,g3⟩
     rw[step,qp _ e2]
     exact g2
 ·rintro σ H2 ⟨bs,u,v,rfl,hq2,hb,s⟩
  refine⟨_,rfl,k q H2 ⟨bs,hq2,?_⟩ s hq⟩
  rw[dW,hp.len,mZ]at hb
  exact hb
theorem P5:aL ["row"] ["row"] (az ssize):=⟨rfl,rfl,rfl,by decide +kernel,rfl,by decide +kernel,by decide +kernel⟩
theorem Di{f:Addr}{fd:FuncData}(F:iJ K "size" "size" ssize f fd)(T:qT mg):aH P w K mg base cK 1 f fd gJ zN:=by
 refine F.ok P5 (fun vs H Q E h=>?_) (fun cdv A outer s H vs Q E hr h=>?_)
 ·obtain⟨n,ns,rfl,_⟩:=h
  rfl
 obtain⟨r,row,rfl,⟨as,hr1,hp⟩,hlen,k⟩:=h
 refine⟨_,(au (aP (bL (ED rfl) rfl T.Oj PyProof.Rows.boot_sum (af (C4 (N:=["start","stop"]) ⟨rfl,by decide +kernel,by decide +kernel,by decide +kernel⟩ rfl (eK (pv 0)) (fun _ _ _ _ _=>(Ic (n:=2) rfl (bR (br (i:=0) (show List.Nodup (["start","stop"]:List Str) by decide +kernel) rfl (Or.inl rfl)) (bR (br (i:=1) (show List.Nodup (["start","stop"]:List Str) by decide +kernel) rfl (Or.inl rfl)) jX)))) (fun _ _ _ _ _=>nE) (fun _ _ _ _ _=>(bw iu (pv 1) (pv 0)))) aj)))),?_⟩
 refine⟨_,rfl,r,rfl,⟨_,b8.of hr1⟩,fun acc hacc=>xh (K:=K) (a:=r) (xs:=as.map V.ref) (fun i σ H2=>∃ u v:Option V,σ=[u,v]∧H2 acc=some (.lst (((row.take i).map fun p=>p.2-p.1).map V.int))∧aJ H H2)
  ⟨none,none,rfl,ah,ak hacc _⟩ (fun i σ H2 _ ⟨_,_,_,_,s⟩=>b8.of (s _ _ hr1)) ?_ ?_⟩
 ·rintro i x σ H2 hi ⟨u,v,rfl,ha,s⟩
  rw[uq]at hi
  obtain⟨a,ea,rfl⟩:=Option.map_eq_some_iff.mp hi
  obtain⟨⟨st,en⟩,ep,hpa⟩:=hp.get ea
  refine⟨a,_,rfl,jL.of (s _ _ hpa),rfl,_,_,rfl,_,_,rfl,rfl,yes (iR ?_)⟩
  refine⟨_,rfl,_,rfl,_,_,rfl,rfl,_,ha,?_,_,_,rfl,?_,dM hacc s (aN acc _ _)⟩
  ·rw[dW,dW,o6]
   exact aV (by omega)
  ·rw[ah,take_snoc ep,qd,qd]
   rfl
 ·rintro σ H2 ⟨u,v,rfl,ha,s⟩
  rw[dW,hp.len,mZ]at ha
  exact⟨acc,_,rfl,b8.of ha,k H2 s⟩
theorem zZ:aL ["row","start","stop"] ["row","start","stop"] (az iy):=⟨rfl,rfl,rfl,by decide +kernel,rfl,by decide +kernel,by decide +kernel⟩
theorem m8{f fS C:Addr}{fd Om:FuncData}(F:iJ K "check_places" "check_places" iy f fd)(T:qT mg)(Z:ExcAt K mg C)(iN:aF K mg "size" ssize gJ fS Om):aH P w K mg base (iM P w) 2 f fd rR (vQ C):=by
 have Cm:aH P w K mg base cK 1 fS Om gJ zN:=Di iN.F T
 refine yX F zZ (fun vs H Q E h=>?_) (fun cdv A outer s H vs Q E hr h=>?_)
 ·obtain⟨r,row,a,b,rfl,_⟩:=h
  rfl
 obtain⟨r,row,a,b,rfl,R,hl,fa,fb,ft,k1,k2⟩:=h
 refine⟨_,(au (cC (j7 (Jr lQ lQ lQ aC (pv 1) (pv 2) (gu.tK iN (T.mC _ iN.m) Cm hr (af (pv 0) aj))))
   (au (pU (t':=fun _ σ H'=>σ=[some (.ref r),some (.int a),some (.int b)]∧aJ H H'∧¬ Lc a b (tot row)) (oj PySem.F.excBase_ValueError Z.x Z.m rfl uR (af (qQ (lg (lW (pv 1) (lg (lW (pv 2) (lg (lW (gu.tK iN (T.mC _ iN.m) Cm hr (af (pv 0) aj)) uS))))))) aj)) ?b1))
   bF)),?_⟩
 case b1 =>
  rintro D σ H' ⟨rfl,s1,hn⟩
  refine⟨_,rfl,a,rfl,fa.log,_,rfl,b,rfl,fb.log,_,rfl,r,row,rfl,R.same s1,hl,fun H2 s2=>⟨_,rfl,ft.log,fun x=>⟨(by show 1≤sizeLine;decide),k2 hn H2 (s1.trans s2)⟩⟩⟩
 refine⟨_,rfl,_,_,rfl,rfl,_,rfl,gP (fun c1=>?_) (fun c1=>iR ⟨rfl,aJ.refl H,fun z=>c1 (decide_eq_true z.1)⟩)⟩
 refine⟨_,rfl,_,_,rfl,rfl,_,rfl,gP (fun c2=>?_) (fun c2=>iR ⟨rfl,aJ.refl H,fun z=>c2 (decide_eq_true z.2.1)⟩)⟩
 refine⟨_,rfl,r,row,rfl,R,hl,fun H1 s1=>⟨_,_,rfl,rfl,_,rfl,gP (fun c3=>?_) (fun c3=>?_)⟩⟩
 ·refine⟨rfl,s1,fun z=>?_⟩
  rw[decide_eq_true z.2.2]at c3
  cases c3
 ·refine k1 ⟨of_decide_eq_true c1,of_decide_eq_true c2,?_⟩ H1 s1
  by_cases z:b≤tot row
  ·exact z
  ·rw[decide_eq_false z]at c3
   exact absurd rfl c3
theorem mS:aL ["row","start","stop","told","ahead","first","last","low","high"] ["row","start","stop"] (az nB):=⟨rfl,rfl,rfl,by decide +kernel,rfl,by decide +kernel,by decide +kernel⟩
theorem Cn{f:Addr}{fd:FuncData}(F:iJ K "pieces" "pieces" nB f fd)(T:qT mg):aH P w K mg base cK 1 f fd rR vR:=by
 refine F.ok mS (fun vs H Q E h=>?_) (fun cdv A outer s H vs Q E hr h=>?_)
 ·obtain⟨r,row,a,b,rfl,_⟩:=h
  rfl
 obtain⟨r,row,a,b,rfl,⟨as,hr1,hp⟩,hlen,k⟩:=h
 refine⟨_,(ao (aY (i:=3) mS.nd rfl (Or.inl rfl) (bW aj))
   (ao (aY (i:=4) mS.nd rfl (Or.inl rfl) aC)
   (ao (jI PassesOwn.never rfl (eK (pv 0)) (pQ (n:=2) rfl (bR (br (i:=5) mS.nd rfl (Or.inl rfl)) (bR (br (i:=6) mS.nd rfl (Or.inl rfl)) jX)))
   (ao (aY (i:=7) mS.nd rfl (Or.inl rfl) (bL (IZ rfl) rfl T.Sv PyProof.Rows.boot_max (af (bw iu (pv 1) (pv 4)) (af aC aj))))
   (ao (aY (i:=8) mS.nd rfl (Or.inl rfl) (bL (I0 rfl) rfl T.Su PyProof.Rows.boot_min (af (bw iu (pv 2) (pv 4)) (af (bw iu (pv 6) (pv 5)) aj))))
   (ao (cC (bP BF (pv 7) (pv 8) (bU _))
   (au (bq (nu uJ wL wM dF (pv 3) (af (fF (af (bw gz (pv 5) (pv 7)) (af (bw gz (pv 5) (pv 8)) aj))) aj))))
   bF)
   (au (wU (i:=4) mS.nd rfl (Or.inl rfl) (bw iu (pv 6) (pv 5)) O0))))))
   (au (aP (pv 3)))))),?_⟩
 refine⟨(by show 0≤sizeLine;decide),fun q hq=>?_⟩
 have s0:aJ H (upd H q (.lst [])):=ak hq _
 refine⟨_,rfl,r,rfl,⟨_,b8.of (s0 _ _ hr1)⟩,jM (K:=K) (a:=r) (xs:=as.map V.ref) (fun i σ H2=>∃ (bs:List Addr) (t:Int) (u v x y:Option V),σ=[some (.ref r),some (.int a),some (.int b),some (.ref q),some (.int t),u,v,x,y]∧t=tot (row.take i)∧H2 q=some (.lst (bs.map V.ref))∧bu H2 bs (o7 a b 0 (row.take i))∧aJ H H2)
  ⟨[],0,none,none,none,none,rfl,rfl,ah,.nil,s0⟩ (fun i σ H2 _ ⟨_,_,_,_,_,_,_,_,_,_,s⟩=>b8.of (s _ _ hr1)) ?_ ?_⟩
 ·rintro i x σ H2 hi ⟨bs,t,u,v,x1,y1,rfl,et,hq2,hb,s⟩
  rw[uq]at hi
  obtain⟨ad,ea,rfl⟩:=Option.map_eq_some_iff.mp hi
  obtain⟨⟨st,en⟩,ep,ha⟩:=hp.get ea
  have step:=EO a b (st,en) (row.take i) 0
  rw[← take_snoc ep,Int.zero_add,← et]at step
  have et2:t+(en-st)=tot (row.take (i+1)):=by rw[take_snoc ep,KU,et]
  have bl:bs.length<sizeLine:=by
   have z:=hb.len
   have z2:=pV a b (row.take i) 0
   rw[o6]at z2
   exact aV (by omega)
  have e1:(if (0:Int) > a-t then (0:Int) else a-t)=max (a-t) 0:=by split <;> omega
  have e2:(if en-st<b-t then en-st else b-t)=min (b-t) (en-st):=by split <;> omega
  refine⟨ad,_,rfl,jL.of (s _ _ ha),rfl,_,_,rfl,_,_,rfl,rfl,?_⟩
  refine⟨_,rfl,_,rfl,_,_,rfl,rfl,_,_,rfl,?_⟩
  refine⟨_,rfl,_,rfl,_,_,rfl,rfl,_,rfl,_,rfl,_,_,rfl,rfl,_,_,rfl,?_⟩
  rw[e1,e2]
  refine⟨_,rfl,_,rfl,_,_,rfl,rfl,_,rfl,gP (fun c=>?_) (fun c=>?_)⟩
  ·have c':max (a-t) 0<min (b-t) (en-st):=of_decide_eq_true c
   unfold La at step
   rw[if_pos c']at step
   refine⟨_,rfl,.inl ⟨rfl,_,b8.of hq2⟩,_,rfl,_,rfl,_,_,rfl,rfl,_,rfl,_,rfl,_,_,rfl,rfl,(by show 2≤sizeLine;decide),fun tu htu=>⟨q,_,_,rfl,rfl,ak htu _ _ _ hq2,(by rw[dW];exact bl),?_⟩⟩
   obtain⟨g1,g2,g3⟩:=grown (st:=st+max (a-t) 0) (en:=st+min (b-t) (en-st)) hq s hq2 hb htu
   refine⟨_,rfl,_,rfl,_,rfl,_,_,rfl,rfl,_,_,rfl,rfl,?_⟩
   refine⟨bs++[tu],_,_,_,_,_,rfl,et2,g1,?_,g3⟩
   rw[step]
   exact g2
  ·have c':¬ max (a-t) 0<min (b-t) (en-st):=fun z=>c (decide_eq_true z)
   unfold La at step
   rw[if_neg c',j6]at step
   refine⟨_,rfl,_,rfl,_,rfl,_,_,rfl,rfl,_,_,rfl,rfl,?_⟩
   refine⟨bs,_,_,_,_,_,rfl,et2,hq2,?_,s⟩
   rw[step]
   exact hb
 ·rintro σ H2 ⟨bs,t,u,v,x1,y1,rfl,et,hq2,hb,s⟩
  rw[dW,hp.len,mZ]at hb
  exact⟨_,rfl,k q H2 ⟨bs,hq2,hb⟩ s hq⟩
def Bl(CB:Addr)(H:Hp)(x d t:Addr):Prop:=H x=some (.ins CB d [("stains",.ref t)])
inductive Dj(CB:Addr)(vs:List V)(H:Hp)(Q:VK)(E:XK):Prop
 | mk (x d:Addr) (_:vs=[.ref x]) (_:H x=some (.ins CB d [])) (_: ∀ (t:Addr) (H':Hp),Bl CB H' x d t→cL H' t []→eE x H H'→H t=none→Q .jc H'):Dj CB vs H Q E
theorem xy:aL ["self"] ["self"] (az iX):=⟨rfl,rfl,rfl,by decide +kernel,rfl,by decide +kernel,by decide +kernel⟩
theorem vS{f C:Addr}{fd:FuncData}(F:iJ K "__init__" "Blots.__init__" iX f fd)(cl:AZ K C)(ns:bh K C "stains"):aH P w K mg base cK 1 f fd gy (Dj C):=by
 refine F.ok xy (fun vs H Q E h=>?_) (fun cdv A outer s H vs Q E hr h=>?_)
 ·obtain⟨x,d,rfl,_⟩:=h
  rfl
 obtain⟨x,d,rfl,hx,k⟩:=h
 refine⟨_,(au (j8 (pv 0) (bW aj) rfl)),?_⟩
 refine⟨(by show 0≤sizeLine;decide),fun t ht=>?_⟩
 have nt:t≠x:=(ay hx ht).symm
 refine⟨_,rfl,x,C,d,_,rfl,ak ht _ _ _ hx,cl,ns,by decide,?_⟩
 exact k t _ ah ⟨[],by rw[aM nt,ah];rfl,.nil⟩ (fun a o e n=>by rw[aM n];exact ak ht _ a o e) ht
theorem JD(its:List Item):(eV its).length≤its.length:=List.length_filterMap_le _ its
inductive Dk(vs:List V)(H:Hp)(Q:VK)(E:XK):Prop
 | mk (r:Addr) (its:List Item) (_:vs=[.ref r]) (_:aW H (.ref r) its) (_:its.length≤100000) (_ :
 ∀ (o:Addr) (H':Hp),H' o=some (.lst ((eV its).map V.int))→aJ H H'→H o=none→Q (.ref o) H'):Dk vs H Q E
theorem JE:aL ["items"] ["items"] (az dX):=⟨rfl,rfl,rfl,by decide +kernel,rfl,by decide +kernel,by decide +kernel⟩
theorem Aa{f:Addr}{fd:FuncData}(F:iJ K "windows" "windows" dX f fd)(T:qT mg):aH P w K mg base cK 1 f fd mF Dk:=by
 refine F.ok JE (fun vs H Q E h=>?_) (fun cdv A outer s H vs Q E hr h=>?_)
 ·obtain⟨n,ns,rfl,_⟩:=h
  rfl
 obtain⟨r,its,rfl,⟨a,vs,e,hr1,hp⟩,hlen,k⟩:=h
 cases e
 refine⟨_,(au (aP (C4 (N:=["item"]) ⟨rfl,by decide +kernel,by decide +kernel,by decide +kernel⟩ rfl (eK (pv 0)) (fun _ _ _ _ _=>(br (i:=0) (show List.Nodup (["item"]:List Str) by decide +kernel) rfl (Or.inl rfl))) (fun _ _ _ _ _=>Ia (bP kQ (bN Ie (pv 0) aC (fun _ _=>rfl)) cN (bU _))) (fun _ _ _ _ _=>(bN Ie (pv 0) aC (fun _ _=>rfl)))))),?_⟩
 refine⟨_,rfl,r,rfl,⟨_,b8.of hr1⟩,fun acc hacc=>xh (K:=K) (a:=r) (xs:=vs) (fun i σ H2=>∃ u:Option V,σ=[u]∧H2 acc=some (.lst ((eV (its.take i)).map V.int))∧aJ H H2)
  ⟨none,rfl,ah,ak hacc _⟩ (fun i σ H2 _ ⟨_,_,_,s⟩=>b8.of (s _ _ hr1)) ?_ ?_⟩
 ·rintro i x σ H2 hi ⟨u,rfl,ha,s⟩
  obtain⟨it,ei,b,rfl,hb⟩:=hp.get hi
  have step:eV (its.take (i+1))=eV (its.take i)++eV [it]:=by rw[take_snoc ei,iz]
  have bl:(eV (its.take i)).length≤100000:=by
   have z:=JD (its.take i)
   rw[o6]at z
   omega
  cases it with
  | win n =>
   refine⟨_,rfl,b,_,_,_,rfl,rfl,jL.of (s _ _ hb),rfl,rfl,_,rfl,gP (fun _=>?_) (fun z=>absurd (by decide) z)⟩
   refine⟨_,rfl,b,_,_,_,rfl,rfl,jL.of (s _ _ hb),rfl,_,ha,(by rw[dW];exact aV (by omega)),_,rfl,?_,dM hacc s (aN acc _ _)⟩
   rw[ah,step,qd]
   rfl
  | aR p q =>
   refine⟨_,rfl,b,_,_,_,rfl,rfl,jL.of (s _ _ hb),rfl,rfl,_,rfl,gP (fun z=>absurd z (by decide)) (fun _=>?_)⟩
   refine⟨_,rfl,?_,s⟩
   rw[ha,step]
   show _=some (HO.lst ((eV (its.take i)++[]).map V.int))
   rw[j6]
 ·rintro σ H2 ⟨u,rfl,ha,s⟩
  rw[hp.len,mZ]at ha
  exact k acc H2 ha s hacc
structure JF(rows:gj)(ks:List Int):Prop where
 Gf:∀ x∈ks,0≤x∧x<rows.length
 dn:∀ (i:Nat) (x:Int),ks[i]?=some x→∀ y,Ci rows x y→y∈ks.take i
inductive zd(vs:List V)(H:Hp)(Q:VK)(E:XK):Prop
 | mk (r L:Addr) (rows:gj) (ss:List Int) (_:vs=[.ref r,.ref L]) (_:gV H r (rows.map itemsOf)) (_:H L=some (.lst (ss.map V.int))) (_:ss.length≤1000) (_:rows.length≤1000) (_:(∀ es∈rows,es.length≤1000)) (_:Sound rows) (_:F3 rows) (_:(∀ s∈ss,0≤s∧s<rows.length)) (_ :
 ∀ (ks:List Int) (o:Addr) (H':Hp),H' o=some (.lst (ks.map V.int))→aJ H H'→JF rows ks→(∀ s∈ss,s∈ks)→ks.length≤1000→H o=none→Q (.ref o) H'):zd vs H Q E
theorem JF.snoc{rows:gj}{ks:List Int}{x:Int}(h:JF rows ks)(h0:0≤x)(h1:x<rows.length)(hx:∀ y,Ci rows x y→y∈ks):JF rows (ks++[x]):=by
 refine⟨fun y hy=>?_,fun i y hi z hz=>?_⟩
 ·rcases List.mem_append.mp hy with q|q
  ·exact h.Gf y q
  ·have:y=x:=by simpa using q
   omega
 ·by_cases c:i<ks.length
  ·rw[wK c]at hi
   rw[List.take_append_of_le_length (by omega)]
   exact h.dn i y hi z hz
  ·have c2:i=ks.length:=by
    rcases Nat.lt_or_ge i (ks++[x]).length with q|q
    ·rw[eT,vD]at q;omega
    ·rw[List.getElem?_eq_none q]at hi;cases hi
   subst c2
   rw[A9 (jj _),Nat.sub_self]at hi
   cases hi
   rw[List.take_append_of_le_length (jj _),mZ]
   exact hx z hz
theorem Co{kvs:List (Key × V)}{ks:List Int}(h:kvs.map (·.1)=ks.map Sum.inl)(x:Int):seen kvs x↔x∈ks:=by
 unfold seen
 rw[← om,List.any_eq_true]
 constructor
 ·rintro⟨p,hp,e⟩
  have e':p.1=Sum.inl x:=of_decide_eq_true e
  have:p.1∈ks.map (Sum.inl:Int→Key):=by rw[← h];exact List.mem_map_of_mem hp
  rw[e',List.mem_map]at this
  obtain⟨y,hy,ey⟩:=this
  rw[Sum.inl.inj ey]at hy
  exact hy
 ·intro hx
  have:(Sum.inl x:Key)∈kvs.map (·.1):=by rw[h];exact List.mem_map_of_mem hx
  obtain⟨p,hp,e⟩:=List.mem_map.mp this
  exact⟨p,hp,decide_eq_true e⟩
structure Bel(rows:gj)(rk:Int→Nat)(H:Hp)(W S:Addr)(ss:List Int)(H2:Hp)(bs ps ks:List Int)(kvs:List (Key × V)):Prop where
 hW:H2 W=some (.lst ((bs++ps).map V.int))
 hS:H2 S=some (.dK kvs)
 sm:aJ H H2
 ky:kvs.map (·.1)=ks.map Sum.inl
 tp:JF rows ks
 rg:∀ x∈bs++ps,0≤x∧x<rows.length
 ns:∀ x∈ps,¬ seen kvs x
 pw:ps.Pairwise fun a b=>rk b<rk a
 rb:∀ (i:Nat) (x:Int),ps[i]?=some x→rk x+i≤40
 st:∀ s∈ss,s∈bs∨s∈ks
 kl:kvs.length+miss rows.length kvs≤rows.length
 bl:bs.length≤1000
theorem Cp{kvs:List (Key × V)}{k:Key}(v:V)(h:(cP kvs k).isSome=true):(putK kvs k v).map (·.1)=kvs.map (·.1):=by
 unfold putK
 rw[if_pos (by rw[om];exact h),List.map_map]
 refine List.map_congr_left fun p _=>?_
 show (if p.1=k then (p.1,v) else p).1=p.1
 split <;> rfl
theorem GY{rk:Int→Nat}{ps:List Int}(rb:∀ (i:Nat) (x:Int),ps[i]?=some x→rk x+i≤40):ps.length≤41:=by
 rcases uK ps with rfl|⟨p',n,rfl⟩
 ·simp
 ·rw[rM]at rb ⊢
  have:=rb p'.length n (by rw[A9 (jj _),Nat.sub_self];rfl)
  rw[eT,vD]
  omega
structure Top(rk:Int→Nat)(ss bs ps ks:List Int)(kvs:List (Key × V))(bs' ps':List Int)(n:Int):Prop where
 eq:bs++ps=bs'++ps'++[n]
 ns:∀ x∈ps',¬ seen kvs x∧x≠n
 pw:ps'.Pairwise fun a b=>rk b<rk a
 rb:∀ (i:Nat) (x:Int),ps'[i]?=some x→rk x+i≤40
 st:∀ s∈ss,s∈bs'∨s=n∨s∈ks
 old:seen kvs n→bs'.length+50-ps'.length<bs.length+50-ps.length
 le:bs'.length+50-ps'.length≤bs.length+51-ps.length
 bl:bs'.length≤bs.length
 up:∀ y:Int,rk y≤40→rk y<rk n→(ps++[y]).Pairwise (fun a b=>rk b<rk a)∧∀ (i:Nat) (x:Int),(ps++[y])[i]?=some x→rk x+i≤40
theorem Bel.top{rows:gj}{rk:Int→Nat}{H:Hp}{W S:Addr}{ss:List Int}{H2:Hp}{bs ps ks:List Int}{kvs:List (Key × V)}(B:Bel rows rk H W S ss H2 bs ps ks kvs):bs++ps=[]∨∃ bs' ps' n,Top rk ss bs ps ks kvs bs' ps' n:=by
 have Lr:∀ (qs:List Int) (y:Int),(∀ (i:Nat) (x:Int),qs[i]?=some x→rk x+i≤40)→rk y+qs.length≤40→∀ (i:Nat) (x:Int),(qs++[y])[i]?=some x→rk x+i≤40:=by
  intro qs y h1 h2 i x hx
  rcases Nat.lt_or_ge i qs.length with q|q
  ·rw[wK q]at hx
   exact h1 i x hx
  ·have qi:i=qs.length:=by
    rcases Nat.lt_or_ge i (qs++[y]).length with w|w
    ·rw[eT,vD]at w;omega
    ·rw[List.getElem?_eq_none w]at hx;cases hx
   subst qi
   rw[A9 (jj _),Nat.sub_self]at hx
   cases hx
   exact h2
 rcases uK ps with rfl|⟨ps',n,rfl⟩
 ·rcases uK bs with rfl|⟨bs',n,rfl⟩
  ·exact .inl rfl
  ·rw[rM]at B ⊢
   refine .inr ⟨bs',[],n,by simp,by simp,by simp,by simp,fun s hs=>?_,fun _=>?_,?_,?_,fun y h1 h2=>⟨by simp,Lr [] y (by simp) (by simpa using h1)⟩⟩
   ·rcases B.st s hs with z|z
    ·rcases List.mem_append.mp z with z|z
     ·exact .inl z
     ·exact .inr (.inl (by simpa using z))
    ·exact .inr (.inr z)
   ·rw[eT,vD];simp only[List.length_nil];omega
   ·rw[eT,vD];simp only[List.length_nil];omega
   ·rw[eT,vD];omega
 ·rw[rM]at B ⊢
  have pwd:=List.pairwise_append.mp B.pw
  have rbn:=B.rb ps'.length n (by rw[A9 (jj _),Nat.sub_self];rfl)
  refine .inr ⟨bs,ps',n,by rw[oZ],fun x hx=>⟨B.ns x (List.mem_append_left _ hx),fun e=>?_⟩,pwd.1,fun i x hx=>?_,fun s hs=>(B.st s hs).elim .inl fun z=>.inr (.inr z),fun z=>absurd z (B.ns n (by simp)),?_,jj _,fun y h1 h2=>⟨?_,Lr _ y B.rb ?_⟩⟩
  ·subst e
   exact Nat.lt_irrefl _ (pwd.2.2 x hx x (by simp))
  ·refine B.rb i x ?_
   rw[wK]
   ·exact hx
   ·rcases Nat.lt_or_ge i ps'.length with q|q
    ·exact q
    ·rw[List.getElem?_eq_none q]at hx;cases hx
  ·rw[eT,vD];omega
  ·rw[List.pairwise_append]
   refine⟨B.pw,by simp,fun a ha c hc=>?_⟩
   have:c=y:=by simpa using hc
   subst this
   rcases List.mem_append.mp ha with q|q
   ·have:=pwd.2.2 a q n (by simp)
    omega
   ·have:a=n:=by simpa using q
    subst this
    exact h2
  ·rw[eT,vD];omega
def Oo(rows:gj)(rk:Int→Nat)(H:Hp)(r L W S:Addr)(ss:List Int)(m:Nat)(σ:L2.St)(H2:Hp):Prop:=∃ (bs ps ks:List Int) (kvs:List (Key × V)) (u v:Option V),σ=[some (.ref r),some (.ref L),some (.ref S),some (.ref W),u,v]∧Bel rows rk H W S ss H2 bs ps ks kvs∧m=100*miss rows.length kvs+(bs.length+50-ps.length)
theorem vU:aL ["rows","sheets","told","waiting","number","missing"] ["rows","sheets"] (az kg):=⟨rfl,rfl,rfl,by decide +kernel,rfl,by decide +kernel,by decide +kernel⟩
theorem Fc{f fI:Addr}{fd ze:FuncData}(F:iJ K "below" "below" kg f fd)(T:qT mg)(bX:aF K mg "windows" dX mF fI ze):aH P w K mg base cK 2 f fd j4 zd:=by
 have Ab:aH P w K mg base cK 1 fI ze mF Dk:=Aa bX.F T
 refine F.ok vU (fun vs H Q E h=>?_) (fun cdv A outer s0 H vs Q E hr h=>?_)
 ·obtain⟨r,L,rows,ss,rfl,_⟩:=h
  rfl
 obtain⟨r,L,rows,ss,rfl,hR,hL,hsl,hlen,hes,JG,⟨rk,hrb,hrk⟩,hin,k⟩:=h
 have hu:=qh hr
 refine⟨_,(ao (aY (i:=2) vU.nd rfl (Or.inr rfl) oq)
   (ao (aY (i:=3) vU.nd rfl (Or.inl rfl) (iB jD rfl T.m7 yv (af (pv 1) aj)))
   (ao (Er PassesOwn.never (mK (pv 3) (fun _=>rfl)) (ao (aY (i:=4) vU.nd rfl (Or.inl rfl) (bN bM (pv 3) (rZ nV aC) (fun _ _=>rfl)))
   (ao (M3 (N:=["other","told"]) (i:=5) (zS (sc:=az kg) (NX:=["rows","sheets","told","waiting","number","missing"]) (jx:=[none,some 2]) rfl rfl rfl (by decide +kernel) (by decide +kernel) rfl (by decide +kernel) rfl (by decide +kernel)) rfl vU.nd rfl rfl (eK (aS bX Ab hr (af (bN bM (pv 0) (pv 4) (fun _ _=>rfl)) aj))) (fun _ _ _ _ _ _=>(br (i:=0) (show List.Nodup (["other","told"]:List Str) by decide +kernel) rfl (Or.inl rfl))) (fun _ _ _ _ _ _=>Ia (CU (Cc hu (pv 0) (pv 1)))) (fun _ _ _ _ _ _=>(pv 0)))
   (au (cC (mK (pv 5) (fun _=>rfl))
   (au (bq (nu uJ wL wM dF (pv 3) (af (bN bM (pv 5) aC (fun _ _=>rfl)) aj))))
   (ao (yZ hu (pv 2) (pv 4) rW rfl)
   (au (bq (Pk uJ PySem.F.slot_list_pop PySem.F.type_list_pop Pn (pv 3))))))))))
   (au (aP (iB (GO rfl) rfl T.m7 yv (af (pv 2) aj))))))),?_⟩
 intro S hS
 have s1:aJ H (upd H S (.dK [])):=ak hS _
 refine⟨_,rfl,L,_,rfl,.inl (b8.of (s1 _ _ hL)),fun W hW=>?_⟩
 have s2:=s1.trans (ak hW (.lst (ss.map V.int)))
 have QY:H W=none:=by
  cases e:H W with
  | none=>rfl
  | some o=>exact absurd ((s1 _ _ e).symm.trans hW) (by simp)
 have Oq:W≠S:=(ay ah hW).symm
 refine⟨Oo rows rk H r L W S ss,⟨_,ss,[],[],[],none,none,rfl,⟨(by rw[ah,j6]),ak hW _ _ _ ah,s2,rfl,⟨(fun x hx=>by cases hx),fun i x hi=>by simp at hi⟩,(fun x hx=>hin x (by simpa using hx)),by simp,by simp,by simp,(fun s hs=>.inl hs),?_,hsl⟩,rfl⟩,?_⟩
 ·have:=Lj rows.length (fun i=>(cP ([]:List (Key × V)) (Sum.inl (i:Int))).isNone)
  show 0+cnt rows.length _≤_
  omega
 rintro m σ H2 ⟨bs,ps,ks,kvs,u,v,rfl,B,rfl⟩
 refine⟨_,rfl,!((bs++ps).map V.int).isEmpty,.inl ⟨_,b8.of B.hW,rfl⟩,?_⟩
 rcases B.top with en|⟨bs',ps',n,t⟩
 ·have e2:(!((bs++ps).map V.int).isEmpty)=false:=by rw[en];rfl
  rw[e2]
  refine eU ?_
  have ek:kvs.map (fun p=>kV p.1)=ks.map V.int:=by
   have z:kvs.map (fun p=>kV p.1)=(kvs.map (·.1)).map kV:=by rw[List.map_map];rfl
   rw[z,B.ky,List.map_map]
   rfl
  have kl:ks.length=kvs.length:=by
   have z:=congrArg List.length B.ky
   rw[dW,dW]at z
   exact z.symm
  have Us:=B.kl
  refine⟨_,rfl,S,kvs,rfl,B.hS,fun l hl=>?_⟩
  refine k ks l _ (by rw[ah,ek]) (B.sm.trans (ak hl _)) B.tp (fun s hs=>(B.st s hs).elim (fun z=>?_) id) (by omega) ?_
  ·rw[(List.append_eq_nil_iff.mp en).1]at z
   cases z
  cases e:H l with
  | none=>rfl
  | some o=>exact absurd ((B.sm _ _ e).symm.trans hl) (by simp)
 have eW:=B.hW
 rw[t.eq]at eW
 rw[t.eq]
 refine gP (fun _=>?_) (fun z=>absurd (by simp) z)
 refine⟨fun σ' H'=>∃ m',m'<100*miss rows.length kvs+(bs.length+50-ps.length)∧Oo rows rk H r L W S ss m' σ' H',fun σ' H' z=>z,?_⟩
 have an:A0 ((bs'++ps'++[n]).map V.int) (-1)=some (.int n):=by rw[qd];exact kZ _ _
 obtain⟨n0,n1⟩:=B.rg n (by rw[t.eq];simp)
 have tl:=t.le
 have Mp:=t.bl
 have pl:=GY B.rb
 have pl':=GY t.rb
 have bbl:=B.bl
 obtain⟨es,nF⟩:∃ es,rows[n.toNat]?=some es:=⟨_,rL (by omega)⟩
 have Sx:=hes es (nQ nF)
 obtain⟨GZ,hr2,vV⟩:=hR.same B.sm
 obtain⟨vi,Ng,hI⟩:=vV.get' (i:=n.toNat) (b:=itemsOf es) (by rw[uq,nF];rfl)
 obtain⟨b,Mg,rfl,hb,hit⟩:=id hI
 have hil:=tG es []
 have Ls:A0 GZ n=some (.ref b):=by
  have z:=gO Ng
  rw[show ((n.toNat:Nat):Int)=n by omega]at z
  exact z
 refine⟨_,rfl,_,rfl,W,_,_,_,rfl,rfl,b8.of eW,an,?_⟩
 refine⟨_,rfl,_,rfl,r,_,_,_,rfl,rfl,b8.of hr2,Ls,b,itemsOf es,rfl,hI,?_,fun z H4 hz s4 nz=>?_⟩
 ·show (es.foldl aU []).length≤_
  simp only[List.length_nil]at hil
  omega
 rw[jE]at hz
 have acA:(jg es).length≤es.length:=List.length_filterMap_le _ es
 have Sy:=s4 _ _ B.hS
 have hW4:=s4 _ _ eW
 refine⟨z,rfl,⟨_,b8.of hz⟩,fun acc hacc=>ou (K:=K) (a:=z) (xs:=(jg es).map V.int) (fun i σ H5=>∃ u:Option V,σ=[u,some (.ref S)]∧H5 acc=some (.lst ((((jg es).take i).filter (fun y=>(cP kvs (Sum.inl y)).isNone)).map V.int))∧aJ H4 H5) ⟨none,rfl,ah,ak hacc _⟩ (fun i σ H5 _ ⟨_,_,_,s5⟩=>b8.of (s5 _ _ hz)) ?_ ?_⟩
 ·rintro i x σ H5 hi ⟨u,rfl,h5,s5⟩
  rw[uq]at hi
  obtain⟨y,ey,rfl⟩:=Option.map_eq_some_iff.mp hi
  have st:=take_snoc ey
  have bl:(((jg es).take i).filter (fun y=>(cP kvs (Sum.inl y)).isNone)).length≤1000:=by
   have z:=List.length_filter_le (fun y=>(cP kvs (Sum.inl y)).isNone) ((jg es).take i)
   rw[o6]at z
   omega
  refine⟨_,rfl,_,rfl,S,_,rfl,ua.k (k:=Sum.inl y) (s5 _ _ Sy),_,rfl,?_⟩
  cases ev:cP kvs (Sum.inl y) with
  | none =>
   refine iR ⟨_,rfl,_,h5,(by rw[dW];exact aV (by omega)),_,rfl,?_,dM hacc s5 (aN acc _ _)⟩
   rw[ah,st,List.filter_append,List.filter_cons_of_pos (p:=fun y=>(cP kvs (Sum.inl y)).isNone) (by rw[ev];rfl),qd]
   rfl
  | some o =>
   refine eU ⟨_,rfl,?_,s5⟩
   rw[st,List.filter_append,List.filter_cons_of_neg (p:=fun y=>(cP kvs (Sum.inl y)).isNone) (by rw[ev];exact uo),List.filter_nil,j6]
   exact h5
 rintro σ H5 ⟨u,rfl,h5,s5⟩
 rw[dW,mZ]at h5
 have Ut:=s5 _ _ Sy
 have hW5:=s5 _ _ hW4
 have sm5:=B.sm.trans (s4.trans s5)
 have Us:=B.kl
 refine⟨_,rfl,_,.inl ⟨_,b8.of h5,rfl⟩,?_⟩
 cases em:(jg es).filter (fun y=>(cP kvs (Sum.inl y)).isNone) with
 | nil =>
  refine eU ?_
  have acD:∀ y,Ci rows n y→y∈ks:=by
   rintro y ⟨_,es',he',hy⟩
   rw[nF]at he'
   cases he'
   rw[← Co B.ky]
   have z:=List.filter_eq_nil_iff.mp em y hy
   unfold seen
   cases q:cP kvs (Sum.inl y) with
   | none=>rw[q]at z;exact absurd rfl z
   | some o=>rfl
  refine⟨_,rfl,_,rfl,S,_,rfl,EX.k (k:=Sum.inl n) Ut (aV (by omega)),?_⟩
  have P6:(upd H5 S (.dK (putK kvs (Sum.inl n) (.bl true)))) W=some (.lst ((bs'++ps'++[n]).map V.int)):=by rw[aM Oq];exact hW5
  refine⟨_,rfl,.inl ⟨rfl,_,b8.of P6⟩,W,_,.int n,rfl,rfl,P6,(by simp),?_⟩
  have ee:((bs'++ps'++[n]).map V.int).dropLast=(bs'++ps').map V.int:=by rw[qd (l₁:=bs'++ps'),List.map_singleton,List.dropLast_concat]
  rw[ee]
  have rg':∀ x∈bs'++ps',0≤x∧x<rows.length:=fun x hx=>B.rg x (by rw[t.eq];exact List.mem_append_left _ hx)
  cases en:cP kvs (Sum.inl n) with
  | none =>
   have mp:=E6 (n:=rows.length) (.bl true) n0 n1 en
   refine⟨100*miss rows.length (putK kvs (Sum.inl n) (.bl true))+(bs'.length+50-ps'.length),by omega,bs',ps',ks++[n],putK kvs (Sum.inl n) (.bl true),_,_,rfl,⟨ah,(by rw[aM Oq.symm,ah]),dM QY (dM hS sm5 (aN S _ _)) (aN W _ _),?_,B.tp.snoc n0 n1 acD,rg',fun x hx=>?_,t.pw,t.rb,fun s hs=>?_,?_,by omega⟩,rfl⟩
   ·rw[zR _ en,qd,B.ky,qd]
    rfl
   ·intro q
    rcases (sF _).mp q with e|e
    ·exact (t.ns x hx).2 e
    ·exact (t.ns x hx).1 e
   ·rcases t.st s hs with q|q|q
    ·exact .inl q
    ·exact .inr (by rw[q];simp)
    ·exact .inr (List.mem_append_left _ q)
   ·rw[zR _ en,eT,vD]at *
    omega
  | some o =>
   have sn:seen kvs n:=by unfold seen;rw[en];rfl
   have so:=t.old sn
   have sp:∀ x,seen (putK kvs (Sum.inl n) (.bl true)) x↔seen kvs x:=fun x=>by
    rw[sF]
    exact⟨fun z=>z.elim (fun e=>by rw[e];exact sn) id,.inr⟩
   have ms:miss rows.length (putK kvs (Sum.inl n) (.bl true))=miss rows.length kvs:=by
    refine Li _ fun i _=>?_
    have z:=sp (i:Int)
    unfold seen at z
    cases q1:cP (putK kvs (Sum.inl n) (.bl true)) (Sum.inl (i:Int)) with
    | none =>
     cases q2:cP kvs (Sum.inl (i:Int)) with
     | none=>rfl
     | some o2=>rw[q1,q2]at z;exact absurd (z.mpr rfl) uo
    | some o1 =>
     cases q2:cP kvs (Sum.inl (i:Int)) with
     | none=>rw[q1,q2]at z;exact absurd (z.mp rfl) uo
     | some o2=>rfl
   have kn:n∈ks:=(Co B.ky n).mp sn
   refine⟨100*miss rows.length (putK kvs (Sum.inl n) (.bl true))+(bs'.length+50-ps'.length),by rw[ms];omega,bs',ps',ks,putK kvs (Sum.inl n) (.bl true),_,_,rfl,⟨ah,(by rw[aM Oq.symm,ah]),dM QY (dM hS sm5 (aN S _ _)) (aN W _ _),?_,B.tp,rg',fun x hx q=>(t.ns x hx).1 ((sp x).mp q),t.pw,t.rb,fun s hs=>?_,?_,by omega⟩,rfl⟩
   ·rw[Cp _ (by rw[en];rfl),B.ky]
   ·rcases t.st s hs with q|q|q
    ·exact .inl q
    ·exact .inr (by rw[q];exact kn)
    ·exact .inr q
   ·have z:=congrArg List.length (Cp (kvs:=kvs) (k:=Sum.inl n) (.bl true) (by rw[en];rfl))
    rw[dW,dW]at z
    rw[z,ms]
    exact Us
 | cons y ts =>
  refine iR ?_
  rw[em]at h5
  have ym:y∈(jg es).filter (fun y=>(cP kvs (Sum.inl y)).isNone):=by rw[em];simp
  obtain⟨yw,yn⟩:=List.mem_filter.mp ym
  have QZ:Ci rows n y:=⟨n0,es,nF,yw⟩
  obtain⟨y0,y1⟩:=JG.Oe QZ
  obtain⟨up1,up2⟩:=t.up y (hrb y) (hrk n y QZ)
  have wl:=congrArg List.length t.eq
  rw[eT]at wl
  refine⟨_,rfl,.inl ⟨rfl,_,b8.of hW5⟩,_,rfl,acc,_,_,_,rfl,rfl,b8.of h5,gO (xs:=V.int y::ts.map V.int) (j:=0) rfl,W,_,_,rfl,rfl,hW5,(by rw[dW,← wl];exact aV (by omega)),?_⟩
  have pl2:=GY up2
  rw[eT,vD]at pl2
  refine⟨100*miss rows.length kvs+(bs.length+50-(ps++[y]).length),?_,bs,ps++[y],ks,kvs,_,_,rfl,⟨(by rw[ah,← oZ,t.eq,qd (l₁:=bs'++ps'++[n])];rfl),(by rw[aM Oq.symm];exact Ut),dM QY sm5 (aN W _ _),B.ky,B.tp,fun x hx=>?_,fun x hx=>?_,up1,up2,B.st,Us,bbl⟩,rfl⟩
  ·rw[eT,vD];omega
  ·rw[← oZ]at hx
   rcases List.mem_append.mp hx with q|q
   ·exact B.rg x q
   ·have:x=y:=by simpa using q
    subst this
    exact⟨y0,y1⟩
  ·rcases List.mem_append.mp hx with q|q
   ·exact B.ns x q
   ·have:x=y:=by simpa using q
    subst this
    intro q
    unfold seen at q
    cases w:cP kvs (Sum.inl x) with
    | none=>rw[w]at q;cases q
    | some o=>rw[w]at yn;cases yn
structure Bfs(rows:gj)(H:Hp)(W S:Addr)(s g:Int)(extra:Int→Prop)(H2:Hp)(vs:List V)(wl:gj)(kvs:List (Key × V)):Prop where
 hW:H2 W=some (.lst vs)
 hl:cu (iF (fun a=>a=W∨a=S) H2) vs wl
 hS:H2 S=some (.dK kvs)
 sm:aJ H H2
 wk:∀ w∈wl,Walk (Ci rows) s w∧w.length≤kvs.length+1∧∃ e,w.getLast?=some e∧0≤e∧e<rows.length
 kl:kvs.length+miss rows.length kvs≤rows.length
 cl:∀ x,(x=s∨seen kvs x)→(∃ w∈wl,w.getLast?=some x)∨extra x∨∀ y,Ci rows x y→y≠g∧seen kvs y
inductive Ip(vs:List V)(H:Hp)(Q:VK)(E:XK):Prop
 | mk (r:Addr) (rows:gj) (s g:Int) (_:vs=[.ref r,.int s,.int g]) (_:gV H r (rows.map itemsOf)) (_:rows.length≤1000) (_:(∀ es∈rows,es.length≤1000)) (_:Sound rows) (_:0≤s) (_:s<rows.length) (_:(∀ (way:List Int) (o:Addr) (H':Hp),H' o=some (.lst (way.map V.int))→aJ H H'→Walk (Ci rows) s way→2≤way.length→way.length≤2000→way.getLast?=some g→Q (.ref o) H')) (_:(¬ Reach (Ci rows) s g→∀ H',aJ H H'→Q .jc H')):Ip vs H Q E
theorem jS:aL ["rows","start","goal","ways","seen","way","number"] ["rows","start","goal"] (az iS):=⟨rfl,rfl,rfl,by decide +kernel,rfl,by decide +kernel,by decide +kernel⟩
def Uu(n:Nat)(W S:Addr):L2.St→Hp→Nat:=fun _ H=>match H W,H S with
 | some (.lst vs),some (.dK kvs)=>2*miss n kvs+vs.length
 | _,_=>0
theorem Lu{n:Nat}{W S:Addr}{σ:L2.St}{H:Hp}{vs:List V}{kvs:List (Key × V)}(h1:H W=some (.lst vs))(h2:H S=some (.dK kvs)):Uu n W S σ H=2*miss n kvs+vs.length:=by
 unfold Uu
 rw[h1,h2]
def Ot(rows:gj)(H:Hp)(r W S:Addr)(s g:Int)(σ:L2.St)(H2:Hp):Prop:=∃ (vs:List V) (wl:gj) (kvs:List (Key × V)) (u v:Option V),σ=[some (.ref r),some (.int s),some (.int g),some (.ref W),some (.ref S),u,v]∧Bfs rows H W S s g (fun _=>False) H2 vs wl kvs∧vs.length+2*miss rows.length kvs≤2*rows.length+1
theorem Ac{f fI:Addr}{fd ze:FuncData}(F:iJ K "way_between" "way_between" iS f fd)(T:qT mg)(bX:aF K mg "windows" dX mF fI ze):aH P w K mg base cK 2 f fd IQ Ip:=by
 have Ab:aH P w K mg base cK 1 fI ze mF Dk:=Aa bX.F T
 refine F.ok jS (fun vs H Q E h=>?_) (fun cdv A outer s0 H vs Q E hr h=>?_)
 ·obtain⟨r,rows,s,g,rfl,_⟩:=h
  rfl
 obtain⟨r,rows,s,g,rfl,hR,hlen,hes,JG,h0,h1,kY,kN⟩:=h
 have hu:=qh hr
 refine⟨_,(ao (aY (i:=3) jS.nd rfl (Or.inl rfl) (bW (af (bW (af (pv 1) aj)) aj)))
   (ao (aY (i:=4) jS.nd rfl (Or.inl rfl) oq)
   (ao (Er PassesOwn.never (mK (pv 3) (fun _=>rfl)) (ao (aY (i:=5) jS.nd rfl (Or.inl rfl) (nu uJ PySem.F.slot_list_pop PySem.F.type_list_pop KA (pv 3) (af aC aj)))
   (au (jI PassesOwn.never rfl (eK (aS bX Ab hr (af (bN bM (pv 0) (bN bM (pv 5) (rZ nV aC) (fun _ _=>rfl)) (fun _ _=>rfl)) aj))) (br (i:=6) jS.nd rfl (Or.inl rfl))
   (ao (cC (bP kQ (pv 6) (pv 2) (bU _))
   (au (aP (bw pT (pv 5) (bW (af (pv 2) aj)))))
   bF)
   (au (cC (CU (Cc hu (pv 6) (pv 4)))
   (ao (yZ hu (pv 4) (pv 6) rW rfl)
   (au (bq (nu uJ wL wM dF (pv 3) (af (bw pT (pv 5) (bW (af (pv 6) aj))) aj)))))
   bF)))))))
   (au (aP Gh))))),?_⟩
 refine⟨_,rfl,(by show 1≤sizeLine;decide),fun a0 ha0=>⟨(by show 1≤sizeLine;decide),fun W hW=>?_⟩⟩
 intro S hS
 have s1:aJ H (upd H a0 (.lst [.int s])):=ak ha0 _
 have s2:=s1.trans (ak hW (.lst [.ref a0]))
 have s3:=s2.trans (ak hS (.dK []))
 have QY:H W=none:=by
  cases e:H W with
  | none=>rfl
  | some o=>exact absurd ((s1 _ _ e).symm.trans hW) (by simp)
 have H0S:H S=none:=by
  cases e:H S with
  | none=>rfl
  | some o=>exact absurd ((s2 _ _ e).symm.trans hS) (by simp)
 have Oq:W≠S:=ay ah hS
 have n0W:a0≠W:=ay ah hW
 have n0S:a0≠S:=ay (ak hW _ _ _ ah) hS
 refine⟨fun m σ H2=>m=Uu rows.length W S σ H2∧Ot rows H r W S s g σ H2,⟨_,rfl,?_⟩,?_⟩
 ·have cl:=Lj rows.length (fun i=>(cP ([]:List (Key × V)) (Sum.inl (i:Int))).isNone)
  refine⟨[.ref a0],[[s]],[],none,none,rfl,⟨ak hS _ _ _ ah,.cons ⟨a0,rfl,(fun z=>z.elim n0W n0S),ak hS _ _ _ (ak hW _ _ _ ah)⟩ .nil,ah,s3,?_,?_,?_⟩,?_⟩
  ·intro w hw
   have:w=[s]:=by simpa using hw
   subst this
   exact⟨Walk.one _ _,by simp,s,rfl,h0,h1⟩
  ·show 0+miss rows.length []≤rows.length
   unfold miss
   omega
  ·rintro x (rfl|hx)
   ·exact .inl ⟨[x],by simp,rfl⟩
   ·cases hx
  ·show 1+2*miss rows.length []≤_
   unfold miss
   omega
 ·rintro m σ H2 ⟨rfl,vs,wl,kvs,u,v,rfl,B,hml⟩
  rw[Lu B.hW B.hS]
  refine⟨_,rfl,!vs.isEmpty,.inl ⟨vs,b8.of B.hW,rfl⟩,?_⟩
  cases vs with
  | nil =>
   refine eU (kN (fun P7=>?_) H2 B.sm)
   have hwl:=B.hl
   cases hwl
   have base:∀ x,(x=s∨seen kvs x)→∀ y,Ci rows x y→y≠g∧seen kvs y:=fun x hx=>by
    rcases B.cl x hx with ⟨w,hw,_⟩|z|z
    ·cases hw
    ·exact z.elim
    ·exact z
   exact (Reach.closed (S:=fun y=>y≠g∧seen kvs y) (base s (.inl rfl)) (fun x y hx=>base x (.inr hx.2) y) P7).1 rfl
  | cons v0 vs' =>
   refine iR ⟨fun σ' H'=>Ot rows H r W S s g σ' H'∧Uu rows.length W S σ' H'<2*miss rows.length kvs+(v0::vs').length,fun σ' H' ⟨p,l⟩=>⟨_,l,rfl,p⟩,?_⟩
   obtain⟨hW2,hl2,PY,sm2,wk2,kl2,cl2⟩:=id B
   cases hl2 with
   | @cons _ w0 _ wl' hv0 acF =>
   obtain⟨wa,rfl,nwa,hwa⟩:=id hv0
   obtain⟨wkw,wlw,e,hle,e0,e1⟩:=wk2 w0 (by simp)
   have wal:∃ w1,w0=w1++[e]:=by
    rw[List.getLast?_eq_some_iff]at hle
    exact hle
   obtain⟨w1,rfl⟩:=wal
   obtain⟨es,nF⟩:∃ es,rows[e.toNat]?=some es:=⟨_,rL (by omega)⟩
   have acG:es∈rows:=nQ nF
   have Sx:=hes es acG
   refine⟨_,rfl,.inl ⟨rfl,_,b8.of hW2⟩,W,_,0,0,.ref wa,rfl,rfl,hW2,by decide,by decide,(by simp[seqIndex?]),rfl,?_⟩
   have ee:(V.ref wa::vs').eraseIdx 0=vs':=rfl
   rw[ee]
   have Sz:∀ {v:V} {ns:List Int},iF (fun a=>a=W∨a=S) H2 v ns→iF (fun a=>a=W∨a=S) (upd H2 W (.lst vs')) v ns:=fun h=>h.at _ (.inl rfl)
   have P8:aJ H (upd H2 W (.lst vs')):=dM QY sm2 (aN W _ _)
   obtain⟨GZ,Mf,vV⟩:=hR.same P8
   obtain⟨vi,Ng,hI⟩:=vV.get' (i:=e.toNat) (b:=itemsOf es) (by rw[uq,nF];rfl)
   obtain⟨b,Mg,rfl,hb,hit⟩:=id hI
   have acH:(upd H2 W (.lst vs')) wa=some (.lst (w1.map V.int++[.int e])):=by
    rw[aM (fun z=>nwa (.inl z)),hwa,qd]
    rfl
   have hil:=tG es []
   refine⟨_,rfl,_,rfl,_,rfl,wa,_,_,_,rfl,rfl,b8.of acH,kZ _ _,r,_,_,_,rfl,rfl,b8.of Mf,?_,b,itemsOf es,rfl,hI,?_,fun z H4 hz s4 nz=>?_⟩
   ·have z:=gO Ng
    rw[show ((e.toNat:Nat):Int)=e by omega]at z
    exact z
   ·show (es.foldl aU []).length≤_
    simp only[List.length_nil]at hil
    omega
   rw[jE]at hz
   have hW3:(upd H2 W (.lst vs')) W=some (.lst vs'):=ah
   have JH:(upd H2 W (.lst vs')) S=some (.dK kvs):=by rw[aM Oq.symm];exact PY
   have nzW:z≠W:=(ay hW3 nz).symm
   have nzS:z≠S:=(ay JH nz).symm
   have acA:(jg es).length≤es.length:=List.length_filterMap_le _ es
   refine⟨z,rfl,⟨_,b8.of hz⟩,jM (K:=K) (a:=z) (xs:=(jg es).map V.int) (fun i σ H5=>∃ (Lv:List V) (Ou:gj) (lY:List (Key × V)) (v:Option V),σ=[some (.ref r),some (.int s),some (.int g),some (.ref W),some (.ref S),some (.ref wa),v] ∧
    Bfs rows H W S s g (fun x=>x=e) H5 Lv Ou lY∧iF (fun a=>a=W∨a=S) H5 (.ref wa) (w1++[e])∧iF (fun a=>a=W∨a=S) H5 (.ref z) (jg es)∧(∀ y∈(jg es).take i,y≠g∧seen lY y)∧Lv.length+2*miss rows.length lY≤vs'.length+2*miss rows.length kvs∧kvs.length≤lY.length) ?_ ?_ ?_ ?_⟩
   ·refine⟨vs',wl',kvs,_,rfl,⟨s4 _ _ hW3,acF.mono fun _ _ h=>(Sz h).same s4,s4 _ _ JH,P8.trans s4,fun w hw=>wk2 w (tY _ hw),kl2,fun x hx=>?_⟩,(Sz hv0).same s4,⟨z,rfl,fun q=>q.elim nzW nzS,hz⟩,(fun y hy=>by simp at hy),jj _,jj _⟩
    rcases cl2 x hx with ⟨w,hw,hwx⟩|q|q
    ·rcases List.mem_cons.mp hw with rfl|hw'
     ·refine .inr (.inl ?_)
      rw[hle]at hwx
      exact (rN hwx).symm
     ·exact .inl ⟨w,hw',hwx⟩
    ·exact q.elim
    ·exact .inr (.inr q)
   ·rintro i σ H5 _ ⟨_,_,_,_,_,_,_,⟨a,ea,_,ha⟩,_⟩
    cases ea
    exact b8.of ha
   ·rintro i x σ H5 hi ⟨Lv,Ou,lY,v,rfl,B5,Nh,hz5,Fd,hm5,hk5⟩
    rw[uq]at hi
    obtain⟨y,ey,rfl⟩:=Option.map_eq_some_iff.mp hi
    have QZ:Ci rows e y:=⟨e0,es,nF,nQ ey⟩
    obtain⟨y0,y1⟩:=JG.Oe QZ
    obtain⟨wa',ewa,acK,Ov⟩:=id Nh
    cases ewa
    have wl0:(w1++[e]).length≤2000:=by have:=B5.kl;omega
    refine⟨_,rfl,_,rfl,rfl,_,rfl,gP (fun c=>?_) (fun c=>?_)⟩
    ·have eg:y=g:=V.int.inj (of_decide_eq_true c)
     subst eg
     refine⟨_,rfl,_,rfl,(by show 1≤sizeLine;decide),fun b1 hb1=>⟨wa,b1,_,_,rfl,rfl,ak hb1 _ _ _ Ov,ah,mJ (aV (by rw[dW];simp at wl0 ⊢;omega)),fun o ho=>?_⟩⟩
     refine kY (w1++[e]++[y]) o _ ?_ ((B5.sm.trans (ak hb1 _)).trans (ak ho _)) (wkw.snoc hle QZ) (by simp) (by have:=B5.kl;rw[eT,vD];omega) (by simp)
     rw[ah,qd (l₁:=w1++[e])]
     rfl
    ·have eg:¬ y=g:=fun q=>c (decide_eq_true (congrArg V.int q))
     refine⟨_,rfl,_,rfl,S,_,rfl,ua.k (k:=Sum.inl y) B5.hS,_,rfl,?_⟩
     have Ow:∀ Ni:List (Key × V),(∀ x,seen lY x→seen Ni x)→seen Ni y→∀ y'∈(jg es).take (i+1),y'≠g∧seen Ni y':=fun Ni hmono hy y' hy'=>by
      rw[take_snoc ey]at hy'
      rcases List.mem_append.mp hy' with q|q
      ·exact⟨(Fd y' q).1,hmono _ (Fd y' q).2⟩
      ·have:y'=y:=by simpa using q
       subst this
       exact⟨eg,hy⟩
     cases ev:cP lY (Sum.inl y) with
     | some o1 =>
      refine eU ?_
      exact⟨Lv,Ou,lY,_,rfl,B5,Nh,hz5,Ow lY (fun _ q=>q) (by unfold seen;rw[ev];rfl),hm5,hk5⟩
     | none =>
      refine iR ?_
      have Us:=B5.kl
      refine⟨_,rfl,_,rfl,S,_,rfl,EX.k (k:=Sum.inl y) B5.hS (aV (by omega)),?_⟩
      have e6:∀ {v:V} {ns:List Int},iF (fun a=>a=W∨a=S) H5 v ns→iF (fun a=>a=W∨a=S) (upd H5 S (.dK (putK lY (Sum.inl y) (.bl true)))) v ns:=fun h=>h.at _ (.inr rfl)
      have s6:aJ H (upd H5 S (.dK (putK lY (Sum.inl y) (.bl true)))):=dM H0S B5.sm (aN S _ _)
      have P6:(upd H5 S (.dK (putK lY (Sum.inl y) (.bl true)))) W=some (.lst Lv):=by rw[aM Oq];exact B5.hW
      have SA:(upd H5 S (.dK (putK lY (Sum.inl y) (.bl true)))) wa=some (.lst ((w1++[e]).map V.int)):=by rw[aM (fun q=>acK (.inr q))];exact Ov
      have P9:(upd H5 S (.dK (putK lY (Sum.inl y) (.bl true)))) S=some (.dK (putK lY (Sum.inl y) (.bl true))):=ah
      generalize upd H5 S (.dK (putK lY (Sum.inl y) (.bl true)))=H6 at e6 s6 P6 SA P9
      have vl:Lv.length<sizeLine:=aV (by simp only[pP]at hml;omega)
      refine⟨_,rfl,.inl ⟨rfl,_,b8.of P6⟩,_,rfl,_,rfl,(by show 1≤sizeLine;decide),fun b1 hb1=>⟨wa,b1,_,_,rfl,rfl,ak hb1 _ _ _ SA,ah,mJ (aV (by rw[dW];simp at wl0 ⊢;omega)),fun o ho=>⟨W,_,_,rfl,rfl,ak ho _ _ _ (ak hb1 _ _ _ P6),vl,?_⟩⟩⟩
      have s7:aJ H6 (upd H6 b1 (.lst [.int y])):=ak hb1 _
      have s8:=s7.trans (ak ho (.lst ((w1++[e]).map V.int++[.int y])))
      have noW:o≠W:=(ay (s7 _ _ P6) ho).symm
      have SD:o≠S:=(ay (s7 _ _ P9) ho).symm
      have e9:∀ {v:V} {ns:List Int},iF (fun a=>a=W∨a=S) H5 v ns→iF (fun a=>a=W∨a=S) (upd (upd (upd H6 b1 (.lst [.int y])) o (.lst ((w1++[e]).map V.int++[.int y]))) W (.lst (Lv++[.ref o]))) v ns:=fun h=>((e6 h).same s8).at _ (.inl rfl)
      have mp:=E6 (n:=rows.length) (.bl true) y0 y1 ev
      have pl:(putK lY (Sum.inl y) (.bl true)).length=lY.length+1:=by rw[zR _ ev];simp
      have mono:∀ x,seen lY x→seen (putK lY (Sum.inl y) (.bl true)) x:=fun x q=>(sF _).mpr (.inr q)
      have sy:seen (putK lY (Sum.inl y) (.bl true)) y:=(sF _).mpr (.inl rfl)
      refine⟨Lv++[.ref o],Ou++[w1++[e]++[y]],putK lY (Sum.inl y) (.bl true),_,rfl,⟨ah,cu.snoc (B5.hl.mono fun _ _ h=>e9 h) ⟨o,rfl,fun q=>q.elim noW SD,?_⟩,?_,dM QY (s6.trans s8) (aN W _ _),?_,?_,?_⟩,e9 Nh,e9 hz5,Ow _ mono sy,?_,?_⟩
      ·rw[aM noW,ah,qd (l₁:=w1++[e])]
       rfl
      ·rw[aM Oq.symm]
       exact s8 _ _ P9
      ·intro w hw
       rcases List.mem_append.mp hw with q|q
       ·obtain⟨q1,q2,q3⟩:=B5.wk w q
        exact⟨q1,by omega,q3⟩
       ·have:w=w1++[e]++[y]:=by simpa using q
        subst this
        refine⟨wkw.snoc hle QZ,?_,y,by simp,y0,y1⟩
        rw[eT,vD,pl]
        omega
      ·omega
      ·intro x hx
       have old:(x=s∨seen lY x)→(∃ w∈Ou++[w1++[e]++[y]],w.getLast?=some x)∨x=e∨∀ y_1,Ci rows x y_1→y_1≠g∧seen (putK lY (Sum.inl y) (.bl true)) y_1:=fun q=>by
        rcases B5.cl x q with ⟨w,hw,hl⟩|q|q
        ·exact .inl ⟨w,List.mem_append_left _ hw,hl⟩
        ·exact .inr (.inl q)
        ·exact .inr (.inr fun y' hy'=>⟨(q y' hy').1,mono _ (q y' hy').2⟩)
       rcases hx with q|q
       ·exact old (.inl q)
       ·rcases (sF _).mp q with rfl|q'
        ·exact .inl ⟨w1++[e]++[x],by simp,by simp⟩
        ·exact old (.inr q')
      ·rw[eT,vD]
       omega
      ·omega
   ·rintro σ H5 ⟨Lv,Ou,lY,v,rfl,B5,Nh,hz5,Fd,hm5,hk5⟩
    rw[dW,mZ]at Fd
    have B6:Bfs rows H W S s g (fun _=>False) H5 Lv Ou lY:=⟨B5.hW,B5.hl,B5.hS,B5.sm,B5.wk,B5.kl,fun x hx=>by
     rcases B5.cl x hx with q|rfl|q
     ·exact .inl q
     ·refine .inr (.inr fun y hy=>Fd y ?_)
      obtain⟨_,es',he',hy'⟩:=hy
      rw[nF]at he'
      cases he'
      exact hy'
     ·exact .inr (.inr q)⟩
    simp only[pP]at hml
    refine⟨⟨Lv,Ou,lY,_,_,rfl,B6,by omega⟩,?_⟩
    rw[Lu B6.hW B6.hS,pP]
    omega
inductive G1(vs:List V)(H:Hp)(Q:VK)(E:XK):Prop
 | mk (r:Addr) (s:Int) (_:vs=[.ref r,.int s]) (_:Ip [.ref r,.int s,.int s] H Q E):G1 vs H Q E
theorem Qa:aL ["rows","sheet"] ["rows","sheet"] (az BN):=⟨rfl,rfl,rfl,by decide +kernel,rfl,by decide +kernel,by decide +kernel⟩
theorem Nj{f fI fJ:Addr}{fd ze fdJ:FuncData}(F:iJ K "ring" "ring" BN f fd)(T:qT mg)(bX:aF K mg "windows" dX mF fI ze)(jF:aF K mg "way_between" iS IQ fJ fdJ):aH P w K mg base cK 3 f fd rS G1:=by
 have Dl:aH P w K mg base cK 2 fJ fdJ IQ Ip:=Ac jF.F T bX
 refine F.ok Qa (fun vs H Q E h=>?_) (fun cdv A outer s H vs Q E hr h=>?_)
 ·obtain⟨r,s,rfl,_⟩:=h
  rfl
 obtain⟨r,s,rfl,h⟩:=h
 refine⟨_,(au (aP (aS jF Dl hr (af (pv 0) (af (pv 1) (af (pv 1) aj)))))),?_⟩
 refine⟨_,rfl,_,rfl,_,rfl,?_⟩
 obtain⟨r',rows,s',g,e,h1,h2,h3,h4,h5,h6,kY,kN⟩:=h
 cases e
 exact⟨r,rows,s,s,rfl,h1,h2,h3,h4,h5,h6,kY,kN⟩
def Dm(f:Int→Int)(es:List Int):Int:=(es.map fun e=>if e<0 then 1+f (-1-e) else 1).sum
def Dn(f:Int→Int):Item→Int
 | .win n=>1+f n
 | .aR a b=>b-a
def Fe(f:Int→Int)(its:List Item):Int:=(its.map (Dn f)).sum
theorem oA(f:Int→Int)(a b:List Item):Fe f (a++b)=Fe f a+Fe f b:=by unfold Fe;rw[qd,List.sum_append]
theorem Lw(f:Int→Int)(t:List Item)(e:Int):Fe f (aU t e)=Fe f t+(if e<0 then 1+f (-1-e) else 1):=by
 unfold aU
 by_cases h:e<0
 ·rw[if_pos h,if_pos h,oA]
  simp[Fe,Dn]
 ·rw[if_neg h,if_neg h]
  rcases uK t with rfl|⟨t',l,rfl⟩
  ·simp[Fe,Dn]
   omega
  ·rw[rM,wN]
   cases l with
   | win n =>
    show Fe f (t'++[Item.win n]++[.aR e (e+1)])=_
    rw[oA]
    simp[Fe,Dn]
    omega
   | aR a b =>
    show Fe f (if b=e then (t'++[Item.aR a b]).dropLast++[.aR a (e+1)] else (t'++[Item.aR a b])++[.aR e (e+1)])=_
    by_cases hb:b=e
    ·rw[if_pos hb,List.dropLast_concat,oA,oA]
     simp[Fe,Dn]
     omega
    ·rw[if_neg hb,oA]
     simp[Fe,Dn]
     omega
theorem JI(f:Int→Int)(es:List Int):Fe f (itemsOf es)=Dm f es:=by
 have z:∀ t:List Item,Fe f (es.foldl aU t)=Fe f t+Dm f es:=by
  induction es with
  | nil=>intro t;simp[Dm]
  | cons e es ih =>
   intro t
   rw[nR,ih,Lw]
   unfold Dm
   rw[lS,List.sum_cons]
   omega
 have:=z []
 unfold itemsOf
 rw[this]
 simp[Fe]
def Weighs(rows:gj)(f:Int→Int):Prop:=∀ (x:Int) (es:List Int),0≤x→rows[x.toNat]?=some es→f x=Dm f es
inductive Qc(vs:List V)(H:Hp)(Q:VK)(E:XK):Prop
 | mk (v:V) (it:Item) (S:Addr) (kvs:List (Key × V)) (f:Int→Int) (_:vs=[v,.ref S]) (_:cB H v it) (_:H S=some (.dK kvs)) (_:(∀ n,it=.win n→cP kvs (Sum.inl n)=some (.int (f n)))) (_:Q (.int (Dn f it)) H):Qc vs H Q E
theorem Bk:aL ["item","weights"] ["item","weights"] (az gQ):=⟨rfl,rfl,rfl,by decide +kernel,rfl,by decide +kernel,by decide +kernel⟩
theorem Ad{g:Addr}{fd:FuncData}(F:iJ K "item_weight" "item_weight" gQ g fd)(T:qT mg):aH P w K mg base cK 1 g fd Ga Qc:=by
 refine F.ok Bk (fun vs H Q E h=>?_) (fun cdv A outer s H vs Q E hr h=>?_)
 ·obtain⟨v,it,S,kvs,f,rfl,_⟩:=h
  rfl
 obtain⟨v,it,S,kvs,f,rfl,⟨a,rfl,ha⟩,hS,hw,k⟩:=h
 have hu:=qh hr
 refine⟨_,(ao (cC (bP kQ (bN gA (pv 0) aC (fun _ _=>rfl)) cN (bU _))
   (au (aP (bw gz aC (pD hu (pv 1) (bN gA (pv 0) aC (fun _ _=>rfl)) (fun _ _=>rfl)))))
   bF)
   (au (aP (bw iu (bN gA (pv 0) aC (fun _ _=>rfl)) (bN gA (pv 0) aC (fun _ _=>rfl)))))),?_⟩
 cases it with
 | win n =>
  refine⟨_,rfl,a,_,_,_,rfl,rfl,jL.of ha,rfl,rfl,_,rfl,gP (fun _=>?_) (fun z=>absurd (by decide) z)⟩
  have z:=ua.k (k:=Sum.inl n) hS
  rw[hw n rfl]at z
  exact⟨_,rfl,_,rfl,a,_,_,_,rfl,rfl,jL.of ha,rfl,S,_,rfl,z,_,_,rfl,rfl,k⟩
 | aR p q =>
  refine⟨_,rfl,a,_,_,_,rfl,rfl,jL.of ha,rfl,rfl,_,rfl,gP (fun z=>absurd z (by decide)) (fun _=>?_)⟩
  exact⟨_,rfl,a,_,_,_,rfl,rfl,jL.of ha,rfl,_,rfl,a,_,_,_,rfl,rfl,jL.of ha,rfl,_,_,rfl,rfl,k⟩
inductive qU(vs:List V)(H:Hp)(Q:VK)(E:XK):Prop
 | mk (r L:Addr) (rows:gj) (ss:List Int) (f:Int→Int) (_:vs=[.ref r,.ref L]) (_:gV H r (rows.map itemsOf)) (_:H L=some (.lst (ss.map V.int))) (_:ss.length≤1000) (_:rows.length≤1000) (_:(∀ es∈rows,es.length≤1000)) (_:Sound rows) (_:F3 rows) (_:(∀ s∈ss,0≤s∧s<rows.length)) (_:Weighs rows f) (_ :
 ∀ (S:Addr) (kvs:List (Key × V)) (H':Hp),H' S=some (.dK kvs)→(∀ s∈ss,cP kvs (Sum.inl s)=some (.int (f s)))→aJ H H'→H S=none→Q (.ref S) H'):qU vs H Q E
theorem ng:aL ["rows","sheets","weights","number"] ["rows","sheets"] (az dY):=⟨rfl,rfl,rfl,by decide +kernel,rfl,by decide +kernel,by decide +kernel⟩
theorem qt{g fI fB fW:Addr}{fd ze Lx F5:FuncData}(F:iJ K "weights_below" "weights_below" dY g fd)(T:qT mg)(bX:aF K mg "windows" dX mF fI ze)(iU:aF K mg "below" kg j4 fB Lx)(gW:aF K mg "item_weight" gQ Ga fW F5):aH P w K mg base cK 3 g fd j4 qU:=by
 have G2:aH P w K mg base cK 2 fB Lx j4 zd:=Fc iU.F T bX
 have Dp:aH P w K mg base cK 1 fW F5 Ga Qc:=Ad gW.F T
 refine F.ok ng (fun vs H Q E h=>?_) (fun cdv A outer s0 H vs Q E hr h=>?_)
 ·obtain⟨r,L,rows,ss,f,rfl,_⟩:=h
  rfl
 obtain⟨r,L,rows,ss,f,rfl,hR,hL,hsl,hlen,hes,JG,hrk,hin,hf,k⟩:=h
 have hu:=qh hr
 refine⟨_,(ao (aY (i:=2) ng.nd rfl (Or.inr rfl) oq)
   (ao (jI PassesOwn.never rfl (eK (aS iU G2 hr (af (pv 0) (af (pv 1) aj)))) (br (i:=3) ng.nd rfl (Or.inl rfl))
   (au (yZ hu (pv 2) (pv 3) (bL (ED rfl) rfl T.Oj PyProof.Rows.boot_sum (af (sE (N:=["item","weights"]) (zS (sc:=az dY) (NX:=["rows","sheets","weights","number"]) (jx:=[none,some 2]) rfl rfl rfl (by decide +kernel) (by decide +kernel) rfl (by decide +kernel) rfl (by decide +kernel)) rfl (eK (bN bM (pv 0) (pv 3) (fun _ _=>rfl))) (fun _ _ _ _ _ _=>(br (i:=0) (show List.Nodup (["item","weights"]:List Str) by decide +kernel) rfl (Or.inl rfl))) (fun _ _ _ _ _ _=>nE) (fun _ _ _ _ _ _=>(aS gW Dp hr (af (pv 0) (af (pv 1) aj))))) aj)) rfl)))
   (au (aP (pv 2))))),?_⟩
 intro S hS
 have s1:aJ H (upd H S (.dK [])):=ak hS _
 refine⟨_,rfl,_,rfl,r,L,rows,ss,rfl,hR.same s1,s1 _ _ hL,hsl,hlen,hes,JG,hrk,hin,fun ks o H2 ho s2 tp sk kl hno=>?_⟩
 have PY:=s2 _ _ (ah (H:=H) (a:=S) (o:=.dK []))
 have SD:o≠S:=(ay ah hno).symm
 refine⟨o,rfl,⟨_,b8.of ho⟩,jM (K:=K) (a:=o) (xs:=ks.map V.int) (fun i σ H3=>∃ (kvs:List (Key × V)) (u:Option V),σ=[some (.ref r),some (.ref L),some (.ref S),u]∧H3 S=some (.dK kvs)∧(∀ y∈ks.take i,cP kvs (Sum.inl y)=some (.int (f y)))∧kvs.length≤i∧(∀ a ob,a≠S→H2 a=some ob→H3 a=some ob)) ⟨[],none,rfl,PY,(fun y hy=>by simp at hy),jj _,fun _ _ _ e=>e⟩ ?_ ?_ ?_⟩
 ·rintro i σ H3 _ ⟨_,_,_,_,_,_,k3⟩
  exact b8.of (k3 o _ SD ho)
 ·rintro i x σ H3 hi ⟨kvs,u,rfl,JH,J9,hk3,k3⟩
  rw[uq]at hi
  obtain⟨x,ex,rfl⟩:=Option.map_eq_some_iff.mp hi
  obtain⟨x0,x1⟩:=tp.Gf x (nQ ex)
  obtain⟨es,nF⟩:∃ es,rows[x.toNat]?=some es:=⟨_,rL (by omega)⟩
  have Sx:=hes es (nQ nF)
  have P8:aJ H H3:=fun a ob e=>k3 a ob (ay e hS) (s2 _ _ (s1 _ _ e))
  obtain⟨GZ,Mf,vV⟩:=hR.same P8
  obtain⟨vi,Ng,hI⟩:=vV.get' (i:=x.toNat) (b:=itemsOf es) (by rw[uq,nF];rfl)
  obtain⟨b,Mg,rfl,hb,hit⟩:=id hI
  have hil:=tG es []
  have ajU:(itemsOf es).length≤1000:=by
   show (es.foldl aU []).length≤_
   simp only[List.length_nil]at hil
   omega
  have Ls:A0 GZ x=some (.ref b):=by
   have z:=gO Ng
   rw[show ((x.toNat:Nat):Int)=x by omega]at z
   exact z
  refine⟨_,rfl,_,rfl,r,_,_,_,rfl,rfl,b8.of Mf,Ls,b,rfl,⟨_,b8.of hb⟩,fun acc hacc=>ou (K:=K) (a:=b) (xs:=Mg) (fun j σ H5=>∃ u:Option V,σ=[u,some (.ref S)]∧H5 acc=some (.lst ((((itemsOf es).take j).map (Dn f)).map V.int))∧aJ H3 H5) ⟨none,rfl,ah,ak hacc _⟩ (fun j σ H5 _ ⟨_,_,_,s5⟩=>b8.of (s5 _ _ hb)) ?_ ?_⟩
  ·rintro j v σ H5 hj ⟨u,rfl,h5,s5⟩
   obtain⟨it,ei,hiv⟩:=hit.get hj
   have st:=take_snoc ei
   unfold vH Jl
   refine iR ⟨_,rfl,_,rfl,v,it,S,kvs,f,rfl,hiv.same s5,s5 _ _ JH,fun n hn=>?_,?_⟩
   ·subst hn
    refine J9 n (tp.dn i x ex n ⟨x0,es,nF,?_⟩)
    rw[← jE]
    unfold eV
    rw[List.mem_filterMap]
    exact⟨.win n,nQ ei,rfl⟩
   ·refine⟨_,h5,(by rw[dW,dW,o6];exact aV (by omega)),_,rfl,?_,dM hacc s5 (aN acc _ _)⟩
    rw[ah,st,qd,qd]
    rfl
  ·rintro σ H5 ⟨u,rfl,h5,s5⟩
   rw[hit.len,mZ]at h5
   have es1:((itemsOf es).map (Dn f)).sum=f x:=by rw[hf x es x0 nF];exact JI f es
   have Ut:=s5 _ _ JH
   have kvl:i<ks.length:=by
    rcases Nat.lt_or_ge i ks.length with q|q
    ·exact q
    ·rw[List.getElem?_eq_none q]at ex;cases ex
   refine⟨acc,_,rfl,b8.of h5,?_⟩
   rw[es1]
   refine⟨_,rfl,_,rfl,S,_,rfl,EX.k (k:=Sum.inl x) Ut (aV (by omega)),?_⟩
   refine⟨putK kvs (Sum.inl x) (.int (f x)),_,rfl,ah,fun y hy=>?_,?_,fun a ob n e=>?_⟩
   ·rw[mR]
    rw[take_snoc ex]at hy
    by_cases c:y=x
    ·rw[if_pos (by rw[c]),c]
    ·rw[if_neg (fun z=>c (Sum.inl.inj z))]
     rcases List.mem_append.mp hy with q|q
     ·exact J9 y q
     ·exact absurd (by simpa using q) c
   ·have:=kI kvs (Sum.inl x) (V.int (f x))
    omega
   ·rw[aM n]
    exact s5 _ _ (k3 a ob n e)
 ·rintro σ H3 ⟨kvs,u,rfl,JH,J9,hk3,k3⟩
  rw[dW,mZ]at J9
  exact⟨_,rfl,k S kvs H3 JH (fun s hs=>J9 s (sk s hs)) (fun a ob e=>k3 a ob (ay e hS) (s2 _ _ (s1 _ _ e))) hS⟩
inductive Ae(vs:List V)(H:Hp)(Q:VK)(E:XK):Prop
 | mk (r:Addr) (rows:gj) (s:Int) (f:Int→Int) (_:vs=[.ref r,.int s]) (_:gV H r (rows.map itemsOf)) (_:rows.length≤1000) (_:(∀ es∈rows,es.length≤1000)) (_:Sound rows) (_:F3 rows) (_:0≤s) (_:s<rows.length) (_:Weighs rows f) (_ :
 ∀ H':Hp,aJ H H'→Q (.int (f s)) H'):Ae vs H Q E
theorem Ly:aL ["rows","sheet"] ["rows","sheet"] (az vM):=⟨rfl,rfl,rfl,by decide +kernel,rfl,by decide +kernel,by decide +kernel⟩
theorem JJ{g fI fB fW fV:Addr}{fd ze Lx F5 Ox:FuncData}(F:iJ K "weight" "weight" vM g fd)(T:qT mg)(bX:aF K mg "windows" dX mF fI ze)(iU:aF K mg "below" kg j4 fB Lx)(gW:aF K mg "item_weight" gQ Ga fW F5)(fX:aF K mg "weights_below" dY j4 fV Ox):aH P w K mg base cK 4 g fd rS Ae:=by
 have oB:aH P w K mg base cK 3 fV Ox j4 qU:=qt fX.F T bX iU gW
 refine F.ok Ly (fun vs H Q E h=>?_) (fun cdv A outer s0 H vs Q E hr h=>?_)
 ·obtain⟨r,rows,s,f,rfl,_⟩:=h
  rfl
 obtain⟨r,rows,s,f,rfl,hR,hlen,hes,JG,hrk,h0,h1,hf,k⟩:=h
 have hu:=qh hr
 refine⟨_,(au (aP (pD hu (aS fX oB hr (af (pv 0) (af (bW (af (pv 1) aj)) aj))) (pv 1) (fun _ _=>rfl)))),?_⟩
 refine⟨_,rfl,_,rfl,(by show 1≤sizeLine;decide),fun L hL=>?_⟩
 have s1:aJ H (upd H L (.lst [.int s])):=ak hL _
 refine⟨r,L,rows,[s],f,rfl,hR.same s1,ah,(by simp),hlen,hes,JG,hrk,(fun x hx=>by rw[List.mem_singleton.mp hx];exact⟨h0,h1⟩),hf,fun S kvs H' hS hv s' _=>?_⟩
 have z:=ua.k (k:=Sum.inl s) hS
 rw[hv s (by simp)]at z
 exact⟨_,rfl,S,_,rfl,z,k H' (s1.trans s')⟩
def rG(g:Int→Row):Item→Row
 | .win n=>g n
 | .aR a b=>[(a,b)]
def lu(sh:Int→List Int)(e:Int):List Int:=if e<0 then sh (-1-e) else [e]
def cH(sh:Int→List Int)(es:List Int):List Int:=es.flatMap (lu sh)
def Ff(rows:gj)(sh:Int→List Int):Prop:=∀ (x:Int) (es:List Int),0≤x→rows[x.toNat]?=some es→sh x=cH sh es
def aZ(sh:Int→List Int)(its:List Item):Row:=its.flatMap (rG fun n=>rowOf (sh n))
def uE(t:List Item):Prop:=∀ a b,Item.aR a b∈t→a<b
theorem eZ(sh:Int→List Int)(a b:List Item):aZ sh (a++b)=aZ sh a++aZ sh b:=by unfold aZ;rw[List.flatMap_append]
theorem lZ(sh:Int→List Int)(it:Item):aZ sh [it]=rG (fun n=>rowOf (sh n)) it:=by simp[aZ]
theorem JK(sh:Int→List Int)(t:List Item)(e:Int)(ok:uE t):bT (aZ sh (aU t e))=bT (aZ sh t)++lu sh e∧uE (aU t e):=by
 have add:∀ it:Item,(∀ a b,it=.aR a b→a<b)→uE (t++[it]):=fun it h a b hm=>by
  rcases List.mem_append.mp hm with z|z
  ·exact ok a b z
  ·exact h a b (List.mem_singleton.mp z).symm
 unfold aU
 by_cases h:e<0
 ·rw[if_pos h]
  refine⟨?_,add _ fun a b z=>by cases z⟩
  rw[eZ,di,lZ]
  show _++bT (rowOf (sh (-1-e)))=_
  rw[kG]
  unfold lu
  rw[if_pos h]
 ·rw[if_neg h]
  have one:bT [(e,e+1)]=[e]:=by
   rw[jd]
   unfold span
   have:(e+1-e).toNat=1:=by omega
   show run e (e+1-e).toNat=_
   rw[this]
   rfl
  have es1:lu sh e=[e]:=by unfold lu;rw[if_neg h]
  have vW:bT (aZ sh (t++[.aR e (e+1)]))=bT (aZ sh t)++lu sh e∧uE (t++[.aR e (e+1)]):=by
   refine⟨?_,add _ fun a b z=>by cases z;omega⟩
   rw[eZ,di,lZ,es1]
   show _++bT [(e,e+1)]=_
   rw[one]
  rcases uK t with rfl|⟨t',l,rfl⟩
  ·exact vW
  ·rw[rM]at ok add vW ⊢
   rw[wN]
   cases l with
   | win n=>exact vW
   | aR a b =>
    show bT (aZ sh (if b=e then (t'++[Item.aR a b]).dropLast++[.aR a (e+1)] else (t'++[Item.aR a b])++[.aR e (e+1)]))=_∧uE (if b=e then (t'++[Item.aR a b]).dropLast++[.aR a (e+1)] else (t'++[Item.aR a b])++[.aR e (e+1)])
    by_cases hb:b=e
    ·subst hb
     have ab:=ok a b (by simp)
     rw[if_pos rfl,List.dropLast_concat]
     refine⟨?_,fun p q hm=>?_⟩
     ·rw[eZ,eZ,di,di,lZ,lZ,es1,oZ]
      congr 1
      show bT [(a,b+1)]=bT [(a,b)]++[b]
      rw[jd,jd]
      unfold span
      show run a (b+1-a).toNat=run a (b-a).toNat++[b]
      have:(b+1-a).toNat=(b-a).toNat+1:=by omega
      rw[this,zL]
      congr 2
      omega
     ·rcases List.mem_append.mp hm with z|z
      ·exact ok p q (List.mem_append_left _ z)
      ·have z':Item.aR p q=Item.aR a (b+1):=by simpa using z
       cases z'
       omega
    ·rw[if_neg hb]
     exact vW
theorem Af(sh:Int→List Int)(es:List Int):bT (aZ sh (itemsOf es))=cH sh es∧uE (itemsOf es):=by
 have z:∀ t:List Item,uE t→bT (aZ sh (es.foldl aU t))=bT (aZ sh t)++cH sh es∧uE (es.foldl aU t):=by
  induction es with
  | nil=>intro t ok;exact⟨by simp[cH],ok⟩
  | cons e es ih =>
   intro t ok
   obtain⟨h1,h2⟩:=JK sh t e ok
   obtain⟨h3,h4⟩:=ih _ h2
   refine⟨?_,h4⟩
   rw[nR,h3,h1,oZ]
   unfold cH
   rw[mH]
 have q:=z [] (fun a b h=>by cases h)
 refine⟨?_,q.2⟩
 unfold itemsOf
 rw[q.1]
 rfl
theorem JL(sh:Int→List Int)(it:Item)(h:∀ a b,it=.aR a b→a<b):(rG (fun n=>rowOf (sh n)) it).length≤(bT (rG (fun n=>rowOf (sh n)) it)).length:=by
 cases it with
 | win n =>
  show (rowOf (sh n)).length≤(bT (rowOf (sh n))).length
  rw[kG]
  have z:=EM (sh n) []
  simpa [rowOf] using z
 | aR a b =>
  have ab:=h a b rfl
  show 1≤(bT [(a,b)]).length
  rw[jd]
  unfold span
  show 1≤(run a (b-a).toNat).length
  rw[jZ]
  omega
theorem uW(sh:Int→List Int):∀ its:List Item,uE its→(aZ sh its).length≤(bT (aZ sh its)).length
 | [],_=>by simp[aZ]
 | it::its,h=>by
  have e:aZ sh (it::its)=rG (fun n=>rowOf (sh n)) it++aZ sh its:=by unfold aZ;rw[mH]
  rw[e,di,eT,eT]
  have a:=JL sh it (fun a b z=>h a b (by rw[← z];simp))
  have b:=uW sh its (fun a b z=>h a b (tY _ z))
  omega
theorem JM(sh:Int→List Int)(its:List Item)(h:uE its):∀ p∈aZ sh its,p.1≤p.2:=by
 intro p hp
 unfold aZ at hp
 obtain⟨it,hi,hm⟩:=List.mem_flatMap.mp hp
 cases it with
 | win n=>exact vP _ p hm
 | aR a b =>
  have:p=(a,b):=by simpa [rG] using hm
  subst this
  have:=h a b hi
  show a≤b
  omega
inductive tM(vs:List V)(H:Hp)(Q:VK)(E:XK):Prop
 | mk (v:V) (it:Item) (S:Addr) (kvs:List (Key × V)) (g:Int→Row) (_:vs=[v,.ref S]) (_:cB H v it) (_:H S=some (.dK kvs)) (_:(∀ n,it=.win n→∃ a,cP kvs (Sum.inl n)=some (.ref a)∧cL H a (g n))) (_ :
 ∀ (a:Addr) (H':Hp),cL H' a (rG g it)→aJ H H'→((∃ n,it=.win n∧cP kvs (Sum.inl n)=some (.ref a))∨H a=none)→Q (.ref a) H'):tM vs H Q E
theorem G3:aL ["item","views"] ["item","views"] (az fy):=⟨rfl,rfl,rfl,by decide +kernel,rfl,by decide +kernel,by decide +kernel⟩
theorem yo{f:Addr}{fd:FuncData}(F:iJ K "item_row" "item_row" fy f fd)(T:qT mg):aH P w K mg base cK 1 f fd wJ tM:=by
 refine F.ok G3 (fun vs H Q E h=>?_) (fun cdv A outer s H vs Q E hr h=>?_)
 ·obtain⟨v,it,S,kvs,g,rfl,_⟩:=h
  rfl
 obtain⟨v,it,S,kvs,g,rfl,⟨a,rfl,ha⟩,hS,hw,k⟩:=h
 have hu:=qh hr
 refine⟨_,(ao (cC (bP kQ (bN gA (pv 0) aC (fun _ _=>rfl)) cN (bU _))
   (au (aP (pD hu (pv 1) (bN gA (pv 0) aC (fun _ _=>rfl)) (fun _ _=>rfl))))
   bF)
   (au (aP (bW (af (fF (af (bN gA (pv 0) aC (fun _ _=>rfl)) (af (bN gA (pv 0) aC (fun _ _=>rfl)) aj))) aj))))),?_⟩
 cases it with
 | win n =>
  refine⟨_,rfl,a,_,_,_,rfl,rfl,jL.of ha,rfl,rfl,_,rfl,gP (fun _=>?_) (fun z=>absurd (by decide) z)⟩
  obtain⟨b,hb,Rb⟩:=hw n rfl
  have z:=ua.k (k:=Sum.inl n) hS
  rw[hb]at z
  exact⟨_,rfl,_,rfl,a,_,_,_,rfl,rfl,jL.of ha,rfl,S,_,rfl,z,k b H Rb (aJ.refl H) (.inl ⟨n,rfl,hb⟩)⟩
 | aR p q =>
  refine⟨_,rfl,a,_,_,_,rfl,rfl,jL.of ha,rfl,rfl,_,rfl,gP (fun z=>absurd z (by decide)) (fun _=>?_)⟩
  refine⟨_,rfl,a,_,_,_,rfl,rfl,jL.of ha,rfl,_,rfl,a,_,_,_,rfl,rfl,jL.of ha,rfl,(by show 2≤sizeLine;decide),fun t ht=>⟨(by show 1≤sizeLine;decide),fun l hl=>?_⟩⟩
  have s1:aJ H (upd H t (.tup [.int p,.int q])):=ak ht _
  have s2:=s1.trans (ak hl (.lst [.ref t]))
  refine k l _ ⟨[t],ah,.cons ?_ .nil⟩ s2 (.inr ?_)
  ·exact ak hl _ _ _ ah
  ·cases e:H l with
   | none=>rfl
   | some o=>exact absurd ((s1 _ _ e).symm.trans hl) (by simp)
theorem bu.Fg{H H':Hp}{S:Addr}{kvs:List (Key × V)}(hS:H S=some (.dK kvs))(k:∀ a ob,a≠S→H a=some ob→H' a=some ob):∀ {as:List Addr} {r:Row},bu H as r→bu H' as r
 | _,_,.nil=>.nil
 | _,_,.cons r t=>.cons (k _ _ (fun z=>by
   have r':=r
   unfold xg at r'
   rw[z,hS]at r'
   cases r') r) (bu.Fg hS k t)
theorem cL.Fg{H H':Hp}{S a:Addr}{kvs:List (Key × V)}{row:Row}(hS:H S=some (.dK kvs))(n:a≠S)(k:∀ a ob,a≠S→H a=some ob→H' a=some ob)(R:cL H a row):cL H' a row:=by
 obtain⟨as,h,p⟩:=R
 exact⟨as,k _ _ n h,p.Fg hS k⟩
def Iq(H:Hp)(kvs:List (Key × V))(sh:Int→List Int)(xs:List Int):Prop:=∀ x∈xs,∃ a,cP kvs (Sum.inl x)=some (.ref a)∧cL H a (rowOf (sh x))
inductive vX(vs:List V)(H:Hp)(Q:VK)(E:XK):Prop
 | mk (r L:Addr) (rows:gj) (ss:List Int) (sh:Int→List Int) (_:vs=[.ref r,.ref L]) (_:gV H r (rows.map itemsOf)) (_:H L=some (.lst (ss.map V.int))) (_:ss.length≤1000) (_:rows.length≤1000) (_:(∀ es∈rows,es.length≤1000)) (_:Sound rows) (_:F3 rows) (_:(∀ s∈ss,0≤s∧s<rows.length)) (_:Ff rows sh) (_:(∀ x:Int,0≤x→x<rows.length→(sh x).length≤10000)) (_ :
 ∀ (S:Addr) (kvs:List (Key × V)) (ks:List Int) (H':Hp),H' S=some (.dK kvs)→Iq H' kvs sh ks→JF rows ks→(∀ s∈ss,s∈ks)→(∀ x∈ks,∀ a,cP kvs (Sum.inl x)=some (.ref a)→H a=none)→aJ H H'→H S=none→Q (.ref S) H'):vX vs H Q E
theorem pW:aL ["rows","sheets","views","number"] ["rows","sheets"] (az dU):=⟨rfl,rfl,rfl,by decide +kernel,rfl,by decide +kernel,by decide +kernel⟩
theorem oE{g fI fB fW fP:Addr}{fd ze Lx F5 Lz:FuncData}(F:iJ K "views_below" "views_below" dU g fd)(T:qT mg)(bX:aF K mg "windows" dX mF fI ze)(iU:aF K mg "below" kg j4 fB Lx)(cD:aF K mg "item_row" fy wJ fW F5)(iG:aF K mg "plain" lT gJ fP Lz):aH P w K mg base cK 3 g fd j4 vX:=by
 have G2:aH P w K mg base cK 2 fB Lx j4 zd:=Fc iU.F T bX
 have xA:aH P w K mg base cK 1 fW F5 wJ tM:=yo cD.F T
 have G4:aH P w K mg base cK 1 fP Lz gJ yW:=Fb iG.F
 refine F.ok pW (fun vs H Q E h=>?_) (fun cdv A outer s0 H vs Q E hr h=>?_)
 ·obtain⟨r,L,rows,ss,sh,rfl,_⟩:=h
  rfl
 obtain⟨r,L,rows,ss,sh,rfl,hR,hL,hsl,hlen,hes,JG,hrk,hin,hsh,hbd,k⟩:=h
 have hu:=qh hr
 refine⟨_,(ao (aY (i:=2) pW.nd rfl (Or.inr rfl) oq)
   (ao (jI PassesOwn.never rfl (eK (aS iU G2 hr (af (pv 0) (af (pv 1) aj)))) (br (i:=3) pW.nd rfl (Or.inl rfl))
   (au (yZ hu (pv 2) (pv 3) (aS iG G4 hr (af (Jv (N:=["item","stretch","views"]) (zS (sc:=az dU) (NX:=["rows","sheets","views","number"]) (jx:=[none,none,some 2]) rfl rfl rfl (by decide +kernel) (by decide +kernel) rfl (by decide +kernel) rfl (by decide +kernel)) rfl (eK (bN bM (pv 0) (pv 3) (fun _ _=>rfl))) (fun _ _ _ _ _ _=>(br (i:=0) (show List.Nodup (["item","stretch","views"]:List Str) by decide +kernel) rfl (Or.inl rfl))) (fun _ _ _ _ _ _=>nE) (fun _ _ _ _ _ _=>(Lh (aS cD xA hr (af (pv 0) (af (pv 2) aj))))) (fun _ _ _ _ _ _=>(br (i:=1) (show List.Nodup (["item","stretch","views"]:List Str) by decide +kernel) rfl (Or.inl rfl))) (fun _ _ _ _ _ _=>nE) (fun _ _ _ _ _ _=>(pv 1))) aj)) rfl)))
   (au (aP (pv 2))))),?_⟩
 intro S hS
 have s1:aJ H (upd H S (.dK [])):=ak hS _
 refine⟨_,rfl,_,rfl,r,L,rows,ss,rfl,hR.same s1,s1 _ _ hL,hsl,hlen,hes,JG,hrk,hin,fun ks o H2 ho s2 tp sk kl hno=>?_⟩
 have PY:=s2 _ _ (ah (H:=H) (a:=S) (o:=.dK []))
 have SD:o≠S:=(ay ah hno).symm
 refine⟨o,rfl,⟨_,b8.of ho⟩,jM (K:=K) (a:=o) (xs:=ks.map V.int) (fun i σ H3=>∃ (kvs:List (Key × V)) (u:Option V),σ=[some (.ref r),some (.ref L),some (.ref S),u]∧H3 S=some (.dK kvs)∧Iq H3 kvs sh (ks.take i)∧kvs.length≤i∧(∀ x a,cP kvs (Sum.inl x)=some (.ref a)→H a=none∧a≠S)∧(∀ a ob,a≠S→H2 a=some ob→H3 a=some ob)) ⟨[],none,rfl,PY,(fun y hy=>by simp at hy),jj _,(fun x a e=>by cases e),fun _ _ _ e=>e⟩ ?_ ?_ ?_⟩
 ·rintro i σ H3 _ ⟨_,_,_,_,_,_,_,k3⟩
  exact b8.of (k3 o _ SD ho)
 ·rintro i x σ H3 hi ⟨kvs,u,rfl,JH,J9,hk3,Uv,k3⟩
  rw[uq]at hi
  obtain⟨x,ex,rfl⟩:=Option.map_eq_some_iff.mp hi
  obtain⟨x0,x1⟩:=tp.Gf x (nQ ex)
  obtain⟨es,nF⟩:∃ es,rows[x.toNat]?=some es:=⟨_,rL (by omega)⟩
  have P8:aJ H H3:=fun a ob e=>k3 a ob (ay e hS) (s2 _ _ (s1 _ _ e))
  obtain⟨GZ,Mf,vV⟩:=hR.same P8
  obtain⟨vi,Ng,hI⟩:=vV.get' (i:=x.toNat) (b:=itemsOf es) (by rw[uq,nF];rfl)
  obtain⟨b,Mg,rfl,hb,hit⟩:=id hI
  obtain⟨Gu,hok⟩:=Af sh es
  have shx:=hsh x es x0 nF
  have tot:(aZ sh (itemsOf es)).length≤10000:=by
   have z:=uW sh (itemsOf es) hok
   rw[Gu,← shx]at z
   have:=hbd x x0 x1
   omega
  have part:∀ j,(aZ sh ((itemsOf es).take j)).length≤10000:=fun j=>by
   have e:aZ sh (itemsOf es)=aZ sh ((itemsOf es).take j)++aZ sh ((itemsOf es).drop j):=by rw[← eZ,List.take_append_drop]
   rw[e,eT]at tot
   omega
  have Ls:A0 GZ x=some (.ref b):=by
   have z:=gO Ng
   rw[show ((x.toNat:Nat):Int)=x by omega]at z
   exact z
  refine⟨_,rfl,_,rfl,r,_,_,_,rfl,rfl,b8.of Mf,Ls,b,rfl,⟨_,b8.of hb⟩,fun acc hacc=>E2 (K:=K) (a:=b) (xs:=Mg) (fun j σ H5=>∃ (u v:Option V) (as:List Addr),σ=[u,v,some (.ref S)]∧H5 acc=some (.lst (as.map V.ref))∧bu H5 as (aZ sh ((itemsOf es).take j))∧aJ H3 H5) ⟨none,none,[],rfl,ah,.nil,ak hacc _⟩ (fun j σ H5 _ ⟨_,_,_,_,_,_,s5⟩=>b8.of (s5 _ _ hb)) ?_ ?_⟩
  ·rintro j v σ H5 hj ⟨u,u2,as,rfl,h5,p5,s5⟩
   obtain⟨it,ei,hiv⟩:=hit.get hj
   have st:aZ sh ((itemsOf es).take (j+1))=aZ sh ((itemsOf es).take j)++rG (fun n=>rowOf (sh n)) it:=by rw[take_snoc ei,eZ,lZ]
   refine Sg ?_
   refine iR ?_
   refine⟨_,rfl,_,rfl,v,it,S,kvs,(fun n=>rowOf (sh n)),rfl,hiv.same s5,s5 _ _ JH,fun n hn=>?_,fun a2 H6 R6 s6 hor=>?_⟩
   ·subst hn
    obtain⟨a,ha,Ra⟩:=J9 n (tp.dn i x ex n ⟨x0,es,nF,by
     rw[← jE]
     unfold eV
     rw[List.mem_filterMap]
     exact⟨.win n,nQ ei,rfl⟩⟩)
    exact⟨a,ha,Ra.same s5⟩
   obtain⟨Qd,h6a,p6⟩:=id R6
   have na2:a2≠acc:=by
    rcases hor with ⟨n,hn,hv⟩|hn
    ·subst hn
     obtain⟨a,ha,as0,h0',_⟩:=J9 n (tp.dn i x ex n ⟨x0,es,nF,by
      rw[← jE]
      unfold eV
      rw[List.mem_filterMap]
      exact⟨.win n,nQ ei,rfl⟩⟩)
     rw[hv]at ha
     cases ha
     exact ay h0' hacc
    ·exact (ay h5 hn).symm
   have h6:=s6 _ _ h5
   have pl:=part (j+1)
   rw[st,eT]at pl
   have al:=p5.len
   have al2:=p6.len
   refine⟨a2,rfl,⟨_,b8.of h6a⟩,GN (K:=K) (a:=a2) (acc:=acc) (g:=vH 1) (tt:=Jl) (te:=Mt 1) (xs:=Qd.map V.ref) (fun l σ H7=>∃ v2:Option V,σ=[some v,v2,some (.ref S)]∧H7 acc=some (.lst ((as++Qd.take l).map V.ref))∧bu H7 (as++Qd.take l) (aZ sh ((itemsOf es).take j)++(rG (fun n=>rowOf (sh n)) it).take l)∧eE acc H6 H7∧aJ H3 H7) ?_ ?_ ?_ ?_⟩
   ·exact⟨u2,rfl,(by simpa using h6),(by simpa using p5.same s6),(fun _ _ e _=>e),s5.trans s6⟩
   ·rintro l σ H7 _ ⟨_,_,_,_,K7,_⟩
    exact b8.of (K7 a2 _ h6a na2)
   ·rintro l y σ H7 hl ⟨v2,rfl,h7,p7,K7,s7⟩
    rw[uq]at hl
    obtain⟨t,et,rfl⟩:=Option.map_eq_some_iff.mp hl
    obtain⟨pr,epr,hpr⟩:=p6.get et
    have ll:l<Qd.length:=by
     rcases Nat.lt_or_ge l Qd.length with q|q
     ·exact q
     ·rw[List.getElem?_eq_none q]at et;cases et
    have SE:xg H7 t pr:=K7 t _ hpr (fun z=>by
     have q:H6 acc=some (.tup [.int pr.1,.int pr.2]):=by rw[← z];exact hpr
     rw[h6]at q
     cases q)
    have K8:eE acc H7 (upd H7 acc (.lst ((as++Qd.take l).map V.ref++[.ref t]))):=aN acc _ _
    refine Sg ?_
    refine iR ?_
    refine⟨_,rfl,_,h7,?_,_,rfl,?_,?_,?_,dM hacc s7 K8⟩
    ·rw[dW,eT,o6]
     exact aV (by omega)
    ·rw[ah,take_snoc et,← oZ,qd (l₁:=as++Qd.take l)]
     rfl
    ·rw[take_snoc et,take_snoc epr,← oZ,← oZ]
     exact bu.snoc (p7.keep h7 K8) (K8 t _ SE (fun z=>by
      have q:H7 acc=some (.tup [.int pr.1,.int pr.2]):=by rw[← z];exact SE
      rw[h7]at q
      cases q))
    ·exact fun a ob e n=>K8 a ob (K7 a ob e n) n
   ·rintro σ H7 ⟨v2,rfl,h7,p7,K7,s7⟩
    rw[dW,mZ]at h7 p7
    rw[al2,mZ]at p7
    exact⟨_,_,_,rfl,h7,(by rw[st];exact p7),s7⟩
  ·rintro σ H5 ⟨u,u2,as,rfl,h5,p5,s5⟩
   rw[hit.len,mZ]at p5
   have kvl:i<ks.length:=by
    rcases Nat.lt_or_ge i ks.length with q|q
    ·exact q
    ·rw[List.getElem?_eq_none q]at ex;cases ex
   refine⟨acc,_,rfl,⟨as,h5,p5⟩,by omega,fun q H6 R6 s6 hq=>?_⟩
   have P9:=s6 _ _ (s5 _ _ JH)
   have nqS:q≠S:=(ay (s5 _ _ JH) hq).symm
   have er:cF (aZ sh (itemsOf es))=rowOf (sh x):=by rw[EE _ (JM sh _ hok),Gu,shx]
   rw[er]at R6
   have k7:∀ a ob,a≠S→H6 a=some ob→upd H6 S (.dK (putK kvs (Sum.inl x) (.ref q))) a=some ob:=fun a ob n e=>by rw[aM n];exact e
   refine⟨_,rfl,_,rfl,S,_,rfl,EX.k (k:=Sum.inl x) P9 (aV (by omega)),?_⟩
   refine⟨putK kvs (Sum.inl x) (.ref q),_,rfl,ah,fun y hy=>?_,?_,fun y a e=>?_,fun a ob n e=>k7 a ob n (s6 _ _ (s5 _ _ (k3 a ob n e)))⟩
   ·rw[mR]
    by_cases c:y=x
    ·rw[if_pos (by rw[c]),c]
     exact⟨q,rfl,R6.Fg P9 nqS k7⟩
    ·rw[if_neg (fun z=>c (Sum.inl.inj z))]
     rw[take_snoc ex]at hy
     rcases List.mem_append.mp hy with z|z
     ·obtain⟨a,ha,Ra⟩:=J9 y z
      exact⟨a,ha,((Ra.same s5).same s6).Fg P9 (Uv y a ha).2 k7⟩
     ·exact absurd (by simpa using z) c
   ·have:=kI kvs (Sum.inl x) (V.ref q)
    omega
   ·rw[mR]at e
    by_cases c:y=x
    ·rw[if_pos (by rw[c])]at e
     cases e
     refine⟨?_,nqS⟩
     cases z:H q with
     | none=>rfl
     | some ob=>exact absurd ((s5 _ _ (P8 _ _ z)).symm.trans hq) (by simp)
    ·rw[if_neg (fun z=>c (Sum.inl.inj z))]at e
     exact Uv y a e
 ·rintro σ H3 ⟨kvs,u,rfl,JH,J9,hk3,Uv,k3⟩
  rw[dW,mZ]at J9
  exact⟨_,rfl,k S kvs ks H3 JH J9 tp sk (fun x _ a e=>(Uv x a e).1) (fun a ob e=>k3 a ob (ay e hS) (s2 _ _ (s1 _ _ e))) hS⟩
inductive Dq(vs:List V)(H:Hp)(Q:VK)(E:XK):Prop
 | mk (r:Addr) (rows:gj) (s:Int) (sh:Int→List Int) (_:vs=[.ref r,.int s]) (_:gV H r (rows.map itemsOf)) (_:rows.length≤1000) (_:(∀ es∈rows,es.length≤1000)) (_:Sound rows) (_:F3 rows) (_:0≤s) (_:s<rows.length) (_:Ff rows sh) (_:(∀ x:Int,0≤x→x<rows.length→(sh x).length≤10000)) (_ :
 ∀ (o:Addr) (H':Hp),cL H' o (rowOf (sh s))→aJ H H'→H o=none→Q (.ref o) H'):Dq vs H Q E
theorem Nk:aL ["rows","sheet"] ["rows","sheet"] (az zF):=⟨rfl,rfl,rfl,by decide +kernel,rfl,by decide +kernel,by decide +kernel⟩
theorem LA{g fI fB fW fP fV:Addr}{fd ze Lx F5 Lz Ox:FuncData}(F:iJ K "shown" "shown" zF g fd)(T:qT mg)(bX:aF K mg "windows" dX mF fI ze)(iU:aF K mg "below" kg j4 fB Lx)(cD:aF K mg "item_row" fy wJ fW F5)(iG:aF K mg "plain" lT gJ fP Lz)(dz:aF K mg "views_below" dU j4 fV Ox):aH P w K mg base cK 4 g fd rS Dq:=by
 have ly:aH P w K mg base cK 3 fV Ox j4 vX:=oE dz.F T bX iU cD iG
 refine F.ok Nk (fun vs H Q E h=>?_) (fun cdv A outer s0 H vs Q E hr h=>?_)
 ·obtain⟨r,rows,s,sh,rfl,_⟩:=h
  rfl
 obtain⟨r,rows,s,sh,rfl,hR,hlen,hes,JG,hrk,h0,h1,hsh,hbd,k⟩:=h
 have hu:=qh hr
 refine⟨_,(au (aP (pD hu (aS dz ly hr (af (pv 0) (af (bW (af (pv 1) aj)) aj))) (pv 1) (fun _ _=>rfl)))),?_⟩
 refine⟨_,rfl,_,rfl,(by show 1≤sizeLine;decide),fun L hL=>?_⟩
 have s1:aJ H (upd H L (.lst [.int s])):=ak hL _
 refine⟨r,L,rows,[s],sh,rfl,hR.same s1,ah,(by simp),hlen,hes,JG,hrk,(fun x hx=>by rw[List.mem_singleton.mp hx];exact⟨h0,h1⟩),hsh,hbd,fun S kvs ks H' hS hv tp sk hn s' _=>?_⟩
 have sk:=sk s (by simp)
 obtain⟨a,ha,Ra⟩:=hv s sk
 have z:=ua.k (k:=Sum.inl s) hS
 rw[ha]at z
 exact⟨_,rfl,S,_,rfl,z,k a H' Ra (s1.trans s') (bK s1 (hn s sk a ha))⟩
def Qe:Item→Item→Bool
 | .aR _ b,.aR c _=>decide (b=c)
 | _,_=>false
inductive G5(vs:List V)(H:Hp)(Q:VK)(E:XK):Prop
 | mk (x y:V) (i j:Item) (_:vs=[x,y]) (_:cB H x i) (_:cB H y j) (_:Q (.bl (Qe i j)) H):G5 vs H Q E
theorem JN:aL ["one","other"] ["one","other"] (az kR):=⟨rfl,rfl,rfl,by decide +kernel,rfl,by decide +kernel,by decide +kernel⟩
theorem G6{f:Addr}{fd:FuncData}(F:iJ K "goes_on" "goes_on" kR f fd)(T:qT mg):aH P w K mg base cK 1 f fd Ed G5:=by
 refine F.ok JN (fun vs H Q E h=>?_) (fun cdv A outer s H vs Q E hr h=>?_)
 ·obtain⟨x,y,i,j,rfl,_⟩:=h
  rfl
 obtain⟨x,y,i,j,rfl,⟨a,rfl,ha⟩,⟨b,rfl,hb⟩,k⟩:=h
 refine⟨_,(au (aP (uM (qH kQ (bN gA (pv 0) aC (fun _ _=>rfl)) cN (bU _)) (uM (qH kQ (bN gA (pv 1) aC (fun _ _=>rfl)) cN (bU _)) (wO (qH kQ (bN gA (pv 0) aC (fun _ _=>rfl)) (bN gA (pv 1) aC (fun _ _=>rfl)) (bU _))))))),?_⟩
 cases i with
 | win n=>exact⟨_,rfl,a,_,_,_,rfl,rfl,jL.of ha,rfl,rfl,_,rfl,gP (fun z=>absurd z (by decide)) (fun _=>k)⟩
 | aR p q =>
  refine⟨_,rfl,a,_,_,_,rfl,rfl,jL.of ha,rfl,rfl,_,rfl,gP (fun _=>?_) (fun z=>absurd (by decide) z)⟩
  cases j with
  | win n=>exact⟨_,rfl,b,_,_,_,rfl,rfl,jL.of hb,rfl,rfl,_,rfl,gP (fun z=>absurd z (by decide)) (fun _=>k)⟩
  | aR u v =>
   refine⟨_,rfl,b,_,_,_,rfl,rfl,jL.of hb,rfl,rfl,_,rfl,gP (fun _=>?_) (fun z=>absurd (by decide) z)⟩
   refine⟨_,rfl,a,_,_,_,rfl,rfl,jL.of ha,rfl,_,rfl,b,_,_,_,rfl,rfl,jL.of hb,rfl,rfl,?_⟩
   have e:decide (V.int q=V.int u)=decide (q=u):=by
    by_cases c:q=u
    ·rw[c];simp
    ·have c2:¬ V.int q=V.int u:=fun z=>c (V.int.inj z)
     rw[decide_eq_false c,decide_eq_false c2]
   rw[e]
   exact k
def bx(t:List Item)(it:Item):List Item :=
 match t.getLast?,it with
 | some (.aR a b),.aR c d=>if b=c then t.dropLast++[.aR a d] else t++[it]
 | _,_=>t++[it]
def G7(its:List Item):List Item:=its.foldl bx []
theorem G8(its:List Item):∀ t:List Item,(its.foldl bx t).length≤t.length+its.length:=by
 induction its with
 | nil=>intro t;simp
 | cons e its ih =>
  intro t
  rw[nR]
  have z:=ih (bx t e)
  have z2:(bx t e).length≤t.length+1:=by
   unfold bx
   split
   ·split
    ·rw[eT,List.length_dropLast,vD];omega
    ·simp
   ·simp
  rw[pP]
  omega
inductive lz(vs:List V)(H:Hp)(Q:VK)(E:XK):Prop
 | mk (r:Addr) (its:List Item) (_:vs=[.ref r]) (_:aW H (.ref r) its) (_:its.length≤1000000) (_ :
 ∀ (o:Addr) (H':Hp),aW H' (.ref o) (G7 its)→aJ H H'→H o=none→Q (.ref o) H'):lz vs H Q E
theorem pX:aL ["items","told","item"] ["items"] (az gR):=⟨rfl,rfl,rfl,by decide +kernel,rfl,by decide +kernel,by decide +kernel⟩
theorem oF{f fG:Addr}{fd Uw:FuncData}(F:iJ K "plain_items" "plain_items" gR f fd)(T:qT mg)(jy:aF K mg "goes_on" kR Ed fG Uw):aH P w K mg base cK 2 f fd mF lz:=by
 have LC:aH P w K mg base cK 1 fG Uw Ed G5:=G6 jy.F T
 refine F.ok pX (fun vs H Q E h=>?_) (fun cdv A outer s H vs Q E hr h=>?_)
 ·obtain⟨r,its,rfl,_⟩:=h
  rfl
 obtain⟨r,its,rfl,⟨a,Mg,e,hr1,hit⟩,hlen,k⟩:=h
 cases e
 refine⟨_,(ao (aY (i:=1) pX.nd rfl (Or.inl rfl) (bW aj))
   (ao (jI PassesOwn.never rfl (eK (pv 0)) (br (i:=2) pX.nd rfl (Or.inl rfl))
   (au (cC (PW.pt (zy (mK (pv 1) (fun _=>rfl)) (yT (kP (aS jy LC hr (af (bN bM (pv 1) (rZ nV aC) (fun _ _=>rfl)) (af (pv 2) aj)))))))
   (au (rX (fF (af cN (af (bN gA (bN bM (pv 1) (rZ nV aC) (fun _ _=>rfl)) aC (fun _ _=>rfl)) (af (bN gA (pv 2) aC (fun _ _=>rfl)) aj)))) (wR (pv 1) (rZ nV aC) set_list)))
   (au (bq (nu uJ wL wM dF (pv 1) (af (pv 2) aj)))))))
   (au (aP (pv 1))))),?_⟩
 refine⟨(by show 0≤sizeLine;decide),fun q hq=>?_⟩
 have s0:aJ H (upd H q (.lst [])):=ak hq _
 refine⟨_,rfl,r,rfl,⟨_,b8.of (s0 _ _ hr1)⟩,jM (K:=K) (a:=r) (xs:=Mg) (fun i σ H2=>∃ (vs:List V) (u:Option V),σ=[some (.ref r),some (.ref q),u]∧H2 q=some (.lst vs)∧cu (cB H2) vs ((its.take i).foldl bx [])∧aJ H H2)
  ⟨[],none,rfl,ah,.nil,s0⟩ (fun i σ H2 _ ⟨_,_,_,_,_,s⟩=>b8.of (s _ _ hr1)) ?_ ?_⟩
 ·rintro i x σ H2 hi ⟨vs,u,rfl,hq2,hb,s⟩
  obtain⟨it,ei,hiv⟩:=hit.get hi
  have hx2:=hiv.same s
  have step:(its.take (i+1)).foldl bx []=bx ((its.take i).foldl bx []) it:=by rw[take_snoc ei,List.foldl_append];rfl
  have bl:vs.length<sizeLine:=by
   have z:=hb.len
   have z2:=G8 (its.take i) []
   rw[o6,List.length_nil]at z2
   exact aV (by omega)
  have app:bx ((its.take i).foldl bx []) it=(its.take i).foldl bx []++[it]→∃ (vs':List V) (u':Option V),[some (V.ref r),some (.ref q),some x]=[some (.ref r),some (.ref q),u']∧(upd H2 q (.lst (vs++[x]))) q=some (.lst vs')∧cu (cB (upd H2 q (.lst (vs++[x])))) vs' ((its.take (i+1)).foldl bx [])∧aJ H (upd H2 q (.lst (vs++[x]))):=fun e=>by
   refine⟨_,_,rfl,ah,?_,dM hq s (aN q _ _)⟩
   rw[step,e]
   exact cu.snoc (hb.mono fun v i h=>h.keep hq2 (aN q _ _)) (hx2.keep hq2 (aN q _ _))
  rcases uK ((its.take i).foldl bx []) with hn|⟨t0,l0,hn⟩
  ·have hvs:vs=[]:=by
    rw[hn]at hb
    exact List.eq_nil_of_length_eq_zero hb.len
   subst hvs
   refine⟨_,rfl,false,.inl ⟨_,b8.of hq2,rfl⟩,eU (eU ?_)⟩
   refine⟨_,rfl,.inl ⟨rfl,_,b8.of hq2⟩,_,rfl,q,_,_,rfl,rfl,hq2,bl,app ?_⟩
   rw[hn]
   rfl
  ·rw[rM]at hn
   have hb':=hb
   rw[hn]at hb'
   obtain⟨us,v0,rfl,hb0,hv0⟩:=hb'.split
   obtain⟨a0,rfl,ha0⟩:=id hv0
   refine⟨_,rfl,true,.inl ⟨_,b8.of hq2,by simp⟩,iR ?_⟩
   refine⟨_,rfl,_,rfl,q,_,_,_,rfl,rfl,b8.of hq2,kZ _ _,_,rfl,_,_,l0,it,rfl,hv0,hx2,_,rfl,?_⟩
   cases l0 with
   | win n =>
    refine eU ?_
    refine⟨_,rfl,.inl ⟨rfl,_,b8.of hq2⟩,_,rfl,q,_,_,rfl,rfl,hq2,bl,app ?_⟩
    rw[hn]
    unfold bx
    rw[wN]
   | aR p1 p2 =>
    cases it with
    | win n =>
     refine eU ?_
     refine⟨_,rfl,.inl ⟨rfl,_,b8.of hq2⟩,_,rfl,q,_,_,rfl,rfl,hq2,bl,app ?_⟩
     rw[hn]
     unfold bx
     rw[wN]
    | aR c d =>
     refine gP (fun z=>?_) (fun z=>?_)
     ·have e2:p2=c:=of_decide_eq_true z
      obtain⟨ax,rfl,hax⟩:=id hx2
      refine⟨_,rfl,_,rfl,q,_,_,_,rfl,rfl,b8.of hq2,kZ _ _,a0,_,_,_,rfl,rfl,jL.of ha0,rfl,_,rfl,ax,_,_,_,rfl,rfl,jL.of hax,rfl,(by show 3≤sizeLine;decide),fun t ht=>?_⟩
      refine⟨_,rfl,_,rfl,q,_,_,us.length,rfl,rfl,ak ht _ _ _ hq2,(by rw[eT];exact EH _),?_⟩
      rw[EI]
      refine⟨_,_,rfl,ah,?_,dM hq (s.trans (ak ht _)) (aN q _ _)⟩
      have e3:(its.take (i+1)).foldl bx []=t0++[.aR p1 d]:=by
       rw[step,hn]
       unfold bx
       rw[wN,List.dropLast_concat]
       show (if p2=c then t0++[Item.aR p1 d] else _)=_
       rw[if_pos e2]
      rw[e3]
      exact cu.new (it:=.aR p1 d) hq2 hb0 ht _
     ·have e2:¬ p2=c:=fun w=>z (decide_eq_true w)
      refine⟨_,rfl,.inl ⟨rfl,_,b8.of hq2⟩,_,rfl,q,_,_,rfl,rfl,hq2,bl,app ?_⟩
      rw[hn]
      unfold bx
      rw[wN]
      show (if p2=c then _ else t0++[Item.aR p1 p2]++[Item.aR c d])=_
      rw[if_neg e2]
 ·rintro σ H2 ⟨vs,u,rfl,hq2,hb,s⟩
  rw[hit.len,mZ]at hb
  exact⟨_,rfl,k q H2 ⟨q,vs,rfl,hq2,hb⟩ s hq⟩
def eN(r:Row):List Item:=r.map fun p=>.aR p.1 p.2
inductive vY(vs:List V)(H:Hp)(Q:VK)(E:XK):Prop
 | mk (r:Addr) (row:Row) (_:vs=[.ref r]) (_:cL H r row) (_:row.length≤100000) (_ :
 ∀ (o:Addr) (H':Hp),aW H' (.ref o) (eN (cF row))→aJ H H'→H o=none→Q (.ref o) H'):vY vs H Q E
theorem Nl:aL ["row"] ["row"] (az qK):=⟨rfl,rfl,rfl,by decide +kernel,rfl,by decide +kernel,by decide +kernel⟩
theorem Ag{f fP:Addr}{fd Lz:FuncData}(F:iJ K "inked" "inked" qK f fd)(T:qT mg)(iG:aF K mg "plain" lT gJ fP Lz):aH P w K mg base cK 2 f fd gJ vY:=by
 have G4:aH P w K mg base cK 1 fP Lz gJ yW:=Fb iG.F
 refine F.ok Nl (fun vs H Q E h=>?_) (fun cdv A outer s H vs Q E hr h=>?_)
 ·obtain⟨r,row,rfl,_⟩:=h
  rfl
 obtain⟨r,row,rfl,R,hlen,k⟩:=h
 refine⟨_,(au (aP (C4 (N:=["start","stop"]) ⟨rfl,by decide +kernel,by decide +kernel,by decide +kernel⟩ rfl (eK (aS iG G4 hr (af (pv 0) aj))) (fun _ _ _ _ _=>(Ic (n:=2) rfl (bR (br (i:=0) (show List.Nodup (["start","stop"]:List Str) by decide +kernel) rfl (Or.inl rfl)) (bR (br (i:=1) (show List.Nodup (["start","stop"]:List Str) by decide +kernel) rfl (Or.inl rfl)) jX)))) (fun _ _ _ _ _=>nE) (fun _ _ _ _ _=>(fF (af cN (af (pv 0) (af (pv 1) aj)))))))),?_⟩
 refine⟨_,rfl,r,row,rfl,R,by omega,fun q H1 R1 s1 hq=>?_⟩
 obtain⟨as,h1,p1⟩:=id R1
 have pl:=tF row
 refine⟨q,rfl,⟨_,b8.of h1⟩,fun acc hacc=>xh (K:=K) (a:=q) (xs:=as.map V.ref) (fun i σ H2=>∃ (u v:Option V) (vs:List V),σ=[u,v]∧H2 acc=some (.lst vs)∧cu (cB H2) vs (eN ((cF row).take i))∧aJ H1 H2)
  ⟨none,none,[],rfl,ah,.nil,ak hacc _⟩ (fun i σ H2 _ ⟨_,_,_,_,_,_,s⟩=>b8.of (s _ _ h1)) ?_ ?_⟩
 ·rintro i x σ H2 hi ⟨u,v,vs,rfl,ha,t2,s⟩
  rw[uq]at hi
  obtain⟨a,ea,rfl⟩:=Option.map_eq_some_iff.mp hi
  obtain⟨⟨st,en⟩,ep,hpa⟩:=p1.get ea
  have bl:=t2.len
  unfold eN at bl
  rw[dW,o6]at bl
  refine⟨a,_,rfl,jL.of (s _ _ hpa),rfl,_,_,rfl,_,_,rfl,rfl,yes (iR ?_)⟩
  refine⟨_,rfl,_,rfl,(by show 3≤sizeLine;decide),fun t ht=>?_⟩
  refine⟨vs,ak ht _ _ _ ha,aV (by omega),_,_,_,rfl,ah,?_,dM hacc (s.trans (ak ht _)) (aN acc _ _)⟩
  have e:eN ((cF row).take (i+1))=eN ((cF row).take i)++[.aR st en]:=by
   rw[take_snoc ep]
   unfold eN
   rw[qd]
   rfl
  rw[e]
  exact cu.new (it:=.aR st en) ha t2 ht _
 ·rintro σ H2 ⟨u,v,vs,rfl,ha,t2,s⟩
  rw[dW,p1.len,mZ]at t2
  refine k acc H2 ⟨acc,vs,rfl,ha,t2⟩ (s1.trans s) ?_
  cases e:H acc with
  | none=>rfl
  | some o=>exact absurd ((s1 _ _ e).symm.trans hacc) (by simp)
def iO:Item→List Int
 | .win n=>[-1-n]
 | .aR a b=>run a (b-a).toNat
def dP(its:List Item):List Int:=its.flatMap iO
def pG:Item→Prop
 | .win n=>0≤n
 | .aR a b=>0≤a∧a<b
def iK(its:List Item):Prop:=∀ it∈its,pG it
theorem gX(a b:List Item):dP (a++b)=dP a++dP b:=by unfold dP;rw[List.flatMap_append]
theorem oG(a:Item):dP [a]=iO a:=by simp[dP]
theorem iK.append{a b:List Item}(h:iK a)(g:iK b):iK (a++b):=fun it hm=>(List.mem_append.mp hm).elim (h it) (g it)
theorem iK.one{a:Item}(h:pG a):iK [a]:=fun it hm=>by rw[List.mem_singleton.mp hm];exact h
theorem LD(t:List Item){n:Int}(h:0≤n):aU t (-1-n)=t++[.win n]:=by
 unfold aU
 rw[if_pos (by omega)]
 congr 3
 omega
theorem JO(t:List Item)(p s:Int)(h:0≤s):aU (t++[.aR p s]) s=t++[.aR p (s+1)]:=by
 unfold aU
 rw[if_neg (by omega),wN]
 show (if s=s then (t++[Item.aR p s]).dropLast++[.aR p (s+1)] else _)=_
 rw[if_pos rfl,List.dropLast_concat]
theorem Cq(t:List Item)(p:Int):∀ (n:Nat) (s:Int),0≤s→(run s n).foldl aU (t++[.aR p s])=t++[.aR p (s+n)]
 | 0,s,_=>by simp[run]
 | n+1,s,h=>by
  rw[run,nR,JO t p s h,Cq t p n (s+1) (by omega)]
  congr 3
  omega
theorem Hf(t:List Item)(it:Item)(h:pG it):bx t it=(iO it).foldl aU t:=by
 cases it with
 | win n =>
  show bx t (.win n)=aU t (-1-n)
  rw[LD t h]
  unfold bx
  cases t.getLast? with
  | none=>rfl
  | some l=>cases l <;> rfl
 | aR a b =>
  obtain⟨a0,ab⟩:=h
  have e:(b-a).toNat=(b-(a+1)).toNat+1:=by omega
  show bx t (.aR a b)=(run a (b-a).toNat).foldl aU t
  rw[e,run,nR]
  have fin:∀ (u:List Item) (p:Int),(run (a+1) (b-(a+1)).toNat).foldl aU (u++[.aR p (a+1)])=u++[.aR p b]:=fun u p=>by
   rw[Cq u p _ _ (by omega)]
   congr 3
   omega
  unfold bx aU
  rw[if_neg (by omega)]
  cases t.getLast? with
  | none=>exact (fin t a).symm
  | some l =>
   cases l with
   | win n=>exact (fin t a).symm
   | aR p q =>
    show (if q=a then t.dropLast++[Item.aR p b] else t++[Item.aR a b])=List.foldl aU (if q=a then t.dropLast++[Item.aR p (a+1)] else t++[Item.aR a (a+1)]) _
    by_cases c:q=a
    ·rw[if_pos c,if_pos c,fin]
    ·rw[if_neg c,if_neg c,fin]
theorem pH(its:List Item)(h:iK its):G7 its=itemsOf (dP its):=by
 unfold G7 itemsOf dP
 rw[oh]
 have z:∀ (its:List Item) (t:List Item),iK its→its.foldl bx t=its.foldl (fun c a=>(iO a).foldl aU c) t:=by
  intro its
  induction its with
  | nil=>intro t _;rfl
  | cons it its ih =>
   intro t h
   rw[nR,nR,Hf t it (h it (by simp))]
   exact ih _ fun i hi=>h i (tY _ hi)
 exact z its [] h
theorem JP(t:List Item)(e:Int)(h:iK t):dP (aU t e)=dP t++[e]∧iK (aU t e):=by
 unfold aU
 by_cases c:e<0
 ·rw[if_pos c,gX,oG]
  refine⟨?_,h.append (iK.one (by show 0≤-1-e;omega))⟩
  show dP t++[-1-(-1-e)]=_
  rw[show -1-(-1-e)=e by omega]
 ·rw[if_neg c]
  have pl:dP (t++[.aR e (e+1)])=dP t++[e]∧iK (t++[.aR e (e+1)]):=by
   refine⟨?_,h.append (iK.one ⟨by omega,by omega⟩)⟩
   rw[gX,oG]
   show _++run e (e+1-e).toNat=_
   rw[show (e+1-e).toNat=1 by omega]
   rfl
  rcases uK t with rfl|⟨t',l,rfl⟩
  ·exact pl
  ·rw[rM]at h pl ⊢
   rw[wN]
   cases l with
   | win n=>exact pl
   | aR a b =>
    show dP (if b=e then (t'++[Item.aR a b]).dropLast++[.aR a (e+1)] else (t'++[Item.aR a b])++[.aR e (e+1)])=_∧iK (if b=e then (t'++[Item.aR a b]).dropLast++[.aR a (e+1)] else (t'++[Item.aR a b])++[.aR e (e+1)])
    by_cases hb:b=e
    ·subst hb
     obtain⟨a0,ab⟩:0≤a∧a<b:=h (.aR a b) (by simp)
     rw[if_pos rfl,List.dropLast_concat]
     refine⟨?_,iK.append (fun i hi=>h i (List.mem_append_left _ hi)) (iK.one ⟨a0,by omega⟩)⟩
     rw[gX,gX,oG,oG,oZ]
     congr 1
     show run a (b+1-a).toNat=run a (b-a).toNat++[b]
     rw[show (b+1-a).toNat=(b-a).toNat+1 by omega,zL]
     congr 2
     omega
    ·rw[if_neg hb]
     exact pl
theorem qV(es:List Int):dP (itemsOf es)=es∧iK (itemsOf es):=by
 have z:∀ (es:List Int) (t:List Item),iK t→dP (es.foldl aU t)=dP t++es∧iK (es.foldl aU t):=by
  intro es
  induction es with
  | nil=>intro t h;exact⟨by simp,h⟩
  | cons e es ih =>
   intro t h
   obtain⟨h1,h2⟩:=JP t e h
   obtain⟨h3,h4⟩:=ih _ h2
   exact⟨by rw[nR,h3,h1,oZ];rfl,h4⟩
 obtain⟨h1,h2⟩:=z es [] (fun i hi=>by cases hi)
 exact⟨by unfold itemsOf;rw[h1];rfl,h2⟩
theorem vZ(r:Row):dP (eN r)=bT r:=by
 unfold dP eN bT
 rw[List.flatMap_map]
 rfl
theorem Ah{r:Row}(h:lX r):iK (eN r):=by
 intro it hm
 unfold eN at hm
 obtain⟨p,hp,rfl⟩:=List.mem_map.mp hm
 exact h p hp
abbrev qu:=Item × Row × Int × Int
def dQ(sh:Int→List Int)(it:Item):Row:=rG (fun n=>rowOf (sh n)) it
def bO(sh:Int→List Int):Int→List Item→List qu
 | _,[]=>[]
 | f,it::r=>(it,dQ sh it,f,f+tot (dQ sh it))::bO sh (f+tot (dQ sh it)) r
theorem v5(sh:Int→List Int)(b:List Item):∀ (a:List Item) (f:Int),bO sh f (a++b)=bO sh f a++bO sh (f+tot (aZ sh a)) b
 | [],f=>by simp[bO,aZ,tot]
 | it::a,f=>by
  rw[List.cons_append,bO,bO,v5 sh b a,List.cons_append]
  have e:aZ sh (it::a)=dQ sh it++aZ sh a:=by unfold aZ;rw[mH];rfl
  rw[e,zK,Int.add_assoc]
theorem Cr(sh:Int→List Int):∀ (a:List Item) (f:Int),(bO sh f a).length=a.length
 | [],_=>rfl
 | _::a,f=>by rw[bO,pP,pP,Cr sh a]
def oH(N:Addr→Prop)(H:Hp)(v:V)(d:qu):Prop:=∃ (a ra:Addr) (x:V),v=.ref a∧H a=some (.tup [x,.ref ra,.int d.2.2.1,.int d.2.2.2])∧cB H x d.1∧cL H ra d.2.1∧N ra
theorem oH.same{N:Addr→Prop}{H H':Hp}{v:V}{d:qu}(s:aJ H H'):oH N H v d→oH N H' v d:=fun ⟨a,ra,x,e,h,i,r,n⟩=>⟨a,ra,x,e,s _ _ h,i.same s,r.same s,n⟩
theorem oH.keep{N:Addr→Prop}{H H':Hp}{v:V}{d:qu}{q:Addr}{xs:List V}(hq:H q=some (.lst xs))(nq:∀ a,N a→a≠q)(k:eE q H H'):oH N H v d→oH N H' v d:=fun ⟨a,ra,x,e,h,i,r,n⟩=>⟨a,ra,x,e,k a _ h (by
 intro z
 rw[z,hq]at h
 cases h),i.keep hq k,r.keep hq (nq ra n) k,n⟩
def xB(H:Hp)(kvs:List (Key × V))(sh:Int→List Int)(its:List Item):Prop:=∀ n,Item.win n∈its→∃ a,cP kvs (Sum.inl n)=some (.ref a)∧cL H a (rowOf (sh n))
theorem xB.same{H H':Hp}{kvs:List (Key × V)}{sh:Int→List Int}{its:List Item}(s:aJ H H')(h:xB H kvs sh its):xB H' kvs sh its:=fun n hn=>by
 obtain⟨a,e,r⟩:=h n hn
 exact⟨a,e,r.same s⟩
def aD(p:Int)(d:qu):List Item:=if d.2.2.2≤p then [d.1] else if p≤d.2.2.1 then [] else eN (cF (o7 0 (p-d.2.2.1) 0 d.2.1))
def bD(p:Int)(d:qu):List Item:=if d.2.2.2≤p then [] else if p≤d.2.2.1 then [d.1] else eN (cF (o7 (p-d.2.2.1) (d.2.2.2-d.2.2.1) 0 d.2.1))
def aE(sh:Int→List Int)(p:Int):Int→List Int→List Int
 | _,[]=>[]
 | f,e::r=>(if f+(lu sh e).length≤p then [e] else if p≤f then [] else (lu sh e).take (p-f).toNat)++aE sh p (f+(lu sh e).length) r
def bE(sh:Int→List Int)(p:Int):Int→List Int→List Int
 | _,[]=>[]
 | f,e::r=>(if f+(lu sh e).length≤p then [] else if p≤f then [e] else (lu sh e).drop (p-f).toNat)++bE sh p (f+(lu sh e).length) r
theorem gf(sh:Int→List Int)(e:Int)(r:List Int):cH sh (e::r)=lu sh e++cH sh r:=by unfold cH;rw[mH]
theorem Cs(sh:Int→List Int)(p:Int)(y:List Int):∀ (x:List Int) (f:Int),aE sh p f (x++y)=aE sh p f x++aE sh p (f+(cH sh x).length) y
 | [],f=>by simp[aE,cH]
 | e::x,f=>by
  rw[List.cons_append,aE,aE,Cs sh p y x,oZ,gf,eT,Int.add_assoc]
  push_cast
  rfl
theorem Ct(sh:Int→List Int)(p:Int)(y:List Int):∀ (x:List Int) (f:Int),bE sh p f (x++y)=bE sh p f x++bE sh p (f+(cH sh x).length) y
 | [],f=>by simp[bE,cH]
 | e::x,f=>by
  rw[List.cons_append,bE,bE,Ct sh p y x,oZ,gf,eT,Int.add_assoc]
  push_cast
  rfl
theorem v7(sh:Int→List Int){e:Int}(h:0≤e):lu sh e=[e]:=by unfold lu;rw[if_neg (by omega)]
theorem qv(sh:Int→List Int):∀ (n:Nat) (a:Int),0≤a→cH sh (run a n)=run a n
 | 0,_,_=>rfl
 | n+1,a,h=>by rw[run,gf,v7 sh h,qv sh n (a+1) (by omega)];rfl
theorem LF(sh:Int→List Int)(p:Int):∀ (n:Nat) (a f:Int),0≤a→aE sh p f (run a n)=(run a n).take (p-f).toNat
 | 0,_,_,_=>by simp[run,aE]
 | n+1,a,f,h=>by
  rw[run,aE,LF sh p n (a+1) _ (by omega),v7 sh h]
  show (if f+1≤p then [a] else if p≤f then [] else _)++(run (a+1) n).take (p-(f+1)).toNat=_
  by_cases c:f+1≤p
  ·rw[if_pos c,show (p-f).toNat=(p-(f+1)).toNat+1 by omega]
   rfl
  ·rw[if_neg c,if_pos (by omega),show (p-f).toNat=0 by omega,show (p-(f+1)).toNat=0 by omega]
   rfl
theorem LG(sh:Int→List Int)(p:Int):∀ (n:Nat) (a f:Int),0≤a→bE sh p f (run a n)=(run a n).drop (p-f).toNat
 | 0,_,_,_=>by simp[run,bE]
 | n+1,a,f,h=>by
  rw[run,bE,LG sh p n (a+1) _ (by omega),v7 sh h]
  show (if f+1≤p then [] else if p≤f then [a] else _)++(run (a+1) n).drop (p-(f+1)).toNat=_
  by_cases c:f+1≤p
  ·rw[if_pos c,show (p-f).toNat=(p-(f+1)).toNat+1 by omega]
   rfl
  ·rw[if_neg c,if_pos (by omega),show (p-f).toNat=0 by omega,show (p-(f+1)).toNat=0 by omega]
   rfl
theorem Fi(sh:Int→List Int){n:Int}(h:0≤n):lu sh (-1-n)=sh n:=by
 unfold lu
 rw[if_pos (by omega),show -1-(-1-n)=n by omega]
theorem zf(sh:Int→List Int)(it:Item)(h:pG it):∀ q∈dQ sh it,q.1≤q.2:=by
 cases it with
 | win n=>exact vP _
 | aR a b =>
  intro q hq
  have:q=(a,b):=by simpa [dQ,rG] using hq
  subst this
  have:=h.2
  show a≤b
  omega
theorem oJ(sh:Int→List Int)(it:Item)(h:pG it):bT (dQ sh it)=cH sh (iO it):=by
 cases it with
 | win n =>
  show bT (rowOf (sh n))=cH sh [-1-n]
  rw[kG,gf,Fi sh h]
  simp[cH]
 | aR a b =>
  show bT [(a,b)]=cH sh (run a (b-a).toNat)
  rw[jd,qv sh _ _ h.1]
  rfl
theorem qw(sh:Int→List Int)(it:Item)(h:pG it):tot (dQ sh it)=(cH sh (iO it)).length:=by
 rw[← oJ sh it h,sY _ (zf sh it h)]
theorem SG(sh:Int→List Int)(p f:Int)(it:Item)(h:pG it):dP (aD p (it,dQ sh it,f,f+tot (dQ sh it)))=aE sh p f (iO it):=by
 have tt:=qw sh it h
 have sp:dP (eN (cF (o7 0 (p-f) 0 (dQ sh it))))=(cH sh (iO it)).take (p-f).toNat:=by
  rw[vZ,zQ _ _ _ (zf sh it h),oJ sh it h]
  rfl
 unfold aD
 show dP (if f+tot (dQ sh it)≤p then [it] else if p≤f then [] else eN (cF (o7 0 (p-f) 0 (dQ sh it))))=_
 rw[tt]
 cases it with
 | win n =>
  have e1:cH sh (iO (.win n))=lu sh (-1-n):=by show cH sh [-1-n]=_;rw[gf];simp[cH]
  rw[e1]at sp ⊢
  show _=aE sh p f [-1-n]
  rw[aE,aE,j6]
  split
  ·rfl
  ·split
   ·rfl
   ·exact sp
 | aR a b =>
  have e1:cH sh (iO (.aR a b))=run a (b-a).toNat:=qv sh _ _ h.1
  rw[e1]at sp ⊢
  show _=aE sh p f (run a (b-a).toNat)
  rw[LF sh p _ _ _ h.1]
  have rl:=n9 a (b-a).toNat
  split
  ·rename_i c
   rw[oG,yu (by omega)]
   rfl
  ·split
   ·rename_i c
    rw[show (p-f).toNat=0 by omega]
    rfl
   ·exact sp
theorem SH(sh:Int→List Int)(p f:Int)(it:Item)(h:pG it):dP (bD p (it,dQ sh it,f,f+tot (dQ sh it)))=bE sh p f (iO it):=by
 have tt:=qw sh it h
 have sp:dP (eN (cF (o7 (p-f) (f+tot (dQ sh it)-f) 0 (dQ sh it))))=(cH sh (iO it)).drop (p-f).toNat:=by
  rw[vZ,zQ _ _ _ (zf sh it h),oJ sh it h,yu (by rw[tt];omega)]
 unfold bD
 show dP (if f+tot (dQ sh it)≤p then [] else if p≤f then [it] else eN (cF (o7 (p-f) (f+tot (dQ sh it)-f) 0 (dQ sh it))))=_
 have c1:(f+tot (dQ sh it)≤p)=(f+(cH sh (iO it)).length≤p):=by rw[tt]
 simp only[c1]
 cases it with
 | win n =>
  have e1:cH sh (iO (.win n))=lu sh (-1-n):=by show cH sh [-1-n]=_;rw[gf];simp[cH]
  rw[e1]at sp ⊢
  show _=bE sh p f [-1-n]
  rw[bE,bE,j6]
  split
  ·rfl
  ·split
   ·rfl
   ·exact sp
 | aR a b =>
  have e1:cH sh (iO (.aR a b))=run a (b-a).toNat:=qv sh _ _ h.1
  rw[e1]at sp ⊢
  show _=bE sh p f (run a (b-a).toNat)
  rw[LG sh p _ _ _ h.1]
  have rl:=n9 a (b-a).toNat
  split
  ·rename_i c
   rw[List.drop_of_length_le (by omega)]
   rfl
  ·split
   ·rename_i c
    rw[oG,show (p-f).toNat=0 by omega]
    rfl
   ·exact sp
theorem Fj(sh:Int→List Int)(p:Int):∀ (its:List Item) (f:Int),iK its→dP ((bO sh f its).flatMap (aD p))=aE sh p f (dP its)
 | [],f,_=>rfl
 | it::r,f,h=>by
  have h1:=h it (by simp)
  rw[bO,mH,gX,SG sh p f it h1,Fj sh p r _ fun i hi=>h i (tY _ hi)]
  have e:dP (it::r)=iO it++dP r:=by unfold dP;rw[mH]
  rw[e,Cs,qw sh it h1]
theorem Cu(sh:Int→List Int)(p:Int):∀ (its:List Item) (f:Int),iK its→dP ((bO sh f its).flatMap (bD p))=bE sh p f (dP its)
 | [],f,_=>rfl
 | it::r,f,h=>by
  have h1:=h it (by simp)
  rw[bO,mH,gX,SH sh p f it h1,Cu sh p r _ fun i hi=>h i (tY _ hi)]
  have e:dP (it::r)=iO it++dP r:=by unfold dP;rw[mH]
  rw[e,Ct,qw sh it h1]
def Qf(sh:Int→List Int)(its:List Item):Prop:=∀ n,Item.win n∈its→∀ x∈sh n,0≤x
theorem Nm(sh:Int→List Int)(it:Item)(h:pG it)(g:∀ n,it=.win n→∀ x∈sh n,0≤x):rE (dQ sh it):=by
 cases it with
 | win n=>exact (JA (g n rfl)).nn
 | aR a b =>
  intro q hq
  have:q=(a,b):=by simpa [dQ,rG] using hq
  subst this
  exact⟨h.1,by have:=h.2;show a≤b;omega⟩
theorem Dr(sh:Int→List Int):∀ (its:List Item) (f:Int),iK its→Qf sh its→∀ d∈bO sh f its,pG d.1∧rE d.2.1
 | [],_,_,_=>fun d hd=>by cases hd
 | it::r,f,h,g=>by
  intro d hd
  rw[bO]at hd
  rcases List.mem_cons.mp hd with rfl|z
  ·exact⟨h it (by simp),Nm sh it (h it (by simp)) fun n e=>g n (by rw[e];simp)⟩
  ·exact Dr sh r _ (fun i hi=>h i (tY _ hi)) (fun n hn=>g n (tY _ hn)) d z
theorem Fl{a b:Int}{r:Row}(h:rE r):iK (eN (cF (o7 a b 0 r))):=Ah (xx (De a b r 0 h))
theorem SI{p:Int}{d:qu}(h:pG d.1)(g:rE d.2.1):iK (aD p d):=by
 unfold aD
 split
 ·exact iK.one h
 ·split
  ·exact fun i hi=>by cases hi
  ·exact Fl g
theorem SJ{p:Int}{d:qu}(h:pG d.1)(g:rE d.2.1):iK (bD p d):=by
 unfold bD
 split
 ·exact fun i hi=>by cases hi
 ·split
  ·exact iK.one h
  ·exact Fl g
theorem Ds{g:qu→List Item}{l:List qu}(h:∀ d∈l,iK (g d)):iK (l.flatMap g):=fun it hm=>by
 obtain⟨d,hd,hm⟩:=List.mem_flatMap.mp hm
 exact h d hd it hm
theorem Ir(r:Row):(eN r).length=r.length:=by unfold eN;rw[dW]
theorem xC(a b:Int)(r:Row):(eN (cF (o7 a b 0 r))).length≤r.length:=by
 rw[Ir]
 exact lO (tF _) (pV a b r 0)
theorem Ai(sh:Int→List Int){g:qu→List Item}(hg:∀ d,(g d).length≤d.2.1.length+1):∀ (its:List Item) (f:Int),((bO sh f its).flatMap g).length≤(aZ sh its).length+its.length
 | [],_=>by simp[bO]
 | it::r,f=>by
  rw[bO,mH,eT]
  have a:=hg (it,dQ sh it,f,f+tot (dQ sh it))
  have b:=Ai sh hg r (f+tot (dQ sh it))
  have e:aZ sh (it::r)=dQ sh it++aZ sh r:=by unfold aZ;rw[mH];rfl
  rw[e,eT,pP]
  simp only at a
  omega
theorem Qg(p:Int)(d:qu):(aD p d).length≤d.2.1.length+1:=by
 unfold aD
 split
 ·simp
 ·split
  ·simp
  ·exact lO (xC _ _ _) (by omega)
theorem Qh(p:Int)(d:qu):(bD p d).length≤d.2.1.length+1:=by
 unfold bD
 split
 ·simp
 ·split
  ·simp
  ·exact lO (xC _ _ _) (by omega)
theorem kJ{α β:Type}(g:α→List β)(l:List α)(i:Nat):((l.take i).flatMap g).length≤(l.flatMap g).length:=by
 have e:l.flatMap g=(l.take i).flatMap g++(l.drop i).flatMap g:=by rw[← List.flatMap_append,List.take_append_drop]
 rw[e,eT]
 omega
theorem tN{α β:Type}(g:α→List β){l:List α}{i:Nat}{a:α}(h:l[i]?=some a):(l.take (i+1)).flatMap g=(l.take i).flatMap g++g a:=by
 rw[take_snoc h,List.flatMap_append]
 simp
theorem v8(sh:Int→List Int){its:List Item}{it:Item}(h:it∈its):(dQ sh it).length≤(aZ sh its).length:=by
 obtain⟨a,b,rfl⟩:=List.append_of_mem h
 rw[eZ]
 have e:aZ sh (it::b)=dQ sh it++aZ sh b:=by unfold aZ;rw[mH];rfl
 rw[e,eT,eT]
 omega
def Iu(A B:Addr)(H H':Hp):Prop:=∀ a o,H a=some o→a≠A→a≠B→H' a=some o
theorem Iu.tup{A B:Addr}{H H':Hp}{xs ys:List V}(k:Iu A B H H')(hA:H A=some (.lst xs))(hB:H B=some (.lst ys)):∀ a zs,H a=some (.tup zs)→H' a=some (.tup zs):=fun a zs h=>k a _ h (fun z=>by
 rw[z,hA]at h
 cases h) (fun z=>by
 rw[z,hB]at h
 cases h)
theorem cB.tups{H H':Hp}{v:V}{it:Item}(t:∀ a xs,H a=some (.tup xs)→H' a=some (.tup xs)):cB H v it→cB H' v it:=fun ⟨a,e,h⟩=>⟨a,e,t a _ h⟩
theorem oH.Oz{N:Addr→Prop}{A B:Addr}{H H':Hp}{v:V}{d:qu}{xs ys:List V}(hA:H A=some (.lst xs))(hB:H B=some (.lst ys))(n:∀ a,N a→a≠A∧a≠B)(k:Iu A B H H'):oH N H v d→oH N H' v d:=fun ⟨a,ra,x,e,h,i,⟨as,hr,hp⟩,hn⟩ =>
 ⟨a,ra,x,e,k.tup hA hB _ _ h,i.tups (k.tup hA hB),⟨as,k _ _ hr (n ra hn).1 (n ra hn).2,hp.tups (k.tup hA hB)⟩,hn⟩
theorem cu.app{α β:Type}{R:α→β→Prop}:∀ {as cs:List α} {bs ds:List β},cu R as bs→cu R cs ds→cu R (as++cs) (bs++ds)
 | _,_,_,_,.nil,h=>h
 | _,_,_,_,.cons r t,h=>.cons r (t.app h)
structure ny(H1:Hp)(A B:Addr)(l1 l2:List Item)(H2:Hp):Prop where
 a:∃ vs,H2 A=some (.lst vs)∧cu (cB H2) vs l1
 b:∃ vs,H2 B=some (.lst vs)∧cu (cB H2) vs l2
 k:Iu A B H1 H2
theorem ny.same{H1 H2 H3:Hp}{A B:Addr}{l1 l2:List Item}(p:ny H1 A B l1 l2 H2)(s:aJ H2 H3):ny H1 A B l1 l2 H3:=by
 obtain⟨⟨v1,h1,t1⟩,⟨v2,h2,t2⟩,k⟩:=p
 exact⟨⟨v1,s _ _ h1,t1.mono fun _ _ h=>h.same s⟩,⟨v2,s _ _ h2,t2.mono fun _ _ h=>h.same s⟩,fun a o e n m=>s _ _ (k a o e n m)⟩
theorem ny.Iv{H1 H2:Hp}{A B:Addr}{l1 l2 l3:List Item}{v1 v3:List V}(p:ny H1 A B l1 l2 H2)(n:A≠B)(h1:H2 A=some (.lst v1))(t3:cu (cB H2) v3 l3):ny H1 A B (l1++l3) l2 (upd H2 A (.lst (v1++v3))):=by
 obtain⟨⟨v1',h1',t1⟩,⟨v2,h2,t2⟩,k⟩:=p
 rw[h1]at h1'
 cases h1'
 have kp:∀ v i,cB H2 v i→cB (upd H2 A (.lst (v1++v3))) v i:=fun v i h=>h.keep h1 (aN A _ _)
 refine⟨⟨_,ah,(t1.mono kp).app (t3.mono kp)⟩,⟨v2,by rw[aM n.symm];exact h2,t2.mono kp⟩,fun a o e m1 m2=>?_⟩
 rw[aM m1]
 exact k a o e m1 m2
theorem ny.Iw{H1 H2:Hp}{A B:Addr}{l1 l2 l3:List Item}{v2 v3:List V}(p:ny H1 A B l1 l2 H2)(n:A≠B)(h2:H2 B=some (.lst v2))(t3:cu (cB H2) v3 l3):ny H1 A B l1 (l2++l3) (upd H2 B (.lst (v2++v3))):=by
 obtain⟨⟨v1,h1,t1⟩,⟨v2',h2',t2⟩,k⟩:=p
 rw[h2]at h2'
 cases h2'
 have kp:∀ v i,cB H2 v i→cB (upd H2 B (.lst (v2++v3))) v i:=fun v i h=>h.keep h2 (aN B _ _)
 refine⟨⟨v1,by rw[aM n];exact h1,t1.mono kp⟩,⟨_,ah,(t2.mono kp).app (t3.mono kp)⟩,fun a o e m1 m2=>?_⟩
 rw[aM m2]
 exact k a o e m1 m2
theorem Fo{rows:gj}{sh:Int→List Int}(JG:Sound rows)(hrk:F3 rows)(hsh:Ff rows sh):∀ x:Int,0≤x→x<rows.length→∀ y∈sh x,0≤y:=by
 obtain⟨rk,hb,hd⟩:=hrk
 have key:∀ (k:Nat) (x:Int),rk x<k→0≤x→x<rows.length→∀ y∈sh x,0≤y:=by
  intro k
  induction k with
  | zero=>intro x h;omega
  | succ k ih =>
   intro x hx x0 x1 y hy
   have he:rows[x.toNat]?=some rows[x.toNat]:=rL (by omega)
   rw[hsh x _ x0 he]at hy
   unfold cH at hy
   obtain⟨e,hm,hy⟩:=List.mem_flatMap.mp hy
   unfold lu at hy
   by_cases c:e<0
   ·rw[if_pos c]at hy
    have nx:Ci rows x (-1-e):=⟨x0,_,he,Cg.mpr ⟨by omega,by rw[show -1-(-1-e)=e by omega];exact hm⟩⟩
    obtain⟨a,b⟩:=JG.Oe nx
    have:=hd _ _ nx
    exact ih _ (by omega) a b y hy
   ·rw[if_neg c]at hy
    rw[List.mem_singleton.mp hy]
    omega
 exact fun x=>key (rk x+1) x (Nat.lt_succ_self _)
theorem zg{rows:gj}{s n:Int}{es:List Int}(h0:0≤s)(he:rows[s.toNat]?=some es)(h:Item.win n∈itemsOf es):Ci rows s n:=by
 refine⟨h0,es,he,?_⟩
 rw[← jE]
 unfold eV
 rw[List.mem_filterMap]
 exact⟨.win n,h,rfl⟩
structure uX(H:Hp)(r:Addr)(rows:gj)(sh:Int→List Int):Prop where
 at_:gV H r (rows.map itemsOf)
 len:rows.length≤1000
 ents:∀ es∈rows,es.length≤1000
 snd:Sound rows
 rk:F3 rows
 SK:Ff rows sh
 bd:∀ x:Int,0≤x→x<rows.length→(sh x).length≤10000
theorem uX.same{H H':Hp}{r:Addr}{rows:gj}{sh:Int→List Int}(s:aJ H H')(h:uX H r rows sh):uX H' r rows sh:={ h with at_:=h.at_.same s }
structure SM(H:Hp)(r:Addr)(rows:gj)(sh:Int→List Int)(s:Int)(es:List Int)(GZ:List V)(b:Addr):Prop where
 he:rows[s.toNat]?=some es
 hr:H r=some (.lst GZ)
 ix:A0 GZ s=some (.ref b)
 it:aW H (.ref b) (itemsOf es)
 il:(itemsOf es).length≤1000
 rl:(aZ sh (itemsOf es)).length≤10000
 tt:tot (rowOf (sh s))=(sh s).length
 se:sh s=cH sh es
theorem uX.one{H:Hp}{r:Addr}{rows:gj}{sh:Int→List Int}{s:Int}(h:uX H r rows sh)(h0:0≤s)(h1:s<rows.length):∃ es GZ b,SM H r rows sh s es GZ b:=by
 have nF:rows[s.toNat]?=some rows[s.toNat]:=rL (by omega)
 obtain⟨GZ,hr2,vV⟩:=h.at_
 obtain⟨vi,Ng,hI⟩:=vV.get' (i:=s.toNat) (b:=itemsOf rows[s.toNat]) (by rw[uq,nF];rfl)
 obtain⟨b,Mg,rfl,hb,hit⟩:=id hI
 have z:=gO Ng
 rw[show ((s.toNat:Nat):Int)=s by omega]at z
 have hil:=tG rows[s.toNat] []
 have hel:=h.ents _ (nQ nF)
 obtain⟨Gu,hok⟩:=Af sh rows[s.toNat]
 have se:=h.SK s _ h0 nF
 refine⟨_,GZ,b,nF,hr2,z,hI,?_,?_,?_,se⟩
 ·show (rows[s.toNat].foldl aU []).length≤_
  simp only[List.length_nil]at hil
  omega
 ·have q:=uW sh (itemsOf rows[s.toNat]) hok
  rw[Gu,← se]at q
  have:=h.bd s h0 h1
  omega
 ·rw[← sY _ (vP _),kG]
theorem qe.small{i:Int}(h0:0≤i)(h1:i≤10000):qe i:=by
 have a:(0:Int)<10^60:=by decide
 have b:(10000:Int)<10^60:=by decide
 exact⟨by omega,by omega⟩
theorem tO(ns:List Int):(rowOf ns).length≤ns.length:=by
 have z:=EM ns []
 simpa [rowOf] using z
def sH(sh:Int→List Int)(p:Int)(es new:List Int):List Int:=if new=[] then es else aE sh p 0 es++new++bE sh p 0 es
inductive zj(vs:List V)(H:Hp)(Q:VK)(E:XK):Prop
 | mk (r S:Addr) (its:List Item) (kvs:List (Key × V)) (sh:Int→List Int) (N:Addr→Prop) (_:vs=[.ref r,.ref S]) (_:aW H (.ref r) its) (_:H S=some (.dK kvs)) (_:xB H kvs sh its) (_:its.length≤100000) (_:(∀ it∈its,(dQ sh it).length≤100000)) (_:(∀ n a,Item.win n∈its→cP kvs (Sum.inl n)=some (.ref a)→N a)) (_:(∀ a,H a=none→N a)) (_ :
 ∀ (o:Addr) (vs':List V) (H':Hp),H' o=some (.lst vs')→cu (oH N H') vs' (bO sh 0 its)→aJ H H'→H o=none→Q (.ref o) H'):zj vs H Q E
theorem qW:aL ["items","views","told","first","item","row","last"] ["items","views"] (az qL):=⟨rfl,rfl,rfl,by decide +kernel,rfl,by decide +kernel,by decide +kernel⟩
theorem Fp{f fI fZ:Addr}{fd ze Q0:FuncData}(F:iJ K "dealt" "dealt" qL f fd)(T:qT mg)(cD:aF K mg "item_row" fy wJ fI ze)(iN:aF K mg "size" ssize gJ fZ Q0):aH P w K mg base cK 2 f fd CO zj:=by
 have xA:aH P w K mg base cK 1 fI ze wJ tM:=yo cD.F T
 have Cm:aH P w K mg base cK 1 fZ Q0 gJ zN:=Di iN.F T
 refine F.ok qW (fun vs H Q E h=>?_) (fun cdv A outer s H vs Q E hr h=>?_)
 ·obtain⟨r,S,its,kvs,sh,N,rfl,_⟩:=h
  rfl
 obtain⟨r,S,its,kvs,sh,N,rfl,⟨r',Mg,e,hr1,hit⟩,hS,hW,hlen,hrl,nW,nN,k⟩:=h
 cases e
 refine⟨_,(ao (aY (i:=2) qW.nd rfl (Or.inl rfl) (bW aj))
   (ao (aY (i:=3) qW.nd rfl (Or.inl rfl) aC)
   (ao (jI PassesOwn.never rfl (eK (pv 0)) (br (i:=4) qW.nd rfl (Or.inl rfl))
   (ao (aY (i:=5) qW.nd rfl (Or.inl rfl) (aS cD xA hr (af (pv 4) (af (pv 1) aj))))
   (ao (aY (i:=6) qW.nd rfl (Or.inl rfl) (bw gz (pv 3) (gu.tK iN (T.mC _ iN.m) Cm hr (af (pv 5) aj))))
   (ao (bq (nu uJ wL wM dF (pv 2) (af (fF (af (pv 4) (af (pv 5) (af (pv 3) (af (pv 6) aj))))) aj)))
   (au (aY (i:=3) qW.nd rfl (Or.inl rfl) (pv 6)))))))
   (au (aP (pv 2)))))),?_⟩
 refine⟨(by show 0≤sizeLine;decide),fun q hq=>?_⟩
 have s0:aJ H (upd H q (.lst [])):=ak hq _
 refine⟨_,rfl,r,rfl,⟨_,b8.of (s0 _ _ hr1)⟩,jM (K:=K) (a:=r) (xs:=Mg) (fun i σ H2=>∃ (vs:List V) (u1 u2 u3:Option V),σ=[some (.ref r),some (.ref S),some (.ref q),some (.int (0+tot (aZ sh (its.take i)))),u1,u2,u3]∧H2 q=some (.lst vs)∧cu (oH (fun a=>N a∧a≠q) H2) vs (bO sh 0 (its.take i))∧aJ H H2)
  ⟨[],none,none,none,rfl,ah,.nil,s0⟩ (fun i σ H2 _ ⟨_,_,_,_,_,_,_,s⟩=>b8.of (s _ _ hr1)) ?_ ?_⟩
 ·rintro i x σ H2 hi ⟨vs,u1,u2,u3,rfl,hq2,hb,s⟩
  obtain⟨it,ei,hiv⟩:=hit.get hi
  have im:=nQ ei
  have bl:=hb.len
  rw[Cr,o6]at bl
  refine⟨_,rfl,_,rfl,x,it,S,kvs,fun n=>rowOf (sh n),rfl,hiv.same s,s _ _ hS,fun n hn=>(hW.same s) n (by rw[← hn];exact im),fun a H3 R3 s3 w3=>?_⟩
  have na:N a∧a≠q:=by
   rcases w3 with ⟨n,rfl,hv⟩|h0
   ·refine⟨nW n a im hv,?_⟩
    obtain⟨b,hb1,⟨as,hb2,_⟩⟩:=hW n im
    rw[hv]at hb1
    cases hb1
    exact ay hb2 hq
   ·exact⟨nN a (bK s h0),(ay hq2 h0).symm⟩
  refine⟨_,rfl,_,rfl,a,dQ sh it,rfl,R3,lO (hrl it im) (by decide),fun H4 s4=>⟨_,_,rfl,rfl,?_⟩⟩
  have SN:=s4 _ _ (s3 _ _ hq2)
  refine⟨_,rfl,.inl ⟨rfl,_,b8.of SN⟩,_,rfl,_,rfl,_,rfl,_,rfl,(by show 4≤sizeLine;decide),fun t ht=>?_⟩
  have SO:=ak ht (.tup [x,.ref a,.int (0+tot (aZ sh (its.take i))),.int (0+tot (aZ sh (its.take i))+tot (dQ sh it))]) _ _ SN
  refine⟨q,_,_,rfl,rfl,SO,aV (by omega),?_⟩
  refine⟨_,rfl,_,some x,some (.ref a),some (.int (0+tot (aZ sh (its.take i))+tot (dQ sh it))),?_,ah,?_,dM hq (s.trans (s3.trans (s4.trans (ak ht _)))) (aN q _ _)⟩
  ·have e:aZ sh (its.take (i+1))=aZ sh (its.take i)++dQ sh it:=by rw[take_snoc ei,eZ,lZ];rfl
   rw[e,zK,← Int.add_assoc]
   rfl
  ·have e:bO sh 0 (its.take (i+1))=bO sh 0 (its.take i)++[(it,dQ sh it,0+tot (aZ sh (its.take i)),0+tot (aZ sh (its.take i))+tot (dQ sh it))]:=by rw[take_snoc ei,v5];rfl
   rw[e]
   have PD:t≠q:=(ay SN ht).symm
   refine cu.snoc (hb.mono fun v d h=>(((h.same s3).same s4).same (ak ht _)).keep SO (fun a h=>h.2) (aN q _ _)) ⟨t,a,x,rfl,?_,?_,?_,na⟩
   ·rw[aM PD,ah]
   ·exact ((((hiv.same s).same s3).same s4).same (ak ht _)).keep SO (aN q _ _)
   ·exact (((R3.same s4).same (ak ht _))).keep SO na.2 (aN q _ _)
 ·rintro σ H2 ⟨vs,u1,u2,u3,rfl,hq2,hb,s⟩
  rw[hit.len,mZ]at hb
  exact⟨_,rfl,k q vs H2 hq2 (hb.mono fun v d ⟨a,ra,x,e,h,i,r,n⟩=>⟨a,ra,x,e,h,i,r,n.1⟩) s hq⟩
inductive uY(vs:List V)(H:Hp)(Q:VK)(E:XK):Prop
 | mk (r S o:Addr) (p:Int) (its Jx:List Item) (kvs:List (Key × V)) (sh:Int→List Int) (_:vs=[.ref r,.ref S,.int p,.ref o]) (_:aW H (.ref r) its) (_:H S=some (.dK kvs)) (_:xB H kvs sh its) (_:aW H (.ref o) Jx) (_:iK its) (_:iK Jx) (_:Qf sh its) (_:its.length≤50000) (_:(aZ sh its).length≤50000) (_:Jx.length≤50000) (_ :
 ∀ (q:Addr) (H':Hp),aW H' (.ref q) (itemsOf (aE sh p 0 (dP its)++dP Jx++bE sh p 0 (dP its)))→aJ H H'→H q=none→Q (.ref q) H'):uY vs H Q E
theorem gY:aL ["items","views","place","others","ahead","behind","item","row","first","last"] ["items","views","place","others"] (az lU):=⟨rfl,rfl,rfl,by decide +kernel,rfl,by decide +kernel,by decide +kernel⟩
theorem Dt{f fI fZ fP fS fG fK fD:Addr}{fd ze Q0 Lz Om Uw fdK SQ:FuncData}(F:iJ K "put_among" "put_among" lU f fd)(T:qT mg)(cD:aF K mg "item_row" fy wJ fI ze)(iN:aF K mg "size" ssize gJ fZ Q0)(iG:aF K mg "plain" lT gJ fP Lz)(jh:aF K mg "pieces" nB rR fS Om)(jy:aF K mg "goes_on" kR Ed fG Uw)(cR:aF K mg "plain_items" gR mF fK fdK)(oK:aF K mg "dealt" qL CO fD SQ){fN:Addr}{SR:FuncData}(iV:aF K mg "inked" qK gJ fN SR):aH P w K mg base cK 3 f fd Kc uY:=by
 have Hg:aH P w K mg base cK 2 fD SQ CO zj:=Fp oK.F T cD iN
 have tP:aH P w K mg base cK 1 fS Om rR vR:=Cn jh.F T
 have uZ:aH P w K mg base cK 2 fN SR gJ vY:=Ag iV.F T iG
 have jG:aH P w K mg base cK 2 fK fdK mF lz:=oF cR.F T jy
 refine F.ok gY (fun vs H Q E h=>?_) (fun cdv A outer s H vs Q E hr h=>?_)
 ·obtain⟨r,S,o,p,its,Jx,kvs,sh,rfl,_⟩:=h
  rfl
 obtain⟨r,S,o,p,its,Jx,kvs,sh,rfl,hI,hS,hW,hO,Qi,ok2,nn,l1,l2,l3,k⟩:=h
 refine⟨_,(ao (aY (i:=4) gY.nd rfl (Or.inl rfl) (bW aj))
   (ao (aY (i:=5) gY.nd rfl (Or.inl rfl) (bW aj))
   (ao (jI PassesOwn.never rfl (eK (aS oK Hg hr (af (pv 0) (af (pv 1) aj)))) (pQ (n:=4) rfl (bR (br (i:=6) gY.nd rfl (Or.inl rfl)) (bR (br (i:=7) gY.nd rfl (Or.inl rfl)) (bR (br (i:=8) gY.nd rfl (Or.inl rfl)) (bR (br (i:=9) gY.nd rfl (Or.inl rfl)) jX)))))
   (au (cC (bP lQ (pv 9) (pv 2) (bU _))
   (au (bq (nu uJ wL wM dF (pv 4) (af (pv 6) aj))))
   (au (cC (bP lQ (pv 2) (pv 8) (bU _))
   (au (bq (nu uJ wL wM dF (pv 5) (af (pv 6) aj))))
   (ao (wU (i:=4) gY.nd rfl (Or.inl rfl) (aS iV uZ hr (af (aS jh tP hr (af (pv 7) (af aC (af (bw iu (pv 2) (pv 8)) aj)))) aj)) xu)
   (au (wU (i:=5) gY.nd rfl (Or.inl rfl) (aS iV uZ hr (af (aS jh tP hr (af (pv 7) (af (bw iu (pv 2) (pv 8)) (af (bw iu (pv 9) (pv 8)) aj)))) aj)) xu))))))))
   (au (aP (aS cR jG hr (af (bw pT (bw pT (pv 4) (pv 3)) (pv 5)) aj))))))),?_⟩
 refine⟨(by show 0≤sizeLine;decide),fun A hA=>⟨(by show 0≤sizeLine;decide),fun B hB=>?_⟩⟩
 have sA:aJ H (upd H A (.lst [])):=ak hA _
 have sB:aJ _ (upd (upd H A (.lst [])) B (.lst [])):=ak hB _
 have s0:=sA.trans sB
 have LH:A≠B:=ay ah hB
 have SS:=bK sA hB
 refine⟨_,rfl,_,rfl,r,S,its,kvs,sh,fun a=>a≠A∧a≠B,rfl,hI.same s0,s0 _ _ hS,hW.same s0,by omega,(fun it hi=>by have:=v8 sh hi;omega),?_,?_,fun D dv H1 hD hdl s1 _=>?_⟩
 ·intro n a hn hv
  obtain⟨b,e,as,hb,_⟩:=hW n hn
  rw[hv]at e
  cases e
  exact⟨ay hb hA,ay hb SS⟩
 ·intro a ha
  exact⟨(ay (sB _ _ ah) ha).symm,(ay ah ha).symm⟩
 have SV:=s1 _ _ (sB _ _ (ah (H:=H) (a:=A) (o:=.lst [])))
 have SX:=s1 _ _ (ah (H:=upd H A (.lst [])) (a:=B) (o:=.lst []))
 have nD:D≠A∧D≠B:=by
  rename_i SY
  exact⟨(ay (sB _ _ ah) SY).symm,(ay ah SY).symm⟩
 have acO:=Ai sh (Qg p) its 0
 have acP:=Ai sh (Qh p) its 0
 have Qj:=Dr sh its 0 Qi nn
 refine⟨D,rfl,⟨_,b8.of hD⟩,jM (K:=K) (a:=D) (xs:=dv) (fun i σ H2=>∃ u1 u2 u3 u4:Option V,σ=[some (.ref r),some (.ref S),some (.int p),some (.ref o),some (.ref A),some (.ref B),u1,u2,u3,u4]∧ny H1 A B (((bO sh 0 its).take i).flatMap (aD p)) (((bO sh 0 its).take i).flatMap (bD p)) H2)
  ⟨none,none,none,none,rfl,⟨_,SV,.nil⟩,⟨_,SX,.nil⟩,fun _ _ e _ _=>e⟩ (fun i σ H2 _ ⟨_,_,_,_,_,pv⟩=>b8.of (pv.k _ _ hD nD.1 nD.2)) ?_ ?_⟩
 ·rintro i x σ H2 hi ⟨u1,u2,u3,u4,rfl,pv⟩
  obtain⟨d,ed,hd1⟩:=hdl.get hi
  have hd2:=hd1.Oz SV SX (fun a h=>h) pv.k
  obtain⟨a,ra,xi,rfl,hta,hxi,Q2,nra⟩:=hd2
  have eA:=tN (aD p) ed
  have eB:=tN (bD p) ed
  have bA:=kJ (aD p) (bO sh 0 its) i
  have bB:=kJ (bD p) (bO sh 0 its) i
  have bA1:=kJ (aD p) (bO sh 0 its) (i+1)
  have bB1:=kJ (bD p) (bO sh 0 its) (i+1)
  obtain⟨v1,hv1,t1⟩:=pv.a
  obtain⟨v2,hv2,t2⟩:=pv.b
  have z1:=t1.len
  have z2:=t2.len
  obtain⟨it,row,fi,la⟩:=d
  have rl:row.length≤50000:=by
   have z:=nQ ed
   have:∃ it'∈its,row=dQ sh it':=by
    have q:∀ (its:List Item) (f:Int),(it,row,fi,la)∈bO sh f its→∃ it'∈its,row=dQ sh it':=by
     intro its
     induction its with
     | nil=>intro f h;cases h
     | cons i0 r0 ih =>
      intro f h
      rw[bO]at h
      rcases List.mem_cons.mp h with e|e
      ·cases e;exact⟨it,by simp,rfl⟩
      ·obtain⟨i1,m1,e1⟩:=ih _ e
       exact⟨i1,tY _ m1,e1⟩
    exact q its 0 z
   obtain⟨i1,m1,rfl⟩:=this
   have:=v8 sh m1
   omega
  refine⟨a,_,rfl,jL.of hta,rfl,_,_,rfl,_,_,rfl,_,_,rfl,_,_,rfl,rfl,?_⟩
  refine⟨_,rfl,_,rfl,_,_,rfl,rfl,_,rfl,gP (fun c=>?_) (fun c=>?_)⟩
  ·have c':la≤p:=of_decide_eq_true c
   refine⟨_,rfl,.inl ⟨rfl,_,b8.of hv1⟩,_,rfl,A,_,_,rfl,rfl,hv1,aV (by omega),?_⟩
   refine⟨_,_,_,_,rfl,?_⟩
   rw[eA,eB]
   have e1:aD p (it,row,fi,la)=[it]:=by unfold aD;rw[if_pos c']
   have e2:bD p (it,row,fi,la)=[]:=by unfold bD;rw[if_pos c']
   rw[e1,e2,j6]
   exact pv.Iv LH hv1 (.cons hxi .nil)
  ·have c':¬ la≤p:=fun z=>c (decide_eq_true z)
   refine⟨_,rfl,_,rfl,_,_,rfl,rfl,_,rfl,gP (fun c2=>?_) (fun c2=>?_)⟩
   ·have Qk:p≤fi:=of_decide_eq_true c2
    refine⟨_,rfl,.inl ⟨rfl,_,b8.of hv2⟩,_,rfl,B,_,_,rfl,rfl,hv2,aV (by omega),?_⟩
    refine⟨_,_,_,_,rfl,?_⟩
    rw[eA,eB]
    have e1:aD p (it,row,fi,la)=[]:=by unfold aD;rw[if_neg c',if_pos Qk]
    have e2:bD p (it,row,fi,la)=[it]:=by unfold bD;rw[if_neg c',if_pos Qk]
    rw[e1,e2,j6]
    exact pv.Iw LH hv2 (.cons hxi .nil)
   ·have Qk:¬ p≤fi:=fun z=>c2 (decide_eq_true z)
    have e1:aD p (it,row,fi,la)=eN (cF (o7 0 (p-fi) 0 row)):=by unfold aD;rw[if_neg c',if_neg Qk]
    have e2:bD p (it,row,fi,la)=eN (cF (o7 (p-fi) (la-fi) 0 row)):=by unfold bD;rw[if_neg c',if_neg Qk]
    rw[eA,e1,eT]at bA1
    rw[eB,e2,eT]at bB1
    refine⟨_,rfl,_,rfl,_,rfl,_,rfl,_,_,rfl,rfl,ra,row,0,p-fi,rfl,Q2,by omega,fun q1 H3 R3 s3 hq1=>⟨q1,_,rfl,R3,lO (pV _ _ _ _) (by omega),fun q2 H4 I4 s4 hq2=>?_⟩⟩
    obtain⟨q2',v3,e3,h3,t3⟩:=I4
    cases e3
    have z3:=t3.len
    have JQ:=s4 _ _ (s3 _ _ hv1)
    refine⟨A,q2,_,_,rfl,rfl,JQ,h3,mJ (aV (by omega)),?_⟩
    have pv5:=((pv.same s3).same s4).Iv LH JQ t3
    have acV:cL (upd H4 A (.lst (v1++v3))) ra row:=((Q2.same s3).same s4).keep JQ nra.1 (aN A _ _)
    have acW:(upd H4 A (.lst (v1++v3))) B=some (.lst v2):=by rw[aM LH.symm];exact s4 _ _ (s3 _ _ hv2)
    refine⟨_,rfl,_,rfl,_,rfl,_,rfl,_,_,rfl,rfl,_,rfl,_,rfl,_,_,rfl,rfl,ra,row,p-fi,la-fi,rfl,acV,by omega,fun q3 H6 R6 s6 Ol=>⟨q3,_,rfl,R6,lO (pV _ _ _ _) (by omega),fun q4 H7 I7 s7 SN=>?_⟩⟩
    obtain⟨q4',v4,e4,h4,t4⟩:=I7
    cases e4
    have z4:=t4.len
    have OA:=s7 _ _ (s6 _ _ acW)
    refine⟨B,q4,_,_,rfl,rfl,OA,h4,mJ (aV (by omega)),?_⟩
    refine⟨_,_,_,_,rfl,?_⟩
    rw[eA,eB,e1,e2]
    exact ((pv5.same s6).same s7).Iw LH OA t4
 ·rintro σ H2 ⟨u1,u2,u3,u4,rfl,pv⟩
  have dl:=hdl.len
  rw[dl,mZ]at pv
  obtain⟨v1,hv1,t1⟩:=pv.a
  obtain⟨v2,hv2,t2⟩:=pv.b
  have z1:=t1.len
  have z2:=t2.len
  have sm:aJ H H2:=fun a ob e=>pv.k a ob (s1 _ _ (s0 _ _ e)) (ay e hA) (ay e SS)
  obtain⟨o',v3,e3,h3,t3⟩:=hO.same sm
  cases e3
  have z3:=t3.len
  refine⟨_,rfl,_,rfl,A,o,_,_,rfl,rfl,hv1,h3,mJ (aV (by omega)),fun c1 hc1=>?_⟩
  have n1:aJ H2 (upd H2 c1 (.lst (v1++v3))):=ak hc1 _
  refine⟨_,rfl,c1,B,_,_,rfl,rfl,ah,n1 _ _ hv2,mJ (aV (by rw[eT];omega)),fun c2 hc2=>?_⟩
  have n2:aJ _ (upd (upd H2 c1 (.lst (v1++v3))) c2 (.lst (v1++v3++v2))):=ak hc2 _
  have MQ:=n1.trans n2
  refine⟨c2,_,rfl,⟨c2,_,rfl,ah,((t1.app t3).app t2).mono fun v i h=>h.same MQ⟩,by rw[eT,eT];omega,fun q H9 I9 s9 hq9=>?_⟩
  have okA:iK ((bO sh 0 its).flatMap (aD p)):=Ds fun d hd=>SI (Qj d hd).1 (Qj d hd).2
  have okB:iK ((bO sh 0 its).flatMap (bD p)):=Ds fun d hd=>SJ (Qj d hd).1 (Qj d hd).2
  rw[pH _ ((okA.append ok2).append okB),gX,gX,Fj sh p its 0 Qi,Cu sh p its 0 Qi]at I9
  exact k q H9 I9 (sm.trans (MQ.trans s9)) (bK (sm.trans MQ) hq9)
inductive oM(C:Addr)(vs:List V)(H:Hp)(Q:VK)(E:XK):Prop
 | mk (r o:Addr) (rows:gj) (s p:Int) (its:List Item) (sh:Int→List Int) (_:vs=[.ref r,.int s,.int p,.ref o]) (_:uX H r rows sh) (_:0≤s) (_:s<rows.length) (_:aW H (.ref o) its) (_:iK its) (_:its.length≤10000) (_:qe p) (_:(0≤p∧p≤(sh s).length→∀ (es:List Int) (q:Addr) (H':Hp),rows[s.toNat]?=some es→aW H' (.ref q) (itemsOf (sH sh p es (dP its)))→aJ H H'→H q=none→Q (.ref q) H')) (_:(¬ (0≤p∧p≤(sh s).length)→∀ H',aJ H H'→E (.ref C) none H')):oM C vs H Q E
theorem LI{its:List Item}(h:iK its):dP its=[]↔its=[]:=by
 refine⟨fun e=>?_,fun e=>by rw[e];rfl⟩
 cases its with
 | nil=>rfl
 | cons it r =>
  have e1:dP (it::r)=iO it++dP r:=by unfold dP;rw[mH]
  rw[e1]at e
  have e2:=(List.append_eq_nil_iff.mp e).1
  cases it with
  | win n=>cases e2
  | aR a b =>
   have ab:a<b:=(h (.aR a b) (by simp)).2
   have:=n9 a (b-a).toNat
   have e3:run a (b-a).toNat=[]:=e2
   rw[e3]at this
   simp only[List.length_nil]at this
   omega
theorem yp:aL ["rows","sheet","place","items","views"] ["rows","sheet","place","items"] (az nZ):=⟨rfl,rfl,rfl,by decide +kernel,rfl,by decide +kernel,by decide +kernel⟩
theorem wc{f fw fb fi fp fv fs fc fg fk fd' fq fn fa C:Addr}{fd gw gb gi gp gv gs gc gg gk gd gq gn ga:FuncData}(F:iJ K "put_items" "put_items" nZ f fd)(T:qT mg)(Z:ExcAt K mg C)
  (bX:aF K mg "windows" dX mF fw gw) (iU:aF K mg "below" kg j4 fb gb) (cD:aF K mg "item_row" fy wJ fi gi) (iG:aF K mg "plain" lT gJ fp gp) (dz:aF K mg "views_below" dU j4 fv gv) (iN:aF K mg "size" ssize gJ fs gs) (cO:aF K mg "check_places" iy rR fc gc)
  (jy:aF K mg "goes_on" kR Ed fg gg) (cR:aF K mg "plain_items" gR mF fk gk) (oK:aF K mg "dealt" qL CO fd' gd) (jh:aF K mg "pieces" nB rR fq gq) (iV:aF K mg "inked" qK gJ fn gn) (qX:aF K mg "put_among" lU Kc fa ga):aH P w K mg base (iM P w) 4 f fd Kd (oM C):=by
 have jT:aH P w K mg base (iM P w) 2 _ _ rR (vQ C):=m8 cO.F T Z iN
 have ly:aH P w K mg base cK 3 _ _ j4 vX:=oE dz.F T bX iU cD iG
 have jG:aH P w K mg base cK 2 _ _ mF lz:=oF cR.F T jy
 have Hh:aH P w K mg base cK 3 _ _ Kc uY:=Dt qX.F T cD iN iG jh jy cR oK iV
 refine yX F yp (fun vs H Q E h=>?_) (fun cdv A outer s0 H vs Q E hr h=>?_)
 ·obtain⟨r,o,rows,s,p,its,sh,rfl,_⟩:=h
  rfl
 obtain⟨r,o,rows,s,p,its,sh,rfl,R,h0,h1,hO,ok,ol,fp,k1,k2⟩:=h
 have hu:=qh hr
 refine⟨_,(ao (aY (i:=4) yp.nd rfl (Or.inl rfl) (aS dz ly hr (af (pv 0) (af (bW (af (pv 1) aj)) aj))))
   (ao (bq (qP cO jT hr fQ (af (pD hu (pv 4) (pv 1) (fun _ _=>rfl)) (af (pv 2) (af (pv 2) aj)))))
   (ao (cC (j7 (mK (pv 3) (fun _=>rfl)))
   (au (aP (aS cR jG hr (af (bN bM (pv 0) (pv 1) (fun _ _=>rfl)) aj))))
   bF)
   (au (aP (aS qX Hh hr (af (bN bM (pv 0) (pv 1) (fun _ _=>rfl)) (af (pv 4) (af (pv 2) (af (pv 3) aj)))))))))),?_⟩
 refine⟨_,rfl,_,rfl,(by show 1≤sizeLine;decide),fun L hL=>?_⟩
 have s1:aJ H (upd H L (.lst [.int s])):=ak hL _
 refine⟨r,L,rows,[s],sh,rfl,R.at_.same s1,ah,by simp,R.len,R.ents,R.snd,R.rk,(fun x hx=>by rw[List.mem_singleton.mp hx];exact⟨h0,h1⟩),R.SK,R.bd,fun S kvs ks H2 hS hv tp sk hn s2 hS0=>?_⟩
 have S0:=sk s (by simp)
 obtain⟨a,ha,Ra⟩:=hv s S0
 have z:=ua.k (k:=Sum.inl s) hS
 rw[ha]at z
 have s12:=s1.trans s2
 have shl:=R.bd s h0 h1
 have rol:=tO (sh s)
 obtain⟨es,GZ,b,O⟩:=(R.same s12).one h0 h1
 refine⟨_,rfl,_,rfl,S,_,rfl,z,_,rfl,_,rfl,a,rowOf (sh s),p,p,rfl,Ra,by omega,fp,fp,(by rw[O.tt];exact qe.small (by omega) (by omega)),fun hin H3 s3=>?_,fun hin H3 s3=>?_⟩
 ·have hp:0≤p∧p≤(sh s).length:=⟨hin.1,by rw[← O.tt];exact hin.2.2⟩
  obtain⟨es',acX,b',O3⟩:=(R.same (s12.trans s3)).one h0 h1
  have ee:es=es':=rN (O.he.symm.trans O3.he)
  subst ee
  have hO3:=hO.same (s12.trans s3)
  obtain⟨o',Ux,eo,ho,to⟩:=id hO3
  cases eo
  refine⟨_,rfl,!Ux.isEmpty,.inl ⟨_,b8.of ho,rfl⟩,?_⟩
  have el:=to.len
  cases its with
  | nil =>
   have:Ux=[]:=List.eq_nil_of_length_eq_zero (by simpa using el)
   subst this
   refine iR ?_
   refine⟨_,rfl,_,rfl,r,_,_,_,rfl,rfl,b8.of O3.hr,O3.ix,b',itemsOf es,rfl,O3.it,lO O3.il (by decide),fun q H4 I4 s4 hq=>?_⟩
   refine k1 hp es q H4 O.he ?_ (s12.trans (s3.trans s4)) (bK (s12.trans s3) hq)
   obtain⟨e1,e2⟩:=qV es
   rw[pH _ e2,e1]at I4
   exact I4
  | cons it r0 =>
   have:(!Ux.isEmpty)=true:=by
    cases Ux with
    | nil=>simp at el
    | cons _ _=>rfl
   rw[this]
   refine eU ?_
   refine⟨_,rfl,_,rfl,r,_,_,_,rfl,rfl,b8.of O3.hr,O3.ix,_,rfl,_,rfl,_,rfl,b',S,o,p,itemsOf es,it::r0,kvs,sh,rfl,O3.it,s3 _ _ hS,fun n hn=>?_,hO3,(qV es).2,ok,fun n hn=>?_,lO O3.il (by decide),lO O3.rl (by decide),lO ol (by decide),fun q H4 I4 s4 hq=>?_⟩
   ·have nx:=zg h0 O.he hn
    obtain⟨i,hi⟩:=List.getElem?_of_mem S0
    obtain⟨a2,e2,R2⟩:=hv n (List.mem_of_mem_take (tp.dn i s hi n nx))
    exact⟨a2,e2,R2.same s3⟩
   ·have nx:=zg h0 O.he hn
    obtain⟨n0,n1⟩:=R.snd.Oe nx
    exact Fo R.snd R.rk R.SK n n0 n1
   ·refine k1 hp es q H4 O.he ?_ (s12.trans (s3.trans s4)) (bK (s12.trans s3) hq)
    rw[(qV es).1]at I4
    unfold sH
    rw[if_neg (fun z=>by cases (LI ok).mp z)]
    exact I4
 ·exact k2 (fun hp=>hin ⟨hp.1,Int.le_refl _,by rw[O.tt];exact hp.2⟩) H3 (s12.trans s3)
def kD(a b:Int)(d:qu):List Item:=if d.2.2.2≤a∨b≤d.2.2.1 then [d.1] else if a≤d.2.2.1∧d.2.2.2≤b then [] else eN (cF (o7 0 (a-d.2.2.1) 0 d.2.1++o7 (b-d.2.2.1) (d.2.2.2-d.2.2.1) 0 d.2.1))
def tD(a b:Int)(d:qu):List Item:=if d.2.2.2≤a∨b≤d.2.2.1 then [] else if a≤d.2.2.1∧d.2.2.2≤b then [d.1] else eN (cF (o7 (a-d.2.2.1) (b-d.2.2.1) 0 d.2.1))
def Uy(sh:Int→List Int)(a b f e:Int):List Int:=if f+(lu sh e).length≤a∨b≤f then [e] else if a≤f∧f+(lu sh e).length≤b then [] else (lu sh e).take (a-f).toNat++(lu sh e).drop (b-f).toNat
def kE(sh:Int→List Int)(a b:Int):Int→List Int→List Int
 | _,[]=>[]
 | f,e::r=>Uy sh a b f e++kE sh a b (f+(lu sh e).length) r
theorem Cv(sh:Int→List Int)(a b:Int)(y:List Int):∀ (x:List Int) (f:Int),kE sh a b f (x++y)=kE sh a b f x++kE sh a b (f+(cH sh x).length) y
 | [],f=>by simp[kE,cH]
 | e::x,f=>by
  rw[List.cons_append,kE,kE,Cv sh a b y x,oZ,gf,eT,Int.add_assoc]
  push_cast
  rfl
theorem tnS{a f:Int}(h:f<a):(a-f).toNat=(a-(f+1)).toNat+1:=by omega
theorem Ql{a f:Int}(h:a≤f):(a-f).toNat=0:=Int.toNat_of_nonpos (Int.sub_nonpos_of_le h)
theorem tn1{a f:Int}(h:a≤f):(a-(f+1)).toNat=0:=Ql (Int.le_trans h (Int.le_of_lt (Int.lt_succ f)))
theorem nS{a f:Int}(h:¬ f+1≤a):a≤f:=Int.not_lt.mp h
theorem LJ(sh:Int→List Int){a b:Int}(ab:a<b):∀ (n:Nat) (x f:Int),0≤x→kE sh a b f (run x n)=(run x n).take (a-f).toNat++(run x n).drop (b-f).toNat
 | 0,_,_,_=>by simp[run,kE]
 | n+1,x,f,h=>by
  rw[run,kE,LJ sh ab n (x+1) _ (by omega)]
  unfold Uy
  rw[v7 sh h]
  show (if f+1≤a∨b≤f then [x] else if a≤f∧f+1≤b then [] else _)++((run (x+1) n).take (a-(f+1)).toNat++(run (x+1) n).drop (b-(f+1)).toNat)=_
  by_cases c1:f+1≤a
  ·rw[if_pos (.inl c1),tnS c1,tnS (Int.lt_trans c1 ab)]
   rfl
  ·by_cases c2:b≤f
   ·rw[if_pos (.inr c2),Ql (nS c1),Ql c2,tn1 (nS c1),tn1 c2]
    rfl
   ·rw[if_neg (fun z=>z.elim c1 c2),if_pos ⟨nS c1,Int.not_le.mp c2⟩,Ql (nS c1),tnS (Int.not_le.mp c2),tn1 (nS c1)]
    rfl
theorem JR{a b t:Int}{r:Row}(ok:∀ p∈r,p.1≤p.2)(h:(bT r).length≤t.toNat):bT (cF (o7 0 a 0 r++o7 b t 0 r))=(bT r).take a.toNat++(bT r).drop b.toNat:=by
 rw[sD _ (PR (C5 _ _ _ _) (C5 _ _ _ _)),di,tE _ _ _ _ ok,tE _ _ _ _ ok]
 show ((bT r).take (a-0).toNat).drop 0++((bT r).take (t-0).toNat).drop (b-0).toNat=_
 rw[Int.sub_zero,Int.sub_zero,Int.sub_zero,yu h]
 rfl
theorem S6(sh:Int→List Int){a b:Int}(ab:a<b)(f:Int)(it:Item)(h:pG it):dP (kD a b (it,dQ sh it,f,f+tot (dQ sh it)))=kE sh a b f (iO it):=by
 have tt:=qw sh it h
 have sp:dP (eN (cF (o7 0 (a-f) 0 (dQ sh it)++o7 (b-f) (f+tot (dQ sh it)-f) 0 (dQ sh it))))=(cH sh (iO it)).take (a-f).toNat++(cH sh (iO it)).drop (b-f).toNat:=by
  rw[vZ,JR (zf sh it h) (by rw[oJ sh it h,tt];omega),oJ sh it h]
 unfold kD
 show dP (if f+tot (dQ sh it)≤a∨b≤f then [it] else if a≤f∧f+tot (dQ sh it)≤b then [] else eN (cF (o7 0 (a-f) 0 (dQ sh it)++o7 (b-f) (f+tot (dQ sh it)-f) 0 (dQ sh it))))=_
 have c1:(f+tot (dQ sh it)≤a∨b≤f)=(f+(cH sh (iO it)).length≤a∨b≤f):=by rw[tt]
 have c2:(a≤f∧f+tot (dQ sh it)≤b)=(a≤f∧f+(cH sh (iO it)).length≤b):=by rw[tt]
 simp only[c1,c2]
 cases it with
 | win n =>
  have e1:cH sh (iO (.win n))=lu sh (-1-n):=by show cH sh [-1-n]=_;rw[gf];simp[cH]
  rw[e1]at sp ⊢
  show _=kE sh a b f [-1-n]
  rw[kE,kE,j6]
  unfold Uy
  split
  ·rfl
  ·split
   ·rfl
   ·exact sp
 | aR x y =>
  have e1:cH sh (iO (.aR x y))=run x (y-x).toNat:=qv sh _ _ h.1
  rw[e1]at sp ⊢
  show _=kE sh a b f (run x (y-x).toNat)
  rw[LJ sh ab _ _ _ h.1]
  have rl:=n9 x (y-x).toNat
  split
  ·rename_i c
   rw[oG]
   rcases c with c|c
   ·rw[yu (by omega),List.drop_of_length_le (by omega),j6]
    rfl
   ·rw[Ql (Int.le_trans (Int.le_of_lt ab) c),Ql c]
    rfl
  ·split
   ·rename_i c
    rw[Ql c.1,List.drop_of_length_le (by omega)]
    rfl
   ·exact sp
theorem Iz(sh:Int→List Int){a b:Int}(ab:a<b):∀ (its:List Item) (f:Int),iK its→dP ((bO sh f its).flatMap (kD a b))=kE sh a b f (dP its)
 | [],f,_=>rfl
 | it::r,f,h=>by
  have h1:=h it (by simp)
  rw[bO,mH,gX,S6 sh ab f it h1,Iz sh ab r _ fun i hi=>h i (tY _ hi)]
  have e:dP (it::r)=iO it++dP r:=by unfold dP;rw[mH]
  rw[e,Cv,qw sh it h1]
theorem S7{a b:Int}{d:qu}(h:pG d.1)(g:rE d.2.1):iK (kD a b d):=by
 unfold kD
 split
 ·exact iK.one h
 ·split
  ·exact fun i hi=>by cases hi
  ·exact Ah (xx fun p hp=>(List.mem_append.mp hp).elim (De _ _ _ _ g p) (De _ _ _ _ g p))
theorem LK(a b:Int)(d:qu):(kD a b d).length≤d.2.1.length+d.2.1.length+1:=by
 unfold kD
 split
 ·simp
 ·split
  ·simp
  ·rw[Ir]
   refine lO (tF _) ?_
   rw[eT]
   have:=pV 0 (a-d.2.2.1) d.2.1 0
   have:=pV (b-d.2.2.1) (d.2.2.2-d.2.2.1) d.2.1 0
   omega
theorem Qm(a b:Int)(d:qu):(tD a b d).length≤d.2.1.length+d.2.1.length+1:=by
 unfold tD
 split
 ·simp
 ·split
  ·simp
  ·exact lO (xC _ _ _) (by omega)
theorem tQ(sh:Int→List Int){g:qu→List Item}(hg:∀ d,(g d).length≤d.2.1.length+d.2.1.length+1):∀ (its:List Item) (f:Int),((bO sh f its).flatMap g).length≤(aZ sh its).length+(aZ sh its).length+its.length
 | [],_=>by simp[bO]
 | it::r,f=>by
  rw[bO,mH,eT]
  have a:=hg (it,dQ sh it,f,f+tot (dQ sh it))
  have b:=tQ sh hg r (f+tot (dQ sh it))
  have e:aZ sh (it::r)=dQ sh it++aZ sh r:=by unfold aZ;rw[mH];rfl
  rw[e,eT,pP]
  simp only at a
  omega
theorem Fq(sh:Int→List Int)(it:Item)(row:Row)(fi la:Int):∀ (its:List Item) (f:Int),(it,row,fi,la)∈bO sh f its→∃ it'∈its,row=dQ sh it'
 | [],_,h=>by cases h
 | i0::r0,f,h=>by
  rw[bO]at h
  rcases List.mem_cons.mp h with e|e
  ·cases e;exact⟨it,by simp,rfl⟩
  ·obtain⟨i1,m1,e1⟩:=Fq sh it row fi la r0 _ e
   exact⟨i1,tY _ m1,e1⟩
theorem Cw{H:Hp}{A:Addr}{l:List Item}{vs:List V}(h:H A=some (.lst vs))(t:cu (cB H) vs l):aW H (.ref A) l:=⟨A,vs,rfl,h,t⟩
def u7(sh:Int→List Int)(a b:Int)(es:List Int):List Int:=if a=b then es else kE sh a b 0 es
inductive Aj(vs:List V)(H:Hp)(Q:VK)(E:XK):Prop
 | mk (r S:Addr) (a b:Int) (its:List Item) (kvs:List (Key × V)) (sh:Int→List Int) (_:vs=[.ref r,.ref S,.int a,.int b]) (_:aW H (.ref r) its) (_:H S=some (.dK kvs)) (_:xB H kvs sh its) (_:its.length≤10000) (_:(aZ sh its).length≤20000) (_ :
 ∀ (t L M:Addr) (H':Hp),H' t=some (.tup [.ref L,.ref M])→aW H' (.ref L) ((bO sh 0 its).flatMap (kD a b))→aW H' (.ref M) ((bO sh 0 its).flatMap (tD a b))→aJ H H'→Q (.ref t) H'):Aj vs H Q E
theorem lA:aL ["items","views","start","stop","left","taken","item","row","first","last"] ["items","views","start","stop"] (az qM):=⟨rfl,rfl,rfl,by decide +kernel,rfl,by decide +kernel,by decide +kernel⟩
theorem JS{f fI fZ fP fS fD fN:Addr}{fd ze Q0 Lz Om SQ SR:FuncData}(F:iJ K "parted" "parted" qM f fd)(T:qT mg)(cD:aF K mg "item_row" fy wJ fI ze)(iN:aF K mg "size" ssize gJ fZ Q0)(iG:aF K mg "plain" lT gJ fP Lz)(jh:aF K mg "pieces" nB rR fS Om)(oK:aF K mg "dealt" qL CO fD SQ)(iV:aF K mg "inked" qK gJ fN SR):aH P w K mg base cK 3 f fd IS Aj:=by
 have Hg:aH P w K mg base cK 2 fD SQ CO zj:=Fp oK.F T cD iN
 have tP:aH P w K mg base cK 1 fS Om rR vR:=Cn jh.F T
 have uZ:aH P w K mg base cK 2 fN SR gJ vY:=Ag iV.F T iG
 refine F.ok lA (fun vs H Q E h=>?_) (fun cdv A outer s H vs Q E hr h=>?_)
 ·obtain⟨r,S,a,b,its,kvs,sh,rfl,_⟩:=h
  rfl
 obtain⟨r,S,p,q,its,kvs,sh,rfl,hI,hS,hW,l1,l2,k⟩:=h
 refine⟨_,(ao (aY (i:=4) lA.nd rfl (Or.inl rfl) (bW aj))
   (ao (aY (i:=5) lA.nd rfl (Or.inl rfl) (bW aj))
   (ao (jI PassesOwn.never rfl (eK (aS oK Hg hr (af (pv 0) (af (pv 1) aj)))) (pQ (n:=4) rfl (bR (br (i:=6) lA.nd rfl (Or.inl rfl)) (bR (br (i:=7) lA.nd rfl (Or.inl rfl)) (bR (br (i:=8) lA.nd rfl (Or.inl rfl)) (bR (br (i:=9) lA.nd rfl (Or.inl rfl)) jX)))))
   (au (cC (PW.pt (El (bP lQ (pv 9) (pv 2) (bU _)) (zx (bP lQ (pv 3) (pv 8) (bU _)))))
   (au (bq (nu uJ wL wM dF (pv 4) (af (pv 6) aj))))
   (au (cC (PW.pt (zy (bP lQ (pv 2) (pv 8) (bU _)) (yT (bP lQ (pv 9) (pv 3) (bU _)))))
   (au (bq (nu uJ wL wM dF (pv 5) (af (pv 6) aj))))
   (ao (wU (i:=4) lA.nd rfl (Or.inl rfl) (aS iV uZ hr (af (bw pT (aS jh tP hr (af (pv 7) (af aC (af (bw iu (pv 2) (pv 8)) aj)))) (aS jh tP hr (af (pv 7) (af (bw iu (pv 3) (pv 8)) (af (bw iu (pv 9) (pv 8)) aj))))) aj)) xu)
   (au (wU (i:=5) lA.nd rfl (Or.inl rfl) (aS iV uZ hr (af (aS jh tP hr (af (pv 7) (af (bw iu (pv 2) (pv 8)) (af (bw iu (pv 3) (pv 8)) aj)))) aj)) xu))))))))
   (au (aP (fF (af (pv 4) (af (pv 5) aj)))))))),?_⟩
 refine⟨(by show 0≤sizeLine;decide),fun A hA=>⟨(by show 0≤sizeLine;decide),fun B hB=>?_⟩⟩
 have sA:aJ H (upd H A (.lst [])):=ak hA _
 have sB:aJ _ (upd (upd H A (.lst [])) B (.lst [])):=ak hB _
 have s0:=sA.trans sB
 have LH:A≠B:=ay ah hB
 have SS:=bK sA hB
 refine⟨_,rfl,_,rfl,r,S,its,kvs,sh,fun a=>a≠A∧a≠B,rfl,hI.same s0,s0 _ _ hS,hW.same s0,by omega,(fun it hi=>by have:=v8 sh hi;omega),?_,?_,fun D dv H1 hD hdl s1 _=>?_⟩
 ·intro n a hn hv
  obtain⟨b,e,as,hb,_⟩:=hW n hn
  rw[hv]at e
  cases e
  exact⟨ay hb hA,ay hb SS⟩
 ·intro a ha
  exact⟨(ay (sB _ _ ah) ha).symm,(ay ah ha).symm⟩
 have SV:=s1 _ _ (sB _ _ (ah (H:=H) (a:=A) (o:=.lst [])))
 have SX:=s1 _ _ (ah (H:=upd H A (.lst [])) (a:=B) (o:=.lst []))
 have nD:D≠A∧D≠B:=by
  rename_i SY
  exact⟨(ay (sB _ _ ah) SY).symm,(ay ah SY).symm⟩
 have acO:=tQ sh (LK p q) its 0
 have acP:=tQ sh (Qm p q) its 0
 refine⟨D,rfl,⟨_,b8.of hD⟩,jM (K:=K) (a:=D) (xs:=dv) (fun i σ H2=>∃ u1 u2 u3 u4:Option V,σ=[some (.ref r),some (.ref S),some (.int p),some (.int q),some (.ref A),some (.ref B),u1,u2,u3,u4]∧ny H1 A B (((bO sh 0 its).take i).flatMap (kD p q)) (((bO sh 0 its).take i).flatMap (tD p q)) H2)
  ⟨none,none,none,none,rfl,⟨_,SV,.nil⟩,⟨_,SX,.nil⟩,fun _ _ e _ _=>e⟩ (fun i σ H2 _ ⟨_,_,_,_,_,pv⟩=>b8.of (pv.k _ _ hD nD.1 nD.2)) ?_ ?_⟩
 ·rintro i x σ H2 hi ⟨u1,u2,u3,u4,rfl,pv⟩
  obtain⟨d,ed,hd1⟩:=hdl.get hi
  have hd2:=hd1.Oz SV SX (fun a h=>h) pv.k
  obtain⟨a,ra,xi,rfl,hta,hxi,Q2,nra⟩:=hd2
  have eA:=tN (kD p q) ed
  have eB:=tN (tD p q) ed
  have bA:=kJ (kD p q) (bO sh 0 its) i
  have bB:=kJ (tD p q) (bO sh 0 its) i
  have bA1:=kJ (kD p q) (bO sh 0 its) (i+1)
  have bB1:=kJ (tD p q) (bO sh 0 its) (i+1)
  obtain⟨v1,hv1,t1⟩:=pv.a
  obtain⟨v2,hv2,t2⟩:=pv.b
  have z1:=t1.len
  have z2:=t2.len
  obtain⟨it,row,fi,la⟩:=d
  have rl:row.length≤20000:=by
   obtain⟨i1,m1,rfl⟩:=Fq sh it row fi la its 0 (nQ ed)
   have:=v8 sh m1
   omega
  have mV:v1.length<sizeLine:=aV (by omega)
  have LL:(la≤p∨q≤fi)→ny H1 A B (((bO sh 0 its).take (i+1)).flatMap (kD p q)) (((bO sh 0 its).take (i+1)).flatMap (tD p q)) (upd H2 A (.lst (v1++[xi]))):=fun c=>by
   rw[eA,eB]
   have e1:kD p q (it,row,fi,la)=[it]:=by unfold kD;rw[if_pos c]
   have e2:tD p q (it,row,fi,la)=[]:=by unfold tD;rw[if_pos c]
   rw[e1,e2,j6]
   exact pv.Iv LH hv1 (.cons hxi .nil)
  refine⟨a,_,rfl,jL.of hta,rfl,_,_,rfl,_,_,rfl,_,_,rfl,_,_,rfl,rfl,?_⟩
  refine⟨_,rfl,_,rfl,_,_,rfl,rfl,_,rfl,gP (fun c=>iR ?_) (fun c=>?_)⟩
  ·exact⟨_,rfl,.inl ⟨rfl,_,b8.of hv1⟩,_,rfl,A,_,_,rfl,rfl,hv1,mV,_,_,_,_,rfl,LL (.inl (of_decide_eq_true c))⟩
  have c':¬ la≤p:=fun z=>c (decide_eq_true z)
  refine⟨_,rfl,_,rfl,_,_,rfl,rfl,_,rfl,gP (fun c2=>?_) (fun c2=>?_)⟩
  ·exact⟨_,rfl,.inl ⟨rfl,_,b8.of hv1⟩,_,rfl,A,_,_,rfl,rfl,hv1,mV,_,_,_,_,rfl,LL (.inr (of_decide_eq_true c2))⟩
  have Qk:¬ q≤fi:=fun z=>c2 (decide_eq_true z)
  have n1:¬ (la≤p∨q≤fi):=fun z=>z.elim c' Qk
  have part:¬ (p≤fi∧la≤q)→ny H1 A B (((bO sh 0 its).take i).flatMap (kD p q)) (((bO sh 0 its).take i).flatMap (tD p q)) H2→kD p q (it,row,fi,la)=eN (cF (o7 0 (p-fi) 0 row++o7 (q-fi) (la-fi) 0 row))∧tD p q (it,row,fi,la)=eN (cF (o7 (p-fi) (q-fi) 0 row)):=fun c3 _=>by
   refine⟨?_,?_⟩
   ·unfold kD;rw[if_neg n1,if_neg c3]
   ·unfold tD;rw[if_neg n1,if_neg c3]
  have go:¬ (p≤fi∧la≤q)→∀ (q1 q2:Addr) (v3:List V) (H4:Hp),H4 q2=some (.lst v3)→cu (cB H4) v3 (eN (cF (o7 0 (p-fi) 0 row++o7 (q-fi) (la-fi) 0 row)))→aJ H2 H4→v1.length+v3.length≤sizeLine∧ny H1 A B (((bO sh 0 its).take (i+1)).flatMap (kD p q)) (((bO sh 0 its).take i).flatMap (tD p q)) (upd H4 A (.lst (v1++v3)))∧cL (upd H4 A (.lst (v1++v3))) ra row∧(upd H4 A (.lst (v1++v3))) B=some (.lst v2):=fun c3 q1 q2 v3 H4 h3 t3 s4=>by
   obtain⟨e1,e2⟩:=part c3 pv
   have z3:=t3.len
   rw[eA,e1,eT]at bA1
   have JQ:=s4 _ _ hv1
   refine⟨Nat.le_of_lt (aV (by omega)),?_,(Q2.same s4).keep JQ nra.1 (aN A _ _),by rw[aM LH.symm];exact s4 _ _ hv2⟩
   rw[eA,e1]
   exact (pv.same s4).Iv LH JQ t3
  have go2:¬ (p≤fi∧la≤q)→∀ (v4:List V) (H5 H7:Hp),ny H1 A B (((bO sh 0 its).take (i+1)).flatMap (kD p q)) (((bO sh 0 its).take i).flatMap (tD p q)) H5→H5 B=some (.lst v2)→cu (cB H7) v4 (eN (cF (o7 (p-fi) (q-fi) 0 row)))→aJ H5 H7→v2.length+v4.length≤sizeLine∧ny H1 A B (((bO sh 0 its).take (i+1)).flatMap (kD p q)) (((bO sh 0 its).take (i+1)).flatMap (tD p q)) (upd H7 B (.lst (v2++v4))):=fun c3 v4 H5 H7 pv5 h5 t4 s7=>by
   obtain⟨e1,e2⟩:=part c3 pv
   have z4:=t4.len
   rw[eB,e2,eT]at bB1
   refine⟨Nat.le_of_lt (aV (by omega)),?_⟩
   rw[eB,e2]
   exact (pv5.same s7).Iw LH (s7 _ _ h5) t4
  have pl1:=pV 0 (p-fi) row 0
  have pl2:=pV (q-fi) (la-fi) row 0
  have pl3:=pV (p-fi) (q-fi) row 0
  refine⟨_,rfl,_,rfl,_,_,rfl,rfl,_,rfl,PZ (fun z=>⟨_,rfl,_,rfl,_,_,rfl,rfl,_,rfl,z⟩) (fun c5=>?_) (fun c5=>?_)⟩
  ·refine⟨_,rfl,.inl ⟨rfl,_,b8.of hv2⟩,_,rfl,B,_,_,rfl,rfl,hv2,aV (by omega),_,_,_,_,rfl,?_⟩
   rw[eA,eB]
   have e1:kD p q (it,row,fi,la)=[]:=by unfold kD;rw[if_neg n1,if_pos c5]
   have e2:tD p q (it,row,fi,la)=[it]:=by unfold tD;rw[if_neg n1,if_pos c5]
   rw[e1,e2,j6]
   exact pv.Iw LH hv2 (.cons hxi .nil)
  ·refine⟨_,rfl,_,rfl,_,rfl,_,rfl,_,_,rfl,rfl,ra,row,0,p-fi,rfl,Q2,by omega,fun q1 H3 R3 s3 hq1=>?_⟩
   obtain⟨as3,ha3,pa3⟩:=id R3
   have n3:=pa3.len
   refine⟨_,rfl,_,rfl,_,rfl,_,_,rfl,rfl,_,rfl,_,rfl,_,_,rfl,rfl,ra,row,q-fi,la-fi,rfl,Q2.same s3,by omega,fun q2 H4 R4 s4 hq2=>?_⟩
   obtain⟨as4,ha4,pa4⟩:=id R4
   have n4:=pa4.len
   refine⟨q1,q2,_,_,rfl,rfl,s4 _ _ ha3,ha4,(by rw[dW,dW];exact mJ (aV (by omega))),fun m hm=>?_⟩
   have s5:aJ H4 (upd H4 m (.lst (as3.map V.ref++as4.map V.ref))):=ak hm _
   refine⟨m,o7 0 (p-fi) 0 row++o7 (q-fi) (la-fi) 0 row,rfl,⟨as3++as4,by rw[ah,qd],bu.append ((pa3.same s4).same s5) (pa4.same s5)⟩,by rw[eT];omega,fun q3 H6 I6 s6 Ol=>?_⟩
   obtain⟨q3',v3,e3,h3,t3⟩:=I6
   cases e3
   have s26:=s3.trans (s4.trans (s5.trans s6))
   obtain⟨g1,g2,g3,g4⟩:=go c5 q1 q3 v3 H6 h3 t3 s26
   refine⟨A,q3,_,_,rfl,rfl,s26 _ _ hv1,h3,g1,?_⟩
   refine⟨_,rfl,_,rfl,_,rfl,_,rfl,_,_,rfl,rfl,_,rfl,_,rfl,_,_,rfl,rfl,ra,row,p-fi,q-fi,rfl,g3,by omega,fun q4 H7 R7 s7 SN=>⟨q4,_,rfl,R7,by omega,fun q5 H8 I8 s8 SO=>?_⟩⟩
   obtain⟨q5',v4,e4,h4,t4⟩:=I8
   cases e4
   obtain⟨f1,f2⟩:=go2 c5 v4 _ H8 g2 g4 t4 (s7.trans s8)
   exact⟨B,q5,_,_,rfl,rfl,(s7.trans s8) _ _ g4,h4,f1,_,_,_,_,rfl,f2⟩
 ·rintro σ H2 ⟨u1,u2,u3,u4,rfl,pv⟩
  have dl:=hdl.len
  rw[dl,mZ]at pv
  obtain⟨v1,hv1,t1⟩:=pv.a
  obtain⟨v2,hv2,t2⟩:=pv.b
  have sm:aJ H H2:=fun a ob e=>pv.k a ob (s1 _ _ (s0 _ _ e)) (ay e hA) (ay e SS)
  refine⟨_,rfl,_,rfl,(by show 2≤sizeLine;decide),fun t ht=>k t A B _ ah ?_ ?_ (sm.trans (ak ht _))⟩
  ·exact (Cw hv1 t1).same (ak ht _)
  ·exact (Cw hv2 t2).same (ak ht _)
inductive vc(C:Addr)(vs:List V)(H:Hp)(Q:VK)(E:XK):Prop
 | mk (r:Addr) (rows:gj) (s a b:Int) (sh:Int→List Int) (_:vs=[.ref r,.int s,.int a,.int b]) (_:uX H r rows sh) (_:0≤s) (_:s<rows.length) (_:qe a) (_:qe b) (_:(Lc a b (sh s).length→∀ (es:List Int) (q:Addr) (H':Hp),rows[s.toNat]?=some es→aW H' (.ref q) (itemsOf (u7 sh a b es))→aJ H H'→H q=none→Q (.ref q) H')) (_:(¬ Lc a b (sh s).length→∀ H',aJ H H'→E (.ref C) none H')):vc C vs H Q E
theorem yq:aL ["rows","sheet","start","stop","views"] ["rows","sheet","start","stop"] (az lV):=⟨rfl,rfl,rfl,by decide +kernel,rfl,by decide +kernel,by decide +kernel⟩
theorem Du{f fw fb fi fp fv fs fc fg fk fd' fq fn fa C:Addr}{fd gw gb gi gp gv gs gc gg gk gd gq gn ga:FuncData}(F:iJ K "cut_items" "cut_items" lV f fd)(T:qT mg)(Z:ExcAt K mg C)
  (bX:aF K mg "windows" dX mF fw gw) (iU:aF K mg "below" kg j4 fb gb) (cD:aF K mg "item_row" fy wJ fi gi) (iG:aF K mg "plain" lT gJ fp gp) (dz:aF K mg "views_below" dU j4 fv gv) (iN:aF K mg "size" ssize gJ fs gs) (cO:aF K mg "check_places" iy rR fc gc)
  (jy:aF K mg "goes_on" kR Ed fg gg) (cR:aF K mg "plain_items" gR mF fk gk) (oK:aF K mg "dealt" qL CO fd' gd) (jh:aF K mg "pieces" nB rR fq gq) (iV:aF K mg "inked" qK gJ fn gn) (pI:aF K mg "parted" qM IS fa ga):aH P w K mg base (iM P w) 4 f fd Ke (vc C):=by
 have jT:aH P w K mg base (iM P w) 2 _ _ rR (vQ C):=m8 cO.F T Z iN
 have ly:aH P w K mg base cK 3 _ _ j4 vX:=oE dz.F T bX iU cD iG
 have jG:aH P w K mg base cK 2 _ _ mF lz:=oF cR.F T jy
 have Nn:aH P w K mg base cK 3 _ _ IS Aj:=JS pI.F T cD iN iG jh oK iV
 refine yX F yq (fun vs H Q E h=>?_) (fun cdv A outer s0 H vs Q E hr h=>?_)
 ·obtain⟨r,rows,s,p,q,sh,rfl,_⟩:=h
  rfl
 obtain⟨r,rows,s,p,q,sh,rfl,R,h0,h1,fp,fq,k1,k2⟩:=h
 have hu:=qh hr
 refine⟨_,(ao (aY (i:=4) yq.nd rfl (Or.inl rfl) (aS dz ly hr (af (pv 0) (af (bW (af (pv 1) aj)) aj))))
   (ao (bq (qP cO jT hr fQ (af (pD hu (pv 4) (pv 1) (fun _ _=>rfl)) (af (pv 2) (af (pv 3) aj)))))
   (ao (cC (bP kQ (pv 2) (pv 3) (bU _))
   (au (aP (aS cR jG hr (af (bN bM (pv 0) (pv 1) (fun _ _=>rfl)) aj))))
   bF)
   (au (aP (aS cR jG hr (af (bN gA (aS pI Nn hr (af (bN bM (pv 0) (pv 1) (fun _ _=>rfl)) (af (pv 4) (af (pv 2) (af (pv 3) aj))))) aC (fun _ _=>rfl)) aj))))))),?_⟩
 refine⟨_,rfl,_,rfl,(by show 1≤sizeLine;decide),fun L hL=>?_⟩
 have s1:aJ H (upd H L (.lst [.int s])):=ak hL _
 refine⟨r,L,rows,[s],sh,rfl,R.at_.same s1,ah,by simp,R.len,R.ents,R.snd,R.rk,(fun x hx=>by rw[List.mem_singleton.mp hx];exact⟨h0,h1⟩),R.SK,R.bd,fun S kvs ks H2 hS hv tp sk hn s2 hS0=>?_⟩
 have S0:=sk s (by simp)
 obtain⟨a,ha,Ra⟩:=hv s S0
 have z:=ua.k (k:=Sum.inl s) hS
 rw[ha]at z
 have s12:=s1.trans s2
 have shl:=R.bd s h0 h1
 have rol:=tO (sh s)
 obtain⟨es,GZ,b,O⟩:=(R.same s12).one h0 h1
 refine⟨_,rfl,_,rfl,S,_,rfl,z,_,rfl,_,rfl,a,rowOf (sh s),p,q,rfl,Ra,by omega,fp,fq,(by rw[O.tt];exact qe.small (by omega) (by omega)),fun hin H3 s3=>?_,fun hin H3 s3=>?_⟩
 ·have hp:Lc p q (sh s).length:=⟨hin.1,hin.2.1,by rw[← O.tt];exact hin.2.2⟩
  obtain⟨es',acX,b',O3⟩:=(R.same (s12.trans s3)).one h0 h1
  have ee:es=es':=rN (O.he.symm.trans O3.he)
  subst ee
  obtain⟨e1,e2⟩:=qV es
  refine⟨_,rfl,_,rfl,rfl,_,rfl,gP (fun c=>?_) (fun c=>?_)⟩
  ·have c':p=q:=V.int.inj (of_decide_eq_true c)
   refine⟨_,rfl,_,rfl,r,_,_,_,rfl,rfl,b8.of O3.hr,O3.ix,b',itemsOf es,rfl,O3.it,lO O3.il (by decide),fun o H4 I4 s4 ho=>?_⟩
   refine k1 hp es o H4 O.he ?_ (s12.trans (s3.trans s4)) (bK (s12.trans s3) ho)
   rw[pH _ e2,e1]at I4
   unfold u7
   rw[if_pos c']
   exact I4
  ·have c':¬ p=q:=fun z=>c (by rw[z];exact decide_eq_true rfl)
   have pq:p<q:=by have:=hp.2.1;omega
   refine⟨_,rfl,_,rfl,r,_,_,_,rfl,rfl,b8.of O3.hr,O3.ix,_,rfl,_,rfl,_,rfl,b',S,p,q,itemsOf es,kvs,sh,rfl,O3.it,s3 _ _ hS,fun n hn=>?_,lO O3.il (by decide),lO O3.rl (by decide),fun t L M H4 ht hL4 hM4 s4=>?_⟩
   ·have nx:=zg h0 O.he hn
    obtain⟨i,hi⟩:=List.getElem?_of_mem S0
    obtain⟨a2,e2,R2⟩:=hv n (List.mem_of_mem_take (tp.dn i s hi n nx))
    exact⟨a2,e2,R2.same s3⟩
   have nn:Qf sh (itemsOf es):=fun n hn=>by
    have nx:=zg h0 O.he hn
    obtain⟨n0,n1⟩:=R.snd.Oe nx
    exact Fo R.snd R.rk R.SK n n0 n1
   have Qj:=Dr sh (itemsOf es) 0 e2 nn
   have lk:iK ((bO sh 0 (itemsOf es)).flatMap (kD p q)):=Ds fun d hd=>S7 (Qj d hd).1 (Qj d hd).2
   have ll:=tQ sh (LK p q) (itemsOf es) 0
   have oil:=O3.il
   have orl:=O3.rl
   refine⟨t,_,_,_,rfl,rfl,jL.of ht,rfl,L,_,rfl,hL4,by omega,fun o H5 I5 s5 ho=>?_⟩
   refine k1 hp es o H5 O.he ?_ (s12.trans (s3.trans (s4.trans s5))) (bK (s12.trans (s3.trans s4)) ho)
   rw[pH _ lk,Iz sh pq _ _ e2,e1]at I5
   unfold u7
   rw[if_neg c']
   exact I5
 ·exact k2 (fun hp=>hin ⟨hp.1,hp.2.1,by rw[O.tt];exact hp.2.2⟩) H3 (s12.trans s3)
abbrev gh(ws:pO):HO:=.lst (ws.map fun w=>V.str (txt w))
abbrev OB:List (Str × Int):=[(Str.ofString "fresh",0),(Str.ofString "cut",3),(Str.ofString "move",4),(Str.ofString "quote",5),(Str.ofString "window",3),(Str.ofString "fix",1),(Str.ofString "back",2),(Str.ofString "fork",2),(Str.ofString "untie",1),(Str.ofString "read",1)]
abbrev S8:List (Str × Int):=[(Str.ofString "put",2),(Str.ofString "strike",0),(Str.ofString "blot",1),(Str.ofString "lift",1)]
def tabAt(D:List (Str × Int))(n:List Nat):Option Int:=(D.find? fun p=>decide (txt n=p.1)).map (·.2)
theorem Ak{D:List (Str × Int)}{n:List Nat}{i:Int}(h:tabAt D n=some i):(D.find? fun p=>decide (txt n=p.1))=some (txt n,i):=by
 unfold tabAt at h
 obtain⟨⟨x,j⟩,e,rfl⟩:=Option.map_eq_some_iff.mp h
 have z:=List.find?_some e
 have:txt n=x:=of_decide_eq_true z
 rw[e,this]
abbrev nG:List Nat:=[116,105,101]
inductive ko where
 | Bm (h:Int) (t:List Nat)
 | F6 (a b:Row)
 | plain (n:List Nat) (ns:List Int)
 | uF (n:List Nat) (ns:List Int) (r:Row)
def ko.At(H:Hp)(p:Addr):ko→Prop
 | .Bm h t=>H p=some (.tup [.str (Str.ofString "pour"),.int h,.str (txt t)])
 | .F6 a b=>∃ q1 q2,H p=some (.tup [.str (Str.ofString "tie"),.ref q1,.ref q2])∧cL H q1 a∧cL H q2 b∧q1≠q2
 | .plain n ns=>H p=some (.tup (.str (txt n)::ns.map V.int))
 | .uF n ns r=>∃ q,H p=some (.tup (.str (txt n)::ns.map V.int++[.ref q]))∧cL H q r
def yC(n:Int):Prop:=0≤n∧n<10^60
def Hi(r:Row):Prop:=r.length≤29∧∀ p∈r,yC p.1∧yC p.2
def ko.Ok:ko→Prop
 | .Bm h t=>yC h∧t.length≤200
 | .F6 a b=>Hi a∧Hi b
 | .plain n ns=>tabAt OB n=some (ns.length:Int)∧∀ x∈ns,yC x
 | .uF n ns r=>tabAt S8 n=some (ns.length:Int)∧(∀ x∈ns,yC x)∧Hi r
abbrev gZ(p:Int × Int):List Nat:=jf.dg p.1++45::jf.dg p.2
theorem JT{p:Int × Int}(h:yC p.1∧yC p.2):(gZ p).length≤121:=by
 rw[eT,pP]
 have a:=jf.GU h.1.1 h.1.2
 have b:=jf.GU h.2.1 h.2.2
 omega
theorem Dv{n:Int}(h:yC n):n.natAbs.log2<1920:=by
 obtain⟨h0,h1⟩:=h
 by_cases z:n.natAbs=0
 ·rw[z];decide
 ·rw[Nat.log2_lt z]
  have a:n.natAbs<10^60:=by omega
  exact qE a (lO (show (10:Nat)^60≤2^200 by decide) (Nat.pow_le_pow_right (by decide) (by decide)))
inductive Part where
 | num (x:Int)
 | tx (t:List Nat)
 | row (r:Row)
def Part.At(H:Hp)(v:V):Part→Prop
 | .num x=>v=.int x
 | .tx t=>v=.str (txt t)
 | .row r=>∃ q,v=.ref q∧cL H q r
def Part.Ok:Part→Prop
 | .num x=>yC x
 | .tx t=>t.length≤200
 | .row r=>Hi r
abbrev we(r:Row):List Nat:=r.flatMap fun p=>32::gZ p
def Part.line:Part→List Nat
 | .num x=>32::jf.dg x
 | .tx t=>32::t
 | .row r=>we r
theorem Al{r:Row}(h:Hi r):(we r).length≤4000:=by
 have key:∀ l:Row,(∀ p∈l,yC p.1∧yC p.2)→(we l).length≤122*l.length:=by
  intro l
  induction l with
  | nil=>intro _;exact jj _
  | cons p l ih =>
   intro g
   have z:=ih fun q hq=>g q (tY _ hq)
   have z2:=JT (g p uL)
   show ((32::gZ p)++we l).length≤_
   rw[eT,pP,pP]
   omega
 have:=key r h.2
 have:=h.1
 omega
theorem Part.Ft{p:Part}(h:p.Ok):p.line.length≤4000:=by
 cases p with
 | num x=>have:=jf.GU h.1 h.2;show (32::jf.dg x).length≤_;rw[pP];omega
 | tx t=>have h':t.length≤200:=h;show (32::t).length≤_;rw[pP];omega
 | row r=>exact Al h
def ko.nm:ko→List Nat
 | .Bm _ _=>[112,111,117,114]
 | .F6 _ _=>nG
 | .plain n _=>n
 | .uF n _ _=>n
def ko.parts:ko→List Part
 | .Bm h t=>[.num h,.tx t]
 | .F6 _ _=>[]
 | .plain _ ns=>ns.map .num
 | .uF _ ns r=>ns.map .num++[.row r]
def ko.line:ko→List Nat
 | .F6 a b=>nG++we a++[32,47]++we b
 | d=>d.nm++d.parts.flatMap Part.line
theorem LN{H:Hp}{p:Addr}{d:ko}(h:d.At H p)(nt:∀ a b,d≠.F6 a b):∃ vs,H p=some (.tup (.str (txt d.nm)::vs))∧cu (fun v q=>Part.At H v q) vs d.parts:=by
 have nums:∀ ns:List Int,cu (fun v q=>Part.At H v q) (ns.map V.int) (ns.map Part.num):=fun ns=>by
  induction ns with
  | nil=>exact .nil
  | cons x ns ih=>exact .cons rfl ih
 cases d with
 | Bm x t=>exact⟨_,by rw[h,show Str.ofString "pour"=txt [112,111,117,114] by decide +kernel];rfl,.cons rfl (.cons rfl .nil)⟩
 | F6 a b=>exact absurd rfl (nt a b)
 | plain n ns=>exact⟨_,h,nums ns⟩
 | uF n ns r =>
  obtain⟨q,e,z⟩:=h
  exact⟨ns.map V.int++[.ref q],by rw[e];rfl,(nums ns).snoc ⟨q,rfl,z⟩⟩
theorem JU{d:ko}(h:d.Ok):∀ q∈d.parts,q.Ok:=by
 cases d with
 | Bm x t =>
  intro q hq
  rcases List.mem_cons.mp hq with z|z
  ·rw[z];exact h.1
  ·rw[List.mem_singleton.mp z];exact h.2
 | F6 a b=>intro q hq;cases hq
 | plain n ns =>
  intro q hq
  obtain⟨x,hx,rfl⟩:=List.mem_map.mp hq
  exact h.2 x hx
 | uF n ns r =>
  intro q hq
  rcases List.mem_append.mp hq with z|z
  ·obtain⟨x,hx,rfl⟩:=List.mem_map.mp z
   exact h.2.1 x hx
  ·rw[List.mem_singleton.mp z];exact h.2.2
theorem Fv{H:Hp}:∀ {vs:List V} {ps:List Part} {i:Nat} {v:V},cu (fun v q=>Part.At H v q) vs ps→vs[i]?=some v→∃ q,ps[i]?=some q∧q.At H v
 | _,_,_,_,.nil,h=>by simp at h
 | _,_,0,_,.cons o t,h=>by
  have e:=rN h
  subst e
  exact⟨_,rfl,o⟩
 | _,_,i+1,_,.cons o t,h=>by
  obtain⟨q,e,z⟩:=Fv (i:=i) t (by simpa using h)
  exact⟨q,by simpa using e,z⟩
theorem Cz{ps:List Part}(h:∀ q∈ps,q.Ok):(ps.flatMap Part.line).length≤4000*ps.length:=by
 induction ps with
 | nil=>exact Nat.zero_le _
 | cons p ps ih =>
  have z:=ih fun q hq=>h q (tY _ hq)
  have z2:=Part.Ft (h p uL)
  rw[mH,eT,pP,Nat.mul_add,Nat.mul_one]
  omega
theorem IA(n:List Nat):∀ ws:pO,jf.jn 32 (n::ws)=n++ws.flatMap (fun w=>32::w):=by
 intro ws
 induction ws generalizing n with
 | nil=>show n=_;simp
 | cons w ws ih =>
  show n++32::jf.jn 32 (w::ws)=_
  rw[ih w,mH]
  simp
theorem Fw{D:List (Str × Int)}{n:List Nat}{k:Int}(hD:∀ p∈D,32∉p.1.cps.toList∧p.1.cps.toList≠[112,111,117,114]∧p.1.cps.toList≠nG∧p.1.cps.toList.length≤10)(h:tabAt D n=some k):32∉n∧n≠[112,111,117,114]∧n≠nG∧n.length≤10:=by
 have z:=hD _ (List.mem_of_find?_eq_some (Ak h))
 have e:(txt n).cps.toList=n:=jf.tH n
 rw[show ((txt n,k):Str × Int).1=txt n from rfl,e]at z
 exact z
theorem LO{n:List Nat}{k:Int}(h:tabAt OB n=some k):32∉n∧n≠[112,111,117,114]∧n≠nG∧n.length≤10:=Fw (by decide +kernel) h
theorem LP{n:List Nat}{k:Int}(h:tabAt S8 n=some k):32∉n∧n≠[112,111,117,114]∧n≠nG∧n.length≤10:=Fw (by decide +kernel) h
theorem sI(r:Row):we r=(r.map gZ).flatMap fun w=>32::w:=by
 induction r with
 | nil=>rfl
 | cons x r ih=>rw[lS,mH,← ih];rfl
theorem ko.At.same{H H':Hp}{p:Addr}{d:ko}(h:d.At H p)(s:aJ H H'):d.At H' p:=by
 cases d with
 | Bm x t=>exact s _ _ h
 | F6 a b=>obtain⟨q1,q2,e,r1,r2,n⟩:=h;exact⟨q1,q2,s _ _ e,r1.same s,r2.same s,n⟩
 | plain n ns=>exact s _ _ h
 | uF n ns r=>obtain⟨q,e,r1⟩:=h;exact⟨q,s _ _ e,r1.same s⟩
theorem JV{n:List Nat}{k:Int}(h:tabAt OB n=some k):k≤5:=by
 have z:∀ p∈OB,p.2≤5:=by decide +kernel
 exact z _ (List.mem_of_find?_eq_some (Ak h))
theorem JW{n:List Nat}{k:Int}(h:tabAt S8 n=some k):k≤5:=by
 have z:∀ p∈S8,p.2≤5:=by decide +kernel
 exact z _ (List.mem_of_find?_eq_some (Ak h))
theorem Hj{d:ko}(ok:d.Ok):(∀ a b,d≠.F6 a b)→d.nm≠nG∧d.nm.length≤10∧d.parts.length≤10:=by
 intro nt
 cases d with
 | Bm x t=>exact⟨by show [112,111,117,114]≠nG;decide,by show 4≤10;decide,by show 2≤10;decide⟩
 | F6 a b=>exact absurd rfl (nt a b)
 | plain n ns =>
  obtain⟨_,_,f3,f4⟩:=LO ok.1
  have:=JV ok.1
  exact⟨f3,f4,by show (ns.map Part.num).length≤10;rw[dW];omega⟩
 | uF n ns r =>
  obtain⟨_,_,f3,f4⟩:=LP ok.1
  have:=JW ok.1
  exact⟨f3,f4,by show (ns.map Part.num++[Part.row r]).length≤10;rw[eT,dW];show ns.length+1≤10;omega⟩
inductive vd(vs:List V)(H:Hp)(Q:VK)(E:XK):Prop
 | mk (q:Addr) (r:Row) (_:vs=[.ref q]) (_:cL H q r) (_:Hi r) (_: ∀ (a:Addr) (H':Hp),H' a=some (gh (r.map gZ))→aJ H H'→H a=none→Q (.ref a) H'):vd vs H Q E
theorem Fx:aL ["row"] ["row"] (az jm):=⟨rfl,rfl,rfl,by decide +kernel,rfl,by decide +kernel,by decide +kernel⟩
theorem LQ{a b:Int}(ha:0≤a)(hb:0≤b):(Str.empty++Str.ofString (toString a)++Str.ofString "-"++Str.ofString (toString b))=txt (gZ (a,b)):=by
 rw[jf.zb ha,jf.zb hb,show Str.ofString "-"=txt [45] by decide +kernel,show Str.empty=txt [] from rfl,Df,Df,Df]
 simp
theorem Dw{f:Addr}{fd:FuncData}(F:iJ K "ink_words" "ink_words" jm f fd)(T:qT mg):aH P w K mg base cK 1 f fd gJ vd:=by
 refine F.ok Fx (fun vs H Q E h=>?_) (fun cdv A outer s H vs Q E hr h=>?_)
 ·obtain⟨q,r,rfl,_⟩:=h
  rfl
 obtain⟨q,r,rfl,⟨as,hq,pa⟩,⟨lr,fr⟩,k⟩:=h
 refine⟨_,(au (aP (sE (N:=["start","stop"]) (zS (sc:=az jm) (NX:=["row"]) (jx:=[none,none]) rfl rfl rfl (by decide +kernel) (by decide +kernel) rfl (by decide +kernel) rfl (by decide +kernel)) rfl (eK (pv 0)) (fun _ _ _ _ _ _=>(Ih (n:=2) rfl (bR (br (i:=0) (show List.Nodup (["start","stop"]:List Str) by decide +kernel) rfl (Or.inl rfl)) (bR (br (i:=1) (show List.Nodup (["start","stop"]:List Str) by decide +kernel) rfl (Or.inl rfl)) jX)))) (fun _ _ _ _ _ _=>nE) (fun _ _ _ _ _ _=>(jf.Lo (jf.Ik (pv 0) (jf.Na (jf.Ik (pv 1) jf.M9)))))))),?_⟩
 have lp:=Paired.length pa
 refine⟨_,rfl,q,rfl,⟨_,b8.of hq⟩,fun acc hacc=>ou (K:=K) (a:=q) (xs:=as.map V.ref) (fun i σ H2=>∃ u0 u1:Option V,σ=[u0,u1]∧H2 acc=some (gh ((r.take i).map gZ))∧aJ H H2) ⟨none,none,rfl,ah,ak hacc _⟩ (fun i σ H2 _ ⟨_,_,_,_,s2⟩=>b8.of (s2 _ _ hq)) ?_ ?_⟩
 ·rintro i y σ H2 hi ⟨u0,u1,rfl,h2,s2⟩
  rw[uq]at hi
  obtain⟨a,ei,rfl⟩:=Option.map_eq_some_iff.mp hi
  obtain⟨p,ep,hp⟩:=pa.get ei
  have fp:=fr p (nQ ep)
  have il:=(List.getElem?_eq_some_iff.mp ep).1
  refine⟨a,_,rfl,jL.of (s2 _ _ hp),rfl,_,_,rfl,_,_,rfl,rfl,?_⟩
  refine⟨_,rfl,_,rfl,Dv fp.1,_,rfl,_,rfl,Dv fp.2,_,h2,aV (by rw[dW,dW,o6];omega),_,_,rfl,?_,dM hacc s2 (aN acc _ _)⟩
  rw[ah,take_snoc ep,qd,lS,List.map_nil,LQ fp.1.1 fp.2.1]
  show some (HO.lst _)=some (HO.lst _)
  rw[qd]
  rfl
 ·rintro σ H2 ⟨u0,u1,rfl,h2,s2⟩
  rw[dW,lp,mZ]at h2
  exact k acc H2 h2 s2 hacc
def Part.words:Part→pO
 | .num x=>[jf.dg x]
 | .tx t=>[t]
 | .row r=>r.map gZ
theorem ve(ps:List Part):(ps.flatMap Part.words).flatMap (fun w=>32::w)=ps.flatMap Part.line:=by
 induction ps with
 | nil=>rfl
 | cons p ps ih =>
  rw[mH,mH,List.flatMap_append,ih]
  congr 1
  cases p with
  | num x=>show (32::jf.dg x)++[]=32::jf.dg x;rw[j6]
  | tx t=>show (32::t)++[]=32::t;rw[j6]
  | row r=>exact (sI r).symm
inductive Am(vs:List V)(H:Hp)(Q:VK)(E:XK):Prop
 | mk (p:Addr) (d:ko) (_:vs=[.ref p]) (_:d.At H p) (_:d.Ok) (_:((∀ a b,d≠.F6 a b)→d.nm≠nG∧d.nm.length≤10∧d.parts.length≤10)) (_: ∀ H',aJ H H'→Q (.str (txt d.line)) H'):Am vs H Q E
theorem nH:aL ["deed","words","thing"] ["deed"] (az kB):=⟨rfl,rfl,rfl,by decide +kernel,rfl,by decide +kernel,by decide +kernel⟩
theorem An(W:pO):(W.map List.length).sum+W.length=(W.flatMap fun w=>32::w).length:=by
 induction W with
 | nil=>rfl
 | cons x W ih =>
  rw[lS,List.sum_cons,pP,mH,eT,pP,← ih]
  omega
theorem tR(a b:pO):(a.map fun w=>V.str (txt w))++(b.map fun w=>V.str (txt w))=(a++b).map fun w=>V.str (txt w):=List.map_append.symm
set_option maxHeartbeats 4000000 in
theorem Bo{f fI:Addr}{fd gI:FuncData}(F:iJ K "shown_deed" "shown_deed" kB f fd)(T:qT mg)(jz:aF K mg "ink_words" jm gJ fI gI):aH P w K mg base cK 2 f fd ["deed"] Am:=by
 have vf:aH P w K mg base cK 1 _ _ gJ vd:=Dw jz.F T
 refine F.ok nH (fun vs H Q E h=>?_) (fun cdv A outer s H vs Q E hr h=>?_)
 ·obtain⟨p,d,rfl,_⟩:=h
  rfl
 obtain⟨p,d,rfl,hd,ok,nn,k⟩:=h
 refine⟨_,(ao (cC (bP kQ (bN gA (pv 0) aC (fun _ _=>rfl)) cN (bU _))
   (au (aP (nu PySem.F.plainAttrs_str PySem.F.slot_str_join PySem.F.type_str_join jf.E7 cN (af (bw pT (bw pT (bw pT (bW (af cN aj)) (aS jz vf hr (af (bN gA (pv 0) aC (fun _ _=>rfl)) aj))) (bW (af cN aj))) (aS jz vf hr (af (bN gA (pv 0) aC (fun _ _=>rfl)) aj))) aj))))
   bF)
   (ao (aY (i:=1) nH.nd rfl (Or.inl rfl) (bW (af (bN gA (pv 0) aC (fun _ _=>rfl)) aj)))
   (ao (jI PassesOwn.never rfl (O4 (r9 Pf (pv 0) (vL aC) vK)) (br (i:=2) nH.nd rfl (Or.inl rfl))
   (au (wU (i:=1) nH.nd rfl (Or.inl rfl) (Km (kP (bL dI rfl T.cQ yt (af (pv 2) (af (rD rfl T.m7 yv) aj)))) (aS jz vf hr (af (pv 2) aj)) (bW (af (E8.So (pv 2)) aj))) xu)))
   (au (aP (nu PySem.F.plainAttrs_str PySem.F.slot_str_join PySem.F.type_str_join jf.E7 cN (af (pv 1) aj))))))),?_⟩
 have tt:Str.ofString "tie"=txt nG:=by decide +kernel
 have kil:PySem.W.kitOne K (.type "int") (.type "list")=some false:=by kernel_rfl
 have ksl:PySem.W.kitOne K (.type "str") (.type "list")=some false:=by kernel_rfl
 by_cases ht:∃ a b,d=.F6 a b
 ·obtain⟨a,b,rfl⟩:=ht
  obtain⟨q1,q2,hp,r1,r2,_⟩:=hd
  have la:=Al ok.1
  have lb:=Al ok.2
  have ea:(a.map gZ).length=a.length:=dW _
  have eb:(b.map gZ).length=b.length:=dW _
  have a29:=ok.1.1
  have b29:=ok.2.1
  refine⟨_,rfl,p,_,_,_,rfl,rfl,jL.of hp,gO (j:=0) rfl,?_⟩
  refine⟨rfl,_,rfl,gP (fun _=>?_) (fun c=>absurd (decide_eq_true rfl) c)⟩
  refine⟨rfl,(by show 1≤sizeLine;decide),fun t1 f1=>?_⟩
  have s1:=ak f1 (.lst [.str (Str.ofString "tie")])
  have h1:(upd H t1 (.lst [.str (Str.ofString "tie")])) t1=some (gh [nG]):=by rw[tt];exact ah
  generalize upd H t1 (.lst [.str (Str.ofString "tie")])=H1 at s1 h1
  refine⟨_,rfl,p,_,_,_,rfl,rfl,jL.of (s1 _ _ hp),gO (j:=1) rfl,q1,a,rfl,r1.same s1,ok.1,fun w1 H2 hw1 s2 fw1=>?_⟩
  refine⟨t1,w1,_,_,rfl,rfl,s2 _ _ h1,hw1,mJ (aV (by simp only[dW,pP,List.length_nil];omega)),fun t2 f2=>?_⟩
  rw[tR]
  have s3:=ak f2 (gh ([nG]++a.map gZ))
  have h3:(upd H2 t2 (gh ([nG]++a.map gZ))) t2=some (gh ([nG]++a.map gZ)):=ah
  generalize upd H2 t2 (gh ([nG]++a.map gZ))=H3 at s3 h3
  refine⟨(by show 1≤sizeLine;decide),fun t3 f3=>?_⟩
  have s4:=ak f3 (.lst [.str (Str.ofString "/")])
  have h4:(upd H3 t3 (.lst [.str (Str.ofString "/")])) t3=some (gh [[47]]):=by rw[show Str.ofString "/"=txt [47] by decide +kernel];exact ah
  generalize upd H3 t3 (.lst [.str (Str.ofString "/")])=H4 at s4 h4
  refine⟨t2,t3,_,_,rfl,rfl,s4 _ _ h3,h4,mJ (aV (by simp only[dW,eT,pP,List.length_nil];omega)),fun t4 f4=>?_⟩
  rw[tR]
  have s5:=ak f4 (gh ([nG]++a.map gZ++[[47]]))
  have h5:(upd H4 t4 (gh ([nG]++a.map gZ++[[47]]))) t4=some (gh ([nG]++a.map gZ++[[47]])):=ah
  generalize upd H4 t4 (gh ([nG]++a.map gZ++[[47]]))=H5 at s5 h5
  have Np:aJ H H5:=s1.trans (s2.trans (s3.trans (s4.trans s5)))
  refine⟨_,rfl,p,_,_,_,rfl,rfl,jL.of (Np _ _ hp),gO (j:=2) rfl,q2,b,rfl,r2.same Np,ok.2,fun w2 H6 hw2 s6 fw2=>?_⟩
  refine⟨t4,w2,_,_,rfl,rfl,s6 _ _ h5,hw2,mJ (aV (by simp only[dW,eT,pP,List.length_nil];omega)),fun t5 f5=>?_⟩
  rw[tR]
  have s7:=ak f5 (gh ([nG]++a.map gZ++[[47]]++b.map gZ))
  have e5:[nG]++a.map gZ++[[47]]++b.map gZ=nG::(a.map gZ++[47]::b.map gZ):=by simp
  have el:jf.jn 32 (nG::(a.map gZ++[47]::b.map gZ))=(ko.F6 a b).line:=by
   rw[IA,List.flatMap_append,mH,← sI,← sI]
   show _=nG++we a++[32,47]++we b
   simp
  have fs:=An (a.map gZ++[47]::b.map gZ)
  rw[List.flatMap_append,mH,← sI,← sI]at fs
  simp only[eT,pP,List.length_nil]at fs
  refine⟨t5,32,_,by rw[show Str.ofString " "=⟨#[32]⟩ by decide +kernel],rfl,ah,?_,?_⟩
  ·rw[e5,lS,List.sum_cons,pP]
   simp only[eT,pP,List.length_nil]
   omega
  rw[e5]at s7 ⊢
  rw[el]
  exact k _ (Np.trans (s6.trans s7))
 have nt:∀ a b,d≠.F6 a b:=fun a b e=>ht ⟨a,b,e⟩
 obtain⟨vs,hp,al⟩:=LN hd nt
 obtain⟨n1,n2,n3⟩:=nn nt
 have pk:=JU ok
 have lv:=al.len
 have ln:d.line=d.nm++d.parts.flatMap Part.line:=by
  cases d with
  | F6 a b=>exact absurd rfl (nt a b)
  | _=>rfl
 refine⟨_,rfl,p,_,_,_,rfl,rfl,jL.of hp,gO (j:=0) rfl,?_⟩
 refine⟨rfl,_,rfl,gP (fun c=>absurd (of_decide_eq_true c) (by rw[tt];intro z;exact n1 (M8 (V.str.inj z)))) (fun _=>?_)⟩
 refine⟨_,rfl,p,_,_,_,rfl,rfl,jL.of hp,gO (j:=0) rfl,(by show 1≤sizeLine;decide),fun wl fwl=>?_⟩
 have s0:=ak fwl (.lst [.str (txt d.nm)])
 have h0:(upd H wl (.lst [.str (txt d.nm)])) wl=some (gh [d.nm]):=ah
 refine⟨_,rfl,_,rfl,p,_,rfl,jL.of (s0 _ _ hp),?_,fun tp htp=>?_⟩
 ·rintro⟨z,_⟩
  have e:HT.jN (V.str (txt d.nm)::vs).length 0 (some 1)=min 1 (V.str (txt d.nm)::vs).length:=HT.HL _ _ 1
  have z':HT.jN (V.str (txt d.nm)::vs).length 0 (some 1)=0:=z
  rw[e,pP]at z'
  omega
 have ec:qI (V.str (txt d.nm)::vs) (some 1) none=vs:=by
  unfold qI
  have e:HT.jN (V.str (txt d.nm)::vs).length 0 (some 1)=1:=(HT.HL _ _ 1).trans (by rw[pP];omega)
  have e2:HT.jN (V.str (txt d.nm)::vs).length (V.str (txt d.nm)::vs).length none=vs.length+1:=rfl
  rw[e,e2]
  show vs.take (vs.length+1-1)=vs
  exact yu (by omega)
 rw[ec]
 change (upd H wl (.lst [.str (txt d.nm)])) tp=none at htp
 have s1':=ak htp (.tup vs)
 have h1:(upd (upd H wl (.lst [.str (txt d.nm)])) tp (.tup vs)) tp=some (.tup vs):=ah
 have h1w:=s1' _ _ h0
 have s1:=s0.trans s1'
 have nwt:wl≠tp:=ay h0 htp
 generalize upd (upd H wl (.lst [.str (txt d.nm)])) tp (.tup vs)=H1 at s1 h1 h1w
 refine⟨tp,rfl,⟨_,jL.of h1⟩,Mz (K:=K) (a:=tp) (xs:=vs) (fun i σ H2=>∃ u:Option V,σ=[some (.ref p),some (.ref wl),u]∧H2 wl=some (gh (d.nm::(d.parts.take i).flatMap Part.words))∧H2 tp=some (.tup vs)∧aJ H H2) ⟨none,rfl,by rw[List.take_zero,List.flatMap_nil];exact h1w,h1,s1⟩ (fun i σ H2 _ ⟨_,_,_,h2,_⟩=>jL.of h2) ?_ ?_⟩
 ·rintro i v σ H2 hi ⟨u,rfl,h2,h2t,s2⟩
  obtain⟨q,eq,hq⟩:=Fv al hi
  have qk:=pk q (nQ eq)
  have ql:=Part.Ft qk
  have fl:=Cz (ps:=d.parts.take i) fun q hq=>pk q (List.mem_of_mem_take hq)
  have ft:(d.parts.take i).length≤10:=by rw[o6];omega
  have fs:=An ((d.parts.take i).flatMap Part.words)
  rw[ve]at fs
  have nx:d.nm::(d.parts.take (i+1)).flatMap Part.words=(d.nm::(d.parts.take i).flatMap Part.words)++q.words:=by
   rw[take_snoc eq,List.flatMap_append,mH,List.flatMap_nil,j6,List.cons_append]
  have lB:(d.nm::(d.parts.take i).flatMap Part.words).length≤50000:=by rw[pP];omega
  have lq:q.words.length≤29:=by
   cases q with
   | num x=>show 1≤29;decide
   | tx t=>show 1≤29;decide
   | row r=>show (r.map gZ).length≤29;rw[dW];exact qk.1
  have fin:∀ (t:Addr) (H3:Hp) (v':V),aJ H2 H3→H2 t=none→H3 t=some (gh q.words)→∃ (l b:Addr) (xs zs:List V),V.ref wl=.ref l∧V.ref t=.ref b∧H3 l=some (.lst xs)∧H3 b=some (.lst zs)∧xs.length+zs.length≤sizeLine∧∃ u:Option V,([some (.ref p),some (.ref wl),some v']:List (Option V)).set 1 (some (.ref l))=[some (.ref p),some (.ref wl),u]∧(upd H3 l (.lst (xs++zs))) wl=some (gh (d.nm::(d.parts.take (i+1)).flatMap Part.words))∧(upd H3 l (.lst (xs++zs))) tp=some (.tup vs)∧aJ H (upd H3 l (.lst (xs++zs))):=by
   intro t H3 v' s3 EJ h3
   refine⟨wl,t,_,_,rfl,rfl,s3 _ _ h2,h3,mJ (aV (by rw[dW,dW];omega)),_,rfl,?_,?_,?_⟩
   ·rw[tR,ah,nx]
   ·rw[aM nwt.symm];exact s3 _ _ h2t
   ·exact dM fwl (s2.trans s3) (aN wl _ _)
  cases q with
  | num x =>
   cases (show v=.int x from hq)
   refine⟨_,rfl,_,rfl,_,"list",_,_,rfl,.int x,kil,_,rfl,eU ⟨_,rfl,.inl ⟨x,rfl,Dv qk,?_⟩⟩⟩
   rw[jf.zb qk.1]
   exact⟨(by show 1≤sizeLine;decide),fun t EJ=>fin t _ (.int x) (ak EJ _) EJ ah⟩
  | tx t =>
   cases (show v=.str (txt t) from hq)
   have lt:t.length≤200:=qk
   refine⟨_,rfl,_,rfl,_,"list",_,_,rfl,.str _,ksl,_,rfl,eU ⟨_,rfl,.inr ⟨t,rfl,by omega,?_⟩⟩⟩
   exact⟨(by show 1≤sizeLine;decide),fun t' EJ=>fin t' _ (.str (txt t)) (ak EJ _) EJ ah⟩
  | row r =>
   obtain⟨qa,rfl,hr⟩:=hq
   have hr2:=hr.same s2
   obtain⟨as,has,_⟩:=id hr2
   refine⟨_,rfl,_,rfl,_,"list",_,_,rfl,.lst has,RU K,_,rfl,iR ?_⟩
   exact⟨_,rfl,qa,r,rfl,hr2,qk,fun t H3 h3 s3 EJ=>fin t H3 (.ref qa) s3 EJ h3⟩
 ·rintro σ H2 ⟨u,rfl,h2,h2t,s2⟩
  rw[lv,mZ]at h2
  have fs:=An (d.parts.flatMap Part.words)
  rw[ve]at fs
  have fl:=Cz (ps:=d.parts) pk
  refine⟨rfl,_,rfl,wl,32,_,by rw[show Str.ofString " "=⟨#[32]⟩ by decide +kernel],rfl,h2,?_,?_⟩
  ·rw[lS,List.sum_cons,pP]
   omega
  rw[IA,ve,← ln]
  exact k H2 s2
structure Tc(S:Addr→Prop)(H:Hp)(st op r:Addr)(its:List Item):Prop where
 own:S r
 ne:r≠st∧r≠op
 at':aW H (.ref r) its
def Hl(S:Addr→Prop)(H:Hp)(st op a:Addr)(rows:List (List Item)):Prop:=S a∧a≠st∧a≠op∧∃ rs:List Addr,H a=some (.lst (rs.map V.ref))∧cu (Tc S H st op) rs rows
abbrev lC:=List (List (List Item))
structure Uz(past:lC)(ops:List Int):Prop where
 CA:∃ last,past.getLast?=some last∧ops.length=last.length
 fit:∀ (s:Nat) (o:Int),ops[s]?=some o→0≤o∧o<past.length∧∀ (m:Nat) (rows:List (List Item)),past[m]?=some rows→(o≤m↔s<rows.length)
 less:∀ (m:Nat) (rows:List (List Item)),past[m]?=some rows→rows.length≤ops.length
structure Sh(C:Addr)(S:Addr→Prop)(H:Hp)(x d st op:Addr)(past:lC)(ops:List Int):Prop where
 sx:S x
 ss:S st
 so:S op
 al:∀ a,S a→∃ ob,H a=some ob
 hx:H x=some (.ins C d [("states",.ref st),("openings",.ref op)])
 hs:∃ as:List Addr,H st=some (.lst (as.map V.ref))∧cu (Hl S H st op) as past
 ho:H op=some (.lst (ops.map V.int))
 ne:st≠op
 LR:Uz past ops
theorem aW.fr{H H':Hp}{r:Addr}{its:List Item}(h:aW H (.ref r) its)(k:∀ xs,H r=some (.lst xs)→H' r=some (.lst xs))(t:∀ a xs,H a=some (.tup xs)→H' a=some (.tup xs)):aW H' (.ref r) its:=by
 obtain⟨a,vs,e,h1,h2⟩:=h
 cases e
 exact⟨r,vs,rfl,k _ h1,h2.mono fun v it ⟨b,e,hb⟩=>⟨b,e,t _ _ hb⟩⟩
theorem Hl.fr{S S':Addr→Prop}{H H':Hp}{st op a:Addr}{rows:List (List Item)}(h:Hl S H st op a rows)(sub:∀ a,S a→S' a)(k:∀ a ob,H a=some ob→S a→a≠st→a≠op→H' a=some ob)(t:∀ a xs,H a=some (.tup xs)→H' a=some (.tup xs)):Hl S' H' st op a rows:=by
 obtain⟨sa,n1,n2,rs,hr,al⟩:=h
 exact⟨sub _ sa,n1,n2,rs,k _ _ hr sa n1 n2,al.mono fun r its q=>⟨sub _ q.own,q.ne,q.at'.fr (fun xs e=>k _ _ e q.own q.ne.1 q.ne.2) t⟩⟩
theorem Sh.fr{C:Addr}{S:Addr→Prop}{H H':Hp}{x d st op:Addr}{past:lC}{ops:List Int}(h:Sh C S H x d st op past ops)(k:∀ a ob,H a=some ob→S a→H' a=some ob)(t:∀ a xs,H a=some (.tup xs)→H' a=some (.tup xs)):Sh C S H' x d st op past ops:=by
 obtain⟨sx,ss,so,al,hx,⟨as,hs,a2⟩,ho,ne,LR⟩:=h
 refine⟨sx,ss,so,fun a z=>?_,k _ _ hx sx,⟨as,k _ _ hs ss,a2.mono fun a rows q=>q.fr (fun _ z=>z) (fun a ob e z _ _=>k _ _ e z) t⟩,k _ _ ho so,ne,LR⟩
 obtain⟨ob,e⟩:=al a z
 exact⟨ob,k _ _ e z⟩
theorem Sh.same{C:Addr}{S:Addr→Prop}{H H':Hp}{x d st op:Addr}{past:lC}{ops:List Int}(h:Sh C S H x d st op past ops)(k:aJ H H'):Sh C S H' x d st op past ops:=h.fr (fun a ob e _=>k a ob e) (fun a xs e=>k _ _ e)
theorem Sh.keep{C:Addr}{S:Addr→Prop}{H H':Hp}{x d st op l:Addr}{past:lC}{ops:List Int}{ls:List V}(h:Sh C S H x d st op past ops)(hl:H l=some (.lst ls))(nl:¬ S l)(k:eE l H H'):Sh C S H' x d st op past ops :=
 h.fr (fun a ob e z=>k a ob e (fun q=>nl (by rw[← q];exact z))) (fun a xs e=>k _ _ e (gx e hl (by intro z;cases z)))
theorem Ao:∀ {as bs:List Addr},as.map V.ref=bs.map V.ref→as=bs
 | [],[],_=>rfl
 | [],_::_,h=>by cases h
 | _::_,[],h=>by cases h
 | a::as,b::bs,h=>by
  rw[lS,lS]at h
  injection h with h1 h2
  cases h1
  rw[Ao h2]
theorem Sh.last{C:Addr}{S:Addr→Prop}{H:Hp}{x d st op:Addr}{past:lC}{ops:List Int}(h:Sh C S H x d st op past ops){as:List Addr}(ha:H st=some (.lst (as.map V.ref))):∃ as' a,as=as'++[a]∧∀ last,past.getLast?=some last→Hl S H st op a last:=by
 obtain⟨bs,hb,a2⟩:=h.hs
 have e:as=bs:=by
  rw[ha]at hb
  have:=HO.lst.inj (rN hb)
  exact Ao this
 subst e
 obtain⟨last,hl,_⟩:=h.LR.CA
 obtain⟨p',rfl⟩:∃ p',past=p'++[last]:=by
  rcases uK past with rfl|⟨p',l,rfl⟩
  ·cases hl
  ·rw[rM,wN]at hl
   cases hl
   exact⟨p',rM⟩
 obtain⟨as',a,rfl,_,r⟩:=a2.split
 refine⟨as',a,rfl,fun l e=>?_⟩
 rw[hl]at e
 cases e
 exact r
theorem Ho(xs:List V){p:Int}(h:0≤p):qI xs none (some p)=xs.take p.toNat:=by
 unfold qI
 have e1:HT.jN xs.length 0 none=0:=rfl
 have e2:HT.jN xs.length xs.length (some p)=min p.toNat xs.length:=by
  show (if p<0 then (p+(xs.length:Int)).toNat else min p.toNat xs.length)=_
  rw[if_neg (by omega)]
 rw[e1,e2,List.drop_zero,Nat.sub_zero]
 rcases Nat.le_total p.toNat xs.length with z|z
 ·rw[Nat.min_eq_left z]
 ·rw[Nat.min_eq_right z,yu (jj _),yu z]
theorem JX(xs:List V){p:Int}(h:0≤p):qI xs (some p) none=xs.drop p.toNat:=by
 unfold qI
 have e1:HT.jN xs.length xs.length none=xs.length:=rfl
 have e2:HT.jN xs.length 0 (some p)=min p.toNat xs.length:=by
  show (if p<0 then (p+(xs.length:Int)).toNat else min p.toNat xs.length)=_
  rw[if_neg (by omega)]
 rw[e1,e2]
 rcases Nat.le_total p.toNat xs.length with z|z
 ·rw[Nat.min_eq_left z,yu (by rw[List.length_drop];omega)]
 ·rw[Nat.min_eq_right z,List.drop_of_length_le (jj _),List.drop_of_length_le z]
  simp
inductive tS(vs:List V)(H:Hp)(Q:VK)(E:XK):Prop
 | mk (a r:Addr) (rs:List V) (s:Nat) (_:vs=[.ref a,.int (s:Nat),.ref r]) (_:H a=some (.lst rs)) (_:s≤rs.length) (_:rs.length≤1000) (_: ∀ (p:Addr) (H':Hp),H' p=some (.lst (rs.take s++[.ref r]++rs.drop (s+1)))→aJ H H'→H p=none→Q (.ref p) H'):tS vs H Q E
inductive Dy(C:Addr)(vs:List V)(H:Hp)(Q:VK)(E:XK):Prop
 | mk (x d:Addr) (_:vs=[.ref x]) (_:H x=some (.ins C d [])) (_: ∀ (st op z:Addr) (H':Hp),Sh C (fun a=>a=x∨a=st∨a=op∨a=z) H' x d st op [[]] []→eE x H H'→H st=none→H op=none→H z=none→Q .jc H'):Dy C vs H Q E
inductive CC(C:Addr)(vs:List V)(H:Hp)(Q:VK)(E:XK):Prop
 | mk (x d st op:Addr) (as:List V) (_:vs=[.ref x]) (_:H x=some (.ins C d [("states",.ref st),("openings",.ref op)])) (_:H st=some (.lst as)) (_:Q (.int ((as.length:Nat)-1)) H):CC C vs H Q E
inductive Dz(C:Addr)(vs:List V)(H:Hp)(Q:VK)(E:XK):Prop
 | mk (S:Addr→Prop) (x d st op:Addr) (past:lC) (ops:List Int) (_:vs=[.ref x]) (_:Sh C S H x d st op past ops) (_:Q (.int (ops.length:Nat)) H):Dz C vs H Q E
theorem JY:aL ["state","sheet","items"] ["state","sheet","items"] (az n5):=⟨rfl,rfl,rfl,by decide +kernel,rfl,by decide +kernel,by decide +kernel⟩
theorem xD:aL ["self"] ["self"] (az iY):=⟨rfl,rfl,rfl,by decide +kernel,rfl,by decide +kernel,by decide +kernel⟩
theorem Fy:aL ["self"] ["self"] (az dc):=⟨rfl,rfl,rfl,by decide +kernel,rfl,by decide +kernel,by decide +kernel⟩
theorem DA:aL ["self"] ["self"] (az dZ):=⟨rfl,rfl,rfl,by decide +kernel,rfl,by decide +kernel,by decide +kernel⟩
theorem Aq{f:Addr}{fd:FuncData}(F:iJ K "changed" "changed" n5 f fd)(T:qT mg):aH P w K mg base cK 1 f fd Gd tS:=by
 refine F.ok JY (fun vs H Q E h=>?_) (fun cdv A outer s H vs Q E hr h=>?_)
 ·obtain⟨a,r,rs,s,rfl,_⟩:=h
  rfl
 obtain⟨a,r,rs,s,rfl,ha,sl,l1,k⟩:=h
 refine⟨_,(ao (cC (j7 (zA lQ lQ aC (pv 1) (bL cY rfl T.rF PySem.boot_len (af (pv 0) aj))))
   (au Ep)
   bF)
   (au (aP (bw pT (bw pT (r9 yV (pv 0) vK (vL (pv 1))) (bW (af (pv 2) aj))) (r9 yV (pv 0) (vL (bw gz (pv 1) aC)) vK))))),?_⟩
 refine⟨_,rfl,_,_,rfl,rfl,_,rfl,gP (fun c0=>?_) (fun c0=>absurd (decide_eq_true (by omega)) c0)⟩
 refine⟨_,rfl,a,_,rfl,.inl (b8.of ha),_,_,rfl,rfl,_,rfl,?_⟩
 rw[decide_eq_true (show ((s:Nat):Int)≤((rs.length:Nat):Int) by omega)]
 refine eU ?_
 refine⟨_,rfl,_,rfl,_,rfl,a,_,rfl,b8.of ha,fun p1 hp1=>?_⟩
 rw[Ho _ (by omega),mG]
 have s1:aJ H (upd H p1 (.lst (rs.take s))):=ak hp1 _
 have h1:(upd H p1 (.lst (rs.take s))) p1=some (.lst (rs.take s)):=ah
 generalize upd H p1 (.lst (rs.take s))=H1 at s1 h1
 refine⟨_,rfl,(by show 1≤sizeLine;decide),fun p2 hp2=>?_⟩
 have s2:aJ H1 (upd H1 p2 (.lst [.ref r])):=ak hp2 _
 have h2:(upd H1 p2 (.lst [.ref r])) p2=some (.lst [.ref r]):=ah
 generalize upd H1 p2 (.lst [.ref r])=H2 at s2 h2
 refine⟨p1,p2,_,_,rfl,rfl,s2 _ _ h1,h2,(by rw[o6];exact mJ (aV (by simp only[vD];omega))),fun p3 hp3=>?_⟩
 have s3:aJ H2 (upd H2 p3 (.lst (rs.take s++[.ref r]))):=ak hp3 _
 have h3:(upd H2 p3 (.lst (rs.take s++[.ref r]))) p3=some (.lst (rs.take s++[.ref r])):=ah
 generalize upd H2 p3 (.lst (rs.take s++[.ref r]))=H3 at s3 h3
 have Td:=s1.trans (s2.trans s3)
 refine⟨_,rfl,_,rfl,_,_,rfl,rfl,_,rfl,a,_,rfl,b8.of (Td _ _ ha),fun p4 hp4=>?_⟩
 rw[JX _ (by omega),show (((s:Nat):Int)+1).toNat=s+1 by omega]
 have s4:aJ H3 (upd H3 p4 (.lst (rs.drop (s+1)))):=ak hp4 _
 have h4:(upd H3 p4 (.lst (rs.drop (s+1)))) p4=some (.lst (rs.drop (s+1))):=ah
 generalize upd H3 p4 (.lst (rs.drop (s+1)))=H4 at s4 h4
 refine⟨p3,p4,_,_,rfl,rfl,s4 _ _ h3,h4,(by rw[eT,o6,List.length_drop];exact mJ (aV (by simp only[vD];omega))),fun p5 hp5=>?_⟩
 have s04:=Td.trans s4
 exact k p5 _ ah (s04.trans (ak hp5 _)) (bK s04 hp5)
theorem wg{f C:Addr}{fd:FuncData}(F:iJ K "__init__" "Shelf.__init__" iY f fd)(cl:AZ K C)(n1:bh K C "states")(n2:bh K C "openings"):aH P w K mg base cK 1 f fd gy (Dy C):=by
 refine F.ok xD (fun vs H Q E h=>?_) (fun cdv A outer s H vs Q E hr h=>?_)
 ·obtain⟨x,d,rfl,_⟩:=h
  rfl
 obtain⟨x,d,rfl,hx,k⟩:=h
 refine⟨_,(ao (j8 (pv 0) (bW (af (bW aj) aj)) rfl)
   (au (j8 (pv 0) (bW aj) rfl))),?_⟩
 refine⟨(by show 0≤sizeLine;decide),fun z hz=>?_⟩
 have a0:aJ H (upd H z (.lst [])):=ak hz _
 have z0:(upd H z (.lst [])) z=some (.lst []):=ah
 generalize upd H z (.lst [])=H0 at a0 z0
 refine⟨(by show 1≤sizeLine;decide),fun st hst=>?_⟩
 have a1:aJ H0 (upd H0 st (.lst [.ref z])):=ak hst _
 have b1:(upd H0 st (.lst [.ref z])) st=some (.lst [.ref z]):=ah
 generalize upd H0 st (.lst [.ref z])=H1 at a1 b1
 have a01:=a0.trans a1
 refine⟨_,rfl,x,C,d,_,rfl,a01 _ _ hx,cl,n1,by decide,?_⟩
 have k2:eE x H1 (upd H1 x (.ins C d (L2.dJ "states" (.ref st) []))):=aN x _ _
 have h2:(upd H1 x (.ins C d (L2.dJ "states" (.ref st) []))) x=some (.ins C d [("states",.ref st)]):=ah
 generalize upd H1 x (.ins C d (L2.dJ "states" (.ref st) []))=H2 at k2 h2
 have Qn:st≠x:=(ay (a0 _ _ hx) hst).symm
 have nzx:z≠x:=(ay hx hz).symm
 have nzs:z≠st:=ay z0 hst
 have b2:=k2 _ _ b1 Qn
 have z2:=k2 _ _ (a1 _ _ z0) nzx
 refine⟨(by show 0≤sizeLine;decide),fun op hop=>?_⟩
 have En:op≠x:=(ay h2 hop).symm
 have nso:st≠op:=ay b2 hop
 have nzo:z≠op:=ay z2 hop
 refine⟨_,rfl,x,C,d,_,rfl,ak hop _ _ _ h2,cl,n2,(by show 1<1000;decide),?_⟩
 have k5:eE x H (upd (upd H2 op (.lst [])) x (.ins C d (L2.dJ "openings" (.ref op) [("states",.ref st)]))):=fun a ob e n=>by
  rw[aM n]
  exact ak hop _ _ _ (k2 _ _ (a01 _ _ e) n)
 have z5:(upd (upd H2 op (.lst [])) x (.ins C d (L2.dJ "openings" (.ref op) [("states",.ref st)]))) z=some (.lst []):=by rw[aM nzx];exact ak hop _ _ _ z2
 have s5:(upd (upd H2 op (.lst [])) x (.ins C d (L2.dJ "openings" (.ref op) [("states",.ref st)]))) st=some (.lst [.ref z]):=by rw[aM Qn];exact ak hop _ _ _ b2
 have o5:(upd (upd H2 op (.lst [])) x (.ins C d (L2.dJ "openings" (.ref op) [("states",.ref st)]))) op=some (.lst []):=by rw[aM En];exact ah
 have x5:(upd (upd H2 op (.lst [])) x (.ins C d (L2.dJ "openings" (.ref op) [("states",.ref st)]))) x=some (.ins C d [("states",.ref st),("openings",.ref op)]):=ah
 generalize upd (upd H2 op (.lst [])) x (.ins C d (L2.dJ "openings" (.ref op) [("states",.ref st)]))=H5 at k5 z5 s5 o5 x5
 refine k st op z _ ⟨.inl rfl,.inr (.inl rfl),.inr (.inr (.inl rfl)),fun a w=>?_,x5,⟨[z],s5,.cons ⟨.inr (.inr (.inr rfl)),nzs,nzo,[],z5,.nil⟩ .nil⟩,o5,nso,⟨⟨[],rfl,rfl⟩,fun s o e=>(by cases s <;> cases e),fun m rows e=>?_⟩⟩ k5 (bK a0 hst) ?_ hz
 ·rcases w with rfl|rfl|rfl|rfl
  ·exact⟨_,x5⟩
  ·exact⟨_,s5⟩
  ·exact⟨_,o5⟩
  ·exact⟨_,z5⟩
 ·match m,e with
  | 0,e=>cases e;exact jj _
  | m+1,e=>cases e
 ·exact bK a01 (kH k2 En hop)
theorem nI{f C:Addr}{fd:FuncData}(F:iJ K "now" "Shelf.now" dc f fd)(T:qT mg)(cl:AZ K C)(n1:bh K C "states"):aH P w K mg base cK 1 f fd gy (CC C):=by
 refine F.ok Fy (fun vs H Q E h=>?_) (fun cdv A outer s H vs Q E hr h=>?_)
 ·obtain⟨x,d,st,op,as,rfl,_⟩:=h
  rfl
 obtain⟨x,d,st,op,as,rfl,hx,hs,k⟩:=h
 refine⟨_,(au (aP (bw iu (bL cY rfl T.rF PySem.boot_len (af (cW (pv 0) rfl) aj)) aC))),?_⟩
 exact⟨_,rfl,x,C,d,_,.ref st,rfl,hx,cl,n1,rfl,st,_,rfl,.inl (b8.of hs),_,_,rfl,rfl,k⟩
theorem uG{f C:Addr}{fd:FuncData}(F:iJ K "many" "Shelf.many" dZ f fd)(T:qT mg)(cl:AZ K C)(n1:bh K C "states"):aH P w K mg base cK 1 f fd gy (Dz C):=by
 refine F.ok DA (fun vs H Q E h=>?_) (fun cdv A outer s H vs Q E hr h=>?_)
 ·obtain⟨S,x,d,st,op,past,ops,rfl,_⟩:=h
  rfl
 obtain⟨S,x,d,st,op,past,ops,rfl,W,k⟩:=h
 obtain⟨as,hs,a2⟩:=W.hs
 obtain⟨last,hl,ol⟩:=W.LR.CA
 refine⟨_,(au (aP (bL cY rfl T.rF PySem.boot_len (af (bN bM (cW (pv 0) rfl) (rZ nV aC) (fun _ _=>rfl)) aj)))),?_⟩
 obtain⟨as',a,rfl,r⟩:=W.last hs
 refine⟨_,rfl,x,C,d,_,.ref st,rfl,W.hx,cl,n1,rfl,_,rfl,st,_,_,.ref a,rfl,rfl,b8.of hs,(by rw[qd];exact kZ _ _),?_⟩
 obtain⟨_,_,_,rs,ha,al⟩:=r last hl
 refine⟨a,_,rfl,.inl (b8.of ha),?_⟩
 rw[dW,al.len,← ol]
 exact k
def Te(rows:List (List Item))(ch:Nat × List Item):List (List Item):=rows.take ch.1++[ch.2]++rows.drop (ch.1+1)
def qY(rows:List (List Item))(qD:List (Nat × List Item)):List (List Item):=qD.foldl Te rows
def Qo(rows:List (List Item))(qD:List (Nat × List Item)):Prop:=∀ (i:Nat) (ch:Nat × List Item),qD[i]?=some ch→ch.1≤(qY rows (qD.take i)).length
theorem Nq{rows:List (List Item)}{ch:Nat × List Item}(h:ch.1≤rows.length):rows.length≤(Te rows ch).length∧(Te rows ch).length≤rows.length+1:=by
 unfold Te
 rw[eT,eT,o6,List.length_drop]
 simp only[vD]
 omega
theorem CF{rows:List (List Item)}{qD:List (Nat × List Item)}{i:Nat}{ch:Nat × List Item}(h:qD[i]?=some ch):qY rows (qD.take (i+1))=Te (qY rows (qD.take i)) ch:=by
 unfold qY
 rw[take_snoc h,List.foldl_append]
 rfl
theorem Ar{rows:List (List Item)}{qD:List (Nat × List Item)}(ok:Qo rows qD):∀ i,i≤qD.length→rows.length≤(qY rows (qD.take i)).length∧(qY rows (qD.take i)).length≤rows.length+i
 | 0,_=>⟨Nat.le_refl _,jj _⟩
 | i+1,h=>by
  have e:qD[i]?=some qD[i]:=rL (by omega)
  have a:=Ar ok i (by omega)
  have b:=Nq (ok i _ e)
  rw[CF e]
  omega
theorem Uz.step{past:lC}{ops:List Int}{last rows:List (List Item)}(h:Uz past ops)(hl:past.getLast?=some last)(le:last.length≤rows.length):Uz (past++[rows]) (ops++List.replicate (rows.length-last.length) ((past.length:Nat):Int)):=by
 obtain⟨⟨l',hl',ol⟩,fit,less⟩:=h
 rw[hl]at hl'
 cases hl'
 have get:∀ (m:Nat) (r:List (List Item)),(past++[rows])[m]?=some r→past[m]?=some r∧m<past.length∨m=past.length∧r=rows:=fun m r e=>by
  by_cases c:m<past.length
  ·rw[wK c]at e
   exact .inl ⟨e,c⟩
  ·rw[A9 (by omega)]at e
   match hm:m-past.length,e with
   | 0,e=>cases e;exact .inr ⟨by omega,rfl⟩
   | k+1,e=>cases e
 refine⟨⟨rows,wN,by rw[eT,rP];omega⟩,fun s o e=>?_,fun m r e=>?_⟩
 ·by_cases c:s<ops.length
  ·rw[wK c]at e
   obtain⟨f0,f1,f2⟩:=fit s o e
   refine⟨f0,by rw[eT];simp only[vD];omega,fun m r em=>?_⟩
   rcases get m r em with ⟨q,_⟩|⟨rfl,rfl⟩
   ·exact f2 m r q
   ·constructor
    ·intro _;omega
    ·intro _;omega
  ·rw[A9 (by omega),List.getElem?_replicate]at e
   split at e
   ·cases e
    refine⟨by omega,by rw[eT];simp only[vD];omega,fun m r em=>?_⟩
    rcases get m r em with ⟨q,lt⟩|⟨rfl,rfl⟩
    ·have:=less m r q
     constructor
     ·intro z;omega
     ·intro z;omega
    ·constructor
     ·intro _;omega
     ·intro _;omega
   ·cases e
 ·rw[eT,rP]
  rcases get m r e with ⟨q,_⟩|⟨rfl,rfl⟩
  ·have:=less m r q
   omega
  ·omega
theorem cu.take{α β:Type}{R:α→β→Prop}:∀ {as:List α} {bs:List β} (n:Nat),cu R as bs→cu R (as.take n) (bs.take n)
 | _,_,0,_=>by rw[List.take_zero,List.take_zero];exact .nil
 | _,_,n+1,.nil=>.nil
 | _,_,n+1,.cons e r=>.cons e (r.take n)
theorem cu.drop{α β:Type}{R:α→β→Prop}:∀ {as:List α} {bs:List β} (n:Nat),cu R as bs→cu R (as.drop n) (bs.drop n)
 | _,_,0,h=>h
 | _,_,n+1,.nil=>.nil
 | _,_,n+1,.cons _ r=>r.drop n
theorem Fz(v:V):∀ n:Nat,(List.replicate n [v]).flatten=List.replicate n v
 | 0=>rfl
 | n+1=>by rw[rT,List.flatten_cons,Fz v n,rT];rfl
theorem Nr{H:Hp}{a:Addr}{ob:HO}(h:H a=some ob):upd H a ob=H:=by
 funext b
 by_cases e:b=a
 ·rw[e,ah,h]
 ·rw[aM e]
def Hq(H:Hp)(a:Addr)(ch:Nat × List Item):Prop:=∃ r:Addr,H a=some (.tup [.int (ch.1:Nat),.ref r])∧aW H (.ref r) ch.2
theorem Hq.same{H H':Hp}{a:Addr}{ch:Nat × List Item}(s:aJ H H'):Hq H a ch→Hq H' a ch:=fun ⟨r,h1,h2⟩=>⟨r,s _ _ h1,h2.same s⟩
inductive As(C:Addr)(vs:List V)(H:Hp)(Q:VK)(E:XK):Prop
 | mk (S:Addr→Prop) (x d st op c:Addr) (past:lC) (ops:List Int) (cs:List Addr) (qD:List (Nat × List Item)) (last:List (List Item)) (_:vs=[.ref x,.ref c]) (_:Sh C S H x d st op past ops) (_:H c=some (.lst (cs.map V.ref))) (_:cu (Hq H) cs qD) (_:past.getLast?=some last) (_:Qo last qD) (_:qD.length≤200) (_:last.length≤500) (_:past.length≤1000) (_ :
 ∀ (S':Addr→Prop) (H':Hp),Sh C S' H' x d st op (past++[qY last qD]) (ops++List.replicate ((qY last qD).length-last.length) ((past.length:Nat):Int))→(∀ a,S' a→S a∨H a=none)→(∀ a ob,H a=some ob→¬ S a→H' a=some ob)→(∀ a xs,H a=some (.tup xs)→H' a=some (.tup xs))→Q .jc H'):As C vs H Q E
theorem jH:aL ["self","changes","state","ahead","sheet","items"] ["self","changes"] (az kC):=⟨rfl,rfl,rfl,by decide +kernel,rfl,by decide +kernel,by decide +kernel⟩
theorem Bp{f C fi fN fC:Addr}{fd gN gC:FuncData}(F:iJ K "step" "Shelf.step" kC f fd)(T:qT mg)(aQ:ClsAt K mg "Shelf" C fi)(n1:bh K C "states")(n2:bh K C "openings")(iZ:aF K mg "changed" n5 Gd fC gC)(aX:aI K C "now" "Shelf.now" dc gy fN gN):aH P w K mg base cK 2 f fd Rh (As C):=by
 have Au:aH P w K mg base cK 1 _ _ Gd tS:=Aq iZ.F T
 have jA:aH P w K mg base cK 1 _ _ gy (CC C):=nI aX.F T aQ.cl n1
 refine F.ok jH (fun vs H Q E h=>?_) (fun cdv A outer s H vs Q E hr h=>?_)
 ·obtain⟨S,x,d,st,op,c,past,ops,cs,qD,last,rfl,_⟩:=h
  rfl
 obtain⟨S,x,d,st,op,c,past,ops,cs,qD,last,rfl,W,hc,a2,hl,okc,lc,ll,lp,k⟩:=h
 refine⟨_,(ao (aY (i:=2) jH.nd rfl (Or.inl rfl) (bN bM (cW (pv 0) rfl) (rZ nV aC) (fun _ _=>rfl)))
   (ao (aY (i:=3) jH.nd rfl (Or.inl rfl) (bL cY rfl T.rF PySem.boot_len (af (pv 2) aj)))
   (ao (jI PassesOwn.never rfl (eK (pv 1)) (pQ (n:=2) rfl (bR (br (i:=4) jH.nd rfl (Or.inl rfl)) (bR (br (i:=5) jH.nd rfl (Or.inl rfl)) jX)))
   (au (aY (i:=2) jH.nd rfl (Or.inl rfl) (aS iZ Au hr (af (pv 2) (af (pv 4) (af (iB jD rfl T.m7 yv (af (pv 5) aj)) aj)))))))
   (ao (bq (nu uJ wL wM dF (cW (pv 0) rfl) (af (pv 2) aj)))
   (au (wX (pv 0) (bw KC (bW (af (bS (pv 0) aQ.cl aX.mt jA (hr.mono (by decide)) aX.b .nil cZ) aj)) (bw iu (bL cY rfl T.rF PySem.boot_len (af (pv 2) aj)) (pv 3))) GR)))))),?_⟩
 obtain⟨as,hs,al⟩:=id W.hs
 obtain⟨as',a,ea,r⟩:=W.last hs
 obtain⟨Sa,na1,na2,rs,ha,ar⟩:=r last hl
 have lal:=al.len
 refine⟨_,rfl,x,C,d,_,.ref st,rfl,W.hx,aQ.cl,n1,rfl,_,rfl,st,_,_,.ref a,rfl,rfl,b8.of hs,(by rw[ea,qd];exact kZ _ _),?_⟩
 refine⟨_,rfl,a,_,rfl,.inl (b8.of ha),?_⟩
 rw[dW,ar.len]
 have hst:∀ q,H q=none→q≠st∧q≠op:=fun q hq=>⟨fun z=>(by rw[z,hs]at hq;cases hq),fun z=>(by rw[z,W.ho]at hq;cases hq)⟩
 refine⟨_,rfl,c,rfl,⟨_,b8.of hc⟩,jM (K:=K) (a:=c) (xs:=cs.map V.ref) (fun i σ H1=>∃ (u4 u5:Option V) (S1:Addr→Prop) (ai:Addr),σ=[some (.ref x),some (.ref c),some (.ref ai),some (.int (last.length:Nat)),u4,u5]∧aJ H H1∧(∀ q,S q→S1 q)∧(∀ q,S1 q→S q∨H q=none)∧(∀ q,S1 q→∃ ob,H1 q=some ob)∧Hl S1 H1 st op ai (qY last (qD.take i))) ⟨none,none,S,a,rfl,aJ.refl _,fun _ z=>z,fun _ z=>.inl z,W.al,r last hl⟩ (fun i σ H1 _ ⟨_,_,_,_,_,s,_⟩=>b8.of (s _ _ hc)) ?_ ?_⟩
 ·rintro i y σ H1 hi ⟨u4,u5,S1,ai,rfl,s1,up,sub,al1,Tf⟩
  rw[uq]at hi
  obtain⟨t,et,rfl⟩:=Option.map_eq_some_iff.mp hi
  obtain⟨ch,ech,q⟩:=a2.get et
  have il:=(List.getElem?_eq_some_iff.mp ech).1
  obtain⟨ri,ht,hri⟩:=q.same s1
  obtain⟨b,vs,eb,hb,itb⟩:=id hri
  cases eb
  obtain⟨Sai,Tg,ac5,UA,hai,UB⟩:=id Tf
  refine⟨t,_,rfl,jL.of ht,rfl,_,_,rfl,_,_,rfl,rfl,?_⟩
  refine⟨_,rfl,_,rfl,_,rfl,ri,_,rfl,.inl (b8.of hb),fun z hz=>?_⟩
  have s2:aJ H1 (upd H1 z (.lst vs)):=ak hz _
  have z2:(upd H1 z (.lst vs)) z=some (.lst vs):=ah
  generalize upd H1 z (.lst vs)=H2 at s2 z2
  have lens:=Ar okc i (by omega)
  have ac6:=okc i ch ech
  have UC:=UB.len
  refine⟨ai,z,_,ch.1,rfl,s2 _ _ hai,by rw[dW,UC];exact ac6,by rw[dW,UC];omega,fun p H3 hp3 s3 fp=>?_⟩
  have UD:=s2.trans s3
  have fz:H z=none:=bK s1 hz
  have fp':H p=none:=bK (s1.trans s2) fp
  refine⟨_,_,fun q=>S1 q∨q=z∨q=p,p,rfl,s1.trans UD,fun q z=>.inl (up q z),fun q w=>?_,fun q w=>?_,.inr (.inr rfl),(hst p fp').1,(hst p fp').2,UA.take ch.1++[z]++UA.drop (ch.1+1),?_,?_⟩
  ·rcases w with w|rfl|rfl
   ·exact sub q w
   ·exact .inr fz
   ·exact .inr fp'
  ·rcases w with w|rfl|rfl
   ·obtain⟨ob,e⟩:=al1 q w
    exact⟨ob,UD _ _ e⟩
   ·exact⟨_,s3 _ _ z2⟩
   ·exact⟨_,hp3⟩
  ·rw[hp3]
   simp only[qd,List.map_take,List.map_drop,lS,List.map_nil]
  ·rw[CF ech]
   have mv:cu (Tc (fun q=>S1 q∨q=z∨q=p) H3 st op) UA (qY last (qD.take i)):=UB.mono fun r its q=>⟨.inl q.own,q.ne,q.at'.same UD⟩
   refine ((mv.take ch.1).app (.cons ⟨.inr (.inl rfl),hst z fz,⟨z,vs,rfl,s3 _ _ z2,itb.mono fun v it q=>q.same UD⟩⟩ .nil)).app (mv.drop (ch.1+1))
 ·rintro σ H1 ⟨u4,u5,S1,ai,rfl,s1,up,sub,al1,Tf⟩
  have lcs:(cs.map V.ref).length=qD.length:=by rw[dW,a2.len]
  rw[lcs,mZ]at Tf
  have lens:=Ar okc qD.length (jj _)
  rw[mZ]at lens
  obtain⟨Sai,Tg,ac5,UA,hai,UB⟩:=id Tf
  have UC:=UB.len
  have W1:=W.same s1
  have hs1:=s1 _ _ hs
  refine⟨_,rfl,x,C,d,_,.ref st,rfl,W1.hx,aQ.cl,n1,rfl,.inl ⟨rfl,_,b8.of hs1⟩,_,rfl,st,_,_,rfl,rfl,hs1,(by rw[dW];exact aV (by omega)),?_⟩
  rw[show as.map V.ref++[.ref ai]=(as++[ai]).map V.ref by rw[qd];rfl]
  have k2:eE st H1 (upd H1 st (.lst ((as++[ai]).map V.ref))):=aN st _ _
  have st2:(upd H1 st (.lst ((as++[ai]).map V.ref))) st=some (.lst ((as++[ai]).map V.ref)):=ah
  generalize upd H1 st (.lst ((as++[ai]).map V.ref))=H2 at k2 st2
  have UE:x≠st:=gx W1.hx hs1 (by intro z;cases z)
  have nxo:x≠op:=gx W1.hx W1.ho (by intro z;cases z)
  have x2:=k2 _ _ W1.hx UE
  have o2:=k2 _ _ W1.ho W.ne.symm
  have ai2:=k2 _ _ hai Tg
  have lmn:(((as++[ai]).map V.ref).length:Int)-1=((past.length:Nat):Int):=by
   rw[dW,eT,lal]
   simp only[vD]
   omega
  refine⟨_,rfl,x,C,d,_,.ref op,rfl,x2,aQ.cl,n2,rfl,_,rfl,x,d,_,rfl,x2,rfl,x,d,st,op,_,rfl,x2,st2,?_⟩
  rw[lmn]
  refine⟨(by show 1≤sizeLine;decide),fun t2 Ij=>?_⟩
  have s3:aJ H2 (upd H2 t2 (.lst [.int (past.length:Nat)])):=ak Ij _
  have b3:(upd H2 t2 (.lst [.int (past.length:Nat)])) t2=some (.lst [.int (past.length:Nat)]):=ah
  generalize upd H2 t2 (.lst [.int (past.length:Nat)])=H3 at s3 b3
  refine⟨_,rfl,ai,_,rfl,.inl (b8.of (s3 _ _ ai2)),_,rfl,_,_,rfl,rfl,?_⟩
  rw[dW,UC]
  have ek:(((qY last qD).length:Nat):Int)-((last.length:Nat):Int)=(((qY last qD).length-last.length:Nat):Int):=by omega
  show RL _ (V.int ((((qY last qD).length:Nat):Int)-((last.length:Nat):Int))) _ _
  rw[ek]
  refine⟨t2,_,_,rfl,rfl,b3,by omega,by omega,(by simp only[vD];exact mJ (aV (by omega))),fun t3 Q3=>?_⟩
  rw[mG,Fz]
  generalize hk:(qY last qD).length-last.length=kk
  have s4:aJ H3 (upd H3 t3 (.lst (List.replicate kk (V.int (past.length:Nat))))):=ak Q3 _
  have b4:(upd H3 t3 (.lst (List.replicate kk (V.int (past.length:Nat))))) t3=some (.lst (List.replicate kk (V.int (past.length:Nat)))):=ah
  generalize upd H3 t3 (.lst (List.replicate kk (V.int (past.length:Nat))))=H4 at s4 b4
  have UG:=s3.trans s4
  have lo:ops.length≤700:=by
   obtain⟨l',hl',ol⟩:=W.LR.CA
   rw[hl]at hl'
   cases hl'
   omega
  refine⟨op,t3,_,_,rfl,rfl,UG _ _ o2,b4,(by rw[dW,rP];exact mJ (aV (by omega))),?_⟩
  rw[show ops.map V.int++List.replicate kk (V.int (past.length:Nat))=(ops++List.replicate kk ((past.length:Nat):Int)).map V.int by rw[qd,List.map_replicate]]
  have k5:eE op H4 (upd H4 op (.lst ((ops++List.replicate kk ((past.length:Nat):Int)).map V.int))):=aN op _ _
  have o5:(upd H4 op (.lst ((ops++List.replicate kk ((past.length:Nat):Int)).map V.int))) op=some (.lst ((ops++List.replicate kk ((past.length:Nat):Int)).map V.int)):=ah
  generalize upd H4 op (.lst ((ops++List.replicate kk ((past.length:Nat):Int)).map V.int))=H5 at k5 o5
  have x5:=k5 _ _ (UG _ _ x2) nxo
  refine⟨d,_,x5,(by show 2<1000;decide),?_⟩
  have e5:upd H5 x (.ins C d (L2.dJ "openings" (.ref op) ([("states",.ref st),("openings",.ref op)]:List (Str × V))))=H5:=Nr x5
  rw[e5]
  have Th:∀ q ob,H1 q=some ob→q≠st→q≠op→H5 q=some ob:=fun q ob e m1 m2=>k5 _ _ (UG _ _ (k2 _ _ e m1)) m2
  have t15:∀ q xs,H1 q=some (.tup xs)→H5 q=some (.tup xs):=fun q xs e=>Th _ _ e (gx e hs1 (by intro z;cases z)) (gx e W1.ho (by intro z;cases z))
  have QO:=k5 _ _ (UG _ _ st2) W.ne
  refine k S1 H5 ⟨up _ W.sx,up _ W.ss,up _ W.so,fun q w=>?_,x5,⟨as++[ai],QO,?_⟩,by rw[hk];exact o5,W.ne,W.LR.step hl lens.1⟩ sub (fun q ob e n=>?_) (fun q xs e=>t15 _ _ (s1 _ _ e))
  ·by_cases z1:q=st
   ·rw[z1];exact⟨_,QO⟩
   by_cases z2:q=op
   ·rw[z2];exact⟨_,o5⟩
   obtain⟨ob,e⟩:=al1 q w
   exact⟨ob,Th _ _ e z1 z2⟩
  ·refine (cu.mono (fun a rows q=>?_) al).app (.cons (Tf.fr (fun _ z=>z) (fun q ob e _ m1 m2=>Th _ _ e m1 m2) t15) .nil)
   exact q.fr up (fun q ob e _ m1 m2=>Th _ _ (s1 _ _ e) m1 m2) (fun q xs e=>t15 _ _ (s1 _ _ e))
  ·exact Th _ _ (s1 _ _ e) (fun z=>n (by rw[z];exact W.ss)) (fun z=>n (by rw[z];exact W.so))
def uc(n:Nat)(a:Int):Prop:=0≤a∧a<(n:Nat)
theorem uc.get{n:Nat}{a:Int}(h:uc n a):∃ j:Nat,a=j∧j<n:=by
 obtain⟨h0,h1⟩:=h
 exact⟨a.toNat,by omega,by omega⟩
def Bq(past:lC)(ops:List Int):Prop:=past.length≤1000∧ops.length≤1000
inductive mT(C XS:Addr)(vs:List V)(H:Hp)(Q:VK)(E:XK):Prop
 | mk (S:Addr→Prop) (x d st op:Addr) (past:lC) (ops:List Int) (s:Int) (_:vs=[.ref x,.int s]) (_:Sh C S H x d st op past ops) (_:Bq past ops) (_:qe s) (_:(uc ops.length s→Q .jc H)) (_:(¬ uc ops.length s→E (.ref XS) none H)):mT C XS vs H Q E
inductive wj(C XM:Addr)(vs:List V)(H:Hp)(Q:VK)(E:XK):Prop
 | mk (S:Addr→Prop) (x d st op:Addr) (past:lC) (ops:List Int) (m:Int) (_:vs=[.ref x,.int m]) (_:Sh C S H x d st op past ops) (_:Bq past ops) (_:qe m) (_:(uc past.length m→Q .jc H)) (_:(¬ uc past.length m→E (.ref XM) none H)):wj C XM vs H Q E
inductive Hr(C XS XM:Addr)(vs:List V)(H:Hp)(Q:VK)(E:XK):Prop
 | mk (S:Addr→Prop) (x d st op:Addr) (past:lC) (ops:List Int) (s m:Int) (_:vs=[.ref x,.int s,.int m]) (_:Sh C S H x d st op past ops) (_:Bq past ops) (_:qe s) (_:qe m) (_:(¬ uc ops.length s→E (.ref XS) none H)) (_:(uc ops.length s→¬ uc past.length m→E (.ref XM) none H)) (_ :
 ∀ (si mi:Nat) (rows:List (List Item)),s=si→m=mi→si<ops.length→past[mi]?=some rows→(rows.length≤si→E (.ref XS) none H)∧(si<rows.length→Q .jc H)):Hr C XS XM vs H Q E
def Told(H:Hp)(its:List Item)(Q:V→Hp→Prop):Prop:=∀ (q:Addr) (H':Hp),aW H' (.ref q) its→aJ H H'→H q=none→Q (.ref q) H'
inductive LS(C XS:Addr)(vs:List V)(H:Hp)(Q:VK)(E:XK):Prop
 | mk (S:Addr→Prop) (x d st op:Addr) (past:lC) (ops:List Int) (s:Int) (_:vs=[.ref x,.int s]) (_:Sh C S H x d st op past ops) (_:Bq past ops) (_:qe s) (_:(∀ (si:Nat) (last:List (List Item)) (its:List Item),s=si→past.getLast?=some last→last[si]?=some its→Told H its Q)) (_:(¬ uc ops.length s→E (.ref XS) none H)):LS C XS vs H Q E
inductive xE(C XS XM:Addr)(vs:List V)(H:Hp)(Q:VK)(E:XK):Prop
 | mk (S:Addr→Prop) (x d st op:Addr) (past:lC) (ops:List Int) (s m:Int) (_:vs=[.ref x,.int s,.int m]) (_:Sh C S H x d st op past ops) (_:Bq past ops) (_:qe s) (_:qe m) (_:(¬ uc ops.length s→E (.ref XS) none H)) (_:(uc ops.length s→¬ uc past.length m→E (.ref XM) none H)) (_ :
 ∀ (si mi:Nat) (rows:List (List Item)),s=si→m=mi→si<ops.length→past[mi]?=some rows→(rows.length≤si→E (.ref XS) none H)∧(∀ its,rows[si]?=some its→Told H its Q)):xE C XS XM vs H Q E
def Nt(H H':Hp)(q:Addr)(rows:List (List Item)):Prop:=H q=none∧∃ rs:List Addr,H' q=some (.lst (rs.map V.ref))∧cu (fun r its=>H r=none∧r≠q∧aW H' (.ref r) its) rs rows
inductive vg(C XM:Addr)(vs:List V)(H:Hp)(Q:VK)(E:XK):Prop
 | mk (S:Addr→Prop) (x d st op:Addr) (past:lC) (ops:List Int) (m:Int) (_:vs=[.ref x,.int m]) (_:Sh C S H x d st op past ops) (_:Bq past ops) (_:qe m) (_:(∀ (mi:Nat) (rows:List (List Item)),m=mi→past[mi]?=some rows→∀ (q:Addr) (H':Hp),Nt H H' q rows→aJ H H'→Q (.ref q) H')) (_:(¬ uc past.length m→E (.ref XM) none H)):vg C XM vs H Q E
inductive sJ(C:Addr)(vs:List V)(H:Hp)(Q:VK)(E:XK):Prop
 | mk (S:Addr→Prop) (x d st op:Addr) (past:lC) (ops:List Int) (_:vs=[.ref x]) (_:Sh C S H x d st op past ops) (_:Bq past ops) (_:(∀ (rows:List (List Item)),past.getLast?=some rows→∀ (q:Addr) (H':Hp),Nt H H' q rows→aJ H H'→Q (.ref q) H')):sJ C vs H Q E
theorem ud:aL ["self","sheet"] ["self","sheet"] (az b5):=⟨rfl,rfl,rfl,by decide +kernel,rfl,by decide +kernel,by decide +kernel⟩
theorem sL:aL ["self","moment"] ["self","moment"] (az bJ):=⟨rfl,rfl,rfl,by decide +kernel,rfl,by decide +kernel,by decide +kernel⟩
theorem vh:aL ["self","sheet","moment"] ["self","sheet","moment"] (az cA):=⟨rfl,rfl,rfl,by decide +kernel,rfl,by decide +kernel,by decide +kernel⟩
theorem FA:aL ["self","sheet"] ["self","sheet"] (az n6):=⟨rfl,rfl,rfl,by decide +kernel,rfl,by decide +kernel,by decide +kernel⟩
theorem xF:aL ["self","sheet","moment"] ["self","sheet","moment"] (az dH):=⟨rfl,rfl,rfl,by decide +kernel,rfl,by decide +kernel,by decide +kernel⟩
theorem wm:aL ["self","moment"] ["self","moment"] (az dN):=⟨rfl,rfl,rfl,by decide +kernel,rfl,by decide +kernel,by decide +kernel⟩
theorem DB:aL ["self"] ["self"] (az mO):=⟨rfl,rfl,rfl,by decide +kernel,rfl,by decide +kernel,by decide +kernel⟩
structure OC(K:PySem.W.Frag)(mg:Str→Option Value)(C XS XM:Addr):Prop where
 T:qT mg
 c:∃ fi,ClsAt K mg "Shelf" C fi
 n1:bh K C "states"
 n2:bh K C "openings"
 zs:qR K mg "NoSheet" XS
 zm:qR K mg "NoMoment" XM
theorem cU{f C XS XM fM:Addr}{fd gM:FuncData}(F:iJ K "check_sheet" "Shelf.check_sheet" b5 f fd)(M:OC K mg C XS XM)(bI:aI K C "many" "Shelf.many" dZ gy fM gM):aH P w K mg base (iM P w) 2 f fd tX (mT C XS):=by
 obtain⟨T,⟨fi,aQ⟩,n1,n2,bY,bQ⟩:=M
 have pJ:aH P w K mg base cK 1 _ _ gy (Dz C):=uG bI.F T aQ.cl n1
 refine yX F ud (fun vs H Q E h=>?_) (fun cdv A outer s H vs Q E hr h=>?_)
 ·obtain⟨S,x,d,st,op,past,ops,a,rfl,_⟩:=h
  rfl
 obtain⟨S,x,d,st,op,past,ops,a,rfl,W,ok,fa,k1,k2⟩:=h
 refine⟨_,(au (cC (j7 (zA lQ BF aC (pv 1) (bS (pv 0) aQ.cl bI.mt pJ (hr.mono (by decide)) bI.b .nil cZ)))
   (au (oj PySem.F.excBase_ValueError bY.x bY.m rfl uR (af (qQ (lg (lW (pv 1) (lg (lW (bS (pv 0) aQ.cl bI.mt pJ (hr.mono (by decide)) bI.b .nil cZ) uS))))) aj)))
   bF)),?_⟩
 have fl:qe ((ops.length:Nat):Int):=⟨by have:=ok.2;omega,by have:=ok.2;omega⟩
 refine⟨_,rfl,_,_,rfl,rfl,_,rfl,gP (fun c0=>?_) (fun c0=>⟨_,rfl,iR ⟨_,rfl,a,rfl,fa.log,_,rfl,x,d,_,rfl,W.hx,rfl,S,x,d,st,op,past,ops,rfl,W,_,rfl,fl.log,fun y=>⟨(by show 1≤sizeLine;decide),k2 fun iw=>c0 (decide_eq_true iw.1)⟩⟩⟩)⟩
 refine⟨_,rfl,x,d,_,rfl,W.hx,rfl,S,x,d,st,op,past,ops,rfl,W,_,_,rfl,rfl,_,rfl,?_⟩
 by_cases iw:uc ops.length a
 ·rw[decide_eq_true iw.2]
  exact eU (k1 iw)
 ·rw[decide_eq_false (fun z=>iw ⟨of_decide_eq_true c0,z⟩)]
  exact iR ⟨_,rfl,a,rfl,fa.log,_,rfl,x,d,_,rfl,W.hx,rfl,S,x,d,st,op,past,ops,rfl,W,_,rfl,fl.log,fun y=>⟨(by show 1≤sizeLine;decide),k2 iw⟩⟩
theorem lR{f C XS XM fN:Addr}{fd gN:FuncData}(F:iJ K "check_moment" "Shelf.check_moment" bJ f fd)(M:OC K mg C XS XM)(aX:aI K C "now" "Shelf.now" dc gy fN gN):aH P w K mg base (iM P w) 2 f fd F8 (wj C XM):=by
 obtain⟨T,⟨fi,aQ⟩,n1,n2,bY,bQ⟩:=M
 have jA:aH P w K mg base cK 1 _ _ gy (CC C):=nI aX.F T aQ.cl n1
 refine yX F sL (fun vs H Q E h=>?_) (fun cdv A outer s H vs Q E hr h=>?_)
 ·obtain⟨S,x,d,st,op,past,ops,a,rfl,_⟩:=h
  rfl
 obtain⟨S,x,d,st,op,past,ops,a,rfl,W,ok,fa,k1,k2⟩:=h
 obtain⟨as,hs,al⟩:=W.hs
 have la:(as.map V.ref).length=past.length:=by rw[dW,al.len]
 refine⟨_,(au (cC (j7 (zA lQ lQ aC (pv 1) (bS (pv 0) aQ.cl aX.mt jA (hr.mono (by decide)) aX.b .nil cZ)))
   (au (oj PySem.F.excBase_ValueError bQ.x bQ.m rfl uR (af (qQ (lg (lW (pv 1) (lg (lW (bS (pv 0) aQ.cl aX.mt jA (hr.mono (by decide)) aX.b .nil cZ) uS))))) aj)))
   bF)),?_⟩
 have fl:qe (((as.map V.ref).length:Int)-1):=⟨by rw[la];have:=ok.1;omega,by rw[la];have:=ok.1;omega⟩
 refine⟨_,rfl,_,_,rfl,rfl,_,rfl,gP (fun c0=>?_) (fun c0=>⟨_,rfl,iR ⟨_,rfl,a,rfl,fa.log,_,rfl,x,d,_,rfl,W.hx,rfl,x,d,st,op,_,rfl,W.hx,hs,_,rfl,fl.log,fun y=>⟨(by show 1≤sizeLine;decide),k2 fun iw=>c0 (decide_eq_true iw.1)⟩⟩⟩)⟩
 refine⟨_,rfl,x,d,_,rfl,W.hx,rfl,x,d,st,op,_,rfl,W.hx,hs,_,_,rfl,rfl,_,rfl,?_⟩
 by_cases iw:uc past.length a
 ·rw[decide_eq_true (show a≤((as.map V.ref).length:Int)-1 by rw[la];have:=iw.2;omega)]
  exact eU (k1 iw)
 ·rw[decide_eq_false (show ¬ a≤((as.map V.ref).length:Int)-1 by rw[la];exact fun z=>iw ⟨of_decide_eq_true c0,by omega⟩)]
  exact iR ⟨_,rfl,a,rfl,fa.log,_,rfl,x,d,_,rfl,W.hx,rfl,x,d,st,op,_,rfl,W.hx,hs,_,rfl,fl.log,fun y=>⟨(by show 1≤sizeLine;decide),k2 iw⟩⟩
theorem ue{f C XS XM fM fN fs fm:Addr}{fd gM gN gs gm:FuncData}(F:iJ K "check_then" "Shelf.check_then" cA f fd)(M:OC K mg C XS XM)(bI:aI K C "many" "Shelf.many" dZ gy fM gM)(aX:aI K C "now" "Shelf.now" dc gy fN gN)(aA:aI K C "check_sheet" "Shelf.check_sheet" b5 tX fs gs)(aT:aI K C "check_moment" "Shelf.check_moment" bJ F8 fm gm):aH P w K mg base (iM P w) 3 f fd vA (Hr C XS XM):=by
 have bz:aH P w K mg base (iM P w) 2 _ _ tX (mT C XS):=cU aA.F M bI
 have jK:aH P w K mg base (iM P w) 2 _ _ F8 (wj C XM):=lR aT.F M aX
 obtain⟨T,⟨fi,aQ⟩,n1,n2,bY,bQ⟩:=M
 refine yX F vh (fun vs H Q E h=>?_) (fun cdv A outer s H vs Q E hr h=>?_)
 ·obtain⟨S,x,d,st,op,past,ops,a,m,rfl,_⟩:=h
  rfl
 obtain⟨S,x,d,st,op,past,ops,a,m,rfl,W,ok,fa,fm,k1,k2,k3⟩:=h
 refine⟨_,(ao (bq (bC (pv 0) aQ.cl aA.mt bz (hr.mono (by decide)) aA.b .nil fQ (af (pv 1) aj)))
   (ao (bq (bC (pv 0) aQ.cl aT.mt jK (hr.mono (by decide)) aT.b .nil fQ (af (pv 2) aj)))
   (au (cC (bP BF (pv 2) (bN bM (cW (pv 0) rfl) (pv 1) (fun _ _=>rfl)) (bU _))
   (au (oj PySem.F.excBase_ValueError bY.x bY.m rfl uR (af (qQ (lg (lW (pv 1) (lg (lW (pv 2) uS))))) aj)))
   bF)))),?_⟩
 refine⟨_,rfl,x,d,_,rfl,W.hx,rfl,_,rfl,S,x,d,st,op,past,ops,a,rfl,W,ok,fa,fun ia=>?_,k1⟩
 refine⟨_,rfl,x,d,_,rfl,W.hx,rfl,_,rfl,S,x,d,st,op,past,ops,m,rfl,W,ok,fm,fun im=>?_,fun nm=>k2 ia nm⟩
 obtain⟨j,rfl,jl⟩:=ia.get
 obtain⟨i,rfl,il⟩:=im.get
 have eo:ops[j]?=some ops[j]:=rL jl
 have er:past[i]?=some past[i]:=rL il
 obtain⟨_,_,fit⟩:=W.LR.fit j _ eo
 have iff:=fit i _ er
 obtain⟨k4,k5⟩:=k3 j i _ rfl rfl jl er
 refine⟨_,rfl,_,rfl,x,C,d,_,.ref op,rfl,W.hx,aQ.cl,n2,rfl,_,rfl,op,_,_,_,rfl,rfl,b8.of W.ho,gO (by rw[uq,eo];rfl),_,_,rfl,rfl,_,rfl,gP (fun c0=>?_) (fun c0=>?_)⟩
 ·have c1:((i:Nat):Int)<ops[j]:=of_decide_eq_true c0
  exact⟨_,rfl,_,rfl,fa.log,_,rfl,_,rfl,fm.log,fun y=>⟨(by show 1≤sizeLine;decide),k4 (by omega)⟩⟩
 ·have c1:¬ ((i:Nat):Int)<ops[j]:=fun z=>c0 (decide_eq_true z)
  exact k5 (by omega)
theorem Sh.at'{C:Addr}{S:Addr→Prop}{H:Hp}{x d st op:Addr}{past:lC}{ops:List Int}(h:Sh C S H x d st op past ops){as:List Addr}(ha:H st=some (.lst (as.map V.ref))){i:Nat}{rows:List (List Item)}(e:past[i]?=some rows):∃ a,as[i]?=some a∧Hl S H st op a rows:=by
 obtain⟨bs,hb,a2⟩:=h.hs
 have e':as=bs:=by
  rw[ha]at hb
  exact Ao (HO.lst.inj (rN hb))
 subst e'
 exact a2.get' e
theorem Sh.OD{C:Addr}{S:Addr→Prop}{H:Hp}{x d st op:Addr}{past:lC}{ops:List Int}(h:Sh C S H x d st op past ops):∃ last,past.getLast?=some last∧past[past.length-1]?=some last∧ops.length=last.length:=by
 obtain⟨last,hl,ol⟩:=h.LR.CA
 refine⟨last,hl,?_,ol⟩
 rw[List.getLast?_eq_getElem?]at hl
 exact hl
theorem DC{f C XS XM fM fs:Addr}{fd gM gs:FuncData}(F:iJ K "row" "Shelf.row" n6 f fd)(M:OC K mg C XS XM)(bI:aI K C "many" "Shelf.many" dZ gy fM gM)(aA:aI K C "check_sheet" "Shelf.check_sheet" b5 tX fs gs):aH P w K mg base (iM P w) 3 f fd tX (LS C XS):=by
 have bz:aH P w K mg base (iM P w) 2 _ _ tX (mT C XS):=cU aA.F M bI
 obtain⟨T,⟨fi,aQ⟩,n1,n2,bY,bQ⟩:=M
 refine yX F FA (fun vs H Q E h=>?_) (fun cdv A outer s H vs Q E hr h=>?_)
 ·obtain⟨S,x,d,st,op,past,ops,a,rfl,_⟩:=h
  rfl
 obtain⟨S,x,d,st,op,past,ops,a,rfl,W,ok,fa,k1,k2⟩:=h
 refine⟨_,(ao (bq (bC (pv 0) aQ.cl aA.mt bz (hr.mono (by decide)) aA.b .nil fQ (af (pv 1) aj)))
   (au (aP (iB jD rfl T.m7 yv (af (bN bM (bN bM (cW (pv 0) rfl) (rZ nV aC) (fun _ _=>rfl)) (pv 1) (fun _ _=>rfl)) aj))))),?_⟩
 refine⟨_,rfl,x,d,_,rfl,W.hx,rfl,_,rfl,S,x,d,st,op,past,ops,a,rfl,W,ok,fa,fun ia=>?_,k2⟩
 obtain⟨j,rfl,jl⟩:=ia.get
 obtain⟨as,hs,al⟩:=id W.hs
 obtain⟨as',b,ea,r⟩:=W.last hs
 obtain⟨last,hl,_,ol⟩:=W.OD
 obtain⟨_,_,_,rs,hb,ar⟩:=r last hl
 have el:last[j]?=some last[j]:=rL (by omega)
 obtain⟨ri,Ti,rw'⟩:=ar.get' el
 obtain⟨c,vs,ec,hc,it⟩:=rw'.at'
 cases ec
 refine⟨_,rfl,x,C,d,_,.ref st,rfl,W.hx,aQ.cl,n1,rfl,_,rfl,st,_,_,.ref b,rfl,rfl,b8.of hs,(by rw[ea,qd];exact kZ _ _),_,rfl,b,_,_,.ref ri,rfl,rfl,b8.of hb,gO (by rw[uq,Ti];rfl),ri,_,rfl,.inl (b8.of hc),fun q hq=>?_⟩
 exact k1 j last _ rfl hl el q _ ⟨q,vs,rfl,ah,it.mono fun v i z=>z.same (ak hq _)⟩ (ak hq _) hq
theorem wo{f C XS XM fM fN fs fm ft:Addr}{fd gM gN gs gm gt:FuncData}(F:iJ K "row_then" "Shelf.row_then" dH f fd)(M:OC K mg C XS XM)(bI:aI K C "many" "Shelf.many" dZ gy fM gM)(aX:aI K C "now" "Shelf.now" dc gy fN gN)(aA:aI K C "check_sheet" "Shelf.check_sheet" b5 tX fs gs)(aT:aI K C "check_moment" "Shelf.check_moment" bJ F8 fm gm)(dB:aI K C "check_then" "Shelf.check_then" cA vA ft gt):aH P w K mg base (iM P w) 4 f fd vA (xE C XS XM):=by
 have wu:aH P w K mg base (iM P w) 3 _ _ vA (Hr C XS XM):=ue dB.F M bI aX aA aT
 obtain⟨T,⟨fi,aQ⟩,n1,n2,bY,bQ⟩:=M
 refine yX F xF (fun vs H Q E h=>?_) (fun cdv A outer s H vs Q E hr h=>?_)
 ·obtain⟨S,x,d,st,op,past,ops,a,m,rfl,_⟩:=h
  rfl
 obtain⟨S,x,d,st,op,past,ops,a,m,rfl,W,ok,fa,fm,k1,k2,k3⟩:=h
 obtain⟨as,hs,al⟩:=id W.hs
 refine⟨_,(ao (bq (bC (pv 0) aQ.cl dB.mt wu (hr.mono (by decide)) dB.b .nil fQ (af (pv 1) (af (pv 2) aj))))
   (au (aP (iB jD rfl T.m7 yv (af (bN bM (bN bM (cW (pv 0) rfl) (pv 2) (fun _ _=>rfl)) (pv 1) (fun _ _=>rfl)) aj))))),?_⟩
 refine⟨_,rfl,x,d,_,rfl,W.hx,rfl,_,rfl,_,rfl,S,x,d,st,op,past,ops,a,m,rfl,W,ok,fa,fm,k1,k2,fun j i rows ej ei jl er=>⟨(k3 j i rows ej ei jl er).1,fun jr=>?_⟩⟩
 subst ej ei
 obtain⟨b,eb,_,_,_,rs,hb,ar⟩:=W.at' hs er
 have el:rows[j]?=some rows[j]:=rL jr
 obtain⟨ri,Ti,rw'⟩:=ar.get' el
 obtain⟨c,vs,ec,hc,it⟩:=rw'.at'
 cases ec
 refine⟨_,rfl,x,C,d,_,.ref st,rfl,W.hx,aQ.cl,n1,rfl,_,rfl,st,_,_,.ref b,rfl,rfl,b8.of hs,gO (by rw[uq,eb];rfl),_,rfl,b,_,_,.ref ri,rfl,rfl,b8.of hb,gO (by rw[uq,Ti];rfl),ri,_,rfl,.inl (b8.of hc),fun q hq=>?_⟩
 exact (k3 j i rows rfl rfl jl er).2 _ el q _ ⟨q,vs,rfl,ah,it.mono fun v i z=>z.same (ak hq _)⟩ (ak hq _) hq
theorem vj{f C XS XM fN fm:Addr}{fd gN gm:FuncData}(F:iJ K "rows_then" "Shelf.rows_then" dN f fd)(M:OC K mg C XS XM)(aX:aI K C "now" "Shelf.now" dc gy fN gN)(aT:aI K C "check_moment" "Shelf.check_moment" bJ F8 fm gm):aH P w K mg base (iM P w) 3 f fd F8 (vg C XM):=by
 have jK:aH P w K mg base (iM P w) 2 _ _ F8 (wj C XM):=lR aT.F M aX
 obtain⟨T,⟨fi,aQ⟩,n1,n2,bY,bQ⟩:=M
 refine yX F wm (fun vs H Q E h=>?_) (fun cdv A outer s H vs Q E hr h=>?_)
 ·obtain⟨S,x,d,st,op,past,ops,m,rfl,_⟩:=h
  rfl
 obtain⟨S,x,d,st,op,past,ops,m,rfl,W,ok,fm,k1,k2⟩:=h
 obtain⟨as,hs,al⟩:=id W.hs
 refine⟨_,(ao (bq (bC (pv 0) aQ.cl aT.mt jK (hr.mono (by decide)) aT.b .nil fQ (af (pv 1) aj)))
   (au (aP (sE (N:=["items"]) (zS (sc:=az dN) (NX:=["self","moment"]) (jx:=[none]) rfl rfl rfl (by decide +kernel) (by decide +kernel) rfl (by decide +kernel) rfl (by decide +kernel)) rfl (eK (bN bM (cW (pv 0) rfl) (pv 1) (fun _ _=>rfl))) (fun _ _ _ _ _ _=>(br (i:=0) (show List.Nodup (["items"]:List Str) by decide +kernel) rfl (Or.inl rfl))) (fun _ _ _ _ _ _=>nE) (fun _ _ _ _ _ _=>(iB GQ rfl T.m7 yv (af (pv 0) aj))))))),?_⟩
 refine⟨_,rfl,x,d,_,rfl,W.hx,rfl,_,rfl,S,x,d,st,op,past,ops,m,rfl,W,ok,fm,fun im=>?_,k2⟩
 obtain⟨i,rfl,il⟩:=im.get
 have er:past[i]?=some past[i]:=rL il
 generalize past[i]=rows at er
 obtain⟨b,eb,_,_,_,rs,hb,ar⟩:=W.at' hs er
 have lr:=ar.len
 have lo:=W.LR.less i rows er
 have ok2:=ok.2
 refine⟨_,rfl,x,C,d,_,.ref st,rfl,W.hx,aQ.cl,n1,rfl,_,rfl,st,_,_,.ref b,rfl,rfl,b8.of hs,gO (by rw[uq,eb];rfl),?_⟩
 refine⟨b,rfl,⟨_,b8.of hb⟩,fun acc hacc=>ou (K:=K) (a:=b) (xs:=rs.map V.ref) (fun j σ H1=>∃ (u:Option V) (qs:List Addr),σ=[u]∧H1 acc=some (.lst (qs.map V.ref))∧aJ H H1∧cu (fun r its=>H r=none∧r≠acc∧aW H1 (.ref r) its) qs (rows.take j)) ⟨none,[],rfl,ah,ak hacc _,by rw[List.take_zero];exact .nil⟩ (fun j σ H1 _ ⟨_,_,_,_,s,_⟩=>b8.of (s _ _ hb)) ?_ ?_⟩
 ·rintro j y σ H1 hj ⟨u,qs,rfl,ha,s1,aq⟩
  rw[uq]at hj
  obtain⟨ri,Ti,rfl⟩:=Option.map_eq_some_iff.mp hj
  obtain⟨its,ac9,rw'⟩:=ar.get Ti
  obtain⟨c,vs,ec,hc,it⟩:=rw'.at'
  cases ec
  refine⟨_,rfl,ri,_,rfl,.inl (b8.of (s1 _ _ hc)),fun z hz=>⟨_,ak hz _ _ _ ha,?_,_,qs++[z],rfl,?_,?_,?_⟩⟩
  ·have:=aq.len
   rw[o6]at this
   rw[dW]
   exact aV (by omega)
  ·rw[ah,qd]
   rfl
  ·intro q ob e
   rw[aM (ay e hacc)]
   exact ak hz _ _ _ (s1 _ _ e)
  ·have nza:z≠acc:=(ay ha hz).symm
   have fr:∀ q ob,H1 q=some ob→q≠acc→(upd (upd H1 z (.lst vs)) acc (.lst (qs.map V.ref++[.ref z]))) q=some ob:=fun q ob e n=>by
    rw[aM n]
    exact ak hz _ _ _ e
   have tu:∀ q xs,H1 q=some (.tup xs)→(upd (upd H1 z (.lst vs)) acc (.lst (qs.map V.ref++[.ref z]))) q=some (.tup xs):=fun q xs e=>fr _ _ e (gx e ha (by intro w;cases w))
   rw[take_snoc ac9]
   refine cu.snoc (aq.mono fun r its ⟨h1,h2,h3⟩=>⟨h1,h2,h3.fr (fun xs e=>fr _ _ e h2) tu⟩) ⟨bK s1 hz,nza,z,vs,rfl,?_,it.mono fun v i ⟨q,e,hq⟩=>⟨q,e,tu _ _ (s1 _ _ hq)⟩⟩
   rw[aM nza]
   exact ah
 ·rintro σ H1 ⟨u,qs,rfl,ha,s1,aq⟩
  rw[dW,lr,mZ]at aq
  exact k1 i rows rfl er acc H1 ⟨hacc,qs,ha,aq⟩ s1
theorem je{f C XS XM fN fm fr:Addr}{fd gN gm gr:FuncData}(F:iJ K "rows" "Shelf.rows" mO f fd)(M:OC K mg C XS XM)(aX:aI K C "now" "Shelf.now" dc gy fN gN)(aT:aI K C "check_moment" "Shelf.check_moment" bJ F8 fm gm)(iH:aI K C "rows_then" "Shelf.rows_then" dN F8 fr gr):aH P w K mg base cK 4 f fd gy (sJ C):=by
 have xG:aH P w K mg base (iM P w) 3 _ _ F8 (vg C XM):=vj iH.F M aX aT
 obtain⟨T,⟨fi,aQ⟩,n1,n2,bY,bQ⟩:=M
 have jA:aH P w K mg base cK 1 _ _ gy (CC C):=nI aX.F T aQ.cl n1
 refine F.ok DB (fun vs H Q E h=>?_) (fun cdv A outer s H vs Q E hr h=>?_)
 ·obtain⟨S,x,d,st,op,past,ops,rfl,_⟩:=h
  rfl
 obtain⟨S,x,d,st,op,past,ops,rfl,W,ok,k⟩:=h
 obtain⟨as,hs,al⟩:=id W.hs
 obtain⟨last,hl,hl2,_⟩:=W.OD
 have lp:past.length-1<past.length:=(List.getElem?_eq_some_iff.mp hl2).1
 have Qi:=ok.1
 have la:(((as.map V.ref).length:Nat):Int)-1=((past.length-1:Nat):Int):=by rw[dW,al.len];omega
 refine⟨_,(au (aP (bC (pv 0) aQ.cl iH.mt xG (hr.mono (by decide)) iH.b .nil qq (af (bS (pv 0) aQ.cl aX.mt jA (hr.mono (by decide)) aX.b .nil cZ) aj)))),?_⟩
 refine⟨_,rfl,x,d,_,rfl,W.hx,rfl,_,rfl,x,d,_,rfl,W.hx,rfl,x,d,st,op,_,rfl,W.hx,hs,?_⟩
 rw[la]
 refine⟨S,x,d,st,op,past,ops,_,rfl,W,ok,⟨by omega,by omega⟩,fun mi rows em er q H1 fs s1=>?_,fun nm=>absurd ⟨by omega,by omega⟩ nm⟩
 have:mi=past.length-1:=by omega
 subst this
 rw[hl2]at er
 cases er
 exact k last hl q H1 fs s1
inductive wz(C:Addr)(vs:List V)(H:Hp)(Q:VK)(E:XK):Prop
 | mk (x d:Addr) (_:vs=[.ref x]) (_:H x=some (.ins C d [])) (_: ∀ (fs:List (Str × V)) (H':Hp),H' x=some (.ins C d fs)→eE x H H'→Q .jc H'):wz C vs H Q E
theorem yD:aL ["self"] ["self"] (az jo):=⟨rfl,rfl,rfl,by decide +kernel,rfl,by decide +kernel,by decide +kernel⟩
theorem yE:aL ["self"] ["self"] (az jq):=⟨rfl,rfl,rfl,by decide +kernel,rfl,by decide +kernel,by decide +kernel⟩
theorem FD{x z:Addr}{H:Hp}{o o':HO}(hz:H z=none):eE x H (upd (upd H z o) x o'):=fun a ob e n=>by
 rw[aM n]
 exact ak hz o a ob e
theorem xH{f C:Addr}{fd:FuncData}(F:iJ K "__init__" "Dues.__init__" jq f fd)(cl:AZ K C)(n1:bh K C "sums"):aH P w K mg base cK 1 f fd gy (wz C):=by
 refine F.ok yE (fun vs H Q E h=>?_) (fun cdv A outer s H vs Q E hr h=>?_)
 ·obtain⟨x,d,rfl,_⟩:=h
  rfl
 obtain⟨x,d,rfl,hx,k⟩:=h
 refine⟨_,(au (j8 (pv 0) oq rfl)),?_⟩
 intro z hz
 exact⟨_,rfl,x,C,d,_,rfl,ak hz _ _ _ hx,cl,n1,by decide,k _ _ ah (FD hz)⟩
theorem xJ{f C:Addr}{fd:FuncData}(F:iJ K "__init__" "Ties.__init__" jo f fd)(cl:AZ K C)(n1:bh K C "given")(n2:bh K C "pairs"):aH P w K mg base cK 1 f fd gy (wz C):=by
 refine F.ok yD (fun vs H Q E h=>?_) (fun cdv A outer s H vs Q E hr h=>?_)
 ·obtain⟨x,d,rfl,_⟩:=h
  rfl
 obtain⟨x,d,rfl,hx,k⟩:=h
 refine⟨_,(ao (j8 (pv 0) aC rfl)
   (au (j8 (pv 0) oq rfl))),?_⟩
 refine⟨_,rfl,x,C,d,_,rfl,hx,cl,n1,by decide,?_⟩
 have k1:eE x H (upd H x (.ins C d (L2.dJ "given" (.int 0) []))):=aN x _ _
 have h1:(upd H x (.ins C d (L2.dJ "given" (.int 0) []))) x=some (.ins C d (L2.dJ "given" (.int 0) [])):=ah
 generalize upd H x (.ins C d (L2.dJ "given" (.int 0) []))=H1 at k1 h1
 intro z hz
 exact⟨_,rfl,x,C,d,_,rfl,ak hz _ _ _ h1,cl,n2,(by show 1<1000;decide),k _ _ ah (k1.trans (FD hz))⟩
def Mh(aR:um):List V:=aR.map fun p=>M7 p.2
def hds(aR:um):List V:=aR.map fun p=>V.int p.1
def vm(h:Int)(cs:List Nat):um:=cs.map fun c=>(h,c)
theorem IB(h:Int)(cs:List Nat):(vm h cs).length=cs.length:=dW ..
theorem Nu(aR:um)(h:Int)(cs:List Nat):Mh (aR++vm h cs)=Mh aR++cs.map M7:=by
 unfold Mh vm
 rw[qd,List.map_map]
 rfl
theorem DE(v:V):∀ n:Nat,(List.replicate n [v]).flatten=List.replicate n v
 | 0=>rfl
 | n+1=>by rw[rT,List.flatten_cons,DE v n,rT];rfl
theorem Nv(aR:um)(h:Int)(cs:List Nat):hds (aR++vm h cs)=hds aR++(List.replicate cs.length [V.int h]).flatten:=by
 rw[DE]
 unfold hds vm
 rw[qd,List.map_map]
 congr 1
 exact List.map_eq_replicate_iff.mpr fun c _=>rfl
def vn(h:Int):Nat→um→List Int
 | _,[]=>[]
 | i,p::r=>if p.1=h then (i:Int)::vn h (i+1) r else vn h (i+1) r
theorem oN(h:Int):∀ (a b:um) (i:Nat),vn h i (a++b)=vn h i a++vn h (i+a.length) b
 | [],b,i=>rfl
 | p::a,b,i=>by
  rw[List.cons_append,vn,vn,pP,oN h a b (i+1),show i+1+a.length=i+(a.length+1) by omega]
  split <;> rfl
theorem xK(h:Int):∀ (cs:List Nat) (i:Nat),vn h i (vm h cs)=run (i:Int) cs.length
 | [],i=>rfl
 | c::cs,i=>by
  show vn h i ((h,c)::vm h cs)=_
  rw[vn,if_pos rfl,xK h cs (i+1),pP,run,show ((i+1:Nat):Int)=(i:Int)+1 by omega]
theorem oO{h g:Int}(n:g≠h):∀ (cs:List Nat) (i:Nat),vn h i (vm g cs)=[]
 | [],i=>rfl
 | c::cs,i=>by
  show vn h i ((g,c)::vm g cs)=_
  rw[vn,if_neg n,oO n cs (i+1)]
theorem Av(a b:Int)(k:Nat)(e:b=a+k):bT [(a,b)]=run a k:=by
 show span (a,b)++[]=_
 rw[j6]
 show run a (b-a).toNat=_
 rw[show (b-a).toNat=k by omega]
structure Pw(S:Addr→Prop)(H:Hp)(s o:Addr)(n:Nat)(kvs:List (Key × V))(aR:um):Prop where
 got:∀ h v,cP kvs (Sum.inl h)=some v→∃ (l:Addr) (row:Row),v=.ref l∧S l∧l≠s∧l≠o∧cL H l row∧(∀ p∈row,p.1≤p.2)∧bT row=vn h 0 aR∧row.length≤n
 jc:∀ h,cP kvs (Sum.inl h)=none→vn h 0 aR=[]
 one:∀ h g v,cP kvs (Sum.inl h)=some v→cP kvs (Sum.inl g)=some v→h=g
 len:kvs.length≤n
structure We(C:Addr)(S:Addr→Prop)(H:Hp)(x d s o p:Addr)(n:Nat)(aR:um):Prop where
 sx:S x
 ss:S s
 so:S o
 sp:S p
 al:∀ a,S a→∃ ob,H a=some ob
 hx:H x=some (.ins C d [("signs",.ref s),("owners",.ref o),("pourings",.ref p)])
 hs:H s=some (.lst (Mh aR))
 ho:H o=some (.lst (hds aR))
 ne:s≠o
 dk:∃ kvs,H p=some (.dK kvs)∧Pw S H s o n kvs aR
theorem cL.two{H H':Hp}{r:Addr}{row:Row}(h:cL H r row)(k:∀ xs,H r=some (.lst xs)→H' r=some (.lst xs))(t:∀ a xs,H a=some (.tup xs)→H' a=some (.tup xs)):cL H' r row:=by
 obtain⟨as,h1,h2⟩:=h
 exact⟨as,k _ h1,h2.tups t⟩
theorem We.fr{C:Addr}{S:Addr→Prop}{H H':Hp}{x d s o p:Addr}{n:Nat}{aR:um}(h:We C S H x d s o p n aR)(k:∀ a ob,H a=some ob→S a→H' a=some ob)(t:∀ a xs,H a=some (.tup xs)→H' a=some (.tup xs)):We C S H' x d s o p n aR:=by
 obtain⟨sx,ss,so,sp,al,hx,hs,ho,ne,kvs,hp,pw⟩:=h
 refine⟨sx,ss,so,sp,fun a z=>?_,k _ _ hx sx,k _ _ hs ss,k _ _ ho so,ne,kvs,k _ _ hp sp,fun h v e=>?_,pw.jc,pw.one,pw.len⟩
 ·obtain⟨ob,e⟩:=al a z
  exact⟨ob,k _ _ e z⟩
 ·obtain⟨l,row,e1,e2,e3,e4,e5,r⟩:=pw.got h v e
  exact⟨l,row,e1,e2,e3,e4,e5.two (fun xs q=>k _ _ q e2) t,r⟩
theorem We.same{C:Addr}{S:Addr→Prop}{H H':Hp}{x d s o p:Addr}{n:Nat}{aR:um}(h:We C S H x d s o p n aR)(k:aJ H H'):We C S H' x d s o p n aR:=h.fr (fun a ob e _=>k a ob e) (fun a xs e=>k _ _ e)
theorem IC(aR:um):(Mh aR).length=aR.length:=dW ..
theorem Ny(aR:um):(hds aR).length=aR.length:=dW ..
theorem LV{H:Hp}{a:Addr}{ob:HO}(h:H a=some ob):upd H a ob=H:=by
 funext b
 by_cases e:b=a
 ·rw[e,ah,h]
 ·rw[aM e]
inductive DF(C:Addr)(vs:List V)(H:Hp)(Q:VK)(E:XK):Prop
 | mk (x d:Addr) (_:vs=[.ref x]) (_:H x=some (.ins C d [])) (_: ∀ (s o p:Addr) (H':Hp),We C (fun a=>a=x∨a=s∨a=o∨a=p) H' x d s o p 0 []→eE x H H'→H s=none→H o=none→H p=none→Q .jc H'):DF C vs H Q E
inductive wA(C:Addr)(vs:List V)(H:Hp)(Q:VK)(E:XK):Prop
 | mk (x d s o p:Addr) (aR:um) (_:vs=[.ref x]) (_:H x=some (.ins C d [("signs",.ref s),("owners",.ref o),("pourings",.ref p)])) (_:H s=some (.lst (Mh aR))) (_:Q (.int (aR.length:Nat)) H):wA C vs H Q E
inductive Hs(C:Addr)(vs:List V)(H:Hp)(Q:VK)(E:XK):Prop
 | mk (S:Addr→Prop) (x d s o p:Addr) (n:Nat) (aR:um) (h:Int) (cs:List Nat) (_:vs=[.ref x,.int h,.str (txt cs)]) (_:We C S H x d s o p n aR) (_:aR.length+cs.length≤100000) (_:n≤1000) (_ :
 ∀ (S':Addr→Prop) (q:Addr) (H':Hp),We C S' H' x d s o p (n+1) (aR++vm h cs)→H' q=some (.tup [.int (aR.length:Nat),.int ((aR++vm h cs).length:Nat)])→(∀ a,S' a→S a∨H a=none)→(∀ a ob,H a=some ob→¬ S a→H' a=some ob)→(∀ a xs,H a=some (.tup xs)→H' a=some (.tup xs))→Q (.ref q) H'):Hs C vs H Q E
theorem yF:aL ["self"] ["self"] (az jt):=⟨rfl,rfl,rfl,by decide +kernel,rfl,by decide +kernel,by decide +kernel⟩
theorem FE:aL ["self"] ["self"] (az ki):=⟨rfl,rfl,rfl,by decide +kernel,rfl,by decide +kernel,by decide +kernel⟩
theorem sM:aL ["self","hand","text","start","stretch"] ["self","hand","text"] (az n8):=⟨rfl,rfl,rfl,by decide +kernel,rfl,by decide +kernel,by decide +kernel⟩
theorem xM{f C:Addr}{fd:FuncData}(F:iJ K "__init__" "Well.__init__" jt f fd)(cl:AZ K C)(n1:bh K C "signs")(n2:bh K C "owners")(n3:bh K C "pourings"):aH P w K mg base cK 1 f fd gy (DF C):=by
 refine F.ok yF (fun vs H Q E h=>?_) (fun cdv A outer s H vs Q E hr h=>?_)
 ·obtain⟨x,d,rfl,_⟩:=h
  rfl
 obtain⟨x,d,rfl,hx,k⟩:=h
 refine⟨_,(ao (j8 (pv 0) (bW aj) rfl)
   (ao (j8 (pv 0) (bW aj) rfl)
   (au (j8 (pv 0) oq rfl)))),?_⟩
 refine⟨(by show 0≤sizeLine;decide),fun s hs=>?_⟩
 have a1:aJ H (upd H s (.lst [])):=ak hs _
 have b1:(upd H s (.lst [])) s=some (.lst []):=ah
 generalize upd H s (.lst [])=H1 at a1 b1
 refine⟨_,rfl,x,C,d,_,rfl,a1 _ _ hx,cl,n1,by decide,?_⟩
 have k2:eE x H1 (upd H1 x (.ins C d (L2.dJ "signs" (.ref s) []))):=aN x _ _
 have h2:(upd H1 x (.ins C d (L2.dJ "signs" (.ref s) []))) x=some (.ins C d [("signs",.ref s)]):=ah
 generalize upd H1 x (.ins C d (L2.dJ "signs" (.ref s) []))=H2 at k2 h2
 have Qn:s≠x:=(ay hx hs).symm
 have b2:=k2 _ _ b1 Qn
 refine⟨(by show 0≤sizeLine;decide),fun o ho=>?_⟩
 have a3:aJ H2 (upd H2 o (.lst [])):=ak ho _
 have c3:(upd H2 o (.lst [])) o=some (.lst []):=ah
 generalize upd H2 o (.lst [])=H3 at a3 c3
 refine⟨_,rfl,x,C,d,_,rfl,a3 _ _ h2,cl,n2,(by show 1<1000;decide),?_⟩
 have k4:eE x H3 (upd H3 x (.ins C d (L2.dJ "owners" (.ref o) [("signs",.ref s)]))):=aN x _ _
 have h4:(upd H3 x (.ins C d (L2.dJ "owners" (.ref o) [("signs",.ref s)]))) x=some (.ins C d [("signs",.ref s),("owners",.ref o)]):=ah
 generalize upd H3 x (.ins C d (L2.dJ "owners" (.ref o) [("signs",.ref s)]))=H4 at k4 h4
 have En:o≠x:=(ay h2 ho).symm
 have c4:=k4 _ _ c3 En
 have b4:=k4 _ _ (a3 _ _ b2) Qn
 intro p hp
 have UH:p≠x:=(ay h4 hp).symm
 refine⟨_,rfl,x,C,d,_,rfl,ak hp _ _ _ h4,cl,n3,(by show 2<1000;decide),?_⟩
 have k5:eE x H (upd (upd H4 p (.dK [])) x (.ins C d (L2.dJ "pourings" (.ref p) [("signs",.ref s),("owners",.ref o)]))):=fun a ob e n=>by
  rw[aM n]
  exact ak hp _ _ _ (k4 _ _ (a3 _ _ (k2 _ _ (a1 _ _ e) n)) n)
 refine k s o p _ ⟨.inl rfl,.inr (.inl rfl),.inr (.inr (.inl rfl)),.inr (.inr (.inr rfl)),fun a z=>?_,ah,?_,?_,ay b2 ho,[],?_,?_⟩ k5 hs ?_ ?_
 ·rcases z with rfl|rfl|rfl|rfl
  ·exact⟨_,ah⟩
  ·exact⟨_,by rw[aM Qn];exact ak hp _ _ _ b4⟩
  ·exact⟨_,by rw[aM En];exact ak hp _ _ _ c4⟩
  ·exact⟨_,by rw[aM UH];exact ah⟩
 ·rw[aM Qn];exact ak hp _ _ _ b4
 ·rw[aM En];exact ak hp _ _ _ c4
 ·rw[aM UH];exact ah
 ·exact⟨fun h v e=>(by cases e),fun h e=>rfl,fun h g v e=>(by cases e),jj _⟩
 ·exact bK a1 (kH k2 En ho)
 ·exact bK a1 (kH k2 UH (bK a3 (kH k4 UH hp)))
theorem qZ{f C:Addr}{fd:FuncData}(F:iJ K "size" "Well.size" ki f fd)(T:qT mg)(cl:AZ K C)(n1:bh K C "signs"):aH P w K mg base cK 1 f fd gy (wA C):=by
 refine F.ok FE (fun vs H Q E h=>?_) (fun cdv A outer s H vs Q E hr h=>?_)
 ·obtain⟨x,d,s,o,p,aR,rfl,_⟩:=h
  rfl
 obtain⟨x,d,s,o,p,aR,rfl,hx,hs,k⟩:=h
 refine⟨_,(au (aP (bL cY rfl T.rF PySem.boot_len (af (cW (pv 0) rfl) aj)))),?_⟩
 refine⟨_,rfl,x,C,d,_,.ref s,rfl,hx,cl,n1,rfl,s,_,rfl,.inl (b8.of hs),?_⟩
 rw[IC]
 exact k
theorem DG{f C fs fi:Addr}{fd gs:FuncData}(F:iJ K "pour" "Well.pour" n8 f fd)(T:qT mg)(iP:ClsAt K mg "Well" C fi)(n1:bh K C "signs")(n2:bh K C "owners")(n3:bh K C "pourings")(cI:aI K C "size" "Well.size" ki gy fs gs):aH P w K mg base cK 2 f fd NR (Hs C):=by
 have l5:aH P w K mg base cK 1 fs gs gy (wA C):=qZ cI.F T iP.cl n1
 refine F.ok sM (fun vs H Q E h=>?_) (fun cdv A outer s H vs Q E hr h=>?_)
 ·obtain⟨S,x,d,s,o,p,n,aR,h,cs,rfl,_⟩:=h
  rfl
 obtain⟨S,x,d,s,o,p,n,aR,h,cs,rfl,W,len,nn,k⟩:=h
 have hu:=qh hr
 refine⟨_,(ao (aY (i:=3) sM.nd rfl (Or.inl rfl) (bS (pv 0) iP.cl cI.mt l5 (hr.mono (by decide)) cI.b .nil cZ))
   (ao (wX (pv 0) (iB (Bh rfl) rfl T.m7 yv (af (pv 2) aj)) GR)
   (ao (wX (pv 0) (bw KC (bW (af (pv 1) aj)) (bL CZ rfl T.rF PySem.boot_len (af (pv 2) aj))) GR)
   (ao (aY (i:=4) sM.nd rfl (Or.inl rfl) (fF (af (pv 3) (af (bS (pv 0) iP.cl cI.mt l5 (hr.mono (by decide)) cI.b .nil cZ) aj))))
   (ao (bq (nu uJ wL wM dF (Lk (cW (pv 0) rfl) (pv 1) (bW aj) ⟨rfl,rfl,rfl,rfl⟩) (af (pv 4) aj)))
   (au (aP (pv 4)))))))),?_⟩
 refine⟨_,rfl,x,d,_,rfl,W.hx,rfl,x,d,s,o,p,aR,rfl,W.hx,W.hs,?_⟩
 obtain⟨sx,ss,so,sp,al,hx,hs,ho,ne,kvs,hp,pw⟩:=id W
 have UE:x≠s:=gx hx hs (by intro z;cases z)
 have nxo:x≠o:=gx hx ho (by intro z;cases z)
 have nxp:x≠p:=gx hx hp (by intro z;cases z)
 have nps:p≠s:=gx hp hs (by intro z;cases z)
 have npo:p≠o:=gx hp ho (by intro z;cases z)
 refine⟨_,rfl,x,C,d,_,.ref s,rfl,hx,iP.cl,n1,rfl,_,rfl,cs,rfl,mJ (aV (by omega)),fun t ht=>?_⟩
 have a1:aJ H (upd H t (.lst (cs.map M7))):=ak ht _
 have b1:(upd H t (.lst (cs.map M7))) t=some (.lst (cs.map M7)):=ah
 generalize upd H t (.lst (cs.map M7))=H1 at a1 b1
 refine⟨s,t,_,_,rfl,rfl,a1 _ _ hs,b1,(by rw[IC,dW];exact mJ (aV (by omega))),?_⟩
 rw[← Nu aR h cs]
 have k2:eE s H1 (upd H1 s (.lst (Mh (aR++vm h cs)))):=aN s _ _
 have s2:(upd H1 s (.lst (Mh (aR++vm h cs)))) s=some (.lst (Mh (aR++vm h cs))):=ah
 generalize upd H1 s (.lst (Mh (aR++vm h cs)))=H2 at k2 s2
 have k02:eE s H H2:=fun a ob e m=>k2 _ _ (a1 _ _ e) m
 have x2:=k02 _ _ hx UE
 refine⟨d,_,x2,(by show 3<1000;decide),?_⟩
 have e3:upd H2 x (.ins C d (L2.dJ "signs" (.ref s) ([("signs",.ref s),("owners",.ref o),("pourings",.ref p)]:List (Str × V))))=H2:=LV x2
 rw[e3]
 refine⟨_,rfl,x,C,d,_,.ref o,rfl,x2,iP.cl,n2,rfl,_,rfl,(by show 1≤sizeLine;decide),fun t2 Ij=>?_⟩
 have a3:aJ H2 (upd H2 t2 (.lst [.int h])):=ak Ij _
 have b3:(upd H2 t2 (.lst [.int h])) t2=some (.lst [.int h]):=ah
 generalize upd H2 t2 (.lst [.int h])=H3 at a3 b3
 refine⟨_,rfl,txt cs,rfl,(by rw[qS];exact mJ (aV (by omega))),?_⟩
 rw[qS]
 refine⟨t2,_,_,rfl,rfl,b3,by omega,by omega,(by simp only[vD];exact mJ (aV (by omega))),fun t3 Q3=>?_⟩
 rw[mG]
 have a4:aJ H3 (upd H3 t3 (.lst (List.replicate cs.length [V.int h]).flatten)):=ak Q3 _
 have b4:(upd H3 t3 (.lst (List.replicate cs.length [V.int h]).flatten)) t3=some (.lst (List.replicate cs.length [V.int h]).flatten):=ah
 generalize upd H3 t3 (.lst (List.replicate cs.length [V.int h]).flatten)=H4 at a4 b4
 have k04:eE s H H4:=fun a ob e m=>a4 _ _ (a3 _ _ (k02 _ _ e m))
 refine⟨o,t3,_,_,rfl,rfl,k04 _ _ ho ne.symm,b4,(by rw[Ny,DE,rP];exact mJ (aV (by omega))),?_⟩
 rw[← Nv aR h cs]
 have k5:eE o H4 (upd H4 o (.lst (hds (aR++vm h cs)))):=aN o _ _
 have o5:(upd H4 o (.lst (hds (aR++vm h cs)))) o=some (.lst (hds (aR++vm h cs))):=ah
 generalize upd H4 o (.lst (hds (aR++vm h cs)))=H5 at k5 o5
 have Tj:∀ a ob,H a=some ob→a≠s→a≠o→H5 a=some ob:=fun a ob e m m2=>k5 _ _ (k04 _ _ e m) m2
 have x5:=Tj _ _ hx UE nxo
 have s5:=k5 _ _ (a4 _ _ (a3 _ _ s2)) ne
 refine⟨d,_,x5,(by show 3<1000;decide),?_⟩
 have e5:upd H5 x (.ins C d (L2.dJ "owners" (.ref o) ([("signs",.ref s),("owners",.ref o),("pourings",.ref p)]:List (Str × V))))=H5:=LV x5
 rw[e5]
 have Vf:∀ q,H5 q=none→H q=none:=fun q hq=>by
  cases e:H q with
  | none=>rfl
  | some ob =>
   by_cases z1:q=s
   ·rw[z1,s5]at hq;cases hq
   by_cases z2:q=o
   ·rw[z2,o5]at hq;cases hq
   rw[Tj _ _ e z1 z2]at hq
   cases hq
 refine⟨_,rfl,_,rfl,x,d,_,rfl,x5,rfl,x,d,s,o,p,_,rfl,x5,s5,?_⟩
 refine⟨(by show 2≤sizeLine;decide),fun q hq=>?_⟩
 have a6:aJ H5 (upd H5 q (.tup [.int (aR.length:Nat),.int ((aR++vm h cs).length:Nat)])):=ak hq _
 have b6:(upd H5 q (.tup [.int (aR.length:Nat),.int ((aR++vm h cs).length:Nat)])) q=some (.tup [.int (aR.length:Nat),.int ((aR++vm h cs).length:Nat)]):=ah
 generalize upd H5 q (.tup [.int (aR.length:Nat),.int ((aR++vm h cs).length:Nat)])=H6 at a6 b6
 have p6:=a6 _ _ (Tj _ _ hp nps npo)
 have Jm:∀ q,H6 q=none→H q=none:=fun q hq=>Vf q (bK a6 hq)
 refine⟨_,rfl,x,C,d,_,.ref p,rfl,a6 _ _ x5,iP.cl,n3,rfl,p,rfl,.inl ⟨_,.inl p6⟩,_,rfl,(by show 0≤sizeLine;decide),fun z hz=>?_⟩
 have a7:aJ H6 (upd H6 z (.lst [])):=ak hz _
 have b7:(upd H6 z (.lst [])) z=some (.lst []):=ah
 generalize upd H6 z (.lst [])=H7 at a7 b7
 have lp:=pw.len
 refine⟨kvs,Sum.inl h,a7 _ _ p6,rfl,aV (by omega),fun v hv=>?_,fun hv=>?_⟩
 ·obtain⟨l,row,rfl,Sl,ls,lo,⟨as,hl,pa⟩,ok,sp1,rl⟩:=pw.got h v hv
  have Tn:∀ a ob,H a=some ob→a≠s→a≠o→H7 a=some ob:=fun a ob e m m2=>a7 _ _ (a6 _ _ (Tj _ _ e m m2))
  have l7:=Tn _ _ hl ls lo
  have nxl:x≠l:=gx hx hl (by intro z;cases z)
  have npl:p≠l:=gx hp hl (by intro z;cases z)
  have la:=pa.len
  refine⟨.inl ⟨rfl,_,b8.of l7⟩,_,rfl,l,_,_,rfl,rfl,l7,(by rw[dW];exact aV (by omega)),?_⟩
  have k8:eE l H7 (upd H7 l (.lst (as.map V.ref++[.ref q]))):=aN l _ _
  have l8:(upd H7 l (.lst (as.map V.ref++[.ref q]))) l=some (.lst (as.map V.ref++[.ref q])):=ah
  generalize upd H7 l (.lst (as.map V.ref++[.ref q]))=H8 at k8 l8
  have t07:∀ a xs,H a=some (.tup xs)→H7 a=some (.tup xs):=fun a xs e=>Tn _ _ e (gx e hs (by intro z;cases z)) (gx e ho (by intro z;cases z))
  have To:∀ a xs,H7 a=some (.tup xs)→H8 a=some (.tup xs):=fun a xs e=>k8 _ _ e (gx e l7 (by intro z;cases z))
  have s8:=k8 _ _ (a7 _ _ (a6 _ _ s5)) ls.symm
  have o8:=k8 _ _ (a7 _ _ (a6 _ _ o5)) lo.symm
  refine⟨_,rfl,k S q H8 ⟨sx,ss,so,sp,fun a z=>?_,k8 _ _ (a7 _ _ (a6 _ _ x5)) nxl,s8,o8,ne,kvs,k8 _ _ (a7 _ _ p6) npl,fun g v e=>?_,fun g e=>?_,pw.one,by omega⟩ (To _ _ (a7 _ _ b6)) (fun a z=>.inl z) (fun a ob e m=>?_) (fun a xs e=>To _ _ (t07 _ _ e))⟩
  ·by_cases z1:a=s
   ·rw[z1];exact⟨_,s8⟩
   by_cases z2:a=o
   ·rw[z2];exact⟨_,o8⟩
   by_cases z3:a=l
   ·rw[z3];exact⟨_,l8⟩
   obtain⟨ob,e⟩:=al a z
   exact⟨ob,k8 _ _ (Tn _ _ e z1 z2) z3⟩
  ·by_cases c:g=h
   ·subst c
    rw[hv]at e
    cases e
    refine⟨l,row++([(((aR.length:Nat):Int),(((aR++vm g cs).length:Nat):Int))]:Row),rfl,Sl,ls,lo,⟨as++[q],by rw[qd];exact l8,?_⟩,?_,?_,?_⟩
    ·exact bu.append (pa.tups fun a xs e=>To _ _ (t07 _ _ e)) (.cons (b:=(((aR.length:Nat):Int),(((aR++vm g cs).length:Nat):Int))) (To _ _ (a7 _ _ b6)) .nil)
    ·intro r hr
     rcases List.mem_append.mp hr with z|z
     ·exact ok r z
     ·rw[List.mem_singleton.mp z]
      show ((aR.length:Nat):Int)≤((aR++vm g cs).length:Nat)
      rw[eT]
      omega
    ·rw[di,sp1,oN,xK,Nat.zero_add]
     congr 1
     refine Av _ _ _ ?_
     rw[eT,IB]
     omega
    ·rw[eT]
     simp only[vD]
     omega
   ·obtain⟨l',Nz,e1,e2,e3,e4,e5,e6,e7,e8⟩:=pw.got g v e
    subst e1
    have nl:l'≠l:=fun z=>c (pw.one g h _ e (by rw[z];exact hv))
    refine⟨l',Nz,rfl,e2,e3,e4,e5.two (fun xs q=>k8 _ _ (Tn _ _ q e3 e4) nl) (fun a xs e=>To _ _ (t07 _ _ e)),e6,?_,by omega⟩
    rw[e7,oN,oO (fun z=>c z.symm),j6]
  ·have c:g≠h:=fun z=>by rw[z,hv]at e;cases e
   rw[oN,pw.jc g e,oO (fun z=>c z.symm),j6]
  ·have z1:a≠s:=fun z=>m (by rw[z];exact ss)
   have z2:a≠o:=fun z=>m (by rw[z];exact so)
   have z3:a≠l:=fun z=>m (by rw[z];exact Sl)
   exact k8 _ _ (Tn _ _ e z1 z2) z3
 ·have fz:H z=none:=Jm z hz
  have p7:=a7 _ _ p6
  have k8:eE p H7 (upd H7 p (.dK (putK kvs (Sum.inl h) (.ref z)))):=aN p _ _
  have p8:(upd H7 p (.dK (putK kvs (Sum.inl h) (.ref z)))) p=some (.dK (putK kvs (Sum.inl h) (.ref z))):=ah
  generalize upd H7 p (.dK (putK kvs (Sum.inl h) (.ref z)))=H8 at k8 p8
  have z8:=k8 _ _ b7 (gx b7 p7 (by intro z;cases z))
  refine⟨.inl ⟨rfl,_,b8.of z8⟩,_,rfl,z,_,_,rfl,rfl,z8,(by show 0<sizeLine;decide),?_⟩
  have k9:eE z H8 (upd H8 z (.lst ([]++[.ref q]))):=aN z _ _
  have z9:(upd H8 z (.lst ([]++[.ref q]))) z=some (.lst ([]++[.ref q])):=ah
  generalize upd H8 z (.lst ([]++[.ref q]))=H9 at k9 z9
  have Tp:∀ a ob,H6 a=some ob→a≠p→H9 a=some ob:=fun a ob e m=>k9 _ _ (k8 _ _ (a7 _ _ e) m) (ay e hz)
  have UI:∀ a ob,H a=some ob→a≠s→a≠o→a≠p→H9 a=some ob:=fun a ob e m m2 m3=>Tp _ _ (a6 _ _ (Tj _ _ e m m2)) m3
  have t69:∀ a xs,H6 a=some (.tup xs)→H9 a=some (.tup xs):=fun a xs e=>Tp _ _ e (gx e p6 (by intro z;cases z))
  have t09:∀ a xs,H a=some (.tup xs)→H9 a=some (.tup xs):=fun a xs e=>UI _ _ e (gx e hs (by intro z;cases z)) (gx e ho (by intro z;cases z)) (gx e hp (by intro z;cases z))
  have s9:=Tp _ _ (a6 _ _ s5) nps.symm
  have o9:=Tp _ _ (a6 _ _ o5) npo.symm
  have p9:=k9 _ _ p8 (gx p7 b7 (by intro z;cases z))
  have nz:∀ a,S a→a≠z:=fun a sa=>by
   obtain⟨ob,e⟩:=al a sa
   exact ay e fz
  refine⟨_,rfl,k (fun a=>S a∨a=z) q H9 ⟨.inl sx,.inl ss,.inl so,.inl sp,fun a w=>?_,Tp _ _ (a6 _ _ x5) nxp,s9,o9,ne,_,p9,fun g v e=>?_,fun g e=>?_,fun g g' v e e'=>?_,(by have:=kI kvs (Sum.inl h:Key) (V.ref z);omega)⟩ (t69 _ _ b6) (fun a w=>w.imp id fun y=>by rw[y];exact fz) (fun a ob e m=>?_) (fun a xs e=>t09 _ _ e)⟩
  ·rcases w with w|w
   ·by_cases z1:a=s
    ·rw[z1];exact⟨_,s9⟩
    by_cases z2:a=o
    ·rw[z2];exact⟨_,o9⟩
    by_cases z3:a=p
    ·rw[z3];exact⟨_,p9⟩
    obtain⟨ob,e⟩:=al a w
    exact⟨ob,UI _ _ e z1 z2 z3⟩
   ·rw[w];exact⟨_,z9⟩
  ·rw[mR]at e
   by_cases c:g=h
   ·subst c
    rw[if_pos rfl]at e
    cases e
    refine⟨z,([(((aR.length:Nat):Int),(((aR++vm g cs).length:Nat):Int))]:Row),rfl,.inr rfl,(nz _ ss).symm,(nz _ so).symm,⟨[q],z9,.cons (t69 _ _ b6) .nil⟩,?_,?_,?_⟩
    ·intro r hr
     rw[List.mem_singleton.mp hr]
     show ((aR.length:Nat):Int)≤((aR++vm g cs).length:Nat)
     rw[eT]
     omega
    ·rw[oN,pw.jc g hv,xK,Nat.zero_add,List.nil_append]
     refine Av _ _ _ ?_
     rw[eT,IB]
     omega
    ·simp only[vD]
     omega
   ·rw[if_neg (fun z=>c (Sum.inl.inj z))]at e
    obtain⟨l',Nz,e1,e2,e3,e4,e5,e6,e7,e8⟩:=pw.got g v e
    subst e1
    refine⟨l',Nz,rfl,.inl e2,e3,e4,e5.two (fun xs q=>UI _ _ q e3 e4 (gx q hp (by intro z;cases z))) (fun a xs e=>t09 _ _ e),e6,?_,by omega⟩
    rw[e7,oN,oO (fun z=>c z.symm),j6]
  ·rw[mR]at e
   have c:g≠h:=fun z=>by rw[z,if_pos rfl]at e;cases e
   rw[if_neg (fun z=>c (Sum.inl.inj z))]at e
   rw[oN,pw.jc g e,oO (fun z=>c z.symm),j6]
  ·have other:∀ g v,g≠h→cP kvs (Sum.inl g)=some v→v≠.ref z:=fun g v c e y=>by
    obtain⟨l',Nz,e1,e2,_⟩:=pw.got g v e
    rw[e1]at y
    cases y
    exact nz _ e2 rfl
   rw[mR]at e e'
   by_cases c:g=h
   ·by_cases c':g'=h
    ·rw[c,c']
    ·rw[c,if_pos rfl]at e
     rw[if_neg (fun z=>c' (Sum.inl.inj z))]at e'
     cases e
     exact absurd rfl (other _ _ c' e')
   ·rw[if_neg (fun z=>c (Sum.inl.inj z))]at e
    by_cases c':g'=h
    ·rw[c',if_pos rfl]at e'
     cases e'
     exact absurd rfl (other _ _ c e)
    ·rw[if_neg (fun z=>c' (Sum.inl.inj z))]at e'
     exact pw.one _ _ _ e e'
  ·have z1:a≠s:=fun z=>m (by rw[z];exact ss)
   have z2:a≠o:=fun z=>m (by rw[z];exact so)
   have z3:a≠p:=fun z=>m (by rw[z];exact sp)
   exact UI _ _ e z1 z2 z3
def Mi(n:Nat)(p:Int × Int):Bool:=decide (0≤p.1)&&decide (p.1<p.2)&&decide (p.2≤(n:Int))
def pY(n:Nat)(row:Row):Bool:=row.all (Mi n)
inductive DH(C:Addr)(vs:List V)(H:Hp)(Q:VK)(E:XK):Prop
 | mk (S:Addr→Prop) (x d s o p r:Addr) (n:Nat) (aR:um) (row:Row) (_:vs=[.ref x,.ref r]) (_:We C S H x d s o p n aR) (_:cL H r row) (_:row.length≤1000) (_: ∀ H',aJ H H'→Q (.bl (pY aR.length row)) H'):DH C vs H Q E
theorem DJ:aL ["self","row"] ["self","row"] (az kF):=⟨rfl,rfl,rfl,by decide +kernel,rfl,by decide +kernel,by decide +kernel⟩
theorem Br{f C fs fi:Addr}{fd gs:FuncData}(F:iJ K "holds" "Well.holds" kF f fd)(T:qT mg)(iP:ClsAt K mg "Well" C fi)(n1:bh K C "signs")(cI:aI K C "size" "Well.size" ki gy fs gs):aH P w K mg base cK 2 f fd CN (DH C):=by
 have l5:aH P w K mg base cK 1 fs gs gy (wA C):=qZ cI.F T iP.cl n1
 refine F.ok DJ (fun vs H Q E h=>?_) (fun cdv A outer s H vs Q E hr h=>?_)
 ·obtain⟨S,x,d,s,o,p,r,n,aR,row,rfl,_⟩:=h
  rfl
 obtain⟨S,x,d,s,o,p,r,n,aR,row,rfl,W,R,len,k⟩:=h
 refine⟨_,(au (aP (bL (JB rfl) rfl T.Sw PyProof.Rows.boot_all (af (sE (N:=["start","stop","self"]) (zS (sc:=az kF) (NX:=["self","row"]) (jx:=[none,none,some 0]) rfl rfl rfl (by decide +kernel) (by decide +kernel) rfl (by decide +kernel) rfl (by decide +kernel)) rfl (eK (pv 1)) (fun _ _ _ _ _ _=>(Ih (n:=2) rfl (bR (br (i:=0) (show List.Nodup (["start","stop","self"]:List Str) by decide +kernel) rfl (Or.inl rfl)) (bR (br (i:=1) (show List.Nodup (["start","stop","self"]:List Str) by decide +kernel) rfl (Or.inl rfl)) jX)))) (fun _ _ _ _ _ _=>nE) (fun _ _ _ _ _ _=>(JC lQ BF lQ aC (pv 0) (pv 1) (bS (pv 2) iP.cl cI.mt l5 (hr.mono (by decide)) cI.b .nil cZ)))) aj)))),?_⟩
 obtain⟨as,hr1,pa⟩:=id R
 have la:=pa.len
 refine⟨_,rfl,r,rfl,⟨_,b8.of hr1⟩,fun acc hacc=>ou (K:=K) (a:=r) (xs:=as.map V.ref) (fun i σ H1=>∃ u w:Option V,σ=[u,w,some (.ref x)]∧H1 acc=some (.lst (((row.take i).map (Mi aR.length)).map V.bl))∧aJ H H1) ⟨none,none,rfl,ah,ak hacc _⟩ (fun i σ H1 _ ⟨_,_,_,_,s⟩=>b8.of (s _ _ hr1)) ?_ ?_⟩
 ·rintro i y σ H1 hi ⟨u,w,rfl,ha,s1⟩
  rw[uq]at hi
  obtain⟨t,et,rfl⟩:=Option.map_eq_some_iff.mp hi
  obtain⟨q,eq,ht⟩:=zW pa et
  have W1:=W.same s1
  refine⟨t,_,rfl,jL.of (s1 _ _ ht),rfl,_,_,rfl,_,_,rfl,rfl,?_⟩
  have fin:∀ v:Bool,Mi aR.length q=v→∃ ys,H1 acc=some (.lst ys)∧ys.length<sizeLine∧∃ u w:Option V,[some (V.int q.1),some (V.int q.2),some (.ref x)]=[u,w,some (.ref x)]∧(upd H1 acc (.lst (ys++[.bl v]))) acc=some (.lst (((row.take (i+1)).map (Mi aR.length)).map V.bl))∧aJ H (upd H1 acc (.lst (ys++[.bl v]))):=fun v hv=>by
   refine⟨_,ha,?_,_,_,rfl,?_,?_⟩
   ·rw[dW,dW,o6]
    exact aV (by omega)
   ·rw[ah,take_snoc eq,qd,qd,← hv]
    rfl
   ·intro b ob e
    rw[aM (ay e hacc)]
    exact s1 _ _ e
  refine⟨_,rfl,_,_,rfl,rfl,_,rfl,gP (fun c1=>?_) (fun c1=>fin false ?_)⟩
  ·refine⟨_,rfl,_,_,rfl,rfl,_,rfl,gP (fun c2=>?_) (fun c2=>fin false ?_)⟩
   ·refine⟨_,rfl,x,d,_,rfl,W1.hx,rfl,x,d,s,o,p,aR,rfl,W1.hx,W1.hs,_,_,rfl,rfl,fin _ ?_⟩
    unfold Mi
    rw[c1,c2]
    rfl
   ·unfold Mi
    rw[c1,Bool.eq_false_iff.mpr c2]
    rfl
  ·unfold Mi
   rw[Bool.eq_false_iff.mpr c1]
   rfl
 ·rintro σ H1 ⟨u,w,rfl,ha,s1⟩
  rw[dW,la,mZ]at ha
  refine⟨acc,_,rfl,b8.of ha,?_⟩
  have e:(row.map (Mi aR.length)).all id=pY aR.length row:=by
   unfold pY
   rw[List.all_map]
   rfl
  rw[e]
  exact k H1 s1
structure UJ(mg:Str→Option Value):Prop where
 s:∃ t,mg "MOST_SHEETS"=some (.int 40 t)
 w:∃ t,mg "MOST_WEIGHT"=some (.int 200 t)
 h:∃ t,mg "HIDDEN"=some (.str (Str.ofString "#") t)
theorem F3.irr{rows:gj}(h:F3 rows){s:Int}:¬ Reach (Ci rows) s s:=by
 obtain⟨rk,_,hr⟩:=h
 have key:∀ g,Reach (Ci rows) s g→rk g<rk s:=by
  intro g r
  induction r with
  | one e=>exact hr _ _ e
  | step _ e ih=>exact Nat.lt_trans (hr _ _ e) ih
 exact fun z=>Nat.lt_irrefl _ (key s z)
theorem F3.walk{rows:gj}(h:F3 rows){s:Int}{way:List Int}(w:Walk (Ci rows) s way)(l:2≤way.length)(e:way.getLast?=some s):False:=by
 rw[List.getLast?_eq_getElem?]at e
 exact h.irr (w.reach (way.length-2) s (by rw[show way.length-2+1=way.length-1 by omega];exact e))
structure oQ(rows:gj)(f:Int→Int):Prop where
 len:rows.length≤100
 es:∀ es∈rows,es.length≤1000
 sd:Sound rows
 rk:F3 rows
 wt:Weighs rows f
 most:∀ x:Int,0≤x→x<rows.length→f x≤200
structure Wv(rows:gj)(f:Int→Int):Prop where
 len:rows.length≤100
 es:∀ es∈rows,es.length≤1000
 sd:Sound rows
 rk:F3 rows
 wt:Weighs rows f
 big:∀ x:Int,0≤x→x<rows.length→f x≤1000000
def qx(rows:gj)(f:Int→Int):Prop:=∀ x:Int,0≤x→x<rows.length→f x≤200
def Aw(rows:gj)(f:Int→Int):Prop:=∃ x:Int,0≤x∧x<rows.length∧200<f x
theorem oQ.wv{rows:gj}{f:Int→Int}(B:oQ rows f):Wv rows f:=⟨B.len,B.es,B.sd,B.rk,B.wt,fun x h0 h1=>by have:=B.most x h0 h1;omega⟩
inductive xN(XH:Addr)(vs:List V)(H:Hp)(Q:VK)(E:XK):Prop
 | mk (r:Addr) (rows:gj) (s:Int) (f:Int→Int) (_:vs=[.ref r,.int s]) (_:gV H r (rows.map itemsOf)) (_:Wv rows f) (_:0≤s) (_:s<rows.length) (_:qx rows f→∀ H',aJ H H'→Q .jc H') (_:Aw rows f→∀ H',aJ H H'→E (.ref XH) none H'):xN XH vs H Q E
theorem mD:aL ["rows","sheet","way","weights","number"] ["rows","sheet"] (az kT):=⟨rfl,rfl,rfl,by decide +kernel,rfl,by decide +kernel,by decide +kernel⟩
theorem Ax{g fI fB fW fV fY fR XH:Addr}{fd ze Lx F5 Ox fdY fdR:FuncData}(F:iJ K "check_weave" "check_weave" kT g fd)(T:qT mg)(G:UJ mg)(iI:qR K mg "TooHeavy" XH)(bX:aF K mg "windows" dX mF fI ze)(iU:aF K mg "below" kg j4 fB Lx)(gW:aF K mg "item_weight" gQ Ga fW F5)(fX:aF K mg "weights_below" dY j4 fV Ox)(jF:aF K mg "way_between" iS IQ fY fdY)(ID:aF K mg "ring" BN rS fR fdR):aH P w K mg base (iM P w) 4 g fd rS (xN XH):=by
 have oB:aH P w K mg base cK 3 fV Ox j4 qU:=qt fX.F T bX iU gW
 have Tq:aH P w K mg base cK 3 fR fdR rS G1:=Nj ID.F T bX jF
 refine yX F mD (fun vs H Q E h=>?_) (fun cdv A outer s0 H vs Q E hr h=>?_)
 ·obtain⟨r,rows,s,f,rfl,_⟩:=h
  rfl
 obtain⟨r,rows,s,f,rfl,hR,B,h0,h1,k,kh⟩:=h
 have hu:=qh hr
 obtain⟨DK,DL⟩:=G.w
 have bl:=B.len
 refine⟨_,(ao (aY (i:=2) mD.nd rfl (Or.inl rfl) (aS ID Tq hr (af (pv 0) (af (pv 1) aj))))
   (ao (cC (CU (Mv (pv 2)))
   (au Ep)
   bF)
   (ao (aY (i:=3) mD.nd rfl (Or.inl rfl) (aS fX oB hr (af (pv 0) (af (iB (Bd rfl) rfl T.m7 yv (af (iB C9 rfl T.tL PyProof.Rows.boot_range (af (bL cY rfl T.rF PySem.boot_len (af (pv 0) aj)) aj)) aj)) aj))))
   (au (jI PassesOwn.leaving rfl (qf rfl T.tL (af (bL cY rfl T.rF PySem.boot_len (af (pv 0) aj)) aj)) (br (i:=4) mD.nd rfl (Or.inl rfl))
   (au (cC (bP HJ (pD hu (pv 3) (pv 4) (fun _ _=>rfl)) (HD (v:=.int 200) rfl DL ⟨DK,rfl⟩) (bU _))
   (au (oj PySem.F.excBase_ValueError iI.x iI.m rfl uR (af (qQ (lg (lW (pv 4) (lg (lW (pD hu (pv 3) (pv 4) (fun _ _=>rfl)) uS))))) aj)))
   bF))))))),?_⟩
 refine⟨_,rfl,_,rfl,r,s,rfl,r,rows,s,s,rfl,hR,by omega,B.es,B.sd,h0,h1,fun way o H' _ _ wk l2 _ eg=>(B.rk.walk wk l2 eg).elim,fun _ H1 s1=>?_⟩
 refine⟨_,rfl,false,rfl,eU ?_⟩
 have hR1:=hR.same s1
 obtain⟨vs,hr1,al⟩:=id hR1
 have lv:vs.length=rows.length:=by rw[al.len,dW]
 refine⟨_,rfl,_,rfl,r,_,rfl,.inl (b8.of hr1),_,rfl,fun p1 hp1=>⟨p1,_,_,rfl,ah,⟨by omega,by omega,by omega,by omega⟩,mJ (aV (by omega)),fun L hL=>?_⟩⟩
 rw[KZ,lv,show ((rows.length:Int)-0).toNat=rows.length by omega]
 rw[lv]at hL
 have s2:=s1.trans ((ak hp1 (.Gf 0 ((rows.length:Nat):Int))).trans (ak hL (.lst ((run 0 rows.length).map V.int))))
 have Um:(upd (upd H1 p1 (.Gf 0 ((rows.length:Nat):Int))) L (.lst ((run 0 rows.length).map V.int))) L=some (.lst ((run 0 rows.length).map V.int)):=ah
 generalize upd (upd H1 p1 (.Gf 0 ((rows.length:Nat):Int))) L (.lst ((run 0 rows.length).map V.int))=H2 at s2 Um
 refine⟨r,L,rows,run 0 rows.length,f,rfl,hR.same s2,Um,by rw[jZ];omega,by omega,B.es,B.sd,B.rk,(fun x hx=>by have:=GP hx;omega),B.wt,fun S kvs H3 hS hv s3 _=>?_⟩
 have Td:=s2.trans s3
 obtain⟨vs3,Mf,al3⟩:=hR.same Td
 have lv3:vs3.length=rows.length:=by rw[al3.len,dW]
 refine⟨_,rfl,r,_,rfl,.inl (b8.of Mf),_,rfl,by omega,by omega,?_⟩
 refine sV (lo:=0) (n:=((vs3.length:Nat):Int).toNat) (fun i σ H4=>∃ u:Option V,σ=[some (.ref r),some (.int s),some .jc,some (.ref S),u]∧aJ H H4∧H4 S=some (.dK kvs)∧∀ x:Int,0≤x→x<i→f x≤200) ⟨none,rfl,Td,hS,fun x z1 z2=>by omega⟩ ?_ ?_
 ·rintro i σ H4 hi ⟨u,rfl,s4,Sy,al4⟩
  have il:i<rows.length:=by omega
  have z:=ua.k (k:=Sum.inl (0+(i:Int))) Sy
  rw[hv (0+(i:Int)) (by rw[show (0:Int)+(i:Int)=0+i from rfl];exact nQ (run_get 0 rows.length i il))]at z
  have bg:=B.big (0+(i:Int)) (by omega) (by omega)
  refine⟨_,rfl,_,rfl,S,_,rfl,z,_,_,rfl,rfl,_,rfl,?_⟩
  by_cases c:f (0+(i:Int)) > 200
  ·rw[decide_eq_true c]
   refine iR ?_
   have fi:qe (0+(i:Int)):=⟨by omega,by omega⟩
   have ff:qe (f (0+(i:Int))):=⟨by omega,by omega⟩
   exact⟨_,rfl,_,rfl,fi.log,_,rfl,_,rfl,S,_,rfl,z,_,rfl,ff.log,fun y=>⟨(by show 1≤sizeLine;decide),kh ⟨_,by omega,by omega,c⟩ H4 s4⟩⟩
  ·rw[decide_eq_false c]
   refine eU ⟨_,rfl,s4,Sy,fun x z1 z2=>?_⟩
   by_cases e:x<i
   ·exact al4 x z1 e
   ·rw[show x=0+(i:Int) by omega];omega
 ·rintro σ H4 ⟨u,rfl,s4,_,al4⟩
  exact k (fun x z1 z2=>al4 x z1 (by omega)) H4 s4
structure eF(C CS:Addr)(S:Addr→Prop)(H:Hp)(x d wl sh bl kn du bk dS st op:Addr)(past:lC)(ops:List Int)(lines:pO):Prop where
 hx:H x=some (.ins C d [("well",.ref wl),("shelf",.ref sh),("blots",.ref bl),("knots",.ref kn),("dues",.ref du),("book",.ref bk)])
 W:Sh CS S H sh dS st op past ops
 hb:H bk=some (gh lines)
 nx:¬ S x
 nb:¬ S bk
structure rf(K:PySem.W.Frag)(mg:Str→Option Value)(C CS XS XM XT:Addr):Prop where
 M:OC K mg CS XS XM
 c:∃ fi,ClsAt K mg "Library" C fi
 nw:bh K C "well"
 ns:bh K C "shelf"
 A8:bh K C "blots"
 nk:bh K C "knots"
 nd:bh K C "dues"
 Ay:bh K C "book"
 zt:qR K mg "TooMany" XT
 G:UJ mg
def Fr(S S':Addr→Prop)(bk:Addr)(H H':Hp):Prop:=(∀ a,S' a→S a∨H a=none)∧(∀ a ob,H a=some ob→¬ S a→a≠bk→H' a=some ob)∧∀ a xs,H a=some (.tup xs)→H' a=some (.tup xs)
theorem Fr.same{S S':Addr→Prop}{bk:Addr}{H0 H H':Hp}(s:aJ H0 H)(f:Fr S S' bk H H'):Fr S S' bk H0 H' :=
 ⟨fun a z=>(f.1 a z).imp id fun y=>bK s y,fun a ob e n1 n2=>f.2.1 a ob (s _ _ e) n1 n2,fun a xs e=>f.2.2 a xs (s _ _ e)⟩
theorem eF.same{C CS:Addr}{S:Addr→Prop}{H H':Hp}{x d wl sh bl kn du bk dS st op:Addr}{past:lC}{ops:List Int}{lines:pO}(L:eF C CS S H x d wl sh bl kn du bk dS st op past ops lines)(s:aJ H H'):eF C CS S H' x d wl sh bl kn du bk dS st op past ops lines :=
 ⟨s _ _ L.hx,L.W.same s,s _ _ L.hb,L.nx,L.nb⟩
theorem eF.neb{C CS:Addr}{S:Addr→Prop}{H:Hp}{x d wl sh bl kn du bk dS st op:Addr}{past:lC}{ops:List Int}{lines:pO}(L:eF C CS S H x d wl sh bl kn du bk dS st op past ops lines):x≠bk:=fun e=>by
 have z:=L.hx
 rw[e,L.hb]at z
 cases z
inductive wB(C CS:Addr)(vs:List V)(H:Hp)(Q:VK)(E:XK):Prop
 | mk (S:Addr→Prop) (x d wl sh bl kn du bk dS st op:Addr) (past:lC) (ops:List Int) (lines:pO) (_:vs=[.ref x]) (_:eF C CS S H x d wl sh bl kn du bk dS st op past ops lines) (_:Q (.int (ops.length:Nat)) H):wB C CS vs H Q E
inductive Az(C CS:Addr)(vs:List V)(H:Hp)(Q:VK)(E:XK):Prop
 | mk (S:Addr→Prop) (x d wl sh bl kn du bk dS st op:Addr) (past:lC) (ops:List Int) (lines:pO) (_:vs=[.ref x]) (_:eF C CS S H x d wl sh bl kn du bk dS st op past ops lines) (_:Q (.int ((past.length:Nat)-1)) H):Az C CS vs H Q E
inductive zk(C CS:Addr)(vs:List V)(H:Hp)(Q:VK)(E:XK):Prop
 | mk (S:Addr→Prop) (x d wl sh bl kn du bk dS st op:Addr) (past:lC) (ops:List Int) (lines:pO) (dd c:Addr) (e:ko) (cs:List Addr) (qD:List (Nat × List Item)) (last:List (List Item)) (_:vs=[.ref x,.ref dd,.ref c]) (_:eF C CS S H x d wl sh bl kn du bk dS st op past ops lines) (_:e.At H dd) (_:e.Ok) (_:H c=some (.lst (cs.map V.ref))) (_:c≠bk) (_:cu (Hq H) cs qD) (_:(∀ a∈cs,∀ (s:Int) (r:Addr),H a=some (.tup [.int s,.ref r])→r≠bk)) (_:past.getLast?=some last) (_:Qo last qD) (_:qD.length≤200) (_:last.length≤500) (_:past.length≤1000) (_:lines.length≤1000) (_ :
 ∀ (S':Addr→Prop) (H':Hp),eF C CS S' H' x d wl sh bl kn du bk dS st op (past++[qY last qD]) (ops++List.replicate ((qY last qD).length-last.length) ((past.length:Nat):Int)) (lines++[e.line])→Fr S S' bk H H'→Q .jc H'):zk C CS vs H Q E
theorem yG:aL ["self","deed","changes"] ["self","deed","changes"] (az bV):=⟨rfl,rfl,rfl,by decide +kernel,rfl,by decide +kernel,by decide +kernel⟩
theorem AA:aL ["self"] ["self"] (az jO):=⟨rfl,rfl,rfl,by decide +kernel,rfl,by decide +kernel,by decide +kernel⟩
theorem Bs:aL ["self"] ["self"] (az kU):=⟨rfl,rfl,rfl,by decide +kernel,rfl,by decide +kernel,by decide +kernel⟩
theorem rH{f C CS XS XM XT fM:Addr}{fd gM:FuncData}(F:iJ K "many" "Library.many" jO f fd)(L:rf K mg C CS XS XM XT)(bI:aI K CS "many" "Shelf.many" dZ gy fM gM):aH P w K mg base cK 2 f fd gy (wB C CS):=by
 obtain⟨M,⟨fi,aB⟩,nw,ns,A8,nk,nd,Ay,bZ,G⟩:=L
 obtain⟨T,⟨fj,aQ⟩,n1,n2,bY,bQ⟩:=M
 have pJ:aH P w K mg base cK 1 _ _ gy (Dz CS):=uG bI.F T aQ.cl n1
 refine F.ok AA (fun vs H Q E h=>?_) (fun cdv A outer s H vs Q E hr h=>?_)
 ·obtain⟨S,x,d,wl,sh,bl,kn,du,bk,dS,st,op,past,ops,lines,rfl,_⟩:=h
  rfl
 obtain⟨S,x,d,wl,sh,bl,kn,du,bk,dS,st,op,past,ops,lines,rfl,L,k⟩:=h
 refine⟨_,(au (aP (bS (cW (pv 0) rfl) aQ.cl bI.mt pJ (hr.mono (by decide)) bI.b .nil cZ))),?_⟩
 exact⟨_,rfl,x,C,d,_,.ref sh,rfl,L.hx,aB.cl,ns,rfl,sh,dS,_,rfl,L.W.hx,rfl,S,sh,dS,st,op,past,ops,rfl,L.W,k⟩
theorem sN{f C CS XS XM XT fM:Addr}{fd gM:FuncData}(F:iJ K "now" "Library.now" kU f fd)(L:rf K mg C CS XS XM XT)(aX:aI K CS "now" "Shelf.now" dc gy fM gM):aH P w K mg base cK 2 f fd gy (Az C CS):=by
 obtain⟨M,⟨fi,aB⟩,nw,ns,A8,nk,nd,Ay,bZ,G⟩:=L
 obtain⟨T,⟨fj,aQ⟩,n1,n2,bY,bQ⟩:=M
 have jA:aH P w K mg base cK 1 _ _ gy (CC CS):=nI aX.F T aQ.cl n1
 refine F.ok Bs (fun vs H Q E h=>?_) (fun cdv A outer s H vs Q E hr h=>?_)
 ·obtain⟨S,x,d,wl,sh,bl,kn,du,bk,dS,st,op,past,ops,lines,rfl,_⟩:=h
  rfl
 obtain⟨S,x,d,wl,sh,bl,kn,du,bk,dS,st,op,past,ops,lines,rfl,L,k⟩:=h
 obtain⟨as,hs,al⟩:=L.W.hs
 refine⟨_,(au (aP (bS (cW (pv 0) rfl) aQ.cl aX.mt jA (hr.mono (by decide)) aX.b .nil cZ))),?_⟩
 refine⟨_,rfl,x,C,d,_,.ref sh,rfl,L.hx,aB.cl,ns,rfl,sh,dS,_,rfl,L.W.hx,rfl,sh,dS,st,op,_,rfl,L.W.hx,hs,?_⟩
 rw[dW,al.len]
 exact k
theorem qy{f C CS XS XM XT fI fD fN fC fT:Addr}{fd gI gD gN gC gT:FuncData}(F:iJ K "enter" "Library.enter" bV f fd)(L:rf K mg C CS XS XM XT)(jz:aF K mg "ink_words" jm gJ fI gI)(pK:aF K mg "shown_deed" kB ["deed"] fD gD)(iZ:aF K mg "changed" n5 Gd fC gC)(aX:aI K CS "now" "Shelf.now" dc gy fN gN)(mU:aI K CS "step" "Shelf.step" kC Rh fT gT):aH P w K mg base cK 3 f fd IM (zk C CS):=by
 obtain⟨M,⟨fi,aB⟩,nw,ns,A8,nk,nd,Ay,bZ,G⟩:=L
 obtain⟨T,⟨fj,aQ⟩,n1,n2,bY,bQ⟩:=M
 have FF:aH P w K mg base cK 2 _ _ ["deed"] Am:=Bo pK.F T jz
 have FG:aH P w K mg base cK 2 _ _ Rh (As CS):=Bp mU.F T aQ n1 n2 iZ aX
 refine F.ok yG (fun vs H Q E h=>?_) (fun cdv A outer s H vs Q E hr h=>?_)
 ·obtain⟨S,x,d,wl,sh,bl,kn,du,bk,dS,st,op,past,ops,lines,dd,c,e,cs,qD,last,rfl,_⟩:=h
  rfl
 obtain⟨S,x,d,wl,sh,bl,kn,du,bk,dS,st,op,past,ops,lines,dd,c,e,cs,qD,last,rfl,L,de,ok,hc,ncb,al,nr,hl,oc,l1,l2,l3,l4,k⟩:=h
 refine⟨_,(ao (bq (nu uJ wL wM dF (cW (pv 0) rfl) (af (aS pK FF hr (af (pv 1) aj)) aj)))
   (au (bq (bC (cW (pv 0) rfl) aQ.cl mU.mt FG (hr.mono (by decide)) mU.b .nil cZ (af (pv 2) aj))))),?_⟩
 refine⟨_,rfl,x,C,d,_,.ref bk,rfl,L.hx,aB.cl,Ay,rfl,.inl ⟨rfl,_,b8.of L.hb⟩,_,rfl,dd,e,rfl,de,ok,Hj ok,fun H1 s1=>?_⟩
 refine⟨bk,_,_,rfl,rfl,s1 _ _ L.hb,aV (by rw[dW];omega),?_⟩
 have e2:(lines.map fun w=>V.str (txt w))++[V.str (txt e.line)]=(lines++[e.line]).map fun w=>V.str (txt w):=by rw[qd];rfl
 rw[e2]
 have k2:eE bk H (upd H1 bk (gh (lines++[e.line]))):=fun a o q n=>by
  rw[aM n]
  exact s1 _ _ q
 have hb2:(upd H1 bk (gh (lines++[e.line]))) bk=some (gh (lines++[e.line])):=ah
 have fr2:∀ a,(upd H1 bk (gh (lines++[e.line]))) a=none→H a=none:=fun a q=>by
  by_cases z:a=bk
  ·rw[z,ah]at q;cases q
  ·rw[aM z]at q;exact bK s1 q
 generalize upd H1 bk (gh (lines++[e.line]))=H2 at k2 hb2 fr2
 have t2:∀ a xs,H a=some (.tup xs)→H2 a=some (.tup xs):=fun a xs q=>k2 _ _ q (gx q L.hb (by intro z;cases z))
 have W2:Sh CS S H2 sh dS st op past ops:=L.W.keep L.hb L.nb k2
 have x2:=k2 _ _ L.hx L.neb
 refine⟨_,rfl,x,C,d,_,.ref sh,rfl,x2,aB.cl,ns,rfl,sh,dS,_,rfl,W2.hx,rfl,_,rfl,S,sh,dS,st,op,c,past,ops,cs,qD,last,rfl,W2,k2 _ _ hc ncb,?_,hl,oc,l1,l2,l3,fun S' H3 W3 sub fr tp=>?_⟩
 ·have key:∀ {as:List Addr} {ds:List (Nat × List Item)},cu (Hq H) as ds→(∀ a∈as,a∈cs)→cu (Hq H2) as ds:=by
   intro as ds q
   induction q with
   | nil=>intro _;exact .nil
   | cons o t ih =>
    intro sub
    refine .cons ?_ (ih fun a ha=>sub a (tY _ ha))
    obtain⟨r,ha,it⟩:=o
    have NB:=nr _ (sub _ uL) _ r ha
    exact⟨r,t2 _ _ ha,it.fr (fun xs q=>k2 _ _ q NB) t2⟩
  exact key al fun _ z=>z
 ·refine k S' H3 ⟨fr _ _ x2 L.nx,W3,fr _ _ hb2 L.nb,fun z=>?_,fun z=>?_⟩ ⟨fun a z=>(sub a z).imp id fun q=>fr2 a q,fun a ob q n n'=>fr _ _ (k2 _ _ q n') n,fun a xs q=>tp _ _ (t2 _ _ q)⟩
  ·rcases sub _ z with q|q
   ·exact L.nx q
   ·rw[x2]at q;cases q
  ·rcases sub _ z with q|q
   ·exact L.nb q
   ·rw[hb2]at q;cases q
abbrev kL(pe:mq):lC:=pe.map fun rows=>rows.map itemsOf
def ic(rows:gj)(s:Nat)(es:List Int):gj:=rows.take s++[es]++rows.drop (s+1)
theorem NC(rows:gj)(s:Nat)(es:List Int):qY (rows.map itemsOf) [(s,itemsOf es)]=(ic rows s es).map itemsOf:=by
 show (rows.map itemsOf).take s++[itemsOf es]++(rows.map itemsOf).drop (s+1)=_
 unfold ic
 rw[qd,qd,List.map_take,List.map_drop]
 rfl
theorem FH{rows:gj}{s:Nat}{es:List Int}(h:s≤rows.length):(ic rows s es).length=if s=rows.length then rows.length+1 else rows.length:=by
 unfold ic
 rw[eT,eT,o6,List.length_drop]
 show min s rows.length+1+_=_
 split <;> omega
def FI(ops:List Int)(n s m:Nat):List Int:=ops++if s=n then [(m:Int)] else []
theorem Qp{rows:gj}{s:Nat}{es:List Int}{ops:List Int}{m:Nat}(h:s≤rows.length):ops++List.replicate (((ic rows s es).map itemsOf).length-(rows.map itemsOf).length) (m:Int)=FI ops rows.length s m:=by
 rw[dW,dW,FH h]
 unfold FI
 by_cases c:s=rows.length
 ·rw[if_pos c,if_pos c,show rows.length+1-rows.length=1 by omega]
  rfl
 ·rw[if_neg c,if_neg c,Nat.sub_self]
  rfl
inductive sO(C CS:Addr)(vs:List V)(H:Hp)(Q:VK)(E:XK):Prop
 | mk (S:Addr→Prop) (x d wl sh bl kn du bk dS st op:Addr) (pe:mq) (ops:List Int) (lines:pO) (dd r:Addr) (e:ko) (s:Nat) (es:List Int) (rows:gj) (f:Int→Int) (_:vs=[.ref x,.ref dd,.int (s:Nat),.ref r]) (_:eF C CS S H x d wl sh bl kn du bk dS st op (kL pe) ops lines) (_:e.At H dd) (_:e.Ok) (_:aW H (.ref r) (itemsOf es)) (_:r≠bk) (_:pe.getLast?=some rows) (_:s≤rows.length) (_:rows.length≤50) (_:pe.length≤900) (_:lines.length≤900) (_:oQ (ic rows s es) f) (_ :
 ∀ (S':Addr→Prop) (H':Hp),eF C CS S' H' x d wl sh bl kn du bk dS st op (kL (pe++[ic rows s es])) (FI ops rows.length s pe.length) (lines++[e.line])→Fr S S' bk H H'→Q .jc H'):sO C CS vs H Q E
inductive tT(C CS XH:Addr)(vs:List V)(H:Hp)(Q:VK)(E:XK):Prop
 | mk (S:Addr→Prop) (x d wl sh bl kn du bk dS st op:Addr) (pe:mq) (ops:List Int) (lines:pO) (dd r:Addr) (e:ko) (s:Nat) (es:List Int) (rows:gj) (f:Int→Int) (_:vs=[.ref x,.ref dd,.int (s:Nat),.ref r]) (_:eF C CS S H x d wl sh bl kn du bk dS st op (kL pe) ops lines) (_:e.At H dd) (_:e.Ok) (_:aW H (.ref r) (itemsOf es)) (_:r≠bk) (_:pe.getLast?=some rows) (_:s≤rows.length) (_:rows.length≤50) (_:pe.length≤900) (_:lines.length≤900) (_:Wv (ic rows s es) f) (_:qx (ic rows s es) f →
 ∀ (S':Addr→Prop) (H':Hp),eF C CS S' H' x d wl sh bl kn du bk dS st op (kL (pe++[ic rows s es])) (FI ops rows.length s pe.length) (lines++[e.line])→Fr S S' bk H H'→Q .jc H') (_:Aw (ic rows s es) f→∀ H',aJ H H'→E (.ref XH) none H'):tT C CS XH vs H Q E
theorem xO:aL ["self","deed","sheet","items"] ["self","deed","sheet","items"] (az cj):=⟨rfl,rfl,rfl,by decide +kernel,rfl,by decide +kernel,by decide +kernel⟩
structure DM(K:PySem.W.Frag)(mg:Str→Option Value)(CS:Addr):Prop where
 many:∃ f g,aI K CS "many" "Shelf.many" dZ gy f g
 now:∃ f g,aI K CS "now" "Shelf.now" dc gy f g
 cs:∃ f g,aI K CS "check_sheet" "Shelf.check_sheet" b5 tX f g
 cm:∃ f g,aI K CS "check_moment" "Shelf.check_moment" bJ F8 f g
 rst:∃ f g,aI K CS "rows_then" "Shelf.rows_then" dN F8 f g
 rs:∃ f g,aI K CS "rows" "Shelf.rows" mO gy f g
 stp:∃ f g,aI K CS "step" "Shelf.step" kC Rh f g
structure F7(K:PySem.W.Frag)(mg:Str→Option Value):Prop where
 win:∃ f g,aF K mg "windows" dX mF f g
 bel:∃ f g,aF K mg "below" kg j4 f g
 iw:∃ f g,aF K mg "item_weight" gQ Ga f g
 wb:∃ f g,aF K mg "weights_below" dY j4 f g
 wy:∃ f g,aF K mg "way_between" iS IQ f g
 rg:∃ f g,aF K mg "ring" BN rS f g
 cw:∃ f g,aF K mg "check_weave" kT rS f g
 ch:∃ f g,aF K mg "changed" n5 Gd f g
 ik:∃ f g,aF K mg "ink_words" jm gJ f g
 sd:∃ f g,aF K mg "shown_deed" kB ["deed"] f g
 zh:∃ X,qR K mg "TooHeavy" X
theorem ie{pe:mq}{rows:gj}(h:pe.getLast?=some rows):(kL pe).getLast?=some (rows.map itemsOf):=by
 rw[List.getLast?_map,h]
 rfl
theorem LW{H H':Hp}{rs:List Addr}{rows:List (List Item)}{r:Addr}{its:List Item}{s:Nat}(al:cu (fun q i=>aW H' (.ref q) i) rs rows)(it:aW H' (.ref r) its):cu (aW H') ((rs.map V.ref).take s++[.ref r]++(rs.map V.ref).drop (s+1)) (rows.take s++[its]++rows.drop (s+1)):=by
 have key:cu (aW H') (rs.map V.ref) rows:=by
  induction al with
  | nil=>exact .nil
  | cons o t ih=>exact .cons o ih
 exact ((key.take s).app (.cons it .nil)).app (key.drop (s+1))
theorem kq{f C CS XS XM XT XH fE:Addr}{fd gE:FuncData}(F:iJ K "change" "Library.change" cj f fd)(L:rf K mg C CS XS XM XT)(A1:DM K mg CS)(A2:F7 K mg)(ZH:qR K mg "TooHeavy" XH)(aO:aI K C "enter" "Library.enter" bV IM fE gE):aH P w K mg base (iM P w) 5 f fd HB (tT C CS XH):=by
 obtain⟨⟨_,_,d1⟩,⟨_,_,d2⟩,⟨_,_,d3⟩,⟨_,_,d4⟩,⟨_,_,d7⟩,⟨_,_,bf⟩,⟨_,_,d9⟩⟩:=A1
 obtain⟨⟨_,_,w1⟩,⟨_,_,w2⟩,⟨_,_,w3⟩,⟨_,_,w4⟩,⟨_,_,w5⟩,⟨_,_,w6⟩,⟨_,_,nJ⟩,⟨_,_,iZ⟩,⟨_,_,w9⟩,⟨_,_,w10⟩⟩:=A2
 have oR:aH P w K mg base cK 3 _ _ IM (zk C CS):=qy aO.F L w9 w10 iZ d2 d9
 obtain⟨M,⟨fi,aB⟩,nw,ns,A8,nk,nd,Ay,bZ,G⟩:=L
 have eG:aH P w K mg base cK 4 _ _ gy (sJ CS):=je bf.F M d2 d4 d7
 obtain⟨T,⟨fj,aQ⟩,n1,n2,bY,bQ⟩:=M
 have Au:aH P w K mg base cK 1 _ _ Gd tS:=Aq iZ.F T
 have DN:aH P w K mg base (iM P w) 4 _ _ rS (xN XH):=Ax nJ.F T G ZH w1 w2 w3 w4 w5 w6
 refine yX F xO (fun vs H Q E h=>?_) (fun cdv A outer s H vs Q E hr h=>?_)
 ·obtain⟨S,x,d,wl,sh,bl,kn,du,bk,dS,st,op,pe,ops,lines,dd,r,e,s,es,rows,f,rfl,_⟩:=h
  rfl
 obtain⟨S,x,d,wl,sh,bl,kn,du,bk,dS,st,op,pe,ops,lines,dd,r,e,s,es,rows,f,rfl,L,de,ok,hi,NB,hl,sl,l1,l2,l3,B,k,kh⟩:=h
 have hl':=ie hl
 have lp:(kL pe).length=pe.length:=dW _
 have lo:ops.length=rows.length:=by
  obtain⟨last,z1,z2⟩:=L.W.LR.CA
  rw[hl']at z1
  cases z1
  rw[z2,dW]
 refine⟨_,(ao (bq (qP nJ DN hr fQ (af (aS iZ Au hr (af (bS (cW (pv 0) rfl) aQ.cl bf.mt eG (hr.mono (by decide)) bf.b .nil cZ) (af (pv 2) (af (pv 3) aj)))) (af (pv 2) aj))))
   (au (bq (bC (pv 0) aB.cl aO.mt oR (hr.mono (by decide)) aO.b .nil cZ (af (pv 1) (af (bW (af (fF (af (pv 2) (af (pv 3) aj))) aj)) aj)))))),?_⟩
 refine⟨_,rfl,x,C,d,_,.ref sh,rfl,L.hx,aB.cl,ns,rfl,sh,dS,_,rfl,L.W.hx,rfl,S,sh,dS,st,op,kL pe,ops,rfl,L.W,⟨by omega,by omega⟩,fun rws el q H1 fs s1=>?_⟩
 rw[hl']at el
 cases el
 obtain⟨fq,rs,hq,al⟩:=fs
 have lr:rs.length=rows.length:=by rw[al.len,dW]
 have hi1:=hi.same s1
 have L1:=L.same s1
 refine⟨_,rfl,_,rfl,q,r,_,s,rfl,hq,by rw[dW,lr];exact sl,by rw[dW,lr];omega,fun p2 H2 hp2 s2 f2=>?_⟩
 refine⟨_,rfl,p2,ic rows s es,(s:Int),f,rfl,⟨_,hp2,?_⟩,B,by omega,by rw[FH sl];split <;> omega,fun lt H3 s3=>?_,fun hv H3 s3=>kh hv H3 (s1.trans (s2.trans s3))⟩
 ·have z:=LW (H:=H) (H':=H2) (s:=s) (al.mono fun q' i' w'=>(w'.2.2).same s2) (hi1.same s2)
  have e':(rows.map itemsOf).take s++[itemsOf es]++(rows.map itemsOf).drop (s+1)=(ic rows s es).map itemsOf:=by
   unfold ic
   rw[qd,qd,List.map_take,List.map_drop]
   rfl
  rw[e']at z
  exact z
 have Dc:=s1.trans (s2.trans s3)
 have L3:=L.same Dc
 refine⟨_,rfl,x,d,_,rfl,L3.hx,rfl,_,rfl,_,rfl,_,rfl,(by show 2≤sizeLine;decide),fun t ht=>⟨(by show 1≤sizeLine;decide),fun c hc=>?_⟩⟩
 have s4:aJ H3 (upd (upd H3 t (.tup [.int (s:Nat),.ref r])) c (.lst [.ref t])):=(ak ht _).trans (ak hc _)
 have ht4:(upd (upd H3 t (.tup [.int (s:Nat),.ref r])) c (.lst [.ref t])) t=some (.tup [.int (s:Nat),.ref r]):=ak hc _ _ _ ah
 have hc4:(upd (upd H3 t (.tup [.int (s:Nat),.ref r])) c (.lst [.ref t])) c=some (.lst ([t].map V.ref)):=ah
 have nc:c≠bk:=fun z=>by
  have:=ak ht (.tup [.int (s:Nat),.ref r]) _ _ L3.hb
  rw[← z,hc]at this
  cases this
 generalize upd (upd H3 t (.tup [.int (s:Nat),.ref r])) c (.lst [.ref t])=H4 at s4 ht4 hc4
 have Qq:=Dc.trans s4
 refine⟨S,x,d,wl,sh,bl,kn,du,bk,dS,st,op,kL pe,ops,lines,dd,c,e,[t],[(s,itemsOf es)],rows.map itemsOf,rfl,L.same Qq,de.same Qq,ok,hc4,nc,.cons ⟨r,ht4,hi.same Qq⟩ .nil,?_,hl',?_,(by show 1≤200;decide),by rw[dW];omega,by omega,by omega,fun S' H' L' fr=>?_⟩
 ·intro a ha s' r' e'
  rw[List.mem_singleton.mp ha,ht4]at e'
  cases e'
  exact NB
 ·intro i ch ei
  match i,ei with
  | 0,ei =>
   cases ei
   show s≤(rows.map itemsOf).length
   rw[dW]
   exact sl
  | i+1,ei=>cases ei
 ·rw[NC,Qp sl,lp]at L'
  refine k lt S' H' ?_ (fr.same Qq)
  have ep:kL (pe++[ic rows s es])=kL pe++[(ic rows s es).map itemsOf]:=by
   show (pe++[ic rows s es]).map _=_
   rw[qd]
   rfl
  rw[ep]
  exact L'
theorem lD{f C CS XS XM XT fE:Addr}{fd gE:FuncData}(F:iJ K "change" "Library.change" cj f fd)(L:rf K mg C CS XS XM XT)(A1:DM K mg CS)(A2:F7 K mg)(aO:aI K C "enter" "Library.enter" bV IM fE gE):aH P w K mg base (iM P w) 5 f fd HB (sO C CS):=by
 obtain⟨XH,ZH⟩:=A2.zh
 refine (kq F L A1 A2 ZH aO).imp fun vs H Q E h=>?_
 obtain⟨S,x,d,wl,sh,bl,kn,du,bk,dS,st,op,pe,ops,lines,dd,r,e,s,es,rows,f,z,L,de,ok,hi,NB,hl,sl,l1,l2,l3,B,k⟩:=h
 exact⟨S,x,d,wl,sh,bl,kn,du,bk,dS,st,op,pe,ops,lines,dd,r,e,s,es,rows,f,z,L,de,ok,hi,NB,hl,sl,l1,l2,l3,B.wv,fun _=>k,fun ⟨y,y0,y1,y2⟩=>absurd (B.most y y0 y1) (by omega)⟩
theorem rj{n:Nat}(h:n≤1000):qe ((n:Nat):Int):=⟨by omega,by omega⟩
inductive DO(C CS XT:Addr)(vs:List V)(H:Hp)(Q:VK)(E:XK):Prop
 | mk (S:Addr→Prop) (x d wl sh bl kn du bk dS st op:Addr) (pe:mq) (ops:List Int) (lines:pO) (dd r:Addr) (e:ko) (es:List Int) (rows:gj) (_:vs=[.ref x,.ref dd,.ref r]) (_:eF C CS S H x d wl sh bl kn du bk dS st op (kL pe) ops lines) (_:e.At H dd) (_:e.Ok) (_:aW H (.ref r) (itemsOf es)) (_:r≠bk) (_:pe.getLast?=some rows) (_:rows.length≤50) (_:pe.length≤900) (_:lines.length≤900) (_:(40≤rows.length→E (.ref XT) none H)) (_:(rows.length<40→(∃ f,oQ (rows++[es]) f)∧∀ (S':Addr→Prop) (H':Hp),eF C CS S' H' x d wl sh bl kn du bk dS st op (kL (pe++[rows++[es]])) (ops++[((pe.length:Nat):Int)]) (lines++[e.line])→Fr S S' bk H H'→Q (.int (rows.length:Nat)) H')):DO C CS XT vs H Q E
inductive AB(C CS XT XH:Addr)(vs:List V)(H:Hp)(Q:VK)(E:XK):Prop
 | mk (S:Addr→Prop) (x d wl sh bl kn du bk dS st op:Addr) (pe:mq) (ops:List Int) (lines:pO) (dd r:Addr) (e:ko) (es:List Int) (rows:gj) (_:vs=[.ref x,.ref dd,.ref r]) (_:eF C CS S H x d wl sh bl kn du bk dS st op (kL pe) ops lines) (_:e.At H dd) (_:e.Ok) (_:aW H (.ref r) (itemsOf es)) (_:r≠bk) (_:pe.getLast?=some rows) (_:rows.length≤50) (_:pe.length≤900) (_:lines.length≤900) (_:(40≤rows.length→E (.ref XT) none H)) (_:(rows.length<40→∃ f,Wv (rows++[es]) f∧(qx (rows++[es]) f→∀ (S':Addr→Prop) (H':Hp),eF C CS S' H' x d wl sh bl kn du bk dS st op (kL (pe++[rows++[es]])) (ops++[((pe.length:Nat):Int)]) (lines++[e.line])→Fr S S' bk H H'→Q (.int (rows.length:Nat)) H')∧(Aw (rows++[es]) f→∀ H',aJ H H'→E (.ref XH) none H'))):AB C CS XT XH vs H Q E
theorem rJ:aL ["self","deed","items","sheet"] ["self","deed","items"] (az iD):=⟨rfl,rfl,rfl,by decide +kernel,rfl,by decide +kernel,by decide +kernel⟩
theorem AD(rows:gj)(es:List Int):ic rows rows.length es=rows++[es]:=by
 unfold ic
 rw[mZ,List.drop_of_length_le (by omega),j6]
structure ND(K:PySem.W.Frag)(mg:Str→Option Value)(C:Addr):Prop where
 en:∃ f g,aI K C "enter" "Library.enter" bV IM f g
 ch:∃ f g,aI K C "change" "Library.change" cj HB f g
 many:∃ f g,aI K C "many" "Library.many" jO gy f g
 bg:∃ f g,aI K C "begin" "Library.begin" iD QJ f g
theorem mE{C CS:Addr}{S:Addr→Prop}{H:Hp}{x d wl sh bl kn du bk dS st op:Addr}{pe:mq}{ops:List Int}{lines:pO}{rows:gj}(L:eF C CS S H x d wl sh bl kn du bk dS st op (kL pe) ops lines)(hl:pe.getLast?=some rows):ops.length=rows.length:=by
 obtain⟨last,z1,z2⟩:=L.W.LR.CA
 rw[ie hl]at z1
 cases z1
 rw[z2,dW]
theorem pL{f C CS XS XM XT XH:Addr}{fd:FuncData}(F:iJ K "begin" "Library.begin" iD f fd)(L:rf K mg C CS XS XM XT)(A1:DM K mg CS)(A2:F7 K mg)(A3:ND K mg C)(ZH:qR K mg "TooHeavy" XH):aH P w K mg base (iM P w) 6 f fd QJ (AB C CS XT XH):=by
 obtain⟨⟨_,_,e1⟩,⟨_,_,aK⟩,⟨_,_,fu⟩,_⟩:=A3
 have cS:aH P w K mg base (iM P w) 5 _ _ HB (tT C CS XH):=kq aK.F L A1 A2 ZH e1
 obtain⟨⟨_,_,d1⟩,_⟩:=A1
 have pZ:aH P w K mg base cK 2 _ _ gy (wB C CS):=rH fu.F L d1
 obtain⟨M,⟨fi,aB⟩,nw,ns,A8,nk,nd,Ay,bZ,G⟩:=L
 obtain⟨DP,DQ⟩:=G.s
 refine yX F rJ (fun vs H Q E h=>?_) (fun cdv A outer s H vs Q E hr h=>?_)
 ·obtain⟨S,x,d,wl,sh,bl,kn,du,bk,dS,st,op,pe,ops,lines,dd,r,e,es,rows,rfl,_⟩:=h
  rfl
 obtain⟨S,x,d,wl,sh,bl,kn,du,bk,dS,st,op,pe,ops,lines,dd,r,e,es,rows,rfl,L,de,ok,hi,NB,hl,l1,l2,l3,k1,k2⟩:=h
 have lo:=mE L hl
 refine⟨_,(ao (aY (i:=3) rJ.nd rfl (Or.inl rfl) (bS (pv 0) aB.cl fu.mt pZ (hr.mono (by decide)) fu.b .nil cZ))
   (ao (cC (bP NZ (pv 3) (HD (v:=.int 40) rfl DQ ⟨DP,rfl⟩) (bU _))
   (au (oj PySem.F.excBase_ValueError bZ.x bZ.m rfl uR (af (qQ (lg (lW (pv 3) (lg uS)))) aj)))
   bF)
   (ao (bq (bC (pv 0) aB.cl aK.mt cS (hr.mono (by decide)) aK.b .nil fQ (af (pv 1) (af (pv 3) (af (pv 2) aj)))))
   (au (aP (pv 3)))))),?_⟩
 refine⟨_,rfl,x,d,_,rfl,L.hx,rfl,S,x,d,wl,sh,bl,kn,du,bk,dS,st,op,kL pe,ops,lines,rfl,L,?_⟩
 rw[lo]
 refine⟨_,rfl,_,_,rfl,rfl,_,rfl,gP (fun c=>?_) (fun c=>?_)⟩
 ·have c':=of_decide_eq_true c
  exact⟨_,rfl,_,rfl,(rj (by omega)).log,fun y=>⟨(by show 1≤sizeLine;decide),k1 (by omega)⟩⟩
 ·have c':¬ ((rows.length:Nat):Int)≥40:=fun z=>c (decide_eq_true z)
  obtain⟨f,B,k3,k4⟩:=k2 (by omega)
  refine⟨_,rfl,x,d,_,rfl,L.hx,rfl,_,rfl,_,rfl,_,rfl,S,x,d,wl,sh,bl,kn,du,bk,dS,st,op,pe,ops,lines,dd,r,e,rows.length,es,rows,f,rfl,L,de,ok,hi,NB,hl,jj _,l1,l2,l3,by rw[AD];exact B,fun lt S' H' L' fr=>?_,fun hv H' s'=>k4 (by rw[AD]at hv;exact hv) H' s'⟩
  rw[AD]at L' lt
  have eo:FI ops rows.length rows.length pe.length=ops++[((pe.length:Nat):Int)]:=by unfold FI;rw[if_pos rfl]
  rw[eo]at L'
  exact⟨_,rfl,k3 lt S' H' L' fr⟩
theorem xP{f C CS XS XM XT:Addr}{fd:FuncData}(F:iJ K "begin" "Library.begin" iD f fd)(L:rf K mg C CS XS XM XT)(A1:DM K mg CS)(A2:F7 K mg)(A3:ND K mg C):aH P w K mg base (iM P w) 6 f fd QJ (DO C CS XT):=by
 obtain⟨XH,ZH⟩:=A2.zh
 refine (pL F L A1 A2 A3 ZH).imp fun vs H Q E h=>?_
 obtain⟨S,x,d,wl,sh,bl,kn,du,bk,dS,st,op,pe,ops,lines,dd,r,e,es,rows,z,L,de,ok,hi,NB,hl,l1,l2,l3,k1,k2⟩:=h
 refine⟨S,x,d,wl,sh,bl,kn,du,bk,dS,st,op,pe,ops,lines,dd,r,e,es,rows,z,L,de,ok,hi,NB,hl,l1,l2,l3,k1,fun c=>?_⟩
 obtain⟨⟨f,B⟩,k3⟩:=k2 c
 exact⟨f,B.wv,fun _=>k3,fun ⟨y,y0,y1,y2⟩=>absurd (B.most y y0 y1) (by omega)⟩
abbrev frW:List Nat:=(Str.ofString "fresh").cps.toList
theorem LX:(ko.plain frW []).Ok:=⟨by decide +kernel,fun _ z=>by cases z⟩
inductive wC(C CS XT:Addr)(vs:List V)(H:Hp)(Q:VK)(E:XK):Prop
 | mk (S:Addr→Prop) (x d wl sh bl kn du bk dS st op:Addr) (pe:mq) (ops:List Int) (lines:pO) (rows:gj) (_:vs=[.ref x]) (_:eF C CS S H x d wl sh bl kn du bk dS st op (kL pe) ops lines) (_:pe.getLast?=some rows) (_:rows.length≤50) (_:pe.length≤900) (_:lines.length≤900) (_:(40≤rows.length→∀ H',aJ H H'→E (.ref XT) none H')) (_:(rows.length<40→(∃ f,oQ (rows++[[]]) f)∧∀ (S':Addr→Prop) (H':Hp),eF C CS S' H' x d wl sh bl kn du bk dS st op (kL (pe++[rows++[[]]])) (ops++[((pe.length:Nat):Int)]) (lines++[(ko.plain frW []).line])→Fr S S' bk H H'→Q (.int (rows.length:Nat)) H')):wC C CS XT vs H Q E
theorem yH:aL ["self"] ["self"] (az iE):=⟨rfl,rfl,rfl,by decide +kernel,rfl,by decide +kernel,by decide +kernel⟩
theorem qz{f C CS XS XM XT:Addr}{fd:FuncData}(F:iJ K "fresh" "Library.fresh" iE f fd)(L:rf K mg C CS XS XM XT)(A1:DM K mg CS)(A2:F7 K mg)(A3:ND K mg C):aH P w K mg base (iM P w) 7 f fd gy (wC C CS XT):=by
 obtain⟨_,_,dD⟩:=A3.bg
 have oS:aH P w K mg base (iM P w) 6 _ _ QJ (DO C CS XT):=xP dD.F L A1 A2 A3
 obtain⟨M,⟨fi,aB⟩,nw,ns,A8,nk,nd,Ay,bZ,G⟩:=L
 refine yX F yH (fun vs H Q E h=>?_) (fun cdv A outer s H vs Q E hr h=>?_)
 ·obtain⟨S,x,d,wl,sh,bl,kn,du,bk,dS,st,op,pe,ops,lines,rows,rfl,_⟩:=h
  rfl
 obtain⟨S,x,d,wl,sh,bl,kn,du,bk,dS,st,op,pe,ops,lines,rows,rfl,L,hl,l1,l2,l3,k1,k2⟩:=h
 refine⟨_,(au (aP (bC (pv 0) aB.cl dD.mt oS (hr.mono (by decide)) dD.b .nil fQ (af (fF (af cN aj)) (af (bW aj) aj))))),?_⟩
 refine⟨_,rfl,x,d,_,rfl,L.hx,rfl,(by show 1≤sizeLine;decide),fun t ht=>⟨(by show 0≤sizeLine;decide),fun r hr0=>?_⟩⟩
 have s1:aJ H (upd (upd H t (.tup [.str (Str.ofString "fresh")])) r (.lst [])):=(ak ht _).trans (ak hr0 _)
 have ht1:(upd (upd H t (.tup [.str (Str.ofString "fresh")])) r (.lst [])) t=some (.tup [.str (Str.ofString "fresh")]):=ak hr0 _ _ _ ah
 have hr1:(upd (upd H t (.tup [.str (Str.ofString "fresh")])) r (.lst [])) r=some (.lst []):=ah
 have nr:r≠bk:=fun z=>by
  have:=ak ht (.tup [.str (Str.ofString "fresh")]) _ _ L.hb
  rw[← z,hr0]at this
  cases this
 generalize upd (upd H t (.tup [.str (Str.ofString "fresh")])) r (.lst [])=H1 at s1 ht1 hr1
 refine⟨S,x,d,wl,sh,bl,kn,du,bk,dS,st,op,pe,ops,lines,t,r,.plain frW [],[],rows,rfl,L.same s1,by show H1 t=_;rw[ht1,uU];rfl,LX,⟨r,[],rfl,hr1,.nil⟩,nr,hl,l1,l2,l3,fun c=>k1 c H1 s1,fun c=>?_⟩
 obtain⟨B,k3⟩:=k2 c
 exact⟨B,fun S' H' L' fr=>k3 S' H' L' (fr.same s1)⟩
theorem nP{H H1:Hp}{xw dw:Addr}{o:HO}(h1:H xw=none)(h2:H dw=none)(k:eE xw (upd (upd H dw (.own xw)) xw o) H1):aJ H H1:=fun a ob e=>k a ob (by rw[aM (ay e h1),aM (ay e h2)];exact e) (ay e h1)
theorem Sh.mW{C C':Addr}{S:Addr→Prop}{H H':Hp}{x d st op l d':Addr}{past:lC}{ops:List Int}{fs:List (Str × V)}(h:Sh C S H x d st op past ops)(hl:H l=some (.ins C' d' fs))(nl:¬ S l)(k:eE l H H'):Sh C S H' x d st op past ops :=
 h.fr (fun a ob e z=>k a ob e (fun q=>nl (by rw[← q];exact z))) (fun a xs e=>k _ _ e (gx e hl (by intro z;cases z)))
structure Tr(K:PySem.W.Frag)(mg:Str→Option Value)(fS fZ:Addr):Prop where
 win:∃ f g,aF K mg "windows" dX mF f g
 bel:∃ f g,aF K mg "below" kg j4 f g
 ir:∃ f g,aF K mg "item_row" fy wJ f g
 pl:∃ f g,aF K mg "plain" lT gJ f g
 vb:∃ f g,aF K mg "views_below" dU j4 f g
 sh:∃ g,aF K mg "shown" zF rS fS g
 sz:∃ g,aF K mg "size" ssize gJ fZ g
structure Seen(rows:gj)(sh:Int→List Int):Prop where
 es:∀ es∈rows,es.length≤1000
 sd:Sound rows
 rk:F3 rows
 ss:Ff rows sh
 ln:∀ x:Int,0≤x→x<rows.length→(sh x).length≤10000
inductive wD(C CS XS:Addr)(vs:List V)(H:Hp)(Q:VK)(E:XK):Prop
 | mk (S:Addr→Prop) (x d wl sh bl kn du bk dS st op:Addr) (pe:mq) (ops:List Int) (lines:pO) (rows:gj) (s:Int) (_:vs=[.ref x,.int s]) (_:eF C CS S H x d wl sh bl kn du bk dS st op (kL pe) ops lines) (_:pe.getLast?=some rows) (_:rows.length≤50) (_:pe.length≤900) (_:qe s) (_:(¬ uc rows.length s→E (.ref XS) none H)) (_:(uc rows.length s→∃ f,Seen rows f∧∀ (o:Addr) (H':Hp),cL H' o (rowOf (f s))→aJ H H'→H o=none→Q (.ref o) H')):wD C CS XS vs H Q E
inductive zl(C CS XS:Addr)(vs:List V)(H:Hp)(Q:VK)(E:XK):Prop
 | mk (S:Addr→Prop) (x d wl sh bl kn du bk dS st op:Addr) (pe:mq) (ops:List Int) (lines:pO) (rows:gj) (s:Int) (_:vs=[.ref x,.int s]) (_:eF C CS S H x d wl sh bl kn du bk dS st op (kL pe) ops lines) (_:pe.getLast?=some rows) (_:rows.length≤50) (_:pe.length≤900) (_:qe s) (_:(¬ uc rows.length s→E (.ref XS) none H)) (_:(uc rows.length s→∃ f,Seen rows f∧(rowOf (f s)).length≤1000000∧∀ H',aJ H H'→Q (.int (tot (rowOf (f s)))) H')):zl C CS XS vs H Q E
theorem yI:aL ["self","sheet"] ["self","sheet"] (az fO):=⟨rfl,rfl,rfl,by decide +kernel,rfl,by decide +kernel,by decide +kernel⟩
theorem AE:aL ["self","sheet"] ["self","sheet"] (az mz):=⟨rfl,rfl,rfl,by decide +kernel,rfl,by decide +kernel,by decide +kernel⟩
theorem qA{f C CS XS XM XT fS fZ:Addr}{fd:FuncData}(F:iJ K "shown" "Library.shown" fO f fd)(L:rf K mg C CS XS XM XT)(A1:DM K mg CS)(A4:Tr K mg fS fZ):aH P w K mg base (iM P w) 5 f fd tX (wD C CS XS):=by
 obtain⟨⟨_,_,d1⟩,⟨_,_,d2⟩,⟨_,_,aA⟩,⟨_,_,d4⟩,⟨_,_,d7⟩,⟨_,_,bf⟩,_⟩:=A1
 obtain⟨⟨_,_,w1⟩,⟨_,_,w2⟩,⟨_,_,w3⟩,⟨_,_,w4⟩,⟨_,_,w5⟩,⟨_,AF⟩,_⟩:=A4
 obtain⟨M,⟨fi,aB⟩,nw,ns,A8,nk,nd,Ay,bZ,G⟩:=L
 have eG:aH P w K mg base cK 4 _ _ gy (sJ CS):=je bf.F M d2 d4 d7
 have bz:aH P w K mg base (iM P w) 2 _ _ tX (mT CS XS):=cU aA.F M d1
 obtain⟨T,⟨fj,aQ⟩,n1,n2,bY,bQ⟩:=M
 have Qs:aH P w K mg base cK 4 _ _ rS Dq:=LA AF.F T w1 w2 w3 w4 w5
 refine yX F yI (fun vs H Q E h=>?_) (fun cdv A outer s H vs Q E hr h=>?_)
 ·obtain⟨S,x,d,wl,sh,bl,kn,du,bk,dS,st,op,pe,ops,lines,rows,s,rfl,_⟩:=h
  rfl
 obtain⟨S,x,d,wl,sh,bl,kn,du,bk,dS,st,op,pe,ops,lines,rows,s,rfl,L,hl,l1,l2,fs,k1,k2⟩:=h
 have lo:=mE L hl
 have lp:(kL pe).length=pe.length:=dW _
 have hl':=ie hl
 refine⟨_,(ao (bq (bC (cW (pv 0) rfl) aQ.cl aA.mt bz (hr.mono (by decide)) aA.b .nil fQ (af (pv 1) aj)))
   (au (aP (gu.tK AF (T.zY _ AF.m) Qs hr (af (bS (cW (pv 0) rfl) aQ.cl bf.mt eG (hr.mono (by decide)) bf.b .nil cZ) (af (pv 1) aj)))))),?_⟩
 refine⟨_,rfl,x,C,d,_,.ref sh,rfl,L.hx,aB.cl,ns,rfl,sh,dS,_,rfl,L.W.hx,rfl,_,rfl,S,sh,dS,st,op,kL pe,ops,s,rfl,L.W,⟨by omega,by omega⟩,fs,fun ia=>?_,fun z=>k1 (by rw[← lo];exact z)⟩
 rw[lo]at ia
 obtain⟨f0,sn,k3⟩:=k2 ia
 refine⟨_,rfl,x,C,d,_,.ref sh,rfl,L.hx,aB.cl,ns,rfl,sh,dS,_,rfl,L.W.hx,rfl,S,sh,dS,st,op,kL pe,ops,rfl,L.W,⟨by omega,by omega⟩,fun rws el q H1 Qt s1=>?_⟩
 rw[hl']at el
 cases el
 obtain⟨fq,rs,hq,al⟩:=Qt
 have hR:gV H1 q (rows.map itemsOf):=by
  refine⟨rs.map V.ref,hq,?_⟩
  have key:∀ {as:List Addr} {ds:List (List Item)},cu (fun r its=>H r=none∧r≠q∧aW H1 (.ref r) its) as ds→cu (aW H1) (as.map V.ref) ds:=by
   intro as ds z
   induction z with
   | nil=>exact .nil
   | cons o t ih=>exact .cons o.2.2 ih
  exact key al
 exact⟨_,rfl,q,rows,s,f0,rfl,hR,by omega,sn.es,sn.sd,sn.rk,ia.1,ia.2,sn.ss,sn.ln,fun o H2 ho s2 fo=>k3 o H2 ho (s1.trans s2) (bK s1 fo)⟩
theorem yJ{f C CS XS XM XT fS fZ fL:Addr}{fd gL:FuncData}(F:iJ K "size" "Library.size" mz f fd)(L:rf K mg C CS XS XM XT)(A1:DM K mg CS)(A4:Tr K mg fS fZ)(cy:aI K C "shown" "Library.shown" fO tX fL gL):aH P w K mg base (iM P w) 6 f fd tX (zl C CS XS):=by
 have oU:aH P w K mg base (iM P w) 5 _ _ tX (wD C CS XS):=qA cy.F L A1 A4
 obtain⟨_,_,_,_,_,_,⟨_,iN⟩⟩:=A4
 obtain⟨M,⟨fi,aB⟩,nw,ns,A8,nk,nd,Ay,bZ,G⟩:=L
 obtain⟨T,⟨fj,aQ⟩,n1,n2,bY,bQ⟩:=M
 have Cm:aH P w K mg base cK 1 _ _ gJ zN:=Di iN.F T
 refine yX F AE (fun vs H Q E h=>?_) (fun cdv A outer s H vs Q E hr h=>?_)
 ·obtain⟨S,x,d,wl,sh,bl,kn,du,bk,dS,st,op,pe,ops,lines,rows,s,rfl,_⟩:=h
  rfl
 obtain⟨S,x,d,wl,sh,bl,kn,du,bk,dS,st,op,pe,ops,lines,rows,s,rfl,L,hl,l1,l2,fs,k1,k2⟩:=h
 refine⟨_,(au (aP (gu.tK iN (T.mC _ iN.m) Cm hr (af (bC (pv 0) aB.cl cy.mt oU (hr.mono (by decide)) cy.b .nil fQ (af (pv 1) aj)) aj)))),?_⟩
 refine⟨_,rfl,x,d,_,rfl,L.hx,rfl,_,rfl,S,x,d,wl,sh,bl,kn,du,bk,dS,st,op,pe,ops,lines,rows,s,rfl,L,hl,l1,l2,fs,k1,fun ia=>?_⟩
 obtain⟨f0,sn,lf,k3⟩:=k2 ia
 exact⟨f0,sn,fun o H' ho s' _=>⟨o,_,rfl,ho,lf,fun H2 s2=>k3 H2 (s'.trans s2)⟩⟩
theorem eF.fr{C CS:Addr}{S:Addr→Prop}{H H':Hp}{x d wl sh bl kn du bk dS st op:Addr}{past:lC}{ops:List Int}{lines:pO}(L:eF C CS S H x d wl sh bl kn du bk dS st op past ops lines)(k:∀ a ob,H a=some ob→(S a∨a=bk∨a=x)→H' a=some ob)(t:∀ a xs,H a=some (.tup xs)→H' a=some (.tup xs)):eF C CS S H' x d wl sh bl kn du bk dS st op past ops lines :=
 ⟨k _ _ L.hx (.inr (.inr rfl)),L.W.fr (fun a ob e z=>k a ob e (.inl z)) t,k _ _ L.hb (.inr (.inl rfl)),L.nx,L.nb⟩
structure Bt(C CS CW CB:Addr)(U S SW:Addr→Prop)(H:Hp)(x d wl sh bl kn du bk dS st op dw sg ow pw db tb:Addr)(pe:mq)(ops:List Int)(lines:pO)(aR:um)(nW:Nat)(eS:Row):Prop where
 L:eF C CS S H x d wl sh bl kn du bk dS st op (kL pe) ops lines
 W:We CW SW H wl dw sg ow pw nW aR
 B:Bl CB H bl db tb
 R:cL H tb eS
 Q4:Ris eS
 dj:∀ a,SW a→¬ S a∧a≠bk∧a≠x
 db:¬ S bl∧¬ SW bl∧bl≠bk
 dt:¬ S tb∧¬ SW tb∧tb≠bk
 u:∀ a,U a↔S a∨SW a∨a=bk∨a=x∨a=bl∨a=tb
inductive Bu(C CS CW CB:Addr)(U:Addr→Prop)(H:Hp)(x:Addr)(pe:mq)(lines:pO)(aR:um)(nW:Nat)(eS:Row):Prop
 | mk (S SW:Addr→Prop) (d wl sh bl kn du bk dS st op dw sg ow pw db tb:Addr) (ops:List Int) (_:Bt C CS CW CB U S SW H x d wl sh bl kn du bk dS st op dw sg ow pw db tb pe ops lines aR nW eS):Bu C CS CW CB U H x pe lines aR nW eS
def yK(U U':Addr→Prop)(H H':Hp):Prop:=(∀ a,U' a→U a∨H a=none)∧(∀ a ob,H a=some ob→¬ U a→H' a=some ob)∧∀ a xs,H a=some (.tup xs)→H' a=some (.tup xs)
theorem yK.pre{U U':Addr→Prop}{H0 H H':Hp}(s:aJ H0 H)(f:yK U U' H H'):yK U U' H0 H':=⟨fun a z=>(f.1 a z).imp id fun y=>bK s y,fun a ob e n=>f.2.1 a ob (s _ _ e) n,fun a xs e=>f.2.2 a xs (s _ _ e)⟩
theorem Bt.fr{C CS CW CB:Addr}{U S SW:Addr→Prop}{H H':Hp}{x d wl sh bl kn du bk dS st op dw sg ow pw db tb:Addr}{pe:mq}{ops:List Int}{lines:pO}{aR:um}{nW:Nat}{eS:Row}(h:Bt C CS CW CB U S SW H x d wl sh bl kn du bk dS st op dw sg ow pw db tb pe ops lines aR nW eS)(k:∀ a ob,H a=some ob→U a→H' a=some ob)(t:∀ a xs,H a=some (.tup xs)→H' a=some (.tup xs)):Bt C CS CW CB U S SW H' x d wl sh bl kn du bk dS st op dw sg ow pw db tb pe ops lines aR nW eS:=by
 obtain⟨L,W,B,R,Q4,dj,db',dt,u⟩:=h
 refine⟨L.fr (fun a ob e z=>k a ob e ((u a).mpr ?_)) t,W.fr (fun a ob e z=>k a ob e ((u a).mpr (.inr (.inl z)))) t,k _ _ B ((u _).mpr (.inr (.inr (.inr (.inr (.inl rfl)))))),R.two (fun xs e=>k _ _ e ((u _).mpr (.inr (.inr (.inr (.inr (.inr rfl))))))) t,Q4,dj,db',dt,u⟩
 rcases z with z|z|z
 ·exact .inl z
 ·exact .inr (.inr (.inl z))
 ·exact .inr (.inr (.inr (.inl z)))
theorem Bt.same{C CS CW CB:Addr}{U S SW:Addr→Prop}{H H':Hp}{x d wl sh bl kn du bk dS st op dw sg ow pw db tb:Addr}{pe:mq}{ops:List Int}{lines:pO}{aR:um}{nW:Nat}{eS:Row}(h:Bt C CS CW CB U S SW H x d wl sh bl kn du bk dS st op dw sg ow pw db tb pe ops lines aR nW eS)(s:aJ H H'):Bt C CS CW CB U S SW H' x d wl sh bl kn du bk dS st op dw sg ow pw db tb pe ops lines aR nW eS:=h.fr (fun a ob e _=>s a ob e) fun a xs e=>s _ _ e
theorem Bu.fr{C CS CW CB:Addr}{U:Addr→Prop}{H H':Hp}{x:Addr}{pe:mq}{lines:pO}{aR:um}{nW:Nat}{eS:Row}(h:Bu C CS CW CB U H x pe lines aR nW eS)(k:∀ a ob,H a=some ob→U a→H' a=some ob)(t:∀ a xs,H a=some (.tup xs)→H' a=some (.tup xs)):Bu C CS CW CB U H' x pe lines aR nW eS:=by
 obtain⟨S,SW,d,wl,sh,bl,kn,du,bk,dS,st,op,dw,sg,ow,pw,db,tb,ops,z⟩:=h
 exact⟨S,SW,d,wl,sh,bl,kn,du,bk,dS,st,op,dw,sg,ow,pw,db,tb,ops,z.fr k t⟩
theorem Bu.same{C CS CW CB:Addr}{U:Addr→Prop}{H H':Hp}{x:Addr}{pe:mq}{lines:pO}{aR:um}{nW:Nat}{eS:Row}(h:Bu C CS CW CB U H x pe lines aR nW eS)(s:aJ H H'):Bu C CS CW CB U H' x pe lines aR nW eS:=h.fr (fun a ob e _=>s a ob e) fun a xs e=>s _ _ e
theorem Bt.rm{C CS CW CB:Addr}{U S S' SW:Addr→Prop}{H H':Hp}{x d wl sh bl kn du bk dS st op dw sg ow pw db tb:Addr}{pe Mj:mq}{ops ops':List Int}{lines LY:pO}{aR:um}{nW:Nat}{eS:Row}(h:Bt C CS CW CB U S SW H x d wl sh bl kn du bk dS st op dw sg ow pw db tb pe ops lines aR nW eS)(L':eF C CS S' H' x d wl sh bl kn du bk dS st op (kL Mj) ops' LY)(fr:Fr S S' bk H H'):∃ U',Bu C CS CW CB U' H' x Mj LY aR nW eS∧yK U U' H H':=by
 obtain⟨L,W,B,R,Q4,dj,db',dt,u⟩:=h
 obtain⟨as,hR,_⟩:=id R
 have nS':∀ a ob,H a=some ob→¬ S a→¬ S' a:=fun a ob e n z=>by
  rcases fr.1 a z with y|y
  ·exact n y
  ·rw[e]at y;cases y
 refine⟨fun a=>S' a∨SW a∨a=bk∨a=x∨a=bl∨a=tb,⟨S',SW,d,wl,sh,bl,kn,du,bk,dS,st,op,dw,sg,ow,pw,db,tb,ops',L',W.fr (fun a ob e z=>fr.2.1 _ _ e (dj a z).1 (dj a z).2.1) fr.2.2,fr.2.1 _ _ B db'.1 db'.2.2,R.two (fun xs e=>fr.2.1 _ _ e dt.1 dt.2.2) fr.2.2,Q4,fun a z=>?_,⟨nS' _ _ B db'.1,db'.2⟩,⟨nS' _ _ hR dt.1,dt.2⟩,fun a=>Iff.rfl⟩,fun a z=>?_,fun a ob e n=>?_,fr.2.2⟩
 ·obtain⟨ob,e⟩:=W.al a z
  exact⟨nS' _ _ e (dj a z).1,(dj a z).2⟩
 ·rcases z with z|z
  ·exact (fr.1 a z).imp (fun y=>(u a).mpr (.inl y)) id
  ·exact .inl ((u a).mpr (.inr z))
 ·exact fr.2.1 a ob e (fun z=>n ((u a).mpr (.inl z))) (fun z=>n ((u a).mpr (.inr (.inr (.inl z)))))
structure DR(K:PySem.W.Frag)(mg:Str→Option Value)(C CS CW CB XS XM XT XO XP:Addr):Prop where
 M:rf K mg C CS XS XM XT
 cw:∃ f,ClsAt K mg "Well" CW f
 w1:bh K CW "signs"
 w2:bh K CW "owners"
 w3:bh K CW "pourings"
 cb:∃ f,ClsAt K mg "Blots" CB f
 b1:bh K CB "stains"
 zo:qR K mg "OutOfInk" XO
 zp:ExcAt K mg XP
structure Q5(K:PySem.W.Frag)(mg:Str→Option Value)(CW CB:Addr):Prop where
 sz:∃ f g,aI K CW "size" "Well.size" ki gy f g
 pr:∃ f g,aI K CW "pour" "Well.pour" n8 NR f g
 ca:∃ f g,aI K CW "check_address" "Well.check_address" jJ QK f g
 sg:∃ f g,aI K CW "sign" "Well.sign" uP QK f g
 hl:∃ f g,aI K CW "holds" "Well.holds" kF CN f g
 hd:∃ f g,aI K CB "hides" "Blots.hides" qJ QK f g
 fr:∃ f g,aF K mg "first_reaching" m6 ["holes","start"] f g
 wi:∃ f g,aF K mg "within" C1 ["holes","address"] f g
 ad:∃ f g,aF K mg "addresses" uO gJ f g
inductive DS(C CS CW CB:Addr)(vs:List V)(H:Hp)(Q:VK)(E:XK):Prop
 | mk (U:Addr→Prop) (x:Addr) (pe:mq) (lines:pO) (aR:um) (nW:Nat) (eS:Row) (h:Int) (cs:List Nat) (rows:gj) (_:vs=[.ref x,.int h,.str (txt cs)]) (_:Bu C CS CW CB U H x pe lines aR nW eS) (_:yC h) (_:cs.length≤200) (_:aR.length≤90000) (_:nW≤900) (_:pe.getLast?=some rows) (_:rows.length≤50) (_:pe.length≤900) (_:lines.length≤900) (_ :
 ∀ (U':Addr→Prop) (q:Addr) (H':Hp),Bu C CS CW CB U' H' x (pe++[rows]) (lines++[(ko.Bm h cs).line]) (aR++vm h cs) (nW+1) eS→yK U U' H H'→H' q=some (.tup [.int (aR.length:Nat),.int ((aR++vm h cs).length:Nat)])→Q (.ref q) H'):DS C CS CW CB vs H Q E
theorem sP:aL ["self","hand","text","stretch"] ["self","hand","text"] (az jP):=⟨rfl,rfl,rfl,by decide +kernel,rfl,by decide +kernel,by decide +kernel⟩
theorem yL{f C CS CW CB XS XM XT XO XP fE:Addr}{fd gE:FuncData}(F:iJ K "pour" "Library.pour" jP f fd)(X:DR K mg C CS CW CB XS XM XT XO XP)(A1:DM K mg CS)(A2:F7 K mg)(A5:Q5 K mg CW CB)(aO:aI K C "enter" "Library.enter" bV IM fE gE):aH P w K mg base cK 4 f fd NR (DS C CS CW CB):=by
 obtain⟨LM,⟨_,iP⟩,w1,w2,w3,⟨_,qb⟩,b1,mh,Z⟩:=X
 obtain⟨_,⟨_,_,d2⟩,_,_,_,_,⟨_,_,d9⟩⟩:=A1
 obtain⟨_,_,_,_,_,_,_,⟨_,_,iZ⟩,⟨_,_,v9⟩,⟨_,_,v10⟩⟩:=A2
 have oR:aH P w K mg base cK 3 _ _ IM (zk C CS):=qy aO.F LM v9 v10 iZ d2 d9
 obtain⟨⟨_,_,s1⟩,⟨_,_,oV⟩,_⟩:=A5
 obtain⟨⟨T,_,_,_,_,_⟩,⟨fi,aB⟩,nw,ns,A8,nk,nd,Ay,bZ,G⟩:=LM
 have Ht:aH P w K mg base cK 2 _ _ NR (Hs CW):=DG oV.F T iP w1 w2 w3 s1
 refine F.ok sP (fun vs H Q E h=>?_) (fun cdv A outer s H vs Q E hr h=>?_)
 ·obtain⟨U,x,pe,lines,aR,nW,eS,h,cs,rows,rfl,_⟩:=h
  rfl
 obtain⟨U,x,pe,lines,aR,nW,eS,h,cs,rows,rfl,⟨S,SW,d,wl,sh,bl,kn,du,bk,dS,st,op,dw,sg,ow,pw,db,tb,ops,LU⟩,fh,lc,li,ln,hl,l1,l2,l3,k⟩:=h
 obtain⟨L,W,B,R,Q4,dj,db',dt,u⟩:=id LU
 refine⟨_,(ao (aY (i:=3) sP.nd rfl (Or.inl rfl) (bC (cW (pv 0) rfl) iP.cl oV.mt Ht (hr.mono (by decide)) oV.b .nil cZ (af (pv 1) (af (pv 2) aj))))
   (ao (bq (bC (pv 0) aB.cl aO.mt oR (hr.mono (by decide)) aO.b .nil cZ (af (fF (af cN (af (pv 1) (af (pv 2) aj)))) (af (bW aj) aj))))
   (au (aP (pv 3))))),?_⟩
 refine⟨_,rfl,x,C,d,_,.ref wl,rfl,L.hx,aB.cl,nw,rfl,wl,dw,_,rfl,W.hx,rfl,_,rfl,_,rfl,SW,wl,dw,sg,ow,pw,nW,aR,h,cs,rfl,W,by omega,by omega,fun SW' q H1 W1 hq sub fr tp=>?_⟩
 have nSW:∀ a ob,H a=some ob→¬ SW a→¬ SW' a:=fun a ob e n z=>by
  rcases sub a z with y|y
  ·exact n y
  ·rw[e]at y;cases y
 have nk1:∀ a ob,H a=some ob→(S a∨a=bk∨a=x)→¬ SW a:=fun a ob e z y=>by
  obtain⟨y1,y2,y3⟩:=dj a y
  rcases z with z|z|z
  ·exact y1 z
  ·exact y2 z
  ·exact y3 z
 have L1:eF C CS S H1 x d wl sh bl kn du bk dS st op (kL pe) ops lines:=L.fr (fun a ob e z=>fr _ _ e (nk1 a ob e z)) tp
 obtain⟨as,hR,_⟩:=id R
 have LU1:Bt C CS CW CB (fun a=>S a∨SW' a∨a=bk∨a=x∨a=bl∨a=tb) S SW' H1 x d wl sh bl kn du bk dS st op dw sg ow pw db tb pe ops lines (aR++vm h cs) (nW+1) eS:=by
  refine⟨L1,W1,fr _ _ B db'.2.1,R.two (fun xs e=>fr _ _ e dt.2.1) tp,Q4,fun a z=>?_,⟨db'.1,nSW _ _ B db'.2.1,db'.2.2⟩,⟨dt.1,nSW _ _ hR dt.2.1,dt.2.2⟩,fun a=>Iff.rfl⟩
  rcases sub a z with y|y
  ·exact dj a y
  ·refine⟨fun q'=>?_,fun q'=>?_,fun q'=>?_⟩
   ·obtain⟨ob,e⟩:=L.W.al a q'
    rw[y]at e;cases e
   ·rw[q',L.hb]at y;cases y
   ·rw[q',L.hx]at y;cases y
 refine⟨_,rfl,x,d,_,rfl,L1.hx,rfl,_,rfl,_,rfl,(by show 3≤sizeLine;decide),fun t ht=>⟨(by show 0≤sizeLine;decide),fun c hc=>?_⟩⟩
 have s2:aJ H1 (upd (upd H1 t (.tup [.str (Str.ofString "pour"),.int h,.str (txt cs)])) c (.lst [])):=(ak ht _).trans (ak hc _)
 have Ij:(upd (upd H1 t (.tup [.str (Str.ofString "pour"),.int h,.str (txt cs)])) c (.lst [])) t=some (.tup [.str (Str.ofString "pour"),.int h,.str (txt cs)]):=ak hc _ _ _ ah
 have hc2:(upd (upd H1 t (.tup [.str (Str.ofString "pour"),.int h,.str (txt cs)])) c (.lst [])) c=some (.lst (([]:List Addr).map V.ref)):=ah
 have nc:c≠bk:=fun z=>by
  have:=ak ht (.tup [.str (Str.ofString "pour"),.int h,.str (txt cs)]) _ _ L1.hb
  rw[← z,hc]at this
  cases this
 generalize upd (upd H1 t (.tup [.str (Str.ofString "pour"),.int h,.str (txt cs)])) c (.lst [])=H2 at s2 Ij hc2
 have lp:(kL pe).length=pe.length:=dW _
 have Q6:=LU1.same s2
 refine⟨S,x,d,wl,sh,bl,kn,du,bk,dS,st,op,kL pe,ops,lines,t,c,.Bm h cs,[],[],rows.map itemsOf,rfl,Q6.L,Ij,⟨fh,lc⟩,hc2,nc,.nil,(fun _ z=>by cases z),ie hl,(fun i ch e=>by cases e),(by show 0≤200;decide),by rw[dW];omega,by omega,by omega,fun S' H3 L3 Ua=>?_⟩
 have ep:kL pe++[qY (rows.map itemsOf) []]=kL (pe++[rows]):=by
  show _=(pe++[rows]).map _
  rw[qd]
  rfl
 have eo:ops++List.replicate ((qY (rows.map itemsOf) []).length-(rows.map itemsOf).length) (((kL pe).length:Nat):Int)=ops:=by
  show ops++List.replicate ((rows.map itemsOf).length-(rows.map itemsOf).length) _=ops
  rw[Nat.sub_self]
  exact j6 _
 rw[ep,eo]at L3
 obtain⟨U',hL',f'⟩:=Q6.rm L3 Ua
 refine⟨_,rfl,k U' q H3 hL' ⟨fun a z=>?_,fun a ob e n=>?_,fun a xs e=>f'.2.2 _ _ (s2 _ _ (tp _ _ e))⟩ (f'.2.2 _ _ (s2 _ _ hq))⟩
 ·rcases f'.1 a z with y|y
  ·rcases y with y|y|y
   ·exact .inl ((u a).mpr (.inl y))
   ·exact (sub a y).imp (fun w=>(u a).mpr (.inr (.inl w))) id
   ·exact .inl ((u a).mpr (.inr (.inr y)))
  ·have y1:=bK s2 y
   cases e:H a with
   | none=>exact .inr rfl
   | some ob =>
    by_cases z2:SW a
    ·exact .inl ((u a).mpr (.inr (.inl z2)))
    ·rw[fr _ _ e z2]at y1;cases y1
 ·have n1:¬ SW a:=fun z=>n ((u a).mpr (.inr (.inl z)))
  refine f'.2.1 a ob (s2 _ _ (fr _ _ e n1)) fun z=>?_
  rcases z with z|z|z
  ·exact n ((u a).mpr (.inl z))
  ·exact nSW _ _ e n1 z
  ·exact n ((u a).mpr (.inr (.inr z)))
inductive AG(C CS CW CB:Addr)(vs:List V)(H:Hp)(Q:VK)(E:XK):Prop
 | mk (U:Addr→Prop) (x:Addr) (pe:mq) (lines:pO) (aR:um) (nW:Nat) (eS:Row) (_:vs=[.ref x]) (_:Bu C CS CW CB U H x pe lines aR nW eS) (_:Q (.int (aR.length:Nat)) H):AG C CS CW CB vs H Q E
inductive sQ(C CS CW CB XO:Addr)(vs:List V)(H:Hp)(Q:VK)(E:XK):Prop
 | mk (U:Addr→Prop) (x r:Addr) (pe:mq) (lines:pO) (aR:um) (nW:Nat) (eS row:Row) (_:vs=[.ref x,.ref r]) (_:Bu C CS CW CB U H x pe lines aR nW eS) (_:cL H r row) (_:row.length≤1000) (_:aR.length≤100000) (_:(pY aR.length row=true→∀ H',aJ H H'→Q .jc H')) (_:(pY aR.length row=false→∀ H',aJ H H'→E (.ref XO) none H')):sQ C CS CW CB XO vs H Q E
theorem Bv:aL ["self"] ["self"] (az iT):=⟨rfl,rfl,rfl,by decide +kernel,rfl,by decide +kernel,by decide +kernel⟩
theorem sR:aL ["self","row"] ["self","row"] (az dG):=⟨rfl,rfl,rfl,by decide +kernel,rfl,by decide +kernel,by decide +kernel⟩
theorem AH{f C CS CW CB XS XM XT XO XP:Addr}{fd:FuncData}(F:iJ K "ink" "Library.ink" iT f fd)(X:DR K mg C CS CW CB XS XM XT XO XP)(A5:Q5 K mg CW CB):aH P w K mg base cK 2 f fd gy (AG C CS CW CB):=by
 obtain⟨LM,⟨_,iP⟩,w1,w2,w3,⟨_,qb⟩,b1,mh,Z⟩:=X
 obtain⟨⟨T,_,_,_,_,_⟩,⟨fi,aB⟩,nw,ns,A8,nk,nd,Ay,bZ,G⟩:=LM
 obtain⟨_,_,cI⟩:=A5.sz
 have l5:aH P w K mg base cK 1 _ _ gy (wA CW):=qZ cI.F T iP.cl w1
 refine F.ok Bv (fun vs H Q E h=>?_) (fun cdv A outer s H vs Q E hr h=>?_)
 ·obtain⟨U,x,pe,lines,aR,nW,eS,rfl,_⟩:=h
  rfl
 obtain⟨U,x,pe,lines,aR,nW,eS,rfl,⟨S,SW,d,wl,sh,bl,kn,du,bk,dS,st,op,dw,sg,ow,pw,db,tb,ops,LU⟩,k⟩:=h
 refine⟨_,(au (aP (bS (cW (pv 0) rfl) iP.cl cI.mt l5 (hr.mono (by decide)) cI.b .nil cZ))),?_⟩
 exact⟨_,rfl,x,C,d,_,.ref wl,rfl,LU.L.hx,aB.cl,nw,rfl,wl,dw,_,rfl,LU.W.hx,rfl,wl,dw,sg,ow,pw,aR,rfl,LU.W.hx,LU.W.hs,k⟩
theorem rO{f C CS CW CB XS XM XT XO XP fI:Addr}{fd gI:FuncData}(F:iJ K "check_held" "Library.check_held" dG f fd)(X:DR K mg C CS CW CB XS XM XT XO XP)(A5:Q5 K mg CW CB)(eX:aI K C "ink" "Library.ink" iT gy fI gI):aH P w K mg base (iM P w) 3 f fd CN (sQ C CS CW CB XO):=by
 have DT:aH P w K mg base cK 2 _ _ gy (AG C CS CW CB):=AH eX.F X A5
 obtain⟨LM,⟨_,iP⟩,w1,w2,w3,⟨_,qb⟩,b1,mh,Z⟩:=X
 obtain⟨⟨T,_,_,_,_,_⟩,⟨fi,aB⟩,nw,ns,A8,nk,nd,Ay,bZ,G⟩:=LM
 obtain⟨⟨_,_,cI⟩,_,_,_,⟨_,_,mX⟩,_⟩:=A5
 have FJ:aH P w K mg base cK 2 _ _ CN (DH CW):=Br mX.F T iP w1 cI
 refine yX F sR (fun vs H Q E h=>?_) (fun cdv A outer s H vs Q E hr h=>?_)
 ·obtain⟨U,x,r,pe,lines,aR,nW,eS,row,rfl,_⟩:=h
  rfl
 obtain⟨U,x,r,pe,lines,aR,nW,eS,row,rfl,LB,hr1,lr,li,k1,k2⟩:=h
 obtain⟨S,SW,d,wl,sh,bl,kn,du,bk,dS,st,op,dw,sg,ow,pw,db,tb,ops,LU⟩:=id LB
 refine⟨_,(au (cC (j7 (kP (bC (cW (pv 0) rfl) iP.cl mX.mt FJ (hr.mono (by decide)) mX.b .nil cZ (af (pv 1) aj))))
   (au (oj PySem.F.excBase_ValueError mh.x mh.m rfl uR (af (qQ (lg (lW (bS (pv 0) aB.cl eX.mt DT (hr.mono (by decide)) eX.b .nil cZ) uS))) aj)))
   bF)),?_⟩
 refine⟨_,rfl,x,C,d,_,.ref wl,rfl,LU.L.hx,aB.cl,nw,rfl,wl,dw,_,rfl,LU.W.hx,rfl,_,rfl,SW,wl,dw,sg,ow,pw,r,nW,aR,row,rfl,LU.W,hr1,lr,fun H1 s1=>⟨_,rfl,?_⟩⟩
 cases g:pY aR.length row with
 | true=>exact eU (k1 g H1 s1)
 | false =>
  have LB1:=LB.same s1
  have LU1:=LU.same s1
  have fl:qe ((aR.length:Nat):Int):=⟨by omega,by omega⟩
  exact iR ⟨_,rfl,x,d,_,rfl,LU1.L.hx,rfl,U,x,pe,lines,aR,nW,eS,rfl,LB1,_,rfl,fl.log,fun y=>⟨(by show 1≤sizeLine;decide),k2 g H1 s1⟩⟩
structure Q7(K:PySem.W.Frag)(mg:Str→Option Value):Prop where
 win:∃ f g,aF K mg "windows" dX mF f g
 bel:∃ f g,aF K mg "below" kg j4 f g
 ir:∃ f g,aF K mg "item_row" fy wJ f g
 pl:∃ f g,aF K mg "plain" lT gJ f g
 vb:∃ f g,aF K mg "views_below" dU j4 f g
 sz:∃ f g,aF K mg "size" ssize gJ f g
 cp:∃ f g,aF K mg "check_places" iy rR f g
 go:∃ f g,aF K mg "goes_on" kR Ed f g
 pi:∃ f g,aF K mg "plain_items" gR mF f g
 de:∃ f g,aF K mg "dealt" qL CO f g
 pc:∃ f g,aF K mg "pieces" nB rR f g
 ik:∃ f g,aF K mg "inked" qK gJ f g
 pa:∃ f g,aF K mg "put_among" lU Kc f g
 pu:∃ f g,aF K mg "put_items" nZ Kd f g
abbrev ptW:List Nat:=(Str.ofString "put").cps.toList
inductive tU(C CS CW CB XS XO XP:Addr)(vs:List V)(H:Hp)(Q:VK)(E:XK):Prop
 | mk (U:Addr→Prop) (x r:Addr) (pe:mq) (lines:pO) (aR:um) (nW:Nat) (eS row:Row) (s p:Int) (rows:gj) (_:vs=[.ref x,.int s,.int p,.ref r]) (_:Bu C CS CW CB U H x pe lines aR nW eS) (_:cL H r row) (_:Hi row) (_:aR.length≤100000) (_:pe.getLast?=some rows) (_:rows.length≤50) (_:pe.length≤900) (_:lines.length≤900) (_:qe s) (_:qe p) (_:(¬ uc rows.length s→∀ H',aJ H H'→E (.ref XS) none H')) (_:(uc rows.length s→∃ sh,Seen rows sh∧(¬ (0≤p∧p≤(sh s).length)→∀ H',aJ H H'→E (.ref XP) none H')∧(0≤p∧p≤(sh s).length→(pY aR.length row=false→∀ H',aJ H H'→E (.ref XO) none H')∧(pY aR.length row=true→∀ es,rows[s.toNat]?=some es→(∃ f,oQ (ic rows s.toNat (sH sh p es (dP (eN (cF row))))) f) ∧
  ∀ (U':Addr→Prop) (H':Hp),Bu C CS CW CB U' H' x (pe++[ic rows s.toNat (sH sh p es (dP (eN (cF row))))]) (lines++[(ko.uF ptW [s,p] row).line]) aR nW eS→yK U U' H H'→Q .jc H')))):tU C CS CW CB XS XO XP vs H Q E
theorem uH:aL ["self","sheet","place","row","items"] ["self","sheet","place","row"] (az kW):=⟨rfl,rfl,rfl,by decide +kernel,rfl,by decide +kernel,by decide +kernel⟩
theorem xQ(ns:List Int):tot (rowOf ns)=(ns.length:Int):=by rw[← sY _ (vP _),kG]
theorem NF{n:Nat}(h:n≤100000):qe ((n:Nat):Int):=⟨by omega,by omega⟩
theorem JZ{n:Nat}{row:Row}(h:pY n row=true):∀ p∈row,0≤p.1∧p.1<p.2∧p.2≤n:=fun p hp=>by
 have z:=List.all_eq_true.mp h p hp
 unfold Mi at z
 simpa [and_assoc] using z
theorem qe.big{s:Int}(h:qe s):s<10^60:=by
 obtain⟨_,h1⟩:=h
 omega
set_option maxHeartbeats 4000000 in
theorem AI{f C CS CW CB XS XM XT XO XP fS fZ f1 f2 f3 f4 f5:Addr}{fd g1 g2 g3 g4 g5:FuncData}(F:iJ K "put" "Library.put" kW f fd)(X:DR K mg C CS CW CB XS XM XT XO XP)(A1:DM K mg CS)(A2:F7 K mg)(A4:Tr K mg fS fZ)(A5:Q5 K mg CW CB)(A6:Q7 K mg)(aO:aI K C "enter" "Library.enter" bV IM f1 g1)(aK:aI K C "change" "Library.change" cj HB f2 g2)(cy:aI K C "shown" "Library.shown" fO tX f3 g3)(eX:aI K C "ink" "Library.ink" iT gy f4 g4)(cM:aI K C "check_held" "Library.check_held" dG CN f5 g5):aH P w K mg base (iM P w) 6 f fd Ml (tU C CS CW CB XS XO XP):=by
 have uf:aH P w K mg base (iM P w) 3 _ _ CN (sQ C CS CW CB XO):=rO cM.F X A5 eX
 obtain⟨LM,⟨_,iP⟩,w1,w2,w3,⟨_,qb⟩,b1,mh,Z⟩:=X
 have cS:aH P w K mg base (iM P w) 5 _ _ HB (sO C CS):=lD aK.F LM A1 A2 aO
 have oU:aH P w K mg base (iM P w) 5 _ _ tX (wD C CS XS):=qA cy.F LM A1 A4
 obtain⟨M,⟨fi,aB⟩,nw,ns,A8,nk,nd,Ay,bZ,G⟩:=LM
 obtain⟨⟨_,_,d1⟩,⟨_,_,d2⟩,⟨_,_,d3⟩,⟨_,_,d4⟩,⟨_,_,d7⟩,⟨_,_,bf⟩,⟨_,_,d9⟩⟩:=A1
 have eG:aH P w K mg base cK 4 _ _ gy (sJ CS):=je bf.F M d2 d4 d7
 obtain⟨T,⟨fj,aQ⟩,n1,n2,bY,bQ⟩:=M
 obtain⟨⟨_,_,i1⟩,⟨_,_,i2⟩,⟨_,_,i3⟩,⟨_,_,i4⟩,⟨_,_,i5⟩,⟨_,_,i6⟩,⟨_,_,cO⟩,⟨_,_,i8⟩,⟨_,_,i9⟩,⟨_,_,Tt⟩,⟨_,_,Tu⟩,⟨_,_,iV⟩,⟨_,_,UK⟩,⟨_,_,kr⟩⟩:=A6
 have jT:aH P w K mg base (iM P w) 2 _ _ rR (vQ XP):=m8 cO.F T Z i6
 have uZ:aH P w K mg base cK 2 _ _ gJ vY:=Ag iV.F T i4
 have vo:aH P w K mg base (iM P w) 4 _ _ Kd (oM XP):=wc kr.F T Z i1 i2 i3 i4 i5 i6 cO i8 i9 Tt Tu iV UK
 refine yX F uH (fun vs H Q E h=>?_) (fun cdv A outer s0 H vs Q E hr h=>?_)
 ·obtain⟨U,x,r,pe,lines,aR,nW,eS,row,s,p,rows,rfl,_⟩:=h
  rfl
 obtain⟨U,x,r,pe,lines,aR,nW,eS,row,s,p,rows,rfl,LB,hr1,fr,li,hl,l1,l2,l3,fs,fp,k1,k2⟩:=h
 obtain⟨S,SW,d,wl,sh,bl,kn,du,bk,dS,st,op,dw,sg,ow,pw,db,tb,ops,LU⟩:=id LB
 have lo:=mE LU.L hl
 have hl':=ie hl
 have lp:(kL pe).length=pe.length:=dW _
 refine⟨_,(ao (bq (qP cO jT hr fQ (af (bC (pv 0) aB.cl cy.mt oU (hr.mono (by decide)) cy.b .nil fQ (af (pv 1) aj)) (af (pv 2) (af (pv 2) aj)))))
   (ao (bq (bC (pv 0) aB.cl cM.mt uf (hr.mono (by decide)) cM.b .nil fQ (af (pv 3) aj)))
   (ao (aY (i:=4) uH.nd rfl (Or.inl rfl) (qP kr vo hr fQ (af (bS (cW (pv 0) rfl) aQ.cl bf.mt eG (hr.mono (by decide)) bf.b .nil cZ) (af (pv 1) (af (pv 2) (af (aS iV uZ hr (af (pv 3) aj)) aj))))))
   (au (bq (bC (pv 0) aB.cl aK.mt cS (hr.mono (by decide)) aK.b .nil fQ (af (fF (af cN (af (pv 1) (af (pv 2) (af (pv 3) aj))))) (af (pv 1) (af (pv 4) aj))))))))),?_⟩
 refine⟨_,rfl,x,d,_,rfl,LU.L.hx,rfl,_,rfl,S,x,d,wl,sh,bl,kn,du,bk,dS,st,op,pe,ops,lines,rows,s,rfl,LU.L,hl,l1,l2,fs,fun z=>k1 z H (aJ.refl _),fun ia=>?_⟩
 obtain⟨f0,sn,k3,k4⟩:=k2 ia
 have ls:(f0 s).length≤10000:=sn.ln s ia.1 ia.2
 have lr0:=tO (f0 s)
 refine⟨f0,sn,fun o H1 ho s1 fo=>?_⟩
 have i3:Lc p p (tot (rowOf (f0 s)))↔(0≤p∧p≤(f0 s).length):=by
  rw[xQ]
  unfold Lc
  omega
 refine⟨_,rfl,_,rfl,o,rowOf (f0 s),p,p,rfl,ho,by omega,fp,fp,by rw[xQ];exact NF (by omega),fun z H2 s2=>?_,fun z H2 s2=>k3 (fun y=>z (i3.mpr y)) H2 (s1.trans s2)⟩
 have s12:=s1.trans s2
 obtain⟨k5,k6⟩:=k4 (i3.mp z)
 have Q6:=LU.same s12
 have hr2:=hr1.same s12
 refine⟨_,rfl,x,d,_,rfl,Q6.L.hx,rfl,_,rfl,U,x,r,pe,lines,aR,nW,eS,row,rfl,LB.same s12,hr2,by have:=fr.1;omega,li,fun g H3 s3=>?_,fun g H3 s3=>k5 g H3 (s12.trans s3)⟩
 have Dc:=s12.trans s3
 have Q8:=LU.same Dc
 have Mf:=hr1.same Dc
 have hp:=JZ g
 have sl:s.toNat<rows.length:=by have:=ia.1;have:=ia.2;omega
 obtain⟨es,es1⟩:∃ es,rows[s.toNat]?=some es:=⟨_,rL sl⟩
 obtain⟨⟨fB,B⟩,k7⟩:=k6 g _ es1
 refine⟨_,rfl,x,C,d,_,.ref sh,rfl,Q8.L.hx,aB.cl,ns,rfl,sh,dS,_,rfl,Q8.L.W.hx,rfl,S,sh,dS,st,op,kL pe,ops,rfl,Q8.L.W,⟨by omega,by omega⟩,fun rws el q H4 fs4 s4=>?_⟩
 rw[hl']at el
 cases el
 obtain⟨fq,rs,hq,al⟩:=fs4
 have hR:gV H4 q (rows.map itemsOf):=by
  refine⟨rs.map V.ref,hq,?_⟩
  have key:∀ {as:List Addr} {ds:List (List Item)},cu (fun r its=>H3 r=none∧r≠q∧aW H4 (.ref r) its) as ds→cu (aW H4) (as.map V.ref) ds:=by
   intro as ds z
   induction z with
   | nil=>exact .nil
   | cons o t ih=>exact .cons o.2.2 ih
  exact key al
 have hr4:=Mf.same s4
 refine⟨_,rfl,_,rfl,_,rfl,r,row,rfl,hr4,by have:=fr.1;omega,fun oi H5 hoi s5 foi=>?_⟩
 have nn:rE row:=fun p' J7=>⟨(hp p' J7).1,by have:=(hp p' J7).2.1;omega⟩
 refine⟨q,oi,rows,s,p,_,f0,rfl,⟨hR.same s5,by omega,sn.es,sn.sd,sn.rk,sn.ss,sn.ln⟩,ia.1,ia.2,hoi,Ah (xx nn),?_,fp,fun _ es q2 H6 CG hq2 s6 Tv=>?_,fun y=>absurd (i3.mp z) y⟩
 ·unfold eN
  rw[dW]
  have:=tF row
  have:=fr.1
  omega
 rw[es1]at CG
 cases CG
 have OE:aJ H H6:=Dc.trans (s4.trans (s5.trans s6))
 have UL:=LU.same OE
 have Tw:q2≠bk:=fun e=>by
  have y:=(LU.same (Dc.trans (s4.trans s5))).L.hb
  rw[← e,Tv]at y
  cases y
 refine⟨_,rfl,x,d,_,rfl,UL.L.hx,rfl,_,rfl,_,rfl,_,rfl,(by show 4≤sizeLine;decide),fun t ht=>?_⟩
 have s7:=ak ht (.tup [.str (Str.ofString "put"),.int s,.int p,.ref r])
 have ht7:(upd H6 t (.tup [.str (Str.ofString "put"),.int s,.int p,.ref r])) t=some (.tup [.str (Str.ofString "put"),.int s,.int p,.ref r]):=ah
 generalize upd H6 t (.tup [.str (Str.ofString "put"),.int s,.int p,.ref r])=H7 at s7 ht7
 have s17:=OE.trans s7
 have LU7:=LU.same s17
 have ss:((s.toNat:Nat):Int)=s:=by have:=ia.1;omega
 refine⟨_,rfl,_,rfl,S,x,d,wl,sh,bl,kn,du,bk,dS,st,op,pe,ops,lines,t,q2,.uF ptW [s,p] row,s.toNat,_,rows,fB,by rw[ss];rfl,LU7.L,⟨r,by rw[ht7,uU];rfl,hr1.same s17⟩,⟨(by show tabAt S8 ptW=some 2;decide +kernel),?_,fr⟩,hq2.same s7,Tw,hl,by have:=ia.2;have:=ia.1;omega,l1,l2,l3,B,fun S' H8 L8 Jo=>?_⟩
 ·intro y hy
  have b1:=ia.1
  have b2:=(i3.mp z).1
  rcases List.mem_cons.mp hy with e|e
  ·rw[e];exact⟨b1,fs.big⟩
  ·rw[List.mem_singleton.mp e];exact⟨b2,fp.big⟩
 ·obtain⟨U',hL',f'⟩:=LU7.rm L8 Jo
  exact k7 U' H8 hL' (f'.pre s17)
theorem We.mW{C C':Addr}{S:Addr→Prop}{H H':Hp}{x d s o p l d':Addr}{n:Nat}{aR:um}{fs:List (Str × V)}(h:We C S H x d s o p n aR)(hl:H l=some (.ins C' d' fs))(nl:¬ S l)(k:eE l H H'):We C S H' x d s o p n aR :=
 h.fr (fun a ob e z=>k a ob e (fun q=>nl (by rw[← q];exact z))) (fun a xs e=>k _ _ e (gx e hl (by intro z;cases z)))
theorem cL.mW{C':Addr}{H H':Hp}{r l d':Addr}{row:Row}{fs:List (Str × V)}(h:cL H r row)(hl:H l=some (.ins C' d' fs))(k:eE l H H'):cL H' r row :=
 h.two (fun xs e=>k _ _ e (gx e hl (by intro z;cases z))) (fun a xs e=>k _ _ e (gx e hl (by intro z;cases z)))
theorem qB{H:Hp}{xw dw a:Addr}{o:HO}(e:(upd (upd H dw (.own xw)) xw o) a=none):H a=none:=by
 by_cases z1:a=xw
 ·rw[z1,ah]at e;cases e
 rw[aM z1]at e
 by_cases z2:a=dw
 ·rw[z2,ah]at e;cases e
 rw[aM z2]at e
 exact e
inductive tV(C CS CW CB:Addr)(vs:List V)(H:Hp)(Q:VK)(E:XK):Prop
 | mk (x d:Addr) (_:vs=[.ref x]) (_:H x=some (.ins C d [])) (_: ∀ (U:Addr→Prop) (H':Hp),Bu C CS CW CB U H' x [[]] [] [] 0 []→(∀ a,U a→a=x∨H a=none)→eE x H H'→Q .jc H'):tV C CS CW CB vs H Q E
theorem vp:aL ["self"] ["self"] (az gU):=⟨rfl,rfl,rfl,by decide +kernel,rfl,by decide +kernel,by decide +kernel⟩
theorem ug{f C CS XS XM XT CW CB CT CD f1 f2 f3 f4 f5:Addr}{fd g1 g2 g3 g4 g5:FuncData}(F:iJ K "__init__" "Library.__init__" gU f fd)(L:rf K mg C CS XS XM XT)(aQ:ClsAt K mg "Shelf" CS f1)(j0:aI K CS "__init__" "Shelf.__init__" iY gy f1 g1)
  (iP:ClsAt K mg "Well" CW f2) (lE:aI K CW "__init__" "Well.__init__" jt gy f2 g2) (w1:bh K CW "signs") (w2:bh K CW "owners") (w3:bh K CW "pourings")
  (qb:ClsAt K mg "Blots" CB f3) (j3:aI K CB "__init__" "Blots.__init__" iX gy f3 g3) (b1:bh K CB "stains")
  (FL:ClsAt K mg "Ties" CT f4) (lF:aI K CT "__init__" "Ties.__init__" jo gy f4 g4) (t1:bh K CT "given") (t2:bh K CT "pairs")
  (FN:ClsAt K mg "Dues" CD f5) (lG:aI K CD "__init__" "Dues.__init__" jq gy f5 g5) (u1:bh K CD "sums"):aH P w K mg base cK 3 f fd gy (tV C CS CW CB):=by
 obtain⟨M,⟨fi,aB⟩,nw,ns,A8,nk,nd,Ay,bZ,G⟩:=L
 obtain⟨T,_,n1,n2,bY,bQ⟩:=M
 have yM:aH P w K mg base cK 1 _ _ gy (Dy CS):=wg j0.F aQ.cl n1 n2
 have AJ:aH P w K mg base cK 1 _ _ gy (DF CW):=xM lE.F iP.cl w1 w2 w3
 have yN:aH P w K mg base cK 1 _ _ gy (Dj CB):=vS j3.F qb.cl b1
 have AK:aH P w K mg base cK 1 _ _ gy (wz CT):=xJ lF.F FL.cl t1 t2
 have AL:aH P w K mg base cK 1 _ _ gy (wz CD):=xH lG.F FN.cl u1
 refine F.ok vp (fun vs H Q E h=>?_) (fun cdv A outer s H vs Q E hr h=>?_)
 ·obtain⟨x,d,rfl,_⟩:=h
  rfl
 obtain⟨x,d,rfl,hx,k⟩:=h
 refine⟨_,(ao (j8 (pv 0) (qg iP.QU AJ (hr.mono (by decide)) rfl iP.m lE.b .nil cZ) rfl)
   (ao (j8 (pv 0) (qg aQ.QU yM (hr.mono (by decide)) rfl aQ.m j0.b .nil cZ) rfl)
   (ao (j8 (pv 0) (qg qb.QU yN (hr.mono (by decide)) rfl qb.m j3.b .nil cZ) rfl)
   (ao (j8 (pv 0) (qg FL.QU AK (hr.mono (by decide)) rfl FL.m lF.b .nil cZ) rfl)
   (ao (j8 (pv 0) (qg FN.QU AL (hr.mono (by decide)) rfl FN.m lG.b .nil cZ) rfl)
   (au (j8 (pv 0) (bW aj) rfl))))))),?_⟩
 intro wl dw hw1 hw2 _
 refine⟨wl,dw,rfl,ah,fun sg ow pw H1 V1 k1 fsg fow fpw=>⟨rfl,?_⟩⟩
 have s1:=nP hw1 hw2 k1
 have fW:∀ a,(a=wl∨a=sg∨a=ow∨a=pw)→H a=none:=fun a e=>by
  rcases e with rfl|rfl|rfl|rfl
  ·exact hw1
  ·exact qB fsg
  ·exact qB fow
  ·exact qB fpw
 have Qu:¬ (x=wl∨x=sg∨x=ow∨x=pw):=fun e=>by
  have:=fW x e
  rw[hx]at this
  cases this
 refine⟨_,rfl,x,C,d,_,rfl,s1 _ _ hx,aB.cl,nw,by decide,?_⟩
 have q2:eE x H (upd H1 x (.ins C d (L2.dJ "well" (.ref wl) []))):=eE.trans (jk.aJ.keep s1) (aN x _ _)
 have x2:(upd H1 x (.ins C d (L2.dJ "well" (.ref wl) []))) x=some (.ins C d [("well",.ref wl)]):=ah
 have kx2:eE x H1 (upd H1 x (.ins C d (L2.dJ "well" (.ref wl) []))):=aN x _ _
 generalize upd H1 x (.ins C d (L2.dJ "well" (.ref wl) []))=H2 at q2 x2 kx2
 have V2:=V1.mW (s1 _ _ hx) Qu kx2
 intro sh dS hs1 hs2 _
 refine⟨sh,dS,rfl,ah,fun st op z H3 W3 k3 fst fop fz=>⟨rfl,?_⟩⟩
 have s3:=nP hs1 hs2 k3
 have up:∀ a,(upd (upd H2 dS (.own sh)) sh (.ins CS dS [])) a=none→H2 a=none:=fun a e=>by
  by_cases z1:a=sh
  ·rw[z1,ah]at e;cases e
  rw[aM z1]at e
  by_cases z2:a=dS
  ·rw[z2,ah]at e;cases e
  rw[aM z2]at e
  exact e
 have fS:∀ a,(a=sh∨a=st∨a=op∨a=z)→H2 a=none:=fun a e=>by
  rcases e with rfl|rfl|rfl|rfl
  ·exact hs1
  ·exact up _ fst
  ·exact up _ fop
  ·exact up _ fz
 have Qv:¬ (x=sh∨x=st∨x=op∨x=z):=fun e=>by
  have:=fS x e
  rw[x2]at this
  cases this
 have x3:=s3 _ _ x2
 have V3:=V2.same s3
 refine⟨_,rfl,x,C,d,_,rfl,x3,aB.cl,ns,(by show 1<1000;decide),?_⟩
 have k4:eE x H3 (upd H3 x (.ins C d (L2.dJ "shelf" (.ref sh) [("well",.ref wl)]))):=aN x _ _
 have x4:(upd H3 x (.ins C d (L2.dJ "shelf" (.ref sh) [("well",.ref wl)]))) x=some (.ins C d [("well",.ref wl),("shelf",.ref sh)]):=ah
 generalize upd H3 x (.ins C d (L2.dJ "shelf" (.ref sh) [("well",.ref wl)]))=H4 at k4 x4
 have W4:=W3.mW x3 Qv k4
 have V4:=V3.mW x3 Qu k4
 have q4:eE x H H4:=(q2.trans (jk.aJ.keep s3)).trans k4
 intro bl db hb1 hb2 _
 refine⟨bl,db,rfl,ah,fun tb H5 B5 R5 k5 ftb=>⟨rfl,?_⟩⟩
 have s5:=nP hb1 hb2 k5
 have Qw:=qB ftb
 have x5:=s5 _ _ x4
 have W5:=W4.same s5
 have V5:=V4.same s5
 have LZ:bl≠x:=(ay x4 hb1).symm
 refine⟨_,rfl,x,C,d,_,rfl,x5,aB.cl,A8,(by show 2<1000;decide),?_⟩
 have k6:eE x H5 (upd H5 x (.ins C d (L2.dJ "blots" (.ref bl) [("well",.ref wl),("shelf",.ref sh)]))):=aN x _ _
 have x6:(upd H5 x (.ins C d (L2.dJ "blots" (.ref bl) [("well",.ref wl),("shelf",.ref sh)]))) x=some (.ins C d [("well",.ref wl),("shelf",.ref sh),("blots",.ref bl)]):=ah
 generalize upd H5 x (.ins C d (L2.dJ "blots" (.ref bl) [("well",.ref wl),("shelf",.ref sh)]))=H6 at k6 x6
 have W6:=W5.mW x5 Qv k6
 have V6:=V5.mW x5 Qu k6
 have B6:Bl CB H6 bl db tb:=k6 _ _ B5 LZ
 have R6:=R5.mW x5 k6
 have q6:eE x H H6:=(q4.trans (jk.aJ.keep s5)).trans k6
 intro kn dk hk1 hk2 _
 refine⟨kn,dk,rfl,ah,fun fs7 H7 _ k7=>⟨rfl,?_⟩⟩
 have s7:=nP hk1 hk2 k7
 have x7:=s7 _ _ x6
 have W7:=W6.same s7
 have V7:=V6.same s7
 have B7:Bl CB H7 bl db tb:=s7 _ _ B6
 have R7:=R6.same s7
 refine⟨_,rfl,x,C,d,_,rfl,x7,aB.cl,nk,(by show 3<1000;decide),?_⟩
 have k8:eE x H7 (upd H7 x (.ins C d (L2.dJ "knots" (.ref kn) [("well",.ref wl),("shelf",.ref sh),("blots",.ref bl)]))):=aN x _ _
 have x8:(upd H7 x (.ins C d (L2.dJ "knots" (.ref kn) [("well",.ref wl),("shelf",.ref sh),("blots",.ref bl)]))) x=some (.ins C d [("well",.ref wl),("shelf",.ref sh),("blots",.ref bl),("knots",.ref kn)]):=ah
 generalize upd H7 x (.ins C d (L2.dJ "knots" (.ref kn) [("well",.ref wl),("shelf",.ref sh),("blots",.ref bl)]))=H8 at k8 x8
 have W8:=W7.mW x7 Qv k8
 have V8:=V7.mW x7 Qu k8
 have B8:Bl CB H8 bl db tb:=k8 _ _ B7 LZ
 have R8:=R7.mW x7 k8
 have q8:eE x H H8:=(q6.trans (jk.aJ.keep s7)).trans k8
 intro du dd hd1 hd2 _
 refine⟨du,dd,rfl,ah,fun fs9 H9 _ k9=>⟨rfl,?_⟩⟩
 have s9:=nP hd1 hd2 k9
 have x9:=s9 _ _ x8
 have W9:=W8.same s9
 have V9:=V8.same s9
 have B9:Bl CB H9 bl db tb:=s9 _ _ B8
 have R9:=R8.same s9
 refine⟨_,rfl,x,C,d,_,rfl,x9,aB.cl,nd,(by show 4<1000;decide),?_⟩
 have OF:eE x H9 (upd H9 x (.ins C d (L2.dJ "dues" (.ref du) [("well",.ref wl),("shelf",.ref sh),("blots",.ref bl),("knots",.ref kn)]))):=aN x _ _
 have OG:(upd H9 x (.ins C d (L2.dJ "dues" (.ref du) [("well",.ref wl),("shelf",.ref sh),("blots",.ref bl),("knots",.ref kn)]))) x=some (.ins C d [("well",.ref wl),("shelf",.ref sh),("blots",.ref bl),("knots",.ref kn),("dues",.ref du)]):=ah
 generalize upd H9 x (.ins C d (L2.dJ "dues" (.ref du) [("well",.ref wl),("shelf",.ref sh),("blots",.ref bl),("knots",.ref kn)]))=Bg at OF OG
 have W10:=W9.mW x9 Qv OF
 have V10:=V9.mW x9 Qu OF
 have xR:Bl CB Bg bl db tb:=OF _ _ B9 LZ
 have R10:=R9.mW x9 OF
 have yy:eE x H Bg:=(q8.trans (jk.aJ.keep s9)).trans OF
 refine⟨(by show 0≤sizeLine;decide),fun bk OH=>⟨_,rfl,x,C,d,_,rfl,ak OH _ _ _ OG,aB.cl,Ay,(by show 5<1000;decide),?_⟩⟩
 have nbx:bk≠x:=(ay OG OH).symm
 have nSb:¬ (bk=sh∨bk=st∨bk=op∨bk=z):=fun e=>by
  obtain⟨ob,w⟩:=W10.al bk e
  rw[OH]at w
  cases w
 have nO:=ak OH (.lst [])
 have Tz:eE x (upd Bg bk (.lst [])) (upd (upd Bg bk (.lst [])) x (.ins C d (L2.dJ "book" (.ref bk) [("well",.ref wl),("shelf",.ref sh),("blots",.ref bl),("knots",.ref kn),("dues",.ref du)]))):=aN x _ _
 have W12:=(W10.same nO).mW (nO _ _ OG) Qv Tz
 have V12:=(V10.same nO).mW (nO _ _ OG) Qu Tz
 have Q9:=Tz _ _ (nO _ _ xR) LZ
 have R12:=(R10.same nO).mW (nO _ _ OG) Tz
 obtain⟨as5,hR5,_⟩:=id R5
 have TF:∀ a,(a=sh∨a=st∨a=op∨a=z)→a=x∨H a=none:=fun a e=>.inr (kH q2 (fun e'=>by rw[e']at e;exact Qv e) (fS a e))
 refine k (fun a=>(a=sh∨a=st∨a=op∨a=z)∨(a=wl∨a=sg∨a=ow∨a=pw)∨a=bk∨a=x∨a=bl∨a=tb) _ ⟨_,_,d,wl,sh,bl,kn,du,bk,dS,st,op,dw,sg,ow,pw,db,tb,[],⟨ah,W12,?_,Qv,nSb⟩,V12,Q9,R12,?_,?_,?_,?_,fun a=>Iff.rfl⟩ ?_ ((yy.trans (jk.aJ.keep nO)).trans Tz)
 ·rw[aM nbx]
  exact ah
 ·exact⟨.nil,fun _ z=>by cases z⟩
 ·intro a ea
  obtain⟨ob,hob⟩:=V2.al a ea
  refine⟨fun es=>?_,fun eb=>?_,fun ex=>?_⟩
  ·rw[fS a es]at hob;cases hob
  ·obtain⟨ob',w⟩:=V10.al a ea
   rw[eb,OH]at w
   cases w
  ·rw[ex]at ea;exact Qu ea
 ·refine⟨fun es=>?_,fun ew=>?_,fun eb=>?_⟩
  ·obtain⟨ob,w⟩:=W4.al bl es
   rw[hb1]at w;cases w
  ·obtain⟨ob,w⟩:=V4.al bl ew
   rw[hb1]at w;cases w
  ·rw[eb]at xR
   have TH:Bg bk=some _:=xR
   rw[OH]at TH;cases TH
 ·refine⟨fun es=>?_,fun ew=>?_,fun eb=>?_⟩
  ·obtain⟨ob,w⟩:=W4.al tb es
   rw[Qw]at w;cases w
  ·obtain⟨ob,w⟩:=V4.al tb ew
   rw[Qw]at w;cases w
  ·obtain⟨as,hR,_⟩:=id R10
   rw[eb,OH]at hR;cases hR
 ·intro a ea
  rcases ea with ea|ea|ea|ea|ea|ea
  ·exact TF a ea
  ·exact .inr (fW a ea)
  ·rw[ea];exact .inr (kH yy nbx OH)
  ·exact .inl ea
  ·rw[ea];exact .inr (kH q4 LZ hb1)
  ·by_cases ex:a=x
   ·exact .inl ex
   ·rw[ea]at ex ⊢;exact .inr (kH q4 ex Qw)
theorem Nt.at_{H H':Hp}{q:Addr}{rows:List (List Item)}(h:Nt H H' q rows):gV H' q rows:=by
 obtain⟨_,rs,hq,al⟩:=h
 refine⟨rs.map V.ref,hq,?_⟩
 have key:∀ {as:List Addr} {ds:List (List Item)},cu (fun r its=>H r=none∧r≠q∧aW H' (.ref r) its) as ds→cu (aW H') (as.map V.ref) ds:=by
  intro as ds z
  induction z with
  | nil=>exact .nil
  | cons o t ih=>exact .cons o.2.2 ih
 exact key al
abbrev ctW:List Nat:=(Str.ofString "cut").cps.toList
inductive zq(C CS CW CB XS XP:Addr)(vs:List V)(H:Hp)(Q:VK)(E:XK):Prop
 | mk (U:Addr→Prop) (x:Addr) (pe:mq) (lines:pO) (aR:um) (nW:Nat) (eS:Row) (s a b:Int) (rows:gj) (_:vs=[.ref x,.int s,.int a,.int b]) (_:Bu C CS CW CB U H x pe lines aR nW eS) (_:pe.getLast?=some rows) (_:rows.length≤50) (_:pe.length≤900) (_:lines.length≤900) (_:qe s) (_:qe a) (_:qe b)
  (_:¬ uc rows.length s→∀ H',aJ H H'→E (.ref XS) none H') (_:uc rows.length s→∃ sh,Seen rows sh∧(¬ Lc a b (sh s).length→∀ H',aJ H H'→E (.ref XP) none H')∧(Lc a b (sh s).length→∀ es,rows[s.toNat]?=some es→(∃ f,oQ (ic rows s.toNat (u7 sh a b es)) f) ∧
  ∀ (U':Addr→Prop) (H':Hp),Bu C CS CW CB U' H' x (pe++[ic rows s.toNat (u7 sh a b es)]) (lines++[(ko.plain ctW [s,a,b]).line]) aR nW eS→yK U U' H H'→Q .jc H')):zq C CS CW CB XS XP vs H Q E
inductive DU(C CS XS:Addr)(vs:List V)(H:Hp)(Q:VK)(E:XK):Prop
 | mk (S:Addr→Prop) (x d wl sh bl kn du bk dS st op:Addr) (pe:mq) (ops:List Int) (lines:pO) (rows:gj) (s:Int) (_:vs=[.ref x,.int s]) (_:eF C CS S H x d wl sh bl kn du bk dS st op (kL pe) ops lines) (_:pe.getLast?=some rows) (_:rows.length≤50) (_:pe.length≤900) (_:qe s)
  (_:¬ uc rows.length s→E (.ref XS) none H) (_:uc rows.length s→∀ es,rows[s.toNat]?=some es→∀ (q:Addr) (H':Hp),aW H' (.ref q) (itemsOf es)→aJ H H'→H q=none→Q (.ref q) H'):DU C CS XS vs H Q E
theorem uI:aL ["self","sheet","start","stop","items"] ["self","sheet","start","stop"] (az kX):=⟨rfl,rfl,rfl,by decide +kernel,rfl,by decide +kernel,by decide +kernel⟩
set_option maxHeartbeats 4000000 in
theorem AM{f C CS CW CB XS XM XT XO XP f1 f2 fc fp:Addr}{fd g1 g2 gc gp:FuncData}(F:iJ K "cut" "Library.cut" kX f fd)(X:DR K mg C CS CW CB XS XM XT XO XP)(A1:DM K mg CS)(A2:F7 K mg)(A6:Q7 K mg)(aO:aI K C "enter" "Library.enter" bV IM f1 g1)(aK:aI K C "change" "Library.change" cj HB f2 g2)(mj:aF K mg "cut_items" lV Ke fc gc)(pI:aF K mg "parted" qM IS fp gp):aH P w K mg base (iM P w) 6 f fd Mm (zq C CS CW CB XS XP):=by
 obtain⟨LM,_,_,_,_,_,_,_,Z⟩:=X
 have cS:aH P w K mg base (iM P w) 5 _ _ HB (sO C CS):=lD aK.F LM A1 A2 aO
 obtain⟨M,⟨fi,aB⟩,nw,ns,A8,nk,nd,Ay,bZ,G⟩:=LM
 obtain⟨⟨_,_,d1⟩,⟨_,_,d2⟩,⟨_,_,aA⟩,⟨_,_,d4⟩,⟨_,_,d7⟩,⟨_,_,bf⟩,⟨_,_,d9⟩⟩:=A1
 have eG:aH P w K mg base cK 4 _ _ gy (sJ CS):=je bf.F M d2 d4 d7
 have bz:aH P w K mg base (iM P w) 2 _ _ tX (mT CS XS):=cU aA.F M d1
 obtain⟨T,⟨fj,aQ⟩,n1,n2,bY,bQ⟩:=M
 obtain⟨⟨_,_,i1⟩,⟨_,_,i2⟩,⟨_,_,i3⟩,⟨_,_,i4⟩,⟨_,_,i5⟩,⟨_,_,i6⟩,⟨_,_,i7⟩,⟨_,_,i8⟩,⟨_,_,i9⟩,⟨_,_,Tt⟩,⟨_,_,Tu⟩,⟨_,_,i12⟩,⟨_,_,UK⟩,⟨_,_,i14⟩⟩:=A6
 have Hu:aH P w K mg base (iM P w) 4 _ _ Ke (vc XP):=Du mj.F T Z i1 i2 i3 i4 i5 i6 i7 i8 i9 Tt Tu i12 pI
 refine yX F uI (fun vs H Q E h=>?_) (fun cdv A outer s0 H vs Q E hr h=>?_)
 ·obtain⟨U,x,pe,lines,aR,nW,eS,s,a,b,rows,rfl,_⟩:=h
  rfl
 obtain⟨U,x,pe,lines,aR,nW,eS,s,a,b,rows,rfl,LB,hl,l1,l2,l3,fs,fa,fb,k1,k2⟩:=h
 obtain⟨S,SW,d,wl,sh,bl,kn,du,bk,dS,st,op,dw,sg,ow,pw,db,tb,ops,LU⟩:=id LB
 have lo:=mE LU.L hl
 have hl':=ie hl
 have lp:(kL pe).length=pe.length:=dW _
 have ok:Bq (kL pe) ops:=⟨by omega,by omega⟩
 refine⟨_,(ao (bq (bC (cW (pv 0) rfl) aQ.cl aA.mt bz (hr.mono (by decide)) aA.b .nil fQ (af (pv 1) aj)))
   (ao (aY (i:=4) uI.nd rfl (Or.inl rfl) (qP mj Hu hr fQ (af (bS (cW (pv 0) rfl) aQ.cl bf.mt eG (hr.mono (by decide)) bf.b .nil cZ) (af (pv 1) (af (pv 2) (af (pv 3) aj))))))
   (au (bq (bC (pv 0) aB.cl aK.mt cS (hr.mono (by decide)) aK.b .nil fQ (af (fF (af cN (af (pv 1) (af (pv 2) (af (pv 3) aj))))) (af (pv 1) (af (pv 4) aj)))))))),?_⟩
 refine⟨_,rfl,x,C,d,_,.ref sh,rfl,LU.L.hx,aB.cl,ns,rfl,sh,dS,_,rfl,LU.L.W.hx,rfl,_,rfl,S,sh,dS,st,op,kL pe,ops,s,rfl,LU.L.W,ok,fs,fun ia=>?_,fun z=>k1 (by rw[← lo];exact z) H (aJ.refl _)⟩
 rw[lo]at ia
 obtain⟨f0,sn,k3,k4⟩:=k2 ia
 refine⟨_,rfl,x,C,d,_,.ref sh,rfl,LU.L.hx,aB.cl,ns,rfl,sh,dS,_,rfl,LU.L.W.hx,rfl,S,sh,dS,st,op,kL pe,ops,rfl,LU.L.W,ok,fun rws el q H1 Qt s1=>?_⟩
 rw[hl']at el
 cases el
 have sl:s.toNat<rows.length:=by have:=ia.1;have:=ia.2;omega
 obtain⟨es,es1⟩:∃ es,rows[s.toNat]?=some es:=⟨_,rL sl⟩
 refine⟨_,rfl,_,rfl,_,rfl,q,rows,s,a,b,f0,rfl,⟨Qt.at_,by omega,sn.es,sn.sd,sn.rk,sn.ss,sn.ln⟩,ia.1,ia.2,fa,fb,fun i3 es' q2 H2 CG hq2 s2 Tv=>?_,fun n3 H2 s2=>k3 n3 H2 (s1.trans s2)⟩
 rw[es1]at CG
 cases CG
 obtain⟨⟨fB,B⟩,k5⟩:=k4 i3 es es1
 have s12:=s1.trans s2
 have Q6:=LU.same s12
 have Tw:q2≠bk:=fun e=>by
  have y:=(LU.same s1).L.hb
  rw[← e,Tv]at y
  cases y
 refine⟨_,rfl,x,d,_,rfl,Q6.L.hx,rfl,_,rfl,_,rfl,_,rfl,(by show 4≤sizeLine;decide),fun t ht=>?_⟩
 have s3:=ak ht (.tup [.str (Str.ofString "cut"),.int s,.int a,.int b])
 have Q3:(upd H2 t (.tup [.str (Str.ofString "cut"),.int s,.int a,.int b])) t=some (.tup [.str (Str.ofString "cut"),.int s,.int a,.int b]):=ah
 generalize upd H2 t (.tup [.str (Str.ofString "cut"),.int s,.int a,.int b])=H3 at s3 Q3
 have Dc:=s12.trans s3
 have Q8:=LU.same Dc
 have ss:((s.toNat:Nat):Int)=s:=by have:=ia.1;omega
 refine⟨_,rfl,_,rfl,S,x,d,wl,sh,bl,kn,du,bk,dS,st,op,pe,ops,lines,t,q2,.plain ctW [s,a,b],s.toNat,_,rows,fB,by rw[ss];rfl,Q8.L,(by show H3 t=_;rw[Q3,uU];rfl),⟨(by show tabAt OB ctW=some 3;decide +kernel),?_⟩,hq2.same s3,Tw,hl,by omega,l1,l2,l3,B,fun S' H8 L8 Jo=>?_⟩
 ·intro y hy
  have b1:=ia.1
  unfold Lc at i3
  rcases List.mem_cons.mp hy with e|hy
  ·rw[e];exact⟨b1,fs.big⟩
  rcases List.mem_cons.mp hy with e|hy
  ·rw[e];exact⟨by omega,fa.big⟩
  ·rw[List.mem_singleton.mp hy];exact⟨by omega,fb.big⟩
 ·obtain⟨U',hL',f'⟩:=Q8.rm L8 Jo
  exact k5 U' H8 hL' (f'.pre Dc)
theorem Bw:aL ["self","sheet"] ["self","sheet"] (az nC):=⟨rfl,rfl,rfl,by decide +kernel,rfl,by decide +kernel,by decide +kernel⟩
theorem AN{f C CS XS XM XT fr:Addr}{fd gr:FuncData}(F:iJ K "row" "Library.row" nC f fd)(L:rf K mg C CS XS XM XT)(A1:DM K mg CS)(oW:aI K CS "row" "Shelf.row" n6 tX fr gr):aH P w K mg base (iM P w) 4 f fd tX (DU C CS XS):=by
 obtain⟨⟨_,_,d1⟩,⟨_,_,d2⟩,⟨_,_,aA⟩,⟨_,_,d4⟩,⟨_,_,d7⟩,⟨_,_,bf⟩,⟨_,_,d9⟩⟩:=A1
 obtain⟨M,⟨fi,aB⟩,nw,ns,A8,nk,nd,Ay,bZ,G⟩:=L
 have Hv:aH P w K mg base (iM P w) 3 _ _ tX (LS CS XS):=DC oW.F M d1 aA
 obtain⟨T,⟨fj,aQ⟩,n1,n2,bY,bQ⟩:=M
 refine yX F Bw (fun vs H Q E h=>?_) (fun cdv A outer s0 H vs Q E hr h=>?_)
 ·obtain⟨S,x,d,wl,sh,bl,kn,du,bk,dS,st,op,pe,ops,lines,rows,s,rfl,_⟩:=h
  rfl
 obtain⟨S,x,d,wl,sh,bl,kn,du,bk,dS,st,op,pe,ops,lines,rows,s,rfl,L,hl,l1,l2,fs,k1,k2⟩:=h
 have lo:=mE L hl
 have hl':=ie hl
 have lp:(kL pe).length=pe.length:=dW _
 refine⟨_,(au (aP (bC (cW (pv 0) rfl) aQ.cl oW.mt Hv (hr.mono (by decide)) oW.b .nil fQ (af (pv 1) aj)))),?_⟩
 refine⟨_,rfl,x,C,d,_,.ref sh,rfl,L.hx,aB.cl,ns,rfl,sh,dS,_,rfl,L.W.hx,rfl,_,rfl,S,sh,dS,st,op,kL pe,ops,s,rfl,L.W,⟨by omega,by omega⟩,fs,fun si last its e1 e2 e3=>?_,fun z=>k1 (by rw[← lo];exact z)⟩
 rw[hl']at e2
 cases e2
 rw[uq]at e3
 obtain⟨es,e4,rfl⟩:=Option.map_eq_some_iff.mp e3
 have il:=(List.getElem?_eq_some_iff.mp e4).1
 exact fun q H' hq s1 fq=>k2 ⟨by omega,by omega⟩ es (by rw[e1,mG];exact e4) q H' hq s1 fq
abbrev wnW:List Nat:=(Str.ofString "window").cps.toList
inductive sS(C CS CW CB XS XP:Addr)(vs:List V)(H:Hp)(Q:VK)(E:XK):Prop
 | mk (U:Addr→Prop) (x:Addr) (pe:mq) (lines:pO) (aR:um) (nW:Nat) (eS:Row) (t p s:Int) (rows:gj) (_:vs=[.ref x,.int t,.int p,.int s]) (_:Bu C CS CW CB U H x pe lines aR nW eS) (_:pe.getLast?=some rows) (_:rows.length≤50) (_:pe.length≤900) (_:lines.length≤900) (_:qe t) (_:qe p) (_:qe s)
  (_:¬ uc rows.length t→∀ H',aJ H H'→E (.ref XS) none H') (_:uc rows.length t→(¬ uc rows.length s→∀ H',aJ H H'→E (.ref XS) none H')∧(uc rows.length s→∃ sh,Seen rows sh∧(¬ (0≤p∧p≤(sh t).length)→∀ H',aJ H H'→E (.ref XP) none H')∧(0≤p∧p≤(sh t).length→∀ es,rows[t.toNat]?=some es→(∃ f,oQ (ic rows t.toNat (sH sh p es [-1-s])) f) ∧
  ∀ (U':Addr→Prop) (H':Hp),Bu C CS CW CB U' H' x (pe++[ic rows t.toNat (sH sh p es [-1-s])]) (lines++[(ko.plain wnW [t,p,s]).line]) aR nW eS→yK U U' H H'→Q .jc H'))):sS C CS CW CB XS XP vs H Q E
theorem qC:aL ["self","target","place","source","items"] ["self","target","place","source"] (az gF):=⟨rfl,rfl,rfl,by decide +kernel,rfl,by decide +kernel,by decide +kernel⟩
set_option maxHeartbeats 4000000 in
theorem pM{f C CS CW CB XS XM XT XO XP f1 f2:Addr}{fd g1 g2:FuncData}(F:iJ K "window" "Library.window" gF f fd)(X:DR K mg C CS CW CB XS XM XT XO XP)(A1:DM K mg CS)(A2:F7 K mg)(A6:Q7 K mg)(aO:aI K C "enter" "Library.enter" bV IM f1 g1)(aK:aI K C "change" "Library.change" cj HB f2 g2):aH P w K mg base (iM P w) 6 f fd IP (sS C CS CW CB XS XP):=by
 obtain⟨LM,_,_,_,_,_,_,_,Z⟩:=X
 have cS:aH P w K mg base (iM P w) 5 _ _ HB (sO C CS):=lD aK.F LM A1 A2 aO
 obtain⟨M,⟨fi,aB⟩,nw,ns,A8,nk,nd,Ay,bZ,G⟩:=LM
 obtain⟨⟨_,_,d1⟩,⟨_,_,d2⟩,⟨_,_,aA⟩,⟨_,_,d4⟩,⟨_,_,d7⟩,⟨_,_,bf⟩,⟨_,_,d9⟩⟩:=A1
 have eG:aH P w K mg base cK 4 _ _ gy (sJ CS):=je bf.F M d2 d4 d7
 have bz:aH P w K mg base (iM P w) 2 _ _ tX (mT CS XS):=cU aA.F M d1
 obtain⟨T,⟨fj,aQ⟩,n1,n2,bY,bQ⟩:=M
 obtain⟨⟨_,_,i1⟩,⟨_,_,i2⟩,⟨_,_,i3⟩,⟨_,_,i4⟩,⟨_,_,i5⟩,⟨_,_,i6⟩,⟨_,_,i7⟩,⟨_,_,i8⟩,⟨_,_,i9⟩,⟨_,_,Tt⟩,⟨_,_,Tu⟩,⟨_,_,iV⟩,⟨_,_,UK⟩,⟨_,_,kr⟩⟩:=A6
 have vo:aH P w K mg base (iM P w) 4 _ _ Kd (oM XP):=wc kr.F T Z i1 i2 i3 i4 i5 i6 i7 i8 i9 Tt Tu iV UK
 refine yX F qC (fun vs H Q E h=>?_) (fun cdv A outer s0 H vs Q E hr h=>?_)
 ·obtain⟨U,x,pe,lines,aR,nW,eS,t,p,s,rows,rfl,_⟩:=h
  rfl
 obtain⟨U,x,pe,lines,aR,nW,eS,t,p,s,rows,rfl,LB,hl,l1,l2,l3,ft,fp,fs,k1,k2⟩:=h
 obtain⟨S,SW,d,wl,sh,bl,kn,du,bk,dS,st,op,dw,sg,ow,pw,db,tb,ops,LU⟩:=id LB
 have lo:=mE LU.L hl
 have hl':=ie hl
 have lp:(kL pe).length=pe.length:=dW _
 have ok:Bq (kL pe) ops:=⟨by omega,by omega⟩
 refine⟨_,(ao (bq (bC (cW (pv 0) rfl) aQ.cl aA.mt bz (hr.mono (by decide)) aA.b .nil fQ (af (pv 1) aj)))
   (ao (bq (bC (cW (pv 0) rfl) aQ.cl aA.mt bz (hr.mono (by decide)) aA.b .nil fQ (af (pv 3) aj)))
   (ao (aY (i:=4) qC.nd rfl (Or.inl rfl) (qP kr vo hr fQ (af (bS (cW (pv 0) rfl) aQ.cl bf.mt eG (hr.mono (by decide)) bf.b .nil cZ) (af (pv 1) (af (pv 2) (af (bW (af (fF (af cN (af (pv 3) aj))) aj)) aj))))))
   (au (bq (bC (pv 0) aB.cl aK.mt cS (hr.mono (by decide)) aK.b .nil fQ (af (fF (af cN (af (pv 1) (af (pv 2) (af (pv 3) aj))))) (af (pv 1) (af (pv 4) aj))))))))),?_⟩
 refine⟨_,rfl,x,C,d,_,.ref sh,rfl,LU.L.hx,aB.cl,ns,rfl,sh,dS,_,rfl,LU.L.W.hx,rfl,_,rfl,S,sh,dS,st,op,kL pe,ops,t,rfl,LU.L.W,ok,ft,fun it=>?_,fun z=>k1 (by rw[← lo];exact z) H (aJ.refl _)⟩
 rw[lo]at it
 obtain⟨k3,k4⟩:=k2 it
 refine⟨_,rfl,x,C,d,_,.ref sh,rfl,LU.L.hx,aB.cl,ns,rfl,sh,dS,_,rfl,LU.L.W.hx,rfl,_,rfl,S,sh,dS,st,op,kL pe,ops,s,rfl,LU.L.W,ok,fs,fun ia=>?_,fun z=>k3 (by rw[← lo];exact z) H (aJ.refl _)⟩
 rw[lo]at ia
 obtain⟨f0,sn,k7,k8⟩:=k4 ia
 refine⟨_,rfl,x,C,d,_,.ref sh,rfl,LU.L.hx,aB.cl,ns,rfl,sh,dS,_,rfl,LU.L.W.hx,rfl,S,sh,dS,st,op,kL pe,ops,rfl,LU.L.W,ok,fun rws el q H1 Qt s1=>?_⟩
 rw[hl']at el
 cases el
 have tl:t.toNat<rows.length:=by have:=it.1;have:=it.2;omega
 obtain⟨es,es1⟩:∃ es,rows[t.toNat]?=some es:=⟨_,rL tl⟩
 refine⟨_,rfl,_,rfl,_,rfl,(by show 2≤sizeLine;decide),fun t2 Ij=>⟨(by show 1≤sizeLine;decide),fun o ho=>?_⟩⟩
 have s2:=ak Ij (.tup [.str (Str.ofString "win"),.int s])
 have t2':(upd H1 t2 (.tup [.str (Str.ofString "win"),.int s])) t2=some (.tup [.str (Str.ofString "win"),.int s]):=ah
 generalize upd H1 t2 (.tup [.str (Str.ofString "win"),.int s])=H2 at s2 t2' ho
 have s3:=ak ho (.lst [.ref t2])
 have o3:(upd H2 o (.lst [.ref t2])) o=some (.lst [.ref t2]):=ah
 show oM _ _ (upd H2 o (.lst [.ref t2])) _ _
 generalize upd H2 o (.lst [.ref t2])=H3 at s3 o3
 have Dc:=s1.trans (s2.trans s3)
 have hoi:aW H3 (.ref o) [.win s]:=⟨o,_,rfl,o3,.cons ⟨t2,rfl,s3 _ _ t2'⟩ .nil⟩
 refine⟨q,o,rows,t,p,[.win s],f0,rfl,⟨Qt.at_.same (s2.trans s3),by omega,sn.es,sn.sd,sn.rk,sn.ss,sn.ln⟩,it.1,it.2,hoi,.one ia.1,(by show 1≤10000;decide),fp,fun ip es' q2 H5 CG hq2 s5 Tv=>?_,fun np H5 s5=>k7 np H5 (Dc.trans s5)⟩
 rw[es1]at CG
 cases CG
 rw[show dP [Item.win s]=[-1-s] from rfl]at hq2
 obtain⟨⟨fB,B⟩,k9⟩:=k8 ip es es1
 have Np:=Dc.trans s5
 have LU5:=LU.same Np
 have Tw:q2≠bk:=fun e=>by
  have y:=(LU.same Dc).L.hb
  rw[← e,Tv]at y
  cases y
 refine⟨_,rfl,x,d,_,rfl,LU5.L.hx,rfl,_,rfl,_,rfl,_,rfl,(by show 4≤sizeLine;decide),fun t' ht=>?_⟩
 have s6:=ak ht (.tup [.str (Str.ofString "window"),.int t,.int p,.int s])
 have ht6:(upd H5 t' (.tup [.str (Str.ofString "window"),.int t,.int p,.int s])) t'=some (.tup [.str (Str.ofString "window"),.int t,.int p,.int s]):=ah
 generalize upd H5 t' (.tup [.str (Str.ofString "window"),.int t,.int p,.int s])=H6 at s6 ht6
 have OE:=Np.trans s6
 have UL:=LU.same OE
 have ss:((t.toNat:Nat):Int)=t:=by have:=it.1;omega
 refine⟨_,rfl,_,rfl,S,x,d,wl,sh,bl,kn,du,bk,dS,st,op,pe,ops,lines,t',q2,.plain wnW [t,p,s],t.toNat,_,rows,fB,by rw[ss];rfl,UL.L,(by show H6 t'=_;rw[ht6,uU];rfl),⟨(by show tabAt OB wnW=some 3;decide +kernel),?_⟩,hq2.same s6,Tw,hl,by omega,l1,l2,l3,B,fun S' H8 L8 Jo=>?_⟩
 ·intro y hy
  have b1:=ia.1
  have b2:=it.1
  rcases List.mem_cons.mp hy with e|hy
  ·rw[e];exact⟨b2,ft.big⟩
  rcases List.mem_cons.mp hy with e|hy
  ·rw[e];exact⟨ip.1,fp.big⟩
  ·rw[List.mem_singleton.mp hy];exact⟨b1,fs.big⟩
 ·obtain⟨U',hL',f'⟩:=UL.rm L8 Jo
  exact k9 U' H8 hL' (f'.pre OE)
inductive rq(C CS XS XM:Addr)(vs:List V)(H:Hp)(Q:VK)(E:XK):Prop
 | mk (S:Addr→Prop) (x d wl sh bl kn du bk dS st op:Addr) (past:lC) (ops:List Int) (lines:pO) (s m:Int) (_:vs=[.ref x,.int s,.int m]) (_:eF C CS S H x d wl sh bl kn du bk dS st op past ops lines) (_:Bq past ops) (_:qe s) (_:qe m) (_:(¬ uc ops.length s→E (.ref XS) none H)) (_:(uc ops.length s→¬ uc past.length m→E (.ref XM) none H)) (_ :
 ∀ (si mi:Nat) (rows:List (List Item)),s=si→m=mi→si<ops.length→past[mi]?=some rows→(rows.length≤si→E (.ref XS) none H)∧(∀ its,rows[si]?=some its→Told H its Q)):rq C CS XS XM vs H Q E
theorem vq:aL ["self","sheet","moment"] ["self","sheet","moment"] (az dh):=⟨rfl,rfl,rfl,by decide +kernel,rfl,by decide +kernel,by decide +kernel⟩
theorem nA{f C CS XS XM XT fM fN fs fm ft fr:Addr}{fd gM gN gs gm gt gr:FuncData}(F:iJ K "row_then" "Library.row_then" dh f fd)(L:rf K mg C CS XS XM XT)(bI:aI K CS "many" "Shelf.many" dZ gy fM gM)(aX:aI K CS "now" "Shelf.now" dc gy fN gN)(aA:aI K CS "check_sheet" "Shelf.check_sheet" b5 tX fs gs)(aT:aI K CS "check_moment" "Shelf.check_moment" bJ F8 fm gm)(dB:aI K CS "check_then" "Shelf.check_then" cA vA ft gt)(jb:aI K CS "row_then" "Shelf.row_then" dH vA fr gr):aH P w K mg base (iM P w) 5 f fd vA (rq C CS XS XM):=by
 obtain⟨M,⟨fi,aB⟩,nw,ns,A8,nk,nd,Ay,bZ,G⟩:=L
 have yO:aH P w K mg base (iM P w) 4 _ _ vA (xE CS XS XM):=wo jb.F M bI aX aA aT dB
 obtain⟨T,⟨fj,aQ⟩,n1,n2,bY,bQ⟩:=M
 refine yX F vq (fun vs H Q E h=>?_) (fun cdv A outer s H vs Q E hr h=>?_)
 ·obtain⟨S,x,d,wl,sh,bl,kn,du,bk,dS,st,op,past,ops,lines,a,m,rfl,_⟩:=h
  rfl
 obtain⟨S,x,d,wl,sh,bl,kn,du,bk,dS,st,op,past,ops,lines,a,m,rfl,L,ok,fa,fm,k1,k2,k3⟩:=h
 refine⟨_,(au (aP (bC (cW (pv 0) rfl) aQ.cl jb.mt yO (hr.mono (by decide)) jb.b .nil fQ (af (pv 1) (af (pv 2) aj))))),?_⟩
 exact⟨_,rfl,x,C,d,_,.ref sh,rfl,L.hx,aB.cl,ns,rfl,sh,dS,_,rfl,L.W.hx,rfl,_,rfl,_,rfl,S,sh,dS,st,op,past,ops,a,m,rfl,L.W,ok,fa,fm,k1,k2,k3⟩
abbrev UM:List Nat:=(Str.ofString "fork").cps.toList
theorem NG{s m:Int}(h0:0≤s)(h1:s<10^60)(g0:0≤m)(g1:m<10^60):(ko.plain UM [s,m]).Ok:=by
 refine⟨(by show tabAt OB UM=some 2;decide +kernel),fun x hx=>?_⟩
 rcases List.mem_cons.mp hx with z|z
 ·rw[z];exact⟨h0,h1⟩
 ·rw[List.mem_singleton.mp z];exact⟨g0,g1⟩
inductive DV(C CS XT XH:Addr)(vs:List V)(H:Hp)(Q:VK)(E:XK):Prop
 | mk (S:Addr→Prop) (x d wl sh bl kn du bk dS st op:Addr) (pe:mq) (ops:List Int) (lines:pO) (rows rws:gj) (es:List Int) (si mi:Nat) (_:vs=[.ref x,.int (si:Nat),.int (mi:Nat)]) (_:eF C CS S H x d wl sh bl kn du bk dS st op (kL pe) ops lines) (_:pe.getLast?=some rows) (_:rows.length≤50) (_:pe.length≤900) (_:lines.length≤900) (_:si<rows.length) (_:pe[mi]?=some rws) (_:rws[si]?=some es) (_:40≤rows.length→∀ H',aJ H H'→E (.ref XT) none H') (_:rows.length<40→∃ f,Wv (rows++[es]) f∧(qx (rows++[es]) f→∀ (S':Addr→Prop) (H':Hp),eF C CS S' H' x d wl sh bl kn du bk dS st op (kL (pe++[rows++[es]])) (ops++[((pe.length:Nat):Int)]) (lines++[(ko.plain UM [(si:Int),(mi:Int)]).line])→Fr S S' bk H H'→Q (.int (rows.length:Nat)) H')∧(Aw (rows++[es]) f→∀ H',aJ H H'→E (.ref XH) none H')):DV C CS XT XH vs H Q E
theorem AO:aL ["self","sheet","moment"] ["self","sheet","moment"] (az jQ):=⟨rfl,rfl,rfl,by decide +kernel,rfl,by decide +kernel,by decide +kernel⟩
theorem DW{n:Nat}(h:n≤1000):((n:Nat):Int)<10^60:=by omega
theorem yP{f C CS XS XM XT XH:Addr}{fd:FuncData}(F:iJ K "fork" "Library.fork" jQ f fd)(L:rf K mg C CS XS XM XT)(A1:DM K mg CS)(A2:F7 K mg)(A3:ND K mg C)(ZH:qR K mg "TooHeavy" XH){Qx f5 f6:Addr}{Qy g5 g6:FuncData}(d5:aI K CS "check_then" "Shelf.check_then" cA vA f5 g5)(d6:aI K CS "row_then" "Shelf.row_then" dH vA f6 g6)(bH:aI K C "row_then" "Library.row_then" dh vA Qx Qy):aH P w K mg base (iM P w) 7 f fd vA (DV C CS XT XH):=by
 obtain⟨_,_,dD⟩:=A3.bg
 have oS:aH P w K mg base (iM P w) 6 _ _ QJ (AB C CS XT XH):=pL dD.F L A1 A2 A3 ZH
 have lH:aH P w K mg base (iM P w) 5 Qx Qy vA (rq C CS XS XM):=by
  obtain⟨⟨_,_,d1⟩,⟨_,_,d2⟩,⟨_,_,d3⟩,⟨_,_,d4⟩,_⟩:=A1
  exact nA bH.F L d1 d2 d3 d4 d5 d6
 obtain⟨M,⟨fi,aB⟩,nw,ns,A8,nk,nd,Ay,bZ,G⟩:=L
 refine yX F AO (fun vs H Q E h=>?_) (fun cdv A outer s H vs Q E hr h=>?_)
 ·obtain⟨S,x,d,wl,sh,bl,kn,du,bk,dS,st,op,pe,ops,lines,rows,rws,es,si,mi,rfl,_⟩:=h
  rfl
 obtain⟨S,x,d,wl,sh,bl,kn,du,bk,dS,st,op,pe,ops,lines,rows,rws,es,si,mi,rfl,L,hl,l1,l2,l3,sl,er,ei,k1,k2⟩:=h
 have lo:=mE L hl
 have lp:(kL pe).length=pe.length:=dW _
 have ml:=(List.getElem?_eq_some_iff.mp er).1
 refine⟨_,(au (aP (bC (pv 0) aB.cl dD.mt oS (hr.mono (by decide)) dD.b .nil fQ (af (fF (af cN (af (pv 1) (af (pv 2) aj)))) (af (bC (pv 0) aB.cl bH.mt lH (hr.mono (by decide)) bH.b .nil fQ (af (pv 1) (af (pv 2) aj))) aj))))),?_⟩
 refine⟨_,rfl,x,d,_,rfl,L.hx,rfl,_,rfl,_,rfl,(by show 3≤sizeLine;decide),fun t ht=>?_⟩
 have s1:=ak ht (.tup [.str (Str.ofString "fork"),.int (si:Nat),.int (mi:Nat)])
 have ht1:(upd H t (.tup [.str (Str.ofString "fork"),.int (si:Nat),.int (mi:Nat)])) t=some (.tup [.str (Str.ofString "fork"),.int (si:Nat),.int (mi:Nat)]):=ah
 generalize upd H t (.tup [.str (Str.ofString "fork"),.int (si:Nat),.int (mi:Nat)])=H1 at s1 ht1
 have L1:=L.same s1
 refine⟨_,rfl,x,d,_,rfl,L1.hx,rfl,_,rfl,_,rfl,S,x,d,wl,sh,bl,kn,du,bk,dS,st,op,kL pe,ops,lines,(si:Int),(mi:Int),rfl,L1,⟨by omega,by omega⟩,rj (by omega),rj (by omega),fun z=>absurd ⟨by omega,by omega⟩ z,fun _ z=>absurd ⟨by omega,by omega⟩ z,fun si' mi' ads es' em' _ TL=>?_⟩
 obtain rfl:si=si':=by omega
 obtain rfl:mi=mi':=by omega
 rw[uq,er]at TL
 cases TL
 refine⟨fun z=>absurd (List.getElem?_eq_some_iff.mp ei).1 (by rw[dW]at z;omega),fun its TM q H2 hq s2 fq=>?_⟩
 rw[uq,ei]at TM
 cases TM
 have s12:=s1.trans s2
 refine⟨S,x,d,wl,sh,bl,kn,du,bk,dS,st,op,pe,ops,lines,t,q,.plain UM [(si:Int),(mi:Int)],es,rows,rfl,L.same s12,by show H2 t=_;rw[s2 _ _ ht1,uU];rfl,NG (by omega) (DW (by omega)) (by omega) (DW (by omega)),hq,fun z=>?_,hl,l1,l2,l3,fun c=>k1 c H2 s12,fun c=>?_⟩
 ·rw[z,L1.hb]at fq
  cases fq
 ·obtain⟨f,B,k8,k9⟩:=k2 c
  exact⟨f,B,fun lt S' H' L' fr=>k8 lt S' H' L' (fr.same s12),fun hv H' s'=>k9 hv H' (s12.trans s')⟩
abbrev bcW:List Nat:=(Str.ofString "back").cps.toList
inductive DX(C CS XH:Addr)(vs:List V)(H:Hp)(Q:VK)(E:XK):Prop
 | mk (S:Addr→Prop) (x d wl sh bl kn du bk dS st op:Addr) (pe:mq) (ops:List Int) (lines:pO) (rows rws:gj) (es:List Int) (si mi:Nat) (f:Int→Int) (_:vs=[.ref x,.int (si:Nat),.int (mi:Nat)]) (_:eF C CS S H x d wl sh bl kn du bk dS st op (kL pe) ops lines) (_:pe.getLast?=some rows) (_:rows.length≤50) (_:pe.length≤900) (_:lines.length≤900) (_:si<rows.length) (_:pe[mi]?=some rws) (_:rws[si]?=some es) (_:Wv (ic rows si es) f) (_:qx (ic rows si es) f→∀ (S':Addr→Prop) (H':Hp),eF C CS S' H' x d wl sh bl kn du bk dS st op (kL (pe++[ic rows si es])) ops (lines++[(ko.plain bcW [(si:Int),(mi:Int)]).line])→Fr S S' bk H H'→Q .jc H') (_:Aw (ic rows si es) f→∀ H',aJ H H'→E (.ref XH) none H'):DX C CS XH vs H Q E
theorem AQ:aL ["self","sheet","moment"] ["self","sheet","moment"] (az jR):=⟨rfl,rfl,rfl,by decide +kernel,rfl,by decide +kernel,by decide +kernel⟩
theorem yQ{f C CS XS XM XT XH:Addr}{fd:FuncData}(F:iJ K "back" "Library.back" jR f fd)(L:rf K mg C CS XS XM XT)(A1:DM K mg CS)(A2:F7 K mg)(A3:ND K mg C)(ZH:qR K mg "TooHeavy" XH){Qx f5 f6:Addr}{Qy g5 g6:FuncData}(d5:aI K CS "check_then" "Shelf.check_then" cA vA f5 g5)(d6:aI K CS "row_then" "Shelf.row_then" dH vA f6 g6)(bH:aI K C "row_then" "Library.row_then" dh vA Qx Qy):aH P w K mg base (iM P w) 6 f fd vA (DX C CS XH):=by
 obtain⟨⟨_,_,e1⟩,⟨_,_,aK⟩,_,_⟩:=A3
 have cS:aH P w K mg base (iM P w) 5 _ _ HB (tT C CS XH):=kq aK.F L A1 A2 ZH e1
 have lH:aH P w K mg base (iM P w) 5 Qx Qy vA (rq C CS XS XM):=by
  obtain⟨⟨_,_,d1⟩,⟨_,_,d2⟩,⟨_,_,d3⟩,⟨_,_,d4⟩,_⟩:=A1
  exact nA bH.F L d1 d2 d3 d4 d5 d6
 obtain⟨M,⟨fi,aB⟩,nw,ns,A8,nk,nd,Ay,bZ,G⟩:=L
 refine yX F AQ (fun vs H Q E h=>?_) (fun cdv A outer s H vs Q E hr h=>?_)
 ·obtain⟨S,x,d,wl,sh,bl,kn,du,bk,dS,st,op,pe,ops,lines,rows,rws,es,si,mi,f,rfl,_⟩:=h
  rfl
 obtain⟨S,x,d,wl,sh,bl,kn,du,bk,dS,st,op,pe,ops,lines,rows,rws,es,si,mi,f,rfl,L,hl,l1,l2,l3,sl,er,ei,B,k1,k2⟩:=h
 have lo:=mE L hl
 have lp:(kL pe).length=pe.length:=dW _
 have ml:=(List.getElem?_eq_some_iff.mp er).1
 refine⟨_,(au (bq (bC (pv 0) aB.cl aK.mt cS (hr.mono (by decide)) aK.b .nil fQ (af (fF (af cN (af (pv 1) (af (pv 2) aj)))) (af (pv 1) (af (bC (pv 0) aB.cl bH.mt lH (hr.mono (by decide)) bH.b .nil fQ (af (pv 1) (af (pv 2) aj))) aj)))))),?_⟩
 refine⟨_,rfl,x,d,_,rfl,L.hx,rfl,_,rfl,_,rfl,(by show 3≤sizeLine;decide),fun t ht=>?_⟩
 have s1:=ak ht (.tup [.str (Str.ofString "back"),.int (si:Nat),.int (mi:Nat)])
 have ht1:(upd H t (.tup [.str (Str.ofString "back"),.int (si:Nat),.int (mi:Nat)])) t=some (.tup [.str (Str.ofString "back"),.int (si:Nat),.int (mi:Nat)]):=ah
 generalize upd H t (.tup [.str (Str.ofString "back"),.int (si:Nat),.int (mi:Nat)])=H1 at s1 ht1
 have L1:=L.same s1
 refine⟨_,rfl,_,rfl,x,d,_,rfl,L1.hx,rfl,_,rfl,_,rfl,S,x,d,wl,sh,bl,kn,du,bk,dS,st,op,kL pe,ops,lines,(si:Int),(mi:Int),rfl,L1,⟨by omega,by omega⟩,rj (by omega),rj (by omega),fun z=>absurd ⟨by omega,by omega⟩ z,fun _ z=>absurd ⟨by omega,by omega⟩ z,fun si' mi' ads es' em' _ TL=>?_⟩
 obtain rfl:si=si':=by omega
 obtain rfl:mi=mi':=by omega
 rw[uq,er]at TL
 cases TL
 refine⟨fun z=>absurd (List.getElem?_eq_some_iff.mp ei).1 (by rw[dW]at z;omega),fun its TM q H2 hq s2 fq=>?_⟩
 rw[uq,ei]at TM
 cases TM
 have s12:=s1.trans s2
 refine⟨S,x,d,wl,sh,bl,kn,du,bk,dS,st,op,pe,ops,lines,t,q,.plain bcW [(si:Int),(mi:Int)],si,es,rows,f,rfl,L.same s12,(by show H2 t=_;rw[s2 _ _ ht1,uU];rfl),⟨(by show tabAt OB bcW=some 2;decide +kernel),fun y hy=>?_⟩,hq,fun z=>?_,hl,by omega,l1,l2,l3,B,fun lt S' H' L' fr=>?_,fun hv H' s'=>k2 hv H' (s12.trans s')⟩
 ·rcases List.mem_cons.mp hy with e|e
  ·rw[e];exact⟨by omega,DW (by omega)⟩
  ·rw[List.mem_singleton.mp e];exact⟨by omega,DW (by omega)⟩
 ·rw[z,L1.hb]at fq
  cases fq
 ·have eo:FI ops rows.length si pe.length=ops:=by unfold FI;rw[if_neg (by omega),j6]
  rw[eo]at L'
  exact k1 lt S' H' L' (fr.same s12)
inductive tW(C CS:Addr)(vs:List V)(H:Hp)(Q:VK)(E:XK):Prop
 | mk (S:Addr→Prop) (x d wl sh bl kn du bk dS st op:Addr) (pe:mq) (ops:List Int) (lines:pO) (rows:gj) (si:Nat) (f:Int→Int) (_:vs=[.ref x,.int (si:Nat)]) (_:eF C CS S H x d wl sh bl kn du bk dS st op (kL pe) ops lines) (_:pe.getLast?=some rows) (_:rows.length≤50) (_:pe.length≤900) (_:si<rows.length) (_:Wv rows f) (_:∀ H',aJ H H'→Q (.int (f (si:Nat))) H'):tW C CS vs H Q E
theorem xS:aL ["self","sheet"] ["self","sheet"] (az jY):=⟨rfl,rfl,rfl,by decide +kernel,rfl,by decide +kernel,by decide +kernel⟩
theorem wF{f C CS XS XM XT fw:Addr}{fd gw:FuncData}(F:iJ K "weight" "Library.weight" jY f fd)(L:rf K mg C CS XS XM XT)(A1:DM K mg CS)(A2:F7 K mg)(wG:aF K mg "weight" vM rS fw gw):aH P w K mg base (iM P w) 5 f fd tX (tW C CS):=by
 obtain⟨⟨_,_,d1⟩,⟨_,_,d2⟩,⟨_,_,aA⟩,⟨_,_,d4⟩,⟨_,_,d7⟩,⟨_,_,bf⟩,_⟩:=A1
 obtain⟨⟨_,_,w1⟩,⟨_,_,w2⟩,⟨_,_,w3⟩,⟨_,_,w4⟩,_⟩:=A2
 obtain⟨M,⟨fi,aB⟩,nw,ns,A8,nk,nd,Ay,bZ,G⟩:=L
 have eG:aH P w K mg base cK 4 _ _ gy (sJ CS):=je bf.F M d2 d4 d7
 have bz:aH P w K mg base (iM P w) 2 _ _ tX (mT CS XS):=cU aA.F M d1
 obtain⟨T,⟨fj,aQ⟩,n1,n2,bY,bQ⟩:=M
 have NH:aH P w K mg base cK 4 _ _ rS Ae:=JJ wG.F T w1 w2 w3 w4
 refine yX F xS (fun vs H Q E h=>?_) (fun cdv A outer s H vs Q E hr h=>?_)
 ·obtain⟨S,x,d,wl,sh,bl,kn,du,bk,dS,st,op,pe,ops,lines,rows,si,f,rfl,_⟩:=h
  rfl
 obtain⟨S,x,d,wl,sh,bl,kn,du,bk,dS,st,op,pe,ops,lines,rows,si,f,rfl,L,hl,l1,l2,sl,B,k⟩:=h
 have lo:=mE L hl
 have lp:(kL pe).length=pe.length:=dW _
 have hl':=ie hl
 refine⟨_,(ao (bq (bC (cW (pv 0) rfl) aQ.cl aA.mt bz (hr.mono (by decide)) aA.b .nil fQ (af (pv 1) aj)))
   (au (aP (gu.tK wG (T.yz _ wG.m) NH hr (af (bS (cW (pv 0) rfl) aQ.cl bf.mt eG (hr.mono (by decide)) bf.b .nil cZ) (af (pv 1) aj)))))),?_⟩
 refine⟨_,rfl,x,C,d,_,.ref sh,rfl,L.hx,aB.cl,ns,rfl,sh,dS,_,rfl,L.W.hx,rfl,_,rfl,S,sh,dS,st,op,kL pe,ops,(si:Int),rfl,L.W,⟨by omega,by omega⟩,rj (by omega),fun ia=>?_,fun z=>absurd ⟨by omega,by omega⟩ z⟩
 refine⟨_,rfl,x,C,d,_,.ref sh,rfl,L.hx,aB.cl,ns,rfl,sh,dS,_,rfl,L.W.hx,rfl,S,sh,dS,st,op,kL pe,ops,rfl,L.W,⟨by omega,by omega⟩,fun rws el q H1 Qt s1=>?_⟩
 rw[hl']at el
 cases el
 exact⟨_,rfl,q,rows,(si:Int),f,rfl,Qt.at_,by omega,B.es,B.sd,B.rk,by omega,by omega,B.wt,fun H2 s2=>k H2 (s1.trans s2)⟩
abbrev e0(n:Nat):gj:=List.replicate n []
theorem xT{n:Nat}{es:List Int}(h:es∈e0 n):es=[]:=(List.mem_replicate.mp h).2
theorem Qz{n:Nat}{x y:Int}:¬ Ci (e0 n) x y:=fun ⟨_,es,he,hy⟩=>by
 rw[xT (nQ he)]at hy
 cases hy
theorem FO(n:Nat):Sound (e0 n):=fun es he y hy=>by
 rw[xT he]at hy
 cases hy
theorem L0(n:Nat):F3 (e0 n):=⟨fun _=>0,fun _=>Nat.zero_le _,fun _ _ z=>absurd z Qz⟩
theorem FP{n:Nat}(h:n≤100):oQ (e0 n) fun _=>0:=by
 refine⟨by rw[rP];exact h,fun es he=>by rw[xT he];exact Nat.zero_le _,FO n,L0 n,fun x es _ he=>?_,fun _ _ _=>by decide⟩
 rw[xT (nQ he)]
 rfl
theorem NI(n:Nat):Seen (e0 n) fun _=>[]:=by
 refine⟨fun es he=>by rw[xT he];exact Nat.zero_le _,FO n,L0 n,fun x es _ he=>?_,fun _ _ _=>Nat.zero_le _⟩
 rw[xT (nQ he)]
 rfl
theorem L4{es:List Int}(h:∀ e∈es,0≤e):jg es=[]:=by
 unfold jg
 rw[List.filterMap_eq_nil_iff]
 intro e he
 rw[if_neg (by have:=h e he;omega)]
theorem FQ(sh:Int→List Int):∀ {es:List Int},(∀ e∈es,0≤e)→cH sh es=es
 | [],_=>rfl
 | e::r,h=>by
  rw[gf,v7 sh (h e (uL ..)),FQ sh fun y hy=>h y (tY _ hy)]
  rfl
theorem IE(f:Int→Int):∀ {es:List Int},(∀ e∈es,0≤e)→Dm f es=(es.length:Int)
 | [],_=>rfl
 | e::r,h=>by
  have ih:=IE f (es:=r) fun y hy=>h y (tY _ hy)
  have he:=h e (uL ..)
  unfold Dm at ih ⊢
  rw[lS,List.sum_cons,ih,if_neg (by omega),pP]
  omega
theorem L5(sh:Int→List Int)(p:Int):∀ (es:List Int) (f:Int),f+(cH sh es).length≤p→aE sh p f es=es∧bE sh p f es=[]
 | [],_,_=>⟨rfl,rfl⟩
 | e::r,f,h=>by
  rw[gf,eT]at h
  push_cast at h
  obtain⟨h1,h2⟩:=L5 sh p r (f+(lu sh e).length) (by omega)
  rw[aE,bE,h1,h2,if_pos (by omega),if_pos (by omega)]
  exact⟨rfl,rfl⟩
theorem AR{sh:Int→List Int}{es new:List Int}{p:Int}(h:p=(cH sh es).length):sH sh p es new=es++new:=by
 unfold sH
 split
 ·rename_i e
  rw[e,j6]
 ·obtain⟨h1,h2⟩:=L5 sh p es 0 (by omega)
  rw[h1,h2,j6]
theorem xU{e:Int}(h:e<0):∀ c:Nat,jg (List.replicate c e)=List.replicate c (-1-e)
 | 0=>rfl
 | c+1=>by
  have ih:=xU h c
  unfold jg at ih ⊢
  rw[rT,List.filterMap_cons,if_pos h,ih]
  rfl
theorem AS(f:Int→Int){e:Int}(h:e<0):∀ c:Nat,Dm f (List.replicate c e)=(c:Int)*(1+f (-1-e))
 | 0=>by show (0:Int)=0*_;rw[Int.zero_mul]
 | c+1=>by
  have ih:=AS f h c
  unfold Dm at ih ⊢
  rw[rT,lS,List.sum_cons,ih,if_pos h,Int.natCast_succ,Int.add_mul,Int.one_mul,Int.add_comm]
theorem xV(sh:Int→List Int){e:Int}(h:e<0):∀ c:Nat,cH sh (List.replicate c e)=(List.replicate c (sh (-1-e))).flatten
 | 0=>rfl
 | c+1=>by
  rw[rT,gf,xV sh h c,rT,List.flatten_cons]
  unfold lu
  rw[if_pos h]
theorem J1(g:List Int):∀ c:Nat,((List.replicate c g).flatten).length=c*g.length
 | 0=>by rw[Nat.zero_mul];rfl
 | c+1=>by rw[rT,List.flatten_cons,eT,J1 g c,Nat.add_mul,Nat.one_mul,Nat.add_comm]
structure vv(rows:gj)(g:List Int):Prop where
 len:rows.length≤50
 g1:rows[1]?=some g
 gn:∀ e∈g,0≤e
 gl:g.length≤199
 ot:∀ (x:Nat) (es:List Int),rows[x]?=some es→x≠1→∃ c,c≤6∧es=List.replicate c (if x=2 then -1 else -2)
def cn(rows:gj)(x:Int):Nat:=((rows[x.toNat]?).getD []).length
def zG(rows:gj)(g:List Int)(x:Int):Int:=if x=1 then g.length else if x=2 then (cn rows 2:Int)*(1+(cn rows 0:Int)*(1+(g.length:Int))) else (cn rows x:Int)*(1+(g.length:Int))
def QA(rows:gj)(g:List Int)(x:Int):List Int:=if x=1 then g else if x=2 then (List.replicate (cn rows 2) ((List.replicate (cn rows 0) g).flatten)).flatten else (List.replicate (cn rows x) g).flatten
section
variable {rows:gj} {g:List Int}
theorem vv.get(h:vv rows g){x:Int}{es:List Int}(x0:0≤x)(e:rows[x.toNat]?=some es):(x=1∧es=g)∨(x≠1∧x=2∧∃ c,c≤6∧es=List.replicate c (-1)∧cn rows x=c)∨(x≠1∧x≠2∧∃ c,c≤6∧es=List.replicate c (-2)∧cn rows x=c):=by
 have ec:cn rows x=es.length:=by unfold cn;rw[e];rfl
 by_cases c1:x=1
 ·refine .inl ⟨c1,?_⟩
  rw[c1]at e
  exact rN (e.symm.trans h.g1)
 obtain⟨c,c6,er⟩:=h.ot x.toNat es e (by omega)
 by_cases c2:x=2
 ·rw[if_pos (by omega)]at er
  exact .inr (.inl ⟨c1,c2,c,c6,er,by rw[ec,er,rP]⟩)
 ·rw[if_neg (by omega)]at er
  exact .inr (.inr ⟨c1,c2,c,c6,er,by rw[ec,er,rP]⟩)
theorem vv.Rc(h:vv rows g){x:Int}(x0:0≤x)(x1:x≠1):cn rows x≤6:=by
 cases e:rows[x.toNat]? with
 | none=>unfold cn;rw[e];exact Nat.zero_le _
 | some es =>
  rcases h.get x0 e with ⟨c,_⟩|⟨_,_,c,c6,_,z⟩|⟨_,_,c,c6,_,z⟩
  ·exact absurd c x1
  ·omega
  ·omega
theorem vv.l2(h:vv rows g):1<rows.length:=(List.getElem?_eq_some_iff.mp h.g1).1
theorem vv.Oe(h:vv rows g){x y:Int}(e:Ci rows x y):(x=2∧y=0)∨(x≠1∧y=1):=by
 obtain⟨x0,es,he,hy⟩:=e
 rcases h.get x0 he with ⟨_,rfl⟩|⟨_,c2,c,_,rfl,_⟩|⟨c1,_,c,_,rfl,_⟩
 ·rw[L4 h.gn]at hy;cases hy
 ·rw[xU (by decide)]at hy
  exact .inl ⟨c2,(List.mem_replicate.mp hy).2⟩
 ·rw[xU (by decide)]at hy
  exact .inr ⟨c1,(List.mem_replicate.mp hy).2⟩
theorem vv.rkd(h:vv rows g):F3 rows:=⟨fun x=>if x=1 then 0 else if x=2 then 2 else 1,fun x=>by show (if x=1 then 0 else if x=2 then 2 else 1)≤40;split <;> (try split) <;> omega,fun x y e=>by
 rcases h.Oe e with ⟨rfl,rfl⟩|⟨c,rfl⟩
 ·decide
 ·show 0<(if x=1 then 0 else if x=2 then 2 else 1)
  rw[if_neg c]
  split <;> omega⟩
theorem vv.sound(h:vv rows g):Sound rows:=fun es he y hy=>by
 obtain⟨i,hi⟩:=List.getElem?_of_mem he
 have l2:=h.l2
 rcases h.Oe (x:=(i:Int)) ⟨by omega,es,by rw[mG];exact hi,hy⟩ with ⟨_,rfl⟩|⟨_,rfl⟩
 ·omega
 ·omega
theorem vv.es(h:vv rows g):∀ es∈rows,es.length≤1000:=fun es he=>by
 obtain⟨i,hi⟩:=List.getElem?_of_mem he
 have gl:=h.gl
 rcases h.get (x:=(i:Int)) (by omega) (by rw[mG];exact hi) with ⟨_,rfl⟩|⟨_,_,c,_,rfl,_⟩|⟨_,_,c,_,rfl,_⟩
 ·omega
 ·rw[rP];omega
 ·rw[rP];omega
theorem NJ{c:Nat}{y b:Int}(h:c≤6)(y0:0≤y)(hb:y≤b):(c:Int)*y≤6*b:=Int.le_trans (Int.mul_le_mul_of_nonneg_right (show (c:Int)≤6 by omega) y0) (by omega)
theorem TN{c:Nat}{y:Int}(y0:0≤y):0≤(c:Int)*y:=Int.mul_nonneg (by omega) y0
theorem vv.wv(h:vv rows g):Wv rows (zG rows g):=by
 have gl:=h.gl
 refine⟨by have:=h.len;omega,h.es,h.sound,h.rkd,fun x es x0 he=>?_,fun x x0 _=>?_⟩
 ·rcases h.get x0 he with ⟨rfl,rfl⟩|⟨_,rfl,c,_,rfl,ec⟩|⟨c1,c2,c,_,rfl,ec⟩
  ·rw[IE _ h.gn];rfl
  ·rw[AS _ (by decide)]
   unfold zG
   rw[if_neg (by decide),if_pos rfl,ec]
   rfl
  ·rw[AS _ (by decide)]
   unfold zG
   rw[if_neg c1,if_neg c2,ec]
   rfl
 ·unfold zG
  split
  ·omega
  rename_i c1
  have a0:=NJ (h.Rc (x:=0) (by omega) (by decide)) (y:=1+(g.length:Int)) (b:=200) (by omega) (by omega)
  have b0:=TN (c:=cn rows 0) (y:=1+(g.length:Int)) (by omega)
  split
  ·have a2:=NJ (h.Rc (x:=2) (by omega) (by decide)) (y:=1+(cn rows 0:Int)*(1+(g.length:Int))) (b:=1201) (by omega) (by omega)
   omega
  ·have a2:=NJ (h.Rc x0 c1) (y:=1+(g.length:Int)) (b:=200) (by omega) (by omega)
   omega
theorem vv.seen(h:vv rows g):Seen rows (QA rows g):=by
 have gl:=h.gl
 refine⟨h.es,h.sound,h.rkd,fun x es x0 he=>?_,fun x x0 _=>?_⟩
 ·rcases h.get x0 he with ⟨rfl,rfl⟩|⟨_,rfl,c,_,rfl,ec⟩|⟨c1,c2,c,_,rfl,ec⟩
  ·rw[FQ _ h.gn];rfl
  ·rw[xV _ (by decide)]
   unfold QA
   rw[if_neg (by decide),if_pos rfl,ec]
   rfl
  ·rw[xV _ (by decide)]
   unfold QA
   rw[if_neg c1,if_neg c2,ec]
   rfl
 ·unfold QA
  split
  ·omega
  rename_i c1
  have n0:cn rows 0*g.length≤6*199:=Nat.mul_le_mul (h.Rc (x:=0) (by omega) (by decide)) gl
  split
  ·rw[J1,J1]
   have:cn rows 2*(cn rows 0*g.length)≤6*(6*199):=Nat.mul_le_mul (h.Rc (x:=2) (by omega) (by decide)) n0
   omega
  ·rw[J1]
   have:cn rows x*g.length≤6*199:=Nat.mul_le_mul (h.Rc x0 c1) gl
   omega
theorem vv.bears(h:vv rows g)(l:qx rows (zG rows g)):oQ rows (zG rows g):=⟨h.wv.len,h.es,h.sound,h.rkd,h.wv.wt,l⟩
theorem vv.CH(h:vv rows g)(c0:∀ x:Int,0≤x→x<rows.length→x≠1→x≠2→(cn rows x:Int)*(1+(g.length:Int))≤200)(c2:(cn rows 2:Int)*(1+(cn rows 0:Int)*(1+(g.length:Int)))≤200):qx rows (zG rows g):=fun x x0 x1=>by
 have gl:=h.gl
 unfold zG
 split
 ·omega
 split
 ·exact c2
 ·exact c0 x x0 x1 (by assumption) (by assumption)
end
theorem vv.two{g:List Int}{c:Nat}(c6:c≤6)(gn:∀ e∈g,0≤e)(gl:g.length≤199):vv [List.replicate c (-2),g] g:=by
 refine⟨(by show 2≤50;decide),rfl,gn,gl,fun x es he n=>?_⟩
 match x,he with
 | 0,he=>cases he;exact⟨c,c6,rfl⟩
 | 1,_=>exact absurd rfl n
 | x+2,he=>cases he
theorem CJ{g:List Int}{c:Nat}(h:vv [List.replicate c (-2),g] g)(l:(c:Int)*(1+(g.length:Int))≤200):qx [List.replicate c (-2),g] (zG [List.replicate c (-2),g] g):=h.CH (fun x x0 x1 n1 n2=>by
 have x1':x<2:=x1
 obtain rfl:x=0:=by omega
 show (((List.replicate c (-2:Int)).length:Nat):Int)*_≤200
 rw[rP]
 exact l) (by show ((0:Nat):Int)*_≤200;rw[show ((0:Nat):Int)=0 from rfl,Int.zero_mul];decide)
def oX(a:Nat)(g:List Int)(t:Nat)(q:gj):gj:=List.replicate a (-2)::g::List.replicate t (-1)::q
structure DY(a:Nat)(g:List Int)(t:Nat)(q:gj):Prop where
 a6:a≤6
 t6:t≤6
 ql:q.length≤40
 gn:∀ e∈g,0≤e
 gl:g.length≤199
 qs:∀ es∈q,∃ c,c≤6∧es=List.replicate c (-2)
theorem DY.IF{a t:Nat}{g:List Int}{q:gj}(h:DY a g t q):vv (oX a g t q) g:=by
 refine⟨by show q.length+1+1+1≤50;have:=h.ql;omega,rfl,h.gn,h.gl,fun x es he n=>?_⟩
 match x,he with
 | 0,he=>cases he;exact⟨a,h.a6,rfl⟩
 | 1,_=>exact absurd rfl n
 | 2,he=>cases he;exact⟨t,h.t6,rfl⟩
 | x+3,he =>
  obtain⟨c,c6,e⟩:=h.qs es (nQ he)
  exact⟨c,c6,by rw[e,if_neg (by omega)]⟩
theorem AU{a t:Nat}{g:List Int}{q:gj}:cn (oX a g t q) 0=a:=rP ..
theorem L6{a t:Nat}{g:List Int}{q:gj}:cn (oX a g t q) 2=t:=rP ..
theorem DY.CH{a t:Nat}{g:List Int}{q:gj}(h:DY a g t q)(l0:(a:Int)*(1+(g.length:Int))≤200)(l2:(t:Int)*(1+(a:Int)*(1+(g.length:Int)))≤200)(lq:∀ es∈q,(es.length:Int)*(1+(g.length:Int))≤200):qx (oX a g t q) (zG (oX a g t q) g):=by
 refine h.IF.CH (fun x x0 x1 n1 n2=>?_) (by rw[AU,L6];exact l2)
 by_cases c:x=0
 ·rw[c,AU];exact l0
 obtain⟨k,hk⟩:∃ k,x.toNat=k+3:=⟨x.toNat-3,by omega⟩
 have kl:k<q.length:=by
  have:x<((q.length+1+1+1:Nat):Int):=x1
  omega
 have e:cn (oX a g t q) x=(q[k]).length:=by
  unfold cn
  rw[hk]
  show ((q[k]?).getD []).length=_
  rw[rL kl]
  rfl
 rw[e]
 exact lq _ (List.getElem_mem kl)
theorem L7{sh:Int→List Int}{b:Int}(L1:1≤(sh 1).length):∀ (c:Nat) (f:Int),0≤f→f+(c:Int)*((sh 1).length:Int)≤b→kE sh 0 b f (List.replicate c (-2))=[]
 | 0,_,_,_=>rfl
 | c+1,f,f0,h=>by
  have es:lu sh (-2)=sh 1:=Fi sh (n:=1) (by decide)
  rw[Int.natCast_succ,Int.add_mul,Int.one_mul]at h
  have p0:=TN (c:=c) (y:=((sh 1).length:Int)) (by omega)
  rw[rT,kE,es,L7 L1 c (f+((sh 1).length:Int)) (by omega) (by omega)]
  unfold Uy
  rw[es,if_neg (by omega),if_pos ⟨by omega,by omega⟩]
  rfl
theorem CK:∀ c:Nat,itemsOf (List.replicate c (-2))=List.replicate c (.win 1)
 | 0=>rfl
 | c+1=>by
  have ih:=CK c
  unfold itemsOf at ih ⊢
  rw[List.replicate_succ',List.foldl_append,ih,List.replicate_succ']
  rw[nR,List.foldl_nil]
  rfl
inductive kM(C CS CW CB:Addr)(U:Addr→Prop)(H:Hp)(x:Addr)(pe:mq)(rows:gj):Prop
 | mk (lines:pO) (aR:um) (_:Bu C CS CW CB U H x pe lines aR 1 []) (_:pe.getLast?=some rows) (_:lines.length≤pe.length) (_:aR.length=200):kM C CS CW CB U H x pe rows
theorem kM.same{C CS CW CB:Addr}{U:Addr→Prop}{H H':Hp}{x:Addr}{pe:mq}{rows:gj}(h:kM C CS CW CB U H x pe rows)(s:aJ H H'):kM C CS CW CB U H' x pe rows:=by
 obtain⟨lines,aR,L,a,b,c⟩:=h
 exact⟨lines,aR,L.same s,a,b,c⟩
theorem kM.off{C CS CW CB:Addr}{U:Addr→Prop}{H H':Hp}{x l:Addr}{ls:List V}{pe:mq}{rows:gj}(h:kM C CS CW CB U H x pe rows)(hl:H l=some (.lst ls))(nl:¬ U l)(k:∀ a,a≠l→H' a=H a):kM C CS CW CB U H' x pe rows:=by
 obtain⟨lines,aR,L,a,b,c⟩:=h
 exact⟨lines,aR,L.fr (fun a ob e u=>by rw[k a (fun z=>nl (z ▸ u))];exact e) (fun a xs e=>by rw[k a (fun z=>by rw[z,hl]at e;cases e)];exact e),a,b,c⟩
theorem kM.on{C CS CW CB:Addr}{U:Addr→Prop}{H:Hp}{x:Addr}{pe:mq}{rows:gj}{lines:pO}{ln:List Nat}{aR:um}(L:Bu C CS CW CB U H x (pe++[rows]) (lines++[ln]) aR 1 [])(ll:lines.length≤pe.length)(li:aR.length=200):kM C CS CW CB U H x (pe++[rows]) rows :=
 ⟨_,aR,L,wN,by rw[eT,eT];show _+1≤_+1;omega,li⟩
theorem kM.hx{C CS CW CB:Addr}{U:Addr→Prop}{H:Hp}{x:Addr}{pe:mq}{rows:gj}(h:kM C CS CW CB U H x pe rows):∃ d wl sh bl kn du bk:Addr,H x=some (.ins C d [("well",.ref wl),("shelf",.ref sh),("blots",.ref bl),("knots",.ref kn),("dues",.ref du),("book",.ref bk)]):=by
 obtain⟨lines,aR,⟨S,SW,d,wl,sh,bl,kn,du,bk,dS,st,op,dw,sg,ow,pw,db,tb,ops,LU⟩,a,b,c⟩:=h
 exact⟨d,wl,sh,bl,kn,du,bk,LU.L.hx⟩
abbrev Ma:V:=.str (Str.ofString "many")
abbrev rA:V:=.str (Str.ofString "heavy")
abbrev OI:V:=.str (Str.ofString "fork")
abbrev OJ:V:=.str (Str.ofString "back")
inductive IG(C CS CW CB:Addr)(vs:List V)(H:Hp)(Q:VK)(E:XK):Prop
 | mk (U:Addr→Prop) (x:Addr) (pe:mq) (rows rws:gj) (es:List Int) (mi:Nat) (f:Int→Int) (_:vs=[.ref x,OI,.int (mi:Nat)]) (_:kM C CS CW CB U H x pe rows) (_:0<rows.length) (_:rows.length≤40) (_:pe.length≤800) (_:pe[mi]?=some rws) (_:rws[0]?=some es) (_:rows.length=40→∀ H',aJ H H'→Q Ma H') (_:rows.length<40→Wv (rows++[es]) f) (_:rows.length<40→Aw (rows++[es]) f→∀ H',aJ H H'→Q rA H') (_:rows.length<40→qx (rows++[es]) f→∀ (U':Addr→Prop) (H':Hp),kM C CS CW CB U' H' x (pe++[rows++[es]]) (rows++[es])→yK U U' H H'→Q (.int (rows.length:Nat)) H'):IG C CS CW CB vs H Q E
inductive II(C CS CW CB:Addr)(vs:List V)(H:Hp)(Q:VK)(E:XK):Prop
 | mk (U:Addr→Prop) (x:Addr) (pe:mq) (rows rws:gj) (es:List Int) (mi:Nat) (f:Int→Int) (_:vs=[.ref x,OJ,.int (mi:Nat)]) (_:kM C CS CW CB U H x pe rows) (_:0<rows.length) (_:rows.length≤41) (_:pe.length≤800) (_:pe[mi]?=some rws) (_:rws[0]?=some es) (_:Wv (ic rows 0 es) f) (_:Aw (ic rows 0 es) f→∀ H',aJ H H'→Q rA H') (_:qx (ic rows 0 es) f→∀ (U':Addr→Prop) (H':Hp),kM C CS CW CB U' H' x (pe++[ic rows 0 es]) (ic rows 0 es)→yK U U' H H'→Q .jc H'):II C CS CW CB vs H Q E
def FT(C CS CW CB:Addr):Sp:=fun vs H Q E=>IG C CS CW CB vs H Q E∨II C CS CW CB vs H Q E
theorem jB:aL ["_law_house","_law_name","_law_moment","_law_told"] ["_law_house","_law_name","_law_moment"] (az qN):=⟨rfl,rfl,rfl,by decide +kernel,rfl,by decide +kernel,by decide +kernel⟩
theorem FU{f C CS CW CB XS XM XT XH XE:Addr}{fd:FuncData}(F:iJ K "_law_deed" "_law_deed" qN f fd)(L:rf K mg C CS XS XM XT)(A1:DM K mg CS)(A2:F7 K mg)(A3:ND K mg C)(iI:qR K mg "TooHeavy" XH)(xW:qR K mg "InkError" XE)(Zn:PySem.W.exmOne K (.ref XH) (.ref XT)=some false){f1 f2:Addr}{g1 g2:FuncData}(jU:aI K C "fork" "Library.fork" jQ vA f1 g1)(jV:aI K C "back" "Library.back" jR vA f2 g2){Qx f5 f6:Addr}{Qy g5 g6:FuncData}(d5:aI K CS "check_then" "Shelf.check_then" cA vA f5 g5)(d6:aI K CS "row_then" "Shelf.row_then" dH vA f6 g6)(bH:aI K C "row_then" "Library.row_then" dh vA Qx Qy):aH P w K mg base cK 8 f fd OL (FT C CS CW CB):=by
 have Bx:aH P w K mg base (iM P w) 7 _ _ vA (DV C CS XT XH):=yP jU.F L A1 A2 A3 iI d5 d6 bH
 have By:aH P w K mg base (iM P w) 6 _ _ vA (DX C CS XH):=yQ jV.F L A1 A2 A3 iI d5 d6 bH
 obtain⟨M,⟨fi,aB⟩,nw,ns,A8,nk,nd,Ay,bZ,G⟩:=L
 obtain⟨T,⟨fj,aQ⟩,n1,n2,bY,bQ⟩:=M
 refine F.ok jB (fun vs H Q E h=>?_) (fun cdv A outer s H vs Q E hr h=>?_)
 ·rcases h with h|h
  ·obtain⟨U,x,pe,rows,rws,es,mi,f,rfl,_⟩:=h
   rfl
  ·obtain⟨U,x,pe,rows,rws,es,mi,f,rfl,_⟩:=h
   rfl
 refine⟨_,(ao (aY (i:=3) jB.nd rfl (Or.inl rfl) Gh)
   (ao (gu.Nf (gu.P4 (bP kQ (pv 1) cN (bU _)) (gu.Im (i:=3) jB.nd rfl (Or.inl rfl) (gu.Il (pv 0) aB.cl jU.mt jU.b Bx (hr.mono (by decide)) (af aC (af (pv 2) aj)))) (gu.Im (i:=3) jB.nd rfl (Or.inl rfl) (gu.Il (pv 0) aB.cl jV.mt jV.b By (hr.mono (by decide)) (af aC (af (pv 2) aj)))))
   (gu.zX bZ.m (fun _=>(au (aY (i:=3) jB.nd rfl (Or.inl rfl) cN))) (gu.zX iI.m (fun _=>(au (aY (i:=3) jB.nd rfl (Or.inl rfl) cN))) (gu.zX xW.m (fun _=>(au (aY (i:=3) jB.nd rfl (Or.inl rfl) cN))) gu.Nc))))
   (au (aP (pv 3))))),?_⟩
 rcases h with h|h
 ·obtain⟨U,x,pe,rows,rws,es,mi,f,rfl,B,r0,r40,lp,em,e0',km,kw,kh,kl⟩:=h
  obtain⟨lines,aR,⟨S,SW,d,wl,sh,bl,kn,du,bk,dS,st,op,dw,sg,ow,pw,db,tb,ops,LU⟩,hl,ll,li⟩:=id B
  refine⟨_,rfl,rfl,_,rfl,?_⟩
  rw[decide_eq_true (show OI=V.str (Str.ofString "fork") from rfl)]
  refine iR ?_
  refine⟨_,rfl,x,d,_,rfl,LU.L.hx,rfl,_,rfl,S,x,d,wl,sh,bl,kn,du,bk,dS,st,op,pe,ops,lines,rows,rws,es,0,mi,rfl,LU.L,hl,by omega,by omega,by omega,r0,em,e0',fun c H' s'=>?_,fun c=>⟨f,kw c,fun lt S' H' L' fr=>?_,fun hv H' s'=>?_⟩⟩
  ·exact .inl ⟨bZ.h,_,rfl,km (by omega) H' s'⟩
  ·obtain⟨U',hL',f'⟩:=LU.rm L' fr
   exact⟨_,rfl,kl c lt U' H' (kM.on hL' ll li) f'⟩
  ·exact .inr ⟨Zn,.inl ⟨iI.h,_,rfl,kh c hv H' s'⟩⟩
 ·obtain⟨U,x,pe,rows,rws,es,mi,f,rfl,B,r0,r40,lp,em,e0',kw,kh,kl⟩:=h
  obtain⟨lines,aR,⟨S,SW,d,wl,sh,bl,kn,du,bk,dS,st,op,dw,sg,ow,pw,db,tb,ops,LU⟩,hl,ll,li⟩:=id B
  refine⟨_,rfl,rfl,_,rfl,?_⟩
  rw[decide_eq_false (show ¬ OJ=V.str (Str.ofString "fork") by decide +kernel)]
  refine eU ?_
  refine⟨_,rfl,x,d,_,rfl,LU.L.hx,rfl,_,rfl,S,x,d,wl,sh,bl,kn,du,bk,dS,st,op,pe,ops,lines,rows,rws,es,0,mi,f,rfl,LU.L,hl,by omega,by omega,by omega,r0,em,e0',kw,fun lt S' H' L' fr=>?_,fun hv H' s'=>?_⟩
  ·obtain⟨U',hL',f'⟩:=LU.rm L' fr
   exact⟨_,rfl,kl lt U' H' (kM.on hL' ll li) f'⟩
  ·exact .inr ⟨Zn,.inl ⟨iI.h,_,rfl,kh hv H' s'⟩⟩
open PySem PySem.Spec PyProof.Rows L2 cX PySem.Builtin PySem.Builtin.Str jk jf in
theorem Mb(cs:List Nat):∀ n:Nat,(⟨(List.replicate n (txt cs).cps).foldl (·++·) #[]⟩:Str)=txt ((List.replicate n cs).flatten):=by
 have key:∀ (n:Nat) (acc:Array Nat),((List.replicate n (txt cs).cps).foldl (·++·) acc).toList=acc.toList++(List.replicate n cs).flatten:=by
  intro n
  induction n with
  | zero=>intro acc;simp
  | succ n ih =>
   intro acc
   rw[rT,nR,ih,Array.toList_append,rT,List.flatten_cons,← oZ]
   rfl
 intro n
 refine ext_toList ?_
 rw[tH]
 exact (key n #[]).trans (by simp)
open PySem PySem.Spec PyProof.Rows L2 cX PySem.Builtin PySem.Builtin.Str jk jf in
theorem NK{X:Cx}:vI X (binaryOp .Mult) (fun x y H Q=>∃ (cs:List Nat) (n:Nat),x=.str (txt cs)∧y=.int n∧2≤n∧n≤1000∧2≤cs.length∧cs.length*n≤1000000∧Q (.str (txt ((List.replicate n cs).flatten))) H):=by
 intro pins s σ H x y v u Q I rx ry h
 obtain⟨cs,n,rfl,rfl,h2,h3,hl,hm,q⟩:=h
 obtain⟨t,rfl⟩:=rx
 obtain⟨t',rfl⟩:=ry
 have l1:(txt cs).length=cs.length:=qS cs
 have hm':(cs.length:Int)*(n:Int)≤1000000:=by
  have z:((cs.length*n:Nat):Int)≤((1000000:Nat):Int):=Int.ofNat_le.mpr hm
  rw[Int.natCast_mul]at z
  exact z
 refine P.mul_str ?_ (fun _ _=>?_) (fun _ _=>?_) ?_
 ·rw[decide_eq_false (by omega),decide_eq_false (by omega)];rfl
 ·rw[l1]
  have:(cs.length:Int)≤(2^63-1) / (n:Int):=by
   rw[Int.le_ediv_iff_mul_le (by omega)]
   omega
  omega
 ·rw[l1]
  unfold tooLong
  refine decide_eq_false ?_
  rw[mG]
  have:(1000000:Nat)≤sizeLine:=by decide
  omega
 ·rw[if_neg (by omega),if_neg (by rw[l1,Bool.or_eq_true,beq_iff_eq,beq_iff_eq];omega),mG]
  have e:=Mb cs n
  refine⟨?_,?_⟩
  ·have fl:∀ n:Nat,((List.replicate n cs).flatten).length=n*cs.length:=fun n=>by rw[List.length_flatten,List.map_replicate,List.sum_replicate_nat]
   have z:(⟨(List.replicate n (txt cs).cps).foldl (·++·) #[]⟩:Str).length≤1000000:=by rw[e,qS,fl,Nat.mul_comm];exact hm
   first|exact lO z (by decide)|exact decide_eq_false (Nat.not_lt.mpr (lO z (by decide)))
  ·show EP X pins σ Q (.str (⟨(List.replicate n (txt cs).cps).foldl (·++·) #[]⟩:Str) _) _
   rw[e]
   exact⟨.str _,H,I.tok _,⟨_,rfl⟩,q⟩
open PySem PySem.Spec PyProof.Rows L2 cX PySem.Builtin jk jf in
theorem J2{X:Cx}:nj X (.type "int") (fun xs H Q=>∃ (b:Bool),xs=[.bl b]∧Q (.int (if b then 1 else 0)) H):=by
 intro pins s σ H xs us Q I r h
 obtain⟨b,rfl,q⟩:=h
 obtain⟨u,rfl,rx⟩:=r.one
 cases (show u=Value.bool b from rx)
 exact call_int_bool ⟨.int _,H,I.tok _,⟨_,rfl⟩,q⟩
abbrev NL(m n:Nat):List Int:=run 0 m++run 0 n
inductive xX(C CS CW CB:Addr)(vs:List V)(H:Hp)(Q:VK)(E:XK):Prop
 | mk (a m n:Nat) (_:vs=[.int (a:Nat),.int (m:Nat),.int ((m+n:Nat):Int)]) (_:2≤a) (_:a≤6) (_:1≤m) (_:m≤9) (_:1≤n) (_:m+n≤199) (_:∀ (t x:Addr) (U:Addr→Prop) (pe:mq) (H':Hp),H' t=some (.tup [.ref x,.int ((4+a:Nat):Int)])→kM C CS CW CB U H' x pe [[],NL m n]→pe.length=7+a→pe[4+a]?=some [List.replicate a (-2),run 0 m]→(∀ b,U b→H b=none)→aJ H H'→Q (.ref t) H'):xX C CS CW CB vs H Q E
theorem AV(n:Nat):∀ e∈run 0 n,0≤e:=fun e he=>(GP he).1
theorem yK.to{U U':Addr→Prop}{H0 H H':Hp}(u:∀ b,U b→H0 b=none)(s:aJ H0 H)(f:yK U U' H H'):(∀ b,U' b→H0 b=none)∧aJ H0 H' :=
 ⟨fun b z=>(f.1 b z).elim (u b) (fun y=>bK s y),fun b o e=>f.2.1 b o (s _ _ e) (fun z=>by rw[u b z]at e;cases e)⟩
theorem adw{n:Nat}:dP (eN (cF [(0,(n:Int))]))=run 0 n:=by
 rw[vZ,sD _ fun q hq=>by rw[List.mem_singleton.mp hq];show (0:Int)≤n;omega]
 show run 0 ((n:Int)-0).toNat++[]=_
 rw[j6,Int.sub_zero,mG]
theorem kM.fresh{C CS CW CB XT:Addr}{U:Addr→Prop}{H:Hp}{x:Addr}{pe:mq}{rows:gj}{Q:VK}{E:XK}(B:kM C CS CW CB U H x pe rows)(lr:rows.length<40)(lp:pe.length≤800)(Be:∃ f,oQ (rows++[[]]) f)(k:∀ (U':Addr→Prop) (H':Hp),kM C CS CW CB U' H' x (pe++[rows++[[]]]) (rows++[[]])→yK U U' H H'→Q (.int (rows.length:Nat)) H'):wC C CS XT [.ref x] H Q E:=by
 obtain⟨lines,aR,⟨S,SW,d,wl,sh,bl,kn,du,bk,dS,st,op,dw,sg,ow,pw,db,tb,ops,LU⟩,hl,ll,li⟩:=B
 exact⟨S,x,d,wl,sh,bl,kn,du,bk,dS,st,op,pe,ops,lines,rows,rfl,LU.L,hl,by omega,by omega,by omega,fun c=>absurd c (by omega),fun _=>⟨Be,fun S' H' L' fr=>by
  obtain⟨U',hL',f'⟩:=LU.rm L' fr
  exact k U' H' (kM.on hL' ll li) f'⟩⟩
theorem kM.put{C CS CW CB XS XO XP:Addr}{U:Addr→Prop}{H:Hp}{x:Addr}{pe:mq}{rows:gj}{Q:VK}{E:XK}(B:kM C CS CW CB U H x pe rows){r:Addr}{n s p:Nat}{es:List Int}{sh:Int→List Int}(hr:cL H r [(0,(n:Int))])(n1:1≤n)(n2:n≤199)(lr:rows.length≤40)(lp:pe.length≤800)(he:rows[s]?=some es)(sn:Seen rows sh)(hp:p=(sh (s:Int)).length)(Be:∃ f,oQ (ic rows s (es++run 0 n)) f)(k:∀ (U':Addr→Prop) (H':Hp),kM C CS CW CB U' H' x (pe++[ic rows s (es++run 0 n)]) (ic rows s (es++run 0 n))→yK U U' H H'→Q .jc H'):tU C CS CW CB XS XO XP [.ref x,.int (s:Nat),.int (p:Nat),.ref r] H Q E:=by
 obtain⟨lines,aR,LB,hl,ll,li⟩:=B
 have sl:=(List.getElem?_eq_some_iff.mp he).1
 have lsh:=sn.ln (s:Int) (by omega) (by omega)
 have esh:sh (s:Int)=cH sh es:=sn.ss (s:Int) es (by omega) (by rw[mG];exact he)
 refine⟨U,x,r,pe,lines,aR,1,[],[(0,(n:Int))],(s:Int),(p:Int),rows,rfl,LB,hr,⟨(by show 1≤29;decide),fun q hq=>?_⟩,by omega,hl,by omega,by omega,by omega,⟨by omega,by omega⟩,⟨by omega,by omega⟩,fun z=>absurd ⟨by omega,by omega⟩ z,fun _=>⟨sh,sn,fun z=>absurd ⟨by omega,by omega⟩ z,fun _=>⟨fun hb=>?_,fun _ es' CG=>?_⟩⟩⟩
 ·rw[List.mem_singleton.mp hq]
  exact⟨⟨Int.le_refl _,(by show (0:Int)<10^60;decide)⟩,⟨by show (0:Int)≤n;omega,by show (n:Int)<_;omega⟩⟩
 ·have:pY aR.length [(0,(n:Int))]=true:=List.all_eq_true.mpr fun q hq=>by
   rw[List.mem_singleton.mp hq]
   unfold Mi
   simp only[Bool.and_eq_true,decide_eq_true_eq]
   omega
  rw[this]at hb
  cases hb
 rw[mG,he]at CG
 cases CG
 rw[mG,adw,AR (by rw[hp,esh])]
 exact⟨Be,fun U' H' L' fr=>k U' H' (kM.on L' ll li) fr⟩
theorem kM.win{C CS CW CB XS XP:Addr}{U:Addr→Prop}{H:Hp}{x:Addr}{pe:mq}{rows:gj}{Q:VK}{E:XK}(B:kM C CS CW CB U H x pe rows){t s p:Nat}{es:List Int}{sh:Int→List Int}(lr:rows.length≤40)(lp:pe.length≤800)(he:rows[t]?=some es)(hs:s<rows.length)(sn:Seen rows sh)(hp:p=(sh (t:Int)).length)(Be:∃ f,oQ (ic rows t (es++[-1-(s:Int)])) f)(k:∀ (U':Addr→Prop) (H':Hp),kM C CS CW CB U' H' x (pe++[ic rows t (es++[-1-(s:Int)])]) (ic rows t (es++[-1-(s:Int)]))→yK U U' H H'→Q .jc H'):sS C CS CW CB XS XP [.ref x,.int (t:Nat),.int (p:Nat),.int (s:Nat)] H Q E:=by
 obtain⟨lines,aR,LB,hl,ll,li⟩:=B
 have sl:=(List.getElem?_eq_some_iff.mp he).1
 have lsh:=sn.ln (t:Int) (by omega) (by omega)
 have esh:sh (t:Int)=cH sh es:=sn.ss (t:Int) es (by omega) (by rw[mG];exact he)
 refine⟨U,x,pe,lines,aR,1,[],(t:Int),(p:Int),(s:Int),rows,rfl,LB,hl,by omega,by omega,by omega,⟨by omega,by omega⟩,⟨by omega,by omega⟩,⟨by omega,by omega⟩,fun z=>absurd ⟨by omega,by omega⟩ z,fun _=>⟨fun z=>absurd ⟨by omega,by omega⟩ z,fun _=>⟨sh,sn,fun z=>absurd ⟨by omega,by omega⟩ z,fun _ es' CG=>?_⟩⟩⟩
 rw[mG,he]at CG
 cases CG
 rw[mG,AR (by rw[hp,esh])]
 exact⟨Be,fun U' H' L' fr=>k U' H' (kM.on L' ll li) fr⟩
theorem kM.cut{C CS CW CB XS XP:Addr}{U:Addr→Prop}{H:Hp}{x:Addr}{pe:mq}{rows:gj}{Q:VK}{E:XK}(B:kM C CS CW CB U H x pe rows){s p:Nat}{es:List Int}{sh:Int→List Int}(lr:rows.length≤40)(lp:pe.length≤800)(he:rows[s]?=some es)(sn:Seen rows sh)(hp:p=(sh (s:Int)).length){es':List Int}(hc:u7 sh 0 (p:Int) es=es')(Be:∃ f,oQ (ic rows s es') f)(k:∀ (U':Addr→Prop) (H':Hp),kM C CS CW CB U' H' x (pe++[ic rows s es']) (ic rows s es')→yK U U' H H'→Q .jc H'):zq C CS CW CB XS XP [.ref x,.int (s:Nat),.int 0,.int (p:Nat)] H Q E:=by
 obtain⟨lines,aR,LB,hl,ll,li⟩:=B
 have sl:=(List.getElem?_eq_some_iff.mp he).1
 have lsh:=sn.ln (s:Int) (by omega) (by omega)
 refine⟨U,x,pe,lines,aR,1,[],(s:Int),0,(p:Int),rows,rfl,LB,hl,by omega,by omega,by omega,⟨by omega,by omega⟩,⟨by omega,by omega⟩,⟨by omega,by omega⟩,fun z=>absurd ⟨by omega,by omega⟩ z,fun _=>⟨sh,sn,fun z=>absurd ⟨by omega,by omega,by omega⟩ z,fun _ es2 CG=>?_⟩⟩
 rw[mG,he]at CG
 cases CG
 rw[mG,hc]
 exact⟨Be,fun U' H' L' fr=>k U' H' (kM.on L' ll li) fr⟩
theorem kM.now{C CS CW CB:Addr}{U:Addr→Prop}{H:Hp}{x:Addr}{pe:mq}{rows:gj}{Q:VK}{E:XK}(B:kM C CS CW CB U H x pe rows)(k:Q (.int ((pe.length:Nat)-1)) H):Az C CS [.ref x] H Q E:=by
 obtain⟨lines,aR,⟨S,SW,d,wl,sh,bl,kn,du,bk,dS,st,op,dw,sg,ow,pw,db,tb,ops,LU⟩,hl,ll,li⟩:=B
 refine⟨S,x,d,wl,sh,bl,kn,du,bk,dS,st,op,kL pe,ops,lines,rfl,LU.L,?_⟩
 rw[show (kL pe).length=pe.length from dW _]
 exact k
theorem kM.many{C CS CW CB:Addr}{U:Addr→Prop}{H:Hp}{x:Addr}{pe:mq}{rows:gj}{Q:VK}{E:XK}(B:kM C CS CW CB U H x pe rows)(k:Q (.int (rows.length:Nat)) H):wB C CS [.ref x] H Q E:=by
 obtain⟨lines,aR,⟨S,SW,d,wl,sh,bl,kn,du,bk,dS,st,op,dw,sg,ow,pw,db,tb,ops,LU⟩,hl,ll,li⟩:=B
 refine⟨S,x,d,wl,sh,bl,kn,du,bk,dS,st,op,kL pe,ops,lines,rfl,LU.L,?_⟩
 rw[mE LU.L hl]
 exact k
inductive M65(C CS CW CB:Addr)(H0:Hp)(x:Addr)(rows:gj)(k:Nat)(H:Hp):Prop
 | mk (U:Addr→Prop) (pe:mq) (_:kM C CS CW CB U H x pe rows) (_:pe.length=k) (_:∀ b,U b→H0 b=none) (_:aJ H0 H):M65 C CS CW CB H0 x rows k H
theorem TQ{H:Hp}{r tp:Addr}{a b:Int}(h:H r=some (.lst [.ref tp]))(t:H tp=some (.tup [.int a,.int b])):cL H r [(a,b)]:=⟨[tp],h,.cons t .nil⟩
theorem nK:aL ["_law_wins","_law_small","_law_great","_law_house","_law_k","_law_moment"] ["_law_wins","_law_small","_law_great"] (az pC):=⟨rfl,rfl,rfl,by decide +kernel,rfl,by decide +kernel,by decide +kernel⟩
set_option maxHeartbeats 4000000 in
theorem DZ{f C CS CW CB XS XM XT XO XP f0 f1 f2 f3 f4 f5 f6 fE fC fS fI fH fci fpa fN1 fN2:Addr}{fd g0 g1 g2 g3 g4 g5 g6 gE gC gS gI gH gci gpa:FuncData}(F:iJ K "_law_ready" "_law_ready" pC f fd)(X:DR K mg C CS CW CB XS XM XT XO XP)(A1:DM K mg CS)(A2:F7 K mg)(A3:ND K mg C)(A4:Tr K mg fN1 fN2)(A5:Q5 K mg CW CB)(A6:Q7 K mg)(aB:ClsAt K mg "Library" C f0)(ji:aI K C "__init__" "Library.__init__" gU gy f0 g0)(lI:aH P w K mg base cK 3 f0 g0 gy (tV C CS CW CB))
  (jW:aI K C "pour" "Library.pour" jP NR f1 g1) (cz:aI K C "fresh" "Library.fresh" iE gy f2 g2) (iW:aI K C "put" "Library.put" kW Ml f3 g3) (cJ:aI K C "window" "Library.window" gF IP f4 g4) (cT:aI K C "now" "Library.now" kU gy f5 g5) (lJ:aI K C "cut" "Library.cut" kX Mm f6 g6)
  (aO:aI K C "enter" "Library.enter" bV IM fE gE) (aK:aI K C "change" "Library.change" cj HB fC gC) (cy:aI K C "shown" "Library.shown" fO tX fS gS) (eX:aI K C "ink" "Library.ink" iT gy fI gI) (cM:aI K C "check_held" "Library.check_held" dG CN fH gH) (mj:aF K mg "cut_items" lV Ke fci gci) (pI:aF K mg "parted" qM IS fpa gpa):aH P w K mg base cK 9 f fd OM (xX C CS CW CB):=by
 have LM:=X.M
 have BA:aH P w K mg base cK 4 _ _ NR (DS C CS CW CB):=yL jW.F X A1 A2 A5 aO
 have lK:aH P w K mg base (iM P w) 7 _ _ gy (wC C CS XT):=qz cz.F LM A1 A2 A3
 have wH:aH P w K mg base (iM P w) 6 _ _ Ml (tU C CS CW CB XS XO XP):=AI iW.F X A1 A2 A4 A5 A6 aO aK cy eX cM
 have nh:aH P w K mg base (iM P w) 6 _ _ IP (sS C CS CW CB XS XP):=pM cJ.F X A1 A2 A6 aO aK
 have Ea:aH P w K mg base (iM P w) 6 _ _ Mm (zq C CS CW CB XS XP):=AM lJ.F X A1 A2 A6 aO aK mj pI
 obtain⟨_,_,ady⟩:=A1.now
 have lM:aH P w K mg base cK 2 _ _ gy (Az C CS):=sN cT.F LM ady
 obtain⟨⟨T,_,_,_,_,_⟩,_⟩:=LM
 refine F.ok nK (fun vs H Q E h=>?_) (fun cdv A outer s H vs Q E hr h=>?_)
 ·obtain⟨a,m,n,rfl,_⟩:=h
  rfl
 obtain⟨a,m,n,rfl,a2,a6,m1,m9,n1,mn,k⟩:=h
 refine⟨_,(ao (aY (i:=3) nK.nd rfl (Or.inl rfl) (qg aB.QU lI (hr.mono (by decide)) rfl aB.m ji.b .nil cZ))
   (ao (bq (bC (pv 3) aB.cl jW.mt BA (hr.mono (by decide)) jW.b .nil cZ (af aC (af (bw NK cN aC) aj))))
   (ao (bq (bS (pv 3) aB.cl cz.mt lK (hr.mono (by decide)) cz.b .nil qq))
   (ao (bq (bS (pv 3) aB.cl cz.mt lK (hr.mono (by decide)) cz.b .nil qq))
   (ao (bq (bC (pv 3) aB.cl iW.mt wH (hr.mono (by decide)) iW.b .nil qq (af aC (af aC (af (bW (af (fF (af aC (af (pv 1) aj))) aj)) aj)))))
   (ao (jI PassesOwn.never rfl (qf rfl T.tL (af (pv 0) aj)) (br (i:=4) nK.nd rfl (Or.inl rfl))
   (au (bq (bC (pv 3) aB.cl cJ.mt nh (hr.mono (by decide)) cJ.b .nil qq (af aC (af (bw pS (pv 4) (pv 1)) (af aC aj)))))))
   (ao (aY (i:=5) nK.nd rfl (Or.inl rfl) (bS (pv 3) aB.cl cT.mt lM (hr.mono (by decide)) cT.b .nil cZ))
   (ao (bq (bC (pv 3) aB.cl lJ.mt Ea (hr.mono (by decide)) lJ.b .nil qq (af aC (af aC (af (bw pS (pv 0) (pv 1)) aj)))))
   (ao (bq (bC (pv 3) aB.cl iW.mt wH (hr.mono (by decide)) iW.b .nil qq (af aC (af (pv 1) (af (r9 yV (bW (af (fF (af aC (af (bw iu (pv 2) (pv 1)) aj))) aj)) vK (vL (bw iu (pv 2) (pv 1)))) aj)))))
   (au (aP (fF (af (pv 3) (af (pv 5) aj)))))))))))))),?_⟩
 intro x dx fx fdx _
 refine⟨x,dx,rfl,ah,fun U H2 L2 fU k2=>⟨rfl,?_⟩⟩
 have s2:=nP fx fdx k2
 have u2:∀ b,U b→H b=none:=fun b z=>by
  rcases fU b z with y|y
  ·rw[y];exact fx
  ·exact qB y
 obtain⟨S,SW,d,wl,sh,bl,kn,du,bk,dS,st,op,dw,sg,ow,pw,db,tb,ops,LU⟩:=id L2
 refine⟨_,rfl,x,d,_,rfl,LU.L.hx,rfl,(Str.ofString "abcdefghij").cps.toList,20,by rw[uU],rfl,by decide,by decide,(by decide +kernel),(by decide +kernel),U,x,[[]],[],[],0,[],3,_,[],rfl,L2,⟨by decide,by decide⟩,(by decide +kernel),by decide,by decide,rfl,by decide,by decide,by decide,fun U3 q3 H3 L3 f3 Ol=>?_⟩
 have B3:kM C CS CW CB U3 H3 x [[],[]] []:=⟨_,_,L3,rfl,by decide,by
  show (List.map _ _).length=200
  rw[dW]
  decide +kernel⟩
 obtain⟨u3,s3⟩:=yK.to u2 s2 f3
 obtain⟨d3,_,_,_,_,_,_,hx3⟩:=B3.hx
 refine⟨_,rfl,x,d3,_,rfl,hx3,rfl,B3.fresh (by decide) (by decide) ⟨_,FP (n:=1) (by decide)⟩ fun U4 H4 B4 f4=>?_⟩
 obtain⟨u4,s4⟩:=yK.to u3 s3 f4
 obtain⟨d4,_,_,_,_,_,_,hx4⟩:=B4.hx
 refine⟨_,rfl,x,d4,_,rfl,hx4,rfl,B4.fresh (by decide) (by decide) ⟨_,FP (n:=2) (by decide)⟩ fun U5 H5 B5 f5=>?_⟩
 obtain⟨u5,s5⟩:=yK.to u4 s4 f5
 obtain⟨d5,_,_,_,_,_,_,hx5⟩:=B5.hx
 refine⟨_,rfl,x,d5,_,rfl,hx5,rfl,_,rfl,(by show 2≤sizeLine;decide),fun tp htp=>⟨(by show 1≤sizeLine;decide),fun r hr1=>?_⟩⟩
 have t6:=ak htp (.tup [.int 0,.int (m:Nat)])
 have tt6:(upd H5 tp (.tup [.int 0,.int (m:Nat)])) tp=some (.tup [.int 0,.int (m:Nat)]):=ah
 generalize upd H5 tp (.tup [.int 0,.int (m:Nat)])=H6 at t6 tt6 hr1
 have t7:=ak hr1 (.lst [.ref tp])
 have r7:(upd H6 r (.lst [.ref tp])) r=some (.lst [.ref tp]):=ah
 show tU _ _ _ _ _ _ _ _ (upd H6 r (.lst [.ref tp])) _ _
 generalize upd H6 r (.lst [.ref tp])=H7 at t7 r7
 have F0:∀ c,c≤6→vv [List.replicate c (-2),run 0 m] (run 0 m):=fun c c6=>vv.two c6 (AV m) (by rw[jZ];omega)
 have Be:∀ c,c≤6→∃ f,oQ [List.replicate c (-2),run 0 m] f:=fun c c6=>⟨_,(F0 c c6).bears (CJ (F0 c c6) (by
  rw[jZ]
  have:=NJ c6 (y:=1+(m:Int)) (b:=10) (by omega) (by omega)
  omega))⟩
 refine (B5.same (t6.trans t7)).put (s:=1) (p:=0) (TQ r7 (t7 _ _ tt6)) m1 (by omega) (by decide) (by decide) rfl (NI 2) rfl (Be 0 (by decide)) fun U8 H8 B8 f8=>?_
 obtain⟨u8,s8⟩:=yK.to u5 (s5.trans (t6.trans t7)) f8
 have TR:∀ c,c≤6→(QA [List.replicate c (-2),run 0 m] (run 0 m) 0).length=c*m:=fun c c6=>by
  show (List.replicate (List.replicate c (-2:Int)).length (run 0 m)).flatten.length=_
  rw[J1,rP,jZ]
 refine⟨_,rfl,_,rfl,by omega,by omega,sV (lo:=0) (n:=((a:Nat):Int).toNat) (fun j σ H9=>∃ u4:Option V,σ=[some (.int (a:Nat)),some (.int (m:Nat)),some (.int ((m+n:Nat):Int)),some (.ref x),u4,none]∧M65 C CS CW CB H x [List.replicate j (-2),run 0 m] (5+j) H9) ⟨none,rfl,U8,_,B8,rfl,u8,s8⟩ ?_ ?_⟩
 ·rintro j σ H9 hj ⟨u4',rfl,U9,Rf,B9,l9,u9,s9⟩
  have ja:j<a:=by omega
  obtain⟨d9,_,_,_,_,_,_,Rg⟩:=B9.hx
  refine⟨_,rfl,x,d9,_,rfl,Rg,rfl,_,rfl,_,rfl,_,_,rfl,rfl,.inr ⟨by omega,by omega⟩,?_⟩
  have e1:(0+(j:Int))*((m:Nat):Int)=((j*m:Nat):Int):=by rw[Int.natCast_mul,Int.zero_add]
  rw[e1]
  refine B9.win (t:=0) (s:=1) (p:=j*m) (by show 2≤40;decide) (by omega) rfl (by show 1<2;decide) (F0 j (by omega)).seen (TR j (by omega)).symm ?_ fun QB Bg xR N7=>?_
  ·obtain⟨f,hf⟩:=Be (j+1) (by omega)
   refine⟨f,?_⟩
   rw[List.replicate_succ']at hf
   exact hf
  ·obtain⟨u10,Me⟩:=yK.to u9 s9 N7
   have e2:ic [List.replicate j (-2),run 0 m] 0 (List.replicate j (-2)++[-1-((1:Nat):Int)])=[List.replicate (j+1) (-2),run 0 m]:=by rw[List.replicate_succ'];rfl
   rw[e2]at xR
   refine⟨_,rfl,QB,_,xR,?_,u10,Me⟩
   rw[eT]
   show Rf.length+1=_
   omega
 ·rintro σ H9 ⟨u4',rfl,U9,Rf,B9,l9,u9,s9⟩
  rw[mG]at B9 l9
  obtain⟨d9,_,_,_,_,_,_,Rg⟩:=B9.hx
  refine⟨_,rfl,x,d9,_,rfl,Rg,rfl,B9.now ?_⟩
  rw[show ((Rf.length:Nat):Int)-1=((4+a:Nat):Int) by omega]
  have p9:Rf[4+a]?=some [List.replicate a (-2),run 0 m]:=by
   obtain⟨_,_,_,hl9,_,_⟩:=id B9
   rw[List.getLast?_eq_getElem?,l9]at hl9
   rw[show 4+a=5+a-1 by omega]
   exact hl9
  refine⟨_,rfl,x,d9,_,rfl,Rg,rfl,_,rfl,_,rfl,_,_,rfl,rfl,.inr ⟨by omega,by omega⟩,?_⟩
  rw[show ((a:Nat):Int)*((m:Nat):Int)=((a*m:Nat):Int) from (Int.natCast_mul a m).symm]
  refine B9.cut (s:=0) (p:=a*m) (es':=[]) (by show 2≤40;decide) (by omega) rfl (F0 a a6).seen (TR a a6).symm ?_ (Be 0 (by decide)) fun QB Bg xR N7=>?_
  ·unfold u7
   have pos:0<a*m:=Nat.mul_pos (by omega) (by omega)
   rw[if_neg (by omega)]
   refine L7 ?_ a 0 (Int.le_refl _) ?_
   ·show 1≤(run 0 m).length
    rw[jZ];exact m1
   ·show 0+(a:Int)*((run 0 m).length:Int)≤_
    rw[jZ,Int.zero_add,Int.natCast_mul]
    exact Int.le_refl _
  obtain⟨u10,Me⟩:=yK.to u9 s9 N7
  obtain⟨d10,_,_,_,_,_,_,adA⟩:=xR.hx
  have en:((m+n:Nat):Int)-((m:Nat):Int)=((n:Nat):Int):=by omega
  refine⟨_,rfl,x,d10,_,rfl,adA,rfl,_,rfl,_,rfl,_,rfl,_,_,rfl,rfl,(by show 2≤sizeLine;decide),fun tp htp=>⟨(by show 1≤sizeLine;decide),fun r hr1=>⟨_,rfl,_,rfl,_,_,rfl,rfl,_,rfl,r,_,rfl,b8.of ah,fun p hp=>?_⟩⟩⟩
  rw[en]
  rw[show qI [V.ref tp] none (some ((n:Nat):Int))=[.ref tp] from (Ld [tp] (by omega)).trans (by rw[mG,yu (by show 1≤n;omega)];rfl)]
  rw[en]at hr1 hp
  have v1:=ak htp (.tup [.int 0,.int (n:Nat)])
  have vt:(upd Bg tp (.tup [.int 0,.int (n:Nat)])) tp=some (.tup [.int 0,.int (n:Nat)]):=ah
  generalize upd Bg tp (.tup [.int 0,.int (n:Nat)])=EK at v1 vt hr1 hp
  have v2:=ak hr1 (.lst [.ref tp])
  generalize upd EK r (.lst [.ref tp])=Ib at v2 hp
  have v3:=ak hp (.lst [.ref tp])
  have v4:(upd Ib p (.lst [.ref tp])) p=some (.lst [.ref tp]):=ah
  show tU _ _ _ _ _ _ _ _ (upd Ib p (.lst [.ref tp])) _ _
  generalize upd Ib p (.lst [.ref tp])=H13 at v3 v4
  have Dc:=v1.trans (v2.trans v3)
  have F2:vv [List.replicate 0 (-2),NL m n] (NL m n):=vv.two (by decide) (fun e he=>(List.mem_append.mp he).elim (AV m e) (AV n e)) (by rw[eT,jZ,jZ];exact mn)
  refine (xR.same Dc).put (s:=1) (p:=m) (TQ v4 (v3 _ _ (v2 _ _ vt))) n1 (by omega) (by show 2≤40;decide) (by rw[eT];show Rf.length+1≤800;omega) rfl (F0 0 (by decide)).seen (by show m=(run 0 m).length;rw[jZ]) ⟨_,F2.bears (CJ F2 (by rw[show (((0:Nat):Int))=0 from rfl,Int.zero_mul];decide))⟩ fun U14 H14 B14 Uh=>?_
  obtain⟨u14,Qq⟩:=yK.to u10 (Me.trans Dc) Uh
  refine⟨_,rfl,_,rfl,(by show 2≤sizeLine;decide),fun t ht=>?_⟩
  have Np:=ak ht (.tup [.ref x,.int ((4+a:Nat):Int)])
  refine k t x U14 _ _ ah (B14.same Np) ?_ ?_ u14 (Qq.trans Np)
  ·rw[eT,eT]
   show Rf.length+1+1=_
   omega
  ·rw[oZ,wK (by omega)]
   exact p9
theorem iL.fru{U U':Addr→Prop}{H H':Hp}{l c:Addr}(S:iL H l c)(fr:yK U U' H H')(nl:¬ U l)(nc:¬ U c):iL H' l c:=by
 obtain⟨n,ns,i,d,r,e1,e2,h3⟩:=S
 exact⟨n,ns,i,d,r,fr.2.1 _ _ e1 nl,fr.2.1 _ _ e2 nc,h3⟩
theorem iL.out{U U':Addr→Prop}{H H':Hp}{l c:Addr}(S:iL H l c)(fr:yK U U' H H')(nl:¬ U l)(nc:¬ U c):iL H' l c∧¬ U' l∧¬ U' c:=by
 refine⟨S.fru fr nl nc,fun z=>?_,fun z=>?_⟩
 ·rcases fr.1 l z with y|y
  ·exact nl y
  ·obtain⟨⟨o,ho⟩,_⟩:=S.has
   rw[ho]at y;cases y
 ·rcases fr.1 c z with y|y
  ·exact nc y
  ·obtain⟨_,⟨o,ho⟩⟩:=S.has
   rw[ho]at y;cases y
inductive AW(C CS CW CB:Addr)(vs:List V)(H:Hp)(Q:VK)(E:XK):Prop
 | mk (U:Addr→Prop) (l c x:Addr) (pe:mq) (g:List Int) (_:vs=[.ref l,.ref x]) (_:iL H l c) (_:kM C CS CW CB U H x pe [[],g]) (_:pe.length≤20) (_:∀ e∈g,0≤e) (_:g.length≤199) (_:¬ U l) (_:¬ U c) (_:∀ (t:Addr) (k th:Nat) (U':Addr→Prop) (q:mq) (H':Hp),k≤37→th≤1→H' t=some (.tup [.int ((3+k:Nat):Int),.int (th:Nat)])→kM C CS CW CB U' H' x (pe++q) (oX 0 g th (List.replicate k []))→q.length=k+1+th→Q (.ref t) H'):AW C CS CW CB vs H Q E
def adB:TS:=fun D σ H=>∃ (l c x:Addr) (v:Int),σ=[some (.ref l),some (.ref x),some (.int v),none,none]∧3≤v∧v≤40∧iL H l c∧∀ (k:Nat) (H':Hp),k≤37→iL H' l c→(∀ a,a≠l→H' a=H a)→D.nx [some (.ref l),some (.ref x),some (.int ((3+k:Nat):Int)),none,none] H'
theorem AX{g:List Int}{th k:Nat}(gn:∀ e∈g,0≤e)(gl:g.length≤199)(t6:th≤6)(k40:k≤40):DY 0 g th (List.replicate k []):=⟨by decide,t6,by rw[rP];exact k40,gn,gl,fun es he=>⟨0,by decide,(List.mem_replicate.mp he).2⟩⟩
theorem xY{g:List Int}{th k:Nat}(h:DY 0 g th (List.replicate k [])):qx (oX 0 g th (List.replicate k [])) (zG (oX 0 g th (List.replicate k [])) g):=by
 have:=h.t6
 refine h.CH (by rw[show (((0:Nat):Int))=0 from rfl,Int.zero_mul];decide) (by rw[show (((0:Nat):Int))=0 from rfl,Int.zero_mul,Int.add_zero,Int.mul_one];omega) fun es he=>?_
 rw[(List.mem_replicate.mp he).2]
 show ((0:Nat):Int)*_≤200
 rw[show (((0:Nat):Int))=0 from rfl,Int.zero_mul]
 decide
theorem kK:aL ["_law_src_here","_law_house","_law_many","_law_k","_law_third"] ["_law_src_here","_law_house"] (az qO):=⟨rfl,rfl,rfl,by decide +kernel,rfl,by decide +kernel,by decide +kernel⟩
set_option maxHeartbeats 4000000 in
theorem FW{f C CS CW CB XS XM XT XO XP f1 f2 f4 fE fC:Addr}{fd g1 g2 g4 gE gC:FuncData}(F:iJ K "_law_more" "_law_more" qO f fd)(X:DR K mg C CS CW CB XS XM XT XO XP)(A1:DM K mg CS)(A2:F7 K mg)(A3:ND K mg C)(A6:Q7 K mg)(dR:aF K mg "_law_next" nX Kf f1 g1)(cz:aI K C "fresh" "Library.fresh" iE gy f2 g2)(cJ:aI K C "window" "Library.window" gF IP f4 g4)(aO:aI K C "enter" "Library.enter" bV IM fE gE)(aK:aI K C "change" "Library.change" cj HB fC gC):aH P w K mg base cK 9 f fd ON (AW C CS CW CB):=by
 have LM:=X.M
 have lK:aH P w K mg base (iM P w) 7 _ _ gy (wC C CS XT):=qz cz.F LM A1 A2 A3
 have nh:aH P w K mg base (iM P w) 6 _ _ IP (sS C CS CW CB XS XP):=pM cJ.F X A1 A2 A6 aO aK
 obtain⟨⟨T,_,_,_,_,_⟩,⟨fi,aB⟩,_⟩:=LM
 have iA:aH P w K mg base cK 1 _ _ Kf C2:=yk dR.F T
 refine F.ok kK (fun vs H Q E h=>?_) (fun cdv A outer s H vs Q E hr h=>?_)
 ·obtain⟨U,l,c,x,pe,g,rfl,_⟩:=h
  rfl
 obtain⟨U,l,c,x,pe,g,rfl,S,B,lp,gn,gl,nl,nc,k⟩:=h
 refine⟨_,(ao (aY (i:=2) kK.nd rfl (Or.inl rfl) (bw gz aC (aS dR iA hr (af (pv 0) (af aC aj)))))
   (ao (pU (t':=adB) (cC (bP kQ (aS dR iA hr (af (pv 0) (af aC aj))) aC (bU _))
   (au (aY (i:=2) kK.nd rfl (Or.inl rfl) (bw gz aC (aS dR iA hr (af (pv 0) (af aC aj))))))
   bF) ?b1)
   (ao (jI PassesOwn.never rfl (qf rfl T.tL (af (bw iu (pv 2) aC) aj)) (br (i:=3) kK.nd rfl (Or.inl rfl))
   (au (bq (bS (pv 1) aB.cl cz.mt lK (hr.mono (by decide)) cz.b .nil qq))))
   (ao (aY (i:=4) kK.nd rfl (Or.inl rfl) (aS dR iA hr (af (pv 0) (af aC aj))))
   (ao (jI PassesOwn.never rfl (qf rfl T.tL (af (pv 4) aj)) (br (i:=3) kK.nd rfl (Or.inl rfl))
   (au (bq (bC (pv 1) aB.cl cJ.mt nh (hr.mono (by decide)) cJ.b .nil qq (af aC (af aC (af aC aj)))))))
   (au (aP (fF (af (pv 2) (af (pv 4) aj)))))))))),?_⟩
 case b1 =>
  rintro D σ H ⟨l,c,x,v,rfl,v0,v1,S,k⟩
  refine⟨_,rfl,l,c,2,rfl,S,by decide,by decide,fun u H1 u0 u1 S1 k1=>⟨rfl,_,rfl,gP (fun _=>?_) (fun _=>?_)⟩⟩
  ·refine⟨_,rfl,l,c,3,rfl,S1,by decide,by decide,fun y H2 y0 y1 S2 k2=>⟨_,_,rfl,rfl,?_⟩⟩
   rw[show (38:Int)+y=((3+(35+y.toNat):Nat):Int) by omega]
   exact k _ H2 (by omega) S2 fun b hb=>(k2 b hb).trans (k1 b hb)
  ·have:=k (v-3).toNat H1 (by omega) S1 k1
   rw[show ((3+(v-3).toNat:Nat):Int)=v by omega]at this
   exact this
 refine⟨_,rfl,l,c,38,rfl,S,by decide,by decide,fun v H1 v0 v1 S1 k1=>⟨_,_,rfl,rfl,l,c,x,_,rfl,by omega,by omega,S1,fun kk H2 Hw S2 k2=>?_⟩⟩
 obtain⟨ls,hls⟩:=S.lst
 have B2:kM C CS CW CB U H2 x pe [[],g]:=B.off hls nl fun b hb=>(k2 b hb).trans (k1 b hb)
 refine⟨_,rfl,_,_,rfl,rfl,_,rfl,by omega,by omega,?_⟩
 have ek:(((3+kk:Nat):Int)-2).toNat=kk+1:=by omega
 refine sV (lo:=0) (n:=(((3+kk:Nat):Int)-2).toNat) (fun j σ H9=>∃ (u3:Option V) (U9:Addr→Prop) (q:mq),σ=[some (.ref l),some (.ref x),some (.int ((3+kk:Nat):Int)),u3,none]∧iL H9 l c∧kM C CS CW CB U9 H9 x (pe++q) ([]::g::List.replicate j [])∧q.length=j∧¬ U9 l∧¬ U9 c) ⟨none,U,[],rfl,S2,by rw[j6];exact B2,rfl,nl,nc⟩ ?_ ?_
 ·rintro j σ H9 hj ⟨u3,U9,q,rfl,S9,B9,l9,nl9,nc9⟩
  obtain⟨d9,_,_,_,_,_,_,Rg⟩:=B9.hx
  have ok:=AX (th:=0) (k:=j) gn gl (by decide) (by omega)
  refine⟨_,rfl,x,d9,_,rfl,Rg,rfl,B9.fresh (by show (List.replicate j ([]:List Int)).length+1+1<40;rw[rP];omega) (by rw[eT];omega) ?_ fun QB Bg xR N7=>?_⟩
  ·have:=ok.IF.bears (xY ok)
   rw[show oX 0 g 0 (List.replicate j [])=([]::g::List.replicate j [])++[[]] by unfold oX;show []::g::List.replicate (j+1) []=_;rw[List.replicate_succ'];rfl]at this
   exact⟨_,this⟩
  ·obtain⟨S10,adD,adE⟩:=S9.out N7 nl9 nc9
   rw[show ([]::g::List.replicate j [])++[[]]=[]::g::List.replicate (j+1) ([]:List Int) by rw[List.replicate_succ'];rfl]at xR
   exact⟨_,QB,q++[_],rfl,S10,by rw[← oZ];exact xR,by rw[eT,l9];rfl,adD,adE⟩
 ·rintro σ H9 ⟨u3,U9,q,rfl,S9,B9,l9,nl9,nc9⟩
  rw[ek]at B9 l9
  refine⟨_,rfl,l,c,2,rfl,S9,by decide,by decide,fun v Bg v0 v1 S10 OF=>?_⟩
  obtain⟨ls9,adF⟩:=S9.lst
  have xR:kM C CS CW CB U9 Bg x (pe++q) (oX 0 g 0 (List.replicate kk [])):=B9.off adF nl9 OF
  refine⟨_,rfl,_,rfl,by omega,by omega,?_⟩
  refine sV (lo:=0) (n:=v.toNat) (fun j σ EK=>∃ (u3:Option V) (TU:Addr→Prop) (q:mq),σ=[some (.ref l),some (.ref x),some (.int ((3+kk:Nat):Int)),u3,some (.int v)]∧kM C CS CW CB TU EK x (pe++q) (oX 0 g j (List.replicate kk []))∧q.length=kk+1+j) ⟨u3,U9,q,rfl,xR,by omega⟩ ?_ ?_
  ·rintro j σ EK hj ⟨u3,TU,q,rfl,QC,l11⟩
   obtain rfl:j=0:=by omega
   obtain⟨d11,_,_,_,_,_,_,adH⟩:=QC.hx
   have ok:=AX (th:=0) (k:=kk) gn gl (by decide) (by omega)
   have Qi:=AX (th:=1) (k:=kk) gn gl (by decide) (by omega)
   refine⟨_,rfl,x,d11,_,rfl,adH,rfl,QC.win (t:=2) (s:=0) (p:=0) (by show (List.replicate kk ([]:List Int)).length+1+1+1≤40;rw[rP];omega) (by rw[eT];omega) rfl (by show 0<_+1;omega) ok.IF.seen rfl ⟨_,Qi.IF.bears (xY Qi)⟩ fun U12 Ib Q9 Vw=>?_⟩
   exact⟨_,U12,q++[_],rfl,by rw[← oZ];exact Q9,by rw[eT,l11];rfl⟩
  ·rintro σ EK ⟨u3,TU,q,rfl,QC,l11⟩
   refine⟨_,rfl,_,rfl,(by show 2≤sizeLine;decide),fun t ht=>?_⟩
   have s12:=ak ht (.tup [.int ((3+kk:Nat):Int),.int v])
   exact k t kk v.toNat TU q _ Hw (by omega) (by rw[show ((v.toNat:Nat):Int)=v by omega];exact ah) (QC.same s12) l11
def adI:TS:=fun D σ H=>∃ (a l c:Addr) (w m n:Nat),σ=[some (.ref a),some (.ref l),some (.int (w:Nat)),some (.int (m:Nat)),some (.int ((m+n:Nat):Int)),none,none,none,none,none,none,none]∧2≤w∧w≤6∧1≤m∧m≤9∧1≤n∧m+n≤199∧iL H l c∧∀ (n:Nat) (H':Hp),1≤n→m+n≤199→iL H' l c→D.nx [some (.ref a),some (.ref l),some (.int (w:Nat)),some (.int (m:Nat)),some (.int ((m+n:Nat):Int)),none,none,none,none,none,none,none] H'
def jC(k w G:Nat):V:=if k=37 then Ma else if 200<w*(1+G) then rA else .int ((3+k:Nat):Int)
theorem Hx{k w G n:Nat}:O8 (jC k w G) (.int (n:Nat))=true:=by
 unfold jC
 (repeat' split) <;> rfl
def adJ:TS:=fun D σ H=>∃ (s0 s1 s3 s5 s6 s8 s9 nO:Option V) (w G k:Nat),σ=[s0,s1,some (.int (w:Nat)),s3,some (.int (G:Nat)),s5,s6,some (.int ((3+k:Nat):Int)),s8,s9,some (.int ((3+k:Nat):Int)),nO]∧w≤6∧G≤199∧k≤37∧D.nx [s0,s1,some (.int (w:Nat)),s3,some (.int (G:Nat)),s5,s6,some (.int ((3+k:Nat):Int)),s8,s9,some (jC k w G),nO] H
def vB(k w G:Nat):gj:=if jC k w G=.int ((3+k:Nat):Int) then List.replicate k []++[List.replicate w (-2)] else List.replicate k []
def IJ(k w G:Nat):Nat:=if jC k w G=.int ((3+k:Nat):Int) then 1 else 0
def adK(C CS CW CB:Addr):TS:=fun D σ H=>∃ (s0 s1 s3 s6 s8 nO:Option V) (x:Addr) (w k th N:Nat) (g:List Int) (U:Addr→Prop) (pe:mq),σ=[s0,s1,some (.int (w:Nat)),s3,some (.int (g.length:Nat)),some (.ref x),s6,some (.int ((3+k:Nat):Int)),s8,some (.int (N:Nat)),some (jC k w g.length),nO]∧2≤w∧w≤6∧k≤37∧th≤1∧(∀ e∈g,0≤e)∧g.length≤199∧kM C CS CW CB U H x pe (oX 0 g th (vB k w g.length))∧pe.length=N+1+IJ k w g.length∧pe.length≤100∧∀ H',aJ H H'→D.nx [s0,s1,some (.int (w:Nat)),s3,some (.int (g.length:Nat)),some (.ref x),s6,some (.int ((3+k:Nat):Int)),s8,some (.int (N:Nat)),some (jC k w g.length),nO] H'
def adL(C CS CW CB:Addr):TS:=fun D σ H=>∃ (s0 s1 s3 s8:Option V) (x:Addr) (w k th N:Nat) (g:List Int) (U:Addr→Prop) (pe:mq) (sm:List Int),σ=[s0,s1,some (.int (w:Nat)),s3,some (.int (g.length:Nat)),some (.ref x),some (.int ((4+w:Nat):Int)),some (.int ((3+k:Nat):Int)),s8,some (.int (N:Nat)),some (jC k w g.length),none]∧2≤w∧w≤6∧k≤37∧th≤1∧(∀ e∈g,0≤e)∧g.length≤199∧kM C CS CW CB U H x pe (oX 0 g th (List.replicate k []))∧pe.length=N+1∧pe.length≤90∧pe[4+w]?=some [List.replicate w (-2),sm]∧∀ (U':Addr→Prop) (Mj:mq) (H':Hp),kM C CS CW CB U' H' x Mj (oX 0 g th (vB k w g.length))→Mj.length=N+1+IJ k w g.length→Mj[4+w]?=some [List.replicate w (-2),sm]→D.nx [s0,s1,some (.int (w:Nat)),s3,some (.int (g.length:Nat)),some (.ref x),some (.int ((4+w:Nat):Int)),some (.int ((3+k:Nat):Int)),s8,some (.int (N:Nat)),some (jC k w g.length),none] H'
def rK(w G th:Nat):Bool:=decide (((w:Nat):Int)*(1+((G:Nat):Int))+((th:Nat):Int)≤200)
def adM(C CS CW CB:Addr):TS:=fun D σ H=>∃ (s0 s1 s2 s3 s4 s7 s8 s9:Option V) (x:Addr) (w k th:Nat) (g:List Int) (U:Addr→Prop) (pe:mq) (sm:List Int),σ=[s0,s1,s2,s3,s4,some (.ref x),some (.int ((4+w:Nat):Int)),s7,s8,s9,some (if rK w g.length th then .jc else rA),some (.bl (rK w g.length th))]∧2≤w∧w≤6∧k≤37∧th≤1∧(∀ e∈g,0≤e)∧g.length≤199∧kM C CS CW CB U H x pe (oX 0 g th (vB k w g.length))∧pe.length≤100∧pe[4+w]?=some [List.replicate w (-2),sm]∧∀ (U':Addr→Prop) (Mj:mq) (H':Hp),kM C CS CW CB U' H' x Mj (oX (if rK w g.length th then w else 0) g th (vB k w g.length))→(rK w g.length th=false→Mj=pe)→Mj.length≤101→D.nx [s0,s1,s2,s3,s4,some (.ref x),some (.int ((4+w:Nat):Int)),s7,s8,s9,some (if rK w g.length th then .jc else rA),some (.bl (rK w g.length th))] H'
def adN:TS:=fun D σ H=>∃ (s0 s1 s2 s3 s4 s5 s6 s7 s8 s9:Option V) (b:Bool),σ=[s0,s1,s2,s3,s4,s5,s6,s7,s8,s9,some rA,some (.bl b)]∧D.nx [s0,s1,s2,s3,s4,s5,s6,s7,s8,s9,some (if b then .jc else rA),some (.bl b)] H
theorem Eb{k w G th a:Nat}{g:List Int}(w6:w≤6)(Hw:k≤37)(t1:th≤1)(a6:a≤6)(gn:∀ e∈g,0≤e)(gl:g.length≤199):DY a g th (vB k w G):=by
 refine⟨a6,by omega,?_,gn,gl,fun es he=>?_⟩
 ·unfold vB
  split
  ·rw[eT,rP];show k+1≤40;omega
  ·rw[rP];omega
 ·unfold vB at he
  split at he
  ·rcases List.mem_append.mp he with z|z
   ·exact⟨0,by decide,(List.mem_replicate.mp z).2⟩
   ·exact⟨w,w6,List.mem_singleton.mp z⟩
  ·exact⟨0,by decide,(List.mem_replicate.mp he).2⟩
theorem NN{k w G:Nat}{es:List Int}(h:es∈vB k w G):es=[]∨(es=List.replicate w (-2)∧w*(1+G)≤200):=by
 unfold vB at h
 split at h
 ·rename_i c
  rcases List.mem_append.mp h with z|z
  ·exact .inl (List.mem_replicate.mp z).2
  ·refine .inr ⟨List.mem_singleton.mp z,?_⟩
   unfold jC at c
   split at c
   ·cases c
   split at c
   ·cases c
   ·omega
 ·exact .inl (List.mem_replicate.mp h).2
theorem kM.size{C CS CW CB XS:Addr}{U:Addr→Prop}{H:Hp}{x:Addr}{pe:mq}{aa th:Nat}{g:List Int}{q:gj}{Q:VK}{E:XK}(B:kM C CS CW CB U H x pe (oX aa g th q))(o:DY aa g th q)(lp:pe.length≤800)(k:∀ H',aJ H H'→Q (.int ((aa*g.length:Nat):Int)) H'):zl C CS XS [.ref x,.int 0] H Q E:=by
 obtain⟨lines,aR,⟨S,SW,d,wl,sh,bl,kn,du,bk,dS,st,op,dw,sg,ow,pw,db,tb,ops,LU⟩,hl,ll,li⟩:=B
 have lr:(oX aa g th q).length≤50:=o.IF.len
 have es:QA (oX aa g th q) g 0=(List.replicate aa g).flatten:=by
  show (List.replicate (cn (oX aa g th q) 0) g).flatten=_
  rw[AU]
 refine⟨S,x,d,wl,sh,bl,kn,du,bk,dS,st,op,pe,ops,lines,_,0,rfl,LU.L,hl,lr,by omega,⟨by omega,by omega⟩,fun z=>absurd ⟨by omega,by show (0:Int)<((_+1+1+1:Nat):Int);omega⟩ z,fun _=>⟨_,o.IF.seen,?_,fun EK nO=>?_⟩⟩
 ·have:=tO (QA (oX aa g th q) g 0)
  have:=o.IF.seen.ln 0 (by omega) (by show (0:Int)<((_+1+1+1:Nat):Int);omega)
  omega
 ·rw[xQ,es,J1]
  exact k EK nO
theorem kM.row{C CS CW CB XS:Addr}{U:Addr→Prop}{H:Hp}{x:Addr}{pe:mq}{rows:gj}{i:Nat}{es:List Int}{Q:VK}{E:XK}(B:kM C CS CW CB U H x pe rows)(lr:rows.length≤50)(lp:pe.length≤800)(he:rows[i]?=some es)(k:∀ (q:Addr) (H':Hp),aW H' (.ref q) (itemsOf es)→aJ H H'→Q (.ref q) H'):DU C CS XS [.ref x,.int (i:Nat)] H Q E:=by
 obtain⟨lines,aR,⟨S,SW,d,wl,sh,bl,kn,du,bk,dS,st,op,dw,sg,ow,pw,db,tb,ops,LU⟩,hl,ll,li⟩:=B
 have il:=(List.getElem?_eq_some_iff.mp he).1
 refine⟨S,x,d,wl,sh,bl,kn,du,bk,dS,st,op,pe,ops,lines,rows,(i:Int),rfl,LU.L,hl,lr,by omega,rj (by omega),fun z=>absurd ⟨by omega,by omega⟩ z,fun _ es' CG q H' hq s' _=>?_⟩
 rw[mG,he]at CG
 cases CG
 exact k q H' hq s'
theorem kM.weight{C CS CW CB:Addr}{U:Addr→Prop}{H:Hp}{x:Addr}{pe:mq}{rows:gj}{g:List Int}{i:Nat}{Q:VK}{E:XK}(B:kM C CS CW CB U H x pe rows)(F:vv rows g)(lp:pe.length≤800)(il:i<rows.length)(k:∀ H',aJ H H'→Q (.int (zG rows g (i:Nat))) H'):tW C CS [.ref x,.int (i:Nat)] H Q E:=by
 obtain⟨lines,aR,⟨S,SW,d,wl,sh,bl,kn,du,bk,dS,st,op,dw,sg,ow,pw,db,tb,ops,LU⟩,hl,ll,li⟩:=B
 exact⟨S,x,d,wl,sh,bl,kn,du,bk,dS,st,op,pe,ops,lines,rows,i,_,rfl,LU.L,hl,F.len,by omega,il,F.wv,k⟩
theorem mY:aL ["_law_script","_law_src_here","_law_wins","_law_small","_law_great","_law_house","_law_moment","_law_many","_law_third","_law_now","_law_due","_law_fits"] ["_law_script"] (az KI):=⟨rfl,rfl,rfl,by decide +kernel,rfl,by decide +kernel,by decide +kernel⟩
set_option maxHeartbeats 4000000 in
theorem QD{C:Addr}{f x0 x1 x2 x3 x4 x5 x6 x7 x8 x9 OG x11 x12 x13 x14 x15 x16 x17 x18 x19 x20 x21 x22 x23 x24 x25 x26 x27 x28 x29 x30 x31 x32 x33 x34 x35 x36 x37 x38 x39 x40 x41 x42 x43 x44 x45 x46 x47 x48 x49 x50 x51 x52 x53 x54 x55 x56 x57 x58 x59 x60 x61 x62 x63 x64 x65 x66 x67 x68 x69 x70 x71 x72 x73 x74 x75 x76:Addr}{fd y0 y1 y2 y3 y4 y5 y6 y7 y8 y9 y10 y11 y12 y13 y14 y15 y16 y17 y18 y19 y20 y21 y22 y23 y24 y25 y26 y27 y28 y29 y30 y31 y32 y33 y34 y35 y36 y37 y38 y39 y40 y41 y42 y43 y44 y45 y46 y47 y48 y49 y50 y51 y52 y53 y54 y55 y56 y57 y58 y59 y60 y61 y62 y63 y64 y65 y66 y67 y68 y69 y70 y71 y72 y73 y74 y75 y76:FuncData}{bG:Addr}{eL:Addr}{gB:Addr}{ur:Addr}{yc:Addr}{aG:Addr}(F:iJ K "law" "law" KI f fd)(T:qT mg)(G:UJ mg)(Z:ExcAt K mg C){mP:Addr}{nL:Addr}{qj:Addr}{mQ:Addr}{nM:Addr}{sX:Addr}(bY:qR K mg "NoSheet" mP)(bQ:qR K mg "NoMoment" nL)(mh:qR K mg "OutOfInk" qj)(bZ:qR K mg "TooMany" mQ)(iI:qR K mg "TooHeavy" nM)(xW:qR K mg "InkError" sX)(Zn:PySem.W.exmOne K (.ref nM) (.ref mQ)=some false)(CL:aF K mg "_law_src" sW Mn x0 y0)
  (dR:aF K mg "_law_next" nX Kf x1 y1)
  (jw:aF K mg "_law_whole" ku Ka x2 y2)
  (cG:aF K mg "_law_same" nY F9 x3 y3)
  (iG:aF K mg "plain" lT gJ x4 y4)
  (iN:aF K mg "size" ssize gJ x5 y5)
  (cO:aF K mg "check_places" iy rR x6 y6)
  (jh:aF K mg "pieces" nB rR x7 y7)
  (Hy:aF K mg "addresses" uO gJ x8 y8)
  (yR:aF K mg "first_reaching" m6 ["holes","start"] x9 y9)
  (NO:aF K mg "within" C1 ["holes","address"] OG y10)
  (j3:aI K gB "__init__" "Blots.__init__" iX gy x11 y11)
  (Ec:aI K gB "hides" "Blots.hides" qJ QK x12 y12)
  (bX:aF K mg "windows" dX mF x13 y13)
  (iU:aF K mg "below" kg j4 x14 y14)
  (jF:aF K mg "way_between" iS IQ x15 y15)
  (ID:aF K mg "ring" BN rS x16 y16)
  (gW:aF K mg "item_weight" gQ Ga x17 y17)
  (fX:aF K mg "weights_below" dY j4 x18 y18)
  (wG:aF K mg "weight" vM rS x19 y19)
  (cD:aF K mg "item_row" fy wJ x20 y20)
  (dz:aF K mg "views_below" dU j4 x21 y21)
  (AF:aF K mg "shown" zF rS x22 y22)
  (jy:aF K mg "goes_on" kR Ed x23 y23)
  (cR:aF K mg "plain_items" gR mF x24 y24)
  (iV:aF K mg "inked" qK gJ x25 y25)
  (oK:aF K mg "dealt" qL CO x26 y26)
  (qX:aF K mg "put_among" lU Kc x27 y27)
  (kr:aF K mg "put_items" nZ Kd x28 y28)
  (pI:aF K mg "parted" qM IS x29 y29)
  (mj:aF K mg "cut_items" lV Ke x30 y30)
  (jz:aF K mg "ink_words" jm gJ x31 y31)
  (pK:aF K mg "shown_deed" kB ["deed"] x32 y32)
  (iZ:aF K mg "changed" n5 Gd x33 y33)
  (j0:aI K bG "__init__" "Shelf.__init__" iY gy x34 y34)
  (aX:aI K bG "now" "Shelf.now" dc gy x35 y35)
  (bI:aI K bG "many" "Shelf.many" dZ gy x36 y36)
  (mU:aI K bG "step" "Shelf.step" kC Rh x37 y37)
  (aA:aI K bG "check_sheet" "Shelf.check_sheet" b5 tX x38 y38)
  (aT:aI K bG "check_moment" "Shelf.check_moment" bJ F8 x39 y39)
  (dB:aI K bG "check_then" "Shelf.check_then" cA vA x40 y40)
  (oW:aI K bG "row" "Shelf.row" n6 tX x41 y41)
  (jb:aI K bG "row_then" "Shelf.row_then" dH vA x42 y42)
  (iH:aI K bG "rows_then" "Shelf.rows_then" dN F8 x43 y43)
  (bf:aI K bG "rows" "Shelf.rows" mO gy x44 y44)
  (lF:aI K ur "__init__" "Ties.__init__" jo gy x45 y45)
  (lG:aI K yc "__init__" "Dues.__init__" jq gy x46 y46)
  (lE:aI K eL "__init__" "Well.__init__" jt gy x47 y47)
  (cI:aI K eL "size" "Well.size" ki gy x48 y48)
  (oV:aI K eL "pour" "Well.pour" n8 NR x49 y49)
  (uh:aI K eL "check_address" "Well.check_address" jJ QK x50 y50)
  (Hz:aI K eL "sign" "Well.sign" uP QK x51 y51)
  (mX:aI K eL "holds" "Well.holds" kF CN x52 y52)
  (nJ:aF K mg "check_weave" kT rS x53 y53)
  (ji:aI K aG "__init__" "Library.__init__" gU gy x54 y54)
  (aO:aI K aG "enter" "Library.enter" bV IM x55 y55)
  (aK:aI K aG "change" "Library.change" cj HB x56 y56)
  (fu:aI K aG "many" "Library.many" jO gy x57 y57)
  (cT:aI K aG "now" "Library.now" kU gy x58 y58)
  (dD:aI K aG "begin" "Library.begin" iD QJ x59 y59)
  (cz:aI K aG "fresh" "Library.fresh" iE gy x60 y60)
  (eX:aI K aG "ink" "Library.ink" iT gy x61 y61)
  (cM:aI K aG "check_held" "Library.check_held" dG CN x62 y62)
  (jW:aI K aG "pour" "Library.pour" jP NR x63 y63)
  (iW:aI K aG "put" "Library.put" kW Ml x64 y64)
  (cy:aI K aG "shown" "Library.shown" fO tX x65 y65)
  (qc:aI K aG "size" "Library.size" mz tX x66 y66)
  (lJ:aI K aG "cut" "Library.cut" kX Mm x67 y67)
  (lN:aI K aG "row" "Library.row" nC tX x68 y68)
  (cJ:aI K aG "window" "Library.window" gF IP x69 y69)
  (bH:aI K aG "row_then" "Library.row_then" dh vA x70 y70)
  (jU:aI K aG "fork" "Library.fork" jQ vA x71 y71)
  (jV:aI K aG "back" "Library.back" jR vA x72 y72)
  (ni:aI K aG "weight" "Library.weight" jY tX x73 y73)
  (rB:aF K mg "_law_deed" qN OL x74 y74)
  (yr:aF K mg "_law_ready" pC OM x75 y75)
  (AY:aF K mg "_law_more" qO ON x76 y76) (aQ:ClsAt K mg "Shelf" bG x34) (NP:bh K bG "states") (J3:bh K bG "openings") (iP:ClsAt K mg "Well" eL x47) (Mc:bh K eL "signs") (IK:bh K eL "owners") (CM:bh K eL "pourings") (qb:ClsAt K mg "Blots" gB x11) (IL:bh K gB "stains") (FL:ClsAt K mg "Ties" ur x45) (QE:bh K ur "given") (QF:bh K ur "pairs") (FN:ClsAt K mg "Dues" yc x46) (TV:bh K yc "sums") (aB:ClsAt K mg "Library" aG x54) (TX:bh K aG "well") (QG:bh K aG "shelf") (QH:bh K aG "blots") (QI:bh K aG "knots") (TY:bh K aG "dues") (TZ:bh K aG "book"):aH P w K mg base cK 14 f fd Mn (Ex K):=by
 have J4:aH P w K mg base cK 1 _ _ Mn (KW K):=GX CL.F T
 have iA:aH P w K mg base cK 1 _ _ Kf C2:=yk dR.F T
 have eO:aH P w K mg base cK 4 _ _ F9 (zM 3):=yl T jw cG 3
 have LM:rf K mg aG bG mP nL mQ:=⟨⟨T,⟨_,aQ⟩,NP,J3,bY,bQ⟩,⟨_,aB⟩,TX,QG,QH,QI,TY,TZ,bZ,G⟩
 have X:DR K mg aG bG eL gB mP nL mQ qj C:=⟨LM,⟨_,iP⟩,Mc,IK,CM,⟨_,qb⟩,IL,mh,Z⟩
 have A1:DM K mg bG:=⟨⟨_,_,bI⟩,⟨_,_,aX⟩,⟨_,_,aA⟩,⟨_,_,aT⟩,⟨_,_,iH⟩,⟨_,_,bf⟩,⟨_,_,mU⟩⟩
 have A2:F7 K mg:=⟨⟨_,_,bX⟩,⟨_,_,iU⟩,⟨_,_,gW⟩,⟨_,_,fX⟩,⟨_,_,jF⟩,⟨_,_,ID⟩,⟨_,_,nJ⟩,⟨_,_,iZ⟩,⟨_,_,jz⟩,⟨_,_,pK⟩,⟨_,iI⟩⟩
 have A3:ND K mg aG:=⟨⟨_,_,aO⟩,⟨_,_,aK⟩,⟨_,_,fu⟩,⟨_,_,dD⟩⟩
 have A4:Tr K mg _ _:=⟨⟨_,_,bX⟩,⟨_,_,iU⟩,⟨_,_,cD⟩,⟨_,_,iG⟩,⟨_,_,dz⟩,⟨_,AF⟩,⟨_,iN⟩⟩
 have A5:Q5 K mg eL gB:=⟨⟨_,_,cI⟩,⟨_,_,oV⟩,⟨_,_,uh⟩,⟨_,_,Hz⟩,⟨_,_,mX⟩,⟨_,_,Ec⟩,⟨_,_,yR⟩,⟨_,_,NO⟩,⟨_,_,Hy⟩⟩
 have A6:Q7 K mg:=⟨⟨_,_,bX⟩,⟨_,_,iU⟩,⟨_,_,cD⟩,⟨_,_,iG⟩,⟨_,_,dz⟩,⟨_,_,iN⟩,⟨_,_,cO⟩,⟨_,_,jy⟩,⟨_,_,cR⟩,⟨_,_,oK⟩,⟨_,_,jh⟩,⟨_,_,iV⟩,⟨_,_,qX⟩,⟨_,_,kr⟩⟩
 have lI:aH P w K mg base cK 3 _ _ gy (tV aG bG eL gB):=ug ji.F LM aQ j0 iP lE Mc IK CM qb j3 IL FL lF QE QF FN lG TV
 have vz:aH P w K mg base cK 8 _ _ OL (FT aG bG eL gB):=FU rB.F LM A1 A2 A3 iI xW Zn jU jV dB jb bH
 have FY:aH P w K mg base cK 9 _ _ OM (xX aG bG eL gB):=DZ yr.F X A1 A2 A3 A4 A5 A6 aB ji lI jW cz iW cJ cT lJ aO aK cy eX cM mj pI
 have HA:aH P w K mg base cK 9 _ _ ON (AW aG bG eL gB):=FW AY.F X A1 A2 A3 A6 dR cz cJ aO aK
 have lM:aH P w K mg base cK 2 _ _ gy (Az aG bG):=sN cT.F LM aX
 have pZ:aH P w K mg base cK 2 _ _ gy (wB aG bG):=rH fu.F LM bI
 have wI:aH P w K mg base (iM P w) 4 _ _ tX (DU aG bG mP):=AN lN.F LM A1 oW
 have yS:aH P w K mg base (iM P w) 5 _ _ tX (tW aG bG):=wF ni.F LM A1 A2 wG
 have BB:aH P w K mg base (iM P w) 6 _ _ tX (zl aG bG mP):=yJ qc.F LM A1 A4 cy
 refine F.ok mY (fun vs H Q E h=>?_) (fun cdv A outer s H vs Q E hr h=>?_)
 ·obtain⟨a,ns,rfl,_⟩:=h
  rfl
 obtain⟨a,ns,rfl,hS,h63,k0⟩:=h
 have hu:=qh hr
 refine⟨_,(ao (aY (i:=1) mY.nd rfl (Or.inl rfl) (aS CL J4 hr (af (pv 0) aj)))
   (ao (aY (i:=2) mY.nd rfl (Or.inl rfl) (bw gz aC (aS dR iA hr (af (pv 1) (af aC aj)))))
   (ao (aY (i:=3) mY.nd rfl (Or.inl rfl) (bw gz aC (aS dR iA hr (af (pv 1) (af aC aj)))))
   (ao (aY (i:=4) mY.nd rfl (Or.inl rfl) (bw gz (bw gz (pv 3) aC) (aS dR iA hr (af (pv 1) (af (bw iu aC (pv 3)) aj)))))
   (ao (pU (t':=adI) (cC (bP kQ (aS dR iA hr (af (pv 1) (af aC aj))) aC (bU _))
   (au (aY (i:=4) mY.nd rfl (Or.inl rfl) (bw gz (bw iu (bw zI aC (pv 2)) aC) (aS dR iA hr (af (pv 1) (af aC aj))))))
   bF) ?b4)
   (ao (rX (aS yr FY hr (af (pv 2) (af (pv 3) (af (pv 4) aj)))) (pQ (n:=2) rfl (bR (br (i:=5) mY.nd rfl (Or.inl rfl)) (bR (br (i:=6) mY.nd rfl (Or.inl rfl)) jX))))
   (ao (rX (aS AY HA hr (af (pv 1) (af (pv 5) aj))) (pQ (n:=2) rfl (bR (br (i:=7) mY.nd rfl (Or.inl rfl)) (bR (br (i:=8) mY.nd rfl (Or.inl rfl)) jX))))
   (ao (aY (i:=9) mY.nd rfl (Or.inl rfl) (bS (pv 5) aB.cl cT.mt lM (hr.mono (by decide)) cT.b .nil cZ))
   (ao (aY (i:=10) mY.nd rfl (Or.inl rfl) (pv 7))
   (ao (pU (t':=adJ) (cC (bP kQ (pv 7) aC (bU _))
   (au (aY (i:=10) mY.nd rfl (Or.inl rfl) cN))
   (au (cC (bP HJ (bw pS (pv 2) (bw gz aC (pv 4))) aC (bU _))
   (au (aY (i:=10) mY.nd rfl (Or.inl rfl) cN))
   bF))) ?b9)
   (ao (pU (t':=adL aG bG eL gB) (cC (PW.pt (El (bP HH (pv 6) (bw gz aC (pv 2)) (bU _)) (zx (j7 (kP (aS cG eO hr (af (aS rB vz hr (af (pv 5) (af cN (af (pv 6) aj)))) (af (pv 10) aj))))))))
   (au (aP rW))
   bF) ?b10)
   (ao (aY (i:=11) mY.nd rfl (Or.inl rfl) (qH lQ (bw gz (bw pS (pv 2) (bw gz aC (pv 4))) (pv 8)) aC (bU _)))
   (ao (pU (t':=adK aG bG eL gB) (cC (bP kQ (pv 10) (pv 7) (bU _))
   (ao (cC (j7 (kP (aS cG eO hr (af (bC (pv 5) aB.cl lN.mt wI (hr.mono (by decide)) lN.b .nil qq (af (pv 7) aj)) (af (sE (N:=["_law_k"]) (zS (sc:=az KI) (NX:=["_law_script","_law_src_here","_law_wins","_law_small","_law_great","_law_house","_law_moment","_law_many","_law_third","_law_now","_law_due","_law_fits"]) (jx:=[none]) rfl rfl rfl (by decide +kernel) (by decide +kernel) rfl (by decide +kernel) rfl (by decide +kernel)) rfl (qf rfl T.tL (af (pv 2) aj)) (fun _ _ _ _ _ _=>(br (i:=0) (show List.Nodup (["_law_k"]:List Str) by decide +kernel) rfl (Or.inl rfl))) (fun _ _ _ _ _ _=>nE) (fun _ _ _ _ _ _=>(fF (af cN (af aC aj))))) aj)))))
   (au (aP rW))
   bF)
   (au (cC (PW.pt (El (j7 (kP (aS cG eO hr (af (bC (pv 5) aB.cl ni.mt yS (hr.mono (by decide)) ni.b .nil qq (af (pv 7) aj)) (af (bw pS (pv 2) (bw gz aC (pv 4))) aj))))) (zx (j7 (kP (aS cG eO hr (af (bS (pv 5) aB.cl cT.mt lM (hr.mono (by decide)) cT.b .nil cZ) (af (bw gz (pv 9) aC) aj))))))))
   (au (aP rW))
   bF)))
   (au (cC (PW.pt (El (j7 (kP (aS cG eO hr (af (bS (pv 5) aB.cl fu.mt pZ (hr.mono (by decide)) fu.b .nil cZ) (af (pv 7) aj))))) (zx (j7 (kP (aS cG eO hr (af (bS (pv 5) aB.cl cT.mt lM (hr.mono (by decide)) cT.b .nil cZ) (af (pv 9) aj))))))))
   (au (aP rW))
   bF))) ?b12)
   (ao (aY (i:=10) mY.nd rfl (Or.inl rfl) cN)
   (ao (pU (t':=adN) (cC (mK (pv 11) (fun _=>rfl))
   (au (aY (i:=10) mY.nd rfl (Or.inl rfl) Gh))
   bF) ?b14)
   (ao (pU (t':=adM aG bG eL gB) (cC (j7 (kP (aS cG eO hr (af (aS rB vz hr (af (pv 5) (af cN (af (pv 6) aj)))) (af (pv 10) aj)))))
   (au (aP rW))
   bF) ?b15)
   (ao (cC (PW.pt (zy (j7 (mK (pv 11) (fun _=>rfl))) (zy (bP HJ (bw pS (pv 2) (bw gz aC (pv 4))) aC (bU _)) (yT (bP BF (pv 7) aC (bU _))))))
   (au (aP (uM (aS cG eO hr (af (aS rB vz hr (af (pv 5) (af cN (af (pv 9) aj)))) (af (pv 7) aj))) (wO (aS cG eO hr (af (bC (pv 5) aB.cl lN.mt wI (hr.mono (by decide)) lN.b .nil qq (af (pv 7) aj)) (af (bW aj) aj)))))))
   bF)
   (au (aP (aS cG eO hr (af (bC (pv 5) aB.cl qc.mt BB (hr.mono (by decide)) qc.b .nil qq (af aC aj)) (af (bw pS (bw pS (pv 2) (pv 4)) (iB J2 rfl T.Lq PyProof.Rows.boot_int (af (pv 11) aj))) aj)))))))))))))))))))))),?_⟩
 case b4 =>
  rintro D σ H ⟨a,l,c,wn,m,n,rfl,w2,w6,m1,m9,n1,mn,S,k⟩
  refine⟨_,rfl,l,c,2,rfl,S,by decide,by decide,fun u H1 u0 u1 S1 k1=>⟨rfl,_,rfl,gP (fun _=>?_) (fun _=>k n H1 n1 mn S1)⟩⟩
  have hd:33≤(200:Int) / (wn:Int)∧(200:Int) / (wn:Int)≤100:=by
   rcases (show wn=2∨wn=3∨wn=4∨wn=5∨wn=6 by omega) with rfl|rfl|rfl|rfl|rfl <;> decide
  refine⟨_,rfl,_,_,rfl,rfl,⟨by omega,by omega⟩,_,_,rfl,rfl,_,rfl,l,c,2,rfl,S1,by decide,by decide,fun y H2 y0 y1 S2 k2=>⟨_,_,rfl,rfl,?_⟩⟩
  generalize (200:Int) / (wn:Int)=dv at hd
  rw[show dv-1+y=((m+(dv-1+y-m).toNat:Nat):Int) by omega]
  exact k _ H2 (by omega) (by omega) S2
 case b9 =>
  rintro D σ H ⟨s0,s1,s3,s5,s6,s8,s9,nO,wn,G',k,rfl,w6,G9,Hw,kk⟩
  unfold jC at kk
  refine⟨_,rfl,rfl,_,rfl,?_⟩
  by_cases c:k=37
  ·rw[if_pos c]at kk
   rw[decide_eq_true (show V.int ((3+k:Nat):Int)=.int 40 by rw[c];rfl)]
   exact iR kk
  ·rw[if_neg c]at kk
   rw[decide_eq_false (show ¬ V.int ((3+k:Nat):Int)=.int 40 by intro z;have:=V.int.inj z;omega)]
   refine eU ⟨_,rfl,_,rfl,_,_,rfl,rfl,_,_,rfl,rfl,.inl ⟨by omega,by omega⟩,_,_,rfl,rfl,_,rfl,?_⟩
   have em:((wn:Nat):Int)*(1+((G':Nat):Int))=((wn*(1+G'):Nat):Int):=by rw[Int.natCast_mul,Int.natCast_add];rfl
   by_cases c2:200<wn*(1+G')
   ·rw[if_pos c2]at kk
    rw[decide_eq_true (show ((wn:Nat):Int)*(1+((G':Nat):Int)) > 200 by rw[em];omega)]
    exact iR kk
   ·rw[if_neg c2]at kk
    rw[decide_eq_false (show ¬ ((wn:Nat):Int)*(1+((G':Nat):Int)) > 200 by rw[em];omega)]
    exact eU kk
 case b10 =>
  rintro D σ H ⟨s0,s1,s3,s8,x,wn,k,th,N,g,U,pe,sm,rfl,w2,w6,Hw,t1,gn,gl,B,lp,lp2,p4,kk⟩
  have lk:(oX 0 g th (List.replicate k [])).length=3+k:=by show (List.replicate k ([]:List Int)).length+1+1+1=_;rw[rP];omega
  have em:((wn:Nat):Int)*(1+((g.length:Nat):Int))=((wn*(1+g.length):Nat):Int):=by rw[Int.natCast_mul,Int.natCast_add];rfl
  have o0:=AX (g:=g) (th:=th) (k:=k) gn gl (by omega) (by omega)
  have e1:oX 0 g th (List.replicate k [])++[List.replicate wn (-2)]=oX 0 g th (List.replicate k []++[List.replicate wn (-2)]):=rfl
  have o1:DY 0 g th (List.replicate k []++[List.replicate wn (-2)]):=⟨by decide,by omega,by rw[eT,rP];show k+1≤40;omega,gn,gl,fun es he=>by
   rcases List.mem_append.mp he with z|z
   ·exact⟨0,by decide,(List.mem_replicate.mp z).2⟩
   ·exact⟨wn,w6,List.mem_singleton.mp z⟩⟩
  have cnk:cn (oX 0 g th (List.replicate k []++[List.replicate wn (-2)])) ((3+k:Nat):Int)=wn:=by
   unfold cn
   rw[mG,show 3+k=k+3 by omega]
   show (((List.replicate k []++[List.replicate wn (-2)])[k]?).getD []).length=wn
   rw[A9 (by rw[rP];omega),rP,Nat.sub_self]
   exact rP ..
  have same:jC k wn g.length≠.int ((3+k:Nat):Int)→∀ H',aJ H H'→kM aG bG eL gB U H' x pe (oX 0 g th (vB k wn g.length))∧pe.length=N+1+IJ k wn g.length:=fun ne H' s'=>by
   unfold vB IJ
   rw[if_neg ne,if_neg ne]
   exact⟨B.same s',lp⟩
  refine⟨_,rfl,_,rfl,_,_,rfl,rfl,rfl,_,rfl,?_⟩
  rw[decide_eq_true (show V.int ((4+wn:Nat):Int)=.int (4+((wn:Nat):Int)) by rw[Int.natCast_add];rfl)]
  refine eU ⟨_,rfl,_,rfl,.inl ⟨U,x,pe,_,_,_,4+wn,zG (oX 0 g th (List.replicate k []++[List.replicate wn (-2)])) g,rfl,B,by omega,by omega,by omega,p4,rfl,fun z H' s'=>?_,fun _=>o1.IF.wv,fun z hv H' s'=>?_,fun z lt U' H' B' f'=>?_⟩⟩
  ·have ed:jC k wn g.length=Ma:=by unfold jC;rw[if_pos (by omega)]
   obtain⟨q1,q2⟩:=same (by rw[ed];intro z;cases z) H' s'
   rw[ed]at kk ⊢
   exact⟨_,rfl,_,_,rfl,.inl ⟨rfl,rfl⟩,fun H9 s9=>⟨true,rfl,eU (kk U pe H9 (q1.same s9) q2 p4)⟩⟩
  ·have ed:jC k wn g.length=rA:=by
    unfold jC
    rw[if_neg (by omega)]
    refine if_pos ?_
    obtain⟨y,y0,y1,y2⟩:=hv
    refine Nat.lt_of_not_le fun le=>?_
    have:=o1.CH (by rw[show (((0:Nat):Int))=0 from rfl,Int.zero_mul];decide) (by rw[show (((0:Nat):Int))=0 from rfl,Int.zero_mul,Int.add_zero,Int.mul_one];omega) (fun es he=>by
     rcases List.mem_append.mp he with z|z
     ·rw[(List.mem_replicate.mp z).2]
      show ((0:Nat):Int)*_≤200
      rw[show (((0:Nat):Int))=0 from rfl,Int.zero_mul];decide
     ·rw[List.mem_singleton.mp z,rP,em];omega) y y0 y1
    omega
   obtain⟨q1,q2⟩:=same (by rw[ed];intro z;cases z) H' s'
   rw[ed]at kk ⊢
   exact⟨_,rfl,_,_,rfl,.inl ⟨rfl,rfl⟩,fun H9 s9=>⟨true,rfl,eU (kk U pe H9 (q1.same s9) q2 p4)⟩⟩
  ·have ed:jC k wn g.length=.int ((3+k:Nat):Int):=by
    unfold jC
    rw[if_neg (by omega)]
    refine if_neg fun hv=>?_
    have:=lt ((3+k:Nat):Int) (by omega) (by rw[e1];show _<(((List.replicate k []++[List.replicate wn (-2)]).length+1+1+1:Nat):Int);rw[eT,rP];show _<((k+1+1+1+1:Nat):Int);omega)
    unfold zG at this
    rw[if_neg (by omega),if_neg (by omega),cnk,em]at this
    omega
   have q1:kM aG bG eL gB U' H' x (pe++[oX 0 g th (List.replicate k [])++[List.replicate wn (-2)]]) (oX 0 g th (vB k wn g.length)):=by
    unfold vB
    rw[if_pos ed]
    exact B'
   have q2:(pe++[oX 0 g th (List.replicate k [])++[List.replicate wn (-2)]]).length=N+1+IJ k wn g.length:=by
    unfold IJ
    rw[if_pos ed,eT,lp]
    rfl
   have kk2:=fun H9 s9=>kk U' _ H9 (q1.same s9) q2 (by rw[wK (List.getElem?_eq_some_iff.mp p4).1];exact p4)
   rw[lk]
   rw[ed]at kk2 ⊢
   exact⟨_,rfl,_,_,rfl,Eqv.int _,fun H9 s9=>⟨true,rfl,eU (kk2 H9 s9)⟩⟩
 case b15 =>
  rintro D σ H ⟨s0,s1,s2,s3,s4,s7,s8,s9,x,wn,k,th,g,U,pe,sm,rfl,w2,w6,Hw,t1,gn,gl,B,lp,p4,kk⟩
  have em:((wn:Nat):Int)*(1+((g.length:Nat):Int))=((wn*(1+g.length):Nat):Int):=by rw[Int.natCast_mul,Int.natCast_add];rfl
  have o0:=Eb (k:=k) (w:=wn) (G:=g.length) (th:=th) (a:=0) w6 Hw t1 (by decide) gn gl
  have o:=Eb (k:=k) (w:=wn) (G:=g.length) (th:=th) (a:=wn) w6 Hw t1 w6 gn gl
  have ef:rK wn g.length th=true↔wn*(1+g.length)+th≤200:=by
   unfold rK
   rw[em,decide_eq_true_iff]
   omega
  have li:rK wn g.length th=true→qx (oX wn g th (vB k wn g.length)) (zG (oX wn g th (vB k wn g.length)) g):=fun z=>by
   have z:=ef.mp z
   refine o.CH (by rw[em];omega) ?_ fun es he=>?_
   ·rw[em]
    rcases (show th=0∨th=1 by omega) with rfl|rfl
    ·rw[show (((0:Nat):Int))=0 from rfl,Int.zero_mul];decide
    ·rw[show (((1:Nat):Int))=1 from rfl,Int.one_mul];omega
   ·rcases NN he with rfl|⟨rfl,y⟩
    ·show ((0:Nat):Int)*_≤200
     rw[show (((0:Nat):Int))=0 from rfl,Int.zero_mul];decide
    ·rw[rP,em];omega
  have lr:=o0.IF.len
  have lq:0<(oX 0 g th (vB k wn g.length)).length:=by show 0<_+1;omega
  have l41:(oX 0 g th (vB k wn g.length)).length≤41:=by
   show (vB k wn g.length).length+1+1+1≤41
   unfold vB
   split
   ·rename_i e
    have:k≠37:=fun z=>by unfold jC at e;rw[if_pos z]at e;cases e
    rw[eT,rP];show k+1+1+1+1≤41;omega
   ·rw[rP];omega
  refine⟨_,rfl,_,rfl,.inr ⟨U,x,pe,_,_,_,4+wn,zG (oX wn g th (vB k wn g.length)) g,rfl,B,lq,l41,by omega,p4,rfl,o.IF.wv,fun ⟨y,y0,y1,y2⟩ H' s'=>?_,fun lt U' H' B' f'=>?_⟩⟩
  ·have ff:rK wn g.length th=false:=Bool.eq_false_iff.mpr fun z=>absurd (li z y y0 y1) (by omega)
   rw[ff]at kk ⊢
   exact⟨_,rfl,_,_,rfl,.inl ⟨rfl,rfl⟩,fun H9 s9=>⟨true,rfl,eU (kk U pe H9 ((B.same s').same s9) (fun _=>rfl) (by omega))⟩⟩
  ·have ff:rK wn g.length th=true:=ef.mpr (by
    have a0:=lt 0 (by omega) (by show (0:Int)<((_+1+1+1:Nat):Int);omega)
    have a2:=lt 2 (by omega) (by show (2:Int)<((_+1+1+1:Nat):Int);omega)
    unfold zG at a0 a2
    rw[if_neg (by decide),if_neg (by decide)]at a0
    rw[if_neg (by decide),if_pos rfl]at a2
    rw[AU,em]at a0
    rw[AU,L6,em]at a2
    rcases (show th=0∨th=1 by omega) with rfl|rfl
    ·omega
    ·rw[show (((1:Nat):Int))=1 from rfl,Int.one_mul]at a2;omega)
   rw[ff]at kk ⊢
   exact⟨_,rfl,_,_,rfl,.inl ⟨rfl,rfl⟩,fun H9 s9=>⟨true,rfl,eU (kk U' _ H9 (B'.same s9) (fun z=>by cases z) (by rw[eT];show pe.length+1≤101;omega))⟩⟩
 case b12 =>
  rintro D σ H ⟨s0,s1,s3,s6,s8,nO,x,wn,k,th,N,g,U,pe,rfl,w2,w6,Hw,t1,gn,gl,B,lp,lp2,kk⟩
  have em:((wn:Nat):Int)*(1+((g.length:Nat):Int))=((wn*(1+g.length):Nat):Int):=by rw[Int.natCast_mul,Int.natCast_add];rfl
  have o:=Eb (k:=k) (w:=wn) (G:=g.length) (th:=th) (a:=0) w6 Hw t1 (by decide) gn gl
  refine⟨_,rfl,_,rfl,Hx,_,rfl,?_⟩
  obtain⟨d,_,_,_,_,_,_,hx⟩:=B.hx
  by_cases e:jC k wn g.length=.int ((3+k:Nat):Int)
  ·rw[decide_eq_true e]
   have eq:vB k wn g.length=List.replicate k []++[List.replicate wn (-2)]:=by unfold vB;rw[if_pos e]
   have en:IJ k wn g.length=1:=by unfold IJ;rw[if_pos e]
   rw[eq]at B o
   have hk:(oX 0 g th (List.replicate k []++[List.replicate wn (-2)]))[3+k]?=some (List.replicate wn (-2)):=by
    rw[show 3+k=k+3 by omega]
    show (List.replicate k []++[List.replicate wn (-2)])[k]?=_
    rw[A9 (by rw[rP];omega),rP,Nat.sub_self]
    rfl
   have hl:=(List.getElem?_eq_some_iff.mp hk).1
   refine iR ⟨_,rfl,x,d,_,rfl,hx,rfl,_,rfl,B.row o.IF.len (by omega) hk fun q H1 hq s1=>?_⟩
   rw[CK]at hq
   refine⟨_,rfl,_,rfl,by omega,by omega,fun acc hacc=>EZ (lo:=0) (k:=((wn:Nat):Int).toNat) (fun i σ H2=>∃ (u:Option V) (vs:List V),σ=[u]∧H2 acc=some (.lst vs)∧cu (cB H2) vs (List.replicate i (.win 1))∧aJ H1 H2) ⟨none,[],rfl,ah,.nil,ak hacc _⟩ ?_ ?_⟩
   ·rintro i σ H5 hi ⟨u,vs,rfl,h5,t5,s5⟩
    unfold vH Jl
    refine iR ⟨(by show 2≤sizeLine;decide),fun p hp=>⟨vs,ak hp _ _ _ h5,aV (by have:=t5.len;rw[rP]at this;omega),_,vs++[.ref p],rfl,ah,?_,dM hacc (s5.trans (ak hp _)) (aN acc _ _)⟩⟩
    have npa:p≠acc:=(ay h5 hp).symm
    rw[List.replicate_succ']
    refine cu.snoc (t5.mono fun _ _ h=>(h.same (ak hp _)).keep (ak hp _ _ _ h5) (aN acc _ _)) ⟨p,rfl,?_⟩
    rw[aM npa,ah]
    rfl
   rintro σ H5 ⟨u,vs,rfl,h5,t5,s5⟩
   rw[mG]at t5
   refine⟨_,_,rfl,aW.eqv 0 (hq.same s5) ⟨acc,vs,rfl,h5,t5⟩,fun H6 s6=>⟨true,rfl,eU ?_⟩⟩
   have OE:=s1.trans (s5.trans s6)
   have B6:=B.same OE
   obtain⟨d6,_,_,_,_,_,_,hx6⟩:=B6.hx
   refine⟨_,rfl,x,d6,_,rfl,hx6,rfl,_,rfl,B6.weight o.IF (by omega) hl fun H7 s7=>⟨_,rfl,_,rfl,_,_,rfl,rfl,_,_,rfl,rfl,.inl ⟨by omega,by omega⟩,_,_,rfl,?_,fun H8 s8=>⟨true,rfl,eU ?_⟩⟩⟩
   ·have ew:zG (oX 0 g th (List.replicate k []++[List.replicate wn (-2)])) g ((3+k:Nat):Int)=((wn:Nat):Int)*(1+((g.length:Nat):Int)):=by
     unfold zG
     rw[if_neg (by omega),if_neg (by omega)]
     unfold cn
     rw[mG,hk]
     show (((List.replicate wn (-2:Int)).length:Nat):Int)*_=_
     rw[rP]
    rw[ew]
    exact Eqv.int _
   have s18:=OE.trans (s7.trans s8)
   have B8:=B.same s18
   obtain⟨d8,_,_,_,_,_,_,hx8⟩:=B8.hx
   refine⟨_,rfl,x,d8,_,rfl,hx8,rfl,B8.now ?_⟩
   rw[lp,en,show (((N+1+1:Nat):Int))-1=((N:Nat):Int)+1 by omega]
   exact⟨_,rfl,_,_,rfl,rfl,_,_,rfl,Eqv.int _,fun H9 s9=>⟨true,rfl,eU (kk H9 (s18.trans s9))⟩⟩
  ·rw[decide_eq_false e]
   have eq:vB k wn g.length=List.replicate k []:=by unfold vB;rw[if_neg e]
   have en:IJ k wn g.length=0:=by unfold IJ;rw[if_neg e]
   rw[eq]at B o
   have lk:(oX 0 g th (List.replicate k [])).length=3+k:=by show (List.replicate k ([]:List Int)).length+1+1+1=_;rw[rP];omega
   refine eU ⟨_,rfl,x,d,_,rfl,hx,rfl,B.many ?_⟩
   rw[lk]
   refine⟨_,rfl,_,_,rfl,Eqv.int _,fun H1 s1=>⟨true,rfl,eU ?_⟩⟩
   have B1:=B.same s1
   obtain⟨d1,_,_,_,_,_,_,hx1⟩:=B1.hx
   refine⟨_,rfl,x,d1,_,rfl,hx1,rfl,B1.now ?_⟩
   rw[lp,en,show (((N+1+0:Nat):Int))-1=((N:Nat):Int) by omega]
   exact⟨_,rfl,_,_,rfl,Eqv.int _,fun H2 s2=>⟨true,rfl,eU (kk H2 (s1.trans s2))⟩⟩
 case b14 =>
  rintro D σ H ⟨s0,s1,s2,s3,s4,s5,s6,s7,s8,s9,b,rfl,kk⟩
  cases b with
  | true=>exact⟨_,rfl,true,rfl,iR kk⟩
  | false=>exact⟨_,rfl,false,rfl,eU kk⟩
 refine⟨_,rfl,a,ns,rfl,hS,fun l c H1 S1 s1 _ _=>?_⟩
 refine⟨_,rfl,l,c,5,rfl,S1,by decide,by decide,fun v H2 v0 v1 S2 k2=>⟨_,_,rfl,rfl,?_⟩⟩
 obtain⟨wn,hw,w2,w6⟩:∃ w:Nat,2+v=((w:Nat):Int)∧2≤w∧w≤6:=⟨(2+v).toNat,by omega,by omega,by omega⟩
 rw[hw]
 refine⟨_,rfl,l,c,9,rfl,S2,by decide,by decide,fun v H3 v0 v1 S3 k3=>⟨_,_,rfl,rfl,?_⟩⟩
 obtain⟨m,hm,m1,m9⟩:∃ m:Nat,1+v=((m:Nat):Int)∧1≤m∧m≤9:=⟨(1+v).toNat,by omega,by omega,by omega⟩
 rw[hm]
 refine⟨_,rfl,_,_,rfl,rfl,_,rfl,_,rfl,_,_,rfl,rfl,l,c,_,rfl,S3,by omega,by omega,fun v H4 v0 v1 S4 k4=>⟨_,_,rfl,rfl,?_⟩⟩
 rw[show ((m:Nat):Int)+9+v=((m+(9+v.toNat):Nat):Int) by omega]
 refine⟨a,l,c,wn,m,_,rfl,w2,w6,m1,m9,by omega,by omega,S4,fun n H5 n1 mn S5=>?_⟩
 refine⟨_,rfl,_,rfl,_,rfl,wn,m,n,rfl,w2,w6,m1,m9,n1,mn,fun t x U pe H6 ht B6 l6 p6 u6 s6=>⟨t,_,rfl,jL.of ht,rfl,_,_,rfl,_,_,rfl,rfl,?_⟩⟩
 obtain⟨⟨o1,hl5⟩,⟨o2,hc5⟩⟩:=S5.has
 have nl:¬ U l:=fun z=>by rw[u6 l z]at hl5;cases hl5
 have nc:¬ U c:=fun z=>by rw[u6 c z]at hc5;cases hc5
 obtain⟨g,hg⟩:∃ g,NL m n=g:=⟨_,rfl⟩
 have gn:∀ e∈g,0≤e:=by rw[← hg];exact fun e he=>(List.mem_append.mp he).elim (AV m e) (AV n e)
 have gG:m+n=g.length:=by rw[← hg,eT,jZ,jZ]
 rw[hg]at B6
 rw[gG]
 have gl:g.length≤199:=by omega
 refine⟨_,rfl,_,rfl,U,l,c,x,pe,g,rfl,S5.same s6,B6,by omega,gn,gl,nl,nc,fun t2 k th U7 q H7 Hw t1 Ij B7 lq=>⟨t2,_,rfl,jL.of Ij,rfl,_,_,rfl,_,_,rfl,rfl,?_⟩⟩
 obtain⟨d7,_,_,_,_,_,_,hx7⟩:=B7.hx
 refine⟨_,rfl,x,d7,_,rfl,hx7,rfl,B7.now ?_⟩
 obtain⟨N,hN⟩:∃ N,(pe++q).length=N+1:=⟨(pe++q).length-1,by rw[eT];omega⟩
 have hN2:N≤80:=by rw[eT]at hN;omega
 rw[hN,show (((N+1:Nat):Int))-1=((N:Nat):Int) by omega]
 refine⟨_,rfl,?_⟩
 refine⟨_,_,_,_,_,_,_,_,wn,g.length,k,rfl,w6,gl,Hw,?_⟩
 refine⟨_,_,_,_,x,wn,k,th,N,g,U7,pe++q,_,rfl,w2,w6,Hw,t1,gn,gl,B7,hN,by omega,by rw[wK (by omega)];exact p6,fun U8 pe8 H8 B8 l8 p8=>?_⟩
 refine⟨_,rfl,_,rfl,_,_,rfl,rfl,_,_,rfl,rfl,.inl ⟨by omega,by omega⟩,_,rfl,_,_,rfl,rfl,_,_,rfl,rfl,?_⟩
 refine⟨_,_,_,_,_,_,x,wn,k,th,N,g,U8,pe8,rfl,w2,w6,Hw,t1,gn,gl,B8,l8,?_,fun H9 s9=>?_⟩
 ·unfold IJ at l8
  split at l8 <;> omega
 have l8':pe8.length≤100:=by
  unfold IJ at l8
  split at l8 <;> omega
 refine⟨_,_,_,_,_,_,_,_,_,_,_,rfl,?_⟩
 refine⟨_,_,_,_,_,_,_,_,x,wn,k,th,g,U8,pe8,_,rfl,w2,w6,Hw,t1,gn,gl,B8.same s9,l8',p8,fun QB NQ Bg xR UN l10=>?_⟩
 have ok:=fun a' (a6:a'≤6)=>Eb (k:=k) (w:=wn) (G:=g.length) (th:=th) (a:=a') w6 Hw t1 a6 gn gl
 have em:((wn:Nat):Int)*(1+((g.length:Nat):Int))=((wn*(1+g.length):Nat):Int):=by rw[Int.natCast_mul,Int.natCast_add];rfl
 cases fb:rK wn g.length th with
 | true =>
  rw[fb]at xR
  obtain⟨d,_,_,_,_,_,_,hx⟩:=xR.hx
  refine⟨_,rfl,true,rfl,eU (eU ⟨_,rfl,x,d,_,rfl,hx,rfl,xR.size (ok wn w6) (by omega) fun EK nO=>⟨_,rfl,_,rfl,_,_,rfl,rfl,.inl ⟨by omega,by omega⟩,_,rfl,true,rfl,_,_,rfl,rfl,.inr ⟨by decide,by decide⟩,_,_,rfl,?_,fun Ib s12=>k0 Ib⟩⟩)⟩
  rw[show ((wn:Nat):Int)*((g.length:Nat):Int)*(if true=true then 1 else 0)=((wn*g.length:Nat):Int) by rw[if_pos rfl,Int.mul_one,Int.natCast_mul]]
  exact Eqv.int _
 | false =>
  rw[fb]at xR UN
  have UN:=UN rfl
  subst UN
  have xR:kM aG bG eL gB QB Bg x NQ (oX 0 g th (vB k wn g.length)):=xR
  obtain⟨d,_,_,_,_,_,_,hx⟩:=xR.hx
  have e0:((wn:Nat):Int)*((g.length:Nat):Int)*(if false=true then 1 else 0)=((0*g.length:Nat):Int):=by rw[if_neg (by decide),Int.mul_zero,Nat.zero_mul];rfl
  refine⟨_,rfl,false,rfl,iR ⟨_,rfl,_,rfl,_,_,rfl,rfl,_,_,rfl,rfl,.inl ⟨by omega,by omega⟩,_,_,rfl,rfl,_,rfl,?_⟩⟩
  by_cases hv:200<wn*(1+g.length)
  ·rw[decide_eq_true (show (200:Int)<((wn:Nat):Int)*(1+((g.length:Nat):Int)) by rw[em];omega)]
   refine iR ⟨_,rfl,_,_,rfl,rfl,_,rfl,?_⟩
   by_cases ck:k=37
   ·rw[decide_eq_false (show ¬ ((3+k:Nat):Int)<40 by omega)]
    exact eU ⟨_,rfl,x,d,_,rfl,hx,rfl,xR.size (ok 0 (by decide)) (by omega) fun EK nO=>⟨_,rfl,_,rfl,_,_,rfl,rfl,.inl ⟨by omega,by omega⟩,_,rfl,false,rfl,_,_,rfl,rfl,.inr ⟨by decide,by decide⟩,_,_,rfl,by rw[e0];exact Eqv.int _,fun Ib s12=>k0 Ib⟩⟩
   ·rw[decide_eq_true (show ((3+k:Nat):Int)<40 by omega)]
    have ed:jC k wn g.length=rA:=by unfold jC;rw[if_neg ck,if_pos hv]
    have nd:¬ jC k wn g.length=.int ((3+k:Nat):Int):=by rw[ed];intro z;cases z
    have eq:vB k wn g.length=List.replicate k []:=by unfold vB;rw[if_neg nd]
    have en:IJ k wn g.length=0:=by unfold IJ;rw[if_neg nd]
    rw[eq]at xR
    have lk:(oX 0 g th (List.replicate k [])).length=3+k:=by show (List.replicate k ([]:List Int)).length+1+1+1=_;rw[rP];omega
    have pN:NQ[N]?=some (oX 0 g th (List.replicate k [])):=by
     obtain⟨_,_,_,hl,_,_⟩:=id xR
     rw[List.getLast?_eq_getElem?,l8,en]at hl
     exact hl
    have o1:=AX (g:=g) (th:=th) (k:=k+1) gn gl (by omega) (by omega)
    have e1:oX 0 g th (List.replicate k [])++[[]]=oX 0 g th (List.replicate (k+1) []):=by rw[List.replicate_succ'];rfl
    refine iR ⟨_,rfl,_,rfl,.inl ⟨QB,x,NQ,_,_,[],N,zG (oX 0 g th (List.replicate (k+1) [])) g,rfl,xR,by omega,by omega,by omega,pN,rfl,fun z=>absurd z (by omega),fun _=>by rw[e1];exact o1.IF.wv,fun _ ⟨y,y0,y1,y2⟩=>?_,fun _ _ TU EK QC Vv=>?_⟩⟩
    ·rw[e1]at y1
     exact absurd (xY o1 y y0 y1) (by omega)
    ·rw[lk]
     rw[e1]at QC
     refine⟨_,rfl,_,_,rfl,Eqv.int _,fun Ib s12=>?_⟩
     have Q9:=QC.same s12
     obtain⟨d12,_,_,_,_,_,_,adP⟩:=Q9.hx
     have he:(oX 0 g th (List.replicate (k+1) []))[3+k]?=some []:=by
      rw[show 3+k=k+3 by omega]
      show (List.replicate (k+1) ([]:List Int))[k]?=_
      rw[List.getElem?_replicate,if_pos (by omega)]
     exact⟨true,rfl,iR ⟨_,rfl,x,d12,_,rfl,adP,rfl,_,rfl,Q9.row o1.IF.len (by rw[eT];show NQ.length+1≤800;omega) he fun q H13 hq Dc=>⟨(by show 0≤sizeLine;decide),fun t ht=>⟨_,_,rfl,aW.eqv 0 (hq.same (ak ht _)) ⟨t,[],rfl,ah,.nil⟩,fun H14 Qq=>k0 H14⟩⟩⟩⟩
  ·rw[decide_eq_false (show ¬ (200:Int)<((wn:Nat):Int)*(1+((g.length:Nat):Int)) by rw[em];omega)]
   exact eU (eU ⟨_,rfl,x,d,_,rfl,hx,rfl,xR.size (ok 0 (by decide)) (by omega) fun EK nO=>⟨_,rfl,_,rfl,_,_,rfl,rfl,.inl ⟨by omega,by omega⟩,_,rfl,false,rfl,_,_,rfl,rfl,.inr ⟨by decide,by decide⟩,_,_,rfl,by rw[e0];exact Eqv.int _,fun Ib s12=>k0 Ib⟩⟩)
end
end jk
namespace jk
open PySem L2 cX gu zU M4
set_option maxHeartbeats 4000000 in
theorem all_mk:N6:=by
 intro l w K h mg fa f0 f1 f2 f3 f4 f5 f6 f7 f8 f9 N7 Vv Vw f13 Uh f15 f16 f17 f18 Vx f20 f21 Vy f23 f24 f25 f26 f27 f28 f29 f30 f31 f32 f33 f34 f35 f36 f37 f38 f39 f40 f41 f42 f43 f44 f45 f46 f47 f48 f49 f50 f51 f52 f53 f54 f55 f56 f57 f58 f59 f60 f61 f62 f63 f64 zG f66 f67 f68 f69 f70 f71 f72 f73 f74 f75 f76 f77 bG eL gB ur yc aG C0 mP nL qj mQ nM sX uu uv Ey X G hfa HU uw rC KJ yd vN sf HV ux KL ye yf KN zH BO uy sj sr su uz uA q0 q1 q2 q3 q4 q5 q6 q7 q8 q9 yy q11 q12 q13 q14 q15 q16 q17 q18 q19 q20 q21 q22 q23 q24 q25 q26 q27 q28 q29 q30 q31 q32 q33 q34 q35 q36 q37 q38 q39 q40 q41 q42 q43 q44 q45 q46 q47 q48 q49 q50 q51 q52 q53 q54 q55 q56 q57 q58 q59 q60 q61 q62 q63 q64 vB q66 q67 q68 q69 q70 q71 q72 q73 q74 q75 q76 q77 z0 z1 z2 z3 z4 z5 z6 z7 z8 z9 z10 z11 z12 e0 Ez BP BQ EA BR BS uB uC EB vO uD sC xn0
 obtain⟨al,ll,cl,kl⟩:=q77
 have e:=hfa.symm.trans (PySem.W.mg_of X G al)
 cases e
 have F:=GA (st:=KI) ll cl kl
 obtain⟨_,D0⟩:=q0.d (ps:=["_law_script"]) X G (fun _ _ _ _ _ _=>za fun _=>rfl)
 obtain⟨_,D1⟩:=q1.d (ps:=["_law_src_here","_law_base"]) X G (fun _ _ _ _ _ _=>vC fun _ _=>rfl)
 obtain⟨_,D2⟩:=q2.d (ps:=["_law_found"]) X G (fun _ _ _ _ _ _=>za fun _=>rfl)
 obtain⟨_,D3⟩:=q3.d (ps:=["_law_found","_law_due"]) X G (fun _ _ _ _ _ _=>vC fun _ _=>rfl)
 obtain⟨_,D4⟩:=q4.d (ps:=["row"]) X G (fun _ _ _ _ _ _=>za fun _=>rfl)
 obtain⟨_,D5⟩:=q5.d (ps:=["row"]) X G (fun _ _ _ _ _ _=>za fun _=>rfl)
 obtain⟨_,D6⟩:=q6.d (ps:=["row","start","stop"]) X G (fun _ _ _ _ _ _=>GS fun _ _ _=>rfl)
 obtain⟨_,D7⟩:=q7.d (ps:=["row","start","stop"]) X G (fun _ _ _ _ _ _=>GS fun _ _ _=>rfl)
 obtain⟨_,D8⟩:=q8.d (ps:=["row"]) X G (fun _ _ _ _ _ _=>za fun _=>rfl)
 obtain⟨_,D9⟩:=q9.d (ps:=["holes","start"]) X G (fun _ _ _ _ _ _=>vC fun _ _=>rfl)
 obtain⟨_,D10⟩:=yy.d (ps:=["holes","address"]) X G (fun _ _ _ _ _ _=>vC fun _ _=>rfl)
 obtain⟨_,D11⟩:=q11.d (ps:=["self"]) (fun _ _ _ _ _ _=>za fun _=>rfl)
 obtain⟨_,D12⟩:=q12.d (ps:=["self","address"]) (fun _ _ _ _ _ _=>vC fun _ _=>rfl)
 obtain⟨_,D13⟩:=q13.d (ps:=["items"]) X G (fun _ _ _ _ _ _=>za fun _=>rfl)
 obtain⟨_,D14⟩:=q14.d (ps:=["rows","sheets"]) X G (fun _ _ _ _ _ _=>vC fun _ _=>rfl)
 obtain⟨_,D15⟩:=q15.d (ps:=["rows","start","goal"]) X G (fun _ _ _ _ _ _=>GS fun _ _ _=>rfl)
 obtain⟨_,D16⟩:=q16.d (ps:=["rows","sheet"]) X G (fun _ _ _ _ _ _=>vC fun _ _=>rfl)
 obtain⟨_,D17⟩:=q17.d (ps:=["item","weights"]) X G (fun _ _ _ _ _ _=>vC fun _ _=>rfl)
 obtain⟨_,D18⟩:=q18.d (ps:=["rows","sheets"]) X G (fun _ _ _ _ _ _=>vC fun _ _=>rfl)
 obtain⟨_,D19⟩:=q19.d (ps:=["rows","sheet"]) X G (fun _ _ _ _ _ _=>vC fun _ _=>rfl)
 obtain⟨_,D20⟩:=q20.d (ps:=["item","views"]) X G (fun _ _ _ _ _ _=>vC fun _ _=>rfl)
 obtain⟨_,D21⟩:=q21.d (ps:=["rows","sheets"]) X G (fun _ _ _ _ _ _=>vC fun _ _=>rfl)
 obtain⟨_,D22⟩:=q22.d (ps:=["rows","sheet"]) X G (fun _ _ _ _ _ _=>vC fun _ _=>rfl)
 obtain⟨_,D23⟩:=q23.d (ps:=["one","other"]) X G (fun _ _ _ _ _ _=>vC fun _ _=>rfl)
 obtain⟨_,D24⟩:=q24.d (ps:=["items"]) X G (fun _ _ _ _ _ _=>za fun _=>rfl)
 obtain⟨_,D25⟩:=q25.d (ps:=["row"]) X G (fun _ _ _ _ _ _=>za fun _=>rfl)
 obtain⟨_,D26⟩:=q26.d (ps:=["items","views"]) X G (fun _ _ _ _ _ _=>vC fun _ _=>rfl)
 obtain⟨_,D27⟩:=q27.d (ps:=["items","views","place","others"]) X G (fun _ _ _ _ _ _=>Og fun _ _ _ _=>rfl)
 obtain⟨_,D28⟩:=q28.d (ps:=["rows","sheet","place","items"]) X G (fun _ _ _ _ _ _=>Og fun _ _ _ _=>rfl)
 obtain⟨_,D29⟩:=q29.d (ps:=["items","views","start","stop"]) X G (fun _ _ _ _ _ _=>Og fun _ _ _ _=>rfl)
 obtain⟨_,D30⟩:=q30.d (ps:=["rows","sheet","start","stop"]) X G (fun _ _ _ _ _ _=>Og fun _ _ _ _=>rfl)
 obtain⟨_,D31⟩:=q31.d (ps:=["row"]) X G (fun _ _ _ _ _ _=>za fun _=>rfl)
 obtain⟨_,D32⟩:=q32.d (ps:=["deed"]) X G (fun _ _ _ _ _ _=>za fun _=>rfl)
 obtain⟨_,D33⟩:=q33.d (ps:=["state","sheet","items"]) X G (fun _ _ _ _ _ _=>GS fun _ _ _=>rfl)
 obtain⟨_,D34⟩:=q34.d (ps:=["self"]) (fun _ _ _ _ _ _=>za fun _=>rfl)
 obtain⟨_,D35⟩:=q35.d (ps:=["self"]) (fun _ _ _ _ _ _=>za fun _=>rfl)
 obtain⟨_,D36⟩:=q36.d (ps:=["self"]) (fun _ _ _ _ _ _=>za fun _=>rfl)
 obtain⟨_,D37⟩:=q37.d (ps:=["self","changes"]) (fun _ _ _ _ _ _=>vC fun _ _=>rfl)
 obtain⟨_,D38⟩:=q38.d (ps:=["self","sheet"]) (fun _ _ _ _ _ _=>vC fun _ _=>rfl)
 obtain⟨_,D39⟩:=q39.d (ps:=["self","moment"]) (fun _ _ _ _ _ _=>vC fun _ _=>rfl)
 obtain⟨_,D40⟩:=q40.d (ps:=["self","sheet","moment"]) (fun _ _ _ _ _ _=>GS fun _ _ _=>rfl)
 obtain⟨_,D41⟩:=q41.d (ps:=["self","sheet"]) (fun _ _ _ _ _ _=>vC fun _ _=>rfl)
 obtain⟨_,D42⟩:=q42.d (ps:=["self","sheet","moment"]) (fun _ _ _ _ _ _=>GS fun _ _ _=>rfl)
 obtain⟨_,D43⟩:=q43.d (ps:=["self","moment"]) (fun _ _ _ _ _ _=>vC fun _ _=>rfl)
 obtain⟨_,D44⟩:=q44.d (ps:=["self"]) (fun _ _ _ _ _ _=>za fun _=>rfl)
 obtain⟨_,D45⟩:=q45.d (ps:=["self"]) (fun _ _ _ _ _ _=>za fun _=>rfl)
 obtain⟨_,D46⟩:=q46.d (ps:=["self"]) (fun _ _ _ _ _ _=>za fun _=>rfl)
 obtain⟨_,D47⟩:=q47.d (ps:=["self"]) (fun _ _ _ _ _ _=>za fun _=>rfl)
 obtain⟨_,D48⟩:=q48.d (ps:=["self"]) (fun _ _ _ _ _ _=>za fun _=>rfl)
 obtain⟨_,D49⟩:=q49.d (ps:=["self","hand","text"]) (fun _ _ _ _ _ _=>GS fun _ _ _=>rfl)
 obtain⟨_,D50⟩:=q50.d (ps:=["self","address"]) (fun _ _ _ _ _ _=>vC fun _ _=>rfl)
 obtain⟨_,D51⟩:=q51.d (ps:=["self","address"]) (fun _ _ _ _ _ _=>vC fun _ _=>rfl)
 obtain⟨_,D52⟩:=q52.d (ps:=["self","row"]) (fun _ _ _ _ _ _=>vC fun _ _=>rfl)
 obtain⟨_,D53⟩:=q53.d (ps:=["rows","sheet"]) X G (fun _ _ _ _ _ _=>vC fun _ _=>rfl)
 obtain⟨_,D54⟩:=q54.d (ps:=["self"]) (fun _ _ _ _ _ _=>za fun _=>rfl)
 obtain⟨_,D55⟩:=q55.d (ps:=["self","deed","changes"]) (fun _ _ _ _ _ _=>GS fun _ _ _=>rfl)
 obtain⟨_,D56⟩:=q56.d (ps:=["self","deed","sheet","items"]) (fun _ _ _ _ _ _=>Og fun _ _ _ _=>rfl)
 obtain⟨_,D57⟩:=q57.d (ps:=["self"]) (fun _ _ _ _ _ _=>za fun _=>rfl)
 obtain⟨_,D58⟩:=q58.d (ps:=["self"]) (fun _ _ _ _ _ _=>za fun _=>rfl)
 obtain⟨_,D59⟩:=q59.d (ps:=["self","deed","items"]) (fun _ _ _ _ _ _=>GS fun _ _ _=>rfl)
 obtain⟨_,D60⟩:=q60.d (ps:=["self"]) (fun _ _ _ _ _ _=>za fun _=>rfl)
 obtain⟨_,D61⟩:=q61.d (ps:=["self"]) (fun _ _ _ _ _ _=>za fun _=>rfl)
 obtain⟨_,D62⟩:=q62.d (ps:=["self","row"]) (fun _ _ _ _ _ _=>vC fun _ _=>rfl)
 obtain⟨_,D63⟩:=q63.d (ps:=["self","hand","text"]) (fun _ _ _ _ _ _=>GS fun _ _ _=>rfl)
 obtain⟨_,D64⟩:=q64.d (ps:=["self","sheet","place","row"]) (fun _ _ _ _ _ _=>Og fun _ _ _ _=>rfl)
 obtain⟨_,D65⟩:=vB.d (ps:=["self","sheet"]) (fun _ _ _ _ _ _=>vC fun _ _=>rfl)
 obtain⟨_,D66⟩:=q66.d (ps:=["self","sheet"]) (fun _ _ _ _ _ _=>vC fun _ _=>rfl)
 obtain⟨_,D67⟩:=q67.d (ps:=["self","sheet","start","stop"]) (fun _ _ _ _ _ _=>Og fun _ _ _ _=>rfl)
 obtain⟨_,D68⟩:=q68.d (ps:=["self","sheet"]) (fun _ _ _ _ _ _=>vC fun _ _=>rfl)
 obtain⟨_,D69⟩:=q69.d (ps:=["self","target","place","source"]) (fun _ _ _ _ _ _=>Og fun _ _ _ _=>rfl)
 obtain⟨_,D70⟩:=q70.d (ps:=["self","sheet","moment"]) (fun _ _ _ _ _ _=>GS fun _ _ _=>rfl)
 obtain⟨_,D71⟩:=q71.d (ps:=["self","sheet","moment"]) (fun _ _ _ _ _ _=>GS fun _ _ _=>rfl)
 obtain⟨_,D72⟩:=q72.d (ps:=["self","sheet","moment"]) (fun _ _ _ _ _ _=>GS fun _ _ _=>rfl)
 obtain⟨_,D73⟩:=q73.d (ps:=["self","sheet"]) (fun _ _ _ _ _ _=>vC fun _ _=>rfl)
 obtain⟨_,D74⟩:=q74.d (ps:=["_law_house","_law_name","_law_moment"]) X G (fun _ _ _ _ _ _=>GS fun _ _ _=>rfl)
 obtain⟨_,D75⟩:=q75.d (ps:=["_law_wins","_law_small","_law_great"]) X G (fun _ _ _ _ _ _=>GS fun _ _ _=>rfl)
 obtain⟨_,D76⟩:=q76.d (ps:=["_law_src_here","_law_house"]) X G (fun _ _ _ _ _ _=>vC fun _ _=>rfl)
 have T:qT mg:=⟨PySem.W.mg_none_of X G z0,PySem.W.mg_none_of X G z1,PySem.W.mg_none_of X G z2,PySem.W.mg_none_of X G z3,PySem.W.mg_none_of X G z4,PySem.W.mg_none_of X G z5,PySem.W.mg_none_of X G z6,PySem.W.mg_none_of X G z7,PySem.W.mg_none_of X G z8,PySem.W.mg_none_of X G z9,PySem.W.mg_none_of X G z10,PySem.W.mg_none_of X G z11,PySem.W.mg_none_of X G z12,fun f e=>(D5.m).symm.trans e ▸ PySem.W.mg_of X G vO,fun f e=>(D22.m).symm.trans e ▸ PySem.W.mg_of X G uD,fun f e=>(D19.m).symm.trans e ▸ PySem.W.mg_of X G sC⟩
 have Gb:UJ mg:=⟨⟨_,PySem.W.mg_of X G uB⟩,⟨_,PySem.W.mg_of X G uC⟩,⟨_,PySem.W.mg_of X G EB⟩⟩
 obtain⟨ea,eb,ec⟩:=e0
 have Z:ExcAt K mg C0:=⟨PySem.W.mg_of X G ea,eb,ec⟩
 exact⟨_,fun s v=>.of_eq rfl,fun base _ _=>QD F T Gb Z (Ez.d X G) (BP.d X G) (BQ.d X G) (EA.d X G) (BR.d X G) (BS.d X G) xn0 D0 D1 D2 D3 D4 D5 D6 D7 D8 D9 D10 D11 D12 D13 D14 D15 D16 D17 D18 D19 D20 D21 D22 D23 D24 D25 D26 D27 D28 D29 D30 D31 D32 D33 D34 D35 D36 D37 D38 D39 D40 D41 D42 D43 D44 D45 D46 D47 D48 D49 D50 D51 D52 D53 D54 D55 D56 D57 D58 D59 D60 D61 D62 D63 D64 D65 D66 D67 D68 D69 D70 D71 D72 D73 D74 D75 D76 (HU.d X G D34.mt) uw rC (KJ.d X G D47.mt) yd vN sf (HV.d X G D11.mt) ux (KL.d X G D45.mt) ye yf (KN.d X G D46.mt) zH (BO.d X G D54.mt) uy sj sr su uz uA⟩
end jk
theorem PySem.Challenge.cw_inkroot_k65_heavy_forks_at_forty_holds : PySem.Challenge.rw_inkroot_k65_heavy_forks_at_forty.Holds :=
 InkHd.hd2 jk.all_mk
