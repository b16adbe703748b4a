import PyProof.Rows.All
import Wide.All
import OpenK.AllK
import Wide.FinOn
import Lean
import PyProof.EqAt
import PyProof.EqKinds
import PyProof.TupleCall
import PySem.Challenge.RW_inkroot_k34_put_and_read
set_option Elab.async false
set_option linter.all false
set_option maxRecDepth 100000
abbrev mK:=List (List (List Int))
abbrev eY:=List (List Int)
abbrev mh:=List (List Nat)
abbrev jW:=List (Int × Nat)
abbrev gZ:List PySem.Str:=["self"]
abbrev J3:List PySem.Str:=["self","moment"]
abbrev Iq:List PySem.Str:=["self","address"]
abbrev Q8:List PySem.Str:=["self","changes"]
abbrev Am:List PySem.Str:=["self","sheet"]
abbrev Me:List PySem.Str:=["self","deed","changes"]
abbrev QD:List PySem.Str:=["self","deed","sheet","items"]
abbrev T3:List PySem.Str:=["self","deed","items"]
abbrev Mq:List PySem.Str:=["self","hand","text"]
abbrev NV:List PySem.Str:=["self","row"]
abbrev J4:List PySem.Str:=["self","row","veil"]
abbrev OI:List PySem.Str:=["self","sheet","place","row"]
abbrev BS:List PySem.Str:=["_law_found"]
abbrev vj:List PySem.Str:=["_law_found","_law_due"]
abbrev iu:List PySem.Str:=["row"]
abbrev Ir:List PySem.Str:=["holes","start"]
abbrev J5:List PySem.Str:=["holes","address"]
abbrev oh:List PySem.Str:=["items"]
abbrev Iu:List PySem.Str:=["rows","start","goal"]
abbrev mj:List PySem.Str:=["rows","sheets"]
abbrev Iv:List PySem.Str:=["item","weights"]
abbrev yi:List PySem.Str:=["item","views"]
abbrev FO:List PySem.Str:=["one","other"]
abbrev xu:List PySem.Str:=["row","start","stop"]
abbrev Iw:List PySem.Str:=["items","views"]
abbrev J6:List PySem.Str:=["items","views","place","others"]
abbrev FP:List PySem.Str:=["state","sheet","items"]
abbrev vm:List PySem.Str:=["rows","sheet"]
abbrev Mr:List PySem.Str:=["rows","sheet","place","items"]
abbrev vn:List PySem.Str:=["_law_src_here","_law_base"]
abbrev Iz:List PySem.Str:=["_law_src_here","_law_few"]
abbrev J7:List PySem.Str:=["_law_src_here","_law_many"]
abbrev FQ:List PySem.Str:=["_law_world_here","_law_rows"]
abbrev DF:List PySem.Str:=["_law_src_here","_law_world_here","_law_house"]
abbrev Ms:List PySem.Str:=["_law_world_here","_law_house"]
abbrev Mt:List PySem.Str:=["_law_script"]
abbrev OJ:List PySem.Str:=["_law_src_here","_law_world_here"]
abbrev OL:List PySem.Str:=["_law_house","_law_texts","_law_moment"]
abbrev bY:=@List.length_map.{0,0}
abbrev eZ:=@List.length_append.{0}
abbrev fH:=@Nat.le_refl
abbrev mq:=@List.length_cons.{0}
abbrev lK:=@List.map_append.{0,0}
abbrev rV:=@List.mem_cons_of_mem.{0}
abbrev rW:=@List.mem_of_getElem?.{0}
abbrev qy:=@List.size_toArray.{0}
abbrev ur:=@List.length_singleton.{0}
abbrev qG:=@List.getElem?_map.{0,0}
abbrev jX:=@Bool.false_ne_true
abbrev lM:=@List.mem_append_right.{0}
abbrev oj:=@List.getElem?_eq_getElem.{0}
abbrev ko:=@List.length_take.{0}
abbrev kr:=@List.take_length.{0}
abbrev jb:=@Nat.le_of_lt
abbrev qz:=@PySem.F.plainAttrs_list
abbrev nh:=@List.flatMap_cons.{0,0}
abbrev jL:=@Nat.ne_of_lt
abbrev qA:=@List.concat_eq_append.{0}
abbrev kO:=@List.map_cons.{0,0}
abbrev lN:=@PySem.boot_len
abbrev pU:=@Nat.lt_of_lt_of_le
abbrev pC:=@List.append_assoc.{0}
abbrev xx:=@PyProof.Rows.boot_isinstance
abbrev uu:=@PySem.F.slot_list_append
abbrev uv:=@PySem.F.type_list_append
abbrev om:=@List.append_nil.{0}
abbrev oq:=@List.length_nil.{0}
abbrev oS:=@List.foldl_cons.{0,0}
abbrev tD:=@List.eq_nil_or_concat.{0}
abbrev qH:=@List.mem_cons_self.{0}
abbrev ux:=@List.length_replicate.{0}
abbrev mL:=@Nat.le_trans
abbrev yj:=@List.getElem?_append_left.{0}
abbrev mO:=@Nat.zero_le
abbrev vo:=@List.getLast?_concat.{0}
abbrev yk:=@List.take_of_length_le.{0}
abbrev yl:=@PyProof.Rows.boot_list
abbrev rX:=@Option.some.inj.{0}
namespace L2
open PySem PySem.Spec PyProof.Rows
abbrev Key:=Sum Int Str
def yo:Key→Value→Bool
 | .inl k,v=>Value.isInt k v
 | .inr x,v=>Value.isStrOf x v
def UU(w:World):Key→Int
 | .inl k=>hashInt k
 | .inr x=>hashStr w x
theorem dR:∀ {k:Key} {v:Value},yo k v=true→(∃ i t,k=Sum.inl i∧v=Value.int i t)∨(∃ x t,k=Sum.inr x∧v=Value.str x t)
 | .inl i,v,h=>by
  obtain⟨t,e⟩:=Value.isInt_shape (k:=i) (v:=v) h
  exact .inl ⟨i,t,rfl,e⟩
 | .inr x,v,h=>by
  obtain⟨t,e⟩:=Value.isStrOf_shape (x:=x) (v:=v) h
  exact .inr ⟨x,t,rfl,e⟩
theorem IA(i:Int)(t:Tok):yo (.inl i) (.int i t)=true:=by simp[yo,Value.isInt]
theorem IB(x:Str)(t:Tok):yo (.inr x) (.str x t)=true:=by simp[yo,Value.isStrOf]
theorem OM(a b:Int):decide ((Sum.inl a:Key)=Sum.inl b)=(a == b):=by
 by_cases e:a=b
 ·subst e;simp
 ·have h:¬ (Sum.inl a:Key)=Sum.inl b:=fun q=>e (Sum.inl.inj q)
  rw[decide_eq_false h]
  exact (beq_eq_false_iff_ne.mpr e).symm
theorem ON(a b:Str):decide ((Sum.inr a:Key)=Sum.inr b)=decide (a=b):=by
 by_cases e:a=b
 ·subst e;simp
 ·have h:¬ (Sum.inr a:Key)=Sum.inr b:=fun q=>e (Sum.inr.inj q)
  rw[decide_eq_false h,decide_eq_false e]
theorem OO(a:Int)(b:Str):decide ((Sum.inl a:Key)=Sum.inr b)=false:=decide_eq_false (fun q=>nomatch q)
theorem OP(a:Str)(b:Int):decide ((Sum.inr a:Key)=Sum.inl b)=false:=decide_eq_false (fun q=>nomatch q)
def gf(prog:Program)(w:World):PySem.KeyKind prog w Key where
 is:=yo
 hash:=UU w
 inj:=fun v a b ha hb=>by
  rcases dR ha with ⟨i,t,rfl,rfl⟩|⟨x,t,rfl,rfl⟩
  ·rcases dR hb with ⟨j,u,rfl,e⟩|⟨y,u,rfl,e⟩
   ·injection e with e1 _;rw[e1]
   ·exact nomatch e
  ·rcases dR hb with ⟨j,u,rfl,e⟩|⟨y,u,rfl,e⟩
   ·exact nomatch e
   ·injection e with e1 _;rw[e1]
 byValue:=fun k v h=>by
  rcases dR h with ⟨i,t,rfl,rfl⟩|⟨x,t,rfl,rfl⟩ <;> rfl
 pyHash:=fun hv h=>by
  rcases dR hv with ⟨i,t,rfl,rfl⟩|⟨x,t,rfl,rfl⟩
  ·exact wpAny_pyHash_int h
  ·exact wpAny_pyHash_str h
 eqBool:=fun hu hv h=>by
  rcases dR hu with ⟨i,t,rfl,rfl⟩|⟨x,t,rfl,rfl⟩
  ·rcases dR hv with ⟨j,u,rfl,rfl⟩|⟨y,u,rfl,rfl⟩
   ·rw[OM]at h;exact wpAny_eqBool_int h
   ·rw[OO]at h;exact SeqAt.EqAt.int_str i t y u _ _ _ _ h
  ·rcases dR hv with ⟨j,u,rfl,rfl⟩|⟨y,u,rfl,rfl⟩
   ·rw[OP]at h;exact SeqAt.EqAt.str_int x t j u _ _ _ _ h
   ·rw[ON]at h;exact wpAny_eqBool_str h
 «strs»:=fun k x t v h=>by
  rcases dR h with ⟨i,u,rfl,e⟩|⟨y,u,rfl,e⟩
  ·exact nomatch e
  ·injection e with e1 _
   subst e1
   cases v <;> rfl
theorem DG(prog:Program)(w:World)(i:Int)(t:Tok):(gf prog w).is (.inl i) (.int i t)=true:=IA i t
theorem DH(prog:Program)(w:World)(x:Str)(t:Tok):(gf prog w).is (.inr x) (.str x t)=true:=IB x t
end L2
namespace L2
open PySem PySem.Spec PyProof.Rows
inductive V where
 | jE | bl (b:Bool) | int (i:Int) | str (x:Str) | FT (b:Array UInt8) | NW (b:UInt64) | ref (a:Addr) | ty (n:String)
 deriving DecidableEq
def RelV:V→Value→Prop
 | .jE,u=>u=Value.none
 | .bl b,u=>u=Value.bool b
 | .int i,u=>∃ t,u=Value.int i t
 | .str x,u=>∃ t,u=Value.str x t
 | .FT b,u=>∃ t,u=Value.bytes b t
 | .NW b,u=>∃ t,u=Value.float b t
 | .ref a,u=>u=Value.ref a
 | .ty n,u=>u=Value.type n
abbrev Vals:List V→List Value→Prop:=Paired RelV
theorem Vals.length{xs:List V}{us:List Value}(r:Vals xs us):xs.length=us.length:=Paired.length r
theorem Vals.get:∀ {xs:List V} {us:List Value} {i:Nat} {x:V},Vals xs us→xs[i]?=some x→∃ u,us[i]?=some u∧RelV x u
 | _,_,_,_,.nil,e=>by simp at e
 | _,_,0,_,.cons r _,e=>by simp at e;subst e;exact⟨_,rfl,r⟩
 | _,_,i+1,x,.cons _ t,e=>by
  obtain⟨u,h1,h2⟩:=Vals.get (i:=i) (x:=x) t (by simpa using e)
  exact⟨u,by simpa using h1,h2⟩
theorem Vals.set{x:V}{u:Value}(r:RelV x u):∀ {xs:List V} {us:List Value} (i:Nat),Vals xs us→Vals (xs.set i x) (us.set i u)
 | _,_,_,.nil=>.nil
 | _,_,0,.cons _ t=>.cons r t
 | _,_,i+1,.cons q t=>.cons q (Vals.set r i t)
theorem Vals.append:∀ {xs ys:List V} {us ws:List Value},Vals xs us→Vals ys ws→Vals (xs++ys) (us++ws)
 | _,_,_,_,.nil,s=>s
 | _,_,_,_,.cons r t,s=>.cons r (Vals.append t s)
theorem Vals.take:∀ {xs:List V} {us:List Value} (n:Nat),Vals xs us→Vals (xs.take n) (us.take n)
 | _,_,0,_=>.nil
 | _,_,_+1,.nil=>.nil
 | _,_,n+1,.cons r t=>.cons r (Vals.take n t)
theorem Vals.drop:∀ {xs:List V} {us:List Value} (n:Nat),Vals xs us→Vals (xs.drop n) (us.drop n)
 | _,_,0,r=>r
 | _,_,_+1,.nil=>.nil
 | _,_,n+1,.cons _ t=>Vals.drop n t
def rY:Option V→Option Value→Prop
 | some v,some u=>RelV v u
 | none,none=>True
 | _,_=>False
def KV{κ:Type}:List (κ × V)→List (κ × Value)→Prop:=Paired fun (p:κ × V) (q:κ × Value)=>p.1=q.1∧RelV p.2 q.2
def kV:Key→V
 | .inl i=>.int i
 | .inr x=>.str x
inductive HO where
 | lst (xs:List V)
 | tup (xs:List V)
 | dK (kvs:List (Key × V)) | dT (kvs:List (List Key × V))
 | set (S:Int→Bool) (n:Nat)
 | ins (C dx:Addr) (fs:List (Str × V))
 | own (x:Addr)
 | xd (fs:List (Str × V))
 | met (f x:Addr)
 | Dz (lo hi:Int)
 | FU (o:Obj) (u:HO)
 | Mu (ps:Array Value)
 | ext (φ:Heap→Prop)
abbrev Hp:=Addr→Option HO
def upd(H:Hp)(a:Addr)(o:HO):Hp:=fun b=>if b=a then some o else H b
theorem af{H:Hp}{a:Addr}{o:HO}:upd H a o a=some o:=by unfold upd;rw[if_pos rfl]
theorem aC{H:Hp}{a b:Addr}{o:HO}(h:b≠a):upd H a o b=H b:=by unfold upd;rw[if_neg h]
theorem cE{H:Hp}{a b:Addr}{o u:HO}(h:H a=some o)(h':H b=some u)(d:o≠u):a≠b:=by
 intro e;subst e;rw[h]at h';exact d (rX h')
theorem au{H:Hp}{a b:Addr}{o:HO}(h:H a=some o)(h':H b=none):a≠b:=by
 intro e;subst e;rw[h]at h';cases h'
section
variable (P:Program) (w:World)
def gh(H:Hp)(h:Heap)(a:Addr):HO→Prop
 | .lst xs=>xs.length≤sizeLine∧∃ (its:List Value) (n:Nat),Vals xs its∧h.get? a=some { cls:=.type "list",data:=.seq its.toArray n }
 | .tup xs=>xs.length≤sizeLine∧∃ its:List Value,Vals xs its∧IsTup h a its.toArray
 | .dK kvs=>kvs.length≤sizeLine∧(a == sysModules)=false∧∃ vs,KV kvs vs∧h.DictOf (gf P w) a vs
 | .dT kvs=>kvs.length≤sizeLine∧(a == sysModules)=false∧∃ xs:List (List Key × Addr × Value),
   Paired (fun (p:List Key × V) (q:List Key × Addr × Value)=>p.1=q.1∧H q.2.1=some (.tup (p.1.map kV))∧RelV p.2 q.2.2) kvs xs ∧
   ∃ o es ep,h.get? a=some o∧o.ExactDict∧o.data=.dict es ep∧es.toList=xs.map (entryOfKey (tupleKind (gf P w)))∧(xs.map (·.1)).Nodup
 | .set S n=>h.SetOf (intKind P w) a S n
 | .ins C dx fs=>H dx=some (.own a)∧fs.length≤1000∧dx≠a∧h.get? a=some (PySem.W.instObj C dx) ∧
   ∃ mA,h.Ns1 dx mA∧(∀ f,rY (fs.lookup f) (mA f))∧PySem.Within mA (fs.map (·.1))
 | .own _=>∃ o,h.get? a=some o
 | .xd fs=>∃ mA,h.Ns1 a mA∧∀ f,rY (fs.lookup f) (mA f)
 | .Dz lo hi=>∃ t u v,h.get? a=some { cls:=.type "range",data:=.fields #[.int lo t,.int hi u,.int 1 v] }
 | .FU o u=>h.get? a=some o∧gh H h a u
 | .Mu ps=>h.get? a=some { cls:=.none,data:=.fields ps }
 | .met f x=>h.get? a=some (PySem.W.methodObj (.ref f) (.ref x))
 | .ext φ=>φ h∧(∃ o,h.get? a=some o)∧∀ h1 h2:Heap,φ h1→(∀ o,h1.get? a=some o→h2.get? a=some o)→φ h2
def rC(H:Hp)(h:Heap):Prop:=∀ a o,H a=some o→gh P w H h a o
end
section
variable {P:Program} {w:World} {H H':Hp} {h h':Heap} {a:Addr} {o:HO}
theorem gh.lt(x:gh P w H h a o):a<h.objs.size:=by
 cases o with
 | lst xs=>obtain⟨_,_,_,_,e⟩:=x;exact Heap.lt_size e
 | tup xs=>obtain⟨_,_,_,p⟩:=x;exact p.lt
 | dK kvs=>obtain⟨_,_,_,_,o,_,_,e,_⟩:=x;exact Heap.lt_size e
 | dT kvs=>obtain⟨_,_,_,_,o,_,_,e,_⟩:=x;exact Heap.lt_size e
 | set S n=>obtain⟨o,_,_,_,e,_⟩:=x;exact Heap.lt_size e
 | ins C dx fs=>obtain⟨_,_,_,e,_⟩:=x;exact Heap.lt_size e
 | own y=>obtain⟨_,e⟩:=x;exact Heap.lt_size e
 | xd fs=>obtain⟨_,⟨_,_,_,e,_⟩,_⟩:=x;exact Heap.lt_size e
 | Dz lo hi=>obtain⟨_,_,_,e⟩:=x;exact Heap.lt_size e
 | FU ob u=>obtain⟨e,_⟩:=x;exact Heap.lt_size e
 | Mu ps=>exact Heap.lt_size (show h.get? a=some _ from x)
 | met f y=>exact Heap.lt_size (show h.get? a=some _ from x)
 | ext φ=>obtain⟨_,⟨_,e⟩,_⟩:=x;exact Heap.lt_size e
theorem Paired.DJ{α β:Type}{F G:α→β→Prop}:∀ {l₁:List α} {l₂:List β},Paired F l₁ l₂→(∀ a b,F a b→G a b)→Paired G l₁ l₂
 | _,_,.nil,_=>.nil
 | _,_,.cons r t,f=>.cons (f _ _ r) (Paired.DJ t f)
theorem gh.stay(x:gh P w H h a o)(k:∀ b u,(b=a∨H b=some (.own a))→h.get? b=some u→h'.get? b=some u)
  (ho:∀ b,H b=some (.own a)→H' b=some (.own a)) (ht:∀ b xs,H b=some (.tup xs)→H' b=some (.tup xs)):gh P w H' h' a o:=by
 induction o with
 | lst xs=>obtain⟨z,its,n,r,e⟩:=x;exact⟨z,its,n,r,k _ _ (.inl rfl) e⟩
 | tup xs=>obtain⟨z,its,r,ob,e,c⟩:=x;exact⟨z,its,r,ob,k _ _ (.inl rfl) e,c⟩
 | dK kvs=>obtain⟨z,y,vs,r,ob,es,ep,e,c⟩:=x;exact⟨z,y,vs,r,ob,es,ep,k _ _ (.inl rfl) e,c⟩
 | dT kvs =>
  obtain⟨z,y,xs,r,ob,es,ep,e,c⟩:=x
  exact⟨z,y,xs,Paired.DJ r fun p q z=>⟨z.1,ht _ _ z.2.1,z.2.2⟩,ob,es,ep,k _ _ (.inl rfl) e,c⟩
 | set S n=>obtain⟨ob,es,ep,t,e,c⟩:=x;exact⟨ob,es,ep,t,k _ _ (.inl rfl) e,c⟩
 | ins C dx fs =>
  obtain⟨d,z,ne,e,mA,⟨od,es,ep,e2,c⟩,r⟩:=x
  exact⟨ho _ d,z,ne,k _ _ (.inl rfl) e,mA,⟨od,es,ep,k _ _ (.inr d) e2,c⟩,r⟩
 | own y=>obtain⟨ob,e⟩:=x;exact⟨ob,k _ _ (.inl rfl) e⟩
 | xd fs=>obtain⟨mA,⟨od,es,ep,e,c⟩,r⟩:=x;exact⟨mA,⟨od,es,ep,k _ _ (.inl rfl) e,c⟩,r⟩
 | Dz lo hi=>obtain⟨t,u,v,e⟩:=x;exact⟨t,u,v,k _ _ (.inl rfl) e⟩
 | FU ob u ih=>obtain⟨e,q⟩:=x;exact⟨k _ _ (.inl rfl) e,ih q⟩
 | Mu ps =>
  have e:h.get? a=some { cls:=.none,data:=.fields ps }:=x
  show h'.get? a=some { cls:=.none,data:=.fields ps }
  exact k a _ (.inl rfl) e
 | met f y =>
  have e:h.get? a=some (PySem.W.methodObj (.ref f) (.ref y)):=x
  show h'.get? a=some (PySem.W.methodObj (.ref f) (.ref y))
  exact k a _ (.inl rfl) e
 | ext φ=>obtain⟨p,⟨o,e⟩,st⟩:=x;exact⟨st _ _ p fun o q=>k _ _ (.inl rfl) q,⟨o,k _ _ (.inl rfl) e⟩,st⟩
theorem rC.lt(x:rC P w H h)(e:H a=some o):a<h.objs.size:=(x a o e).lt
theorem rC.fresh(x:rC P w H h)(e:h.objs.size≤a):H a=none:=by
 cases q:H a with
 | none=>rfl
 | some u=>exact absurd (pU (x.lt q) e) (Nat.lt_irrefl _)
theorem rC.kept(x:rC P w H h)(k:∀ b u,h.get? b=some u→h'.get? b=some u):rC P w H h':=fun a o e =>
 (x a o e).stay (fun b u _ q=>k b u q) (fun _ q=>q) fun _ _ q=>q
theorem rC.laid(x:rC P w H h)(k:∀ b u,h.get? b=some u→h'.get? b=some u)(hp:h.objs.size≤a)(new:gh P w (upd H a o) h' a o):rC P w (upd H a o) h':=fun b u e=>by
 have hn:=x.fresh hp
 by_cases hb:b=a
 ·subst hb;rw[af]at e;cases e;exact new
 ·rw[aC hb]at e
  exact (x b u e).stay (fun c v _ q=>k c v q) (fun c q=>by rw[aC (au q hn)];exact q) fun c xs q=>by rw[aC (au q hn)];exact q
end
def Rd(H:Hp)(a:Addr)(u:HO):Prop:=H a=some u∨∃ o,H a=some (.FU o u)
theorem Rd.ok{P:Program}{w:World}{H:Hp}{h:Heap}{a:Addr}{u:HO}(r:Rd H a u)(x:rC P w H h):gh P w H h a u:=by
 rcases r with r|⟨o,r⟩
 ·exact x a u r
 ·obtain⟨_,q⟩:=x a _ r
  exact q
def Q9:Option HO→Prop
 | some (.lst _)=>True
 | some (.dK _)=>True
 | some (.dT _)=>True
 | some (.set _ _)=>True
 | some (.ins _ _ _)=>True
 | some (.ext _)=>True
 | _=>False
section
variable {P:Program} {w:World} {H:Hp} {h h':Heap} {x e:Addr} {o':HO}
theorem rC.write(ok:rC P w H h)(mu:Q9 (H x))(he:e=x∨H e=some (.own x))(k:∀ b u,b≠e→h.get? b=some u→h'.get? b=some u)(QE:∃ u,h'.get? e=some u)
  (new:gh P w (upd H x o') h' x o'):rC P w (upd H x o') h':=fun b u q=>by
 have Rc:∀ c y,H c=some (.own y)→c≠x:=fun c y r z=>by subst z;rw[r]at mu;exact mu
 have UW:∀ c xs,H c=some (.tup xs)→c≠x:=fun c xs r z=>by subst z;rw[r]at mu;exact mu
 by_cases hb:b=x
 ·subst hb;rw[af]at q;cases q;exact new
 ·rw[aC hb]at q
  by_cases OQ:b=e
  ·have q':H b=some (.own x):=by
    rcases he with z|z
    ·exact absurd (OQ.trans z) hb
    ·rw[OQ];exact z
   rw[q]at q';cases q'
   obtain⟨v,hv⟩:=QE
   exact⟨v,by rw[OQ];exact hv⟩
  ·refine (ok b u q).stay (fun c v hc r=>k c v ?_ r) (fun c r=>by rw[aC (Rc c b r)];exact r) fun c xs r=>by rw[aC (UW c xs r)];exact r
   rcases hc with rfl|hc
   ·exact OQ
   ·rintro rfl
    rcases he with z|z
    ·exact Rc c b hc z
    ·rw[hc]at z;cases z;exact hb rfl
end
structure Un(fs ex:List Addr)(H H':Hp)(h h':Heap):Prop where
 keep:∀ b o,h.get? b=some o→H b=none→b∉fs→b∉ex→h'.get? b=some o
 slot:∀ b o,h.get? b=some o→H b=none→b∈fs→b∉ex→∃ sl,h'.get? b=some { o with slots:=sl }
 free:∀ b o,h.get? b=some o→H b=none→b∉ex→H' b=none
 there:∀ b o,h.get? b=some o→b∉ex→∃ o',h'.get? b=some o'
 tups:∀ b xs,H b=some (.tup xs)→H' b=some (.tup xs)
 An:∀ b o u,H b=some (.FU o u)→H' b=some (.FU o u)
 BU:∀ b ps,H b=some (.Mu ps)→∃ more,H' b=some (.Mu (ps++more))
section
variable {fs fs' ex ex':List Addr} {H H1 H2:Hp} {h h1 h2 h':Heap} {a x e:Addr} {o:HO}
theorem Un.any(u:Un fs ex H H1 h h1){b:Addr}{ob:Obj}(q:h.get? b=some ob)(n:H b=none)(hx:b∉ex):∃ sl,h1.get? b=some { ob with slots:=sl }:=by
 by_cases hb:b∈fs
 ·exact u.slot b ob q n hb hx
 ·exact⟨ob.slots,u.keep b ob q n hb hx⟩
theorem Un.kept(k:∀ b u,h.get? b=some u→h'.get? b=some u):Un fs ex H H h h' :=
 ⟨fun b ob q _ _ _=>k b ob q,fun b ob q _ _ _=>⟨ob.slots,k b ob q⟩,fun _ _ _ n _=>n,fun b ob q _=>⟨ob,k b ob q⟩,fun _ _ q=>q,fun _ _ _ q=>q,fun _ ps q=>⟨#[],by rw[q];simp⟩⟩
theorem Un.refl:Un fs ex H H h h:=Un.kept fun _ _ q=>q
theorem Un.laid(k:∀ b u,h.get? b=some u→h'.get? b=some u)(hp:h.objs.size≤a)(hn:H a=none):Un fs ex H (upd H a o) h h' where
 keep:=fun b u q _ _ _=>k b u q
 slot:=fun b u q _ _ _=>⟨u.slots,k b u q⟩
 free:=fun b u q n _=>by rw[aC (jL (pU (Heap.lt_size q) hp))];exact n
 there:=fun b u q _=>⟨u,k b u q⟩
 tups:=fun b xs q=>by rw[aC (au q hn)];exact q
 An:=fun b u xs q=>by rw[aC (au q hn)];exact q
 BU:=fun b ps q=>⟨#[],by rw[aC (au q hn),q];simp⟩
theorem Un.write(mu:Q9 (H x))(he:e=x∨H e=some (.own x))(k:∀ b u,b≠e→h.get? b=some u→h'.get? b=some u)(QE:∃ u,h'.get? e=some u):Un fs ex H (upd H x o) h h':=by
 have hx:∀ b,H b=none→b≠x:=fun b n z=>by subst z;rw[n]at mu;exact mu
 have hb:∀ b,H b=none→b≠e:=fun b n z=>by
  subst z
  rcases he with r|r
  ·exact hx b n r
  ·rw[n]at r;cases r
 have hm:∀ b u,H b=some u→¬ Q9 (some u)→b≠x:=fun b u q nm z=>by subst z;rw[q]at mu;exact nm mu
 refine⟨fun b u q n _ _=>k b u (hb b n) q,fun b u q n _ _=>⟨u.slots,k b u (hb b n) q⟩,fun b u q n _=>by rw[aC (hx b n)];exact n,fun b u q _=>?_,
  fun b xs q=>by rw[aC (hm b _ q fun z=>z)];exact q,fun b u xs q=>by rw[aC (hm b _ q fun z=>z)];exact q,fun b ps q=>⟨#[],by rw[aC (hm b _ q fun z=>z),q];simp⟩⟩
 by_cases OQ:b=e
 ·subst OQ;exact QE
 ·exact⟨u,k b u OQ q⟩
end
def T4(h:Heap)(H:Hp):List Addr:=(List.range h.objs.size).filter fun a=>(H a).isSome
def BV(h:Heap)(H:Hp):Heap:=PySem.W.hideAll h (T4 h H)
theorem IC(h:Heap)(H:Hp):(BV h H).objs.size=h.objs.size:=PySem.W.hideAll_size _ _
theorem J8{h:Heap}{H:Hp}{b:Addr}{o:Obj}(e:h.get? b=some o)(n:H b=none):(BV h H).get? b=some o :=
 PySem.W.hideAll_get _ e fun hm=>by
  have q:(H b).isSome=true:=(List.mem_filter.mp hm).2
  rw[n]at q;simp at q
theorem Mv{h:Heap}{H:Hp}{b:Addr}{o:Obj}(e:(BV h H).get? b=some o):h.get? b=some o∧H b=none:=by
 have e':h.get? b=some o:=PySem.W.of_hideAll (T4 h H) e
 refine⟨e',?_⟩
 cases q:H b with
 | none=>rfl
 | some x =>
  have hm:b∈T4 h H:=List.mem_filter.mpr ⟨List.mem_range.mpr (Heap.lt_size e'),by simp[q]⟩
  have z:(BV h H).get? b=none:=PySem.W.hideAll_none (T4 h H) hm
  rw[z]at e;cases e
end L2
namespace L2
open PySem PySem.Spec PyProof.Rows
structure Mod(K:PySem.W.Frag)(mg:Str→Option Value)(base:Heap):Prop where
 Rf:K.In base
 glob:base.Ns mainGlobals mg
 blt:∃ mb,base.Ns builtinsNs mb∧∀ x:Str,x≠"__name__"→mb x=bootBuiltins x
 nolimit:base.NoLimit
structure Cx where
 prog:Program
 w:World
 K:PySem.W.Frag
 mg:Str→Option Value
 base:Heap
 A:Around
 N:List Str
 s₀:Shared
 H₀:Hp
 env:Env
 outer:List Env
 stack:List Env
 ex:List Addr
 fn:Str→Bool
 calm:Bool
 pn:List (Addr × Obj)
 xe:Value→Shared→Prop
def frs(l:List Env):List Addr:=l.filterMap (·.frame)
abbrev Cx.fs(X:Cx):List Addr:=frs X.outer
def T5(sc:Scope)(x:Str):Prop:=sc.names.lookup x=some .local∨sc.names.lookup x=some .cell∨sc.names.lookup x=some .free
def Loc(sc:Scope)(x:Str):Prop:=sc.names.lookup x=some .local∨sc.names.lookup x=some .cell
def Look(env:Env)(h:Heap)(m:Str→Option Value)(x:Str)(u:Value):Prop :=
 (env.kindOf x=some .local∧m x=some u)∨((env.kindOf x=some .cell∨env.kindOf x=some .free)∧∃ c,env.cells.lookup x=some c∧h.IsCell c (some u))
structure Cx.Ok(X:Cx):Prop where
 mod:Mod X.K X.mg X.base
 kind:X.env.scope.kind=.function
 glob:X.env.globals=mainGlobals
 blt:X.env.builtins=builtinsNs
 above:X.s₀.heap.objs.size≤X.env.locals
 inj:∀ x y c,X.env.cells.lookup x=some c→X.env.cells.lookup y=some c→x=y
 has:∀ x,(X.env.kindOf x=some .cell∨X.env.kindOf x=some .free)→∃ c,X.env.cells.lookup x=some c
 Rg:∀ x c,X.fn x=true→X.env.cells.lookup x=some c→X.s₀.heap.objs.size≤c
 hd:X.calm=true→X.A.handled=none
 frames:X.A.frames=some X.stack
 stk:X.stack=X.outer∨(X.stack=X.env::X.outer∧X.env.frame=some X.env.locals)
 exf:∀ b∈X.ex,b≠X.env.locals∧∀ x c,X.env.cells.lookup x=some c→c≠b
 bs:∀ b o,X.base.get? b=some o→X.s₀.heap.get? b=some o∧X.H₀ b=none
 Mw:X.base.objs.size≤X.s₀.heap.objs.size
 ID:∀ b o,X.base.get? b=some o→b∉X.ex
 Mx:∀ b∈X.ex,b∉X.fs
 uy:X.s₀.heap.FunFrames X.base X.outer
 OR:∀ b∈X.fs,X.H₀ b=none
structure Inv(X:Cx)(pins:List (Addr × Obj))(σ:List (Option V))(H:Hp)(s:Shared):Prop where
 ok:X.Ok
 os:s.os=X.s₀.os
 bare:AllBare s.gens
 base:Un X.fs X.ex X.H₀ H X.s₀.heap s.heap
 loc:∃ m,s.heap.Ns X.env.locals m∧∀ (i:Nat) (x:Str) (v:V),X.N[i]?=some x→σ[i]?=some (some v)→T5 X.env.scope x→∃ u,RelV v u∧Look X.env s.heap m x u
 cell:∀ x c,X.env.cells.lookup x=some c→∃ v,s.heap.IsCell c v
 free:H X.env.locals=none
 sC:∀ x c,X.env.cells.lookup x=some c→H c=none
 pin:∀ p∈X.pn++pins,s.heap.get? p.1=some p.2∧H p.1=none∧p.1≠X.env.locals∧p.1∉X.fs∧∀ v,p.2.data≠.cell v
 hok:rC X.prog X.w H s.heap
 len:σ.length=X.N.length
section
variable {X:Cx} {pins:List (Addr × Obj)} {σ:List (Option V)} {H H':Hp} {s:Shared} {h':Heap}
theorem Cx.Ok.UX(ok:X.Ok){b:Addr}{o:Obj}(e:X.base.get? b=some o):b∉X.fs:=fun hb=>by
 have:=(ok.uy.mem hb).1
 rw[e]at this;cases this
theorem Inv.bs(I:Inv X pins σ H s):∀ b o,X.base.get? b=some o→s.heap.get? b=some o∧H b=none:=fun b o e =>
 ⟨I.base.keep b o (I.ok.bs b o e).1 (I.ok.bs b o e).2 (I.ok.UX e) (I.ok.ID b o e),I.base.free b o (I.ok.bs b o e).1 (I.ok.bs b o e).2 (I.ok.ID b o e)⟩
theorem Inv.bk(I:Inv X pins σ H s):∀ b o,X.base.get? b=some o→s.heap.get? b=some o:=fun b o e=>(I.bs b o e).1
theorem Inv.mod(I:Inv X pins σ H s):Mod X.K X.mg X.base:=I.ok.mod
theorem Inv.wF(I:Inv X pins σ H s):X.K.In s.heap:=I.ok.mod.Rf.keeps I.bk
theorem Inv.lt(I:Inv X pins σ H s):X.env.locals<s.heap.objs.size:=let ⟨_,hn,_⟩:=I.loc;hn.lt
theorem Inv.sz(I:Inv X pins σ H s):X.s₀.heap.objs.size≤s.heap.objs.size:=mL I.ok.above (jb I.lt)
theorem Inv.UY(I:Inv X pins σ H s){a:Addr}(h:s.heap.objs.size≤a):a∉X.fs:=fun hb=>by
 obtain⟨_,o,ho,_⟩:=I.ok.uy.mem hb
 exact absurd (pU (Heap.lt_size ho) (mL I.sz h)) (Nat.lt_irrefl _)
theorem Inv.OS(I:Inv X pins σ H s):∀ x c,X.env.cells.lookup x=some c→c≠X.env.locals:=fun x c e z=>by
 obtain⟨v,o,ho,hd⟩:=I.cell x c e
 obtain⟨m,⟨o',es,ep,ho',hd',_⟩,_⟩:=I.loc
 rw[z,ho']at ho;cases ho;rw[hd']at hd;cases hd
theorem Inv.uy(I:Inv X pins σ H s):s.heap.FunFrames X.base X.outer:=by
 have all:∀ (l:List Env),(∀ b∈frs l,b∈X.fs)→X.s₀.heap.FunFrames X.base l→s.heap.FunFrames X.base l:=by
  intro l
  induction l with
  | nil=>intro _ _;trivial
  | cons env r ih =>
   intro hs hl
   obtain⟨hk,⟨L,o,hf,hn,ho,hd⟩,hr⟩:=hl
   have hL:L∈X.fs:=hs L (by unfold frs;rw[List.filterMap_cons,hf];exact qH)
   obtain⟨sl,e⟩:=I.base.slot L o ho (I.ok.OR L hL) hL fun z=>I.ok.Mx L z hL
   exact⟨hk,⟨L,_,hf,hn,e,hd⟩,ih (fun b hb=>hs b (by unfold frs;rw[List.filterMap_cons,hf];exact rV _ hb)) hr⟩
 exact all X.outer (fun _ hb=>hb) I.ok.uy
theorem Inv.stack(I:Inv X pins σ H s):s.heap.FunFrames X.base X.stack:=by
 rcases I.ok.stk with e|⟨e,hf⟩
 ·rw[e];exact I.uy
 ·rw[e]
  obtain⟨m,hn,_⟩:=I.loc
  refine .cons (by rw[I.ok.kind];decide) hf hn ?_ I.uy
  exact Heap.get?_none_of_le (mL I.ok.Mw I.ok.above)
theorem Inv.oU(I:Inv X pins σ H s):∀ b∈frs X.stack,b∈X.env.locals::X.fs:=fun b hb=>by
 rcases I.ok.stk with e|⟨e,hf⟩
 ·rw[e]at hb;exact rV _ hb
 ·rw[e]at hb
  unfold frs at hb
  rw[List.filterMap_cons,hf]at hb
  exact hb
theorem Inv.uz(I:Inv X pins σ H s):∀ b∈frs X.stack,H b=none:=fun b hb=>by
 rcases List.mem_cons.mp (I.oU b hb) with e|hb
 ·rw[e];exact I.free
 ·obtain⟨_,o,ho,_⟩:=I.ok.uy.mem hb
  exact I.base.free b o ho (I.ok.OR b hb) fun z=>I.ok.Mx b z hb
theorem Inv.step{g':Array GenState}{t':Nat}{d':Drawn}{ch:List Addr}(I:Inv X pins σ H s)
  (hch:∀ b∈ch,(b∈X.ex∨X.s₀.heap.objs.size≤b)∧b≠X.env.locals∧(∀ x c,X.env.cells.lookup x=some c→c≠b)∧∀ p∈X.pn++pins,p.1≠b)
  (keep:∀ b o,b≠X.env.locals→b∉X.fs→b∉ch→s.heap.get? b=some o→H b=none→h'.get? b=some o)
  (slot:∀ b o,b≠X.env.locals→b∈X.fs→b∉ch→s.heap.get? b=some o→H b=none→∃ sl,h'.get? b=some { o with slots:=sl }) (free:∀ b o,b∉ch→s.heap.get? b=some o→H b=none→H' b=none)
  (there:∀ b o,b∉ch→s.heap.get? b=some o→∃ o',h'.get? b=some o')
  (tups:∀ b xs,H b=some (.tup xs)→H' b=some (.tup xs)) (An:∀ b o u,H b=some (.FU o u)→H' b=some (.FU o u)) (BU:∀ b ps,H b=some (.Mu ps)→∃ more,H' b=some (.Mu (ps++more)))
  (ns:∀ m,s.heap.Ns X.env.locals m→h'.Ns X.env.locals m) (hok:rC X.prog X.w H' h') (hg:AllBare g') :
  Inv X pins σ H' { s with heap:=h',gens:=g',drawn:=d',toks:=t' }:=by
 have neL:∀ b o,X.s₀.heap.get? b=some o→b≠X.env.locals:=fun b o e=>jL (pU (Heap.lt_size e) I.ok.above)
 have T6:∀ b o,X.s₀.heap.get? b=some o→b∉X.ex→b∉ch:=fun b o e hx hb=>by
  rcases (hch b hb).1 with z|z
  ·exact hx z
  ·exact absurd (pU (Heap.lt_size e) z) (Nat.lt_irrefl _)
 have cellK:∀ x c,X.env.cells.lookup x=some c→∀ v,s.heap.IsCell c v→h'.IsCell c v:=fun x c e v ⟨o,ho,hd⟩=>by
  have Rh:c∉ch:=fun z=>(hch c z).2.2.1 x c e rfl
  by_cases hc:c∈X.fs
  ·obtain⟨sl,q⟩:=slot c o (I.OS x c e) hc Rh ho (I.sC x c e)
   exact⟨_,q,hd⟩
  ·exact⟨o,keep c o (I.OS x c e) hc Rh ho (I.sC x c e),hd⟩
 refine⟨I.ok,I.os,hg,⟨fun b o e n hb hx=>?_,fun b o e n hb hx=>?_,fun b o e n hx=>?_,fun b o e hx=>?_,fun b xs e=>tups b xs (I.base.tups b xs e),fun b o xs e=>An b o xs (I.base.An b o xs e),fun b ps e=>?_⟩,?_,fun x c e=>?_,?_,fun x c e=>?_,fun p hp=>?_,hok,I.len⟩
 ·exact keep b o (neL b o e) hb (T6 b o e hx) (I.base.keep b o e n hb hx) (I.base.free b o e n hx)
 ·obtain⟨sl,e1⟩:=I.base.slot b o e n hb hx
  obtain⟨T7,e2⟩:=slot b _ (neL b o e) hb (T6 b o e hx) e1 (I.base.free b o e n hx)
  exact⟨T7,e2⟩
 ·obtain⟨o',e1⟩:=I.base.there b o e hx
  exact free b o' (T6 b o e hx) e1 (I.base.free b o e n hx)
 ·obtain⟨o',e1⟩:=I.base.there b o e hx
  exact there b o' (T6 b o e hx) e1
 ·obtain⟨m1,e1⟩:=I.base.BU b ps e
  obtain⟨m2,e2⟩:=BU b _ e1
  exact⟨m1++m2,by rw[e2,Array.append_assoc]⟩
 ·obtain⟨m,hn,hl⟩:=I.loc
  refine⟨m,ns m hn,fun i x v e1 e2 e3=>?_⟩
  obtain⟨u,r,l⟩:=hl i x v e1 e2 e3
  refine⟨u,r,?_⟩
  rcases l with l|⟨k,c,e,z⟩
  ·exact .inl l
  ·exact .inr ⟨k,c,e,cellK x c e _ z⟩
 ·obtain⟨v,z⟩:=I.cell x c e
  exact⟨v,cellK x c e v z⟩
 ·obtain⟨m,⟨o,_,_,ho,_⟩,_⟩:=I.loc
  exact free _ o (fun z=>(hch _ z).2.1 rfl) ho I.free
 ·obtain⟨v,o,ho,hd⟩:=I.cell x c e
  exact free c o (fun z=>(hch c z).2.2.1 x c e rfl) ho (I.sC x c e)
 ·obtain⟨e,n,ne,nf,d⟩:=I.pin p hp
  have Rh:p.1∉ch:=fun z=>(hch p.1 z).2.2.2 p hp rfl
  exact⟨keep p.1 p.2 ne nf Rh e n,free p.1 p.2 Rh e n,ne,nf,d⟩
theorem Inv.un{t':Nat}(I:Inv X pins σ H s)(u:Un X.fs [] H H' s.heap h')(hok:rC X.prog X.w H' h'):Inv X pins σ H' { s with heap:=h',toks:=t' }:=by
 obtain⟨m,⟨o,es,ep,ho,r⟩,_⟩:=id I.loc
 obtain⟨sl,hL⟩:=u.any ho I.free (by simp)
 exact I.step (g':=s.gens) (d':=s.drawn) (ch:=[]) (fun _ z=>nomatch z) (fun b o _ hb _ e n=>u.keep b o e n hb (by simp)) (fun b o _ hb _ e n=>u.slot b o e n hb (by simp)) (fun b o _ e n=>u.free b o e n (by simp)) (fun b o _ e=>u.there b o e (by simp)) u.tups u.An u.BU (fun m' hm=>by
  obtain⟨o',es',UZ,ho',r'⟩:=hm
  rw[ho]at ho';cases ho'
  exact⟨_,es',UZ,hL,r'⟩) hok I.bare
theorem Inv.call{g':Array GenState}{t':Nat}{d':Drawn}{ch:List Addr}(I:Inv X pins σ H s)(u:Un (frs X.stack) ch H H' s.heap h')(hok:rC X.prog X.w H' h')(hg:AllBare g')
  (hch:∀ b∈ch,(b∈X.ex∨X.s₀.heap.objs.size≤b)∧b≠X.env.locals∧(∀ x c,X.env.cells.lookup x=some c→c≠b)∧∀ p∈X.pn++pins,p.1≠b) :
  Inv X pins σ H' { s with heap:=h',gens:=g',drawn:=d',toks:=t' }:=by
 obtain⟨m,⟨o,es,ep,ho,r⟩,_⟩:=id I.loc
 obtain⟨sl,hL⟩:=u.any ho I.free fun z=>(hch _ z).2.1 rfl
 exact I.step (ch:=ch) hch (fun b o hL hb hc e n=>u.keep b o e n (fun z=>(List.mem_cons.mp (I.oU b z)).elim hL hb) hc) (fun b o _ _ hc e n=>u.any e n hc) (fun b o hc e n=>u.free b o e n hc) (fun b o hc e=>u.there b o e hc) u.tups u.An u.BU (fun m' hm=>by
  obtain⟨o',es',UZ,ho',r'⟩:=hm
  rw[ho]at ho';cases ho'
  exact⟨_,es',UZ,hL,r'⟩) hok hg
theorem Inv.turned{t':Nat}{it:Addr}(I:Inv X pins σ H s)(k:∀ b o,b≠it→s.heap.get? b=some o→h'.get? b=some o)(hn:H it=none)(hL:it≠X.env.locals)
  (h1:it∈X.ex∨X.s₀.heap.objs.size≤it) (h2:∀ x c,X.env.cells.lookup x=some c→c≠it) (h3:∀ p∈X.pn++pins,p.1≠it):Inv X pins σ H { s with heap:=h',toks:=t' }:=by
 have NY:∀ b u,H b=some u→b≠it:=fun b u e z=>by rw[z,hn]at e;cases e
 refine I.step (g':=s.gens) (d':=s.drawn) (ch:=[it]) (fun b hb=>?_) (fun b o _ _ hc e _=>k b o (fun z=>hc (by simp[z])) e) (fun b o _ _ hc e _=>⟨o.slots,k b o (fun z=>hc (by simp[z])) e⟩) (fun _ _ _ _ n=>n)
  (fun b o hc e=>⟨o,k b o (fun z=>hc (by simp[z])) e⟩) (fun _ _ e=>e) (fun _ _ _ e=>e) (fun b ps e=>⟨#[],by rw[e];simp⟩) (fun m hm=>?_) (fun b u e=>?_) I.bare
 ·have e:b=it:=by simpa using hb
  subst e
  exact⟨h1,hL,h2,h3⟩
 ·obtain⟨o,es,ep,ho,r⟩:=hm
  exact⟨o,es,ep,k _ o (Ne.symm hL) ho,r⟩
 ·refine (I.hok b u e).stay (fun c v hc q=>k c v ?_ q) (fun _ q=>q) fun _ _ q=>q
  rcases hc with z|z
  ·rw[z];exact NY b u e
  ·exact NY c _ z
theorem Inv.tok(I:Inv X pins σ H s)(t:Nat):Inv X pins σ H { s with toks:=t }:=I.un (h':=s.heap) (t':=t) Un.refl I.hok
theorem Inv.kept{t':Nat}(I:Inv X pins σ H s)(k:∀ b u,s.heap.get? b=some u→h'.get? b=some u):Inv X pins σ H { s with heap:=h',toks:=t' }:=I.un (Un.kept k) (I.hok.kept k)
theorem Inv.laid{a:Addr}{o:HO}{t':Nat}(I:Inv X pins σ H s)(k:∀ b u,s.heap.get? b=some u→h'.get? b=some u)(hp:s.heap.objs.size≤a)(new:gh X.prog X.w (upd H a o) h' a o) :
  Inv X pins σ (upd H a o) { s with heap:=h',toks:=t' }:=I.un (Un.laid k hp (I.hok.fresh hp)) (I.hok.laid k hp new)
theorem Inv.write{x e:Addr}{o:HO}{t':Nat}(I:Inv X pins σ H s)(mu:Q9 (H x))(he:e=x∨H e=some (.own x))(k:∀ b u,b≠e→s.heap.get? b=some u→h'.get? b=some u)(QE:∃ u,h'.get? e=some u)
  (new:gh X.prog X.w (upd H x o) h' x o):Inv X pins σ (upd H x o) { s with heap:=h',toks:=t' }:=I.un (Un.write mu he k QE) (I.hok.write mu he k QE new)
theorem Inv.G4{NZ:List (Addr × Obj)}(I:Inv X pins σ H s)(h:∀ p∈NZ,s.heap.get? p.1=some p.2∧H p.1=none∧p.1≠X.env.locals∧p.1∉X.fs∧∀ v,p.2.data≠.cell v):Inv X NZ σ H s :=
 ⟨I.ok,I.os,I.bare,I.base,I.loc,I.cell,I.free,I.sC,fun p hp=>(List.mem_append.mp hp).elim (fun z=>I.pin p (List.mem_append_left _ z)) (h p),I.hok,I.len⟩
theorem DK{N:List Str}(hN:N.Nodup){i j:Nat}{x:Str}(a:N[i]?=some x)(b:N[j]?=some x):i=j:=by
 obtain⟨h1,e1⟩:=List.getElem?_eq_some_iff.mp a
 obtain⟨h2,e2⟩:=List.getElem?_eq_some_iff.mp b
 exact (List.getElem_inj hN).mp (e1.trans e2.symm)
theorem AK{M:Model}{A:Around}{E:Value→Shared→Prop}{i:Nat}{x:Str}{v:V}{u:Value}{Q:Unit→Shared→Prop}(I:Inv X pins σ H s)(hN:X.N.Nodup)(hi:X.N[i]?=some x)(hx:Loc X.env.scope x)(r:RelV v u)
  (h:∀ s',Inv X pins (σ.set i (some v)) H s'→(∃ a,Heap.SameBut a s.heap s'.heap∧(a=X.env.locals∨X.env.cells.lookup x=some a))→Q () s') (hf:X.fn x=true∨X.env.scope.names.lookup x=some .local:=by first|exact .inl rfl|exact .inr rfl|assumption):wpAny M A (storeName X.env x u) Q E s:=by
 obtain⟨m,hn,hl⟩:=id I.loc
 have hcls:(X.env.scope.kind == .class || (X.env.scope.kind == .module&&X.env.locals != X.env.globals))=false:=by rw[I.ok.kind];rfl
 have hiσ:i<σ.length:=by rw[I.len];exact (List.getElem?_eq_some_iff.mp hi).1
 have OS:=I.OS
 have tracked:∀ {a:Addr} {h':Heap},(∃ o,s.heap.get? a=some o∧H a=none)→Heap.SameBut a s.heap h'→rC X.prog X.w H h':=fun {a h'} ha hs b ob e=>by
  obtain⟨_,_,hfree⟩:=ha
  refine (I.hok b ob e).stay (fun c w' hc q=>(hs.2 c ?_).trans q) (fun _ q=>q) fun _ _ q=>q
  rintro rfl
  rcases hc with rfl|hc
  ·rw[hfree]at e;cases e
  ·rw[hfree]at hc;cases hc
 rcases hx with hk|hk
 ·refine wpAny_storeName_local hk hn (fun h' hn' hs=>?_) hcls
  obtain⟨oL,_,_,hoL,_⟩:=id hn
  refine h _ ⟨I.ok,I.os,I.bare,⟨fun b o e n hb hx=>?_,fun b o e n hb hx=>?_,I.base.free,fun b o e hx=>?_,I.base.tups,I.base.An,I.base.BU⟩,⟨_,hn',fun j y v' e1 e2 e3=>?_⟩,fun y c e=>?_,I.free,I.sC,fun p hp=>?_,tracked ⟨oL,hoL,I.free⟩ hs,by simpa using I.len⟩ ⟨_,hs,.inl rfl⟩
  ·exact (hs.2 b (jL (pU (Heap.lt_size e) I.ok.above))).trans (I.base.keep b o e n hb hx)
  ·obtain⟨sl,e1⟩:=I.base.slot b o e n hb hx
   exact⟨sl,(hs.2 b (jL (pU (Heap.lt_size e) I.ok.above))).trans e1⟩
  ·obtain⟨o',e1⟩:=I.base.there b o e hx
   exact⟨o',(hs.2 b (jL (pU (Heap.lt_size e) I.ok.above))).trans e1⟩
  ·by_cases hj:j=i
   ·subst hj
    rw[hi]at e1;cases e1
    rw[List.getElem?_set_self hiσ]at e2
    cases e2
    exact⟨u,r,.inl ⟨hk,by simp⟩⟩
   ·rw[List.getElem?_set_ne (Ne.symm hj)]at e2
    obtain⟨u',r',q⟩:=hl j y v' e1 e2 e3
    refine⟨u',r',?_⟩
    rcases q with ⟨k,e⟩|⟨k,c,e,z⟩
    ·refine .inl ⟨k,?_⟩
     have:y≠x:=fun e=>hj (DK hN e1 (e ▸ hi))
     simp[this,e]
    ·exact .inr ⟨k,c,e,z.sameBut hs (OS y c e)⟩
  ·obtain⟨w',z⟩:=I.cell y c e
   exact⟨w',z.sameBut hs (OS y c e)⟩
  ·obtain⟨e,n,ne,nf,d⟩:=I.pin p hp
   exact⟨(hs.2 p.1 ne).trans e,n,ne,nf,d⟩
 ·have hfn:X.fn x=true:=by
   rcases hf with z|z
   ·exact z
   ·rw[z]at hk;cases hk
  obtain⟨c,hc⟩:=I.ok.has x (.inl hk)
  obtain⟨w',z⟩:=I.cell x c hc
  refine wpAny_storeName_cell I.ok.kind hk hc z (fun h' hc' hs=>?_)
  obtain⟨oc,hoc,U0⟩:=id z
  refine h { s with heap:=h' } ⟨I.ok,I.os,I.bare,⟨fun b o e n hb hx=>?_,fun b o e n hb hx=>?_,I.base.free,fun b o e hx=>?_,I.base.tups,I.base.An,I.base.BU⟩,⟨m,hn.sameBut hs (Ne.symm (OS x c hc)),fun j y v' e1 e2 e3=>?_⟩,fun y c' e=>?_,I.free,I.sC,fun p hp=>?_,tracked ⟨oc,hoc,I.sC x c hc⟩ hs,by simpa using I.len⟩ ⟨c,hs,.inr hc⟩
  ·exact (hs.2 b (jL (pU (Heap.lt_size e) (I.ok.Rg x c hfn hc)))).trans (I.base.keep b o e n hb hx)
  ·obtain⟨sl,e1⟩:=I.base.slot b o e n hb hx
   exact⟨sl,(hs.2 b (jL (pU (Heap.lt_size e) (I.ok.Rg x c hfn hc)))).trans e1⟩
  ·obtain⟨o',e1⟩:=I.base.there b o e hx
   exact⟨o',(hs.2 b (jL (pU (Heap.lt_size e) (I.ok.Rg x c hfn hc)))).trans e1⟩
  ·by_cases hj:j=i
   ·subst hj
    rw[hi]at e1;cases e1
    rw[List.getElem?_set_self hiσ]at e2
    cases e2
    exact⟨u,r,.inr ⟨.inl hk,c,hc,hc'⟩⟩
   ·rw[List.getElem?_set_ne (Ne.symm hj)]at e2
    obtain⟨u',r',q⟩:=hl j y v' e1 e2 e3
    refine⟨u',r',?_⟩
    rcases q with q|⟨k,c',e,z'⟩
    ·exact .inl q
    ·refine .inr ⟨k,c',e,z'.sameBut hs ?_⟩
     rintro rfl
     exact hj (DK hN e1 (I.ok.inj _ _ _ e hc ▸ hi))
  ·by_cases hcc:c'=c
   ·subst hcc;exact⟨_,hc'⟩
   ·obtain⟨w2,z2⟩:=I.cell y c' e
    exact⟨w2,z2.sameBut hs hcc⟩
  ·obtain⟨e,n,ne,nf,d⟩:=I.pin p hp
   refine⟨(hs.2 p.1 ?_).trans e,n,ne,nf,d⟩
   intro q
   rw[q,hoc]at e
   have q':oc=p.2:=rX e
   exact d w' (by rw[← q'];exact U0)
theorem yp{M:Model}{A:Around}{E:Value→Shared→Prop}{i:Nat}{x:Str}{v:V}{u:Value}{Q:Unit→Shared→Prop}(I:Inv X pins σ H s)(hN:X.N.Nodup)(hi:X.N[i]?=some x)(hx:Loc X.env.scope x)(r:RelV v u)
  (h:∀ s',Inv X pins (σ.set i (some v)) H s'→Q () s') (hf:X.fn x=true∨X.env.scope.names.lookup x=some .local:=by first|exact .inl rfl|exact .inr rfl|assumption):wpAny M A (storeName X.env x u) Q E s :=
 AK I hN hi hx r (fun s' I' _=>h s' I') hf
theorem Inv.J9{s':Shared}{ch:List Addr}(I:Inv X pins σ H s)(ho:s'.os=s.os)(u:Un (frs X.stack) ch H H' s.heap s'.heap)(hok:rC X.prog X.w H' s'.heap)(hg:AllBare s'.gens)
  (hch:∀ b∈ch,(b∈X.ex∨X.s₀.heap.objs.size≤b)∧b≠X.env.locals∧(∀ x c,X.env.cells.lookup x=some c→c≠b)∧∀ p∈X.pn++pins,p.1≠b):Inv X pins σ H' s':=by
 obtain⟨h',g',d',t',o'⟩:=s'
 have e:o'=s.os:=ho
 subst e
 exact I.call (g':=g') (t':=t') (d':=d') u hok hg hch
end
abbrev XK:=Value→Option Addr→Hp→Prop
abbrev St:=List (Option V)
abbrev VK:=V→Hp→Prop
abbrev TE:=St→Hp→VK→Prop
abbrev TT:=St→Hp→(Bool→Hp→Prop)→Prop
abbrev TA:=St→Hp→(List V→Hp→Prop)→Prop
structure Ends where
 nx:St→Hp→Prop
 rt:VK
 bk:St→Hp→Prop:=fun _ _=>False
 ct:St→Hp→Prop:=fun _ _=>False
abbrev TS:=Ends→St→Hp→Prop
inductive EP(X:Cx)(pins:List (Addr × Obj))(σ:St)(Q:VK)(u:Value)(s':Shared):Prop
 | mk (v:V) (H':Hp) (_:Inv X pins σ H' s') (_:RelV v u) (_:Q v H'):EP X pins σ Q u s'
def TP(X:Cx)(pins:List (Addr × Obj))(σ:St)(Q:Bool→Hp→Prop)(b:Bool)(s':Shared):Prop:=∃ H',Inv X pins σ H' s'∧Q b H'
inductive AP(X:Cx)(pins:List (Addr × Obj))(σ:St)(Q:List V→Hp→Prop)(us:List Value)(s':Shared):Prop
 | mk (vs:List V) (H':Hp) (_:Inv X pins σ H' s') (_:Vals vs us) (_:Q vs H'):AP X pins σ Q us s'
def SP(X:Cx)(pins:List (Addr × Obj))(D:Ends)(f:Flow)(s':Shared):Prop :=
 match f with
 | .next=>∃ σ' H',Inv X pins σ' H' s'∧D.nx σ' H'
 | .brk=>∃ σ' H',Inv X pins σ' H' s'∧D.bk σ' H'
 | .cont=>∃ σ' H',Inv X pins σ' H' s'∧D.ct σ' H'
 | .ret u=>∃ v σ' H',Inv X pins σ' H' s'∧RelV v u∧D.rt v H'
def PE(X:Cx)(e:Expr)(t:TE):Prop :=
 ∀ (pins:List (Addr × Obj)) (s:Shared) (σ:St) (H:Hp) (Q:VK),Inv X pins σ H s→t σ H Q→wpAny (model X.prog X.w) X.A (eval e X.env) (EP X pins σ Q) X.xe s
def PT(X:Cx)(e:Expr)(t:TT):Prop :=
 ∀ (pins:List (Addr × Obj)) (s:Shared) (σ:St) (H:Hp) (Q:Bool→Hp→Prop),Inv X pins σ H s→t σ H Q→wpAny (model X.prog X.w) X.A (isTrue e X.env (eval e X.env)) (TP X pins σ Q) X.xe s
def PW(X:Cx)(e:Expr)(t:TT):Prop :=
 ∀ (whole:Sem Value) (pins:List (Addr × Obj)) (s:Shared) (σ:St) (H:Hp) (Q:Bool→Hp→Prop),Inv X pins σ H s→t σ H Q→wpAny (model X.prog X.w) X.A (isTrue e X.env whole) (TP X pins σ Q) X.xe s
theorem PW.pt{X:Cx}{e:Expr}{t:TT}(h:PW X e t):PT X e t:=h _
def PA(X:Cx)(es:List Expr)(t:TA):Prop :=
 ∀ (pos:Pos) (pins:List (Addr × Obj)) (s:Shared) (σ:St) (H:Hp) (Q:List V→Hp→Prop),Inv X pins σ H s→t σ H Q→wpAny (model X.prog X.w) X.A (spliced (backTo pos (starEach es X.env))) (AP X pins σ Q) X.xe s
def PS(X:Cx)(st:Stmt)(t:TS):Prop :=
 ∀ (pins:List (Addr × Obj)) (s:Shared) (σ:St) (H:Hp) (D:Ends),Inv X pins σ H s→t D σ H→wpAny (model X.prog X.w) X.A (exec st X.env) (SP X pins D) X.xe s
def G5(X:Cx)(st:List Stmt)(t:TS):Prop :=
 ∀ (pins:List (Addr × Obj)) (s:Shared) (σ:St) (H:Hp) (D:Ends),Inv X pins σ H s→t D σ H→wpAny (model X.prog X.w) X.A (execs st X.env) (SP X pins D) X.xe s
theorem bQ{α:Type}{t:Sem α}{Q Q':α→Shared→Prop}{M:Model}{A:Around}{E:Value→Shared→Prop}{s:Shared}(h:wpAny M A t Q E s)(hQ:∀ a s,Q a s→Q' a s):wpAny M A t Q' E s:=wpAny_mono h hQ fun _ _ x=>x
end L2
namespace L2
open PySem PySem.Spec PyProof.Rows
section
variable {X:Cx}
inductive My(i:Nat)(σ:St)(H:Hp)(Q:VK):Prop
 | mk (v:V) (_:σ[i]?=some (some v)) (_:Q v H):My i σ H Q
inductive Ri(x:V)(H:Hp)(Q:Bool→Hp→Prop):Prop
 | mk (c:Bool) (_:x=.bl c) (_:Q c H):Ri x H Q
inductive isI(x:V)(H:Hp)(Q:Option Int→Hp→Prop):Prop
 | mk (i:Int) (_:x=.int i) (_:Q (some i) H):isI x H Q
def tC(v:V):TE:=fun _ H Q=>Q v H
theorem OT{i:Nat}{x:Str}{pos:Pos}(hN:X.N[i]?=some x)(hv:T5 X.env.scope x)(hd:(x == ("__debug__":Str))=false:=by decide)(hcd:(x == ("__classdict__":Str))=false:=by decide):PE X (.Name x pos) (My i):=by
 intro pins s σ H Q I h
 obtain⟨v,e,h⟩:=h
 obtain⟨m,hn,hl⟩:=I.loc
 obtain⟨u,r,l⟩:=hl i x v hN e hv
 have fin:EP X pins σ Q u s:=⟨v,H,I,r,h⟩
 rcases l with ⟨hk,hm⟩|⟨hk,c,hc,hcell⟩
 ·exact wpAny_Name (wpAny_loadName_local I.ok.kind hk hn hm fin) hd
 ·rcases hk with hk|hk
  ·exact wpAny_Name (wpAny_loadName_cell I.ok.kind hk hc hcell fin) hd
  ·exact wpAny_Name (wpAny_loadName_free I.ok.kind hk hc hcell fin hcd) hd
theorem az{i j pos}:PE X (.Constant (.int i) j pos) (tC (.int i)):=fun _ _ _ H _ I h=>wpAny_Constant_int ⟨.int i,H,I.tok _,⟨_,rfl⟩,h⟩
theorem oA{b j pos}:PE X (.Constant (.bool b) j pos) (tC (.bl b)):=fun _ _ _ H _ I h=>Constant_bool ⟨.bl b,H,I,rfl,h⟩
theorem OU{j pos}:PE X (.Constant .none j pos) (tC .jE):=fun _ _ _ H _ I h=>Constant_none ⟨.jE,H,I,rfl,h⟩
theorem bT{x j pos}:PE X (.Constant (.str x) j pos) (tC (.str x)):=fun _ _ _ H _ I h=>Calls.Constant_str ⟨.str x,H,I.tok _,⟨_,rfl⟩,h⟩
def Gl(X:Cx)(x:Str):Prop:=X.env.kindOf x=some .globalImplicit
theorem uA{E:Value→Shared→Prop}{pins:List (Addr × Obj)}{s:Shared}{σ:St}{H:Hp}{x:Str}{u:Value}{pos:Pos}{Q:Value→Shared→Prop}(I:Inv X pins σ H s)(hg:Gl X x)(hm:X.mg x=some u)(h:Q u s)
  (hd:(x == ("__debug__":Str))=false:=by decide):wpAny (model X.prog X.w) X.A (eval (.Name x pos) X.env) Q E s :=
 Calls.Name_function_global I.ok.kind hg (Calls.loadGlobal_global (by rw[I.ok.glob];exact I.mod.glob.keeps I.bk) hm h) hd
theorem vp{E:Value→Shared→Prop}{pins:List (Addr × Obj)}{s:Shared}{σ:St}{H:Hp}{x:Str}{u:Value}{pos:Pos}{Q:Value→Shared→Prop}(I:Inv X pins σ H s)(hg:Gl X x)(hm:X.mg x=none)(hv:bootBuiltins x=some u)(h:Q u s)
  (hn:x≠"__name__":=by decide) (hd:(x == ("__debug__":Str))=false:=by decide):wpAny (model X.prog X.w) X.A (eval (.Name x pos) X.env) Q E s:=by
 obtain⟨mb,h1,h2⟩:=I.mod.blt
 exact Calls.Name_function_global I.ok.kind hg (Calls.loadGlobal_builtin (by rw[I.ok.glob];exact I.mod.glob.keeps I.bk) hm (by rw[I.ok.blt];exact h1.keeps I.bk) ((h2 x hn).trans hv) h) hd
theorem BW{x:Str}{v:V}{u:Value}{pos:Pos}(hg:Gl X x)(hm:X.mg x=some u)(r:RelV v u)(hd:(x == ("__debug__":Str))=false:=by decide):PE X (.Name x pos) (tC v) :=
 fun _ _ _ H _ I h=>uA I hg hm ⟨v,H,I,r,h⟩ hd
theorem Mz{x:Str}{v:V}{u:Value}{pos:Pos}(hg:Gl X x)(hm:X.mg x=none)(hv:bootBuiltins x=some u)(r:RelV v u)(hn:x≠"__name__":=by decide)(hd:(x == ("__debug__":Str))=false:=by decide):PE X (.Name x pos) (tC v) :=
 fun _ _ _ H _ I h=>vp I hg hm hv ⟨v,H,I,r,h⟩ hn hd
variable {a b:Expr} {ta tb:TE} {pos:Pos}
def PC(X:Cx)(op:CmpOp)(a b:Expr)(t:TE):Prop :=
 ∀ (pins:List (Addr × Obj)) (s:Shared) (σ:St) (H:Hp) (Q:VK),Inv X pins σ H s→t σ H Q →
  wpAny (model X.prog X.w) X.A (eval a X.env) (fun v s₁=>wpAny (model X.prog X.w) X.A (eval b X.env) (fun u s₂=>wpAny (model X.prog X.w) X.A (compareOp op v u) (EP X pins σ Q) X.xe s₂) X.xe s₁) X.xe s
theorem DL(b:Expr){op:CmpOp}(h:op≠.In)(h2:op≠.NotIn):behindInMarks op b=false:=by
 have e1:(op == CmpOp.In)=false:=by cases op <;> first|rfl|exact absurd rfl h
 have e2:(op == CmpOp.NotIn)=false:=by cases op <;> first|rfl|exact absurd rfl h2
 cases b <;> simp[behindInMarks,e1,e2]
def U6(ta:TE):TE:=fun σ H Q=>ta σ H fun x H1=>Q (.bl (decide (x=.jE))) H1
def Rj(ta:TE):TE:=fun σ H Q=>ta σ H fun x H1=>Q (.bl (!decide (x=.jE))) H1
theorem RelV.DM{x:V}{v:Value}(r:RelV x v):(v == Value.none)=decide (x=.jE):=by
 cases x with
 | jE=>cases r;rfl
 | bl _=>cases r;rfl
 | int _=>obtain⟨t,rfl⟩:=r;rfl
 | str _=>obtain⟨t,rfl⟩:=r;rfl
 | FT _=>obtain⟨t,rfl⟩:=r;rfl
 | NW _=>obtain⟨t,rfl⟩:=r;rfl
 | ref _=>cases r;rfl
 | ty _=>cases r;rfl
theorem Ka{j pos'}(ha:PE X a ta):PC X .Is a (.Constant .none j pos') (U6 ta):=by
 intro pins s σ H Q I h
 refine bQ (ha pins s σ H _ I h) fun v s1 ⟨x,H1,I1,r1,q1⟩=>?_
 exact Constant_none (is_none_gen ⟨.bl _,H1,I1,by rw[r1.DM];rfl,q1⟩)
theorem G6{j pos'}(ha:PE X a ta):PC X .IsNot a (.Constant .none j pos') (Rj ta):=by
 intro pins s σ H Q I h
 refine bQ (ha pins s σ H _ I h) fun v s1 ⟨x,H1,I1,r1,q1⟩=>?_
 exact Constant_none (isnot_none_gen ⟨.bl _,H1,I1,by rw[r1.DM];rfl,q1⟩)
def tB(t:TE):TT:=fun σ H Q=>t σ H fun x H1=>Ri x H1 Q
theorem OV{op:CmpOp}{t:TE}(h:PC X op a b t)(h1:behindInMarks op b=false:=by first|exact DL _ (by decide) (by decide)|rfl):PE X (.Compare a [op] [b] pos) t:=fun pins s σ H Q I hw=>wpAny_Compare1 (h pins s σ H Q I hw) h1
theorem yq{op:CmpOp}{t:TE}(h:PC X op a b t)(h1:behindInMarks op b=false:=by first|exact DL _ (by decide) (by decide)|rfl):PT X (.Compare a [op] [b] pos) (tB t):=by
 intro pins s σ H Q I hw
 refine wpAny_isTrue_Compare1 (bQ (h pins s σ H _ I hw) fun v s1 h1=>bQ h1 fun u s2 h2=>bQ h2 fun c s3 ⟨x,H1,I1,r1,q1⟩=>?_) h1
 obtain⟨d,rfl,q⟩:=q1
 cases r1
 exact wpAny_truthy_bool ⟨H1,I1,q⟩
theorem kT{e:Expr}{t:TE}(h:PE X e t)(he:∀ whole,isTrue e X.env whole=(do let v ← whole;standAt e.pos;holding [v] (truthy v)):=by intro _;rfl):PT X e (tB t):=by
 intro pins s σ H Q I hw
 refine isTrue_plain (bQ (h pins s σ H _ I hw) fun v s1 ⟨x,H1,I1,r1,q1⟩=>?_) (he _)
 obtain⟨d,rfl,q⟩:=q1
 cases r1
 exact wpAny_truthy_bool ⟨H1,I1,q⟩
variable {tA T8:TT} {rest:List Expr}
def U7(t u:TT):TT:=fun σ H Q=>t σ H fun c H1=>if c=true then u σ H1 Q else Q false H1
def tOr(t u:TT):TT:=fun σ H Q=>t σ H fun c H1=>if c=true then Q true H1 else u σ H1 Q
def U9(t:TT):TT:=fun σ H Q=>t σ H fun c H1=>Q (!c) H1
theorem G7(ha:PT X a tA):PW X (.BoolOp .And [a] pos) tA:=by
 intro wh pins s σ H Q I h
 refine isTrue_and (bQ (ha pins s σ H Q I h) fun c s1 e=>?_)
 cases c with
 | true=>exact isTrue_and_nil e
 | false=>exact e
theorem OW(ha:PT X a tA):PW X (.BoolOp .Or [a] pos) tA:=by
 intro wh pins s σ H Q I h
 refine isTrue_or (bQ (ha pins s σ H Q I h) fun c s1 e=>?_)
 cases c with
 | false=>exact isTrue_or_nil e
 | true=>exact e
theorem Kc(ha:PT X a tA)(hb:PW X (.BoolOp .And (b::rest) pos) T8):PW X (.BoolOp .And (a::b::rest) pos) (U7 tA T8):=by
 intro wh pins s σ H Q I h
 refine isTrue_and (bQ (ha pins s σ H _ I h) fun c s1 ⟨H1,I1,q1⟩=>?_)
 cases c with
 | true=>exact hb wh pins s1 σ H1 Q I1 q1
 | false=>exact⟨H1,I1,q1⟩
theorem Rk(ha:PT X a tA)(hb:PW X (.BoolOp .Or (b::rest) pos) T8):PW X (.BoolOp .Or (a::b::rest) pos) (tOr tA T8):=by
 intro wh pins s σ H Q I h
 refine isTrue_or (bQ (ha pins s σ H _ I h) fun c s1 ⟨H1,I1,q1⟩=>?_)
 cases c with
 | true=>exact⟨H1,I1,q1⟩
 | false=>exact hb wh pins s1 σ H1 Q I1 q1
theorem kU(ha:PT X a tA):PT X (.UnaryOp .Not a pos) (U9 tA):=by
 intro pins s σ H Q I h
 exact isTrue_not (ha pins s σ H (fun c H1=>Q (!c) H1) I h)
def Rl(ta tb:TE):TE:=fun σ H Q=>ta σ H fun x H1=>Ri x H1 fun c H1=>if c=true then tb σ H1 Q else Q (.bl false) H1
def Rm(ta:TE):TE:=fun σ H Q=>ta σ H fun x H1=>Ri x H1 fun c H1=>Q (.bl (!c)) H1
theorem pV{op}{t:TE}(h:PE X a t):PE X (.BoolOp op [a] pos) t:=fun pins s σ H Q I hw=>BoolOp_one (h pins s σ H Q I hw)
theorem oV(ha:PE X a ta)(hb:PE X (.BoolOp .And (b::rest) pos) tb):PE X (.BoolOp .And (a::b::rest) pos) (Rl ta tb):=by
 intro pins s σ H Q I h
 refine BoolOp_and (bQ (ha pins s σ H _ I h) fun v s1 ⟨x,H1,I1,r1,q1⟩=>?_)
 obtain⟨c,rfl,q1⟩:=q1
 cases r1
 refine wpAny_truthy_bool ?_
 cases c with
 | true=>exact hb pins s1 σ H1 Q I1 q1
 | false=>exact⟨.bl false,H1,I1,rfl,q1⟩
theorem OX(ha:PE X a ta):PE X (.UnaryOp .Not a pos) (Rm ta):=by
 intro pins s σ H Q I h
 refine UnaryOp_ (bQ (ha pins s σ H _ I h) fun v s1 ⟨x,H1,I1,r1,q1⟩=>?_)
 obtain⟨c,rfl,q1⟩:=q1
 cases r1
 exact not_of (wpAny_truthy_bool ⟨.bl (!c),H1,I1,rfl,q1⟩)
def tIf(t:TT)(ta tb:TE):TE:=fun σ H Q=>t σ H fun c H1=>if c=true then ta σ H1 Q else tb σ H1 Q
theorem DN{c:Expr}(hc:PT X c tA)(ha:PE X a ta)(hb:PE X b tb):PE X (.IfExp c a b pos) (tIf tA ta tb):=by
 intro pins s σ H Q I h
 refine wpAny_IfExp (bQ (hc pins s σ H _ I h) fun d s1 ⟨H1,I1,q1⟩=>?_)
 cases d with
 | true=>exact ha pins s1 σ H1 Q I1 q1
 | false=>exact hb pins s1 σ H1 Q I1 q1
end
end L2
namespace L2
open PySem PySem.Spec PyProof.Rows
def bG(K:PySem.W.Frag)(H:Hp)(a:Addr)(xs:List V):Prop :=
 Rd H a (.lst xs) ∨
  ∃ (o:Obj) (its:Array Value) (n:Nat),K.lookup a=some o∧o.cls=.type "list"∧o.dict=none∧o.data=.seq its n∧its.size≤sizeLine∧Vals xs its.toList
def jK(K:PySem.W.Frag)(H:Hp)(a:Addr)(xs:List V):Prop :=
 Rd H a (.tup xs) ∨
  ∃ (o:Obj) (its:Array Value) (n:Nat),K.lookup a=some o∧o.cls=.type "tuple"∧o.data=.seq its n∧its.size≤sizeLine∧Vals xs its.toList
def Va:Value→Option V
 | .none=>some .jE
 | .bool b=>some (.bl b)
 | .int i _=>some (.int i)
 | .str x _=>some (.str x)
 | .bytes b _=>some (.FT b)
 | .float b _=>some (.NW b)
 | .ref a=>some (.ref a)
 | .type n=>some (.ty n)
 | _=>none
theorem RelV.abs{x:V}{u:Value}(r:RelV x u):Va u=some x:=by
 cases x with
 | jE=>cases r;rfl
 | bl _=>cases r;rfl
 | int _=>obtain⟨t,rfl⟩:=r;rfl
 | str _=>obtain⟨t,rfl⟩:=r;rfl
 | FT _=>obtain⟨t,rfl⟩:=r;rfl
 | NW _=>obtain⟨t,rfl⟩:=r;rfl
 | ref _=>cases r;rfl
 | ty _=>cases r;rfl
theorem RelV.inj{x y:V}{u:Value}(r:RelV x u)(q:RelV y u):x=y:=rX (r.abs.symm.trans q.abs)
theorem Vals.inj:∀ {xs ys:List V} {us:List Value},Vals xs us→Vals ys us→xs=ys
 | _,_,_,.nil,.nil=>rfl
 | _,_,_,.cons r t,.cons r' t'=>by rw[r.inj r',Vals.inj t t']
section
variable {X:Cx} {pins:List (Addr × Obj)} {σ:St} {H:Hp} {s:Shared} {a:Addr} {xs ys:List V}
theorem bG.of{K:PySem.W.Frag}(h:H a=some (.lst xs)):bG K H a xs:=.inl (.inl h)
theorem jK.of{K:PySem.W.Frag}(h:H a=some (.tup xs)):jK K H a xs:=.inl (.inl h)
theorem Inv.list(I:Inv X pins σ H s)(h:bG X.K H a xs):∃ its:List Value,Vals xs its∧PlainL s.heap a its.toArray∧xs.length≤sizeLine:=by
 rcases h with h|⟨o,its,n,hk,hc,hd,hs,hz,r⟩
 ·obtain⟨z,its,n,r,e⟩:=h.ok I.hok
  exact⟨its,r,⟨_,n,e,rfl,rfl,rfl⟩,z⟩
 ·refine⟨its.toList,r,⟨o,n,I.wF a o hk,hc,hd,by simpa using hs⟩,?_⟩
  have e:=r.length
  simp only[Array.length_toList]at e
  omega
theorem Inv.tuple(I:Inv X pins σ H s)(h:jK X.K H a xs):∃ its:List Value,Vals xs its∧IsTup s.heap a its.toArray∧xs.length≤sizeLine:=by
 rcases h with h|⟨o,its,n,hk,hc,hs,hz,r⟩
 ·obtain⟨z,its,r,p⟩:=h.ok I.hok
  exact⟨its,r,p,z⟩
 ·refine⟨its.toList,r,⟨o,I.wF a o hk,hc,n,by simpa using hs⟩,?_⟩
  have e:=r.length
  simp only[Array.length_toList]at e
  omega
theorem Inv.DO(I:Inv X pins σ H s)(h:bG X.K H a xs)(h':bG X.K H a ys):xs=ys:=by
 obtain⟨its,r,⟨o,n,e,_,_,d⟩,_⟩:=I.list h
 obtain⟨its',r',⟨o',n',e',_,_,d'⟩,_⟩:=I.list h'
 rw[e]at e';cases e'
 rw[d]at d'
 injection d' with d1 _
 have:its=its':=by simpa using congrArg Array.toList d1
 subst this
 exact r.inj r'
theorem Inv.AL(I:Inv X pins σ H s)(h:jK X.K H a xs)(h':jK X.K H a ys):xs=ys:=by
 obtain⟨its,r,⟨o,e,_,n,d⟩,_⟩:=I.tuple h
 obtain⟨its',r',⟨o',e',_,n',d'⟩,_⟩:=I.tuple h'
 rw[e]at e';cases e'
 rw[d]at d'
 injection d' with d1 _
 have:its=its':=by simpa using congrArg Array.toList d1
 subst this
 exact r.inj r'
end
abbrev Cx.Ao(X:Cx)(E:Value→Shared→Prop):Cx:={ X with xe:=E }
abbrev Cx.JV(X:Cx):Cx:=X.Ao fun _ _=>False
theorem Cx.Ok.Ao{X:Cx}(ok:X.Ok)(E:Value→Shared→Prop):(X.Ao E).Ok :=
 ⟨ok.mod,ok.kind,ok.glob,ok.blt,ok.above,ok.inj,ok.has,ok.Rg,ok.hd,ok.frames,ok.stk,ok.exf,ok.bs,ok.Mw,ok.ID,ok.Mx,ok.uy,ok.OR⟩
theorem Cx.Ok.qI{X:Cx}{E:Value→Shared→Prop}(ok:(X.Ao E).Ok):X.Ok :=
 ⟨ok.mod,ok.kind,ok.glob,ok.blt,ok.above,ok.inj,ok.has,ok.Rg,ok.hd,ok.frames,ok.stk,ok.exf,ok.bs,ok.Mw,ok.ID,ok.Mx,ok.uy,ok.OR⟩
section
variable {X:Cx} {pins:List (Addr × Obj)} {σ:St} {H:Hp} {s:Shared} {E:Value→Shared→Prop}
theorem Inv.Ao(I:Inv X pins σ H s)(E:Value→Shared→Prop):Inv (X.Ao E) pins σ H s:=⟨I.ok.Ao E,I.os,I.bare,I.base,I.loc,I.cell,I.free,I.sC,I.pin,I.hok,I.len⟩
theorem Inv.qI(I:Inv (X.Ao E) pins σ H s):Inv X pins σ H s:=⟨I.ok.qI,I.os,I.bare,I.base,I.loc,I.cell,I.free,I.sC,I.pin,I.hok,I.len⟩
theorem SP.qI{D:Ends}{f:Flow}{s':Shared}(h:SP (X.Ao E) pins D f s'):SP X pins D f s':=by
 cases f with
 | next=>obtain⟨σ',H',I,q⟩:=h;exact⟨σ',H',I.qI,q⟩
 | brk=>obtain⟨σ',H',I,q⟩:=h;exact⟨σ',H',I.qI,q⟩
 | cont=>obtain⟨σ',H',I,q⟩:=h;exact⟨σ',H',I.qI,q⟩
 | ret u=>obtain⟨v,σ',H',I,r,q⟩:=h;exact⟨v,σ',H',I.qI,r,q⟩
theorem G5.JV{st:List Stmt}{t:TS}(h:G5 X.JV st t):G5 X st t:=fun pins s σ H D I hw =>
 wpAny_mono (h pins s σ H D (I.Ao _) hw) (fun _ _ q=>q.qI) fun _ _ z=>False.elim z
end
section
variable {X:Cx} {st:Stmt} {rest:List Stmt} {t u:TS} {e:Expr} {te:TE} {pos:Pos}
def Rn:TS:=fun D σ H=>D.nx σ H
def Vb(t u:TS):TS:=fun D σ H=>t { D with nx:=u D } σ H
theorem bC:G5 X [] Rn:=fun _ _ σ H _ I h=>wpAny_execs_nil ⟨σ,H,I,h⟩
theorem ak(h1:PS X st t)(h2:G5 X rest u):G5 X (st::rest) (Vb t u):=by
 intro pins s σ H D I h
 refine wpAny_execs_cons (bQ (h1 pins s σ H { D with nx:=u D } I h) fun f s1 q=>?_)
 cases f with
 | next =>
  obtain⟨σ',H',I',q⟩:=q
  exact h2 pins s1 σ' H' D I' q
 | ret v=>exact q
 | brk=>exact q
 | cont=>exact q
theorem ao(h1:PS X st t):G5 X [st] t:=by
 intro pins s σ H D I h
 refine wpAny_execs_cons (bQ (h1 pins s σ H D I h) fun f s1 q=>?_)
 cases f with
 | next=>exact wpAny_execs_nil q
 | ret v=>exact q
 | brk=>exact q
 | cont=>exact q
def Ro:TS:=fun D σ H=>D.ct σ H
theorem DP:PS X (.Continue pos) Ro:=fun _ _ σ H _ I h=>wpAny_Continue ⟨σ,H,I,h⟩
theorem Inv.quiet{pins:List (Addr × Obj)}{σ:St}{H:Hp}{s:Shared}(I:Inv X pins σ H s):interactive X.env=false:=by simp[interactive,I.ok.kind]
def Rp(te:TE):TS:=fun D σ H=>te σ H fun _ H1=>D.nx σ H1
theorem bO(he:PE X e te)(hs:swapsWith e none pos.line X.env=pure false:=by rfl):PS X (.Expr e pos) (Rp te):=by
 intro pins s σ H D I h
 exact wpAny_Expr_any (bQ (he pins s σ H _ I h) fun v s1 ⟨x,H1,I1,r1,q1⟩=>⟨σ,H1,I1,q1⟩) I.quiet hs
def Vc(te:TE):TS:=fun D σ H=>te σ H D.rt
theorem aM(he:PE X e te):PS X (.Return (some e) pos) (Vc te):=by
 intro pins s σ H D I h
 exact wpAny_Return_some (bQ (he pins s σ H _ I h) fun v s1 ⟨x,H1,I1,r1,q1⟩=>⟨x,σ,H1,I1,r1,q1⟩)
def Vd(c:TT)(t u:TS):TS:=fun D σ H=>c σ H fun b H1=>if b=true then t D σ H1 else u D σ H1
theorem cy{c:Expr}{a b:List Stmt}{tc:TT}(hc:PT X c tc)(ha:G5 X a t)(hb:G5 X b u):PS X (.If c a b pos) (Vd tc t u):=by
 intro pins s σ H D I h
 refine wpAny_If (bQ (hc pins s σ H _ I h) fun d s1 ⟨H1,I1,q1⟩=>?_)
 cases d with
 | true=>exact ha pins s1 σ H1 D I1 q1
 | false=>exact hb pins s1 σ H1 D I1 q1
def OY:TS:=fun _ _ _=>False
theorem yr:PS X st OY:=fun _ _ _ _ _ _ h=>h.elim
end
abbrev TG:=V→St→Hp→(St→Hp→Prop)→Prop
abbrev N1:=List V→St→Hp→(St→Hp→Prop)→Prop
def PG(X:Cx)(target:Expr)(t:TG):Prop :=
 ∀ (pins:List (Addr × Obj)) (s:Shared) (σ:St) (H:Hp) (v:V) (u:Value) (Q:St→Hp→Prop),Inv X pins σ H s→RelV v u→t v σ H Q →
  wpAny (model X.prog X.w) X.A (assign target X.env u) (fun _ s'=>∃ σ' H',Inv X pins σ' H' s'∧Q σ' H') X.xe s
def QF(X:Cx)(ts:List Expr)(t:N1):Prop :=
 ∀ (pins:List (Addr × Obj)) (s:Shared) (σ:St) (H:Hp) (vs:List V) (us:List Value) (Q:St→Hp→Prop),Inv X pins σ H s→Vals vs us→t vs σ H Q →
  wpAny (model X.prog X.w) X.A (assignInOrder ((assignEach ts X.env).map (·.2)) us) (fun _ s'=>∃ σ' H',Inv X pins σ' H' s'∧Q σ' H') X.xe s
abbrev OZ:=V→V→V→Hp→(Hp→Prop)→Prop
def Rq(X:Cx)(t:OZ):Prop :=
 ∀ (pins:List (Addr × Obj)) (s:Shared) (σ:St) (H:Hp) (o i v:V) (ov iv u:Value) (Q:Hp→Prop),Inv X pins σ H s→RelV o ov→RelV i iv→RelV v u→t o i v H Q →
  wpAny (model X.prog X.w) X.A (setItem ov iv u) (fun _ s'=>∃ H',Inv X pins σ H' s'∧Q H') X.xe s
abbrev T9:=V→V→Hp→VK→Prop
def Ve(X:Cx)(op:Operator)(t:T9):Prop :=
 ∀ (pins:List (Addr × Obj)) (s:Shared) (σ:St) (H:Hp) (x y:V) (v u:Value) (Q:VK),Inv X pins σ H s→RelV x v→RelV y u→t x y H Q →
  wpAny (model X.prog X.w) X.A (inplaceOp op v u) (EP X pins σ Q) X.xe s
section
variable {X:Cx} {pos:Pos}
def wG(i:Nat):TG:=fun v σ H Q=>Q (σ.set i (some v)) H
theorem aV{i:Nat}{x:Str}(hN:X.N.Nodup)(hi:X.N[i]?=some x)(hx:Loc X.env.scope x)(hf:X.fn x=true∨X.env.scope.names.lookup x=some .local:=by first|exact .inl rfl|exact .inr rfl|assumption):PG X (.Name x pos) (wG i):=by
 intro pins s σ H v u Q I r h
 exact wpAny_assign_Name (yp I hN hi hx r (fun s' I'=>⟨_,H,I',h⟩) hf)
def Vf:N1:=fun vs σ H Q=>vs=[]∧Q σ H
inductive N3(t:TG)(u:N1)(vs:List V)(σ:St)(H:Hp)(Q:St→Hp→Prop):Prop
 | mk (v:V) (r:List V) (_:vs=v::r) (_:t v σ H fun σ' H'=>u r σ' H' Q):N3 t u vs σ H Q
theorem ku:QF X [] Vf:=by
 intro pins s σ H vs us Q I r h
 obtain⟨e,h⟩:=h
 subst e
 cases r
 exact assignInOrder_nil ⟨σ,H,I,h⟩
theorem bS{e:Expr}{es:List Expr}{t:TG}{u:N1}(h1:PG X e t)(h2:QF X es u)
  (hs:(assignEach (e::es) X.env).map (·.2)=assign e X.env::(assignEach es X.env).map (·.2):=by rfl):QF X (e::es) (N3 t u):=by
 intro pins s σ H vs us Q I r h
 obtain⟨v,vr,e1,h⟩:=h
 subst e1
 cases r with
 | cons r rr =>
  rw[hs]
  refine assignInOrder_cons (bQ (h1 pins s σ H _ _ _ I r h) fun _ s1 ⟨σ1,H1,I1,q1⟩=>?_)
  exact h2 pins s1 σ1 H1 _ _ Q I1 rr q1
inductive MA(K:PySem.W.Frag)(n:Nat)(t:N1)(v:V)(σ:St)(H:Hp)(Q:St→Hp→Prop):Prop
 | mk (a:Addr) (xs:List V) (_:v=.ref a) (_:jK K H a xs) (_:xs.length=n) (_:t xs σ H Q):MA K n t v σ H Q
theorem qJ{es:List Expr}{k:Nat}{t:N1}{n:Nat}(hc:X.calm=true)(h:QF X es t)
  (hn:(assignEach es X.env).length=n:=by rfl) (hst:(assignEach es X.env).findIdx? (·.1)=none:=by rfl):PG X (.Tuple es k pos) (MA X.K n t):=by
 intro pins s σ H v u Q I r hw
 obtain⟨a,xs,e1,hq,hl,hw⟩:=hw
 subst e1
 cases r
 obtain⟨its,rv,ht,hz⟩:=I.tuple hq
 refine assign_Tuple_tuple (I.ok.hd hc) ht (by simp[hn,← hl,rv.length]) hst fun h' hx=>?_
 have I1:Inv X pins σ H { s with heap:=h' }:=I.kept (t':=s.toks) fun b o e=>hx b o (jL (Heap.lt_size e)) e
 exact h pins _ σ H xs _ Q I1 (by simpa using rv) hw
def Vg(to ti:TE)(t:OZ):TG:=fun v σ H Q=>to σ H fun o H1=>ti σ H1 fun i H2=>t o i v H2 fun H3=>Q σ H3
theorem tE{o i:Expr}{to ti:TE}{t:OZ}(ho:PE X o to)(hi:PE X i ti)(hs:Rq X t)
  (ha:∀ v,assign (.Subscript o i pos) X.env v=(do
   let ov ← holding [v] (eval o X.env)
   let iv ← holding [v,ov] (eval i X.env)
   standAt pos
   holding [v,ov,iv] (setItem ov iv v)
   release [v,ov,iv] []):=by intro _;rfl):PG X (.Subscript o i pos) (Vg to ti t):=by
 intro pins s σ H v u Q I r h
 rw[ha]
 refine wpAny_bind (wpAny_holding (bQ (ho pins s σ H _ I h) fun ov s1 ⟨x,H1,I1,r1,q1⟩=>?_))
 refine wpAny_bind (wpAny_holding (bQ (hi pins s1 σ H1 _ I1 q1) fun iv s2 ⟨y,H2,I2,r2,q2⟩=>?_))
 refine wpAny_bind (wpAny_standAt (wpAny_bind (wpAny_holding (bQ (hs pins s2 σ H2 x y v ov iv u _ I2 r1 r2 r q2) fun _ s3 ⟨H3,I3,q3⟩=>?_))))
 exact wpAny_release ⟨σ,H3,I3,q3⟩
def MB(te:TE)(g:TG):TS:=fun D σ H=>te σ H fun x H1=>g x σ H1 D.nx
theorem tF{tg e:Expr}{te:TE}{g:TG}(he:PE X e te)(hg:PG X tg g)(hs:swapsWithSole [tg] e pos.line X.env=pure false:=by rfl)(hw:swappedStores [tg] e X.env=pure none:=by rfl)
  (h1:(assignEach [tg] X.env).map (·.2)=[assign tg X.env]:=by rfl):PS X (.Assign [tg] e pos) (MB te g):=by
 intro pins s σ H D I h
 refine wpAny_Assign_stores (bQ (he pins s σ H _ I h) fun v s1 ⟨x,H1,I1,r1,q1⟩=>?_) hs hw
 rw[h1]
 exact bQ (hg pins s1 σ H1 x v _ I1 r1 q1) fun _ s2 q=>q
theorem aQ{i:Nat}{x:Str}{e:Expr}{te:TE}{pos':Pos}(hN:X.N.Nodup)(hi:X.N[i]?=some x)(hx:Loc X.env.scope x)(he:PE X e te)(hs:swapsWith e (some (.Name x pos')) pos.line X.env=pure false:=by rfl)(hf:X.fn x=true∨X.env.scope.names.lookup x=some .local:=by first|exact .inl rfl|exact .inr rfl|assumption) :
  PS X (.Assign [.Name x pos'] e pos) (MB te (wG i)):=by
 intro pins s σ H D I h
 refine wpAny_Assign_Name (bQ (he pins s σ H _ I h) fun v s1 ⟨y,H1,I1,r1,q1⟩=>?_) hs
 exact yp I1 hN hi hx r1 (fun s2 I2=>⟨_,H1,I2,q1⟩) hf
def Vh(i:Nat)(te:TE)(ti:T9):TS:=fun D σ H=>∃ x,σ[i]?=some (some x)∧te σ H fun y H1=>ti x y H1 fun z H2=>D.nx (σ.set i (some z)) H2
theorem BX{i:Nat}{x:Str}{e:Expr}{te:TE}{op:Operator}{ti:T9}{pos':Pos}(hN:X.N.Nodup)(hi:X.N[i]?=some x)(hx:Loc X.env.scope x)(he:PE X e te)(ho:Ve X op ti)(hf:X.fn x=true∨X.env.scope.names.lookup x=some .local:=by first|exact .inl rfl|exact .inr rfl|assumption) :
  PS X (.AugAssign (.Name x pos') op e pos) (Vh i te ti):=by
 intro pins s σ H D I h
 obtain⟨v,e1,h⟩:=h
 obtain⟨m,hn,hl⟩:=I.loc
 have vis:T5 X.env.scope x:=by rcases hx with k|k;exact .inl k;exact .inr (.inl k)
 obtain⟨u,r,l⟩:=hl i x v hi e1 vis
 refine wpAny_AugAssign_Name ?_
 have go:wpAny (model X.prog X.w) X.A (eval e X.env) (fun w s₂=>wpAny (model X.prog X.w) X.A (inplaceOp op u w) (fun r s₃=>wpAny (model X.prog X.w) X.A (storeName X.env x r) (fun _=>SP X pins D .next) X.xe s₃) X.xe s₂) X.xe s:=by
  refine bQ (he pins s σ H _ I h) fun w s1 ⟨y,H1,I1,r1,q1⟩=>?_
  refine bQ (ho pins s1 σ H1 v y u w _ I1 r r1 q1) fun z s2 ⟨zv,H2,I2,r2,q2⟩=>?_
  exact yp I2 hN hi hx r2 (fun s3 I3=>⟨_,H2,I3,q2⟩) hf
 rcases l with ⟨hk,hm⟩|⟨hk,c,hc,hcell⟩
 ·exact wpAny_loadName_local I.ok.kind hk hn hm go
 ·rcases hk with hk|hk
  ·exact wpAny_loadName_cell I.ok.kind hk hc hcell go
  ·rcases hx with k|k
   ·have:X.env.scope.names.lookup x=some .free:=hk
    rw[k]at this;cases this
   ·have:X.env.scope.names.lookup x=some .free:=hk
    rw[k]at this;cases this
def ipI(f:Int→Int→Int):T9:=fun x y H Q=>∃ i j,x=.int i∧y=.int j∧Q (.int (f i j)) H
theorem O0:Ve X .Add (ipI fun i j=>i+j):=by
 intro pins s σ H x y v u Q I r1 r2 h
 obtain⟨i,j,e1,e2,q⟩:=h
 subst e1;subst e2
 obtain⟨t,rfl⟩:=r1
 obtain⟨t',rfl⟩:=r2
 exact iadd_int ⟨.int _,H,I.tok _,⟨_,rfl⟩,q⟩
end
section
variable {X:Cx} {pos:Pos}
def O1(c:TT)(tb:TS):TS:=fun D σ H=>∃ W:Nat→St→Hp→Prop,(∃ m,W m σ H)∧∀ m σ H,W m σ H →
 c σ H fun b H1=>if b=true then ∃ N:St→Hp→Prop,(∀ σ' H',N σ' H'→∃ m',m'<m∧W m' σ' H')∧tb { D with nx:=N,ct:=N,bk:=D.nx } σ H1 else D.nx σ H1
theorem yt{c:Expr}{body:List Stmt}{tc:TT}{tb:TS}(hp:PassesOwn (model X.prog X.w) X.A X.env X.xe)(hc:PT X c tc)(hb:G5 X body tb):PS X (.While c body [] pos) (O1 tc tb):=by
 intro pins s σ H D I h
 obtain⟨W,⟨m0,w0⟩,turn⟩:=h
 refine wpAny_While (codeAny_whileLoop (fun n s'=>∃ σ' H',Inv X pins σ' H' s'∧W n σ' H') ?_ m0 ⟨σ,H,I,w0⟩)
 rintro n s1 ⟨σ1,H1,I1,w1⟩
 refine wpAny_passesOwn hp (bQ (hc pins s1 σ1 H1 _ I1 (turn n σ1 H1 w1)) fun b s2 ⟨H2,I2,q2⟩=>?_)
 cases b with
 | true =>
  obtain⟨N,hN,q2⟩:=q2
  rw[if_pos rfl]
  refine wpAny_passesOwn hp (bQ (hb pins s2 σ1 H2 _ I2 q2) fun f s3 q3=>?_)
  cases f with
  | next =>
   obtain⟨σ3,H3,I3,n3⟩:=q3
   obtain⟨m',hm,w3⟩:=hN σ3 H3 n3
   exact⟨m',hm,σ3,H3,I3,w3⟩
  | cont =>
   obtain⟨σ3,H3,I3,n3⟩:=q3
   obtain⟨m',hm,w3⟩:=hN σ3 H3 n3
   exact⟨m',hm,σ3,H3,I3,w3⟩
  | brk=>exact q3
  | ret v=>exact q3
 | false =>
  rw[if_neg jX]
  exact wpAny_execs_nil ⟨σ1,H2,I2,q2⟩
end
structure It where
 go:Nat→Hp→Prop
 IE:Nat→Hp→V→Hp→Prop
 stop:Nat→Hp→Prop
def mw(X:Cx)(pins:List (Addr × Obj))(H:Hp)(b:Addr):Prop :=
 H b=none∧b≠X.env.locals∧b∉X.fs∧(b∈X.ex∨X.s₀.heap.objs.size≤b)∧(∀ x c,X.env.cells.lookup x=some c→c≠b)∧∀ p∈X.pn++pins,p.1≠b
theorem Inv.IF{X:Cx}{pins:List (Addr × Obj)}{σ:St}{H H':Hp}{s:Shared}{b:Addr}(I:Inv X pins σ H s)(hb:s.heap.objs.size≤b)(hn:H' b=none):mw X pins H' b:=by
 refine⟨hn,Nat.ne_of_gt (pU I.lt hb),I.UY hb,.inr (mL I.sz hb),fun x c e z=>?_,fun p hp z=>?_⟩
 ·obtain⟨v,q⟩:=I.cell x c e
  exact absurd (pU q.lt (by rw[z];exact hb)) (Nat.lt_irrefl _)
 ·exact absurd (pU (Heap.lt_size (I.pin p hp).1) (by rw[z];exact hb)) (Nat.lt_irrefl _)
structure Turn(P:Program)(w:World)(K:PySem.W.Frag)(tg:Expr)(J:It)(fp:List Addr)(it:Addr)(tn:Nat→Heap→Prop):Prop where
 mem:it∈fp
 obj:∀ i h,tn i h→∀ b∈fp,∃ o,h.get? b=some o∧∀ v,o.data≠.cell v
 keep:∀ i h h',tn i h→(∀ b∈fp,∀ o,h.get? b=some o→h'.get? b=some o)→tn i h'
 item:∀ (X:Cx),X.prog=P→X.w=w→X.K=K→X.calm=true→∀ (i:Nat) (pins:List (Addr × Obj)) (s:Shared) (σ:St) (H:Hp) (E:Value→Shared→Prop),Inv X pins σ H s→(∀ b∈fp,mw X pins H b)→tn i s.heap→J.go i H →
  wpAny (model P w) X.A (pyNext (.ref it)) (fun r s1=>∃ u,r=some u ∧
   wpAny (model P w) X.A (letOwnedTupleGo tg (.ref it) u) (fun _ s2=>∃ x H',Inv X pins σ H' s2∧RelV x u∧J.IE i H x H'∧tn (i+1) s2.heap∧∀ b∈fp,H' b=none) E s1) E s
 done:∀ (X:Cx),X.prog=P→X.w=w→X.K=K→X.calm=true→∀ (i:Nat) (pins:List (Addr × Obj)) (s:Shared) (σ:St) (H:Hp) (E:Value→Shared→Prop),Inv X pins σ H s→(∀ b∈fp,mw X pins H b)→tn i s.heap→J.stop i H →
  wpAny (model P w) X.A (pyNext (.ref it)) (fun r s1=>r=none∧Inv X pins σ H s1) E s
 self:∀ (A:Around) (i:Nat) (s:Shared) (Q:Value→Shared→Prop) (E:Value→Shared→Prop),tn i s.heap→Q (.ref it) s→wpAny (model P w) A (pyIter (.ref it)) Q E s
abbrev TI:=St→Hp→(It→Hp→Prop)→Prop
def Vi(X:Cx)(pins:List (Addr × Obj))(σ:St)(tg:Expr)(R:It→Hp→Prop)(itv:Value)(s2:Shared):Prop :=
 ∃ (it:Addr) (fp:List Addr) (tn:Nat→Heap→Prop) (J:It) (H':Hp),itv=.ref it∧Inv X pins σ H' s2∧Turn X.prog X.w X.K tg J fp it tn∧tn 0 s2.heap∧(∀ b∈fp,mw X pins H' b)∧R J H'
def PI(X:Cx)(tg iter:Expr)(wi:TI):Prop :=
 ∀ (pins:List (Addr × Obj)) (s:Shared) (σ:St) (H:Hp) (R:It→Hp→Prop),Inv X pins σ H s→wi σ H R →
  wpAny (model X.prog X.w) X.A (eval iter X.env) (fun v s1=>wpAny (model X.prog X.w) X.A (pyIter v) (Vi X pins σ tg R) X.xe s1) X.xe s
theorem DQ{M:Model}{A:Around}{E:Value→Shared→Prop}{s:Shared}{tg:Expr}{it:Addr}{u:Value}{o:Obj}{n:String}{vs:Array Value}{Q:Unit→Shared→Prop}(ho:s.heap.get? it=some o)(hc:o.cls=.type n)(hd:o.data=.fields vs)
  (hn:["enumerate","zip","dict_itemiterator","dict_reverseitemiterator","odict_iterator","itertools.zip_longest","itertools.pairwise"].contains n=false) (hQ:Q () s):wpAny M A (letOwnedTupleGo tg (.ref it) u) Q E s:=by
 unfold letOwnedTupleGo
 cases tg <;> first
  | exact wpAny_pure hQ
  | (cases u <;> first
    | exact wpAny_pure hQ
    | (refine wpAny_bind (wpAny_load ho ?_);rw[hc,hd];show wpAny M A (if (["enumerate","zip","dict_itemiterator","dict_reverseitemiterator","odict_iterator","itertools.zip_longest","itertools.pairwise"].contains n&&vs[0]? == some (rawInt _))=true then _ else _) Q E s;rw[if_neg (by intro h;rw[hn,Bool.false_and]at h;cases h)];exact wpAny_pure hQ))
def JW(K:PySem.W.Frag)(a:Addr):It :=
 ⟨fun i H=>∃ xs x,bG K H a xs∧xs[i]?=some x,fun i H x H'=>H'=H∧∀ xs,bG K H a xs→xs[i]?=some x,fun i H=>∃ xs,bG K H a xs∧xs.length≤i⟩
def Rr(K:PySem.W.Frag)(a:Addr):It :=
 ⟨fun i H=>∃ xs x,jK K H a xs∧xs[i]?=some x,fun i H x H'=>H'=H∧∀ xs,jK K H a xs→xs[i]?=some x,fun i H=>∃ xs,jK K H a xs∧xs.length≤i⟩
def IG(lo:Int)(n:Nat):It:=⟨fun i _=>i<n,fun i H x H'=>H'=H∧x=.int (lo+i),fun i _=>n≤i⟩
theorem II{P:Program}{w:World}{K:PySem.W.Frag}{tg:Expr}(a it:Addr):Turn P w K tg (JW K a) [it] it (fun i h=>h.IsListIter it a i) where
 mem:=by simp
 obj:=fun i h st b hb=>by
  have e:b=it:=by simpa using hb
  subst e
  obtain⟨o,e,c,d⟩:=st
  exact⟨o,e,fun v z=>by rw[d]at z;cases z⟩
 keep:=fun i h h' st k=>st.at fun o e=>k it (by simp) o e
 item:=by
  intro X hP hw hK hc i pins s σ H E I hf st hg
  subst hP hw hK
  obtain⟨xs,x,hq,hx⟩:=hg
  obtain⟨its,rv,p,hz⟩:=I.list hq
  obtain⟨u,hu,ru⟩:=rv.get hx
  obtain⟨f0,f1,f2,f3,f4,f5⟩:=hf it (by simp)
  refine wpAny_pyNext_list_item st p.isList (x:=u) (by simpa using hu) fun h' st' sb=>?_
  have I1:Inv X pins σ H { s with heap:=h' }:=I.turned (t':=s.toks) (fun b o hb e=>(sb.2 b hb).trans e) f0 f1 f3 f4 f5
  obtain⟨o,e,c,d⟩:=id st'
  exact⟨u,rfl,DQ (s:={ s with heap:=h' }) e c d (by decide) ⟨x,H,I1,ru,⟨rfl,fun ys hy=>by rw[I.DO hy hq];exact hx⟩,st',fun b hb=>(hf b hb).1⟩⟩
 done:=by
  intro X hP hw hK hc i pins s σ H E I hf st hg
  subst hP hw hK
  obtain⟨xs,hq,hx⟩:=hg
  obtain⟨its,rv,p,hz⟩:=I.list hq
  obtain⟨f0,f1,f2,f3,f4,f5⟩:=hf it (by simp)
  have hl:=rv.length
  exact wpAny_pyNext_list_end (I.ok.hd hc) st p.isList (by simp;omega) fun h' eb=>⟨rfl,I.turned (t':=s.toks) (fun b o hb e=>eb b o hb e) f0 f1 f3 f4 f5⟩
 self:=fun _ _ _ _ _ st h=>wpAny_pyIter_listiter st h
theorem FW{P:Program}{w:World}{K:PySem.W.Frag}{tg:Expr}(a it:Addr):Turn P w K tg (Rr K a) [it] it (fun i h=>h.IsTupleIter it a i) where
 mem:=by simp
 obj:=fun i h st b hb=>by
  have e:b=it:=by simpa using hb
  subst e
  obtain⟨o,e,c,d⟩:=st
  exact⟨o,e,fun v z=>by rw[d]at z;cases z⟩
 keep:=fun i h h' st k=>st.at fun o e=>k it (by simp) o e
 item:=by
  intro X hP hw hK hc i pins s σ H E I hf st hg
  subst hP hw hK
  obtain⟨xs,x,hq,hx⟩:=hg
  obtain⟨its,rv,p,hz⟩:=I.tuple hq
  obtain⟨u,hu,ru⟩:=rv.get hx
  obtain⟨f0,f1,f2,f3,f4,f5⟩:=hf it (by simp)
  refine wpAny_pyNext_tuple_item st (show s.heap.IsTuple a its.toArray from p) (x:=u) (by simpa using hu) fun h' st' sb=>?_
  have I1:Inv X pins σ H { s with heap:=h' }:=I.turned (t':=s.toks) (fun b o hb e=>(sb.2 b hb).trans e) f0 f1 f3 f4 f5
  obtain⟨o,e,c,d⟩:=id st'
  exact⟨u,rfl,DQ (s:={ s with heap:=h' }) e c d (by decide) ⟨x,H,I1,ru,⟨rfl,fun ys hy=>by rw[I.AL hy hq];exact hx⟩,st',fun b hb=>(hf b hb).1⟩⟩
 done:=by
  intro X hP hw hK hc i pins s σ H E I hf st hg
  subst hP hw hK
  obtain⟨xs,hq,hx⟩:=hg
  obtain⟨its,rv,p,hz⟩:=I.tuple hq
  obtain⟨f0,f1,f2,f3,f4,f5⟩:=hf it (by simp)
  have hl:=rv.length
  exact wpAny_pyNext_tuple_end (I.ok.hd hc) st (show s.heap.IsTuple a its.toArray from p) (by simp;omega) fun h' eb=>⟨rfl,I.turned (t':=s.toks) (fun b o hb e=>eb b o hb e) f0 f1 f3 f4 f5⟩
 self:=fun _ _ _ _ _ st h=>wpAny_pyIter_tupleiter st h
theorem yu{P:Program}{w:World}{K:PySem.W.Frag}{tg:Expr}(it:Addr)(lo:Int)(n:Nat):Turn P w K tg (IG lo n) [it] it (fun i h=>IsRangeIter h it (lo+(i:Nat)*1) ((n:Int)-(i:Nat)) 1) where
 mem:=by simp
 obj:=fun i h st b hb=>by
  have e:b=it:=by simpa using hb
  subst e
  exact⟨_,st,fun v z=>by
   have z':Data.fields _=Data.cell v:=z
   cases z'⟩
 keep:=fun i h h' st k=>k it (by simp) _ st
 item:=by
  intro X hP hw hK hc i pins s σ H E I hf st hg
  subst hP hw hK
  obtain⟨f0,f1,f2,f3,f4,f5⟩:=hf it (by simp)
  have W:=Walks.range (prog:=X.prog) (w:=X.w) (I.ok.hd hc) it lo 1 n
  refine W.item i s _ _ hg st fun v h' tk hv st' kk=>?_
  obtain⟨t,rfl⟩:=hv
  have I1:Inv X pins σ H { s with heap:=h',toks:=tk }:=I.turned (fun b o hb e=>kk b o (by simpa using hb) e) f0 f1 f3 f4 f5
  refine⟨_,rfl,DQ (s:={ s with heap:=h',toks:=tk }) (n:="range_iterator") st' rfl rfl (by decide) ⟨.int (lo+i),H,I1,⟨t,?_⟩,⟨rfl,rfl⟩,st',fun b hb=>(hf b hb).1⟩⟩
  rw[Int.mul_one]
 done:=by
  intro X hP hw hK hc i pins s σ H E I hf st hg
  subst hP hw hK
  obtain⟨f0,f1,f2,f3,f4,f5⟩:=hf it (by simp)
  exact wpAny_pyNext_range_end (I.ok.hd hc) st (by have:n≤i:=hg;omega) fun h' eb=>⟨rfl,I.turned (t':=s.toks) (fun b o hb e=>eb b o hb e) f0 f1 f3 f4 f5⟩
 self:=fun _ _ _ _ _ st h=>wpAny_pyIter_rangeiter st h
end L2
namespace L2
open PySem PySem.Spec PyProof.Rows
section
variable {X:Cx} {tg:Expr}
inductive isL(K:PySem.W.Frag)(x:V)(H:Hp)(R:It→Hp→Prop):Prop
 | mk (a:Addr) (_:x=.ref a) (_:∃ xs,bG K H a xs) (_:R (JW K a) H):isL K x H R
def N4(K:PySem.W.Frag)(tl:TE):TI:=fun σ H R=>tl σ H fun x H1=>isL K x H1 R
def Vj(K:PySem.W.Frag)(tl:TE):TI:=fun σ H R=>tl σ H fun x H1=>∃ a,x=.ref a∧(∃ xs,jK K H1 a xs)∧R (Rr K a) H1
theorem cH{l:Expr}{tl:TE}(hl:PE X l tl):PI X tg l (N4 X.K tl):=by
 intro pins s σ H R I h
 refine bQ (hl pins s σ H _ I h) fun v s1 ⟨x,H1,I1,r1,q1⟩=>?_
 obtain⟨a,e,⟨xs,hq⟩,q⟩:=q1
 subst e
 cases r1
 obtain⟨its,rv,p,hz⟩:=I1.list hq
 refine wpAny_pyIter_list p.isList ?_
 refine⟨s1.heap.objs.size,[s1.heap.objs.size],_,_,H1,rfl,I1.kept (t':=s1.toks) fun b o e=>Heap.get?_push_of_some _ e,II a _,⟨_,Heap.get?_push_size _ rfl,rfl,rfl⟩,fun b hb=>?_,q⟩
 have e:b=s1.heap.objs.size:=by simpa using hb
 subst e
 exact I1.IF (fH _) (I1.hok.fresh (fH _))
theorem O2{l:Expr}{tl:TE}(hl:PE X l tl):PI X tg l (Vj X.K tl):=by
 intro pins s σ H R I h
 refine bQ (hl pins s σ H _ I h) fun v s1 ⟨x,H1,I1,r1,q1⟩=>?_
 obtain⟨a,e,⟨xs,hq⟩,q⟩:=q1
 subst e
 cases r1
 obtain⟨its,rv,p,hz⟩:=I1.tuple hq
 refine wpAny_pyIter_tuple (show s1.heap.IsTuple a its.toArray from p) ?_
 refine⟨s1.heap.objs.size,[s1.heap.objs.size],_,_,H1,rfl,I1.kept (t':=s1.toks) fun b o e=>Heap.get?_push_of_some _ e,FW a _,⟨_,Heap.get?_push_size _ rfl,rfl,rfl⟩,fun b hb=>?_,q⟩
 have e:b=s1.heap.objs.size:=by simpa using hb
 subst e
 exact I1.IF (fH _) (I1.hok.fresh (fH _))
theorem Kd{pins:List (Addr × Obj)}{σ:St}{H:Hp}{s:Shared}{R:It→Hp→Prop}{E:Value→Shared→Prop}{lo hi:Int}{t u v:Tok}{tk:Nat}(I:Inv X pins σ H s)(h1:-(2^62)≤lo)(h2:lo<2^62)(h3:-(2^62)≤hi)(h4:hi<2^62)
  (q:R (IG lo (hi-lo).toNat) H):wpAny (model X.prog X.w) X.A (pyIter (.ref s.heap.objs.size)) (Vi X pins σ tg R) E { s with heap:=s.heap.push { cls:=.type "range",data:=.fields #[.int lo t,.int hi u,.int 1 v] },toks:=tk }:=by
 refine wpAny_pyIter_range (IsRange.new ..) (small_one h1 h2 h3 h4) ?_
 have I1:Inv X pins σ H { s with heap:=s.heap.push { cls:=.type "range",data:=.fields #[.int lo t,.int hi u,.int 1 v] },toks:=tk }:=I.kept fun b o e=>Heap.get?_push_of_some _ e
 refine⟨(s.heap.push { cls:=.type "range",data:=.fields #[.int lo t,.int hi u,.int 1 v] }).objs.size,[(s.heap.push { cls:=.type "range",data:=.fields #[.int lo t,.int hi u,.int 1 v] }).objs.size],_,_,H,rfl,
  I1.kept (t':=tk) fun b o e=>Heap.get?_push_of_some _ e,yu _ lo (hi-lo).toNat,?_,fun b hb=>?_,q⟩
 ·have e1:lo+((0:Nat):Int)*1=lo:=by simp
  have e2:(((hi-lo).toNat:Nat):Int)-((0:Nat):Int)=Builtin.Range.rangeSize lo hi 1:=by rw[rangeSize_one];split <;> omega
  show IsRangeIter _ _ (lo+((0:Nat):Int)*1) ((((hi-lo).toNat:Nat):Int)-((0:Nat):Int)) 1
  rw[e1,e2]
  exact Heap.get?_push_size _ rfl
 ·have e:b=(s.heap.push { cls:=.type "range",data:=.fields #[.int lo t,.int hi u,.int 1 v] }).objs.size:=by simpa using hb
  subst e
  exact I1.IF (fH _) (I1.hok.fresh (fH _))
inductive isR(vs:List V)(H:Hp)(R:It→Hp→Prop):Prop
 | mk (j:Int) (_:vs=[.int j]) (_:-(2^62)≤j) (_:j<2^62) (_:R (IG 0 j.toNat) H):isR vs H R
def Rt(ta:TA):TI:=fun σ H R=>ta σ H fun vs H1=>isR vs H1 R
theorem kW{a:Expr}{ta:TA}{p pos:Pos}(hg:Gl X "range")(hm:X.mg "range"=none)(ha:PA X [a] ta)(hs:starEach [a] X.env=[(false,eval a X.env)]:=by rfl):PI X tg (.Call (.Name "range" p) [a] [] pos) (Rt ta):=by
 intro pins s σ H R I h
 refine Call_ (vp I hg hm boot_range (PyProof.Rows.callWith_type1 (bQ (ha pos pins s σ H _ I h) fun us s1 ⟨vs,H1,I1,r1,q1⟩=>?_) hs rfl))
 obtain⟨j,e,q1,q2,q⟩:=q1
 subst e
 cases r1 with
 | cons r rr =>
  cases rr
  obtain⟨t,rfl⟩:=r
  exact call_range_1 (Kd I1 (by omega) (by omega) q1 q2 (by simpa using q))
def Vk(wi:TI)(g:TG)(tb:TS):TS:=fun D σ H=>wi σ H fun J H1=>∃ W:Nat→Nat→St→Hp→Prop,(∃ m,W 0 m σ H1)∧∀ i m σ H,W i m σ H →
 (J.stop i H∧D.nx σ H)∨(J.go i H∧∃ N:St→Hp→Prop,(∀ σ' H',N σ' H'→∃ m',m'<m∧W (i+1) m' σ' H')∧∀ x H',J.IE i H x H'→g x σ H' fun σ2 H2=>tb { D with nx:=N,ct:=N,bk:=D.nx } σ2 H2)
def pW(fp:List Addr)(h:Heap):List (Addr × Obj):=fp.filterMap fun b=>(h.get? b).map fun o=>(b,o)
theorem dD{fp:List Addr}{h:Heap}{b:Addr}{o:Obj}(hb:b∈fp)(e:h.get? b=some o):(b,o)∈pW fp h:=List.mem_filterMap.mpr ⟨b,hb,by rw[e];rfl⟩
theorem IJ{fp:List Addr}{h:Heap}{p:Addr × Obj}(hp:p∈pW fp h):p.1∈fp∧h.get? p.1=some p.2:=by
 obtain⟨b,hb,e⟩:=List.mem_filterMap.mp hp
 cases q:h.get? b with
 | none=>rw[q]at e;cases e
 | some o =>
  rw[q]at e
  have e':(b,o)=p:=rX e
  subst e'
  exact⟨hb,q⟩
theorem Inv.pinned{pins:List (Addr × Obj)}{σ:St}{H:Hp}{s:Shared}{fp:List Addr}(I:Inv X pins σ H s)(hf:∀ b∈fp,mw X pins H b)(ho:∀ b∈fp,∃ o,s.heap.get? b=some o∧∀ v,o.data≠.cell v):Inv X (pins++pW fp s.heap) σ H s :=
 I.G4 fun p hp=>(List.mem_append.mp hp).elim (fun z=>I.pin p (lM _ z)) fun z=>by
  obtain⟨hb,e⟩:=IJ z
  obtain⟨f0,f1,f2,_⟩:=hf p.1 hb
  obtain⟨o,e',d⟩:=ho p.1 hb
  rw[e]at e';cases e'
  exact⟨e,f0,f1,f2,d⟩
theorem Inv.lO{pins pl:List (Addr × Obj)}{σ:St}{H:Hp}{s:Shared}(I:Inv X (pins++pl) σ H s):Inv X pins σ H s:=I.G4 fun p hp=>I.pin p (lM _ (List.mem_append_left _ hp))
theorem iV{iter:Expr}{body:List Stmt}{wi:TI}{g:TG}{tb:TS}{pos:Pos}(hp:PassesOwn (model X.prog X.w) X.A X.env X.xe)(hc:X.calm=true)(hi:PI X tg iter wi)(hg:PG X tg g)(hb:G5 X body tb)
  (hs:∀ x,foldedSetIterable iter X.env x=pure x:=by intro _;rfl):PS X (.For tg iter body [] pos) (Vk wi g tb):=by
 intro pins s σ H D I h
 refine wpAny_For (bQ (hi pins s σ H _ I h) fun v s1 h1=>bQ h1 fun itv s2 h2=>?_) hs
 obtain⟨it,fp,tn,J,H2,e,I2,T,st2,f2,W,⟨m0,w0⟩,turn⟩:=h2
 subst e
 have nj:∀ {H':Hp},(∀ b∈fp,H' b=none)→∀ b∈fp,mw X pins H' b:=fun hn b hb=>⟨hn b hb,(f2 b hb).2⟩
 refine codeAny_forLoop_any (fun n s'=>∃ i σ' H',Inv X pins σ' H' s'∧tn i s'.heap∧(∀ b∈fp,H' b=none)∧W i n σ' H') ?_ m0 ⟨0,σ,H2,I2,st2,fun b hb=>(f2 b hb).1,w0⟩
 rintro n s3 ⟨i,σ3,H3,I3,st3,Ua,w3⟩
 rcases turn i n σ3 H3 w3 with ⟨stop,qn⟩|⟨go,N,hN,step⟩
 ·refine wpAny_passesOwn hp (bQ (T.done X rfl rfl rfl hc i pins s3 σ3 H3 X.xe I3 (nj Ua) st3 stop) fun r s4 ⟨hr,I4⟩=>?_)
  subst hr
  exact wpAny_execs_nil ⟨σ3,H3,I4,qn⟩
 ·refine wpAny_passesOwn hp (bQ (T.item X rfl rfl rfl hc i pins s3 σ3 H3 X.xe I3 (nj Ua) st3 go) fun r s4 ⟨u,hr,h4⟩=>?_)
  subst hr
  refine wpAny_passesOwn hp (bQ h4 fun _ s5 ⟨x,H5,I5,r5,y5,QG,Ru⟩=>?_)
  have I5':=I5.pinned (nj Ru) (T.obj _ _ QG)
  refine wpAny_passesOwn hp (bQ (hg _ s5 σ3 H5 x u _ I5' r5 (step x H5 y5)) fun _ s6 ⟨σ6,H6,I6,q6⟩=>?_)
  refine wpAny_passesOwn hp (bQ (hb _ s6 σ6 H6 _ I6 q6) fun f s7 q7=>?_)
  have again:∀ {σ7:St} {H7:Hp},Inv X (pins++pW fp s5.heap) σ7 H7 s7→N σ7 H7→∃ m,m<n∧∃ i σ' H',Inv X pins σ' H' s7∧tn i s7.heap∧(∀ b∈fp,H' b=none)∧W i m σ' H':=fun {σ7 H7} I7 n7=>by
   obtain⟨m',hm,w7⟩:=hN σ7 H7 n7
   refine⟨m',hm,i+1,σ7,H7,I7.lO,T.keep _ _ _ QG fun b hb o e=>(I7.pin (b,o) (lM _ (lM _ (dD hb e)))).1,fun b hb=>?_,w7⟩
   obtain⟨o,e,d⟩:=T.obj _ _ QG b hb
   exact (I7.pin (b,o) (lM _ (lM _ (dD hb e)))).2.1
  cases f with
  | next=>obtain⟨σ7,H7,I7,n7⟩:=q7;exact again I7 n7
  | cont=>obtain⟨σ7,H7,I7,n7⟩:=q7;exact again I7 n7
  | brk=>obtain⟨σ7,H7,I7,q7⟩:=q7;exact⟨σ7,H7,I7.lO,q7⟩
  | ret v=>obtain⟨x7,σ7,H7,I7,r7,q7⟩:=q7;exact⟨x7,σ7,H7,I7.lO,r7,q7⟩
end
theorem jM{K:PySem.W.Frag}{a:Addr}{xs:List V}{g:TG}{tb:TS}{D:Ends}{σ:St}{H:Hp}(Pv:Nat→St→Hp→Prop)(h0:Pv 0 σ H)(hl:∀ i σ H,i≤xs.length→Pv i σ H→bG K H a xs)
  (hs:∀ i x σ H,xs[i]?=some x→Pv i σ H→g x σ H fun σ2 H2=>tb { D with nx:=Pv (i+1),ct:=Pv (i+1),bk:=D.nx } σ2 H2) (hd:∀ σ H,Pv xs.length σ H→D.nx σ H) :
  ∃ W:Nat→Nat→St→Hp→Prop,(∃ m,W 0 m σ H)∧∀ i m σ H,W i m σ H →
   ((JW K a).stop i H∧D.nx σ H)∨((JW K a).go i H∧∃ N:St→Hp→Prop,(∀ σ' H',N σ' H'→∃ m',m'<m∧W (i+1) m' σ' H')∧∀ x H',(JW K a).IE i H x H'→g x σ H' fun σ2 H2=>tb { D with nx:=N,ct:=N,bk:=D.nx } σ2 H2):=by
 refine⟨fun i m σ H=>m=xs.length-i∧i≤xs.length∧Pv i σ H,⟨xs.length,by simp,mO _,h0⟩,?_⟩
 rintro i m σ H ⟨rfl,hi,p⟩
 have q:=hl i σ H hi p
 by_cases hlt:i<xs.length
 ·refine .inr ⟨⟨xs,xs[i],q,by simp[hlt]⟩,Pv (i+1),fun σ' H' p'=>⟨xs.length-(i+1),by omega,rfl,hlt,p'⟩,fun x H' y=>?_⟩
  obtain⟨e,y⟩:=y
  subst e
  exact hs i x σ _ (y xs q) p
 ·have e:i=xs.length:=by omega
  subst e
  exact .inl ⟨⟨xs,q,fH _⟩,hd σ H p⟩
theorem MC{K:PySem.W.Frag}{a:Addr}{xs:List V}{g:TG}{tb:TS}{D:Ends}{σ:St}{H:Hp}(Pv:Nat→St→Hp→Prop)(h0:Pv 0 σ H)(hl:∀ i σ H,i≤xs.length→Pv i σ H→jK K H a xs)
  (hs:∀ i x σ H,xs[i]?=some x→Pv i σ H→g x σ H fun σ2 H2=>tb { D with nx:=Pv (i+1),ct:=Pv (i+1),bk:=D.nx } σ2 H2) (hd:∀ σ H,Pv xs.length σ H→D.nx σ H) :
  ∃ W:Nat→Nat→St→Hp→Prop,(∃ m,W 0 m σ H)∧∀ i m σ H,W i m σ H →
   ((Rr K a).stop i H∧D.nx σ H)∨((Rr K a).go i H∧∃ N:St→Hp→Prop,(∀ σ' H',N σ' H'→∃ m',m'<m∧W (i+1) m' σ' H')∧∀ x H',(Rr K a).IE i H x H'→g x σ H' fun σ2 H2=>tb { D with nx:=N,ct:=N,bk:=D.nx } σ2 H2):=by
 refine⟨fun i m σ H=>m=xs.length-i∧i≤xs.length∧Pv i σ H,⟨xs.length,by simp,mO _,h0⟩,?_⟩
 rintro i m σ H ⟨rfl,hi,p⟩
 have q:=hl i σ H hi p
 by_cases hlt:i<xs.length
 ·refine .inr ⟨⟨xs,xs[i],q,by simp[hlt]⟩,Pv (i+1),fun σ' H' p'=>⟨xs.length-(i+1),by omega,rfl,hlt,p'⟩,fun x H' y=>?_⟩
  obtain⟨e,y⟩:=y
  subst e
  exact hs i x σ _ (y xs q) p
 ·have e:i=xs.length:=by omega
  subst e
  exact .inl ⟨⟨xs,q,fH _⟩,hd σ H p⟩
theorem m7{lo:Int}{n:Nat}{g:TG}{tb:TS}{D:Ends}{σ:St}{H:Hp}(Pv:Nat→St→Hp→Prop)(h0:Pv 0 σ H)
  (hs:∀ i σ H,i<n→Pv i σ H→g (.int (lo+i)) σ H fun σ2 H2=>tb { D with nx:=Pv (i+1),ct:=Pv (i+1),bk:=D.nx } σ2 H2) (hd:∀ σ H,Pv n σ H→D.nx σ H) :
  ∃ W:Nat→Nat→St→Hp→Prop,(∃ m,W 0 m σ H)∧∀ i m σ H,W i m σ H →
   ((IG lo n).stop i H∧D.nx σ H)∨((IG lo n).go i H∧∃ N:St→Hp→Prop,(∀ σ' H',N σ' H'→∃ m',m'<m∧W (i+1) m' σ' H')∧∀ x H',(IG lo n).IE i H x H'→g x σ H' fun σ2 H2=>tb { D with nx:=N,ct:=N,bk:=D.nx } σ2 H2):=by
 refine⟨fun i m σ H=>m=n-i∧i≤n∧Pv i σ H,⟨n,by simp,mO _,h0⟩,?_⟩
 rintro i m σ H ⟨rfl,hi,p⟩
 by_cases hlt:i<n
 ·refine .inr ⟨hlt,Pv (i+1),fun σ' H' p'=>⟨n-(i+1),by omega,rfl,hlt,p'⟩,fun x H' y=>?_⟩
  obtain⟨e,y⟩:=y
  subst e y
  exact hs i σ _ hlt p
 ·have e:i=n:=by omega
  subst e
  exact .inl ⟨Nat.le_refl _,hd σ H p⟩
end L2
namespace L2
open PySem PySem.Spec PyProof.Rows
abbrev R2:=V→V→Hp→VK→Prop
def uB(X:Cx)(f:Value→Value→Sem Value)(r:R2):Prop :=
 ∀ (pins:List (Addr × Obj)) (s:Shared) (σ:St) (H:Hp) (x y:V) (v u:Value) (Q:VK),Inv X pins σ H s→RelV x v→RelV y u→r x y H Q →
  wpAny (model X.prog X.w) X.A (f v u) (EP X pins σ Q) X.xe s
def Vl(X:Cx)(f:Value→Sem Value)(r:V→Hp→VK→Prop):Prop :=
 ∀ (pins:List (Addr × Obj)) (s:Shared) (σ:St) (H:Hp) (x:V) (v:Value) (Q:VK),Inv X pins σ H s→RelV x v→r x H Q →
  wpAny (model X.prog X.w) X.A (f v) (EP X pins σ Q) X.xe s
def mF(X:Cx)(f:Value)(r:List V→Hp→VK→Prop):Prop :=
 ∀ (pins:List (Addr × Obj)) (s:Shared) (σ:St) (H:Hp) (xs:List V) (us:List Value) (Q:VK),Inv X pins σ H s→Vals xs us→r xs H Q →
  wpAny (model X.prog X.w) X.A (call f us) (EP X pins σ Q) X.xe s
def Vm(X:Cx)(r:V→Hp→(Bool→Hp→Prop)→Prop):Prop :=
 ∀ (pins:List (Addr × Obj)) (s:Shared) (σ:St) (H:Hp) (x:V) (v:Value) (Q:Bool→Hp→Prop),Inv X pins σ H s→RelV x v→r x H Q →
  wpAny (model X.prog X.w) X.A (truthy v) (TP X pins σ Q) X.xe s
def Ub(r:R2)(ta tb:TE):TE:=fun σ H Q=>ta σ H fun x H1=>tb σ H1 fun y H2=>r x y H2 Q
def tUn(r:V→Hp→VK→Prop)(ta:TE):TE:=fun σ H Q=>ta σ H fun x H1=>r x H1 Q
inductive rI(C:Int→Int→Prop)(g:Int→Int→V)(x y:V)(H:Hp)(Q:VK):Prop
 | mk (i j:Int) (_:x=.int i) (_:y=.int j) (_:C i j) (_:Q (g i j) H):rI C g x y H Q
inductive MD(g:Int→Int→V)(x y:V)(H:Hp)(Q:VK):Prop
 | mk (i j:Int) (_:x=.int i) (_:y=.int j) (_:Q (g i j) H):MD g x y H Q
def rU(g:Int→V):V→Hp→VK→Prop:=fun x H Q=>∃ i,x=.int i∧Q (g i) H
section
variable {X:Cx} {a b c:Expr} {ta tb tc:TE} {pos:Pos}
theorem O4(ha:PE X a ta)(hb:PE X b tb){pins:List (Addr × Obj)}{s:Shared}{σ:St}{H:Hp}{R:V→V→Hp→Prop}(I:Inv X pins σ H s)
  (h:ta σ H fun x H1=>tb σ H1 fun y H2=>R x y H2) {Q:Value→Shared→Prop} {f:Value→Value→Sem Value}
  (hf:∀ v u s2 x y H2,Inv X pins σ H2 s2→RelV x v→RelV y u→R x y H2→wpAny (model X.prog X.w) X.A (f v u) Q X.xe s2) :
  wpAny (model X.prog X.w) X.A (eval a X.env) (fun v s₁=>wpAny (model X.prog X.w) X.A (eval b X.env) (fun u s₂=>wpAny (model X.prog X.w) X.A (f v u) Q X.xe s₂) X.xe s₁) X.xe s:=by
 refine bQ (ha pins s σ H _ I h) fun v s1 ⟨x,H1,I1,r1,q1⟩=>?_
 refine bQ (hb pins s1 σ H1 _ I1 q1) fun u s2 ⟨y,H2,I2,r2,q2⟩=>?_
 exact hf v u s2 x y H2 I2 r1 r2 q2
theorem bH{op:Operator}{r:R2}(ho:uB X (binaryOp op) r)(ha:PE X a ta)(hb:PE X b tb):PE X (.BinOp a op b pos) (Ub r ta tb):=by
 intro pins s σ H Q I h
 exact wpAny_BinOp (O4 ha hb I h fun v u s2 x y H2 I2 rx ry q=>ho pins s2 σ H2 x y v u Q I2 rx ry q)
theorem sD{op:UnaryOp}{r:V→Hp→VK→Prop}(ho:Vl X (unaryOp op) r)(ha:PE X a ta):PE X (.UnaryOp op a pos) (tUn r ta):=by
 intro pins s σ H Q I h
 exact UnaryOp_ (bQ (ha pins s σ H _ I h) fun v s1 ⟨x,H1,I1,r1,q1⟩=>ho pins s1 σ H1 x v Q I1 r1 q1)
theorem Uc{f:Value→Value→Sem Value}{C:Int→Int→Prop}{g:Int→Int→Int}
  (rule:∀ (i j:Int) (t u:Tok) (s:Shared) (Q:Value→Shared→Prop) (E:Value→Shared→Prop),C i j→Q (.int (g i j) s.toks) { s with toks:=s.toks+1 }→wpAny (model X.prog X.w) X.A (f (.int i t) (.int j u)) Q E s) :
  uB X f (rI C fun i j=>.int (g i j)):=by
 intro pins s σ H x y v u Q I rx ry h
 obtain⟨i,j,rfl,rfl,hc,q⟩:=h
 obtain⟨t,rfl⟩:=rx
 obtain⟨t',rfl⟩:=ry
 exact rule i j t t' s _ _ hc ⟨.int (g i j),H,I.tok _,⟨_,rfl⟩,q⟩
theorem Rv{f:Value→Value→Sem Value}{g:Int→Int→Int}
  (rule:∀ (i j:Int) (t u:Tok) (s:Shared) (Q:Value→Shared→Prop) (E:Value→Shared→Prop),Q (.int (g i j) s.toks) { s with toks:=s.toks+1 }→wpAny (model X.prog X.w) X.A (f (.int i t) (.int j u)) Q E s) :
  uB X f (MD fun i j=>.int (g i j)):=by
 intro pins s σ H x y v u Q I rx ry h
 obtain⟨i,j,rfl,rfl,q⟩:=h
 obtain⟨t,rfl⟩:=rx
 obtain⟨t',rfl⟩:=ry
 exact rule i j t t' s _ _ ⟨.int (g i j),H,I.tok _,⟨_,rfl⟩,q⟩
theorem ME{f:Value→Value→Sem Value}{g:Int→Int→Bool}
  (rule:∀ (i j:Int) (t u:Tok) (s:Shared) (Q:Value→Shared→Prop) (E:Value→Shared→Prop),Q (.bool (g i j)) s→wpAny (model X.prog X.w) X.A (f (.int i t) (.int j u)) Q E s) :
  uB X f (MD fun i j=>.bl (g i j)):=by
 intro pins s σ H x y v u Q I rx ry h
 obtain⟨i,j,rfl,rfl,q⟩:=h
 obtain⟨t,rfl⟩:=rx
 obtain⟨t',rfl⟩:=ry
 exact rule i j t t' s _ _ ⟨.bl (g i j),H,I,rfl,q⟩
def Vn(i j:Int):Prop:=0≤j∧j≤1000000∧i.natAbs<2^64
def O5(i j:Int):Prop:=(-(2^64)<i∧i<2^64)∨(-(2^64)<j∧j<2^64)
theorem O5.ok{i j:Int}(h:O5 i j):IntMulOk i j:=by
 rcases h with ⟨h1,h2⟩|⟨h1,h2⟩
 ·exact .of_left (intBits_le_64 h1 h2)
 ·exact .of_right (intBits_le_64 h1 h2)
theorem iy:uB X (binaryOp .Add) (MD fun i j=>.int (i+j)):=Rv fun _ _ _ _ _ _ _ q=>add_int q
theorem kX:uB X (binaryOp .Sub) (MD fun i j=>.int (i-j)):=Rv fun _ _ _ _ _ _ _ q=>sub_int q
theorem FY:uB X (binaryOp .Mult) (rI O5 fun i j=>.int (i*j)):=Uc fun _ _ _ _ _ _ _ hc q=>mul_int q hc.ok
theorem yv:uB X (binaryOp .Mod) (rI (fun _ j=>0<j) fun i j=>.int (i % j)):=Uc fun i j _ _ _ _ _ hc q=>by
 have h1:(0:Int)<j:=hc
 exact mod_int' (by omega) (by rw[Int.fmod_eq_emod_of_nonneg i (by omega)];exact q)
theorem Ke:uB X (binaryOp .Pow) (rI Vn fun i j=>.int (i^j.toNat)):=Uc fun _ _ _ _ _ _ _ hc q=>pow_int_small hc.1 hc.2.1 hc.2.2 q
theorem unI{f:Value→Sem Value}{g:Int→Int}
  (rule:∀ (i:Int) (t:Tok) (s:Shared) (Q:Value→Shared→Prop) (E:Value→Shared→Prop),Q (.int (g i) s.toks) { s with toks:=s.toks+1 }→wpAny (model X.prog X.w) X.A (f (.int i t)) Q E s) :
  Vl X f (rU fun i=>.int (g i)):=by
 intro pins s σ H x v Q I rx h
 obtain⟨i,rfl,q⟩:=h
 obtain⟨t,rfl⟩:=rx
 exact rule i t s _ _ ⟨.int (g i),H,I.tok _,⟨_,rfl⟩,q⟩
theorem oW:Vl X (unaryOp .USub) (rU fun i=>.int (-i)):=unI fun _ _ _ _ _ q=>neg_int q
end
def Rw:V→V→Bool
 | .jE,.jE=>true | .jE,.int _=>true | .int _,.jE=>true | .jE,.bl _=>true | .bl _,.jE=>true | .jE,.str _=>true | .str _,.jE=>true
 | .int _,.int _=>true | .bl _,.bl _=>true | .str _,.str _=>true | .FT _,.FT _=>true
 | .int _,.str _=>true | .str _,.int _=>true | .bl _,.str _=>true | .str _,.bl _=>true
 | _,_=>false
def rEq:R2:=fun x y H Q=>Rw x y=true∧Q (.bl (decide (x=y))) H
def rNe:R2:=fun x y H Q=>Rw x y=true∧Q (.bl (!decide (x=y))) H
theorem G8{i j:Int}:decide (V.int i=V.int j)=(i == j):=by
 rw[Bool.eq_iff_iff]
 simp
theorem Kf{i j:Bool}:decide (V.bl i=V.bl j)=(i == j):=by
 rw[Bool.eq_iff_iff]
 simp
theorem G9{i j:Str}:decide (V.str i=V.str j)=(i == j):=by
 rw[Bool.eq_iff_iff]
 simp
theorem Hf{i j:Array UInt8}:decide (V.FT i=V.FT j)=(i.toList == j.toList):=by
 rw[Bool.eq_iff_iff]
 cases i
 cases j
 simp
section
variable {X:Cx} {a b c:Expr} {ta tb tc:TE} {pos:Pos}
theorem cJ{pins:List (Addr × Obj)}{σ:St}{H:Hp}{s:Shared}{Q:VK}{k k':Bool}(I:Inv X pins σ H s)(q:Q (.bl k) H)(e:k=k'):EP X pins σ Q (.bool k') s:=by
 subst e
 exact⟨.bl k,H,I,rfl,q⟩
theorem mG:uB X (compareOp .Eq) rEq:=by
 intro pins s σ H x y v u Q I rx ry h
 obtain⟨hs,q⟩:=h
 cases x with
 | jE =>
  cases rx
  cases y with
  | jE=>cases ry;exact PySem.EqNone.eq_none_none (cJ I q (by simp))
  | bl j=>cases ry;exact PySem.EqNone.eq_none_bool (cJ I q (by simp))
  | int j=>obtain⟨t',rfl⟩:=ry;exact PySem.EqNone.eq_none_int (cJ I q (by simp))
  | str j=>obtain⟨t',rfl⟩:=ry;exact PySem.EqNone.eq_none_str (cJ I q (by simp))
  | _=>exact absurd (show false=true from hs) jX
 | bl i =>
  cases rx
  cases y with
  | jE=>cases ry;exact PySem.EqNone.eq_bool_none (cJ I q (by simp))
  | bl j=>cases ry;exact eq_bool (cJ I q Kf)
  | str j=>obtain⟨t',rfl⟩:=ry;exact PySem.EqMixed.eq_bool_str (cJ I q (by simp))
  | _=>exact absurd (show false=true from hs) jX
 | int i =>
  obtain⟨t,rfl⟩:=rx
  cases y with
  | jE=>cases ry;exact PySem.EqNone.eq_int_none (cJ I q (by simp))
  | int j=>obtain⟨t',rfl⟩:=ry;exact eq_int (cJ I q G8)
  | str j=>obtain⟨t',rfl⟩:=ry;exact PySem.EqMixed.eq_int_str (cJ I q (by simp))
  | _=>exact absurd (show false=true from hs) jX
 | str i =>
  obtain⟨t,rfl⟩:=rx
  cases y with
  | jE=>cases ry;exact PySem.EqNone.eq_str_none (cJ I q (by simp))
  | bl j=>cases ry;exact PySem.EqMixed.eq_str_bool (cJ I q (by simp))
  | int j=>obtain⟨t',rfl⟩:=ry;exact PySem.EqMixed.eq_str_int (cJ I q (by simp))
  | str j=>obtain⟨t',rfl⟩:=ry;exact eq_str (cJ I q G9)
  | _=>exact absurd (show false=true from hs) jX
 | FT i =>
  obtain⟨t,rfl⟩:=rx
  cases y with
  | FT j=>obtain⟨t',rfl⟩:=ry;exact PySem.W.eq_bytes (cJ I q Hf)
  | _=>exact absurd (show false=true from hs) jX
 | _=>cases y <;> exact absurd (show false=true from hs) jX
theorem Kg:uB X (compareOp .NotEq) rNe:=by
 intro pins s σ H x y v u Q I rx ry h
 obtain⟨hs,q⟩:=h
 cases x with
 | jE =>
  cases rx
  cases y with
  | jE=>cases ry;exact PySem.EqNone.ne_none_none (cJ I q (by simp))
  | bl j=>cases ry;exact PySem.EqNone.ne_none_bool (cJ I q (by simp))
  | int j=>obtain⟨t',rfl⟩:=ry;exact PySem.EqNone.ne_none_int (cJ I q (by simp))
  | str j=>obtain⟨t',rfl⟩:=ry;exact PySem.EqNone.ne_none_str (cJ I q (by simp))
  | _=>exact absurd (show false=true from hs) jX
 | bl i =>
  cases rx
  cases y with
  | jE=>cases ry;exact PySem.EqNone.ne_bool_none (cJ I q (by simp))
  | bl j=>cases ry;exact ne_bool (cJ I q (congrArg not Kf))
  | str j=>obtain⟨t',rfl⟩:=ry;exact PySem.EqMixed.ne_bool_str (cJ I q (by simp))
  | _=>exact absurd (show false=true from hs) jX
 | int i =>
  obtain⟨t,rfl⟩:=rx
  cases y with
  | jE=>cases ry;exact PySem.EqNone.ne_int_none (cJ I q (by simp))
  | int j=>obtain⟨t',rfl⟩:=ry;exact ne_int (cJ I q (congrArg not G8))
  | str j=>obtain⟨t',rfl⟩:=ry;exact PySem.EqMixed.ne_int_str (cJ I q (by simp))
  | _=>exact absurd (show false=true from hs) jX
 | str i =>
  obtain⟨t,rfl⟩:=rx
  cases y with
  | jE=>cases ry;exact PySem.EqNone.ne_str_none (cJ I q (by simp))
  | bl j=>cases ry;exact PySem.EqMixed.ne_str_bool (cJ I q (by simp))
  | int j=>obtain⟨t',rfl⟩:=ry;exact PySem.EqMixed.ne_str_int (cJ I q (by simp))
  | str j=>obtain⟨t',rfl⟩:=ry;exact ne_str (cJ I q (congrArg not G9))
  | _=>exact absurd (show false=true from hs) jX
 | FT i =>
  obtain⟨t,rfl⟩:=rx
  cases y with
  | FT j=>obtain⟨t',rfl⟩:=ry;exact PySem.W.ne_bytes (cJ I q (congrArg not Hf))
  | _=>exact absurd (show false=true from hs) jX
 | _=>cases y <;> exact absurd (show false=true from hs) jX
theorem yx:uB X (compareOp .Lt) (MD fun i j=>.bl (decide (i<j))):=ME fun _ _ _ _ _ _ _ q=>lt_int q
theorem nu:uB X (compareOp .LtE) (MD fun i j=>.bl (decide (i≤j))):=ME fun _ _ _ _ _ _ _ q=>le_int q
theorem Hg:uB X (compareOp .Gt) (MD fun i j=>.bl (decide (j<i))):=ME fun _ _ _ _ _ _ _ q=>gt_int q
theorem N5:uB X (compareOp .GtE) (MD fun i j=>.bl (decide (j≤i))):=ME fun _ _ _ _ _ _ _ q=>ge_int q
theorem cj(b:Expr){op:CmpOp}(h:op≠.In:=by decide)(h2:op≠.NotIn:=by decide):behindInMarks op b=false:=by
 have e1:(op == CmpOp.In)=false:=by cases op <;> first|rfl|exact absurd rfl h
 have e2:(op == CmpOp.NotIn)=false:=by cases op <;> first|rfl|exact absurd rfl h2
 cases b <;> simp[behindInMarks,e1,e2]
theorem mP{op:CmpOp}{r:R2}(ho:uB X (compareOp op) r)(ha:PE X a ta)(hb:PE X b tb)(hm:behindInMarks op b=false):PE X (.Compare a [op] [b] pos) (Ub r ta tb):=by
 intro pins s σ H Q I h
 exact wpAny_Compare1 (O4 ha hb I h fun v u s2 x y H2 I2 rx ry q=>ho pins s2 σ H2 x y v u Q I2 rx ry q) hm
def N6(t:TE):TT:=fun σ H Q=>t σ H fun x H'=>Ri x H' Q
theorem cI{op:CmpOp}{r:R2}(ho:uB X (compareOp op) r)(ha:PE X a ta)(hb:PE X b tb)(hm:behindInMarks op b=false):PT X (.Compare a [op] [b] pos) (N6 (Ub r ta tb)):=by
 intro pins s σ H Q I h
 refine wpAny_isTrue_Compare1 (bQ (ha pins s σ H _ I h) fun v s1 ⟨x,H1,I1,r1,q1⟩=>bQ (hb pins s1 σ H1 _ I1 q1) fun u s2 ⟨y,H2,I2,r2,q2⟩ =>
  bQ (ho pins s2 σ H2 x y v u _ I2 r1 r2 q2) fun c s3 ⟨z,H3,I3,r3,k,e,q3⟩=>?_) hm
 subst e
 cases r3
 exact wpAny_truthy_bool ⟨H3,I3,q3⟩
def O6(r r':R2)(ta tb tc:TE):TE:=fun σ H Q=>ta σ H fun x H1=>tb σ H1 fun y H2=>r x y H2 fun z H3=>∃ k,z=.bl k ∧
 (if k=true then tc σ H3 fun w' H4=>r' y w' H4 Q else Q (.bl false) H3)
theorem uC{op op':CmpOp}{r r':R2}(ho:uB X (compareOp op) r)(ho':uB X (compareOp op') r')(ha:PE X a ta)(hb:PE X b tb)(hc:PE X c tc)
  (hm:lastMarks [op,op'] [b,c]=false:=by with_unfolding_all rfl):PT X (.Compare a [op,op'] [b,c] pos) (N6 (O6 r r' ta tb tc)):=by
 intro pins s σ H Q I h
 refine isTrue_chain (bQ (ha pins s σ H _ I h) fun v s1 ⟨x,H1,I1,r1,q1⟩=>test_link (bQ (hb pins s1 σ H1 _ I1 q1) fun u s2 ⟨y,H2,I2,r2,q2⟩ =>
  bQ (ho pins s2 σ H2 x y v u _ I2 r1 r2 q2) fun d s3 ⟨z,H3,I3,r3,k,e,q3⟩=>?_)) hm
 subst e
 cases r3
 refine wpAny_truthy_bool ?_
 cases k with
 | false =>
  obtain⟨k',e',q'⟩:=q3
  cases e'
  exact ite_ff ⟨H3,I3,q'⟩
 | true =>
  refine ite_tt (test_last (bQ (hc pins s3 σ H3 _ I3 q3) fun w' s4 ⟨z',H4,I4,r4,q4⟩=>bQ (ho' pins s4 σ H4 y z' u w' _ I4 r2 r4 q4) fun d' s5 ⟨z2,H5,I5,r5,k2,e2,q5⟩=>?_))
  subst e2
  cases r5
  exact wpAny_truthy_bool ⟨H5,I5,q5⟩
def Rx(K:PySem.W.Frag)(x:V)(H:Hp)(k:Bool):Prop :=
 match x with
 | .jE=>k=false
 | .bl b=>k=b
 | .int i=>k=(i != 0)
 | .str y=>y.length≤sizeLine∧k=((y.length:Int) != 0)
 | .FT y=>y.size≤sizeLine∧k=((y.size:Int) != 0)
 | .ref p=>(∃ xs,bG K H p xs∧k=!xs.isEmpty)∨(∃ xs,jK K H p xs∧k=!xs.isEmpty)∨∃ kvs,H p=some (.dK kvs)∧k=!kvs.isEmpty
 | _=>False
theorem FZ{κ:Type}{kvs:List (κ × V)}{vs:List (κ × Value)}(r:KV kvs vs):(!vs.isEmpty)=!kvs.isEmpty:=by
 cases r <;> rfl
theorem yy{xs:List V}{its:List Value}(r:Vals xs its):(!its.toArray.isEmpty)=!xs.isEmpty:=by
 cases r <;> simp
theorem tG:(sizeLine:Nat)<2^63:=by rw[sizeLine_eq];decide
theorem O7:Vm X (fun x H Q=>∃ k,Rx X.K x H k∧Q k H):=by
 intro pins s σ H x v Q I rx h
 obtain⟨k,e,q⟩:=h
 have hl:=tG
 have hs:sizeLine=16777216:=sizeLine_eq
 cases x with
 | jE =>
  cases rx
  have e':k=false:=e
  subst e'
  exact truthy_none ⟨H,I,q⟩
 | bl b =>
  cases rx
  have e':k=b:=e
  subst e'
  exact wpAny_truthy_bool ⟨H,I,q⟩
 | int i =>
  obtain⟨t,rfl⟩:=rx
  have e':k=(i != 0):=e
  subst e'
  exact PySem.P.truthy_int ⟨H,I,q⟩
 | str y =>
  obtain⟨t,rfl⟩:=rx
  obtain⟨hy,e'⟩:y.length≤sizeLine∧k=((y.length:Int) != 0):=e
  subst e'
  exact PySem.P.truthy_str (by omega) ⟨H,I.tok _,q⟩
 | FT y =>
  obtain⟨t,rfl⟩:=rx
  obtain⟨hy,e'⟩:y.size≤sizeLine∧k=((y.size:Int) != 0):=e
  subst e'
  exact PySem.W.truthy_bytes (by omega) ⟨H,I.tok _,q⟩
 | ref p =>
  cases rx
  have e':(∃ xs,bG X.K H p xs∧k=!xs.isEmpty)∨(∃ xs,jK X.K H p xs∧k=!xs.isEmpty)∨∃ kvs,H p=some (.dK kvs)∧k=!kvs.isEmpty:=e
  rcases e' with ⟨xs,hx,e'⟩|⟨xs,hx,e'⟩|⟨kvs,hx,e'⟩
  ·subst e'
   obtain⟨its,r,pl,hz⟩:=I.list hx
   have hlen:=r.length
   exact wpAny_truthy_list pl.isList (by simp only[qy];omega) ⟨H,I.tok _,by rw[yy r];exact q⟩
  ·subst e'
   obtain⟨its,r,pl,hz⟩:=I.tuple hx
   have hlen:=r.length
   exact truthy_tuple pl (by simp only[qy];omega) ⟨H,I.tok _,by rw[yy r];exact q⟩
  ·subst e'
   obtain⟨hz,hS,vs,r,m⟩:kvs.length≤sizeLine∧(p == sysModules)=false∧∃ vs,KV kvs vs∧s.heap.DictOf (gf X.prog X.w) p vs:=I.hok p _ hx
   have hlen:kvs.length=vs.length:=Paired.length r
   exact wpAny_truthy_dict hS m (by omega) ⟨H,I.tok _,by rw[FZ r];exact q⟩
 | _=>exact (show False from e).elim
theorem nv(ha:PE X a ta)(he:∀ whole,isTrue a X.env whole=(do let v ← whole;standAt a.pos;holding [v] (truthy v))) :
  PT X a (fun σ H Q=>ta σ H fun x H'=>∃ k,Rx X.K x H' k∧Q k H'):=by
 intro pins s σ H Q I h
 exact isTrue_plain (bQ (ha pins s σ H _ I h) fun v s1 ⟨x,H1,I1,r1,q1⟩=>O7 pins s1 σ H1 x v Q I1 r1 q1) (he _)
theorem vals1{x:V}{us:List Value}(r:Vals [x] us):∃ u,us=[u]∧RelV x u:=by
 cases r with
 | cons r1 r2=>cases r2;exact⟨_,rfl,r1⟩
theorem vals2{x y:V}{us:List Value}(r:Vals [x,y] us):∃ u w',us=[u,w']∧RelV x u∧RelV y w':=by
 cases r with
 | cons r1 r2 =>
  cases r2 with
  | cons r3 r4=>cases r4;exact⟨_,_,rfl,r1,r3⟩
theorem vq(hc:X.calm=true):mF X (.builtin "max") (fun xs H Q=>∃ i j,xs=[.int i,.int j]∧Q (.int (if j > i then j else i)) H):=by
 intro pins s σ H xs us Q I r h
 obtain⟨i,j,rfl,q⟩:=h
 obtain⟨u,w',rfl,⟨t,rfl⟩,⟨t',rfl⟩⟩:=vals2 r
 refine max_two_ints (I.ok.hd hc) fun h' tk k=>⟨_,H,I.kept k,?_,q⟩
 by_cases hj:j > i
 ·rw[if_pos hj,if_pos hj];exact⟨_,rfl⟩
 ·rw[if_neg hj,if_neg hj];exact⟨_,rfl⟩
theorem vt(hc:X.calm=true):mF X (.builtin "min") (fun xs H Q=>∃ i j,xs=[.int i,.int j]∧Q (.int (if j<i then j else i)) H):=by
 intro pins s σ H xs us Q I r h
 obtain⟨i,j,rfl,q⟩:=h
 obtain⟨u,w',rfl,⟨t,rfl⟩,⟨t',rfl⟩⟩:=vals2 r
 refine min_two_ints (I.ok.hd hc) fun h' tk k=>⟨_,H,I.kept k,?_,q⟩
 by_cases hj:j<i
 ·rw[if_pos hj,if_pos hj];exact⟨_,rfl⟩
 ·rw[if_neg hj,if_neg hj];exact⟨_,rfl⟩
end
end L2
namespace L2
open PySem PySem.Spec PyProof.Rows
structure F0(h:Heap)(x dx C:Addr)(mA:Str→Option Value):Prop where
 obj:h.get? x=some (PySem.W.instObj C dx)
 ns:h.Ns1 dx mA
 ne:dx≠x
theorem IK{h:Heap}{dx:Addr}{mA:Str→Option Value}(n:h.Ns1 dx mA):∃ od,h.get? dx=some od∧∀ name,PySem.W.lookIn name od=some (mA name):=by
 obtain⟨o,es,ep,ho,hd,hk,_,hm⟩:=n
 refine⟨o,ho,fun name=>?_⟩
 have e:=hm name
 unfold nsFind findBy at e
 rw[← Array.find?_toList]at e
 unfold PySem.W.lookIn
 rw[hd]
 dsimp only
 split
 ·rename_i y q
  rw[q]at e
  exact congrArg some e
 ·rename_i q
  rw[q]at e
  have a:es.toList.any (·.refKey)=false:=by
   rw[List.any_eq_false]
   intro y hy
   obtain⟨z,t,hkey⟩:=hk y (Array.mem_toList_iff.mp hy)
   simp[DictEntry.refKey,hkey]
  have a':¬ es.toList.any (·.refKey)=true:=by rw[a];exact jX
  rw[if_neg a']
  exact congrArg some e
theorem F0.look{h:Heap}{x dx C:Addr}{mA:Str→Option Value}(I:F0 h x dx C mA):∃ od,PySem.W.InstAt h x (PySem.W.instObj C dx) C (some od)∧∀ name,PySem.W.lookIn name od=some (mA name) :=
 let ⟨od,ho,hl⟩:=IK I.ns
 ⟨od,⟨I.obj,rfl,rfl,ho⟩,hl⟩
section
variable {prog:Program} {w:World} {A:Around} {E:Value→Shared→Prop} {s:Shared} {K:PySem.W.Frag} {x dx C f:Addr} {mA:Str→Option Value} {name:Str} {v:Value}
theorem get_map{expr:Bool}{Q:Value→Shared→Prop}(X:K.In s.heap)(I:F0 s.heap x dx C mA)(hg:PySem.W.plainGet K C name=true)(hh:PySem.W.hasDictIn K C=true)
  (ha:PySem.W.findIn K (.ref C) name=some none) (hv:mA name=some v) (hv':PySem.W.handedIn v=true) (h:Q v { s with toks:=s.toks+1 }) :
  wpAny (model prog w) A (getAttr (.ref x) name expr) Q E s:=by
 obtain⟨od,J,hl⟩:=I.look
 exact PySem.W.get_value X J (PySem.W.plainGet_of hg).1 (PySem.W.findObj_own hh ha rfl (by rw[hl,hv])) hv' h
theorem Kh{pl:Sem Bool}{Q:Value × List Value→Shared→Prop}(X:K.In s.heap)(I:F0 s.heap x dx C mA)(hg:PySem.W.plainGet K C name=true)
  (hf:PySem.W.findIn K (.ref C) name=some (some (.ref f))) (ht:PySem.W.isFn K (.ref f)=true) (hv:mA name=none) (h:Q (.ref f,[.ref x]) s) :
  wpAny (model prog w) A (getMethod (.ref x) name pl) Q E s:=by
 obtain⟨od,J,hl⟩:=I.look
 exact PySem.W.method_fn X J (PySem.W.plainGet_of hg).1 (PySem.W.plainGet_of hg).2 hf (beq_iff_eq.mp ht) (by show (PySem.W.lookIn name od).map (·.isSome)=some false;rw[hl,hv];rfl) h
theorem MF{ns:List Str}{Q:Unit→Shared→Prop}(X:K.In s.heap)(I:F0 s.heap x dx C mA)
  (hs:PySem.W.findIn K (.ref C) "__setattr__"=some (some (.builtin "object.__setattr__"))) (hp:PySem.W.plainOver K C=true) (ht:PySem.W.takerIn K C name=some none) (hh:PySem.W.hasDictIn K C=true)
  (hw:PySem.Within mA ns) (hsz:ns.length≤sizeLine)
  (h:∀ h',F0 h' x dx C (fun y=>if y=name then some v else mA y)→Heap.SameBut dx s.heap h'→Q () { s with heap:=h',toks:=s.toks+2 }) :
  wpAny (model prog w) A (setAttr (.ref x) name v) Q E s:=by
 obtain⟨od,J,hl⟩:=I.look
 refine PySem.W.set_plain X J hs (PySem.W.osa_open (s:={ s with toks:=s.toks+1 }) (r:=none) X J hp ht fun b=>?_)
 obtain⟨cd,hc,hd'⟩:=PySem.W.any_some hh
 have hx:s.heap.get? x=some ⟨.ref C,some dx,.plain,#[]⟩:=I.obj
 refine wpAny_bind (wpAny_pure (wpAny_bind (wpAny_bind (wpAny_loadPart hx (wpAny_bind (PySem.W.Looks.here (s:={ s with toks:=s.toks+1 }) (PySem.W.looks_clsIn X hc) ?_))))))
 rw[hd']
 refine wpAny_pure (a:=some dx) (wpAny_bind (wpAny_pure (wpAny_bind ?_)))
 refine wpAny_nsSet1 (s:={ s with toks:=s.toks+1 }) I.ns fun h' hn2 hs2=>?_
 obtain⟨oD,esD,epD,hoD,hdD,hcD⟩:=hn2.count (PySem.Within.cons name v hw)
 refine wpAny_bind (wpAny_lookBehind hoD (by rw[hdD];exact pastItsLine_dict (mL hcD (by rw[mq];omega))) ?_)
 exact wpAny_pure (h _ ⟨(hs2.2 _ (Ne.symm I.ne)).trans I.obj,hn2,I.ne⟩ hs2)
theorem Kl{R:Result→Shared→Prop}{vs:List Value}{kw:List (Str × Value)}(X:K.In s.heap)(hm:PySem.W.makesIn K C=true)
  (hi:PySem.W.findIn K (.ref C) "__init__"=some (some (.ref f))) (hf:PySem.W.typeIn K (.ref f)=some (.type "function"))
  (h:codeAny (model prog w) (A.under (.builtin "type.__call__" ⟨.ref C::vs,kw⟩)) (.call (.ref f) ⟨.ref (s.heap.objs.size+1)::vs,kw⟩) (PySem.W.InitBack (s.heap.objs.size+1) R)
   { s with heap:=(s.heap.push PySem.W.emptyDict).push (PySem.W.instObj C s.heap.objs.size) }) :
  codeAny (model prog w) A (.call (.ref C) ⟨vs,kw⟩) R s:=by
 obtain⟨hh,g,d,t,os⟩:=s
 exact PySem.W.make_core (PySem.W.makes_of X hm) (PySem.W.looks_findIn X hi) (fun self=>PySem.W.bind_fn X self hf) (.inl rfl) h
end
def cT(f:Str)(v:V):List (Str × V)→List (Str × V)
 | []=>[(f,v)]
 | (g,x)::r=>if g=f then (g,v)::r else (g,x)::cT f v r
theorem wH(f g:Str)(v:V):∀ fs:List (Str × V),(cT f v fs).lookup g=if g=f then some v else fs.lookup g
 | []=>by
  show List.lookup g [(f,v)]=_
  by_cases h:g=f
  ·have hb:(g == f)=true:=beq_iff_eq.mpr h
   simp only[List.lookup,hb,if_pos h]
  ·have hb:(g == f)=false:=beq_eq_false_iff_ne.mpr h
   simp only[List.lookup,hb,if_neg h]
 | (k,x)::r=>by
  have ih:=wH f g v r
  rw[show cT f v ((k,x)::r)=(if k=f then (k,v)::r else (k,x)::cT f v r) from rfl]
  by_cases hk:k=f
  ·rw[if_pos hk]
   by_cases h:g=k
   ·have hb:(g == k)=true:=beq_iff_eq.mpr h
    simp only[List.lookup,hb,if_pos (h.trans hk)]
   ·have hb:(g == k)=false:=beq_eq_false_iff_ne.mpr h
    simp only[List.lookup,hb,if_neg (fun e:g=f=>h (e.trans hk.symm))]
  ·rw[if_neg hk]
   by_cases h:g=k
   ·have hb:(g == k)=true:=beq_iff_eq.mpr h
    simp only[List.lookup,hb,if_neg (fun e:g=f=>hk (h.symm.trans e))]
   ·have hb:(g == k)=false:=beq_eq_false_iff_ne.mpr h
    simp only[List.lookup,hb]
    exact ih
theorem vv(f:Str)(v:V):∀ fs:List (Str × V),f∈(cT f v fs).map (·.1)∧∀ g,g∈fs.map (·.1)→g∈(cT f v fs).map (·.1)
 | []=>⟨by simp[cT],fun g h=>by simp at h⟩
 | (k,x)::r=>by
  obtain⟨i1,i2⟩:=vv f v r
  rw[show cT f v ((k,x)::r)=(if k=f then (k,v)::r else (k,x)::cT f v r) from rfl]
  by_cases hk:k=f
  ·rw[if_pos hk]
   subst hk
   exact⟨by simp,fun g h=>by simpa using h⟩
  ·rw[if_neg hk]
   refine⟨?_,fun g h=>?_⟩
   ·rw[kO]
    exact rV _ i1
   ·rw[kO]at h ⊢
    rcases List.mem_cons.mp h with e|e
    ·exact List.mem_cons.mpr (.inl e)
    ·exact rV _ (i2 g e)
theorem wI(f:Str)(v:V):∀ fs:List (Str × V),(cT f v fs).length≤fs.length+1
 | []=>by simp[cT]
 | (k,x)::r=>by
  have ih:=wI f v r
  rw[show cT f v ((k,x)::r)=(if k=f then (k,v)::r else (k,x)::cT f v r) from rfl]
  by_cases hk:k=f
  ·rw[if_pos hk,mq,mq];omega
  ·rw[if_neg hk,mq,mq];omega
theorem rY.some_of{v:V}{o:Option Value}(r:rY (some v) o):∃ u,o=some u∧RelV v u:=by
 cases o with
 | none=>exact (show False from r).elim
 | some u=>exact⟨u,rfl,r⟩
theorem rY.none_of{o:Option Value}(r:rY none o):o=none:=by
 cases o with
 | none=>rfl
 | some u=>exact (show False from r).elim
theorem IL{v:V}{u:Value}(r:RelV v u):PySem.W.handedIn u=true:=by
 cases v with
 | jE=>cases (show u=Value.none from r);rfl
 | bl b=>cases (show u=Value.bool b from r);rfl
 | int i=>obtain⟨t,e⟩:=(show ∃ t,u=Value.int i t from r);cases e;rfl
 | str x=>obtain⟨t,e⟩:=(show ∃ t,u=Value.str x t from r);cases e;rfl
 | FT b=>obtain⟨t,e⟩:=(show ∃ t,u=Value.bytes b t from r);cases e;rfl
 | NW b=>obtain⟨t,e⟩:=(show ∃ t,u=Value.float b t from r);cases e;rfl
 | ref a=>cases (show u=Value.ref a from r);rfl
 | ty n=>cases (show u=Value.type n from r);rfl
section
variable {P:Program} {w:World} {H H':Hp} {h h':Heap} {a C dx:Addr} {fs fs':List (Str × V)}
theorem xS(hok:rC P w H h)(e:H a=some (.ins C dx fs)):∃ mA,F0 h a dx C mA∧(∀ f,rY (fs.lookup f) (mA f))∧PySem.Within mA (fs.map (·.1))∧fs.length≤1000∧H dx=some (.own a):=by
 obtain⟨d,z,ne,ob,mA,n,r,q⟩:=(show gh P w H h a (.ins C dx fs) from hok a _ e)
 exact⟨mA,⟨ob,n,ne⟩,r,q,z,d⟩
end
structure Aq(K:PySem.W.Frag)(C:Addr):Prop where
 pg:PySem.W.plainGet K C Str.empty=true
 hd:PySem.W.hasDictIn K C=true
 po:PySem.W.plainOver K C=true
 sa:PySem.W.findIn K (.ref C) "__setattr__"=some (some (.builtin "object.__setattr__"))
theorem Aq.get{K:PySem.W.Frag}{C:Addr}(c:Aq K C)(f:Str):PySem.W.plainGet K C f=true:=c.pg
def aU(K:PySem.W.Frag)(C:Addr)(f:Str):Prop:=PySem.W.findIn K (.ref C) f=some none
theorem aU.Ry{K:PySem.W.Frag}{C:Addr}{f:Str}(n:aU K C f):PySem.W.takerIn K C f=some none:=by
 unfold PySem.W.takerIn
 rw[show PySem.W.findIn K (.ref C) f=some none from n]
 rfl
structure Meth(K:PySem.W.Frag)(C:Addr)(m:Str)(f:Addr):Prop where
 at_:PySem.W.findIn K (.ref C) m=some (some (.ref f))
 fn:PySem.W.isFn K (.ref f)=true
 kp:PySem.W.keepIn K (.ref f)=true
section
variable {X:Cx} {pins:List (Addr × Obj)} {σ:St} {H:Hp} {s:Shared} {a C dx:Addr} {fs:List (Str × V)} {f:Str} {v:V} {A:Around} {E:Value→Shared→Prop}
theorem yz{b:Bool}{Q:Value→Shared→Prop}(I:Inv X pins σ H s)(e:H a=some (.ins C dx fs))(c:Aq X.K C)(n:aU X.K C f)(l:fs.lookup f=some v)
  (h:∀ u s',Inv X pins σ H s'→RelV v u→Q u s'):wpAny (model X.prog X.w) A (getAttr (.ref a) f b) Q E s:=by
 obtain⟨mA,O,r,_,_,_⟩:=xS I.hok e
 obtain⟨u,hu,ru⟩:=rY.some_of (v:=v) (o:=mA f) (by rw[← l];exact r f)
 exact get_map I.wF O (c.get f) c.hd n hu (IL ru) (h u _ (I.tok _) ru)
theorem yC{m:Str}{g:Addr}{pl:Sem Bool}{Q:Value × List Value→Shared→Prop}(I:Inv X pins σ H s)(e:H a=some (.ins C dx fs))(c:Aq X.K C)(k:Meth X.K C m g)(l:fs.lookup m=none)
  (h:Q (.ref g,[.ref a]) s):wpAny (model X.prog X.w) A (getMethod (.ref a) m pl) Q E s:=by
 obtain⟨mA,O,r,_,_,_⟩:=xS I.hok e
 have hn:mA m=none:=rY.none_of (by rw[← l];exact r m)
 exact Kh I.wF O (c.get m) k.at_ k.fn hn h
theorem yD{y:V}{u:Value}{Q:Unit→Shared→Prop}(I:Inv X pins σ H s)(e:H a=some (.ins C dx fs))(c:Aq X.K C)(n:aU X.K C f)(hl:fs.length<1000)(ry:RelV y u)
  (h:∀ s',Inv X pins σ (upd H a (.ins C dx (cT f y fs))) s'→Q () s'):wpAny (model X.prog X.w) A (setAttr (.ref a) f u) Q E s:=by
 obtain⟨mA,O,r,wi,_,ho⟩:=xS I.hok e
 have hz:(fs.map (·.1)).length≤sizeLine:=by rw[bY,sizeLine_eq];omega
 refine MF I.wF O c.sa c.po n.Ry c.hd wi hz fun h' O' sb=>h _ ?_
 have hd:∃ o,h'.get? dx=some o:=let ⟨o,_,_,e',_⟩:=O'.ns;⟨o,e'⟩
 refine I.write (x:=a) (e:=dx) (by rw[e];exact True.intro) (.inr ho) (fun b q hb z=>(sb.2 b hb).trans z) hd ?_
 refine⟨by rw[aC O.ne];exact ho,?_,O.ne,O'.obj,_,O'.ns,fun g=>?_,fun g hg=>?_⟩
 ·have:=wI f y fs;omega
 ·show rY ((cT f y fs).lookup g) (if g=f then some u else mA g)
  rw[wH]
  by_cases q:g=f
  ·rw[if_pos q,if_pos q];exact ry
  ·rw[if_neg q,if_neg q];exact r g
 ·by_cases q:g=f
  ·rw[q];exact (vv f y fs).1
  ·refine (vv f y fs).2 g (wi g fun z=>hg ?_)
   show (if g=f then some u else mA g)=none
   rw[if_neg q];exact z
theorem Inv.made(I:Inv X pins σ H s):Inv X pins σ (upd (upd H s.heap.objs.size (.own (s.heap.objs.size+1))) (s.heap.objs.size+1) (.ins C s.heap.objs.size []))
  { s with heap:=(s.heap.push PySem.W.emptyDict).push (PySem.W.instObj C s.heap.objs.size) }:=by
 have e1:(s.heap.push PySem.W.emptyDict).get? s.heap.objs.size=some PySem.W.emptyDict:=Heap.get?_push_size s.heap rfl
 have e2:((s.heap.push PySem.W.emptyDict).push (PySem.W.instObj C s.heap.objs.size)).get? (s.heap.objs.size+1)=some (PySem.W.instObj C s.heap.objs.size):=by
  have:=Heap.get?_push_size (s.heap.push PySem.W.emptyDict) (o:=PySem.W.instObj C s.heap.objs.size) rfl
  rwa [Heap.size_push]at this
 have e3:(s.heap.push PySem.W.emptyDict).Ns s.heap.objs.size (fun _=>none):=⟨PySem.W.emptyDict,#[],_,e1,rfl,(fun e he=>absurd he (by simp)),fun _=>rfl⟩
 have I1:=I.laid (a:=s.heap.objs.size) (o:=.own (s.heap.objs.size+1)) (h':=s.heap.push PySem.W.emptyDict) (t':=s.toks) (fun b u q=>Heap.get?_push_of_some _ q) (fH _) ⟨_,e1⟩
 refine I1.laid (a:=s.heap.objs.size+1) (o:=.ins C s.heap.objs.size []) (t':=s.toks) (fun b u q=>Heap.get?_push_of_some _ q) (Nat.le_of_eq (Heap.size_push _ _)) ?_
 have ne:s.heap.objs.size≠s.heap.objs.size+1:=jL (Nat.lt_succ_self _)
 refine⟨by rw[aC ne,af],mO _,ne,e2,fun _=>none,(Heap.Ns1.of_empty e3).at fun o q=>Heap.get?_push_of_some _ q,fun _=>True.intro,fun y hy=>absurd rfl hy⟩
theorem MG{prog:Program}{w:World}{env:Env}{e:Expr}{f:Str}{pos:Pos}{s:Shared}{Q:Value→Shared→Prop}(hb:attributeBase e f env (eval e env)=eval e env)
  (h:wpAny (model prog w) A (eval e env) (fun o s₁=>wpAny (model prog w) A (getAttr o f true) Q E s₁) E s):wpAny (model prog w) A (eval (.Attribute e f pos) env) Q E s :=
 Attribute_any_ h (by rw[arm_eval_Attribute,hb])
end
inductive Rz(K:PySem.W.Frag)(f:Str)(x:V)(H:Hp)(Q:VK):Prop
 | mk (a C dx:Addr) (fs:List (Str × V)) (v:V) (_:x=.ref a) (_:H a=some (.ins C dx fs)) (_:Aq K C) (_:aU K C f) (_:fs.lookup f=some v) (_:Q v H):Rz K f x H Q
def RA(K:PySem.W.Frag)(ta:TE)(f:Str):TE:=fun σ H Q=>ta σ H fun x H1=>Rz K f x H1 Q
def Vo(K:PySem.W.Frag)(ta tv:TE)(f:Str):TS:=fun D σ H=>tv σ H fun y H1=>ta σ H1 fun x H2=>∃ a C dx fs,x=.ref a∧H2 a=some (.ins C dx fs)∧Aq K C∧aU K C f∧fs.length<1000 ∧
 D.nx σ (upd H2 a (.ins C dx (cT f y fs)))
def RB(X:Cx)(op:Operator)(rd:V→V→Hp→VK→Prop):Prop :=
 ∀ (pins:List (Addr × Obj)) (s:Shared) (σ:St) (H:Hp) (x y:V) (u v:Value) (Q:VK),Inv X pins σ H s→RelV x u→RelV y v→rd x y H Q→wpAny (model X.prog X.w) X.A (inplaceOp op u v) (EP X pins σ Q) X.xe s
def MH(K:PySem.W.Frag)(ta tv:TE)(rd:V→V→Hp→VK→Prop)(f:Str):TS:=fun D σ H=>ta σ H fun x H1=>∃ a C dx fs v,x=.ref a∧H1 a=some (.ins C dx fs)∧Aq K C∧aU K C f∧fs.lookup f=some v ∧
 tv σ H1 fun y H2=>rd v y H2 fun z H3=>∃ Vp fs',H3 a=some (.ins C Vp fs')∧fs'.length<1000∧D.nx σ (upd H3 a (.ins C Vp (cT f z fs')))
section
variable {X:Cx} {o e value:Expr} {f:Str} {pos pos' tpos:Pos} {ta tv:TE}
theorem gz(he:PE X e ta)(hb:attributeBase e f X.env (eval e X.env)=eval e X.env):PE X (.Attribute e f pos) (RA X.K ta f):=by
 intro pins s σ H Q I h
 refine MG hb (bQ (he pins s σ H _ I h) fun u s1 ⟨x,H1,I1,rx,a,C,dx,fs,v,ex,ea,c,n,l,q⟩=>?_)
 subst ex
 obtain rfl:u=Value.ref a:=rx
 exact yz I1 ea c n l fun u' s2 I2 ru=>⟨v,H1,I2,ru,q⟩
theorem jY(ha:PE X o ta)(hv:PE X value tv)(hs:swapsWith value (some (.Attribute o f pos')) pos.line X.env=pure false):PS X (.Assign [.Attribute o f pos'] value pos) (Vo X.K ta tv f):=by
 intro pins s σ H D I h
 refine plainObj_wpAny_Assign_Attribute (bQ (hv pins s σ H _ I h) fun u s1 ⟨y,H1,I1,ry,q⟩=>bQ (ha pins s1 σ H1 _ I1 q) fun ov s2 ⟨x,H2,I2,rx,a,C,dx,fs,ex,ea,c,n,l,q2⟩=>?_) hs
 subst ex
 obtain rfl:ov=Value.ref a:=rx
 exact yD I2 ea c n l ry fun s3 I3=>⟨σ,_,I3,q2⟩
theorem vz{op:Operator}{rd:V→V→Hp→VK→Prop}(ha:PE X o ta)(hv:PE X value tv)(hop:RB X op rd):PS X (.AugAssign (.Attribute o f tpos) op value pos) (MH X.K ta tv rd f):=by
 intro pins s σ H D I h
 refine wpAny_AugAssign_AttributeAny (bQ (ha pins s σ H _ I h) fun ov s1 ⟨x,H1,I1,rx,a,C,dx,fs,v,ex,ea,c,n,l,q⟩=>?_)
 subst ex
 obtain rfl:ov=Value.ref a:=rx
 refine yz I1 ea c n l fun u s2 I2 ru=>bQ (hv pins s2 σ H1 _ I2 q) fun w3 s3 ⟨y,H2,I3,ry,q3⟩=>bQ (hop pins s3 σ H2 v y u w3 _ I3 ru ry q3) fun w4 s4 ⟨z,H3,I4,rz,Vp,fs',ea',l',q4⟩=>?_
 exact yD I4 ea' c n l' rz fun s5 I5=>⟨σ,_,I5,q4⟩
end
section
variable {X:Cx} {pins:List (Addr × Obj)} {σ:St} {H:Hp} {s:Shared} {A:Around} {E:Value→Shared→Prop} {Q:Value→Shared→Prop} {c:Value} {b:Bool}
inductive lP(K:PySem.W.Frag)(H:Hp):V→Value→Prop where
 | jE:lP K H .jE (.type "NoneType")
 | bl (x:Bool):lP K H (.bl x) (.type "bool")
 | int (i:Int):lP K H (.int i) (.type "int")
 | str (x:Str):lP K H (.str x) (.type "str")
 | NW (x:UInt64):lP K H (.NW x) (.type "float")
 | lst {a:Addr} {xs:List V} (e:H a=some (.lst xs)):lP K H (.ref a) (.type "list")
 | FU {a:Addr} {o:Obj} {xs:List V} (e:H a=some (.FU o (.lst xs))):lP K H (.ref a) (.type "list")
 | tup {a:Addr} {xs:List V} (e:H a=some (.tup xs)):lP K H (.ref a) (.type "tuple")
 | dK {a:Addr} {kvs:List (Key × V)} (e:H a=some (.dK kvs)):lP K H (.ref a) (.type "dict")
 | dT {a:Addr} {kvs:List (List Key × V)} (e:H a=some (.dT kvs)):lP K H (.ref a) (.type "dict")
 | ins {a C dx:Addr} {fs:List (Str × V)} (e:H a=some (.ins C dx fs)) (cl:Aq K C) (ha:PySem.W.findIn K (.ref C) "__class__"=some (some (.builtin "object.__class__")))
   (hn:PySem.W.specialIn K (.builtin "object.__class__") "__get__"=some (some (.builtin "getset_descriptor.__get__"))) (htk:PySem.W.takesIn K (.builtin "object.__class__")=some true)
   (hm:PySem.W.mroIn K C (.type "object")=some true):lP K H (.ref a) (.ref C)
theorem IM{x:V}{u t:Value}(I:Inv X pins σ H s)(rx:RelV x u)(ty:lP X.K H x t)(e:PySem.W.kitOne X.K t c=some b)(h:∀ tk,Q (.bool b) { s with toks:=tk }) :
  wpAny (model X.prog X.w) A (call (.builtin "isinstance") [u,c]) Q E s:=by
 cases ty with
 | jE=>cases (show u=Value.none from rx);exact PySem.W.kia_one PySem.W.kitx_none I.wF True.intro e (fun z=>nomatch z) h
 | bl y=>cases (show u=Value.bool y from rx);exact PySem.W.kia_one PySem.W.kitx_bool I.wF True.intro e (fun z=>nomatch z) h
 | int i=>obtain⟨t,q⟩:=(show ∃ t,u=Value.int i t from rx);cases q;exact PySem.W.kia_one PySem.W.kitx_int I.wF True.intro e (fun z=>nomatch z) h
 | str y=>obtain⟨t,q⟩:=(show ∃ t,u=Value.str y t from rx);cases q;exact PySem.W.kia_one PySem.W.kitx_str I.wF True.intro e (fun z=>nomatch z) h
 | NW y=>obtain⟨t,q⟩:=(show ∃ t,u=Value.float y t from rx);cases q;exact PySem.W.kia_one PySem.W.kitx_float I.wF True.intro e (fun z=>nomatch z) h
 | @lst a xs ea =>
  cases (show u=Value.ref a from rx)
  obtain⟨_,_,n,_,h1⟩:=(show gh X.prog X.w H s.heap a (.lst xs) from I.hok a _ ea)
  exact PySem.W.kia_one PySem.W.kitx_list I.wF ⟨_,h1,rfl⟩ e (fun z=>nomatch z) h
 | @FU a ob xs ea =>
  cases (show u=Value.ref a from rx)
  obtain⟨_,_,_,n,_,h1⟩:=(show gh X.prog X.w H s.heap a (.FU ob (.lst xs)) from I.hok a _ ea)
  exact PySem.W.kia_one PySem.W.kitx_list I.wF ⟨_,h1,rfl⟩ e (fun z=>nomatch z) h
 | @tup a xs ea =>
  cases (show u=Value.ref a from rx)
  obtain⟨_,_,_,p⟩:=(show gh X.prog X.w H s.heap a (.tup xs) from I.hok a _ ea)
  obtain⟨o,h1,h2,_⟩:=p
  exact PySem.W.kia_one PySem.W.kitx_tuple I.wF ⟨o,h1,h2⟩ e (fun z=>nomatch z) h
 | @dK a kvs ea =>
  cases (show u=Value.ref a from rx)
  obtain⟨_,_,vs,_,p⟩:=(show gh X.prog X.w H s.heap a (.dK kvs) from I.hok a _ ea)
  obtain⟨o,es,ep,h1,h2,_⟩:=p
  exact PySem.W.kia_one PySem.W.kitx_dict I.wF ⟨o,h1,h2.1⟩ e (fun z=>nomatch z) h
 | @dT a kvs ea =>
  cases (show u=Value.ref a from rx)
  obtain⟨_,_,xs,_,o,es,ep,h1,h2,_⟩:=(show gh X.prog X.w H s.heap a (.dT kvs) from I.hok a _ ea)
  exact PySem.W.kia_one PySem.W.kitx_dict I.wF ⟨o,h1,h2.1⟩ e (fun z=>nomatch z) h
 | @ins a C dx fs ea cl ha hn htk hm =>
  cases (show u=Value.ref a from rx)
  obtain⟨mA,O,_⟩:=xS I.hok ea
  obtain⟨od,J,_⟩:=O.look
  exact PySem.W.kia_one (PySem.W.kitx_own (cl.get _) cl.hd ha hn htk hm) I.wF J e (fun z=>nomatch z) h
end
end L2
namespace L2
open PySem PySem.Spec PyProof.Rows
structure kq(k:Nat)(A:Around):Prop where
 hd:A.handled=none
 dp:A.depth+3*k+5<recursionLimit
 un:A.units+16*k+200<cLine
theorem kq.mono{j k:Nat}{A:Around}(r:kq k A)(h:j≤k):kq j A:=⟨r.hd,by have:=r.dp;omega,by have:=r.un;omega⟩
theorem kq.deeper{k:Nat}{A:Around}(r:kq (k+1) A)(env:Env):kq k (A.deeper env) :=
 ⟨r.hd,by have:=r.dp;show A.depth+1+3*k+5<_;omega,by have:=r.un;show A.units+3+16*k+200<_;omega⟩
theorem F1{A:Around}{C:Addr}{us:List Value}{kw:List (Str × Value)}:(A.under (.builtin "type.__call__" ⟨.ref C::us,kw⟩)).depth=A.depth+1:=by
 first|rfl|simp[Around.under,Code.weight,Code.isCreation,Code.isGuard,Code.isCaller,Code.frames,Code.isFrame,guardIds]
theorem F2{A:Around}{C:Addr}{us:List Value}{kw:List (Str × Value)}:(A.under (.builtin "type.__call__" ⟨.ref C::us,kw⟩)).units=A.units+1:=by
 first|rfl|simp[Around.under,Code.cUnits,Code.frames,Code.isFrame]
theorem kq.make{k:Nat}{A:Around}(r:kq (k+1) A)(C:Addr)(us:List Value)(kw:List (Str × Value)):kq k (A.under (.builtin "type.__call__" ⟨.ref C::us,kw⟩)) :=
 ⟨r.hd,by have:=r.dp;rw[F1];omega,by have:=r.un;rw[F2];omega⟩
theorem kq.depth{k:Nat}{A:Around}(r:kq k A):A.depth<recursionLimit:=by have:=r.dp;omega
theorem kq.units{k:Nat}{A:Around}(r:kq k A):A.units+64<cLine:=by have:=r.un;omega
def BY:TA:=fun _ H Q=>Q [] H
def N7(ta:TE)(tr:TA):TA:=fun σ H Q=>ta σ H fun x H1=>tr σ H1 fun xs H2=>Q (x::xs) H2
section
variable {X:Cx} {e:Expr} {es:List Expr} {te:TE} {t:TA} {pos:Pos}
theorem ah:PA X [] BY:=fun _ _ _ _ H Q I h=>Calls.spliced_nil ⟨[],H,I,.nil,h⟩
theorem aa(ha:PE X e te)(hr:PA X es t)(hs:starEach (e::es) X.env=(false,eval e X.env)::starEach es X.env:=by rfl):PA X (e::es) (N7 te t):=by
 intro pos pins s σ H Q I h
 rw[hs]
 show wpAny _ _ (spliced ((false,eval e X.env)::backTo pos (starEach es X.env))) _ _ s
 refine Calls.spliced_cons (bQ (ha pins s σ H _ I h) fun u s1 ⟨x,H1,I1,r1,q1⟩=>?_)
 exact bQ (hr pos pins s1 σ H1 _ I1 q1) fun us s2 ⟨xs,H2,I2,r2,q2⟩=>⟨x::xs,H2,I2,.cons r1 r2,q2⟩
def Vq(t:TA):TE:=fun σ H Q=>t σ H fun xs H1=>xs.length≤sizeLine∧∀ p,H1 p=none→Q (.ref p) (upd H1 p (.tup xs))
def IP(t:TA):TE:=fun σ H Q=>t σ H fun xs H1=>xs.length≤sizeLine∧∀ p,H1 p=none→Q (.ref p) (upd H1 p (.lst xs))
theorem jH{x1}(h:PA X es t):PE X (.Tuple es x1 pos) (Vq t):=by
 intro pins s σ H Q I hq
 refine wpAny_Tuple_spliced (bQ (h pos pins s σ H _ I hq) fun us s1 ⟨xs,H1,I1,r,z,q⟩=>⟨by rw[← r.length];exact z,?_⟩)
 have hf:H1 s1.heap.objs.size=none:=I1.hok.fresh (fH _)
 refine⟨.ref s1.heap.objs.size,upd H1 s1.heap.objs.size (.tup xs),I1.laid (t':=s1.toks) (fun b u e=>Heap.get?_push_of_some _ e) (fH _) ?_,rfl,q _ hf⟩
 exact⟨z,us,r,⟨_,Heap.get?_push_size _ rfl,rfl,_,rfl⟩⟩
theorem bI(h:PA X es t):PE X (.List es pos) (IP t):=by
 intro pins s σ H Q I hq
 refine wpAny_List_spliced (bQ (h pos pins s σ H _ I hq) fun us s1 ⟨xs,H1,I1,r,z,q⟩=>⟨by rw[← r.length];exact z,?_⟩)
 have hf:H1 s1.heap.objs.size=none:=I1.hok.fresh (fH _)
 refine⟨.ref s1.heap.objs.size,upd H1 s1.heap.objs.size (.lst xs),I1.laid (t':=s1.toks) (fun b u e=>Heap.get?_push_of_some _ e) (fH _) ?_,rfl,q _ hf⟩
 exact⟨z,us,0,r,Heap.get?_push_size _ rfl⟩
end
abbrev Sp:=List V→Hp→VK→XK→Prop
abbrev Km:=List Env→Hp→Shared→XK→Value→Shared→Prop
structure F3(P:Program)(w:World)(K:PySem.W.Frag)(mg:Str→Option Value)(base:Heap)(A:Around)(outer:List Env)(s:Shared)(H:Hp):Prop where
 frames:A.frames=some outer
 mod:Mod K mg base
 bs:∀ b o,base.get? b=some o→s.heap.get? b=some o∧H b=none
 Mw:base.objs.size≤s.heap.objs.size
 uy:s.heap.FunFrames base outer
 OR:∀ b∈frs outer,H b=none
 hok:rC P w H s.heap
 bare:AllBare s.gens
def CE(outer:List Env)(P:Program)(w:World)(H:Hp)(s:Shared)(Q:VK)(u:Value)(s':Shared):Prop :=
 ∃ v H',s'.os=s.os∧AllBare s'.gens∧Un (frs outer) [] H H' s.heap s'.heap∧rC P w H' s'.heap∧RelV v u∧Q v H'
def CR(CX:Km)(outer:List Env)(P:Program)(w:World)(H:Hp)(s:Shared)(Q:VK)(E:XK)(r:Result)(s':Shared):Prop :=
 match r with
 | .ok (.ret u)=>CE outer P w H s Q u s'
 | .ok _=>False
 | .error e=>CX outer H s E e s'
structure aF(P:Program)(w:World)(K:PySem.W.Frag)(mg:Str→Option Value)(base:Heap)(CX:Km)(k:Nat)(f:Addr)(fd:FuncData)(ps:List Str)(sp:Sp):Prop where
 len:∀ vs H Q E,sp vs H Q E→vs.length=ps.length
 run:∀ (A:Around) (outer:List Env) (s:Shared) (H:Hp) (args:Args) (us:List Value) (vs:List V) (Q:VK) (E:XK),kq k A→F3 P w K mg base A outer s H→BindsTo s fd args (ps.zip us)→Vals vs us→sp vs H Q E →
  codeAny (model P w) A (.call (.ref f) args) (CR CX outer P w H s Q E) s
theorem F3.make{P:Program}{w:World}{K:PySem.W.Frag}{mg:Str→Option Value}{base:Heap}{A:Around}{outer:List Env}{s:Shared}{H:Hp}(e:F3 P w K mg base A outer s H)(C:Addr)(us:List Value)(kw:List (Str × Value)) :
  F3 P w K mg base (A.under (.builtin "type.__call__" ⟨.ref C::us,kw⟩)) outer s H:=⟨by first|exact e.frames|(simpa [Around.under,Code.envs,Code.isFrame,pushEnvs] using e.frames),e.mod,e.bs,e.Mw,e.uy,e.OR,e.hok,e.bare⟩
section
variable {X:Cx} {pins:List (Addr × Obj)} {σ:St} {H:Hp} {s s':Shared}
theorem Inv.RC(I:Inv X pins σ H s):F3 X.prog X.w X.K X.mg X.base X.A X.stack s H :=
 ⟨I.ok.frames,I.ok.mod,I.bs,mL I.ok.Mw I.sz,I.stack,I.uz,I.hok,I.bare⟩
theorem Inv.after{Q:VK}{u:Value}(I:Inv X pins σ H s)(h:CE X.stack X.prog X.w H s Q u s'):EP X pins σ Q u s':=by
 obtain⟨v,H',os,bare,un,hok,r,q⟩:=h
 obtain⟨hh,g,d,t,os'⟩:=s'
 obtain rfl:os'=s.os:=os
 exact⟨v,H',I.call (h':=hh) (g':=g) (d':=d) (t':=t) (ch:=[]) un hok bare (fun b z=>absurd z (by simp)),r,q⟩
end
def DR(sp:Sp)(yE:List V)(E:XK)(t:TA):TE:=fun σ H Q=>t σ H fun vs H1=>sp (vs++yE) H1 Q E
inductive RD(C:Addr)(m:Str)(x:V)(H:Hp)(N:Prop):Prop
 | mk (a dx:Addr) (fs:List (Str × V)) (_:x=.ref a) (_:H a=some (.ins C dx fs)) (_:fs.lookup m=none) (_:N):RD C m x H N
def N8(C:Addr)(m:Str)(sp:Sp)(yE:List V)(E:XK)(ta:TE)(t:TA):TE:=fun σ H Q=>ta σ H fun x H1=>RD C m x H1 (t σ H1 fun vs H2=>sp (x::(vs++yE)) H2 Q E)
def RE(C:Addr)(sp:Sp)(yE:List V)(E:XK)(t:TA):TE:=fun σ H Q=>t σ H fun vs H1=>∀ x dx,H1 x=none→H1 dx=none→dx≠x →
 sp (.ref x::(vs++yE)) (upd (upd H1 dx (.own x)) x (.ins C dx [])) (fun v H2=>v=.jE∧Q (.ref x) H2) E
def Binds(K:PySem.W.Frag)(fd:FuncData)(ps:List Str)(ds:List Value):Prop :=
 ∀ (s:Shared) (us:List Value),K.In s.heap→(us++ds).length=ps.length→BindsTo s fd ⟨us,[]⟩ (ps.zip (us++ds))
theorem Binds.all{K:PySem.W.Frag}{fd:FuncData}{ps:List Str}(h:∀ us:List Value,us.length=ps.length→bindArgs fd ⟨us,[]⟩=pure (ps.zip us)):Binds K fd ps []:=fun s us _ hl=>by
 rw[om]at hl ⊢
 exact .of_eq (h us hl)
def Passes(CX:Km)(X:Cx)(E:XK):Prop:=∀ (pins:List (Addr × Obj)) (σ:St) (H:Hp) (s:Shared) (e:Value) (s':Shared),Inv X pins σ H s→CX X.stack H s E e s'→X.xe e s'
section
variable {X:Cx} {CX:Km} {k:Nat} {f C:Addr} {fd:FuncData} {ps:List Str} {sp:Sp} {yE:List V} {ds:List Value} {E:XK} {x m:Str} {p pos apos:Pos} {e o:Expr} {es:List Expr} {ta:TE} {t:TA}
theorem BZ{pins:List (Addr × Obj)}{σ:St}{H:Hp}{s:Shared}{Q:VK}{us:List Value}{vs:List V}(F:aF X.prog X.w X.K X.mg X.base CX k f fd ps sp)(hr:kq k X.A)(hb:Binds X.K fd ps ds)(hd:Vals yE ds)(hx:Passes CX X E)
  (I:Inv X pins σ H s) (r:Vals vs us) (h:sp (vs++yE) H Q E):wpAny (model X.prog X.w) X.A (call (.ref f) us) (EP X pins σ Q) X.xe s:=by
 have r2:Vals (vs++yE) (us++ds):=r.append hd
 have hl:(us++ds).length=ps.length:=by rw[← r2.length];exact F.len _ _ _ _ h
 refine wpAny_call (codeAny_mono (F.run X.A X.stack s H ⟨us,[]⟩ (us++ds) (vs++yE) Q E hr I.RC (hb s us I.wF hl) r2 h) fun r s' hq=>?_)
 cases r with
 | error e=>exact hx pins σ H s e s' I hq
 | ok fl =>
  cases fl with
  | ret u=>exact I.after hq
  | next=>exact False.elim hq
  | brk=>exact False.elim hq
  | cont=>exact False.elim hq
theorem B0(F:aF X.prog X.w X.K X.mg X.base CX k f fd ps sp)(hr:kq k X.A)(hg:Gl X x)(hm:X.mg x=some (.ref f))(hk:PySem.W.keepIn X.K (.ref f)=true)(hb:Binds X.K fd ps ds)(hd:Vals yE ds)(hx:Passes CX X E)
  (ha:PA X (e::es) t) (hdb:(x == ("__debug__":Str))=false:=by decide) (he:starEach (e::es) X.env=(false,eval e X.env)::starEach es X.env:=by rfl) (hpl:(backTo pos (starEach es X.env)).any (·.1)=false:=by rfl) :
  PE X (.Call (.Name x p) (e::es) [] pos) (DR sp yE E t):=by
 intro pins s σ H Q I h
 refine wpAny_Call_Name_kw (uA I hg hm ?_ hdb)
 refine PySem.W.callWith_K (h₀:=X.base) I.ok.mod.Rf hk (bQ (ha pos pins s σ H _ I h) fun us s1 ⟨vs,H1,I1,r,q⟩=>⟨I1.wF,?_⟩) he hpl
 exact BZ F hr hb hd hx I1 r q
theorem Kn(F:aF X.prog X.w X.K X.mg X.base CX k f fd ps sp)(hr:kq k X.A)(hg:Gl X x)(hm:X.mg x=some (.ref f))(hk:PySem.W.keepIn X.K (.ref f)=true)(hb:Binds X.K fd ps ds)(hd:Vals yE ds)(hx:Passes CX X E)
  (hdb:(x == ("__debug__":Str))=false:=by decide):PE X (.Call (.Name x p) [] [] pos) (DR sp yE E BY):=by
 intro pins s σ H Q I h
 refine wpAny_Call_Name_kw (uA I hg hm ?_ hdb)
 exact PySem.W.callWith_K0 I.wF hk (BZ (us:=[]) F hr hb hd hx I .nil h)
theorem cM{pl:Sem Bool}(he:PE X o ta)(c:Aq X.K C)(hm:Meth X.K C m f)(F:aF X.prog X.w X.K X.mg X.base CX k f fd ps sp)(hr:kq k X.A)(hb:Binds X.K fd ps ds)(hd:Vals yE ds)(hx:Passes CX X E)(ha:PA X (e::es) t)
  (hst:starEach (e::es) X.env=(false,eval e X.env)::starEach es X.env:=by rfl) (hpl:(backTo pos (starEach es X.env)).any (·.1)=false:=by rfl)
  (ht:eval (.Call (.Attribute o m apos) (e::es) [] pos) X.env=(do
   let ov ← eval o X.env
   standAt apos.atName
   let (f,first) ← holding [ov] (getMethod ov m pl)
   callWith pos f first (backTo pos (starEach (e::es) X.env)) (backToKw pos (keywordEach [] X.env))):=by rfl) :
  PE X (.Call (.Attribute o m apos) (e::es) [] pos) (N8 C m sp yE E ta t):=by
 intro pins s σ H Q I h
 refine PySem.W.methodCall_KW (pl:=pl) (bQ (he pins s σ H _ I h) fun u s1 ⟨x,H1,I1,rx,a,dx,fs,ex,ea,l,q⟩=>?_) ht
 subst ex
 obtain rfl:u=Value.ref a:=rx
 refine yC I1 ea c hm l ?_
 refine PySem.W.callWith_K (first:=[.ref a]) (h₀:=X.base) I.ok.mod.Rf hm.kp (bQ (ha pos pins s1 σ H1 _ I1 q) fun us s2 ⟨vs,H2,I2,r,q2⟩=>⟨I2.wF,?_⟩) hst hpl
 exact BZ (us:=.ref a::us) (vs:=.ref a::vs) F hr hb hd hx I2 (.cons rfl r) q2
theorem b8{pl:Sem Bool}(he:PE X o ta)(c:Aq X.K C)(hm:Meth X.K C m f)(F:aF X.prog X.w X.K X.mg X.base CX k f fd ps sp)(hr:kq k X.A)(hb:Binds X.K fd ps ds)(hd:Vals yE ds)(hx:Passes CX X E)
  (ht:eval (.Call (.Attribute o m apos) [] [] pos) X.env=(do
   let ov ← eval o X.env
   standAt apos.atName
   let (f,first) ← holding [ov] (getMethod ov m pl)
   callWith pos f first (backTo pos (starEach [] X.env)) (backToKw pos (keywordEach [] X.env))):=by rfl) :
  PE X (.Call (.Attribute o m apos) [] [] pos) (N8 C m sp yE E ta BY):=by
 intro pins s σ H Q I h
 refine PySem.W.methodCall_KW (pl:=pl) (bQ (he pins s σ H _ I h) fun u s1 ⟨x,H1,I1,rx,a,dx,fs,ex,ea,l,q⟩=>?_) ht
 subst ex
 obtain rfl:u=Value.ref a:=rx
 refine yC I1 ea c hm l ?_
 exact PySem.W.callWith_K0 (first:=[.ref a]) I1.wF hm.kp (BZ (us:=[.ref a]) (vs:=[.ref a]) F hr hb hd hx I1 (.cons rfl .nil) q)
structure Mk(K:PySem.W.Frag)(C f:Addr):Prop where
 makes:PySem.W.makesIn K C=true
 init:PySem.W.findIn K (.ref C) "__init__"=some (some (.ref f))
 fn:PySem.W.isFn K (.ref f)=true
 kp:PySem.W.keepIn K (.ref C)=true
theorem Ko{pins:List (Addr × Obj)}{σ:St}{H:Hp}{s:Shared}{Q:VK}{us:List Value}{vs:List V}(M:Mk X.K C f)(F:aF X.prog X.w X.K X.mg X.base CX k f fd ps sp)(hr:kq (k+1) X.A)(hb:Binds X.K fd ps ds)(hd:Vals yE ds)
  (hx:Passes CX X E) (I:Inv X pins σ H s) (r:Vals vs us)
  (h:∀ x dx,H x=none→H dx=none→dx≠x→sp (.ref x::(vs++yE)) (upd (upd H dx (.own x)) x (.ins C dx [])) (fun v H2=>v=.jE∧Q (.ref x) H2) E) :
  wpAny (model X.prog X.w) X.A (call (.ref C) us) (EP X pins σ Q) X.xe s:=by
 have hq:=h (s.heap.objs.size+1) s.heap.objs.size (I.hok.fresh (Nat.le_succ _)) (I.hok.fresh (fH _)) (jL (Nat.lt_succ_self _))
 have I2:=Inv.made (C:=C) I
 have r2:Vals (V.ref (s.heap.objs.size+1)::(vs++yE)) (Value.ref (s.heap.objs.size+1)::(us++ds)):=.cons rfl (r.append hd)
 have hl:(Value.ref (s.heap.objs.size+1)::us++ds).length=ps.length:=by
  have e:=r2.length
  rw[F.len _ _ _ _ hq]at e
  exact e.symm
 refine wpAny_call (Kl (f:=f) I.wF M.makes M.init (beq_iff_eq.mp M.fn) (codeAny_mono (F.run _ X.stack _ _ ⟨Value.ref (s.heap.objs.size+1)::us,[]⟩ (Value.ref (s.heap.objs.size+1)::(us++ds)) _ _ E (hr.make C us [])
  (I2.RC.make C us []) (hb _ (Value.ref (s.heap.objs.size+1)::us) I2.wF hl) r2 hq) fun r s' hq'=>?_))
 cases r with
 | error e=>exact hx pins σ _ _ e s' I2 hq'
 | ok fl =>
  cases fl with
  | ret u =>
   obtain⟨v,H',I3,rv,ev,q3⟩:=I2.after hq'
   subst ev
   exact⟨rv,⟨V.ref (s.heap.objs.size+1),H',I3,rfl,q3⟩⟩
  | next=>exact False.elim hq'
  | brk=>exact False.elim hq'
  | cont=>exact False.elim hq'
theorem pD(M:Mk X.K C f)(F:aF X.prog X.w X.K X.mg X.base CX k f fd ps sp)(hr:kq (k+1) X.A)(hg:Gl X x)(hm:X.mg x=some (.ref C))(hb:Binds X.K fd ps ds)(hd:Vals yE ds)(hx:Passes CX X E)
  (hdb:(x == ("__debug__":Str))=false:=by decide):PE X (.Call (.Name x p) [] [] pos) (RE C sp yE E BY):=by
 intro pins s σ H Q I h
 refine wpAny_Call_Name_kw (uA I hg hm ?_ hdb)
 exact PySem.W.callWith_K0 I.wF M.kp (Ko (us:=[]) M F hr hb hd hx I .nil h)
end
structure aG(N P:List Str)(sc:Scope):Prop where
 kind:sc.kind=.function
 co:sc.isCoroutine=false
 gen:sc.isGenerator=false
 nd:N.Nodup
 pre:N.take P.length=P
 par:∀ x∈P,sc.names.lookup x=some .local∨sc.names.lookup x=some .cell
 O8:∀ y∈sc.names,y.2≠.free
theorem AM{kindOf:Str→Option NameKind}{x:Str}:∀ {binds:List (Str × Value)} {m:Str→Option Value},(∀ v,(x,v)∉binds)→bindL kindOf binds m x=m x
 | [],_,_=>rfl
 | (n,v)::r,m,h=>by
  unfold bindL
  rw[AM fun w hw=>h w (rV _ hw)]
  split
  ·have:x≠n:=by rintro rfl;exact h v qH
   simp[this]
  ·rfl
theorem AN{kindOf:Str→Option NameKind}{x:Str}:∀ {binds:List (Str × Value)} {m:Str→Option Value},(∀ v,(x,v)∉binds)→bindC kindOf binds m x=m x
 | [],_,_=>rfl
 | (n,v)::r,m,h=>by
  unfold bindC
  rw[AN fun w hw=>h w (rV _ hw)]
  split
  ·rfl
  ·have:x≠n:=by rintro rfl;exact h v qH
   simp[this]
theorem AO{kindOf:Str→Option NameKind}{x:Str}{v:Value}:∀ {P:List Str} {vs:List Value} {i:Nat} {m:Str→Option Value},P.Nodup→P[i]?=some x→vs[i]?=some v→kindOf x=some .local →
  bindL kindOf (P.zip vs) m x=some v
 | [],_,_,_,_,h,_,_=>by simp at h
 | _::_,[],_,_,_,_,h,_=>by simp at h
 | p::P,w::vs,0,m,nd,h1,h2,hk=>by
  simp at h1 h2;subst h1;subst h2
  show bindL kindOf ((p,w)::P.zip vs) m p=_
  unfold bindL
  rw[AM fun v hv=>(List.nodup_cons.mp nd).1 (List.of_mem_zip hv).1,if_pos hk]
  simp
 | p::P,w::vs,i+1,m,nd,h1,h2,hk=>by
  show bindL kindOf ((p,w)::P.zip vs) m x=_
  unfold bindL
  exact AO (i:=i) (List.nodup_cons.mp nd).2 (by simpa using h1) (by simpa using h2) hk
theorem AQ{kindOf:Str→Option NameKind}{x:Str}{v:Value}:∀ {P:List Str} {vs:List Value} {i:Nat} {m:Str→Option Value},P.Nodup→P[i]?=some x→vs[i]?=some v→kindOf x≠some .local →
  bindC kindOf (P.zip vs) m x=some v
 | [],_,_,_,_,h,_,_=>by simp at h
 | _::_,[],_,_,_,_,h,_=>by simp at h
 | p::P,w::vs,0,m,nd,h1,h2,hk=>by
  simp at h1 h2;subst h1;subst h2
  show bindC kindOf ((p,w)::P.zip vs) m p=_
  unfold bindC
  rw[AN fun v hv=>(List.nodup_cons.mp nd).1 (List.of_mem_zip hv).1,if_neg hk]
  simp
 | p::P,w::vs,i+1,m,nd,h1,h2,hk=>by
  show bindC kindOf ((p,w)::P.zip vs) m x=_
  unfold bindC
  exact AQ (i:=i) (List.nodup_cons.mp nd).2 (by simpa using h1) (by simpa using h2) hk
def start(N:List Str)(vs:List V):St:=vs.map some++List.replicate (N.length-vs.length) none
def F4(CX:Km)(P:Program)(w:World)(K:PySem.W.Frag)(mg:Str→Option Value)(base:Heap)(N:List Str)(qual:Str)(scope:Scope)(f:Addr)(cd:Value)(A:Around)(outer:List Env)(s:Shared)(H:Hp)(E:XK):Cx where
 prog:=P
 w:=w
 K:=K
 mg:=mg
 base:=base
 A:=A.deeper (envOfC qual scope s.heap.objs.size f cd)
 N:=N
 s₀:=s
 H₀:=H
 env:=envOfC qual scope s.heap.objs.size f cd
 outer:=outer
 stack:=envOfC qual scope s.heap.objs.size f cd::outer
 ex:=[]
 calm:=true
 fn:=fun _=>true
 pn:=[]
 xe:=fun e s'=>wpAny (model P w) (A.deeper (envOfC qual scope s.heap.objs.size f cd)) (leaving (envOfC qual scope s.heap.objs.size f cd) e) (fun _ s''=>CX outer H s E e s'') (fun e' s''=>CX outer H s E e' s'') s'
theorem DS{sc:Scope}{n:Nat}{x:Str}(h:sc.names.lookup x=some .cell):∃ c,(cellsFrom n sc.names []).lookup x=some c:=by
 have q:=PySem.W.cellsFrom_some sc.names n [] (.inl h)
 exact Option.isSome_iff_exists.mp q
theorem IQ{CX:Km}{P:Program}{w:World}{K:PySem.W.Frag}{mg:Str→Option Value}{base:Heap}{N ps:List Str}{qual:Str}{scope:Scope}{f:Addr}{cd:Value}{A:Around}{outer:List Env}{s s1:Shared}{H:Hp}{E:XK}{us:List Value}{vs:List V}
  (S:aG N ps scope) (hd:A.handled=none) (e0:F3 P w K mg base A outer s H) (hl:vs.length=ps.length) (r:Vals vs us)
  (x:InCallC s s.heap.objs.size (bindL (envOfC qual scope s.heap.objs.size f cd).kindOf (ps.zip us) fun _=>none) (cellsFrom (s.heap.objs.size+1) scope.names []) (bindC (envOfC qual scope s.heap.objs.size f cd).kindOf (ps.zip us) fun _=>none) s1) :
  Inv (F4 CX P w K mg base N qual scope f cd A outer s H E) [] (start N vs) H s1:=by
 have hpl:ps.length≤N.length:=by have:=congrArg List.length S.pre;rw[ko]at this;omega
 obtain⟨h1,tk,rfl,hk⟩:=x.done
 have RG:∀ b:Addr,b∉(F4 CX P w K mg base N qual scope f cd A outer s H E).ex:=fun b z=>absurd (show b∈([]:List Addr) from z) (by simp)
 refine⟨⟨e0.mod,S.kind,rfl,rfl,fH _,fun y z c h1 h2=>?_,fun y hy=>?_,fun y c _ h=>?_,fun _=>hd,Around.frames_deeper e0.frames,.inr ⟨rfl,rfl⟩,fun b z=>absurd z (RG b),e0.bs,e0.Mw,fun b _ _=>RG b,fun b z=>absurd z (RG b),e0.uy,e0.OR⟩,
  rfl,e0.bare,Un.kept hk,⟨_,x.toInCall.ns,fun i y v h1 h2 h3=>?_⟩,fun y c h=>⟨_,x.cell y c h⟩,e0.hok.fresh (fH _),fun y c h=>?_,fun p hp=>absurd (show p∈([]:List (Addr × Obj)) from hp) (by simp),e0.hok.kept hk,?_⟩
 ·exact name_of_addr x.apart (PySem.mem_of_lookup h1) (PySem.mem_of_lookup h2)
 ·have hy:scope.names.lookup y=some .cell∨scope.names.lookup y=some .free:=hy
  rcases hy with hy|hy
  ·exact DS hy
  ·exact absurd rfl (S.O8 _ (PySem.mem_of_lookup hy))
 ·exact jb (x.above y c (PySem.mem_of_lookup h))
 ·have hi:i<vs.length:=by
   unfold start at h2
   by_cases hi:i<vs.length
   ·exact hi
   ·rw[List.getElem?_append_right (by simpa using hi)]at h2
    rw[List.getElem?_replicate]at h2
    split at h2 <;> cases h2
  have ha:vs[i]?=some v:=by
   unfold start at h2
   rw[yj (by simpa using hi),qG]at h2
   cases e:vs[i]? with
   | none=>rw[e]at h2;cases h2
   | some a=>rw[e]at h2;cases h2;rfl
  obtain⟨u,hu,rv⟩:=r.get ha
  have hp:ps[i]?=some y:=by
   rw[← S.pre,List.getElem?_take_of_lt (by omega)];exact h1
  have ndP:ps.Nodup:=by rw[← S.pre];exact S.nd.sublist (List.take_sublist _ _)
  refine⟨u,rv,?_⟩
  rcases S.par y (rW hp) with k|k
  ·exact .inl ⟨k,AO ndP hp hu k⟩
  ·obtain⟨c,e⟩:=DS (n:=s.heap.objs.size+1) k
   refine .inr ⟨.inl k,c,e,?_⟩
   have q:=x.cell y c e
   rw[AQ ndP hp hu (by show scope.names.lookup y≠_;rw[k];decide)]at q
   exact q
 ·exact e0.hok.fresh (jb (x.above y c (PySem.mem_of_lookup h)))
 ·unfold start
  show _=N.length
  rw[eZ,bY,ux]
  omega
theorem N9{CX:Km}{P:Program}{w:World}{K:PySem.W.Frag}{mg:Str→Option Value}{base:Heap}{k:Nat}{f:Addr}{name qual:Str}{params:Arguments}{body:List Stmt}{scope:Scope}{dV kV doc pm cdv ct oc:Value}{an od:Option Addr}
  {osl:Array (Option Value)} {N ps:List Str} {sp:Sp} (lk:K.lookup f=some ⟨oc,od,.func (PySem.W.fnOf name qual params body scope dV kV doc pm an cdv ct),osl⟩) (hcd:PySem.W.codeIn K cdv qual=true) (S:aG N ps scope)
  (len:∀ vs H Q E,sp vs H Q E→vs.length=ps.length)
  (hbody:∀ (A:Around) (outer:List Env) (s:Shared) (H:Hp) (vs:List V) (Q:VK) (E:XK),kq k (A.deeper (envOfC qual scope s.heap.objs.size f cdv))→sp vs H Q E →
   ∃ t,G5 (F4 CX P w K mg base N qual scope f cdv A outer s H E) body t∧t { nx:=fun _ H'=>Q .jE H',rt:=Q } (start N vs) H) :
  aF P w K mg base CX (k+1) f (PySem.W.fnOf name qual params body scope dV kV doc pm an cdv ct) ps sp:=by
 refine⟨len,fun A outer s H args us vs Q E hr e0 hb r F5=>?_⟩
 have hl:=len _ _ _ _ F5
 have KX:K.In s.heap:=e0.mod.Rf.keeps fun b o e=>(e0.bs b o e).1
 have lim:s.heap.NoLimit:=e0.mod.nolimit.keeps fun b o e=>(e0.bs b o e).1
 have hkind:∀ y∈ps.zip us,scope.names.lookup y.1=some .local∨(scope.names.lookup y.1=some .cell∧((cellsFrom (s.heap.objs.size+1) scope.names []).lookup y.1).isSome=true):=fun ⟨n,v⟩ hy=>by
  rcases S.par n (List.of_mem_zip hy).1 with q|q
  ·exact .inl q
  ·exact .inr ⟨q,PySem.W.cellsFrom_some _ _ _ (.inl q)⟩
 refine codeAny_call_function hr.depth (KX _ _ lk) rfl S.co S.gen rfl (PySem.W.codeRec_of KX hcd) (hb _ _ _ _ ?_)
 refine wpAny_newFunctionEnv_cells S.kind hkind fun env he s1 x=>?_
 subst he
 refine⟨lim.keeps x.toInCall.keep,codeAny_func ?_⟩
 obtain⟨t,ht,hq⟩:=hbody A outer s H vs Q E (hr.deeper _) F5
 have I:Inv (F4 CX P w K mg base N qual scope f cdv A outer s H E) [] (start N vs) H s1:=IQ S hr.hd e0 hl r x
 refine wpAny_mono (ht [] s1 (start N vs) H _ I hq) (fun fl s' hs=>?_) fun e s' hs=>hs
 have fin:∀ {σ':St} {H':Hp} {v:V} {u:Value},Inv (F4 CX P w K mg base N qual scope f cdv A outer s H E) [] σ' H' s'→RelV v u→Q v H'→CE outer P w H s Q u s' :=
  fun {σ' H' v u} J rv q=>⟨v,H',J.os,J.bare,J.base,J.hok,rv,q⟩
 cases fl with
 | ret u =>
  obtain⟨v,σ',H',J,rv,q⟩:=hs
  exact fin J rv q
 | next =>
  obtain⟨σ',H',J,q⟩:=hs
  exact fin (v:=V.jE) (u:=Value.none) J rfl q
 | brk =>
  obtain⟨_,_,_,q⟩:=hs
  exact False.elim q
 | cont =>
  obtain⟨_,_,_,q⟩:=hs
  exact False.elim q
end L2
namespace L2
open PySem PySem.Spec PyProof.Rows
section
variable {X:Cx} {x:Str} {p pos:Pos} {e:Expr} {es:List Expr} {t:TA} {id T:String} {r:List V→Hp→VK→Prop}
def tCB(r:List V→Hp→VK→Prop)(t:TA):TE:=fun σ H Q=>t σ H fun vs H1=>r vs H1 Q
theorem aO(hc:mF X (.builtin id) r)(hg:Gl X x)(hm:X.mg x=none)(hv:bootBuiltins x=some (.builtin id))(ha:PA X (e::es) t)(hn:x≠"__name__":=by decide)(hdb:(x == ("__debug__":Str))=false:=by decide)
  (he:starEach (e::es) X.env=(false,eval e X.env)::starEach es X.env:=by rfl) (hpl:(backTo pos (starEach es X.env)).any (·.1)=false:=by rfl):PE X (.Call (.Name x p) (e::es) [] pos) (tCB r t):=by
 intro pins s σ H Q I h
 refine wpAny_Call_Name_kw (vp I hg hm hv ?_ hn hdb)
 exact PyProof.Rows.callWith_builtin1 (bQ (ha pos pins s σ H _ I h) fun us s1 ⟨vs,H1,I1,r1,q1⟩=>hc pins s1 σ H1 vs us Q I1 r1 q1) he hpl
theorem iQ(hc:mF X (.type T) r)(hg:Gl X x)(hm:X.mg x=none)(hv:bootBuiltins x=some (.type T))(ha:PA X (e::es) t)(hn:x≠"__name__":=by decide)(hdb:(x == ("__debug__":Str))=false:=by decide)
  (he:starEach (e::es) X.env=(false,eval e X.env)::starEach es X.env:=by rfl) (hpl:(backTo pos (starEach es X.env)).any (·.1)=false:=by rfl):PE X (.Call (.Name x p) (e::es) [] pos) (tCB r t):=by
 intro pins s σ H Q I h
 refine wpAny_Call_Name_kw (vp I hg hm hv ?_ hn hdb)
 exact PyProof.Rows.callWith_type1 (bQ (ha pos pins s σ H _ I h) fun us s1 ⟨vs,H1,I1,r1,q1⟩=>hc pins s1 σ H1 vs us Q I1 r1 q1) he hpl
end
end L2
namespace HT
open PySem PyProof.Rows
section
variable {prog:Program} {w:World} {A:Around} {E:Value→Shared→Prop} {s:Shared}
def gH(n d:Nat):Option Int→Nat
 | none=>d
 | some v=>if v<0 then (v+(n:Int)).toNat else min v.toNat n
theorem Hh(n d k:Nat):gH n d (some (k:Int))=min k n:=by
 show (if (k:Int)<0 then ((k:Int)+(n:Int)).toNat else min (k:Int).toNat n)=min k n
 rw[if_neg (by omega),Int.toNat_natCast]
theorem O9(n d:Nat)(hd:d≤n)(o:Option Int):gH n d o≤n:=by
 cases o with
 | none=>exact hd
 | some v =>
  show (if v<0 then (v+(n:Int)).toNat else min v.toNat n)≤n
  by_cases hv:v<0
  ·rw[if_pos hv];omega
  ·rw[if_neg hv];exact Nat.min_le_right _ _
theorem Hi(v:Int)(n d:Nat):(if v<0 then max (v+(n:Int)) 0 else min v (n:Int))=((gH n d (some v):Nat):Int):=by
 show (if v<0 then max (v+(n:Int)) 0 else min v (n:Int))=(((if v<0 then (v+(n:Int)).toNat else min v.toNat n):Nat):Int)
 by_cases hv:v<0
 ·simp only[if_pos hv];omega
 ·simp only[if_neg hv];omega
theorem F6(lo hi:Option Int)(n:Nat):Builtin.Slice.sliceAdjust lo hi 1 (n:Int)=(((gH n 0 lo:Nat):Int),((gH n n hi:Nat):Int)):=by
 have h1:¬ ((1:Int)<0):=by omega
 unfold Builtin.Slice.sliceAdjust
 simp only[h1,if_false]
 refine Prod.ext ?_ ?_
 ·cases lo with
  | none=>rfl
  | some v=>exact Hi v n 0
 ·cases hi with
  | none=>rfl
  | some v=>exact Hi v n n
theorem F7(i j:Nat):Builtin.Slice.slicePlaces (i:Int) (j:Int) 1=j-i:=by
 unfold Builtin.Slice.slicePlaces
 have h1:(1:Int) > 0:=by omega
 simp only[h1,if_true,Int.ediv_one]
 split <;> omega
theorem yF{v:Value}{o:Option Int}{Q:Option Int→Shared→Prop}(p:IsPart v o)(h:Q o s):wpAny (model prog w) A (Builtin.Slice.slicePartIndex v) Q E s:=by
 cases p with
 | none=>exact slicePart_none h
 | int i t=>exact slicePart_int h
theorem vA{sl:Addr}{vl vu:Value}{lo hi:Option Int}{n:Nat}{Q:Int × Int × Nat→Shared→Prop}(hs:s.heap.IsSliceOf sl vl vu .none)(pl:IsPart vl lo)(pu:IsPart vu hi)
  (h:Q (((gH n 0 lo:Nat):Int),1,gH n n hi-gH n 0 lo) s):wpAny (model prog w) A (Builtin.Slice.sliceApplied (.ref sl) (pure (n:Int))) Q E s:=by
 obtain⟨os,hos,hcs,hds⟩:=id hs
 unfold Builtin.Slice.sliceApplied Builtin.Slice.sliceFields
 refine wpAny_bind (wpAny_bind (wpAny_field hos hds (x:=vl) rfl (wpAny_bind (wpAny_field hos hds (x:=vu) rfl (wpAny_bind (wpAny_field hos hds (x:=.none) rfl (wpAny_pure ?_)))))))
 refine wpAny_bind (slicePart_none ?_)
 show wpAny _ _ (if ((1:Int) == 0)=true then _ else _) _ _ s
 rw[if_neg (by decide)]
 refine wpAny_bind (yF pl (wpAny_bind (yF pu (wpAny_bind (wpAny_pure ?_)))))
 show wpAny _ _ (match Builtin.Slice.sliceAdjust lo hi 1 (n:Int) with|(lo,hi)=>pure (lo,(1:Int),Builtin.Slice.slicePlaces lo hi 1)) _ _ s
 rw[F6 lo hi n]
 show wpAny _ _ (pure (((gH n 0 lo:Nat):Int),(1:Int),Builtin.Slice.slicePlaces ((gH n 0 lo:Nat):Int) ((gH n n hi:Nat):Int) 1)) _ _ s
 rw[F7]
 exact wpAny_pure h
theorem Kp(xs:Array Value)(i k:Nat):((List.range k).filterMap fun (m:Nat)=>xs[((i:Int)+(m:Int)*1).toNat]?).toArray=((xs.toList.drop i).take k).toArray:=by
 have e:(fun (m:Nat)=>xs[((i:Int)+(m:Int)*1).toNat]?)=fun m=>xs[i+m]?:=by
  funext m
  have:((i:Int)+(m:Int)*1).toNat=i+m:=by omega
  rw[this]
 rw[e]
 have:=pick_run xs i k
 rw[List.filterMap_map]at this
 have e2:((fun x=>xs[x]?) ∘ fun x=>i+x)=fun m=>xs[i+m]?:=rfl
 rw[e2]at this
 rw[this]
theorem uD{t sl:Addr}{items:Array Value}{vl vu:Value}{lo hi:Option Int}{Q:Value→Shared→Prop}(ht:IsTup s.heap t items)(hs:s.heap.IsSliceOf sl vl vu .none)(pl:IsPart vl lo)(pu:IsPart vu hi)
  (hw:¬ (gH items.size 0 lo=0∧gH items.size items.size hi=items.size))
  (h:Q (.ref s.heap.objs.size) { s with heap:=s.heap.push { cls:=.type "tuple",data:=.seq ((items.toList.drop (gH items.size 0 lo)).take (gH items.size items.size hi-gH items.size 0 lo)).toArray } })
  (hsz:items.size≤sizeLine):wpAny (model prog w) A (getItem (.ref t) (.ref sl)) Q E s:=by
 have Hj:sizeOk (.seq ((items.toList.drop (gH items.size 0 lo)).take (gH items.size items.size hi-gH items.size 0 lo)).toArray):=by
  show ((items.toList.drop (gH items.size 0 lo)).take (gH items.size items.size hi-gH items.size 0 lo)).toArray.size≤sizeLine
  rw[qy,ko,List.length_drop,Array.length_toList]
  omega
 have hj:gH items.size items.size hi≤items.size:=O9 _ _ (fH _) hi
 obtain⟨os,hos,hcs,hds⟩:=id hs
 have hTs:s.TypeIs (.ref sl) "slice":=⟨os,hos,hcs⟩
 unfold getItem
 try with_reducible refine wpAny_holding ?_
 first|refine wpAny_bind (wpAny_pure ?_)|skip
 refine wpAny_bind (wpAny_sequenceKey ht.typeIs (by decide) ?_)
 refine wpAny_bind (wpAny_callSpecial?_slot (name:=Str.ofString "__getitem__") ht.typeIs PyProof.Rows.slot_tuple_getitem
  (wpAny_call_entry PyProof.Rows.slot_tuple_getitem ht.typeIs entry_tuple_getitem ?_ (args_tuple_getitem _ _)))
 show wpAny _ _ (Builtin.Tuple.tupleItemsOf (.ref t) >>= _) _ _ s
 refine wpAny_bind (tupleItemsOf_ ht ?_)
 refine wpAny_bind (wpAny_typeOf hTs ?_)
 rw[if_pos (by decide)]
 refine wpAny_bind (vA hs pl pu ?_)
 have hno:¬ ((((gH items.size 0 lo:Nat):Int) == 0&&(1:Int) == 1&&(gH items.size items.size hi-gH items.size 0 lo) == items.size)=true):=by
  intro q
  rw[Bool.and_eq_true,Bool.and_eq_true]at q
  have q1:((gH items.size 0 lo:Nat):Int)=0:=eq_of_beq q.1.1
  have q2:gH items.size items.size hi-gH items.size 0 lo=items.size:=eq_of_beq q.2
  exact hw ⟨by omega,by omega⟩
 show wpAny _ _ (if (((gH items.size 0 lo:Nat):Int) == 0&&(1:Int) == 1&&(gH items.size items.size hi-gH items.size 0 lo) == items.size)=true then _ else _) _ _ s
 rw[if_neg hno,Kp]
 first
  | exact wpAny_bind (m:=Builtin.Tuple.tupleExact _) (wpAny_newObj_type (wpAny_pure ⟨_,rfl,wpAny_pure h⟩) Hj)
  | exact wpAny_bind (m:=Builtin.Tuple.tupleExact _) (wpAny_newObj_type (wpAny_bind (wpAny_pure (wpAny_pure ⟨_,rfl,wpAny_pure h⟩))) Hj)
  | exact wpAny_bind (wpAny_bind (m:=Builtin.Tuple.tupleExact _) (wpAny_newObj_type (wpAny_pure (wpAny_pure ⟨_,rfl,wpAny_pure h⟩)) Hj))
  | exact wpAny_bind (wpAny_bind (m:=Builtin.Tuple.tupleExact _) (wpAny_newObj_type (wpAny_pure ⟨_,rfl,wpAny_pure h⟩) Hj))
end
end HT
namespace L2
open PySem PySem.Spec PyProof.Rows
abbrev TO:=St→Hp→(Option Int→Hp→Prop)→Prop
def PO(X:Cx)(e:Option Expr)(t:TO):Prop :=
 ∀ (pins:List (Addr × Obj)) (s:Shared) (σ:St) (H:Hp) (Q:Option Int→Hp→Prop),Inv X pins σ H s→t σ H Q →
  wpAny (model X.prog X.w) X.A (evalPart e X.env) (fun u s'=>∃ o H',Inv X pins σ H' s'∧IsPart u o∧Q o H') X.xe s
def MJ:TO:=fun _ H Q=>Q none H
def RH(t:TE):TO:=fun σ H Q=>t σ H fun x H1=>isI x H1 Q
theorem intsAre_of{ns:List Int}:∀ {us:List Value},Vals (ns.map V.int) us→IntsAre us ns:=by
 induction ns with
 | nil=>intro us r;rw[List.map_nil]at r;cases r;exact .nil
 | cons n ns ih =>
  intro us r
  rw[kO]at r
  cases r with
  | cons r1 r2 =>
   obtain⟨t,e⟩:=r1
   subst e
   exact .cons n t (ih r2)
section
variable {X:Cx} {e:Expr} {te:TE} {lo hi:Option Expr} {tl th:TO} {pos p2:Pos}
theorem rD:PO X none MJ:=by
 intro pins s σ H Q I h
 rw[evalPart_none]
 exact wpAny_pure ⟨none,H,I,.none,h⟩
theorem rE(h:PE X e te):PO X (some e) (RH te):=by
 intro pins s σ H Q I hw
 rw[evalPart_some]
 refine bQ (h pins s σ H _ I hw) fun u s1 ⟨x,H1,I1,r1,q1⟩=>?_
 obtain⟨i,rfl,q⟩:=q1
 obtain⟨t,rfl⟩:=r1
 exact⟨some i,H1,I1,.int i t,q⟩
def Ud(X:Cx)(r:V→Option Int→Option Int→Hp→VK→Prop):Prop :=
 ∀ (pins:List (Addr × Obj)) (s:Shared) (σ:St) (H:Hp) (x:V) (v vl vu:Value) (lo hi:Option Int) (sl:Addr) (Q:VK),Inv X pins σ H s→RelV x v→s.heap.IsSliceOf sl vl vu .none→IsPart vl lo→IsPart vu hi→r x lo hi H Q →
  ∃ T id,typeLookup (.type T) "__getitem__"=pure (some (.builtin id))∧s.TypeIs v T∧wpAny (model X.prog X.w) X.A (getItem v (.ref sl)) (EP X pins σ Q) X.xe s
def tSl(r:V→Option Int→Option Int→Hp→VK→Prop)(te:TE)(tl th:TO):TE:=fun σ H Q=>te σ H fun x H1=>tl σ H1 fun l H2=>th σ H2 fun u H3=>r x l u H3 Q
theorem pF{r:V→Option Int→Option Int→Hp→VK→Prop}(hr:Ud X r)(he:PE X e te)(hl:PO X lo tl)(hu:PO X hi th):PE X (.Subscript e (.Slice lo hi none p2) pos) (tSl r te tl th):=by
 intro pins s σ H Q I h
 refine Subscript_ (bQ (he pins s σ H _ I h) fun v s1 ⟨x,H1,I1,r1,q1⟩=>?_)
 refine wpAny_Slice (bQ (hl pins s1 σ H1 _ I1 q1) fun vl s2 ⟨l,H2,I2,pl,q2⟩=>bQ (hu pins s2 σ H2 _ I2 q2) fun vu s3 ⟨u,H3,I3,pu,q3⟩=>?_)
 rw[evalPart_none]
 refine wpAny_pure ?_
 have I4:Inv X pins σ H3 { s3 with heap:=s3.heap.push { cls:=.type "slice",data:=.fields #[vl,vu,.none] } }:=I3.kept (t':=s3.toks) fun b ob q=>Heap.get?_push_of_some _ q
 obtain⟨T,id,hT,ht,hg⟩:=hr pins { s3 with heap:=s3.heap.push { cls:=.type "slice",data:=.fields #[vl,vu,.none] } } σ H3 x v vl vu l u s3.heap.objs.size Q I4 r1 (Heap.IsSliceOf.new ..) pl pu q3
 show wpAny (model X.prog X.w) X.A (subscriptTail e (.Slice lo hi none p2) v (.ref s3.heap.objs.size)) (EP X pins σ Q) X.xe { s3 with heap:=s3.heap.push { cls:=.type "slice",data:=.fields #[vl,vu,.none] } }
 exact tail_any (ops:=[.ref s3.heap.objs.size,v]) ht hT hg (by with_unfolding_all rfl)
def rZ(xs:List V)(lo hi:Option Int):List V:=(xs.drop (HT.gH xs.length 0 lo)).take (HT.gH xs.length xs.length hi-HT.gH xs.length 0 lo)
theorem wJ(xs:List V)(lo hi:Option Int):(rZ xs lo hi).length≤xs.length:=by
 unfold rZ
 rw[ko,List.length_drop]
 omega
def Vr(K:PySem.W.Frag):V→Option Int→Option Int→Hp→VK→Prop:=fun x lo hi H Q=>∃ a xs,x=.ref a∧jK K H a xs ∧
 ¬ (HT.gH xs.length 0 lo=0∧HT.gH xs.length xs.length hi=xs.length)∧∀ p,H p=none→Q (.ref p) (upd H p (.tup (rZ xs lo hi)))
theorem Pa:Ud X (Vr X.K):=by
 intro pins s σ H x v vl vu lo hi sl Q I rx hs pl pu h
 obtain⟨a,xs,rfl,hx,hw,q⟩:=h
 cases rx
 obtain⟨its,r,ht,hz⟩:=I.tuple hx
 have hlen:its.toArray.size=xs.length:=by rw[qy];exact r.length.symm
 refine⟨"tuple",_,PyProof.Rows.slot_tuple_getitem.lookup,ht.typeIs,?_⟩
 refine HT.uD ht hs pl pu (by rw[hlen];exact hw) ?_ (by rw[hlen];exact hz)
 rw[hlen]
 refine⟨.ref s.heap.objs.size,_,I.laid (t':=s.toks) (o:=.tup (rZ xs lo hi)) (fun b ob q=>Heap.get?_push_of_some _ q) (fH _) ?_,rfl,q _ (I.hok.fresh (fH _))⟩
 exact⟨Nat.le_trans (wJ xs lo hi) hz,_,(r.drop (HT.gH xs.length 0 lo)).take (HT.gH xs.length xs.length hi-HT.gH xs.length 0 lo),IsTup.new _ _⟩
end
end L2
namespace L2
open PySem PySem.Spec PyProof.Rows
def Hl(n:Nat)(i:Int):Option Nat:=if 0≤i then (if i<n then some i.toNat else none) else if -(n:Int)≤i then some (i+n).toNat else none
def uE{α:Type}(xs:List α)(i:Int):Option α:=(Hl xs.length i).bind fun j=>xs[j]?
theorem Ho{n:Nat}{i:Int}{j:Nat}(h:Hl n i=some j):seqIndex? i n=some j∧j<n∧-(n:Int)≤i∧i<n:=by
 unfold Hl at h
 by_cases h0:0≤i
 ·rw[if_pos h0]at h
  by_cases h1:i<n
  ·rw[if_pos h1]at h
   have e:i.toNat=j:=rX h
   exact⟨by rw[seqIndex_of h0 h1,e],by omega,by omega,h1⟩
  ·rw[if_neg h1]at h;cases h
 ·rw[if_neg h0]at h
  by_cases h1:-(n:Int)≤i
  ·rw[if_pos h1]at h
   have e:(i+n).toNat=j:=rX h
   exact⟨by rw[seqIndex_neg (by omega) h1,e],by omega,h1,by omega⟩
  ·rw[if_neg h1]at h;cases h
theorem B3{α:Type}{xs:List α}{i:Int}{v:α}(h:uE xs i=some v):∃ j,seqIndex? i xs.length=some j∧xs[j]?=some v∧j<xs.length∧-(xs.length:Int)≤i∧i<xs.length:=by
 unfold uE at h
 cases e:Hl xs.length i with
 | none=>rw[e]at h;cases h
 | some j =>
  rw[e]at h
  obtain⟨h1,h2,h3,h4⟩:=Ho e
  exact⟨j,h1,h,h2,h3,h4⟩
theorem cU{α:Type}{xs:List α}{j:Nat}{v:α}(h:xs[j]?=some v):uE xs (j:Int)=some v:=by
 have hj:j<xs.length:=(List.getElem?_eq_some_iff.mp h).1
 have e:Hl xs.length (j:Int)=some j:=by
  unfold Hl
  rw[if_pos (by omega),if_pos (by omega)];simp
 unfold uE;rw[e];exact h
theorem Kq{α:Type}(xs:List α)(v:α):uE (xs++[v]) (-1)=some v:=by
 have hl:(xs++[v]).length=xs.length+1:=by simp
 have e:Hl (xs++[v]).length (-1)=some xs.length:=by
  unfold Hl
  rw[hl,if_neg (by decide),if_pos (by omega)]
  congr 1
  omega
 unfold uE
 rw[e]
 show (xs++[v])[xs.length]?=some v
 simp
def MK(b:Expr):Prop:=∀ o i,subscripted b false o i=operate [o,i] (getItem o i)
def Pb(X:Cx)(r:R2):Prop :=
 ∀ (value slice:Expr) (pins:List (Addr × Obj)) (s:Shared) (σ:St) (H:Hp) (x y:V) (v u:Value) (Q:VK),Inv X pins σ H s→RelV x v→RelV y u→r x y H Q →
  subscripted slice false v u=operate [v,u] (getItem v u)→wpAny (model X.prog X.w) X.A (subscriptTail value slice v u) (EP X pins σ Q) X.xe s
def MtR(X:Cx)(id:String)(r:V→List V→Hp→VK→Prop):Prop :=
 ∀ (pins:List (Addr × Obj)) (s:Shared) (σ:St) (H:Hp) (x:V) (xs:List V) (v:Value) (us:List Value) (Q:VK),Inv X pins σ H s→RelV x v→Vals xs us→r x xs H Q →
  wpAny (model X.prog X.w) X.A (call (.builtin id) (v::us)) (EP X pins σ Q) X.xe s
section
variable {X:Cx} {a b:Expr} {ta tb:TE} {pos:Pos}
theorem bu{r:R2}(hr:Pb X r)(ha:PE X a ta)(hb:PE X b tb)(hs:MK b):PE X (.Subscript a b pos) (Ub r ta tb):=by
 intro pins s σ H Q I h
 exact Subscript_ (O4 ha hb I h fun v u s2 x y H2 I2 rx ry q=>hr a b pins s2 σ H2 x y v u Q I2 rx ry q (hs _ _))
inductive Pc(K:PySem.W.Frag)(x y:V)(H:Hp)(Q:VK):Prop
 | mk (p:Addr) (xs:List V) (i:Int) (v:V) (_:x=.ref p) (_:y=.int i) (_:bG K H p xs) (_:uE xs i=some v) (_:Q v H):Pc K x y H Q
inductive ML(K:PySem.W.Frag)(x y:V)(H:Hp)(Q:VK):Prop
 | mk (p:Addr) (xs:List V) (i:Int) (v:V) (_:x=.ref p) (_:y=.int i) (_:jK K H p xs) (_:uE xs i=some v) (_:Q v H):ML K x y H Q
def Vs:R2:=fun x y H Q=>∃ z i c,x=.str z∧y=.int i∧z.length≤sizeLine∧uE z.cps.toList i=some c∧Q (.str ⟨#[c]⟩) H
theorem bw:Pb X (Pc X.K):=by
 intro value slice pins s σ H x y v u Q I rx ry h hs
 obtain⟨p,xs,i,z,rfl,rfl,hq,he,q⟩:=h
 cases rx
 obtain⟨t,rfl⟩:=ry
 obtain⟨its,r,pl,hz⟩:=I.list hq
 obtain⟨j,h1,h2,h3,h4,h5⟩:=B3 he
 obtain⟨w,ew,rw'⟩:=r.get h2
 have hl:=r.length
 have hn:=tG
 have fin:EP X pins σ Q w s:=⟨z,H,I,rw',q⟩
 by_cases h0:0≤i
 ·have hj:i.toNat=j:=by
   rw[seqIndex_of h0 h5]at h1
   exact rX h1
  exact item_listR pl.isList h0 (by omega) (by rw[hj];simpa using ew) fin hs
 ·have hj:(i+(its.toArray.size:Int)).toNat=j:=by
   rw[seqIndex_neg (by omega) h4]at h1
   rw[qy,← hl]
   exact rX h1
  exact subscriptTail_builtinR (x:=w) pl.isList.typeIs slot_list_getitem.lookup
   (wpAny_getItem_list_neg (Q:=fun r s'=>r=w∧EP X pins σ Q r s') pl.isList (by omega) (by rw[qy] <;> omega) (by omega) (by rw[hj];simpa using ew) ⟨rfl,fin⟩) hs
theorem dN:Pb X (ML X.K):=by
 intro value slice pins s σ H x y v u Q I rx ry h hs
 obtain⟨p,xs,i,z,rfl,rfl,hq,he,q⟩:=h
 cases rx
 obtain⟨t,rfl⟩:=ry
 obtain⟨its,r,pl,hz⟩:=I.tuple hq
 obtain⟨j,h1,h2,h3,h4,h5⟩:=B3 he
 obtain⟨w,ew,rw'⟩:=r.get h2
 have hl:=r.length
 have hn:=tG
 have fin:EP X pins σ Q w s:=⟨z,H,I,rw',q⟩
 exact subscriptTail_builtinR (x:=w) pl.typeIs slot_tuple_getitem.lookup
  (getItem_tuple (j:=j) (Q:=fun r s'=>r=w∧EP X pins σ Q r s') pl (by omega) (by omega) (by rw[qy,← hl];exact h1) (by simpa using ew) ⟨rfl,fin⟩) hs
theorem Kr:Pb X Vs:=by
 intro value slice pins s σ H x y v u Q I rx ry h hs
 obtain⟨z,i,c,rfl,rfl,hz,he,q⟩:=h
 obtain⟨t,rfl⟩:=rx
 obtain⟨t',rfl⟩:=ry
 obtain⟨j,h1,h2,h3,h4,h5⟩:=B3 he
 have hl:z.cps.toList.length=z.length:=by simp[Str.length]
 rw[hl]at h1 h4 h5
 have hn:=tG
 exact tail_any (typeIs_str s z t) slot_str_getitem.lookup (getItem_str (c:=c) (by
  have e1:decide (i < -(2^63:Int))=false:=decide_eq_false (by omega)
  have e2:decide (i≥2^63)=false:=decide_eq_false (by omega)
  rw[e1,e2,Bool.or_false]) (by rw[h1];simpa using h2) ⟨.str ⟨#[c]⟩,H,I.tok _,⟨_,rfl⟩,q⟩) hs
theorem F8(its:List Value)(n j:Nat)(u:Value):Obj.mapSeq (·.setIfInBounds j u) { cls:=.type "list",data:=.seq its.toArray n }={ cls:=.type "list",data:=.seq (its.set j u).toArray n }:=by
 simp[Obj.mapSeq]
theorem Inv.lst{pins:List (Addr × Obj)}{σ:St}{H:Hp}{s:Shared}{p:Addr}{xs:List V}(I:Inv X pins σ H s)(h:H p=some (.lst xs)) :
  ∃ (its:List Value) (n:Nat),Vals xs its∧s.heap.get? p=some { cls:=.type "list",data:=.seq its.toArray n }∧xs.length≤sizeLine:=by
 obtain⟨z,its,n,r,e⟩:=I.hok p _ h
 exact⟨its,n,r,e,z⟩
theorem Inv.Pd{pins:List (Addr × Obj)}{σ:St}{H:Hp}{s:Shared}{p:Addr}{xs ys:List V}{its its':List Value}{n n':Nat}{f:Obj→Obj}(I:Inv X pins σ H s)(h:H p=some (.lst xs))
  (ho:s.heap.get? p=some { cls:=.type "list",data:=.seq its.toArray n }) (hf:f { cls:=.type "list",data:=.seq its.toArray n }={ cls:=.type "list",data:=.seq its'.toArray n' }) (r:Vals ys its') (hz:ys.length≤sizeLine) (t:Nat) :
  Inv X pins σ (upd H p (.lst ys)) { s with heap:=s.heap.update p f,toks:=t }:=by
 have e:(s.heap.update p f).get? p=some { cls:=.type "list",data:=.seq its'.toArray n' }:=by
  rw[Heap.get?_update_self f ho (by rw[hf] <;> rfl),hf]
 refine I.write (x:=p) (e:=p) (by rw[h];trivial) (.inl rfl) (fun b u hb q=>(Heap.get?_update_other _ _ (Ne.symm hb)).trans q) ⟨_,e⟩ ?_
 exact⟨hz,its',n',r,e⟩
inductive Oa(o i v:V)(H:Hp)(Q:Hp→Prop):Prop
 | mk (p:Addr) (xs:List V) (k:Int) (j:Nat) (_:o=.ref p) (_:i=.int k) (_:H p=some (.lst xs)) (_:Hl xs.length k=some j) (_:Q (upd H p (.lst (xs.set j v)))):Oa o i v H Q
theorem set_list:Rq X Oa:=by
 intro pins s σ H o i v ov iv u Q I ro ri rv h
 obtain⟨p,xs,k,j,rfl,rfl,hp,hj,q⟩:=h
 cases ro
 obtain⟨t,rfl⟩:=ri
 obtain⟨its,n,r,ho,hz⟩:=I.lst hp
 obtain⟨h1,h2,h3,h4⟩:=Ho hj
 have hl:=r.length
 have hn:=tG
 have I':Inv X pins σ (upd H p (.lst (xs.set j v))) { s with heap:=s.heap.update p (Obj.mapSeq (·.setIfInBounds j u)) } :=
  I.Pd hp ho (F8 its n j u) (r.set rv j) (by rw[List.length_set];exact hz) s.toks
 by_cases h0:0≤k
 ·have hk:k.toNat=j:=by
   rw[seqIndex_of h0 h4]at h1
   exact rX h1
  exact PySem.W.ki_setAt ho h0 (by omega) (by rw[qy,← hl];exact h4) (by rw[hk];exact⟨_,I',q⟩)
 ·have hk:(k+(its.toArray.size:Int)).toNat=j:=by
   rw[seqIndex_neg (by omega) h3]at h1
   rw[qy,← hl]
   exact rX h1
  exact PySem.W.ki_setBack ho (by omega) (by rw[qy,← hl];exact h3) (by omega) (by rw[hk];exact⟨_,I',q⟩)
theorem uF(lo hi:Option Int)(n:Nat):(sliceBounds lo hi none n).1=((HT.gH n 0 lo:Nat):Int)∧(sliceBounds lo hi none n).2.1=((HT.gH n n hi:Nat):Int)∧(sliceBounds lo hi none n).2.2=1:=by
 refine⟨?_,?_,rfl⟩
 ·cases lo with
  | none=>simp[sliceBounds,HT.gH]
  | some i =>
   simp only[sliceBounds,HT.gH,Option.getD_none,show (1:Int) > 0 by decide,if_true]
   by_cases h:i<0
   ·simp only[h,if_true] <;> omega
   ·simp only[h,if_false] <;> omega
 ·cases hi with
  | none=>simp[sliceBounds,HT.gH]
  | some i =>
   simp only[sliceBounds,HT.gH,Option.getD_none,show (1:Int) > 0 by decide,if_true]
   by_cases h:i<0
   ·simp only[h,if_true] <;> omega
   ·simp only[h,if_false] <;> omega
theorem Ar(its:List Value)(lo hi:Option Int):slicePick its.toArray lo hi none=((its.drop (HT.gH its.length 0 lo)).take (HT.gH its.length its.length hi-HT.gH its.length 0 lo)).toArray:=by
 obtain⟨h1,h2,h3⟩:=uF lo hi its.toArray.size
 unfold slicePick
 rw[h1,h2,h3]
 simp only[sliceRange_one,pick_run,qy] <;> rfl
inductive RI(K:PySem.W.Frag)(x:V)(lo hi:Option Int)(H:Hp)(Q:VK):Prop
 | mk (a:Addr) (xs:List V) (_:x=.ref a) (_:bG K H a xs) (_:∀ p,H p=none→Q (.ref p) (upd H p (.lst (rZ xs lo hi)))):RI K x lo hi H Q
theorem B4:Ud X (RI X.K):=by
 intro pins s σ H x v vl vu lo hi sl Q I rx hs pl pu h
 obtain⟨a,xs,rfl,hx,q⟩:=h
 cases rx
 obtain⟨its,r,ht,hz⟩:=I.list hx
 have hlen:=r.length
 refine⟨"list",_,slot_list_getitem.lookup,ht.isList.typeIs,?_⟩
 refine wpAny_getItem_list_slice ht.isList hs pl pu .none (by simp) ?_ (by rw[qy] <;> omega)
 rw[Ar,← hlen]
 refine⟨.ref s.heap.objs.size,_,I.laid (t':=s.toks) (o:=.lst (rZ xs lo hi)) (fun b ob q=>Heap.get?_push_of_some _ q) (fH _) ?_,rfl,q _ (I.hok.fresh (fH _))⟩
 exact⟨Nat.le_trans (wJ xs lo hi) hz,_,0,(r.drop (HT.gH xs.length 0 lo)).take (HT.gH xs.length xs.length hi-HT.gH xs.length 0 lo),Heap.get?_push_size _ rfl⟩
inductive RJ(K:PySem.W.Frag)(xs:List V)(H:Hp)(Q:VK):Prop
 | mk (p:Addr) (ys:List V) (_:xs=[.ref p]) (_:bG K H p ys∨jK K H p ys) (_:Q (.int ys.length) H):RJ K xs H Q
inductive Pe(K:PySem.W.Frag)(xs:List V)(H:Hp)(Q:VK):Prop
 | mk (p:Addr) (ys:List V) (_:xs=[.ref p]) (_:bG K H p ys∨jK K H p ys) (_:∀ l,H l=none→Q (.ref l) (upd H l (.lst ys))):Pe K xs H Q
theorem bq:mF X (.builtin "len") (RJ X.K):=by
 intro pins s σ H xs us Q I r h
 obtain⟨p,ys,rfl,hq,q⟩:=h
 obtain⟨u,rfl,rx⟩:=vals1 r
 cases rx
 have hn:=tG
 rcases hq with hq|hq
 ·obtain⟨its,r',pl,hz⟩:=I.list hq
  have hlen:=r'.length
  exact Calls.call_len_list pl.isList (by simp only[qy] <;> omega) ⟨.int ys.length,H,I.tok _,⟨s.toks+1,by rw[qy,hlen]⟩,q⟩
 ·obtain⟨its,r',pl,hz⟩:=I.tuple hq
  have hlen:=r'.length
  exact len_tuple pl (by simp only[qy] <;> omega) ⟨.int ys.length,H,I.tok _,⟨s.toks+1,by rw[qy,hlen]⟩,q⟩
theorem jv:mF X (.builtin "len") (fun xs H Q=>∃ z,xs=[.str z]∧z.length≤sizeLine∧Q (.int z.length) H):=by
 intro pins s σ H xs us Q I r h
 obtain⟨z,rfl,hz,q⟩:=h
 obtain⟨u,rfl,t,rfl⟩:=vals1 r
 have hn:=tG
 exact len_str (by omega) ⟨.int z.length,H,I.tok _,⟨_,rfl⟩,q⟩
theorem mQ:mF X (.type "list") (Pe X.K):=by
 intro pins s σ H xs us Q I r h
 obtain⟨p,ys,rfl,hq,q⟩:=h
 obtain⟨u,rfl,rx⟩:=vals1 r
 cases rx
 have fin:∀ (its:List Value),Vals ys its→ys.length≤sizeLine→∀ (h':Heap) (c':Nat),(∀ b o',s.heap.get? b=some o'→h'.get? b=some o') →
   h'.get? s.heap.objs.size=some { cls:=.type "list",dict:=none,data:=.seq its.toArray c',slots:=#[] }→EP X pins σ Q (.ref s.heap.objs.size) { s with heap:=h' }:=fun its r' hz h' c' kp e =>
  ⟨.ref s.heap.objs.size,_,I.laid (t':=s.toks) kp (fH _) (show gh X.prog X.w _ h' _ (.lst ys) from ⟨hz,its,c',r',e⟩),rfl,q _ (I.hok.fresh (fH _))⟩
 rcases hq with hq|hq
 ·obtain⟨its,r',pl,hz⟩:=I.list hq
  have hlen:=r'.length
  obtain⟨o,ho,hc,n,hd⟩:=pl.isList
  exact call_list_seq p (.inl rfl) ho hc hd (fun h' c' kp e=>fin its r' hz h' c' kp e) (by simp only[qy] <;> omega)
 ·obtain⟨its,r',pl,hz⟩:=I.tuple hq
  have hlen:=r'.length
  obtain⟨o,ho,hc,n,hd⟩:=pl
  exact call_list_seq p (.inr rfl) ho hc hd (fun h' c' kp e=>fin its r' hz h' c' kp e) (by simp only[qy] <;> omega)
def Vt(K:PySem.W.Frag)(T:String)(x:V)(H:Hp):Prop:=match x with
 | .str _=>T="str"
 | .int _=>T="int"
 | .ref p=>(T="list"∧∃ xs,bG K H p xs)∨(T="tuple"∧∃ o,K.lookup p=some o∧o.cls=.type "tuple"∧o.dict=none) ∨
   (T="dict"∧((∃ kvs,H p=some (.dK kvs))∨∃ kvs,H p=some (.dT kvs)))∨(T="set"∧∃ S n,H p=some (.set S n))
 | _=>False
theorem Ks{pins:List (Addr × Obj)}{σ:St}{H:Hp}{s:Shared}{T:String}{x:V}{v:Value}(I:Inv X pins σ H s)(r:RelV x v)(ty:Vt X.K T x H) :
  s.TypeIs v T∧∀ a,v=.ref a→∃ ob,s.heap.get? a=some ob∧ob.dict=none:=by
 cases x with
 | str z =>
  obtain⟨t,rfl⟩:=r
  cases (show T="str" from ty)
  exact⟨typeIs_str s z t,fun _ e=>nomatch e⟩
 | int i =>
  obtain⟨t,rfl⟩:=r
  cases (show T="int" from ty)
  exact⟨typeIs_int s i t,fun _ e=>nomatch e⟩
 | ref p =>
  cases r
  rcases ty with ⟨rfl,xs,hq⟩|⟨rfl,o,hk,hc,hd⟩|⟨rfl,hk⟩|⟨rfl,S,n,hk⟩
  ·obtain⟨its,_,pl,_⟩:=I.list hq
   refine⟨pl.isList.typeIs,fun a e=>?_⟩
   cases e
   obtain⟨o,n,e,c,hd,_⟩:=pl
   exact⟨o,e,hd⟩
  ·refine⟨⟨o,I.wF p o hk,hc⟩,fun a e=>?_⟩
   cases e
   exact⟨o,I.wF _ o hk,hd⟩
  ·have z:∃ o,s.heap.get? p=some o∧o.ExactDict:=by
    rcases hk with ⟨kvs,hk⟩|⟨kvs,hk⟩
    ·obtain⟨_,_,_,_,o,_,_,e,ex,_⟩:=I.hok p _ hk
     exact⟨o,e,ex⟩
    ·obtain⟨_,_,_,_,o,_,_,e,ex,_⟩:=I.hok p _ hk
     exact⟨o,e,ex⟩
   obtain⟨o,e,ex⟩:=z
   refine⟨⟨o,e,ex.1⟩,fun a e2=>?_⟩
   cases e2
   exact⟨o,e,ex.2.1⟩
  ·obtain⟨o,_,_,_,e,ex,_⟩:=I.hok p _ hk
   refine⟨⟨o,e,ex.1⟩,fun a e2=>?_⟩
   cases e2
   exact⟨o,e,ex.2.1⟩
 | _=>exact False.elim ty
def Vu(K:PySem.W.Frag)(T:String)(r:V→List V→Hp→VK→Prop)(to:TE):TE:=fun σ H Q=>to σ H fun x H1=>Vt K T x H1∧r x [] H1 Q
def tBM(K:PySem.W.Frag)(T:String)(r:V→List V→Hp→VK→Prop)(to:TE)(t:TA):TE:=fun σ H Q=>to σ H fun x H1=>Vt K T x H1∧t σ H1 fun xs H2=>r x xs H2 Q
variable {o e:Expr} {es:List Expr} {to:TE} {t:TA} {name:Str} {apos cpos:Pos} {T id:String} {r:V→List V→Hp→VK→Prop}
theorem Pf(pa:PlainAttrs T)(slot:Slot T name id)(hty:typeOf (.builtin id)=pure (.type "method_descriptor"))(hm:MtR X id r)(ho:PE X o to)
  (hbase:attributeBase o name X.env (eval o X.env)=eval o X.env:=by rfl) (hline:(apos.endLine == cpos.line)=true:=by rfl):PE X (.Call (.Attribute o name apos) [] [] cpos) (Vu X.K T r to):=by
 intro pins s σ H Q I h
 refine wpAny_Call_method0_late hbase hline (bQ (ho pins s σ H _ I h) fun v s1 ⟨x,H1,I1,r1,ty,q1⟩=>?_)
 obtain⟨h1,h2⟩:=Ks I1 r1 ty
 exact⟨T,id,pa,slot,hty,h1,h2,Calls.callWith_builtin rfl (PySem.evalArgs_none (hm pins s1 σ H1 x [] v [] Q I1 r1 .nil q1))⟩
theorem jF(pa:PlainAttrs T)(slot:Slot T name id)(hty:typeOf (.builtin id)=pure (.type "method_descriptor"))(hm:MtR X id r)(ho:PE X o to)(ha:PA X (e::es) t)
  (hbase:attributeBase o name X.env (eval o X.env)=eval o X.env:=by rfl)
  (hfew:((backTo cpos (starEach (e::es) X.env)).all (fun x=>!x.1)&&(backToKw cpos (keywordEach [] X.env)).all (fun x=>x.1.isSome)
   && decide ((e::es).length+([]:List Keyword).length+(if ([]:List Keyword).isEmpty then 0 else 1)<30))=true:=by rfl)
  (hline:(apos.endLine == cpos.line)=true:=by rfl) (hs:starEach (e::es) X.env=(false,eval e X.env)::starEach es X.env:=by rfl) (hplain:(backTo cpos (starEach es X.env)).any (·.1)=false:=by rfl) :
  PE X (.Call (.Attribute o name apos) (e::es) [] cpos) (tBM X.K T r to t):=by
 intro pins s σ H Q I h
 refine wpAny_Call_method_late hbase hfew hline rfl (bQ (ho pins s σ H _ I h) fun v s1 ⟨x,H1,I1,r1,ty,q1⟩=>?_)
 obtain⟨h1,h2⟩:=Ks I1 r1 ty
 refine⟨T,id,pa,slot,hty,h1,h2,?_⟩
 have hA:=ha cpos pins s1 σ H1 _ I1 q1
 rw[hs]at hA ⊢
 refine Calls.callWith_builtin (by show (false || (backTo cpos (starEach es X.env)).any (·.1))=false;rw[hplain] <;> rfl) (Calls.evalArgs_plain ?_)
 exact bQ hA fun us s2 ⟨vs,H2,I2,r2,q2⟩=>hm pins s2 σ H2 x vs v us Q I2 r1 r2 q2
end
end L2
namespace L2
open PySem PySem.Spec PyProof.Rows
def QH(X:Cx)(id:String)(r:V→List V→Hp→VK→Prop):Prop :=
 ∀ (pins:List (Addr × Obj)) (s:Shared) (σ:St) (H:Hp) (x:V) (xs:List V) (v:Value) (us:List Value) (Q:VK),Inv X pins σ H s→RelV x v→Vals xs us→r x xs H Q →
  wpAny (model X.prog X.w) X.A (call (.builtin id) (v::us)) (EP X pins σ Q) X.xe s
theorem Vals.one:∀ {x:V} {us:List Value},Vals [x] us→∃ u,us=[u]∧RelV x u
 | _,_,.cons r .nil=>⟨_,rfl,r⟩
theorem Vals.two:∀ {x y:V} {us:List Value},Vals [x,y] us→∃ u v,us=[u,v]∧RelV x u∧RelV y v
 | _,_,_,.cons r (.cons q .nil)=>⟨_,_,rfl,r,q⟩
theorem Vals.zero:∀ {us:List Value},Vals [] us→us=[]
 | _,.nil=>rfl
theorem Vals.dropLast{xs:List V}{us:List Value}(h:Vals xs us):Vals xs.dropLast us.dropLast:=by
 induction h with
 | nil=>exact .nil
 | cons r t ih =>
  cases t with
  | nil=>exact .nil
  | cons q t'=>exact .cons r ih
theorem Vals.eraseIdx:∀ {xs:List V} {us:List Value} (i:Nat),Vals xs us→Vals (xs.eraseIdx i) (us.eraseIdx i)
 | _,_,_,.nil=>.nil
 | _,_,0,.cons _ t=>t
 | _,_,i+1,.cons r t=>.cons r (Vals.eraseIdx i t)
theorem Vals.rep{xs:List V}{us:List Value}(h:Vals xs us):∀ k:Nat,Vals (List.replicate k xs).flatten (List.replicate k us).flatten
 | 0=>.nil
 | k+1=>by
  rw[List.replicate_succ,List.replicate_succ,List.flatten_cons,List.flatten_cons]
  exact Vals.append h (Vals.rep h k)
theorem F9{α:Type}(l:List α):l.eraseIdx (l.length-1)=l.dropLast:=by
 induction l with
 | nil=>rfl
 | cons a r ih =>
  cases r with
  | nil=>rfl
  | cons b r =>
   have e:(a::b::r).length-1=((b::r).length-1)+1:=by
    have h1:(a::b::r).length=r.length+2:=rfl
    have h2:(b::r).length=r.length+1:=rfl
    omega
   rw[e,List.eraseIdx_cons_succ,ih]
   all_goals rfl
theorem AR{α:Type}:∀ (l:List α) (i:Nat),(l.eraseIdx i).length≤l.length
 | [],_=>fH _
 | _::_,0=>Nat.le_succ _
 | _::r,i+1=>Nat.succ_le_succ (AR r i)
theorem foldl_rep(its:List Value):∀ (k:Nat) (acc:List Value),
  List.foldl (fun x1 x2=>x1++x2) acc.toArray (List.replicate k its.toArray)=(acc++(List.replicate k its).flatten).toArray
 | 0,acc=>by simp
 | k+1,acc=>by
  have e:acc.toArray++its.toArray=(acc++its).toArray:=by simp
  have e2:(acc++its)++(List.replicate k its).flatten=acc++(List.replicate (k+1) its).flatten:=by
   rw[List.replicate_succ,List.flatten_cons,pC]
  rw[← e2,← foldl_rep its k (acc++its),← e,List.replicate_succ,oS]
section
variable {X:Cx} {pins:List (Addr × Obj)} {σ:St} {H:Hp} {s:Shared} {l b:Addr} {xs ys zs:List V}
theorem Inv.Ku{its its':List Value}{n:Nat}{f:Array Value→Array Value}{t':Nat}(I:Inv X pins σ H s)(hH:H l=some (.lst xs))
  (e:s.heap.get? l=some { cls:=.type "list",data:=.seq its.toArray n }) (hf:f its.toArray=its'.toArray) (hv:Vals ys its') (hz:ys.length≤sizeLine) :
  Inv X pins σ (upd H l (.lst ys)) { s with heap:=s.heap.update l (Obj.mapSeq f),toks:=t' }:=by
 have q:=PySem.IsL.update e f
 rw[hf]at q
 refine I.write (x:=l) (e:=l) (by rw[hH];exact trivial) (.inl rfl) (fun b' u hb hu=>(Heap.get?_update_other s.heap (Obj.mapSeq f) (Ne.symm hb)).trans hu) ⟨_,q⟩ ?_
 exact⟨hz,its',_,hv,q⟩
theorem Inv.IS{its:List Value}{t':Nat}(I:Inv X pins σ H s)(hv:Vals ys its)(hz:ys.length≤sizeLine) :
  Inv X pins σ (upd H s.heap.objs.size (.lst ys)) { s with heap:=s.heap.push { cls:=.type "list",data:=.seq its.toArray },toks:=t' } :=
 I.laid (fun _ _ q=>Heap.get?_push_of_some _ q) (fH _) ⟨hz,its,0,hv,Heap.get?_push_size _ rfl⟩
theorem Inv.fresh(I:Inv X pins σ H s):H s.heap.objs.size=none:=I.hok.fresh (fH _)
theorem Inv.As(I:Inv X pins σ H s)(hH:H l=some (.lst xs)):xs.length≤sizeLine∧∃ (its:List Value) (n:Nat),Vals xs its∧xs.length=its.length∧s.heap.get? l=some { cls:=.type "list",data:=.seq its.toArray n }:=by
 obtain⟨z,its,n,r,e⟩:=I.hok l _ hH
 exact⟨z,its,n,r,r.length,e⟩
theorem yG{n:Nat}(h:n≤sizeLine):Builtin.List.listTooLong n=false:=by
 unfold Builtin.List.listTooLong
 exact decide_eq_false (by omega)
end
section
variable {X:Cx}
inductive Hq(x:V)(vs:List V)(H:Hp)(Q:VK):Prop
 | mk (l:Addr) (xs:List V) (y:V) (_:x=.ref l) (_:vs=[y]) (_:H l=some (.lst xs)) (_:xs.length<sizeLine) (_:Q .jE (upd H l (.lst (xs++[y])))):Hq x vs H Q
theorem cF:QH X "list.append" Hq:=by
 intro pins s σ H x vs v us Q I rx rv h
 obtain⟨l,xs,y,rfl,rfl,hH,hz,q⟩:=h
 cases rx
 obtain⟨u,rfl,ru⟩:=rv.one
 obtain⟨z,its,n,r,hl,e⟩:=I.As hH
 refine call_meets F.slot_list_append ⟨_,e,rfl⟩ F.entry_list_append (F.args_list_append_2 _ _) (PySem.list_append l its.toArray n u (by rw[qy];omega)) ⟨e,?_⟩
 refine⟨.jE,_,I.Ku (its':=its++[u]) hH e (by simp) (r.append (.cons ru .nil)) ?_,rfl,q⟩
 rw[eZ,ur]
 omega
inductive Hr(x:V)(vs:List V)(H:Hp)(Q:VK):Prop
 | mk (l b:Addr) (xs zs:List V) (_:x=.ref l) (_:vs=[.ref b]) (_:H l=some (.lst xs)) (_:H b=some (.lst zs)) (_:xs.length+zs.length≤sizeLine) (_:Q .jE (upd H l (.lst (xs++zs)))):Hr x vs H Q
theorem AS:QH X "list.extend" Hr:=by
 intro pins s σ H x vs v us Q I rx rv h
 obtain⟨l,b,xs,zs,rfl,rfl,hH,hB,hz,q⟩:=h
 cases rx
 obtain⟨u,rfl,ru⟩:=rv.one
 cases ru
 obtain⟨z,its,n,r,hl,e⟩:=I.As hH
 obtain⟨z2,its2,n2,r2,hl2,e2⟩:=I.As hB
 have hsz:its.toArray.size+its2.toArray.size≤sizeLine:=by rw[qy,qy];omega
 have DT:¬ (!its.toArray.isEmpty&&Builtin.List.listTooLong (its.toArray.size+its2.toArray.size))=true:=by
  rw[yG hsz,Bool.and_false]
  exact jX
 refine call_meets F.slot_list_extend ⟨_,e,rfl⟩ F.entry_list_extend (F.args_list_extend_2 _ _)
  (AutoSeq1.list_extend_list_list_0 l its.toArray n b its2.toArray n2 DT (by rw[qy];omega) (by omega)) ⟨e,e2,?_⟩
 refine⟨.jE,_,I.Ku (its':=its++its2) hH e (by simp) (r.append r2) ?_,rfl,q⟩
 rw[eZ]
 omega
def Vv:V→List V→Hp→VK→Prop:=fun x vs H Q=>∃ l xs y,x=.ref l∧vs=[]∧H l=some (.lst xs)∧xs[xs.length-1]?=some y∧Q y (upd H l (.lst xs.dropLast))
theorem Pg:QH X "list.pop" Vv:=by
 intro pins s σ H x vs v us Q I rx rv h
 obtain⟨l,xs,y,rfl,rfl,hH,hy,q⟩:=h
 cases rx
 have hus:=rv.zero
 subst hus
 obtain⟨z,its,n,r,hl,e⟩:=I.As hH
 obtain⟨u,hu,ru⟩:=r.get hy
 have hy':its.toArray[its.toArray.size-1]?=some u:=by
  show its.toArray[its.length-1]?=some u
  rw[← Array.getElem?_toList,← hl]
  exact hu
 refine call_meets F.slot_list_pop ⟨_,e,rfl⟩ F.entry_list_pop (F.args_list_pop_1 _) (MeetsSeq.list_pop_last l its.toArray n u hy' (by rw[qy];omega)) ⟨e,?_⟩
 refine⟨y,_,I.Ku (its':=its.dropLast) hH e ?_ r.dropLast ?_,ru,q⟩
 ·show its.toArray.eraseIdxIfInBounds (its.toArray.size-1)=its.dropLast.toArray
  rw[qy,List.eraseIdxIfInBounds_toArray,F9]
 ·rw[List.length_dropLast]
  omega
def Ph:V→List V→Hp→VK→Prop:=fun x vs H Q=>∃ l xs i k y,x=.ref l∧vs=[.int i]∧H l=some (.lst xs)∧-(2^63)≤i∧i<2^63∧seqIndex? i xs.length=some k∧xs[k]?=some y∧Q y (upd H l (.lst (xs.eraseIdx k)))
theorem Kv:QH X "list.pop" Ph:=by
 intro pins s σ H x vs v us Q I rx rv h
 obtain⟨l,xs,i,k,y,rfl,rfl,hH,h1,h2,hk,hy,q⟩:=h
 cases rx
 obtain⟨u,rfl,ru⟩:=rv.one
 obtain⟨t,rfl⟩:=ru
 obtain⟨z,its,n,r,hl,e⟩:=I.As hH
 obtain⟨w,hw,rw'⟩:=r.get hy
 refine call_meets F.slot_list_pop ⟨_,e,rfl⟩ F.entry_list_pop (F.args_list_pop_2 _ _)
  (MeetsSeq.list_pop_at l its.toArray n i t k w (fitsIndex_both h1 h2) (by rw[qy,← hl];exact hk) (by rw[← Array.getElem?_toList];exact hw) (by rw[qy];omega)) ⟨e,?_⟩
 refine⟨y,_,I.Ku (its':=its.eraseIdx k) hH e ?_ (r.eraseIdx k) ?_,rw',q⟩
 ·show its.toArray.eraseIdxIfInBounds k=(its.eraseIdx k).toArray
  rw[List.eraseIdxIfInBounds_toArray]
 ·have:=AR xs k
  omega
inductive Pj(x y:V)(H:Hp)(Q:VK):Prop
 | mk (l b:Addr) (xs zs:List V) (_:x=.ref l) (_:y=.ref b) (_:H l=some (.lst xs)) (_:H b=some (.lst zs)) (_:xs.length+zs.length≤sizeLine) (_:∀ p,H p=none→Q (.ref p) (upd H p (.lst (xs++zs)))):Pj x y H Q
theorem oX:uB X (binaryOp .Add) Pj:=by
 intro pins s σ H x y v u Q I rx ry h
 obtain⟨l,b,xs,zs,rfl,rfl,hH,hB,hz,q⟩:=h
 cases rx
 cases ry
 obtain⟨z,its,n,r,hl,e⟩:=I.As hH
 obtain⟨z2,its2,n2,r2,hl2,e2⟩:=I.As hB
 refine PySem.P.add_list e e2 ?_ (by rw[qy,qy];omega)
 have ea:its.toArray++its2.toArray=(its++its2).toArray:=by simp
 rw[ea]
 exact⟨.ref _,_,I.IS (t':=s.toks) (r.append r2) (by rw[eZ];omega),rfl,q _ I.fresh⟩
def RK:R2:=fun x y H Q=>∃ l k xs,x=.ref l∧y=.int k∧H l=some (.lst xs)∧-(2^63)≤k∧k<2^63∧xs.length*k.toNat≤sizeLine ∧
 ∀ p,H p=none→Q (.ref p) (upd H p (.lst (List.replicate k.toNat xs).flatten))
theorem len_rep{α:Type}(xs:List α)(k:Nat):(List.replicate k xs).flatten.length=k*xs.length:=by
 induction k with
 | zero=>simp
 | succ k ih=>rw[List.replicate_succ,List.flatten_cons,eZ,ih,Nat.succ_mul,Nat.add_comm]
theorem Kw:uB X (binaryOp .Mult) RK:=by
 intro pins s σ H x y v u Q I rx ry h
 obtain⟨l,k,xs,rfl,rfl,hH,h1,h2,hz,q⟩:=h
 cases rx
 obtain⟨t,rfl⟩:=ry
 obtain⟨z,its,n,r,hl,e⟩:=I.As hH
 have hlen:its.toArray.size*k.toNat≤sizeLine:=by rw[qy,← hl];exact hz
 have hcap:¬ its.toArray.size*k.toNat > (2^63-1) / 8:=by
  have:(sizeLine:Nat)≤(2^63-1) / 8:=by decide
  omega
 have hfit:¬ (!Builtin.List.listFitsIndex k)=true:=by
  rw[fitsIndex_both h1 h2]
  exact jX
 have DT:¬ Builtin.List.listTooLong (its.toArray.size*k.toNat)=true:=by
  rw[yG hlen]
  exact jX
 have hnew:List.foldl (fun x1 x2=>x1++x2) #[] (List.replicate (if its.toArray.isEmpty=true then 0 else k.toNat) its.toArray)=(List.replicate k.toNat its).flatten.toArray:=by
  have f0:∀ m:Nat,List.foldl (fun x1 x2=>x1++x2) #[] (List.replicate m its.toArray)=(List.replicate m its).flatten.toArray:=fun m=>by
   have:=foldl_rep its m []
   rw[List.nil_append]at this
   exact this
  rw[f0]
  cases its with
  | nil=>simp
  | cons a r'=>rw[if_neg (by simp)]
 refine wpAny_binaryOp_repeat_ref (T:="list") (U:="int") (by decide) ⟨_,e,rfl⟩ (fun s'=>typeIs_int s' k t) noFill_list_mul F.fills_int_mul F.slot_int_rmul repeat_list F.slot_int_index.lookup
  (call_meets F.slot_int_rmul (typeIs_int s k t) F.entry_int_rmul (F.args_int_rmul_2 _ _) (int___rmul___int_list k t l its.toArray n)
   ⟨e,rfl,⟨_,e,rfl⟩,call_meets F.slot_list_mul ⟨_,e,rfl⟩ F.entry_list_mul (F.args_list_mul_2 _ _) (AutoListH.list___mul___list_int_3 l its.toArray n k t hfit hcap DT) ⟨e,?_⟩⟩)
 rw[hnew]
 exact⟨.ref _,_,I.IS (t':=s.toks) (r.rep k.toNat) (by rw[len_rep,Nat.mul_comm];exact hz),rfl,q _ I.fresh⟩
end
end L2
namespace Att
open PySem PySem.W PySem.Calls PyProof.Rows
theorem xy{P:Params}{h:Heap}:∀ (ns:List Int) (vs:List Value),WellAll P h vs (ns.map WData.int)→IntsAre vs ns:=by
 intro ns
 induction ns with
 | nil =>
  intro vs w
  rw[List.map_nil]at w
  cases w
  exact .nil
 | cons n ns ih =>
  intro vs w
  rw[kO]at w
  cases w with
  | cons a b =>
   cases a
   exact .cons _ _ (ih _ b)
theorem IT{l:OpenLaw}{n:Nat}(hn:l.most=some n){P:Params}{h:Heap}{args:List WData}{vals:List Value}
  (hpre:l.row.toRowW.claim.pre args=true) (hwl:WellAll P h vals args) :
  ∃ a vs ns,vals=[Value.ref a]∧args=[WData.list (ns.map WData.int)]∧h.get? a=some { cls:=.type "list",data:=.seq vs.toArray }∧IntsAre vs ns∧ns.length≤n:=by
 have hsh:WShape.hasAll [] args [.list .int]=true:=(pre_splitW hpre).1
 have hc:l.pre.holds [] { args:=args }=true:=(pre_splitW hpre).2
 obtain⟨d,r,rfl,h1,h2⟩:=hasAllW_cons hsh
 obtain rfl:=hasAllW_nil h2
 obtain⟨xs,rfl,h3⟩:=hasW_list h1
 obtain⟨ns,rfl⟩:=items_int h3
 have hlen:ns.length≤n:=by
  unfold OpenLaw.pre at hc
  have h4:(WTm.not (.lt (.lit (.int (n:Int))) (.len (.arg 0)))).holds [] { args:=[.list (ns.map .int)] }=true:=by
   have h4:=(holds_andW hc).1
   rw[hn]at h4
   exact h4
  have h5:=condW_of h4 (w_not (w_lt w_lit (w_len_list (w_arg rfl))))
  rw[bY]at h5
  refine Nat.le_of_not_lt fun q=>?_
  have q':(n:Int)<((ns.length:Nat):Int):=by omega
  first
   | (rw[decide_eq_true q']at h5;exact absurd h5 (by decide))
   | (simp at h5;omega)
 cases hwl with
 | cons w1 w2 =>
  cases w2
  cases w1 with
  | list ho hall=>exact⟨_,_,ns,rfl,rfl,ho,xy ns _ hall,hlen⟩
theorem IU(l:OpenLaw)(args:List WData):l.row.toRowW.claim.post args (.bool true) args=true :=
 postW_of (r:=l.row.toRowW) (X:=(true == true))
  (show WShape.has [] (.bool true) .bool=true by first|rfl|decide|simp[WShape.has,WShape.arms,WShape.armsAll])
  (show (WTm.eq .res (.lit (.bool true))).value [] { args:=args,res:=some (.bool true),after:=args }=some (.bool (true == true)) from w_eq_bool (w_res rfl) w_lit) rfl
theorem DU{l:OpenLaw}{n:Nat}{q:Program}{loose:List Str}{XP:(Str→Option Value)→Heap→Prop}{YP:World→Heap→Prop}{d:DefRec}
  (hn:l.most=some n) (hdf:d.params.defaults=[])
  (call:∀ (w:World) (s₀ s₁:Shared) (mg mb:Str→Option Value) (fa:Addr) (o:Obj) (pm cd doc:Value) (a:Addr) (vs:List Value) (ns:List Int),
   Ground q loose [] XP w s₀ mg mb s₁.heap→YP w s₁.heap →
   s₁.heap.get? fa=some o→o.data=.func (docDef d.name d.params d.body d.scope pm cd doc)→s₁.heap.CodeRec cd d.name→mg d.name=some (.ref fa) →
   s₁.heap.get? a=some { cls:=.type "list",data:=.seq vs.toArray }→IntsAre vs ns→ns.length≤n→s₁.gens=#[] →
   codeAny (model l.prog w) callerA (.call (.ref fa) ⟨[.ref a],[]⟩) (fun r s'=>r=.ok (.ret (.bool true))∧OldK s₁.heap s'.heap∧s'.os=s₁.os∧AllBare s'.gens) s₁) :
  WalkO q loose XP YP l.row.toRowW d [] (fun f vs=>PySem.call f vs):=by
 intro w s₀ s₁ mg mb G Y fa o pm cd doc dV kV ho hd hcd hD hmg hg args vals as hpre hlay hrd hwl hlo
 obtain rfl:dV=.none:=Dflts.none hD hdf
 obtain rfl:kV=.none:=Dflts.noKw hD
 obtain⟨a,vs,ns,rfl,rfl,hobj,hints,hlen⟩:=IT hn hpre hwl
 refine enter_call (codeAny_mono (call w s₀ s₁ mg mb fa o pm cd doc a vs ns G Y ho (fd_plain hd) hcd hmg hobj hints hlen hg) fun r s' hq=>?_)
 obtain⟨rfl,h2,h3,h4⟩:=hq
 exact⟨.inl ⟨.bool true,.bool true,[],rfl,fun _=>rfl,.bool true,IU l _,fun _=>⟨List.Pairwise.nil,fun _ hm=>(nomatch hm)⟩⟩,h2,h3,h4⟩
end Att
namespace L2
open PySem PySem.Spec PyProof.Rows
theorem AU:∀ {vs:List Value} {ns:List Int},IntsAre vs ns→Vals (ns.map V.int) vs
 | _,_,.nil=>.nil
 | _,_,.cons n t h=>.cons ⟨t,rfl⟩ (AU h)
def Pk(H:Hp):Prop:=∀ b,H b=none∨∃ o xs,H b=some (.FU o (.lst xs))
theorem Kx{P:Program}{w:World}{K:PySem.W.Frag}{mg mb:Str→Option Value}{CX:Km}{k:Nat}{fa a:Addr}{fd:FuncData}{x:Str}{sp:Sp}{s₁:Shared}{vs:List Value}{ns:List Int}
  (KX:K.In s₁.heap) (hns:s₁.heap.Ns mainGlobals mg) (hb:s₁.heap.Ns builtinsNs mb) (hbb:∀ x:Str,x≠"__name__"→mb x=bootBuiltins x) (hlim:s₁.heap.NoLimit) (hg:s₁.gens=#[])
  (ha:s₁.heap.get? a=some { cls:=.type "list",data:=.seq vs.toArray }) (hi:IntsAre vs ns) (hl:ns.length≤sizeLine) (hr:kq k callerA)
  (F:∀ base:Heap,K.In base→base.Ns mainGlobals mg→aF P w K mg base CX k fa fd [x] sp) (hbind:∀ (s:Shared) (u:Value),BindsTo s fd ⟨[u],[]⟩ [(x,u)])
  (F5:∀ H:Hp,Pk H→bG K H a (ns.map V.int)→sp [.ref a] H (fun v _=>v=.bl true) fun _ _ _=>False)
  (Vw:∀ H e s',CX [] H s₁ (fun _ _ _=>False) e s'→False) :
  codeAny (model P w) callerA (.call (.ref fa) ⟨[.ref a],[]⟩) (fun r s'=>r=.ok (.ret (.bool true))∧OldK s₁.heap s'.heap∧s'.os=s₁.os∧AllBare s'.gens) s₁:=by
 have rv:=AU hi
 have Vx:=hi.length
 have core:∀ H:Hp,Pk H→bG K H a (ns.map V.int)→rC P w H s₁.heap→(∀ b,H b≠none→b=a)→(H a≠none→K.lookup a=none) →
   codeAny (model P w) callerA (.call (.ref fa) ⟨[.ref a],[]⟩) (fun r s'=>r=.ok (.ret (.bool true))∧OldK s₁.heap s'.heap∧s'.os=s₁.os∧AllBare s'.gens) s₁:=by
  intro H hO hS hok hA hK
  have Hs:∀ {b:Addr} {o:Obj},s₁.heap.get? b=some o→H b=none→(BV s₁.heap H).get? b=some o:=fun e n=>J8 e n
  have RG:∀ {b:Addr} {o:Obj} {es:Array DictEntry} {ep:Nat},s₁.heap.get? b=some o→o.data=.dict es ep→H b=none:=fun {b o es ep} e d=>by
   cases q:H b with
   | none=>rfl
   | some u =>
    have e':b=a:=hA b (by rw[q];simp)
    subst e'
    rw[ha]at e;cases e
    have d':Data.seq vs.toArray _=Data.dict es ep:=d
    cases d'
  have Ue:∀ {b:Addr} {m:Str→Option Value},s₁.heap.Ns b m→(BV s₁.heap H).Ns b m:=fun {b m} ⟨o,es,ep,e,d,r⟩=>⟨o,es,ep,Hs e (RG e d),d,r⟩
  have hKb:K.In (BV s₁.heap H):=fun b o e=>Hs (KX b o e) (by
   cases q:H b with
   | none=>rfl
   | some u =>
    have e':b=a:=hA b (by rw[q];simp)
    subst e'
    rw[hK (by rw[q];simp)]at e;cases e)
  have hM:Mod K mg (BV s₁.heap H):=⟨hKb,Ue hns,⟨mb,Ue hb,hbb⟩,let ⟨mc,h1,h2⟩:=hlim;⟨mc,Ue h1,h2⟩⟩
  have e0:F3 P w K mg (BV s₁.heap H) callerA [] s₁ H:=⟨rfl,hM,fun b o e=>Mv e,Nat.le_of_eq (IC _ _),trivial,fun b hb=>absurd (show b∈([]:List Addr) from hb) (by simp),hok,.of_eq hg⟩
  refine codeAny_mono ((F _ hKb (Ue hns)).run callerA [] s₁ H ⟨[.ref a],[]⟩ [.ref a] [.ref a] _ _ hr e0 (hbind s₁ (.ref a)) (.cons rfl .nil) (F5 H hO hS)) fun r s' h=>?_
  cases r with
  | error e=>exact (Vw H e s' h).elim
  | ok fl =>
   cases fl with
   | next=>exact False.elim h
   | brk=>exact False.elim h
   | cont=>exact False.elim h
   | ret u =>
    obtain⟨v,H',os,bare,un,Ky,r',q⟩:=h
    have q':v=.bl true:=q
    subst q'
    obtain rfl:u=Value.bool true:=r'
    refine⟨rfl,OldK.of_keep fun b o e=>?_,os,bare⟩
    cases q:H b with
    | none=>exact un.keep b o e q (by intro z;exact absurd (show b∈([]:List Addr) from z) (by simp)) (by simp)
    | some u =>
     rcases hO b with z|⟨ob,xs,z⟩
     ·rw[q]at z;cases z
     ·have z2:=un.An b ob _ z
      obtain⟨e1,_⟩:=hok b _ z
      obtain⟨e2,_⟩:=Ky b _ z2
      rw[e]at e1;cases e1
      exact e2
 cases hk:K.lookup a with
 | some o =>
  have e:=KX a o hk
  rw[ha]at e
  cases e
  refine core (fun _=>none) (fun _=>.inl rfl) (.inr ⟨_,vs.toArray,_,hk,rfl,rfl,rfl,by rw[qy,Vx];exact hl,by simpa using rv⟩) (fun b u z=>by have z':(none:Option HO)=some u:=z;cases z') (fun b z=>absurd rfl z) fun z=>absurd rfl z
 | none =>
  refine core (fun b=>if b=a then some (.FU { cls:=.type "list",data:=.seq vs.toArray } (.lst (ns.map V.int))) else none) (fun b=>?_) (.inl (.inr ⟨{ cls:=.type "list",data:=.seq vs.toArray },if_pos rfl⟩)) (fun b u z=>?_) (fun b z=>?_) fun _=>hk
  ·by_cases hb:b=a
   ·exact .inr ⟨_,_,if_pos hb⟩
   ·exact .inl (if_neg hb)
  ·by_cases hb:b=a
   ·have z':=(if_pos hb).symm.trans z
    cases z'
    subst hb
    exact⟨ha,by rw[bY];exact hl,vs,_,rv,ha⟩
   ·have z':=(if_neg hb).symm.trans z
    cases z'
  ·by_cases hb:b=a
   ·exact hb
   ·exact absurd (if_neg hb) z
end L2
namespace L2
open PySem PySem.Spec PyProof.Rows
theorem MM{l:PySem.W.OpenLaw}{n k:Nat}{q:Program}{loose:List Str}{XP:(Str→Option Value)→Heap→Prop}{YP:World→Heap→Prop}{d:DefRec}{K:Params→PySem.W.Frag}{CX:World→Km}{sp:World→Sp}{x:Str}
  (hn:l.most=some n) (hn2:n≤sizeLine) (hdf:d.params.defaults=[]) (hr:kq k callerA)
  (hY:∀ (w:World) (h:Heap),YP w h→(K w.params).In h)
  (F:∀ (w:World) (mg:Str→Option Value) (fa:Addr) (h:Heap),(K w.params).In h→h.Ns mainGlobals mg→mg d.name=some (.ref fa) →
   ∃ fd:FuncData,(∀ (s:Shared) (u:Value),BindsTo s fd ⟨[u],[]⟩ [(x,u)]) ∧
    ∀ base:Heap,(K w.params).In base→base.Ns mainGlobals mg→aF l.prog w (K w.params) mg base (CX w) k fa fd [x] (sp w))
  (F5:∀ (w:World) (H:Hp) (a:Addr) (ns:List Int),ns.length≤n→Pk H→bG (K w.params) H a (ns.map V.int)→sp w [.ref a] H (fun v _=>v=.bl true) fun _ _ _=>False)
  (Vw:∀ (w:World) (H:Hp) (s:Shared) (e:Value) (s':Shared),CX w [] H s (fun _ _ _=>False) e s'→False) :
  PySem.W.WalkO q loose XP YP l.row.toRowW d [] (fun f vs=>PySem.call f vs):=by
 refine Att.DU hn hdf fun w s₀ s₁ mg mb fa o pm cd doc a vs ns G Y ho hd hcd hmg hobj hints hlen hg=>?_
 have KX:=hY w _ Y
 obtain⟨fd,hb,hF⟩:=F w mg fa _ KX G.T.g hmg
 exact Kx KX G.T.g G.T.b G.T.builtins G.T.nolimit hg hobj hints (mL hlen hn2) hr hF hb (fun H hO hS=>F5 w H a ns hlen hO hS) fun H e s'=>Vw w H s₁ e s'
end L2
namespace L2
open PySem PySem.Spec PyProof.Rows
def oB(s:Stmt):Arguments:=match s with
 | .FunctionDef _ a _ _ _ _ _ _ _ _=>a
 | _=>{ posonlyargs:=[],args:=[],vararg:=none,kwonlyargs:=[],kw_defaults:=[],kwarg:=none,defaults:=[] }
def kB(s:Stmt):List Stmt:=match s with
 | .FunctionDef _ _ b _ _ _ _ _ _ _=>b
 | _=>[]
def ay(s:Stmt):Scope:=match s with
 | .FunctionDef _ _ _ _ _ _ sc _ _ _=>sc
 | _=>{ kind:=.function,names:=[],isGenerator:=false,isCoroutine:=false }
abbrev bN:Km:=fun _ _ _ _ _ _=>False
abbrev E0:XK:=fun _ _ _=>False
theorem cK{X:Cx}:Passes bN X E0:=fun _ _ _ _ _ _ _ h=>h.elim
structure gX(K:PySem.W.Frag)(x qual:Str)(st:Stmt)(f:Addr)(fd:FuncData):Prop where
 ex:∃ (oc:Value) (od:Option Addr) (kV doc pm:Value) (an:Option Addr) (cdv ct:Value) (osl:Array (Option Value)),
  fd=PySem.W.fnOf x qual (oB st) (kB st) (ay st) .none kV doc pm an cdv ct∧K.lookup f=some ⟨oc,od,.func fd,osl⟩∧PySem.W.codeIn K cdv qual=true
 kp:PySem.W.keepIn K (.ref f)=true
section
variable {P:Program} {w:World} {K:PySem.W.Frag} {mg:Str→Option Value} {base:Heap}
theorem gX.ok{x qual:Str}{st:Stmt}{f:Addr}{fd:FuncData}{N ps:List Str}{k:Nat}{sp:Sp}(F:gX K x qual st f fd)(S:aG N ps (ay st))(len:∀ vs H Q E,sp vs H Q E→vs.length=ps.length)
  (hbody:∀ (cdv:Value) (A:Around) (outer:List Env) (s:Shared) (H:Hp) (vs:List V) (Q:VK) (E:XK),kq k (A.deeper (envOfC qual (ay st) s.heap.objs.size f cdv))→sp vs H Q E →
   ∃ t,G5 (F4 bN P w K mg base N qual (ay st) f cdv A outer s H E).JV (kB st) t∧t { nx:=fun _ H'=>Q .jE H',rt:=Q } (start N vs) H):aF P w K mg base bN (k+1) f fd ps sp:=by
 obtain⟨oc,od,kV,doc,pm,an,cdv,ct,osl,rfl,lk,hcd⟩:=F.ex
 refine N9 lk hcd S len fun A outer s H vs Q E hr F5=>?_
 obtain⟨t,h,q⟩:=hbody cdv A outer s H vs Q E hr F5
 exact⟨t,h.JV,q⟩
theorem gX.binds{x qual:Str}{st:Stmt}{f:Addr}{fd:FuncData}{ps:List Str}(F:gX K x qual st f fd)
  (h:∀ (kV doc pm:Value) (an:Option Addr) (cdv ct:Value) (us:List Value),us.length=ps.length→bindArgs (PySem.W.fnOf x qual (oB st) (kB st) (ay st) .none kV doc pm an cdv ct) ⟨us,[]⟩=pure (ps.zip us)):Binds K fd ps []:=by
 obtain⟨oc,od,kV,doc,pm,an,cdv,ct,osl,rfl,lk,hcd⟩:=F.ex
 exact .all (h kV doc pm an cdv ct)
theorem Ga{x qual:Str}{st:Stmt}{f:Addr}{oc:Value}{od an:Option Addr}{osl:Array (Option Value)}{kV doc pm cdv ct:Value}(l:K.lookup f=some ⟨oc,od,.func (PySem.W.fnOf x qual (oB st) (kB st) (ay st) .none kV doc pm an cdv ct),osl⟩)
  (c:PySem.W.codeIn K cdv qual=true) (k:PySem.W.keepIn K (.ref f)=true):gX K x qual st f (PySem.W.fnOf x qual (oB st) (kB st) (ay st) .none kV doc pm an cdv ct):=⟨⟨oc,od,kV,doc,pm,an,cdv,ct,osl,rfl,l,c⟩,k⟩
end
theorem mH{A:Around}{k:Nat}(hr:kq k A):A.units+1<cLine:=Nat.lt_of_le_of_lt (Nat.add_le_add_left (by decide:1≤64) _) hr.units
section
variable {X:Cx}
theorem pv(i:Nat){x:Str}{pos:Pos}(hN:X.N[i]?=some x:=by rfl)(hv:T5 X.env.scope x:=by first|exact Or.inl rfl|exact Or.inr (Or.inl rfl)|exact Or.inr (Or.inr rfl))(hd:(x == ("__debug__":Str))=false:=by decide)
  (hcd:(x == ("__classdict__":Str))=false:=by decide):PE X (.Name x pos) (My i):=OT hN hv hd hcd
end
theorem i7{A B:Prop}(h:B):if false=true then A else B:=by
 rw[if_neg jX]
 exact h
theorem jI{A B:Prop}(h:A):if true=true then A else B:=by
 rw[if_pos rfl]
 exact h
theorem ff{c A B:Prop} [Decidable c] (h1:c→A) (h2:¬ c→B):if c then A else B:=by
 by_cases h:c
 ·rw[if_pos h]
  exact h1 h
 ·rw[if_neg h]
  exact h2 h
theorem Kz{c A B:Prop} [Decidable c] (hc:c) (h:B):if (!decide c)=true then A else B:=by
 rw[decide_eq_true hc]
 exact i7 h
def aH(H H':Hp):Prop:=∀ b o,H b=some o→H' b=some o
theorem aH.refl(H:Hp):aH H H:=fun _ _ h=>h
theorem aH.trans{H H1 H2:Hp}(a:aH H H1)(b:aH H1 H2):aH H H2:=fun c o h=>b c o (a c o h)
theorem aH.free{H H':Hp}(e:aH H H'){l:Addr}(h:H' l=Option.none):H l=Option.none:=by
 cases q:H l with
 | none=>rfl
 | some o =>
  rw[e l o q]at h
  cases h
end L2
namespace iR
open PySem L2
def top(i:Nat):Stmt:=PySem.Challenge.pw_inkroot_k34_put_and_read.main.body.getD i (.Pass ⟨0,0,0,0⟩)
def MN:Stmt→List Stmt
 | .ClassDef (body:=b) ..=>b
 | _=>[]
def jJ(i j:Nat):Stmt:=(MN (top i)).getD j (.Pass ⟨0,0,0,0⟩)
inductive DI(K:PySem.W.Frag)(x:Str)(st:Stmt)(f:Addr):Prop
 | mk {oc:Value} {od an:Option Addr} {osl:Array (Option Value)} {kV doc pm cdv ct:Value} (_:PySem.W.nsIn K mainGlobals x=some (some (.ref f))) (_:K.lookup f=some ⟨oc,od,.func (PySem.W.fnOf x x (oB st) (kB st) (ay st) .none kV doc pm an cdv ct),osl⟩) (_:PySem.W.codeIn K cdv x=true) (_:PySem.W.keepIn K (.ref f)=true):DI K x st f
inductive MI(K:PySem.W.Frag)(C:Addr)(x qual:Str)(st:Stmt)(f:Addr):Prop
 | mk {oc:Value} {od an:Option Addr} {osl:Array (Option Value)} {kV doc pm cdv ct:Value} (_:PySem.W.findIn K (.ref C) x=some (some (.ref f))) (_:PySem.W.isFn K (.ref f)=true) (_:K.lookup f=some ⟨oc,od,.func (PySem.W.fnOf x qual (oB st) (kB st) (ay st) .none kV doc pm an cdv ct),osl⟩) (_:PySem.W.codeIn K cdv qual=true) (_:PySem.W.keepIn K (.ref f)=true):MI K C x qual st f
inductive CI(K:PySem.W.Frag)(x:Str)(C:Addr):Prop
 | mk (_:PySem.W.nsIn K mainGlobals x=some (some (.ref C))) (_:PySem.W.plainGet K C Str.empty=true) (_:PySem.W.hasDictIn K C=true) (_:PySem.W.plainOver K C=true) (_:PySem.W.findIn K (.ref C) "__setattr__"=some (some (.builtin "object.__setattr__"))) (_:PySem.W.makesIn K C=true) (_:PySem.W.keepIn K (.ref C)=true):CI K x C
inductive XI(K:PySem.W.Frag)(x:Str)(C:Addr):Prop
 | mk (_:PySem.W.nsIn K mainGlobals x=some (some (.ref C))) (_:PySem.W.excIn K C [.type "ValueError",.type "Exception",.type "BaseException",.type "object"] "ValueError.__new__"=true) (_:PySem.W.exmOne K (.ref C) (.ref C)=some true):XI K x C
inductive DV(K:PySem.W.Frag)(vs:List V)(H:Hp)(Q:VK)(E:XK):Prop
 | mk (a:Addr) (ns:List Int) (_:vs=[.ref a]) (_:bG K H a (ns.map V.int)) (_:ns.length≤63) (_: ∀ H',Q (.bl true) H'):DV K vs H Q E
abbrev rF:Stmt:=top 64
abbrev iz:Stmt:=top 65
abbrev dU:Stmt:=top 66
abbrev iA:Stmt:=top 67
abbrev ny:Stmt:=top 11
abbrev ssize:Stmt:=top 12
abbrev iS:Stmt:=top 14
abbrev pX:Stmt:=top 15
abbrev nA:Stmt:=top 16
abbrev dF:Stmt:=top 21
abbrev rG:Stmt:=top 22
abbrev iL:Stmt:=jJ 26 0
abbrev kC:Stmt:=jJ 26 3
abbrev eK:Stmt:=top 30
abbrev kZ:Stmt:=top 31
abbrev iB:Stmt:=top 38
abbrev AV:Stmt:=top 39
abbrev iC:Stmt:=top 36
abbrev eL:Stmt:=top 37
abbrev gJ:Stmt:=top 32
abbrev dO:Stmt:=top 33
abbrev yH:Stmt:=top 34
abbrev lQ:Stmt:=top 41
abbrev iD:Stmt:=top 42
abbrev tH:Stmt:=top 43
abbrev tK:Stmt:=top 44
abbrev lg:Stmt:=top 45
abbrev nB:Stmt:=top 46
abbrev jc:Stmt:=top 48
abbrev j8:Stmt:=top 49
abbrev nC:Stmt:=top 51
abbrev iM:Stmt:=jJ 52 0
abbrev eN:Stmt:=jJ 52 3
abbrev jd:Stmt:=jJ 52 2
abbrev j9:Stmt:=jJ 52 1
abbrev eO:Stmt:=jJ 52 4
abbrev ck:Stmt:=jJ 52 5
abbrev cX:Stmt:=jJ 52 10
abbrev lR:Stmt:=jJ 52 9
abbrev je:Stmt:=jJ 54 0
abbrev jf:Stmt:=jJ 28 0
abbrev jg:Stmt:=jJ 56 0
abbrev iE:Stmt:=jJ 56 2
abbrev nE:Stmt:=jJ 56 1
abbrev cQ:Stmt:=jJ 56 5
abbrev nF:Stmt:=jJ 56 3
abbrev kg:Stmt:=jJ 56 6
abbrev kD:Stmt:=top 61
abbrev cB:Stmt:=jJ 62 1
abbrev iT:Stmt:=jJ 62 26
abbrev kE:Stmt:=jJ 62 25
abbrev fQ:Stmt:=jJ 62 2
abbrev jh:Stmt:=jJ 62 3
abbrev gQ:Stmt:=jJ 62 7
abbrev dh:Stmt:=jJ 62 30
abbrev jN:Stmt:=jJ 62 34
abbrev iU:Stmt:=jJ 62 6
abbrev jw:Stmt:=jJ 62 27
abbrev dI:Stmt:=jJ 62 4
abbrev mR:Stmt:=jJ 62 8
abbrev dG:Stmt:=jJ 62 23
abbrev jO:Stmt:=jJ 62 32
abbrev iW:Stmt:=jJ 62 0
abbrev jZ:Stmt:=top 70
abbrev j0:Stmt:=top 71
abbrev lS:Stmt:=top 72
abbrev j3:Stmt:=top 73
abbrev lu:Stmt:=top 76
abbrev lT:Stmt:=top 77
abbrev oE:Stmt:=top 78
abbrev lG:Stmt:=top 75
abbrev iX:Stmt:=top 79
abbrev oF:Stmt:=top 68
abbrev IV:Stmt:=top 80
end iR
namespace iR
open PySem L2
def Ob:Prop:=∀ {l:PySem.W.OpenLaw} {w:World} {K:PySem.W.Frag} {h:Heap} {mg:Str→Option Value} {fa:Addr} {f0 f1 f2 f3 f4 f5 f6 f7 f8 f9 f10 f11 f12 f13 f14 f15 f16 f17 f18 f19 f20 Vy f22 f23 f24 f25 f26 f27 f28 f29 f30 f31 f32 f33 f34 f35 f36 f37 f38 f39 f40 f41 f42 f43 f44 f45 f46 f47 f48 f49 f50 f51 f52 f53 f54 f55 f56 f57 f58 f59 f60 f61 f62 f63 f64 f65 f66 f67 f68 f69 f70 f71 f72 f73 bW dW gR sE wK aK C0 nG m8 m9 pG:Addr} {sF sG DW:Tok} (X:K.In h) (G:h.Ns mainGlobals mg) (hfa:mg "law"=some (.ref fa))
  (Ht:CI K "Shelf" bW)
  (sH:PySem.W.findIn K (.ref bW) "states"=some none)
  (qo:PySem.W.findIn K (.ref bW) "openings"=some none)
  (KA:CI K "Well" dW)
  (wL:PySem.W.findIn K (.ref dW) "signs"=some none)
  (uG:PySem.W.findIn K (.ref dW) "owners"=some none)
  (qK:PySem.W.findIn K (.ref dW) "pourings"=some none)
  (Hu:CI K "Blots" gR)
  (sI:PySem.W.findIn K (.ref gR) "stains"=some none)
  (KC:CI K "Ties" sE)
  (wM:PySem.W.findIn K (.ref sE) "given"=some none)
  (wN:PySem.W.findIn K (.ref sE) "pairs"=some none)
  (KD:CI K "Dues" wK)
  (yI:PySem.W.findIn K (.ref wK) "sums"=some none)
  (AW:CI K "Library" aK)
  (sJ:PySem.W.findIn K (.ref aK) "well"=some none)
  (qL:PySem.W.findIn K (.ref aK) "shelf"=some none)
  (qM:PySem.W.findIn K (.ref aK) "blots"=some none)
  (qN:PySem.W.findIn K (.ref aK) "knots"=some none)
  (sL:PySem.W.findIn K (.ref aK) "dues"=some none)
  (sM:PySem.W.findIn K (.ref aK) "book"=some none)
  (q0:DI K "_law_src" rF f0)
  (q1:DI K "_law_next" iz f1)
  (q2:DI K "_law_whole" dU f2)
  (q3:DI K "_law_same" iA f3)
  (q4:DI K "plain" ny f4)
  (q5:DI K "size" ssize f5)
  (q6:DI K "check_places" iS f6)
  (q7:DI K "pieces" pX f7)
  (q8:DI K "addresses" nA f8)
  (q9:DI K "first_reaching" dF f9)
  (uo:DI K "within" rG f10)
  (q11:MI K gR "__init__" "Blots.__init__" iL f11)
  (q12:MI K gR "hides" "Blots.hides" kC f12)
  (q13:DI K "windows" eK f13)
  (q14:DI K "below" kZ f14)
  (q15:DI K "way_between" iB f15)
  (q16:DI K "ring" AV f16)
  (q17:DI K "item_weight" iC f17)
  (q18:DI K "weights_below" eL f18)
  (q19:DI K "item_row" gJ f19)
  (q20:DI K "views_below" dO f20)
  (q21:DI K "shown" yH Vy)
  (q22:DI K "goes_on" lQ f22)
  (q23:DI K "plain_items" iD f23)
  (q24:DI K "inked" tH f24)
  (q25:DI K "dealt" tK f25)
  (q26:DI K "put_among" lg f26)
  (q27:DI K "put_items" nB f27)
  (q28:DI K "ink_words" jc f28)
  (q29:DI K "shown_deed" j8 f29)
  (q30:DI K "changed" nC f30)
  (q31:MI K bW "__init__" "Shelf.__init__" iM f31)
  (q32:MI K bW "now" "Shelf.now" eN f32)
  (q33:MI K bW "many" "Shelf.many" jd f33)
  (q34:MI K bW "step" "Shelf.step" j9 f34)
  (q35:MI K bW "check_sheet" "Shelf.check_sheet" eO f35)
  (q36:MI K bW "check_moment" "Shelf.check_moment" ck f36)
  (q37:MI K bW "rows_then" "Shelf.rows_then" cX f37)
  (q38:MI K bW "rows" "Shelf.rows" lR f38)
  (q39:MI K sE "__init__" "Ties.__init__" je f39)
  (q40:MI K wK "__init__" "Dues.__init__" jf f40)
  (q41:MI K dW "__init__" "Well.__init__" jg f41)
  (q42:MI K dW "size" "Well.size" iE f42)
  (q43:MI K dW "pour" "Well.pour" nE f43)
  (q44:MI K dW "check_address" "Well.check_address" cQ f44)
  (q45:MI K dW "sign" "Well.sign" nF f45)
  (q46:MI K dW "holds" "Well.holds" kg f46)
  (q47:DI K "check_weave" kD f47)
  (q48:MI K aK "__init__" "Library.__init__" iW f48)
  (q49:MI K aK "enter" "Library.enter" cB f49)
  (q50:MI K aK "change" "Library.change" fQ f50)
  (q51:MI K aK "many" "Library.many" iT f51)
  (q52:MI K aK "now" "Library.now" kE f52)
  (q53:MI K aK "begin" "Library.begin" jh f53)
  (q54:MI K aK "fresh" "Library.fresh" gQ f54)
  (q55:MI K aK "ink" "Library.ink" jw f55)
  (q56:MI K aK "check_held" "Library.check_held" dI f56)
  (q57:MI K aK "pour" "Library.pour" iU f57)
  (q58:MI K aK "put" "Library.put" mR f58)
  (q59:MI K aK "shown" "Library.shown" dh f59)
  (q60:MI K aK "veiled" "Library.veiled" dG f60)
  (q61:MI K aK "text" "Library.text" jO f61)
  (q62:MI K aK "size" "Library.size" jN f62)
  (q63:DI K "_law_sign" jZ f63)
  (q64:DI K "_law_text" j0 f64)
  (q65:DI K "_law_world" lS f65)
  (q66:DI K "_law_keep" j3 f66)
  (q67:DI K "_law_pour" lu f67)
  (q68:DI K "_law_fresh" lT f68)
  (q69:DI K "_law_begin" oE f69)
  (q70:DI K "_law_ink_row" lG f70)
  (q71:DI K "_law_texts_right" iX f71)
  (q72:DI K "_law_spell" oF f72)
  (q73:DI K "law" IV f73)
  (z0:PySem.W.nsIn K mainGlobals "len"=some none)
  (z1:PySem.W.nsIn K mainGlobals "list"=some none)
  (z2:PySem.W.nsIn K mainGlobals "tuple"=some none)
  (z3:PySem.W.nsIn K mainGlobals "int"=some none)
  (z4:PySem.W.nsIn K mainGlobals "bool"=some none)
  (z5:PySem.W.nsIn K mainGlobals "str"=some none)
  (z6:PySem.W.nsIn K mainGlobals "range"=some none)
  (z7:PySem.W.nsIn K mainGlobals "zip"=some none)
  (z8:PySem.W.nsIn K mainGlobals "isinstance"=some none)
  (z9:PySem.W.nsIn K mainGlobals "sum"=some none)
  (z10:PySem.W.nsIn K mainGlobals "min"=some none)
  (z11:PySem.W.nsIn K mainGlobals "max"=some none)
  (z12:PySem.W.nsIn K mainGlobals "all"=some none)
  (e0:XI K "OutOfPlace" C0)
  (DX:XI K "NoSheet" nG)
  (AX:XI K "NoMoment" m8)
  (AY:XI K "OutOfInk" m9)
  (DY:XI K "TooMany" pG)
  (sN:PySem.W.nsIn K mainGlobals "MOST_SHEETS"=some (some (.int 40 sF)))
  (sO:PySem.W.nsIn K mainGlobals "MOST_WEIGHT"=some (some (.int 200 sG)))
  (DZ:PySem.W.nsIn K mainGlobals "HIDDEN"=some (some (.str (Str.ofString "#") DW)))
  (uH:PySem.W.nsIn K mainGlobals "size_spans"=some (some (.ref f5)))
  (sP:PySem.W.nsIn K mainGlobals "shown_weave"=some (some (.ref Vy))),
  ∃ fd:FuncData,(∀ (s:Shared) (v:Value),BindsTo s fd ⟨[v],[]⟩ [("_law_script",v)])∧∀ base:Heap,K.In base→base.Ns mainGlobals mg→aF l.prog w K mg base bN 14 fa fd ["_law_script"] (DV K)
theorem walk{l:PySem.W.OpenLaw}{q:Program}{loose:List Str}{XP:(Str→Option Value)→Heap→Prop}{YP:World→Heap→Prop}{d:DefRec}{K:Params→PySem.W.Frag}(hn:l.most=some 63)(hdf:d.params.defaults=[])
  (hY:∀ (w:World) (h:Heap),YP w h→(K w.params).In h)
  (F:∀ (w:World) (mg:Str→Option Value) (fa:Addr) (h:Heap),(K w.params).In h→h.Ns mainGlobals mg→mg d.name=some (.ref fa) →
   ∃ fd:FuncData,(∀ (s:Shared) (u:Value),BindsTo s fd ⟨[u],[]⟩ [("_law_script",u)])∧∀ base:Heap,(K w.params).In base→base.Ns mainGlobals mg→aF l.prog w (K w.params) mg base bN 14 fa fd ["_law_script"] (DV (K w.params))) :
  PySem.W.WalkO q loose XP YP l.row.toRowW d [] (fun f vs=>PySem.call f vs) :=
 L2.MM (n:=63) (k:=14) (x:="_law_script") (CX:=fun _=>bN) (sp:=fun w=>DV (K w.params)) hn (by decide) hdf ⟨rfl,by decide,by decide⟩ hY F (fun _ _ a ns hl _ hS=>⟨a,ns,rfl,hS,hl,fun _=>rfl⟩) fun _ _ _ _ _ z=>z
end iR
namespace PySem.W.Fast
theorem tw3384619339139848696:True:=⟨⟩
theorem tw15718916770366142715:True:=⟨⟩
theorem tw16321120732754495902:True:=⟨⟩
theorem tw7220072119443471316:True:=⟨⟩
theorem tw11748741017438140695:True:=⟨⟩
theorem tw6260525270940490423:True:=⟨⟩
theorem tw2902377381576118894:True:=⟨⟩
theorem tw12311809820051379302:True:=⟨⟩
theorem tw1865199271236093084:True:=⟨⟩
theorem tw4652110089234987491:True:=⟨⟩
theorem tw4196231491655623364:True:=⟨⟩
theorem tw2218793403350984662:True:=⟨⟩
theorem tw18262726403916961420:True:=⟨⟩
theorem tw2942743494885268900:True:=⟨⟩
theorem tw8402979445096107666:True:=⟨⟩
theorem tw3179525427395156867:True:=⟨⟩
theorem tw6423562832122615532:True:=⟨⟩
theorem tw4061353363446088821:True:=⟨⟩
theorem tw17148468481201430656:True:=⟨⟩
theorem tw15906051746273854209:True:=⟨⟩
theorem tw4469731775982888184:True:=⟨⟩
theorem tw13408935513013048064:True:=⟨⟩
theorem tw16870480142393818887:True:=⟨⟩
theorem tw11711737093809306386:True:=⟨⟩
theorem tw17633905720922103708:True:=⟨⟩
theorem tw15040998012055369674:True:=⟨⟩
theorem tw4419171981108407717:True:=⟨⟩
theorem tw17239348105833918588:True:=⟨⟩
theorem tw17699604149981388260:True:=⟨⟩
theorem tw18410628991864647726:True:=⟨⟩
theorem tw9707717122557464293:True:=⟨⟩
theorem tw15521078747563229221:True:=⟨⟩
theorem tw14379845434230278269:True:=⟨⟩
theorem tw17073155764295740482:True:=⟨⟩
theorem tw14623576542819890073:True:=⟨⟩
theorem tw5412353550973250709:True:=⟨⟩
theorem tw6042902103380797103:True:=⟨⟩
theorem tw7292773102238494139:True:=⟨⟩
theorem tw9933223549941400706:True:=⟨⟩
theorem tw3420661607941968148:True:=⟨⟩
theorem tw15278723439362741836:True:=⟨⟩
theorem tw10362574089972212760:True:=⟨⟩
theorem tw12549533969467786977:True:=⟨⟩
theorem tw2721423637841626644:True:=⟨⟩
theorem tw6003923196452526471:True:=⟨⟩
theorem tw5495071316533946047:True:=⟨⟩
theorem tw16323771699771859623:True:=⟨⟩
theorem tw14321961432912645504:True:=⟨⟩
theorem tw17357396026269997598:True:=⟨⟩
theorem tw13269462509106978423:True:=⟨⟩
theorem tw12057211066401142452:True:=⟨⟩
theorem tw4673557384771615810:True:=⟨⟩
theorem tw12421465278398302626:True:=⟨⟩
theorem tw7500701717352535054:True:=⟨⟩
theorem tw18321939973651539405:True:=⟨⟩
theorem tw7932780593712541900:True:=⟨⟩
theorem tw7886886132754079069:True:=⟨⟩
theorem tw2715844512278633866:True:=⟨⟩
theorem tw13651742076122765511:True:=⟨⟩
theorem tw12327615208698844641:True:=⟨⟩
theorem tw7464025643761192790:True:=⟨⟩
theorem tw1827944180579017617:True:=⟨⟩
theorem tw14718129678296659215:True:=⟨⟩
theorem tw9116842564580716694:True:=⟨⟩
theorem tw2412885481610171754:True:=⟨⟩
theorem tw9410266328833211139:True:=⟨⟩
theorem tw560922693671170966:True:=⟨⟩
theorem tw2774550119286658014:True:=⟨⟩
theorem tw2912593640204857411:True:=⟨⟩
theorem tw14460701288470674075:True:=⟨⟩
theorem tw12986843087841180504:True:=⟨⟩
theorem tw7379653655705633470:True:=⟨⟩
theorem tw1033700843481036345:True:=⟨⟩
theorem tw17353680425423770257:True:=⟨⟩
theorem tw10774687261827450679:True:=⟨⟩
theorem tw17572306568997571914:True:=⟨⟩
theorem tw9657231166919815403:True:=⟨⟩
theorem tw16901007894004757156:True:=⟨⟩
theorem tw11676545317397831507:True:=⟨⟩
theorem tw10496624269626552886:True:=⟨⟩
theorem tw8402229757846273478:True:=⟨⟩
theorem tw13320451812038038648:True:=⟨⟩
theorem tw5806939344285330640:True:=⟨⟩
theorem tw4316589337463793378:True:=⟨⟩
theorem tw7267067043598607022:True:=⟨⟩
theorem tw15922424473814483786:True:=⟨⟩
theorem tw16517926188348663404:True:=⟨⟩
theorem tw245313088588290310:True:=⟨⟩
theorem tw14484392754863744372:True:=⟨⟩
theorem tw12662470268900235993:True:=⟨⟩
theorem tw13806412050890590225:True:=⟨⟩
theorem tw2239374111896939555:True:=⟨⟩
theorem tw135704857300927671:True:=⟨⟩
theorem tw12106677115887121135:True:=⟨⟩
theorem tw490492474331809863:True:=⟨⟩
theorem tw9641365344353488817:True:=⟨⟩
theorem tw13561059617064590852:True:=⟨⟩
theorem tw4547327934049515509:True:=⟨⟩
theorem tw13080448414649366054:True:=⟨⟩
theorem tw9126883482599109224:True:=⟨⟩
theorem tw14496306707699380585:True:=⟨⟩
theorem tw11641570489476060223:True:=⟨⟩
theorem tw6043780962534397631:True:=⟨⟩
theorem tw9615225234957993858:True:=⟨⟩
theorem tw8918400005310572480:True:=⟨⟩
theorem tw14802787236765588253:True:=⟨⟩
theorem tw17742938057441165119:True:=⟨⟩
theorem tw512966202748682725:True:=⟨⟩
theorem tw8245122126432822935:True:=⟨⟩
theorem tw14955777851740049333:True:=⟨⟩
theorem tw8411769858631232975:True:=⟨⟩
theorem tw3685901321496961444:True:=⟨⟩
theorem tw14144298031390736295:True:=⟨⟩
theorem tw18296406450241929473:True:=⟨⟩
theorem tw5890507259340799682:True:=⟨⟩
theorem tw6202385236360304236:True:=⟨⟩
theorem tw8259499213078283252:True:=⟨⟩
theorem tw1324958667718840745:True:=⟨⟩
theorem tw5938441791275622021:True:=⟨⟩
theorem tw7539106666380688256:True:=⟨⟩
theorem tw6328493220768445561:True:=⟨⟩
theorem tw34910414824395003:True:=⟨⟩
theorem tw12571682513714129149:True:=⟨⟩
theorem tw3754708505003339472:True:=⟨⟩
theorem tw5175285295719800622:True:=⟨⟩
theorem tw10182690199012566549:True:=⟨⟩
theorem tw3883568745354163875:True:=⟨⟩
theorem tw9047344087110062883:True:=⟨⟩
theorem tw501129943928301003:True:=⟨⟩
theorem tw2650178511458608896:True:=⟨⟩
theorem tw15898757471066413191:True:=⟨⟩
theorem tw11001229035012787594:True:=⟨⟩
theorem tw14247645217505266658:True:=⟨⟩
theorem tw16279804073408316023:True:=⟨⟩
theorem tw11331685755776183733:True:=⟨⟩
theorem tw8976173837116849294:True:=⟨⟩
theorem tw9185540677945329551:True:=⟨⟩
theorem tw14228011600915443150:True:=⟨⟩
theorem tw8279905998875853215:True:=⟨⟩
theorem tw14948007576336282731:True:=⟨⟩
theorem tw8635993247064394312:True:=⟨⟩
theorem tw1949329678139334583:True:=⟨⟩
theorem tw13752451128232258904:True:=⟨⟩
theorem tw7821885869945787481:True:=⟨⟩
theorem tw3349197967776057635:True:=⟨⟩
theorem tw10551207802288887471:True:=⟨⟩
theorem tw1788101992248597156:True:=⟨⟩
theorem tw11995967278902902980:True:=⟨⟩
theorem tw379304747164140529:True:=⟨⟩
theorem tw13079464450708201338:True:=⟨⟩
theorem tw8627743264406730244:True:=⟨⟩
theorem tw13662472830000593521:True:=⟨⟩
theorem tw4898595542007910586:True:=⟨⟩
theorem tw12329183375518608463:True:=⟨⟩
theorem tw1219975603417345451:True:=⟨⟩
theorem tw12391136162124563694:True:=⟨⟩
theorem tw4016861962261623328:True:=⟨⟩
theorem tw9931194442908489812:True:=⟨⟩
theorem tw14261466580798432642:True:=⟨⟩
theorem tw2352914253721773190:True:=⟨⟩
theorem tw11731480227198061011:True:=⟨⟩
theorem tw9516577069519126532:True:=⟨⟩
theorem tw17710735985822922826:True:=⟨⟩
theorem tw3358579470268319160:True:=⟨⟩
theorem tw3893403619796937518:True:=⟨⟩
theorem tw13417642537260287237:True:=⟨⟩
theorem tw6145650001051671088:True:=⟨⟩
theorem tw6615685945919623298:True:=⟨⟩
theorem tw2705938858533999527:True:=⟨⟩
theorem tw12877084302688006917:True:=⟨⟩
theorem tw7925867011912113068:True:=⟨⟩
theorem tw11927766063293916645:True:=⟨⟩
theorem tw2613028356232607660:True:=⟨⟩
theorem tw12650243234630285206:True:=⟨⟩
theorem tw12771622295753360384:True:=⟨⟩
theorem tw14782463076048798803:True:=⟨⟩
theorem tw4471877011863301172:True:=⟨⟩
theorem tw5605550688832015378:True:=⟨⟩
theorem tw13601047727053137015:True:=⟨⟩
theorem tw14048954269917819574:True:=⟨⟩
theorem tw8930745579467661328:True:=⟨⟩
theorem tw2123456359594346069:True:=⟨⟩
theorem tw7030083249876737378:True:=⟨⟩
theorem tw14094494018974666624:True:=⟨⟩
theorem tw1122089000960643789:True:=⟨⟩
theorem tw3158846316770657006:True:=⟨⟩
theorem tw11708466677661977755:True:=⟨⟩
theorem tw2781970823304154266:True:=⟨⟩
theorem tw9324916517610947794:True:=⟨⟩
theorem tw4037320889735864282:True:=⟨⟩
theorem tw8280087361982458252:True:=⟨⟩
theorem tw13871603351264382349:True:=⟨⟩
theorem tw12679264488696003568:True:=⟨⟩
theorem tw13609770569831376588:True:=⟨⟩
theorem tw18168532412377370463:True:=⟨⟩
theorem tw16657039440897549816:True:=⟨⟩
theorem tw14603972173059415235:True:=⟨⟩
theorem tw9659896905335588483:True:=⟨⟩
theorem tw9318554182726790632:True:=⟨⟩
theorem tw14717201763774731731:True:=⟨⟩
theorem tw15161780638013296809:True:=⟨⟩
theorem tw753155122009575294:True:=⟨⟩
theorem tw15991883539308764684:True:=⟨⟩
theorem tw9959426100383684043:True:=⟨⟩
theorem tw12604627163817176439:True:=⟨⟩
theorem tw4550626045655088705:True:=⟨⟩
theorem tw3086039235887512667:True:=⟨⟩
theorem tw1651374352985739088:True:=⟨⟩
theorem tw16845769138568725260:True:=⟨⟩
theorem tw4733879608013985871:True:=⟨⟩
theorem tw18342161284119989388:True:=⟨⟩
theorem tw14466369009197133817:True:=⟨⟩
theorem tw5697722072058502456:True:=⟨⟩
theorem tw1953151814622543453:True:=⟨⟩
theorem tw1466176039130854554:True:=⟨⟩
theorem tw15723304027703336648:True:=⟨⟩
theorem tw2090200939055999106:True:=⟨⟩
theorem tw6250863664253925946:True:=⟨⟩
theorem tw8793986424424492115:True:=⟨⟩
theorem tw17056883264501772985:True:=⟨⟩
theorem tw9132685870930651777:True:=⟨⟩
theorem tw2642015052851385302:True:=⟨⟩
theorem tw151820105413091073:True:=⟨⟩
theorem tw12806679165740546113:True:=⟨⟩
theorem tw7629586795578742095:True:=⟨⟩
theorem tw2340475388319292897:True:=⟨⟩
theorem tw14829992719958682015:True:=⟨⟩
theorem tw14312797812646847858:True:=⟨⟩
theorem tw6347305863404633680:True:=⟨⟩
theorem tw4798475412097671782:True:=⟨⟩
theorem tw5119348857821150509:True:=⟨⟩
theorem tw11916653259820051224:True:=⟨⟩
theorem tw13636890944336058321:True:=⟨⟩
theorem tw16664802332342864033:True:=⟨⟩
theorem tw9635045671099244160:True:=⟨⟩
theorem tw7027525063628999274:True:=⟨⟩
theorem tw17317463244189426028:True:=⟨⟩
theorem tw15266334056745325605:True:=⟨⟩
theorem tw16268660409522232355:True:=⟨⟩
theorem tw6048064611035379913:True:=⟨⟩
theorem tw13428539695338084729:True:=⟨⟩
theorem tw2464590616225120370:True:=⟨⟩
theorem tw9882303156547879323:True:=⟨⟩
theorem tw4807911242701638797:True:=⟨⟩
theorem tw5430823902423214080:True:=⟨⟩
theorem tw3554540700011271293:True:=⟨⟩
theorem tw16770115253871085668:True:=⟨⟩
theorem tw10484633134320383153:True:=⟨⟩
theorem tw13143623699426137006:True:=⟨⟩
theorem tw3590808079880493972:True:=⟨⟩
theorem tw13717537861481272059:True:=⟨⟩
theorem tw16491894703654868065:True:=⟨⟩
theorem tw9308314928303510530:True:=⟨⟩
theorem tw9670896952212480805:True:=⟨⟩
theorem tw15486320969287013746:True:=⟨⟩
theorem tw1260826294761090212:True:=⟨⟩
theorem tw18181942225096604912:True:=⟨⟩
theorem tw15316876841779304624:True:=⟨⟩
theorem tw8612656502498282071:True:=⟨⟩
theorem tw2793598585284531107:True:=⟨⟩
theorem tw5562883194962671658:True:=⟨⟩
theorem tw16933727697440650252:True:=⟨⟩
theorem tw9977830964678173472:True:=⟨⟩
theorem tw7398475763340900511:True:=⟨⟩
theorem tw8840159465517019603:True:=⟨⟩
theorem tw5432841838721347305:True:=⟨⟩
theorem tw12652933510200051229:True:=⟨⟩
theorem tw4235093788934811547:True:=⟨⟩
theorem tw4592011150650639931:True:=⟨⟩
theorem tw15316267949668685982:True:=⟨⟩
theorem tw11784274449101673621:True:=⟨⟩
theorem tw2746755174810490542:True:=⟨⟩
theorem tw5736432422018514848:True:=⟨⟩
theorem tw6961361113905264427:True:=⟨⟩
theorem tw4025512947130699669:True:=⟨⟩
theorem tw6347353259340141123:True:=⟨⟩
theorem tw11212373376408409804:True:=⟨⟩
theorem tw12535192998930624623:True:=⟨⟩
theorem tw6141239462742026699:True:=⟨⟩
theorem tw13535466999688927826:True:=⟨⟩
theorem tw5736241878226020047:True:=⟨⟩
theorem tw8926526088863366251:True:=⟨⟩
theorem tw5384123272813270507:True:=⟨⟩
theorem tw10922389223838864783:True:=⟨⟩
theorem tw11285785338164889520:True:=⟨⟩
theorem tw4976282929472472880:True:=⟨⟩
theorem tw7602533188052902545:True:=⟨⟩
theorem tw6463529753612588230:True:=⟨⟩
theorem tw5409171206693302048:True:=⟨⟩
theorem tw6275379366088552347:True:=⟨⟩
theorem tw17851475813743744489:True:=⟨⟩
theorem tw15573374892519727138:True:=⟨⟩
theorem tw1616555466802435062:True:=⟨⟩
theorem tw1181415145681903017:True:=⟨⟩
theorem tw12150890710163725416:True:=⟨⟩
theorem tw7573820682521791959:True:=⟨⟩
theorem tw11038395246318288444:True:=⟨⟩
theorem tw5251518263075072521:True:=⟨⟩
theorem tw17289584055706491033:True:=⟨⟩
theorem tw18140533765016907690:True:=⟨⟩
theorem tw4008162397296751172:True:=⟨⟩
theorem tw16197977435379048913:True:=⟨⟩
theorem tw5151139856246847813:True:=⟨⟩
theorem tw6083336851139154503:True:=⟨⟩
theorem tw15455832638317517176:True:=⟨⟩
theorem tw12464103364609085186:True:=⟨⟩
theorem tw16538423805258164681:True:=⟨⟩
theorem tw4972032756983124597:True:=⟨⟩
theorem tw16455357328617981502:True:=⟨⟩
theorem tw2283644045811933389:True:=⟨⟩
theorem tw12615707395650538659:True:=⟨⟩
theorem tw12757628165097107060:True:=⟨⟩
theorem tw370480562157051053:True:=⟨⟩
theorem tw18371107669603964523:True:=⟨⟩
theorem tw8299998273155076266:True:=⟨⟩
theorem tw13435728150146017808:True:=⟨⟩
theorem tw3758847459007013437:True:=⟨⟩
theorem tw6924817183447873204:True:=⟨⟩
theorem tw7316260775156582725:True:=⟨⟩
theorem tw18349061706802459025:True:=⟨⟩
theorem tw15598575230005144444:True:=⟨⟩
theorem tw17519456918891324018:True:=⟨⟩
theorem tw16358182317248829983:True:=⟨⟩
theorem tw15944718019664673848:True:=⟨⟩
theorem tw16243007364252576480:True:=⟨⟩
theorem tw2249143331109258483:True:=⟨⟩
theorem tw8926161339021326064:True:=⟨⟩
theorem tw11744950237135253089:True:=⟨⟩
theorem tw11605181886791688756:True:=⟨⟩
theorem tw12567289626682211012:True:=⟨⟩
theorem tw6242851145671655786:True:=⟨⟩
theorem tw14907183006666482277:True:=⟨⟩
theorem tw13098300429783023107:True:=⟨⟩
theorem tw3434196405098194505:True:=⟨⟩
theorem tw7830264772382847154:True:=⟨⟩
theorem tw11625668386364978429:True:=⟨⟩
theorem tw6419114303273910318:True:=⟨⟩
theorem tw13881291426080912127:True:=⟨⟩
theorem tw4114985866921392359:True:=⟨⟩
theorem tw14709012326562317895:True:=⟨⟩
theorem tw614417088973977209:True:=⟨⟩
theorem tw14354755268002476690:True:=⟨⟩
theorem tw7750520935655290972:True:=⟨⟩
theorem tw13991645134384973386:True:=⟨⟩
theorem tw14068830239144406720:True:=⟨⟩
theorem tw2479981831676826499:True:=⟨⟩
theorem tw13512078066035561502:True:=⟨⟩
theorem tw9931193908630030796:True:=⟨⟩
theorem tw13688027172127481018:True:=⟨⟩
theorem tw6810471412516836349:True:=⟨⟩
theorem tw8735331958513473454:True:=⟨⟩
theorem tw12639855085305178321:True:=⟨⟩
theorem tw4965903748602683281:True:=⟨⟩
theorem tw17366816094149093373:True:=⟨⟩
theorem tw655332627917456011:True:=⟨⟩
theorem tw8231024883373662519:True:=⟨⟩
theorem tw11057053782565870955:True:=⟨⟩
theorem tw6650490722861516968:True:=⟨⟩
theorem tw1148252304503647125:True:=⟨⟩
theorem tw16011551542478188713:True:=⟨⟩
theorem tw1654010803952974188:True:=⟨⟩
theorem tw10878629583643170314:True:=⟨⟩
theorem tw6137577631692289879:True:=⟨⟩
theorem tw10532628560648889575:True:=⟨⟩
theorem tw769005996608520120:True:=⟨⟩
theorem tw9330311835303899454:True:=⟨⟩
theorem tw5531498699764309127:True:=⟨⟩
theorem tw11879152986142767793:True:=⟨⟩
theorem tw10537359623885849975:True:=⟨⟩
theorem tw2427677891262127690:True:=⟨⟩
theorem tw11431353656693719013:True:=⟨⟩
theorem tw8436085492746204419:True:=⟨⟩
theorem tw1119923027828423650:True:=⟨⟩
theorem tw9224476417664852898:True:=⟨⟩
theorem tw10209404884472100423:True:=⟨⟩
theorem tw16582278974491598252:True:=⟨⟩
theorem tw11551916404097036515:True:=⟨⟩
theorem tw5761912260996001442:True:=⟨⟩
theorem tw14853793763172788332:True:=⟨⟩
theorem tw14808828031645603694:True:=⟨⟩
theorem tw5654469215051944116:True:=⟨⟩
theorem tw7913756647810238178:True:=⟨⟩
theorem tw6328935665002343634:True:=⟨⟩
theorem tw16966574046500758145:True:=⟨⟩
theorem tw1503700196901874659:True:=⟨⟩
theorem tw2649396703685545024:True:=⟨⟩
theorem tw18386112751031331974:True:=⟨⟩
theorem tw8382674206891571078:True:=⟨⟩
theorem tw3843761602915789461:True:=⟨⟩
theorem tw5486036093101049394:True:=⟨⟩
theorem tw13510679549145729011:True:=⟨⟩
theorem tw3053642927767400482:True:=⟨⟩
theorem tw1371915471394470174:True:=⟨⟩
theorem tw9211307981554948304:True:=⟨⟩
theorem tw7982225771581385583:True:=⟨⟩
theorem tw15641955555617125214:True:=⟨⟩
theorem tw9172011100112179966:True:=⟨⟩
theorem tw6021093502524986682:True:=⟨⟩
theorem tw12643868773556537445:True:=⟨⟩
theorem tw11551291255062840405:True:=⟨⟩
theorem tw2965357122676629206:True:=⟨⟩
theorem tw1127905672946774920:True:=⟨⟩
theorem tw5548998493745687270:True:=⟨⟩
theorem tw17541742413266984590:True:=⟨⟩
theorem tw5396525737351145611:True:=⟨⟩
theorem tw8922131075653606661:True:=⟨⟩
theorem tw11251458502806059330:True:=⟨⟩
theorem tw3416443179271828736:True:=⟨⟩
theorem tw3130247281057940374:True:=⟨⟩
theorem tw2231180779253733307:True:=⟨⟩
theorem tw3131317823061210778:True:=⟨⟩
theorem tw12807051562537116313:True:=⟨⟩
theorem tw5782556262585203151:True:=⟨⟩
theorem tw7521815650072183667:True:=⟨⟩
theorem tw7153891879680639499:True:=⟨⟩
theorem tw6093390367191886572:True:=⟨⟩
theorem tw16950359879058794445:True:=⟨⟩
theorem tw11399958610145225557:True:=⟨⟩
theorem tw12113467461169713413:True:=⟨⟩
theorem tw9895748588939769391:True:=⟨⟩
theorem tw14932957498279259139:True:=⟨⟩
theorem tw12244409597292769831:True:=⟨⟩
theorem tw5113941753008483652:True:=⟨⟩
theorem tw15169676795836057356:True:=⟨⟩
theorem tw17188208921672490038:True:=⟨⟩
theorem tw7180664540658868472:True:=⟨⟩
theorem tw8057475363499167205:True:=⟨⟩
theorem tw2506298783127139360:True:=⟨⟩
theorem tw2466602375253874931:True:=⟨⟩
theorem tw1194708208634810274:True:=⟨⟩
theorem tw12647619307562640160:True:=⟨⟩
theorem tw7766298276461591601:True:=⟨⟩
theorem tw11601320175060386212:True:=⟨⟩
theorem tw14701214570908883546:True:=⟨⟩
theorem tw16042434733543944650:True:=⟨⟩
theorem tw9310433837408692876:True:=⟨⟩
theorem tw6816119331536307609:True:=⟨⟩
theorem tw13851259896568587029:True:=⟨⟩
theorem tw13199120352961260911:True:=⟨⟩
theorem tw15966820569416277625:True:=⟨⟩
theorem tw11972515661492819011:True:=⟨⟩
theorem tw7419440309537931544:True:=⟨⟩
end PySem.W.Fast
namespace InkHd
open PySem PySem.W PyProof.Rows
set_option maxRecDepth 100000 in
set_option maxHeartbeats 0 in
open_top hd_k34 for PySem.Challenge.rw_inkroot_k34_put_and_read
set_option maxRecDepth 100000 in
set_option maxHeartbeats 0 in
theorem hd2(A:iR.Ob):PySem.Challenge.rw_inkroot_k34_put_and_read.Holds:=by
 refine hd_k34 ?_
 k_fill
 refine iR.walk (l:=PySem.Challenge.rw_inkroot_k34_put_and_read) rfl rfl (fun w h Y=>PySem.W.kIn_of Y) ?F
 case F =>
  intro w mg fa h KX G hmg
  refine' A KX G hmg (.mk ?g1 ?g2 ?g3 ?g4 ?g5 ?g6 ?g7) ?g8 ?g9 (.mk ?g10 ?g11 ?g12 ?g13 ?g14 ?g15 ?g16) ?g17 ?g18 ?g19 (.mk ?g20 ?g21 ?g22 ?g23 ?g24 ?g25 ?g26) ?g27 (.mk ?g28 ?g29 ?g30 ?g31 ?g32 ?g33 ?g34) ?g35 ?g36 (.mk ?g37 ?g38 ?g39 ?g40 ?g41 ?g42 ?g43) ?g44 (.mk ?g45 ?g46 ?g47 ?g48 ?g49 ?g50 ?g51) ?g52 ?g53 ?g54 ?g55 ?g56 ?g57 (.mk ?g58 ?g59 ?g60 ?g61) (.mk ?g62 ?g63 ?g64 ?g65) (.mk ?g66 ?g67 ?g68 ?g69) (.mk ?g70 ?g71 ?g72 ?g73) (.mk ?g74 ?g75 ?g76 ?g77) (.mk ?g78 ?g79 ?g80 ?g81) (.mk ?g82 ?g83 ?g84 ?g85) (.mk ?g86 ?g87 ?g88 ?g89) (.mk ?g90 ?g91 ?g92 ?g93) (.mk ?g94 ?g95 ?g96 ?g97) (.mk ?g98 ?g99 ?Vz ?VA) (.mk ?VB ?VC ?VD ?VE ?VF) (.mk ?VG ?VH ?VI ?VJ ?VL) (.mk ?VM ?VN ?VO ?VP) (.mk ?VQ ?VR ?VS ?VT) (.mk ?VU ?VW ?VX ?VY) (.mk ?VZ ?V0 ?Wa ?Wb) (.mk ?Wc ?Wd ?Wf ?Wg) (.mk ?Wh ?Wi ?Wj ?Wk) (.mk ?Wl ?Wm ?Wn ?Wq) (.mk ?Wr ?Ws ?Wt ?Wu) (.mk ?Wv ?Ww ?Wx ?Wy) (.mk ?Wz ?WA ?WB ?WC) (.mk ?WD ?WE ?WG ?WH) (.mk ?WI ?WJ ?WK ?WL) (.mk ?WM ?WN ?WO ?WQ) (.mk ?WR ?WS ?WT ?WU) (.mk ?WV ?WW ?WX ?WY) (.mk ?WZ ?W0 ?Xa ?Xb) (.mk ?Xc ?Xd ?Xe ?Xf) (.mk ?Xg ?Xh ?Xi ?Xj) (.mk ?Xk ?Xl ?Xm ?Xn ?Xo) (.mk ?Xp ?Xq ?Xr ?Xs ?Xu) (.mk ?Xv ?Xw ?Xx ?Xy ?Xz) (.mk ?XA ?XC ?XD ?XE ?XF) (.mk ?XG ?XH ?XJ ?XQ ?XR) (.mk ?XU ?XW ?XX ?XY ?XZ) (.mk ?X0 ?X3 ?X4 ?X5 ?X6) (.mk ?X7 ?X8 ?X9 ?Yb ?Yc) (.mk ?Yd ?Ye ?Yg ?Yh ?Yi) (.mk ?Yj ?Yk ?Yl ?Ym ?Yn) (.mk ?Yo ?Yp ?Yq ?Yr ?Ys) (.mk ?Yt ?Yu ?Yv ?Yw ?Yx) (.mk ?Yy ?Yz ?YA ?YB ?YC) (.mk ?YD ?YE ?YF ?YG ?YH) (.mk ?YI ?YJ ?YK ?YL ?YM) (.mk ?YN ?YO ?YQ ?YR ?YS) (.mk ?YT ?YU ?YV ?YW) (.mk ?YX ?YY ?YZ ?Y0 ?Y3) (.mk ?Y4 ?Y5 ?Y6 ?Y7 ?Y8) (.mk ?Y9 ?Za ?Zb ?Zc ?Zd) (.mk ?Ze ?Zf ?Zg ?Zh ?Zi) (.mk ?Zj ?Zk ?Zl ?Zm ?Zn) (.mk ?Zo ?Zp ?Zq ?Zr ?Zs) (.mk ?Zt ?Zu ?Zv ?Zw ?Zx) (.mk ?Zy ?Zz ?ZA ?ZC ?ZD) (.mk ?ZE ?ZF ?ZG ?ZH ?ZI) (.mk ?ZJ ?ZK ?ZL ?ZM ?ZN) (.mk ?ZO ?ZP ?ZQ ?ZR ?ZS) (.mk ?ZT ?ZU ?ZV ?ZW ?ZX) (.mk ?ZY ?ZZ ?Z0 ?Z1 ?Z2) (.mk ?Z3 ?Z4 ?Z5 ?Z6 ?Z7) (.mk ?Z8 ?Z9 ?aaa ?aab ?aac) (.mk ?aad ?aae ?aaf ?aag) (.mk ?aah ?aai ?aaj ?aak) (.mk ?aal ?aam ?aan ?aao) (.mk ?aap ?aaq ?aar ?aas) (.mk ?aat ?aau ?aav ?aaw) (.mk ?aax ?aay ?aaz ?aaA) (.mk ?aaB ?aaC ?aaD ?aaE) (.mk ?aaF ?aaG ?aaH ?aaI) (.mk ?aaJ ?aaK ?aaL ?aaM) (.mk ?aaN ?aaO ?aaP ?aaQ) (.mk ?aaR ?aaS ?aaT ?aaU) ?aaV ?aaW ?aaX ?aaY ?aaZ ?aa0 ?aa1 ?aa2 ?aa3 ?aa4 ?aa5 ?aa6 ?aa7 (.mk ?aa8 ?aa9 ?aba) (.mk ?abb ?abc ?abd) (.mk ?abe ?abf ?abg) (.mk ?abh ?abi ?abj) (.mk ?abk ?abl ?abm) ?abn ?abo ?abp ?abq ?abr
  case g1|g2|g3|g4|g5|g6|g7|g8|g9|g10|g11|g12|g13|g14|g15|g16|g17|g18|g19|g20|g21|g22|g23|g24|g25|g26|g27|g28|g29|g30|g31|g32|g33|g34|g35|g36|g37|g38|g39|g40|g41|g42|g43|g44|g45|g46|g47|g48|g49|g50|g51|g52|g53|g54|g55|g56|g57|g58|g59|g60|g61|g62|g63|g64|g65|g66|g67|g68|g69|g70|g71|g72|g73|g74|g75|g76|g77|g78|g79|g80|g81|g82|g83|g84|g85|g86|g87|g88|g89|g90|g91|g92|g93|g94|g95|g96|g97|g98|g99|Vz|VA|VB|VC|VD|VE|VF|VG|VH|VI|VJ|VL|VM|VN|VO|VP|VQ|VR|VS|VT|VU|VW|VX|VY|VZ|V0|Wa|Wb|Wc|Wd|Wf|Wg|Wh|Wi|Wj|Wk|Wl|Wm|Wn|Wq|Wr|Ws|Wt|Wu|Wv|Ww|Wx|Wy|Wz|WA|WB|WC|WD|WE|WG|WH|WI|WJ|WK|WL|WM|WN|WO|WQ|WR|WS|WT|WU|WV|WW|WX|WY|WZ|W0|Xa|Xb|Xc|Xd|Xe|Xf|Xg|Xh|Xi|Xj|Xk|Xl|Xm|Xn|Xo|Xp|Xq|Xr|Xs|Xu|Xv|Xw|Xx|Xy|Xz|XA|XC|XD|XE|XF|XG|XH|XJ|XQ|XR|XU|XW|XX|XY|XZ|X0|X3|X4|X5|X6|X7|X8|X9|Yb|Yc|Yd|Ye|Yg|Yh|Yi|Yj|Yk|Yl|Ym|Yn|Yo|Yp|Yq|Yr|Ys|Yt|Yu|Yv|Yw|Yx|Yy|Yz|YA|YB|YC|YD|YE|YF|YG|YH|YI|YJ|YK|YL|YM|YN|YO|YQ|YR|YS|YT|YU|YV|YW|YX|YY|YZ|Y0|Y3|Y4|Y5|Y6|Y7|Y8|Y9|Za|Zb|Zc|Zd|Ze|Zf|Zg|Zh|Zi|Zj|Zk|Zl|Zm|Zn|Zo|Zp|Zq|Zr|Zs|Zt|Zu|Zv|Zw|Zx|Zy|Zz|ZA|ZC|ZD|ZE|ZF|ZG|ZH|ZI|ZJ|ZK|ZL|ZM|ZN|ZO|ZP|ZQ|ZR|ZS|ZT|ZU|ZV|ZW|ZX|ZY|ZZ|Z0|Z1|Z2|Z3|Z4|Z5|Z6|Z7|Z8|Z9|aaa|aab|aac|aad|aae|aaf|aag|aah|aai|aaj|aak|aal|aam|aan|aao|aap|aaq|aar|aas|aat|aau|aav|aaw|aax|aay|aaz|aaA|aaB|aaC|aaD|aaE|aaF|aaG|aaH|aaI|aaJ|aaK|aaL|aaM|aaN|aaO|aaP|aaQ|aaR|aaS|aaT|aaU|aaV|aaW|aaX|aaY|aaZ|aa0|aa1|aa2|aa3|aa4|aa5|aa6|aa7|aa8|abb|abe|abh|abk|abn|abo|abp|abq|abr=>k_is
  case aa9|abc|abf|abi|abl=>k_exc
  case aba|abd|abg|abj|abm=>kts_exm
end InkHd
namespace cR
open PySem PySem.Spec PyProof.Rows L2
section
variable {X:Cx}
theorem cS:mF X (.builtin "isinstance") (fun xs H Q=>∃ x T t b,xs=[x,.ty T]∧lP X.K H x t∧PySem.W.kitOne X.K t (.type T)=some b∧Q (.bl b) H):=by
 intro pins s σ H xs us Q I r h
 obtain⟨x,T,t,b,rfl,ty,e,q⟩:=h
 obtain⟨u,v,rfl,rx,rv⟩:=r.two
 cases (show v=Value.type T from rv)
 exact IM I rx ty e fun tk=>⟨.bl b,H,I.tok tk,rfl,q⟩
theorem qp{x:Str}{T:String}{pos:Pos}(hg:Gl X x)(hm:X.mg x=none)(hv:bootBuiltins x=some (.type T))(hn:x≠"__name__":=by decide)(hd:(x == ("__debug__":Str))=false:=by decide):PE X (.Name x pos) (tC (.ty T)) :=
 Mz hg hm hv rfl hn hd
end
theorem MO{X:Cx}{pins:List (Addr × Obj)}{σ:L2.St}{H:Hp}{s:Shared}{h':Heap}{t':Nat}{ch:List Addr}(I:Inv X pins σ H s)(k:∀ b o,b∉ch→s.heap.get? b=some o→h'.get? b=some o)
  (hf:∀ b∈ch,mw X pins H b):Inv X pins σ H { s with heap:=h',toks:=t' }:=by
 have NY:∀ b u,H b=some u→b∉ch:=fun b u e z=>by rw[(hf b z).1]at e;cases e
 refine I.step (g':=s.gens) (d':=s.drawn) (ch:=ch) (fun b hb=>?_) (fun b o _ _ hc e _=>k b o hc e) (fun b o _ _ hc e _=>⟨o.slots,k b o hc e⟩) (fun _ _ _ _ n=>n)
  (fun b o hc e=>⟨o,k b o hc e⟩) (fun _ _ e=>e) (fun _ _ _ e=>e) (fun b ps e=>⟨#[],by rw[e];simp⟩) (fun m hm=>?_) (fun b u e=>?_) I.bare
 ·obtain⟨_,f1,_,f3,f4,f5⟩:=hf b hb
  exact⟨f3,f1,f4,f5⟩
 ·obtain⟨o,es,ep,ho,r⟩:=hm
  exact⟨o,es,ep,k _ o (fun z=>(hf _ z).2.1 rfl) ho,r⟩
 ·refine (I.hok b u e).stay (fun c v hc q=>k c v ?_ q) (fun _ q=>q) fun _ _ q=>q
  rcases hc with z|z
  ·rw[z];exact NY b u e
  ·exact NY c _ z
theorem adopt{X:Cx}{pins:List (Addr × Obj)}{σ:L2.St}{H:Hp}{s:Shared}{h':Heap}{t':Nat}{ch:List Addr}{p:Addr}{xs:List V}{us:List Value}(I:Inv X pins σ H s)(k:∀ b o,b∉ch→s.heap.get? b=some o→h'.get? b=some o)
  (hf:∀ b∈ch,mw X pins H b) (hp:s.heap.objs.size≤p) (hz:xs.length≤sizeLine) (rv:Vals xs us) (ht:IsTup h' p us.toArray):Inv X pins σ (upd H p (.tup xs)) { s with heap:=h',toks:=t' }:=by
 have hn:H p=none:=I.hok.fresh hp
 have NY:∀ b u,H b=some u→b∉ch:=fun b u e z=>by rw[(hf b z).1]at e;cases e
 have nep:∀ b o,s.heap.get? b=some o→b≠p:=fun b o e z=>by subst z;exact absurd (pU (Heap.lt_size e) hp) (Nat.lt_irrefl _)
 refine I.step (g':=s.gens) (d':=s.drawn) (ch:=ch) (fun b hb=>?_) (fun b o _ _ hc e _=>k b o hc e) (fun b o _ _ hc e _=>⟨o.slots,k b o hc e⟩) (fun b o _ e n=>by rw[aC (nep b o e)];exact n)
  (fun b o hc e=>⟨o,k b o hc e⟩) (fun b ys e=>by rw[aC (au e hn)];exact e) (fun b _ _ e=>by rw[aC (au e hn)];exact e) (fun b ps e=>⟨#[],by rw[aC (au e hn),e];simp⟩) (fun m hm=>?_) (fun b u e=>?_) I.bare
 ·obtain⟨_,f1,_,f3,f4,f5⟩:=hf b hb
  exact⟨f3,f1,f4,f5⟩
 ·obtain⟨o,es,ep,ho,r⟩:=hm
  exact⟨o,es,ep,k _ o (fun z=>(hf _ z).2.1 rfl) ho,r⟩
 ·by_cases hb:b=p
  ·subst hb
   rw[af]at e
   cases e
   exact⟨hz,us,rv,ht⟩
  ·rw[aC hb]at e
   refine (I.hok b u e).stay (fun c v hc q=>k c v ?_ q) (fun c q=>by rw[aC (au q hn)];exact q) fun c ys q=>by rw[aC (au q hn)];exact q
   rcases hc with z|z
   ·rw[z];exact NY b u e
   ·exact NY c _ z
def FE(k:Bool)(h:Heap)(i a:Addr)(n:Nat):Prop:=match k with
 | true=>h.IsListIter i a n
 | false=>h.IsTupleIter i a n
def Ak(k:Bool)(h:Heap)(a:Addr)(xs:Array Value):Prop:=match k with
 | true=>h.IsList a xs
 | false=>h.IsTuple a xs
theorem FE.at{k:Bool}{h h':Heap}{i a:Addr}{n:Nat}(x:FE k h i a n)(e:∀ o,h.get? i=some o→h'.get? i=some o):FE k h' i a n:=by
 cases k
 ·obtain⟨o,ho,r⟩:=x;exact⟨o,e o ho,r⟩
 ·obtain⟨o,ho,r⟩:=x;exact⟨o,e o ho,r⟩
theorem Ak.at{k:Bool}{h h':Heap}{a:Addr}{xs:Array Value}(x:Ak k h a xs)(e:∀ o,h.get? a=some o→h'.get? a=some o):Ak k h' a xs:=by
 cases k
 ·obtain⟨o,ho,r⟩:=x;exact⟨o,e o ho,r⟩
 ·obtain⟨o,ho,r⟩:=x;exact⟨o,e o ho,r⟩
theorem FE.obj{k:Bool}{h:Heap}{i a:Addr}{n:Nat}(x:FE k h i a n):∃ o,h.get? i=some o∧∀ v,o.data≠.cell v:=by
 cases k
 ·obtain⟨o,ho,_,d⟩:=x;exact⟨o,ho,fun v z=>by rw[d]at z;cases z⟩
 ·obtain⟨o,ho,_,d⟩:=x;exact⟨o,ho,fun v z=>by rw[d]at z;cases z⟩
section
variable {prog:Program} {w:World} {A:Around} {E:Value→Shared→Prop} {s:Shared}
theorem Gd{it t:Addr}{i:Nat}{items:Array Value}{x:Value}{Q:Value→Shared→Prop}(hit:s.heap.IsTupleIter it t i)(ht:s.heap.IsTuple t items)(hx:items[i]?=some x)
  (hQ:∀ h',h'.IsTupleIter it t (i+1)→Heap.SameBut it s.heap h'→Q x { s with heap:=h' }):wpAny (model prog w) A (Builtin.SmallTypes.nextOf (.ref it)) Q E s:=by
 obtain⟨o,ho,hc,hd⟩:=id hit
 obtain⟨ol,hol,_,nl,hdl⟩:=ht
 unfold Builtin.SmallTypes.nextOf
 refine wpAny_bind (wpAny_callSpecial?_slot (name:=Str.ofString "__next__") hit.typeIs F.slot_tuple_iterator_next (wpAny_call_entry F.slot_tuple_iterator_next hit.typeIs F.entry_tuple_iterator_next ?_ (F.args_tuple_iterator_next_1 _)))
 show wpAny _ _ (field (.ref it) 0 >>= _) _ _ s
 refine wpAny_bind (wpAny_field ho hd (x:=.ref t) rfl ?_)
 show wpAny _ _ (if (Value.ref t == Value.none)=true then _ else _) _ _ s
 rw[if_neg (show ¬ ((Value.ref t == Value.none)=true) from jX)]
 show wpAny _ _ (field (.ref it) 1 >>= _) _ _ s
 refine wpAny_bind (wpAny_field ho hd (x:=.int i 0) rfl ?_)
 show wpAny _ _ (seqItems? (.ref t) >>= _) _ _ s
 refine wpAny_bind (wpAny_seqItems hol hdl ?_)
 simp only[Int.toNat_natCast,hx]
 refine wpAny_bind (wpAny_setField ho hd (by simp) (wpAny_pure ⟨x,rfl,wpAny_pure (hQ _ ?_ (Heap.SameBut.update ..))⟩))
 refine⟨_,Heap.get?_update_self _ ho (Obj.isFreed_of_fields (Obj.data_mapFields hd _)),(Obj.cls_mapFields ..).trans hc,?_⟩
 rw[Obj.data_mapFields hd];simp[rawInt]
theorem IW{it t:Addr}{i:Nat}{items:Array Value}{Q:Value→Shared→Prop}(hh:A.handled=none)(hit:s.heap.IsTupleIter it t i)(ht:s.heap.IsTuple t items)(hx:items[i]?=none)
  (hE:∀ h' e,Heap.ExtBut it s.heap h'→(∃ o,h'.get? e=some o∧o.cls=.type "StopIteration")→E (.ref e) { s with heap:=h' }):wpAny (model prog w) A (Builtin.SmallTypes.nextOf (.ref it)) Q E s:=by
 obtain⟨o,ho,hc,hd⟩:=id hit
 obtain⟨ol,hol,_,nl,hdl⟩:=ht
 unfold Builtin.SmallTypes.nextOf
 refine wpAny_bind (wpAny_callSpecial?_slot (name:=Str.ofString "__next__") hit.typeIs F.slot_tuple_iterator_next (wpAny_call_entry F.slot_tuple_iterator_next hit.typeIs F.entry_tuple_iterator_next ?_ (F.args_tuple_iterator_next_1 _)))
 show wpAny _ _ (field (.ref it) 0 >>= _) _ _ s
 refine wpAny_bind (wpAny_field ho hd (x:=.ref t) rfl ?_)
 show wpAny _ _ (if (Value.ref t == Value.none)=true then _ else _) _ _ s
 rw[if_neg (show ¬ ((Value.ref t == Value.none)=true) from jX)]
 show wpAny _ _ (field (.ref it) 1 >>= _) _ _ s
 refine wpAny_bind (wpAny_field ho hd (x:=.int i 0) rfl ?_)
 show wpAny _ _ (seqItems? (.ref t) >>= _) _ _ s
 refine wpAny_bind (wpAny_seqItems hol hdl ?_)
 simp only[Int.toNat_natCast,hx]
 refine wpAny_bind (wpAny_rule (wpAny_bind (wpAny_setField ho hd (by simp) ?_)))
 show wpAny _ _ (newExc (.type "StopIteration") [] >>= _) _ _ _
 refine wpAny_bind ?_
 simp only[newExc,newTuple]
 refine wpAny_bind (wpAny_newObj_type ?_ (by size_fits))
 refine wpAny_bind (m:=firstArgMember _ _) (wpAny_of_eq (a:=Value.none) (by first|rfl|(simp only[firstArgMember];rfl)) ?_)
 refine wpAny_newObj_type ?_ (by size_fits)
 simp only[raiseNew]
 refine wpAny_bind (wpAny_handled ?_)
 first|rw[show A.in1.handled=none from hh]|rw[hh]
 refine wpAny_bind (wpAny_pure (wpAny_throw ?_))
 exact hE _ _ (((Heap.SameBut.update ..).extBut.push _).push _) ⟨_,Heap.get?_push_size _ rfl,rfl⟩
theorem tL{k:Bool}{it t:Addr}{i:Nat}{items:Array Value}{x:Value}{Q:Value→Shared→Prop}(hit:FE k s.heap it t i)(ht:Ak k s.heap t items)(hx:items[i]?=some x)
  (hQ:∀ h',FE k h' it t (i+1)→Heap.SameBut it s.heap h'→Q x { s with heap:=h' }):wpAny (model prog w) A (Builtin.SmallTypes.nextOf (.ref it)) Q E s:=by
 cases k
 ·exact Gd hit ht hx hQ
 ·exact wpAny_nextOf_list_item hit ht hx hQ
theorem AZ{k:Bool}{it t:Addr}{i:Nat}{items:Array Value}{Q:Value→Shared→Prop}(hh:A.handled=none)(hit:FE k s.heap it t i)(ht:Ak k s.heap t items)(hx:items[i]?=none)
  (hE:∀ h' e,Heap.ExtBut it s.heap h'→(∃ o,h'.get? e=some o∧o.cls=.type "StopIteration")→E (.ref e) { s with heap:=h' }):wpAny (model prog w) A (Builtin.SmallTypes.nextOf (.ref it)) Q E s:=by
 cases k
 ·exact IW hh hit ht hx hE
 ·exact wpAny_nextOf_list_end hh hit ht hx hE
abbrev A0(k:Bool)(l:Addr):Obj:={ cls:=.type (if k then "list_iterator" else "tuple_iterator"),data:=.fields #[.ref l,.int 0 0] }
theorem Oc{k:Bool}{l:Addr}{xs:Array Value}{Q:Value→Shared→Prop}(h:Ak k s.heap l xs)(hQ:Q (.ref s.heap.objs.size) { s with heap:=s.heap.push (A0 k l) }):wpAny (model prog w) A (pyIter (.ref l)) Q E s:=by
 cases k
 ·exact wpAny_pyIter_tuple h hQ
 ·exact wpAny_pyIter_list h hQ
structure A7(k:Bool)(h:Heap)(z TI TO i1 i2 l1 l2:Addr)(n:Nat):Prop where
 z:IsZip h z TI TO .none
 ti:IsPair h TI (.ref i1) (.ref i2)
 to:∃ a b,IsPair h TO a b
 i1:FE k h i1 l1 n
 i2:FE k h i2 l2 n
theorem IX{k:Bool}{z TI TO i1 i2 l1 l2:Addr}{n:Nat}{xs ys:Array Value}{x y:Value}{Q:Value→Shared→Prop}(D:ZipApart z TI TO i1 i2 l1 l2)(st:A7 k s.heap z TI TO i1 i2 l1 l2 n)
  (hl1:Ak k s.heap l1 xs) (hl2:Ak k s.heap l2 ys) (hx:xs[n]?=some x) (hy:ys[n]?=some y)
  (hQ:∀ h',IsZip h' z TI TO (rawInt s.heap.objs.size)→IsPair h' TO x y→FE k h' i1 l1 (n+1)→FE k h' i2 l2 (n+1)→IsPair h' s.heap.objs.size x y →
   (∀ c o,c≠z→c≠TO→c≠i1→c≠i2→s.heap.get? c=some o→h'.get? c=some o)→Q (.ref s.heap.objs.size) { s with heap:=h' }) :
  wpAny (model prog w) A (Builtin.«zip.__next__» ⟨[.ref z],[]⟩) (fun fin s'=>∃ v,fin=.done (.ret v)∧Q v s') E s:=by
 obtain⟨hz,hTI,⟨a,b,hTO⟩,h1,h2⟩:=st
 show wpAny _ _ (field (.ref z) 2 >>= _) _ _ _
 refine wpAny_bind (wpAny_field hz rfl (x:=.bool false) rfl ?_)
 show wpAny _ _ (field (.ref z) 3 >>= _) _ _ _
 refine wpAny_bind (wpAny_field hz rfl (x:=.ref TI) rfl (wpAny_bind (wpAny_seqItems hTI rfl ?_)))
 show wpAny _ _ (Builtin.SmallTypes.ownedTupleIsFree (.ref z) >>= _) _ _ _
 refine wpAny_bind ?_
 unfold Builtin.SmallTypes.ownedTupleIsFree
 refine wpAny_bind (wpAny_field hz rfl (x:=.none) rfl (wpAny_pure ?_))
 simp only[if_true]
 refine wpAny_bind (wpAny_rule (wpAny_bind (wpAny_field hz rfl (x:=.ref TO) rfl (wpAny_bind (wpAny_setField_rec hz (by simp) fun g1 z1 c1=>?_)))))
 replace z1:IsZip g1 z TI TO .ellipsis:=z1
 refine wpAny_bind ?_
 simp only[List.zipIdx_cons,List.zipIdx_nil,List.forIn_cons,List.forIn_nil]
 refine wpAny_bind (wpAny_bind (wpAny_onRaise ?_))
 show wpAny _ _ (Builtin.SmallTypes.nextOf (.ref i1) >>= _) _ _ _
 refine wpAny_bind (tL (h1.at fun o e=>c1.extBut _ _ D.i1z e) (hl1.at fun o e=>c1.extBut _ _ D.l1z e) hx fun g2 h12 c2=>wpAny_pure ?_)
 have o2:IsPair g2 TO a b:=c2.extBut _ _ D.TOi1 (c1.extBut _ _ D.TOz hTO)
 refine wpAny_bind (wpAny_seqItems o2 rfl (wpAny_bind (wpAny_updateSeq_pair o2 fun g3 o3 c3=>?_)))
 replace o3:IsPair g3 TO x b:=o3
 refine wpAny_bind (wpAny_letGo (wpAny_pure (wpAny_bind (wpAny_bind (wpAny_onRaise ?_)))))
 show wpAny _ _ (Builtin.SmallTypes.nextOf (.ref i2) >>= _) _ _ _
 refine wpAny_bind (tL (((h2.at fun o e=>c1.extBut _ _ D.i2z e).at fun o e=>c2.extBut _ _ D.i12.symm e).at fun o e=>c3.extBut _ _ D.TOi2.symm e)
  (((hl2.at fun o e=>c1.extBut _ _ D.l2z e).at fun o e=>c2.extBut _ _ D.l2i1 e).at fun o e=>c3.extBut _ _ D.l2TO e) hy fun g4 h24 c4=>wpAny_pure ?_)
 have o4:IsPair g4 TO x b:=c4.extBut _ _ D.TOi2 o3
 refine wpAny_bind (wpAny_seqItems o4 rfl (wpAny_bind (wpAny_updateSeq_pair o4 fun g5 o5 c5=>?_)))
 replace o5:IsPair g5 TO x y:=o5
 refine wpAny_bind (wpAny_letGo (wpAny_pure (wpAny_pure (wpAny_bind (wpAny_seqItems o5 rfl (wpAny_bind (wpAny_newTuple ?_)))))))
 have sz:g5.objs.size=s.heap.objs.size:=by rw[c5.1,c4.1,c3.1,c2.1,c1.1]
 have z5:IsZip g5 z TI TO .ellipsis:=c5.extBut _ _ D.TOz.symm (c4.extBut _ _ D.i2z.symm (c3.extBut _ _ D.TOz.symm (c2.extBut _ _ D.i1z.symm z1)))
 have k5:∀ c o,c≠z→c≠TO→c≠i1→c≠i2→s.heap.get? c=some o→g5.get? c=some o:=fun c o n1 n2 n3 n4 e=>c5.extBut _ _ n2 (c4.extBut _ _ n4 (c3.extBut _ _ n2 (c2.extBut _ _ n3 (c1.extBut _ _ n1 e))))
 have h15:FE k g5 i1 l1 (n+1):=((h12.at fun o e=>c3.extBut _ _ D.TOi1.symm e).at fun o e=>c4.extBut _ _ D.i12 e).at fun o e=>c5.extBut _ _ D.TOi1.symm e
 have h25:FE k g5 i2 l2 (n+1):=h24.at fun o e=>c5.extBut _ _ D.TOi2.symm e
 have zlt:z<g5.objs.size:=Heap.lt_size z5
 show wpAny _ _ (Builtin.SmallTypes.ownedTupleHandOut (.ref z) (.ref g5.objs.size) >>= _) _ _ _
 refine wpAny_bind ?_
 unfold Builtin.SmallTypes.ownedTupleHandOut
 have z6:IsZip (g5.push { cls:=.type "tuple",data:=.seq #[x,y] }) z TI TO .ellipsis:=Heap.get?_push_of_some _ z5
 refine wpAny_bind (wpAny_setField_rec z6 (by simp) fun g7 z7 c7=>?_)
 replace z7:IsZip g7 z TI TO (rawInt g5.objs.size):=z7
 refine wpAny_setField_rec z7 (by simp) fun g8 z8 c8=>?_
 replace z8:IsZip g8 z TI TO (rawInt g5.objs.size):=z8
 have up:∀ c o,c≠z→g5.get? c=some o→g8.get? c=some o:=fun c o n1 e=>c8.extBut _ _ n1 (c7.extBut _ _ n1 (Heap.get?_push_of_some _ e))
 have t8:IsPair g8 g5.objs.size x y:=c8.extBut _ _ (Nat.ne_of_gt zlt) (c7.extBut _ _ (Nat.ne_of_gt zlt) (Heap.get?_push_size _ rfl))
 rw[sz]at z8 t8
 refine wpAny_pure ⟨_,rfl,?_⟩
 show Q (.ref g5.objs.size) _
 rw[sz]
 exact hQ g8 z8 (up _ _ D.TOz o5) (h15.at fun o e=>up _ o D.i1z e) (h25.at fun o e=>up _ o D.i2z e) t8 fun c o n1 n2 n3 n4 e=>up c o n1 (k5 c o n1 n2 n3 n4 e)
theorem KG{k:Bool}{z TI TO i1 i2 l1 l2:Addr}{n:Nat}{xs ys:Array Value}{Q:Fin→Shared→Prop}(hh:A.handled=none)(D:ZipApart z TI TO i1 i2 l1 l2)(st:A7 k s.heap z TI TO i1 i2 l1 l2 n)
  (hl1:Ak k s.heap l1 xs) (hl2:Ak k s.heap l2 ys) (hend:xs[n]?=none∨ys[n]?=none)
  (hE:∀ h' e,(∀ c o,c≠z→c≠TO→c≠i1→c≠i2→s.heap.get? c=some o→h'.get? c=some o)→(∃ o,h'.get? e=some o∧o.cls=.type "StopIteration")→E (.ref e) { s with heap:=h' }) :
  wpAny (model prog w) A (Builtin.«zip.__next__» ⟨[.ref z],[]⟩) Q E s:=by
 obtain⟨hz,hTI,⟨a,b,hTO⟩,h1,h2⟩:=st
 show wpAny _ _ (field (.ref z) 2 >>= _) _ _ _
 refine wpAny_bind (wpAny_field hz rfl (x:=.bool false) rfl ?_)
 show wpAny _ _ (field (.ref z) 3 >>= _) _ _ _
 refine wpAny_bind (wpAny_field hz rfl (x:=.ref TI) rfl (wpAny_bind (wpAny_seqItems hTI rfl ?_)))
 show wpAny _ _ (Builtin.SmallTypes.ownedTupleIsFree (.ref z) >>= _) _ _ _
 refine wpAny_bind ?_
 unfold Builtin.SmallTypes.ownedTupleIsFree
 refine wpAny_bind (wpAny_field hz rfl (x:=.none) rfl (wpAny_pure ?_))
 simp only[if_true]
 refine wpAny_bind (wpAny_rule (wpAny_bind (wpAny_field hz rfl (x:=.ref TO) rfl (wpAny_bind (wpAny_setField_rec hz (by simp) fun g1 z1 c1=>?_)))))
 replace z1:IsZip g1 z TI TO .ellipsis:=z1
 refine wpAny_bind ?_
 simp only[List.zipIdx_cons,List.zipIdx_nil,List.forIn_cons,List.forIn_nil]
 refine wpAny_bind (wpAny_bind (wpAny_onRaise ?_))
 show wpAny _ _ (Builtin.SmallTypes.nextOf (.ref i1) >>= _) _ _ _
 cases hx:xs[n]? with
 | none =>
  refine wpAny_bind (AZ hh (h1.at fun o e=>c1.extBut _ _ D.i1z e) (hl1.at fun o e=>c1.extBut _ _ D.l1z e) hx fun g2 e c2 he=>?_)
  obtain⟨oe,Pn,hce⟩:=he
  have z2:IsZip g2 z TI TO .ellipsis:=c2 _ _ D.i1z.symm z1
  have hez:e≠z:=fun x=>by subst x;rw[z2]at Pn;cases Pn;simp at hce
  exact wpAny_setField_rec z2 (by simp) fun g3 _ c3=>hE g3 e (fun c o n1 _ n3 _ x=>c3.extBut _ _ n1 (c2 _ _ n3 (c1.extBut _ _ n1 x))) ⟨oe,c3.extBut _ _ hez Pn,hce⟩
 | some x =>
  have hy:ys[n]?=none:=by rcases hend with h|h;(rw[hx]at h;cases h);exact h
  refine wpAny_bind (tL (h1.at fun o e=>c1.extBut _ _ D.i1z e) (hl1.at fun o e=>c1.extBut _ _ D.l1z e) hx fun g2 h12 c2=>wpAny_pure ?_)
  have o2:IsPair g2 TO a b:=c2.extBut _ _ D.TOi1 (c1.extBut _ _ D.TOz hTO)
  refine wpAny_bind (wpAny_seqItems o2 rfl (wpAny_bind (wpAny_updateSeq_pair o2 fun g3 o3 c3=>?_)))
  refine wpAny_bind (wpAny_letGo (wpAny_pure (wpAny_bind (wpAny_bind (wpAny_onRaise ?_)))))
  show wpAny _ _ (Builtin.SmallTypes.nextOf (.ref i2) >>= _) _ _ _
  refine wpAny_bind (AZ hh (((h2.at fun o e=>c1.extBut _ _ D.i2z e).at fun o e=>c2.extBut _ _ D.i12.symm e).at fun o e=>c3.extBut _ _ D.TOi2.symm e)
   (((hl2.at fun o e=>c1.extBut _ _ D.l2z e).at fun o e=>c2.extBut _ _ D.l2i1 e).at fun o e=>c3.extBut _ _ D.l2TO e) hy fun g4 e c4 he=>?_)
  obtain⟨oe,Pn,hce⟩:=he
  have z4:IsZip g4 z TI TO .ellipsis:=c4 _ _ D.i2z.symm (c3.extBut _ _ D.TOz.symm (c2.extBut _ _ D.i1z.symm z1))
  have hez:e≠z:=fun x=>by subst x;rw[z4]at Pn;cases Pn;simp at hce
  exact wpAny_setField_rec z4 (by simp) fun g5 _ c5=>hE g5 e (fun c o n1 n2 n3 n4 x=>c5.extBut _ _ n1 (c4 _ _ n4 (c3.extBut _ _ n2 (c2.extBut _ _ n3 (c1.extBut _ _ n1 x))))) ⟨oe,c5.extBut _ _ hez Pn,hce⟩
theorem Ge{k:Bool}{z TI TO i1 i2 l1 l2:Addr}{n:Nat}{xs ys:Array Value}{x y:Value}{Q:Option Value→Shared→Prop}(D:ZipApart z TI TO i1 i2 l1 l2)(st:A7 k s.heap z TI TO i1 i2 l1 l2 n)
  (hl1:Ak k s.heap l1 xs) (hl2:Ak k s.heap l2 ys) (hx:xs[n]?=some x) (hy:ys[n]?=some y)
  (hQ:∀ h',IsZip h' z TI TO (rawInt s.heap.objs.size)→IsPair h' TO x y→FE k h' i1 l1 (n+1)→FE k h' i2 l2 (n+1)→IsPair h' s.heap.objs.size x y →
   (∀ c o,c≠z→c≠TO→c≠i1→c≠i2→s.heap.get? c=some o→h'.get? c=some o)→Q (some (.ref s.heap.objs.size)) { s with heap:=h' }):wpAny (model prog w) A (pyNext (.ref z)) Q E s:=by
 have hT:s.TypeIs (.ref z) "zip":=⟨_,st.z,rfl⟩
 unfold pyNext
 exact wpAny_bind (wpAny_attempt (wpAny_callSpecial?_slot (name:=Str.ofString "__next__") hT F.slot_zip_next (wpAny_call_entry F.slot_zip_next hT F.entry_zip_next
  (IX D st hl1 hl2 hx hy fun h' a1 a2 a3 a4 a5 a7=>wpAny_pure (hQ h' a1 a2 a3 a4 a5 a7)) (F.args_zip_next_1 _))))
theorem IY{k:Bool}{z TI TO i1 i2 l1 l2:Addr}{n:Nat}{xs ys:Array Value}{Q:Option Value→Shared→Prop}(hh:A.handled=none)(D:ZipApart z TI TO i1 i2 l1 l2)(st:A7 k s.heap z TI TO i1 i2 l1 l2 n)
  (hl1:Ak k s.heap l1 xs) (hl2:Ak k s.heap l2 ys) (hend:xs[n]?=none∨ys[n]?=none)
  (hQ:∀ h',(∀ c o,c≠z→c≠TO→c≠i1→c≠i2→s.heap.get? c=some o→h'.get? c=some o)→Q none { s with heap:=h' }):wpAny (model prog w) A (pyNext (.ref z)) Q E s:=by
 have hT:s.TypeIs (.ref z) "zip":=⟨_,st.z,rfl⟩
 unfold pyNext
 refine wpAny_bind (wpAny_attempt (wpAny_callSpecial?_slot (name:=Str.ofString "__next__") hT F.slot_zip_next (wpAny_call_entry F.slot_zip_next hT F.entry_zip_next
  (KG hh D st hl1 hl2 hend fun h' e hk he=>?_) (F.args_zip_next_1 _))))
 obtain⟨o,ho,hc⟩:=he
 exact wpAny_bind (wpAny_isInstance (T:="StopIteration") (b:=true) ⟨o,ho,hc⟩ isSubtype_stop (wpAny_pure (hQ _ hk)))
end
abbrev Ug(k:Bool)(h:Heap)(l1:Addr):Heap:=h.push (A0 k l1)
abbrev Uh(k:Bool)(h:Heap)(l1 l2:Addr):Heap:=(Ug k h l1).push (A0 k l2)
abbrev Ui(k:Bool)(h:Heap)(l1 l2:Addr):Heap:=(Uh k h l1 l2).push { cls:=.type "tuple",data:=.seq #[.ref h.objs.size,.ref (Ug k h l1).objs.size] }
abbrev Uj(k:Bool)(h:Heap)(l1 l2:Addr):Heap:=(Ui k h l1 l2).push { cls:=.type "tuple",data:=.seq #[.none,.none] }
abbrev QI(k:Bool)(h:Heap)(l1 l2:Addr):Heap:=(Uj k h l1 l2).push { cls:=.type "zip",data:=.fields #[.none,.bool false,.bool false,.ref (Uh k h l1 l2).objs.size,.ref (Ui k h l1 l2).objs.size] }
theorem Gf(k:Bool)(l1 l2:Addr)(xs ys:Array Value) :
  Meets (Builtin.«zip.__new__» ⟨[.type "zip",.ref l1,.ref l2],[]⟩) (fun _ R s=>Ak k s.heap l1 xs∧Ak k s.heap l2 ys∧R (.ok (.ret (.ref (Uj k s.heap l1 l2).objs.size))) { s with heap:=QI k s.heap l1 l2 }) :=
 .of_wp fun prog w A R s h=>by
  obtain⟨hp,g,d,tk,os⟩:=s;obtain⟨hl1,hl2,h⟩:=h
  have hsub:=sub_zip
  have hL1:Ak k (Shared.heap ⟨hp,g,d,tk,os⟩) l1 xs:=hl1
  have Uk:Ak k (Shared.heap ⟨hp.push (A0 k l1),g,d,tk,os⟩) l2 ys:=hl2.at fun o e=>Heap.get?_push_of_some _ e
  wp_walk using Oc hL1,Oc Uk
  exact⟨_,rfl,h⟩
section
variable {prog:Program} {w:World} {A:Around} {E:Value→Shared→Prop} {s:Shared}
theorem IZ{k:Bool}{l1 l2:Addr}{xs ys:Array Value}{Q:Value→Shared→Prop}(hl1:Ak k s.heap l1 xs)(hl2:Ak k s.heap l2 ys)
  (h:∀ h',A7 k h' (s.heap.objs.size+4) (s.heap.objs.size+2) (s.heap.objs.size+3) s.heap.objs.size (s.heap.objs.size+1) l1 l2 0→(∀ c o,s.heap.get? c=some o→h'.get? c=some o)→Q (.ref (s.heap.objs.size+4)) { s with heap:=h' }) :
  wpAny (model prog w) A (call (.type "zip") [.ref l1,.ref l2]) Q E s:=by
 refine callType_new F.called_zip (by decide) (F.typeCall_zip_2 _ _) (F.newCall_zip_2 _ _) (fun obj=>F.args_object_init_3 obj _ _) F.entry_zip_new (Gf k l1 l2 xs ys) ⟨hl1,hl2,?_⟩
 have z1:(Ug k s.heap l1).objs.size=s.heap.objs.size+1:=Heap.size_push ..
 have z2:(Uh k s.heap l1 l2).objs.size=s.heap.objs.size+2:=by rw[Heap.size_push,z1]
 have z3:(Ui k s.heap l1 l2).objs.size=s.heap.objs.size+3:=by rw[Heap.size_push,z2]
 have z4:(Uj k s.heap l1 l2).objs.size=s.heap.objs.size+4:=by rw[Heap.size_push,z3]
 have g5:(QI k s.heap l1 l2).get? (Uj k s.heap l1 l2).objs.size=some _:=Heap.get?_push_size _ rfl
 have g4:(QI k s.heap l1 l2).get? (Ui k s.heap l1 l2).objs.size=some _:=Heap.get?_push_of_some _ (Heap.get?_push_size _ rfl)
 have g3:(QI k s.heap l1 l2).get? (Uh k s.heap l1 l2).objs.size=some _:=Heap.get?_push_of_some _ (Heap.get?_push_of_some _ (Heap.get?_push_size _ rfl))
 have g2:(QI k s.heap l1 l2).get? (Ug k s.heap l1).objs.size=some (A0 k l2):=Heap.get?_push_of_some _ (Heap.get?_push_of_some _ (Heap.get?_push_of_some _ (Heap.get?_push_size _ rfl)))
 have g1:(QI k s.heap l1 l2).get? s.heap.objs.size=some (A0 k l1):=Heap.get?_push_of_some _ (Heap.get?_push_of_some _ (Heap.get?_push_of_some _ (Heap.get?_push_of_some _ (Heap.get?_push_size _ rfl))))
 show _∧_
 rw[z2,z3,z4]at g5
 rw[z1,z2]at g3
 rw[z3]at g4
 rw[z1]at g2
 rw[z4]
 refine⟨⟨_,g5,rfl⟩,h _ ⟨g5,g3,⟨_,_,g4⟩,?_,?_⟩ fun c o x=>Heap.get?_push_of_some _ (Heap.get?_push_of_some _ (Heap.get?_push_of_some _ (Heap.get?_push_of_some _ (Heap.get?_push_of_some _ x))))⟩
 ·cases k
  ·exact⟨_,g1,rfl,rfl⟩
  ·exact⟨_,g1,rfl,rfl⟩
 ·cases k
  ·exact⟨_,g2,rfl,rfl⟩
  ·exact⟨_,g2,rfl,rfl⟩
end
def Hv(K:PySem.W.Frag)(k:Bool)(H:Hp)(a:Addr)(xs:List V):Prop:=match k with
 | true=>bG K H a xs
 | false=>jK K H a xs
theorem vB{X:Cx}{pins:List (Addr × Obj)}{σ:L2.St}{H:Hp}{s:Shared}{k:Bool}{a:Addr}{xs:List V}(I:Inv X pins σ H s)(h:Hv X.K k H a xs):∃ its:List Value,Vals xs its∧Ak k s.heap a its.toArray∧xs.length≤sizeLine:=by
 cases k
 ·obtain⟨its,r,p,z⟩:=I.tuple h
  exact⟨its,r,p,z⟩
 ·obtain⟨its,r,p,z⟩:=I.list h
  exact⟨its,r,p.isList,z⟩
theorem Hw{X:Cx}{pins:List (Addr × Obj)}{σ:L2.St}{H:Hp}{s:Shared}{k:Bool}{a:Addr}{xs ys:List V}(I:Inv X pins σ H s)(h:Hv X.K k H a xs)(h':Hv X.K k H a ys):xs=ys:=by
 cases k
 ·exact I.AL h h'
 ·exact I.DO h h'
theorem KH{k:Bool}{h:Heap}{a:Addr}{xs:Array Value}(x:Ak k h a xs):a<h.objs.size:=by
 cases k
 ·obtain⟨o,ho,_⟩:=x;exact Heap.lt_size ho
 ·obtain⟨o,ho,_⟩:=x;exact Heap.lt_size ho
def RL(K:PySem.W.Frag)(k:Bool)(a1 a2:Addr):It :=
 ⟨fun i H=>∃ xs ys x y,Hv K k H a1 xs∧Hv K k H a2 ys∧xs[i]?=some x∧ys[i]?=some y,fun i H v H'=>∃ p x y,H p=none∧v=.ref p∧H'=upd H p (.tup [x,y])∧(∀ xs,Hv K k H a1 xs→xs[i]?=some x)∧∀ ys,Hv K k H a2 ys→ys[i]?=some y,fun i H=>∃ xs ys,Hv K k H a1 xs∧Hv K k H a2 ys∧(xs.length≤i∨ys.length≤i)⟩
theorem KI{P:Program}{w:World}{K:PySem.W.Frag}{elts:List Expr}{x1:Nat}{tpos:Pos}{k:Bool}{z TI TO i1 i2 l1 l2:Addr}(D:ZipApart z TI TO i1 i2 l1 l2) :
  Turn P w K (.Tuple elts x1 tpos) (RL K k l1 l2) [z,TI,TO,i1,i2] z (fun i h=>A7 k h z TI TO i1 i2 l1 l2 i) where
 mem:=by simp
 obj:=fun i h st b hb=>by
  obtain⟨hz,hTI,⟨a,c,hTO⟩,h1,h2⟩:=st
  simp only[List.mem_cons,List.not_mem_nil,or_false]at hb
  rcases hb with rfl|rfl|rfl|rfl|rfl
  ·exact⟨_,hz,fun v e=>by cases e⟩
  ·exact⟨_,hTI,fun v e=>by cases e⟩
  ·exact⟨_,hTO,fun v e=>by cases e⟩
  ·exact h1.obj
  ·exact h2.obj
 keep:=fun i h h' st kk=>by
  obtain⟨hz,hTI,⟨a,c,hTO⟩,h1,h2⟩:=st
  exact⟨kk z (by simp) _ hz,kk TI (by simp) _ hTI,⟨a,c,kk TO (by simp) _ hTO⟩,h1.at fun o e=>kk i1 (by simp) o e,h2.at fun o e=>kk i2 (by simp) o e⟩
 item:=by
  intro X hP hw hK hc i pins s σ H E I hf st hg
  subst hP hw hK
  obtain⟨xs,ys,x,y,q1,q2,e1,e2⟩:=hg
  obtain⟨us,r1,p1,_⟩:=vB I q1
  obtain⟨vs,r2,p2,_⟩:=vB I q2
  obtain⟨u,eu,ru⟩:=r1.get e1
  obtain⟨v,ev,rv⟩:=r2.get e2
  refine Ge (x:=u) (y:=v) D st p1 p2 (by simpa using eu) (by simpa using ev) fun h' g1 g2 g3 g4 g5 g7=>?_
  refine⟨_,rfl,wpAny_letOwnedTupleGo_zip g1 fun h2 hz2 c2=>?_⟩
  have ne:∀ {b o},s.heap.get? b=some o→s.heap.objs.size≠b:=fun e=>Nat.ne_of_gt (Heap.lt_size e)
  have k2:∀ b o,b∉[z,TI,TO,i1,i2]→s.heap.get? b=some o→h2.get? b=some o:=fun b o hb e=>by
   simp only[List.mem_cons,List.not_mem_nil,or_false,not_or]at hb
   exact c2.extBut _ _ hb.1 (g7 b o hb.1 hb.2.2.1 hb.2.2.2.1 hb.2.2.2.2 e)
  have I2:Inv X pins σ (upd H s.heap.objs.size (.tup [x,y])) { s with heap:=h2,toks:=s.toks } :=
   adopt I k2 hf (fH _) (by show 2≤sizeLine;decide) (.cons ru (.cons rv .nil)) ⟨_,c2.extBut _ _ (ne st.z) g5,rfl,_,rfl⟩
  refine⟨.ref s.heap.objs.size,_,I2,rfl,⟨_,x,y,I.hok.fresh (fH _),rfl,rfl,fun xs' q=>?_,fun ys' q=>?_⟩,?_,fun b hb=>?_⟩
  ·rw[Hw I q q1];exact e1
  ·rw[Hw I q q2];exact e2
  ·exact⟨hz2,c2.extBut _ _ D.TIz (g7 _ _ D.TIz D.TITO D.TIi1 D.TIi2 st.ti),⟨u,v,c2.extBut _ _ D.TOz g2⟩,g3.at fun o e=>c2.extBut _ _ D.i1z e,g4.at fun o e=>c2.extBut _ _ D.i2z e⟩
  ·have hlt:∃ o,s.heap.get? b=some o:=by
    obtain⟨hz,hTI,⟨a,c,hTO⟩,h1,h2⟩:=st
    simp only[List.mem_cons,List.not_mem_nil,or_false]at hb
    rcases hb with rfl|rfl|rfl|rfl|rfl
    ·exact⟨_,hz⟩
    ·exact⟨_,hTI⟩
    ·exact⟨_,hTO⟩
    ·exact h1.obj.imp fun _ e=>e.1
    ·exact h2.obj.imp fun _ e=>e.1
   obtain⟨o,e⟩:=hlt
   rw[aC (ne e).symm]
   exact (hf b hb).1
 done:=by
  intro X hP hw hK hc i pins s σ H E I hf st hg
  subst hP hw hK
  obtain⟨xs,ys,q1,q2,e⟩:=hg
  obtain⟨us,r1,p1,_⟩:=vB I q1
  obtain⟨vs,r2,p2,_⟩:=vB I q2
  have l1:=r1.length
  have l2:=r2.length
  refine IY (I.ok.hd hc) D st p1 p2 (e.imp (fun e=>by simp;omega) (fun e=>by simp;omega)) fun h' kk=>⟨rfl,MO (t':=s.toks) (ch:=[z,TI,TO,i1,i2]) I (fun b o hb e=>?_) hf⟩
  simp only[List.mem_cons,List.not_mem_nil,or_false,not_or]at hb
  exact kk b o hb.1 hb.2.2.1 hb.2.2.2.1 hb.2.2.2.2 e
 self:=fun _ _ _ _ _ st h=>wpAny_pyIter_zip st.z h
def abw(K:PySem.W.Frag)(ta:TA):TI:=fun σ H R=>ta σ H fun vs H1=>∃ k a1 a2 xs ys,vs=[.ref a1,.ref a2]∧Hv K k H1 a1 xs∧Hv K k H1 a2 ys∧R (RL K k a1 a2) H1
theorem Po{X:Cx}{elts:List Expr}{x1:Nat}{tpos:Pos}{a b:Expr}{ta:TA}{p pos:Pos}(hg:Gl X "zip")(hm:X.mg "zip"=none)(ha:PA X [a,b] ta)
  (hs:starEach [a,b] X.env=[(false,eval a X.env),(false,eval b X.env)]:=by rfl) (hs2:starEach [b] X.env=[(false,eval b X.env)]:=by rfl):PI X (.Tuple elts x1 tpos) (.Call (.Name "zip" p) [a,b] [] pos) (abw X.K ta):=by
 intro pins s σ H R I h
 refine Call_ (vp I hg hm boot_zip (PyProof.Rows.callWith_type1 (bQ (ha pos pins s σ H _ I h) fun us s1 ⟨vs,H1,I1,r1,q1⟩=>?_) (by rw[hs,hs2]) (by rw[hs2];rfl)))
 obtain⟨k,a1,a2,xs,ys,e,q1,q2,q⟩:=q1
 subst e
 obtain⟨u1,u2,rfl,e1,e2⟩:=r1.two
 cases (show u1=Value.ref a1 from e1)
 cases (show u2=Value.ref a2 from e2)
 obtain⟨us,rr1,p1,_⟩:=vB I1 q1
 obtain⟨ws,rr2,p2,_⟩:=vB I1 q2
 have b1:=KH p1
 have b2:=KH p2
 refine IZ p1 p2 fun h' st kk=>wpAny_pyIter_zip st.z ?_
 have I2:Inv X pins σ H1 { s1 with heap:=h',toks:=s1.toks }:=I1.kept kk
 refine⟨_,_,_,_,H1,rfl,I2,KI (zipApart_new b1 b2),st,fun b hb=>?_,q⟩
 have hb':s1.heap.objs.size≤b:=by
  simp only[List.mem_cons,List.not_mem_nil,or_false]at hb
  rcases hb with rfl|rfl|rfl|rfl|rfl
  ·exact Nat.le_add_right _ _
  ·exact Nat.le_add_right _ _
  ·exact Nat.le_add_right _ _
  ·exact fH _
  ·exact Nat.le_add_right _ _
 exact I1.IF hb' (I1.hok.fresh hb')
theorem MP{K:PySem.W.Frag}{k:Bool}{a1 a2:Addr}{xs ys:List V}{g:TG}{tb:TS}{D:Ends}{σ:L2.St}{H:Hp}(Pv:Nat→L2.St→Hp→Prop)(hn:xs.length=ys.length)(h0:Pv 0 σ H)
  (hl:∀ i σ H,i≤xs.length→Pv i σ H→Hv K k H a1 xs∧Hv K k H a2 ys)
  (hs:∀ i x y p σ H,xs[i]?=some x→ys[i]?=some y→H p=none→Pv i σ H→g (.ref p) σ (upd H p (.tup [x,y])) fun σ2 H2=>tb { D with nx:=Pv (i+1),ct:=Pv (i+1),bk:=D.nx } σ2 H2) (hd:∀ σ H,Pv xs.length σ H→D.nx σ H) :
  ∃ W:Nat→Nat→L2.St→Hp→Prop,(∃ m,W 0 m σ H)∧∀ i m σ H,W i m σ H →
   ((RL K k a1 a2).stop i H∧D.nx σ H)∨((RL K k a1 a2).go i H∧∃ N:L2.St→Hp→Prop,(∀ σ' H',N σ' H'→∃ m',m'<m∧W (i+1) m' σ' H')∧∀ x H',(RL K k a1 a2).IE i H x H'→g x σ H' fun σ2 H2=>tb { D with nx:=N,ct:=N,bk:=D.nx } σ2 H2):=by
 refine⟨fun i m σ H=>m=xs.length-i∧i≤xs.length∧Pv i σ H,⟨xs.length,by simp,mO _,h0⟩,?_⟩
 rintro i m σ H ⟨rfl,hi,p⟩
 obtain⟨q1,q2⟩:=hl i σ H hi p
 by_cases hlt:i<xs.length
 ·have abx:i<ys.length:=by omega
  refine .inr ⟨⟨xs,ys,xs[i],ys[i],q1,q2,by simp[hlt],by simp[abx]⟩,Pv (i+1),fun σ' H' p'=>⟨xs.length-(i+1),by omega,rfl,hlt,p'⟩,fun x H' y=>?_⟩
  obtain⟨a,x',y',hn',rfl,rfl,e1,e2⟩:=y
  exact hs i x' y' a σ _ (e1 xs q1) (e2 ys q2) hn' p
 ·have e:i=xs.length:=by omega
  subst e
  exact .inl ⟨⟨xs,ys,q1,q2,.inl (fH _)⟩,hd σ H p⟩
def A8(lo:Int)(n:Nat):List V:=(List.range n).map fun i:Nat=>V.int (lo+i)
section
variable {X:Cx}
theorem Ea:mF X (.type "range") (fun xs H Q=>∃ i j:Int,xs=[.int i,.int j]∧∀ p,H p=none→Q (.ref p) (upd H p (.Dz i j))):=by
 intro pins s σ H xs us Q I r h
 obtain⟨i,j,rfl,q⟩:=h
 obtain⟨u1,u2,rfl,⟨t,rfl⟩,⟨t',rfl⟩⟩:=r.two
 refine call_range_2 ⟨.ref s.heap.objs.size,_,I.laid (o:=.Dz i j) (fun b o e=>Heap.get?_push_of_some _ e) (fH _) ⟨t,t',s.toks,Heap.get?_push_size _ rfl⟩,rfl,q _ (I.hok.fresh (fH _))⟩
theorem sQ(hc:X.calm=true):mF X (.type "list") (fun xs H Q=>∃ p i j,xs=[.ref p]∧H p=some (.Dz i j)∧(-(2^62)≤i∧i<2^62∧-(2^62)≤j∧j<2^62)∧(j-i).toNat≤sizeLine ∧
  ∀ l,H l=none→Q (.ref l) (upd H l (.lst (A8 i (j-i).toNat)))):=by
 intro pins s σ H xs us Q I r h
 obtain⟨p,i,j,rfl,hp,⟨b1,b2,b3,b4⟩,hz,q⟩:=h
 obtain⟨u,rfl,rx⟩:=r.one
 cases (show u=Value.ref p from rx)
 obtain⟨t,u,v,e⟩:=(show gh X.prog X.w H s.heap p (.Dz i j) from I.hok p _ hp)
 have e2:Builtin.Range.rangeSize i j 1=(((j-i).toNat:Nat):Int):=by rw[rangeSize_one];split <;> omega
 have hz':(j-i).toNat≤2^24:=by have:=sizeLine_eq;omega
 refine call_list_range (I.ok.hd hc) e (small_one b1 b2 b3 b4) e2 hz' fun h' tk acc' c' hk hS hacc=>?_
 refine⟨.ref s.heap.objs.size,_,I.laid (o:=.lst (A8 i (j-i).toNat)) (t':=tk) hk (fH _) ⟨?_,acc'.toList,c',?_,by simpa using hS⟩,rfl,q _ (I.hok.fresh (fH _))⟩
 ·unfold A8;simpa using hz
 ·have hl:acc'.toList.length=(j-i).toNat:=by simpa using hacc.1
  have key:∀ (n:Nat) (us:List Value) (lo:Int),us.length=n→(∀ k v,us[k]?=some v→∃ t,v=Value.int (lo+(k:Nat)*1) t)→Vals ((List.range n).map fun i:Nat=>V.int (lo+i)) us:=by
   intro n
   induction n with
   | zero=>intro us lo hl _;cases us with
    | nil=>exact .nil
    | cons=>simp at hl
   | succ n ih =>
    intro us lo hl hv
    cases us with
    | nil=>simp at hl
    | cons u us =>
     rw[List.range_succ_eq_map,kO,List.map_map]
     refine .cons ?_ ?_
     ·obtain⟨t,e⟩:=hv 0 u rfl
      exact⟨t,by rw[e];simp⟩
     ·have:=ih us (lo+1) (by simpa using hl) fun k v e=>by
       obtain⟨t,e'⟩:=hv (k+1) v (by simpa using e)
       refine⟨t,?_⟩
       rw[e']
       have:lo+((k+1:Nat):Int)*1=lo+1+(k:Int)*1:=by omega
       rw[this]
      have e3:((fun i:Nat=>V.int (lo+i)) ∘ Nat.succ)=fun i:Nat=>V.int (lo+1+i):=by
       funext i
       simp only[Function.comp,Nat.succ_eq_add_one]
       have:lo+((i+1:Nat):Int)=lo+1+(i:Int):=by omega
       rw[this]
      rw[e3]
      exact this
  exact key _ _ i hl fun k v e=>hacc.2 k v (by simpa using e)
end
section
variable {X:Cx}
theorem KJ{j:Int}(h0:0<j)(h1:j<10^70):j.natAbs.log2<9000:=by
 have h:j.natAbs<2^9000:=Nat.lt_trans (show j.natAbs<10^70 by omega) (by decide +kernel)
 exact (Nat.log2_lt (by omega)).mpr h
theorem yJ:uB X (binaryOp .FloorDiv) (rI (fun _ j=>0<j∧j<10^70) fun i j=>.int (i / j)):=Uc fun i j _ _ _ _ _ hc q=>by
 have h1:(0:Int)<j:=hc.1
 exact floordiv_int (by omega) (by rw[Int.fdiv_eq_ediv_of_nonneg i (by omega)];exact q) (.inl (PyProof.noPylong_of_log2 (KJ hc.1 hc.2)))
theorem Eb(hc:X.calm=true):mF X (.builtin "sum") (fun xs H Q=>∃ (p:Addr) (ns:List Int),xs=[.ref p]∧bG X.K H p (ns.map V.int)∧Q (.int ns.sum) H):=by
 intro pins s σ H xs us Q I r h
 obtain⟨p,ns,rfl,hq,q⟩:=h
 obtain⟨u,rfl,rx⟩:=r.one
 cases (show u=Value.ref p from rx)
 obtain⟨its,rv,pl,hz⟩:=I.list hq
 have hi:IntsAre its ns:=intsAre_of rv
 have hall:AllInts its.toArray:=hi.allInts
 obtain⟨zs,ez⟩:=hall.items
 have hl:=pl.isList
 have es:(numsOf its.toArray.toList).sum=ns.sum:=by rw[show its.toArray.toList=its from rfl,hi.numsOf]
 rw[ez]at hl es
 rw[nums_intItems]at es
 refine PySem.sum_intListG (I.ok.hd hc) hl fun h' tk t' hk=>⟨.int ns.sum,H,I.kept hk,⟨t',?_⟩,q⟩
 rw[preSum_eq,yk (by simp),es]
end
end cR
namespace iR
abbrev Row:=List (Int × Int)
def grow(t:Row)(s e:Int):Row :=
 match t.getLast? with
 | some p=>if p.2=s then t.dropLast++[(p.1,e)] else t++[(s,e)]
 | none=>t++[(s,e)]
def cY(t:Row)(p:Int × Int):Row:=if p.1=p.2 then t else grow t p.1 p.2
def dm(r:Row):Row:=r.foldl cY []
def run(s:Int):Nat→List Int
 | 0=>[]
 | n+1=>s::run (s+1) n
def span(p:Int × Int):List Int:=run p.1 (p.2-p.1).toNat
def aS(r:Row):List Int:=r.flatMap span
def rowOf(ns:List Int):Row:=ns.foldl (fun t n=>grow t n (n+1)) []
theorem iF(s:Int)(n:Nat):(run s n).length=n:=by
 induction n generalizing s with
 | zero=>rfl
 | succ n ih=>simp[run,ih]
theorem pH(s e:Int):grow [] s e=[(s,e)]:=rfl
theorem pI(t:Row){q:Int × Int}{s:Int}{e:Int}(h:q.2=s):grow (t++[q]) s e=t++[(q.1,e)]:=by
 simp[grow,h]
theorem pJ(t:Row){q:Int × Int}{s:Int}{e:Int}(h:¬ q.2=s):grow (t++[q]) s e=t++[q]++[(s,e)]:=by
 simp[grow,h]
theorem I0(t:Row)(a s e:Int):grow (t++[(a,s)]) s e=t++[(a,e)]:=by
 simp[grow]
theorem yK(t:Row)(a s:Int)(n:Nat):(run s n).foldl (fun t n=>grow t n (n+1)) (t++[(a,s)])=t++[(a,s+n)]:=by
 induction n generalizing s with
 | zero=>simp[run]
 | succ n ih =>
  rw[run,oS,I0,ih]
  have:s+1+(n:Int)=s+((n+1:Nat):Int):=by omega
  rw[this]
theorem KL(t:Row)(p:Int × Int)(h:p.1≤p.2):cY t p=(span p).foldl (fun t n=>grow t n (n+1)) t:=by
 obtain⟨s,e⟩:=p
 simp only at h
 unfold cY span
 by_cases he:s=e
 ·subst he;simp[run]
 ·obtain⟨n,hn⟩:∃ n:Nat,e=s+1+n:=⟨(e-s-1).toNat,by omega⟩
  subst hn
  rw[if_neg he]
  have h2:((s,s+1+(n:Int)).2-(s,s+1+(n:Int)).1).toNat=n+1:=by simp only;omega
  rw[h2,run,oS]
  simp only
  rcases tD t with rfl|⟨u,q,rfl⟩
  ·rw[pH,pH]
   exact (yK [] s (s+1) n).symm
  ·by_cases hq:q.2=s
   ·rw[qA,pI u hq,pI u hq,yK]
   ·rw[qA,pJ u hq,pJ u hq,yK]
theorem nH{α β γ:Type}(f:γ→β→γ)(g:α→List β):∀ (l:List α) (c:γ),(l.flatMap g).foldl f c=l.foldl (fun c a=>(g a).foldl f c) c
 | [],_=>rfl
 | a::l,c=>by rw[nh,List.foldl_append,oS,nH f g l]
theorem Ec(r:Row)(h:∀ p∈r,p.1≤p.2):dm r=rowOf (aS r):=by
 unfold dm rowOf aS
 rw[nH]
 have key:∀ (r:Row),(∀ p∈r,p.1≤p.2)→∀ t:Row,r.foldl cY t=r.foldl (fun c a=>(span a).foldl (fun t n=>grow t n (n+1)) c) t:=by
  intro r
  induction r with
  | nil=>intro _ t;rfl
  | cons p r ih =>
   intro h t
   rw[oS,oS,KL t p (h p (qH ..))]
   exact ih (fun q hq=>h q (rV _ hq)) _
 exact key r h []
theorem wO(t:Row)(s e:Int):(grow t s e).length≤t.length+1:=by
 rcases tD t with rfl|⟨u,q,rfl⟩
 ·rw[pH];simp
 ·by_cases hq:q.2=s
  ·rw[qA,pI u hq];simp
  ·rw[qA,pJ u hq];simp
theorem foldl_take_succ{α β:Type}(f:β→α→β)(l:List α)(b:β)(i:Nat)(x:α)(h:l[i]?=some x):(l.take (i+1)).foldl f b=f ((l.take i).foldl f b) x:=by
 rw[List.take_add_one,h,List.foldl_append]
 rfl
end iR
namespace iR
def tot(r:Row):Int:=(r.map fun p=>p.2-p.1).sum
theorem MQ:tot []=0:=rfl
theorem Ed(p:Int × Int)(r:Row):tot (p::r)=(p.2-p.1)+tot r:=by simp[tot]
theorem KN(r:Row)(p:Int × Int):tot (r++[p])=tot r+(p.2-p.1):=by simp[tot]
theorem yL(r q:Row):tot (r++q)=tot r+tot q:=by simp[tot]
theorem take_snoc{α:Type}{l:List α}{i:Nat}{x:α}(h:l[i]?=some x):l.take (i+1)=l.take i++[x]:=by rw[List.take_add_one,h];rfl
end iR
namespace iR
theorem uI(s:Int)(n:Nat):run s (n+1)=run s n++[s+n]:=by
 induction n generalizing s with
 | zero=>simp[run]
 | succ n ih =>
  rw[run,ih,run]
  have:s+1+(n:Int)=s+((n+1:Nat):Int):=by omega
  rw[this];rfl
theorem A9{a n:Int}(h:a≤n):span (a,n+1)=span (a,n)++[n]:=by
 unfold span
 have e:((a,n+1).2-(a,n+1).1).toNat=((a,n).2-(a,n).1).toNat+1:=by simp only;omega
 rw[e,uI]
 have:a+((((a,n).2-(a,n).1).toNat:Nat):Int)=n:=by simp only;omega
 simp only at this ⊢
 rw[this]
theorem Ef(n:Int):span (n,n+1)=[n]:=by
 have:=A9 (a:=n) (n:=n) (Int.le_refl _)
 rw[this]
 have e:span (n,n)=[]:=by unfold span;simp[run]
 rw[e];rfl
theorem cC(r q:Row):aS (r++q)=aS r++aS q:=by unfold aS;rw[List.flatMap_append]
theorem gS(p:Int × Int):aS [p]=span p:=by simp[aS]
theorem Gg(t:Row)(n:Int)(h:∀ p∈t,p.1≤p.2):aS (grow t n (n+1))=aS t++[n]:=by
 rcases tD t with rfl|⟨u,q,rfl⟩
 ·rw[pH,gS,Ef];rfl
 ·rw[qA]at h ⊢
  by_cases hq:q.2=n
  ·obtain⟨a,b⟩:=q
   simp only at hq
   subst hq
   have hb:a≤b:=h (a,b) (by simp)
   rw[pI u rfl,cC,cC,gS,gS,A9 hb,pC]
  ·rw[pJ u hq,cC,gS,Ef]
theorem Hx(t:Row)(n:Int)(h:∀ p∈t,p.1≤p.2):∀ p∈grow t n (n+1),p.1≤p.2:=by
 rcases tD t with rfl|⟨u,q,rfl⟩
 ·rw[pH];intro p hp;simp at hp;subst hp;show n≤n+1;omega
 ·rw[qA]at h ⊢
  by_cases hq:q.2=n
  ·rw[pI u hq]
   intro p hp
   rcases List.mem_append.mp hp with z|z
   ·exact h p (List.mem_append_left _ z)
   ·simp at z;subst z
    have:=h q (by simp)
    show q.1≤n+1
    omega
  ·rw[pJ u hq]
   intro p hp
   rcases List.mem_append.mp hp with z|z
   ·exact h p z
   ·simp at z;subst z;show n≤n+1;omega
theorem dX(ns:List Int):aS (rowOf ns)=ns:=by
 have key:∀ (ns:List Int) (t:Row),(∀ p∈t,p.1≤p.2)→aS (ns.foldl (fun t n=>grow t n (n+1)) t)=aS t++ns:=by
  intro ns
  induction ns with
  | nil=>intro t _;simp
  | cons n ns ih =>
   intro t h
   rw[oS,ih _ (Hx t n h),Gg t n h,pC];rfl
 have:=key ns [] (fun p hp=>by cases hp)
 simpa [rowOf,aS] using this
theorem pK(ns:List Int):∀ p∈rowOf ns,p.1≤p.2:=by
 have key:∀ (ns:List Int) (t:Row),(∀ p∈t,p.1≤p.2)→∀ p∈ns.foldl (fun t n=>grow t n (n+1)) t,p.1≤p.2:=by
  intro ns
  induction ns with
  | nil=>intro t h;exact h
  | cons n ns ih=>intro t h;exact ih _ (Hx t n h)
 exact key ns [] (fun p hp=>by cases hp)
end iR
namespace iR
theorem wQ(p:Int × Int)(h:p.1≤p.2):((span p).length:Int)=p.2-p.1:=by
 unfold span;rw[iF];omega
theorem pL:∀ (r:Row),(∀ p∈r,p.1≤p.2)→((aS r).length:Int)=tot r
 | [],_=>rfl
 | p::r,h=>by
  have ih:=pL r fun q hq=>h q (rV _ hq)
  have hp:=wQ p (h p (qH ..))
  have e:aS (p::r)=span p++aS r:=rfl
  rw[e,eZ,Ed]
  omega
end iR
namespace iR
open PySem L2 cR
structure aA(K:PySem.W.Frag)(mg:Str→Option Value)(x:Str)(st:Stmt)(ps:List Str)(a:Addr)(d:FuncData):Prop where
 F:gX K x x st a d
 b:Binds K d ps []
 m:mg x=some (.ref a)
section
variable {X:Cx}
theorem aP{x:Str}{st:Stmt}{ps:List Str}{f:Addr}{fd:FuncData}{j k:Nat}{sp:Sp}{e:Expr}{es:List Expr}{t:TA}{p pos:Pos}(d:aA X.K X.mg x st ps f fd)(G:aF X.prog X.w X.K X.mg X.base bN k f fd ps sp)(hr:kq j X.A)
  (ha:PA X (e::es) t) (hjk:k≤j:=by first|decide|omega) (hg:Gl X x:=by rfl) (hdb:(x == ("__debug__":Str))=false:=by decide) (he:starEach (e::es) X.env=(false,eval e X.env)::starEach es X.env:=by rfl)
  (hpl:(backTo pos (starEach es X.env)).any (·.1)=false:=by rfl):PE X (.Call (.Name x p) (e::es) [] pos) (DR sp [] E0 t) :=
 B0 G (hr.mono hjk) hg d.m d.F.kp d.b .nil cK ha hdb he hpl
theorem vC{st:Stmt}{t t':TS}(h:PS X st t)(hi:∀ D σ H,t' D σ H→t D σ H):PS X st t':=fun pins s σ H D I q=>h pins s σ H D I (hi D σ H q)
end
def cA(l:Addr)(H H':Hp):Prop:=∀ a o,H a=some o→a≠l→H' a=some o
theorem aH.keep{l:Addr}{H H':Hp}(s:aH H H'):cA l H H':=fun a o e _=>s a o e
theorem cA.trans{l:Addr}{H H1 H2:Hp}(a:cA l H H1)(b:cA l H1 H2):cA l H H2:=fun c o e n=>b c o (a c o e n) n
theorem aI(l:Addr)(H:Hp)(o:HO):cA l H (upd H l o):=fun a u e n=>by rw[aC n];exact e
theorem bV{l:Addr}{H H1 H2:Hp}(h:H l=none)(a:aH H H1)(b:cA l H1 H2):aH H H2:=fun c o e=>b c o (a c o e) (au e h)
theorem aj{H:Hp}{p:Addr}(h:H p=none)(o:HO):aH H (upd H p o):=fun b u q=>by rw[aC (au q h)];exact q
theorem jy{l a:Addr}{H H':Hp}(k:cA l H H')(n:a≠l)(h:H' a=none):H a=none:=by
 cases q:H a with
 | none=>rfl
 | some o=>rw[k a o q n]at h;cases h
def cV(H:Hp)(l c:Addr):Prop:=c≠l∧∃ (ns:List Int) (i d r:Int),H l=some (.lst [.ref c,.int i,.int d,.int r])∧H c=some (.lst (ns.map V.int))∧0≤i∧0≤r∧r<2147483647
theorem cV.same{H H':Hp}{l c:Addr}(s:cV H l c)(k:aH H H'):cV H' l c:=by
 obtain⟨n,ns,i,d,r,h1,h2,h3⟩:=s
 exact⟨n,ns,i,d,r,k _ _ h1,k _ _ h2,h3⟩
theorem cV.keep{H H':Hp}{l c m:Addr}(s:cV H l c)(k:cA m H H')(h1:l≠m)(h2:c≠m):cV H' l c:=by
 obtain⟨n,ns,i,d,r,e1,e2,h3⟩:=s
 exact⟨n,ns,i,d,r,k _ _ e1 h1,k _ _ e2 h2,h3⟩
theorem cV.ne{H:Hp}{l c a:Addr}(s:cV H l c)(h:H a=none):l≠a∧c≠a:=by
 obtain⟨n,ns,i,d,r,e1,e2,h3⟩:=s
 exact⟨au e1 h,au e2 h⟩
theorem RM{a b c d:V}:uE [a,b,c,d] 0=some a:=rfl
theorem Pp{a b c d:V}:uE [a,b,c,d] 1=some b:=rfl
theorem MR{a b c d:V}:uE [a,b,c,d] 2=some c:=rfl
theorem RN{a b c d:V}:uE [a,b,c,d] 3=some d:=rfl
theorem RO{a b:V}:uE [a,b] 0=some a:=rfl
theorem RP{a b:V}:uE [a,b] 1=some b:=rfl
inductive qO(vs:List V)(H:Hp)(Q:VK)(E:XK):Prop
 | mk (l c:Addr) (b:Int) (_:vs=[.ref l,.int b]) (_:cV H l c) (_:0<b) (_:b<10^70) (_ :
 ∀ (v:Int) (H':Hp),0≤v→v<b→cV H' l c→(∀ a,a≠l→H' a=H a)→Q (.int v) H'):qO vs H Q E
inductive KO(K:PySem.W.Frag)(vs:List V)(H:Hp)(Q:VK)(E:XK):Prop
 | mk (a:Addr) (ns:List Int) (_:vs=[.ref a]) (_:bG K H a (ns.map V.int)) (_ :
 ∀ (l c:Addr) (H':Hp),cV H' l c→aH H H'→H l=none→H c=none→Q (.ref l) H'):KO K vs H Q E
def flat:V→Bool
 | .int _ | .bl _ | .str _ | .jE=>true
 | _=>false
def KP(k:Bool)(H:Hp)(a:Addr)(xs:List V):Prop:=match k with
 | true=>H a=some (.lst xs)
 | false=>H a=some (.tup xs)
theorem KP.same{k:Bool}{H H':Hp}{a:Addr}{xs:List V}(h:KP k H a xs)(s:aH H H'):KP k H' a xs:=by
 cases k
 ·exact s _ _ h
 ·exact s _ _ h
theorem KP.sq{K:PySem.W.Frag}{k:Bool}{H:Hp}{a:Addr}{xs:List V}(h:KP k H a xs):Hv K k H a xs:=by
 cases k
 ·exact jK.of h
 ·exact bG.of h
def Eqv(H:Hp):Nat→V→V→Prop
 | 0,_,_=>False
 | n+1,x,y=>(flat x=true∧x=y)∨∃ (k:Bool) (a b:Addr) (xs ys:List V),x=.ref a∧y=.ref b∧KP k H a xs∧KP k H b ys∧xs.length=ys.length ∧
   ∀ (i:Nat) (u v:V),xs[i]?=some u→ys[i]?=some v→Eqv H n u v
theorem Eqv.same{H H':Hp}(s:aH H H'):∀ {n:Nat} {x y:V},Eqv H n x y→Eqv H' n x y
 | 0,_,_,h=>h
 | n+1,x,y,h=>by
  rcases h with h|⟨k,a,b,xs,ys,e1,e2,h1,h2,hl,hi⟩
  ·exact .inl h
  ·exact .inr ⟨k,a,b,xs,ys,e1,e2,h1.same s,h2.same s,hl,fun i u v eu ev=>Eqv.same s (hi i u v eu ev)⟩
theorem Eqv.int{H:Hp}{n:Nat}(i:Int):Eqv H (n+1) (.int i) (.int i):=.inl ⟨rfl,rfl⟩
def tM(n:Nat):Sp:=fun vs H Q _=>∃ x y,vs=[x,y]∧Eqv H n x y∧∀ H',aH H H'→Q (.bl true) H'
inductive Ca(vs:List V)(H:Hp)(Q:VK)(E:XK):Prop
 | mk (i:Int) (_:vs=[.int i]) (_:Q (.bl true) H):Ca vs H Q E
section
variable (K:PySem.W.Frag)
theorem RQ:PySem.W.kitOne K (.type "bool") (.type "bool")=some true:=by rfl
theorem RS:PySem.W.kitOne K (.type "int") (.type "bool")=some false:=by kernel_rfl
theorem RT:PySem.W.kitOne K (.type "int") (.type "int")=some true:=by rfl
theorem aby:PySem.W.kitOne K (.type "str") (.type "bool")=some false:=by kernel_rfl
theorem abz:PySem.W.kitOne K (.type "str") (.type "int")=some false:=by kernel_rfl
theorem RU:PySem.W.kitOne K (.type "str") (.type "str")=some true:=by rfl
theorem abA:PySem.W.kitOne K (.type "list") (.type "bool")=some false:=by kernel_rfl
theorem abB:PySem.W.kitOne K (.type "list") (.type "int")=some false:=by kernel_rfl
theorem abC:PySem.W.kitOne K (.type "list") (.type "str")=some false:=by kernel_rfl
theorem RV:PySem.W.kitOne K (.type "list") (.type "list")=some true:=by rfl
theorem k_lt:PySem.W.kitOne K (.type "list") (.type "tuple")=some false:=by kernel_rfl
theorem abD:PySem.W.kitOne K (.type "tuple") (.type "bool")=some false:=by kernel_rfl
theorem abE:PySem.W.kitOne K (.type "tuple") (.type "int")=some false:=by kernel_rfl
theorem abF:PySem.W.kitOne K (.type "tuple") (.type "str")=some false:=by kernel_rfl
theorem abG:PySem.W.kitOne K (.type "tuple") (.type "list")=some false:=by kernel_rfl
theorem abH:PySem.W.kitOne K (.type "tuple") (.type "tuple")=some true:=by rfl
end
def QJ(k:Bool):Value:=.type (if k then "list" else "tuple")
theorem KP.ty{K:PySem.W.Frag}{k:Bool}{H:Hp}{a:Addr}{xs:List V}(h:KP k H a xs):lP K H (.ref a) (QJ k):=by
 cases k
 ·exact lP.tup h
 ·exact lP.lst h
theorem abI(K:PySem.W.Frag)(k:Bool):PySem.W.kitOne K (QJ k) (.type "bool")=some false:=by cases k;exact abD K;exact abA K
theorem abJ(K:PySem.W.Frag)(k:Bool):PySem.W.kitOne K (QJ k) (.type "int")=some false:=by cases k;exact abE K;exact abB K
theorem abK(K:PySem.W.Frag)(k:Bool):PySem.W.kitOne K (QJ k) (.type "str")=some false:=by cases k;exact abF K;exact abC K
theorem RW(K:PySem.W.Frag)(k:Bool):PySem.W.kitOne K (QJ k) (.type "list")=some k:=by cases k;exact abG K;exact RV K
theorem RX(K:PySem.W.Frag)(k:Bool):PySem.W.kitOne K (QJ k) (.type "tuple")=some (!k):=by cases k;exact abH K;exact k_lt K
def vD(H:Hp)(a:Addr)(p:Int × Int):Prop:=H a=some (.tup [.int p.1,.int p.2])
abbrev aX(H:Hp):List Addr→Row→Prop:=Paired (vD H)
inductive bP(H:Hp)(r:Addr)(row:Row):Prop
 | mk (as:List Addr) (_:H r=some (.lst (as.map V.ref))) (_:aX H as row):bP H r row
theorem aX.tups{H H':Hp}{as:List Addr}{row:Row}(h:aX H as row)(t:∀ a xs,H a=some (.tup xs)→H' a=some (.tup xs)):aX H' as row:=Paired.DJ h fun a p e=>t a _ e
theorem aX.same{H H':Hp}{as:List Addr}{row:Row}(h:aX H as row)(s:aH H H'):aX H' as row:=h.tups fun a xs e=>s a _ e
theorem bP.same{H H':Hp}{r:Addr}{row:Row}(h:bP H r row)(s:aH H H'):bP H' r row:=by
 obtain⟨as,h1,h2⟩:=h
 exact⟨as,s _ _ h1,h2.same s⟩
theorem aX.keep{H H':Hp}{as:List Addr}{row:Row}{l:Addr}{xs:List V}(h:aX H as row)(hl:H l=some (.lst xs))(s:cA l H H'):aX H' as row :=
 h.tups fun a ys e=>s a _ e (cE e hl (by intro z;cases z))
theorem bP.keep{H H':Hp}{r:Addr}{row:Row}{l:Addr}{xs:List V}(h:bP H r row)(hl:H l=some (.lst xs))(n:r≠l)(s:cA l H H'):bP H' r row:=by
 obtain⟨as,h1,h2⟩:=h
 exact⟨as,s _ _ h1 n,h2.keep hl s⟩
theorem aX.get{H:Hp}:∀ {as:List Addr} {row:Row} {i:Nat} {a:Addr},aX H as row→as[i]?=some a→∃ p,row[i]?=some p∧vD H a p
 | _,_,_,_,.nil,e=>by simp at e
 | _,_,0,_,.cons r _,e=>by simp at e;subst e;exact⟨_,rfl,r⟩
 | _,_,i+1,a,.cons _ t,e=>by
  obtain⟨p,h1,h2⟩:=aX.get (i:=i) (a:=a) t (by simpa using e)
  exact⟨p,by simpa using h1,h2⟩
theorem aX.snoc{H:Hp}:∀ {as:List Addr} {row:Row} {a:Addr} {p:Int × Int},aX H as row→vD H a p→aX H (as++[a]) (row++[p])
 | _,_,_,_,.nil,e=>.cons e .nil
 | _,_,_,_,.cons r t,e=>.cons r (aX.snoc t e)
theorem aX.split{H:Hp}:∀ {as:List Addr} {row:Row} {p:Int × Int},aX H as (row++[p])→∃ bs a,as=bs++[a]∧aX H bs row∧vD H a p
 | as,[],p,h=>by
  cases h with
  | cons r t=>cases t;exact⟨[],_,rfl,.nil,r⟩
 | as,q::row,p,h=>by
  cases h with
  | cons r t =>
   obtain⟨bs,a,rfl,h1,h2⟩:=aX.split (row:=row) (p:=p) t
   exact⟨_::bs,a,rfl,.cons r h1,h2⟩
theorem aX.len{H:Hp}{as:List Addr}{row:Row}(h:aX H as row):as.length=row.length:=Paired.length h
theorem lU{α:Type}(xs:List α)(v:α):uE (xs++[v]) (-1)=some v:=Kq xs v
theorem Eg(n:Nat):Hl (n+1) (-1)=some n:=by
 unfold Hl
 rw[if_neg (by decide),if_pos (by omega)]
 congr 1
 omega
theorem Eh{α:Type}(xs:List α)(a b:α):(xs++[a]).set xs.length b=xs++[b]:=by
 simp
theorem yM(lo:Int)(n:Nat):A8 lo n=(run lo n).map V.int:=by
 unfold A8
 induction n generalizing lo with
 | zero=>rfl
 | succ n ih =>
  rw[List.range_succ_eq_map,kO,List.map_map,run,kO,← ih (lo+1)]
  congr 1
  ·simp
  ·apply List.map_congr_left
   intro i _
   simp only[Function.comp,Nat.succ_eq_add_one]
   congr 1
   omega
inductive Cb(lim:Nat)(vs:List V)(H:Hp)(Q:VK)(E:XK):Prop
 | mk (r:Addr) (row:Row) (_:vs=[.ref r]) (_:bP H r row) (_:(∀ p∈row,0≤p.1∧p.1≤p.2∧p.2<2^62)) (_:(aS row).length≤1000000) (_:row.length≤lim) (_ :
 ∀ (n:Addr) (H':Hp),H' n=some (.lst ((aS row).map V.int))→aH H H'→H n=none→Q (.ref n) H'):Cb lim vs H Q E
inductive xT(vs:List V)(H:Hp)(Q:VK)(E:XK):Prop
 | mk (r:Addr) (row:Row) (_:vs=[.ref r]) (_:bP H r row) (_:row.length≤1000000) (_ :
 ∀ (q:Addr) (H':Hp),bP H' q (dm row)→aH H H'→H q=none→Q (.ref q) H'):xT vs H Q E
theorem aL{n:Nat}(h:n≤1000001):n<sizeLine:=Nat.lt_of_le_of_lt h (by decide)
end iR
namespace iR
open PySem L2 cR
def Pq:TS:=fun D σ H=>∃ (l c:Addr) (b:Int),σ=[some (.ref l),some (.int b),none,none]∧cV H l c ∧
 ∀ (cell:Option V) (H':Hp),cV H' l c→(∀ a,a≠l→H' a=H a)→D.nx [some (.ref l),some (.int b),cell,none] H'
def Pr:TS:=fun D σ H=>∃ (l c:Addr) (b:Int),σ=[some (.ref l),some (.int b),some (.int 7),none]∧cV H l c ∧
 ∀ (cell:Int) (H':Hp),cV H' l c→(∀ a,a≠l→H' a=H a)→D.nx [some (.ref l),some (.int b),some (.int cell),none] H'
theorem MS{ns:List Int}{i:Int}(h0:0≤i)(h1:i<(ns.length:Int)):∃ v:Int,uE (ns.map V.int) i=some (.int v):=by
 have hk:i.toNat<ns.length:=by omega
 refine⟨ns[i.toNat],?_⟩
 have q:uE (ns.map V.int) ((i.toNat:Nat):Int)=some (.int ns[i.toNat]):=cU (by rw[qG,oj hk] <;> rfl)
 have ei:((i.toNat:Nat):Int)=i:=by omega
 rw[ei]at q
 exact q
theorem KQ(ns:List Int)(lo hi:Option Int):∃ ms:List Int,rZ (ns.map V.int) lo hi=ms.map V.int:=by
 unfold rZ
 refine⟨(ns.drop (HT.gH (ns.map V.int).length 0 lo)).take (HT.gH (ns.map V.int).length (ns.map V.int).length hi-HT.gH (ns.map V.int).length 0 lo),?_⟩
 rw[List.map_take,List.map_drop]
theorem tt{p:Prop} [Decidable p] {Q:V→Hp→Prop} {H:Hp} (hp:p) (h:Q (.bl true) H):Q (.bl (decide p)) H:=by
 rw[decide_eq_true hp]
 exact h
theorem KP.or{K:PySem.W.Frag}{k:Bool}{H:Hp}{a:Addr}{xs:List V}(h:KP k H a xs):bG K H a xs∨jK K H a xs:=by
 cases k
 ·exact .inr (jK.of h)
 ·exact .inl (bG.of h)
theorem cN{l:Addr}{H H':Hp}(k:∀ a,a≠l→H' a=H a):cA l H H':=fun a o e n=>by rw[k a n];exact e
end iR
namespace iR
open PySem L2 cR
theorem cV.lst{H:Hp}{l c:Addr}(s:cV H l c):∃ xs,H l=some (.lst xs):=by
 obtain⟨n,ns,i,d,r,e1,_⟩:=s
 exact⟨_,e1⟩
end iR
namespace cR
open PySem PySem.Spec PyProof.Rows L2
def qB(X:Cx)(N:List Str)(scope:Scope)(C:Addr)(s₀:Shared)(H₀:Hp)(ex:List Addr)(pn:List (Addr × Obj)):Cx where
 prog:=X.prog
 w:=X.w
 K:=X.K
 mg:=X.mg
 base:=X.base
 A:=X.A
 N:=N
 s₀:=s₀
 H₀:=H₀
 env:=newEnv scope C X.env.globals [] X.env.qual none .none (some X.env) X.env.builtins
 outer:=X.stack
 stack:=X.stack
 ex:=ex
 fn:=fun _=>true
 calm:=X.calm
 pn:=pn
 xe:=fun _ _=>False
structure vE(scope:Scope):Prop where
 kind:scope.kind=.function
 free:∀ x∈scope.names,x.2≠.free
 cell:∀ x∈scope.names,x.2≠.cell
 names:∀ x∈scope.names,x.2=.local→scope.names.lookup x.1=some .local
section
variable {prog:Program} {w:World} {A:Around} {R:Result→Shared→Prop} {s:Shared}
def rH(ifs:List Expr)(env:Env):Sem Bool:=forIn ifs true fun c r=>if r=true then do let ok ← isTrue c env (eval c env);pure (ForInStep.yield ok) else pure (ForInStep.yield r)
theorem Ba{elt target iter:Expr}{ifs:List Expr}{scope:Scope}{pos:Pos}{it acc:Value}{env:Env}(I:Nat→Shared→Prop)
  (turn:∀ n s,I n s→wpAny (model prog w) A (pyNext it) (fun r s₁=>match r with
   | none=>R (.ok .next) s₁
   | some v=>wpAny (model prog w) A (letOwnedTupleGo target it v) (fun _ s₂=>wpAny (model prog w) A (assign target env v) (fun _ s₃ =>
     wpAny (model prog w) A (rH ifs env) (fun ok s₄ =>
      if ok=true then wpAny (model prog w) A (eval elt env) (fun x s₅=>wpAny (model prog w) A (call (.builtin "list.append") [acc,x]) (fun _ s₆=>∃ m,m<n∧I m s₆) (fun _ _=>False) s₅) (fun _ _=>False) s₄
      else ∃ m,m<n∧I m s₄) (fun _ _=>False) s₃) (fun _ _=>False) s₂) (fun _ _=>False) s₁) (fun _ _=>False) s)
  (n:Nat) (h:I n s):codeAny (model prog w) A (.compLoop (.ListComp elt [⟨target,iter,ifs,0⟩] scope pos) 0 it acc env) R s:=by
 refine codeAny_loop rfl I (fun n s hI=>?_) n h
 show wpAny _ A ((compTurn (.ListComp elt [⟨target,iter,ifs,0⟩] scope pos) 0 it acc env).onRaise (fun x=>do noteFrame x env;theTreesLotGoes x)) _ _ s
 refine wpAny_noted ?_
 rw[compTurn_list]
 refine wpAny_bind (wpAny_standAt (wpAny_bind (wpAny_mono (turn n s hI) (fun r s₁ h₁=>?_) fun _ _ h'=>h'.elim)))
 cases r with
 | none=>exact wpAny_pure h₁
 | some v =>
  refine wpAny_bind (wpAny_mono h₁ (fun _ s₂ h₂=>wpAny_bind (wpAny_mono h₂ (fun _ s₃ h₃=>wpAny_bind (wpAny_mono h₃ (fun ok s₄ h₄=>?_) fun _ _ h'=>h'.elim)) fun _ _ h'=>h'.elim)) fun _ _ h'=>h'.elim)
  cases ok with
  | false=>exact wpAny_pure ⟨rfl,h₄⟩
  | true=>exact wpAny_bind (wpAny_bind (wpAny_mono h₄ (fun x s₅ h₅=>wpAny_bind (wpAny_mono h₅ (fun _ s₆ h₆=>wpAny_pure (wpAny_pure ⟨rfl,h₆⟩)) fun _ _ h'=>h'.elim)) fun _ _ h'=>h'.elim))
end
section
variable {X:Cx} {N:List Str} {scope:Scope}
theorem yN{pins:List (Addr × Obj)}{σ:L2.St}{H:Hp}{s:Shared}{fp:List Addr}{h₁:Heap}{t:Nat}(cs:vE scope)(I:Inv X pins σ H s)(hf:∀ b∈fp,mw X pins H b)(hlt:∀ b∈fp,b<s.heap.objs.size)
  (hns:h₁.Ns s.heap.objs.size fun _=>none) (hk:∀ b o,s.heap.get? b=some o→h₁.get? b=some o) :
  Inv (qB X N scope s.heap.objs.size s H fp (X.pn++pins)) [] (List.replicate N.length none) H { s with heap:=h₁,toks:=t }:=by
 have RY:∀ {x c},(qB X N scope s.heap.objs.size s H fp (X.pn++pins)).env.cells.lookup x=some c→False:=fun {x c} e=>by
  have e':(none:Option Addr)=some c:=e
  cases e'
 refine⟨⟨I.ok.mod,cs.kind,I.ok.glob,I.ok.blt,fH _,fun x y c e _=>(RY e).elim,fun x hx=>?_,fun x c _ e=>(RY e).elim,I.ok.hd,I.ok.frames,.inl rfl,fun b hb=>⟨Nat.ne_of_lt (hlt b hb),fun x c e=>(RY e).elim⟩,I.bs,mL I.ok.Mw I.sz,fun b o e hb=>?_,fun b hb z=>?_,I.stack,I.uz⟩,
  rfl,I.bare,Un.kept hk,⟨_,hns,fun i x v e1 e2 _=>?_⟩,fun x c e=>(RY e).elim,I.hok.fresh (fH _),fun x c e=>(RY e).elim,fun p hp=>?_,I.hok.kept hk,by rw[ux];rfl⟩
 ·have hx':scope.names.lookup x=some .cell∨scope.names.lookup x=some .free:=hx
  rcases hx' with z|z
  ·exact absurd rfl (cs.cell _ (PySem.mem_of_lookup z))
  ·exact absurd rfl (cs.free _ (PySem.mem_of_lookup z))
 ·rcases (hf b hb).2.2.2.1 with z|z
  ·exact I.ok.ID b o e z
  ·exact absurd (pU (Heap.lt_size (I.ok.bs b o e).1) z) (Nat.lt_irrefl _)
 ·rcases List.mem_cons.mp (I.oU b z) with e|e
  ·exact (hf b hb).2.1 e
  ·exact (hf b hb).2.2.1 e
 ·rw[List.getElem?_replicate]at e2
  split at e2 <;> cases e2
 ·have Hy:p∈X.pn++pins:=by
   have z:p∈(X.pn++pins)++[]:=hp
   simpa using z
  obtain⟨e,n,nl,nf,d⟩:=I.pin p Hy
  refine⟨hk _ _ e,n,jL (Heap.lt_size e),fun z=>?_,d⟩
  rcases List.mem_cons.mp (I.oU p.1 z) with e|e
  ·exact nl e
  ·exact nf e
theorem Ei{pins:List (Addr × Obj)}{σ σ':L2.St}{H H':Hp}{s s':Shared}{fp:List Addr}{h':Heap}(I:Inv X pins σ H s)(hf:∀ b∈fp,mw X pins H b)(J:Inv (qB X N scope s.heap.objs.size s H fp (X.pn++pins)) [] σ' H' s')
  (hs:Heap.SameBut s.heap.objs.size s'.heap h'):Inv X pins σ H' { s' with heap:=h' }:=by
 have I4:Inv X pins σ H' s':=I.J9 (ch:=fp) J.os J.base J.hok J.bare fun b hb=>⟨(hf b hb).2.2.2.1,(hf b hb).2.1,(hf b hb).2.2.2.2.1,(hf b hb).2.2.2.2.2⟩
 refine I4.turned (t':=s'.toks) (it:=s.heap.objs.size) (fun b o hb e=>hs.extBut _ _ hb e) J.free (Nat.ne_of_gt I.lt) (.inr I.sz) (fun x c e z=>?_) fun p hp z=>?_
 ·obtain⟨v,o,ho,_⟩:=I.cell x c e
  exact absurd (Heap.lt_size ho) (by rw[z];exact Nat.lt_irrefl _)
 ·exact absurd (Heap.lt_size (I.pin p hp).1) (by rw[z];exact Nat.lt_irrefl _)
def FF(X:Cx)(ifs:List Expr)(t:TT):Prop :=
 ∀ (pins:List (Addr × Obj)) (s:Shared) (σ:L2.St) (H:Hp) (Q:Bool→Hp→Prop),Inv X pins σ H s→t σ H Q→wpAny (model X.prog X.w) X.A (rH ifs X.env) (TP X pins σ Q) X.xe s
def KR:TT:=fun _ H Q=>Q true H
theorem iG:FF X [] KR:=fun pins s σ H Q I h=>wpAny_tests_nil ⟨H,I,h⟩
theorem Hz{c:Expr}{t:TT}(h:PT X c t):FF X [c] t:=fun pins s σ H Q I q=>wpAny_tests_one (h pins s σ H Q I q)
def KS(J:It)(acc:Addr)(g:TG)(tt:TT)(te:TE)(n:Nat)(H:Hp)(Q:VK):Prop :=
 ∃ W:Nat→Nat→L2.St→Hp→Prop,(∃ m,W 0 m (List.replicate n none) H)∧∀ i m σ H,W i m σ H →
  (J.stop i H∧Q (.ref acc) H)∨(J.go i H∧∃ Nx:L2.St→Hp→Prop,(∀ σ' H',Nx σ' H'→∃ m',m'<m∧W (i+1) m' σ' H')∧∀ x H',J.IE i H x H'→g x σ H' fun σ2 H2=>tt σ2 H2 fun b H3 =>
   if b=true then te σ2 H3 fun v H4=>∃ xs,H4 acc=some (.lst xs)∧xs.length<sizeLine∧Nx σ2 (upd H4 acc (.lst (xs++[v]))) else Nx σ2 H3)
def RZ(n:Nat)(wi:TI)(g:TG)(tt:TT)(te:TE):TE:=fun σ H Q=>wi σ H fun J H1=>∀ acc,H1 acc=none→KS J acc g tt te n (upd H1 acc (.lst [])) Q
theorem Cc{elt tg iter:Expr}{ifs:List Expr}{pos:Pos}{wi:TI}{g:TG}{tt:TT}{te:TE}(cs:vE scope)(hc:X.calm=true)(hi:PI X tg iter wi)
  (hg:∀ C s₀ H₀ ex pn,PG (qB X N scope C s₀ H₀ ex pn) tg g) (ht:∀ C s₀ H₀ ex pn,FF (qB X N scope C s₀ H₀ ex pn) ifs tt) (he:∀ C s₀ H₀ ex pn,PE (qB X N scope C s₀ H₀ ex pn) elt te)
  (hs:∀ x,foldedSetIterable iter X.env x=pure x:=by intro _;rfl):PE X (.ListComp elt [⟨tg,iter,ifs,0⟩] scope pos) (RZ N.length wi g tt te):=by
 intro pins s σ H Q I h
 refine wpAny_ListComp cs.free cs.kind cs.names (bQ (hi pins s σ H _ I h) fun v s1 h1=>bQ h1 fun itv s2 h2=>?_) hs
 obtain⟨it,fp,tn,J,H2,e,I2,T,st2,f2,q⟩:=h2
 subst e
 refine wpAny_newObj_type (hd:=by size_fits) ?_
 have hacc:H2 s2.heap.objs.size=none:=I2.hok.fresh (fH _)
 have I3:Inv X pins σ (upd H2 s2.heap.objs.size (.lst [])) { s2 with heap:=s2.heap.push { cls:=.type "list",data:=.seq ([]:List Value).toArray },toks:=s2.toks }:=I2.IS (ys:=[]) .nil (mO _)
 have KU:∀ b∈fp,b<s2.heap.objs.size:=fun b hb=>by
  obtain⟨o,ho,_⟩:=T.obj _ _ st2 b hb
  exact Heap.lt_size ho
 have f3:∀ b∈fp,mw X pins (upd H2 s2.heap.objs.size (.lst [])) b:=fun b hb=>⟨by rw[aC (jL (KU b hb))];exact (f2 b hb).1,(f2 b hb).2⟩
 have k3:∀ b o,s2.heap.get? b=some o→(s2.heap.push { cls:=.type "list",data:=.seq ([]:List Value).toArray }).get? b=some o:=fun b o e=>Heap.get?_push_of_some _ e
 have q3:=q _ hacc
 generalize Pu:({ s2 with heap:=s2.heap.push { cls:=.type "list",data:=.seq ([]:List Value).toArray },toks:=s2.toks }:Shared)=s3 at I3
 generalize hH3:upd H2 s2.heap.objs.size (.lst [])=H3 at I3 f3 q3
 have KW:s3.heap=s2.heap.push { cls:=.type "list",data:=.seq ([]:List Value).toArray }:=by rw[← Pu]
 have Bb:∀ b∈fp,b<s3.heap.objs.size:=fun b hb=>by rw[KW,Heap.size_push];exact Nat.lt_succ_of_lt (KU b hb)
 have st3:tn 0 s3.heap:=T.keep _ _ _ st2 fun b _ o e=>by rw[KW];exact k3 b o e
 show wpAny _ _ _ _ _ s3
 refine wpAny_newFunctionEnv cs.cell (fun y hy=>by simp at hy) (fun h₁ hns Ja=>?_) cs.kind
 have kh:∀ b o,s3.heap.get? b=some o→h₁.get? b=some o:=fun b o e=>Ja.extBut _ _ (jL (Heap.lt_size e)) (Heap.get?_push_of_some _ e)
 have J0:Inv (qB X N scope s3.heap.objs.size s3 H3 fp (X.pn++pins)) [] (List.replicate N.length none) H3 { s3 with heap:=h₁,toks:=s3.toks+([]:List (Str × Value)).length }:=yN cs I3 f3 Bb hns kh
 have KY:tn 0 h₁:=T.keep _ _ _ st3 fun b _ o e=>kh b o e
 obtain⟨W,⟨m0,w0⟩,turn⟩:=q3
 have nj:∀ {H':Hp},(∀ b∈fp,H' b=none)→∀ b∈fp,mw (qB X N scope s3.heap.objs.size s3 H3 fp (X.pn++pins)) [] H' b:=fun hn b hb=>by
  refine⟨hn b hb,jL (Bb b hb),fun z=>?_,.inl hb,fun x c e=>?_,fun p hp=>?_⟩
  ·rcases List.mem_cons.mp (I3.oU b z) with e|e
   ·exact (f3 b hb).2.1 e
   ·exact (f3 b hb).2.2.1 e
  ·have e':(none:Option Addr)=some c:=e
   cases e'
  ·have Hy:p∈X.pn++pins:=by
    have z:p∈(X.pn++pins)++[]:=hp
    simpa using z
   exact (f3 b hb).2.2.2.2.2 p Hy
 have loop:∀ s5:Shared,s5={ s3 with heap:=h₁,toks:=s3.toks+([]:List (Str × Value)).length }→codeAny (model X.prog X.w) X.A (.compLoop (.ListComp elt [⟨tg,iter,ifs,0⟩] scope pos) 0 (.ref it) (.ref s2.heap.objs.size) (qB X N scope s3.heap.objs.size s3 H3 fp (X.pn++pins)).env)
   (fun r s'=>∃ m,s'.heap.Ns s3.heap.objs.size m∧∀ h',Heap.SameBut s3.heap.objs.size s'.heap h'→match r with
    | .ok _=>EP X pins σ Q (.ref s2.heap.objs.size) { s' with heap:=h' }
    | .error x=>wpAny (model X.prog X.w) X.A (passOn "comprehension.variables-let-go" x (qB X N scope s3.heap.objs.size s3 H3 fp (X.pn++pins)).env) (EP X pins σ Q) X.xe { s' with heap:=h' }) s5:=by
  rintro s5 rfl
  refine Ba (fun n s'=>∃ i σ' H',Inv (qB X N scope s3.heap.objs.size s3 H3 fp (X.pn++pins)) [] σ' H' s'∧tn i s'.heap∧(∀ b∈fp,H' b=none)∧W i n σ' H') ?_ m0 ⟨0,_,H3,J0,KY,fun b hb=>(f3 b hb).1,w0⟩
  rintro n s6 ⟨i,σ6,H6,I6,HA,FG,w6⟩
  rcases turn i n σ6 H6 w6 with ⟨stop,qn⟩|⟨go,Nx,hN,step⟩
  ·refine bQ (T.done (qB X N scope s3.heap.objs.size s3 H3 fp (X.pn++pins)) rfl rfl rfl hc i [] s6 σ6 H6 _ I6 (nj FG) HA stop) fun r s7 ⟨hr,I7⟩=>?_
   subst hr
   obtain⟨m,hm,_⟩:=I7.loc
   exact⟨m,hm,fun h' Px=>⟨.ref s2.heap.objs.size,H6,Ei I3 f3 I7 Px,rfl,qn⟩⟩
  ·refine bQ (T.item (qB X N scope s3.heap.objs.size s3 H3 fp (X.pn++pins)) rfl rfl rfl hc i [] s6 σ6 H6 _ I6 (nj FG) HA go) fun r s7 ⟨u,hr,h7⟩=>?_
   subst hr
   refine bQ h7 fun _ s8 ⟨x,H8,I8,r8,y8,Cd,FH⟩=>?_
   have MT:=I8.pinned (nj FH) (T.obj _ _ Cd)
   refine bQ (hg _ _ _ _ _ _ s8 σ6 H8 x u _ MT r8 (step x H8 y8)) fun _ s9 ⟨σ9,H9,I9,q9⟩=>?_
   refine bQ (ht _ _ _ _ _ _ s9 σ9 H9 _ I9 q9) fun ok Py ⟨Ej,HB,uo⟩=>?_
   have again:∀ {σ7:L2.St} {H7:Hp} {ou:Shared},Inv (qB X N scope s3.heap.objs.size s3 H3 fp (X.pn++pins)) ([]++pW fp s8.heap) σ7 H7 ou→Nx σ7 H7→∃ m,m<n∧∃ i σ' H',Inv (qB X N scope s3.heap.objs.size s3 H3 fp (X.pn++pins)) [] σ' H' ou∧tn i ou.heap∧(∀ b∈fp,H' b=none)∧W i m σ' H':=fun {σ7 H7 ou} I7 n7=>by
    obtain⟨m',hm,w7⟩:=hN σ7 H7 n7
    refine⟨m',hm,i+1,σ7,H7,I7.lO,T.keep _ _ _ Cd fun b hb o e=>(I7.pin (b,o) (lM _ (lM _ (dD hb e)))).1,fun b hb=>?_,w7⟩
    obtain⟨o,e,d⟩:=T.obj _ _ Cd b hb
    exact (I7.pin (b,o) (lM _ (lM _ (dD hb e)))).2.1
   cases ok with
   | false =>
    rw[if_neg jX]at uo
    exact again HB uo
   | true =>
    rw[if_pos rfl]at uo
    refine bQ (he _ _ _ _ _ _ Py σ9 Ej _ HB uo) fun v ou ⟨y,R0,R4,Sb,xs,hx,hz,Sd⟩=>?_
    refine bQ (cF _ ou σ9 R0 (.ref s2.heap.objs.size) [y] (.ref s2.heap.objs.size) [v] (fun _ H'=>Nx σ9 H') R4 rfl (.cons Sb .nil) ⟨_,xs,y,rfl,rfl,hx,hz,Sd⟩) fun _ s12 ⟨_,QK,Se,_,MU⟩=>?_
    exact again Se MU
 exact codeAny_compStart_list (loop _ rfl) (T.self _ _ _ _ _ KY (loop _ rfl))
theorem vF{K:PySem.W.Frag}{a acc:Addr}{xs:List V}{g:TG}{tt:TT}{te:TE}{n:Nat}{H:Hp}{Q:VK}(Pv:Nat→L2.St→Hp→Prop)(h0:Pv 0 (List.replicate n none) H)(hl:∀ i σ H,i≤xs.length→Pv i σ H→bG K H a xs)
  (hs:∀ i x σ H,xs[i]?=some x→Pv i σ H→g x σ H fun σ2 H2=>tt σ2 H2 fun b H3=>if b=true then te σ2 H3 fun v H4=>∃ ys,H4 acc=some (.lst ys)∧ys.length<sizeLine∧Pv (i+1) σ2 (upd H4 acc (.lst (ys++[v]))) else Pv (i+1) σ2 H3)
  (hd:∀ σ H,Pv xs.length σ H→Q (.ref acc) H):KS (JW K a) acc g tt te n H Q:=by
 refine⟨fun i m σ H=>m=xs.length-i∧i≤xs.length∧Pv i σ H,⟨xs.length,by simp,mO _,h0⟩,?_⟩
 rintro i m σ H ⟨rfl,hi,p⟩
 have q:=hl i σ H hi p
 by_cases hlt:i<xs.length
 ·refine .inr ⟨⟨xs,xs[i],q,by simp[hlt]⟩,Pv (i+1),fun σ' H' p'=>⟨xs.length-(i+1),by omega,rfl,hlt,p'⟩,fun x H' y=>?_⟩
  obtain⟨e,y⟩:=y
  subst e
  exact hs i x σ _ (y xs q) p
 ·have e:i=xs.length:=by omega
  subst e
  exact .inl ⟨⟨xs,q,fH _⟩,hd σ H p⟩
end
end cR
namespace cR
open PySem PySem.Spec PyProof.Rows L2
theorem Jb{P:Program}{w:World}{K:PySem.W.Frag}{tg:Expr}(it:Addr)(lo:Int)(n:Nat):Turn P w K tg (IG lo n) [it] it (fun i h=>IsLongIter h it (lo+(i:Nat)*1) ((n:Int)-(i:Nat)) 1) where
 mem:=by simp
 obj:=fun i h st b hb=>by
  have e:b=it:=by simpa using hb
  subst e
  exact⟨_,st,fun v z=>by
   have z':Data.fields _=Data.cell v:=z
   cases z'⟩
 keep:=fun i h h' st k=>k it (by simp) _ st
 item:=by
  intro X hP hw hK hc i pins s σ H E I hf st hg
  subst hP hw hK
  obtain⟨f0,f1,f2,f3,f4,f5⟩:=hf it (by simp)
  have W:=Walks.longrange (prog:=X.prog) (w:=X.w) (I.ok.hd hc) it lo 1 n
  refine W.item i s _ _ hg st fun v h' tk hv st' kk=>?_
  obtain⟨t,rfl⟩:=hv
  have I1:Inv X pins σ H { s with heap:=h',toks:=tk }:=I.turned (fun b o hb e=>kk b o (by simpa using hb) e) f0 f1 f3 f4 f5
  refine⟨_,rfl,DQ (s:={ s with heap:=h',toks:=tk }) (n:="longrange_iterator") st' rfl rfl (by decide) ⟨.int (lo+i),H,I1,⟨t,?_⟩,⟨rfl,rfl⟩,st',fun b hb=>(hf b hb).1⟩⟩
  rw[Int.mul_one]
 done:=by
  intro X hP hw hK hc i pins s σ H E I hf st hg
  subst hP hw hK
  obtain⟨f0,f1,f2,f3,f4,f5⟩:=hf it (by simp)
  exact wpAny_pyNext_long_end (I.ok.hd hc) st (by have:n≤i:=hg;omega) fun h' eb=>⟨rfl,I.turned (t':=s.toks) (fun b o hb e=>eb b o hb e) f0 f1 f3 f4 f5⟩
 self:=fun _ _ _ _ _ st h=>wpAny_pyIter_longiter st h
section
variable {X:Cx} {tg:Expr}
theorem Jc{pins:List (Addr × Obj)}{σ:L2.St}{H:Hp}{s:Shared}{R:It→Hp→Prop}{E:Value→Shared→Prop}{lo hi:Int}{t u v:Tok}{tk:Nat}(I:Inv X pins σ H s)
  (q:R (IG lo (hi-lo).toNat) H):wpAny (model X.prog X.w) X.A (pyIter (.ref s.heap.objs.size)) (Vi X pins σ tg R) E { s with heap:=s.heap.push { cls:=.type "range",data:=.fields #[.int lo t,.int hi u,.int 1 v] },toks:=tk }:=by
 have I1:Inv X pins σ H { s with heap:=s.heap.push { cls:=.type "range",data:=.fields #[.int lo t,.int hi u,.int 1 v] },toks:=tk }:=I.kept fun b o e=>Heap.get?_push_of_some _ e
 have e1:lo+((0:Nat):Int)*1=lo:=by simp
 have e2:(((hi-lo).toNat:Nat):Int)-((0:Nat):Int)=Builtin.Range.rangeSize lo hi 1:=by rw[rangeSize_one];split <;> omega
 have fp:∀ b∈[(s.heap.push { cls:=.type "range",data:=.fields #[.int lo t,.int hi u,.int 1 v] }).objs.size],mw X pins H b:=fun b hb=>by
  have e:b=(s.heap.push { cls:=.type "range",data:=.fields #[.int lo t,.int hi u,.int 1 v] }).objs.size:=by simpa using hb
  subst e
  exact I1.IF (fH _) (I1.hok.fresh (fH _))
 cases hb:Builtin.Range.small lo hi 1 with
 | true =>
  refine wpAny_pyIter_range (IsRange.new ..) hb ?_
  refine⟨_,[(s.heap.push { cls:=.type "range",data:=.fields #[.int lo t,.int hi u,.int 1 v] }).objs.size],_,_,H,rfl,I1.kept (t':=tk) fun b o e=>Heap.get?_push_of_some _ e,yu _ lo (hi-lo).toNat,?_,fp,q⟩
  show IsRangeIter _ _ (lo+((0:Nat):Int)*1) ((((hi-lo).toNat:Nat):Int)-((0:Nat):Int)) 1
  rw[e1,e2]
  exact Heap.get?_push_size _ rfl
 | false =>
  refine wpAny_pyIter_longrange (IsRange.new ..) hb ?_
  refine⟨_,[(s.heap.push { cls:=.type "range",data:=.fields #[.int lo t,.int hi u,.int 1 v] }).objs.size],_,_,H,rfl,I1.kept (t':=tk) fun b o e=>Heap.get?_push_of_some _ e,Jb _ lo (hi-lo).toNat,?_,fp,q⟩
  show IsLongIter _ _ (lo+((0:Nat):Int)*1) ((((hi-lo).toNat:Nat):Int)-((0:Nat):Int)) 1
  rw[e1,e2]
  exact Heap.get?_push_size _ rfl
def Sf(ta:TA):TI:=fun σ H R=>ta σ H fun vs H1=>∃ i j:Int,vs=[.int i,.int j]∧R (IG i (j-i).toNat) H1
theorem Jd{a b:Expr}{ta:TA}{p pos:Pos}(hg:Gl X "range")(hm:X.mg "range"=none)(ha:PA X [a,b] ta)(hs:starEach [a,b] X.env=[(false,eval a X.env),(false,eval b X.env)]:=by rfl)(hs2:starEach [b] X.env=[(false,eval b X.env)]:=by rfl) :
  PI X tg (.Call (.Name "range" p) [a,b] [] pos) (Sf ta):=by
 intro pins s σ H R I h
 refine Call_ (vp I hg hm boot_range (PyProof.Rows.callWith_type1 (bQ (ha pos pins s σ H _ I h) fun us s1 ⟨vs,H1,I1,r1,q1⟩=>?_) (by rw[hs,hs2]) (by rw[hs2];rfl)))
 obtain⟨i,j,e,q⟩:=q1
 subst e
 obtain⟨u1,u2,rfl,⟨t,rfl⟩,⟨t',rfl⟩⟩:=r1.two
 exact call_range_2 (Jc I1 q)
end
end cR
namespace cR
open PySem PySem.Spec PyProof.Rows L2
section
variable {prog:Program} {w:World} {A:Around} {R:Result→Shared→Prop} {s:Shared}
theorem MV(elt tg iter pM cz:Expr)(ifs ji:List Expr)(scope:Scope)(pos:Pos)(it acc:Value)(env:Env) :
  compTurn (.ListComp elt [⟨tg,iter,ifs,0⟩,⟨pM,cz,ji,0⟩] scope pos) 1 it acc env=(do
   standAt cz.pos
   match ← pyNext it with
   | none=>pure (.done .next)
   | some v =>
    letOwnedTupleGo pM it v
    assign pM env v
    let ok ← rH ji env
    if ok then (do let _ ← call (.builtin "list.append") [acc,← eval elt env])
    again (.compLoop (.ListComp elt [⟨tg,iter,ifs,0⟩,⟨pM,cz,ji,0⟩] scope pos) 1 it acc env)):=by rfl
theorem KZ(elt tg iter pM cz:Expr)(ifs ji:List Expr)(scope:Scope)(pos:Pos)(it acc:Value)(env:Env) :
  compTurn (.ListComp elt [⟨tg,iter,ifs,0⟩,⟨pM,cz,ji,0⟩] scope pos) 0 it acc env=(do
   standAt iter.pos
   match ← pyNext it with
   | none=>pure (.done .next)
   | some v =>
    letOwnedTupleGo tg it v
    assign tg env v
    let ok ← rH ifs env
    if ok then
     let x ← eval cz env
     standAt cz.pos
     let x ← foldedSetIterable cz env x
     let _ ← runOwn (.compStart (.ListComp elt [⟨tg,iter,ifs,0⟩,⟨pM,cz,ji,0⟩] scope pos) 1 (← holding [x] (pyIter x)) acc env) env
    again (.compLoop (.ListComp elt [⟨tg,iter,ifs,0⟩,⟨pM,cz,ji,0⟩] scope pos) 0 it acc env)):=by rfl
theorem Pz{elt tg iter pM cz:Expr}{ifs ji:List Expr}{scope:Scope}{pos:Pos}{it acc:Value}{env:Env}(I:Nat→Shared→Prop)
  (turn:∀ n s,I n s→wpAny (model prog w) A (pyNext it) (fun r s₁=>match r with
   | none=>R (.ok .next) s₁
   | some v=>wpAny (model prog w) A (letOwnedTupleGo pM it v) (fun _ s₂=>wpAny (model prog w) A (assign pM env v) (fun _ s₃ =>
     wpAny (model prog w) A (rH ji env) (fun ok s₄ =>
      if ok=true then wpAny (model prog w) A (eval elt env) (fun x s₅=>wpAny (model prog w) A (call (.builtin "list.append") [acc,x]) (fun _ s₆=>∃ m,m<n∧I m s₆) (fun _ _=>False) s₅) (fun _ _=>False) s₄
      else ∃ m,m<n∧I m s₄) (fun _ _=>False) s₃) (fun _ _=>False) s₂) (fun _ _=>False) s₁) (fun _ _=>False) s)
  (n:Nat) (h:I n s):codeAny (model prog w) A (.compLoop (.ListComp elt [⟨tg,iter,ifs,0⟩,⟨pM,cz,ji,0⟩] scope pos) 1 it acc env) R s:=by
 refine codeAny_loop rfl I (fun n s hI=>?_) n h
 show wpAny _ A ((compTurn (.ListComp elt [⟨tg,iter,ifs,0⟩,⟨pM,cz,ji,0⟩] scope pos) 1 it acc env).onRaise (fun x=>do noteFrame x env;theTreesLotGoes x)) _ _ s
 refine wpAny_noted ?_
 rw[MV]
 refine wpAny_bind (wpAny_standAt (wpAny_bind (wpAny_mono (turn n s hI) (fun r s₁ h₁=>?_) fun _ _ h'=>h'.elim)))
 cases r with
 | none=>exact wpAny_pure h₁
 | some v =>
  refine wpAny_bind (wpAny_mono h₁ (fun _ s₂ h₂=>wpAny_bind (wpAny_mono h₂ (fun _ s₃ h₃=>wpAny_bind (wpAny_mono h₃ (fun ok s₄ h₄=>?_) fun _ _ h'=>h'.elim)) fun _ _ h'=>h'.elim)) fun _ _ h'=>h'.elim)
  cases ok with
  | false=>exact wpAny_pure ⟨rfl,h₄⟩
  | true=>exact wpAny_bind (wpAny_bind (wpAny_mono h₄ (fun x s₅ h₅=>wpAny_bind (wpAny_mono h₅ (fun _ s₆ h₆=>wpAny_pure (wpAny_pure ⟨rfl,h₆⟩)) fun _ _ h'=>h'.elim)) fun _ _ h'=>h'.elim))
theorem MW{elt tg iter pM cz:Expr}{ifs ji:List Expr}{scope:Scope}{pos:Pos}{it acc:Value}{env:Env}
  (h0:codeAny (model prog w) A (.compLoop (.ListComp elt [⟨tg,iter,ifs,0⟩,⟨pM,cz,ji,0⟩] scope pos) 1 it acc env) R s)
  (h:wpAny (model prog w) A (pyIter it) (fun it' s'=>codeAny (model prog w) A (.compLoop (.ListComp elt [⟨tg,iter,ifs,0⟩,⟨pM,cz,ji,0⟩] scope pos) 1 it' acc env) R s') (fun _ _=>False) s) :
  codeAny (model prog w) A (.compStart (.ListComp elt [⟨tg,iter,ifs,0⟩,⟨pM,cz,ji,0⟩] scope pos) 1 it acc env) R s:=by
 refine codeAny_of_tree ?_
 show wpAny _ _ ((compStart (.ListComp elt [⟨tg,iter,ifs,0⟩,⟨pM,cz,ji,0⟩] scope pos) 1 it acc env).onRaise (fun x=>do noteFrame x env;standAt theWindowsPlace)) _ _ s
 refine wpAny_notedAt ?_
 unfold compStart
 show wpAny _ _ (ask >>= _) _ _ s
 refine wpAny_bind (wpAny_askSetting (wpAny_ite ?_))
 split
 ·first
   | exact wpAny_bind (wpAny_pure (wpAny_pure (And.intro rfl h0)))
   | exact wpAny_pure (And.intro rfl h0)
 ·first
   | exact wpAny_bind (wpAny_rule (wpAny_bind (wpAny_standAt (wpAny_bind (wpAny_mono h (fun it' s' h'=>wpAny_pure (And.intro rfl h')) fun _ _ x=>x.elim)))))
   | (refine wpAny_bind (wpAny_rule ?_);show wpAny _ _ (standAt cz.pos >>= _) _ _ s;exact wpAny_bind (wpAny_standAt (wpAny_bind (wpAny_mono h (fun it' s' h'=>wpAny_pure (And.intro rfl h')) fun _ _ x=>x.elim))))
theorem HC{elt tg iter pM cz:Expr}{ifs ji:List Expr}{scope:Scope}{pos:Pos}{it acc:Value}{env:Env}(I:Nat→Shared→Prop)
  (hs2:∀ x,foldedSetIterable cz env x=pure x)
  (turn:∀ n s,I n s→wpAny (model prog w) A (pyNext it) (fun r s₁=>match r with
   | none=>R (.ok .next) s₁
   | some v=>wpAny (model prog w) A (letOwnedTupleGo tg it v) (fun _ s₂=>wpAny (model prog w) A (assign tg env v) (fun _ s₃ =>
     wpAny (model prog w) A (rH ifs env) (fun ok s₄ =>
      if ok=true then wpAny (model prog w) A (eval cz env) (fun x s₅=>wpAny (model prog w) A (pyIter x) (fun QL s₆ =>
       codeAny (model prog w) A (.compStart (.ListComp elt [⟨tg,iter,ifs,0⟩,⟨pM,cz,ji,0⟩] scope pos) 1 QL acc env) (fun r s₇=>(∃ f,r=.ok f)∧∃ m,m<n∧I m s₇) s₆) (fun _ _=>False) s₅) (fun _ _=>False) s₄
      else ∃ m,m<n∧I m s₄) (fun _ _=>False) s₃) (fun _ _=>False) s₂) (fun _ _=>False) s₁) (fun _ _=>False) s)
  (n:Nat) (h:I n s):codeAny (model prog w) A (.compLoop (.ListComp elt [⟨tg,iter,ifs,0⟩,⟨pM,cz,ji,0⟩] scope pos) 0 it acc env) R s:=by
 refine codeAny_loop rfl I (fun n s hI=>?_) n h
 show wpAny _ A ((compTurn (.ListComp elt [⟨tg,iter,ifs,0⟩,⟨pM,cz,ji,0⟩] scope pos) 0 it acc env).onRaise (fun x=>do noteFrame x env;theTreesLotGoes x)) _ _ s
 refine wpAny_noted ?_
 rw[KZ]
 refine wpAny_bind (wpAny_standAt (wpAny_bind (wpAny_mono (turn n s hI) (fun r s₁ h₁=>?_) fun _ _ h'=>h'.elim)))
 cases r with
 | none=>exact wpAny_pure h₁
 | some v =>
  refine wpAny_bind (wpAny_mono h₁ (fun _ s₂ h₂=>wpAny_bind (wpAny_mono h₂ (fun _ s₃ h₃=>wpAny_bind (wpAny_mono h₃ (fun ok s₄ h₄=>?_) fun _ _ h'=>h'.elim)) fun _ _ h'=>h'.elim)) fun _ _ h'=>h'.elim)
  cases ok with
  | false=>exact wpAny_pure ⟨rfl,h₄⟩
  | true =>
   refine wpAny_bind (wpAny_mono h₄ (fun x s₅ h₅=>wpAny_bind (wpAny_standAt (wpAny_bind (wpAny_of_eq (hs2 x) (wpAny_bind (wpAny_holding (wpAny_mono h₅ (fun QL s₆ h₆=>?_) fun _ _ h'=>h'.elim))))))) fun _ _ h'=>h'.elim)
   refine wpAny_bind (wpAny_runOwn (codeAny_mono h₆ fun r s₇ ⟨⟨f,hf⟩,hm⟩=>?_))
   subst hf
   exact wpAny_pure ⟨rfl,hm⟩
end
section
variable {X:Cx} {N:List Str} {scope:Scope}
def yO(wi:TI)(acc:Addr)(g:TG)(tt:TT)(te:TE):L2.St→Hp→(L2.St→Hp→Prop)→Prop:=fun σ H Nx=>wi σ H fun J H1 =>
 ∃ W:Nat→Nat→L2.St→Hp→Prop,(∃ m,W 0 m σ H1)∧∀ i m σ H,W i m σ H →
  (J.stop i H∧Nx σ H)∨(J.go i H∧∃ N2:L2.St→Hp→Prop,(∀ σ' H',N2 σ' H'→∃ m',m'<m∧W (i+1) m' σ' H')∧∀ x H',J.IE i H x H'→g x σ H' fun σ2 H2=>tt σ2 H2 fun b H3 =>
   if b=true then te σ2 H3 fun v H4=>∃ xs,H4 acc=some (.lst xs)∧xs.length<sizeLine∧N2 σ2 (upd H4 acc (.lst (xs++[v]))) else N2 σ2 H3)
theorem Bc{Y:Cx}{elt tg iter pM cz:Expr}{ifs ji:List Expr}{pos:Pos}{xA:TI}{g2:TG}{xB:TT}{te:TE}{acc:Addr}(hc:Y.calm=true)(hxe:Y.xe=fun _ _=>False)(hi:PI Y pM cz xA)(hg:PG Y pM g2)(ht:FF Y ji xB)(he:PE Y elt te)
  {pins:List (Addr × Obj)} {s:Shared} {σ:L2.St} {H:Hp} {Nx:L2.St→Hp→Prop} (I:Inv Y pins σ H s) (h:yO xA acc g2 xB te σ H Nx) :
  wpAny (model Y.prog Y.w) Y.A (eval cz Y.env) (fun x s₅=>wpAny (model Y.prog Y.w) Y.A (pyIter x) (fun QL s₆ =>
   codeAny (model Y.prog Y.w) Y.A (.compStart (.ListComp elt [⟨tg,iter,ifs,0⟩,⟨pM,cz,ji,0⟩] scope pos) 1 QL (.ref acc) Y.env) (fun r s₇=>(∃ f,r=.ok f)∧∃ σ' H',Inv Y pins σ' H' s₇∧Nx σ' H') s₆) (fun _ _=>False) s₅) (fun _ _=>False) s:=by
 have hi':=hi pins s σ H _ I h
 have hg':=hg
 have ht':=ht
 have he':=he
 unfold PG at hg'
 unfold FF at ht'
 unfold PE at he'
 rw[hxe]at hi' hg' ht' he'
 refine bQ hi' fun v s1 h1=>bQ h1 fun itv s2 h2=>?_
 obtain⟨it,fp,tn,J,H2,e,I2,T,st2,f2,W,⟨m0,w0⟩,turn⟩:=h2
 subst e
 have nj:∀ {H':Hp},(∀ b∈fp,H' b=none)→∀ b∈fp,mw Y pins H' b:=fun hn b hb=>⟨hn b hb,(f2 b hb).2⟩
 have loop:codeAny (model Y.prog Y.w) Y.A (.compLoop (.ListComp elt [⟨tg,iter,ifs,0⟩,⟨pM,cz,ji,0⟩] scope pos) 1 (.ref it) (.ref acc) Y.env) (fun r s₇=>(∃ f,r=.ok f)∧∃ σ' H',Inv Y pins σ' H' s₇∧Nx σ' H') s2:=by
  refine Pz (fun n s'=>∃ i σ' H',Inv Y pins σ' H' s'∧tn i s'.heap∧(∀ b∈fp,H' b=none)∧W i n σ' H') ?_ m0 ⟨0,σ,H2,I2,st2,fun b hb=>(f2 b hb).1,w0⟩
  rintro n s6 ⟨i,σ6,H6,I6,HA,FG,w6⟩
  rcases turn i n σ6 H6 w6 with ⟨stop,qn⟩|⟨go,N2,hN,step⟩
  ·refine bQ (T.done Y rfl rfl rfl hc i pins s6 σ6 H6 _ I6 (nj FG) HA stop) fun r s7 ⟨hr,I7⟩=>?_
   subst hr
   exact⟨⟨_,rfl⟩,σ6,H6,I7,qn⟩
  ·refine bQ (T.item Y rfl rfl rfl hc i pins s6 σ6 H6 _ I6 (nj FG) HA go) fun r s7 ⟨u,hr,h7⟩=>?_
   subst hr
   refine bQ h7 fun _ s8 ⟨x,H8,I8,r8,y8,Cd,FH⟩=>?_
   have MT:=I8.pinned (nj FH) (T.obj _ _ Cd)
   refine bQ (hg' _ s8 σ6 H8 x u _ MT r8 (step x H8 y8)) fun _ s9 ⟨σ9,H9,I9,q9⟩=>?_
   refine bQ (ht' _ s9 σ9 H9 _ I9 q9) fun ok Py ⟨Ej,HB,uo⟩=>?_
   have again:∀ {σ7:L2.St} {H7:Hp} {ou:Shared},Inv Y (pins++pW fp s8.heap) σ7 H7 ou→N2 σ7 H7→∃ m,m<n∧∃ i σ' H',Inv Y pins σ' H' ou∧tn i ou.heap∧(∀ b∈fp,H' b=none)∧W i m σ' H':=fun {σ7 H7 ou} I7 n7=>by
    obtain⟨m',hm,w7⟩:=hN σ7 H7 n7
    refine⟨m',hm,i+1,σ7,H7,I7.lO,T.keep _ _ _ Cd fun b hb o e=>(I7.pin (b,o) (lM _ (lM _ (dD hb e)))).1,fun b hb=>?_,w7⟩
    obtain⟨o,e,d⟩:=T.obj _ _ Cd b hb
    exact (I7.pin (b,o) (lM _ (lM _ (dD hb e)))).2.1
   cases ok with
   | false =>
    rw[if_neg jX]at uo
    exact again HB uo
   | true =>
    rw[if_pos rfl]at uo
    refine bQ (he' _ Py σ9 Ej _ HB uo) fun v ou ⟨y,R0,R4,Sb,xs,hx,hz,Sd⟩=>?_
    have ap:=cF _ ou σ9 R0 (.ref acc) [y] (.ref acc) [v] (fun _ H'=>N2 σ9 H') R4 rfl (.cons Sb .nil) ⟨_,xs,y,rfl,rfl,hx,hz,Sd⟩
    rw[hxe]at ap
    exact bQ ap fun _ s12 ⟨_,QK,Se,_,MU⟩=>again Se MU
 exact MW loop (T.self _ _ _ _ _ st2 loop)
def HD(J:It)(acc:Addr)(g:TG)(tt:TT)(xA:TI)(g2:TG)(xB:TT)(te:TE)(n:Nat)(H:Hp)(Q:VK):Prop :=
 ∃ W:Nat→Nat→L2.St→Hp→Prop,(∃ m,W 0 m (List.replicate n none) H)∧∀ i m σ H,W i m σ H →
  (J.stop i H∧Q (.ref acc) H)∨(J.go i H∧∃ Nx:L2.St→Hp→Prop,(∀ σ' H',Nx σ' H'→∃ m',m'<m∧W (i+1) m' σ' H')∧∀ x H',J.IE i H x H'→g x σ H' fun σ2 H2=>tt σ2 H2 fun b H3 =>
   if b=true then yO xA acc g2 xB te σ2 H3 Nx else Nx σ2 H3)
def PB(n:Nat)(wi:TI)(g:TG)(tt:TT)(xA:TI)(g2:TG)(xB:TT)(te:TE):TE:=fun σ H Q=>wi σ H fun J H1=>∀ acc,H1 acc=none→HD J acc g tt xA g2 xB te n (upd H1 acc (.lst [])) Q
theorem K0{elt tg iter pM cz:Expr}{ifs ji:List Expr}{pos:Pos}{wi xA:TI}{g g2:TG}{tt xB:TT}{te:TE}(cs:vE scope)(hc:X.calm=true)(hi:PI X tg iter wi)
  (hg:∀ C s₀ H₀ ex pn,PG (qB X N scope C s₀ H₀ ex pn) tg g) (ht:∀ C s₀ H₀ ex pn,FF (qB X N scope C s₀ H₀ ex pn) ifs tt)
  (hi2:∀ C s₀ H₀ ex pn,PI (qB X N scope C s₀ H₀ ex pn) pM cz xA) (Sg:∀ C s₀ H₀ ex pn,PG (qB X N scope C s₀ H₀ ex pn) pM g2) (DA:∀ C s₀ H₀ ex pn,FF (qB X N scope C s₀ H₀ ex pn) ji xB) (he:∀ C s₀ H₀ ex pn,PE (qB X N scope C s₀ H₀ ex pn) elt te)
  (hs:∀ x,foldedSetIterable iter X.env x=pure x:=by intro _;rfl) (hs2:∀ (env:Env) x,foldedSetIterable cz env x=pure x:=by intro _ _;rfl) :
  PE X (.ListComp elt [⟨tg,iter,ifs,0⟩,⟨pM,cz,ji,0⟩] scope pos) (PB N.length wi g tt xA g2 xB te):=by
 intro pins s σ H Q I h
 refine wpAny_ListComp cs.free cs.kind cs.names (bQ (hi pins s σ H _ I h) fun v s1 h1=>bQ h1 fun itv s2 h2=>?_) hs
 obtain⟨it,fp,tn,J,H2,e,I2,T,st2,f2,q⟩:=h2
 subst e
 refine wpAny_newObj_type (hd:=by size_fits) ?_
 have hacc:H2 s2.heap.objs.size=none:=I2.hok.fresh (fH _)
 have I3:Inv X pins σ (upd H2 s2.heap.objs.size (.lst [])) { s2 with heap:=s2.heap.push { cls:=.type "list",data:=.seq ([]:List Value).toArray },toks:=s2.toks }:=I2.IS (ys:=[]) .nil (mO _)
 have KU:∀ b∈fp,b<s2.heap.objs.size:=fun b hb=>by
  obtain⟨o,ho,_⟩:=T.obj _ _ st2 b hb
  exact Heap.lt_size ho
 have f3:∀ b∈fp,mw X pins (upd H2 s2.heap.objs.size (.lst [])) b:=fun b hb=>⟨by rw[aC (jL (KU b hb))];exact (f2 b hb).1,(f2 b hb).2⟩
 have k3:∀ b o,s2.heap.get? b=some o→(s2.heap.push { cls:=.type "list",data:=.seq ([]:List Value).toArray }).get? b=some o:=fun b o e=>Heap.get?_push_of_some _ e
 have q3:=q _ hacc
 generalize Pu:({ s2 with heap:=s2.heap.push { cls:=.type "list",data:=.seq ([]:List Value).toArray },toks:=s2.toks }:Shared)=s3 at I3
 generalize hH3:upd H2 s2.heap.objs.size (.lst [])=H3 at I3 f3 q3
 have KW:s3.heap=s2.heap.push { cls:=.type "list",data:=.seq ([]:List Value).toArray }:=by rw[← Pu]
 have Bb:∀ b∈fp,b<s3.heap.objs.size:=fun b hb=>by rw[KW,Heap.size_push];exact Nat.lt_succ_of_lt (KU b hb)
 have st3:tn 0 s3.heap:=T.keep _ _ _ st2 fun b _ o e=>by rw[KW];exact k3 b o e
 show wpAny _ _ _ _ _ s3
 refine wpAny_newFunctionEnv cs.cell (fun y hy=>by simp at hy) (fun h₁ hns Ja=>?_) cs.kind
 have kh:∀ b o,s3.heap.get? b=some o→h₁.get? b=some o:=fun b o e=>Ja.extBut _ _ (jL (Heap.lt_size e)) (Heap.get?_push_of_some _ e)
 have J0:Inv (qB X N scope s3.heap.objs.size s3 H3 fp (X.pn++pins)) [] (List.replicate N.length none) H3 { s3 with heap:=h₁,toks:=s3.toks+([]:List (Str × Value)).length }:=yN cs I3 f3 Bb hns kh
 have KY:tn 0 h₁:=T.keep _ _ _ st3 fun b _ o e=>kh b o e
 obtain⟨W,⟨m0,w0⟩,turn⟩:=q3
 have nj:∀ {H':Hp},(∀ b∈fp,H' b=none)→∀ b∈fp,mw (qB X N scope s3.heap.objs.size s3 H3 fp (X.pn++pins)) [] H' b:=fun hn b hb=>by
  refine⟨hn b hb,jL (Bb b hb),fun z=>?_,.inl hb,fun x c e=>?_,fun p hp=>?_⟩
  ·rcases List.mem_cons.mp (I3.oU b z) with e|e
   ·exact (f3 b hb).2.1 e
   ·exact (f3 b hb).2.2.1 e
  ·have e':(none:Option Addr)=some c:=e
   cases e'
  ·have Hy:p∈X.pn++pins:=by
    have z:p∈(X.pn++pins)++[]:=hp
    simpa using z
   exact (f3 b hb).2.2.2.2.2 p Hy
 have loop:∀ s5:Shared,s5={ s3 with heap:=h₁,toks:=s3.toks+([]:List (Str × Value)).length }→codeAny (model X.prog X.w) X.A (.compLoop (.ListComp elt [⟨tg,iter,ifs,0⟩,⟨pM,cz,ji,0⟩] scope pos) 0 (.ref it) (.ref s2.heap.objs.size) (qB X N scope s3.heap.objs.size s3 H3 fp (X.pn++pins)).env)
   (fun r s'=>∃ m,s'.heap.Ns s3.heap.objs.size m∧∀ h',Heap.SameBut s3.heap.objs.size s'.heap h'→match r with
    | .ok _=>EP X pins σ Q (.ref s2.heap.objs.size) { s' with heap:=h' }
    | .error x=>wpAny (model X.prog X.w) X.A (passOn "comprehension.variables-let-go" x (qB X N scope s3.heap.objs.size s3 H3 fp (X.pn++pins)).env) (EP X pins σ Q) X.xe { s' with heap:=h' }) s5:=by
  rintro s5 rfl
  refine HC (fun n s'=>∃ i σ' H',Inv (qB X N scope s3.heap.objs.size s3 H3 fp (X.pn++pins)) [] σ' H' s'∧tn i s'.heap∧(∀ b∈fp,H' b=none)∧W i n σ' H') (hs2 _) ?_ m0 ⟨0,_,H3,J0,KY,fun b hb=>(f3 b hb).1,w0⟩
  rintro n s6 ⟨i,σ6,H6,I6,HA,FG,w6⟩
  rcases turn i n σ6 H6 w6 with ⟨stop,qn⟩|⟨go,Nx,hN,step⟩
  ·refine bQ (T.done (qB X N scope s3.heap.objs.size s3 H3 fp (X.pn++pins)) rfl rfl rfl hc i [] s6 σ6 H6 _ I6 (nj FG) HA stop) fun r s7 ⟨hr,I7⟩=>?_
   subst hr
   obtain⟨m,hm,_⟩:=I7.loc
   exact⟨m,hm,fun h' Px=>⟨.ref s2.heap.objs.size,H6,Ei I3 f3 I7 Px,rfl,qn⟩⟩
  ·refine bQ (T.item (qB X N scope s3.heap.objs.size s3 H3 fp (X.pn++pins)) rfl rfl rfl hc i [] s6 σ6 H6 _ I6 (nj FG) HA go) fun r s7 ⟨u,hr,h7⟩=>?_
   subst hr
   refine bQ h7 fun _ s8 ⟨x,H8,I8,r8,y8,Cd,FH⟩=>?_
   have MT:=I8.pinned (nj FH) (T.obj _ _ Cd)
   refine bQ (hg _ _ _ _ _ _ s8 σ6 H8 x u _ MT r8 (step x H8 y8)) fun _ s9 ⟨σ9,H9,I9,q9⟩=>?_
   refine bQ (ht _ _ _ _ _ _ s9 σ9 H9 _ I9 q9) fun ok Py ⟨Ej,HB,uo⟩=>?_
   have again:∀ {σ7:L2.St} {H7:Hp} {ou:Shared},Inv (qB X N scope s3.heap.objs.size s3 H3 fp (X.pn++pins)) ([]++pW fp s8.heap) σ7 H7 ou→Nx σ7 H7→∃ m,m<n∧∃ i σ' H',Inv (qB X N scope s3.heap.objs.size s3 H3 fp (X.pn++pins)) [] σ' H' ou∧tn i ou.heap∧(∀ b∈fp,H' b=none)∧W i m σ' H':=fun {σ7 H7 ou} I7 n7=>by
    obtain⟨m',hm,w7⟩:=hN σ7 H7 n7
    refine⟨m',hm,i+1,σ7,H7,I7.lO,T.keep _ _ _ Cd fun b hb o e=>(I7.pin (b,o) (lM _ (lM _ (dD hb e)))).1,fun b hb=>?_,w7⟩
    obtain⟨o,e,d⟩:=T.obj _ _ Cd b hb
    exact (I7.pin (b,o) (lM _ (lM _ (dD hb e)))).2.1
   cases ok with
   | false =>
    rw[if_neg jX]at uo
    exact again HB uo
   | true =>
    rw[if_pos rfl]at uo
    refine bQ (Bc (Y:=qB X N scope s3.heap.objs.size s3 H3 fp (X.pn++pins)) hc rfl (hi2 _ _ _ _ _) (Sg _ _ _ _ _) (DA _ _ _ _ _) (he _ _ _ _ _) HB uo) fun x ou h11=>bQ h11 fun QL s12 h12=>codeAny_mono h12 fun r JX ⟨hr,σ',H',I13,n13⟩=>⟨hr,again I13 n13⟩
 exact codeAny_compStart_list (loop _ rfl) (T.self _ _ _ _ _ KY (loop _ rfl))
theorem Gh{K:PySem.W.Frag}{a acc:Addr}{xs:List V}{g:TG}{tt:TT}{xA:TI}{g2:TG}{xB:TT}{te:TE}{n:Nat}{H:Hp}{Q:VK}(Pv:Nat→L2.St→Hp→Prop)(h0:Pv 0 (List.replicate n none) H)(hl:∀ i σ H,i≤xs.length→Pv i σ H→bG K H a xs)
  (hs:∀ i x σ H,xs[i]?=some x→Pv i σ H→g x σ H fun σ2 H2=>tt σ2 H2 fun b H3=>if b=true then yO xA acc g2 xB te σ2 H3 (Pv (i+1)) else Pv (i+1) σ2 H3)
  (hd:∀ σ H,Pv xs.length σ H→Q (.ref acc) H):HD (JW K a) acc g tt xA g2 xB te n H Q:=by
 refine⟨fun i m σ H=>m=xs.length-i∧i≤xs.length∧Pv i σ H,⟨xs.length,by simp,mO _,h0⟩,?_⟩
 rintro i m σ H ⟨rfl,hi,p⟩
 have q:=hl i σ H hi p
 by_cases hlt:i<xs.length
 ·refine .inr ⟨⟨xs,xs[i],q,by simp[hlt]⟩,Pv (i+1),fun σ' H' p'=>⟨xs.length-(i+1),by omega,rfl,hlt,p'⟩,fun x H' y=>?_⟩
  obtain⟨e,y⟩:=y
  subst e
  exact hs i x σ _ (y xs q) p
 ·have e:i=xs.length:=by omega
  subst e
  exact .inl ⟨⟨xs,q,fH _⟩,hd σ H p⟩
theorem Ek{lo:Int}{k:Nat}{acc:Addr}{g:TG}{tt:TT}{te:TE}{σ:L2.St}{H:Hp}{Nx:L2.St→Hp→Prop}(Pv:Nat→L2.St→Hp→Prop)(h0:Pv 0 σ H)
  (hs:∀ i σ H,i<k→Pv i σ H→g (.int (lo+i)) σ H fun σ2 H2=>tt σ2 H2 fun b H3=>if b=true then te σ2 H3 fun v H4=>∃ ys,H4 acc=some (.lst ys)∧ys.length<sizeLine∧Pv (i+1) σ2 (upd H4 acc (.lst (ys++[v]))) else Pv (i+1) σ2 H3)
  (hd:∀ σ H,Pv k σ H→Nx σ H):∃ W:Nat→Nat→L2.St→Hp→Prop,(∃ m,W 0 m σ H)∧∀ i m σ H,W i m σ H →
  ((IG lo k).stop i H∧Nx σ H)∨((IG lo k).go i H∧∃ N2:L2.St→Hp→Prop,(∀ σ' H',N2 σ' H'→∃ m',m'<m∧W (i+1) m' σ' H')∧∀ x H',(IG lo k).IE i H x H'→g x σ H' fun σ2 H2=>tt σ2 H2 fun b H3 =>
   if b=true then te σ2 H3 fun v H4=>∃ xs,H4 acc=some (.lst xs)∧xs.length<sizeLine∧N2 σ2 (upd H4 acc (.lst (xs++[v]))) else N2 σ2 H3):=by
 refine⟨fun i m σ H=>m=k-i∧i≤k∧Pv i σ H,⟨k,by simp,mO _,h0⟩,?_⟩
 rintro i m σ H ⟨rfl,hi,p⟩
 by_cases hlt:i<k
 ·refine .inr ⟨hlt,Pv (i+1),fun σ' H' p'=>⟨k-(i+1),by omega,rfl,hlt,p'⟩,fun x H' y=>?_⟩
  obtain⟨e,y⟩:=y
  subst e y
  exact hs i σ _ hlt p
 ·have e:i=k:=by omega
  subst e
  exact .inl ⟨Nat.le_refl _,hd σ H p⟩
end
theorem PD{i:Nat}{v:V}{σ:L2.St}{H:Hp}{Q:L2.St→Bool→Hp→Prop}(h:Q (σ.set i (some v)) true H):wG i v σ H (fun σ2 H2=>KR σ2 H2 (Q σ2)):=h
theorem yes{σ:L2.St}{H:Hp}{Q:Bool→Hp→Prop}(h:Q true H):KR σ H Q:=h
section
variable {X:Cx} {N:List Str} {scope:Scope} {C:Addr} {s₀:Shared} {H₀:Hp} {ex:List Addr} {pn:List (Addr × Obj)}
theorem Ce{es:List Expr}{k:Nat}{t:N1}{n:Nat}{pos:Pos}(hc:X.calm=true)(h:QF (qB X N scope C s₀ H₀ ex pn) es t)
  (hn:(assignEach es (qB X N scope C s₀ H₀ ex pn).env).length=n:=by rfl) (hst:(assignEach es (qB X N scope C s₀ H₀ ex pn).env).findIdx? (·.1)=none:=by rfl):PG (qB X N scope C s₀ H₀ ex pn) (.Tuple es k pos) (MA X.K n t):=qJ (X:=qB X N scope C s₀ H₀ ex pn) hc h hn hst
theorem HE:Pb (qB X N scope C s₀ H₀ ex pn) (ML X.K):=dN
end
end cR
namespace iR
open PySem L2 cR
inductive Cf(vs:List V)(H:Hp)(Q:VK)(E:XK):Prop
 | mk (r:Addr) (row:Row) (_:vs=[.ref r]) (_:bP H r row) (_:(∀ p∈row,p.1≤p.2)) (_:(aS row).length≤1000000) (_ :
 ∀ (n:Addr) (H':Hp),H' n=some (.lst ((aS row).map V.int))→aH H H'→H n=none→Q (.ref n) H'):Cf vs H Q E
theorem yP{row:Row}{i:Nat}{p:Int × Int}(h:row[i]?=some p):aS (row.take (i+1))=aS (row.take i)++span p:=by
 rw[take_snoc h,cC,gS]
theorem sR(row:Row)(i:Nat):(aS (row.take i)).length≤(aS row).length:=by
 conv=>rhs;rw[← List.take_append_drop i row,cC,eZ]
 omega
theorem grown{H0 H2:Hp}{q t:Addr}{bs:List Addr}{row:Row}{st en:Int}(hq0:H0 q=none)(s:aH H0 H2)(hq2:H2 q=some (.lst (bs.map V.ref)))(hb:aX H2 bs row)(ht:H2 t=none) :
  (upd (upd H2 t (.tup [.int st,.int en])) q (.lst (bs.map V.ref++[.ref t]))) q=some (.lst ((bs++[t]).map V.ref)) ∧
  aX (upd (upd H2 t (.tup [.int st,.int en])) q (.lst (bs.map V.ref++[.ref t]))) (bs++[t]) (row++[(st,en)])∧aH H0 (upd (upd H2 t (.tup [.int st,.int en])) q (.lst (bs.map V.ref++[.ref t]))):=by
 have PF:q≠t:=au hq2 ht
 have s1:aH H2 (upd H2 t (.tup [.int st,.int en])):=aj ht _
 refine⟨by rw[af,lK];rfl,?_,bV hq0 (s.trans s1) (aI q _ _)⟩
 refine aX.snoc ((hb.same s1).keep (s1 _ _ hq2) (aI q _ _)) ?_
 show upd _ q _ t=_
 rw[aC PF.symm,af]
theorem turned{H0 H2:Hp}{q t a:Addr}{bs:List Addr}{row:Row}{st en:Int}(hq0:H0 q=none)(s:aH H0 H2)(hq2:H2 q=some (.lst (bs.map V.ref++[.ref a])))(hb:aX H2 bs row)(ht:H2 t=none) :
  (upd (upd H2 t (.tup [.int st,.int en])) q (.lst ((bs.map V.ref++[V.ref a]).set bs.length (V.ref t)))) q=some (.lst ((bs++[t]).map V.ref)) ∧
  aX (upd (upd H2 t (.tup [.int st,.int en])) q (.lst ((bs.map V.ref++[V.ref a]).set bs.length (V.ref t)))) (bs++[t]) (row++[(st,en)])∧aH H0 (upd (upd H2 t (.tup [.int st,.int en])) q (.lst ((bs.map V.ref++[V.ref a]).set bs.length (V.ref t)))):=by
 have PF:q≠t:=au hq2 ht
 have s1:aH H2 (upd H2 t (.tup [.int st,.int en])):=aj ht _
 have e:(bs.map V.ref++[V.ref a]).set bs.length (V.ref t)=(bs++[t]).map V.ref:=by
  have z:=Eh (bs.map V.ref) (V.ref a) (V.ref t)
  rw[bY]at z
  rw[z,lK];rfl
 rw[e]
 refine⟨af,?_,bV hq0 (s.trans s1) (aI q _ _)⟩
 refine aX.snoc ((hb.same s1).keep (s1 _ _ hq2) (aI q _ _)) ?_
 show upd _ q _ t=_
 rw[aC PF.symm,af]
theorem PK(bs:List Addr)(a:Addr):Hl (bs.map V.ref++[V.ref a]).length (-1)=some bs.length:=by
 rw[eZ,bY,ur]
 exact Eg _
theorem Je{f:Row→Int × Int→Row}{row:Row}{i:Nat}{p:Int × Int}(h:row[i]?=some p):(row.take (i+1)).foldl f []=f ((row.take i).foldl f []) p:=foldl_take_succ f row [] i p h
theorem El(row:Row):∀ t:Row,(row.foldl cY t).length≤t.length+row.length:=by
 induction row with
 | nil=>intro t;simp
 | cons p row ih =>
  intro t
  have h1:=ih (cY t p)
  have h2:(cY t p).length≤t.length+1:=by
   unfold cY
   split
   ·omega
   ·exact wO _ _ _
  rw[oS,mq]
  omega
theorem Em(ns:List Int):∀ t:Row,(ns.foldl (fun t n=>grow t n (n+1)) t).length≤t.length+ns.length:=by
 induction ns with
 | nil=>intro t;simp
 | cons n ns ih =>
  intro t
  have h1:=ih (grow t n (n+1))
  have h2:=wO t n (n+1)
  rw[oS,mq]
  omega
end iR
namespace iR
open PySem PySem.Spec PyProof.Rows L2 cR
inductive yQ(vs:List V)(H:Hp)(Q:VK)(E:XK):Prop
 | mk (r:Addr) (row:Row) (_:vs=[.ref r]) (_:bP H r row) (_:row.length≤1000000) (_: ∀ H',aH H H'→Q (.int (tot row)) H'):yQ vs H Q E
end iR
namespace jj
open PySem PySem.Spec PyProof.Rows PySem.W L2
section
variable {P:Program} {w:World} {H H':Hp} {h h0 g:Heap} {a T:Addr} {C a0:Value} {o:HO}
theorem MX(x:gh P w H h a o):∃ u,h.get? a=some u:=by
 cases o with
 | lst xs=>obtain⟨_,_,_,_,e⟩:=x;exact⟨_,e⟩
 | tup xs=>obtain⟨_,_,_,_,e,_⟩:=x;exact⟨_,e⟩
 | dK kvs=>obtain⟨_,_,_,_,_,_,_,e,_⟩:=x;exact⟨_,e⟩
 | dT kvs=>obtain⟨_,_,_,_,_,_,_,e,_⟩:=x;exact⟨_,e⟩
 | set S n=>obtain⟨_,_,_,_,e,_⟩:=x;exact⟨_,e⟩
 | ins C dx fs=>obtain⟨_,_,_,e,_⟩:=x;exact⟨_,e⟩
 | own y=>exact x
 | xd fs=>obtain⟨_,⟨_,_,_,e,_⟩,_⟩:=x;exact⟨_,e⟩
 | Dz lo hi=>obtain⟨_,_,_,e⟩:=x;exact⟨_,e⟩
 | FU ob u=>exact⟨_,x.1⟩
 | Mu ps=>exact⟨_,x⟩
 | met f y=>exact⟨_,x⟩
 | ext φ=>exact x.2.1
theorem HF(x:rC P w H h){b:Addr}(e:h.get? b=none):H b=none:=by
 cases q:H b with
 | none=>rfl
 | some u =>
  obtain⟨z,hz⟩:=MX (x b u q)
  rw[e]at hz
  cases hz
theorem Bd{l:List Addr}{b:Addr}(e:(hideAll h l).get? b=none):b∈l∨h.get? b=none:=by
 by_cases hb:b∈l
 ·exact .inl hb
 ·right
  cases q:h.get? b with
  | none=>rfl
  | some u=>rw[hideAll_get l q hb]at e;cases e
def Fly(h0:Heap)(H:Hp)(h:Heap)(a T:Addr)(C a0:Value):Prop :=
 (∃ oe vs oT ts,h.get? a=some oe∧(oe.cls=C∧vs[0]?=some a0)∧oe.data=.fields vs∧vs[1]?=some (.ref T)∧T≠a∧h.get? T=some oT∧oT.data=.fields ts∧ts[3]?=some .none)∧(H a=none∧H T=none)∧h0.get? a=none∧h0.get? T=none
theorem En{fs hd:List Addr}{l':List Env}(u:Un fs [] H H' h0 h)(hok:rC P w H' h)(h1:∀ b o,h0.get? b=some o→b∉fs→b∉hd)(h2:∀ b∈hd,H' b=none)
  (h3:∀ b∈fs,∃ o,h.get? b=some o∧∀ vs,o.data≠.fields vs) (h4:∀ b∈hd,h0.get? b=none∨∃ o,h.get? b=some o∧∀ vs,o.data≠.fields vs)
  (ha:h0.get? a=none) (ha':H' a=none) (f:Heap.FlyingW (hideAll h hd) l' a C a0 g) (k:h.UpToSlots g) :
  Un fs [] H H' h0 g∧rC P w H' g∧∃ T,Fly h0 H' g a T C a0:=by
 have nil:∀ b:Addr,b∉([]:List Addr):=fun b=>List.not_mem_nil
 have kp:∀ b o,h.get? b=some o→b∉hd→g.get? b=some o:=fun b o e n=>f.1 b o (hideAll_get hd e n)
 refine⟨⟨fun b o e n hb _=>kp b o (u.keep b o e n hb (nil b)) (h1 b o e hb),fun b o e n hb _=>?_,fun b o e n _=>u.free b o e n (nil b),fun b o e _=>?_,u.tups,u.An,u.BU⟩,fun b o e=>?_,?_⟩
 ·obtain⟨sl,e1⟩:=u.slot b o e n hb (nil b)
  obtain⟨o',e2,nf⟩:=h3 b hb
  obtain⟨T7,e3⟩:=k b o' e2 nf
  rw[e1]at e2
  cases e2
  exact⟨T7,e3⟩
 ·by_cases hb:b∈fs
  ·obtain⟨o',e2,nf⟩:=h3 b hb
   obtain⟨T7,e3⟩:=k b o' e2 nf
   exact⟨_,e3⟩
  ·obtain⟨o',e1⟩:=u.there b o e (nil b)
   exact⟨o',kp b o' e1 (h1 b o e hb)⟩
 ·refine (hok b o e).stay (fun c v hc q=>kp c v q fun hm=>?_) (fun _ q=>q) fun _ _ q=>q
  have hn:=h2 c hm
  rcases hc with rfl|hc
  ·rw[e]at hn;cases hn
  ·rw[hc]at hn;cases hn
 ·obtain⟨_,_,_,oe,vs,T,oT,ts,e1,e2,e3,e4,e5,e6,e7,e8,e9⟩:=f
  refine⟨T,⟨oe,vs,oT,ts,e1,e2,e3,e4,e6,e7,e8,e9⟩,⟨ha',?_⟩,ha,?_⟩
  ·rcases Bd e5 with hm|hn
   ·exact h2 T hm
   ·exact HF hok hn
  ·rcases Bd e5 with hm|hn
   ·rcases h4 T hm with z|⟨o,eo,nf⟩
    ·exact z
    ·obtain⟨sl,eg⟩:=k T o eo nf
     rw[e7]at eg
     cases eg
     exact absurd e8 (nf ts)
   ·cases q:h0.get? T with
    | none=>rfl
    | some o =>
     obtain⟨o',eo⟩:=u.there T o q (nil T)
     rw[hn]at eo
     cases eo
theorem Gi{base:Heap}{l:List Env}(F:Fly h0 H h a T C a0)(S:h.FunFrames base l):Heap.FlyingW (hideAll h (a::T::frs l)) l a C a0 h:=by
 obtain⟨⟨oe,vs,oT,ts,e1,e2,e3,e4,e5,e6,e7,e8⟩,_,_⟩:=F
 refine⟨fun b o e=>of_hideAll _ e,hideAll_none _ (qH),funFrames_hide S fun env he b hb=>?_,oe,vs,T,oT,ts,e1,e2,e3,e4,?_,e5,e6,e7,e8⟩
 ·exact rV _ (rV _ (List.mem_filterMap.mpr ⟨env,he,hb⟩))
 ·exact hideAll_none _ (rV _ qH)
end
def qC(P:Program)(w:World):Km:=fun outer H s E e s'=>∃ a T C a0 H',e=.ref a∧(s'.os=s.os∧AllBare s'.gens)∧Un (frs outer) [] H H' s.heap s'.heap∧rC P w H' s'.heap∧Fly s.heap H' s'.heap a T C a0∧E C none H'
section
variable {X:Cx} {pins:List (Addr × Obj)} {σ:L2.St} {H H1:Hp} {s s':Shared} {a T:Addr} {C a0:Value}
theorem K5(hst:X.stack=X.env::X.outer)(hf:X.env.frame=some X.env.locals):frs X.stack=X.env.locals::X.fs:=by
 rw[hst]
 unfold frs
 rw[List.filterMap_cons,hf]
 rfl
theorem Be(I:Inv X pins σ H s):∀ b∈frs X.stack,∃ o,s.heap.get? b=some o∧∀ vs,o.data≠.fields vs:=fun b hb=>(I.stack.mem hb).2
end
section
variable {P:Program} {w:World} {K:PySem.W.Frag} {mg:Str→Option Value} {base:Heap} {N:List Str} {qual:Str} {scope:Scope} {f:Addr} {cd:Value} {A:Around} {outer:List Env} {s:Shared} {H:Hp} {E:XK}
abbrev JY(P:Program)(w:World)(K:PySem.W.Frag)(mg:Str→Option Value)(base:Heap)(N:List Str)(qual:Str)(scope:Scope)(f:Addr)(cd:Value)(A:Around)(outer:List Env)(s:Shared)(H:Hp)(E:XK):Cx :=
 F4 (qC P w) P w K mg base N qual scope f cd A outer s H E
theorem qP:Passes (qC P w) (JY P w K mg base N qual scope f cd A outer s H E) E:=by
 intro pins σ H1 s1 e s' I h
 obtain⟨a,T,C,a0,H',rfl,⟨os,bare⟩,u,hok,F,q⟩:=h
 have I1:Inv (JY P w K mg base N qual scope f cd A outer s H E) pins σ H' s':=I.J9 (ch:=[]) os u hok bare (fun b z=>absurd z (by simp))
 obtain⟨_,⟨na,nT⟩,sa,sT⟩:=id F
 have old:∀ b,s1.heap.get? b=none→s.heap.get? b=none:=fun b e=>by
  cases z:s.heap.get? b with
  | none=>rfl
  | some o =>
   obtain⟨o',e'⟩:=I.base.there b o z (fun m=>absurd (show b∈([]:List Addr) from m) (by simp))
   rw[e]at e'
   cases e'
 refine wpAny_leaves_onW (base:=hideAll s'.heap (a::T::frs (JY P w K mg base N qual scope f cd A outer s H E).stack)) I.ok.frames rfl (Gi F I1.stack) fun g fl k=>?_
 have p1:∀ b o,s.heap.get? b=some o→b∉frs outer→b∉a::T::frs (JY P w K mg base N qual scope f cd A outer s H E).stack:=fun b o e hb hm=>by
  rcases List.mem_cons.mp hm with rfl|hm
  ·rw[old b sa]at e;cases e
  rcases List.mem_cons.mp hm with rfl|hm
  ·rw[old b sT]at e;cases e
  ·rw[K5 rfl rfl]at hm
   rcases List.mem_cons.mp hm with rfl|hm
   ·exact absurd (Heap.lt_size e) (Nat.not_lt.mpr I.ok.above)
   ·exact hb hm
 have p2:∀ b∈a::T::frs (JY P w K mg base N qual scope f cd A outer s H E).stack,H' b=none:=fun b hm=>by
  rcases List.mem_cons.mp hm with rfl|hm
  ·exact na
  rcases List.mem_cons.mp hm with rfl|hm
  ·exact nT
  ·exact I1.uz b hm
 have p4:∀ b∈a::T::frs (JY P w K mg base N qual scope f cd A outer s H E).stack,s.heap.get? b=none∨∃ o,s'.heap.get? b=some o∧∀ vs,o.data≠.fields vs:=fun b hm=>by
  rcases List.mem_cons.mp hm with rfl|hm
  ·exact .inl (old b sa)
  rcases List.mem_cons.mp hm with rfl|hm
  ·exact .inl (old b sT)
  ·exact .inr (Be I1 b hm)
 obtain⟨u',Ky,T',F'⟩:=En (h0:=s.heap) (fs:=frs outer) (hd:=a::T::frs (JY P w K mg base N qual scope f cd A outer s H E).stack) I1.base hok p1 p2 (fun b hb=>(I1.uy.mem hb).2) p4 (old a sa) na fl k
 exact⟨a,T',C,a0,H',rfl,⟨I1.os,bare⟩,u',Ky,F',q⟩
def Raises(X:Cx)(E:XK):Prop:=∀ (pins:List (Addr × Obj)) (σ:L2.St) (H:Hp) (s:Shared) (h':Heap) (e:Addr) (C:Value) (args:List Value),Inv X pins σ H s→Heap.MadeExcOf s.heap h' e C args→E C none H→X.xe (.ref e) { s with heap:=h' }
theorem vG:Raises (JY P w K mg base N qual scope f cd A outer s H E) E:=by
 intro pins σ H1 s1 h' e C args I M q
 have old:∀ b,s1.heap.get? b=none→s.heap.get? b=none:=fun b e=>by
  cases z:s.heap.get? b with
  | none=>rfl
  | some o =>
   obtain⟨o',e'⟩:=I.base.there b o z (fun m=>absurd (show b∈([]:List Addr) from m) (by simp))
   rw[e]at e'
   cases e'
 refine wpAny_leaves_madeW (base:=hideAll s1.heap (frs (JY P w K mg base N qual scope f cd A outer s H E).stack)) (h:=s1.heap) I.ok.frames rfl (fun b o e=>of_hideAll _ e) (funFrames_hide I.stack fun env he b hb=>List.mem_filterMap.mpr ⟨env,he,hb⟩) M fun g t fl _ _ k=>?_
 have k1:s1.heap.UpToSlots g:=(Heap.UpToSlots.of_keeps M.keeps).trans k
 have p1:∀ b o,s.heap.get? b=some o→b∉frs outer→b∉frs (JY P w K mg base N qual scope f cd A outer s H E).stack:=fun b o e hb hm=>by
  rw[K5 rfl rfl]at hm
  rcases List.mem_cons.mp hm with rfl|hm
  ·exact absurd (Heap.lt_size e) (Nat.not_lt.mpr I.ok.above)
  ·exact hb hm
 obtain⟨u',Ky,T',F'⟩:=En (h0:=s.heap) (fs:=frs outer) (hd:=frs (JY P w K mg base N qual scope f cd A outer s H E).stack) I.base I.hok p1 (fun b hm=>I.uz b hm) (fun b hb=>(I.uy.mem hb).2) (fun b hm=>.inr (Be I b hm)) (old e M.new) (HF I.hok M.new) fl k1
 exact⟨e,T',C,.ref t,H1,rfl,⟨I.os,I.bare⟩,u',Ky,F',q⟩
theorem HG{x qual:Str}{st:Stmt}{f:Addr}{fd:FuncData}{N ps:List Str}{k:Nat}{sp:Sp}(F:gX K x qual st f fd)(S:aG N ps (ay st))(len:∀ vs H Q E,sp vs H Q E→vs.length=ps.length)
  (hbody:∀ (cdv:Value) (A:Around) (outer:List Env) (s:Shared) (H:Hp) (vs:List V) (Q:VK) (E:XK),kq k (A.deeper (envOfC qual (ay st) s.heap.objs.size f cdv))→sp vs H Q E →
   ∃ t,G5 (JY P w K mg base N qual (ay st) f cdv A outer s H E) (kB st) t∧t { nx:=fun _ H'=>Q .jE H',rt:=Q } (start N vs) H):aF P w K mg base (qC P w) (k+1) f fd ps sp:=by
 obtain⟨oc,od,kV,doc,pm,an,cdv,ct,osl,rfl,lk,hcd⟩:=F.ex
 exact N9 lk hcd S len fun A outer s H vs Q E hr F5=>hbody cdv A outer s H vs Q E hr F5
end
section
variable {X:Cx}
theorem MY{K:Frag}{h:Heap}{C:Addr}{bmB:List Value}{newId:String}{x:Str}{mg:Str→Option Value}(I:K.In h)(m:mg x=some (.ref C))(q:excIn K C bmB newId=true):OwnCls x C bmB newId mg h:=by
 refine⟨m,?_⟩
 unfold excIn at q
 split at q
 case h_2=>cases q
 rename_i dd cd sl ho
 split at q
 case h_2=>cases q
 rename_i c1 bm k0 k1 k2 k3 n k5 hm hs
 simp only[Bool.and_eq_true,beq_iff_eq,Bool.not_eq_true']at q
 obtain⟨⟨⟨⟨⟨e1,e2⟩,abQ⟩,ht⟩,hno⟩,hni⟩:=q
 cases e1
 cases e2
 cases cd with
 | mk nm bs mro ns qn hd sn sub ab col del =>
  cases hm
  cases abQ
  cases sl with
  | mk l =>
   have hs':l=[k0,k1,k2,k3,some (.builtin newId),k5]:=hs
   subst hs'
   exact⟨bm,ns,nm,qn,bs,hd,sn,sub,ab,col,dd,k0,k1,k2,k3,k5,_,I _ _ ho,.of_isNs (isNs_of_in I hno),nsMap_none_of_in I hno hni,tail_of_in I ht⟩
def PL(C:Addr)(E:XK)(t:TA):TS:=fun _ σ H=>t σ H fun vs H1=>vs.length≤sizeLine∧E (.ref C) none H1
theorem pN{E:XK}{x:Str}{C:Addr}{bmB:List Value}{newId initId B:String}{e:Expr}{es:List Expr}{t:TA}{np cpos pos:Pos}(FB:ExcBaseFacts B newId initId bmB)(hx:excIn X.K C bmB newId=true)(hm:X.mg x=some (.ref C))(hc:X.calm=true)(hr:Raises X E)
  (ha:PA X (e::es) t) (hg:Gl X x:=by rfl) (hdb:(x == ("__debug__":Str))=false:=by decide) (he:starEach (e::es) X.env=(false,eval e X.env)::starEach es X.env:=by rfl) (hpl:(backTo cpos (starEach es X.env)).any (·.1)=false:=by rfl) :
  PS X (.Raise (some (.Call (.Name x np) (e::es) [] cpos)) none pos) (PL C E t):=by
 intro pins s σ H D I h
 obtain⟨tl,Nd,c1,c2,c3,c4,c5,c6,c7,c8,c9,d0,d1,d2,d3,d5,mN,hC,hN,hni,T⟩:=(MY I.mod.Rf hm hx).obj
 refine wpAny_Raise_call_subT (nm:=c1) (q:=c2) (N:=Nd) (bs:=c3) (hdct:=c4) (sn:=c5) (sub:=c6) (ab:=c7) (col:=c8) (dd:=c9) (k0:=d0) (k1:=d1) (k2:=d2) (k3:=d3) (k5:=d5) FB (T.hasType FB.hasBase) (I.ok.hd hc) (by rw[he];show (false || (backTo cpos (starEach es X.env)).any (·.1))=false;rw[hpl];rfl) hni (uA I hg hm ⟨rfl,?_⟩ hdb)
 rw[he]
 have hw:=ha cpos pins s σ H _ I h
 rw[he]at hw
 refine Calls.evalArgs_plain (bQ hw fun us s1 ⟨vs,H1,I1,r,q1,q2⟩=>?_)
 exact⟨rfl,by rw[← r.length];exact q1,I1.bk _ _ hC,hN.keeps I1.bk,T.keeps I1.bk,fun h' e M=>hr pins σ H1 s1 h' e _ _ I1 M q2⟩
end
section
variable {X:Cx} {x:Str} {st:Stmt} {ps:List Str} {f:Addr} {fd:FuncData} {j k:Nat} {sp:Sp} {e:Expr} {es:List Expr} {t:TA} {p pos:Pos} {E:XK}
theorem Cg(d:iR.aA X.K X.mg x st ps f fd)(G:aF X.prog X.w X.K X.mg X.base (qC X.prog X.w) k f fd ps sp)(hr:kq j X.A)(hx:Passes (qC X.prog X.w) X E)
  (ha:PA X (e::es) t) (hjk:k≤j:=by first|decide|omega) (hg:Gl X x:=by rfl) (hdb:(x == ("__debug__":Str))=false:=by decide) (he:starEach (e::es) X.env=(false,eval e X.env)::starEach es X.env:=by rfl)
  (hpl:(backTo pos (starEach es X.env)).any (·.1)=false:=by rfl):PE X (.Call (.Name x p) (e::es) [] pos) (DR sp [] E t) :=
 B0 G (hr.mono hjk) hg d.m d.F.kp d.b .nil hx ha hdb he hpl
end
end jj
namespace jj
open PySem PySem.Spec PyProof.Rows L2
section
variable {X:Cx}
abbrev TJ:=L2.St→Hp→(Hp→Prop)→Prop
def PJ(X:Cx)(es:List Expr)(m:Nat)(t:TJ):Prop:=∀ (pins:List (Addr × Obj)) (s:Shared) (σ:L2.St) (H:Hp) (out:Str) (Q:Hp→Prop),L2.Inv X pins σ H s→t σ H Q→out.length+m≤1000000 →
 wpAny (model X.prog X.w) X.A (joinParts out (evalEach es X.env)) (fun u s'=>∃ x tk H',u=.str x tk∧L2.Inv X pins σ H' s'∧Q H') X.xe s
theorem vH:PJ X [] 0 (fun _ H Q=>Q H):=fun pins s σ H out Q I h hl =>
 joinParts_nil ⟨out,_,H,rfl,I.tok _,h⟩ (jb (Nat.lt_of_le_of_lt hl (by decide)))
theorem xU{out y:Str}{m n:Nat}(h:out.length+(n+m)≤1000000)(hy:y.length≤n):(out++y).length≤sizeLine∧(out++y).length+m≤1000000:=by
 rw[PySem.strLen_append]
 refine⟨Nat.le_of_lt (Nat.lt_of_le_of_lt (show out.length+y.length≤1000000 by omega) (by decide)),by omega⟩
theorem mz{x:Str}{j:Nat}{pos:Pos}{es:List Expr}{m:Nat}{t:TJ}(h:PJ X es m t):PJ X (.Constant (.str x) j pos::es) (x.length+m) t:=by
 intro pins s σ H out Q I q hl
 refine joinParts_consE (joinParts_cons (Calls.Constant_str ?_))
 have z:=xU (y:=x) hl (fH _)
 exact⟨z.1,h pins _ σ H _ Q (I.tok _) q z.2⟩
theorem nI{e:Expr}{te:TE}{pos:Pos}{es:List Expr}{m:Nat}{t:TJ}(he:PE X e te)(h:PJ X es m t):PJ X (.FormattedValue e (-1) none pos::es) (1921+m) (fun σ H Q=>te σ H fun v H1=>∃ i:Int,v=.int i∧i.natAbs.log2<1920∧t σ H1 Q):=by
 intro pins s σ H out Q I q hl
 refine joinParts_consE (joinParts_cons (FormattedValue_plain (bQ (he pins s σ H _ I q) fun v s1 ⟨x,H1,I1,r1,i,e1,hi,q1⟩=>?_)))
 subst e1
 obtain⟨tk,rfl⟩:=r1
 refine formatField_int_small hi ?_
 have z:=xU (y:=Str.ofString (toString i)) hl (int_text_len_1921 hi)
 exact⟨z.1,h pins _ σ H1 _ Q (I1.tok _) q1 z.2⟩
theorem rJ{v1 v2:Expr}{rest:List Expr}{pos:Pos}{m:Nat}{t:TJ}(h:PJ X (v1::v2::rest) m t)(hm:m≤1000000:=by decide +kernel):PE X (.JoinedStr (v1::v2::rest) pos) (fun σ H Q=>t σ H fun H1=>∀ x,Q (.str x) H1):=by
 intro pins s σ H Q I q
 refine JoinedStr_many (bQ (h pins s σ H Str.empty _ I q (by show 0+m≤_;omega)) fun u s1 ⟨x,tk,H1,e,I1,q1⟩=>?_)
 subst e
 exact⟨.str x,H1,I1,⟨_,rfl⟩,q1 x⟩
def MZ(r r' r2:R2)(ta tb tc td:TE):TT:=fun σ H Q=>ta σ H fun x H1=>tb σ H1 fun y H2=>r x y H2 fun z H3=>∃ k,z=.bl k ∧
 (if k=true then tc σ H3 fun u H4=>r' y u H4 fun z' H5=>∃ k',z'=.bl k'∧(if k'=true then td σ H5 fun v H6=>r2 u v H6 fun z2 H7=>∃ k2,z2=.bl k2∧Q k2 H7 else Q false H5) else Q false H3)
theorem Jf{op op' PM:CmpOp}{r r' r2:R2}{a b c d:Expr}{ta tb tc td:TE}{pos:Pos}(ho:uB X (compareOp op) r)(ho':uB X (compareOp op') r')(ho2:uB X (compareOp PM) r2)(ha:PE X a ta)(hb:PE X b tb)(hc:PE X c tc)(hd:PE X d td)
  (hm:lastMarks [op,op',PM] [b,c,d]=false:=by with_unfolding_all rfl):PT X (.Compare a [op,op',PM] [b,c,d] pos) (MZ r r' r2 ta tb tc td):=by
 intro pins s σ H Q I h
 refine isTrue_chain (bQ (ha pins s σ H _ I h) fun v s1 ⟨x,H1,I1,r1,q1⟩=>test_link (bQ (hb pins s1 σ H1 _ I1 q1) fun u s2 ⟨y,H2,I2,r2',q2⟩ =>
  bQ (ho pins s2 σ H2 x y v u _ I2 r1 r2' q2) fun z s3 ⟨z',H3,I3,r3,k,e,q3⟩=>?_)) hm
 subst e
 cases r3
 refine wpAny_truthy_bool ?_
 cases k with
 | false=>exact ite_ff ⟨H3,I3,q3⟩
 | true =>
  refine ite_tt (test_link (bQ (hc pins s3 σ H3 _ I3 q3) fun v4 s4 ⟨x4,H4,I4,r4,q4⟩=>bQ (ho' pins s4 σ H4 y x4 u v4 _ I4 r2' r4 q4) fun z5 s5 ⟨x5,H5,I5,r5,k5,e5,q5⟩=>?_))
  subst e5
  cases r5
  refine wpAny_truthy_bool ?_
  cases k5 with
  | false=>exact ite_ff ⟨H5,I5,q5⟩
  | true =>
   refine ite_tt (test_last (bQ (hd pins s5 σ H5 _ I5 q5) fun v6 s6 ⟨x6,H6,I6,r6,q6⟩=>bQ (ho2 pins s6 σ H6 x4 x6 v4 v6 _ I6 r4 r6 q6) fun z7 s7 ⟨x7,H7,I7,r7,k7,e7,q7⟩=>?_))
   subst e7
   cases r7
   exact wpAny_truthy_bool ⟨H7,I7,q7⟩
end
end jj
namespace iR
open PySem L2 cR jj
theorem aW{H H':Hp}{a:Addr}(s:aH H H')(h:H' a=none):H a=none:=by
 cases q:H a with
 | none=>rfl
 | some o=>rw[s a o q]at h;cases h
def vI(i:Int):Prop:=-(10^60)<i∧i<10^60
theorem vI.log{i:Int}(h:vI i):i.natAbs.log2<1920:=by
 have h1:i.natAbs<2^1920:=by
  have:i.natAbs<10^60:=by
   obtain⟨a,b⟩:=h
   have e:((10:Int)^60)=(((10:Nat)^60:Nat):Int):=by norm_cast
   rw[e]at a b
   omega
  exact pU this (by decide +kernel)
 by_cases h0:i.natAbs=0
 ·rw[h0]
  decide
 ·exact (Nat.log2_lt h0).mpr h1
def K6(a b h:Int)(p:Int × Int):Row:=if max (a-h) 0<min (b-h) (p.2-p.1) then [(p.1+max (a-h) 0,p.1+min (b-h) (p.2-p.1))] else []
def vh(a b:Int):Int→Row→Row
 | _,[]=>[]
 | h,p::r=>K6 a b h p++vh a b (h+(p.2-p.1)) r
theorem Eo(a b:Int)(p:Int × Int):∀ (r:Row) (c:Int),vh a b c (r++[p])=vh a b c r++K6 a b (c+tot r) p
 | [],c=>by simp[vh,MQ]
 | q::r,c=>by
  have e:c+(q.2-q.1)+tot r=c+tot (q::r):=by rw[Ed];omega
  rw[List.cons_append,vh,Eo a b p r,vh,e,pC]
theorem PN(a b h:Int)(p:Int × Int):(K6 a b h p).length≤1:=by
 unfold K6
 split <;> simp
theorem yR(a b:Int):∀ (r:Row) (c:Int),(vh a b c r).length≤r.length
 | [],_=>fH _
 | q::r,c=>by
  have ih:=yR a b r (c+(q.2-q.1))
  have z:=PN a b c q
  rw[vh,eZ,mq]
  omega
theorem K9(a b h:Int)(p:Int × Int):∀ q∈K6 a b h p,q.1≤q.2:=by
 unfold K6
 split
 ·intro q hq
  simp only[List.mem_singleton]at hq
  subst hq
  simp only
  omega
 ·intro q hq
  cases hq
theorem La(a b:Int):∀ (r:Row) (c:Int),∀ q∈vh a b c r,q.1≤q.2
 | [],_=>fun q hq=>by cases hq
 | p::r,c=>fun q hq=>by
  rw[vh]at hq
  rcases List.mem_append.mp hq with z|z
  ·exact K9 a b c p q z
  ·exact La a b r _ q z
theorem Ep(s:Int):∀ (n k:Nat),(run s n).drop k=run (s+k) (n-k)
 | n,0=>by simp
 | 0,k+1=>by simp[run]
 | n+1,k+1=>by
  rw[run,List.drop_succ_cons,Ep (s+1) n k]
  have e1:s+1+(k:Int)=s+((k+1:Nat):Int):=by omega
  have e2:n+1-(k+1)=n-k:=by omega
  rw[e1,e2]
theorem Er(s:Int):∀ (n k:Nat),(run s n).take k=run s (min k n)
 | n,0=>by simp[run]
 | 0,k+1=>by simp[run]
 | n+1,k+1=>by
  rw[run,List.take_succ_cons,Er (s+1) n k]
  have e2:min (k+1) (n+1)=min k n+1:=by omega
  rw[e2,run]
theorem Jg(a b h:Int)(p:Int × Int)(hp:p.1≤p.2):aS (K6 a b h p)=((span p).take (b-h).toNat).drop (a-h).toNat:=by
 obtain⟨s,e⟩:=p
 simp only at hp
 unfold K6 span
 simp only
 rw[Er,Ep]
 split
 ·rename_i hc
  rw[gS,span]
  simp only
  congr 1
  ·omega
  ·omega
 ·rename_i hc
  have z:min (b-h).toNat (e-s).toNat-(a-h).toNat=0:=by omega
  rw[z]
  rfl
theorem Bf(a b:Int):∀ (r:Row) (h:Int),(∀ p∈r,p.1≤p.2)→aS (vh a b h r)=((aS r).take (b-h).toNat).drop (a-h).toNat
 | [],h,_=>by simp[vh,aS]
 | p::r,h,ok=>by
  have hp:=ok p (qH ..)
  have ih:=Bf a b r (h+(p.2-p.1)) fun q hq=>ok q (rV _ hq)
  have e:aS (p::r)=span p++aS r:=rfl
  have hl:=wQ p hp
  rw[vh,cC,Jg a b h p hp,ih,e,List.take_append,List.drop_append,ko]
  congr 1
  have e1:(b-(h+(p.2-p.1))).toNat=(b-h).toNat-(span p).length:=by omega
  rw[e1]
  by_cases hb:(span p).length≤(b-h).toNat
  ·have e2:(a-(h+(p.2-p.1))).toNat=(a-h).toNat-min (b-h).toNat (span p).length:=by omega
   rw[e2]
  ·have e3:(b-h).toNat-(span p).length=0:=by omega
   rw[e3]
   simp
def Si(a b t:Int):Prop:=0≤a∧a≤b∧b≤t
inductive xV(C:Addr)(vs:List V)(H:Hp)(Q:VK)(E:XK):Prop
 | mk (r:Addr) (row:Row) (a b:Int) (_:vs=[.ref r,.int a,.int b]) (_:bP H r row) (_:row.length≤1000000) (_:vI a) (_:vI b) (_:vI (tot row)) (_:(Si a b (tot row)→∀ H',aH H H'→Q .jE H')) (_:(¬ Si a b (tot row)→∀ H',aH H H'→E (.ref C) none H')):xV C vs H Q E
inductive yS(vs:List V)(H:Hp)(Q:VK)(E:XK):Prop
 | mk (r:Addr) (row:Row) (a b:Int) (_:vs=[.ref r,.int a,.int b]) (_:bP H r row) (_:row.length≤1000000) (_ :
 ∀ (q:Addr) (H':Hp),bP H' q (vh a b 0 row)→aH H H'→H q=none→Q (.ref q) H'):yS vs H Q E
structure ExcAt(K:PySem.W.Frag)(mg:Str→Option Value)(C:Addr):Prop where
 m:mg "OutOfPlace"=some (.ref C)
 x:PySem.W.excIn K C [.type "ValueError",.type "Exception",.type "BaseException",.type "object"] "ValueError.__new__"=true
 h:PySem.W.exmOne K (.ref C) (.ref C)=some true
end iR
namespace iR
open PySem L2 cR jj
theorem Bg{P:Program}{w:World}{X:Cx}:Passes (qC P w) X (fun _ _ _=>False):=fun _ _ _ _ _ _ _ h=>by
 obtain⟨_,_,_,_,_,_,_,_,_,_,z⟩:=h
 exact z.elim
end iR
namespace iR
open PySem L2 cR jj
theorem wR(r:Row)(ok:∀ p∈r,p.1≤p.2):aS (dm r)=aS r:=by rw[Ec r ok,dX]
theorem yT(a b:Int)(row:Row)(ok:∀ p∈row,p.1≤p.2):aS (dm (vh a b 0 row))=((aS row).take b.toNat).drop a.toNat:=by
 rw[wR _ (La a b row 0),Bf a b row 0 ok,Int.sub_zero,Int.sub_zero]
theorem run_get(s:Int):∀ (n k:Nat),k<n→(run s n)[k]?=some (s+k)
 | 0,k,h=>by omega
 | n+1,0,_=>by simp[run]
 | n+1,k+1,h=>by
  rw[run,List.getElem?_cons_succ,run_get (s+1) n k (by omega)]
  congr 1
  omega
theorem vJ(r:Row):(dm r).length≤r.length:=by
 have z:=El r []
 simpa [dm] using z
end iR
namespace iR
open PySem PySem.Spec PyProof.Rows L2 cR jj
theorem aX.append{H:Hp}:∀ {as bs:List Addr} {r q:Row},aX H as r→aX H bs q→aX H (as++bs) (r++q)
 | _,_,_,_,.nil,t=>t
 | _,_,_,_,.cons e r,t=>.cons e (aX.append r t)
end iR
namespace L2
open PySem PySem.Spec PyProof.Rows
section
variable {κ:Type} [DecidableEq κ]
def bU(kvs:List (κ × V))(k:κ):Option V:=(kvs.find? fun kv=>decide (kv.1=k)).map (·.2)
def putK(kvs:List (κ × V))(k:κ)(v:V):List (κ × V) :=
 if (kvs.any fun kv=>decide (kv.1=k))=true then kvs.map (fun kv=>if kv.1=k then (kv.1,v) else kv) else kvs++[(k,v)]
theorem jk{p:κ × V}{r:List (κ × V)}{k:κ}(e:p.1=k):bU (p::r) k=some p.2:=by simp[bU,List.find?_cons,e]
theorem jl{p:κ × V}{r:List (κ × V)}{k:κ}(e:¬ p.1=k):bU (p::r) k=bU r k:=by simp[bU,List.find?_cons,e]
theorem nJ(k:κ):∀ kvs:List (κ × V),(kvs.any fun kv=>decide (kv.1=k))=(bU kvs k).isSome
 | []=>rfl
 | p::r=>by
  rw[List.any_cons]
  by_cases e:p.1=k
  ·simp only[jk e,decide_eq_true e,Bool.true_or,Option.isSome_some]
  ·rw[jl e,decide_eq_false e,Bool.false_or];exact nJ k r
theorem Es(k j:κ)(y:V):∀ kvs:List (κ × V),bU (kvs.map fun kv=>if kv.1=k then (kv.1,y) else kv) j=(bU kvs j).map fun x=>if j=k then y else x
 | []=>rfl
 | p::r=>by
  have ih:=Es k j y r
  rw[kO]
  by_cases h:p.1=k
  ·rw[if_pos h]
   by_cases e:p.1=j
   ·rw[jk (p:=(p.1,y)) e,jk e,Option.map_some,if_pos (e.symm.trans h)]
   ·rw[jl (p:=(p.1,y)) e,jl e,ih]
  ·rw[if_neg h]
   by_cases e:p.1=j
   ·rw[jk (p:=p) e,jk e,Option.map_some,if_neg (fun z=>h (e.trans z))]
   ·rw[jl (p:=p) e,jl e,ih]
theorem Bh(k j:κ)(y:V):∀ kvs:List (κ × V),bU kvs k=none→bU (kvs++[(k,y)]) j=if j=k then some y else bU kvs j
 | [],_=>by
  by_cases e:k=j
  ·rw[if_pos e.symm];exact jk (p:=(k,y)) e
  ·rw[if_neg (fun z=>e z.symm)];exact jl (p:=(k,y)) e
 | p::r,hn=>by
  rw[List.cons_append]
  have hk:¬ p.1=k:=fun z=>by rw[jk z]at hn;cases hn
  rw[jl hk]at hn
  have ih:=Bh k j y r hn
  by_cases e:p.1=j
  ·rw[jk e,jk e,if_neg (fun z=>hk (e.trans z))]
  ·rw[jl e,jl e,ih]
theorem lV(kvs:List (κ × V))(k j:κ)(y:V):bU (putK kvs k y) j=if j=k then some y else bU kvs j:=by
 unfold putK
 by_cases a:(kvs.any fun kv=>decide (kv.1=k))=true
 ·rw[if_pos a,Es]
  rw[nJ]at a
  by_cases e:j=k
  ·obtain⟨x,hx⟩:=Option.isSome_iff_exists.mp a
   rw[if_pos e,e,hx,Option.map_some,if_pos rfl]
  ·rw[if_neg e]
   cases bU kvs j with
   | none=>rfl
   | some x=>rw[Option.map_some,if_neg e]
 ·rw[if_neg a]
  refine Bh k j y kvs ?_
  rw[nJ]at a
  cases q:bU kvs k with
  | none=>rfl
  | some x=>rw[q]at a;exact (a rfl).elim
theorem jm(kvs:List (κ × V))(k:κ)(v:V):(putK kvs k v).length≤kvs.length+1:=by
 unfold putK
 split
 ·rw[bY];omega
 ·rw[eZ,mq,oq];omega
theorem yU{kvs:List (κ × V)}{k:κ}(v:V)(h:bU kvs k=none):putK kvs k v=kvs++[(k,v)]:=by
 unfold putK
 rw[nJ,h]
 exact if_neg (by decide)
theorem rY.vK{o:Option V}{u:Option Value}(r:rY o u):o.isSome=u.isSome:=by
 cases o with
 | none=>cases u with
  | none=>rfl
  | some _=>exact (show False from r).elim
 | some _=>cases u with
  | none=>exact (show False from r).elim
  | some _=>rfl
theorem KV.val{kvs:List (κ × V)}{vs:List (κ × Value)}(r:KV kvs vs)(k:κ):rY (bU kvs k) (valueAt vs k):=by
 unfold KV at r
 induction r with
 | nil=>exact True.intro
 | @cons p q ps qs h t ih =>
  obtain⟨h1,h2⟩:=h
  by_cases e:p.1=k
  ·have e':q.1=k:=h1.symm.trans e
   have b:valueAt (q::qs) k=some q.2:=by simp[valueAt,List.find?_cons,e']
   rw[jk e,b];exact h2
  ·have e':¬ q.1=k:=fun z=>e (h1.trans z)
   have b:valueAt (q::qs) k=valueAt qs k:=by simp[valueAt,List.find?_cons,e']
   rw[jl e,b];exact ih
theorem KV.any{kvs:List (κ × V)}{vs:List (κ × Value)}(r:KV kvs vs)(k:κ):(kvs.any fun kv=>decide (kv.1=k))=vs.any fun kv=>decide (kv.1=k):=by
 unfold KV at r
 induction r with
 | nil=>rfl
 | cons h t ih=>rw[List.any_cons,List.any_cons,ih,h.1]
theorem KV.repl{kvs:List (κ × V)}{vs:List (κ × Value)}(r:KV kvs vs)(k:κ){y:V}{u:Value}(ry:RelV y u) :
  KV (kvs.map fun kv=>if kv.1=k then (kv.1,y) else kv) (vs.map fun kv=>if kv.1=k then (kv.1,u) else kv):=by
 unfold KV at r ⊢
 induction r with
 | nil=>exact .nil
 | @cons p q ps qs h t ih =>
  rw[kO,kO]
  refine .cons ?_ ih
  obtain⟨h1,h2⟩:=h
  by_cases e:p.1=k
  ·rw[if_pos e,if_pos (h1.symm.trans e)];exact⟨h1,ry⟩
  ·rw[if_neg e,if_neg (fun z=>e (h1.trans z))];exact⟨h1,h2⟩
theorem KV.put{kvs:List (κ × V)}{vs:List (κ × Value)}(r:KV kvs vs)(k:κ){y:V}{u:Value}(ry:RelV y u):KV (putK kvs k y) (stored vs k u):=by
 unfold putK stored
 rw[r.any k]
 by_cases e:(vs.any fun kv=>decide (kv.1=k))=true
 ·rw[if_pos e,if_pos e];exact r.repl k ry
 ·rw[if_neg e,if_neg e];exact Paired.snoc r ⟨rfl,ry⟩
theorem KV.length{kvs:List (κ × V)}{vs:List (κ × Value)}(r:KV kvs vs):kvs.length=vs.length:=Paired.length r
end
theorem Bj{P:Program}{w:World}{k:Key}{u:Value}(r:RelV (kV k) u):(gf P w).is k u=true:=by
 cases k with
 | inl i=>obtain⟨t,e⟩:=(show ∃ t,u=Value.int i t from r);subst e;exact DG P w i t
 | inr x=>obtain⟨t,e⟩:=(show ∃ t,u=Value.str x t from r);subst e;exact DH P w x t
theorem Bk{P:Program}{w:World}:∀ {ks:List Key} {us:List Value},Vals (ks.map kV) us→ItemsAre (gf P w) ks us
 | [],_,r=>by rw[List.map_nil]at r;cases r;exact .nil
 | k::ks,_,r=>by
  rw[kO]at r
  cases r with
  | cons h t=>exact .cons (Bj h) (Bk t)
abbrev KT(H:Hp):List (List Key × V)→List (List Key × Addr × Value)→Prop:=Paired fun p q=>p.1=q.1∧H q.2.1=some (.tup (p.1.map kV))∧RelV p.2 q.2.2
theorem KT.val{H:Hp}{kvs:List (List Key × V)}{xs:List (List Key × Addr × Value)}(r:KT H kvs xs)(k:List Key):rY (bU kvs k) ((atKey xs k).map (·.2)):=by
 induction r with
 | nil=>exact True.intro
 | @cons p q ps qs h t ih =>
  obtain⟨h1,_,h2⟩:=h
  by_cases e:p.1=k
  ·have e':q.1=k:=h1.symm.trans e
   have b:atKey (q::qs) k=some q.2:=by simp[atKey,List.find?_cons,e']
   rw[jk e,b];exact h2
  ·have e':¬ q.1=k:=fun z=>e (h1.trans z)
   have b:atKey (q::qs) k=atKey qs k:=by simp[atKey,List.find?_cons,e']
   rw[jl e,b];exact ih
theorem KT.repl{H:Hp}{kvs:List (List Key × V)}{xs:List (List Key × Addr × Value)}(r:KT H kvs xs)(k:List Key){y:V}{u:Value}(ry:RelV y u) :
  KT H (kvs.map fun kv=>if kv.1=k then (kv.1,y) else kv) (xs.map (putAt k u)):=by
 induction r with
 | nil=>exact .nil
 | @cons p q ps qs h t ih =>
  rw[kO,kO]
  refine .cons ?_ ih
  obtain⟨h1,h2,h3⟩:=h
  unfold putAt
  by_cases e:p.1=k
  ·rw[if_pos e,if_pos (h1.symm.trans e)];exact⟨h1,h2,ry⟩
  ·rw[if_neg e,if_neg (fun z=>e (h1.trans z))];exact⟨h1,h2,h3⟩
theorem KT.put{H:Hp}{kvs:List (List Key × V)}{xs:List (List Key × Addr × Value)}(r:KT H kvs xs)(k:List Key){b:Addr}{y:V}{u:Value}(hb:H b=some (.tup (k.map kV)))(ry:RelV y u) :
  KT H (putK kvs k y) (storedH xs k b u):=by
 have e:(kvs.any fun kv=>decide (kv.1=k))=(atKey xs k).isSome:=by
  rw[nJ,(r.val k).vK,Option.isSome_map]
 unfold putK storedH
 rw[e]
 by_cases q:(atKey xs k).isSome=true
 ·rw[if_pos q,if_pos q];exact r.repl k ry
 ·rw[if_neg q,if_neg q];exact Paired.snoc r ⟨rfl,hb,ry⟩
theorem KT.keeps{H H':Hp}{kvs:List (List Key × V)}{xs:List (List Key × Addr × Value)}(r:KT H kvs xs)(ht:∀ b ys,H b=some (.tup ys)→H' b=some (.tup ys)):KT H' kvs xs :=
 Paired.DJ r fun _ _ z=>⟨z.1,ht _ _ z.2.1,z.2.2⟩
section
variable {P:Program} {w:World} {H:Hp} {h:Heap} {a:Addr}
theorem Od{u:HO}(ok:rC P w H h)(e:Rd H a u):gh P w H h a u:=e.ok ok
theorem Et{kvs:List (Key × V)}(ok:rC P w H h)(e:Rd H a (.dK kvs)):kvs.length≤sizeLine∧(a == sysModules)=false∧∃ vs,KV kvs vs∧h.DictOf (gf P w) a vs :=
 show gh P w H h a (.dK kvs) from Od ok e
theorem Lb{kvs:List (Key × V)}(ok:rC P w H h)(e:H a=some (.dK kvs)):kvs.length≤sizeLine∧(a == sysModules)=false∧∃ vs,KV kvs vs∧h.DictOf (gf P w) a vs:=Et ok (.inl e)
theorem Ci{ks:List Key}(ok:rC P w H h)(e:H a=some (.tup (ks.map kV))):(tupleKind (gf P w)).is h ks a:=by
 obtain⟨_,its,r,o,h1,h2,n,h3⟩:=(show gh P w H h a (.tup (ks.map kV)) from ok a _ e)
 exact⟨o,its.toArray,n,h1,h2,h3,by simpa using Bk r⟩
theorem Eu{kvs:List (List Key × V)}(ok:rC P w H h)(e:Rd H a (.dT kvs)):kvs.length≤sizeLine∧(a == sysModules)=false ∧
  ∃ xs,KT H kvs xs∧h.DictOfH (tupleKind (gf P w)) a xs:=by
 obtain⟨z,y,xs,r,o,es,ep,h1,h2,h3,h4,h5⟩:=(show gh P w H h a (.dT kvs) from Od ok e)
 refine⟨z,y,xs,r,o,es,ep,h1,h2,h3,h4,fun x hx=>?_,h5⟩
 have all:∀ {l:List (List Key × V)} {m:List (List Key × Addr × Value)},KT H l m→∀ x∈m,(tupleKind (gf P w)).is h x.1 x.2.1:=by
  intro l m q
  induction q with
  | nil=>intro x hx;exact nomatch hx
  | @cons p q ps qs hq t ih =>
   intro x hx
   rcases List.mem_cons.mp hx with e|hx
   ·subst e
    exact Ci ok (by rw[← hq.1];exact hq.2.1)
   ·exact ih x hx
 exact all r x hx
theorem Sj{kvs:List (List Key × V)}(ok:rC P w H h)(e:H a=some (.dT kvs)):kvs.length≤sizeLine∧(a == sysModules)=false ∧
  ∃ xs,KT H kvs xs∧h.DictOfH (tupleKind (gf P w)) a xs:=Eu ok (.inl e)
end
def oz(H:Hp)(a:Addr)(y:V)(r:Option V):Prop :=
 (∃ kvs k,Rd H a (.dK kvs)∧y=kV k∧r=bU kvs k)∨∃ kvs k b,Rd H a (.dT kvs)∧y=.ref b∧H b=some (.tup (k.map kV))∧r=bU kvs k
def Cj(H:Hp)(a:Addr)(y v:V)(H':Hp):Prop :=
 (∃ kvs k,H a=some (.dK kvs)∧y=kV k∧kvs.length<sizeLine∧H'=upd H a (.dK (putK kvs k v))) ∨
 ∃ kvs k b,H a=some (.dT kvs)∧y=.ref b∧H b=some (.tup (k.map kV))∧kvs.length<sizeLine∧H'=upd H a (.dT (putK kvs k v))
theorem oz.k{H:Hp}{a:Addr}{kvs:List (Key × V)}{k:Key}(e:H a=some (.dK kvs)):oz H a (kV k) (bU kvs k):=.inl ⟨kvs,k,.inl e,rfl,rfl⟩
theorem Cj.k{H:Hp}{a:Addr}{kvs:List (Key × V)}{k:Key}{v:V}(e:H a=some (.dK kvs))(hl:kvs.length<sizeLine):Cj H a (kV k) v (upd H a (.dK (putK kvs k v))):=.inl ⟨kvs,k,e,rfl,hl,rfl⟩
section
variable {X:Cx} {pins:List (Addr × Obj)} {σ:St} {H:Hp} {s:Shared} {a:Addr} {y v:V} {u r:Value} {o:Option V} {A:Around} {E:Value→Shared→Prop}
theorem Inv.big(I:Inv X pins σ H s):sysModules<s.heap.objs.size:=by
 have h:mainGlobals<s.heap.objs.size:=(I.mod.glob.keeps I.bk).lt
 exact Nat.lt_trans (by decide) h
theorem Jh{Q:Value→Shared→Prop}(hu:A.units+1<cLine)(I:Inv X pins σ H s)(g:oz H a y (some v))(ry:RelV y u)(h:∀ w' s',Inv X pins σ H s'→RelV v w'→Q w' s') :
  wpAny (model X.prog X.w) A (getItem (.ref a) u) Q E s:=by
 rcases g with ⟨kvs,k,e,ey,l⟩|⟨kvs,k,b,e,ey,eb,l⟩
 ·subst ey
  obtain⟨z,hd,vs,rel,dd⟩:=Et I.hok e
  obtain⟨w',hw,rw'⟩:=rY.some_of (v:=v) (o:=valueAt vs k) (by rw[l];exact rel.val k)
  exact wpAny_getItem_of (Bj ry) dd.mapOf hw (h w' _ (I.tok _) rw')
 ·subst ey
  cases (show u=Value.ref b from ry)
  obtain⟨z,hd,xs,rel,dd⟩:=Eu I.hok e
  obtain⟨w',hw,rw'⟩:=rY.some_of (v:=v) (o:=(atKey xs k).map (·.2)) (by rw[l];exact rel.val k)
  obtain⟨p,hp,hp2⟩:=Option.map_eq_some_iff.mp hw
  refine wpAny_getItem_heap (tupleKind_room_in1 hu) (Ci I.hok eb) dd hp ?_
  rw[hp2]
  exact h w' _ (I.tok _) rw'
theorem M0{Q:Value→Shared→Prop}(hu:A.units+1<cLine)(I:Inv X pins σ H s)(g:oz H a y o)(ry:RelV y u)(h:∀ s',Inv X pins σ H s'→Q (.bool (!o.isSome)) s') :
  wpAny (model X.prog X.w) A (compareOp .NotIn u (.ref a)) Q E s:=by
 rcases g with ⟨kvs,k,e,ey,l⟩|⟨kvs,k,b,e,ey,eb,l⟩
 ·subst ey
  obtain⟨z,hd,vs,rel,dd⟩:=Et I.hok e
  refine wpAny_notIn_of (Bj ry) hd dd.mapOf ?_
  rw[← (rel.val k).vK,← l]
  exact h _ (I.tok _)
 ·subst ey
  cases (show u=Value.ref b from ry)
  obtain⟨z,hd,xs,rel,dd⟩:=Eu I.hok e
  refine wpAny_notIn_heap (tupleKind_room_in1 hu) (Ci I.hok eb) hd dd ?_
  have q:=(rel.val k).vK
  rw[Option.isSome_map]at q
  rw[← q,← l]
  exact h _ (I.tok _)
theorem xW{h':Heap}{t':Nat}{ob:HO}(I:Inv X pins σ H s)(mu:Q9 (H a))(hs:Heap.SameBut a s.heap h')(he:∃ q,h'.get? a=some q)(new:gh X.prog X.w (upd H a ob) h' a ob) :
  Inv X pins σ (upd H a ob) { s with heap:=h',toks:=t' } :=
 I.write (x:=a) (e:=a) mu (.inl rfl) (fun b q hb z=>(hs.2 b hb).trans z) he new
theorem Gj{P:Program}{w:World}{H':Hp}{h':Heap}{kvs:List (Key × V)}{vs:List (Key × Value)}(z:kvs.length≤sizeLine)(hd:(a == sysModules)=false)(rel:KV kvs vs)(dd:h'.DictOf (gf P w) a vs) :
  gh P w H' h' a (.dK kvs):=⟨z,hd,vs,rel,dd⟩
theorem Ji{H':Hp}{Q:Unit→Shared→Prop}(hu:A.units+1<cLine)(I:Inv X pins σ H s)(g:Cj H a y v H')(ry:RelV y u)(rv:RelV v r)(h:∀ s',Inv X pins σ H' s'→Q () s') :
  wpAny (model X.prog X.w) A (setItem (.ref a) u r) Q E s:=by
 rcases g with ⟨kvs,k,e,ey,l,eH⟩|⟨kvs,k,b,e,ey,eb,l,eH⟩
 ·subst ey eH
  obtain⟨z,hd,vs,rel,dd⟩:=Lb I.hok e
  have hz:vs.length≤sizeLine:=by rw[← rel.length];exact z
  have hl:(putK kvs k v).length≤sizeLine:=by have:=jm kvs k v;omega
  refine wpAny_setItem_pairs (hsz:=hz) (Bj ry) dd fun h' Mf hs=>h _ ?_
  have he:∃ q,h'.get? a=some q:=let ⟨q,_,_,hq,_⟩:=Mf;⟨q,hq⟩
  exact xW I (by rw[e];exact True.intro) hs he (Gj hl hd (rel.put k rv) Mf)
 ·subst ey eH
  cases (show u=Value.ref b from ry)
  obtain⟨z,hd,xs,rel,dd⟩:=Sj I.hok e
  have hz:xs.length≤sizeLine:=by rw[← Paired.length rel];exact z
  have hl:(putK kvs k v).length≤sizeLine:=by have:=jm kvs k v;omega
  refine wpAny_setItem_heap (hsz:=hz) (tupleKind_room_in1 hu) (Ci I.hok eb) dd fun h' Mf hs=>h _ ?_
  obtain⟨q,es,ep,hq,h2,h3,h4,_,h5⟩:=Mf
  refine xW I (by rw[e];exact True.intro) hs ⟨q,hq⟩ ⟨hl,hd,_,(rel.put k eb rv).keeps fun c ys ec=>?_,q,es,ep,hq,h2,h3,h4,h5⟩
  rw[aC (cE ec e (fun z=>nomatch z))]
  exact ec
end
def Sk(i:Expr):Prop:=∀ ov iv,subscripted i false ov iv=operate [ov,iv] (getItem ov iv)
theorem M4{prog:Program}{w:World}{A:Around}{E:Value→Shared→Prop}{s:Shared}{env:Env}{value slice:Expr}{pos:Pos}{T id:String}{Q:Value→Shared→Prop}
  (hl:typeLookup (.type T) "__getitem__"=pure (some (.builtin id))) (hs:Sk slice)
  (h:wpAny (model prog w) A (eval value env) (fun o s₁=>wpAny (model prog w) A (eval slice env) (fun i s₂=>s₂.TypeIs o T∧wpAny (model prog w) A (getItem o i) Q E s₂) E s₁) E s) :
  wpAny (model prog w) A (eval (.Subscript value slice pos) env) Q E s:=by
 refine Subscript_ (wpAny_mono h (fun o s₁ h₁=>wpAny_mono h₁ (fun i s₂ h₂=>?_) fun _ _ x=>x) fun _ _ x=>x)
 obtain⟨hT,h₂⟩:=h₂
 unfold subscriptTail
 refine wpAny_bind ?_
 rw[getitemInPython_of_ne hT.not_modules]
 refine wpAny_bind (wpAny_specialOf hT hl ?_)
 have fin:wpAny (model prog w) A (subscripted slice false o i) (fun r s₃=>wpAny (model prog w) A (letTemporaryGo value o r >>= fun _=>pure r) Q E s₃) E s₂:=by
  rw[hs o i]
  exact wpAny_operating (wpAny_mono h₂ (fun r s₃ h₃=>wpAny_bind (wpAny_letTemporaryGo (wpAny_pure h₃))) fun _ _ x=>x)
 first
  | exact wpAny_pure (wpAny_bind fin)
  | exact wpAny_bind (wpAny_pure (wpAny_bind fin))
  | exact wpAny_bind fin
theorem Ew{X:Cx}{pins:List (Addr × Obj)}{σ:St}{H:Hp}{s:Shared}{a:Addr}{y:V}{o:Option V}(I:Inv X pins σ H s)(g:oz H a y o):s.TypeIs (.ref a) "dict":=by
 rcases g with ⟨kvs,k,e,_,_⟩|⟨kvs,k,b,e,_,_,_⟩
 ·obtain⟨_,_,vs,_,dd⟩:=Et I.hok e
  exact dd.typeIs
 ·obtain⟨_,_,xs,_,dd⟩:=Eu I.hok e
  exact dd.typeIs
inductive Sm(x y:V)(H:Hp)(Q:VK):Prop
 | mk (a:Addr) (v:V) (_:x=.ref a) (_:oz H a y (some v)) (_:Q v H):Sm x y H Q
def Sn(td ty:TE):TE:=fun σ H Q=>td σ H fun x H1=>ty σ H1 fun y H2=>Sm x y H2 Q
def M5(ty td:TE):TE:=fun σ H Q=>ty σ H fun y H1=>td σ H1 fun x H2=>∃ a o,x=.ref a∧oz H2 a y o∧Q (.bl (!o.isSome)) H2
def So(td ty tv:TE):TS:=fun D σ H=>tv σ H fun v H1=>td σ H1 fun x H2=>ty σ H2 fun y H3=>∃ a H4,x=.ref a∧Cj H3 a y v H4∧D.nx σ H4
section
variable {X:Cx} {o i e value:Expr} {pos pos' tpos:Pos} {td ty tv:TE}
theorem iY(hu:X.A.units+1<cLine)(ho:PE X o td)(hi:PE X i ty)(hs:Sk i):PE X (.Subscript o i pos) (Sn td ty):=by
 intro pins s σ H Q I h
 refine M4 PySem.F.slot_dict_getitem.lookup hs (bQ (ho pins s σ H _ I h) fun u s1 ⟨x,H1,I1,rx,q1⟩=>bQ (hi pins s1 σ H1 _ I1 q1) fun iv s2 ⟨y,H2,I2,ry,a,v,ex,g,q2⟩=>?_)
 subst ex
 obtain rfl:u=Value.ref a:=rx
 exact⟨Ew I2 g,Jh hu I2 g ry fun w' s3 I3 rw'=>⟨v,H2,I3,rw',q2⟩⟩
theorem Bm(hu:X.A.units+1<cLine)(hi:PE X i ty)(ho:PE X o td):PC X .NotIn i o (M5 ty td):=by
 intro pins s σ H Q I h
 refine bQ (hi pins s σ H _ I h) fun iv s1 ⟨y,H1,I1,ry,q1⟩=>bQ (ho pins s1 σ H1 _ I1 q1) fun u s2 ⟨x,H2,I2,rx,a,ov,ex,g,q2⟩=>?_
 subst ex
 obtain rfl:u=Value.ref a:=rx
 exact M0 hu I2 g ry fun s3 I3=>⟨.bl (!ov.isSome),H2,I3,rfl,q2⟩
theorem uJ(hu:X.A.units+1<cLine)(ho:PE X o td)(hi:PE X i ty)(hv:PE X value tv)(hs:swapsWith value (some (.Subscript o i pos')) pos.line X.env=pure false) :
  PS X (.Assign [.Subscript o i pos'] value pos) (So td ty tv):=by
 intro pins s σ H D I h
 refine wpAny_Assign_Subscript (bQ (hv pins s σ H _ I h) fun r s1 ⟨v,H1,I1,rv,q1⟩=>bQ (ho pins s1 σ H1 _ I1 q1) fun u s2 ⟨x,H2,I2,rx,q2⟩=>bQ (hi pins s2 σ H2 _ I2 q2) fun iv s3 ⟨y,H3,I3,ry,a,H4,ex,g,q3⟩=>?_) hs
 subst ex
 obtain rfl:u=Value.ref a:=rx
 exact Ji hu I3 g ry rv fun s4 I4=>⟨σ,H4,I4,q3⟩
end
theorem Ex{P:Program}{w:World}{H:Hp}(h:Heap)(hb:sysModules<h.objs.size):gh P w H (h.push { cls:=.type "dict",data:=.dict #[] }) h.objs.size (.dK []) :=
 ⟨Nat.zero_le _,beq_eq_false_iff_ne.mpr (Ne.symm (jL hb)),[],.nil,Heap.DictOf.new h⟩
def PR:TE:=fun _ H Q=>∀ p,H p=none→Q (.ref p) (upd H p (.dK []))
section
variable {X:Cx} {pos:Pos}
theorem nK:PE X (.Dict [] [] pos) PR:=fun pins s σ H Q I h =>
 wpAny_Dict_empty ⟨.ref s.heap.objs.size,_,I.laid (a:=s.heap.objs.size) (o:=.dK []) (t':=s.toks) (fun _ _ q=>Heap.get?_push_of_some _ q) (fH _) (Ex s.heap I.big),rfl,h _ (I.hok.fresh (fH _))⟩
end
def Gk:List (TE × TE)→St→Hp→(List (V × V)→Hp→Prop)→Prop
 | [],_,H,Q=>Q [] H
 | (tk,tv)::r,σ,H,Q=>tk σ H fun x H1=>tv σ H1 fun y H2=>Gk r σ H2 fun ps H3=>Q ((x,y)::ps) H3
abbrev VV:List (V × V)→List (Value × Value)→Prop:=Paired fun p q=>RelV p.1 q.1∧RelV p.2 q.2
def Ul(X:Cx)(pos:Pos)(keys:List (Option Expr))(values:List Expr)(M6:List (TE × TE)):Prop :=
 ∀ (pins:List (Addr × Obj)) (s:Shared) (σ:St) (H:Hp) (Q:List (V × V)→Hp→Prop),Inv X pins σ H s→Gk M6 σ H Q →
  wpAny (model X.prog X.w) X.A (evalPairs (pairTrees keys values X.env pos)) (fun vs s'=>∃ ps H',Inv X pins σ H' s'∧VV ps vs∧Q ps H') X.xe s
theorem M7{X:Cx}{pos:Pos}:Ul X pos [] [] []:=fun pins s σ H Q I h=>pairTrees_nil_walk ⟨[],H,I,.nil,h⟩
theorem uK{X:Cx}{pos:Pos}{k v:Expr}{ks:List (Option Expr)}{vs:List Expr}{tk tv:TE}{M6:List (TE × TE)}(hk:PE X k tk)(hv:PE X v tv)(hr:Ul X pos ks vs M6) :
  Ul X pos (some k::ks) (v::vs) ((tk,tv)::M6):=fun pins s σ H Q I h =>
 pairTrees_cons_walk (bQ (hk pins s σ H _ I h) fun u s1 ⟨x,H1,I1,rx,q1⟩=>bQ (hv pins s1 σ H1 _ I1 q1) fun w2 s2 ⟨y,H2,I2,ry,q2⟩ =>
  bQ (hr pins s2 σ H2 _ I2 q2) fun ws s3 ⟨ps,H3,I3,rel,q3⟩=>⟨(x,y)::ps,H3,I3,.cons ⟨rx,ry⟩ rel,q3⟩)
def vL(kvs more:List (Key × V)):List (Key × V):=more.foldl (fun acc kv=>putK acc kv.1 kv.2) kvs
theorem KV.merge:∀ {more:List (Key × V)} {rs:List (Key × Value)} {kvs:List (Key × V)} {vs:List (Key × Value)},KV more rs→KV kvs vs→KV (vL kvs more) (merged vs rs):=by
 intro more rs kvs vs r
 unfold KV at r
 induction r generalizing kvs vs with
 | nil=>intro q;exact q
 | @cons p q ps qs h t ih =>
  intro r0
  have e:KV (putK kvs p.1 p.2) (stored vs q.1 q.2):=by
   have:=r0.put p.1 h.2
   rw[← h.1];exact this
  exact ih e
theorem sS:∀ (more kvs:List (Key × V)),(vL kvs more).length≤kvs.length+more.length
 | [],kvs=>by show kvs.length≤kvs.length+0;omega
 | p::r,kvs=>by
  have h1:=sS r (putK kvs p.1 p.2)
  have h2:=jm kvs p.1 p.2
  show (vL (putK kvs p.1 p.2) r).length≤_
  rw[mq];omega
theorem yV{P:Program}{w:World}:∀ {kvs:List (Key × V)} {ws:List (Value × Value)},VV (kvs.map fun kv=>(kV kv.1,kv.2)) ws→∃ rs,Carries (gf P w) ws rs∧KV kvs rs
 | [],_,r=>by rw[List.map_nil]at r;cases r;exact⟨[],True.intro,.nil⟩
 | p::kvs,_,r=>by
  rw[kO]at r
  cases r with
  | @cons a b as bs h t =>
   obtain⟨rs,c,q⟩:=yV (P:=P) (w:=w) t
   obtain⟨b1,b2⟩:=b
   exact⟨(p.1,b2)::rs,⟨Bj h.1,rfl,c⟩,.cons ⟨rfl,h.2⟩ q⟩
def Lc(M6:List (TE × TE)):TE:=fun σ H Q=>∀ p,H p=none→Gk M6 σ (upd H p (.dK [])) fun ps H2=>H2 p=some (.dK [])∧∃ kvs:List (Key × V),ps=kvs.map (fun kv=>(kV kv.1,kv.2))∧kvs.length≤15∧Q (.ref p) (upd H2 p (.dK (vL [] kvs)))
theorem M8{X:Cx}{pos:Pos}{keys:List (Option Expr)}{values:List Expr}{M6:List (TE × TE)}(h:Ul X pos keys values M6)(hall:keys.all (·.isSome)=true)(hl:keys.length=values.length)(h0:keys≠[])
  (h15:keys.length≤15):PE X (.Dict keys values pos) (Lc M6):=by
 intro pins s σ H Q I q
 have hn:=I.hok.fresh (fH s.heap.objs.size)
 have I1:=I.laid (a:=s.heap.objs.size) (o:=.dK []) (h':=s.heap.push { cls:=.type "dict",data:=.dict #[] }) (t':=s.toks) (fun _ _ q=>Heap.get?_push_of_some _ q) (fH _) (Ex s.heap I.big)
 refine wpAny_Dict_walk (knd:=gf X.prog X.w) hall hl h0 h15 (bQ (h pins _ σ _ _ I1 (q _ hn)) fun ws s2 ⟨ps,H2,I2,rel,e,kvs,ep,lk,q2⟩=>?_)
 subst ep
 obtain⟨rs,c,rk⟩:=yV (P:=X.prog) (w:=X.w) rel
 obtain⟨z,hd,vs0,r0,dd⟩:=Lb I2.hok e
 cases r0
 refine⟨rs,c,dd,fun h' Mf hs=>⟨.ref s.heap.objs.size,_,?_,rfl,q2⟩⟩
 have hz:(vL [] kvs).length≤sizeLine:=by
  have h1:=sS kvs []
  rw[oq]at h1
  rw[sizeLine_eq];omega
 have he:∃ q,h'.get? s.heap.objs.size=some q:=let ⟨q,_,_,hq,_⟩:=Mf;⟨q,hq⟩
 exact xW I2 (by rw[e];exact True.intro) hs he (Gj hz hd (rk.merge .nil) Mf)
structure M2(X:Cx)(o:Expr)(m:Str)(apos:Pos)(e f:Expr)(cpos:Pos):Prop where
 base:attributeBase o m X.env (eval o X.env)=eval o X.env
 few:((backTo cpos (starEach [e,f] X.env)).all (fun x=>!x.1)&&(backToKw cpos (keywordEach [] X.env)).all (fun x=>x.1.isSome)
  && decide (([e,f]:List Expr).length+([]:List Keyword).length+(if ([]:List Keyword).isEmpty then 0 else 1)<30))=true
 line:(apos.endLine == cpos.line)=true
 trees:backTo cpos (starEach [e,f] X.env)=[(false,eval e X.env),(false,eval f X.env)]
def IsD(H:Hp)(a:Addr):Prop:=(∃ kvs,Rd H a (.dK kvs))∨∃ kvs,Rd H a (.dT kvs)
theorem PU{X:Cx}{pins:List (Addr × Obj)}{σ:St}{H:Hp}{s:Shared}{a:Addr}(I:Inv X pins σ H s)(d:IsD H a) :
  s.TypeIs (.ref a) "dict"∧(∀ b,Value.ref a=.ref b→∃ ob,s.heap.get? b=some ob∧ob.dict=none)∧(a == sysModules)=false:=by
 rcases d with ⟨kvs,e⟩|⟨kvs,e⟩
 ·obtain⟨_,hd,vs,_,dd⟩:=Et I.hok e
  refine⟨dd.typeIs,fun b q=>?_,hd⟩
  cases q
  obtain⟨ob,_,_,h1,h2,_⟩:=dd
  exact⟨ob,h1,h2.2.1⟩
 ·obtain⟨_,hd,xs,_,dd⟩:=Eu I.hok e
  refine⟨dd.typeIs,fun b q=>?_,hd⟩
  cases q
  obtain⟨ob,_,_,h1,h2,_⟩:=dd
  exact⟨ob,h1,h2.2.1⟩
end L2
namespace cR
open PySem PySem.Spec PyProof.Rows L2
def jT(X:Cx)(N:List Str)(scope:Scope)(cl:List (Str × Addr))(C:Addr)(s₀:Shared)(H₀:Hp)(ex:List Addr)(pn:List (Addr × Obj)):Cx where
 prog:=X.prog
 w:=X.w
 K:=X.K
 mg:=X.mg
 base:=X.base
 A:=X.A
 N:=N
 s₀:=s₀
 H₀:=H₀
 env:=compEnvC scope cl C X.env
 outer:=X.stack
 stack:=X.stack
 ex:=ex
 fn:=fun _=>false
 calm:=X.calm
 pn:=pn
 xe:=fun _ _=>False
structure Bo(X:Cx)(N:List Str)(scope:Scope)(cl:List (Str × Addr))(jx:List (Option Nat)):Prop where
 kind:scope.kind=.function
 cell:∀ x∈scope.names,x.2≠.cell
 names:∀ x∈scope.names,x.2=.local→scope.names.lookup x.1=some .local
 clos:closureFor scope X.env=pure cl
 sub:∀ x c,cl.lookup x=some c→X.env.cells.lookup x=some c
 has:∀ x,((relabel scope X.env).names.lookup x=some .cell∨(relabel scope X.env).names.lookup x=some .free)→∃ c,cl.lookup x=some c
 len:jx.length=N.length
 free:∀ (i j:Nat) (x:Str),jx[i]?=some (some j)→N[i]?=some x→X.N[j]?=some x∧X.env.scope.names.lookup x=some .cell∧(relabel scope X.env).names.lookup x=some .cell
def tN(jx:List (Option Nat))(σ:L2.St):L2.St:=jx.map fun o=>o.bind fun j=>(σ[j]?).join
section
variable {X:Cx} {N:List Str} {scope:Scope} {cl:List (Str × Addr)} {jx:List (Option Nat)}
theorem wU{pins:List (Addr × Obj)}{σ:L2.St}{H:Hp}{s:Shared}{fp:List Addr}{h₁:Heap}{t:Nat}(cs:Bo X N scope cl jx)(I:Inv X pins σ H s)(hf:∀ b∈fp,mw X pins H b)(hlt:∀ b∈fp,b<s.heap.objs.size)
  (hns:h₁.Ns s.heap.objs.size fun _=>none) (hk:∀ b o,s.heap.get? b=some o→h₁.get? b=some o) :
  Inv (jT X N scope cl s.heap.objs.size s H fp (X.pn++pins)) [] (tN jx σ) H { s with heap:=h₁,toks:=t }:=by
 have sub:∀ {x c},(jT X N scope cl s.heap.objs.size s H fp (X.pn++pins)).env.cells.lookup x=some c→X.env.cells.lookup x=some c:=fun {x c} e=>cs.sub x c e
 refine⟨⟨I.ok.mod,cs.kind,I.ok.glob,I.ok.blt,fH _,fun x y c e e'=>I.ok.inj x y c (sub e) (sub e'),fun x hx=>cs.has x hx,fun x c z _=>(by cases z),I.ok.hd,I.ok.frames,.inl rfl,fun b hb=>⟨Nat.ne_of_lt (hlt b hb),fun x c e=>(hf b hb).2.2.2.2.1 x c (sub e)⟩,I.bs,mL I.ok.Mw I.sz,fun b o e hb=>?_,fun b hb z=>?_,I.stack,I.uz⟩,
  rfl,I.bare,Un.kept hk,⟨_,hns,fun i x v e1 e2 _=>?_⟩,fun x c e=>?_,I.hok.fresh (fH _),fun x c e=>I.sC x c (sub e),fun p hp=>?_,I.hok.kept hk,by unfold tN;rw[bY];exact cs.len⟩
 ·rcases (hf b hb).2.2.2.1 with z|z
  ·exact I.ok.ID b o e z
  ·exact absurd (pU (Heap.lt_size (I.ok.bs b o e).1) z) (Nat.lt_irrefl _)
 ·rcases List.mem_cons.mp (I.oU b z) with e|e
  ·exact (hf b hb).2.1 e
  ·exact (hf b hb).2.2.1 e
 ·unfold tN at e2
  rw[qG]at e2
  cases ej:jx[i]? with
  | none=>rw[ej]at e2;cases e2
  | some o =>
   rw[ej]at e2
   cases o with
   | none=>cases e2
   | some j =>
    have e3:σ[j]?=some (some v):=by
     have z:((σ[j]?).join)=some v:=rX e2
     cases hs:σ[j]? with
     | none=>rw[hs]at z;cases z
     | some q=>rw[hs]at z;exact congrArg some z
    obtain⟨f1,f2,f3⟩:=cs.free i j x ej e1
    obtain⟨m,hn,hl⟩:=I.loc
    obtain⟨u,ru,look⟩:=hl j x v f1 e3 (.inr (.inl f2))
    refine⟨u,ru,?_⟩
    rcases look with ⟨k,_⟩|⟨_,c,hc,o,ho,hd⟩
    ·have k':X.env.scope.names.lookup x=some .local:=k
     rw[f2]at k'
     cases k'
    ·obtain⟨c',hc'⟩:=cs.has x (.inl f3)
     have z:=cs.sub x c' hc'
     rw[hc]at z
     cases z
     exact .inr ⟨.inl f3,c,hc',o,hk _ _ ho,hd⟩
 ·obtain⟨v,o,ho,hd⟩:=I.cell x c (sub e)
  exact⟨v,o,hk _ _ ho,hd⟩
 ·have Hy:p∈X.pn++pins:=by
   have z:p∈(X.pn++pins)++[]:=hp
   simpa using z
  obtain⟨e,n,nl,nf,d⟩:=I.pin p Hy
  refine⟨hk _ _ e,n,jL (Heap.lt_size e),fun z=>?_,d⟩
  rcases List.mem_cons.mp (I.oU p.1 z) with e|e
  ·exact nl e
  ·exact nf e
theorem vM{pins:List (Addr × Obj)}{σ σ':L2.St}{H H':Hp}{s s':Shared}{fp:List Addr}(I:Inv X pins σ H s)(hf:∀ b∈fp,mw X pins H b)(J:Inv (jT X N scope cl s.heap.objs.size s H fp (X.pn++pins)) [] σ' H' s'):Inv X pins σ H' s' :=
 I.J9 (ch:=fp) J.os J.base J.hok J.bare fun b hb=>⟨(hf b hb).2.2.2.1,(hf b hb).2.1,(hf b hb).2.2.2.2.1,(hf b hb).2.2.2.2.2⟩
theorem vN{pins:List (Addr × Obj)}{σ σ2:L2.St}{H H':Hp}{s s':Shared}{h':Heap}(I:Inv X pins σ H s)(I4:Inv X pins σ2 H' s')(hfree:H' s.heap.objs.size=none)(hs:Heap.SameBut s.heap.objs.size s'.heap h'):Inv X pins σ2 H' { s' with heap:=h' }:=by
 refine I4.turned (t':=s'.toks) (it:=s.heap.objs.size) (fun b o hb e=>hs.extBut _ _ hb e) hfree (Nat.ne_of_gt I.lt) (.inr I.sz) (fun x c e z=>?_) fun p hp z=>?_
 ·obtain⟨v,o,ho,_⟩:=I.cell x c e
  exact absurd (Heap.lt_size ho) (by rw[z];exact Nat.lt_irrefl _)
 ·exact absurd (Heap.lt_size (I.pin p hp).1) (by rw[z];exact Nat.lt_irrefl _)
def xX(J:It)(acc:Addr)(g:TG)(tt:TT)(te:TE)(σ0:L2.St)(H:Hp)(Q:VK):Prop :=
 ∃ W:Nat→Nat→L2.St→Hp→Prop,(∃ m,W 0 m σ0 H)∧∀ i m σ H,W i m σ H →
  (J.stop i H∧Q (.ref acc) H)∨(J.go i H∧∃ Nx:L2.St→Hp→Prop,(∀ σ' H',Nx σ' H'→∃ m',m'<m∧W (i+1) m' σ' H')∧∀ x H',J.IE i H x H'→g x σ H' fun σ2 H2=>tt σ2 H2 fun b H3 =>
   if b=true then te σ2 H3 fun v H4=>∃ xs,H4 acc=some (.lst xs)∧xs.length<sizeLine∧Nx σ2 (upd H4 acc (.lst (xs++[v]))) else Nx σ2 H3)
def vO(jx:List (Option Nat))(wi:TI)(g:TG)(tt:TT)(te:TE):TE:=fun σ H Q=>wi σ H fun J H1=>∀ acc,H1 acc=none→xX J acc g tt te (tN jx σ) (upd H1 acc (.lst [])) Q
theorem Bp{elt tg iter:Expr}{ifs:List Expr}{pos pos':Pos}{wi:TI}{g:TG}{tt:TT}{te:TE}(cs:Bo X N scope cl jx)(hc:X.calm=true)(hi:PI X tg iter wi)
  (hg:∀ C s₀ H₀ ex pn,PG (jT X N scope cl C s₀ H₀ ex pn) tg g) (ht:∀ C s₀ H₀ ex pn,FF (jT X N scope cl C s₀ H₀ ex pn) ifs tt) (he:∀ C s₀ H₀ ex pn,PE (jT X N scope cl C s₀ H₀ ex pn) elt te)
  (hs:∀ x,foldedSetIterable iter X.env x=pure x) {use:Option (Value→Sem Unit)} {Q':Value→Shared→Prop} {Q:VK} {pins:List (Addr × Obj)} {s:Shared} {σ:L2.St} {H:Hp} (I:Inv X pins σ H s) (h:vO jx wi g tt te σ H Q)
  (fin:∀ (s3:Shared) (H3:Hp) (fp:List Addr) (acc:Addr) (σ6:L2.St) (H6:Hp) (s7:Shared),Inv X pins σ H3 s3→(∀ b∈fp,mw X pins H3 b)→Inv (jT X N scope cl s3.heap.objs.size s3 H3 fp (X.pn++pins)) [] σ6 H6 s7→Q (.ref acc) H6 →
   compPost (model X.prog X.w) X.A X.xe use Q' (.ref acc) s3.heap.objs.size (.ok .next) s7) :
  wpAny (model X.prog X.w) X.A (comprehension (.ListComp elt [⟨tg,iter,ifs,0⟩] scope pos) scope X.env pos' (newList []) false (eval iter X.env) use) Q' X.xe s:=by
 refine wpAny_comprehension_free (use:=use) rfl hs cs.clos cs.kind cs.names (bQ (hi pins s σ H _ I h) fun v s1 h1=>bQ h1 fun itv s2 h2=>?_)
 obtain⟨it,fp,tn,J,H2,e,I2,T,st2,f2,q⟩:=h2
 subst e
 refine wpAny_newObj_type (hd:=by size_fits) ?_
 have hacc:H2 s2.heap.objs.size=none:=I2.hok.fresh (fH _)
 have I3:Inv X pins σ (upd H2 s2.heap.objs.size (.lst [])) { s2 with heap:=s2.heap.push { cls:=.type "list",data:=.seq ([]:List Value).toArray },toks:=s2.toks }:=I2.IS (ys:=[]) .nil (mO _)
 have KU:∀ b∈fp,b<s2.heap.objs.size:=fun b hb=>by
  obtain⟨o,ho,_⟩:=T.obj _ _ st2 b hb
  exact Heap.lt_size ho
 have f3:∀ b∈fp,mw X pins (upd H2 s2.heap.objs.size (.lst [])) b:=fun b hb=>⟨by rw[aC (jL (KU b hb))];exact (f2 b hb).1,(f2 b hb).2⟩
 have k3:∀ b o,s2.heap.get? b=some o→(s2.heap.push { cls:=.type "list",data:=.seq ([]:List Value).toArray }).get? b=some o:=fun b o e=>Heap.get?_push_of_some _ e
 have q3:=q _ hacc
 generalize Pu:({ s2 with heap:=s2.heap.push { cls:=.type "list",data:=.seq ([]:List Value).toArray },toks:=s2.toks }:Shared)=s3 at I3
 generalize hH3:upd H2 s2.heap.objs.size (.lst [])=H3 at I3 f3 q3
 have KW:s3.heap=s2.heap.push { cls:=.type "list",data:=.seq ([]:List Value).toArray }:=by rw[← Pu]
 have Bb:∀ b∈fp,b<s3.heap.objs.size:=fun b hb=>by rw[KW,Heap.size_push];exact Nat.lt_succ_of_lt (KU b hb)
 have st3:tn 0 s3.heap:=T.keep _ _ _ st2 fun b _ o e=>by rw[KW];exact k3 b o e
 show wpAny _ _ _ _ _ s3
 refine wpAny_newFunctionEnv cs.cell (fun y hy=>by simp at hy) (fun h₁ hns Ja=>?_) cs.kind
 have kh:∀ b o,s3.heap.get? b=some o→h₁.get? b=some o:=fun b o e=>Ja.extBut _ _ (jL (Heap.lt_size e)) (Heap.get?_push_of_some _ e)
 have J0:Inv (jT X N scope cl s3.heap.objs.size s3 H3 fp (X.pn++pins)) [] (tN jx σ) H3 { s3 with heap:=h₁,toks:=s3.toks+([]:List (Str × Value)).length }:=wU cs I3 f3 Bb hns kh
 have KY:tn 0 h₁:=T.keep _ _ _ st3 fun b _ o e=>kh b o e
 obtain⟨W,⟨m0,w0⟩,turn⟩:=q3
 have nj:∀ {H':Hp},(∀ b∈fp,H' b=none)→∀ b∈fp,mw (jT X N scope cl s3.heap.objs.size s3 H3 fp (X.pn++pins)) [] H' b:=fun hn b hb=>by
  refine⟨hn b hb,jL (Bb b hb),fun z=>?_,.inl hb,fun x c e=>(f3 b hb).2.2.2.2.1 x c (cs.sub x c e),fun p hp=>?_⟩
  ·rcases List.mem_cons.mp (I3.oU b z) with e|e
   ·exact (f3 b hb).2.1 e
   ·exact (f3 b hb).2.2.1 e
  ·have Hy:p∈X.pn++pins:=by
    have z:p∈(X.pn++pins)++[]:=hp
    simpa using z
   exact (f3 b hb).2.2.2.2.2 p Hy
 have loop:∀ s5:Shared,s5={ s3 with heap:=h₁,toks:=s3.toks+([]:List (Str × Value)).length }→codeAny (model X.prog X.w) X.A (.compLoop (.ListComp elt [⟨tg,iter,ifs,0⟩] scope pos) 0 (.ref it) (.ref s2.heap.objs.size) (jT X N scope cl s3.heap.objs.size s3 H3 fp (X.pn++pins)).env)
   (compPost (model X.prog X.w) X.A X.xe use Q' (.ref s2.heap.objs.size) s3.heap.objs.size) s5:=by
  rintro s5 rfl
  refine Ba (fun n s'=>∃ i σ' H',Inv (jT X N scope cl s3.heap.objs.size s3 H3 fp (X.pn++pins)) [] σ' H' s'∧tn i s'.heap∧(∀ b∈fp,H' b=none)∧W i n σ' H') ?_ m0 ⟨0,_,H3,J0,KY,fun b hb=>(f3 b hb).1,w0⟩
  rintro n s6 ⟨i,σ6,H6,I6,HA,FG,w6⟩
  rcases turn i n σ6 H6 w6 with ⟨stop,qn⟩|⟨go,Nx,hN,step⟩
  ·refine bQ (T.done (jT X N scope cl s3.heap.objs.size s3 H3 fp (X.pn++pins)) rfl rfl rfl hc i [] s6 σ6 H6 _ I6 (nj FG) HA stop) fun r s7 ⟨hr,I7⟩=>?_
   subst hr
   exact fin s3 H3 fp _ σ6 H6 s7 I3 f3 I7 qn
  ·refine bQ (T.item (jT X N scope cl s3.heap.objs.size s3 H3 fp (X.pn++pins)) rfl rfl rfl hc i [] s6 σ6 H6 _ I6 (nj FG) HA go) fun r s7 ⟨u,hr,h7⟩=>?_
   subst hr
   refine bQ h7 fun _ s8 ⟨x,H8,I8,r8,y8,Cd,FH⟩=>?_
   have MT:=I8.pinned (nj FH) (T.obj _ _ Cd)
   refine bQ (hg _ _ _ _ _ _ s8 σ6 H8 x u _ MT r8 (step x H8 y8)) fun _ s9 ⟨σ9,H9,I9,q9⟩=>?_
   refine bQ (ht _ _ _ _ _ _ s9 σ9 H9 _ I9 q9) fun ok Py ⟨Ej,HB,uo⟩=>?_
   have again:∀ {σ7:L2.St} {H7:Hp} {ou:Shared},Inv (jT X N scope cl s3.heap.objs.size s3 H3 fp (X.pn++pins)) ([]++pW fp s8.heap) σ7 H7 ou→Nx σ7 H7→∃ m,m<n∧∃ i σ' H',Inv (jT X N scope cl s3.heap.objs.size s3 H3 fp (X.pn++pins)) [] σ' H' ou∧tn i ou.heap∧(∀ b∈fp,H' b=none)∧W i m σ' H':=fun {σ7 H7 ou} I7 n7=>by
    obtain⟨m',hm,w7⟩:=hN σ7 H7 n7
    refine⟨m',hm,i+1,σ7,H7,I7.lO,T.keep _ _ _ Cd fun b hb o e=>(I7.pin (b,o) (lM _ (lM _ (dD hb e)))).1,fun b hb=>?_,w7⟩
    obtain⟨o,e,d⟩:=T.obj _ _ Cd b hb
    exact (I7.pin (b,o) (lM _ (lM _ (dD hb e)))).2.1
   cases ok with
   | false =>
    rw[if_neg jX]at uo
    exact again HB uo
   | true =>
    rw[if_pos rfl]at uo
    refine bQ (he _ _ _ _ _ _ Py σ9 Ej _ HB uo) fun v ou ⟨y,R0,R4,Sb,xs,hx,hz,Sd⟩=>?_
    refine bQ (cF _ ou σ9 R0 (.ref s2.heap.objs.size) [y] (.ref s2.heap.objs.size) [v] (fun _ H'=>Nx σ9 H') R4 rfl (.cons Sb .nil) ⟨_,xs,y,rfl,rfl,hx,hz,Sd⟩) fun _ s12 ⟨_,QK,Se,_,MU⟩=>?_
    exact again Se MU
 exact codeAny_compStart_list (loop _ rfl) (T.self _ _ _ _ _ KY (loop _ rfl))
theorem Ld{elt tg iter:Expr}{ifs:List Expr}{pos:Pos}{wi:TI}{g:TG}{tt:TT}{te:TE}(cs:Bo X N scope cl jx)(hc:X.calm=true)(hi:PI X tg iter wi)
  (hg:∀ C s₀ H₀ ex pn,PG (jT X N scope cl C s₀ H₀ ex pn) tg g) (ht:∀ C s₀ H₀ ex pn,FF (jT X N scope cl C s₀ H₀ ex pn) ifs tt) (he:∀ C s₀ H₀ ex pn,PE (jT X N scope cl C s₀ H₀ ex pn) elt te)
  (hs:∀ x,foldedSetIterable iter X.env x=pure x:=by intro _;rfl):PE X (.ListComp elt [⟨tg,iter,ifs,0⟩] scope pos) (vO jx wi g tt te):=by
 intro pins s σ H Q I h
 rw[eval_ListComp]
 refine Bp (use:=none) cs hc hi hg ht he hs I h fun s3 H3 fp acc σ6 H6 s7 I3 f3 I7 qn=>?_
 obtain⟨m,hm,_⟩:=I7.loc
 exact⟨m,hm,fun h' Ja=>⟨.ref acc,H6,vN I3 (vM I3 f3 I7) I7.free Ja,rfl,qn⟩⟩
theorem M9{elt tg iter:Expr}{ifs:List Expr}{pos pos' pos2:Pos}{wi:TI}{g:TG}{tt:TT}{te:TE}{i:Nat}{x:Str}(cs:Bo X N scope cl jx)(hc:X.calm=true)(hN:X.N.Nodup)(hix:X.N[i]?=some x)(hx:X.env.scope.names.lookup x=some .local)(hi:PI X tg iter wi)
  (hg:∀ C s₀ H₀ ex pn,PG (jT X N scope cl C s₀ H₀ ex pn) tg g) (ht:∀ C s₀ H₀ ex pn,FF (jT X N scope cl C s₀ H₀ ex pn) ifs tt) (he:∀ C s₀ H₀ ex pn,PE (jT X N scope cl C s₀ H₀ ex pn) elt te)
  (hsw:swapsWith (.ListComp elt [⟨tg,iter,ifs,0⟩] scope pos) (some (.Name x pos')) pos2.line X.env=pure true:=by rfl)
  (hs:∀ x,foldedSetIterable iter X.env x=pure x:=by intro _;rfl):PS X (.Assign [.Name x pos'] (.ListComp elt [⟨tg,iter,ifs,0⟩] scope pos) pos2) (MB (vO jx wi g tt te) (wG i)):=by
 intro pins s σ H D I h
 rw[exec_Assign_Name_used _ _ _ _ hsw]
 refine wpAny_bind (wpAny_standAt (wpAny_bind ?_))
 show wpAny _ X.A (do let _ ← comprehension (.ListComp elt [⟨tg,iter,ifs,0⟩] scope pos) scope X.env _ (newList []) false (eval iter X.env) (some (assign (.Name x pos') X.env))) _ _ s
 have h':vO jx wi g tt te σ H (fun v H'=>wG i v σ H' D.nx):=h
 refine wpAny_bind (bQ (Bp (use:=some (assign (.Name x pos') X.env)) (Q':=fun _ s'=>∃ σ' H',Inv X pins σ' H' s'∧D.nx σ' H') cs hc hi hg ht he hs I h' fun s3 H3 fp acc σ6 H6 s7 I3 f3 I7 qn=>?_) fun _ s' q=>?_)
 ·have I4:=vM I3 f3 I7
  obtain⟨m,hm,_⟩:=I7.loc
  refine wpAny_assign_Name (AK I4 hN hix (.inl hx) (v:=.ref acc) rfl (fun s8 I8 ⟨a,Ja,ha⟩=>?_) (.inr hx))
  have na:s3.heap.objs.size≠a:=by
   rcases ha with rfl|ha
   ·exact Nat.ne_of_gt I3.lt
   ·intro z
    obtain⟨v,o,ho,_⟩:=I3.cell x a ha
    exact absurd (Heap.lt_size ho) (by rw[z];exact Nat.lt_irrefl _)
  refine⟨m,hm.at' fun o e=>Ja.extBut _ o na e,fun h' hs'=>⟨_,H6,vN I3 I8 I7.free hs',qn⟩⟩
 ·exact wpAny_pure (wpAny_pure q)
theorem jo{K:PySem.W.Frag}{a acc:Addr}{xs:List V}{g:TG}{tt:TT}{te:TE}{σ0:L2.St}{H:Hp}{Q:VK}(Pv:Nat→L2.St→Hp→Prop)(h0:Pv 0 σ0 H)(hl:∀ i σ H,i≤xs.length→Pv i σ H→bG K H a xs)
  (hs:∀ i x σ H,xs[i]?=some x→Pv i σ H→g x σ H fun σ2 H2=>tt σ2 H2 fun b H3=>if b=true then te σ2 H3 fun v H4=>∃ ys,H4 acc=some (.lst ys)∧ys.length<sizeLine∧Pv (i+1) σ2 (upd H4 acc (.lst (ys++[v]))) else Pv (i+1) σ2 H3)
  (hd:∀ σ H,Pv xs.length σ H→Q (.ref acc) H):xX (JW K a) acc g tt te σ0 H Q:=by
 refine⟨fun i m σ H=>m=xs.length-i∧i≤xs.length∧Pv i σ H,⟨xs.length,by simp,mO _,h0⟩,?_⟩
 rintro i m σ H ⟨rfl,hi,p⟩
 have q:=hl i σ H hi p
 by_cases hlt:i<xs.length
 ·refine .inr ⟨⟨xs,xs[i],q,by simp[hlt]⟩,Pv (i+1),fun σ' H' p'=>⟨xs.length-(i+1),by omega,rfl,hlt,p'⟩,fun x H' y=>?_⟩
  obtain⟨e,y⟩:=y
  subst e
  exact hs i x σ _ (y xs q) p
 ·have e:i=xs.length:=by omega
  subst e
  exact .inl ⟨⟨xs,q,fH _⟩,hd σ H p⟩
theorem Ey{lo:Int}{k:Nat}{acc:Addr}{g:TG}{tt:TT}{te:TE}{σ0:L2.St}{H:Hp}{Q:VK}(Pv:Nat→L2.St→Hp→Prop)(h0:Pv 0 σ0 H)
  (hs:∀ i σ H,i<k→Pv i σ H→g (.int (lo+i)) σ H fun σ2 H2=>tt σ2 H2 fun b H3=>if b=true then te σ2 H3 fun v H4=>∃ ys,H4 acc=some (.lst ys)∧ys.length<sizeLine∧Pv (i+1) σ2 (upd H4 acc (.lst (ys++[v]))) else Pv (i+1) σ2 H3)
  (hd:∀ σ H,Pv k σ H→Q (.ref acc) H):xX (IG lo k) acc g tt te σ0 H Q:=by
 refine⟨fun i m σ H=>m=k-i∧i≤k∧Pv i σ H,⟨k,by simp,mO _,h0⟩,?_⟩
 rintro i m σ H ⟨rfl,hi,p⟩
 by_cases hlt:i<k
 ·refine .inr ⟨hlt,Pv (i+1),fun σ' H' p'=>⟨k-(i+1),by omega,rfl,hlt,p'⟩,fun x H' y=>?_⟩
  obtain⟨e,y⟩:=y
  subst e y
  exact hs i σ _ hlt p
 ·have e:i=k:=by omega
  subst e
  exact .inl ⟨Nat.le_refl _,hd σ H p⟩
end
section
variable {X:Cx} {N:List Str} {scope:Scope} {cl:List (Str × Addr)} {C:Addr} {s₀:Shared} {H₀:Hp} {ex:List Addr} {pn:List (Addr × Obj)}
theorem HH{es:List Expr}{k:Nat}{t:N1}{n:Nat}{pos:Pos}(hc:X.calm=true)(h:QF (jT X N scope cl C s₀ H₀ ex pn) es t)
  (hn:(assignEach es (jT X N scope cl C s₀ H₀ ex pn).env).length=n:=by rfl) (hst:(assignEach es (jT X N scope cl C s₀ H₀ ex pn).env).findIdx? (·.1)=none:=by rfl):PG (jT X N scope cl C s₀ H₀ ex pn) (.Tuple es k pos) (MA X.K n t):=qJ (X:=jT X N scope cl C s₀ H₀ ex pn) hc h hn hst
theorem Le{tg l:Expr}{tl:TE}(hl:PE (jT X N scope cl C s₀ H₀ ex pn) l tl):PI (jT X N scope cl C s₀ H₀ ex pn) tg l (N4 X.K tl):=cH hl
theorem Lf:Pb (jT X N scope cl C s₀ H₀ ex pn) (Pc X.K):=bw
theorem Na:Pb (jT X N scope cl C s₀ H₀ ex pn) (ML X.K):=dN
end
theorem Ck{X:Cx}:mF X (.type "range") (fun xs H Q=>∃ j:Int,xs=[.int j]∧∀ p,H p=none→Q (.ref p) (upd H p (.Dz 0 j))):=by
 intro pins s σ H xs us Q I r h
 obtain⟨j,rfl,q⟩:=h
 obtain⟨u1,rfl,⟨t,rfl⟩⟩:=r.one
 refine call_range_1 ⟨.ref s.heap.objs.size,_,I.laid (o:=.Dz 0 j) (fun b o e=>Heap.get?_push_of_some _ e) (fH _) ⟨_,_,_,Heap.get?_push_size _ rfl⟩,rfl,q _ (I.hok.fresh (fH _))⟩
theorem vP{scope:Scope}{env:Env}(h:∀ p∈scope.names,p.2=.free→∃ c,env.cells.lookup p.1=some c) :
  ∃ cl,closureFor scope env=pure cl∧(∀ x c,cl.lookup x=some c→env.cells.lookup x=some c)∧(∀ p∈scope.names,p.2=.free→∃ c,cl.lookup p.1=some c):=by
 unfold closureFor
 have key:∀ (l:List (Str × NameKind)) (cs:List (Str × Addr)),(∀ p∈l,p.2=.free→∃ c,env.cells.lookup p.1=some c)→(∀ x c,cs.lookup x=some c→env.cells.lookup x=some c) →
   ∃ cl,(forIn l cs (fun p r=>if (p.2 == NameKind.free)=true then do let c ← cellOf env p.1;pure (ForInStep.yield ((p.1,c)::r)) else pure (ForInStep.yield r)):Sem (List (Str × Addr)))=pure cl∧(∀ x c,cl.lookup x=some c→env.cells.lookup x=some c)∧(∀ p∈l,p.2=.free→∃ c,cl.lookup p.1=some c)∧(∀ x c,cs.lookup x=some c→∃ c,cl.lookup x=some c):=by
  intro l
  induction l with
  | nil=>intro cs _ hcs;exact⟨cs,rfl,hcs,(fun p hp=>by cases hp),fun x c e=>⟨c,e⟩⟩
  | cons p l ih =>
   intro cs hl hcs
   rw[List.forIn_cons]
   by_cases hp:p.2=.free
   ·obtain⟨c,hc⟩:=hl p qH hp
    have e1:(p.2 == NameKind.free)=true:=by rw[hp];rfl
    have e2:cellOf env p.1=pure c:=by
     unfold cellOf
     rw[hc]
    rw[if_pos e1,e2]
    simp only[pure_bind]
    obtain⟨cl,h1,h2,h3,h4⟩:=ih ((p.1,c)::cs) (fun q hq=>hl q (rV _ hq)) (fun x d e=>by
     rw[List.lookup_cons]at e
     cases hx:x == p.1 with
     | true =>
      rw[hx]at e
      cases e
      rw[eq_of_beq hx]
      exact hc
     | false =>
      rw[hx]at e
      exact hcs x d e)
    refine⟨cl,h1,h2,fun q hq hf=>?_,fun x d e=>?_⟩
    ·rcases List.mem_cons.mp hq with rfl|hq
     ·exact h4 q.1 c (by rw[List.lookup_cons];simp)
     ·exact h3 q hq hf
    ·cases hx:x == p.1 with
     | true=>exact h4 x c (by rw[List.lookup_cons,hx])
     | false=>exact h4 x d (by rw[List.lookup_cons,hx];exact e)
   ·have e1:¬ (p.2 == NameKind.free)=true:=fun z=>hp (eq_of_beq z)
    rw[if_neg e1]
    simp only[pure_bind]
    obtain⟨cl,h1,h2,h3,h4⟩:=ih cs (fun q hq=>hl q (rV _ hq)) hcs
    refine⟨cl,h1,h2,fun q hq hf=>?_,h4⟩
    rcases List.mem_cons.mp hq with rfl|hq
    ·exact absurd hf hp
    ·exact h3 q hq hf
 obtain⟨cl,h1,h2,h3,_⟩:=key scope.names [] h (fun x c e=>by cases e)
 refine⟨cl,?_,h2,h3⟩
 rw[← h1]
 simp only[bind_pure]
theorem nL{env:Env}:∀ {names:List (Str × NameKind)} {x:Str} {k:NameKind},names.lookup x=some k →
  (names.map fun (n,k)=>if (k == NameKind.free&&env.scope.kind == .function&&env.kindOf n == some .cell) then (n,NameKind.cell) else (n,k)).lookup x=some (if (k == NameKind.free&&env.scope.kind == .function&&env.kindOf x == some .cell) then NameKind.cell else k)
 | [],_,_,h=>by cases h
 | (n,k')::r,x,k,h=>by
  rw[kO]
  by_cases hx:(x == n)=true
  ·have e:x=n:=eq_of_beq hx
   subst e
   rw[List.lookup_cons,hx]at h
   cases h
   by_cases hc:(k' == NameKind.free&&env.scope.kind == .function&&env.kindOf x == some .cell)=true
   ·show List.lookup x ((if (k' == NameKind.free&&env.scope.kind == .function&&env.kindOf x == some .cell)=true then (x,NameKind.cell) else (x,k'))::_)=_
    rw[if_pos hc,if_pos hc,List.lookup_cons,hx]
   ·show List.lookup x ((if (k' == NameKind.free&&env.scope.kind == .function&&env.kindOf x == some .cell)=true then (x,NameKind.cell) else (x,k'))::_)=_
    rw[if_neg hc,if_neg hc,List.lookup_cons,hx]
  ·have hf:(x == n)=false:=by simpa using hx
   rw[List.lookup_cons,hf]at h
   have ih:=nL (env:=env) h
   show List.lookup x ((if (k' == NameKind.free&&env.scope.kind == .function&&env.kindOf n == some .cell)=true then (n,NameKind.cell) else (n,k'))::_)=_
   by_cases hc:(k' == NameKind.free&&env.scope.kind == .function&&env.kindOf n == some .cell)=true
   ·rw[if_pos hc,List.lookup_cons,hf];exact ih
   ·rw[if_neg hc,List.lookup_cons,hf];exact ih
theorem mJ{env:Env}:∀ {names:List (Str × NameKind)} {x:Str},names.lookup x=none →
  (names.map fun (n,k)=>if (k == NameKind.free&&env.scope.kind == .function&&env.kindOf n == some .cell) then (n,NameKind.cell) else (n,k)).lookup x=none
 | [],_,_=>rfl
 | (n,k')::r,x,h=>by
  rw[kO]
  have hf:(x == n)=false:=by
   cases hx:x == n with
   | false=>rfl
   | true=>rw[List.lookup_cons,hx]at h;cases h
  rw[List.lookup_cons,hf]at h
  have ih:=mJ (env:=env) h
  show List.lookup x ((if (k' == NameKind.free&&env.scope.kind == .function&&env.kindOf n == some .cell)=true then (n,NameKind.cell) else (n,k'))::_)=_
  by_cases hc:(k' == NameKind.free&&env.scope.kind == .function&&env.kindOf n == some .cell)=true
  ·rw[if_pos hc,List.lookup_cons,hf];exact ih
  ·rw[if_neg hc,List.lookup_cons,hf];exact ih
structure Bq(X:Cx)(N:List Str)(scope:Scope)(jx:List (Option Nat)):Prop where
 kind:scope.kind=.function
 cell:∀ x∈scope.names,x.2≠.cell
 names:∀ x∈scope.names,x.2=.local→scope.names.lookup x.1=some .local
 xk:X.env.scope.kind=.function
 fr:∀ x∈scope.names,x.2=.free→X.env.scope.names.lookup x.1=some .cell
 len:jx.length=N.length
 free:∀ (i j:Nat) (x:Str),jx[i]?=some (some j)→N[i]?=some x→X.N[j]?=some x∧scope.names.lookup x=some .free
def freeOk(NX N:List Str)(scope:Scope)(jx:List (Option Nat)):Bool:=(jx.zip N).all fun p=>match p.1 with
 | none=>true
 | some j=>decide (NX[j]?=some p.2)&&decide (scope.names.lookup p.2=some .free)
theorem qQ{X:Cx}{N NX:List Str}{scope sc:Scope}{jx:List (Option Nat)}(e1:X.env.scope=sc)(e2:X.N=NX)(k:scope.kind=.function)(h1:∀ x∈scope.names,x.2≠.cell)(h2:∀ x∈scope.names,x.2=.local→scope.names.lookup x.1=some .local)
  (h3:sc.kind=.function) (h4:∀ x∈scope.names,x.2=.free→sc.names.lookup x.1=some .cell) (h5:jx.length=N.length) (h6:freeOk NX N scope jx=true):Bq X N scope jx:=by
 refine⟨k,h1,h2,by rw[e1];exact h3,by rw[e1];exact h4,h5,fun i j x a b=>?_⟩
 rw[e2]
 unfold freeOk at h6
 rw[List.all_eq_true]at h6
 have z:=h6 (some j,x) (rW (i:=i) (by rw[List.getElem?_zip_eq_some];exact⟨a,b⟩))
 simp only[Bool.and_eq_true,decide_eq_true_eq]at z
 exact z
section
variable {X:Cx} {N:List Str} {scope:Scope} {jx:List (Option Nat)}
theorem Bq.toF{pins:List (Addr × Obj)}{σ:L2.St}{H:Hp}{s:Shared}(cg:Bq X N scope jx)(I:Inv X pins σ H s):∃ cl,Bo X N scope cl jx:=by
 obtain⟨cl,h1,h2,h3⟩:=vP (scope:=scope) (env:=X.env) fun p hp hf=>I.ok.has p.1 (.inl (cg.fr p hp hf))
 have rel:∀ x,scope.names.lookup x=some .free→(relabel scope X.env).names.lookup x=some .cell:=fun x hx=>by
  have z:=nL (env:=X.env) hx
  have c:(NameKind.free == NameKind.free&&X.env.scope.kind == .function&&X.env.kindOf x == some .cell)=true:=by
   have q:X.env.kindOf x=some .cell:=cg.fr (x,.free) (PySem.mem_of_lookup hx) rfl
   rw[cg.xk,q]
   rfl
  rw[if_pos c]at z
  exact z
 refine⟨cl,cg.kind,cg.cell,cg.names,h1,h2,fun x hx=>?_,cg.len,fun i j x a b=>?_⟩
 ·cases e:scope.names.lookup x with
  | none =>
   have z:(relabel scope X.env).names.lookup x=none:=mJ (env:=X.env) e
   rw[z]at hx
   rcases hx with q|q <;> cases q
  | some k =>
   by_cases hk:k=.free
   ·subst hk
    exact h3 (x,.free) (PySem.mem_of_lookup e) rfl
   ·have z:(relabel scope X.env).names.lookup x=some (if (k == NameKind.free&&X.env.scope.kind == .function&&X.env.kindOf x == some .cell) then NameKind.cell else k):=nL (env:=X.env) e
    have c:(k == NameKind.free)=false:=by
     cases q:k == NameKind.free with
     | false=>rfl
     | true=>exact absurd (eq_of_beq q) hk
    rw[c]at z
    simp only[Bool.false_and,Bool.false_eq_true,if_false]at z
    rw[z]at hx
    rcases hx with q|q
    ·cases q
     exact absurd rfl (cg.cell (x,.cell) (PySem.mem_of_lookup e))
    ·cases q
     exact absurd rfl hk
 ·obtain⟨f1,f2⟩:=cg.free i j x a b
  exact⟨f1,cg.fr (x,.free) (PySem.mem_of_lookup f2) rfl,rel x f2⟩
theorem lW{elt tg iter:Expr}{ifs:List Expr}{pos:Pos}{wi:TI}{g:TG}{tt:TT}{te:TE}(cg:Bq X N scope jx)(hc:X.calm=true)(hi:PI X tg iter wi)
  (hg:∀ cl C s₀ H₀ ex pn,PG (jT X N scope cl C s₀ H₀ ex pn) tg g) (ht:∀ cl C s₀ H₀ ex pn,FF (jT X N scope cl C s₀ H₀ ex pn) ifs tt) (he:∀ cl C s₀ H₀ ex pn,PE (jT X N scope cl C s₀ H₀ ex pn) elt te)
  (hs:∀ x,foldedSetIterable iter X.env x=pure x:=by intro _;rfl):PE X (.ListComp elt [⟨tg,iter,ifs,0⟩] scope pos) (vO jx wi g tt te):=by
 intro pins s σ H Q I h
 obtain⟨cl,cs⟩:=cg.toF I
 exact Ld cs hc hi (hg cl) (ht cl) (he cl) hs pins s σ H Q I h
theorem HJ{elt tg iter:Expr}{ifs:List Expr}{pos pos' pos2:Pos}{wi:TI}{g:TG}{tt:TT}{te:TE}{i:Nat}{x:Str}(cg:Bq X N scope jx)(hc:X.calm=true)(hN:X.N.Nodup)(hix:X.N[i]?=some x)(hx:X.env.scope.names.lookup x=some .local)(hi:PI X tg iter wi)
  (hg:∀ cl C s₀ H₀ ex pn,PG (jT X N scope cl C s₀ H₀ ex pn) tg g) (ht:∀ cl C s₀ H₀ ex pn,FF (jT X N scope cl C s₀ H₀ ex pn) ifs tt) (he:∀ cl C s₀ H₀ ex pn,PE (jT X N scope cl C s₀ H₀ ex pn) elt te)
  (hsw:swapsWith (.ListComp elt [⟨tg,iter,ifs,0⟩] scope pos) (some (.Name x pos')) pos2.line X.env=pure true:=by rfl)
  (hs:∀ x,foldedSetIterable iter X.env x=pure x:=by intro _;rfl):PS X (.Assign [.Name x pos'] (.ListComp elt [⟨tg,iter,ifs,0⟩] scope pos) pos2) (MB (vO jx wi g tt te) (wG i)):=by
 intro pins s σ H D I h
 obtain⟨cl,cs⟩:=cg.toF I
 exact M9 cs hc hN hix hx hi (hg cl) (ht cl) (he cl) hsw hs pins s σ H D I h
end
end cR
namespace cR
open PySem PySem.Spec PyProof.Rows L2
section
variable {X:Cx} {N:List Str} {scope:Scope} {cl:List (Str × Addr)} {jx:List (Option Nat)}
def Ez(J:It)(acc:Addr)(g:TG)(tt:TT)(xA:TI)(g2:TG)(xB:TT)(te:TE)(σ0:L2.St)(H:Hp)(Q:VK):Prop :=
 ∃ W:Nat→Nat→L2.St→Hp→Prop,(∃ m,W 0 m σ0 H)∧∀ i m σ H,W i m σ H →
  (J.stop i H∧Q (.ref acc) H)∨(J.go i H∧∃ Nx:L2.St→Hp→Prop,(∀ σ' H',Nx σ' H'→∃ m',m'<m∧W (i+1) m' σ' H')∧∀ x H',J.IE i H x H'→g x σ H' fun σ2 H2=>tt σ2 H2 fun b H3 =>
   if b=true then yO xA acc g2 xB te σ2 H3 Nx else Nx σ2 H3)
def HK(jx:List (Option Nat))(wi:TI)(g:TG)(tt:TT)(xA:TI)(g2:TG)(xB:TT)(te:TE):TE:=fun σ H Q=>wi σ H fun J H1=>∀ acc,H1 acc=none→Ez J acc g tt xA g2 xB te (tN jx σ) (upd H1 acc (.lst [])) Q
theorem Gm{elt tg iter pM cz:Expr}{ifs ji:List Expr}{pos pos':Pos}{wi xA:TI}{g g2:TG}{tt xB:TT}{te:TE}(cs:Bo X N scope cl jx)(hc:X.calm=true)(hi:PI X tg iter wi)
  (hg:∀ C s₀ H₀ ex pn,PG (jT X N scope cl C s₀ H₀ ex pn) tg g) (ht:∀ C s₀ H₀ ex pn,FF (jT X N scope cl C s₀ H₀ ex pn) ifs tt) (hi2:∀ C s₀ H₀ ex pn,PI (jT X N scope cl C s₀ H₀ ex pn) pM cz xA) (Sg:∀ C s₀ H₀ ex pn,PG (jT X N scope cl C s₀ H₀ ex pn) pM g2) (DA:∀ C s₀ H₀ ex pn,FF (jT X N scope cl C s₀ H₀ ex pn) ji xB) (he:∀ C s₀ H₀ ex pn,PE (jT X N scope cl C s₀ H₀ ex pn) elt te)
  (hs:∀ x,foldedSetIterable iter X.env x=pure x) (hs2:∀ (env:Env) x,foldedSetIterable cz env x=pure x) {use:Option (Value→Sem Unit)} {Q':Value→Shared→Prop} {Q:VK} {pins:List (Addr × Obj)} {s:Shared} {σ:L2.St} {H:Hp} (I:Inv X pins σ H s) (h:HK jx wi g tt xA g2 xB te σ H Q)
  (fin:∀ (s3:Shared) (H3:Hp) (fp:List Addr) (acc:Addr) (σ6:L2.St) (H6:Hp) (s7:Shared),Inv X pins σ H3 s3→(∀ b∈fp,mw X pins H3 b)→Inv (jT X N scope cl s3.heap.objs.size s3 H3 fp (X.pn++pins)) [] σ6 H6 s7→Q (.ref acc) H6 →
   compPost (model X.prog X.w) X.A X.xe use Q' (.ref acc) s3.heap.objs.size (.ok .next) s7) :
  wpAny (model X.prog X.w) X.A (comprehension (.ListComp elt [⟨tg,iter,ifs,0⟩,⟨pM,cz,ji,0⟩] scope pos) scope X.env pos' (newList []) false (eval iter X.env) use) Q' X.xe s:=by
 refine wpAny_comprehension_free (use:=use) rfl hs cs.clos cs.kind cs.names (bQ (hi pins s σ H _ I h) fun v s1 h1=>bQ h1 fun itv s2 h2=>?_)
 obtain⟨it,fp,tn,J,H2,e,I2,T,st2,f2,q⟩:=h2
 subst e
 refine wpAny_newObj_type (hd:=by size_fits) ?_
 have hacc:H2 s2.heap.objs.size=none:=I2.hok.fresh (fH _)
 have I3:Inv X pins σ (upd H2 s2.heap.objs.size (.lst [])) { s2 with heap:=s2.heap.push { cls:=.type "list",data:=.seq ([]:List Value).toArray },toks:=s2.toks }:=I2.IS (ys:=[]) .nil (mO _)
 have KU:∀ b∈fp,b<s2.heap.objs.size:=fun b hb=>by
  obtain⟨o,ho,_⟩:=T.obj _ _ st2 b hb
  exact Heap.lt_size ho
 have f3:∀ b∈fp,mw X pins (upd H2 s2.heap.objs.size (.lst [])) b:=fun b hb=>⟨by rw[aC (jL (KU b hb))];exact (f2 b hb).1,(f2 b hb).2⟩
 have k3:∀ b o,s2.heap.get? b=some o→(s2.heap.push { cls:=.type "list",data:=.seq ([]:List Value).toArray }).get? b=some o:=fun b o e=>Heap.get?_push_of_some _ e
 have q3:=q _ hacc
 generalize Pu:({ s2 with heap:=s2.heap.push { cls:=.type "list",data:=.seq ([]:List Value).toArray },toks:=s2.toks }:Shared)=s3 at I3
 generalize hH3:upd H2 s2.heap.objs.size (.lst [])=H3 at I3 f3 q3
 have KW:s3.heap=s2.heap.push { cls:=.type "list",data:=.seq ([]:List Value).toArray }:=by rw[← Pu]
 have Bb:∀ b∈fp,b<s3.heap.objs.size:=fun b hb=>by rw[KW,Heap.size_push];exact Nat.lt_succ_of_lt (KU b hb)
 have st3:tn 0 s3.heap:=T.keep _ _ _ st2 fun b _ o e=>by rw[KW];exact k3 b o e
 show wpAny _ _ _ _ _ s3
 refine wpAny_newFunctionEnv cs.cell (fun y hy=>by simp at hy) (fun h₁ hns Ja=>?_) cs.kind
 have kh:∀ b o,s3.heap.get? b=some o→h₁.get? b=some o:=fun b o e=>Ja.extBut _ _ (jL (Heap.lt_size e)) (Heap.get?_push_of_some _ e)
 have J0:Inv (jT X N scope cl s3.heap.objs.size s3 H3 fp (X.pn++pins)) [] (tN jx σ) H3 { s3 with heap:=h₁,toks:=s3.toks+([]:List (Str × Value)).length }:=wU cs I3 f3 Bb hns kh
 have KY:tn 0 h₁:=T.keep _ _ _ st3 fun b _ o e=>kh b o e
 obtain⟨W,⟨m0,w0⟩,turn⟩:=q3
 have nj:∀ {H':Hp},(∀ b∈fp,H' b=none)→∀ b∈fp,mw (jT X N scope cl s3.heap.objs.size s3 H3 fp (X.pn++pins)) [] H' b:=fun hn b hb=>by
  refine⟨hn b hb,jL (Bb b hb),fun z=>?_,.inl hb,fun x c e=>(f3 b hb).2.2.2.2.1 x c (cs.sub x c e),fun p hp=>?_⟩
  ·rcases List.mem_cons.mp (I3.oU b z) with e|e
   ·exact (f3 b hb).2.1 e
   ·exact (f3 b hb).2.2.1 e
  ·have Hy:p∈X.pn++pins:=by
    have z:p∈(X.pn++pins)++[]:=hp
    simpa using z
   exact (f3 b hb).2.2.2.2.2 p Hy
 have loop:∀ s5:Shared,s5={ s3 with heap:=h₁,toks:=s3.toks+([]:List (Str × Value)).length }→codeAny (model X.prog X.w) X.A (.compLoop (.ListComp elt [⟨tg,iter,ifs,0⟩,⟨pM,cz,ji,0⟩] scope pos) 0 (.ref it) (.ref s2.heap.objs.size) (jT X N scope cl s3.heap.objs.size s3 H3 fp (X.pn++pins)).env)
   (compPost (model X.prog X.w) X.A X.xe use Q' (.ref s2.heap.objs.size) s3.heap.objs.size) s5:=by
  rintro s5 rfl
  refine HC (fun n s'=>∃ i σ' H',Inv (jT X N scope cl s3.heap.objs.size s3 H3 fp (X.pn++pins)) [] σ' H' s'∧tn i s'.heap∧(∀ b∈fp,H' b=none)∧W i n σ' H') (hs2 _) ?_ m0 ⟨0,_,H3,J0,KY,fun b hb=>(f3 b hb).1,w0⟩
  rintro n s6 ⟨i,σ6,H6,I6,HA,FG,w6⟩
  rcases turn i n σ6 H6 w6 with ⟨stop,qn⟩|⟨go,Nx,hN,step⟩
  ·refine bQ (T.done (jT X N scope cl s3.heap.objs.size s3 H3 fp (X.pn++pins)) rfl rfl rfl hc i [] s6 σ6 H6 _ I6 (nj FG) HA stop) fun r s7 ⟨hr,I7⟩=>?_
   subst hr
   exact fin s3 H3 fp _ σ6 H6 s7 I3 f3 I7 qn
  ·refine bQ (T.item (jT X N scope cl s3.heap.objs.size s3 H3 fp (X.pn++pins)) rfl rfl rfl hc i [] s6 σ6 H6 _ I6 (nj FG) HA go) fun r s7 ⟨u,hr,h7⟩=>?_
   subst hr
   refine bQ h7 fun _ s8 ⟨x,H8,I8,r8,y8,Cd,FH⟩=>?_
   have MT:=I8.pinned (nj FH) (T.obj _ _ Cd)
   refine bQ (hg _ _ _ _ _ _ s8 σ6 H8 x u _ MT r8 (step x H8 y8)) fun _ s9 ⟨σ9,H9,I9,q9⟩=>?_
   refine bQ (ht _ _ _ _ _ _ s9 σ9 H9 _ I9 q9) fun ok Py ⟨Ej,HB,uo⟩=>?_
   have again:∀ {σ7:L2.St} {H7:Hp} {ou:Shared},Inv (jT X N scope cl s3.heap.objs.size s3 H3 fp (X.pn++pins)) ([]++pW fp s8.heap) σ7 H7 ou→Nx σ7 H7→∃ m,m<n∧∃ i σ' H',Inv (jT X N scope cl s3.heap.objs.size s3 H3 fp (X.pn++pins)) [] σ' H' ou∧tn i ou.heap∧(∀ b∈fp,H' b=none)∧W i m σ' H':=fun {σ7 H7 ou} I7 n7=>by
    obtain⟨m',hm,w7⟩:=hN σ7 H7 n7
    refine⟨m',hm,i+1,σ7,H7,I7.lO,T.keep _ _ _ Cd fun b hb o e=>(I7.pin (b,o) (lM _ (lM _ (dD hb e)))).1,fun b hb=>?_,w7⟩
    obtain⟨o,e,d⟩:=T.obj _ _ Cd b hb
    exact (I7.pin (b,o) (lM _ (lM _ (dD hb e)))).2.1
   cases ok with
   | false =>
    rw[if_neg jX]at uo
    exact again HB uo
   | true =>
    rw[if_pos rfl]at uo
    refine bQ (Bc (Y:=jT X N scope cl s3.heap.objs.size s3 H3 fp (X.pn++pins)) hc rfl (hi2 _ _ _ _ _) (Sg _ _ _ _ _) (DA _ _ _ _ _) (he _ _ _ _ _) HB uo) fun x ou h11=>bQ h11 fun QL s12 h12=>codeAny_mono h12 fun r JX ⟨hr,σ',H',I13,n13⟩=>⟨hr,again I13 n13⟩
 exact codeAny_compStart_list (loop _ rfl) (T.self _ _ _ _ _ KY (loop _ rfl))
theorem Jj{elt tg iter pM cz:Expr}{ifs ji:List Expr}{pos:Pos}{wi xA:TI}{g g2:TG}{tt xB:TT}{te:TE}(cg:Bq X N scope jx)(hc:X.calm=true)(hi:PI X tg iter wi)
  (hg:∀ cl C s₀ H₀ ex pn,PG (jT X N scope cl C s₀ H₀ ex pn) tg g) (ht:∀ cl C s₀ H₀ ex pn,FF (jT X N scope cl C s₀ H₀ ex pn) ifs tt)
  (hi2:∀ cl C s₀ H₀ ex pn,PI (jT X N scope cl C s₀ H₀ ex pn) pM cz xA) (Sg:∀ cl C s₀ H₀ ex pn,PG (jT X N scope cl C s₀ H₀ ex pn) pM g2) (DA:∀ cl C s₀ H₀ ex pn,FF (jT X N scope cl C s₀ H₀ ex pn) ji xB) (he:∀ cl C s₀ H₀ ex pn,PE (jT X N scope cl C s₀ H₀ ex pn) elt te)
  (hs:∀ x,foldedSetIterable iter X.env x=pure x:=by intro _;rfl) (hs2:∀ (env:Env) x,foldedSetIterable cz env x=pure x:=by intro _ _;rfl) :
  PE X (.ListComp elt [⟨tg,iter,ifs,0⟩,⟨pM,cz,ji,0⟩] scope pos) (HK jx wi g tt xA g2 xB te):=by
 intro pins s σ H Q I h
 obtain⟨cl,cs⟩:=cg.toF I
 rw[eval_ListComp]
 refine Gm (use:=none) cs hc hi (hg cl) (ht cl) (hi2 cl) (Sg cl) (DA cl) (he cl) hs hs2 I h fun s3 H3 fp acc σ6 H6 s7 I3 f3 I7 qn=>?_
 obtain⟨m,hm,_⟩:=I7.loc
 exact⟨m,hm,fun h' Ja=>⟨.ref acc,H6,vN I3 (vM I3 f3 I7) I7.free Ja,rfl,qn⟩⟩
theorem EA{K:PySem.W.Frag}{a acc:Addr}{xs:List V}{g:TG}{tt:TT}{xA:TI}{g2:TG}{xB:TT}{te:TE}{σ0:L2.St}{H:Hp}{Q:VK}(Pv:Nat→L2.St→Hp→Prop)(h0:Pv 0 σ0 H)(hl:∀ i σ H,i≤xs.length→Pv i σ H→bG K H a xs)
  (hs:∀ i x σ H,xs[i]?=some x→Pv i σ H→g x σ H fun σ2 H2=>tt σ2 H2 fun b H3=>if b=true then yO xA acc g2 xB te σ2 H3 (Pv (i+1)) else Pv (i+1) σ2 H3)
  (hd:∀ σ H,Pv xs.length σ H→Q (.ref acc) H):Ez (JW K a) acc g tt xA g2 xB te σ0 H Q:=by
 refine⟨fun i m σ H=>m=xs.length-i∧i≤xs.length∧Pv i σ H,⟨xs.length,by simp,mO _,h0⟩,?_⟩
 rintro i m σ H ⟨rfl,hi,p⟩
 have q:=hl i σ H hi p
 by_cases hlt:i<xs.length
 ·refine .inr ⟨⟨xs,xs[i],q,by simp[hlt]⟩,Pv (i+1),fun σ' H' p'=>⟨xs.length-(i+1),by omega,rfl,hlt,p'⟩,fun x H' y=>?_⟩
  obtain⟨e,y⟩:=y
  subst e
  exact hs i x σ _ (y xs q) p
 ·have e:i=xs.length:=by omega
  subst e
  exact .inl ⟨⟨xs,q,fH _⟩,hd σ H p⟩
theorem Gn{K:PySem.W.Frag}{a acc:Addr}{xs:List V}{g:TG}{tt:TT}{te:TE}{σ:L2.St}{H:Hp}{Nx:L2.St→Hp→Prop}(Pv:Nat→L2.St→Hp→Prop)(h0:Pv 0 σ H)(hl:∀ i σ H,i≤xs.length→Pv i σ H→bG K H a xs)
  (hs:∀ i x σ H,xs[i]?=some x→Pv i σ H→g x σ H fun σ2 H2=>tt σ2 H2 fun b H3=>if b=true then te σ2 H3 fun v H4=>∃ ys,H4 acc=some (.lst ys)∧ys.length<sizeLine∧Pv (i+1) σ2 (upd H4 acc (.lst (ys++[v]))) else Pv (i+1) σ2 H3)
  (hd:∀ σ H,Pv xs.length σ H→Nx σ H):∃ W:Nat→Nat→L2.St→Hp→Prop,(∃ m,W 0 m σ H)∧∀ i m σ H,W i m σ H →
  ((JW K a).stop i H∧Nx σ H)∨((JW K a).go i H∧∃ N2:L2.St→Hp→Prop,(∀ σ' H',N2 σ' H'→∃ m',m'<m∧W (i+1) m' σ' H')∧∀ x H',(JW K a).IE i H x H'→g x σ H' fun σ2 H2=>tt σ2 H2 fun b H3 =>
   if b=true then te σ2 H3 fun v H4=>∃ xs,H4 acc=some (.lst xs)∧xs.length<sizeLine∧N2 σ2 (upd H4 acc (.lst (xs++[v]))) else N2 σ2 H3):=by
 refine⟨fun i m σ H=>m=xs.length-i∧i≤xs.length∧Pv i σ H,⟨xs.length,by simp,mO _,h0⟩,?_⟩
 rintro i m σ H ⟨rfl,hi,p⟩
 have q:=hl i σ H hi p
 by_cases hlt:i<xs.length
 ·refine .inr ⟨⟨xs,xs[i],q,by simp[hlt]⟩,Pv (i+1),fun σ' H' p'=>⟨xs.length-(i+1),by omega,rfl,hlt,p'⟩,fun x H' y=>?_⟩
  obtain⟨e,y⟩:=y
  subst e
  exact hs i x σ _ (y xs q) p
 ·have e:i=xs.length:=by omega
  subst e
  exact .inl ⟨⟨xs,q,fH _⟩,hd σ H p⟩
end
end cR
namespace cR
open PySem PySem.Spec PyProof.Rows L2
open AutoSeq1 (wpAny_loadPart')
section
variable {prog:Program} {w:World} {A:Around} {E:Value→Shared→Prop} {s:Shared} {κ:Type} [DecidableEq κ] {knd:KeyKind prog w κ}
theorem Jk{d:Addr}{Q:Bool→Shared→Prop}(hT:s.TypeIs (.ref d) "dict")(h:Q false s):wpAny (model prog w) A (Builtin.List.listLengthHint (.ref d)) Q E s:=by
 unfold Builtin.List.listLengthHint
 refine wpAny_bind (wpAny_specialOf hT F.slot_dict_len.lookup ?_)
 generalize hid:("dict.__len__":String)=id0
 wp_delta
 rw[show splitId id0=some ("dict","__len__") by subst hid;decide +kernel]
 subst hid
 refine wpAny_bind (wpAny_isInstance (T:="dict") (b:=true) hT (by rw[isSubtype_type];kernel_rfl) ?_)
 refine wpAny_ite_split (fun q=>absurd q (by decide)) fun _=>?_
 refine wpAny_ite_split (fun _=>?_) fun q=>absurd (by decide +kernel) q
 exact wpAny_bind (wpAny_typeOf hT (wpAny_pure h))
theorem EB{R:Result→Shared→Prop}{d:Addr}{kvs:List (κ × Value)}{ep:Nat}(hh:A.handled=none)(hs:(d == sysModules)=false)(hd:s.heap.DictAt knd d kvs ep)(hlen:kvs.length≤sizeLine)(S:Addr)(res:Value)(c₀:Nat)(hS:s.heap.get? S=some { cls:=.type "list",data:=.seq #[] c₀ })
  (hR:∀ h' tk acc' c',(∀ b o,b≠S→s.heap.get? b=some o→h'.get? b=some o)→h'.get? S=some { cls:=.type "list",dict:=none,data:=.seq acc' c',slots:=#[] } →
   ItemsOf (fun i v=>∃ k x,kvs[i]?=some (k,x)∧knd.is k v=true) acc' kvs.length→R (.ok (.ret res)) { s with heap:=h',toks:=tk }) :
  wpAny (model prog w) A.in1 (Builtin.List.listExtendWith (.ref S) (.ref d) res)
   (fun fin s'=>match fin with|.done f=>R (.ok f) s'|.again c'=>c'.quiet=true∧codeAny (model prog w) A c' R s') (fun e s'=>R (.error e) s') s:=by
 have hT:s.TypeIs (.ref d) "dict":=by
  obtain⟨o,es,ho,hx,_⟩:=hd
  exact⟨o,ho,hx.1⟩
 have hSd:S≠d:=fun e=>by
  obtain⟨o,es,ho,hx,hda,_⟩:=hd
  rw[← e,hS]at ho
  cases ho
  cases hda
 have abR:S<s.heap.objs.size:=Heap.lt_size hS
 have abS:d<s.heap.objs.size:=by
  obtain⟨o,es,ho,_⟩:=hd
  exact Heap.lt_size ho
 have hSI:S≠s.heap.objs.size:=jL abR
 have hdI:d≠s.heap.objs.size:=jL abS
 have W:=(Walks.dictKeys (prog:=prog) (w:=w) (A:=A.in1) (knd:=knd) hh s.heap.objs.size d hdI kvs ep).toS
 unfold Builtin.List.listExtendWith
 refine wpAny_bind (wpAny_typeOf hT ?_)
 have h1:Builtin.List.listSameRef (.ref S) (.ref d)=false:=by simp[Builtin.List.listSameRef,hSd]
 have h2:(Value.type "dict" == Value.type "list")=false:=by decide
 have h3:(Value.type "dict" == Value.type "tuple")=false:=by decide
 simp only[h1,h2,h3,Bool.or_false,Bool.false_eq_true,if_false]
 refine wpAny_bind (wpAny_pyIter_dict hs hd ?_)
 have hit:(s.heap.push { cls:=.type "dict_keyiterator",data:=.fields #[.ref d,.int 0 0,.int kvs.length 0,.int ep 0] }).IsKeyIter s.heap.objs.size d 0 kvs.length ep:=⟨_,Heap.get?_push_size _ rfl,rfl,rfl⟩
 have grow:∀ b o,s.heap.get? b=some o→(s.heap.push { cls:=.type "dict_keyiterator",data:=.fields #[.ref d,.int 0 0,.int kvs.length 0,.int ep 0] }).get? b=some o:=fun b o e=>Heap.get?_push_of_some _ e
 generalize s.heap.push { cls:=.type "dict_keyiterator",data:=.fields #[.ref d,.int 0 0,.int kvs.length 0,.int ep 0] }=g1 at hit grow
 have hT1:({ s with heap:=g1 }:Shared).TypeIs (.ref d) "dict":=by
  obtain⟨o,ho,hc⟩:=hT
  exact⟨o,grow _ _ ho,hc⟩
 refine wpAny_bind (wpAny_holding (Jk hT1 ?_))
 refine wpAny_ite_split (fun _=>?_) fun q=>absurd (by decide +kernel) q
 refine wpAny_bind (wpAny_rule (wpAny_bind ?_))
 show wpAny _ A.in1 (updateSeq S (fun z=>z.push .none) >>= fun _=>updateSeq S fun z=>z.pop) _ _ _
 have g1S:=grow _ _ hS
 refine wpAny_bind (wpAny_updateSeq g1S rfl ?_)
 have g2S:=Heap.get?_update_self (Obj.mapSeq fun z=>z.push Value.none) g1S rfl
 refine wpAny_updateSeq (hz:=by seq_fits) g2S rfl ?_
 have g3S:=Heap.get?_update_self (Obj.mapSeq fun z=>z.pop) g2S rfl
 have Jl:∀ b o,b≠S→g1.get? b=some o→((g1.update S (Obj.mapSeq fun z=>z.push Value.none)).update S (Obj.mapSeq fun z=>z.pop)).get? b=some o:=fun b o nb e =>
  (Heap.get?_update_other _ _ nb.symm).trans ((Heap.get?_update_other _ _ nb.symm).trans e)
 refine wpAny_pure ⟨plainId_quiet F.plain_extend_loop _,codeAny_extend_loopS W hlen S (fun hm=>?_) res kvs.length 0 _ #[] _ rfl (mO _) ⟨hit.at fun o e=>Jl _ o hSI.symm e,(hd.at' fun o e=>Jl _ o hSd.symm (grow _ o e))⟩ g3S (ItemsOf.nil _) fun s' acc' c' hm hS' hacc=>?_⟩
 ·rcases List.mem_cons.mp hm with e|e
  ·exact hSI e
  ·exact hSd (List.mem_singleton.mp e)
 ·rw[Moved.eq_with hm]
  refine hR s'.heap s'.toks acc' c' (fun b o nb e=>hm.heap b o (fun q=>?_) (Jl b o nb (grow b o e))) hS' hacc
  rcases List.mem_cons.mp q with z|z
  ·exact nb z
  ·exact absurd (Heap.lt_size e) (by rw[List.mem_singleton.mp z];exact Nat.lt_irrefl _)
theorem yW{Q:Value→Shared→Prop}{d:Addr}{kvs:List (κ × Value)}{ep:Nat}(hh:A.handled=none)(hs:(d == sysModules)=false)(hd:s.heap.DictAt knd d kvs ep)(hlen:kvs.length≤sizeLine)
  (hQ:∀ h' tk acc' c',(∀ b o,s.heap.get? b=some o→h'.get? b=some o)→h'.get? s.heap.objs.size=some { cls:=.type "list",dict:=none,data:=.seq acc' c',slots:=#[] } →
   ItemsOf (fun i v=>∃ k x,kvs[i]?=some (k,x)∧knd.is k v=true) acc' kvs.length→Q (.ref s.heap.objs.size) { s with heap:=h',toks:=tk }) :
  wpAny (model prog w) A (call (.type "list") [.ref d]) Q E s:=by
 refine callType_codes (Q₁:=fun u s1=>u=.ref s.heap.objs.size∧s1={ s with heap:=s.heap.push { cls:=.type "list",data:=.seq #[] } }) F.called_list (F.typeCall_list_1 _) F.entry_list_init (code_list_new _ ⟨rfl,rfl⟩) fun u s1 e1=>?_
 obtain⟨rfl,rfl⟩:=e1
 have hS:(s.heap.push { cls:=.type "list",data:=.seq #[] }).get? s.heap.objs.size=some { cls:=.type "list",data:=.seq #[] }:=Heap.get?_push_size _ rfl
 have hd1:(s.heap.push { cls:=.type "list",data:=.seq #[] }).DictAt knd d kvs ep:=hd.at' fun o e=>Heap.get?_push_of_some _ e
 have hdn:d≠s.heap.objs.size:=by
  obtain⟨o,es,ho,_⟩:=hd
  exact jL (Heap.lt_size ho)
 refine⟨⟨_,hS,rfl⟩,F.args_list_init_2 _ _,?_⟩
 show wpAny _ _ (do let old ← Builtin.List.listItems (.ref s.heap.objs.size);Builtin.List.listUpdate (.ref s.heap.objs.size) (fun _=>#[]);letGo old.toList.reverse;Builtin.List.listExtendWith (.ref s.heap.objs.size) (.ref d) .none) _ _ _
 refine wpAny_bind ?_
 unfold Builtin.List.listItems
 refine wpAny_bind (wpAny_seqItems hS rfl (wpAny_pure ?_))
 show wpAny _ _ (updateSeq s.heap.objs.size (fun _=>#[]) >>= fun _=>letGo (#[]:Array Value).toList.reverse >>= fun _=>Builtin.List.listExtendWith (.ref s.heap.objs.size) (.ref d) .none) _ _ _
 refine wpAny_bind (wpAny_updateSeq hS rfl ?_)
 have PV:=Heap.get?_update_self (Obj.mapSeq fun _=>(#[]:Array Value)) hS rfl
 have Jl:∀ b o,b≠s.heap.objs.size→(s.heap.push { cls:=.type "list",data:=.seq #[] }).get? b=some o→((s.heap.push { cls:=.type "list",data:=.seq #[] }).update s.heap.objs.size (Obj.mapSeq fun _=>(#[]:Array Value))).get? b=some o:=fun b o nb e=>(Heap.get?_update_other _ _ nb.symm).trans e
 refine wpAny_bind (wpAny_letGo ?_)
 refine EB (A:=A.in1) (knd:=knd) hh hs (hd1.at' fun o e=>Jl _ o hdn e) hlen s.heap.objs.size .none _ PV fun h' tk acc' c' hk hS' hacc=>?_
 exact⟨rfl,hQ h' tk acc' c' (fun b o e=>hk b o (jL (Heap.lt_size e)) (Jl b o (jL (Heap.lt_size e)) (Heap.get?_push_of_some _ e))) hS' hacc⟩
end
theorem Gp{X:Cx}(hc:X.calm=true):mF X (.type "list") (fun xs H Q=>∃ (d:Addr) (kvs:List (Key × V)),xs=[.ref d]∧H d=some (.dK kvs)∧∀ l,H l=none→Q (.ref l) (upd H l (.lst (kvs.map fun p=>kV p.1)))):=by
 intro pins s σ H xs us Q I r h
 obtain⟨d,kvs,rfl,hd,q⟩:=h
 obtain⟨u,rfl,rx⟩:=r.one
 cases (show u=Value.ref d from rx)
 obtain⟨hz,hs,vs,kv,o,es,ep,ho,hx⟩:=(show gh X.prog X.w H s.heap d (.dK kvs) from I.hok d _ hd)
 have len:=kv.length
 refine yW (I.ok.hd hc) hs ⟨o,es,ho,hx⟩ (by omega) fun h' tk acc' c' hk hS hacc=>?_
 refine⟨.ref s.heap.objs.size,_,I.laid (o:=.lst (kvs.map fun p=>kV p.1)) (t':=tk) hk (fH _) ⟨by rw[bY];exact hz,acc'.toList,c',?_,by simpa using hS⟩,rfl,q _ (I.hok.fresh (fH _))⟩
 have key:∀ (kvs:List (Key × V)) (vs:List (Key × Value)) (us:List Value),KV kvs vs→us.length=vs.length→(∀ (j:Nat) (v:Value),us[j]?=some v→∃ k x,vs[j]?=some (k,x)∧yo k v=true)→Vals (kvs.map fun p=>kV p.1) us:=by
  intro kvs
  induction kvs with
  | nil =>
   intro vs us kv hl _
   cases kv
   cases us with
   | nil=>exact .nil
   | cons=>simp at hl
  | cons p r ih =>
   intro vs us kv hl hp
   cases kv with
   | @cons _ q _ vs' h1 h2 =>
   cases us with
   | nil=>simp at hl
   | cons u us =>
    obtain⟨k,x,e1,e2⟩:=hp 0 u rfl
    have e3:q=(k,x):=by simpa using e1
    subst e3
    refine .cons ?_ (ih vs' us h2 (by simpa using hl) fun j v e=>?_)
    ·show L2.RelV (kV p.1) u
     rw[show p.1=k from h1.1]
     rcases dR e2 with ⟨i,t,rfl,rfl⟩|⟨i,t,rfl,rfl⟩
     ·exact⟨t,rfl⟩
     ·exact⟨t,rfl⟩
    ·obtain⟨k',x',e4,e5⟩:=hp (j+1) v (by simpa using e)
     exact⟨k',x',by simpa using e4,e5⟩
 exact key kvs vs acc'.toList kv (by simpa using hacc.1) fun j v e=>hacc.2 j v (by simpa using e)
end cR
namespace yX
open PySem PySem.Spec PyProof.Rows L2 cR iR
end yX
namespace iR
open PySem PySem.Spec PyProof.Rows L2 cR jj yX
inductive bR{α β:Type}(R:α→β→Prop):List α→List β→Prop
 | nil:bR R [] []
 | cons {a:α} {b:β} {as:List α} {bs:List β}:R a b→bR R as bs→bR R (a::as) (b::bs)
section
variable {α β:Type} {R R':α→β→Prop} {as:List α} {bs:List β} {a:α} {b:β}
theorem bR.len:∀ {as:List α} {bs:List β},bR R as bs→as.length=bs.length
 | _,_,.nil=>rfl
 | _,_,.cons _ t=>by rw[mq,mq,t.len]
theorem bR.get:∀ {as:List α} {bs:List β} {i:Nat},bR R as bs→as[i]?=some a→∃ b,bs[i]?=some b∧R a b
 | _,_,_,.nil,h=>by simp at h
 | _,_,0,.cons r _,h=>by simp at h;subst h;exact⟨_,rfl,r⟩
 | _,_,i+1,.cons _ t,h=>by simp at h;simpa using t.get h
theorem bR.get':∀ {as:List α} {bs:List β} {i:Nat},bR R as bs→bs[i]?=some b→∃ a,as[i]?=some a∧R a b
 | _,_,_,.nil,h=>by simp at h
 | _,_,0,.cons r _,h=>by simp at h;subst h;exact⟨_,rfl,r⟩
 | _,_,i+1,.cons _ t,h=>by simp at h;simpa using t.get' h
theorem bR.snoc:∀ {as:List α} {bs:List β},bR R as bs→R a b→bR R (as++[a]) (bs++[b])
 | _,_,.nil,h=>.cons h .nil
 | _,_,.cons r t,h=>.cons r (t.snoc h)
theorem bR.mono:∀ {as:List α} {bs:List β},(∀ a b,R a b→R' a b)→bR R as bs→bR R' as bs
 | _,_,_,.nil=>.nil
 | _,_,h,.cons r t=>.cons (h _ _ r) (t.mono h)
theorem bR.split:∀ {as:List α} {bs:List β},bR R as (bs++[b])→∃ as' a,as=as'++[a]∧bR R as' bs∧R a b
 | _,[],.cons r .nil=>⟨[],_,rfl,.nil,r⟩
 | _,c::bs,.cons r t=>by
  obtain⟨as',a,rfl,t',r'⟩:=t.split
  exact⟨_::as',a,rfl,.cons r t',r'⟩
end
inductive Item where
 | win (n:Int)
 | aB (a b:Int)
def Gq:Item→List V
 | .win n=>[.str "win",.int n]
 | .aB a b=>[.str "ink",.int a,.int b]
def cO(H:Hp)(v:V)(it:Item):Prop:=∃ a,v=.ref a∧H a=some (.tup (Gq it))
theorem cO.same{H H':Hp}{v:V}{it:Item}(s:aH H H'):cO H v it→cO H' v it:=fun ⟨a,e,h⟩=>⟨a,e,s _ _ h⟩
theorem cO.keep{H H':Hp}{v:V}{it:Item}{q:Addr}{xs:List V}(hq:H q=some (.lst xs))(k:cA q H H'):cO H v it→cO H' v it:=fun ⟨a,e,h⟩=>⟨a,e,k a _ h (by
 intro z
 rw[z,hq]at h
 cases h)⟩
def bM(H:Hp)(v:V)(its:List Item):Prop:=∃ a vs,v=.ref a∧H a=some (.lst vs)∧bR (cO H) vs its
theorem bM.same{H H':Hp}{v:V}{its:List Item}(s:aH H H'):bM H v its→bM H' v its:=fun ⟨a,vs,e,h,t⟩=>⟨a,vs,e,s _ _ h,t.mono fun _ _=>cO.same s⟩
def iN(H:Hp)(r:Addr)(rows:List (List Item)):Prop:=∃ vs,H r=some (.lst vs)∧bR (bM H) vs rows
theorem iN.same{H H':Hp}{r:Addr}{rows:List (List Item)}(s:aH H H'):iN H r rows→iN H' r rows:=fun ⟨vs,h,t⟩=>⟨vs,s _ _ h,t.mono fun _ _=>bM.same s⟩
def aT(t:List Item)(e:Int):List Item :=
 if e<0 then t++[.win (-1-e)] else
 match t.getLast? with
 | some (.aB a b)=>if b=e then t.dropLast++[.aB a (e+1)] else t++[.aB e (e+1)]
 | _=>t++[.aB e (e+1)]
def itemsOf(es:List Int):List Item:=es.foldl aT []
def dP(its:List Item):List Int:=its.filterMap fun it=>match it with|.win n=>some n|.aB _ _=>none
def jG(es:List Int):List Int:=es.filterMap fun e=>if e<0 then some (-1-e) else none
theorem gA(a b:List Item):dP (a++b)=dP a++dP b:=by unfold dP;rw[List.filterMap_append]
theorem Jm(t:List Item)(e:Int):dP (aT t e)=dP t++(if e<0 then [-1-e] else []):=by
 unfold aT
 by_cases h:e<0
 ·rw[if_pos h,if_pos h,gA];rfl
 ·rw[if_neg h,if_neg h,om]
  rcases tD t with rfl|⟨t',l,rfl⟩
  ·rfl
  ·rw[qA,vo]
   cases l with
   | win n=>simp[gA,dP]
   | aB a b =>
    show dP (if b=e then (t'++[Item.aB a b]).dropLast++[.aB a (e+1)] else (t'++[Item.aB a b])++[.aB e (e+1)])=_
    by_cases hb:b=e
    ·rw[if_pos hb,List.dropLast_concat,gA,gA];rfl
    ·rw[if_neg hb,gA,gA];simp[dP]
theorem Jo(es:List Int):∀ t:List Item,dP (es.foldl aT t)=dP t++jG es:=by
 induction es with
 | nil=>intro t;simp[jG]
 | cons e es ih =>
  intro t
  rw[oS,ih,Jm,pC]
  unfold jG
  rw[List.filterMap_cons]
  by_cases h:e<0
  ·simp[h]
  ·simp[h]
theorem jz(es:List Int):dP (itemsOf es)=jG es:=by
 unfold itemsOf
 rw[Jo]
 rfl
theorem Br{es:List Int}{y:Int}:y∈jG es↔0≤y∧-1-y∈es:=by
 unfold jG
 rw[List.mem_filterMap]
 constructor
 ·rintro⟨e,he,h⟩
  by_cases h0:e<0
  ·rw[if_pos h0]at h
   cases h
   exact⟨by omega,by rw[show -1-(-1-e)=e by omega];exact he⟩
  ·rw[if_neg h0]at h
   cases h
 ·rintro⟨h0,h1⟩
  refine⟨-1-y,h1,?_⟩
  rw[if_pos (by omega)]
  congr 1
  omega
theorem rK(es:List Int):∀ t:List Item,(es.foldl aT t).length≤t.length+es.length:=by
 induction es with
 | nil=>intro t;simp
 | cons e es ih =>
  intro t
  rw[oS]
  have z:=ih (aT t e)
  have z2:(aT t e).length≤t.length+1:=by
   unfold aT
   split
   ·simp
   ·split
    ·split
     ·rw[eZ,List.length_dropLast,ur];omega
     ·simp
    ·simp
  rw[mq]
  omega
def Bs(rows:eY)(x y:Int):Prop:=0≤x∧∃ es,rows[x.toNat]?=some es∧y∈jG es
inductive Reach(E:Int→Int→Prop)(s:Int):Int→Prop
 | one {y:Int}:E s y→Reach E s y
 | step {y z:Int}:Reach E s y→E y z→Reach E s z
theorem Reach.closed{E:Int→Int→Prop}{s:Int}{S:Int→Prop}(h0:∀ y,E s y→S y)(h1:∀ x y,S x→E x y→S y):∀ {g:Int},Reach E s g→S g
 | _,.one h=>h0 _ h
 | _,.step r h=>h1 _ _ (Reach.closed h0 h1 r) h
def Sound(rows:eY):Prop:=∀ es∈rows,∀ y∈jG es,y<rows.length
theorem Sound.QM{rows:eY}(h:Sound rows){x y:Int}(e:Bs rows x y):0≤y∧y<rows.length:=by
 obtain⟨_,es,he,hy⟩:=e
 exact⟨(Br.mp hy).1,h es (rW he) y hy⟩
def Walk(E:Int→Int→Prop)(s:Int)(w:List Int):Prop:=w[0]?=some s∧∀ (i:Nat) (x y:Int),w[i]?=some x→w[i+1]?=some y→E x y
theorem Walk.one(E:Int→Int→Prop)(s:Int):Walk E s [s]:=⟨rfl,fun i x y _ h=>by simp at h⟩
theorem Walk.snoc{E:Int→Int→Prop}{s e y:Int}{w:List Int}(h:Walk E s w)(hl:w.getLast?=some e)(he:E e y):Walk E s (w++[y]):=by
 obtain⟨h0,h1⟩:=h
 have hw:w≠[]:=by intro z;rw[z]at hl;cases hl
 have hpos:0<w.length:=by cases w with|nil=>exact absurd rfl hw|cons _ _=>simp
 refine⟨by rw[yj hpos];exact h0,fun i x z hx hz=>?_⟩
 by_cases c:i+1<w.length
 ·rw[yj c]at hz
  rw[yj (by omega)]at hx
  exact h1 i x z hx hz
 ·have c2:i+1=w.length:=by
   have:i+1<(w++[y]).length:=by
    rcases Nat.lt_or_ge (i+1) (w++[y]).length with q|q
    ·exact q
    ·rw[List.getElem?_eq_none q]at hz;cases hz
   rw[eZ,ur]at this
   omega
  rw[c2,List.getElem?_append_right (fH _),Nat.sub_self]at hz
  rw[yj (by omega)]at hx
  rw[List.getLast?_eq_getElem?]at hl
  have:i=w.length-1:=by omega
  rw[this,hl]at hx
  cases hx
  cases hz
  exact he
theorem Walk.reach{E:Int→Int→Prop}{s:Int}{w:List Int}(h:Walk E s w):∀ (i:Nat) (y:Int),w[i+1]?=some y→Reach E s y:=by
 intro i
 induction i with
 | zero=>intro y hy;exact .one (h.2 0 s y h.1 hy)
 | succ i ih =>
  intro y hy
  have:∃ x,w[i+1]?=some x:=by
   rcases Nat.lt_or_ge (i+1) w.length with q|q
   ·exact⟨w[i+1],oj q⟩
   ·rw[List.getElem?_eq_none (by omega)]at hy;cases hy
  obtain⟨x,hx⟩:=this
  exact .step (ih x hx) (h.2 _ _ _ hx hy)
def cnt(n:Nat)(p:Nat→Bool):Nat:=((List.range n).filter p).length
theorem Lg(n:Nat){p q:Nat→Bool}(h:∀ i,i<n→p i=q i):cnt n p=cnt n q:=by
 unfold cnt
 rw[List.filter_congr fun i hi=>h i (List.mem_range.mp hi)]
theorem EC(n:Nat)(p:Nat→Bool):cnt (n+1) p=cnt n p+(if p n=true then 1 else 0):=by
 unfold cnt
 rw[List.range_succ,List.filter_append,eZ]
 congr 1
 by_cases h:p n=true
 ·rw[if_pos h];simp[h]
 ·rw[if_neg h];simp[h]
theorem ED(j:Nat):∀ (n:Nat) {p q:Nat→Bool},j<n→p j=true→(∀ i,q i=(p i&&decide (i≠j)))→cnt n q+1=cnt n p
 | 0,_,_,h,_,_=>by omega
 | n+1,p,q,h,hj,hq=>by
  rw[EC,EC]
  by_cases e:j=n
  ·subst e
   have z:cnt j q=cnt j p:=Lg j fun i hi=>by
    rw[hq i]
    have:decide (i≠j)=true:=by simp;omega
    rw[this,Bool.and_true]
   have z2:q j=false:=by rw[hq j];simp
   rw[z,z2,if_pos hj]
   simp
  ·have ih:=ED j n (p:=p) (q:=q) (by omega) hj hq
   have z:q n=p n:=by
    rw[hq n]
    have:decide (n≠j)=true:=by simp;omega
    rw[this,Bool.and_true]
   rw[z]
   omega
theorem Lh(n:Nat)(p:Nat→Bool):cnt n p≤n:=by
 unfold cnt
 have:=List.length_filter_le p (List.range n)
 rw[List.length_range]at this
 exact this
def gU(av:Addr→Prop)(H:Hp)(v:V)(es:List Int):Prop:=∃ a,v=.ref a∧¬ av a∧H a=some (.lst (es.map V.int))
theorem gU.keep{av:Addr→Prop}{H H':Hp}{v:V}{es:List Int}(k:∀ a o,¬ av a→H a=some o→H' a=some o):gU av H v es→gU av H' v es:=fun ⟨a,e,n,h⟩=>⟨a,e,n,k a _ n h⟩
def HL(rows:eY):Prop:=∃ rk:Int→Nat,(∀ x,rk x≤40)∧∀ x y,Bs rows x y→rk y<rk x
theorem gU.at{av:Addr→Prop}{H:Hp}{v:V}{es:List Int}{q:Addr}(o:HO)(hq:av q):gU av H v es→gU av (upd H q o) v es:=gU.keep fun a u n e=>by
 rw[aC (fun z=>n (by rw[z];exact hq))]
 exact e
theorem gU.same{av:Addr→Prop}{H H':Hp}{v:V}{es:List Int}(s:aH H H'):gU av H v es→gU av H' v es:=gU.keep fun a u _ e=>s a u e
def seen(kvs:List (Key × V))(x:Int):Prop:=(bU kvs (Sum.inl x)).isSome=true
def miss(n:Nat)(kvs:List (Key × V)):Nat:=cnt n fun i=>(bU kvs (Sum.inl (i:Int))).isNone
theorem qR{kvs:List (Key × V)}{y x:Int}(v:V):seen (putK kvs (Sum.inl y) v) x↔x=y∨seen kvs x:=by
 unfold seen
 rw[lV]
 by_cases h:x=y
 ·rw[if_pos (by rw[h]),h];simp
 ·rw[if_neg (fun z=>h (Sum.inl.inj z))];simp[h]
theorem EE{n:Nat}{kvs:List (Key × V)}{y:Int}(v:V)(h0:0≤y)(h1:y<n)(hn:bU kvs (Sum.inl y)=none):miss n (putK kvs (Sum.inl y) v)+1=miss n kvs:=by
 refine ED y.toNat n (by omega) ?_ fun i=>?_
 ·show (bU kvs (Sum.inl (y.toNat:Int))).isNone=true
  rw[show ((y.toNat:Nat):Int)=y by omega,hn]
  rfl
 ·show (bU (putK kvs (Sum.inl y) v) (Sum.inl (i:Int))).isNone=((bU kvs (Sum.inl (i:Int))).isNone&&decide (i≠y.toNat))
  rw[lV]
  by_cases h:(i:Int)=y
  ·rw[if_pos (by rw[h])]
   have:decide (i≠y.toNat)=false:=by simp;omega
   rw[this,Bool.and_false]
   rfl
  ·rw[if_neg (fun z=>h (Sum.inl.inj z))]
   have:decide (i≠y.toNat)=true:=by simp;omega
   rw[this,Bool.and_true]
theorem HM(lo:Int)(n:Nat):(run lo n).length=n:=by
 induction n generalizing lo with
 | zero=>rfl
 | succ n ih=>rw[run,mq,ih]
theorem Li:∀ {n:Nat} {lo y:Int},y∈run lo n→lo≤y∧y<lo+n
 | 0,_,_,h=>by cases h
 | n+1,lo,y,h=>by
  rcases List.mem_cons.mp h with rfl|z
  ·omega
  ·have:=Li z
   omega
theorem bR.new{H2:Hp}{q t:Addr}{vs:List V}{its:List Item}{it:Item}{ys:List V}(hq2:H2 q=some (.lst ys))(hb:bR (cO H2) vs its)(ht:H2 t=none)(zs:List V) :
  bR (cO (upd (upd H2 t (.tup (Gq it))) q (.lst zs))) (vs++[.ref t]) (its++[it]):=by
 have PF:q≠t:=au hq2 ht
 have s1:aH H2 (upd H2 t (.tup (Gq it))):=aj ht _
 refine bR.snoc (hb.mono fun v i h=>(h.same s1).keep (s1 _ _ hq2) (aI q _ _)) ⟨t,rfl,?_⟩
 rw[aC PF.symm,af]
end iR
namespace Nb
open PySem PySem.Spec PyProof.Rows L2 cR
section
variable {M:Model} {A:Around} {E:Value→Shared→Prop} {s:Shared}
theorem Cm{a b:Value}{Q:Value→Shared→Prop}(ha:s.TypeIs a "list")(hb:s.TypeIs b "list")(hc:wpAny M A (call (.builtin "list.__iadd__") [a,b]) Q E s):wpAny M A (inplaceOp .Add a b) Q E s:=by
 unfold inplaceOp
 refine wpAny_holding ?_
 have hq:isSeqSlot (some (.builtin "list.__iadd__"))=true:=by decide +kernel
 have hfi:fillsInplaceSlot (.type "list") "add" (Operator.Add == .Add)=pure false:=by
  unfold fillsInplaceSlot
  show (typeLookup (.type "list") (dunderI "add") >>= fun fi=>pure (fi.isSome&&!isSeqSlot fi))=pure false
  rw[PySem.F.slot_list_iadd.lookup,pure_bind,hq];rfl
 have hsi:seqSlot? (.type "list") (dunderI "add")=pure (some (.builtin "list.__iadd__")):=PySem.seqSlot_of PySem.F.slot_list_iadd.lookup hq
 refine wpAny_bind (wpAny_typeOf ha (wpAny_bind (wpAny_of_eq hfi ?_)))
 show wpAny M A (if false=true then _ else _) Q E s
 rw[if_neg jX]
 refine wpAny_bind (binaryOp1_none (nm:="add") ha hb PySem.noFill_list_add ?_)
 refine wpAny_bind (wpAny_of_eq hsi ?_)
 exact wpAny_bind (wpAny_rule hc)
end
section
variable {X:Cx}
def Oe:V→V→Hp→VK→Prop:=fun x y H Q=>∃ l b xs zs,x=.ref l∧y=.ref b∧H l=some (.lst xs)∧H b=some (.lst zs)∧xs.length+zs.length≤sizeLine∧Q (.ref l) (upd H l (.lst (xs++zs)))
theorem Cn:Ve X .Add Oe:=by
 intro pins s σ H x y v u Q I rx ry h
 obtain⟨l,b,xs,zs,rfl,rfl,hH,hB,hz,q⟩:=h
 cases rx
 cases ry
 obtain⟨z,its,n,r,hl,e⟩:=I.As hH
 obtain⟨z2,its2,n2,r2,hl2,e2⟩:=I.As hB
 have hsz:its.toArray.size+its2.toArray.size≤sizeLine:=by rw[qy,qy];omega
 have DT:¬ (!its.toArray.isEmpty&&Builtin.List.listTooLong (its.toArray.size+its2.toArray.size))=true:=by
  rw[yG hsz,Bool.and_false]
  exact jX
 refine Cm ⟨_,e,rfl⟩ ⟨_,e2,rfl⟩ ?_
 refine call_meets PySem.F.slot_list_iadd ⟨_,e,rfl⟩ PySem.F.entry_list_iadd (PySem.F.args_list_iadd_2 _ _)
  (AutoSeq1.list___iadd___list_list_0 l its.toArray n b its2.toArray n2 DT (by rw[qy];omega) (by omega)) ⟨e,e2,?_⟩
 refine⟨.ref l,_,I.Ku (its':=its++its2) hH e (by simp) (r.append r2) ?_,rfl,q⟩
 rw[eZ]
 omega
section
variable {N:List Str} {scope:Scope} {cl:List (Str × Addr)} {C:Addr} {s₀:Shared} {H₀:Hp} {ex:List Addr} {pn:List (Addr × Obj)}
theorem Gr:mF (jT X N scope cl C s₀ H₀ ex pn) (.type "list") (Pe X.K):=mQ
end
theorem Gs:RB X .Add Oe:=fun pins s σ H x y u v Q I rx ry h=>Cn pins s σ H x y u v Q I rx ry h
end
end Nb
namespace iR
open PySem PySem.Spec PyProof.Rows L2 cR jj yX
def qS(r:Row):Prop:=∀ p∈r,0≤p.1∧p.1≤p.2
def ly(r:Row):Prop:=∀ p∈r,0≤p.1∧p.1<p.2
theorem Bt{t:Row}{s e:Int}(h:ly t)(h0:0≤s)(h1:s<e):ly (grow t s e):=by
 have add:ly (t++[(s,e)]):=fun p hp=>by
  rcases List.mem_append.mp hp with z|z
  ·exact h p z
  ·rw[List.mem_singleton.mp z];exact⟨h0,h1⟩
 unfold grow
 rcases tD t with rfl|⟨t',l,rfl⟩
 ·exact add
 ·rw[qA]at h add ⊢
  rw[vo]
  show ly (if l.2=s then (t'++[l]).dropLast++[(l.1,e)] else t'++[l]++[(s,e)])
  by_cases c:l.2=s
  ·rw[if_pos c,List.dropLast_concat]
   intro p hp
   rcases List.mem_append.mp hp with z|z
   ·exact h p (List.mem_append_left _ z)
   ·have:=h l (by simp)
    rw[List.mem_singleton.mp z]
    exact⟨this.1,by show l.1<e;omega⟩
  ·rw[if_neg c]
   exact add
theorem Bu{r:Row}(h:qS r):ly (dm r):=by
 have z:∀ (r t:Row),qS r→ly t→ly (r.foldl cY t):=by
  intro r
  induction r with
  | nil=>intro t _ g;exact g
  | cons p r ih =>
   intro t h g
   rw[oS]
   refine ih _ (fun q hq=>h q (rV _ hq)) ?_
   unfold cY
   have hp:=h p (by simp)
   by_cases c:p.1=p.2
   ·rw[if_pos c];exact g
   ·rw[if_neg c];exact Bt g hp.1 (by omega)
 exact z r [] h fun p hp=>by cases hp
theorem Jp{ns:List Int}(h:∀ x∈ns,0≤x):ly (rowOf ns):=by
 have z:∀ (ns:List Int) (t:Row),(∀ x∈ns,0≤x)→ly t→ly (ns.foldl (fun t n=>grow t n (n+1)) t):=by
  intro ns
  induction ns with
  | nil=>intro t _ g;exact g
  | cons n ns ih =>
   intro t h g
   rw[oS]
   exact ih _ (fun x hx=>h x (rV _ hx)) (Bt g (h n (by simp)) (by omega))
 exact z ns [] h fun p hp=>by cases hp
theorem ly.nn{r:Row}(h:ly r):qS r:=fun p hp=>⟨(h p hp).1,by have:=(h p hp).2;omega⟩
theorem Lj(a b:Int):∀ (r:Row) (h:Int),qS r→qS (vh a b h r)
 | [],_,_=>fun p hp=>by cases hp
 | q::r,h,g=>by
  intro p hp
  rw[vh]at hp
  rcases List.mem_append.mp hp with z|z
  ·have gq:=g q (by simp)
   refine⟨?_,K9 a b h q p z⟩
   unfold K6 at z
   split at z
   ·rw[List.mem_singleton.mp z]
    show 0≤q.1+max (a-h) 0
    omega
   ·cases z
  ·exact Lj a b r _ (fun x hx=>g x (rV _ hx)) p z
end iR
namespace Nc
open PySem PySem.Spec PyProof.Rows L2 cR
end Nc
namespace iR
open PySem PySem.Spec PyProof.Rows L2 cR jj yX Nc
end iR
namespace iR
open PySem PySem.Spec PyProof.Rows L2 cR jj yX Nc
def In(r:Row)(x:Int):Prop:=∃ p∈r,p.1≤x∧x<p.2
theorem HN:∀ {n:Nat} {s x:Int},x∈run s n↔s≤x∧x<s+n
 | 0,s,x=>by simp[run]
 | n+1,s,x=>by
  rw[run,List.mem_cons,HN]
  omega
def QN(r:Row):Prop:=r.Pairwise (fun p q=>p.2<q.1)∧∀ p∈r,p.1<p.2
end iR
namespace iR
open PySem PySem.Spec PyProof.Rows L2 cR jj yX Nc
def PX(r:Row)(x:Int):Bool:=r.any fun p=>decide (p.1≤x)&&decide (x<p.2)
theorem Nf{r:Row}{x:Int}:PX r x=true↔In r x:=by
 unfold PX In
 rw[List.any_eq_true]
 constructor
 ·rintro⟨p,hp,h⟩
  rw[Bool.and_eq_true]at h
  exact⟨p,hp,of_decide_eq_true h.1,of_decide_eq_true h.2⟩
 ·rintro⟨p,hp,h1,h2⟩
  exact⟨p,hp,by rw[Bool.and_eq_true];exact⟨decide_eq_true h1,decide_eq_true h2⟩⟩
def Fst(bZ:Row)(x:Int)(n:Nat):Prop:=n≤bZ.length∧(∀ i p,bZ[i]?=some p→i<n→p.2≤x)∧∀ i p,bZ[i]?=some p→n≤i→x<p.2
inductive Co(vs:List V)(H:Hp)(Q:VK)(E:XK):Prop
 | mk (r:Addr) (bZ:Row) (x:Int) (_:vs=[.ref r,.int x]) (_:bP H r bZ) (_:QN bZ) (_: ∀ n:Nat,Fst bZ x n→Q (.int n) H):Co vs H Q E
inductive yY(vs:List V)(H:Hp)(Q:VK)(E:XK):Prop
 | mk (r:Addr) (bZ:Row) (x:Int) (_:vs=[.ref r,.int x]) (_:bP H r bZ) (_:QN bZ) (_:Q (.bl (PX bZ x)) H):yY vs H Q E
end iR
namespace iR
open PySem PySem.Spec PyProof.Rows L2 cR jj yX Nb
structure aN(K:PySem.W.Frag)(C:Addr)(m qual:Str)(st:Stmt)(ps:List Str)(a:Addr)(d:FuncData):Prop where
 F:gX K m qual st a d
 b:Binds K d ps []
 mt:Meth K C m a
structure ClsAt(K:PySem.W.Frag)(mg:Str→Option Value)(x:Str)(C fi:Addr):Prop where
 cl:Aq K C
 m:mg x=some (.ref C)
 QO:Mk K C fi
structure yZ(K:PySem.W.Frag)(mg:Str→Option Value)(x:Str)(C:Addr):Prop where
 m:mg x=some (.ref C)
 x:PySem.W.excIn K C [.type "ValueError",.type "Exception",.type "BaseException",.type "object"] "ValueError.__new__"=true
 h:PySem.W.exmOne K (.ref C) (.ref C)=some true
end iR
namespace iR
open PySem L2 cR jj
section
variable {K:PySem.W.Frag} {mg:Str→Option Value} {h:Heap} {x qual:Str} {st:Stmt} {f C:Addr} {ps:List Str}
theorem DI.d(q:DI K x st f)(X:K.In h)(G:h.Ns mainGlobals mg)(b:∀ (kV doc pm:Value) (an:Option Addr) (cdv ct:Value) (us:List Value),us.length=ps.length→bindArgs (PySem.W.fnOf x x (oB st) (kB st) (ay st) .none kV doc pm an cdv ct) ⟨us,[]⟩=pure (ps.zip us)):∃ fd,aA K mg x st ps f fd:=by
 obtain⟨a,l,c,k⟩:=q
 have F:=Ga l c k
 exact⟨_,F,F.binds b,PySem.W.mg_of X G a⟩
theorem MI.d(q:MI K C x qual st f)(b:∀ (kV doc pm:Value) (an:Option Addr) (cdv ct:Value) (us:List Value),us.length=ps.length→bindArgs (PySem.W.fnOf x qual (oB st) (kB st) (ay st) .none kV doc pm an cdv ct) ⟨us,[]⟩=pure (ps.zip us)):∃ fd,aN K C x qual st ps f fd:=by
 obtain⟨a,i,l,c,k⟩:=q
 have F:=Ga l c k
 exact⟨_,F,F.binds b,⟨a,i,k⟩⟩
theorem CI.d{fi:Addr}(q:CI K x C)(X:K.In h)(G:h.Ns mainGlobals mg)(m:Meth K C "__init__" fi):ClsAt K mg x C fi:=by
 obtain⟨a,pg,hd,po,sa,mk,kc⟩:=q
 obtain⟨a1,i1,k1⟩:=m
 exact⟨⟨pg,hd,po,sa⟩,PySem.W.mg_of X G a,⟨mk,a1,i1,kc⟩⟩
theorem XI.d(q:XI K x C)(X:K.In h)(G:h.Ns mainGlobals mg):yZ K mg x C:=by
 obtain⟨a,b,c⟩:=q
 exact⟨PySem.W.mg_of X G a,b,c⟩
end
section
variable {p:List Value→Prop}
theorem us0(h:p []):∀ us:List Value,us.length=0→p us:=fun us e=>by rw[List.length_eq_zero_iff.mp e];exact h
theorem xC(h:∀ a,p [a]):∀ us:List Value,us.length=1→p us
 | [a],_=>h a
theorem tO(h:∀ a b,p [a,b]):∀ us:List Value,us.length=2→p us
 | [a,b],_=>h a b
theorem JZ(h:∀ a b c,p [a,b,c]):∀ us:List Value,us.length=3→p us
 | [a,b,c],_=>h a b c
theorem Um(h:∀ a b c d,p [a,b,c,d]):∀ us:List Value,us.length=4→p us
 | [a,b,c,d],_=>h a b c d
end
end iR
namespace cR
open PySem PySem.Spec PyProof.Rows L2
theorem tP{α β:Type}{F:α→β→Prop}:∀ {xs:List α} {ys:List β} {i:Nat} {x:α},Paired F xs ys→xs[i]?=some x→∃ y,ys[i]?=some y∧F x y
 | _,_,_,_,.nil,e=>by simp at e
 | _,_,0,_,.cons r _,e=>by simp at e;subst e;exact⟨_,rfl,r⟩
 | _,_,i+1,x,.cons _ t,e=>by
  obtain⟨y,h1,h2⟩:=tP (i:=i) (x:=x) t (by simpa using e)
  exact⟨y,by simpa using h1,h2⟩
theorem wV{α β:Type}{F:α→β→Prop}:∀ {xs:List α} {ys:List β} {i:Nat} {y:β},Paired F xs ys→ys[i]?=some y→∃ x,xs[i]?=some x∧F x y
 | _,_,_,_,.nil,e=>by simp at e
 | _,_,0,_,.cons r _,e=>by simp at e;subst e;exact⟨_,rfl,r⟩
 | _,_,i+1,y,.cons _ t,e=>by
  obtain⟨x,h1,h2⟩:=wV (i:=i) (y:=y) t (by simpa using e)
  exact⟨x,by simpa using h1,h2⟩
section
variable {X:Cx} {N:List Str} {scope:Scope} {cl:List (Str × Addr)} {C:Addr} {s₀:Shared} {H₀:Hp} {ex:List Addr} {pn:List (Addr × Obj)} {e:Expr} {ta:TE} {f:Str} {pos:Pos}
theorem HP(he:PE (jT X N scope cl C s₀ H₀ ex pn) e ta)(hb:attributeBase e f (jT X N scope cl C s₀ H₀ ex pn).env (eval e (jT X N scope cl C s₀ H₀ ex pn).env)=eval e (jT X N scope cl C s₀ H₀ ex pn).env):PE (jT X N scope cl C s₀ H₀ ex pn) (.Attribute e f pos) (RA X.K ta f):=gz he hb
end
end cR
namespace cR
open PySem PySem.Spec PyProof.Rows L2 iR yX
def PY(td ty tx:TE):TE:=fun σ H Q=>td σ H fun x H1=>∃ a,x=.ref a∧IsD H1 a∧ty σ H1 fun y H2=>tx σ H2 fun z H3=>∃ kvs k,H3 a=some (.dK kvs)∧y=kV k∧kvs.length<sizeLine ∧
 (∀ v,bU kvs k=some v→Q v H3)∧(bU kvs k=none→Q z (upd H3 a (.dK (putK kvs k z))))
theorem Lk{X:Cx}{o e f:Expr}{apos cpos:Pos}{td ty tx:TE}(ho:PE X o td)(he:PE X e ty)(hf:PE X f tx)(m:M2 X o "setdefault" apos e f cpos):PE X (.Call (.Attribute o "setdefault" apos) [e,f] [] cpos) (PY td ty tx):=by
 intro pins s σ H Q I h
 refine wpAny_Call_method m.base m.few m.line PySem.F.plainAttrs_dict PySem.F.slot_dict_setdefault PySem.F.type_dict_setdefault (bQ (ho pins s σ H _ I h) fun u s1 ⟨x,H1,I1,rx,a,ex,d,q1⟩=>?_)
 subst ex
 obtain rfl:u=Value.ref a:=rx
 obtain⟨t1,t2,_⟩:=PU I1 d
 refine⟨t1,t2,?_⟩
 rw[m.trees]
 refine Calls.callWith_builtin rfl (Calls.evalArgs_plain (Calls.spliced_cons (bQ (he pins s1 σ H1 _ I1 q1) fun iv s2 ⟨y,H2,I2,ry,q2⟩ =>
  Calls.spliced_cons (bQ (hf pins s2 σ H2 _ I2 q2) fun fv s3 ⟨z,H3,I3,rz,kvs,k,ea,ey,hlen,g1,g2⟩=>Calls.spliced_nil ?_))))
 subst ey
 obtain⟨hz,hd,vs,rel,dd⟩:=Lb I3.hok ea
 have len:=rel.length
 refine call_meetsIn PySem.F.slot_dict_setdefault dd.typeIs PySem.F.entry_dict_setdefault (PySem.F.args_dict_setdefault_3 _ _ _) (kt_meets_setdefault (gf X.prog X.w) a (Bj ry) hd fv) ⟨vs,dd,by omega,fun v hv=>?_,fun hn h' Mf hs=>?_⟩
 ·have r:=rel.val k
  rw[hv]at r
  cases ev:bU kvs k with
  | none=>rw[ev]at r;exact (show False from r).elim
  | some w =>
   rw[ev]at r
   exact⟨w,H3,I3.tok _,r,g1 w ev⟩
 ·have r:=rel.val k
  rw[hn]at r
  cases ev:bU kvs k with
  | some w=>rw[ev]at r;exact (show False from r).elim
  | none =>
   have hl:(putK kvs k z).length≤sizeLine:=by have:=jm kvs k z;omega
   have he':∃ q,h'.get? a=some q:=let ⟨q,_,_,hq,_⟩:=Mf;⟨q,hq⟩
   exact⟨z,_,xW I3 (by rw[ea];exact True.intro) hs he' (Gj hl hd (rel.put k rz) Mf),rz,g2 ev⟩
end cR
namespace cR
open PySem PySem.Spec PyProof.Rows L2
end cR
namespace cR
open PySem PySem.Spec PyProof.Rows L2 iR yX
end cR
namespace jj
open PySem PySem.Spec PyProof.Rows PySem.W L2
end jj
namespace cR
open PySem PySem.Spec PyProof.Rows L2 jj
def vQ(c:Nat):V:=.str ⟨#[c]⟩
def txt(cs:List Nat):Str:=⟨cs.toArray⟩
theorem Ll(x:Str):txt x.cps.toList=x:=by cases x;rfl
theorem dQ(cs:List Nat):(txt cs).length=cs.length:=by show (cs.toArray).size=_;simp
theorem Ng{a b:List Nat}(h:txt a=txt b):a=b:=by
 have e:=congrArg (fun x:Str=>x.cps.toList) h
 simpa [txt] using e
theorem HQ:∀ {cs:List Nat} {us:List Value},Vals (cs.map vQ) us→StrsAre us (cs.map fun c=>(⟨#[c]⟩:Str))
 | [],_,.nil=>.nil
 | c::cs,_,.cons ⟨t,e⟩ r=>by
  subst e
  exact .cons _ t (HQ r)
theorem Gu(cs:List Nat):Txt.join (Str.ofString "") (cs.map fun c=>(⟨#[c]⟩:Str))=txt cs:=by
 have e:Txt.join (Str.ofString "") (cs.map fun c=>(⟨#[c]⟩:Str))=Str.join (Str.ofString "") (cs.map fun c=>(⟨#[c]⟩:Str)):=by
  have z:=join_plain_closes (Str.ofString "") (cs.map fun c=>(⟨#[c]⟩:Str))
  exact beq_iff_eq.mp z
 rw[e]
 have em:(Str.ofString "")=(⟨#[]⟩:Str):=by decide +kernel
 rw[em]
 clear e em
 induction cs with
 | nil=>rfl
 | cons c cs ih =>
  cases cs with
  | nil=>rfl
  | cons d cs =>
   rw[kO]at ih
   have s:Str.join ⟨#[]⟩ ((c::d::cs).map fun c=>(⟨#[c]⟩:Str))=Str.append (Str.append ⟨#[c]⟩ ⟨#[]⟩) (Str.join ⟨#[]⟩ ((⟨#[d]⟩:Str)::cs.map fun c=>(⟨#[c]⟩:Str))):=rfl
   rw[s,ih]
   show (⟨(#[c]++#[])++(d::cs).toArray⟩:Str)=⟨(c::d::cs).toArray⟩
   simp
theorem Bv:∀ cs:List Nat,(cs.map ((fun x:Str=>x.length) ∘ fun c=>(⟨#[c]⟩:Str))).sum=cs.length
 | []=>rfl
 | c::cs=>by rw[kO,List.sum_cons,Bv cs,mq];show 1+_=_;omega
theorem all_range:∀ bs:List Bool,(List.range bs.length).all (fun i=>bs.getD i false)=bs.all id
 | []=>rfl
 | b::bs=>by
  rw[mq,List.range_succ_eq_map,List.all_cons,List.all_map,List.all_cons,← all_range bs]
  rfl
section
variable {X:Cx}
theorem Au(hc:X.calm=true):mF X (.type "list") (fun xs H Q=>∃ cs:List Nat,xs=[.str (txt cs)]∧cs.length≤sizeLine∧∀ l,H l=none→Q (.ref l) (upd H l (.lst (cs.map vQ)))):=by
 intro pins s σ H xs us Q I r h
 obtain⟨cs,rfl,hz,q⟩:=h
 obtain⟨u,rfl,t,rfl⟩:=r.one
 refine call_list_str (I.ok.hd hc) (txt cs) t (hn:=by show cs.toArray.size≤_;simpa using hz) fun h' tk acc' c' hk hS hacc=>?_
 refine⟨.ref s.heap.objs.size,_,I.laid (o:=.lst (cs.map vQ)) (t':=tk) hk (fH _) ⟨by rw[bY];exact hz,acc'.toList,c',?_,by simpa using hS⟩,rfl,q _ (I.hok.fresh (fH _))⟩
 have key:∀ (cs:List Nat) (us:List Value),us.length=cs.length→(∀ (j:Nat) (v:Value),us[j]?=some v→∃ c u,cs[j]?=some c∧v=Value.str ⟨#[c]⟩ u)→Vals (cs.map vQ) us:=by
  intro cs
  induction cs with
  | nil=>intro us hl _;cases us with
   | nil=>exact .nil
   | cons=>simp at hl
  | cons c cs ih=>intro us hl hp;cases us with
   | nil=>simp at hl
   | cons u us =>
    obtain⟨c',t',e1,e2⟩:=hp 0 u rfl
    refine .cons ?_ (ih us (by simpa using hl) fun j v e=>by simpa using hp (j+1) v (by simpa using e))
    have:c=c':=by simpa using e1
    subst this
    exact⟨t',e2⟩
 refine key cs acc'.toList (by have:=hacc.1;simpa [txt] using this) fun j v e=>?_
 obtain⟨c,u,e1,e2⟩:=hacc.2 j v (by simpa using e)
 exact⟨c,u,by simpa [txt] using e1,e2⟩
theorem za:QH X "str.join" (fun x xs H Q=>∃ (l:Addr) (cs:List Nat),x=.str (Str.ofString "")∧xs=[.ref l]∧H l=some (.lst (cs.map vQ))∧cs.length≤1000000∧Q (.str (txt cs)) H):=by
 intro pins s σ H x xs v us Q I rx rs h
 obtain⟨l,cs,rfl,rfl,hl,hz,q⟩:=h
 obtain⟨t,rfl⟩:=rx
 obtain⟨u,rfl,ru⟩:=rs.one
 cases (show u=Value.ref l from ru)
 obtain⟨its,rv,pl,_⟩:=I.list (bG.of (K:=X.K) hl)
 refine join_list pl.isList (HQ rv) ?_ fun t' k=>?_
 ·rw[List.map_map]
  have e1:(Str.ofString "").length=0:=by decide +kernel
  have e2:=Bv cs
  rw[e1,e2]
  omega
 ·rw[Gu]
  exact⟨.str (txt cs),H,I.tok _,⟨t',rfl⟩,q⟩
theorem Jq(hc:X.calm=true):mF X (.builtin "all") (fun xs H Q=>∃ (p:Addr) (bs:List Bool),xs=[.ref p]∧bG X.K H p (bs.map V.bl)∧Q (.bl (bs.all id)) H):=by
 intro pins s σ H xs us Q I r h
 obtain⟨p,bs,rfl,hq,q⟩:=h
 obtain⟨u,rfl,rx⟩:=r.one
 cases (show u=Value.ref p from rx)
 obtain⟨its,rv,pl,hz⟩:=I.list hq
 have len:=rv.length
 rw[bY]at len
 have hpl:=pl.isList
 have plt:p<s.heap.objs.size:=by
  obtain⟨o,ho,_⟩:=hpl
  exact Heap.lt_size ho
 refine call_all_walk (wpAny_pyIter_list hpl ?_)
 refine⟨s.heap.objs.size,[s.heap.objs.size,p],[s.heap.objs.size],its.toArray.size,_,_,fun i=>bs.getD i false,rfl,Walks.list (A:=X.A.in1) (I.ok.hd hc) s.heap.objs.size p (jL plt) its.toArray,⟨⟨_,Heap.get?_push_size _ rfl,rfl,rfl⟩,hpl.at fun o e=>Heap.get?_push_of_some _ e⟩,fun i v s' Q' E' hP hQ=>?_,fun h' tk hk=>?_⟩
 ·have hv:its[i]?=some v:=by simpa using hP
  obtain⟨x,ex,er⟩:=wV rv hv
  rw[qG]at ex
  obtain⟨b,eb,rfl⟩:=Option.map_eq_some_iff.mp ex
  cases (show v=Value.bool b from er)
  refine wpAny_truthy_bool ?_
  have e:bs.getD i false=b:=by rw[List.getD_eq_getElem?_getD,eb];rfl
  have hQ':Q' (bs.getD i false) s':=hQ
  rw[e]at hQ'
  exact hQ'
 ·have e:(List.range its.toArray.size).all (fun i=>bs.getD i false)=bs.all id:=by
   rw[qy,← len]
   exact all_range bs
  rw[e]
  exact⟨.bl (bs.all id),H,I.kept fun b o e=>hk b o (fun z=>by rw[List.mem_singleton.mp z]at e;exact absurd (Heap.lt_size e) (Nat.lt_irrefl _)) (Heap.get?_push_of_some _ e),rfl,q⟩
def Lm(r r' r2:R2)(ta tb tc td:TE):TE:=fun σ H Q=>ta σ H fun x H1=>tb σ H1 fun y H2=>r x y H2 fun z H3=>∃ k,z=.bl k ∧
 (if k=true then tc σ H3 fun u H4=>r' y u H4 fun z' H5=>∃ k',z'=.bl k'∧(if k'=true then td σ H5 fun v H6=>r2 u v H6 Q else Q (.bl false) H5) else Q (.bl false) H3)
theorem Jr{op op' PM:CmpOp}{r r' r2:R2}{a b c d:Expr}{ta tb tc td:TE}{pos:Pos}(ho:uB X (compareOp op) r)(ho':uB X (compareOp op') r')(ho2:uB X (compareOp PM) r2)(ha:PE X a ta)(hb:PE X b tb)(hc:PE X c tc)(hd:PE X d td)
  (hm:lastMarks [op,op',PM] [b,c,d]=false:=by with_unfolding_all rfl):PE X (.Compare a [op,op',PM] [b,c,d] pos) (Lm r r' r2 ta tb tc td):=by
 intro pins s σ H Q I h
 refine Compare_chain (bQ (ha pins s σ H _ I h) fun v s1 ⟨x,H1,I1,r1,q1⟩=>chain_link (bQ (hb pins s1 σ H1 _ I1 q1) fun u s2 ⟨y,H2,I2,r2',q2⟩ =>
  bQ (ho pins s2 σ H2 x y v u _ I2 r1 r2' q2) fun z s3 ⟨z',H3,I3,r3,k,e,q3⟩=>?_)) hm
 subst e
 cases r3
 refine wpAny_truthy_bool ?_
 cases k with
 | false=>exact ite_ff ⟨.bl false,H3,I3,rfl,q3⟩
 | true =>
  refine ite_tt (chain_link (bQ (hc pins s3 σ H3 _ I3 q3) fun v4 s4 ⟨x4,H4,I4,r4,q4⟩=>bQ (ho' pins s4 σ H4 y x4 u v4 _ I4 r2' r4 q4) fun z5 s5 ⟨x5,H5,I5,r5,k5,e5,q5⟩=>?_))
  subst e5
  cases r5
  refine wpAny_truthy_bool ?_
  cases k5 with
  | false=>exact ite_ff ⟨.bl false,H5,I5,rfl,q5⟩
  | true=>exact ite_tt (chain_last (bQ (hd pins s5 σ H5 _ I5 q5) fun v6 s6 ⟨x6,H6,I6,r6,q6⟩=>ho2 pins s6 σ H6 x4 x6 v4 v6 Q I6 r4 r6 q6))
end
def Its(cs:List Nat):It:=⟨fun i _=>i<cs.length,fun i H x H'=>H'=H∧∃ c,cs[i]?=some c∧x=vQ c,fun i _=>i=cs.length⟩
theorem EF{P:Program}{w:World}{K:PySem.W.Frag}{tg:Expr}{it:Addr}{cs:List Nat}{t:Tok}{ty:String}(W:∀ A':Around,A'.handled=none→Walks P w A' it [it] [it] (txt cs).cps.size (SignAt (txt cs)) (fun i h=>h.IsStrIter it ty (txt cs) t i))
  (hs:∀ (A:Around) (i:Nat) (s:Shared) (Q:Value→Shared→Prop) (E:Value→Shared→Prop),s.heap.IsStrIter it ty (txt cs) t i→Q (.ref it) s→wpAny (model P w) A (pyIter (.ref it)) Q E s)
  (hn:["enumerate","zip","dict_itemiterator","dict_reverseitemiterator","odict_iterator","itertools.zip_longest","itertools.pairwise"].contains ty=false):Turn P w K tg (Its cs) [it] it (fun i h=>h.IsStrIter it ty (txt cs) t i) where
 mem:=by simp
 obj:=fun i h st b hb=>by
  have e:b=it:=by simpa using hb
  subst e
  obtain⟨o,e,c,d⟩:=st
  exact⟨o,e,fun v z=>by rw[d]at z;cases z⟩
 keep:=fun i h h' st k=>by
  obtain⟨o,e,r⟩:=st
  exact⟨o,k it (by simp) o e,r⟩
 item:=by
  intro X hP hw hK hc i pins s σ H E I hf st hg
  subst hP hw hK
  obtain⟨f0,f1,f2,f3,f4,f5⟩:=hf it (by simp)
  have hi:i<(txt cs).cps.size:=by
   show i<cs.toArray.size
   rw[qy]
   exact hg
  refine (W X.A (I.ok.hd hc)).item i s _ _ hi st fun v h' tk hv st' kk=>?_
  obtain⟨c,u,ec,rfl⟩:=hv
  have I1:Inv X pins σ H { s with heap:=h',toks:=tk }:=I.turned (fun b o hb e=>kk b o (by simpa using hb) e) f0 f1 f3 f4 f5
  obtain⟨oi,ei,ci,di⟩:=id st'
  exact⟨_,rfl,DQ (s:={ s with heap:=h',toks:=tk }) ei ci di hn ⟨vQ c,H,I1,⟨u,rfl⟩,⟨rfl,c,by simpa [txt] using ec,rfl⟩,st',fun b hb=>(hf b hb).1⟩⟩
 done:=by
  intro X hP hw hK hc i pins s σ H E I hf st hg
  subst hP hw hK
  obtain⟨f0,f1,f2,f3,f4,f5⟩:=hf it (by simp)
  have e:i=(txt cs).cps.size:=by
   show i=cs.toArray.size
   rw[qy]
   exact hg
  rw[e]at st
  exact (W X.A (I.ok.hd hc)).done s _ _ st fun h' tk kk=>⟨rfl,I.turned (fun b o hb e=>kk b o (by simpa using hb) e) f0 f1 f3 f4 f5⟩
 self:=hs
def abU(tl:TE):TI:=fun σ H R=>tl σ H fun x H1=>∃ cs,x=.str (txt cs)∧R (Its cs) H1
theorem PZ{X:Cx}{tg l:Expr}{tl:TE}(hl:PE X l tl):PI X tg l (abU tl):=by
 intro pins s σ H R I h
 refine bQ (hl pins s σ H _ I h) fun v s1 ⟨x,H1,I1,r1,q1⟩=>?_
 obtain⟨cs,e,q⟩:=q1
 subst e
 obtain⟨t,rfl⟩:=r1
 have fp:∀ b∈[s1.heap.objs.size],mw X pins H1 b:=fun b hb=>by
  have e:b=s1.heap.objs.size:=by simpa using hb
  subst e
  exact I1.IF (fH _) (I1.hok.fresh (fH _))
 cases ha:(txt cs).cps.all (·<128) with
 | true=>exact wpAny_pyIter_ascii ha ⟨s1.heap.objs.size,[s1.heap.objs.size],_,_,H1,rfl,I1.kept (t':=s1.toks) fun b o e=>Heap.get?_push_of_some _ e,EF (t:=t) (fun A' hA=>Walks.strAscii hA _ _ t) (fun _ _ _ _ _ st h=>wpAny_pyIter_striter_ascii st h) (by decide),⟨_,Heap.get?_push_size _ rfl,rfl,rfl⟩,fp,q⟩
 | false=>exact wpAny_pyIter_wide ha ⟨s1.heap.objs.size,[s1.heap.objs.size],_,_,H1,rfl,I1.kept (t':=s1.toks) fun b o e=>Heap.get?_push_of_some _ e,EF (t:=t) (fun A' hA=>Walks.strWide hA _ _ t) (fun _ _ _ _ _ st h=>wpAny_pyIter_striter_wide st h) (by decide),⟨_,Heap.get?_push_size _ rfl,rfl,rfl⟩,fp,q⟩
theorem Js{cs:List Nat}{acc:Addr}{g:TG}{tt:TT}{te:TE}{σ0:L2.St}{H:Hp}{Q:VK}(Pv:Nat→L2.St→Hp→Prop)(h0:Pv 0 σ0 H)
  (hs:∀ (i:Nat) c σ H,cs[i]?=some c→Pv i σ H→g (vQ c) σ H fun σ2 H2=>tt σ2 H2 fun b H3=>if b=true then te σ2 H3 fun v H4=>∃ ys,H4 acc=some (.lst ys)∧ys.length<sizeLine∧Pv (i+1) σ2 (upd H4 acc (.lst (ys++[v]))) else Pv (i+1) σ2 H3)
  (hd:∀ σ H,Pv cs.length σ H→Q (.ref acc) H):xX (Its cs) acc g tt te σ0 H Q:=by
 refine⟨fun i m σ H=>m=cs.length-i∧i≤cs.length∧Pv i σ H,⟨cs.length,by simp,mO _,h0⟩,?_⟩
 rintro i m σ H ⟨rfl,hi,p⟩
 by_cases hlt:i<cs.length
 ·refine .inr ⟨hlt,Pv (i+1),fun σ' H' p'=>⟨cs.length-(i+1),by omega,rfl,hlt,p'⟩,fun x H' y=>?_⟩
  obtain⟨e,c,y,ex⟩:=y
  subst e ex
  exact hs i c σ _ y p
 ·have e:i=cs.length:=by omega
  subst e
  exact .inl ⟨rfl,hd σ H p⟩
end cR
namespace cR
open PySem PySem.Spec PyProof.Rows L2 jj iR
section
variable {X:Cx}
theorem xY(a b:List Nat):txt a++txt b=txt (a++b):=by
 show (⟨a.toArray++b.toArray⟩:Str)=⟨(a++b).toArray⟩
 simp
def Sq:R2:=fun x y H Q=>∃ a b:List Nat,x=.str (txt a)∧y=.str (txt b)∧a.length+b.length≤1000000∧Q (.str (txt (a++b))) H
theorem HR:uB X (binaryOp .Add) Sq:=by
 intro pins s σ H x y v u Q I rx ry h
 obtain⟨a,b,rfl,rfl,hz,q⟩:=h
 obtain⟨t,rfl⟩:=rx
 obtain⟨t',rfl⟩:=ry
 refine PyProof.Rows.add_str (fun t2 tk=>?_) (by rw[dQ,dQ];exact jb (aL (by omega)))
 rw[xY]
 exact⟨.str (txt (a++b)),H,I.tok _,⟨t2,rfl⟩,q⟩
end
end cR
namespace tQ
open PySem
end tQ
namespace tQ
open PySem PySem.Spec PyProof.Rows
end tQ
namespace tQ
open PySem PySem.Spec PyProof.Rows
end tQ
namespace tQ
open PySem PySem.Spec PyProof.Rows
end tQ
namespace tQ
open PySem PySem.Spec PyProof.Rows
end tQ
namespace tQ
open PySem PySem.Spec PyProof.Rows
end tQ
namespace tQ
open PySem PySem.Spec PyProof.Rows
end tQ
namespace tQ
open PySem PySem.Spec PyProof.Rows L2
end tQ
namespace gY
open PySem PySem.Spec PyProof.Rows L2 cR PySem.Builtin PySem.Builtin.Str
theorem rL(cs:List Nat):(txt cs).cps.toList=cs:=by simp[txt]
def jn(c:Nat):mh→List Nat
 | []=>[]
 | [x]=>x
 | x::y::r=>x++c::jn c (y::r)
theorem Ln(c:Nat):∀ ps:mh,Str.join ⟨#[c]⟩ (ps.map txt)=txt (jn c ps)
 | []=>rfl
 | [x]=>rfl
 | x::y::r=>by
  show txt x++⟨#[c]⟩++Str.join ⟨#[c]⟩ ((y::r).map txt)=_
  rw[Ln c (y::r)]
  refine ext_toList ?_
  rw[rL]
  show ((txt x).cps++#[c]++(txt (jn c (y::r))).cps).toList=_
  rw[Array.toList_append,Array.toList_append,rL,rL]
  simp[jn]
end gY
namespace gY
open PySem PySem.Spec PyProof.Rows L2 cR PySem.Builtin PySem.Builtin.Str
section
variable {X:Cx}
theorem Bw:∀ {ys:List Str} {us:List Value},Vals (ys.map V.str) us→StrsAre us ys
 | [],_,.nil=>.nil
 | _::_,_,.cons r t=>by
  obtain⟨t',rfl⟩:=r
  exact .cons _ t' (Bw t)
theorem EG:QH X "str.join" (fun x xs H Q=>∃ (l:Addr) (c:Nat) (ps:mh),x=.str ⟨#[c]⟩∧xs=[.ref l]∧H l=some (.lst (ps.map fun w=>V.str (txt w)))∧(ps.map List.length).sum+ps.length≤1000000∧Q (.str (txt (jn c ps))) H):=by
 intro pins s σ H x xs v us Q I rx rs h
 obtain⟨l,c,ps,rfl,rfl,hl,hz,q⟩:=h
 obtain⟨t,rfl⟩:=rx
 obtain⟨u,rfl,ru⟩:=rs.one
 cases (show u=Value.ref l from ru)
 obtain⟨its,rv,pl,_⟩:=I.list (bG.of (K:=X.K) hl)
 have rv':Vals ((ps.map txt).map V.str) its:=by rw[List.map_map];exact rv
 refine join_list pl.isList (Bw rv') ?_ fun t' k=>?_
 ·rw[List.map_map,bY]
  have e1:(⟨#[c]⟩:Str).length=1:=rfl
  have e2:ps.map ((fun x:Str=>x.length) ∘ txt)=ps.map List.length:=List.map_congr_left fun p _=>dQ p
  rw[e1,e2]
  omega
 ·have e:Txt.join ⟨#[c]⟩ (ps.map txt)=txt (jn c ps):=by
   show glued _ _=_
   rw[StrLaws.glued_eq_join,Ln]
  rw[e]
  exact⟨.str (txt (jn c ps)),H,I.tok _,⟨t',rfl⟩,q⟩
abbrev Uo:=L2.St→Hp→Str→(Str→Hp→Prop)→Prop
def QS(X:Cx)(es:List Expr)(m:Nat)(t:Uo):Prop:=∀ (pins:List (Addr × Obj)) (s:Shared) (σ:L2.St) (H:Hp) (out:Str) (Q:Str→Hp→Prop),L2.Inv X pins σ H s→t σ H out Q→out.length+m≤1000000 →
 wpAny (model X.prog X.w) X.A (joinParts out (evalEach es X.env)) (fun u s'=>∃ x tk H',u=.str x tk∧L2.Inv X pins σ H' s'∧Q x H') X.xe s
theorem Nh:QS X [] 0 (fun _ H out Q=>Q out H):=fun pins s σ H out Q I h hl =>
 joinParts_nil ⟨out,_,H,rfl,I.tok _,h⟩ (jb (Nat.lt_of_le_of_lt hl (by decide)))
theorem Ni{x:Str}{j:Nat}{pos:Pos}{es:List Expr}{m:Nat}{t:Uo}(h:QS X es m t):QS X (.Constant (.str x) j pos::es) (x.length+m) (fun σ H out Q=>t σ H (out++x) Q):=by
 intro pins s σ H out Q I q hl
 refine joinParts_consE (joinParts_cons (Calls.Constant_str ?_))
 have z:=jj.xU (y:=x) hl (fH _)
 exact⟨z.1,h pins _ σ H _ Q (I.tok _) q z.2⟩
theorem HS{e:Expr}{te:TE}{pos:Pos}{es:List Expr}{m:Nat}{t:Uo}(he:PE X e te)(h:QS X es m t):QS X (.FormattedValue e (-1) none pos::es) (1921+m) (fun σ H out Q=>te σ H fun v H1=>∃ i:Int,v=.int i∧i.natAbs.log2<1920∧t σ H1 (out++Str.ofString (toString i)) Q):=by
 intro pins s σ H out Q I q hl
 refine joinParts_consE (joinParts_cons (FormattedValue_plain (bQ (he pins s σ H _ I q) fun v s1 ⟨x,H1,I1,r1,i,e1,hi,q1⟩=>?_)))
 subst e1
 obtain⟨tk,rfl⟩:=r1
 refine formatField_int_small hi ?_
 have z:=jj.xU (y:=Str.ofString (toString i)) hl (int_text_len_1921 hi)
 exact⟨z.1,h pins _ σ H1 _ Q (I1.tok _) q1 z.2⟩
theorem Lo{v1 v2:Expr}{rest:List Expr}{pos:Pos}{m:Nat}{t:Uo}(h:QS X (v1::v2::rest) m t)(hm:m≤1000000:=by decide +kernel):PE X (.JoinedStr (v1::v2::rest) pos) (fun σ H Q=>t σ H Str.empty fun x H1=>Q (.str x) H1):=by
 intro pins s σ H Q I q
 refine JoinedStr_many (bQ (h pins s σ H Str.empty _ I q (by show 0+m≤_;omega)) fun u s1 ⟨x,tk,H1,e,I1,q1⟩=>?_)
 subst e
 exact⟨.str x,H1,I1,⟨_,rfl⟩,q1⟩
end
end gY
namespace gY
open PySem PySem.Spec PyProof.Rows L2 cR PySem.Builtin PySem.Builtin.Str
def zb(cs:List Nat)(lo hi:Option Int):List Nat:=(cs.drop (HT.gH cs.length 0 lo)).take (HT.gH cs.length cs.length hi-HT.gH cs.length 0 lo)
theorem EH(lo hi:Option Int)(n:Nat):strSliceIndices lo hi 1 n=(List.range (HT.gH n n hi-HT.gH n 0 lo)).map (HT.gH n 0 lo+·):=by
 obtain⟨h1,h2,h3⟩:=uF lo hi n
 have e:strSliceIndices lo hi 1 n=sliceRange (sliceBounds lo hi none n).1 (sliceBounds lo hi none n).2.1 1:=rfl
 rw[e,h1,h2,sliceRange_one]
theorem Lp{X:Cx}:Ud X (fun x lo hi H Q=>∃ cs:List Nat,x=.str (txt cs)∧cs.length≤1000000∧Q (.str (txt (zb cs lo hi))) H):=by
 intro pins s σ H x v vl vu lo hi sl Q I rx hs pl pu h
 obtain⟨cs,rfl,hz,q⟩:=h
 obtain⟨t,rfl⟩:=rx
 refine⟨"str",_,F.slot_str_getitem.lookup,typeIs_str _ _ _,?_⟩
 obtain⟨l,rfl,el⟩:∃ l:Option (Int × Tok),vl=partValue l∧l.map (·.1)=lo:=by
  cases pl with
  | none=>exact⟨none,rfl,rfl⟩
  | int i t=>exact⟨some (i,t),rfl,rfl⟩
 obtain⟨u,rfl,eu⟩:∃ u:Option (Int × Tok),vu=partValue u∧u.map (·.1)=hi:=by
  cases pu with
  | none=>exact⟨none,rfl,rfl⟩
  | int i t=>exact⟨some (i,t),rfl,rfl⟩
 refine wpAny_getItem_str_slice (l:=l) (u:=u) (st:=none) hs rfl ?_
 have ep:slicePicked (txt cs) l u none=(List.range (HT.gH cs.length cs.length hi-HT.gH cs.length 0 lo)).map (HT.gH cs.length 0 lo+·):=by
  unfold slicePicked
  rw[el,eu,dQ]
  exact EH lo hi cs.length
 have ec:((slicePicked (txt cs) l u none).filterMap ((txt cs).cps[·]?))=zb cs lo hi:=by
  rw[ep]
  unfold zb
  have:∀ i,(txt cs).cps[i]?=cs[i]?:=fun i=>by rw[← Array.getElem?_toList,rL]
  simp only[this]
  have z:=pick_run cs.toArray (HT.gH cs.length 0 lo) (HT.gH cs.length cs.length hi-HT.gH cs.length 0 lo)
  simpa using z
 unfold sliceMade
 split
 ·rename_i hc
  have e2:zb cs lo hi=cs:=by
   rw[ep]at hc
   simp only[bY,List.length_range,Bool.and_eq_true,beq_iff_eq,dQ]at hc
   unfold zb
   have:=hc.2
   have a1:HT.gH cs.length 0 lo=0:=by
    have:HT.gH cs.length cs.length hi≤cs.length:=by
     cases hi with
     | none=>exact fH _
     | some k =>
      simp only[HT.gH]
      split <;> omega
    have:HT.gH cs.length 0 lo≤cs.length:=by
     cases lo with
     | none=>exact mO _
     | some k =>
      simp only[HT.gH]
      split <;> omega
    omega
   rw[a1,List.drop_zero,yk (by omega)]
  rw[e2]at q
  exact⟨.str (txt cs),H,I,⟨t,rfl⟩,q⟩
 ·refine⟨?_,?_⟩
  ·show (((slicePicked (txt cs) l u none).filterMap ((txt cs).cps[·]?)).toArray).size≤sizeLine
   rw[ec,qy]
   unfold zb
   rw[ko,List.length_drop]
   exact mL (show _≤1000000 by omega) (by decide)
  ·rw[ec]
   exact⟨.str (txt (zb cs lo hi)),H,I.tok _,⟨_,rfl⟩,q⟩
end gY
namespace gY
open PySem PySem.Spec PyProof.Rows L2 cR PySem.Builtin PySem.Builtin.Str iR
def dg(n:Int):List Nat:=(Nat.toDigits 10 n.toNat).map Char.toNat
theorem xZ{n:Int}(h:0≤n):Str.ofString (toString n)=txt (dg n):=by
 refine ext_toList ?_
 rw[rL]
 obtain⟨m,rfl⟩:∃ m:Nat,n=(m:Int):=⟨n.toNat,by omega⟩
 exact PySem.W.KIN.signs_num m
theorem Gv{n:Int}(h0:0≤n)(h1:n<10^60):(dg n).length≤60:=by
 have:=toString_length_le h0 (k:=60) (by decide) h1
 rw[xZ h0,dQ]at this
 exact this
end gY
namespace Lq
open PySem PySem.Spec PyProof.Rows PySem.W L2 cR jj
end Lq
namespace Lq
open PySem PySem.Spec PyProof.Rows PySem.W L2 cR jj
end Lq
namespace gY
open PySem PySem.Spec PyProof.Rows L2 cR PySem.Builtin PySem.Builtin.Str iR
end gY
namespace Lq
open PySem PySem.Spec PyProof.Rows PySem.W L2 cR jj
end Lq
namespace EI
open PySem PySem.Spec PyProof.Rows L2 cR jj iR
end EI
namespace EI
open PySem PySem.Spec PyProof.Rows L2 cR jj iR PySem.W PyProof.Rows.KTD
section
variable {X:Cx}
theorem Ss{e:Expr}{te:TE}{pos pos':Pos}(he:PE X e te):PE X (.JoinedStr [.FormattedValue e (-1) none pos] pos') (fun σ H Q=>te σ H fun v H1=>(∃ i:Int,v=.int i∧i.natAbs.log2<1920∧Q (.str (Str.ofString (toString i))) H1)∨∃ cs:List Nat,v=.str (txt cs)∧cs.length≤100000∧Q (.str (txt cs)) H1):=by
 intro pins s σ H Q I q
 refine JoinedStr_one (FormattedValue_plain (bQ (he pins s σ H _ I q) fun v s1 ⟨x,H1,I1,r1,h1⟩=>?_))
 rcases h1 with ⟨i,rfl,hi,q1⟩|⟨cs,rfl,hc,q1⟩
 ·obtain⟨tk,rfl⟩:=r1
  exact formatField_int_small hi ⟨.str _,H1,I1.tok _,⟨_,rfl⟩,q1⟩
 ·obtain⟨tk,rfl⟩:=r1
  exact formatField_str (fun t' k=>⟨.str _,H1,I1.tok _,⟨_,rfl⟩,q1⟩) (by rw[dQ];exact mL hc (by decide))
end
end EI
namespace EI
open PySem PySem.Spec PyProof.Rows L2 cR jj iR gY PySem.Builtin PySem.Builtin.Str
end EI
namespace EI
open PySem PySem.Spec PyProof.Rows L2 cR PySem.Builtin PySem.Builtin.Str iR
end EI
namespace jj
open PySem PySem.Spec PyProof.Rows PySem.W L2
section
variable {X:Cx} {pins:List (Addr × Obj)} {σ:L2.St} {H:Hp} {s:Shared} {a:Addr}
variable {x m:Str} {st:Stmt} {ps:List Str} {f C:Addr} {fd:FuncData} {j k:Nat} {sp:Sp} {e o:Expr} {es:List Expr} {ta:TE} {t:TA} {p apos pos:Pos} {pl:Sem Bool}
variable {te:TEx} {i:Nat} {z:Str} {pos':Pos} {c:Expr} {tc:TT} {tx ty:TSx} {a b:Stmt} {hs:List Hd}
theorem uL{y:Str}(d:iR.aA X.K X.mg x st ps f fd)(hm:X.mg y=some (.ref f))(G:aF X.prog X.w X.K X.mg X.base bN k f fd ps sp)(hr:kq j X.A)
  (ha:PA X (e::es) t) (hjk:k≤j:=by first|decide|omega) (hg:Gl X y:=by rfl) (hdb:(y == ("__debug__":Str))=false:=by decide) (he:starEach (e::es) X.env=(false,eval e X.env)::starEach es X.env:=by rfl)
  (hpl:(backTo pos (starEach es X.env)).any (·.1)=false:=by rfl):PE X (.Call (.Name y p) (e::es) [] pos) (DR sp [] E0 t) :=
 B0 G (hr.mono hjk) hg hm d.F.kp d.b .nil cK ha hdb he hpl
end
end jj
set_option Elab.async false
set_option linter.all false
set_option maxRecDepth 100000
namespace iR
open PySem L2 cR jj yX Nb
structure n9(mg:Str→Option Value):Prop where
 ic:mg "len"=none
 nM:mg "list"=none
 HU:mg "tuple"=none
 Of:mg "int"=none
 Gw:mg "bool"=none
 Og:mg "str"=none
 lH:mg "range"=none
 Su:mg "zip"=none
 cD:mg "isinstance"=none
 Oh:mg "sum"=none
 Lr:mg "min"=none
 Ls:mg "max"=none
 Sv:mg "all"=none
 lI:∀ f,mg "size"=some (.ref f)→mg "size_spans"=some (.ref f)
 zc:∀ f,mg "shown"=some (.ref f)→mg "shown_weave"=some (.ref f)
section
variable {P:Program} {w:World} {K:PySem.W.Frag} {mg:Str→Option Value} {base:Heap}
theorem Gx:aG ["_law_script"] ["_law_script"] (ay rF):=⟨rfl,rfl,rfl,by decide +kernel,rfl,by decide +kernel,by decide +kernel⟩
theorem Gy{f:Addr}{fd:FuncData}(F:gX K "_law_src" "_law_src" rF f fd)(T:n9 mg):aF P w K mg base bN 1 f fd Mt (KO K):=by
 refine F.ok Gx (fun vs H Q E h=>?_) (fun cdv A outer s H vs Q E hr h=>?_)
 ·obtain⟨a,ns,rfl,_⟩:=h
  rfl
 obtain⟨a,ns,rfl,hS,k⟩:=h
 refine⟨_,(ao (aM (bI (aa (iQ mQ rfl T.nM yl (aa (pF B4 (pv 0) rD (rE az)) ah)) (aa az (aa az (aa az ah))))))),?_⟩
 refine⟨_,rfl,_,rfl,a,_,rfl,hS,fun p hp=>?_⟩
 refine⟨p,_,rfl,.inl (bG.of af),fun c hc=>?_⟩
 refine⟨(by show 4≤sizeLine;decide),fun l hl=>?_⟩
 obtain⟨ms,em⟩:=KQ ns none (some 63)
 have FI:c≠l:=au (H:=upd (upd H p _) c _) af hl
 have s1:aH H (upd H p (.lst (rZ (ns.map V.int) none (some 63)))):=aj hp _
 have s2:=s1.trans (aj hc (.lst (rZ (ns.map V.int) none (some 63))))
 refine k l c _ ⟨FI,ms,0,0,1,af,?_,by decide,by decide,by decide⟩ (s2.trans (aj hl _)) (s2.free hl) (s1.free hc)
 rw[aC FI,af,em]
theorem oG:aG ["_law_src_here","_law_base","_law_cell","_law_digit"] ["_law_src_here","_law_base"] (ay iz):=⟨rfl,rfl,rfl,by decide +kernel,rfl,by decide +kernel,by decide +kernel⟩
theorem ki{f:Addr}{fd:FuncData}(F:gX K "_law_next" "_law_next" iz f fd)(T:n9 mg):aF P w K mg base bN 1 f fd vn qO:=by
 refine F.ok oG (fun vs H Q E h=>?_) (fun cdv A outer s H vs Q E hr h=>?_)
 ·obtain⟨l,c,b,rfl,_⟩:=h
  rfl
 obtain⟨l,c,b,rfl,S,hb0,hb1,k⟩:=h
 refine⟨_,(ak (vC (t':=Pq) (cy (cI nu (bu bw (pv 0) az (fun _ _=>rfl)) az (cj _))
   (ak (aQ (i:=2) oG.nd rfl (Or.inl rfl) az)
   (ak (vC (t':=Pr) (cy (cI yx (bu bw (pv 0) az (fun _ _=>rfl)) (aO bq rfl T.ic lN (aa (bu bw (pv 0) az (fun _ _=>rfl)) ah)) (cj _))
   (ak (aQ (i:=2) oG.nd rfl (Or.inl rfl) (bu bw (bu bw (pv 0) az (fun _ _=>rfl)) (bu bw (pv 0) az (fun _ _=>rfl)) (fun _ _=>rfl)))
   (ao (tF (bH iy (bu bw (pv 0) az (fun _ _=>rfl)) az) (tE (pv 0) az set_list))))
   bC) ?b2)
   (ak (tF (bH yv (bH iy (bH iy (bH FY (bu bw (pv 0) az (fun _ _=>rfl)) az) (bH yv (pv 2) az)) az) az) (tE (pv 0) az set_list))
   (ao (cy (cI N5 (pv 2) (bH Ke az az) (cj _))
   (ao (tF (pv 2) (tE (pv 0) az set_list)))
   bC)))))
   bC) ?b1)
   (ak (cy (cI Hg (bu bw (pv 0) az (fun _ _=>rfl)) az (cj _))
   (ak (aQ (i:=3) oG.nd rfl (Or.inl rfl) (bH yv (bu bw (pv 0) az (fun _ _=>rfl)) (pv 1)))
   (ak (tF (bH yJ (bu bw (pv 0) az (fun _ _=>rfl)) (pv 1)) (tE (pv 0) az set_list))
   (ao (aM (pv 3)))))
   bC)
   (ao (aM (bH yv (bH yJ (bH yv (bH FY (bu bw (pv 0) az (fun _ _=>rfl)) az) az) az) (pv 1)))))),?_⟩
 case b2 =>
  rintro D σ H ⟨l,c,b,rfl,⟨FI,ns,i,d,r,hl,hc,hi,hr0,hr1⟩,k⟩
  refine⟨_,rfl,l,_,_,_,rfl,rfl,bG.of hl,Pp,_,rfl,l,_,_,_,rfl,rfl,bG.of hl,RM,c,_,rfl,.inl (bG.of hc),_,_,rfl,rfl,_,rfl,?_⟩
  refine ff (fun c2=>?_) (fun c2=>?_)
  ·have c3:i<(ns.length:Int):=by
    have z:=of_decide_eq_true c2
    rwa [bY]at z
   obtain⟨v,hv⟩:=MS hi c3
   refine⟨_,rfl,l,_,_,_,rfl,rfl,bG.of hl,RM,_,rfl,l,_,_,_,rfl,rfl,bG.of hl,Pp,c,_,_,_,rfl,rfl,bG.of hc,hv,?_⟩
   refine⟨_,rfl,l,_,_,_,rfl,rfl,bG.of hl,Pp,_,_,rfl,rfl,_,rfl,l,_,_,1,rfl,rfl,hl,rfl,?_⟩
   exact k v _ ⟨FI,ns,i+1,d,r,af,by rw[aC FI];exact hc,by omega,hr0,hr1⟩ fun a ha=>aC ha
  ·exact k 7 H ⟨FI,ns,i,d,r,hl,hc,hi,hr0,hr1⟩ fun a _=>rfl
 case b1 =>
  rintro D σ H ⟨l,c,b,rfl,S,k⟩
  obtain⟨FI,ns,i,d,r,hl,hc,hi,hr0,hr1⟩:=id S
  refine⟨_,rfl,l,_,_,_,rfl,rfl,bG.of hl,MR,_,_,rfl,rfl,_,rfl,?_⟩
  refine ff (fun c1=>?_) (fun c1=>?_)
  ·refine⟨l,c,b,rfl,S,fun cell H1 S1 k1=>?_⟩
   obtain⟨_,ns1,i1,d1,r1,hl1,hc1,hi1,hr2,Jt⟩:=id S1
   refine⟨_,rfl,l,_,_,_,rfl,rfl,bG.of hl1,RN,_,_,rfl,rfl,.inl ⟨by omega,by omega⟩,_,rfl,_,_,rfl,rfl,(by show (0:Int)<998244353;decide),_,_,rfl,rfl,_,_,rfl,rfl,_,_,rfl,rfl,(by show (0:Int)<2147483647;decide),_,rfl,l,_,_,3,rfl,rfl,hl1,rfl,?_⟩
   refine⟨_,rfl,_,_,rfl,rfl,⟨by decide,by decide,by decide⟩,_,_,rfl,rfl,_,rfl,?_⟩
   have b0:0≤(r1*48271+cell % 998244353+1) % 2147483647:=Int.emod_nonneg _ (by decide)
   have b1:(r1*48271+cell % 998244353+1) % 2147483647<2147483647:=Int.emod_lt_of_pos _ (by decide)
   refine ff (fun c2=>?_) (fun c2=>?_)
   ·refine⟨_,rfl,_,rfl,l,_,_,2,rfl,rfl,af,rfl,?_⟩
    refine k _ _ ⟨FI,ns1,i1,cell,_,af,?_,hi1,b0,b1⟩ fun a ha=>?_
    ·rw[aC FI,aC FI];exact hc1
    ·rw[aC ha,aC ha];exact k1 a ha
   ·refine k _ _ ⟨FI,ns1,i1,d1,_,af,?_,hi1,b0,b1⟩ fun a ha=>?_
    ·rw[aC FI];exact hc1
    ·rw[aC ha];exact k1 a ha
  ·exact k none H S fun a _=>rfl
 refine⟨l,c,b,rfl,S,fun cell H1 S1 k1=>?_⟩
 obtain⟨FI,ns,i,d,r,hl,hc,hi,hr0,hr1⟩:=S1
 refine⟨_,rfl,l,_,_,_,rfl,rfl,bG.of hl,MR,_,_,rfl,rfl,_,rfl,?_⟩
 refine ff (fun c1=>?_) (fun c1=>?_)
 ·refine⟨_,rfl,l,_,_,_,rfl,rfl,bG.of hl,MR,_,rfl,_,_,rfl,rfl,hb0,?_⟩
  refine⟨_,rfl,l,_,_,_,rfl,rfl,bG.of hl,MR,_,rfl,_,_,rfl,rfl,⟨hb0,hb1⟩,_,rfl,l,_,_,2,rfl,rfl,hl,rfl,?_⟩
  refine⟨_,rfl,?_⟩
  refine k (d % b) _ (Int.emod_nonneg _ (by omega)) (Int.emod_lt_of_pos _ hb0) ⟨FI,ns,i,d / b,r,af,?_,hi,hr0,hr1⟩ fun a ha=>?_
  ·rw[aC FI];exact hc
  ·rw[aC ha];exact k1 a ha
 ·refine⟨_,rfl,l,_,_,_,rfl,rfl,bG.of hl,RN,_,_,rfl,rfl,.inl ⟨by omega,by omega⟩,_,_,rfl,rfl,(by show (0:Int)<2147483399;decide),_,_,rfl,rfl,⟨by decide,by decide⟩,_,rfl,_,_,rfl,rfl,hb0,?_⟩
  exact k _ _ (Int.emod_nonneg _ (by omega)) (Int.emod_lt_of_pos _ hb0) ⟨FI,ns,i,d,r,hl,hc,hi,hr0,hr1⟩ k1
theorem Cp:aG ["_law_found"] ["_law_found"] (ay dU):=⟨rfl,rfl,rfl,by decide +kernel,rfl,by decide +kernel,by decide +kernel⟩
theorem qT:aG ["_law_found","_law_due","_law_one","_law_other"] ["_law_found","_law_due"] (ay iA):=⟨rfl,rfl,rfl,by decide +kernel,rfl,by decide +kernel,by decide +kernel⟩
theorem Cq{f:Addr}{fd:FuncData}(F:gX K "_law_whole" "_law_whole" dU f fd)(T:n9 mg):aF P w K mg base bN 1 f fd BS Ca:=by
 refine F.ok Cp (fun vs H Q E h=>?_) (fun cdv A outer s H vs Q E hr h=>?_)
 ·obtain⟨i,rfl,_⟩:=h
  rfl
 obtain⟨i,rfl,k⟩:=h
 refine⟨_,(ao (aM (oV (aO cS rfl T.cD xx (aa (pv 0) (aa (qp rfl T.Of PyProof.Rows.boot_int) ah))) (pV (OX (aO cS rfl T.cD xx (aa (pv 0) (aa (qp rfl T.Gw PyProof.Rows.boot_bool) ah)))))))),?_⟩
 exact⟨_,rfl,_,_,_,_,rfl,lP.int i,RT K,_,rfl,jI ⟨_,rfl,_,_,_,_,rfl,lP.int i,RS K,_,rfl,k⟩⟩
theorem Av{f fW:Addr}{fd FJ:FuncData}{n:Nat}(T:n9 mg)(bL:aA K mg "_law_whole" dU BS fW FJ)(EJ:aF P w K mg base bN 1 fW FJ BS Ca)
  (bx:aA K mg "_law_same" iA vj f fd) (gB:aF P w K mg base bN (n+1) f fd vj (tM n)):aF P w K mg base bN (n+2) f fd vj (tM (n+1)):=by
 refine bx.F.ok qT (fun vs H Q E h=>?_) (fun cdv A outer s H vs Q E hr h=>?_)
 ·obtain⟨x,y,rfl,_⟩:=h
  rfl
 obtain⟨x,y,rfl,h,k⟩:=h
 refine⟨_,(ak (cy (yq (Ka (pv 1)))
   (ao (aM (OV (Ka (pv 0)))))
   bC)
   (ak (cy (kT (aO cS rfl T.cD xx (aa (pv 1) (aa (qp rfl T.Gw PyProof.Rows.boot_bool) ah))))
   (ao (aM (oV (aO cS rfl T.cD xx (aa (pv 0) (aa (qp rfl T.Gw PyProof.Rows.boot_bool) ah))) (pV (mP mG (pv 0) (pv 1) (cj _))))))
   bC)
   (ak (cy (kT (aO cS rfl T.cD xx (aa (pv 1) (aa (qp rfl T.Of PyProof.Rows.boot_int) ah))))
   (ao (aM (oV (aP bL EJ hr (aa (pv 0) ah)) (pV (mP mG (pv 0) (pv 1) (cj _))))))
   bC)
   (ak (cy (kT (aO cS rfl T.cD xx (aa (pv 1) (aa (qp rfl T.Og PyProof.Rows.boot_str) ah))))
   (ao (aM (oV (aO cS rfl T.cD xx (aa (pv 0) (aa (qp rfl T.Og PyProof.Rows.boot_str) ah))) (pV (mP mG (pv 0) (pv 1) (cj _))))))
   bC)
   (ak (cy (PW.pt (Rk (cI Kg (aO cS rfl T.cD xx (aa (pv 1) (aa (qp rfl T.nM yl) ah))) (aO cS rfl T.cD xx (aa (pv 0) (aa (qp rfl T.nM yl) ah))) (cj _)) (OW (cI Kg (aO cS rfl T.cD xx (aa (pv 1) (aa (qp rfl T.HU PyProof.Rows.boot_tuple) ah))) (aO cS rfl T.cD xx (aa (pv 0) (aa (qp rfl T.HU PyProof.Rows.boot_tuple) ah))) (cj _)))))
   (ao (aM oA))
   bC)
   (ak (cy (cI Kg (aO bq rfl T.ic lN (aa (pv 0) ah)) (aO bq rfl T.ic lN (aa (pv 1) ah)) (cj _))
   (ao (aM oA))
   bC)
   (ak (iV PassesOwn.never rfl (Po rfl T.Su (aa (pv 0) (aa (pv 1) ah))) (qJ (n:=2) rfl (bS (aV (i:=2) qT.nd rfl (Or.inl rfl)) (bS (aV (i:=3) qT.nd rfl (Or.inl rfl)) ku)))
   (ao (cy (kU (kT (aP bx gB hr (aa (pv 2) (aa (pv 3) ah)))))
   (ao (aM oA))
   bC)))
   (ao (aM oA))))))))),?_⟩
 have kk:=k H (aH.refl H)
 rcases h with ⟨hf,rfl⟩|⟨kd,a,b,xs,ys,rfl,rfl,h1,h2,hl,hi⟩
 ·cases x with
  | jE =>
   refine⟨_,rfl,_,rfl,ff (fun _=>?_) (fun c=>absurd (decide_eq_true rfl) c)⟩
   exact⟨_,rfl,tt rfl kk⟩
  | bl v =>
   refine⟨_,rfl,_,rfl,ff (fun c=>absurd (of_decide_eq_true c) (fun z=>nomatch z)) (fun _=>?_)⟩
   refine⟨_,rfl,_,_,_,_,rfl,lP.bl v,RQ K,_,rfl,jI ?_⟩
   exact⟨_,rfl,_,_,_,_,rfl,lP.bl v,RQ K,_,rfl,jI ⟨_,rfl,_,rfl,rfl,tt rfl kk⟩⟩
  | int i =>
   refine⟨_,rfl,_,rfl,ff (fun c=>absurd (of_decide_eq_true c) (fun z=>nomatch z)) (fun _=>?_)⟩
   refine⟨_,rfl,_,_,_,_,rfl,lP.int i,RS K,_,rfl,i7 ?_⟩
   refine⟨_,rfl,_,_,_,_,rfl,lP.int i,RT K,_,rfl,jI ?_⟩
   exact⟨_,rfl,i,rfl,_,rfl,jI ⟨_,rfl,_,rfl,rfl,tt rfl kk⟩⟩
  | str v =>
   refine⟨_,rfl,_,rfl,ff (fun c=>absurd (of_decide_eq_true c) (fun z=>nomatch z)) (fun _=>?_)⟩
   refine⟨_,rfl,_,_,_,_,rfl,lP.str v,aby K,_,rfl,i7 ?_⟩
   refine⟨_,rfl,_,_,_,_,rfl,lP.str v,abz K,_,rfl,i7 ?_⟩
   refine⟨_,rfl,_,_,_,_,rfl,lP.str v,RU K,_,rfl,jI ?_⟩
   exact⟨_,rfl,_,_,_,_,rfl,lP.str v,RU K,_,rfl,jI ⟨_,rfl,_,rfl,rfl,tt rfl kk⟩⟩
  | _=>cases hf
 ·refine⟨_,rfl,_,rfl,ff (fun c=>absurd (of_decide_eq_true c) (fun z=>nomatch z)) (fun _=>?_)⟩
  refine⟨_,rfl,_,_,_,_,rfl,h2.ty,abI K kd,_,rfl,i7 ?_⟩
  refine⟨_,rfl,_,_,_,_,rfl,h2.ty,abJ K kd,_,rfl,i7 ?_⟩
  refine⟨_,rfl,_,_,_,_,rfl,h2.ty,abK K kd,_,rfl,i7 ?_⟩
  refine⟨_,rfl,_,_,_,_,rfl,h2.ty,RW K kd,_,rfl,_,_,_,_,rfl,h1.ty,RW K kd,rfl,_,rfl,Kz rfl ?_⟩
  refine⟨_,rfl,_,_,_,_,rfl,h2.ty,RX K kd,_,rfl,_,_,_,_,rfl,h1.ty,RX K kd,rfl,_,rfl,Kz rfl ?_⟩
  refine⟨_,rfl,a,_,rfl,h1.or,_,rfl,b,_,rfl,h2.or,rfl,_,rfl,Kz (by rw[hl]) ?_⟩
  refine⟨_,rfl,_,rfl,kd,a,b,xs,ys,rfl,h1.sq,h2.sq,MP (fun i σ H2=>∃ u v,σ=[some (.ref a),some (.ref b),u,v]∧aH H H2) hl ⟨none,none,rfl,aH.refl H⟩ (fun i σ H2 _ ⟨_,_,_,s⟩=>⟨(h1.same s).sq,(h2.same s).sq⟩) ?_ ?_⟩
  ·rintro i u v p σ H2 eu ev hp ⟨_,_,rfl,s⟩
   refine⟨p,_,rfl,jK.of af,rfl,u,[v],rfl,v,[],rfl,rfl,?_⟩
   have s2:=s.trans (aj hp (.tup [u,v]))
   refine⟨_,rfl,_,rfl,u,v,rfl,Eqv.same s2 (hi i u v eu ev),fun H4 s4=>⟨_,rfl,i7 ?_⟩⟩
   exact⟨_,_,rfl,s2.trans s4⟩
  ·rintro σ H2 ⟨_,_,rfl,s⟩
   exact k H2 s
theorem oH{f fW:Addr}{fd FJ:FuncData}(T:n9 mg)(bL:aA K mg "_law_whole" dU BS fW FJ)(bx:aA K mg "_law_same" iA vj f fd):∀ n:Nat,aF P w K mg base bN (n+1) f fd vj (tM n)
 | 0=>by
  have no:∀ vs H Q E,¬ tM 0 vs H Q E:=fun vs H Q E h=>by
   obtain⟨x,y,_,h,_⟩:=h
   exact h
  exact⟨fun vs H Q E h=>absurd h (no vs H Q E),fun A outer s H args us vs Q E _ _ _ _ h=>absurd h (no vs H Q E)⟩
 | n+1=>Av T bL (Cq bL.F T) bx (oH T bL bx n)
theorem ya:aG ["row","told","start","stop"] ["row"] (ay ny):=⟨rfl,rfl,rfl,by decide +kernel,rfl,by decide +kernel,by decide +kernel⟩
theorem EK{f:Addr}{fd:FuncData}(F:gX K "plain" "plain" ny f fd):aF P w K mg base bN 1 f fd iu xT:=by
 refine F.ok ya (fun vs H Q E h=>?_) (fun cdv A outer s H vs Q E hr h=>?_)
 ·obtain⟨r,row,rfl,_⟩:=h
  rfl
 obtain⟨r,row,rfl,⟨as,hr1,hp⟩,hlen,k⟩:=h
 refine⟨_,(ak (aQ (i:=1) ya.nd rfl (Or.inl rfl) (bI ah))
   (ak (iV PassesOwn.never rfl (cH (pv 0)) (qJ (n:=2) rfl (bS (aV (i:=2) ya.nd rfl (Or.inl rfl)) (bS (aV (i:=3) ya.nd rfl (Or.inl rfl)) ku)))
   (ak (cy (cI mG (pv 2) (pv 3) (cj _))
   (ao DP)
   bC)
   (ao (cy (PW.pt (Kc (nv (pv 1) (fun _=>rfl)) (G7 (cI mG (bu dN (bu bw (pv 1) (sD oW az) (fun _ _=>rfl)) az (fun _ _=>rfl)) (pv 2) (cj _)))))
   (ao (tF (jH (aa (bu dN (bu bw (pv 1) (sD oW az) (fun _ _=>rfl)) az (fun _ _=>rfl)) (aa (pv 3) ah))) (tE (pv 1) (sD oW az) set_list)))
   (ao (bO (jF qz uu uv cF (pv 1) (aa (jH (aa (pv 2) (aa (pv 3) ah))) ah))))))))
   (ao (aM (pv 1))))),?_⟩
 refine⟨(by show 0≤sizeLine;decide),fun q hq=>?_⟩
 have s0:aH H (upd H q (.lst [])):=aj hq _
 refine⟨_,rfl,r,rfl,⟨_,bG.of (s0 _ _ hr1)⟩,jM (K:=K) (a:=r) (xs:=as.map V.ref) (fun i σ H2=>∃ (bs:List Addr) (u v:Option V),σ=[some (.ref r),some (.ref q),u,v]∧H2 q=some (.lst (bs.map V.ref))∧aX H2 bs ((row.take i).foldl cY [])∧aH H H2)
  ⟨[],none,none,rfl,af,.nil,s0⟩ (fun i σ H2 _ ⟨_,_,_,_,_,_,s⟩=>bG.of (s _ _ hr1)) ?_ ?_⟩
 ·rintro i x σ H2 hi ⟨bs,u,v,rfl,hq2,hb,s⟩
  rw[qG]at hi
  obtain⟨a,ea,rfl⟩:=Option.map_eq_some_iff.mp hi
  obtain⟨⟨st,en⟩,ep,ha⟩:=hp.get ea
  have step:=Je (f:=cY) ep
  have bl:bs.length<sizeLine:=by
   have z:=hb.len
   have z2:=El (row.take i) []
   rw[ko]at z2
   exact aL (by simp only[oq]at z2;omega)
  refine⟨a,_,rfl,jK.of (s _ _ ha),rfl,_,_,rfl,_,_,rfl,rfl,?_⟩
  refine⟨_,rfl,_,rfl,rfl,_,rfl,ff (fun c=>?_) (fun c=>?_)⟩
  ·have e:st=en:=V.int.inj (of_decide_eq_true c)
   refine⟨bs,_,_,rfl,hq2,?_,s⟩
   rw[step,cY,if_pos e]
   exact hb
  ·have e:¬ st=en:=fun z=>c (decide_eq_true (congrArg V.int z))
   rw[cY,if_neg e]at step
   rcases tD ((row.take i).foldl cY []) with hn|⟨rw0,q0,hn⟩
   ·rw[hn]at hb step
    have hbs:bs=[]:=List.eq_nil_of_length_eq_zero hb.len
    subst hbs
    refine⟨_,rfl,false,.inl ⟨_,bG.of hq2,rfl⟩,i7 (i7 ?_)⟩
    refine⟨_,rfl,.inl ⟨rfl,_,bG.of hq2⟩,_,rfl,_,rfl,(by show 2≤sizeLine;decide),fun t ht=>⟨q,_,_,rfl,rfl,aj ht _ _ _ hq2,(by show 0<sizeLine;decide),?_⟩⟩
    obtain⟨g1,g2,g3⟩:=grown (st:=st) (en:=en) hq s hq2 hb ht
    refine⟨[]++[t],_,_,rfl,g1,?_,g3⟩
    rw[step,pH]
    exact g2
   ·rw[qA]at hn
    rw[hn]at hb step
    obtain⟨cs,a0,rfl,hc,ha0⟩:=hb.split
    have QT:H2 q=some (.lst (cs.map V.ref++[.ref a0])):=by rw[hq2,lK];rfl
    refine⟨_,rfl,true,.inl ⟨_,bG.of QT,by simp⟩,jI ?_⟩
    refine⟨_,rfl,_,rfl,q,_,_,_,rfl,rfl,bG.of QT,lU _ _,a0,_,_,_,rfl,rfl,jK.of ha0,RP,_,rfl,rfl,_,rfl,ff (fun c2=>?_) (fun c2=>?_)⟩
    ·have e2:q0.2=st:=V.int.inj (of_decide_eq_true c2)
     refine⟨_,rfl,_,rfl,q,_,_,_,rfl,rfl,bG.of QT,lU _ _,a0,_,_,_,rfl,rfl,jK.of ha0,RO,_,rfl,(by show 2≤sizeLine;decide),fun t ht=>?_⟩
     refine⟨_,rfl,_,rfl,q,_,_,cs.length,rfl,rfl,aj ht _ _ _ QT,PK cs a0,?_⟩
     obtain⟨g1,g2,g3⟩:=turned (st:=q0.1) (en:=en) hq s QT hc ht
     refine⟨cs++[t],_,_,rfl,g1,?_,g3⟩
     rw[step,pI _ e2]
     exact g2
    ·have e2:¬ q0.2=st:=fun z=>c2 (decide_eq_true (congrArg V.int z))
     refine⟨_,rfl,.inl ⟨rfl,_,bG.of hq2⟩,_,rfl,_,rfl,(by show 2≤sizeLine;decide),fun t ht=>⟨q,_,_,rfl,rfl,aj ht _ _ _ hq2,(by rw[bY];exact bl),?_⟩⟩
     obtain⟨g1,g2,g3⟩:=grown (st:=st) (en:=en) hq s hq2 hb ht
     refine⟨cs++[a0]++[t],_,_,rfl,g1,?_,g3⟩
     rw[step,pJ _ e2]
     exact g2
 ·rintro σ H2 ⟨bs,u,v,rfl,hq2,hb,s⟩
  refine⟨_,rfl,k q H2 ⟨bs,hq2,?_⟩ s hq⟩
  rw[bY,hp.len,kr]at hb
  exact hb
theorem P0:aG ["row"] ["row"] (ay ssize):=⟨rfl,rfl,rfl,by decide +kernel,rfl,by decide +kernel,by decide +kernel⟩
theorem Cr{f:Addr}{fd:FuncData}(F:gX K "size" "size" ssize f fd)(T:n9 mg):aF P w K mg base bN 1 f fd iu yQ:=by
 refine F.ok P0 (fun vs H Q E h=>?_) (fun cdv A outer s H vs Q E hr h=>?_)
 ·obtain⟨n,ns,rfl,_⟩:=h
  rfl
 obtain⟨r,row,rfl,⟨as,hr1,hp⟩,hlen,k⟩:=h
 refine⟨_,(ao (aM (aO (Eb rfl) rfl T.Oh PyProof.Rows.boot_sum (aa (Cc (N:=["start","stop"]) ⟨rfl,by decide +kernel,by decide +kernel,by decide +kernel⟩ rfl (cH (pv 0)) (fun _ _ _ _ _=>(Ce (n:=2) rfl (bS (aV (i:=0) (show List.Nodup (["start","stop"]:List Str) by decide +kernel) rfl (Or.inl rfl)) (bS (aV (i:=1) (show List.Nodup (["start","stop"]:List Str) by decide +kernel) rfl (Or.inl rfl)) ku)))) (fun _ _ _ _ _=>iG) (fun _ _ _ _ _=>(bH kX (pv 1) (pv 0)))) ah)))),?_⟩
 refine⟨_,rfl,r,rfl,⟨_,bG.of hr1⟩,fun acc hacc=>vF (K:=K) (a:=r) (xs:=as.map V.ref) (fun i σ H2=>∃ u v:Option V,σ=[u,v]∧H2 acc=some (.lst (((row.take i).map fun p=>p.2-p.1).map V.int))∧aH H H2)
  ⟨none,none,rfl,af,aj hacc _⟩ (fun i σ H2 _ ⟨_,_,_,_,s⟩=>bG.of (s _ _ hr1)) ?_ ?_⟩
 ·rintro i x σ H2 hi ⟨u,v,rfl,ha,s⟩
  rw[qG]at hi
  obtain⟨a,ea,rfl⟩:=Option.map_eq_some_iff.mp hi
  obtain⟨⟨st,en⟩,ep,hpa⟩:=hp.get ea
  refine⟨a,_,rfl,jK.of (s _ _ hpa),rfl,_,_,rfl,_,_,rfl,rfl,yes (jI ?_)⟩
  refine⟨_,rfl,_,rfl,_,_,rfl,rfl,_,ha,?_,_,_,rfl,?_,bV hacc s (aI acc _ _)⟩
  ·rw[bY,bY,ko]
   exact aL (by omega)
  ·rw[af,take_snoc ep,lK,lK]
   rfl
 ·rintro σ H2 ⟨u,v,rfl,ha,s⟩
  rw[bY,hp.len,kr]at ha
  exact⟨acc,_,rfl,bG.of ha,k H2 s⟩
theorem zd:aG ["row","start","stop"] ["row","start","stop"] (ay iS):=⟨rfl,rfl,rfl,by decide +kernel,rfl,by decide +kernel,by decide +kernel⟩
theorem qq{f fS C:Addr}{fd Oi:FuncData}(F:gX K "check_places" "check_places" iS f fd)(T:n9 mg)(Z:ExcAt K mg C)(jP:aA K mg "size" ssize iu fS Oi):aF P w K mg base (qC P w) 2 f fd xu (xV C):=by
 have Bx:aF P w K mg base bN 1 fS Oi iu yQ:=Cr jP.F T
 refine HG F zd (fun vs H Q E h=>?_) (fun cdv A outer s H vs Q E hr h=>?_)
 ·obtain⟨r,row,a,b,rfl,_⟩:=h
  rfl
 obtain⟨r,row,a,b,rfl,R,hl,fa,fb,ft,k1,k2⟩:=h
 refine⟨_,(ao (cy (kU (Jf nu nu nu az (pv 1) (pv 2) (jj.uL jP (T.lI _ jP.m) Bx hr (aa (pv 0) ah))))
   (ao (vC (t':=fun _ σ H'=>σ=[some (.ref r),some (.int a),some (.int b)]∧aH H H'∧¬ Si a b (tot row)) (pN PySem.F.excBase_ValueError Z.x Z.m rfl vG (aa (rJ (mz (nI (pv 1) (mz (nI (pv 2) (mz (nI (jj.uL jP (T.lI _ jP.m) Bx hr (aa (pv 0) ah)) vH))))))) ah)) ?b1))
   bC)),?_⟩
 case b1 =>
  rintro D σ H' ⟨rfl,s1,hn⟩
  refine⟨_,rfl,a,rfl,fa.log,_,rfl,b,rfl,fb.log,_,rfl,r,row,rfl,R.same s1,hl,fun H2 s2=>⟨_,rfl,ft.log,fun x=>⟨(by show 1≤sizeLine;decide),k2 hn H2 (s1.trans s2)⟩⟩⟩
 refine⟨_,rfl,_,_,rfl,rfl,_,rfl,ff (fun c1=>?_) (fun c1=>jI ⟨rfl,aH.refl H,fun z=>c1 (decide_eq_true z.1)⟩)⟩
 refine⟨_,rfl,_,_,rfl,rfl,_,rfl,ff (fun c2=>?_) (fun c2=>jI ⟨rfl,aH.refl H,fun z=>c2 (decide_eq_true z.2.1)⟩)⟩
 refine⟨_,rfl,r,row,rfl,R,hl,fun H1 s1=>⟨_,_,rfl,rfl,_,rfl,ff (fun c3=>?_) (fun c3=>?_)⟩⟩
 ·refine⟨rfl,s1,fun z=>?_⟩
  rw[decide_eq_true z.2.2]at c3
  cases c3
 ·refine k1 ⟨of_decide_eq_true c1,of_decide_eq_true c2,?_⟩ H1 s1
  by_cases z:b≤tot row
  ·exact z
  ·rw[decide_eq_false z]at c3
   exact absurd rfl c3
theorem lX:aG ["row","start","stop","told","ahead","first","last","low","high"] ["row","start","stop"] (ay pX):=⟨rfl,rfl,rfl,by decide +kernel,rfl,by decide +kernel,by decide +kernel⟩
theorem Ju{f:Addr}{fd:FuncData}(F:gX K "pieces" "pieces" pX f fd)(T:n9 mg):aF P w K mg base bN 1 f fd xu yS:=by
 refine F.ok lX (fun vs H Q E h=>?_) (fun cdv A outer s H vs Q E hr h=>?_)
 ·obtain⟨r,row,a,b,rfl,_⟩:=h
  rfl
 obtain⟨r,row,a,b,rfl,⟨as,hr1,hp⟩,hlen,k⟩:=h
 refine⟨_,(ak (aQ (i:=3) lX.nd rfl (Or.inl rfl) (bI ah))
   (ak (aQ (i:=4) lX.nd rfl (Or.inl rfl) az)
   (ak (iV PassesOwn.never rfl (cH (pv 0)) (qJ (n:=2) rfl (bS (aV (i:=5) lX.nd rfl (Or.inl rfl)) (bS (aV (i:=6) lX.nd rfl (Or.inl rfl)) ku)))
   (ak (aQ (i:=7) lX.nd rfl (Or.inl rfl) (aO (vq rfl) rfl T.Ls PyProof.Rows.boot_max (aa (bH kX (pv 1) (pv 4)) (aa az ah))))
   (ak (aQ (i:=8) lX.nd rfl (Or.inl rfl) (aO (vt rfl) rfl T.Lr PyProof.Rows.boot_min (aa (bH kX (pv 2) (pv 4)) (aa (bH kX (pv 6) (pv 5)) ah))))
   (ak (cy (cI yx (pv 7) (pv 8) (cj _))
   (ao (bO (jF qz uu uv cF (pv 3) (aa (jH (aa (bH iy (pv 5) (pv 7)) (aa (bH iy (pv 5) (pv 8)) ah))) ah))))
   bC)
   (ao (BX (i:=4) lX.nd rfl (Or.inl rfl) (bH kX (pv 6) (pv 5)) O0))))))
   (ao (aM (pv 3)))))),?_⟩
 refine⟨(by show 0≤sizeLine;decide),fun q hq=>?_⟩
 have s0:aH H (upd H q (.lst [])):=aj hq _
 refine⟨_,rfl,r,rfl,⟨_,bG.of (s0 _ _ hr1)⟩,jM (K:=K) (a:=r) (xs:=as.map V.ref) (fun i σ H2=>∃ (bs:List Addr) (t:Int) (u v x y:Option V),σ=[some (.ref r),some (.int a),some (.int b),some (.ref q),some (.int t),u,v,x,y]∧t=tot (row.take i)∧H2 q=some (.lst (bs.map V.ref))∧aX H2 bs (vh a b 0 (row.take i))∧aH H H2)
  ⟨[],0,none,none,none,none,rfl,rfl,af,.nil,s0⟩ (fun i σ H2 _ ⟨_,_,_,_,_,_,_,_,_,_,s⟩=>bG.of (s _ _ hr1)) ?_ ?_⟩
 ·rintro i x σ H2 hi ⟨bs,t,u,v,x1,y1,rfl,et,hq2,hb,s⟩
  rw[qG]at hi
  obtain⟨ad,ea,rfl⟩:=Option.map_eq_some_iff.mp hi
  obtain⟨⟨st,en⟩,ep,ha⟩:=hp.get ea
  have step:=Eo a b (st,en) (row.take i) 0
  rw[← take_snoc ep,Int.zero_add,← et]at step
  have et2:t+(en-st)=tot (row.take (i+1)):=by rw[take_snoc ep,KN,et]
  have bl:bs.length<sizeLine:=by
   have z:=hb.len
   have z2:=yR a b (row.take i) 0
   rw[ko]at z2
   exact aL (by omega)
  have e1:(if (0:Int) > a-t then (0:Int) else a-t)=max (a-t) 0:=by split <;> omega
  have e2:(if en-st<b-t then en-st else b-t)=min (b-t) (en-st):=by split <;> omega
  refine⟨ad,_,rfl,jK.of (s _ _ ha),rfl,_,_,rfl,_,_,rfl,rfl,?_⟩
  refine⟨_,rfl,_,rfl,_,_,rfl,rfl,_,_,rfl,?_⟩
  refine⟨_,rfl,_,rfl,_,_,rfl,rfl,_,rfl,_,rfl,_,_,rfl,rfl,_,_,rfl,?_⟩
  rw[e1,e2]
  refine⟨_,rfl,_,rfl,_,_,rfl,rfl,_,rfl,ff (fun c=>?_) (fun c=>?_)⟩
  ·have c':max (a-t) 0<min (b-t) (en-st):=of_decide_eq_true c
   unfold K6 at step
   rw[if_pos c']at step
   refine⟨_,rfl,.inl ⟨rfl,_,bG.of hq2⟩,_,rfl,_,rfl,_,_,rfl,rfl,_,rfl,_,rfl,_,_,rfl,rfl,(by show 2≤sizeLine;decide),fun tu htu=>⟨q,_,_,rfl,rfl,aj htu _ _ _ hq2,(by rw[bY];exact bl),?_⟩⟩
   obtain⟨g1,g2,g3⟩:=grown (st:=st+max (a-t) 0) (en:=st+min (b-t) (en-st)) hq s hq2 hb htu
   refine⟨_,rfl,_,rfl,_,rfl,_,_,rfl,rfl,_,_,rfl,rfl,?_⟩
   refine⟨bs++[tu],_,_,_,_,_,rfl,et2,g1,?_,g3⟩
   rw[step]
   exact g2
  ·have c':¬ max (a-t) 0<min (b-t) (en-st):=fun z=>c (decide_eq_true z)
   unfold K6 at step
   rw[if_neg c',om]at step
   refine⟨_,rfl,_,rfl,_,rfl,_,_,rfl,rfl,_,_,rfl,rfl,?_⟩
   refine⟨bs,_,_,_,_,_,rfl,et2,hq2,?_,s⟩
   rw[step]
   exact hb
 ·rintro σ H2 ⟨bs,t,u,v,x1,y1,rfl,et,hq2,hb,s⟩
  rw[bY,hp.len,kr]at hb
  exact⟨_,rfl,k q H2 ⟨bs,hq2,hb⟩ s hq⟩
theorem EL:aG ["row"] ["row"] (ay nA):=⟨rfl,rfl,rfl,by decide +kernel,rfl,by decide +kernel,by decide +kernel⟩
theorem Cs{f:Addr}{fd:FuncData}(F:gX K "addresses" "addresses" nA f fd)(T:n9 mg):aF P w K mg base bN 1 f fd iu Cf:=by
 refine F.ok EL (fun vs H Q E h=>?_) (fun cdv A outer s H vs Q E hr h=>?_)
 ·obtain⟨n,ns,rfl,_⟩:=h
  rfl
 obtain⟨r,row,rfl,⟨as,hr1,hp⟩,hok,hlen,k⟩:=h
 refine⟨_,(ao (aM (K0 (N:=["start","stop","address"]) ⟨rfl,by decide +kernel,by decide +kernel,by decide +kernel⟩ rfl (cH (pv 0)) (fun _ _ _ _ _=>(Ce (n:=2) rfl (bS (aV (i:=0) (show List.Nodup (["start","stop","address"]:List Str) by decide +kernel) rfl (Or.inl rfl)) (bS (aV (i:=1) (show List.Nodup (["start","stop","address"]:List Str) by decide +kernel) rfl (Or.inl rfl)) ku)))) (fun _ _ _ _ _=>iG) (fun _ _ _ _ _=>(Jd rfl T.lH (aa (pv 0) (aa (pv 1) ah)))) (fun _ _ _ _ _=>(aV (i:=2) (show List.Nodup (["start","stop","address"]:List Str) by decide +kernel) rfl (Or.inl rfl))) (fun _ _ _ _ _=>iG) (fun _ _ _ _ _=>(pv 2))))),?_⟩
 refine⟨_,rfl,r,rfl,⟨_,bG.of hr1⟩,fun acc hacc=>Gh (K:=K) (a:=r) (xs:=as.map V.ref) (fun i σ H2=>∃ u v z:Option V,σ=[u,v,z]∧H2 acc=some (.lst ((aS (row.take i)).map V.int))∧aH H H2)
  ⟨none,none,none,rfl,af,aj hacc _⟩ (fun i σ H2 _ ⟨_,_,_,_,_,s⟩=>bG.of (s _ _ hr1)) ?_ ?_⟩
 ·rintro i x σ H2 hi ⟨u,v,z,rfl,ha,s⟩
  rw[qG]at hi
  obtain⟨a,ea,rfl⟩:=Option.map_eq_some_iff.mp hi
  obtain⟨⟨st,en⟩,ep,hpa⟩:=hp.get ea
  have b2:st≤en:=hok _ (rW ep)
  have step:=yP ep
  have lz:(aS (row.take i)).length+(en-st).toNat≤1000000:=by
   have z:=sR row (i+1)
   rw[step,eZ,span,iF]at z
   exact mL z hlen
  refine⟨a,_,rfl,jK.of (s _ _ hpa),rfl,_,_,rfl,_,_,rfl,rfl,yes (jI ?_)⟩
  refine⟨_,rfl,_,rfl,st,en,rfl,Ek (lo:=st) (k:=(en-st).toNat) (fun j σ H3=>∃ z:Option V,σ=[some (.int st),some (.int en),z]∧H3 acc=some (.lst ((aS (row.take i)++run st j).map V.int))∧aH H H3) ⟨z,rfl,?_,s⟩ ?_ ?_⟩
  ·rw[run,om];exact ha
  ·rintro j σ H3 hj ⟨z,rfl,h3,s3⟩
   refine PD ?_
   refine jI ?_
   refine⟨_,rfl,_,h3,?_,_,rfl,?_,bV hacc s3 (aI acc _ _)⟩
   ·rw[bY,eZ,iF]
    exact aL (by omega)
   ·rw[af,uI,← pC]
    simp
  ·rintro σ H3 ⟨z,rfl,h3,s3⟩
   refine⟨_,_,_,rfl,?_,s3⟩
   rw[step]
   exact h3
 ·rintro σ H2 ⟨u,v,z,rfl,ha,s⟩
  rw[bY,hp.len,kr]at ha
  exact k acc H2 ha s hacc
theorem eG:aG ["holes","start","low","high","middle"] ["holes","start"] (ay dF):=⟨rfl,rfl,rfl,by decide +kernel,rfl,by decide +kernel,by decide +kernel⟩
theorem EM{bZ:Row}(h:QN bZ){i j:Nat}{p q:Int × Int}(hp:bZ[i]?=some p)(hq:bZ[j]?=some q)(ij:i≤j):p.2≤q.2:=by
 by_cases c:i=j
 ·subst c
  rw[hp]at hq
  cases hq
  exact Int.le_refl _
 ·obtain⟨hi,ei⟩:=List.getElem?_eq_some_iff.mp hp
  obtain⟨hj,ej⟩:=List.getElem?_eq_some_iff.mp hq
  have:=List.pairwise_iff_getElem.mp h.1 i j hi hj (by omega)
  rw[ei,ej]at this
  have:=h.2 q (rW hq)
  omega
theorem uM{f:Addr}{fd:FuncData}(F:gX K "first_reaching" "first_reaching" dF f fd)(T:n9 mg):aF P w K mg base bN 1 f fd Ir Co:=by
 refine F.ok eG (fun vs H Q E h=>?_) (fun cdv A outer s H vs Q E hr h=>?_)
 ·obtain⟨r,bZ,x,rfl,_⟩:=h
  rfl
 obtain⟨r,bZ,x,rfl,⟨as,h1,p1⟩,Ct,k⟩:=h
 have n1:=p1.len
 refine⟨_,(ak (aQ (i:=2) eG.nd rfl (Or.inl rfl) az)
   (ak (aQ (i:=3) eG.nd rfl (Or.inl rfl) (aO bq rfl T.ic lN (aa (pv 0) ah)))
   (ak (yt PassesOwn.never (cI yx (pv 2) (pv 3) (cj _)) (ak (aQ (i:=4) eG.nd rfl (Or.inl rfl) (bH yJ (bH iy (pv 2) (pv 3)) az))
   (ao (cy (cI Hg (bu dN (bu bw (pv 0) (pv 4) (fun _ _=>rfl)) az (fun _ _=>rfl)) (pv 1) (cj _))
   (ao (aQ (i:=3) eG.nd rfl (Or.inl rfl) (pv 4)))
   (ao (aQ (i:=2) eG.nd rfl (Or.inl rfl) (bH iy (pv 4) az)))))))
   (ao (aM (pv 2)))))),?_⟩
 refine⟨_,rfl,r,_,rfl,.inl (bG.of h1),?_⟩
 rw[bY,n1]
 refine⟨fun m σ H2=>∃ (lo hi:Nat) (u:Option V),σ=[some (.ref r),some (.int x),some (.int lo),some (.int hi),u]∧H2=H∧m=hi-lo∧lo≤hi∧hi≤bZ.length∧(∀ i p,bZ[i]?=some p→i<lo→p.2≤x)∧(∀ i p,bZ[i]?=some p→hi≤i→x<p.2),⟨_,0,bZ.length,none,rfl,rfl,rfl,by omega,fH _,fun i p _ h=>by omega,fun i p h1 h2=>by rw[List.getElem?_eq_none h2]at h1;cases h1⟩,?_⟩
 rintro m σ H2 ⟨lo,hi,u,rfl,rfl,rfl,lh,hl,b1,b2⟩
 refine⟨_,rfl,_,rfl,_,_,rfl,rfl,_,rfl,ff (fun c=>?_) (fun c=>?_)⟩
 ·have c':(lo:Int)<hi:=of_decide_eq_true c
  refine⟨fun σ' H'=>∃ m',m'<hi-lo∧∃ (lo hi:Nat) (u:Option V),σ'=[some (.ref r),some (.int x),some (.int lo),some (.int hi),u]∧H'=H2∧m'=hi-lo∧lo≤hi∧hi≤bZ.length∧(∀ i p,bZ[i]?=some p→i<lo→p.2≤x)∧(∀ i p,bZ[i]?=some p→hi≤i→x<p.2),fun σ' H' z=>z,?_⟩
  have em:((lo:Int)+hi) / 2=((lo+hi) / 2:Nat):=by omega
  refine⟨_,rfl,_,rfl,_,_,rfl,rfl,_,_,rfl,rfl,⟨by decide,by decide⟩,?_⟩
  obtain⟨mid,hm⟩:∃ mid,mid=(lo+hi) / 2:=⟨_,rfl⟩
  have eP:bZ[mid]?=some bZ[mid]:=oj (by omega)
  have eA:as[mid]?=some as[mid]:=oj (by omega)
  obtain⟨pp,Sw,hpp⟩:=p1.get eA
  rw[eP]at Sw
  cases Sw
  have ix:uE (as.map V.ref) (((lo:Int)+hi) / 2)=some (.ref as[mid]):=by
   rw[em,← hm]
   exact cU (by rw[qG,eA];rfl)
  refine⟨_,rfl,_,rfl,r,_,_,_,rfl,rfl,bG.of h1,ix,as[mid],_,_,_,rfl,rfl,jK.of hpp,RP,_,rfl,_,_,rfl,rfl,_,rfl,ff (fun c2=>?_) (fun c2=>?_)⟩
  ·have d:x<bZ[mid].2:=of_decide_eq_true c2
   refine⟨_,rfl,mid-lo,by omega,lo,mid,some (.int (((lo:Int)+hi) / 2)),?_,rfl,rfl,by omega,by omega,b1,fun i p hp hi'=>?_⟩
   ·rw[hm,← em];rfl
   ·have:=EM Ct eP hp hi'
    omega
  ·have d:¬ x<bZ[mid].2:=fun z=>c2 (decide_eq_true z)
   refine⟨_,rfl,_,_,rfl,rfl,hi-(mid+1),by omega,mid+1,hi,some (.int (((lo:Int)+hi) / 2)),?_,rfl,rfl,by omega,hl,fun i p hp hi'=>?_,b2⟩
   ·have:((lo:Int)+hi) / 2+1=((mid+1:Nat):Int):=by omega
    rw[← this];rfl
   ·have:=EM Ct hp eP (by omega)
    omega
 ·have c':¬ (lo:Int)<hi:=fun z=>c (decide_eq_true z)
  have e:hi=lo:=by omega
  subst e
  exact⟨_,rfl,k hi ⟨hl,b1,b2⟩⟩
theorem EN:aG ["holes","address","hole"] ["holes","address"] (ay rG):=⟨rfl,rfl,rfl,by decide +kernel,rfl,by decide +kernel,by decide +kernel⟩
open Classical in
theorem Nj{bZ:Row}{x:Int}{n:Nat}(h:Fst bZ x n)(Ct:QN bZ):iR.PX bZ x=decide (∃ p,bZ[n]?=some p∧p.1≤x):=by
 rw[Bool.eq_iff_iff,Nf,decide_eq_true_iff]
 constructor
 ·rintro⟨p,hp,p1,p2⟩
  obtain⟨i,hi⟩:=List.getElem?_of_mem hp
  have ni:n≤i:=by
   rcases Nat.lt_or_ge i n with z|z
   ·have:=h.2.1 i p hi z
    omega
   ·exact z
  obtain⟨li,ei⟩:=List.getElem?_eq_some_iff.mp hi
  have en:bZ[n]?=some bZ[n]:=oj (by omega)
  refine⟨bZ[n],en,?_⟩
  by_cases c:n=i
  ·subst c
   rw[ei]
   exact p1
  ·have q:=List.pairwise_iff_getElem.mp Ct.1 n i (by omega) li (by omega)
   have:=Ct.2 _ (rW en)
   rw[ei]at q
   omega
 ·rintro⟨p,hp,p1⟩
  exact⟨p,rW hp,p1,h.2.2 n p hp (fH _)⟩
open Classical in
theorem Jv{f fF:Addr}{fd Up:FuncData}(F:gX K "within" "within" rG f fd)(T:n9 mg)(fX:aA K mg "first_reaching" dF Ir fF Up):aF P w K mg base bN 2 f fd J5 yY:=by
 have xD:aF P w K mg base bN 1 fF Up Ir Co:=uM fX.F T
 refine F.ok EN (fun vs H Q E h=>?_) (fun cdv A outer s H vs Q E hr h=>?_)
 ·obtain⟨r,bZ,x,rfl,_⟩:=h
  rfl
 obtain⟨r,bZ,x,rfl,R,Ct,k⟩:=h
 refine⟨_,(ak (aQ (i:=2) EN.nd rfl (Or.inl rfl) (aP fX xD hr (aa (pv 0) (aa (pv 1) ah))))
   (ao (aM (oV (mP yx (pv 2) (aO bq rfl T.ic lN (aa (pv 0) ah)) (cj _)) (pV (mP nu (bu dN (bu bw (pv 0) (pv 2) (fun _ _=>rfl)) az (fun _ _=>rfl)) (pv 1) (cj _))))))),?_⟩
 refine⟨_,rfl,_,rfl,r,bZ,x,rfl,R,Ct,fun n fn=>?_⟩
 rw[Nj fn Ct]at k
 obtain⟨as,h1,p1⟩:=id R
 have n1:=p1.len
 refine⟨_,rfl,_,rfl,r,_,rfl,.inl (bG.of h1),_,_,rfl,rfl,_,rfl,ff (fun c=>?_) (fun c=>?_)⟩
 ·have li:n<bZ.length:=by
   have:=of_decide_eq_true c
   rw[bY,n1]at this
   omega
  have eP:bZ[n]?=some bZ[n]:=oj li
  have eA:as[n]?=some as[n]:=oj (by omega)
  obtain⟨pp,Sw,hpp⟩:=p1.get eA
  rw[eP]at Sw
  cases Sw
  refine⟨_,rfl,_,rfl,r,_,_,_,rfl,rfl,bG.of h1,cU (by rw[qG,eA];rfl),as[n],_,_,_,rfl,rfl,jK.of hpp,RO,_,rfl,_,_,rfl,rfl,?_⟩
  rw[show decide (∃ p,bZ[n]?=some p∧p.1≤x)=decide (bZ[n].1≤x) from decide_eq_decide.mpr ⟨fun ⟨p,e,z⟩=>by rw[eP]at e;cases e;exact z,fun z=>⟨_,eP,z⟩⟩]at k
  exact k
 ·have ln:¬ n<bZ.length:=fun z=>c (decide_eq_true (by rw[bY,n1];omega))
  rw[show decide (∃ p,bZ[n]?=some p∧p.1≤x)=false from decide_eq_false fun ⟨p,e,_⟩=>by rw[List.getElem?_eq_none (by omega)]at e;cases e]at k
  exact k
def Bl(CB:Addr)(H:Hp)(x d t:Addr):Prop:=H x=some (.ins CB d [("stains",.ref t)])
inductive Cu(CB:Addr)(vs:List V)(H:Hp)(Q:VK)(E:XK):Prop
 | mk (x d:Addr) (_:vs=[.ref x]) (_:H x=some (.ins CB d [])) (_: ∀ (t:Addr) (H':Hp),Bl CB H' x d t→bP H' t []→cA x H H'→H t=none→Q .jE H'):Cu CB vs H Q E
inductive Cv(CB:Addr)(vs:List V)(H:Hp)(Q:VK)(E:XK):Prop
 | mk (x d t:Addr) (row:Row) (a:Int) (_:vs=[.ref x,.int a]) (_:Bl CB H x d t) (_:bP H t row) (_:QN row) (_:Q (.bl (PX row a)) H):Cv CB vs H Q E
theorem vR:aG ["self"] ["self"] (ay iL):=⟨rfl,rfl,rfl,by decide +kernel,rfl,by decide +kernel,by decide +kernel⟩
theorem Aw:aG ["self","address"] ["self","address"] (ay kC):=⟨rfl,rfl,rfl,by decide +kernel,rfl,by decide +kernel,by decide +kernel⟩
theorem uN{f C:Addr}{fd:FuncData}(F:gX K "__init__" "Blots.__init__" iL f fd)(cl:Aq K C)(ns:aU K C "stains"):aF P w K mg base bN 1 f fd gZ (Cu C):=by
 refine F.ok vR (fun vs H Q E h=>?_) (fun cdv A outer s H vs Q E hr h=>?_)
 ·obtain⟨x,d,rfl,_⟩:=h
  rfl
 obtain⟨x,d,rfl,hx,k⟩:=h
 refine⟨_,(ao (jY (pv 0) (bI ah) rfl)),?_⟩
 refine⟨(by show 0≤sizeLine;decide),fun t ht=>?_⟩
 have nt:t≠x:=(au hx ht).symm
 refine⟨_,rfl,x,C,d,_,rfl,aj ht _ _ _ hx,cl,ns,by decide,?_⟩
 exact k t _ af ⟨[],by rw[aC nt,af];rfl,.nil⟩ (fun a o e n=>by rw[aC n];exact aj ht _ a o e) ht
theorem ze{f C fF fW:Addr}{fd Up FJ:FuncData}(F:gX K "hides" "Blots.hides" kC f fd)(T:n9 mg)(cl:Aq K C)(ns:aU K C "stains")(fX:aA K mg "first_reaching" dF Ir fF Up)(yb:aA K mg "within" rG J5 fW FJ):aF P w K mg base bN 3 f fd Iq (Cv C):=by
 have Nk:aF P w K mg base bN 2 _ _ J5 yY:=Jv yb.F T fX
 refine F.ok Aw (fun vs H Q E h=>?_) (fun cdv A outer s H vs Q E hr h=>?_)
 ·obtain⟨x,d,t,row,a,rfl,_⟩:=h
  rfl
 obtain⟨x,d,t,row,a,rfl,hx,R,Ct,k⟩:=h
 refine⟨_,(ao (aM (aP yb Nk hr (aa (gz (pv 0) rfl) (aa (pv 1) ah))))),?_⟩
 exact⟨_,rfl,x,C,d,_,.ref t,rfl,hx,cl,ns,rfl,_,rfl,t,row,a,rfl,R,Ct,k⟩
theorem Jw(its:List Item):(dP its).length≤its.length:=List.length_filterMap_le _ its
inductive Cw(vs:List V)(H:Hp)(Q:VK)(E:XK):Prop
 | mk (r:Addr) (its:List Item) (_:vs=[.ref r]) (_:bM H (.ref r) its) (_:its.length≤100000) (_ :
 ∀ (o:Addr) (H':Hp),H' o=some (.lst ((dP its).map V.int))→aH H H'→H o=none→Q (.ref o) H'):Cw vs H Q E
theorem Jx:aG ["items"] ["items"] (ay eK):=⟨rfl,rfl,rfl,by decide +kernel,rfl,by decide +kernel,by decide +kernel⟩
theorem zf{f:Addr}{fd:FuncData}(F:gX K "windows" "windows" eK f fd)(T:n9 mg):aF P w K mg base bN 1 f fd oh Cw:=by
 refine F.ok Jx (fun vs H Q E h=>?_) (fun cdv A outer s H vs Q E hr h=>?_)
 ·obtain⟨n,ns,rfl,_⟩:=h
  rfl
 obtain⟨r,its,rfl,⟨a,vs,e,hr1,hp⟩,hlen,k⟩:=h
 cases e
 refine⟨_,(ao (aM (Cc (N:=["item"]) ⟨rfl,by decide +kernel,by decide +kernel,by decide +kernel⟩ rfl (cH (pv 0)) (fun _ _ _ _ _=>(aV (i:=0) (show List.Nodup (["item"]:List Str) by decide +kernel) rfl (Or.inl rfl))) (fun _ _ _ _ _=>Hz (cI mG (bu HE (pv 0) az (fun _ _=>rfl)) bT (cj _))) (fun _ _ _ _ _=>(bu HE (pv 0) az (fun _ _=>rfl)))))),?_⟩
 refine⟨_,rfl,r,rfl,⟨_,bG.of hr1⟩,fun acc hacc=>vF (K:=K) (a:=r) (xs:=vs) (fun i σ H2=>∃ u:Option V,σ=[u]∧H2 acc=some (.lst ((dP (its.take i)).map V.int))∧aH H H2)
  ⟨none,rfl,af,aj hacc _⟩ (fun i σ H2 _ ⟨_,_,_,s⟩=>bG.of (s _ _ hr1)) ?_ ?_⟩
 ·rintro i x σ H2 hi ⟨u,rfl,ha,s⟩
  obtain⟨it,ei,b,rfl,hb⟩:=hp.get hi
  have step:dP (its.take (i+1))=dP (its.take i)++dP [it]:=by rw[take_snoc ei,gA]
  have bl:(dP (its.take i)).length≤100000:=by
   have z:=Jw (its.take i)
   rw[ko]at z
   omega
  cases it with
  | win n =>
   refine⟨_,rfl,b,_,_,_,rfl,rfl,jK.of (s _ _ hb),rfl,rfl,_,rfl,ff (fun _=>?_) (fun z=>absurd (by decide) z)⟩
   refine⟨_,rfl,b,_,_,_,rfl,rfl,jK.of (s _ _ hb),rfl,_,ha,(by rw[bY];exact aL (by omega)),_,rfl,?_,bV hacc s (aI acc _ _)⟩
   rw[af,step,lK]
   rfl
  | aB p q =>
   refine⟨_,rfl,b,_,_,_,rfl,rfl,jK.of (s _ _ hb),rfl,rfl,_,rfl,ff (fun z=>absurd z (by decide)) (fun _=>?_)⟩
   refine⟨_,rfl,?_,s⟩
   rw[ha,step]
   show _=some (HO.lst ((dP (its.take i)++[]).map V.int))
   rw[om]
 ·rintro σ H2 ⟨u,rfl,ha,s⟩
  rw[hp.len,kr]at ha
  exact k acc H2 ha s hacc
structure Jy(rows:eY)(ks:List Int):Prop where
 Dz:∀ x∈ks,0≤x∧x<rows.length
 dn:∀ (i:Nat) (x:Int),ks[i]?=some x→∀ y,Bs rows x y→y∈ks.take i
inductive yc(vs:List V)(H:Hp)(Q:VK)(E:XK):Prop
 | mk (r L:Addr) (rows:eY) (ss:List Int) (_:vs=[.ref r,.ref L]) (_:iN H r (rows.map itemsOf)) (_:H L=some (.lst (ss.map V.int))) (_:ss.length≤1000) (_:rows.length≤1000) (_:(∀ es∈rows,es.length≤1000)) (_:Sound rows) (_:HL rows) (_:(∀ s∈ss,0≤s∧s<rows.length)) (_ :
 ∀ (ks:List Int) (o:Addr) (H':Hp),H' o=some (.lst (ks.map V.int))→aH H H'→Jy rows ks→(∀ s∈ss,s∈ks)→ks.length≤1000→H o=none→Q (.ref o) H'):yc vs H Q E
theorem Jy.snoc{rows:eY}{ks:List Int}{x:Int}(h:Jy rows ks)(h0:0≤x)(h1:x<rows.length)(hx:∀ y,Bs rows x y→y∈ks):Jy rows (ks++[x]):=by
 refine⟨fun y hy=>?_,fun i y hi z hz=>?_⟩
 ·rcases List.mem_append.mp hy with q|q
  ·exact h.Dz y q
  ·have:y=x:=by simpa using q
   omega
 ·by_cases c:i<ks.length
  ·rw[yj c]at hi
   rw[List.take_append_of_le_length (by omega)]
   exact h.dn i y hi z hz
  ·have c2:i=ks.length:=by
    rcases Nat.lt_or_ge i (ks++[x]).length with q|q
    ·rw[eZ,ur]at q;omega
    ·rw[List.getElem?_eq_none q]at hi;cases hi
   subst c2
   rw[List.getElem?_append_right (fH _),Nat.sub_self]at hi
   cases hi
   rw[List.take_append_of_le_length (fH _),kr]
   exact hx z hz
theorem By{kvs:List (Key × V)}{ks:List Int}(h:kvs.map (·.1)=ks.map Sum.inl)(x:Int):seen kvs x↔x∈ks:=by
 unfold seen
 rw[← nJ,List.any_eq_true]
 constructor
 ·rintro⟨p,hp,e⟩
  have e':p.1=Sum.inl x:=of_decide_eq_true e
  have:p.1∈ks.map (Sum.inl:Int→Key):=by rw[← h];exact List.mem_map_of_mem hp
  rw[e',List.mem_map]at this
  obtain⟨y,hy,ey⟩:=this
  rw[Sum.inl.inj ey]at hy
  exact hy
 ·intro hx
  have:(Sum.inl x:Key)∈kvs.map (·.1):=by rw[h];exact List.mem_map_of_mem hx
  obtain⟨p,hp,e⟩:=List.mem_map.mp this
  exact⟨p,hp,decide_eq_true e⟩
structure Bel(rows:eY)(rk:Int→Nat)(H:Hp)(W S:Addr)(ss:List Int)(H2:Hp)(bs ps ks:List Int)(kvs:List (Key × V)):Prop where
 hW:H2 W=some (.lst ((bs++ps).map V.int))
 hS:H2 S=some (.dK kvs)
 sm:aH H H2
 ky:kvs.map (·.1)=ks.map Sum.inl
 tp:Jy rows ks
 rg:∀ x∈bs++ps,0≤x∧x<rows.length
 ns:∀ x∈ps,¬ seen kvs x
 pw:ps.Pairwise fun a b=>rk b<rk a
 rb:∀ (i:Nat) (x:Int),ps[i]?=some x→rk x+i≤40
 st:∀ s∈ss,s∈bs∨s∈ks
 kl:kvs.length+miss rows.length kvs≤rows.length
 bl:bs.length≤1000
theorem BA{kvs:List (Key × V)}{k:Key}(v:V)(h:(bU kvs k).isSome=true):(putK kvs k v).map (·.1)=kvs.map (·.1):=by
 unfold putK
 rw[if_pos (by rw[nJ];exact h),List.map_map]
 refine List.map_congr_left fun p _=>?_
 show (if p.1=k then (p.1,v) else p).1=p.1
 split <;> rfl
theorem Gz{rk:Int→Nat}{ps:List Int}(rb:∀ (i:Nat) (x:Int),ps[i]?=some x→rk x+i≤40):ps.length≤41:=by
 rcases tD ps with rfl|⟨p',n,rfl⟩
 ·simp
 ·rw[qA]at rb ⊢
  have:=rb p'.length n (by rw[List.getElem?_append_right (fH _),Nat.sub_self];rfl)
  rw[eZ,ur]
  omega
structure Top(rk:Int→Nat)(ss bs ps ks:List Int)(kvs:List (Key × V))(bs' ps':List Int)(n:Int):Prop where
 eq:bs++ps=bs'++ps'++[n]
 ns:∀ x∈ps',¬ seen kvs x∧x≠n
 pw:ps'.Pairwise fun a b=>rk b<rk a
 rb:∀ (i:Nat) (x:Int),ps'[i]?=some x→rk x+i≤40
 st:∀ s∈ss,s∈bs'∨s=n∨s∈ks
 old:seen kvs n→bs'.length+50-ps'.length<bs.length+50-ps.length
 le:bs'.length+50-ps'.length≤bs.length+51-ps.length
 bl:bs'.length≤bs.length
 up:∀ y:Int,rk y≤40→rk y<rk n→(ps++[y]).Pairwise (fun a b=>rk b<rk a)∧∀ (i:Nat) (x:Int),(ps++[y])[i]?=some x→rk x+i≤40
theorem Bel.top{rows:eY}{rk:Int→Nat}{H:Hp}{W S:Addr}{ss:List Int}{H2:Hp}{bs ps ks:List Int}{kvs:List (Key × V)}(B:Bel rows rk H W S ss H2 bs ps ks kvs):bs++ps=[]∨∃ bs' ps' n,Top rk ss bs ps ks kvs bs' ps' n:=by
 have Lu:∀ (qs:List Int) (y:Int),(∀ (i:Nat) (x:Int),qs[i]?=some x→rk x+i≤40)→rk y+qs.length≤40→∀ (i:Nat) (x:Int),(qs++[y])[i]?=some x→rk x+i≤40:=by
  intro qs y h1 h2 i x hx
  rcases Nat.lt_or_ge i qs.length with q|q
  ·rw[yj q]at hx
   exact h1 i x hx
  ·have qi:i=qs.length:=by
    rcases Nat.lt_or_ge i (qs++[y]).length with w|w
    ·rw[eZ,ur]at w;omega
    ·rw[List.getElem?_eq_none w]at hx;cases hx
   subst qi
   rw[List.getElem?_append_right (fH _),Nat.sub_self]at hx
   cases hx
   exact h2
 rcases tD ps with rfl|⟨ps',n,rfl⟩
 ·rcases tD bs with rfl|⟨bs',n,rfl⟩
  ·exact .inl rfl
  ·rw[qA]at B ⊢
   refine .inr ⟨bs',[],n,by simp,by simp,by simp,by simp,fun s hs=>?_,fun _=>?_,?_,?_,fun y h1 h2=>⟨by simp,Lu [] y (by simp) (by simpa using h1)⟩⟩
   ·rcases B.st s hs with z|z
    ·rcases List.mem_append.mp z with z|z
     ·exact .inl z
     ·exact .inr (.inl (by simpa using z))
    ·exact .inr (.inr z)
   ·rw[eZ,ur];simp only[oq];omega
   ·rw[eZ,ur];simp only[oq];omega
   ·rw[eZ,ur];omega
 ·rw[qA]at B ⊢
  have pwd:=List.pairwise_append.mp B.pw
  have rbn:=B.rb ps'.length n (by rw[List.getElem?_append_right (fH _),Nat.sub_self];rfl)
  refine .inr ⟨bs,ps',n,by rw[pC],fun x hx=>⟨B.ns x (List.mem_append_left _ hx),fun e=>?_⟩,pwd.1,fun i x hx=>?_,fun s hs=>(B.st s hs).elim .inl fun z=>.inr (.inr z),fun z=>absurd z (B.ns n (by simp)),?_,fH _,fun y h1 h2=>⟨?_,Lu _ y B.rb ?_⟩⟩
  ·subst e
   exact Nat.lt_irrefl _ (pwd.2.2 x hx x (by simp))
  ·refine B.rb i x ?_
   rw[yj]
   ·exact hx
   ·rcases Nat.lt_or_ge i ps'.length with q|q
    ·exact q
    ·rw[List.getElem?_eq_none q]at hx;cases hx
  ·rw[eZ,ur];omega
  ·rw[List.pairwise_append]
   refine⟨B.pw,by simp,fun a ha c hc=>?_⟩
   have:c=y:=by simpa using hc
   subst this
   rcases List.mem_append.mp ha with q|q
   ·have:=pwd.2.2 a q n (by simp)
    omega
   ·have:a=n:=by simpa using q
    subst this
    exact h2
  ·rw[eZ,ur];omega
def Oj(rows:eY)(rk:Int→Nat)(H:Hp)(r L W S:Addr)(ss:List Int)(m:Nat)(σ:L2.St)(H2:Hp):Prop:=∃ (bs ps ks:List Int) (kvs:List (Key × V)) (u v:Option V),σ=[some (.ref r),some (.ref L),some (.ref S),some (.ref W),u,v]∧Bel rows rk H W S ss H2 bs ps ks kvs∧m=100*miss rows.length kvs+(bs.length+50-ps.length)
theorem uO:aG ["rows","sheets","told","waiting","number","missing"] ["rows","sheets"] (ay kZ):=⟨rfl,rfl,rfl,by decide +kernel,rfl,by decide +kernel,by decide +kernel⟩
theorem EO{f fI:Addr}{fd BB:FuncData}(F:gX K "below" "below" kZ f fd)(T:n9 mg)(b9:aA K mg "windows" eK oh fI BB):aF P w K mg base bN 2 f fd mj yc:=by
 have zg:aF P w K mg base bN 1 fI BB oh Cw:=zf b9.F T
 refine F.ok uO (fun vs H Q E h=>?_) (fun cdv A outer s0 H vs Q E hr h=>?_)
 ·obtain⟨r,L,rows,ss,rfl,_⟩:=h
  rfl
 obtain⟨r,L,rows,ss,rfl,hR,hL,hsl,hlen,hes,Lv,⟨rk,hrb,hrk⟩,hin,k⟩:=h
 have hu:=mH hr
 refine⟨_,(ak (aQ (i:=2) uO.nd rfl (Or.inr rfl) nK)
   (ak (aQ (i:=3) uO.nd rfl (Or.inl rfl) (iQ mQ rfl T.nM yl (aa (pv 1) ah)))
   (ak (yt PassesOwn.never (nv (pv 3) (fun _=>rfl)) (ak (aQ (i:=4) uO.nd rfl (Or.inl rfl) (bu bw (pv 3) (sD oW az) (fun _ _=>rfl)))
   (ak (HJ (N:=["other","told"]) (i:=5) (qQ (sc:=ay kZ) (NX:=["rows","sheets","told","waiting","number","missing"]) (jx:=[none,some 2]) rfl rfl rfl (by decide +kernel) (by decide +kernel) rfl (by decide +kernel) rfl (by decide +kernel)) rfl uO.nd rfl rfl (cH (aP b9 zg hr (aa (bu bw (pv 0) (pv 4) (fun _ _=>rfl)) ah))) (fun _ _ _ _ _ _=>(aV (i:=0) (show List.Nodup (["other","told"]:List Str) by decide +kernel) rfl (Or.inl rfl))) (fun _ _ _ _ _ _=>Hz (yq (Bm hu (pv 0) (pv 1)))) (fun _ _ _ _ _ _=>(pv 0)))
   (ao (cy (nv (pv 5) (fun _=>rfl))
   (ao (bO (jF qz uu uv cF (pv 3) (aa (bu bw (pv 5) az (fun _ _=>rfl)) ah))))
   (ak (uJ hu (pv 2) (pv 4) oA rfl)
   (ao (bO (Pf qz PySem.F.slot_list_pop PySem.F.type_list_pop Pg (pv 3))))))))))
   (ao (aM (iQ (Gp rfl) rfl T.nM yl (aa (pv 2) ah))))))),?_⟩
 intro S hS
 have s1:aH H (upd H S (.dK [])):=aj hS _
 refine⟨_,rfl,L,_,rfl,.inl (bG.of (s1 _ _ hL)),fun W hW=>?_⟩
 have s2:=s1.trans (aj hW (.lst (ss.map V.int)))
 have QU:H W=none:=by
  cases e:H W with
  | none=>rfl
  | some o=>exact absurd ((s1 _ _ e).symm.trans hW) (by simp)
 have Ol:W≠S:=(au af hW).symm
 refine⟨Oj rows rk H r L W S ss,⟨_,ss,[],[],[],none,none,rfl,⟨(by rw[af,om]),aj hW _ _ _ af,s2,rfl,⟨(fun x hx=>by cases hx),fun i x hi=>by simp at hi⟩,(fun x hx=>hin x (by simpa using hx)),by simp,by simp,by simp,(fun s hs=>.inl hs),?_,hsl⟩,rfl⟩,?_⟩
 ·have:=Lh rows.length (fun i=>(bU ([]:List (Key × V)) (Sum.inl (i:Int))).isNone)
  show 0+cnt rows.length _≤_
  omega
 rintro m σ H2 ⟨bs,ps,ks,kvs,u,v,rfl,B,rfl⟩
 refine⟨_,rfl,!((bs++ps).map V.int).isEmpty,.inl ⟨_,bG.of B.hW,rfl⟩,?_⟩
 rcases B.top with en|⟨bs',ps',n,t⟩
 ·have e2:(!((bs++ps).map V.int).isEmpty)=false:=by rw[en];rfl
  rw[e2]
  refine i7 ?_
  have ek:kvs.map (fun p=>kV p.1)=ks.map V.int:=by
   have z:kvs.map (fun p=>kV p.1)=(kvs.map (·.1)).map kV:=by rw[List.map_map];rfl
   rw[z,B.ky,List.map_map]
   rfl
  have kl:ks.length=kvs.length:=by
   have z:=congrArg List.length B.ky
   rw[bY,bY]at z
   exact z.symm
  have Uq:=B.kl
  refine⟨_,rfl,S,kvs,rfl,B.hS,fun l hl=>?_⟩
  refine k ks l _ (by rw[af,ek]) (B.sm.trans (aj hl _)) B.tp (fun s hs=>(B.st s hs).elim (fun z=>?_) id) (by omega) ?_
  ·rw[(List.append_eq_nil_iff.mp en).1]at z
   cases z
  cases e:H l with
  | none=>rfl
  | some o=>exact absurd ((B.sm _ _ e).symm.trans hl) (by simp)
 have eW:=B.hW
 rw[t.eq]at eW
 rw[t.eq]
 refine ff (fun _=>?_) (fun z=>absurd (by simp) z)
 refine⟨fun σ' H'=>∃ m',m'<100*miss rows.length kvs+(bs.length+50-ps.length)∧Oj rows rk H r L W S ss m' σ' H',fun σ' H' z=>z,?_⟩
 have an:uE ((bs'++ps'++[n]).map V.int) (-1)=some (.int n):=by rw[lK];exact lU _ _
 obtain⟨n0,n1⟩:=B.rg n (by rw[t.eq];simp)
 have tl:=t.le
 have Mu:=t.bl
 have pl:=Gz B.rb
 have pl':=Gz t.rb
 have bbl:=B.bl
 obtain⟨es,mS⟩:∃ es,rows[n.toNat]?=some es:=⟨_,oj (by omega)⟩
 have Sx:=hes es (rW mS)
 obtain⟨HV,hr2,uP⟩:=hR.same B.sm
 obtain⟨vi,Nl,hI⟩:=uP.get' (i:=n.toNat) (b:=itemsOf es) (by rw[qG,mS];rfl)
 obtain⟨b,Mg,rfl,hb,hit⟩:=id hI
 have hil:=rK es []
 have Lw:uE HV n=some (.ref b):=by
  have z:=cU Nl
  rw[show ((n.toNat:Nat):Int)=n by omega]at z
  exact z
 refine⟨_,rfl,_,rfl,W,_,_,_,rfl,rfl,bG.of eW,an,?_⟩
 refine⟨_,rfl,_,rfl,r,_,_,_,rfl,rfl,bG.of hr2,Lw,b,itemsOf es,rfl,hI,?_,fun z H4 hz s4 nz=>?_⟩
 ·show (es.foldl aT []).length≤_
  simp only[oq]at hil
  omega
 rw[jz]at hz
 have abX:(jG es).length≤es.length:=List.length_filterMap_le _ es
 have Sy:=s4 _ _ B.hS
 have hW4:=s4 _ _ eW
 refine⟨z,rfl,⟨_,bG.of hz⟩,fun acc hacc=>jo (K:=K) (a:=z) (xs:=(jG es).map V.int) (fun i σ H5=>∃ u:Option V,σ=[u,some (.ref S)]∧H5 acc=some (.lst ((((jG es).take i).filter (fun y=>(bU kvs (Sum.inl y)).isNone)).map V.int))∧aH H4 H5) ⟨none,rfl,af,aj hacc _⟩ (fun i σ H5 _ ⟨_,_,_,s5⟩=>bG.of (s5 _ _ hz)) ?_ ?_⟩
 ·rintro i x σ H5 hi ⟨u,rfl,h5,s5⟩
  rw[qG]at hi
  obtain⟨y,ey,rfl⟩:=Option.map_eq_some_iff.mp hi
  have st:=take_snoc ey
  have bl:(((jG es).take i).filter (fun y=>(bU kvs (Sum.inl y)).isNone)).length≤1000:=by
   have z:=List.length_filter_le (fun y=>(bU kvs (Sum.inl y)).isNone) ((jG es).take i)
   rw[ko]at z
   omega
  refine⟨_,rfl,_,rfl,S,_,rfl,oz.k (k:=Sum.inl y) (s5 _ _ Sy),_,rfl,?_⟩
  cases ev:bU kvs (Sum.inl y) with
  | none =>
   refine jI ⟨_,rfl,_,h5,(by rw[bY];exact aL (by omega)),_,rfl,?_,bV hacc s5 (aI acc _ _)⟩
   rw[af,st,List.filter_append,List.filter_cons_of_pos (p:=fun y=>(bU kvs (Sum.inl y)).isNone) (by rw[ev];rfl),lK]
   rfl
  | some o =>
   refine i7 ⟨_,rfl,?_,s5⟩
   rw[st,List.filter_append,List.filter_cons_of_neg (p:=fun y=>(bU kvs (Sum.inl y)).isNone) (by rw[ev];exact jX),List.filter_nil,om]
   exact h5
 rintro σ H5 ⟨u,rfl,h5,s5⟩
 rw[bY,kr]at h5
 have Ur:=s5 _ _ Sy
 have hW5:=s5 _ _ hW4
 have sm5:=B.sm.trans (s4.trans s5)
 have Uq:=B.kl
 refine⟨_,rfl,_,.inl ⟨_,bG.of h5,rfl⟩,?_⟩
 cases em:(jG es).filter (fun y=>(bU kvs (Sum.inl y)).isNone) with
 | nil =>
  refine i7 ?_
  have ab0:∀ y,Bs rows n y→y∈ks:=by
   rintro y ⟨_,es',he',hy⟩
   rw[mS]at he'
   cases he'
   rw[← By B.ky]
   have z:=List.filter_eq_nil_iff.mp em y hy
   unfold seen
   cases q:bU kvs (Sum.inl y) with
   | none=>rw[q]at z;exact absurd rfl z
   | some o=>rfl
  refine⟨_,rfl,_,rfl,S,_,rfl,Cj.k (k:=Sum.inl n) Ur (aL (by omega)),?_⟩
  have P1:(upd H5 S (.dK (putK kvs (Sum.inl n) (.bl true)))) W=some (.lst ((bs'++ps'++[n]).map V.int)):=by rw[aC Ol];exact hW5
  refine⟨_,rfl,.inl ⟨rfl,_,bG.of P1⟩,W,_,.int n,rfl,rfl,P1,(by simp),?_⟩
  have ee:((bs'++ps'++[n]).map V.int).dropLast=(bs'++ps').map V.int:=by rw[lK (l₁:=bs'++ps'),List.map_singleton,List.dropLast_concat]
  rw[ee]
  have rg':∀ x∈bs'++ps',0≤x∧x<rows.length:=fun x hx=>B.rg x (by rw[t.eq];exact List.mem_append_left _ hx)
  cases en:bU kvs (Sum.inl n) with
  | none =>
   have mp:=EE (n:=rows.length) (.bl true) n0 n1 en
   refine⟨100*miss rows.length (putK kvs (Sum.inl n) (.bl true))+(bs'.length+50-ps'.length),by omega,bs',ps',ks++[n],putK kvs (Sum.inl n) (.bl true),_,_,rfl,⟨af,(by rw[aC Ol.symm,af]),bV QU (bV hS sm5 (aI S _ _)) (aI W _ _),?_,B.tp.snoc n0 n1 ab0,rg',fun x hx=>?_,t.pw,t.rb,fun s hs=>?_,?_,by omega⟩,rfl⟩
   ·rw[yU _ en,lK,B.ky,lK]
    rfl
   ·intro q
    rcases (qR _).mp q with e|e
    ·exact (t.ns x hx).2 e
    ·exact (t.ns x hx).1 e
   ·rcases t.st s hs with q|q|q
    ·exact .inl q
    ·exact .inr (by rw[q];simp)
    ·exact .inr (List.mem_append_left _ q)
   ·rw[yU _ en,eZ,ur]at *
    omega
  | some o =>
   have sn:seen kvs n:=by unfold seen;rw[en];rfl
   have so:=t.old sn
   have sp:∀ x,seen (putK kvs (Sum.inl n) (.bl true)) x↔seen kvs x:=fun x=>by
    rw[qR]
    exact⟨fun z=>z.elim (fun e=>by rw[e];exact sn) id,.inr⟩
   have ms:miss rows.length (putK kvs (Sum.inl n) (.bl true))=miss rows.length kvs:=by
    refine Lg _ fun i _=>?_
    have z:=sp (i:Int)
    unfold seen at z
    cases q1:bU (putK kvs (Sum.inl n) (.bl true)) (Sum.inl (i:Int)) with
    | none =>
     cases q2:bU kvs (Sum.inl (i:Int)) with
     | none=>rfl
     | some o2=>rw[q1,q2]at z;exact absurd (z.mpr rfl) jX
    | some o1 =>
     cases q2:bU kvs (Sum.inl (i:Int)) with
     | none=>rw[q1,q2]at z;exact absurd (z.mp rfl) jX
     | some o2=>rfl
   have kn:n∈ks:=(By B.ky n).mp sn
   refine⟨100*miss rows.length (putK kvs (Sum.inl n) (.bl true))+(bs'.length+50-ps'.length),by rw[ms];omega,bs',ps',ks,putK kvs (Sum.inl n) (.bl true),_,_,rfl,⟨af,(by rw[aC Ol.symm,af]),bV QU (bV hS sm5 (aI S _ _)) (aI W _ _),?_,B.tp,rg',fun x hx q=>(t.ns x hx).1 ((sp x).mp q),t.pw,t.rb,fun s hs=>?_,?_,by omega⟩,rfl⟩
   ·rw[BA _ (by rw[en];rfl),B.ky]
   ·rcases t.st s hs with q|q|q
    ·exact .inl q
    ·exact .inr (by rw[q];exact kn)
    ·exact .inr q
   ·have z:=congrArg List.length (BA (kvs:=kvs) (k:=Sum.inl n) (.bl true) (by rw[en];rfl))
    rw[bY,bY]at z
    rw[z,ms]
    exact Uq
 | cons y ts =>
  refine jI ?_
  rw[em]at h5
  have ym:y∈(jG es).filter (fun y=>(bU kvs (Sum.inl y)).isNone):=by rw[em];simp
  obtain⟨yw,yn⟩:=List.mem_filter.mp ym
  have QV:Bs rows n y:=⟨n0,es,mS,yw⟩
  obtain⟨y0,y1⟩:=Lv.QM QV
  obtain⟨up1,up2⟩:=t.up y (hrb y) (hrk n y QV)
  have wl:=congrArg List.length t.eq
  rw[eZ]at wl
  refine⟨_,rfl,.inl ⟨rfl,_,bG.of hW5⟩,_,rfl,acc,_,_,_,rfl,rfl,bG.of h5,cU (xs:=V.int y::ts.map V.int) (j:=0) rfl,W,_,_,rfl,rfl,hW5,(by rw[bY,← wl];exact aL (by omega)),?_⟩
  have pl2:=Gz up2
  rw[eZ,ur]at pl2
  refine⟨100*miss rows.length kvs+(bs.length+50-(ps++[y]).length),?_,bs,ps++[y],ks,kvs,_,_,rfl,⟨(by rw[af,← pC,t.eq,lK (l₁:=bs'++ps'++[n])];rfl),(by rw[aC Ol.symm];exact Ur),bV QU sm5 (aI W _ _),B.ky,B.tp,fun x hx=>?_,fun x hx=>?_,up1,up2,B.st,Uq,bbl⟩,rfl⟩
  ·rw[eZ,ur];omega
  ·rw[← pC]at hx
   rcases List.mem_append.mp hx with q|q
   ·exact B.rg x q
   ·have:x=y:=by simpa using q
    subst this
    exact⟨y0,y1⟩
  ·rcases List.mem_append.mp hx with q|q
   ·exact B.ns x q
   ·have:x=y:=by simpa using q
    subst this
    intro q
    unfold seen at q
    cases w:bU kvs (Sum.inl x) with
    | none=>rw[w]at q;cases q
    | some o=>rw[w]at yn;cases yn
structure Bfs(rows:eY)(H:Hp)(W S:Addr)(s g:Int)(extra:Int→Prop)(H2:Hp)(vs:List V)(wl:eY)(kvs:List (Key × V)):Prop where
 hW:H2 W=some (.lst vs)
 hl:bR (gU (fun a=>a=W∨a=S) H2) vs wl
 hS:H2 S=some (.dK kvs)
 sm:aH H H2
 wk:∀ w∈wl,Walk (Bs rows) s w∧w.length≤kvs.length+1∧∃ e,w.getLast?=some e∧0≤e∧e<rows.length
 kl:kvs.length+miss rows.length kvs≤rows.length
 cl:∀ x,(x=s∨seen kvs x)→(∃ w∈wl,w.getLast?=some x)∨extra x∨∀ y,Bs rows x y→y≠g∧seen kvs y
inductive HW(vs:List V)(H:Hp)(Q:VK)(E:XK):Prop
 | mk (r:Addr) (rows:eY) (s g:Int) (_:vs=[.ref r,.int s,.int g]) (_:iN H r (rows.map itemsOf)) (_:rows.length≤1000) (_:(∀ es∈rows,es.length≤1000)) (_:Sound rows) (_:0≤s) (_:s<rows.length) (_:(∀ (way:List Int) (o:Addr) (H':Hp),H' o=some (.lst (way.map V.int))→aH H H'→Walk (Bs rows) s way→2≤way.length→way.length≤2000→way.getLast?=some g→Q (.ref o) H')) (_:(¬ Reach (Bs rows) s g→∀ H',aH H H'→Q .jE H')):HW vs H Q E
theorem jQ:aG ["rows","start","goal","ways","seen","way","number"] ["rows","start","goal"] (ay iB):=⟨rfl,rfl,rfl,by decide +kernel,rfl,by decide +kernel,by decide +kernel⟩
def Us(n:Nat)(W S:Addr):L2.St→Hp→Nat:=fun _ H=>match H W,H S with
 | some (.lst vs),some (.dK kvs)=>2*miss n kvs+vs.length
 | _,_=>0
theorem Lx{n:Nat}{W S:Addr}{σ:L2.St}{H:Hp}{vs:List V}{kvs:List (Key × V)}(h1:H W=some (.lst vs))(h2:H S=some (.dK kvs)):Us n W S σ H=2*miss n kvs+vs.length:=by
 unfold Us
 rw[h1,h2]
def Om(rows:eY)(H:Hp)(r W S:Addr)(s g:Int)(σ:L2.St)(H2:Hp):Prop:=∃ (vs:List V) (wl:eY) (kvs:List (Key × V)) (u v:Option V),σ=[some (.ref r),some (.int s),some (.int g),some (.ref W),some (.ref S),u,v]∧Bfs rows H W S s g (fun _=>False) H2 vs wl kvs∧vs.length+2*miss rows.length kvs≤2*rows.length+1
theorem zh{f fI:Addr}{fd BB:FuncData}(F:gX K "way_between" "way_between" iB f fd)(T:n9 mg)(b9:aA K mg "windows" eK oh fI BB):aF P w K mg base bN 2 f fd Iu HW:=by
 have zg:aF P w K mg base bN 1 fI BB oh Cw:=zf b9.F T
 refine F.ok jQ (fun vs H Q E h=>?_) (fun cdv A outer s0 H vs Q E hr h=>?_)
 ·obtain⟨r,rows,s,g,rfl,_⟩:=h
  rfl
 obtain⟨r,rows,s,g,rfl,hR,hlen,hes,Lv,h0,h1,kY,kN⟩:=h
 have hu:=mH hr
 refine⟨_,(ak (aQ (i:=3) jQ.nd rfl (Or.inl rfl) (bI (aa (bI (aa (pv 1) ah)) ah)))
   (ak (aQ (i:=4) jQ.nd rfl (Or.inl rfl) nK)
   (ak (yt PassesOwn.never (nv (pv 3) (fun _=>rfl)) (ak (aQ (i:=5) jQ.nd rfl (Or.inl rfl) (jF qz PySem.F.slot_list_pop PySem.F.type_list_pop Kv (pv 3) (aa az ah)))
   (ao (iV PassesOwn.never rfl (cH (aP b9 zg hr (aa (bu bw (pv 0) (bu bw (pv 5) (sD oW az) (fun _ _=>rfl)) (fun _ _=>rfl)) ah))) (aV (i:=6) jQ.nd rfl (Or.inl rfl))
   (ak (cy (cI mG (pv 6) (pv 2) (cj _))
   (ao (aM (bH oX (pv 5) (bI (aa (pv 2) ah)))))
   bC)
   (ao (cy (yq (Bm hu (pv 6) (pv 4)))
   (ak (uJ hu (pv 4) (pv 6) oA rfl)
   (ao (bO (jF qz uu uv cF (pv 3) (aa (bH oX (pv 5) (bI (aa (pv 6) ah))) ah)))))
   bC)))))))
   (ao (aM OU))))),?_⟩
 refine⟨_,rfl,(by show 1≤sizeLine;decide),fun a0 ha0=>⟨(by show 1≤sizeLine;decide),fun W hW=>?_⟩⟩
 intro S hS
 have s1:aH H (upd H a0 (.lst [.int s])):=aj ha0 _
 have s2:=s1.trans (aj hW (.lst [.ref a0]))
 have s3:=s2.trans (aj hS (.dK []))
 have QU:H W=none:=by
  cases e:H W with
  | none=>rfl
  | some o=>exact absurd ((s1 _ _ e).symm.trans hW) (by simp)
 have H0S:H S=none:=by
  cases e:H S with
  | none=>rfl
  | some o=>exact absurd ((s2 _ _ e).symm.trans hS) (by simp)
 have Ol:W≠S:=au af hS
 have n0W:a0≠W:=au af hW
 have n0S:a0≠S:=au (aj hW _ _ _ af) hS
 refine⟨fun m σ H2=>m=Us rows.length W S σ H2∧Om rows H r W S s g σ H2,⟨_,rfl,?_⟩,?_⟩
 ·have cl:=Lh rows.length (fun i=>(bU ([]:List (Key × V)) (Sum.inl (i:Int))).isNone)
  refine⟨[.ref a0],[[s]],[],none,none,rfl,⟨aj hS _ _ _ af,.cons ⟨a0,rfl,(fun z=>z.elim n0W n0S),aj hS _ _ _ (aj hW _ _ _ af)⟩ .nil,af,s3,?_,?_,?_⟩,?_⟩
  ·intro w hw
   have:w=[s]:=by simpa using hw
   subst this
   exact⟨Walk.one _ _,by simp,s,rfl,h0,h1⟩
  ·show 0+miss rows.length []≤rows.length
   unfold miss
   omega
  ·rintro x (rfl|hx)
   ·exact .inl ⟨[x],by simp,rfl⟩
   ·cases hx
  ·show 1+2*miss rows.length []≤_
   unfold miss
   omega
 ·rintro m σ H2 ⟨rfl,vs,wl,kvs,u,v,rfl,B,hml⟩
  rw[Lx B.hW B.hS]
  refine⟨_,rfl,!vs.isEmpty,.inl ⟨vs,bG.of B.hW,rfl⟩,?_⟩
  cases vs with
  | nil =>
   refine i7 (kN (fun P4=>?_) H2 B.sm)
   have hwl:=B.hl
   cases hwl
   have base:∀ x,(x=s∨seen kvs x)→∀ y,Bs rows x y→y≠g∧seen kvs y:=fun x hx=>by
    rcases B.cl x hx with ⟨w,hw,_⟩|z|z
    ·cases hw
    ·exact z.elim
    ·exact z
   exact (Reach.closed (S:=fun y=>y≠g∧seen kvs y) (base s (.inl rfl)) (fun x y hx=>base x (.inr hx.2) y) P4).1 rfl
  | cons v0 vs' =>
   refine jI ⟨fun σ' H'=>Om rows H r W S s g σ' H'∧Us rows.length W S σ' H'<2*miss rows.length kvs+(v0::vs').length,fun σ' H' ⟨p,l⟩=>⟨_,l,rfl,p⟩,?_⟩
   obtain⟨hW2,hl2,PV,sm2,wk2,kl2,cl2⟩:=id B
   cases hl2 with
   | @cons _ w0 _ Sz hv0 ab2 =>
   obtain⟨wa,rfl,nwa,hwa⟩:=id hv0
   obtain⟨wkw,wlw,e,hle,e0,e1⟩:=wk2 w0 (by simp)
   have wal:∃ w1,w0=w1++[e]:=by
    rw[List.getLast?_eq_some_iff]at hle
    exact hle
   obtain⟨w1,rfl⟩:=wal
   obtain⟨es,mS⟩:∃ es,rows[e.toNat]?=some es:=⟨_,oj (by omega)⟩
   have ab3:es∈rows:=rW mS
   have Sx:=hes es ab3
   refine⟨_,rfl,.inl ⟨rfl,_,bG.of hW2⟩,W,_,0,0,.ref wa,rfl,rfl,hW2,by decide,by decide,(by simp[seqIndex?]),rfl,?_⟩
   have ee:(V.ref wa::vs').eraseIdx 0=vs':=rfl
   rw[ee]
   have SA:∀ {v:V} {ns:List Int},gU (fun a=>a=W∨a=S) H2 v ns→gU (fun a=>a=W∨a=S) (upd H2 W (.lst vs')) v ns:=fun h=>h.at _ (.inl rfl)
   have P5:aH H (upd H2 W (.lst vs')):=bV QU sm2 (aI W _ _)
   obtain⟨HV,Jt,uP⟩:=hR.same P5
   obtain⟨vi,Nl,hI⟩:=uP.get' (i:=e.toNat) (b:=itemsOf es) (by rw[qG,mS];rfl)
   obtain⟨b,Mg,rfl,hb,hit⟩:=id hI
   have ab4:(upd H2 W (.lst vs')) wa=some (.lst (w1.map V.int++[.int e])):=by
    rw[aC (fun z=>nwa (.inl z)),hwa,lK]
    rfl
   have hil:=rK es []
   refine⟨_,rfl,_,rfl,_,rfl,wa,_,_,_,rfl,rfl,bG.of ab4,lU _ _,r,_,_,_,rfl,rfl,bG.of Jt,?_,b,itemsOf es,rfl,hI,?_,fun z H4 hz s4 nz=>?_⟩
   ·have z:=cU Nl
    rw[show ((e.toNat:Nat):Int)=e by omega]at z
    exact z
   ·show (es.foldl aT []).length≤_
    simp only[oq]at hil
    omega
   rw[jz]at hz
   have hW3:(upd H2 W (.lst vs')) W=some (.lst vs'):=af
   have Jz:(upd H2 W (.lst vs')) S=some (.dK kvs):=by rw[aC Ol.symm];exact PV
   have nzW:z≠W:=(au hW3 nz).symm
   have nzS:z≠S:=(au Jz nz).symm
   have abX:(jG es).length≤es.length:=List.length_filterMap_le _ es
   refine⟨z,rfl,⟨_,bG.of hz⟩,jM (K:=K) (a:=z) (xs:=(jG es).map V.int) (fun i σ H5=>∃ (Ly:List V) (Oo:eY) (lA:List (Key × V)) (v:Option V),σ=[some (.ref r),some (.int s),some (.int g),some (.ref W),some (.ref S),some (.ref wa),v] ∧
    Bfs rows H W S s g (fun x=>x=e) H5 Ly Oo lA∧gU (fun a=>a=W∨a=S) H5 (.ref wa) (w1++[e])∧gU (fun a=>a=W∨a=S) H5 (.ref z) (jG es)∧(∀ y∈(jG es).take i,y≠g∧seen lA y)∧Ly.length+2*miss rows.length lA≤vs'.length+2*miss rows.length kvs∧kvs.length≤lA.length) ?_ ?_ ?_ ?_⟩
   ·refine⟨vs',Sz,kvs,_,rfl,⟨s4 _ _ hW3,ab2.mono fun _ _ h=>(SA h).same s4,s4 _ _ Jz,P5.trans s4,fun w hw=>wk2 w (rV _ hw),kl2,fun x hx=>?_⟩,(SA hv0).same s4,⟨z,rfl,fun q=>q.elim nzW nzS,hz⟩,(fun y hy=>by simp at hy),fH _,fH _⟩
    rcases cl2 x hx with ⟨w,hw,hwx⟩|q|q
    ·rcases List.mem_cons.mp hw with rfl|hw'
     ·refine .inr (.inl ?_)
      rw[hle]at hwx
      exact (rX hwx).symm
     ·exact .inl ⟨w,hw',hwx⟩
    ·exact q.elim
    ·exact .inr (.inr q)
   ·rintro i σ H5 _ ⟨_,_,_,_,_,_,_,⟨a,ea,_,ha⟩,_⟩
    cases ea
    exact bG.of ha
   ·rintro i x σ H5 hi ⟨Ly,Oo,lA,v,rfl,B5,Nm,hz5,ER,hm5,hk5⟩
    rw[qG]at hi
    obtain⟨y,ey,rfl⟩:=Option.map_eq_some_iff.mp hi
    have QV:Bs rows e y:=⟨e0,es,mS,rW ey⟩
    obtain⟨y0,y1⟩:=Lv.QM QV
    obtain⟨wa',ewa,ab7,Oq⟩:=id Nm
    cases ewa
    have wl0:(w1++[e]).length≤2000:=by have:=B5.kl;omega
    refine⟨_,rfl,_,rfl,rfl,_,rfl,ff (fun c=>?_) (fun c=>?_)⟩
    ·have eg:y=g:=V.int.inj (of_decide_eq_true c)
     subst eg
     refine⟨_,rfl,_,rfl,(by show 1≤sizeLine;decide),fun b1 hb1=>⟨wa,b1,_,_,rfl,rfl,aj hb1 _ _ _ Oq,af,jb (aL (by rw[bY];simp at wl0 ⊢;omega)),fun o ho=>?_⟩⟩
     refine kY (w1++[e]++[y]) o _ ?_ ((B5.sm.trans (aj hb1 _)).trans (aj ho _)) (wkw.snoc hle QV) (by simp) (by have:=B5.kl;rw[eZ,ur];omega) (by simp)
     rw[af,lK (l₁:=w1++[e])]
     rfl
    ·have eg:¬ y=g:=fun q=>c (decide_eq_true (congrArg V.int q))
     refine⟨_,rfl,_,rfl,S,_,rfl,oz.k (k:=Sum.inl y) B5.hS,_,rfl,?_⟩
     have Ot:∀ Nn:List (Key × V),(∀ x,seen lA x→seen Nn x)→seen Nn y→∀ y'∈(jG es).take (i+1),y'≠g∧seen Nn y':=fun Nn hmono hy y' hy'=>by
      rw[take_snoc ey]at hy'
      rcases List.mem_append.mp hy' with q|q
      ·exact⟨(ER y' q).1,hmono _ (ER y' q).2⟩
      ·have:y'=y:=by simpa using q
       subst this
       exact⟨eg,hy⟩
     cases ev:bU lA (Sum.inl y) with
     | some o1 =>
      refine i7 ?_
      exact⟨Ly,Oo,lA,_,rfl,B5,Nm,hz5,Ot lA (fun _ q=>q) (by unfold seen;rw[ev];rfl),hm5,hk5⟩
     | none =>
      refine jI ?_
      have Uq:=B5.kl
      refine⟨_,rfl,_,rfl,S,_,rfl,Cj.k (k:=Sum.inl y) B5.hS (aL (by omega)),?_⟩
      have e6:∀ {v:V} {ns:List Int},gU (fun a=>a=W∨a=S) H5 v ns→gU (fun a=>a=W∨a=S) (upd H5 S (.dK (putK lA (Sum.inl y) (.bl true)))) v ns:=fun h=>h.at _ (.inr rfl)
      have s6:aH H (upd H5 S (.dK (putK lA (Sum.inl y) (.bl true)))):=bV H0S B5.sm (aI S _ _)
      have P1:(upd H5 S (.dK (putK lA (Sum.inl y) (.bl true)))) W=some (.lst Ly):=by rw[aC Ol];exact B5.hW
      have SD:(upd H5 S (.dK (putK lA (Sum.inl y) (.bl true)))) wa=some (.lst ((w1++[e]).map V.int)):=by rw[aC (fun q=>ab7 (.inr q))];exact Oq
      have P6:(upd H5 S (.dK (putK lA (Sum.inl y) (.bl true)))) S=some (.dK (putK lA (Sum.inl y) (.bl true))):=af
      generalize upd H5 S (.dK (putK lA (Sum.inl y) (.bl true)))=H6 at e6 s6 P1 SD P6
      have vl:Ly.length<sizeLine:=aL (by simp only[mq]at hml;omega)
      refine⟨_,rfl,.inl ⟨rfl,_,bG.of P1⟩,_,rfl,_,rfl,(by show 1≤sizeLine;decide),fun b1 hb1=>⟨wa,b1,_,_,rfl,rfl,aj hb1 _ _ _ SD,af,jb (aL (by rw[bY];simp at wl0 ⊢;omega)),fun o ho=>⟨W,_,_,rfl,rfl,aj ho _ _ _ (aj hb1 _ _ _ P1),vl,?_⟩⟩⟩
      have s7:aH H6 (upd H6 b1 (.lst [.int y])):=aj hb1 _
      have s8:=s7.trans (aj ho (.lst ((w1++[e]).map V.int++[.int y])))
      have noW:o≠W:=(au (s7 _ _ P1) ho).symm
      have SE:o≠S:=(au (s7 _ _ P6) ho).symm
      have e9:∀ {v:V} {ns:List Int},gU (fun a=>a=W∨a=S) H5 v ns→gU (fun a=>a=W∨a=S) (upd (upd (upd H6 b1 (.lst [.int y])) o (.lst ((w1++[e]).map V.int++[.int y]))) W (.lst (Ly++[.ref o]))) v ns:=fun h=>((e6 h).same s8).at _ (.inl rfl)
      have mp:=EE (n:=rows.length) (.bl true) y0 y1 ev
      have pl:(putK lA (Sum.inl y) (.bl true)).length=lA.length+1:=by rw[yU _ ev];simp
      have mono:∀ x,seen lA x→seen (putK lA (Sum.inl y) (.bl true)) x:=fun x q=>(qR _).mpr (.inr q)
      have sy:seen (putK lA (Sum.inl y) (.bl true)) y:=(qR _).mpr (.inl rfl)
      refine⟨Ly++[.ref o],Oo++[w1++[e]++[y]],putK lA (Sum.inl y) (.bl true),_,rfl,⟨af,bR.snoc (B5.hl.mono fun _ _ h=>e9 h) ⟨o,rfl,fun q=>q.elim noW SE,?_⟩,?_,bV QU (s6.trans s8) (aI W _ _),?_,?_,?_⟩,e9 Nm,e9 hz5,Ot _ mono sy,?_,?_⟩
      ·rw[aC noW,af,lK (l₁:=w1++[e])]
       rfl
      ·rw[aC Ol.symm]
       exact s8 _ _ P6
      ·intro w hw
       rcases List.mem_append.mp hw with q|q
       ·obtain⟨q1,q2,q3⟩:=B5.wk w q
        exact⟨q1,by omega,q3⟩
       ·have:w=w1++[e]++[y]:=by simpa using q
        subst this
        refine⟨wkw.snoc hle QV,?_,y,by simp,y0,y1⟩
        rw[eZ,ur,pl]
        omega
      ·omega
      ·intro x hx
       have old:(x=s∨seen lA x)→(∃ w∈Oo++[w1++[e]++[y]],w.getLast?=some x)∨x=e∨∀ y_1,Bs rows x y_1→y_1≠g∧seen (putK lA (Sum.inl y) (.bl true)) y_1:=fun q=>by
        rcases B5.cl x q with ⟨w,hw,hl⟩|q|q
        ·exact .inl ⟨w,List.mem_append_left _ hw,hl⟩
        ·exact .inr (.inl q)
        ·exact .inr (.inr fun y' hy'=>⟨(q y' hy').1,mono _ (q y' hy').2⟩)
       rcases hx with q|q
       ·exact old (.inl q)
       ·rcases (qR _).mp q with rfl|q'
        ·exact .inl ⟨w1++[e]++[x],by simp,by simp⟩
        ·exact old (.inr q')
      ·rw[eZ,ur]
       omega
      ·omega
   ·rintro σ H5 ⟨Ly,Oo,lA,v,rfl,B5,Nm,hz5,ER,hm5,hk5⟩
    rw[bY,kr]at ER
    have B6:Bfs rows H W S s g (fun _=>False) H5 Ly Oo lA:=⟨B5.hW,B5.hl,B5.hS,B5.sm,B5.wk,B5.kl,fun x hx=>by
     rcases B5.cl x hx with q|rfl|q
     ·exact .inl q
     ·refine .inr (.inr fun y hy=>ER y ?_)
      obtain⟨_,es',he',hy'⟩:=hy
      rw[mS]at he'
      cases he'
      exact hy'
     ·exact .inr (.inr q)⟩
    simp only[mq]at hml
    refine⟨⟨Ly,Oo,lA,_,_,rfl,B6,by omega⟩,?_⟩
    rw[Lx B6.hW B6.hS,mq]
    omega
inductive GA(vs:List V)(H:Hp)(Q:VK)(E:XK):Prop
 | mk (r:Addr) (s:Int) (_:vs=[.ref r,.int s]) (_:HW [.ref r,.int s,.int s] H Q E):GA vs H Q E
theorem P7:aG ["rows","sheet"] ["rows","sheet"] (ay AV):=⟨rfl,rfl,rfl,by decide +kernel,rfl,by decide +kernel,by decide +kernel⟩
theorem Np{f fI fJ:Addr}{fd BB fdJ:FuncData}(F:gX K "ring" "ring" AV f fd)(T:n9 mg)(b9:aA K mg "windows" eK oh fI BB)(jA:aA K mg "way_between" iB Iu fJ fdJ):aF P w K mg base bN 3 f fd vm GA:=by
 have Cy:aF P w K mg base bN 2 fJ fdJ Iu HW:=zh jA.F T b9
 refine F.ok P7 (fun vs H Q E h=>?_) (fun cdv A outer s H vs Q E hr h=>?_)
 ·obtain⟨r,s,rfl,_⟩:=h
  rfl
 obtain⟨r,s,rfl,h⟩:=h
 refine⟨_,(ao (aM (aP jA Cy hr (aa (pv 0) (aa (pv 1) (aa (pv 1) ah)))))),?_⟩
 refine⟨_,rfl,_,rfl,_,rfl,?_⟩
 obtain⟨r',rows,s',g,e,h1,h2,h3,h4,h5,h6,kY,kN⟩:=h
 cases e
 exact⟨r,rows,s,s,rfl,h1,h2,h3,h4,h5,h6,kY,kN⟩
def GB(f:Int→Int)(es:List Int):Int:=(es.map fun e=>if e<0 then 1+f (-1-e) else 1).sum
def Cz(f:Int→Int):Item→Int
 | .win n=>1+f n
 | .aB a b=>b-a
def ES(f:Int→Int)(its:List Item):Int:=(its.map (Cz f)).sum
theorem nO(f:Int→Int)(a b:List Item):ES f (a++b)=ES f a+ES f b:=by unfold ES;rw[lK,List.sum_append]
theorem Lz(f:Int→Int)(t:List Item)(e:Int):ES f (aT t e)=ES f t+(if e<0 then 1+f (-1-e) else 1):=by
 unfold aT
 by_cases h:e<0
 ·rw[if_pos h,if_pos h,nO]
  simp[ES,Cz]
 ·rw[if_neg h,if_neg h]
  rcases tD t with rfl|⟨t',l,rfl⟩
  ·simp[ES,Cz]
   omega
  ·rw[qA,vo]
   cases l with
   | win n =>
    show ES f (t'++[Item.win n]++[.aB e (e+1)])=_
    rw[nO]
    simp[ES,Cz]
    omega
   | aB a b =>
    show ES f (if b=e then (t'++[Item.aB a b]).dropLast++[.aB a (e+1)] else (t'++[Item.aB a b])++[.aB e (e+1)])=_
    by_cases hb:b=e
    ·rw[if_pos hb,List.dropLast_concat,nO,nO]
     simp[ES,Cz]
     omega
    ·rw[if_neg hb,nO]
     simp[ES,Cz]
     omega
theorem JA(f:Int→Int)(es:List Int):ES f (itemsOf es)=GB f es:=by
 have z:∀ t:List Item,ES f (es.foldl aT t)=ES f t+GB f es:=by
  induction es with
  | nil=>intro t;simp[GB]
  | cons e es ih =>
   intro t
   rw[oS,ih,Lz]
   unfold GB
   rw[kO,List.sum_cons]
   omega
 have:=z []
 unfold itemsOf
 rw[this]
 simp[ES]
def Weighs(rows:eY)(f:Int→Int):Prop:=∀ (x:Int) (es:List Int),0≤x→rows[x.toNat]?=some es→f x=GB f es
inductive P8(vs:List V)(H:Hp)(Q:VK)(E:XK):Prop
 | mk (v:V) (it:Item) (S:Addr) (kvs:List (Key × V)) (f:Int→Int) (_:vs=[v,.ref S]) (_:cO H v it) (_:H S=some (.dK kvs)) (_:(∀ n,it=.win n→bU kvs (Sum.inl n)=some (.int (f n)))) (_:Q (.int (Cz f it)) H):P8 vs H Q E
theorem Ax:aG ["item","weights"] ["item","weights"] (ay iC):=⟨rfl,rfl,rfl,by decide +kernel,rfl,by decide +kernel,by decide +kernel⟩
theorem zj{g:Addr}{fd:FuncData}(F:gX K "item_weight" "item_weight" iC g fd)(T:n9 mg):aF P w K mg base bN 1 g fd Iv P8:=by
 refine F.ok Ax (fun vs H Q E h=>?_) (fun cdv A outer s H vs Q E hr h=>?_)
 ·obtain⟨v,it,S,kvs,f,rfl,_⟩:=h
  rfl
 obtain⟨v,it,S,kvs,f,rfl,⟨a,rfl,ha⟩,hS,hw,k⟩:=h
 have hu:=mH hr
 refine⟨_,(ak (cy (cI mG (bu dN (pv 0) az (fun _ _=>rfl)) bT (cj _))
   (ao (aM (bH iy az (iY hu (pv 1) (bu dN (pv 0) az (fun _ _=>rfl)) (fun _ _=>rfl)))))
   bC)
   (ao (aM (bH kX (bu dN (pv 0) az (fun _ _=>rfl)) (bu dN (pv 0) az (fun _ _=>rfl)))))),?_⟩
 cases it with
 | win n =>
  refine⟨_,rfl,a,_,_,_,rfl,rfl,jK.of ha,rfl,rfl,_,rfl,ff (fun _=>?_) (fun z=>absurd (by decide) z)⟩
  have z:=oz.k (k:=Sum.inl n) hS
  rw[hw n rfl]at z
  exact⟨_,rfl,_,rfl,a,_,_,_,rfl,rfl,jK.of ha,rfl,S,_,rfl,z,_,_,rfl,rfl,k⟩
 | aB p q =>
  refine⟨_,rfl,a,_,_,_,rfl,rfl,jK.of ha,rfl,rfl,_,rfl,ff (fun z=>absurd z (by decide)) (fun _=>?_)⟩
  exact⟨_,rfl,a,_,_,_,rfl,rfl,jK.of ha,rfl,_,rfl,a,_,_,_,rfl,rfl,jK.of ha,rfl,_,_,rfl,rfl,k⟩
inductive tR(vs:List V)(H:Hp)(Q:VK)(E:XK):Prop
 | mk (r L:Addr) (rows:eY) (ss:List Int) (f:Int→Int) (_:vs=[.ref r,.ref L]) (_:iN H r (rows.map itemsOf)) (_:H L=some (.lst (ss.map V.int))) (_:ss.length≤1000) (_:rows.length≤1000) (_:(∀ es∈rows,es.length≤1000)) (_:Sound rows) (_:HL rows) (_:(∀ s∈ss,0≤s∧s<rows.length)) (_:Weighs rows f) (_ :
 ∀ (S:Addr) (kvs:List (Key × V)) (H':Hp),H' S=some (.dK kvs)→(∀ s∈ss,bU kvs (Sum.inl s)=some (.int (f s)))→aH H H'→H S=none→Q (.ref S) H'):tR vs H Q E
theorem mC:aG ["rows","sheets","weights","number"] ["rows","sheets"] (ay eL):=⟨rfl,rfl,rfl,by decide +kernel,rfl,by decide +kernel,by decide +kernel⟩
theorem vS{g fI fB fW:Addr}{fd BB Nq FJ:FuncData}(F:gX K "weights_below" "weights_below" eL g fd)(T:n9 mg)(b9:aA K mg "windows" eK oh fI BB)(j4:aA K mg "below" kZ mj fB Nq)(jB:aA K mg "item_weight" iC Iv fW FJ):aF P w K mg base bN 3 g fd mj tR:=by
 have GC:aF P w K mg base bN 2 fB Nq mj yc:=EO j4.F T b9
 have CA:aF P w K mg base bN 1 fW FJ Iv P8:=zj jB.F T
 refine F.ok mC (fun vs H Q E h=>?_) (fun cdv A outer s0 H vs Q E hr h=>?_)
 ·obtain⟨r,L,rows,ss,f,rfl,_⟩:=h
  rfl
 obtain⟨r,L,rows,ss,f,rfl,hR,hL,hsl,hlen,hes,Lv,hrk,hin,hf,k⟩:=h
 have hu:=mH hr
 refine⟨_,(ak (aQ (i:=2) mC.nd rfl (Or.inr rfl) nK)
   (ak (iV PassesOwn.never rfl (cH (aP j4 GC hr (aa (pv 0) (aa (pv 1) ah)))) (aV (i:=3) mC.nd rfl (Or.inl rfl))
   (ao (uJ hu (pv 2) (pv 3) (aO (Eb rfl) rfl T.Oh PyProof.Rows.boot_sum (aa (lW (N:=["item","weights"]) (qQ (sc:=ay eL) (NX:=["rows","sheets","weights","number"]) (jx:=[none,some 2]) rfl rfl rfl (by decide +kernel) (by decide +kernel) rfl (by decide +kernel) rfl (by decide +kernel)) rfl (cH (bu bw (pv 0) (pv 3) (fun _ _=>rfl))) (fun _ _ _ _ _ _=>(aV (i:=0) (show List.Nodup (["item","weights"]:List Str) by decide +kernel) rfl (Or.inl rfl))) (fun _ _ _ _ _ _=>iG) (fun _ _ _ _ _ _=>(aP jB CA hr (aa (pv 0) (aa (pv 1) ah))))) ah)) rfl)))
   (ao (aM (pv 2))))),?_⟩
 intro S hS
 have s1:aH H (upd H S (.dK [])):=aj hS _
 refine⟨_,rfl,_,rfl,r,L,rows,ss,rfl,hR.same s1,s1 _ _ hL,hsl,hlen,hes,Lv,hrk,hin,fun ks o H2 ho s2 tp sk kl hno=>?_⟩
 have PV:=s2 _ _ (af (H:=H) (a:=S) (o:=.dK []))
 have SE:o≠S:=(au af hno).symm
 refine⟨o,rfl,⟨_,bG.of ho⟩,jM (K:=K) (a:=o) (xs:=ks.map V.int) (fun i σ H3=>∃ (kvs:List (Key × V)) (u:Option V),σ=[some (.ref r),some (.ref L),some (.ref S),u]∧H3 S=some (.dK kvs)∧(∀ y∈ks.take i,bU kvs (Sum.inl y)=some (.int (f y)))∧kvs.length≤i∧(∀ a ob,a≠S→H2 a=some ob→H3 a=some ob)) ⟨[],none,rfl,PV,(fun y hy=>by simp at hy),fH _,fun _ _ _ e=>e⟩ ?_ ?_ ?_⟩
 ·rintro i σ H3 _ ⟨_,_,_,_,_,_,k3⟩
  exact bG.of (k3 o _ SE ho)
 ·rintro i x σ H3 hi ⟨kvs,u,rfl,Jz,J1,hk3,k3⟩
  rw[qG]at hi
  obtain⟨x,ex,rfl⟩:=Option.map_eq_some_iff.mp hi
  obtain⟨x0,x1⟩:=tp.Dz x (rW ex)
  obtain⟨es,mS⟩:∃ es,rows[x.toNat]?=some es:=⟨_,oj (by omega)⟩
  have Sx:=hes es (rW mS)
  have P5:aH H H3:=fun a ob e=>k3 a ob (au e hS) (s2 _ _ (s1 _ _ e))
  obtain⟨HV,Jt,uP⟩:=hR.same P5
  obtain⟨vi,Nl,hI⟩:=uP.get' (i:=x.toNat) (b:=itemsOf es) (by rw[qG,mS];rfl)
  obtain⟨b,Mg,rfl,hb,hit⟩:=id hI
  have hil:=rK es []
  have ai9:(itemsOf es).length≤1000:=by
   show (es.foldl aT []).length≤_
   simp only[oq]at hil
   omega
  have Lw:uE HV x=some (.ref b):=by
   have z:=cU Nl
   rw[show ((x.toNat:Nat):Int)=x by omega]at z
   exact z
  refine⟨_,rfl,_,rfl,r,_,_,_,rfl,rfl,bG.of Jt,Lw,b,rfl,⟨_,bG.of hb⟩,fun acc hacc=>jo (K:=K) (a:=b) (xs:=Mg) (fun j σ H5=>∃ u:Option V,σ=[u,some (.ref S)]∧H5 acc=some (.lst ((((itemsOf es).take j).map (Cz f)).map V.int))∧aH H3 H5) ⟨none,rfl,af,aj hacc _⟩ (fun j σ H5 _ ⟨_,_,_,s5⟩=>bG.of (s5 _ _ hb)) ?_ ?_⟩
  ·rintro j v σ H5 hj ⟨u,rfl,h5,s5⟩
   obtain⟨it,ei,hiv⟩:=hit.get hj
   have st:=take_snoc ei
   unfold wG KR
   refine jI ⟨_,rfl,_,rfl,v,it,S,kvs,f,rfl,hiv.same s5,s5 _ _ Jz,fun n hn=>?_,?_⟩
   ·subst hn
    refine J1 n (tp.dn i x ex n ⟨x0,es,mS,?_⟩)
    rw[← jz]
    unfold dP
    rw[List.mem_filterMap]
    exact⟨.win n,rW ei,rfl⟩
   ·refine⟨_,h5,(by rw[bY,bY,ko];exact aL (by omega)),_,rfl,?_,bV hacc s5 (aI acc _ _)⟩
    rw[af,st,lK,lK]
    rfl
  ·rintro σ H5 ⟨u,rfl,h5,s5⟩
   rw[hit.len,kr]at h5
   have es1:((itemsOf es).map (Cz f)).sum=f x:=by rw[hf x es x0 mS];exact JA f es
   have Ur:=s5 _ _ Jz
   have kvl:i<ks.length:=by
    rcases Nat.lt_or_ge i ks.length with q|q
    ·exact q
    ·rw[List.getElem?_eq_none q]at ex;cases ex
   refine⟨acc,_,rfl,bG.of h5,?_⟩
   rw[es1]
   refine⟨_,rfl,_,rfl,S,_,rfl,Cj.k (k:=Sum.inl x) Ur (aL (by omega)),?_⟩
   refine⟨putK kvs (Sum.inl x) (.int (f x)),_,rfl,af,fun y hy=>?_,?_,fun a ob n e=>?_⟩
   ·rw[lV]
    rw[take_snoc ex]at hy
    by_cases c:y=x
    ·rw[if_pos (by rw[c]),c]
    ·rw[if_neg (fun z=>c (Sum.inl.inj z))]
     rcases List.mem_append.mp hy with q|q
     ·exact J1 y q
     ·exact absurd (by simpa using q) c
   ·have:=jm kvs (Sum.inl x) (V.int (f x))
    omega
   ·rw[aC n]
    exact s5 _ _ (k3 a ob n e)
 ·rintro σ H3 ⟨kvs,u,rfl,Jz,J1,hk3,k3⟩
  rw[bY,kr]at J1
  exact⟨_,rfl,k S kvs H3 Jz (fun s hs=>J1 s (sk s hs)) (fun a ob e=>k3 a ob (au e hS) (s2 _ _ (s1 _ _ e))) hS⟩
def qt(g:Int→Row):Item→Row
 | .win n=>g n
 | .aB a b=>[(a,b)]
def pO(sh:Int→List Int)(e:Int):List Int:=if e<0 then sh (-1-e) else [e]
def dY(sh:Int→List Int)(es:List Int):List Int:=es.flatMap (pO sh)
def ET(rows:eY)(sh:Int→List Int):Prop:=∀ (x:Int) (es:List Int),0≤x→rows[x.toNat]?=some es→sh x=dY sh es
def aZ(sh:Int→List Int)(its:List Item):Row:=its.flatMap (qt fun n=>rowOf (sh n))
def sU(t:List Item):Prop:=∀ a b,Item.aB a b∈t→a<b
theorem dZ(sh:Int→List Int)(a b:List Item):aZ sh (a++b)=aZ sh a++aZ sh b:=by unfold aZ;rw[List.flatMap_append]
theorem lC(sh:Int→List Int)(it:Item):aZ sh [it]=qt (fun n=>rowOf (sh n)) it:=by simp[aZ]
theorem JB(sh:Int→List Int)(t:List Item)(e:Int)(ok:sU t):aS (aZ sh (aT t e))=aS (aZ sh t)++pO sh e∧sU (aT t e):=by
 have add:∀ it:Item,(∀ a b,it=.aB a b→a<b)→sU (t++[it]):=fun it h a b hm=>by
  rcases List.mem_append.mp hm with z|z
  ·exact ok a b z
  ·exact h a b (List.mem_singleton.mp z).symm
 unfold aT
 by_cases h:e<0
 ·rw[if_pos h]
  refine⟨?_,add _ fun a b z=>by cases z⟩
  rw[dZ,cC,lC]
  show _++aS (rowOf (sh (-1-e)))=_
  rw[dX]
  unfold pO
  rw[if_pos h]
 ·rw[if_neg h]
  have one:aS [(e,e+1)]=[e]:=by
   rw[gS]
   unfold span
   have:(e+1-e).toNat=1:=by omega
   show run e (e+1-e).toNat=_
   rw[this]
   rfl
  have es1:pO sh e=[e]:=by unfold pO;rw[if_neg h]
  have uQ:aS (aZ sh (t++[.aB e (e+1)]))=aS (aZ sh t)++pO sh e∧sU (t++[.aB e (e+1)]):=by
   refine⟨?_,add _ fun a b z=>by cases z;omega⟩
   rw[dZ,cC,lC,es1]
   show _++aS [(e,e+1)]=_
   rw[one]
  rcases tD t with rfl|⟨t',l,rfl⟩
  ·exact uQ
  ·rw[qA]at ok add uQ ⊢
   rw[vo]
   cases l with
   | win n=>exact uQ
   | aB a b =>
    show aS (aZ sh (if b=e then (t'++[Item.aB a b]).dropLast++[.aB a (e+1)] else (t'++[Item.aB a b])++[.aB e (e+1)]))=_∧sU (if b=e then (t'++[Item.aB a b]).dropLast++[.aB a (e+1)] else (t'++[Item.aB a b])++[.aB e (e+1)])
    by_cases hb:b=e
    ·subst hb
     have ab:=ok a b (by simp)
     rw[if_pos rfl,List.dropLast_concat]
     refine⟨?_,fun p q hm=>?_⟩
     ·rw[dZ,dZ,cC,cC,lC,lC,es1,pC]
      congr 1
      show aS [(a,b+1)]=aS [(a,b)]++[b]
      rw[gS,gS]
      unfold span
      show run a (b+1-a).toNat=run a (b-a).toNat++[b]
      have:(b+1-a).toNat=(b-a).toNat+1:=by omega
      rw[this,uI]
      congr 2
      omega
     ·rcases List.mem_append.mp hm with z|z
      ·exact ok p q (List.mem_append_left _ z)
      ·have z':Item.aB p q=Item.aB a (b+1):=by simpa using z
       cases z'
       omega
    ·rw[if_neg hb]
     exact uQ
theorem zk(sh:Int→List Int)(es:List Int):aS (aZ sh (itemsOf es))=dY sh es∧sU (itemsOf es):=by
 have z:∀ t:List Item,sU t→aS (aZ sh (es.foldl aT t))=aS (aZ sh t)++dY sh es∧sU (es.foldl aT t):=by
  induction es with
  | nil=>intro t ok;exact⟨by simp[dY],ok⟩
  | cons e es ih =>
   intro t ok
   obtain⟨h1,h2⟩:=JB sh t e ok
   obtain⟨h3,h4⟩:=ih _ h2
   refine⟨?_,h4⟩
   rw[oS,h3,h1,pC]
   unfold dY
   rw[nh]
 have q:=z [] (fun a b h=>by cases h)
 refine⟨?_,q.2⟩
 unfold itemsOf
 rw[q.1]
 rfl
theorem JC(sh:Int→List Int)(it:Item)(h:∀ a b,it=.aB a b→a<b):(qt (fun n=>rowOf (sh n)) it).length≤(aS (qt (fun n=>rowOf (sh n)) it)).length:=by
 cases it with
 | win n =>
  show (rowOf (sh n)).length≤(aS (rowOf (sh n))).length
  rw[dX]
  have z:=Em (sh n) []
  simpa [rowOf] using z
 | aB a b =>
  have ab:=h a b rfl
  show 1≤(aS [(a,b)]).length
  rw[gS]
  unfold span
  show 1≤(run a (b-a).toNat).length
  rw[HM]
  omega
theorem tS(sh:Int→List Int):∀ its:List Item,sU its→(aZ sh its).length≤(aS (aZ sh its)).length
 | [],_=>by simp[aZ]
 | it::its,h=>by
  have e:aZ sh (it::its)=qt (fun n=>rowOf (sh n)) it++aZ sh its:=by unfold aZ;rw[nh]
  rw[e,cC,eZ,eZ]
  have a:=JC sh it (fun a b z=>h a b (by rw[← z];simp))
  have b:=tS sh its (fun a b z=>h a b (rV _ z))
  omega
theorem JD(sh:Int→List Int)(its:List Item)(h:sU its):∀ p∈aZ sh its,p.1≤p.2:=by
 intro p hp
 unfold aZ at hp
 obtain⟨it,hi,hm⟩:=List.mem_flatMap.mp hp
 cases it with
 | win n=>exact pK _ p hm
 | aB a b =>
  have:p=(a,b):=by simpa [qt] using hm
  subst this
  have:=h a b hi
  show a≤b
  omega
inductive rM(vs:List V)(H:Hp)(Q:VK)(E:XK):Prop
 | mk (v:V) (it:Item) (S:Addr) (kvs:List (Key × V)) (g:Int→Row) (_:vs=[v,.ref S]) (_:cO H v it) (_:H S=some (.dK kvs)) (_:(∀ n,it=.win n→∃ a,bU kvs (Sum.inl n)=some (.ref a)∧bP H a (g n))) (_ :
 ∀ (a:Addr) (H':Hp),bP H' a (qt g it)→aH H H'→((∃ n,it=.win n∧bU kvs (Sum.inl n)=some (.ref a))∨H a=none)→Q (.ref a) H'):rM vs H Q E
theorem GD:aG ["item","views"] ["item","views"] (ay gJ):=⟨rfl,rfl,rfl,by decide +kernel,rfl,by decide +kernel,by decide +kernel⟩
theorem wW{f:Addr}{fd:FuncData}(F:gX K "item_row" "item_row" gJ f fd)(T:n9 mg):aF P w K mg base bN 1 f fd yi rM:=by
 refine F.ok GD (fun vs H Q E h=>?_) (fun cdv A outer s H vs Q E hr h=>?_)
 ·obtain⟨v,it,S,kvs,g,rfl,_⟩:=h
  rfl
 obtain⟨v,it,S,kvs,g,rfl,⟨a,rfl,ha⟩,hS,hw,k⟩:=h
 have hu:=mH hr
 refine⟨_,(ak (cy (cI mG (bu dN (pv 0) az (fun _ _=>rfl)) bT (cj _))
   (ao (aM (iY hu (pv 1) (bu dN (pv 0) az (fun _ _=>rfl)) (fun _ _=>rfl))))
   bC)
   (ao (aM (bI (aa (jH (aa (bu dN (pv 0) az (fun _ _=>rfl)) (aa (bu dN (pv 0) az (fun _ _=>rfl)) ah))) ah))))),?_⟩
 cases it with
 | win n =>
  refine⟨_,rfl,a,_,_,_,rfl,rfl,jK.of ha,rfl,rfl,_,rfl,ff (fun _=>?_) (fun z=>absurd (by decide) z)⟩
  obtain⟨b,hb,Rb⟩:=hw n rfl
  have z:=oz.k (k:=Sum.inl n) hS
  rw[hb]at z
  exact⟨_,rfl,_,rfl,a,_,_,_,rfl,rfl,jK.of ha,rfl,S,_,rfl,z,k b H Rb (aH.refl H) (.inl ⟨n,rfl,hb⟩)⟩
 | aB p q =>
  refine⟨_,rfl,a,_,_,_,rfl,rfl,jK.of ha,rfl,rfl,_,rfl,ff (fun z=>absurd z (by decide)) (fun _=>?_)⟩
  refine⟨_,rfl,a,_,_,_,rfl,rfl,jK.of ha,rfl,_,rfl,a,_,_,_,rfl,rfl,jK.of ha,rfl,(by show 2≤sizeLine;decide),fun t ht=>⟨(by show 1≤sizeLine;decide),fun l hl=>?_⟩⟩
  have s1:aH H (upd H t (.tup [.int p,.int q])):=aj ht _
  have s2:=s1.trans (aj hl (.lst [.ref t]))
  refine k l _ ⟨[t],af,.cons ?_ .nil⟩ s2 (.inr ?_)
  ·exact aj hl _ _ _ af
  ·cases e:H l with
   | none=>rfl
   | some o=>exact absurd ((s1 _ _ e).symm.trans hl) (by simp)
theorem aX.EU{H H':Hp}{S:Addr}{kvs:List (Key × V)}(hS:H S=some (.dK kvs))(k:∀ a ob,a≠S→H a=some ob→H' a=some ob):∀ {as:List Addr} {r:Row},aX H as r→aX H' as r
 | _,_,.nil=>.nil
 | _,_,.cons r t=>.cons (k _ _ (fun z=>by
   have r':=r
   unfold vD at r'
   rw[z,hS]at r'
   cases r') r) (aX.EU hS k t)
theorem bP.EU{H H':Hp}{S a:Addr}{kvs:List (Key × V)}{row:Row}(hS:H S=some (.dK kvs))(n:a≠S)(k:∀ a ob,a≠S→H a=some ob→H' a=some ob)(R:bP H a row):bP H' a row:=by
 obtain⟨as,h,p⟩:=R
 exact⟨as,k _ _ n h,p.EU hS k⟩
def HX(H:Hp)(kvs:List (Key × V))(sh:Int→List Int)(xs:List Int):Prop:=∀ x∈xs,∃ a,bU kvs (Sum.inl x)=some (.ref a)∧bP H a (rowOf (sh x))
inductive yd(vs:List V)(H:Hp)(Q:VK)(E:XK):Prop
 | mk (r L:Addr) (rows:eY) (ss:List Int) (sh:Int→List Int) (_:vs=[.ref r,.ref L]) (_:iN H r (rows.map itemsOf)) (_:H L=some (.lst (ss.map V.int))) (_:ss.length≤1000) (_:rows.length≤1000) (_:(∀ es∈rows,es.length≤1000)) (_:Sound rows) (_:HL rows) (_:(∀ s∈ss,0≤s∧s<rows.length)) (_:ET rows sh) (_:(∀ x:Int,0≤x→x<rows.length→(sh x).length≤10000)) (_ :
 ∀ (S:Addr) (kvs:List (Key × V)) (ks:List Int) (H':Hp),H' S=some (.dK kvs)→HX H' kvs sh ks→Jy rows ks→(∀ s∈ss,s∈ks)→(∀ x∈ks,∀ a,bU kvs (Sum.inl x)=some (.ref a)→H a=none)→aH H H'→H S=none→Q (.ref S) H'):yd vs H Q E
theorem oY:aG ["rows","sheets","views","number"] ["rows","sheets"] (ay dO):=⟨rfl,rfl,rfl,by decide +kernel,rfl,by decide +kernel,by decide +kernel⟩
theorem qU{g fI fB fW fP:Addr}{fd BB Nq FJ Nr:FuncData}(F:gX K "views_below" "views_below" dO g fd)(T:n9 mg)(b9:aA K mg "windows" eK oh fI BB)(j4:aA K mg "below" kZ mj fB Nq)(cZ:aA K mg "item_row" gJ yi fW FJ)(j5:aA K mg "plain" ny iu fP Nr):aF P w K mg base bN 3 g fd mj yd:=by
 have GC:aF P w K mg base bN 2 fB Nq mj yc:=EO j4.F T b9
 have vU:aF P w K mg base bN 1 fW FJ yi rM:=wW cZ.F T
 have GF:aF P w K mg base bN 1 fP Nr iu xT:=EK j5.F
 refine F.ok oY (fun vs H Q E h=>?_) (fun cdv A outer s0 H vs Q E hr h=>?_)
 ·obtain⟨r,L,rows,ss,sh,rfl,_⟩:=h
  rfl
 obtain⟨r,L,rows,ss,sh,rfl,hR,hL,hsl,hlen,hes,Lv,hrk,hin,hsh,hbd,k⟩:=h
 have hu:=mH hr
 refine⟨_,(ak (aQ (i:=2) oY.nd rfl (Or.inr rfl) nK)
   (ak (iV PassesOwn.never rfl (cH (aP j4 GC hr (aa (pv 0) (aa (pv 1) ah)))) (aV (i:=3) oY.nd rfl (Or.inl rfl))
   (ao (uJ hu (pv 2) (pv 3) (aP j5 GF hr (aa (Jj (N:=["item","stretch","views"]) (qQ (sc:=ay dO) (NX:=["rows","sheets","views","number"]) (jx:=[none,none,some 2]) rfl rfl rfl (by decide +kernel) (by decide +kernel) rfl (by decide +kernel) rfl (by decide +kernel)) rfl (cH (bu bw (pv 0) (pv 3) (fun _ _=>rfl))) (fun _ _ _ _ _ _=>(aV (i:=0) (show List.Nodup (["item","stretch","views"]:List Str) by decide +kernel) rfl (Or.inl rfl))) (fun _ _ _ _ _ _=>iG) (fun _ _ _ _ _ _=>(Le (aP cZ vU hr (aa (pv 0) (aa (pv 2) ah))))) (fun _ _ _ _ _ _=>(aV (i:=1) (show List.Nodup (["item","stretch","views"]:List Str) by decide +kernel) rfl (Or.inl rfl))) (fun _ _ _ _ _ _=>iG) (fun _ _ _ _ _ _=>(pv 1))) ah)) rfl)))
   (ao (aM (pv 2))))),?_⟩
 intro S hS
 have s1:aH H (upd H S (.dK [])):=aj hS _
 refine⟨_,rfl,_,rfl,r,L,rows,ss,rfl,hR.same s1,s1 _ _ hL,hsl,hlen,hes,Lv,hrk,hin,fun ks o H2 ho s2 tp sk kl hno=>?_⟩
 have PV:=s2 _ _ (af (H:=H) (a:=S) (o:=.dK []))
 have SE:o≠S:=(au af hno).symm
 refine⟨o,rfl,⟨_,bG.of ho⟩,jM (K:=K) (a:=o) (xs:=ks.map V.int) (fun i σ H3=>∃ (kvs:List (Key × V)) (u:Option V),σ=[some (.ref r),some (.ref L),some (.ref S),u]∧H3 S=some (.dK kvs)∧HX H3 kvs sh (ks.take i)∧kvs.length≤i∧(∀ x a,bU kvs (Sum.inl x)=some (.ref a)→H a=none∧a≠S)∧(∀ a ob,a≠S→H2 a=some ob→H3 a=some ob)) ⟨[],none,rfl,PV,(fun y hy=>by simp at hy),fH _,(fun x a e=>by cases e),fun _ _ _ e=>e⟩ ?_ ?_ ?_⟩
 ·rintro i σ H3 _ ⟨_,_,_,_,_,_,_,k3⟩
  exact bG.of (k3 o _ SE ho)
 ·rintro i x σ H3 hi ⟨kvs,u,rfl,Jz,J1,hk3,Ut,k3⟩
  rw[qG]at hi
  obtain⟨x,ex,rfl⟩:=Option.map_eq_some_iff.mp hi
  obtain⟨x0,x1⟩:=tp.Dz x (rW ex)
  obtain⟨es,mS⟩:∃ es,rows[x.toNat]?=some es:=⟨_,oj (by omega)⟩
  have P5:aH H H3:=fun a ob e=>k3 a ob (au e hS) (s2 _ _ (s1 _ _ e))
  obtain⟨HV,Jt,uP⟩:=hR.same P5
  obtain⟨vi,Nl,hI⟩:=uP.get' (i:=x.toNat) (b:=itemsOf es) (by rw[qG,mS];rfl)
  obtain⟨b,Mg,rfl,hb,hit⟩:=id hI
  obtain⟨F5,hok⟩:=zk sh es
  have shx:=hsh x es x0 mS
  have tot:(aZ sh (itemsOf es)).length≤10000:=by
   have z:=tS sh (itemsOf es) hok
   rw[F5,← shx]at z
   have:=hbd x x0 x1
   omega
  have part:∀ j,(aZ sh ((itemsOf es).take j)).length≤10000:=fun j=>by
   have e:aZ sh (itemsOf es)=aZ sh ((itemsOf es).take j)++aZ sh ((itemsOf es).drop j):=by rw[← dZ,List.take_append_drop]
   rw[e,eZ]at tot
   omega
  have Lw:uE HV x=some (.ref b):=by
   have z:=cU Nl
   rw[show ((x.toNat:Nat):Int)=x by omega]at z
   exact z
  refine⟨_,rfl,_,rfl,r,_,_,_,rfl,rfl,bG.of Jt,Lw,b,rfl,⟨_,bG.of hb⟩,fun acc hacc=>EA (K:=K) (a:=b) (xs:=Mg) (fun j σ H5=>∃ (u v:Option V) (as:List Addr),σ=[u,v,some (.ref S)]∧H5 acc=some (.lst (as.map V.ref))∧aX H5 as (aZ sh ((itemsOf es).take j))∧aH H3 H5) ⟨none,none,[],rfl,af,.nil,aj hacc _⟩ (fun j σ H5 _ ⟨_,_,_,_,_,_,s5⟩=>bG.of (s5 _ _ hb)) ?_ ?_⟩
  ·rintro j v σ H5 hj ⟨u,u2,as,rfl,h5,p5,s5⟩
   obtain⟨it,ei,hiv⟩:=hit.get hj
   have st:aZ sh ((itemsOf es).take (j+1))=aZ sh ((itemsOf es).take j)++qt (fun n=>rowOf (sh n)) it:=by rw[take_snoc ei,dZ,lC]
   refine PD ?_
   refine jI ?_
   refine⟨_,rfl,_,rfl,v,it,S,kvs,(fun n=>rowOf (sh n)),rfl,hiv.same s5,s5 _ _ Jz,fun n hn=>?_,fun a2 H6 R6 s6 hor=>?_⟩
   ·subst hn
    obtain⟨a,ha,Ra⟩:=J1 n (tp.dn i x ex n ⟨x0,es,mS,by
     rw[← jz]
     unfold dP
     rw[List.mem_filterMap]
     exact⟨.win n,rW ei,rfl⟩⟩)
    exact⟨a,ha,Ra.same s5⟩
   obtain⟨P9,h6a,p6⟩:=id R6
   have na2:a2≠acc:=by
    rcases hor with ⟨n,hn,hv⟩|hn
    ·subst hn
     obtain⟨a,ha,as0,h0',_⟩:=J1 n (tp.dn i x ex n ⟨x0,es,mS,by
      rw[← jz]
      unfold dP
      rw[List.mem_filterMap]
      exact⟨.win n,rW ei,rfl⟩⟩)
     rw[hv]at ha
     cases ha
     exact au h0' hacc
    ·exact (au h5 hn).symm
   have h6:=s6 _ _ h5
   have pl:=part (j+1)
   rw[st,eZ]at pl
   have al:=p5.len
   have al2:=p6.len
   refine⟨a2,rfl,⟨_,bG.of h6a⟩,Gn (K:=K) (a:=a2) (acc:=acc) (g:=wG 1) (tt:=KR) (te:=My 1) (xs:=P9.map V.ref) (fun l σ H7=>∃ v2:Option V,σ=[some v,v2,some (.ref S)]∧H7 acc=some (.lst ((as++P9.take l).map V.ref))∧aX H7 (as++P9.take l) (aZ sh ((itemsOf es).take j)++(qt (fun n=>rowOf (sh n)) it).take l)∧cA acc H6 H7∧aH H3 H7) ?_ ?_ ?_ ?_⟩
   ·exact⟨u2,rfl,(by simpa using h6),(by simpa using p5.same s6),(fun _ _ e _=>e),s5.trans s6⟩
   ·rintro l σ H7 _ ⟨_,_,_,_,K7,_⟩
    exact bG.of (K7 a2 _ h6a na2)
   ·rintro l y σ H7 hl ⟨v2,rfl,h7,p7,K7,s7⟩
    rw[qG]at hl
    obtain⟨t,et,rfl⟩:=Option.map_eq_some_iff.mp hl
    obtain⟨pr,epr,hpr⟩:=p6.get et
    have ll:l<P9.length:=by
     rcases Nat.lt_or_ge l P9.length with q|q
     ·exact q
     ·rw[List.getElem?_eq_none q]at et;cases et
    have SG:vD H7 t pr:=K7 t _ hpr (fun z=>by
     have q:H6 acc=some (.tup [.int pr.1,.int pr.2]):=by rw[← z];exact hpr
     rw[h6]at q
     cases q)
    have K8:cA acc H7 (upd H7 acc (.lst ((as++P9.take l).map V.ref++[.ref t]))):=aI acc _ _
    refine PD ?_
    refine jI ?_
    refine⟨_,rfl,_,h7,?_,_,rfl,?_,?_,?_,bV hacc s7 K8⟩
    ·rw[bY,eZ,ko]
     exact aL (by omega)
    ·rw[af,take_snoc et,← pC,lK (l₁:=as++P9.take l)]
     rfl
    ·rw[take_snoc et,take_snoc epr,← pC,← pC]
     exact aX.snoc (p7.keep h7 K8) (K8 t _ SG (fun z=>by
      have q:H7 acc=some (.tup [.int pr.1,.int pr.2]):=by rw[← z];exact SG
      rw[h7]at q
      cases q))
    ·exact fun a ob e n=>K8 a ob (K7 a ob e n) n
   ·rintro σ H7 ⟨v2,rfl,h7,p7,K7,s7⟩
    rw[bY,kr]at h7 p7
    rw[al2,kr]at p7
    exact⟨_,_,_,rfl,h7,(by rw[st];exact p7),s7⟩
  ·rintro σ H5 ⟨u,u2,as,rfl,h5,p5,s5⟩
   rw[hit.len,kr]at p5
   have kvl:i<ks.length:=by
    rcases Nat.lt_or_ge i ks.length with q|q
    ·exact q
    ·rw[List.getElem?_eq_none q]at ex;cases ex
   refine⟨acc,_,rfl,⟨as,h5,p5⟩,by omega,fun q H6 R6 s6 hq=>?_⟩
   have P6:=s6 _ _ (s5 _ _ Jz)
   have nqS:q≠S:=(au (s5 _ _ Jz) hq).symm
   have er:dm (aZ sh (itemsOf es))=rowOf (sh x):=by rw[Ec _ (JD sh _ hok),F5,shx]
   rw[er]at R6
   have k7:∀ a ob,a≠S→H6 a=some ob→upd H6 S (.dK (putK kvs (Sum.inl x) (.ref q))) a=some ob:=fun a ob n e=>by rw[aC n];exact e
   refine⟨_,rfl,_,rfl,S,_,rfl,Cj.k (k:=Sum.inl x) P6 (aL (by omega)),?_⟩
   refine⟨putK kvs (Sum.inl x) (.ref q),_,rfl,af,fun y hy=>?_,?_,fun y a e=>?_,fun a ob n e=>k7 a ob n (s6 _ _ (s5 _ _ (k3 a ob n e)))⟩
   ·rw[lV]
    by_cases c:y=x
    ·rw[if_pos (by rw[c]),c]
     exact⟨q,rfl,R6.EU P6 nqS k7⟩
    ·rw[if_neg (fun z=>c (Sum.inl.inj z))]
     rw[take_snoc ex]at hy
     rcases List.mem_append.mp hy with z|z
     ·obtain⟨a,ha,Ra⟩:=J1 y z
      exact⟨a,ha,((Ra.same s5).same s6).EU P6 (Ut y a ha).2 k7⟩
     ·exact absurd (by simpa using z) c
   ·have:=jm kvs (Sum.inl x) (V.ref q)
    omega
   ·rw[lV]at e
    by_cases c:y=x
    ·rw[if_pos (by rw[c])]at e
     cases e
     refine⟨?_,nqS⟩
     cases z:H q with
     | none=>rfl
     | some ob=>exact absurd ((s5 _ _ (P5 _ _ z)).symm.trans hq) (by simp)
    ·rw[if_neg (fun z=>c (Sum.inl.inj z))]at e
     exact Ut y a e
 ·rintro σ H3 ⟨kvs,u,rfl,Jz,J1,hk3,Ut,k3⟩
  rw[bY,kr]at J1
  exact⟨_,rfl,k S kvs ks H3 Jz J1 tp sk (fun x _ a e=>(Ut x a e).1) (fun a ob e=>k3 a ob (au e hS) (s2 _ _ (s1 _ _ e))) hS⟩
inductive CC(vs:List V)(H:Hp)(Q:VK)(E:XK):Prop
 | mk (r:Addr) (rows:eY) (s:Int) (sh:Int→List Int) (_:vs=[.ref r,.int s]) (_:iN H r (rows.map itemsOf)) (_:rows.length≤1000) (_:(∀ es∈rows,es.length≤1000)) (_:Sound rows) (_:HL rows) (_:0≤s) (_:s<rows.length) (_:ET rows sh) (_:(∀ x:Int,0≤x→x<rows.length→(sh x).length≤10000)) (_ :
 ∀ (o:Addr) (H':Hp),bP H' o (rowOf (sh s))→aH H H'→H o=none→Q (.ref o) H'):CC vs H Q E
theorem Nt:aG ["rows","sheet"] ["rows","sheet"] (ay yH):=⟨rfl,rfl,rfl,by decide +kernel,rfl,by decide +kernel,by decide +kernel⟩
theorem LA{g fI fB fW fP fV:Addr}{fd BB Nq FJ Nr SH:FuncData}(F:gX K "shown" "shown" yH g fd)(T:n9 mg)(b9:aA K mg "windows" eK oh fI BB)(j4:aA K mg "below" kZ mj fB Nq)(cZ:aA K mg "item_row" gJ yi fW FJ)(j5:aA K mg "plain" ny iu fP Nr)(gj:aA K mg "views_below" dO mj fV SH):aF P w K mg base bN 4 g fd vm CC:=by
 have pY:aF P w K mg base bN 3 fV SH mj yd:=qU gj.F T b9 j4 cZ j5
 refine F.ok Nt (fun vs H Q E h=>?_) (fun cdv A outer s0 H vs Q E hr h=>?_)
 ·obtain⟨r,rows,s,sh,rfl,_⟩:=h
  rfl
 obtain⟨r,rows,s,sh,rfl,hR,hlen,hes,Lv,hrk,h0,h1,hsh,hbd,k⟩:=h
 have hu:=mH hr
 refine⟨_,(ao (aM (iY hu (aP gj pY hr (aa (pv 0) (aa (bI (aa (pv 1) ah)) ah))) (pv 1) (fun _ _=>rfl)))),?_⟩
 refine⟨_,rfl,_,rfl,(by show 1≤sizeLine;decide),fun L hL=>?_⟩
 have s1:aH H (upd H L (.lst [.int s])):=aj hL _
 refine⟨r,L,rows,[s],sh,rfl,hR.same s1,af,(by simp),hlen,hes,Lv,hrk,(fun x hx=>by rw[List.mem_singleton.mp hx];exact⟨h0,h1⟩),hsh,hbd,fun S kvs ks H' hS hv tp sk hn s' _=>?_⟩
 have sk:=sk s (by simp)
 obtain⟨a,ha,Ra⟩:=hv s sk
 have z:=oz.k (k:=Sum.inl s) hS
 rw[ha]at z
 exact⟨_,rfl,S,_,rfl,z,k a H' Ra (s1.trans s') (aW s1 (hn s sk a ha))⟩
def Qa:Item→Item→Bool
 | .aB _ b,.aB c _=>decide (b=c)
 | _,_=>false
inductive GG(vs:List V)(H:Hp)(Q:VK)(E:XK):Prop
 | mk (x y:V) (i j:Item) (_:vs=[x,y]) (_:cO H x i) (_:cO H y j) (_:Q (.bl (Qa i j)) H):GG vs H Q E
theorem JE:aG ["one","other"] ["one","other"] (ay lQ):=⟨rfl,rfl,rfl,by decide +kernel,rfl,by decide +kernel,by decide +kernel⟩
theorem GH{f:Addr}{fd:FuncData}(F:gX K "goes_on" "goes_on" lQ f fd)(T:n9 mg):aF P w K mg base bN 1 f fd FO GG:=by
 refine F.ok JE (fun vs H Q E h=>?_) (fun cdv A outer s H vs Q E hr h=>?_)
 ·obtain⟨x,y,i,j,rfl,_⟩:=h
  rfl
 obtain⟨x,y,i,j,rfl,⟨a,rfl,ha⟩,⟨b,rfl,hb⟩,k⟩:=h
 refine⟨_,(ao (aM (oV (mP mG (bu dN (pv 0) az (fun _ _=>rfl)) bT (cj _)) (oV (mP mG (bu dN (pv 1) az (fun _ _=>rfl)) bT (cj _)) (pV (mP mG (bu dN (pv 0) az (fun _ _=>rfl)) (bu dN (pv 1) az (fun _ _=>rfl)) (cj _))))))),?_⟩
 cases i with
 | win n=>exact⟨_,rfl,a,_,_,_,rfl,rfl,jK.of ha,rfl,rfl,_,rfl,ff (fun z=>absurd z (by decide)) (fun _=>k)⟩
 | aB p q =>
  refine⟨_,rfl,a,_,_,_,rfl,rfl,jK.of ha,rfl,rfl,_,rfl,ff (fun _=>?_) (fun z=>absurd (by decide) z)⟩
  cases j with
  | win n=>exact⟨_,rfl,b,_,_,_,rfl,rfl,jK.of hb,rfl,rfl,_,rfl,ff (fun z=>absurd z (by decide)) (fun _=>k)⟩
  | aB u v =>
   refine⟨_,rfl,b,_,_,_,rfl,rfl,jK.of hb,rfl,rfl,_,rfl,ff (fun _=>?_) (fun z=>absurd (by decide) z)⟩
   refine⟨_,rfl,a,_,_,_,rfl,rfl,jK.of ha,rfl,_,rfl,b,_,_,_,rfl,rfl,jK.of hb,rfl,rfl,?_⟩
   have e:decide (V.int q=V.int u)=decide (q=u):=by
    by_cases c:q=u
    ·rw[c];simp
    ·have c2:¬ V.int q=V.int u:=fun z=>c (V.int.inj z)
     rw[decide_eq_false c,decide_eq_false c2]
   rw[e]
   exact k
def br(t:List Item)(it:Item):List Item :=
 match t.getLast?,it with
 | some (.aB a b),.aB c d=>if b=c then t.dropLast++[.aB a d] else t++[it]
 | _,_=>t++[it]
def GI(its:List Item):List Item:=its.foldl br []
theorem GJ(its:List Item):∀ t:List Item,(its.foldl br t).length≤t.length+its.length:=by
 induction its with
 | nil=>intro t;simp
 | cons e its ih =>
  intro t
  rw[oS]
  have z:=ih (br t e)
  have z2:(br t e).length≤t.length+1:=by
   unfold br
   split
   ·split
    ·rw[eZ,List.length_dropLast,ur];omega
    ·simp
   ·simp
  rw[mq]
  omega
inductive mT(vs:List V)(H:Hp)(Q:VK)(E:XK):Prop
 | mk (r:Addr) (its:List Item) (_:vs=[.ref r]) (_:bM H (.ref r) its) (_:its.length≤1000000) (_ :
 ∀ (o:Addr) (H':Hp),bM H' (.ref o) (GI its)→aH H H'→H o=none→Q (.ref o) H'):mT vs H Q E
theorem oZ:aG ["items","told","item"] ["items"] (ay iD):=⟨rfl,rfl,rfl,by decide +kernel,rfl,by decide +kernel,by decide +kernel⟩
theorem qV{f fG:Addr}{fd Uu:FuncData}(F:gX K "plain_items" "plain_items" iD f fd)(T:n9 mg)(kF:aA K mg "goes_on" lQ FO fG Uu):aF P w K mg base bN 2 f fd oh mT:=by
 have LC:aF P w K mg base bN 1 fG Uu FO GG:=GH kF.F T
 refine F.ok oZ (fun vs H Q E h=>?_) (fun cdv A outer s H vs Q E hr h=>?_)
 ·obtain⟨r,its,rfl,_⟩:=h
  rfl
 obtain⟨r,its,rfl,⟨a,Mg,e,hr1,hit⟩,hlen,k⟩:=h
 cases e
 refine⟨_,(ak (aQ (i:=1) oZ.nd rfl (Or.inl rfl) (bI ah))
   (ak (iV PassesOwn.never rfl (cH (pv 0)) (aV (i:=2) oZ.nd rfl (Or.inl rfl))
   (ao (cy (PW.pt (Kc (nv (pv 1) (fun _=>rfl)) (G7 (kT (aP kF LC hr (aa (bu bw (pv 1) (sD oW az) (fun _ _=>rfl)) (aa (pv 2) ah)))))))
   (ao (tF (jH (aa bT (aa (bu dN (bu bw (pv 1) (sD oW az) (fun _ _=>rfl)) az (fun _ _=>rfl)) (aa (bu dN (pv 2) az (fun _ _=>rfl)) ah)))) (tE (pv 1) (sD oW az) set_list)))
   (ao (bO (jF qz uu uv cF (pv 1) (aa (pv 2) ah)))))))
   (ao (aM (pv 1))))),?_⟩
 refine⟨(by show 0≤sizeLine;decide),fun q hq=>?_⟩
 have s0:aH H (upd H q (.lst [])):=aj hq _
 refine⟨_,rfl,r,rfl,⟨_,bG.of (s0 _ _ hr1)⟩,jM (K:=K) (a:=r) (xs:=Mg) (fun i σ H2=>∃ (vs:List V) (u:Option V),σ=[some (.ref r),some (.ref q),u]∧H2 q=some (.lst vs)∧bR (cO H2) vs ((its.take i).foldl br [])∧aH H H2)
  ⟨[],none,rfl,af,.nil,s0⟩ (fun i σ H2 _ ⟨_,_,_,_,_,s⟩=>bG.of (s _ _ hr1)) ?_ ?_⟩
 ·rintro i x σ H2 hi ⟨vs,u,rfl,hq2,hb,s⟩
  obtain⟨it,ei,hiv⟩:=hit.get hi
  have hx2:=hiv.same s
  have step:(its.take (i+1)).foldl br []=br ((its.take i).foldl br []) it:=by rw[take_snoc ei,List.foldl_append];rfl
  have bl:vs.length<sizeLine:=by
   have z:=hb.len
   have z2:=GJ (its.take i) []
   rw[ko,oq]at z2
   exact aL (by omega)
  have app:br ((its.take i).foldl br []) it=(its.take i).foldl br []++[it]→∃ (vs':List V) (u':Option V),[some (V.ref r),some (.ref q),some x]=[some (.ref r),some (.ref q),u']∧(upd H2 q (.lst (vs++[x]))) q=some (.lst vs')∧bR (cO (upd H2 q (.lst (vs++[x])))) vs' ((its.take (i+1)).foldl br [])∧aH H (upd H2 q (.lst (vs++[x]))):=fun e=>by
   refine⟨_,_,rfl,af,?_,bV hq s (aI q _ _)⟩
   rw[step,e]
   exact bR.snoc (hb.mono fun v i h=>h.keep hq2 (aI q _ _)) (hx2.keep hq2 (aI q _ _))
  rcases tD ((its.take i).foldl br []) with hn|⟨t0,l0,hn⟩
  ·have hvs:vs=[]:=by
    rw[hn]at hb
    exact List.eq_nil_of_length_eq_zero hb.len
   subst hvs
   refine⟨_,rfl,false,.inl ⟨_,bG.of hq2,rfl⟩,i7 (i7 ?_)⟩
   refine⟨_,rfl,.inl ⟨rfl,_,bG.of hq2⟩,_,rfl,q,_,_,rfl,rfl,hq2,bl,app ?_⟩
   rw[hn]
   rfl
  ·rw[qA]at hn
   have hb':=hb
   rw[hn]at hb'
   obtain⟨us,v0,rfl,hb0,hv0⟩:=hb'.split
   obtain⟨a0,rfl,ha0⟩:=id hv0
   refine⟨_,rfl,true,.inl ⟨_,bG.of hq2,by simp⟩,jI ?_⟩
   refine⟨_,rfl,_,rfl,q,_,_,_,rfl,rfl,bG.of hq2,lU _ _,_,rfl,_,_,l0,it,rfl,hv0,hx2,_,rfl,?_⟩
   cases l0 with
   | win n =>
    refine i7 ?_
    refine⟨_,rfl,.inl ⟨rfl,_,bG.of hq2⟩,_,rfl,q,_,_,rfl,rfl,hq2,bl,app ?_⟩
    rw[hn]
    unfold br
    rw[vo]
   | aB p1 p2 =>
    cases it with
    | win n =>
     refine i7 ?_
     refine⟨_,rfl,.inl ⟨rfl,_,bG.of hq2⟩,_,rfl,q,_,_,rfl,rfl,hq2,bl,app ?_⟩
     rw[hn]
     unfold br
     rw[vo]
    | aB c d =>
     refine ff (fun z=>?_) (fun z=>?_)
     ·have e2:p2=c:=of_decide_eq_true z
      obtain⟨ax,rfl,hax⟩:=id hx2
      refine⟨_,rfl,_,rfl,q,_,_,_,rfl,rfl,bG.of hq2,lU _ _,a0,_,_,_,rfl,rfl,jK.of ha0,rfl,_,rfl,ax,_,_,_,rfl,rfl,jK.of hax,rfl,(by show 3≤sizeLine;decide),fun t ht=>?_⟩
      refine⟨_,rfl,_,rfl,q,_,_,us.length,rfl,rfl,aj ht _ _ _ hq2,(by rw[eZ];exact Eg _),?_⟩
      rw[Eh]
      refine⟨_,_,rfl,af,?_,bV hq (s.trans (aj ht _)) (aI q _ _)⟩
      have e3:(its.take (i+1)).foldl br []=t0++[.aB p1 d]:=by
       rw[step,hn]
       unfold br
       rw[vo,List.dropLast_concat]
       show (if p2=c then t0++[Item.aB p1 d] else _)=_
       rw[if_pos e2]
      rw[e3]
      exact bR.new (it:=.aB p1 d) hq2 hb0 ht _
     ·have e2:¬ p2=c:=fun w=>z (decide_eq_true w)
      refine⟨_,rfl,.inl ⟨rfl,_,bG.of hq2⟩,_,rfl,q,_,_,rfl,rfl,hq2,bl,app ?_⟩
      rw[hn]
      unfold br
      rw[vo]
      show (if p2=c then _ else t0++[Item.aB p1 p2]++[Item.aB c d])=_
      rw[if_neg e2]
 ·rintro σ H2 ⟨vs,u,rfl,hq2,hb,s⟩
  rw[hit.len,kr]at hb
  exact⟨_,rfl,k q H2 ⟨q,vs,rfl,hq2,hb⟩ s hq⟩
def ie(r:Row):List Item:=r.map fun p=>.aB p.1 p.2
inductive ye(vs:List V)(H:Hp)(Q:VK)(E:XK):Prop
 | mk (r:Addr) (row:Row) (_:vs=[.ref r]) (_:bP H r row) (_:row.length≤100000) (_ :
 ∀ (o:Addr) (H':Hp),bM H' (.ref o) (ie (dm row))→aH H H'→H o=none→Q (.ref o) H'):ye vs H Q E
theorem Nu:aG ["row"] ["row"] (ay tH):=⟨rfl,rfl,rfl,by decide +kernel,rfl,by decide +kernel,by decide +kernel⟩
theorem EV{f fP:Addr}{fd Nr:FuncData}(F:gX K "inked" "inked" tH f fd)(T:n9 mg)(j5:aA K mg "plain" ny iu fP Nr):aF P w K mg base bN 2 f fd iu ye:=by
 have GF:aF P w K mg base bN 1 fP Nr iu xT:=EK j5.F
 refine F.ok Nu (fun vs H Q E h=>?_) (fun cdv A outer s H vs Q E hr h=>?_)
 ·obtain⟨r,row,rfl,_⟩:=h
  rfl
 obtain⟨r,row,rfl,R,hlen,k⟩:=h
 refine⟨_,(ao (aM (Cc (N:=["start","stop"]) ⟨rfl,by decide +kernel,by decide +kernel,by decide +kernel⟩ rfl (cH (aP j5 GF hr (aa (pv 0) ah))) (fun _ _ _ _ _=>(Ce (n:=2) rfl (bS (aV (i:=0) (show List.Nodup (["start","stop"]:List Str) by decide +kernel) rfl (Or.inl rfl)) (bS (aV (i:=1) (show List.Nodup (["start","stop"]:List Str) by decide +kernel) rfl (Or.inl rfl)) ku)))) (fun _ _ _ _ _=>iG) (fun _ _ _ _ _=>(jH (aa bT (aa (pv 0) (aa (pv 1) ah)))))))),?_⟩
 refine⟨_,rfl,r,row,rfl,R,by omega,fun q H1 R1 s1 hq=>?_⟩
 obtain⟨as,h1,p1⟩:=id R1
 have pl:=vJ row
 refine⟨q,rfl,⟨_,bG.of h1⟩,fun acc hacc=>vF (K:=K) (a:=q) (xs:=as.map V.ref) (fun i σ H2=>∃ (u v:Option V) (vs:List V),σ=[u,v]∧H2 acc=some (.lst vs)∧bR (cO H2) vs (ie ((dm row).take i))∧aH H1 H2)
  ⟨none,none,[],rfl,af,.nil,aj hacc _⟩ (fun i σ H2 _ ⟨_,_,_,_,_,_,s⟩=>bG.of (s _ _ h1)) ?_ ?_⟩
 ·rintro i x σ H2 hi ⟨u,v,vs,rfl,ha,t2,s⟩
  rw[qG]at hi
  obtain⟨a,ea,rfl⟩:=Option.map_eq_some_iff.mp hi
  obtain⟨⟨st,en⟩,ep,hpa⟩:=p1.get ea
  have bl:=t2.len
  unfold ie at bl
  rw[bY,ko]at bl
  refine⟨a,_,rfl,jK.of (s _ _ hpa),rfl,_,_,rfl,_,_,rfl,rfl,yes (jI ?_)⟩
  refine⟨_,rfl,_,rfl,(by show 3≤sizeLine;decide),fun t ht=>?_⟩
  refine⟨vs,aj ht _ _ _ ha,aL (by omega),_,_,_,rfl,af,?_,bV hacc (s.trans (aj ht _)) (aI acc _ _)⟩
  have e:ie ((dm row).take (i+1))=ie ((dm row).take i)++[.aB st en]:=by
   rw[take_snoc ep]
   unfold ie
   rw[lK]
   rfl
  rw[e]
  exact bR.new (it:=.aB st en) ha t2 ht _
 ·rintro σ H2 ⟨u,v,vs,rfl,ha,t2,s⟩
  rw[bY,p1.len,kr]at t2
  refine k acc H2 ⟨acc,vs,rfl,ha,t2⟩ (s1.trans s) ?_
  cases e:H acc with
  | none=>rfl
  | some o=>exact absurd ((s1 _ _ e).symm.trans hacc) (by simp)
def kQ:Item→List Int
 | .win n=>[-1-n]
 | .aB a b=>run a (b-a).toNat
def fy(its:List Item):List Int:=its.flatMap kQ
def qu:Item→Prop
 | .win n=>0≤n
 | .aB a b=>0≤a∧a<b
def ja(its:List Item):Prop:=∀ it∈its,qu it
theorem ig(a b:List Item):fy (a++b)=fy a++fy b:=by unfold fy;rw[List.flatMap_append]
theorem pP(a:Item):fy [a]=kQ a:=by simp[fy]
theorem ja.append{a b:List Item}(h:ja a)(g:ja b):ja (a++b):=fun it hm=>(List.mem_append.mp hm).elim (h it) (g it)
theorem ja.one{a:Item}(h:qu a):ja [a]:=fun it hm=>by rw[List.mem_singleton.mp hm];exact h
theorem LD(t:List Item){n:Int}(h:0≤n):aT t (-1-n)=t++[.win n]:=by
 unfold aT
 rw[if_pos (by omega)]
 congr 3
 omega
theorem JF(t:List Item)(p s:Int)(h:0≤s):aT (t++[.aB p s]) s=t++[.aB p (s+1)]:=by
 unfold aT
 rw[if_neg (by omega),vo]
 show (if s=s then (t++[Item.aB p s]).dropLast++[.aB p (s+1)] else _)=_
 rw[if_pos rfl,List.dropLast_concat]
theorem BC(t:List Item)(p:Int):∀ (n:Nat) (s:Int),0≤s→(run s n).foldl aT (t++[.aB p s])=t++[.aB p (s+n)]
 | 0,s,_=>by simp[run]
 | n+1,s,h=>by
  rw[run,oS,JF t p s h,BC t p n (s+1) (by omega)]
  congr 3
  omega
theorem GK(t:List Item)(it:Item)(h:qu it):br t it=(kQ it).foldl aT t:=by
 cases it with
 | win n =>
  show br t (.win n)=aT t (-1-n)
  rw[LD t h]
  unfold br
  cases t.getLast? with
  | none=>rfl
  | some l=>cases l <;> rfl
 | aB a b =>
  obtain⟨a0,ab⟩:=h
  have e:(b-a).toNat=(b-(a+1)).toNat+1:=by omega
  show br t (.aB a b)=(run a (b-a).toNat).foldl aT t
  rw[e,run,oS]
  have fin:∀ (u:List Item) (p:Int),(run (a+1) (b-(a+1)).toNat).foldl aT (u++[.aB p (a+1)])=u++[.aB p b]:=fun u p=>by
   rw[BC u p _ _ (by omega)]
   congr 3
   omega
  unfold br aT
  rw[if_neg (by omega)]
  cases t.getLast? with
  | none=>exact (fin t a).symm
  | some l =>
   cases l with
   | win n=>exact (fin t a).symm
   | aB p q =>
    show (if q=a then t.dropLast++[Item.aB p b] else t++[Item.aB a b])=List.foldl aT (if q=a then t.dropLast++[Item.aB p (a+1)] else t++[Item.aB a (a+1)]) _
    by_cases c:q=a
    ·rw[if_pos c,if_pos c,fin]
    ·rw[if_neg c,if_neg c,fin]
theorem wX(its:List Item)(h:ja its):GI its=itemsOf (fy its):=by
 unfold GI itemsOf fy
 rw[nH]
 have z:∀ (its:List Item) (t:List Item),ja its→its.foldl br t=its.foldl (fun c a=>(kQ a).foldl aT c) t:=by
  intro its
  induction its with
  | nil=>intro t _;rfl
  | cons it its ih =>
   intro t h
   rw[oS,oS,GK t it (h it (by simp))]
   exact ih _ fun i hi=>h i (rV _ hi)
 exact z its [] h
theorem JG(t:List Item)(e:Int)(h:ja t):fy (aT t e)=fy t++[e]∧ja (aT t e):=by
 unfold aT
 by_cases c:e<0
 ·rw[if_pos c,ig,pP]
  refine⟨?_,h.append (ja.one (by show 0≤-1-e;omega))⟩
  show fy t++[-1-(-1-e)]=_
  rw[show -1-(-1-e)=e by omega]
 ·rw[if_neg c]
  have pl:fy (t++[.aB e (e+1)])=fy t++[e]∧ja (t++[.aB e (e+1)]):=by
   refine⟨?_,h.append (ja.one ⟨by omega,by omega⟩)⟩
   rw[ig,pP]
   show _++run e (e+1-e).toNat=_
   rw[show (e+1-e).toNat=1 by omega]
   rfl
  rcases tD t with rfl|⟨t',l,rfl⟩
  ·exact pl
  ·rw[qA]at h pl ⊢
   rw[vo]
   cases l with
   | win n=>exact pl
   | aB a b =>
    show fy (if b=e then (t'++[Item.aB a b]).dropLast++[.aB a (e+1)] else (t'++[Item.aB a b])++[.aB e (e+1)])=_∧ja (if b=e then (t'++[Item.aB a b]).dropLast++[.aB a (e+1)] else (t'++[Item.aB a b])++[.aB e (e+1)])
    by_cases hb:b=e
    ·subst hb
     obtain⟨a0,ab⟩:0≤a∧a<b:=h (.aB a b) (by simp)
     rw[if_pos rfl,List.dropLast_concat]
     refine⟨?_,ja.append (fun i hi=>h i (List.mem_append_left _ hi)) (ja.one ⟨a0,by omega⟩)⟩
     rw[ig,ig,pP,pP,pC]
     congr 1
     show run a (b+1-a).toNat=run a (b-a).toNat++[b]
     rw[show (b+1-a).toNat=(b-a).toNat+1 by omega,uI]
     congr 2
     omega
    ·rw[if_neg hb]
     exact pl
theorem tT(es:List Int):fy (itemsOf es)=es∧ja (itemsOf es):=by
 have z:∀ (es:List Int) (t:List Item),ja t→fy (es.foldl aT t)=fy t++es∧ja (es.foldl aT t):=by
  intro es
  induction es with
  | nil=>intro t h;exact⟨by simp,h⟩
  | cons e es ih =>
   intro t h
   obtain⟨h1,h2⟩:=JG t e h
   obtain⟨h3,h4⟩:=ih _ h2
   exact⟨by rw[oS,h3,h1,pC];rfl,h4⟩
 obtain⟨h1,h2⟩:=z es [] (fun i hi=>by cases hi)
 exact⟨by unfold itemsOf;rw[h1];rfl,h2⟩
theorem zl(r:Row):fy (ie r)=aS r:=by
 unfold fy ie aS
 rw[List.flatMap_map]
 rfl
theorem EW{r:Row}(h:ly r):ja (ie r):=by
 intro it hm
 unfold ie at hm
 obtain⟨p,hp,rfl⟩:=List.mem_map.mp hm
 exact h p hp
abbrev uR:=Item × Row × Int × Int
def iO(sh:Int→List Int)(it:Item):Row:=qt (fun n=>rowOf (sh n)) it
def ef(sh:Int→List Int):Int→List Item→List uR
 | _,[]=>[]
 | f,it::r=>(it,iO sh it,f,f+tot (iO sh it))::ef sh (f+tot (iO sh it)) r
theorem uS(sh:Int→List Int)(b:List Item):∀ (a:List Item) (f:Int),ef sh f (a++b)=ef sh f a++ef sh (f+tot (aZ sh a)) b
 | [],f=>by simp[ef,aZ,tot]
 | it::a,f=>by
  rw[List.cons_append,ef,ef,uS sh b a,List.cons_append]
  have e:aZ sh (it::a)=iO sh it++aZ sh a:=by unfold aZ;rw[nh];rfl
  rw[e,yL,Int.add_assoc]
theorem BD(sh:Int→List Int):∀ (a:List Item) (f:Int),(ef sh f a).length=a.length
 | [],_=>rfl
 | _::a,f=>by rw[ef,mq,mq,BD sh a]
def nP(N:Addr→Prop)(H:Hp)(v:V)(d:uR):Prop:=∃ (a ra:Addr) (x:V),v=.ref a∧H a=some (.tup [x,.ref ra,.int d.2.2.1,.int d.2.2.2])∧cO H x d.1∧bP H ra d.2.1∧N ra
theorem nP.same{N:Addr→Prop}{H H':Hp}{v:V}{d:uR}(s:aH H H'):nP N H v d→nP N H' v d:=fun ⟨a,ra,x,e,h,i,r,n⟩=>⟨a,ra,x,e,s _ _ h,i.same s,r.same s,n⟩
theorem nP.keep{N:Addr→Prop}{H H':Hp}{v:V}{d:uR}{q:Addr}{xs:List V}(hq:H q=some (.lst xs))(nq:∀ a,N a→a≠q)(k:cA q H H'):nP N H v d→nP N H' v d:=fun ⟨a,ra,x,e,h,i,r,n⟩=>⟨a,ra,x,e,k a _ h (by
 intro z
 rw[z,hq]at h
 cases h),i.keep hq k,r.keep hq (nq ra n) k,n⟩
def zq(H:Hp)(kvs:List (Key × V))(sh:Int→List Int)(its:List Item):Prop:=∀ n,Item.win n∈its→∃ a,bU kvs (Sum.inl n)=some (.ref a)∧bP H a (rowOf (sh n))
theorem zq.same{H H':Hp}{kvs:List (Key × V)}{sh:Int→List Int}{its:List Item}(s:aH H H')(h:zq H kvs sh its):zq H' kvs sh its:=fun n hn=>by
 obtain⟨a,e,r⟩:=h n hn
 exact⟨a,e,r.same s⟩
def aD(p:Int)(d:uR):List Item:=if d.2.2.2≤p then [d.1] else if p≤d.2.2.1 then [] else ie (dm (vh 0 (p-d.2.2.1) 0 d.2.1))
def bD(p:Int)(d:uR):List Item:=if d.2.2.2≤p then [] else if p≤d.2.2.1 then [d.1] else ie (dm (vh (p-d.2.2.1) (d.2.2.2-d.2.2.1) 0 d.2.1))
def aE(sh:Int→List Int)(p:Int):Int→List Int→List Int
 | _,[]=>[]
 | f,e::r=>(if f+(pO sh e).length≤p then [e] else if p≤f then [] else (pO sh e).take (p-f).toNat)++aE sh p (f+(pO sh e).length) r
def bE(sh:Int→List Int)(p:Int):Int→List Int→List Int
 | _,[]=>[]
 | f,e::r=>(if f+(pO sh e).length≤p then [] else if p≤f then [e] else (pO sh e).drop (p-f).toNat)++bE sh p (f+(pO sh e).length) r
theorem j6(sh:Int→List Int)(e:Int)(r:List Int):dY sh (e::r)=pO sh e++dY sh r:=by unfold dY;rw[nh]
theorem BE(sh:Int→List Int)(p:Int)(y:List Int):∀ (x:List Int) (f:Int),aE sh p f (x++y)=aE sh p f x++aE sh p (f+(dY sh x).length) y
 | [],f=>by simp[aE,dY]
 | e::x,f=>by
  rw[List.cons_append,aE,aE,BE sh p y x,pC,j6,eZ,Int.add_assoc]
  push_cast
  rfl
theorem BF(sh:Int→List Int)(p:Int)(y:List Int):∀ (x:List Int) (f:Int),bE sh p f (x++y)=bE sh p f x++bE sh p (f+(dY sh x).length) y
 | [],f=>by simp[bE,dY]
 | e::x,f=>by
  rw[List.cons_append,bE,bE,BF sh p y x,pC,j6,eZ,Int.add_assoc]
  push_cast
  rfl
theorem rN(sh:Int→List Int){e:Int}(h:0≤e):pO sh e=[e]:=by unfold pO;rw[if_neg (by omega)]
theorem rO(sh:Int→List Int):∀ (n:Nat) (a:Int),0≤a→dY sh (run a n)=run a n
 | 0,_,_=>rfl
 | n+1,a,h=>by rw[run,j6,rN sh h,rO sh n (a+1) (by omega)];rfl
theorem LF(sh:Int→List Int)(p:Int):∀ (n:Nat) (a f:Int),0≤a→aE sh p f (run a n)=(run a n).take (p-f).toNat
 | 0,_,_,_=>by simp[run,aE]
 | n+1,a,f,h=>by
  rw[run,aE,LF sh p n (a+1) _ (by omega),rN sh h]
  show (if f+1≤p then [a] else if p≤f then [] else _)++(run (a+1) n).take (p-(f+1)).toNat=_
  by_cases c:f+1≤p
  ·rw[if_pos c,show (p-f).toNat=(p-(f+1)).toNat+1 by omega]
   rfl
  ·rw[if_neg c,if_pos (by omega),show (p-f).toNat=0 by omega,show (p-(f+1)).toNat=0 by omega]
   rfl
theorem LG(sh:Int→List Int)(p:Int):∀ (n:Nat) (a f:Int),0≤a→bE sh p f (run a n)=(run a n).drop (p-f).toNat
 | 0,_,_,_=>by simp[run,bE]
 | n+1,a,f,h=>by
  rw[run,bE,LG sh p n (a+1) _ (by omega),rN sh h]
  show (if f+1≤p then [] else if p≤f then [a] else _)++(run (a+1) n).drop (p-(f+1)).toNat=_
  by_cases c:f+1≤p
  ·rw[if_pos c,show (p-f).toNat=(p-(f+1)).toNat+1 by omega]
   rfl
  ·rw[if_neg c,if_pos (by omega),show (p-f).toNat=0 by omega,show (p-(f+1)).toNat=0 by omega]
   rfl
theorem LH(sh:Int→List Int){n:Int}(h:0≤n):pO sh (-1-n)=sh n:=by
 unfold pO
 rw[if_pos (by omega),show -1-(-1-n)=n by omega]
theorem CF(sh:Int→List Int)(it:Item)(h:qu it):∀ q∈iO sh it,q.1≤q.2:=by
 cases it with
 | win n=>exact pK _
 | aB a b =>
  intro q hq
  have:q=(a,b):=by simpa [iO,qt] using hq
  subst this
  have:=h.2
  show a≤b
  omega
theorem tU(sh:Int→List Int)(it:Item)(h:qu it):aS (iO sh it)=dY sh (kQ it):=by
 cases it with
 | win n =>
  show aS (rowOf (sh n))=dY sh [-1-n]
  rw[dX,j6,LH sh h]
  simp[dY]
 | aB a b =>
  show aS [(a,b)]=dY sh (run a (b-a).toNat)
  rw[gS,rO sh _ _ h.1]
  rfl
theorem uT(sh:Int→List Int)(it:Item)(h:qu it):tot (iO sh it)=(dY sh (kQ it)).length:=by
 rw[← tU sh it h,pL _ (CF sh it h)]
theorem SI(sh:Int→List Int)(p f:Int)(it:Item)(h:qu it):fy (aD p (it,iO sh it,f,f+tot (iO sh it)))=aE sh p f (kQ it):=by
 have tt:=uT sh it h
 have sp:fy (ie (dm (vh 0 (p-f) 0 (iO sh it))))=(dY sh (kQ it)).take (p-f).toNat:=by
  rw[zl,yT _ _ _ (CF sh it h),tU sh it h]
  rfl
 unfold aD
 show fy (if f+tot (iO sh it)≤p then [it] else if p≤f then [] else ie (dm (vh 0 (p-f) 0 (iO sh it))))=_
 rw[tt]
 cases it with
 | win n =>
  have e1:dY sh (kQ (.win n))=pO sh (-1-n):=by show dY sh [-1-n]=_;rw[j6];simp[dY]
  rw[e1]at sp ⊢
  show _=aE sh p f [-1-n]
  rw[aE,aE,om]
  split
  ·rfl
  ·split
   ·rfl
   ·exact sp
 | aB a b =>
  have e1:dY sh (kQ (.aB a b))=run a (b-a).toNat:=rO sh _ _ h.1
  rw[e1]at sp ⊢
  show _=aE sh p f (run a (b-a).toNat)
  rw[LF sh p _ _ _ h.1]
  have rl:=iF a (b-a).toNat
  split
  ·rename_i c
   rw[pP,yk (by omega)]
   rfl
  ·split
   ·rename_i c
    rw[show (p-f).toNat=0 by omega]
    rfl
   ·exact sp
theorem SJ(sh:Int→List Int)(p f:Int)(it:Item)(h:qu it):fy (bD p (it,iO sh it,f,f+tot (iO sh it)))=bE sh p f (kQ it):=by
 have tt:=uT sh it h
 have sp:fy (ie (dm (vh (p-f) (f+tot (iO sh it)-f) 0 (iO sh it))))=(dY sh (kQ it)).drop (p-f).toNat:=by
  rw[zl,yT _ _ _ (CF sh it h),tU sh it h,yk (by rw[tt];omega)]
 unfold bD
 show fy (if f+tot (iO sh it)≤p then [] else if p≤f then [it] else ie (dm (vh (p-f) (f+tot (iO sh it)-f) 0 (iO sh it))))=_
 have c1:(f+tot (iO sh it)≤p)=(f+(dY sh (kQ it)).length≤p):=by rw[tt]
 simp only[c1]
 cases it with
 | win n =>
  have e1:dY sh (kQ (.win n))=pO sh (-1-n):=by show dY sh [-1-n]=_;rw[j6];simp[dY]
  rw[e1]at sp ⊢
  show _=bE sh p f [-1-n]
  rw[bE,bE,om]
  split
  ·rfl
  ·split
   ·rfl
   ·exact sp
 | aB a b =>
  have e1:dY sh (kQ (.aB a b))=run a (b-a).toNat:=rO sh _ _ h.1
  rw[e1]at sp ⊢
  show _=bE sh p f (run a (b-a).toNat)
  rw[LG sh p _ _ _ h.1]
  have rl:=iF a (b-a).toNat
  split
  ·rename_i c
   rw[List.drop_of_length_le (by omega)]
   rfl
  ·split
   ·rename_i c
    rw[pP,show (p-f).toNat=0 by omega]
    rfl
   ·exact sp
theorem EX(sh:Int→List Int)(p:Int):∀ (its:List Item) (f:Int),ja its→fy ((ef sh f its).flatMap (aD p))=aE sh p f (fy its)
 | [],f,_=>rfl
 | it::r,f,h=>by
  have h1:=h it (by simp)
  rw[ef,nh,ig,SI sh p f it h1,EX sh p r _ fun i hi=>h i (rV _ hi)]
  have e:fy (it::r)=kQ it++fy r:=by unfold fy;rw[nh]
  rw[e,BE,uT sh it h1]
theorem BG(sh:Int→List Int)(p:Int):∀ (its:List Item) (f:Int),ja its→fy ((ef sh f its).flatMap (bD p))=bE sh p f (fy its)
 | [],f,_=>rfl
 | it::r,f,h=>by
  have h1:=h it (by simp)
  rw[ef,nh,ig,SJ sh p f it h1,BG sh p r _ fun i hi=>h i (rV _ hi)]
  have e:fy (it::r)=kQ it++fy r:=by unfold fy;rw[nh]
  rw[e,BF,uT sh it h1]
def SK(sh:Int→List Int)(its:List Item):Prop:=∀ n,Item.win n∈its→∀ x∈sh n,0≤x
theorem Nv(sh:Int→List Int)(it:Item)(h:qu it)(g:∀ n,it=.win n→∀ x∈sh n,0≤x):qS (iO sh it):=by
 cases it with
 | win n=>exact (Jp (g n rfl)).nn
 | aB a b =>
  intro q hq
  have:q=(a,b):=by simpa [iO,qt] using hq
  subst this
  exact⟨h.1,by have:=h.2;show a≤b;omega⟩
theorem HY(sh:Int→List Int):∀ (its:List Item) (f:Int),ja its→SK sh its→∀ d∈ef sh f its,qu d.1∧qS d.2.1
 | [],_,_,_=>fun d hd=>by cases hd
 | it::r,f,h,g=>by
  intro d hd
  rw[ef]at hd
  rcases List.mem_cons.mp hd with rfl|z
  ·exact⟨h it (by simp),Nv sh it (h it (by simp)) fun n e=>g n (by rw[e];simp)⟩
  ·exact HY sh r _ (fun i hi=>h i (rV _ hi)) (fun n hn=>g n (rV _ hn)) d z
theorem EY{a b:Int}{r:Row}(h:qS r):ja (ie (dm (vh a b 0 r))):=EW (Bu (Lj a b r 0 h))
theorem SM{p:Int}{d:uR}(h:qu d.1)(g:qS d.2.1):ja (aD p d):=by
 unfold aD
 split
 ·exact ja.one h
 ·split
  ·exact fun i hi=>by cases hi
  ·exact EY g
theorem SN{p:Int}{d:uR}(h:qu d.1)(g:qS d.2.1):ja (bD p d):=by
 unfold bD
 split
 ·exact fun i hi=>by cases hi
 ·split
  ·exact ja.one h
  ·exact EY g
theorem HZ{g:uR→List Item}{l:List uR}(h:∀ d∈l,ja (g d)):ja (l.flatMap g):=fun it hm=>by
 obtain⟨d,hd,hm⟩:=List.mem_flatMap.mp hm
 exact h d hd it hm
theorem Ny(r:Row):(ie r).length=r.length:=by unfold ie;rw[bY]
theorem BH(a b:Int)(r:Row):(ie (dm (vh a b 0 r))).length≤r.length:=by
 rw[Ny]
 exact mL (vJ _) (yR a b r 0)
theorem zu(sh:Int→List Int){g:uR→List Item}(hg:∀ d,(g d).length≤d.2.1.length+1):∀ (its:List Item) (f:Int),((ef sh f its).flatMap g).length≤(aZ sh its).length+its.length
 | [],_=>by simp[ef]
 | it::r,f=>by
  rw[ef,nh,eZ]
  have a:=hg (it,iO sh it,f,f+tot (iO sh it))
  have b:=zu sh hg r (f+tot (iO sh it))
  have e:aZ sh (it::r)=iO sh it++aZ sh r:=by unfold aZ;rw[nh];rfl
  rw[e,eZ,mq]
  simp only at a
  omega
theorem Qc(p:Int)(d:uR):(aD p d).length≤d.2.1.length+1:=by
 unfold aD
 split
 ·simp
 ·split
  ·simp
  ·exact mL (BH _ _ _) (by omega)
theorem Qd(p:Int)(d:uR):(bD p d).length≤d.2.1.length+1:=by
 unfold bD
 split
 ·simp
 ·split
  ·simp
  ·exact mL (BH _ _ _) (by omega)
theorem rP{α β:Type}(g:α→List β)(l:List α)(i:Nat):((l.take i).flatMap g).length≤(l.flatMap g).length:=by
 have e:l.flatMap g=(l.take i).flatMap g++(l.drop i).flatMap g:=by rw[← List.flatMap_append,List.take_append_drop]
 rw[e,eZ]
 omega
theorem BI{α β:Type}(g:α→List β){l:List α}{i:Nat}{a:α}(h:l[i]?=some a):(l.take (i+1)).flatMap g=(l.take i).flatMap g++g a:=by
 rw[take_snoc h,List.flatMap_append]
 simp
theorem EZ(sh:Int→List Int){its:List Item}{it:Item}(h:it∈its):(iO sh it).length≤(aZ sh its).length:=by
 obtain⟨a,b,rfl⟩:=List.append_of_mem h
 rw[dZ]
 have e:aZ sh (it::b)=iO sh it++aZ sh b:=by unfold aZ;rw[nh];rfl
 rw[e,eZ,eZ]
 omega
def Ia(A B:Addr)(H H':Hp):Prop:=∀ a o,H a=some o→a≠A→a≠B→H' a=some o
theorem Ia.tup{A B:Addr}{H H':Hp}{xs ys:List V}(k:Ia A B H H')(hA:H A=some (.lst xs))(hB:H B=some (.lst ys)):∀ a zs,H a=some (.tup zs)→H' a=some (.tup zs):=fun a zs h=>k a _ h (fun z=>by
 rw[z,hA]at h
 cases h) (fun z=>by
 rw[z,hB]at h
 cases h)
theorem cO.tups{H H':Hp}{v:V}{it:Item}(t:∀ a xs,H a=some (.tup xs)→H' a=some (.tup xs)):cO H v it→cO H' v it:=fun ⟨a,e,h⟩=>⟨a,e,t a _ h⟩
theorem nP.SO{N:Addr→Prop}{A B:Addr}{H H':Hp}{v:V}{d:uR}{xs ys:List V}(hA:H A=some (.lst xs))(hB:H B=some (.lst ys))(n:∀ a,N a→a≠A∧a≠B)(k:Ia A B H H'):nP N H v d→nP N H' v d:=fun ⟨a,ra,x,e,h,i,⟨as,hr,hp⟩,hn⟩ =>
 ⟨a,ra,x,e,k.tup hA hB _ _ h,i.tups (k.tup hA hB),⟨as,k _ _ hr (n ra hn).1 (n ra hn).2,hp.tups (k.tup hA hB)⟩,hn⟩
theorem bR.app{α β:Type}{R:α→β→Prop}:∀ {as cs:List α} {bs ds:List β},bR R as bs→bR R cs ds→bR R (as++cs) (bs++ds)
 | _,_,_,_,.nil,h=>h
 | _,_,_,_,.cons r t,h=>.cons r (t.app h)
structure sV(H1:Hp)(A B:Addr)(l1 l2:List Item)(H2:Hp):Prop where
 a:∃ vs,H2 A=some (.lst vs)∧bR (cO H2) vs l1
 b:∃ vs,H2 B=some (.lst vs)∧bR (cO H2) vs l2
 k:Ia A B H1 H2
theorem sV.same{H1 H2 H3:Hp}{A B:Addr}{l1 l2:List Item}(p:sV H1 A B l1 l2 H2)(s:aH H2 H3):sV H1 A B l1 l2 H3:=by
 obtain⟨⟨v1,h1,t1⟩,⟨v2,h2,t2⟩,k⟩:=p
 exact⟨⟨v1,s _ _ h1,t1.mono fun _ _ h=>h.same s⟩,⟨v2,s _ _ h2,t2.mono fun _ _ h=>h.same s⟩,fun a o e n m=>s _ _ (k a o e n m)⟩
theorem sV.Ou{H1 H2:Hp}{A B:Addr}{l1 l2 l3:List Item}{v1 v3:List V}(p:sV H1 A B l1 l2 H2)(n:A≠B)(h1:H2 A=some (.lst v1))(t3:bR (cO H2) v3 l3):sV H1 A B (l1++l3) l2 (upd H2 A (.lst (v1++v3))):=by
 obtain⟨⟨v1',h1',t1⟩,⟨v2,h2,t2⟩,k⟩:=p
 rw[h1]at h1'
 cases h1'
 have kp:∀ v i,cO H2 v i→cO (upd H2 A (.lst (v1++v3))) v i:=fun v i h=>h.keep h1 (aI A _ _)
 refine⟨⟨_,af,(t1.mono kp).app (t3.mono kp)⟩,⟨v2,by rw[aC n.symm];exact h2,t2.mono kp⟩,fun a o e m1 m2=>?_⟩
 rw[aC m1]
 exact k a o e m1 m2
theorem sV.Ov{H1 H2:Hp}{A B:Addr}{l1 l2 l3:List Item}{v2 v3:List V}(p:sV H1 A B l1 l2 H2)(n:A≠B)(h2:H2 B=some (.lst v2))(t3:bR (cO H2) v3 l3):sV H1 A B l1 (l2++l3) (upd H2 B (.lst (v2++v3))):=by
 obtain⟨⟨v1,h1,t1⟩,⟨v2',h2',t2⟩,k⟩:=p
 rw[h2]at h2'
 cases h2'
 have kp:∀ v i,cO H2 v i→cO (upd H2 B (.lst (v2++v3))) v i:=fun v i h=>h.keep h2 (aI B _ _)
 refine⟨⟨v1,by rw[aC n];exact h1,t1.mono kp⟩,⟨_,af,(t2.mono kp).app (t3.mono kp)⟩,fun a o e m1 m2=>?_⟩
 rw[aC m2]
 exact k a o e m1 m2
theorem LI{rows:eY}{sh:Int→List Int}(Lv:Sound rows)(hrk:HL rows)(hsh:ET rows sh):∀ x:Int,0≤x→x<rows.length→∀ y∈sh x,0≤y:=by
 obtain⟨rk,hb,hd⟩:=hrk
 have key:∀ (k:Nat) (x:Int),rk x<k→0≤x→x<rows.length→∀ y∈sh x,0≤y:=by
  intro k
  induction k with
  | zero=>intro x h;omega
  | succ k ih =>
   intro x hx x0 x1 y hy
   have he:rows[x.toNat]?=some rows[x.toNat]:=oj (by omega)
   rw[hsh x _ x0 he]at hy
   unfold dY at hy
   obtain⟨e,hm,hy⟩:=List.mem_flatMap.mp hy
   unfold pO at hy
   by_cases c:e<0
   ·rw[if_pos c]at hy
    have nx:Bs rows x (-1-e):=⟨x0,_,he,Br.mpr ⟨by omega,by rw[show -1-(-1-e)=e by omega];exact hm⟩⟩
    obtain⟨a,b⟩:=Lv.QM nx
    have:=hd _ _ nx
    exact ih _ (by omega) a b y hy
   ·rw[if_neg c]at hy
    rw[List.mem_singleton.mp hy]
    omega
 exact fun x=>key (rk x+1) x (Nat.lt_succ_self _)
theorem Ib{rows:eY}{s n:Int}{es:List Int}(h0:0≤s)(he:rows[s.toNat]?=some es)(h:Item.win n∈itemsOf es):Bs rows s n:=by
 refine⟨h0,es,he,?_⟩
 rw[← jz]
 unfold dP
 rw[List.mem_filterMap]
 exact⟨.win n,h,rfl⟩
structure vV(H:Hp)(r:Addr)(rows:eY)(sh:Int→List Int):Prop where
 at_:iN H r (rows.map itemsOf)
 len:rows.length≤1000
 ents:∀ es∈rows,es.length≤1000
 snd:Sound rows
 rk:HL rows
 shw:ET rows sh
 bd:∀ x:Int,0≤x→x<rows.length→(sh x).length≤10000
theorem vV.same{H H':Hp}{r:Addr}{rows:eY}{sh:Int→List Int}(s:aH H H')(h:vV H r rows sh):vV H' r rows sh:={ h with at_:=h.at_.same s }
structure SQ(H:Hp)(r:Addr)(rows:eY)(sh:Int→List Int)(s:Int)(es:List Int)(HV:List V)(b:Addr):Prop where
 he:rows[s.toNat]?=some es
 hr:H r=some (.lst HV)
 ix:uE HV s=some (.ref b)
 it:bM H (.ref b) (itemsOf es)
 il:(itemsOf es).length≤1000
 rl:(aZ sh (itemsOf es)).length≤10000
 tt:tot (rowOf (sh s))=(sh s).length
 se:sh s=dY sh es
theorem vV.one{H:Hp}{r:Addr}{rows:eY}{sh:Int→List Int}{s:Int}(h:vV H r rows sh)(h0:0≤s)(h1:s<rows.length):∃ es HV b,SQ H r rows sh s es HV b:=by
 have mS:rows[s.toNat]?=some rows[s.toNat]:=oj (by omega)
 obtain⟨HV,hr2,uP⟩:=h.at_
 obtain⟨vi,Nl,hI⟩:=uP.get' (i:=s.toNat) (b:=itemsOf rows[s.toNat]) (by rw[qG,mS];rfl)
 obtain⟨b,Mg,rfl,hb,hit⟩:=id hI
 have z:=cU Nl
 rw[show ((s.toNat:Nat):Int)=s by omega]at z
 have hil:=rK rows[s.toNat] []
 have hel:=h.ents _ (rW mS)
 obtain⟨F5,hok⟩:=zk sh rows[s.toNat]
 have se:=h.shw s _ h0 mS
 refine⟨_,HV,b,mS,hr2,z,hI,?_,?_,?_,se⟩
 ·show (rows[s.toNat].foldl aT []).length≤_
  simp only[oq]at hil
  omega
 ·have q:=tS sh (itemsOf rows[s.toNat]) hok
  rw[F5,← se]at q
  have:=h.bd s h0 h1
  omega
 ·rw[← pL _ (pK _),dX]
theorem vI.small{i:Int}(h0:0≤i)(h1:i≤10000):vI i:=by
 have a:(0:Int)<10^60:=by decide
 have b:(10000:Int)<10^60:=by decide
 exact⟨by omega,by omega⟩
theorem vW(ns:List Int):(rowOf ns).length≤ns.length:=by
 have z:=Em ns []
 simpa [rowOf] using z
def tV(sh:Int→List Int)(p:Int)(es new:List Int):List Int:=if new=[] then es else aE sh p 0 es++new++bE sh p 0 es
inductive CG(vs:List V)(H:Hp)(Q:VK)(E:XK):Prop
 | mk (r S:Addr) (its:List Item) (kvs:List (Key × V)) (sh:Int→List Int) (N:Addr→Prop) (_:vs=[.ref r,.ref S]) (_:bM H (.ref r) its) (_:H S=some (.dK kvs)) (_:zq H kvs sh its) (_:its.length≤100000) (_:(∀ it∈its,(iO sh it).length≤100000)) (_:(∀ n a,Item.win n∈its→bU kvs (Sum.inl n)=some (.ref a)→N a)) (_:(∀ a,H a=none→N a)) (_ :
 ∀ (o:Addr) (vs':List V) (H':Hp),H' o=some (.lst vs')→bR (nP N H') vs' (ef sh 0 its)→aH H H'→H o=none→Q (.ref o) H'):CG vs H Q E
theorem pZ:aG ["items","views","told","first","item","row","last"] ["items","views"] (ay tK):=⟨rfl,rfl,rfl,by decide +kernel,rfl,by decide +kernel,by decide +kernel⟩
theorem LJ{f fI fZ:Addr}{fd BB Uv:FuncData}(F:gX K "dealt" "dealt" tK f fd)(T:n9 mg)(cZ:aA K mg "item_row" gJ yi fI BB)(jP:aA K mg "size" ssize iu fZ Uv):aF P w K mg base bN 2 f fd Iw CG:=by
 have vU:aF P w K mg base bN 1 fI BB yi rM:=wW cZ.F T
 have Bx:aF P w K mg base bN 1 fZ Uv iu yQ:=Cr jP.F T
 refine F.ok pZ (fun vs H Q E h=>?_) (fun cdv A outer s H vs Q E hr h=>?_)
 ·obtain⟨r,S,its,kvs,sh,N,rfl,_⟩:=h
  rfl
 obtain⟨r,S,its,kvs,sh,N,rfl,⟨r',Mg,e,hr1,hit⟩,hS,hW,hlen,hrl,nW,nN,k⟩:=h
 cases e
 refine⟨_,(ak (aQ (i:=2) pZ.nd rfl (Or.inl rfl) (bI ah))
   (ak (aQ (i:=3) pZ.nd rfl (Or.inl rfl) az)
   (ak (iV PassesOwn.never rfl (cH (pv 0)) (aV (i:=4) pZ.nd rfl (Or.inl rfl))
   (ak (aQ (i:=5) pZ.nd rfl (Or.inl rfl) (aP cZ vU hr (aa (pv 4) (aa (pv 1) ah))))
   (ak (aQ (i:=6) pZ.nd rfl (Or.inl rfl) (bH iy (pv 3) (jj.uL jP (T.lI _ jP.m) Bx hr (aa (pv 5) ah))))
   (ak (bO (jF qz uu uv cF (pv 2) (aa (jH (aa (pv 4) (aa (pv 5) (aa (pv 3) (aa (pv 6) ah))))) ah)))
   (ao (aQ (i:=3) pZ.nd rfl (Or.inl rfl) (pv 6)))))))
   (ao (aM (pv 2)))))),?_⟩
 refine⟨(by show 0≤sizeLine;decide),fun q hq=>?_⟩
 have s0:aH H (upd H q (.lst [])):=aj hq _
 refine⟨_,rfl,r,rfl,⟨_,bG.of (s0 _ _ hr1)⟩,jM (K:=K) (a:=r) (xs:=Mg) (fun i σ H2=>∃ (vs:List V) (u1 u2 u3:Option V),σ=[some (.ref r),some (.ref S),some (.ref q),some (.int (0+tot (aZ sh (its.take i)))),u1,u2,u3]∧H2 q=some (.lst vs)∧bR (nP (fun a=>N a∧a≠q) H2) vs (ef sh 0 (its.take i))∧aH H H2)
  ⟨[],none,none,none,rfl,af,.nil,s0⟩ (fun i σ H2 _ ⟨_,_,_,_,_,_,_,s⟩=>bG.of (s _ _ hr1)) ?_ ?_⟩
 ·rintro i x σ H2 hi ⟨vs,u1,u2,u3,rfl,hq2,hb,s⟩
  obtain⟨it,ei,hiv⟩:=hit.get hi
  have im:=rW ei
  have bl:=hb.len
  rw[BD,ko]at bl
  refine⟨_,rfl,_,rfl,x,it,S,kvs,fun n=>rowOf (sh n),rfl,hiv.same s,s _ _ hS,fun n hn=>(hW.same s) n (by rw[← hn];exact im),fun a H3 R3 s3 w3=>?_⟩
  have na:N a∧a≠q:=by
   rcases w3 with ⟨n,rfl,hv⟩|h0
   ·refine⟨nW n a im hv,?_⟩
    obtain⟨b,hb1,⟨as,hb2,_⟩⟩:=hW n im
    rw[hv]at hb1
    cases hb1
    exact au hb2 hq
   ·exact⟨nN a (aW s h0),(au hq2 h0).symm⟩
  refine⟨_,rfl,_,rfl,a,iO sh it,rfl,R3,mL (hrl it im) (by decide),fun H4 s4=>⟨_,_,rfl,rfl,?_⟩⟩
  have Uw:=s4 _ _ (s3 _ _ hq2)
  refine⟨_,rfl,.inl ⟨rfl,_,bG.of Uw⟩,_,rfl,_,rfl,_,rfl,_,rfl,(by show 4≤sizeLine;decide),fun t ht=>?_⟩
  have Ux:=aj ht (.tup [x,.ref a,.int (0+tot (aZ sh (its.take i))),.int (0+tot (aZ sh (its.take i))+tot (iO sh it))]) _ _ Uw
  refine⟨q,_,_,rfl,rfl,Ux,aL (by omega),?_⟩
  refine⟨_,rfl,_,some x,some (.ref a),some (.int (0+tot (aZ sh (its.take i))+tot (iO sh it))),?_,af,?_,bV hq (s.trans (s3.trans (s4.trans (aj ht _)))) (aI q _ _)⟩
  ·have e:aZ sh (its.take (i+1))=aZ sh (its.take i)++iO sh it:=by rw[take_snoc ei,dZ,lC];rfl
   rw[e,yL,← Int.add_assoc]
   rfl
  ·have e:ef sh 0 (its.take (i+1))=ef sh 0 (its.take i)++[(it,iO sh it,0+tot (aZ sh (its.take i)),0+tot (aZ sh (its.take i))+tot (iO sh it))]:=by rw[take_snoc ei,uS];rfl
   rw[e]
   have PF:t≠q:=(au Uw ht).symm
   refine bR.snoc (hb.mono fun v d h=>(((h.same s3).same s4).same (aj ht _)).keep Ux (fun a h=>h.2) (aI q _ _)) ⟨t,a,x,rfl,?_,?_,?_,na⟩
   ·rw[aC PF,af]
   ·exact ((((hiv.same s).same s3).same s4).same (aj ht _)).keep Ux (aI q _ _)
   ·exact (((R3.same s4).same (aj ht _))).keep Ux na.2 (aI q _ _)
 ·rintro σ H2 ⟨vs,u1,u2,u3,rfl,hq2,hb,s⟩
  rw[hit.len,kr]at hb
  exact⟨_,rfl,k q vs H2 hq2 (hb.mono fun v d ⟨a,ra,x,e,h,i,r,n⟩=>⟨a,ra,x,e,h,i,r,n.1⟩) s hq⟩
inductive tW(vs:List V)(H:Hp)(Q:VK)(E:XK):Prop
 | mk (r S o:Addr) (p:Int) (its Jl:List Item) (kvs:List (Key × V)) (sh:Int→List Int) (_:vs=[.ref r,.ref S,.int p,.ref o]) (_:bM H (.ref r) its) (_:H S=some (.dK kvs)) (_:zq H kvs sh its) (_:bM H (.ref o) Jl) (_:ja its) (_:ja Jl) (_:SK sh its) (_:its.length≤50000) (_:(aZ sh its).length≤50000) (_:Jl.length≤50000) (_ :
 ∀ (q:Addr) (H':Hp),bM H' (.ref q) (itemsOf (aE sh p 0 (fy its)++fy Jl++bE sh p 0 (fy its)))→aH H H'→H q=none→Q (.ref q) H'):tW vs H Q E
theorem gu:aG ["items","views","place","others","ahead","behind","item","row","first","last"] ["items","views","place","others"] (ay lg):=⟨rfl,rfl,rfl,by decide +kernel,rfl,by decide +kernel,by decide +kernel⟩
theorem CH{f fI fZ fP fS fG fK fD:Addr}{fd BB Uv Nr Oi Uu fdK fdD:FuncData}(F:gX K "put_among" "put_among" lg f fd)(T:n9 mg)(cZ:aA K mg "item_row" gJ yi fI BB)(jP:aA K mg "size" ssize iu fZ Uv)(j5:aA K mg "plain" ny iu fP Nr)(qb:aA K mg "pieces" pX xu fS Oi)(kF:aA K mg "goes_on" lQ FO fG Uu)(gx:aA K mg "plain_items" iD oh fK fdK)(vX:aA K mg "dealt" tK Iw fD fdD){fN:Addr}{Ow:FuncData}(nQ:aA K mg "inked" tH iu fN Ow):aF P w K mg base bN 3 f fd J6 tW:=by
 have Qe:aF P w K mg base bN 2 fD fdD Iw CG:=LJ vX.F T cZ jP
 have Ic:aF P w K mg base bN 1 fS Oi xu yS:=Ju qb.F T
 have CJ:aF P w K mg base bN 2 fN Ow iu ye:=EV nQ.F T j5
 have qc:aF P w K mg base bN 2 fK fdK oh mT:=qV gx.F T kF
 refine F.ok gu (fun vs H Q E h=>?_) (fun cdv A outer s H vs Q E hr h=>?_)
 ·obtain⟨r,S,o,p,its,Jl,kvs,sh,rfl,_⟩:=h
  rfl
 obtain⟨r,S,o,p,its,Jl,kvs,sh,rfl,hI,hS,hW,hO,Uy,ok2,nn,l1,l2,l3,k⟩:=h
 refine⟨_,(ak (aQ (i:=4) gu.nd rfl (Or.inl rfl) (bI ah))
   (ak (aQ (i:=5) gu.nd rfl (Or.inl rfl) (bI ah))
   (ak (iV PassesOwn.never rfl (cH (aP vX Qe hr (aa (pv 0) (aa (pv 1) ah)))) (qJ (n:=4) rfl (bS (aV (i:=6) gu.nd rfl (Or.inl rfl)) (bS (aV (i:=7) gu.nd rfl (Or.inl rfl)) (bS (aV (i:=8) gu.nd rfl (Or.inl rfl)) (bS (aV (i:=9) gu.nd rfl (Or.inl rfl)) ku)))))
   (ao (cy (cI nu (pv 9) (pv 2) (cj _))
   (ao (bO (jF qz uu uv cF (pv 4) (aa (pv 6) ah))))
   (ao (cy (cI nu (pv 2) (pv 8) (cj _))
   (ao (bO (jF qz uu uv cF (pv 5) (aa (pv 6) ah))))
   (ak (BX (i:=4) gu.nd rfl (Or.inl rfl) (aP nQ CJ hr (aa (aP qb Ic hr (aa (pv 7) (aa az (aa (bH kX (pv 2) (pv 8)) ah)))) ah)) Cn)
   (ao (BX (i:=5) gu.nd rfl (Or.inl rfl) (aP nQ CJ hr (aa (aP qb Ic hr (aa (pv 7) (aa (bH kX (pv 2) (pv 8)) (aa (bH kX (pv 9) (pv 8)) ah)))) ah)) Cn))))))))
   (ao (aM (aP gx qc hr (aa (bH oX (bH oX (pv 4) (pv 3)) (pv 5)) ah))))))),?_⟩
 refine⟨(by show 0≤sizeLine;decide),fun A hA=>⟨(by show 0≤sizeLine;decide),fun B hB=>?_⟩⟩
 have sA:aH H (upd H A (.lst [])):=aj hA _
 have sB:aH _ (upd (upd H A (.lst [])) B (.lst [])):=aj hB _
 have s0:=sA.trans sB
 have SR:A≠B:=au af hB
 have hB0:=aW sA hB
 refine⟨_,rfl,_,rfl,r,S,its,kvs,sh,fun a=>a≠A∧a≠B,rfl,hI.same s0,s0 _ _ hS,hW.same s0,by omega,(fun it hi=>by have:=EZ sh hi;omega),?_,?_,fun D dv H1 hD hdl s1 _=>?_⟩
 ·intro n a hn hv
  obtain⟨b,e,as,hb,_⟩:=hW n hn
  rw[hv]at e
  cases e
  exact⟨au hb hA,au hb hB0⟩
 ·intro a ha
  exact⟨(au (sB _ _ af) ha).symm,(au af ha).symm⟩
 have hA1:=s1 _ _ (sB _ _ (af (H:=H) (a:=A) (o:=.lst [])))
 have hB1:=s1 _ _ (af (H:=upd H A (.lst [])) (a:=B) (o:=.lst []))
 have nD:D≠A∧D≠B:=by
  rename_i hD0
  exact⟨(au (sB _ _ af) hD0).symm,(au af hD0).symm⟩
 have ajd:=zu sh (Qc p) its 0
 have aje:=zu sh (Qd p) its 0
 have Uz:=HY sh its 0 Uy nn
 refine⟨D,rfl,⟨_,bG.of hD⟩,jM (K:=K) (a:=D) (xs:=dv) (fun i σ H2=>∃ u1 u2 u3 u4:Option V,σ=[some (.ref r),some (.ref S),some (.int p),some (.ref o),some (.ref A),some (.ref B),u1,u2,u3,u4]∧sV H1 A B (((ef sh 0 its).take i).flatMap (aD p)) (((ef sh 0 its).take i).flatMap (bD p)) H2)
  ⟨none,none,none,none,rfl,⟨_,hA1,.nil⟩,⟨_,hB1,.nil⟩,fun _ _ e _ _=>e⟩ (fun i σ H2 _ ⟨_,_,_,_,_,pv⟩=>bG.of (pv.k _ _ hD nD.1 nD.2)) ?_ ?_⟩
 ·rintro i x σ H2 hi ⟨u1,u2,u3,u4,rfl,pv⟩
  obtain⟨d,ed,hd1⟩:=hdl.get hi
  have hd2:=hd1.SO hA1 hB1 (fun a h=>h) pv.k
  obtain⟨a,ra,xi,rfl,hta,hxi,hra,nra⟩:=hd2
  have eA:=BI (aD p) ed
  have eB:=BI (bD p) ed
  have bA:=rP (aD p) (ef sh 0 its) i
  have bB:=rP (bD p) (ef sh 0 its) i
  have bA1:=rP (aD p) (ef sh 0 its) (i+1)
  have bB1:=rP (bD p) (ef sh 0 its) (i+1)
  obtain⟨v1,hv1,t1⟩:=pv.a
  obtain⟨v2,hv2,t2⟩:=pv.b
  have z1:=t1.len
  have z2:=t2.len
  obtain⟨it,row,fi,la⟩:=d
  have rl:row.length≤50000:=by
   have z:=rW ed
   have:∃ it'∈its,row=iO sh it':=by
    have q:∀ (its:List Item) (f:Int),(it,row,fi,la)∈ef sh f its→∃ it'∈its,row=iO sh it':=by
     intro its
     induction its with
     | nil=>intro f h;cases h
     | cons i0 r0 ih =>
      intro f h
      rw[ef]at h
      rcases List.mem_cons.mp h with e|e
      ·cases e;exact⟨it,by simp,rfl⟩
      ·obtain⟨i1,m1,e1⟩:=ih _ e
       exact⟨i1,rV _ m1,e1⟩
    exact q its 0 z
   obtain⟨i1,m1,rfl⟩:=this
   have:=EZ sh m1
   omega
  refine⟨a,_,rfl,jK.of hta,rfl,_,_,rfl,_,_,rfl,_,_,rfl,_,_,rfl,rfl,?_⟩
  refine⟨_,rfl,_,rfl,_,_,rfl,rfl,_,rfl,ff (fun c=>?_) (fun c=>?_)⟩
  ·have c':la≤p:=of_decide_eq_true c
   refine⟨_,rfl,.inl ⟨rfl,_,bG.of hv1⟩,_,rfl,A,_,_,rfl,rfl,hv1,aL (by omega),?_⟩
   refine⟨_,_,_,_,rfl,?_⟩
   rw[eA,eB]
   have e1:aD p (it,row,fi,la)=[it]:=by unfold aD;rw[if_pos c']
   have e2:bD p (it,row,fi,la)=[]:=by unfold bD;rw[if_pos c']
   rw[e1,e2,om]
   exact pv.Ou SR hv1 (.cons hxi .nil)
  ·have c':¬ la≤p:=fun z=>c (decide_eq_true z)
   refine⟨_,rfl,_,rfl,_,_,rfl,rfl,_,rfl,ff (fun c2=>?_) (fun c2=>?_)⟩
   ·have SS:p≤fi:=of_decide_eq_true c2
    refine⟨_,rfl,.inl ⟨rfl,_,bG.of hv2⟩,_,rfl,B,_,_,rfl,rfl,hv2,aL (by omega),?_⟩
    refine⟨_,_,_,_,rfl,?_⟩
    rw[eA,eB]
    have e1:aD p (it,row,fi,la)=[]:=by unfold aD;rw[if_neg c',if_pos SS]
    have e2:bD p (it,row,fi,la)=[it]:=by unfold bD;rw[if_neg c',if_pos SS]
    rw[e1,e2,om]
    exact pv.Ov SR hv2 (.cons hxi .nil)
   ·have SS:¬ p≤fi:=fun z=>c2 (decide_eq_true z)
    have e1:aD p (it,row,fi,la)=ie (dm (vh 0 (p-fi) 0 row)):=by unfold aD;rw[if_neg c',if_neg SS]
    have e2:bD p (it,row,fi,la)=ie (dm (vh (p-fi) (la-fi) 0 row)):=by unfold bD;rw[if_neg c',if_neg SS]
    rw[eA,e1,eZ]at bA1
    rw[eB,e2,eZ]at bB1
    refine⟨_,rfl,_,rfl,_,rfl,_,rfl,_,_,rfl,rfl,ra,row,0,p-fi,rfl,hra,by omega,fun q1 H3 R3 s3 hq1=>⟨q1,_,rfl,R3,mL (yR _ _ _ _) (by omega),fun q2 H4 I4 s4 hq2=>?_⟩⟩
    obtain⟨q2',v3,e3,h3,t3⟩:=I4
    cases e3
    have z3:=t3.len
    have Qf:=s4 _ _ (s3 _ _ hv1)
    refine⟨A,q2,_,_,rfl,rfl,Qf,h3,jb (aL (by omega)),?_⟩
    have pv5:=((pv.same s3).same s4).Ou SR Qf t3
    have acf:bP (upd H4 A (.lst (v1++v3))) ra row:=((hra.same s3).same s4).keep Qf nra.1 (aI A _ _)
    have acg:(upd H4 A (.lst (v1++v3))) B=some (.lst v2):=by rw[aC SR.symm];exact s4 _ _ (s3 _ _ hv2)
    refine⟨_,rfl,_,rfl,_,rfl,_,rfl,_,_,rfl,rfl,_,rfl,_,rfl,_,_,rfl,rfl,ra,row,p-fi,la-fi,rfl,acf,by omega,fun q3 H6 R6 s6 QT=>⟨q3,_,rfl,R6,mL (yR _ _ _ _) (by omega),fun q4 H7 I7 s7 Uw=>?_⟩⟩
    obtain⟨q4',v4,e4,h4,t4⟩:=I7
    cases e4
    have z4:=t4.len
    have Ox:=s7 _ _ (s6 _ _ acg)
    refine⟨B,q4,_,_,rfl,rfl,Ox,h4,jb (aL (by omega)),?_⟩
    refine⟨_,_,_,_,rfl,?_⟩
    rw[eA,eB,e1,e2]
    exact ((pv5.same s6).same s7).Ov SR Ox t4
 ·rintro σ H2 ⟨u1,u2,u3,u4,rfl,pv⟩
  have dl:=hdl.len
  rw[dl,kr]at pv
  obtain⟨v1,hv1,t1⟩:=pv.a
  obtain⟨v2,hv2,t2⟩:=pv.b
  have z1:=t1.len
  have z2:=t2.len
  have sm:aH H H2:=fun a ob e=>pv.k a ob (s1 _ _ (s0 _ _ e)) (au e hA) (au e hB0)
  obtain⟨o',v3,e3,h3,t3⟩:=hO.same sm
  cases e3
  have z3:=t3.len
  refine⟨_,rfl,_,rfl,A,o,_,_,rfl,rfl,hv1,h3,jb (aL (by omega)),fun c1 hc1=>?_⟩
  have n1:aH H2 (upd H2 c1 (.lst (v1++v3))):=aj hc1 _
  refine⟨_,rfl,c1,B,_,_,rfl,rfl,af,n1 _ _ hv2,jb (aL (by rw[eZ];omega)),fun c2 hc2=>?_⟩
  have n2:aH _ (upd (upd H2 c1 (.lst (v1++v3))) c2 (.lst (v1++v3++v2))):=aj hc2 _
  have MU:=n1.trans n2
  refine⟨c2,_,rfl,⟨c2,_,rfl,af,((t1.app t3).app t2).mono fun v i h=>h.same MU⟩,by rw[eZ,eZ];omega,fun q H9 I9 s9 hq9=>?_⟩
  have okA:ja ((ef sh 0 its).flatMap (aD p)):=HZ fun d hd=>SM (Uz d hd).1 (Uz d hd).2
  have okB:ja ((ef sh 0 its).flatMap (bD p)):=HZ fun d hd=>SN (Uz d hd).1 (Uz d hd).2
  rw[wX _ ((okA.append ok2).append okB),ig,ig,EX sh p its 0 Uy,BG sh p its 0 Uy]at I9
  exact k q H9 I9 (sm.trans (MU.trans s9)) (aW (sm.trans MU) hq9)
inductive tX(C:Addr)(vs:List V)(H:Hp)(Q:VK)(E:XK):Prop
 | mk (r o:Addr) (rows:eY) (s p:Int) (its:List Item) (sh:Int→List Int) (_:vs=[.ref r,.int s,.int p,.ref o]) (_:vV H r rows sh) (_:0≤s) (_:s<rows.length) (_:bM H (.ref o) its) (_:ja its) (_:its.length≤10000) (_:vI p) (_:(0≤p∧p≤(sh s).length→∀ (es:List Int) (q:Addr) (H':Hp),rows[s.toNat]?=some es→bM H' (.ref q) (itemsOf (tV sh p es (fy its)))→aH H H'→H q=none→Q (.ref q) H')) (_:(¬ (0≤p∧p≤(sh s).length)→∀ H',aH H H'→E (.ref C) none H')):tX C vs H Q E
theorem LK{its:List Item}(h:ja its):fy its=[]↔its=[]:=by
 refine⟨fun e=>?_,fun e=>by rw[e];rfl⟩
 cases its with
 | nil=>rfl
 | cons it r =>
  have e1:fy (it::r)=kQ it++fy r:=by unfold fy;rw[nh]
  rw[e1]at e
  have e2:=(List.append_eq_nil_iff.mp e).1
  cases it with
  | win n=>cases e2
  | aB a b =>
   have ab:a<b:=(h (.aB a b) (by simp)).2
   have:=iF a (b-a).toNat
   have e3:run a (b-a).toNat=[]:=e2
   rw[e3]at this
   simp only[oq]at this
   omega
theorem wY:aG ["rows","sheet","place","items","views"] ["rows","sheet","place","items"] (ay nB):=⟨rfl,rfl,rfl,by decide +kernel,rfl,by decide +kernel,by decide +kernel⟩
theorem CK{f fw fb fi fp fv fs fc fg fk fd' fq fn fa C:Addr}{fd gw gb gi gp gv gs gc gg gk gd gq gn ga:FuncData}(F:gX K "put_items" "put_items" nB f fd)(T:n9 mg)(Z:ExcAt K mg C)
  (b9:aA K mg "windows" eK oh fw gw) (j4:aA K mg "below" kZ mj fb gb) (cZ:aA K mg "item_row" gJ yi fi gi) (j5:aA K mg "plain" ny iu fp gp) (gj:aA K mg "views_below" dO mj fv gv) (jP:aA K mg "size" ssize iu fs gs) (eE:aA K mg "check_places" iS xu fc gc)
  (kF:aA K mg "goes_on" lQ FO fg gg) (gx:aA K mg "plain_items" iD oh fk gk) (vX:aA K mg "dealt" tK Iw fd' gd) (qb:aA K mg "pieces" pX xu fq gq) (nQ:aA K mg "inked" tH iu fn gn) (qd:aA K mg "put_among" lg J6 fa ga):aF P w K mg base (qC P w) 4 f fd Mr (tX C):=by
 have o6:aF P w K mg base (qC P w) 2 _ _ xu (xV C):=qq eE.F T Z jP
 have pY:aF P w K mg base bN 3 _ _ mj yd:=qU gj.F T b9 j4 cZ j5
 have qc:aF P w K mg base bN 2 _ _ oh mT:=qV gx.F T kF
 have GL:aF P w K mg base bN 3 _ _ J6 tW:=CH qd.F T cZ jP j5 qb kF gx vX nQ
 refine HG F wY (fun vs H Q E h=>?_) (fun cdv A outer s0 H vs Q E hr h=>?_)
 ·obtain⟨r,o,rows,s,p,its,sh,rfl,_⟩:=h
  rfl
 obtain⟨r,o,rows,s,p,its,sh,rfl,R,h0,h1,hO,ok,ol,fp,k1,k2⟩:=h
 have hu:=mH hr
 refine⟨_,(ak (aQ (i:=4) wY.nd rfl (Or.inl rfl) (aP gj pY hr (aa (pv 0) (aa (bI (aa (pv 1) ah)) ah))))
   (ak (bO (Cg eE o6 hr qP (aa (iY hu (pv 4) (pv 1) (fun _ _=>rfl)) (aa (pv 2) (aa (pv 2) ah)))))
   (ak (cy (kU (nv (pv 3) (fun _=>rfl)))
   (ao (aM (aP gx qc hr (aa (bu bw (pv 0) (pv 1) (fun _ _=>rfl)) ah))))
   bC)
   (ao (aM (aP qd GL hr (aa (bu bw (pv 0) (pv 1) (fun _ _=>rfl)) (aa (pv 4) (aa (pv 2) (aa (pv 3) ah)))))))))),?_⟩
 refine⟨_,rfl,_,rfl,(by show 1≤sizeLine;decide),fun L hL=>?_⟩
 have s1:aH H (upd H L (.lst [.int s])):=aj hL _
 refine⟨r,L,rows,[s],sh,rfl,R.at_.same s1,af,by simp,R.len,R.ents,R.snd,R.rk,(fun x hx=>by rw[List.mem_singleton.mp hx];exact⟨h0,h1⟩),R.shw,R.bd,fun S kvs ks H2 hS hv tp sk hn s2 hS0=>?_⟩
 have sk1:=sk s (by simp)
 obtain⟨a,ha,Ra⟩:=hv s sk1
 have z:=oz.k (k:=Sum.inl s) hS
 rw[ha]at z
 have s12:=s1.trans s2
 have shl:=R.bd s h0 h1
 have rol:=vW (sh s)
 obtain⟨es,HV,b,O⟩:=(R.same s12).one h0 h1
 refine⟨_,rfl,_,rfl,S,_,rfl,z,_,rfl,_,rfl,a,rowOf (sh s),p,p,rfl,Ra,by omega,fp,fp,(by rw[O.tt];exact vI.small (by omega) (by omega)),fun hin H3 s3=>?_,fun hin H3 s3=>?_⟩
 ·have hp:0≤p∧p≤(sh s).length:=⟨hin.1,by rw[← O.tt];exact hin.2.2⟩
  obtain⟨es',ajn,b',O3⟩:=(R.same (s12.trans s3)).one h0 h1
  have ee:es=es':=rX (O.he.symm.trans O3.he)
  subst ee
  have hO3:=hO.same (s12.trans s3)
  obtain⟨o',UA,eo,ho,to⟩:=id hO3
  cases eo
  refine⟨_,rfl,!UA.isEmpty,.inl ⟨_,bG.of ho,rfl⟩,?_⟩
  have el:=to.len
  cases its with
  | nil =>
   have:UA=[]:=List.eq_nil_of_length_eq_zero (by simpa using el)
   subst this
   refine jI ?_
   refine⟨_,rfl,_,rfl,r,_,_,_,rfl,rfl,bG.of O3.hr,O3.ix,b',itemsOf es,rfl,O3.it,mL O3.il (by decide),fun q H4 I4 s4 hq=>?_⟩
   refine k1 hp es q H4 O.he ?_ (s12.trans (s3.trans s4)) (aW (s12.trans s3) hq)
   obtain⟨e1,e2⟩:=tT es
   rw[wX _ e2,e1]at I4
   exact I4
  | cons it r0 =>
   have:(!UA.isEmpty)=true:=by
    cases UA with
    | nil=>simp at el
    | cons _ _=>rfl
   rw[this]
   refine i7 ?_
   refine⟨_,rfl,_,rfl,r,_,_,_,rfl,rfl,bG.of O3.hr,O3.ix,_,rfl,_,rfl,_,rfl,b',S,o,p,itemsOf es,it::r0,kvs,sh,rfl,O3.it,s3 _ _ hS,fun n hn=>?_,hO3,(tT es).2,ok,fun n hn=>?_,mL O3.il (by decide),mL O3.rl (by decide),mL ol (by decide),fun q H4 I4 s4 hq=>?_⟩
   ·have nx:=Ib h0 O.he hn
    obtain⟨i,hi⟩:=List.getElem?_of_mem sk1
    obtain⟨a2,e2,R2⟩:=hv n (List.mem_of_mem_take (tp.dn i s hi n nx))
    exact⟨a2,e2,R2.same s3⟩
   ·have nx:=Ib h0 O.he hn
    obtain⟨n0,n1⟩:=R.snd.QM nx
    exact LI R.snd R.rk R.shw n n0 n1
   ·refine k1 hp es q H4 O.he ?_ (s12.trans (s3.trans s4)) (aW (s12.trans s3) hq)
    rw[(tT es).1]at I4
    unfold tV
    rw[if_neg (fun z=>by cases (LK ok).mp z)]
    exact I4
 ·exact k2 (fun hp=>hin ⟨hp.1,Int.le_refl _,by rw[O.tt];exact hp.2⟩) H3 (s12.trans s3)
abbrev eS(ws:mh):HO:=.lst (ws.map fun w=>V.str (txt w))
abbrev UB:List (Str × Int):=[(Str.ofString "fresh",0),(Str.ofString "cut",3),(Str.ofString "move",4),(Str.ofString "quote",5),(Str.ofString "window",3),(Str.ofString "fix",1),(Str.ofString "back",2),(Str.ofString "fork",2),(Str.ofString "untie",1),(Str.ofString "read",1)]
abbrev SV:List (Str × Int):=[(Str.ofString "put",2),(Str.ofString "strike",0),(Str.ofString "blot",1),(Str.ofString "lift",1)]
def tabAt(D:List (Str × Int))(n:List Nat):Option Int:=(D.find? fun p=>decide (txt n=p.1)).map (·.2)
theorem zw{D:List (Str × Int)}{n:List Nat}{i:Int}(h:tabAt D n=some i):(D.find? fun p=>decide (txt n=p.1))=some (txt n,i):=by
 unfold tabAt at h
 obtain⟨⟨x,j⟩,e,rfl⟩:=Option.map_eq_some_iff.mp h
 have z:=List.find?_some e
 have:txt n=x:=of_decide_eq_true z
 rw[e,this]
abbrev mU:List Nat:=[116,105,101]
inductive mV where
 | Ay (h:Int) (t:List Nat)
 | FL (a b:Row)
 | plain (n:List Nat) (ns:List Int)
 | sW (n:List Nat) (ns:List Int) (r:Row)
def mV.At(H:Hp)(p:Addr):mV→Prop
 | .Ay h t=>H p=some (.tup [.str (Str.ofString "pour"),.int h,.str (txt t)])
 | .FL a b=>∃ q1 q2,H p=some (.tup [.str (Str.ofString "tie"),.ref q1,.ref q2])∧bP H q1 a∧bP H q2 b∧q1≠q2
 | .plain n ns=>H p=some (.tup (.str (txt n)::ns.map V.int))
 | .sW n ns r=>∃ q,H p=some (.tup (.str (txt n)::ns.map V.int++[.ref q]))∧bP H q r
def uU(n:Int):Prop:=0≤n∧n<10^60
def GN(r:Row):Prop:=r.length≤29∧∀ p∈r,uU p.1∧uU p.2
def mV.Ok:mV→Prop
 | .Ay h t=>uU h∧t.length≤200
 | .FL a b=>GN a∧GN b
 | .plain n ns=>tabAt UB n=some (ns.length:Int)∧∀ x∈ns,uU x
 | .sW n ns r=>tabAt SV n=some (ns.length:Int)∧(∀ x∈ns,uU x)∧GN r
abbrev gy(p:Int × Int):List Nat:=gY.dg p.1++45::gY.dg p.2
theorem JH{p:Int × Int}(h:uU p.1∧uU p.2):(gy p).length≤121:=by
 rw[eZ,mq]
 have a:=gY.Gv h.1.1 h.1.2
 have b:=gY.Gv h.2.1 h.2.2
 omega
theorem CL{n:Int}(h:uU n):n.natAbs.log2<1920:=by
 obtain⟨h0,h1⟩:=h
 by_cases z:n.natAbs=0
 ·rw[z];decide
 ·rw[Nat.log2_lt z]
  have a:n.natAbs<10^60:=by omega
  exact pU a (mL (show (10:Nat)^60≤2^200 by decide) (Nat.pow_le_pow_right (by decide) (by decide)))
inductive Part where
 | num (x:Int)
 | tx (t:List Nat)
 | row (r:Row)
def Part.At(H:Hp)(v:V):Part→Prop
 | .num x=>v=.int x
 | .tx t=>v=.str (txt t)
 | .row r=>∃ q,v=.ref q∧bP H q r
def Part.Ok:Part→Prop
 | .num x=>uU x
 | .tx t=>t.length≤200
 | .row r=>GN r
abbrev uV(r:Row):List Nat:=r.flatMap fun p=>32::gy p
def Part.line:Part→List Nat
 | .num x=>32::gY.dg x
 | .tx t=>32::t
 | .row r=>uV r
theorem zx{r:Row}(h:GN r):(uV r).length≤4000:=by
 have key:∀ l:Row,(∀ p∈l,uU p.1∧uU p.2)→(uV l).length≤122*l.length:=by
  intro l
  induction l with
  | nil=>intro _;exact fH _
  | cons p l ih =>
   intro g
   have z:=ih fun q hq=>g q (rV _ hq)
   have z2:=JH (g p qH)
   show ((32::gy p)++uV l).length≤_
   rw[eZ,mq,mq]
   omega
 have:=key r h.2
 have:=h.1
 omega
theorem Part.E1{p:Part}(h:p.Ok):p.line.length≤4000:=by
 cases p with
 | num x=>have:=gY.Gv h.1 h.2;show (32::gY.dg x).length≤_;rw[mq];omega
 | tx t=>have h':t.length≤200:=h;show (32::t).length≤_;rw[mq];omega
 | row r=>exact zx h
def mV.nm:mV→List Nat
 | .Ay _ _=>[112,111,117,114]
 | .FL _ _=>mU
 | .plain n _=>n
 | .sW n _ _=>n
def mV.parts:mV→List Part
 | .Ay h t=>[.num h,.tx t]
 | .FL _ _=>[]
 | .plain _ ns=>ns.map .num
 | .sW _ ns r=>ns.map .num++[.row r]
def mV.line:mV→List Nat
 | .FL a b=>mU++uV a++[32,47]++uV b
 | d=>d.nm++d.parts.flatMap Part.line
theorem LL{H:Hp}{p:Addr}{d:mV}(h:d.At H p)(nt:∀ a b,d≠.FL a b):∃ vs,H p=some (.tup (.str (txt d.nm)::vs))∧bR (fun v q=>Part.At H v q) vs d.parts:=by
 have nums:∀ ns:List Int,bR (fun v q=>Part.At H v q) (ns.map V.int) (ns.map Part.num):=fun ns=>by
  induction ns with
  | nil=>exact .nil
  | cons x ns ih=>exact .cons rfl ih
 cases d with
 | Ay x t=>exact⟨_,by rw[h,show Str.ofString "pour"=txt [112,111,117,114] by decide +kernel];rfl,.cons rfl (.cons rfl .nil)⟩
 | FL a b=>exact absurd rfl (nt a b)
 | plain n ns=>exact⟨_,h,nums ns⟩
 | sW n ns r =>
  obtain⟨q,e,z⟩:=h
  exact⟨ns.map V.int++[.ref q],by rw[e];rfl,(nums ns).snoc ⟨q,rfl,z⟩⟩
theorem JI{d:mV}(h:d.Ok):∀ q∈d.parts,q.Ok:=by
 cases d with
 | Ay x t =>
  intro q hq
  rcases List.mem_cons.mp hq with z|z
  ·rw[z];exact h.1
  ·rw[List.mem_singleton.mp z];exact h.2
 | FL a b=>intro q hq;cases hq
 | plain n ns =>
  intro q hq
  obtain⟨x,hx,rfl⟩:=List.mem_map.mp hq
  exact h.2 x hx
 | sW n ns r =>
  intro q hq
  rcases List.mem_append.mp hq with z|z
  ·obtain⟨x,hx,rfl⟩:=List.mem_map.mp z
   exact h.2.1 x hx
  ·rw[List.mem_singleton.mp z];exact h.2.2
theorem E2{H:Hp}:∀ {vs:List V} {ps:List Part} {i:Nat} {v:V},bR (fun v q=>Part.At H v q) vs ps→vs[i]?=some v→∃ q,ps[i]?=some q∧q.At H v
 | _,_,_,_,.nil,h=>by simp at h
 | _,_,0,_,.cons o t,h=>by
  have e:=rX h
  subst e
  exact⟨_,rfl,o⟩
 | _,_,i+1,_,.cons o t,h=>by
  obtain⟨q,e,z⟩:=E2 (i:=i) t (by simpa using h)
  exact⟨q,by simpa using e,z⟩
theorem BJ{ps:List Part}(h:∀ q∈ps,q.Ok):(ps.flatMap Part.line).length≤4000*ps.length:=by
 induction ps with
 | nil=>exact mO _
 | cons p ps ih =>
  have z:=ih fun q hq=>h q (rV _ hq)
  have z2:=Part.E1 (h p qH)
  rw[nh,eZ,mq,Nat.mul_add,Nat.mul_one]
  omega
theorem Ie(n:List Nat):∀ ws:mh,gY.jn 32 (n::ws)=n++ws.flatMap (fun w=>32::w):=by
 intro ws
 induction ws generalizing n with
 | nil=>show n=_;simp
 | cons w ws ih =>
  show n++32::gY.jn 32 (w::ws)=_
  rw[ih w,nh]
  simp
theorem E3{D:List (Str × Int)}{n:List Nat}{k:Int}(hD:∀ p∈D,32∉p.1.cps.toList∧p.1.cps.toList≠[112,111,117,114]∧p.1.cps.toList≠mU∧p.1.cps.toList.length≤10)(h:tabAt D n=some k):32∉n∧n≠[112,111,117,114]∧n≠mU∧n.length≤10:=by
 have z:=hD _ (List.mem_of_find?_eq_some (zw h))
 have e:(txt n).cps.toList=n:=gY.rL n
 rw[show ((txt n,k):Str × Int).1=txt n from rfl,e]at z
 exact z
theorem LN{n:List Nat}{k:Int}(h:tabAt UB n=some k):32∉n∧n≠[112,111,117,114]∧n≠mU∧n.length≤10:=E3 (by decide +kernel) h
theorem LO{n:List Nat}{k:Int}(h:tabAt SV n=some k):32∉n∧n≠[112,111,117,114]∧n≠mU∧n.length≤10:=E3 (by decide +kernel) h
theorem qW(r:Row):uV r=(r.map gy).flatMap fun w=>32::w:=by
 induction r with
 | nil=>rfl
 | cons x r ih=>rw[kO,nh,← ih];rfl
theorem mV.At.same{H H':Hp}{p:Addr}{d:mV}(h:d.At H p)(s:aH H H'):d.At H' p:=by
 cases d with
 | Ay x t=>exact s _ _ h
 | FL a b=>obtain⟨q1,q2,e,r1,r2,n⟩:=h;exact⟨q1,q2,s _ _ e,r1.same s,r2.same s,n⟩
 | plain n ns=>exact s _ _ h
 | sW n ns r=>obtain⟨q,e,r1⟩:=h;exact⟨q,s _ _ e,r1.same s⟩
theorem JJ{n:List Nat}{k:Int}(h:tabAt UB n=some k):k≤5:=by
 have z:∀ p∈UB,p.2≤5:=by decide +kernel
 exact z _ (List.mem_of_find?_eq_some (zw h))
theorem JK{n:List Nat}{k:Int}(h:tabAt SV n=some k):k≤5:=by
 have z:∀ p∈SV,p.2≤5:=by decide +kernel
 exact z _ (List.mem_of_find?_eq_some (zw h))
theorem GO{d:mV}(ok:d.Ok):(∀ a b,d≠.FL a b)→d.nm≠mU∧d.nm.length≤10∧d.parts.length≤10:=by
 intro nt
 cases d with
 | Ay x t=>exact⟨by show [112,111,117,114]≠mU;decide,by show 4≤10;decide,by show 2≤10;decide⟩
 | FL a b=>exact absurd rfl (nt a b)
 | plain n ns =>
  obtain⟨_,_,f3,f4⟩:=LN ok.1
  have:=JJ ok.1
  exact⟨f3,f4,by show (ns.map Part.num).length≤10;rw[bY];omega⟩
 | sW n ns r =>
  obtain⟨_,_,f3,f4⟩:=LO ok.1
  have:=JK ok.1
  exact⟨f3,f4,by show (ns.map Part.num++[Part.row r]).length≤10;rw[eZ,bY];show ns.length+1≤10;omega⟩
inductive tY(vs:List V)(H:Hp)(Q:VK)(E:XK):Prop
 | mk (q:Addr) (r:Row) (_:vs=[.ref q]) (_:bP H q r) (_:GN r) (_: ∀ (a:Addr) (H':Hp),H' a=some (eS (r.map gy))→aH H H'→H a=none→Q (.ref a) H'):tY vs H Q E
theorem E4:aG ["row"] ["row"] (ay jc):=⟨rfl,rfl,rfl,by decide +kernel,rfl,by decide +kernel,by decide +kernel⟩
theorem LP{a b:Int}(ha:0≤a)(hb:0≤b):(Str.empty++Str.ofString (toString a)++Str.ofString "-"++Str.ofString (toString b))=txt (gy (a,b)):=by
 rw[gY.xZ ha,gY.xZ hb,show Str.ofString "-"=txt [45] by decide +kernel,show Str.empty=txt [] from rfl,xY,xY,xY]
 simp
theorem CM{f:Addr}{fd:FuncData}(F:gX K "ink_words" "ink_words" jc f fd)(T:n9 mg):aF P w K mg base bN 1 f fd iu tY:=by
 refine F.ok E4 (fun vs H Q E h=>?_) (fun cdv A outer s H vs Q E hr h=>?_)
 ·obtain⟨q,r,rfl,_⟩:=h
  rfl
 obtain⟨q,r,rfl,⟨as,hq,pa⟩,⟨lr,fr⟩,k⟩:=h
 refine⟨_,(ao (aM (lW (N:=["start","stop"]) (qQ (sc:=ay jc) (NX:=["row"]) (jx:=[none,none]) rfl rfl rfl (by decide +kernel) (by decide +kernel) rfl (by decide +kernel) rfl (by decide +kernel)) rfl (cH (pv 0)) (fun _ _ _ _ _ _=>(HH (n:=2) rfl (bS (aV (i:=0) (show List.Nodup (["start","stop"]:List Str) by decide +kernel) rfl (Or.inl rfl)) (bS (aV (i:=1) (show List.Nodup (["start","stop"]:List Str) by decide +kernel) rfl (Or.inl rfl)) ku)))) (fun _ _ _ _ _ _=>iG) (fun _ _ _ _ _ _=>(gY.Lo (gY.HS (pv 0) (gY.Ni (gY.HS (pv 1) gY.Nh)))))))),?_⟩
 have lp:=Paired.length pa
 refine⟨_,rfl,q,rfl,⟨_,bG.of hq⟩,fun acc hacc=>jo (K:=K) (a:=q) (xs:=as.map V.ref) (fun i σ H2=>∃ u0 u1:Option V,σ=[u0,u1]∧H2 acc=some (eS ((r.take i).map gy))∧aH H H2) ⟨none,none,rfl,af,aj hacc _⟩ (fun i σ H2 _ ⟨_,_,_,_,s2⟩=>bG.of (s2 _ _ hq)) ?_ ?_⟩
 ·rintro i y σ H2 hi ⟨u0,u1,rfl,h2,s2⟩
  rw[qG]at hi
  obtain⟨a,ei,rfl⟩:=Option.map_eq_some_iff.mp hi
  obtain⟨p,ep,hp⟩:=pa.get ei
  have fp:=fr p (rW ep)
  have il:=(List.getElem?_eq_some_iff.mp ep).1
  refine⟨a,_,rfl,jK.of (s2 _ _ hp),rfl,_,_,rfl,_,_,rfl,rfl,?_⟩
  refine⟨_,rfl,_,rfl,CL fp.1,_,rfl,_,rfl,CL fp.2,_,h2,aL (by rw[bY,bY,ko];omega),_,_,rfl,?_,bV hacc s2 (aI acc _ _)⟩
  rw[af,take_snoc ep,lK,kO,List.map_nil,LP fp.1.1 fp.2.1]
  show some (HO.lst _)=some (HO.lst _)
  rw[lK]
  rfl
 ·rintro σ H2 ⟨u0,u1,rfl,h2,s2⟩
  rw[bY,lp,kr]at h2
  exact k acc H2 h2 s2 hacc
def Part.words:Part→mh
 | .num x=>[gY.dg x]
 | .tx t=>[t]
 | .row r=>r.map gy
theorem tZ(ps:List Part):(ps.flatMap Part.words).flatMap (fun w=>32::w)=ps.flatMap Part.line:=by
 induction ps with
 | nil=>rfl
 | cons p ps ih =>
  rw[nh,nh,List.flatMap_append,ih]
  congr 1
  cases p with
  | num x=>show (32::gY.dg x)++[]=32::gY.dg x;rw[om]
  | tx t=>show (32::t)++[]=32::t;rw[om]
  | row r=>exact (qW r).symm
inductive zy(vs:List V)(H:Hp)(Q:VK)(E:XK):Prop
 | mk (p:Addr) (d:mV) (_:vs=[.ref p]) (_:d.At H p) (_:d.Ok) (_:((∀ a b,d≠.FL a b)→d.nm≠mU∧d.nm.length≤10∧d.parts.length≤10)) (_: ∀ H',aH H H'→Q (.str (txt d.line)) H'):zy vs H Q E
theorem mW:aG ["deed","words","thing"] ["deed"] (ay j8):=⟨rfl,rfl,rfl,by decide +kernel,rfl,by decide +kernel,by decide +kernel⟩
theorem zz(W:mh):(W.map List.length).sum+W.length=(W.flatMap fun w=>32::w).length:=by
 induction W with
 | nil=>rfl
 | cons x W ih =>
  rw[kO,List.sum_cons,mq,nh,eZ,mq,← ih]
  omega
theorem rQ(a b:mh):(a.map fun w=>V.str (txt w))++(b.map fun w=>V.str (txt w))=(a++b).map fun w=>V.str (txt w):=List.map_append.symm
set_option maxHeartbeats 4000000 in
theorem Az{f fI:Addr}{fd gI:FuncData}(F:gX K "shown_deed" "shown_deed" j8 f fd)(T:n9 mg)(jq:aA K mg "ink_words" jc iu fI gI):aF P w K mg base bN 2 f fd ["deed"] zy:=by
 have t6:aF P w K mg base bN 1 _ _ iu tY:=CM jq.F T
 refine F.ok mW (fun vs H Q E h=>?_) (fun cdv A outer s H vs Q E hr h=>?_)
 ·obtain⟨p,d,rfl,_⟩:=h
  rfl
 obtain⟨p,d,rfl,hd,ok,nn,k⟩:=h
 refine⟨_,(ak (cy (cI mG (bu dN (pv 0) az (fun _ _=>rfl)) bT (cj _))
   (ao (aM (jF PySem.F.plainAttrs_str PySem.F.slot_str_join PySem.F.type_str_join gY.EG bT (aa (bH oX (bH oX (bH oX (bI (aa bT ah)) (aP jq t6 hr (aa (bu dN (pv 0) az (fun _ _=>rfl)) ah))) (bI (aa bT ah))) (aP jq t6 hr (aa (bu dN (pv 0) az (fun _ _=>rfl)) ah))) ah))))
   bC)
   (ak (aQ (i:=1) mW.nd rfl (Or.inl rfl) (bI (aa (bu dN (pv 0) az (fun _ _=>rfl)) ah)))
   (ak (iV PassesOwn.never rfl (O2 (pF Pa (pv 0) (rE az) rD)) (aV (i:=2) mW.nd rfl (Or.inl rfl))
   (ao (BX (i:=1) mW.nd rfl (Or.inl rfl) (DN (kT (aO cS rfl T.cD xx (aa (pv 2) (aa (qp rfl T.nM yl) ah)))) (aP jq t6 hr (aa (pv 2) ah)) (bI (aa (EI.Ss (pv 2)) ah))) Cn)))
   (ao (aM (jF PySem.F.plainAttrs_str PySem.F.slot_str_join PySem.F.type_str_join gY.EG bT (aa (pv 1) ah))))))),?_⟩
 have tt:Str.ofString "tie"=txt mU:=by decide +kernel
 have kil:PySem.W.kitOne K (.type "int") (.type "list")=some false:=by kernel_rfl
 have ksl:PySem.W.kitOne K (.type "str") (.type "list")=some false:=by kernel_rfl
 by_cases ht:∃ a b,d=.FL a b
 ·obtain⟨a,b,rfl⟩:=ht
  obtain⟨q1,q2,hp,r1,r2,_⟩:=hd
  have la:=zx ok.1
  have lb:=zx ok.2
  have ea:(a.map gy).length=a.length:=bY _
  have eb:(b.map gy).length=b.length:=bY _
  have a29:=ok.1.1
  have b29:=ok.2.1
  refine⟨_,rfl,p,_,_,_,rfl,rfl,jK.of hp,cU (j:=0) rfl,?_⟩
  refine⟨rfl,_,rfl,ff (fun _=>?_) (fun c=>absurd (decide_eq_true rfl) c)⟩
  refine⟨rfl,(by show 1≤sizeLine;decide),fun t1 f1=>?_⟩
  have s1:=aj f1 (.lst [.str (Str.ofString "tie")])
  have h1:(upd H t1 (.lst [.str (Str.ofString "tie")])) t1=some (eS [mU]):=by rw[tt];exact af
  generalize upd H t1 (.lst [.str (Str.ofString "tie")])=H1 at s1 h1
  refine⟨_,rfl,p,_,_,_,rfl,rfl,jK.of (s1 _ _ hp),cU (j:=1) rfl,q1,a,rfl,r1.same s1,ok.1,fun w1 H2 hw1 s2 fw1=>?_⟩
  refine⟨t1,w1,_,_,rfl,rfl,s2 _ _ h1,hw1,jb (aL (by simp only[bY,mq,oq];omega)),fun t2 f2=>?_⟩
  rw[rQ]
  have s3:=aj f2 (eS ([mU]++a.map gy))
  have h3:(upd H2 t2 (eS ([mU]++a.map gy))) t2=some (eS ([mU]++a.map gy)):=af
  generalize upd H2 t2 (eS ([mU]++a.map gy))=H3 at s3 h3
  refine⟨(by show 1≤sizeLine;decide),fun t3 f3=>?_⟩
  have s4:=aj f3 (.lst [.str (Str.ofString "/")])
  have h4:(upd H3 t3 (.lst [.str (Str.ofString "/")])) t3=some (eS [[47]]):=by rw[show Str.ofString "/"=txt [47] by decide +kernel];exact af
  generalize upd H3 t3 (.lst [.str (Str.ofString "/")])=H4 at s4 h4
  refine⟨t2,t3,_,_,rfl,rfl,s4 _ _ h3,h4,jb (aL (by simp only[bY,eZ,mq,oq];omega)),fun t4 f4=>?_⟩
  rw[rQ]
  have s5:=aj f4 (eS ([mU]++a.map gy++[[47]]))
  have h5:(upd H4 t4 (eS ([mU]++a.map gy++[[47]]))) t4=some (eS ([mU]++a.map gy++[[47]])):=af
  generalize upd H4 t4 (eS ([mU]++a.map gy++[[47]]))=H5 at s5 h5
  have QW:aH H H5:=s1.trans (s2.trans (s3.trans (s4.trans s5)))
  refine⟨_,rfl,p,_,_,_,rfl,rfl,jK.of (QW _ _ hp),cU (j:=2) rfl,q2,b,rfl,r2.same QW,ok.2,fun w2 H6 hw2 s6 fw2=>?_⟩
  refine⟨t4,w2,_,_,rfl,rfl,s6 _ _ h5,hw2,jb (aL (by simp only[bY,eZ,mq,oq];omega)),fun t5 f5=>?_⟩
  rw[rQ]
  have s7:=aj f5 (eS ([mU]++a.map gy++[[47]]++b.map gy))
  have e5:[mU]++a.map gy++[[47]]++b.map gy=mU::(a.map gy++[47]::b.map gy):=by simp
  have el:gY.jn 32 (mU::(a.map gy++[47]::b.map gy))=(mV.FL a b).line:=by
   rw[Ie,List.flatMap_append,nh,← qW,← qW]
   show _=mU++uV a++[32,47]++uV b
   simp
  have fs:=zz (a.map gy++[47]::b.map gy)
  rw[List.flatMap_append,nh,← qW,← qW]at fs
  simp only[eZ,mq,oq]at fs
  refine⟨t5,32,_,by rw[show Str.ofString " "=⟨#[32]⟩ by decide +kernel],rfl,af,?_,?_⟩
  ·rw[e5,kO,List.sum_cons,mq]
   simp only[eZ,mq,oq]
   omega
  rw[e5]at s7 ⊢
  rw[el]
  exact k _ (QW.trans (s6.trans s7))
 have nt:∀ a b,d≠.FL a b:=fun a b e=>ht ⟨a,b,e⟩
 obtain⟨vs,hp,al⟩:=LL hd nt
 obtain⟨n1,n2,n3⟩:=nn nt
 have pk:=JI ok
 have lv:=al.len
 have ln:d.line=d.nm++d.parts.flatMap Part.line:=by
  cases d with
  | FL a b=>exact absurd rfl (nt a b)
  | _=>rfl
 refine⟨_,rfl,p,_,_,_,rfl,rfl,jK.of hp,cU (j:=0) rfl,?_⟩
 refine⟨rfl,_,rfl,ff (fun c=>absurd (of_decide_eq_true c) (by rw[tt];intro z;exact n1 (Ng (V.str.inj z)))) (fun _=>?_)⟩
 refine⟨_,rfl,p,_,_,_,rfl,rfl,jK.of hp,cU (j:=0) rfl,(by show 1≤sizeLine;decide),fun wl fwl=>?_⟩
 have s0:=aj fwl (.lst [.str (txt d.nm)])
 have h0:(upd H wl (.lst [.str (txt d.nm)])) wl=some (eS [d.nm]):=af
 refine⟨_,rfl,_,rfl,p,_,rfl,jK.of (s0 _ _ hp),?_,fun tp htp=>?_⟩
 ·rintro⟨z,_⟩
  have e:HT.gH (V.str (txt d.nm)::vs).length 0 (some 1)=min 1 (V.str (txt d.nm)::vs).length:=HT.Hh _ _ 1
  have z':HT.gH (V.str (txt d.nm)::vs).length 0 (some 1)=0:=z
  rw[e,mq]at z'
  omega
 have ec:rZ (V.str (txt d.nm)::vs) (some 1) none=vs:=by
  unfold rZ
  have e:HT.gH (V.str (txt d.nm)::vs).length 0 (some 1)=1:=(HT.Hh _ _ 1).trans (by rw[mq];omega)
  have e2:HT.gH (V.str (txt d.nm)::vs).length (V.str (txt d.nm)::vs).length none=vs.length+1:=rfl
  rw[e,e2]
  show vs.take (vs.length+1-1)=vs
  exact yk (by omega)
 rw[ec]
 change (upd H wl (.lst [.str (txt d.nm)])) tp=none at htp
 have s1':=aj htp (.tup vs)
 have h1:(upd (upd H wl (.lst [.str (txt d.nm)])) tp (.tup vs)) tp=some (.tup vs):=af
 have h1w:=s1' _ _ h0
 have s1:=s0.trans s1'
 have nwt:wl≠tp:=au h0 htp
 generalize upd (upd H wl (.lst [.str (txt d.nm)])) tp (.tup vs)=H1 at s1 h1 h1w
 refine⟨tp,rfl,⟨_,jK.of h1⟩,MC (K:=K) (a:=tp) (xs:=vs) (fun i σ H2=>∃ u:Option V,σ=[some (.ref p),some (.ref wl),u]∧H2 wl=some (eS (d.nm::(d.parts.take i).flatMap Part.words))∧H2 tp=some (.tup vs)∧aH H H2) ⟨none,rfl,by rw[List.take_zero,List.flatMap_nil];exact h1w,h1,s1⟩ (fun i σ H2 _ ⟨_,_,_,h2,_⟩=>jK.of h2) ?_ ?_⟩
 ·rintro i v σ H2 hi ⟨u,rfl,h2,h2t,s2⟩
  obtain⟨q,eq,hq⟩:=E2 al hi
  have qk:=pk q (rW eq)
  have ql:=Part.E1 qk
  have fl:=BJ (ps:=d.parts.take i) fun q hq=>pk q (List.mem_of_mem_take hq)
  have ft:(d.parts.take i).length≤10:=by rw[ko];omega
  have fs:=zz ((d.parts.take i).flatMap Part.words)
  rw[tZ]at fs
  have nx:d.nm::(d.parts.take (i+1)).flatMap Part.words=(d.nm::(d.parts.take i).flatMap Part.words)++q.words:=by
   rw[take_snoc eq,List.flatMap_append,nh,List.flatMap_nil,om,List.cons_append]
  have lB:(d.nm::(d.parts.take i).flatMap Part.words).length≤50000:=by rw[mq];omega
  have lq:q.words.length≤29:=by
   cases q with
   | num x=>show 1≤29;decide
   | tx t=>show 1≤29;decide
   | row r=>show (r.map gy).length≤29;rw[bY];exact qk.1
  have fin:∀ (t:Addr) (H3:Hp) (v':V),aH H2 H3→H2 t=none→H3 t=some (eS q.words)→∃ (l b:Addr) (xs zs:List V),V.ref wl=.ref l∧V.ref t=.ref b∧H3 l=some (.lst xs)∧H3 b=some (.lst zs)∧xs.length+zs.length≤sizeLine∧∃ u:Option V,([some (.ref p),some (.ref wl),some v']:List (Option V)).set 1 (some (.ref l))=[some (.ref p),some (.ref wl),u]∧(upd H3 l (.lst (xs++zs))) wl=some (eS (d.nm::(d.parts.take (i+1)).flatMap Part.words))∧(upd H3 l (.lst (xs++zs))) tp=some (.tup vs)∧aH H (upd H3 l (.lst (xs++zs))):=by
   intro t H3 v' s3 Bb h3
   refine⟨wl,t,_,_,rfl,rfl,s3 _ _ h2,h3,jb (aL (by rw[bY,bY];omega)),_,rfl,?_,?_,?_⟩
   ·rw[rQ,af,nx]
   ·rw[aC nwt.symm];exact s3 _ _ h2t
   ·exact bV fwl (s2.trans s3) (aI wl _ _)
  cases q with
  | num x =>
   cases (show v=.int x from hq)
   refine⟨_,rfl,_,rfl,_,"list",_,_,rfl,.int x,kil,_,rfl,i7 ⟨_,rfl,.inl ⟨x,rfl,CL qk,?_⟩⟩⟩
   rw[gY.xZ qk.1]
   exact⟨(by show 1≤sizeLine;decide),fun t Bb=>fin t _ (.int x) (aj Bb _) Bb af⟩
  | tx t =>
   cases (show v=.str (txt t) from hq)
   have lt:t.length≤200:=qk
   refine⟨_,rfl,_,rfl,_,"list",_,_,rfl,.str _,ksl,_,rfl,i7 ⟨_,rfl,.inr ⟨t,rfl,by omega,?_⟩⟩⟩
   exact⟨(by show 1≤sizeLine;decide),fun t' Bb=>fin t' _ (.str (txt t)) (aj Bb _) Bb af⟩
  | row r =>
   obtain⟨qa,rfl,hr⟩:=hq
   have hr2:=hr.same s2
   obtain⟨as,has,_⟩:=id hr2
   refine⟨_,rfl,_,rfl,_,"list",_,_,rfl,.lst has,RV K,_,rfl,jI ?_⟩
   exact⟨_,rfl,qa,r,rfl,hr2,qk,fun t H3 h3 s3 Bb=>fin t H3 (.ref qa) s3 Bb h3⟩
 ·rintro σ H2 ⟨u,rfl,h2,h2t,s2⟩
  rw[lv,kr]at h2
  have fs:=zz (d.parts.flatMap Part.words)
  rw[tZ]at fs
  have fl:=BJ (ps:=d.parts) pk
  refine⟨rfl,_,rfl,wl,32,_,by rw[show Str.ofString " "=⟨#[32]⟩ by decide +kernel],rfl,h2,?_,?_⟩
  ·rw[kO,List.sum_cons,mq]
   omega
  rw[Ie,tZ,← ln]
  exact k H2 s2
structure SX(S:Addr→Prop)(H:Hp)(st op r:Addr)(its:List Item):Prop where
 own:S r
 ne:r≠st∧r≠op
 at':bM H (.ref r) its
def GP(S:Addr→Prop)(H:Hp)(st op a:Addr)(rows:List (List Item)):Prop:=S a∧a≠st∧a≠op∧∃ rs:List Addr,H a=some (.lst (rs.map V.ref))∧bR (SX S H st op) rs rows
abbrev mD:=List (List (List Item))
structure UC(past:mD)(ops:List Int):Prop where
 BK:∃ last,past.getLast?=some last∧ops.length=last.length
 fit:∀ (s:Nat) (o:Int),ops[s]?=some o→0≤o∧o<past.length∧∀ (m:Nat) (rows:List (List Item)),past[m]?=some rows→(o≤m↔s<rows.length)
 less:∀ (m:Nat) (rows:List (List Item)),past[m]?=some rows→rows.length≤ops.length
structure Sh(C:Addr)(S:Addr→Prop)(H:Hp)(x d st op:Addr)(past:mD)(ops:List Int):Prop where
 sx:S x
 ss:S st
 so:S op
 al:∀ a,S a→∃ ob,H a=some ob
 hx:H x=some (.ins C d [("states",.ref st),("openings",.ref op)])
 hs:∃ as:List Addr,H st=some (.lst (as.map V.ref))∧bR (GP S H st op) as past
 ho:H op=some (.lst (ops.map V.int))
 ne:st≠op
 Mh:UC past ops
theorem bM.fr{H H':Hp}{r:Addr}{its:List Item}(h:bM H (.ref r) its)(k:∀ xs,H r=some (.lst xs)→H' r=some (.lst xs))(t:∀ a xs,H a=some (.tup xs)→H' a=some (.tup xs)):bM H' (.ref r) its:=by
 obtain⟨a,vs,e,h1,h2⟩:=h
 cases e
 exact⟨r,vs,rfl,k _ h1,h2.mono fun v it ⟨b,e,hb⟩=>⟨b,e,t _ _ hb⟩⟩
theorem GP.fr{S S':Addr→Prop}{H H':Hp}{st op a:Addr}{rows:List (List Item)}(h:GP S H st op a rows)(sub:∀ a,S a→S' a)(k:∀ a ob,H a=some ob→S a→a≠st→a≠op→H' a=some ob)(t:∀ a xs,H a=some (.tup xs)→H' a=some (.tup xs)):GP S' H' st op a rows:=by
 obtain⟨sa,n1,n2,rs,hr,al⟩:=h
 exact⟨sub _ sa,n1,n2,rs,k _ _ hr sa n1 n2,al.mono fun r its q=>⟨sub _ q.own,q.ne,q.at'.fr (fun xs e=>k _ _ e q.own q.ne.1 q.ne.2) t⟩⟩
theorem Sh.fr{C:Addr}{S:Addr→Prop}{H H':Hp}{x d st op:Addr}{past:mD}{ops:List Int}(h:Sh C S H x d st op past ops)(k:∀ a ob,H a=some ob→S a→H' a=some ob)(t:∀ a xs,H a=some (.tup xs)→H' a=some (.tup xs)):Sh C S H' x d st op past ops:=by
 obtain⟨sx,ss,so,al,hx,⟨as,hs,a2⟩,ho,ne,Mh⟩:=h
 refine⟨sx,ss,so,fun a z=>?_,k _ _ hx sx,⟨as,k _ _ hs ss,a2.mono fun a rows q=>q.fr (fun _ z=>z) (fun a ob e z _ _=>k _ _ e z) t⟩,k _ _ ho so,ne,Mh⟩
 obtain⟨ob,e⟩:=al a z
 exact⟨ob,k _ _ e z⟩
theorem Sh.same{C:Addr}{S:Addr→Prop}{H H':Hp}{x d st op:Addr}{past:mD}{ops:List Int}(h:Sh C S H x d st op past ops)(k:aH H H'):Sh C S H' x d st op past ops:=h.fr (fun a ob e _=>k a ob e) (fun a xs e=>k _ _ e)
theorem Sh.keep{C:Addr}{S:Addr→Prop}{H H':Hp}{x d st op l:Addr}{past:mD}{ops:List Int}{ls:List V}(h:Sh C S H x d st op past ops)(hl:H l=some (.lst ls))(nl:¬ S l)(k:cA l H H'):Sh C S H' x d st op past ops :=
 h.fr (fun a ob e z=>k a ob e (fun q=>nl (by rw[← q];exact z))) (fun a xs e=>k _ _ e (cE e hl (by intro z;cases z)))
theorem zA:∀ {as bs:List Addr},as.map V.ref=bs.map V.ref→as=bs
 | [],[],_=>rfl
 | [],_::_,h=>by cases h
 | _::_,[],h=>by cases h
 | a::as,b::bs,h=>by
  rw[kO,kO]at h
  injection h with h1 h2
  cases h1
  rw[zA h2]
theorem Sh.last{C:Addr}{S:Addr→Prop}{H:Hp}{x d st op:Addr}{past:mD}{ops:List Int}(h:Sh C S H x d st op past ops){as:List Addr}(ha:H st=some (.lst (as.map V.ref))):∃ as' a,as=as'++[a]∧∀ last,past.getLast?=some last→GP S H st op a last:=by
 obtain⟨bs,hb,a2⟩:=h.hs
 have e:as=bs:=by
  rw[ha]at hb
  have:=HO.lst.inj (rX hb)
  exact zA this
 subst e
 obtain⟨last,hl,_⟩:=h.Mh.BK
 obtain⟨p',rfl⟩:∃ p',past=p'++[last]:=by
  rcases tD past with rfl|⟨p',l,rfl⟩
  ·cases hl
  ·rw[qA,vo]at hl
   cases hl
   exact⟨p',qA⟩
 obtain⟨as',a,rfl,_,r⟩:=a2.split
 refine⟨as',a,rfl,fun l e=>?_⟩
 rw[hl]at e
 cases e
 exact r
theorem GQ(xs:List V){p:Int}(h:0≤p):rZ xs none (some p)=xs.take p.toNat:=by
 unfold rZ
 have e1:HT.gH xs.length 0 none=0:=rfl
 have e2:HT.gH xs.length xs.length (some p)=min p.toNat xs.length:=by
  show (if p<0 then (p+(xs.length:Int)).toNat else min p.toNat xs.length)=_
  rw[if_neg (by omega)]
 rw[e1,e2,List.drop_zero,Nat.sub_zero]
 rcases Nat.le_total p.toNat xs.length with z|z
 ·rw[Nat.min_eq_left z]
 ·rw[Nat.min_eq_right z,yk (fH _),yk z]
theorem JL(xs:List V){p:Int}(h:0≤p):rZ xs (some p) none=xs.drop p.toNat:=by
 unfold rZ
 have e1:HT.gH xs.length xs.length none=xs.length:=rfl
 have e2:HT.gH xs.length 0 (some p)=min p.toNat xs.length:=by
  show (if p<0 then (p+(xs.length:Int)).toNat else min p.toNat xs.length)=_
  rw[if_neg (by omega)]
 rw[e1,e2]
 rcases Nat.le_total p.toNat xs.length with z|z
 ·rw[Nat.min_eq_left z,yk (by rw[List.length_drop];omega)]
 ·rw[Nat.min_eq_right z,List.drop_of_length_le (fH _),List.drop_of_length_le z]
  simp
inductive rR(vs:List V)(H:Hp)(Q:VK)(E:XK):Prop
 | mk (a r:Addr) (rs:List V) (s:Nat) (_:vs=[.ref a,.int (s:Nat),.ref r]) (_:H a=some (.lst rs)) (_:s≤rs.length) (_:rs.length≤1000) (_: ∀ (p:Addr) (H':Hp),H' p=some (.lst (rs.take s++[.ref r]++rs.drop (s+1)))→aH H H'→H p=none→Q (.ref p) H'):rR vs H Q E
inductive CN(C:Addr)(vs:List V)(H:Hp)(Q:VK)(E:XK):Prop
 | mk (x d:Addr) (_:vs=[.ref x]) (_:H x=some (.ins C d [])) (_: ∀ (st op z:Addr) (H':Hp),Sh C (fun a=>a=x∨a=st∨a=op∨a=z) H' x d st op [[]] []→cA x H H'→H st=none→H op=none→H z=none→Q .jE H'):CN C vs H Q E
inductive BL(C:Addr)(vs:List V)(H:Hp)(Q:VK)(E:XK):Prop
 | mk (x d st op:Addr) (as:List V) (_:vs=[.ref x]) (_:H x=some (.ins C d [("states",.ref st),("openings",.ref op)])) (_:H st=some (.lst as)) (_:Q (.int ((as.length:Nat)-1)) H):BL C vs H Q E
inductive CO(C:Addr)(vs:List V)(H:Hp)(Q:VK)(E:XK):Prop
 | mk (S:Addr→Prop) (x d st op:Addr) (past:mD) (ops:List Int) (_:vs=[.ref x]) (_:Sh C S H x d st op past ops) (_:Q (.int (ops.length:Nat)) H):CO C vs H Q E
theorem JM:aG ["state","sheet","items"] ["state","sheet","items"] (ay nC):=⟨rfl,rfl,rfl,by decide +kernel,rfl,by decide +kernel,by decide +kernel⟩
theorem vY:aG ["self"] ["self"] (ay iM):=⟨rfl,rfl,rfl,by decide +kernel,rfl,by decide +kernel,by decide +kernel⟩
theorem E5:aG ["self"] ["self"] (ay eN):=⟨rfl,rfl,rfl,by decide +kernel,rfl,by decide +kernel,by decide +kernel⟩
theorem CP:aG ["self"] ["self"] (ay jd):=⟨rfl,rfl,rfl,by decide +kernel,rfl,by decide +kernel,by decide +kernel⟩
theorem zB{f:Addr}{fd:FuncData}(F:gX K "changed" "changed" nC f fd)(T:n9 mg):aF P w K mg base bN 1 f fd FP rR:=by
 refine F.ok JM (fun vs H Q E h=>?_) (fun cdv A outer s H vs Q E hr h=>?_)
 ·obtain⟨a,r,rs,s,rfl,_⟩:=h
  rfl
 obtain⟨a,r,rs,s,rfl,ha,sl,l1,k⟩:=h
 refine⟨_,(ak (cy (kU (uC nu nu az (pv 1) (aO bq rfl T.ic lN (aa (pv 0) ah))))
   (ao yr)
   bC)
   (ao (aM (bH oX (bH oX (pF B4 (pv 0) rD (rE (pv 1))) (bI (aa (pv 2) ah))) (pF B4 (pv 0) (rE (bH iy (pv 1) az)) rD))))),?_⟩
 refine⟨_,rfl,_,_,rfl,rfl,_,rfl,ff (fun c0=>?_) (fun c0=>absurd (decide_eq_true (by omega)) c0)⟩
 refine⟨_,rfl,a,_,rfl,.inl (bG.of ha),_,_,rfl,rfl,_,rfl,?_⟩
 rw[decide_eq_true (show ((s:Nat):Int)≤((rs.length:Nat):Int) by omega)]
 refine i7 ?_
 refine⟨_,rfl,_,rfl,_,rfl,a,_,rfl,bG.of ha,fun p1 hp1=>?_⟩
 rw[GQ _ (by omega),Int.toNat_natCast]
 have s1:aH H (upd H p1 (.lst (rs.take s))):=aj hp1 _
 have h1:(upd H p1 (.lst (rs.take s))) p1=some (.lst (rs.take s)):=af
 generalize upd H p1 (.lst (rs.take s))=H1 at s1 h1
 refine⟨_,rfl,(by show 1≤sizeLine;decide),fun p2 hp2=>?_⟩
 have s2:aH H1 (upd H1 p2 (.lst [.ref r])):=aj hp2 _
 have h2:(upd H1 p2 (.lst [.ref r])) p2=some (.lst [.ref r]):=af
 generalize upd H1 p2 (.lst [.ref r])=H2 at s2 h2
 refine⟨p1,p2,_,_,rfl,rfl,s2 _ _ h1,h2,(by rw[ko];exact jb (aL (by simp only[ur];omega))),fun p3 hp3=>?_⟩
 have s3:aH H2 (upd H2 p3 (.lst (rs.take s++[.ref r]))):=aj hp3 _
 have h3:(upd H2 p3 (.lst (rs.take s++[.ref r]))) p3=some (.lst (rs.take s++[.ref r])):=af
 generalize upd H2 p3 (.lst (rs.take s++[.ref r]))=H3 at s3 h3
 have LQ:=s1.trans (s2.trans s3)
 refine⟨_,rfl,_,rfl,_,_,rfl,rfl,_,rfl,a,_,rfl,bG.of (LQ _ _ ha),fun p4 hp4=>?_⟩
 rw[JL _ (by omega),show (((s:Nat):Int)+1).toNat=s+1 by omega]
 have s4:aH H3 (upd H3 p4 (.lst (rs.drop (s+1)))):=aj hp4 _
 have h4:(upd H3 p4 (.lst (rs.drop (s+1)))) p4=some (.lst (rs.drop (s+1))):=af
 generalize upd H3 p4 (.lst (rs.drop (s+1)))=H4 at s4 h4
 refine⟨p3,p4,_,_,rfl,rfl,s4 _ _ h3,h4,(by rw[eZ,ko,List.length_drop];exact jb (aL (by simp only[ur];omega))),fun p5 hp5=>?_⟩
 have s04:=LQ.trans s4
 exact k p5 _ af (s04.trans (aj hp5 _)) (aW s04 hp5)
theorem uW{f C:Addr}{fd:FuncData}(F:gX K "__init__" "Shelf.__init__" iM f fd)(cl:Aq K C)(n1:aU K C "states")(n2:aU K C "openings"):aF P w K mg base bN 1 f fd gZ (CN C):=by
 refine F.ok vY (fun vs H Q E h=>?_) (fun cdv A outer s H vs Q E hr h=>?_)
 ·obtain⟨x,d,rfl,_⟩:=h
  rfl
 obtain⟨x,d,rfl,hx,k⟩:=h
 refine⟨_,(ak (jY (pv 0) (bI (aa (bI ah) ah)) rfl)
   (ao (jY (pv 0) (bI ah) rfl))),?_⟩
 refine⟨(by show 0≤sizeLine;decide),fun z hz=>?_⟩
 have a0:aH H (upd H z (.lst [])):=aj hz _
 have z0:(upd H z (.lst [])) z=some (.lst []):=af
 generalize upd H z (.lst [])=H0 at a0 z0
 refine⟨(by show 1≤sizeLine;decide),fun st hst=>?_⟩
 have a1:aH H0 (upd H0 st (.lst [.ref z])):=aj hst _
 have b1:(upd H0 st (.lst [.ref z])) st=some (.lst [.ref z]):=af
 generalize upd H0 st (.lst [.ref z])=H1 at a1 b1
 have a01:=a0.trans a1
 refine⟨_,rfl,x,C,d,_,rfl,a01 _ _ hx,cl,n1,by decide,?_⟩
 have k2:cA x H1 (upd H1 x (.ins C d (L2.cT "states" (.ref st) []))):=aI x _ _
 have h2:(upd H1 x (.ins C d (L2.cT "states" (.ref st) []))) x=some (.ins C d [("states",.ref st)]):=af
 generalize upd H1 x (.ins C d (L2.cT "states" (.ref st) []))=H2 at k2 h2
 have Qg:st≠x:=(au (a0 _ _ hx) hst).symm
 have nzx:z≠x:=(au hx hz).symm
 have nzs:z≠st:=au z0 hst
 have b2:=k2 _ _ b1 Qg
 have z2:=k2 _ _ (a1 _ _ z0) nzx
 refine⟨(by show 0≤sizeLine;decide),fun op hop=>?_⟩
 have JV:op≠x:=(au h2 hop).symm
 have nso:st≠op:=au b2 hop
 have nzo:z≠op:=au z2 hop
 refine⟨_,rfl,x,C,d,_,rfl,aj hop _ _ _ h2,cl,n2,(by show 1<1000;decide),?_⟩
 have k5:cA x H (upd (upd H2 op (.lst [])) x (.ins C d (L2.cT "openings" (.ref op) [("states",.ref st)]))):=fun a ob e n=>by
  rw[aC n]
  exact aj hop _ _ _ (k2 _ _ (a01 _ _ e) n)
 have z5:(upd (upd H2 op (.lst [])) x (.ins C d (L2.cT "openings" (.ref op) [("states",.ref st)]))) z=some (.lst []):=by rw[aC nzx];exact aj hop _ _ _ z2
 have s5:(upd (upd H2 op (.lst [])) x (.ins C d (L2.cT "openings" (.ref op) [("states",.ref st)]))) st=some (.lst [.ref z]):=by rw[aC Qg];exact aj hop _ _ _ b2
 have o5:(upd (upd H2 op (.lst [])) x (.ins C d (L2.cT "openings" (.ref op) [("states",.ref st)]))) op=some (.lst []):=by rw[aC JV];exact af
 have x5:(upd (upd H2 op (.lst [])) x (.ins C d (L2.cT "openings" (.ref op) [("states",.ref st)]))) x=some (.ins C d [("states",.ref st),("openings",.ref op)]):=af
 generalize upd (upd H2 op (.lst [])) x (.ins C d (L2.cT "openings" (.ref op) [("states",.ref st)]))=H5 at k5 z5 s5 o5 x5
 refine k st op z _ ⟨.inl rfl,.inr (.inl rfl),.inr (.inr (.inl rfl)),fun a w=>?_,x5,⟨[z],s5,.cons ⟨.inr (.inr (.inr rfl)),nzs,nzo,[],z5,.nil⟩ .nil⟩,o5,nso,⟨⟨[],rfl,rfl⟩,fun s o e=>(by cases s <;> cases e),fun m rows e=>?_⟩⟩ k5 (aW a0 hst) ?_ hz
 ·rcases w with rfl|rfl|rfl|rfl
  ·exact⟨_,x5⟩
  ·exact⟨_,s5⟩
  ·exact⟨_,o5⟩
  ·exact⟨_,z5⟩
 ·match m,e with
  | 0,e=>cases e;exact fH _
  | m+1,e=>cases e
 ·exact aW a01 (jy k2 JV hop)
theorem mX{f C:Addr}{fd:FuncData}(F:gX K "now" "Shelf.now" eN f fd)(T:n9 mg)(cl:Aq K C)(n1:aU K C "states"):aF P w K mg base bN 1 f fd gZ (BL C):=by
 refine F.ok E5 (fun vs H Q E h=>?_) (fun cdv A outer s H vs Q E hr h=>?_)
 ·obtain⟨x,d,st,op,as,rfl,_⟩:=h
  rfl
 obtain⟨x,d,st,op,as,rfl,hx,hs,k⟩:=h
 refine⟨_,(ao (aM (bH kX (aO bq rfl T.ic lN (aa (gz (pv 0) rfl) ah)) az))),?_⟩
 exact⟨_,rfl,x,C,d,_,.ref st,rfl,hx,cl,n1,rfl,st,_,rfl,.inl (bG.of hs),_,_,rfl,rfl,k⟩
theorem sX{f C:Addr}{fd:FuncData}(F:gX K "many" "Shelf.many" jd f fd)(T:n9 mg)(cl:Aq K C)(n1:aU K C "states"):aF P w K mg base bN 1 f fd gZ (CO C):=by
 refine F.ok CP (fun vs H Q E h=>?_) (fun cdv A outer s H vs Q E hr h=>?_)
 ·obtain⟨S,x,d,st,op,past,ops,rfl,_⟩:=h
  rfl
 obtain⟨S,x,d,st,op,past,ops,rfl,W,k⟩:=h
 obtain⟨as,hs,a2⟩:=W.hs
 obtain⟨last,hl,ol⟩:=W.Mh.BK
 refine⟨_,(ao (aM (aO bq rfl T.ic lN (aa (bu bw (gz (pv 0) rfl) (sD oW az) (fun _ _=>rfl)) ah)))),?_⟩
 obtain⟨as',a,rfl,r⟩:=W.last hs
 refine⟨_,rfl,x,C,d,_,.ref st,rfl,W.hx,cl,n1,rfl,_,rfl,st,_,_,.ref a,rfl,rfl,bG.of hs,(by rw[lK];exact lU _ _),?_⟩
 obtain⟨_,_,_,rs,ha,al⟩:=r last hl
 refine⟨a,_,rfl,.inl (bG.of ha),?_⟩
 rw[bY,al.len,← ol]
 exact k
def SY(rows:List (List Item))(ch:Nat × List Item):List (List Item):=rows.take ch.1++[ch.2]++rows.drop (ch.1+1)
def qe(rows:List (List Item))(pT:List (Nat × List Item)):List (List Item):=pT.foldl SY rows
def Qh(rows:List (List Item))(pT:List (Nat × List Item)):Prop:=∀ (i:Nat) (ch:Nat × List Item),pT[i]?=some ch→ch.1≤(qe rows (pT.take i)).length
theorem Nz{rows:List (List Item)}{ch:Nat × List Item}(h:ch.1≤rows.length):rows.length≤(SY rows ch).length∧(SY rows ch).length≤rows.length+1:=by
 unfold SY
 rw[eZ,eZ,ko,List.length_drop]
 simp only[ur]
 omega
theorem BN{rows:List (List Item)}{pT:List (Nat × List Item)}{i:Nat}{ch:Nat × List Item}(h:pT[i]?=some ch):qe rows (pT.take (i+1))=SY (qe rows (pT.take i)) ch:=by
 unfold qe
 rw[take_snoc h,List.foldl_append]
 rfl
theorem zC{rows:List (List Item)}{pT:List (Nat × List Item)}(ok:Qh rows pT):∀ i,i≤pT.length→rows.length≤(qe rows (pT.take i)).length∧(qe rows (pT.take i)).length≤rows.length+i
 | 0,_=>⟨Nat.le_refl _,fH _⟩
 | i+1,h=>by
  have e:pT[i]?=some pT[i]:=oj (by omega)
  have a:=zC ok i (by omega)
  have b:=Nz (ok i _ e)
  rw[BN e]
  omega
theorem UC.step{past:mD}{ops:List Int}{last rows:List (List Item)}(h:UC past ops)(hl:past.getLast?=some last)(le:last.length≤rows.length):UC (past++[rows]) (ops++List.replicate (rows.length-last.length) ((past.length:Nat):Int)):=by
 obtain⟨⟨l',hl',ol⟩,fit,less⟩:=h
 rw[hl]at hl'
 cases hl'
 have get:∀ (m:Nat) (r:List (List Item)),(past++[rows])[m]?=some r→past[m]?=some r∧m<past.length∨m=past.length∧r=rows:=fun m r e=>by
  by_cases c:m<past.length
  ·rw[yj c]at e
   exact .inl ⟨e,c⟩
  ·rw[List.getElem?_append_right (by omega)]at e
   match hm:m-past.length,e with
   | 0,e=>cases e;exact .inr ⟨by omega,rfl⟩
   | k+1,e=>cases e
 refine⟨⟨rows,vo,by rw[eZ,ux];omega⟩,fun s o e=>?_,fun m r e=>?_⟩
 ·by_cases c:s<ops.length
  ·rw[yj c]at e
   obtain⟨f0,f1,f2⟩:=fit s o e
   refine⟨f0,by rw[eZ];simp only[ur];omega,fun m r em=>?_⟩
   rcases get m r em with ⟨q,_⟩|⟨rfl,rfl⟩
   ·exact f2 m r q
   ·constructor
    ·intro _;omega
    ·intro _;omega
  ·rw[List.getElem?_append_right (by omega),List.getElem?_replicate]at e
   split at e
   ·cases e
    refine⟨by omega,by rw[eZ];simp only[ur];omega,fun m r em=>?_⟩
    rcases get m r em with ⟨q,lt⟩|⟨rfl,rfl⟩
    ·have:=less m r q
     constructor
     ·intro z;omega
     ·intro z;omega
    ·constructor
     ·intro _;omega
     ·intro _;omega
   ·cases e
 ·rw[eZ,ux]
  rcases get m r e with ⟨q,_⟩|⟨rfl,rfl⟩
  ·have:=less m r q
   omega
  ·omega
theorem bR.take{α β:Type}{R:α→β→Prop}:∀ {as:List α} {bs:List β} (n:Nat),bR R as bs→bR R (as.take n) (bs.take n)
 | _,_,0,_=>by rw[List.take_zero,List.take_zero];exact .nil
 | _,_,n+1,.nil=>.nil
 | _,_,n+1,.cons e r=>.cons e (r.take n)
theorem bR.drop{α β:Type}{R:α→β→Prop}:∀ {as:List α} {bs:List β} (n:Nat),bR R as bs→bR R (as.drop n) (bs.drop n)
 | _,_,0,h=>h
 | _,_,n+1,.nil=>.nil
 | _,_,n+1,.cons _ r=>r.drop n
theorem E6(v:V):∀ n:Nat,(List.replicate n [v]).flatten=List.replicate n v
 | 0=>rfl
 | n+1=>by rw[List.replicate_succ,List.flatten_cons,E6 v n,List.replicate_succ];rfl
theorem NB{H:Hp}{a:Addr}{ob:HO}(h:H a=some ob):upd H a ob=H:=by
 funext b
 by_cases e:b=a
 ·rw[e,af,h]
 ·rw[aC e]
def GR(H:Hp)(a:Addr)(ch:Nat × List Item):Prop:=∃ r:Addr,H a=some (.tup [.int (ch.1:Nat),.ref r])∧bM H (.ref r) ch.2
theorem GR.same{H H':Hp}{a:Addr}{ch:Nat × List Item}(s:aH H H'):GR H a ch→GR H' a ch:=fun ⟨r,h1,h2⟩=>⟨r,s _ _ h1,h2.same s⟩
inductive zD(C:Addr)(vs:List V)(H:Hp)(Q:VK)(E:XK):Prop
 | mk (S:Addr→Prop) (x d st op c:Addr) (past:mD) (ops:List Int) (cs:List Addr) (pT:List (Nat × List Item)) (last:List (List Item)) (_:vs=[.ref x,.ref c]) (_:Sh C S H x d st op past ops) (_:H c=some (.lst (cs.map V.ref))) (_:bR (GR H) cs pT) (_:past.getLast?=some last) (_:Qh last pT) (_:pT.length≤200) (_:last.length≤500) (_:past.length≤1000) (_ :
 ∀ (S':Addr→Prop) (H':Hp),Sh C S' H' x d st op (past++[qe last pT]) (ops++List.replicate ((qe last pT).length-last.length) ((past.length:Nat):Int))→(∀ a,S' a→S a∨H a=none)→(∀ a ob,H a=some ob→¬ S a→H' a=some ob)→(∀ a xs,H a=some (.tup xs)→H' a=some (.tup xs))→Q .jE H'):zD C vs H Q E
theorem jC:aG ["self","changes","state","ahead","sheet","items"] ["self","changes"] (ay j9):=⟨rfl,rfl,rfl,by decide +kernel,rfl,by decide +kernel,by decide +kernel⟩
theorem AA{f C fi fN fC:Addr}{fd gN gC:FuncData}(F:gX K "step" "Shelf.step" j9 f fd)(T:n9 mg)(bJ:ClsAt K mg "Shelf" C fi)(n1:aU K C "states")(n2:aU K C "openings")(iP:aA K mg "changed" nC FP fC gC)(bz:aN K C "now" "Shelf.now" eN gZ fN gN):aF P w K mg base bN 2 f fd Q8 (zD C):=by
 have zE:aF P w K mg base bN 1 _ _ FP rR:=zB iP.F T
 have jr:aF P w K mg base bN 1 _ _ gZ (BL C):=mX bz.F T bJ.cl n1
 refine F.ok jC (fun vs H Q E h=>?_) (fun cdv A outer s H vs Q E hr h=>?_)
 ·obtain⟨S,x,d,st,op,c,past,ops,cs,pT,last,rfl,_⟩:=h
  rfl
 obtain⟨S,x,d,st,op,c,past,ops,cs,pT,last,rfl,W,hc,a2,hl,okc,lc,ll,lp,k⟩:=h
 refine⟨_,(ak (aQ (i:=2) jC.nd rfl (Or.inl rfl) (bu bw (gz (pv 0) rfl) (sD oW az) (fun _ _=>rfl)))
   (ak (aQ (i:=3) jC.nd rfl (Or.inl rfl) (aO bq rfl T.ic lN (aa (pv 2) ah)))
   (ak (iV PassesOwn.never rfl (cH (pv 1)) (qJ (n:=2) rfl (bS (aV (i:=4) jC.nd rfl (Or.inl rfl)) (bS (aV (i:=5) jC.nd rfl (Or.inl rfl)) ku)))
   (ao (aQ (i:=2) jC.nd rfl (Or.inl rfl) (aP iP zE hr (aa (pv 2) (aa (pv 4) (aa (iQ mQ rfl T.nM yl (aa (pv 5) ah)) ah)))))))
   (ak (bO (jF qz uu uv cF (gz (pv 0) rfl) (aa (pv 2) ah)))
   (ao (vz (pv 0) (bH Kw (bI (aa (b8 (pv 0) bJ.cl bz.mt jr (hr.mono (by decide)) bz.b .nil cK) ah)) (bH kX (aO bq rfl T.ic lN (aa (pv 2) ah)) (pv 3))) Gs)))))),?_⟩
 obtain⟨as,hs,al⟩:=id W.hs
 obtain⟨as',a,ea,r⟩:=W.last hs
 obtain⟨Sa,na1,na2,rs,ha,ar⟩:=r last hl
 have lal:=al.len
 refine⟨_,rfl,x,C,d,_,.ref st,rfl,W.hx,bJ.cl,n1,rfl,_,rfl,st,_,_,.ref a,rfl,rfl,bG.of hs,(by rw[ea,lK];exact lU _ _),?_⟩
 refine⟨_,rfl,a,_,rfl,.inl (bG.of ha),?_⟩
 rw[bY,ar.len]
 have hst:∀ q,H q=none→q≠st∧q≠op:=fun q hq=>⟨fun z=>(by rw[z,hs]at hq;cases hq),fun z=>(by rw[z,W.ho]at hq;cases hq)⟩
 refine⟨_,rfl,c,rfl,⟨_,bG.of hc⟩,jM (K:=K) (a:=c) (xs:=cs.map V.ref) (fun i σ H1=>∃ (u4 u5:Option V) (S1:Addr→Prop) (ai:Addr),σ=[some (.ref x),some (.ref c),some (.ref ai),some (.int (last.length:Nat)),u4,u5]∧aH H H1∧(∀ q,S q→S1 q)∧(∀ q,S1 q→S q∨H q=none)∧(∀ q,S1 q→∃ ob,H1 q=some ob)∧GP S1 H1 st op ai (qe last (pT.take i))) ⟨none,none,S,a,rfl,aH.refl _,fun _ z=>z,fun _ z=>.inl z,W.al,r last hl⟩ (fun i σ H1 _ ⟨_,_,_,_,_,s,_⟩=>bG.of (s _ _ hc)) ?_ ?_⟩
 ·rintro i y σ H1 hi ⟨u4,u5,S1,ai,rfl,s1,up,sub,al1,S0⟩
  rw[qG]at hi
  obtain⟨t,et,rfl⟩:=Option.map_eq_some_iff.mp hi
  obtain⟨ch,ech,q⟩:=a2.get et
  have il:=(List.getElem?_eq_some_iff.mp ech).1
  obtain⟨ri,ht,hri⟩:=q.same s1
  obtain⟨b,vs,eb,hb,itb⟩:=id hri
  cases eb
  obtain⟨Sai,S9,acn,UD,hai,UE⟩:=id S0
  refine⟨t,_,rfl,jK.of ht,rfl,_,_,rfl,_,_,rfl,rfl,?_⟩
  refine⟨_,rfl,_,rfl,_,rfl,ri,_,rfl,.inl (bG.of hb),fun z hz=>?_⟩
  have s2:aH H1 (upd H1 z (.lst vs)):=aj hz _
  have z2:(upd H1 z (.lst vs)) z=some (.lst vs):=af
  generalize upd H1 z (.lst vs)=H2 at s2 z2
  have lens:=zC okc i (by omega)
  have aco:=okc i ch ech
  have UG:=UE.len
  refine⟨ai,z,_,ch.1,rfl,s2 _ _ hai,by rw[bY,UG];exact aco,by rw[bY,UG];omega,fun p H3 hp3 s3 fp=>?_⟩
  have UH:=s2.trans s3
  have fz:H z=none:=aW s1 hz
  have fp':H p=none:=aW (s1.trans s2) fp
  refine⟨_,_,fun q=>S1 q∨q=z∨q=p,p,rfl,s1.trans UH,fun q z=>.inl (up q z),fun q w=>?_,fun q w=>?_,.inr (.inr rfl),(hst p fp').1,(hst p fp').2,UD.take ch.1++[z]++UD.drop (ch.1+1),?_,?_⟩
  ·rcases w with w|rfl|rfl
   ·exact sub q w
   ·exact .inr fz
   ·exact .inr fp'
  ·rcases w with w|rfl|rfl
   ·obtain⟨ob,e⟩:=al1 q w
    exact⟨ob,UH _ _ e⟩
   ·exact⟨_,s3 _ _ z2⟩
   ·exact⟨_,hp3⟩
  ·rw[hp3]
   simp only[lK,List.map_take,List.map_drop,kO,List.map_nil]
  ·rw[BN ech]
   have mv:bR (SX (fun q=>S1 q∨q=z∨q=p) H3 st op) UD (qe last (pT.take i)):=UE.mono fun r its q=>⟨.inl q.own,q.ne,q.at'.same UH⟩
   refine ((mv.take ch.1).app (.cons ⟨.inr (.inl rfl),hst z fz,⟨z,vs,rfl,s3 _ _ z2,itb.mono fun v it q=>q.same UH⟩⟩ .nil)).app (mv.drop (ch.1+1))
 ·rintro σ H1 ⟨u4,u5,S1,ai,rfl,s1,up,sub,al1,S0⟩
  have lcs:(cs.map V.ref).length=pT.length:=by rw[bY,a2.len]
  rw[lcs,kr]at S0
  have lens:=zC okc pT.length (fH _)
  rw[kr]at lens
  obtain⟨Sai,S9,acn,UD,hai,UE⟩:=id S0
  have UG:=UE.len
  have W1:=W.same s1
  have hs1:=s1 _ _ hs
  refine⟨_,rfl,x,C,d,_,.ref st,rfl,W1.hx,bJ.cl,n1,rfl,.inl ⟨rfl,_,bG.of hs1⟩,_,rfl,st,_,_,rfl,rfl,hs1,(by rw[bY];exact aL (by omega)),?_⟩
  rw[show as.map V.ref++[.ref ai]=(as++[ai]).map V.ref by rw[lK];rfl]
  have k2:cA st H1 (upd H1 st (.lst ((as++[ai]).map V.ref))):=aI st _ _
  have st2:(upd H1 st (.lst ((as++[ai]).map V.ref))) st=some (.lst ((as++[ai]).map V.ref)):=af
  generalize upd H1 st (.lst ((as++[ai]).map V.ref))=H2 at k2 st2
  have UI:x≠st:=cE W1.hx hs1 (by intro z;cases z)
  have nxo:x≠op:=cE W1.hx W1.ho (by intro z;cases z)
  have x2:=k2 _ _ W1.hx UI
  have o2:=k2 _ _ W1.ho W.ne.symm
  have ai2:=k2 _ _ hai S9
  have lmn:(((as++[ai]).map V.ref).length:Int)-1=((past.length:Nat):Int):=by
   rw[bY,eZ,lal]
   simp only[ur]
   omega
  refine⟨_,rfl,x,C,d,_,.ref op,rfl,x2,bJ.cl,n2,rfl,_,rfl,x,d,_,rfl,x2,rfl,x,d,st,op,_,rfl,x2,st2,?_⟩
  rw[lmn]
  refine⟨(by show 1≤sizeLine;decide),fun t2 DA=>?_⟩
  have s3:aH H2 (upd H2 t2 (.lst [.int (past.length:Nat)])):=aj DA _
  have b3:(upd H2 t2 (.lst [.int (past.length:Nat)])) t2=some (.lst [.int (past.length:Nat)]):=af
  generalize upd H2 t2 (.lst [.int (past.length:Nat)])=H3 at s3 b3
  refine⟨_,rfl,ai,_,rfl,.inl (bG.of (s3 _ _ ai2)),_,rfl,_,_,rfl,rfl,?_⟩
  rw[bY,UG]
  have ek:(((qe last pT).length:Nat):Int)-((last.length:Nat):Int)=(((qe last pT).length-last.length:Nat):Int):=by omega
  show RK _ (V.int ((((qe last pT).length:Nat):Int)-((last.length:Nat):Int))) _ _
  rw[ek]
  refine⟨t2,_,_,rfl,rfl,b3,by omega,by omega,(by simp only[ur];exact jb (aL (by omega))),fun t3 QX=>?_⟩
  rw[Int.toNat_natCast,E6]
  generalize hk:(qe last pT).length-last.length=kk
  have s4:aH H3 (upd H3 t3 (.lst (List.replicate kk (V.int (past.length:Nat))))):=aj QX _
  have b4:(upd H3 t3 (.lst (List.replicate kk (V.int (past.length:Nat))))) t3=some (.lst (List.replicate kk (V.int (past.length:Nat)))):=af
  generalize upd H3 t3 (.lst (List.replicate kk (V.int (past.length:Nat))))=H4 at s4 b4
  have UJ:=s3.trans s4
  have lo:ops.length≤700:=by
   obtain⟨l',hl',ol⟩:=W.Mh.BK
   rw[hl]at hl'
   cases hl'
   omega
  refine⟨op,t3,_,_,rfl,rfl,UJ _ _ o2,b4,(by rw[bY,ux];exact jb (aL (by omega))),?_⟩
  rw[show ops.map V.int++List.replicate kk (V.int (past.length:Nat))=(ops++List.replicate kk ((past.length:Nat):Int)).map V.int by rw[lK,List.map_replicate]]
  have k5:cA op H4 (upd H4 op (.lst ((ops++List.replicate kk ((past.length:Nat):Int)).map V.int))):=aI op _ _
  have o5:(upd H4 op (.lst ((ops++List.replicate kk ((past.length:Nat):Int)).map V.int))) op=some (.lst ((ops++List.replicate kk ((past.length:Nat):Int)).map V.int)):=af
  generalize upd H4 op (.lst ((ops++List.replicate kk ((past.length:Nat):Int)).map V.int))=H5 at k5 o5
  have x5:=k5 _ _ (UJ _ _ x2) nxo
  refine⟨d,_,x5,(by show 2<1000;decide),?_⟩
  have e5:upd H5 x (.ins C d (L2.cT "openings" (.ref op) ([("states",.ref st),("openings",.ref op)]:List (Str × V))))=H5:=NB x5
  rw[e5]
  have Tc:∀ q ob,H1 q=some ob→q≠st→q≠op→H5 q=some ob:=fun q ob e m1 m2=>k5 _ _ (UJ _ _ (k2 _ _ e m1)) m2
  have t15:∀ q xs,H1 q=some (.tup xs)→H5 q=some (.tup xs):=fun q xs e=>Tc _ _ e (cE e hs1 (by intro z;cases z)) (cE e W1.ho (by intro z;cases z))
  have QG:=k5 _ _ (UJ _ _ st2) W.ne
  refine k S1 H5 ⟨up _ W.sx,up _ W.ss,up _ W.so,fun q w=>?_,x5,⟨as++[ai],QG,?_⟩,by rw[hk];exact o5,W.ne,W.Mh.step hl lens.1⟩ sub (fun q ob e n=>?_) (fun q xs e=>t15 _ _ (s1 _ _ e))
  ·by_cases z1:q=st
   ·rw[z1];exact⟨_,QG⟩
   by_cases z2:q=op
   ·rw[z2];exact⟨_,o5⟩
   obtain⟨ob,e⟩:=al1 q w
   exact⟨ob,Tc _ _ e z1 z2⟩
  ·refine (bR.mono (fun a rows q=>?_) al).app (.cons (S0.fr (fun _ z=>z) (fun q ob e _ m1 m2=>Tc _ _ e m1 m2) t15) .nil)
   exact q.fr up (fun q ob e _ m1 m2=>Tc _ _ (s1 _ _ e) m1 m2) (fun q xs e=>t15 _ _ (s1 _ _ e))
  ·exact Tc _ _ (s1 _ _ e) (fun z=>n (by rw[z];exact W.ss)) (fun z=>n (by rw[z];exact W.so))
def E7(n:Nat)(a:Int):Prop:=0≤a∧a<(n:Nat)
theorem E7.get{n:Nat}{a:Int}(h:E7 n a):∃ j:Nat,a=j∧j<n:=by
 obtain⟨h0,h1⟩:=h
 exact⟨a.toNat,by omega,by omega⟩
def NC(past:mD)(ops:List Int):Prop:=past.length≤1000∧ops.length≤1000
inductive zF(C XS:Addr)(vs:List V)(H:Hp)(Q:VK)(E:XK):Prop
 | mk (S:Addr→Prop) (x d st op:Addr) (past:mD) (ops:List Int) (s:Int) (_:vs=[.ref x,.int s]) (_:Sh C S H x d st op past ops) (_:NC past ops) (_:vI s) (_:(E7 ops.length s→Q .jE H)) (_:(¬ E7 ops.length s→E (.ref XS) none H)):zF C XS vs H Q E
inductive zG(C XM:Addr)(vs:List V)(H:Hp)(Q:VK)(E:XK):Prop
 | mk (S:Addr→Prop) (x d st op:Addr) (past:mD) (ops:List Int) (m:Int) (_:vs=[.ref x,.int m]) (_:Sh C S H x d st op past ops) (_:NC past ops) (_:vI m) (_:(E7 past.length m→Q .jE H)) (_:(¬ E7 past.length m→E (.ref XM) none H)):zG C XM vs H Q E
def Td(H H':Hp)(q:Addr)(rows:List (List Item)):Prop:=H q=none∧∃ rs:List Addr,H' q=some (.lst (rs.map V.ref))∧bR (fun r its=>H r=none∧r≠q∧bM H' (.ref r) its) rs rows
inductive t7(C XM:Addr)(vs:List V)(H:Hp)(Q:VK)(E:XK):Prop
 | mk (S:Addr→Prop) (x d st op:Addr) (past:mD) (ops:List Int) (m:Int) (_:vs=[.ref x,.int m]) (_:Sh C S H x d st op past ops) (_:NC past ops) (_:vI m) (_:(∀ (mi:Nat) (rows:List (List Item)),m=mi→past[mi]?=some rows→∀ (q:Addr) (H':Hp),Td H H' q rows→aH H H'→Q (.ref q) H')) (_:(¬ E7 past.length m→E (.ref XM) none H)):t7 C XM vs H Q E
inductive zH(C:Addr)(vs:List V)(H:Hp)(Q:VK)(E:XK):Prop
 | mk (S:Addr→Prop) (x d st op:Addr) (past:mD) (ops:List Int) (_:vs=[.ref x]) (_:Sh C S H x d st op past ops) (_:NC past ops) (_:(∀ (rows:List (List Item)),past.getLast?=some rows→∀ (q:Addr) (H':Hp),Td H H' q rows→aH H H'→Q (.ref q) H')):zH C vs H Q E
theorem r9:aG ["self","sheet"] ["self","sheet"] (ay eO):=⟨rfl,rfl,rfl,by decide +kernel,rfl,by decide +kernel,by decide +kernel⟩
theorem qX:aG ["self","moment"] ["self","moment"] (ay ck):=⟨rfl,rfl,rfl,by decide +kernel,rfl,by decide +kernel,by decide +kernel⟩
theorem uX:aG ["self","moment"] ["self","moment"] (ay cX):=⟨rfl,rfl,rfl,by decide +kernel,rfl,by decide +kernel,by decide +kernel⟩
theorem CQ:aG ["self"] ["self"] (ay lR):=⟨rfl,rfl,rfl,by decide +kernel,rfl,by decide +kernel,by decide +kernel⟩
structure Te(K:PySem.W.Frag)(mg:Str→Option Value)(C XS XM:Addr):Prop where
 T:n9 mg
 c:∃ fi,ClsAt K mg "Shelf" C fi
 n1:aU K C "states"
 n2:aU K C "openings"
 zs:yZ K mg "NoSheet" XS
 zm:yZ K mg "NoMoment" XM
theorem qY{f C XS XM fM:Addr}{fd gM:FuncData}(F:gX K "check_sheet" "Shelf.check_sheet" eO f fd)(M:Te K mg C XS XM)(dz:aN K C "many" "Shelf.many" jd gZ fM gM):aF P w K mg base (qC P w) 2 f fd Am (zF C XS):=by
 obtain⟨T,⟨fi,bJ⟩,n1,n2,eT,dc⟩:=M
 have oJ:aF P w K mg base bN 1 _ _ gZ (CO C):=sX dz.F T bJ.cl n1
 refine HG F r9 (fun vs H Q E h=>?_) (fun cdv A outer s H vs Q E hr h=>?_)
 ·obtain⟨S,x,d,st,op,past,ops,a,rfl,_⟩:=h
  rfl
 obtain⟨S,x,d,st,op,past,ops,a,rfl,W,ok,fa,k1,k2⟩:=h
 refine⟨_,(ao (cy (kU (uC nu yx az (pv 1) (b8 (pv 0) bJ.cl dz.mt oJ (hr.mono (by decide)) dz.b .nil cK)))
   (ao (pN PySem.F.excBase_ValueError eT.x eT.m rfl vG (aa (rJ (mz (nI (pv 1) (mz (nI (b8 (pv 0) bJ.cl dz.mt oJ (hr.mono (by decide)) dz.b .nil cK) vH))))) ah)))
   bC)),?_⟩
 have fl:vI ((ops.length:Nat):Int):=⟨by have:=ok.2;omega,by have:=ok.2;omega⟩
 refine⟨_,rfl,_,_,rfl,rfl,_,rfl,ff (fun c0=>?_) (fun c0=>⟨_,rfl,jI ⟨_,rfl,a,rfl,fa.log,_,rfl,x,d,_,rfl,W.hx,rfl,S,x,d,st,op,past,ops,rfl,W,_,rfl,fl.log,fun y=>⟨(by show 1≤sizeLine;decide),k2 fun iw=>c0 (decide_eq_true iw.1)⟩⟩⟩)⟩
 refine⟨_,rfl,x,d,_,rfl,W.hx,rfl,S,x,d,st,op,past,ops,rfl,W,_,_,rfl,rfl,_,rfl,?_⟩
 by_cases iw:E7 ops.length a
 ·rw[decide_eq_true iw.2]
  exact i7 (k1 iw)
 ·rw[decide_eq_false (fun z=>iw ⟨of_decide_eq_true c0,z⟩)]
  exact jI ⟨_,rfl,a,rfl,fa.log,_,rfl,x,d,_,rfl,W.hx,rfl,S,x,d,st,op,past,ops,rfl,W,_,rfl,fl.log,fun y=>⟨(by show 1≤sizeLine;decide),k2 iw⟩⟩
theorem qD{f C XS XM fN:Addr}{fd gN:FuncData}(F:gX K "check_moment" "Shelf.check_moment" ck f fd)(M:Te K mg C XS XM)(bz:aN K C "now" "Shelf.now" eN gZ fN gN):aF P w K mg base (qC P w) 2 f fd J3 (zG C XM):=by
 obtain⟨T,⟨fi,bJ⟩,n1,n2,eT,dc⟩:=M
 have jr:aF P w K mg base bN 1 _ _ gZ (BL C):=mX bz.F T bJ.cl n1
 refine HG F qX (fun vs H Q E h=>?_) (fun cdv A outer s H vs Q E hr h=>?_)
 ·obtain⟨S,x,d,st,op,past,ops,a,rfl,_⟩:=h
  rfl
 obtain⟨S,x,d,st,op,past,ops,a,rfl,W,ok,fa,k1,k2⟩:=h
 obtain⟨as,hs,al⟩:=W.hs
 have la:(as.map V.ref).length=past.length:=by rw[bY,al.len]
 refine⟨_,(ao (cy (kU (uC nu nu az (pv 1) (b8 (pv 0) bJ.cl bz.mt jr (hr.mono (by decide)) bz.b .nil cK)))
   (ao (pN PySem.F.excBase_ValueError dc.x dc.m rfl vG (aa (rJ (mz (nI (pv 1) (mz (nI (b8 (pv 0) bJ.cl bz.mt jr (hr.mono (by decide)) bz.b .nil cK) vH))))) ah)))
   bC)),?_⟩
 have fl:vI (((as.map V.ref).length:Int)-1):=⟨by rw[la];have:=ok.1;omega,by rw[la];have:=ok.1;omega⟩
 refine⟨_,rfl,_,_,rfl,rfl,_,rfl,ff (fun c0=>?_) (fun c0=>⟨_,rfl,jI ⟨_,rfl,a,rfl,fa.log,_,rfl,x,d,_,rfl,W.hx,rfl,x,d,st,op,_,rfl,W.hx,hs,_,rfl,fl.log,fun y=>⟨(by show 1≤sizeLine;decide),k2 fun iw=>c0 (decide_eq_true iw.1)⟩⟩⟩)⟩
 refine⟨_,rfl,x,d,_,rfl,W.hx,rfl,x,d,st,op,_,rfl,W.hx,hs,_,_,rfl,rfl,_,rfl,?_⟩
 by_cases iw:E7 past.length a
 ·rw[decide_eq_true (show a≤((as.map V.ref).length:Int)-1 by rw[la];have:=iw.2;omega)]
  exact i7 (k1 iw)
 ·rw[decide_eq_false (show ¬ a≤((as.map V.ref).length:Int)-1 by rw[la];exact fun z=>iw ⟨of_decide_eq_true c0,by omega⟩)]
  exact jI ⟨_,rfl,a,rfl,fa.log,_,rfl,x,d,_,rfl,W.hx,rfl,x,d,st,op,_,rfl,W.hx,hs,_,rfl,fl.log,fun y=>⟨(by show 1≤sizeLine;decide),k2 iw⟩⟩
theorem Sh.at'{C:Addr}{S:Addr→Prop}{H:Hp}{x d st op:Addr}{past:mD}{ops:List Int}(h:Sh C S H x d st op past ops){as:List Addr}(ha:H st=some (.lst (as.map V.ref))){i:Nat}{rows:List (List Item)}(e:past[i]?=some rows):∃ a,as[i]?=some a∧GP S H st op a rows:=by
 obtain⟨bs,hb,a2⟩:=h.hs
 have e':as=bs:=by
  rw[ha]at hb
  exact zA (HO.lst.inj (rX hb))
 subst e'
 exact a2.get' e
theorem Sh.Tf{C:Addr}{S:Addr→Prop}{H:Hp}{x d st op:Addr}{past:mD}{ops:List Int}(h:Sh C S H x d st op past ops):∃ last,past.getLast?=some last∧past[past.length-1]?=some last∧ops.length=last.length:=by
 obtain⟨last,hl,ol⟩:=h.Mh.BK
 refine⟨last,hl,?_,ol⟩
 rw[List.getLast?_eq_getElem?]at hl
 exact hl
theorem t9{f C XS XM fN fm:Addr}{fd gN gm:FuncData}(F:gX K "rows_then" "Shelf.rows_then" cX f fd)(M:Te K mg C XS XM)(bz:aN K C "now" "Shelf.now" eN gZ fN gN)(cu:aN K C "check_moment" "Shelf.check_moment" ck J3 fm gm):aF P w K mg base (qC P w) 3 f fd J3 (t7 C XM):=by
 have sf:aF P w K mg base (qC P w) 2 _ _ J3 (zG C XM):=qD cu.F M bz
 obtain⟨T,⟨fi,bJ⟩,n1,n2,eT,dc⟩:=M
 refine HG F uX (fun vs H Q E h=>?_) (fun cdv A outer s H vs Q E hr h=>?_)
 ·obtain⟨S,x,d,st,op,past,ops,m,rfl,_⟩:=h
  rfl
 obtain⟨S,x,d,st,op,past,ops,m,rfl,W,ok,fm,k1,k2⟩:=h
 obtain⟨as,hs,al⟩:=id W.hs
 refine⟨_,(ak (bO (cM (pv 0) bJ.cl cu.mt sf (hr.mono (by decide)) cu.b .nil qP (aa (pv 1) ah)))
   (ao (aM (lW (N:=["items"]) (qQ (sc:=ay cX) (NX:=["self","moment"]) (jx:=[none]) rfl rfl rfl (by decide +kernel) (by decide +kernel) rfl (by decide +kernel) rfl (by decide +kernel)) rfl (cH (bu bw (gz (pv 0) rfl) (pv 1) (fun _ _=>rfl))) (fun _ _ _ _ _ _=>(aV (i:=0) (show List.Nodup (["items"]:List Str) by decide +kernel) rfl (Or.inl rfl))) (fun _ _ _ _ _ _=>iG) (fun _ _ _ _ _ _=>(iQ Gr rfl T.nM yl (aa (pv 0) ah))))))),?_⟩
 refine⟨_,rfl,x,d,_,rfl,W.hx,rfl,_,rfl,S,x,d,st,op,past,ops,m,rfl,W,ok,fm,fun im=>?_,k2⟩
 obtain⟨i,rfl,il⟩:=im.get
 have er:past[i]?=some past[i]:=oj il
 generalize past[i]=rows at er
 obtain⟨b,eb,_,_,_,rs,hb,ar⟩:=W.at' hs er
 have lr:=ar.len
 have lo:=W.Mh.less i rows er
 have ok2:=ok.2
 refine⟨_,rfl,x,C,d,_,.ref st,rfl,W.hx,bJ.cl,n1,rfl,_,rfl,st,_,_,.ref b,rfl,rfl,bG.of hs,cU (by rw[qG,eb];rfl),?_⟩
 refine⟨b,rfl,⟨_,bG.of hb⟩,fun acc hacc=>jo (K:=K) (a:=b) (xs:=rs.map V.ref) (fun j σ H1=>∃ (u:Option V) (qs:List Addr),σ=[u]∧H1 acc=some (.lst (qs.map V.ref))∧aH H H1∧bR (fun r its=>H r=none∧r≠acc∧bM H1 (.ref r) its) qs (rows.take j)) ⟨none,[],rfl,af,aj hacc _,by rw[List.take_zero];exact .nil⟩ (fun j σ H1 _ ⟨_,_,_,_,s,_⟩=>bG.of (s _ _ hb)) ?_ ?_⟩
 ·rintro j y σ H1 hj ⟨u,qs,rfl,ha,s1,aq⟩
  rw[qG]at hj
  obtain⟨ri,eri,rfl⟩:=Option.map_eq_some_iff.mp hj
  obtain⟨its,acr,rw'⟩:=ar.get eri
  obtain⟨c,vs,ec,hc,it⟩:=rw'.at'
  cases ec
  refine⟨_,rfl,ri,_,rfl,.inl (bG.of (s1 _ _ hc)),fun z hz=>⟨_,aj hz _ _ _ ha,?_,_,qs++[z],rfl,?_,?_,?_⟩⟩
  ·have:=aq.len
   rw[ko]at this
   rw[bY]
   exact aL (by omega)
  ·rw[af,lK]
   rfl
  ·intro q ob e
   rw[aC (au e hacc)]
   exact aj hz _ _ _ (s1 _ _ e)
  ·have nza:z≠acc:=(au ha hz).symm
   have fr:∀ q ob,H1 q=some ob→q≠acc→(upd (upd H1 z (.lst vs)) acc (.lst (qs.map V.ref++[.ref z]))) q=some ob:=fun q ob e n=>by
    rw[aC n]
    exact aj hz _ _ _ e
   have tu:∀ q xs,H1 q=some (.tup xs)→(upd (upd H1 z (.lst vs)) acc (.lst (qs.map V.ref++[.ref z]))) q=some (.tup xs):=fun q xs e=>fr _ _ e (cE e ha (by intro w;cases w))
   rw[take_snoc acr]
   refine bR.snoc (aq.mono fun r its ⟨h1,h2,h3⟩=>⟨h1,h2,h3.fr (fun xs e=>fr _ _ e h2) tu⟩) ⟨aW s1 hz,nza,z,vs,rfl,?_,it.mono fun v i ⟨q,e,hq⟩=>⟨q,e,tu _ _ (s1 _ _ hq)⟩⟩
   rw[aC nza]
   exact af
 ·rintro σ H1 ⟨u,qs,rfl,ha,s1,aq⟩
  rw[bY,lr,kr]at aq
  exact k1 i rows rfl er acc H1 ⟨hacc,qs,ha,aq⟩ s1
theorem o7{f C XS XM fN fm fr:Addr}{fd gN gm gr:FuncData}(F:gX K "rows" "Shelf.rows" lR f fd)(M:Te K mg C XS XM)(bz:aN K C "now" "Shelf.now" eN gZ fN gN)(cu:aN K C "check_moment" "Shelf.check_moment" ck J3 fm gm)(gV:aN K C "rows_then" "Shelf.rows_then" cX J3 fr gr):aF P w K mg base bN 4 f fd gZ (zH C):=by
 have vZ:aF P w K mg base (qC P w) 3 _ _ J3 (t7 C XM):=t9 gV.F M bz cu
 obtain⟨T,⟨fi,bJ⟩,n1,n2,eT,dc⟩:=M
 have jr:aF P w K mg base bN 1 _ _ gZ (BL C):=mX bz.F T bJ.cl n1
 refine F.ok CQ (fun vs H Q E h=>?_) (fun cdv A outer s H vs Q E hr h=>?_)
 ·obtain⟨S,x,d,st,op,past,ops,rfl,_⟩:=h
  rfl
 obtain⟨S,x,d,st,op,past,ops,rfl,W,ok,k⟩:=h
 obtain⟨as,hs,al⟩:=id W.hs
 obtain⟨last,hl,hl2,_⟩:=W.Tf
 have lp:past.length-1<past.length:=(List.getElem?_eq_some_iff.mp hl2).1
 have Uy:=ok.1
 have la:(((as.map V.ref).length:Nat):Int)-1=((past.length-1:Nat):Int):=by rw[bY,al.len];omega
 refine⟨_,(ao (aM (cM (pv 0) bJ.cl gV.mt vZ (hr.mono (by decide)) gV.b .nil Bg (aa (b8 (pv 0) bJ.cl bz.mt jr (hr.mono (by decide)) bz.b .nil cK) ah)))),?_⟩
 refine⟨_,rfl,x,d,_,rfl,W.hx,rfl,_,rfl,x,d,_,rfl,W.hx,rfl,x,d,st,op,_,rfl,W.hx,hs,?_⟩
 rw[la]
 refine⟨S,x,d,st,op,past,ops,_,rfl,W,ok,⟨by omega,by omega⟩,fun mi rows em er q H1 fs s1=>?_,fun nm=>absurd ⟨by omega,by omega⟩ nm⟩
 have:mi=past.length-1:=by omega
 subst this
 rw[hl2]at er
 cases er
 exact k last hl q H1 fs s1
inductive uY(C:Addr)(vs:List V)(H:Hp)(Q:VK)(E:XK):Prop
 | mk (x d:Addr) (_:vs=[.ref x]) (_:H x=some (.ins C d [])) (_: ∀ (fs:List (Str × V)) (H':Hp),H' x=some (.ins C d fs)→cA x H H'→Q .jE H'):uY C vs H Q E
theorem xE:aG ["self"] ["self"] (ay je):=⟨rfl,rfl,rfl,by decide +kernel,rfl,by decide +kernel,by decide +kernel⟩
theorem xF:aG ["self"] ["self"] (ay jf):=⟨rfl,rfl,rfl,by decide +kernel,rfl,by decide +kernel,by decide +kernel⟩
theorem E8{x z:Addr}{H:Hp}{o o':HO}(hz:H z=none):cA x H (upd (upd H z o) x o'):=fun a ob e n=>by
 rw[aC n]
 exact aj hz o a ob e
theorem wc{f C:Addr}{fd:FuncData}(F:gX K "__init__" "Dues.__init__" jf f fd)(cl:Aq K C)(n1:aU K C "sums"):aF P w K mg base bN 1 f fd gZ (uY C):=by
 refine F.ok xF (fun vs H Q E h=>?_) (fun cdv A outer s H vs Q E hr h=>?_)
 ·obtain⟨x,d,rfl,_⟩:=h
  rfl
 obtain⟨x,d,rfl,hx,k⟩:=h
 refine⟨_,(ao (jY (pv 0) nK rfl)),?_⟩
 intro z hz
 exact⟨_,rfl,x,C,d,_,rfl,aj hz _ _ _ hx,cl,n1,by decide,k _ _ af (E8 hz)⟩
theorem we{f C:Addr}{fd:FuncData}(F:gX K "__init__" "Ties.__init__" je f fd)(cl:Aq K C)(n1:aU K C "given")(n2:aU K C "pairs"):aF P w K mg base bN 1 f fd gZ (uY C):=by
 refine F.ok xE (fun vs H Q E h=>?_) (fun cdv A outer s H vs Q E hr h=>?_)
 ·obtain⟨x,d,rfl,_⟩:=h
  rfl
 obtain⟨x,d,rfl,hx,k⟩:=h
 refine⟨_,(ak (jY (pv 0) az rfl)
   (ao (jY (pv 0) nK rfl))),?_⟩
 refine⟨_,rfl,x,C,d,_,rfl,hx,cl,n1,by decide,?_⟩
 have k1:cA x H (upd H x (.ins C d (L2.cT "given" (.int 0) []))):=aI x _ _
 have h1:(upd H x (.ins C d (L2.cT "given" (.int 0) []))) x=some (.ins C d (L2.cT "given" (.int 0) [])):=af
 generalize upd H x (.ins C d (L2.cT "given" (.int 0) []))=H1 at k1 h1
 intro z hz
 exact⟨_,rfl,x,C,d,_,rfl,aj hz _ _ _ h1,cl,n2,(by show 1<1000;decide),k _ _ af (k1.trans (E8 hz))⟩
def LR(aB:jW):List V:=aB.map fun p=>vQ p.2
def hds(aB:jW):List V:=aB.map fun p=>V.int p.1
def qv(h:Int)(cs:List Nat):jW:=cs.map fun c=>(h,c)
theorem qf(h:Int)(cs:List Nat):(qv h cs).length=cs.length:=bY ..
theorem ND(aB:jW)(h:Int)(cs:List Nat):LR (aB++qv h cs)=LR aB++cs.map vQ:=by
 unfold LR qv
 rw[lK,List.map_map]
 rfl
theorem CU(v:V):∀ n:Nat,(List.replicate n [v]).flatten=List.replicate n v
 | 0=>rfl
 | n+1=>by rw[List.replicate_succ,List.flatten_cons,CU v n,List.replicate_succ];rfl
theorem NF(aB:jW)(h:Int)(cs:List Nat):hds (aB++qv h cs)=hds aB++(List.replicate cs.length [V.int h]).flatten:=by
 rw[CU]
 unfold hds qv
 rw[lK,List.map_map]
 congr 1
 exact List.map_eq_replicate_iff.mpr fun c _=>rfl
def ua(h:Int):Nat→jW→List Int
 | _,[]=>[]
 | i,p::r=>if p.1=h then (i:Int)::ua h (i+1) r else ua h (i+1) r
theorem nR(h:Int):∀ (a b:jW) (i:Nat),ua h i (a++b)=ua h i a++ua h (i+a.length) b
 | [],b,i=>rfl
 | p::a,b,i=>by
  rw[List.cons_append,ua,ua,mq,nR h a b (i+1),show i+1+a.length=i+(a.length+1) by omega]
  split <;> rfl
theorem wg(h:Int):∀ (cs:List Nat) (i:Nat),ua h i (qv h cs)=run (i:Int) cs.length
 | [],i=>rfl
 | c::cs,i=>by
  show ua h i ((h,c)::qv h cs)=_
  rw[ua,if_pos rfl,wg h cs (i+1),mq,run,show ((i+1:Nat):Int)=(i:Int)+1 by omega]
theorem nS{h g:Int}(n:g≠h):∀ (cs:List Nat) (i:Nat),ua h i (qv g cs)=[]
 | [],i=>rfl
 | c::cs,i=>by
  show ua h i ((g,c)::qv g cs)=_
  rw[ua,if_neg n,nS n cs (i+1)]
theorem zI(a b:Int)(k:Nat)(e:b=a+k):aS [(a,b)]=run a k:=by
 show span (a,b)++[]=_
 rw[om]
 show run a (b-a).toNat=_
 rw[show (b-a).toNat=k by omega]
structure Pw(S:Addr→Prop)(H:Hp)(s o:Addr)(n:Nat)(kvs:List (Key × V))(aB:jW):Prop where
 got:∀ h v,bU kvs (Sum.inl h)=some v→∃ (l:Addr) (row:Row),v=.ref l∧S l∧l≠s∧l≠o∧bP H l row∧(∀ p∈row,p.1≤p.2)∧aS row=ua h 0 aB∧row.length≤n
 jE:∀ h,bU kvs (Sum.inl h)=none→ua h 0 aB=[]
 one:∀ h g v,bU kvs (Sum.inl h)=some v→bU kvs (Sum.inl g)=some v→h=g
 len:kvs.length≤n
structure We(C:Addr)(S:Addr→Prop)(H:Hp)(x d s o p:Addr)(n:Nat)(aB:jW):Prop where
 sx:S x
 ss:S s
 so:S o
 sp:S p
 al:∀ a,S a→∃ ob,H a=some ob
 hx:H x=some (.ins C d [("signs",.ref s),("owners",.ref o),("pourings",.ref p)])
 hs:H s=some (.lst (LR aB))
 ho:H o=some (.lst (hds aB))
 ne:s≠o
 dk:∃ kvs,H p=some (.dK kvs)∧Pw S H s o n kvs aB
theorem bP.two{H H':Hp}{r:Addr}{row:Row}(h:bP H r row)(k:∀ xs,H r=some (.lst xs)→H' r=some (.lst xs))(t:∀ a xs,H a=some (.tup xs)→H' a=some (.tup xs)):bP H' r row:=by
 obtain⟨as,h1,h2⟩:=h
 exact⟨as,k _ h1,h2.tups t⟩
theorem We.fr{C:Addr}{S:Addr→Prop}{H H':Hp}{x d s o p:Addr}{n:Nat}{aB:jW}(h:We C S H x d s o p n aB)(k:∀ a ob,H a=some ob→S a→H' a=some ob)(t:∀ a xs,H a=some (.tup xs)→H' a=some (.tup xs)):We C S H' x d s o p n aB:=by
 obtain⟨sx,ss,so,sp,al,hx,hs,ho,ne,kvs,hp,pw⟩:=h
 refine⟨sx,ss,so,sp,fun a z=>?_,k _ _ hx sx,k _ _ hs ss,k _ _ ho so,ne,kvs,k _ _ hp sp,fun h v e=>?_,pw.jE,pw.one,pw.len⟩
 ·obtain⟨ob,e⟩:=al a z
  exact⟨ob,k _ _ e z⟩
 ·obtain⟨l,row,e1,e2,e3,e4,e5,r⟩:=pw.got h v e
  exact⟨l,row,e1,e2,e3,e4,e5.two (fun xs q=>k _ _ q e2) t,r⟩
theorem We.same{C:Addr}{S:Addr→Prop}{H H':Hp}{x d s o p:Addr}{n:Nat}{aB:jW}(h:We C S H x d s o p n aB)(k:aH H H'):We C S H' x d s o p n aB:=h.fr (fun a ob e _=>k a ob e) (fun a xs e=>k _ _ e)
theorem Ig(aB:jW):(LR aB).length=aB.length:=bY ..
theorem NG(aB:jW):(hds aB).length=aB.length:=bY ..
theorem LS{H:Hp}{a:Addr}{ob:HO}(h:H a=some ob):upd H a ob=H:=by
 funext b
 by_cases e:b=a
 ·rw[e,af,h]
 ·rw[aC e]
inductive CV(C:Addr)(vs:List V)(H:Hp)(Q:VK)(E:XK):Prop
 | mk (x d:Addr) (_:vs=[.ref x]) (_:H x=some (.ins C d [])) (_: ∀ (s o p:Addr) (H':Hp),We C (fun a=>a=x∨a=s∨a=o∨a=p) H' x d s o p 0 []→cA x H H'→H s=none→H o=none→H p=none→Q .jE H'):CV C vs H Q E
inductive rS(C:Addr)(vs:List V)(H:Hp)(Q:VK)(E:XK):Prop
 | mk (x d s o p:Addr) (aB:jW) (_:vs=[.ref x]) (_:H x=some (.ins C d [("signs",.ref s),("owners",.ref o),("pourings",.ref p)])) (_:H s=some (.lst (LR aB))) (_:Q (.int (aB.length:Nat)) H):rS C vs H Q E
inductive GS(C:Addr)(vs:List V)(H:Hp)(Q:VK)(E:XK):Prop
 | mk (S:Addr→Prop) (x d s o p:Addr) (n:Nat) (aB:jW) (h:Int) (cs:List Nat) (_:vs=[.ref x,.int h,.str (txt cs)]) (_:We C S H x d s o p n aB) (_:aB.length+cs.length≤100000) (_:n≤1000) (_ :
 ∀ (S':Addr→Prop) (q:Addr) (H':Hp),We C S' H' x d s o p (n+1) (aB++qv h cs)→H' q=some (.tup [.int (aB.length:Nat),.int ((aB++qv h cs).length:Nat)])→(∀ a,S' a→S a∨H a=none)→(∀ a ob,H a=some ob→¬ S a→H' a=some ob)→(∀ a xs,H a=some (.tup xs)→H' a=some (.tup xs))→Q (.ref q) H'):GS C vs H Q E
theorem xG:aG ["self"] ["self"] (ay jg):=⟨rfl,rfl,rfl,by decide +kernel,rfl,by decide +kernel,by decide +kernel⟩
theorem E9:aG ["self"] ["self"] (ay iE):=⟨rfl,rfl,rfl,by decide +kernel,rfl,by decide +kernel,by decide +kernel⟩
theorem qZ:aG ["self","hand","text","start","stretch"] ["self","hand","text"] (ay nE):=⟨rfl,rfl,rfl,by decide +kernel,rfl,by decide +kernel,by decide +kernel⟩
theorem wj{f C:Addr}{fd:FuncData}(F:gX K "__init__" "Well.__init__" jg f fd)(cl:Aq K C)(n1:aU K C "signs")(n2:aU K C "owners")(n3:aU K C "pourings"):aF P w K mg base bN 1 f fd gZ (CV C):=by
 refine F.ok xG (fun vs H Q E h=>?_) (fun cdv A outer s H vs Q E hr h=>?_)
 ·obtain⟨x,d,rfl,_⟩:=h
  rfl
 obtain⟨x,d,rfl,hx,k⟩:=h
 refine⟨_,(ak (jY (pv 0) (bI ah) rfl)
   (ak (jY (pv 0) (bI ah) rfl)
   (ao (jY (pv 0) nK rfl)))),?_⟩
 refine⟨(by show 0≤sizeLine;decide),fun s hs=>?_⟩
 have a1:aH H (upd H s (.lst [])):=aj hs _
 have b1:(upd H s (.lst [])) s=some (.lst []):=af
 generalize upd H s (.lst [])=H1 at a1 b1
 refine⟨_,rfl,x,C,d,_,rfl,a1 _ _ hx,cl,n1,by decide,?_⟩
 have k2:cA x H1 (upd H1 x (.ins C d (L2.cT "signs" (.ref s) []))):=aI x _ _
 have h2:(upd H1 x (.ins C d (L2.cT "signs" (.ref s) []))) x=some (.ins C d [("signs",.ref s)]):=af
 generalize upd H1 x (.ins C d (L2.cT "signs" (.ref s) []))=H2 at k2 h2
 have Qg:s≠x:=(au hx hs).symm
 have b2:=k2 _ _ b1 Qg
 refine⟨(by show 0≤sizeLine;decide),fun o ho=>?_⟩
 have a3:aH H2 (upd H2 o (.lst [])):=aj ho _
 have c3:(upd H2 o (.lst [])) o=some (.lst []):=af
 generalize upd H2 o (.lst [])=H3 at a3 c3
 refine⟨_,rfl,x,C,d,_,rfl,a3 _ _ h2,cl,n2,(by show 1<1000;decide),?_⟩
 have k4:cA x H3 (upd H3 x (.ins C d (L2.cT "owners" (.ref o) [("signs",.ref s)]))):=aI x _ _
 have h4:(upd H3 x (.ins C d (L2.cT "owners" (.ref o) [("signs",.ref s)]))) x=some (.ins C d [("signs",.ref s),("owners",.ref o)]):=af
 generalize upd H3 x (.ins C d (L2.cT "owners" (.ref o) [("signs",.ref s)]))=H4 at k4 h4
 have JV:o≠x:=(au h2 ho).symm
 have c4:=k4 _ _ c3 JV
 have b4:=k4 _ _ (a3 _ _ b2) Qg
 intro p hp
 have UK:p≠x:=(au h4 hp).symm
 refine⟨_,rfl,x,C,d,_,rfl,aj hp _ _ _ h4,cl,n3,(by show 2<1000;decide),?_⟩
 have k5:cA x H (upd (upd H4 p (.dK [])) x (.ins C d (L2.cT "pourings" (.ref p) [("signs",.ref s),("owners",.ref o)]))):=fun a ob e n=>by
  rw[aC n]
  exact aj hp _ _ _ (k4 _ _ (a3 _ _ (k2 _ _ (a1 _ _ e) n)) n)
 refine k s o p _ ⟨.inl rfl,.inr (.inl rfl),.inr (.inr (.inl rfl)),.inr (.inr (.inr rfl)),fun a z=>?_,af,?_,?_,au b2 ho,[],?_,?_⟩ k5 hs ?_ ?_
 ·rcases z with rfl|rfl|rfl|rfl
  ·exact⟨_,af⟩
  ·exact⟨_,by rw[aC Qg];exact aj hp _ _ _ b4⟩
  ·exact⟨_,by rw[aC JV];exact aj hp _ _ _ c4⟩
  ·exact⟨_,by rw[aC UK];exact af⟩
 ·rw[aC Qg];exact aj hp _ _ _ b4
 ·rw[aC JV];exact aj hp _ _ _ c4
 ·rw[aC UK];exact af
 ·exact⟨fun h v e=>(by cases e),fun h e=>rfl,fun h g v e=>(by cases e),fH _⟩
 ·exact aW a1 (jy k2 JV ho)
 ·exact aW a1 (jy k2 UK (aW a3 (jy k4 UK hp)))
theorem mY{f C:Addr}{fd:FuncData}(F:gX K "size" "Well.size" iE f fd)(T:n9 mg)(cl:Aq K C)(n1:aU K C "signs"):aF P w K mg base bN 1 f fd gZ (rS C):=by
 refine F.ok E9 (fun vs H Q E h=>?_) (fun cdv A outer s H vs Q E hr h=>?_)
 ·obtain⟨x,d,s,o,p,aB,rfl,_⟩:=h
  rfl
 obtain⟨x,d,s,o,p,aB,rfl,hx,hs,k⟩:=h
 refine⟨_,(ao (aM (aO bq rfl T.ic lN (aa (gz (pv 0) rfl) ah)))),?_⟩
 refine⟨_,rfl,x,C,d,_,.ref s,rfl,hx,cl,n1,rfl,s,_,rfl,.inl (bG.of hs),?_⟩
 rw[Ig]
 exact k
theorem CY{f C fs fi:Addr}{fd gs:FuncData}(F:gX K "pour" "Well.pour" nE f fd)(T:n9 mg)(cW:ClsAt K mg "Well" C fi)(n1:aU K C "signs")(n2:aU K C "owners")(n3:aU K C "pourings")(bf:aN K C "size" "Well.size" iE gZ fs gs):aF P w K mg base bN 2 f fd Mq (GS C):=by
 have iH:aF P w K mg base bN 1 fs gs gZ (rS C):=mY bf.F T cW.cl n1
 refine F.ok qZ (fun vs H Q E h=>?_) (fun cdv A outer s H vs Q E hr h=>?_)
 ·obtain⟨S,x,d,s,o,p,n,aB,h,cs,rfl,_⟩:=h
  rfl
 obtain⟨S,x,d,s,o,p,n,aB,h,cs,rfl,W,len,nn,k⟩:=h
 have hu:=mH hr
 refine⟨_,(ak (aQ (i:=3) qZ.nd rfl (Or.inl rfl) (b8 (pv 0) cW.cl bf.mt iH (hr.mono (by decide)) bf.b .nil cK))
   (ak (vz (pv 0) (iQ (Au rfl) rfl T.nM yl (aa (pv 2) ah)) Gs)
   (ak (vz (pv 0) (bH Kw (bI (aa (pv 1) ah)) (aO jv rfl T.ic lN (aa (pv 2) ah))) Gs)
   (ak (aQ (i:=4) qZ.nd rfl (Or.inl rfl) (jH (aa (pv 3) (aa (b8 (pv 0) cW.cl bf.mt iH (hr.mono (by decide)) bf.b .nil cK) ah))))
   (ak (bO (jF qz uu uv cF (Lk (gz (pv 0) rfl) (pv 1) (bI ah) ⟨rfl,rfl,rfl,rfl⟩) (aa (pv 4) ah)))
   (ao (aM (pv 4)))))))),?_⟩
 refine⟨_,rfl,x,d,_,rfl,W.hx,rfl,x,d,s,o,p,aB,rfl,W.hx,W.hs,?_⟩
 obtain⟨sx,ss,so,sp,al,hx,hs,ho,ne,kvs,hp,pw⟩:=id W
 have UI:x≠s:=cE hx hs (by intro z;cases z)
 have nxo:x≠o:=cE hx ho (by intro z;cases z)
 have nxp:x≠p:=cE hx hp (by intro z;cases z)
 have UL:p≠s:=cE hp hs (by intro z;cases z)
 have npo:p≠o:=cE hp ho (by intro z;cases z)
 refine⟨_,rfl,x,C,d,_,.ref s,rfl,hx,cW.cl,n1,rfl,_,rfl,cs,rfl,jb (aL (by omega)),fun t ht=>?_⟩
 have a1:aH H (upd H t (.lst (cs.map vQ))):=aj ht _
 have b1:(upd H t (.lst (cs.map vQ))) t=some (.lst (cs.map vQ)):=af
 generalize upd H t (.lst (cs.map vQ))=H1 at a1 b1
 refine⟨s,t,_,_,rfl,rfl,a1 _ _ hs,b1,(by rw[Ig,bY];exact jb (aL (by omega))),?_⟩
 rw[← ND aB h cs]
 have k2:cA s H1 (upd H1 s (.lst (LR (aB++qv h cs)))):=aI s _ _
 have s2:(upd H1 s (.lst (LR (aB++qv h cs)))) s=some (.lst (LR (aB++qv h cs))):=af
 generalize upd H1 s (.lst (LR (aB++qv h cs)))=H2 at k2 s2
 have k02:cA s H H2:=fun a ob e m=>k2 _ _ (a1 _ _ e) m
 have x2:=k02 _ _ hx UI
 refine⟨d,_,x2,(by show 3<1000;decide),?_⟩
 have e3:upd H2 x (.ins C d (L2.cT "signs" (.ref s) ([("signs",.ref s),("owners",.ref o),("pourings",.ref p)]:List (Str × V))))=H2:=LS x2
 rw[e3]
 refine⟨_,rfl,x,C,d,_,.ref o,rfl,x2,cW.cl,n2,rfl,_,rfl,(by show 1≤sizeLine;decide),fun t2 DA=>?_⟩
 have a3:aH H2 (upd H2 t2 (.lst [.int h])):=aj DA _
 have b3:(upd H2 t2 (.lst [.int h])) t2=some (.lst [.int h]):=af
 generalize upd H2 t2 (.lst [.int h])=H3 at a3 b3
 refine⟨_,rfl,txt cs,rfl,(by rw[dQ];exact jb (aL (by omega))),?_⟩
 rw[dQ]
 refine⟨t2,_,_,rfl,rfl,b3,by omega,by omega,(by simp only[ur];exact jb (aL (by omega))),fun t3 QX=>?_⟩
 rw[Int.toNat_natCast]
 have a4:aH H3 (upd H3 t3 (.lst (List.replicate cs.length [V.int h]).flatten)):=aj QX _
 have b4:(upd H3 t3 (.lst (List.replicate cs.length [V.int h]).flatten)) t3=some (.lst (List.replicate cs.length [V.int h]).flatten):=af
 generalize upd H3 t3 (.lst (List.replicate cs.length [V.int h]).flatten)=H4 at a4 b4
 have Oz:cA s H H4:=fun a ob e m=>a4 _ _ (a3 _ _ (k02 _ _ e m))
 refine⟨o,t3,_,_,rfl,rfl,Oz _ _ ho ne.symm,b4,(by rw[NG,CU,ux];exact jb (aL (by omega))),?_⟩
 rw[← NF aB h cs]
 have k5:cA o H4 (upd H4 o (.lst (hds (aB++qv h cs)))):=aI o _ _
 have o5:(upd H4 o (.lst (hds (aB++qv h cs)))) o=some (.lst (hds (aB++qv h cs))):=af
 generalize upd H4 o (.lst (hds (aB++qv h cs)))=H5 at k5 o5
 have Tg:∀ a ob,H a=some ob→a≠s→a≠o→H5 a=some ob:=fun a ob e m m2=>k5 _ _ (Oz _ _ e m) m2
 have x5:=Tg _ _ hx UI nxo
 have s5:=k5 _ _ (a4 _ _ (a3 _ _ s2)) ne
 refine⟨d,_,x5,(by show 3<1000;decide),?_⟩
 have e5:upd H5 x (.ins C d (L2.cT "owners" (.ref o) ([("signs",.ref s),("owners",.ref o),("pourings",.ref p)]:List (Str × V))))=H5:=LS x5
 rw[e5]
 have Ru:∀ q,H5 q=none→H q=none:=fun q hq=>by
  cases e:H q with
  | none=>rfl
  | some ob =>
   by_cases z1:q=s
   ·rw[z1,s5]at hq;cases hq
   by_cases z2:q=o
   ·rw[z2,o5]at hq;cases hq
   rw[Tg _ _ e z1 z2]at hq
   cases hq
 refine⟨_,rfl,_,rfl,x,d,_,rfl,x5,rfl,x,d,s,o,p,_,rfl,x5,s5,?_⟩
 refine⟨(by show 2≤sizeLine;decide),fun q hq=>?_⟩
 have a6:aH H5 (upd H5 q (.tup [.int (aB.length:Nat),.int ((aB++qv h cs).length:Nat)])):=aj hq _
 have b6:(upd H5 q (.tup [.int (aB.length:Nat),.int ((aB++qv h cs).length:Nat)])) q=some (.tup [.int (aB.length:Nat),.int ((aB++qv h cs).length:Nat)]):=af
 generalize upd H5 q (.tup [.int (aB.length:Nat),.int ((aB++qv h cs).length:Nat)])=H6 at a6 b6
 have p6:=a6 _ _ (Tg _ _ hp UL npo)
 have FG:∀ q,H6 q=none→H q=none:=fun q hq=>Ru q (aW a6 hq)
 refine⟨_,rfl,x,C,d,_,.ref p,rfl,a6 _ _ x5,cW.cl,n3,rfl,p,rfl,.inl ⟨_,.inl p6⟩,_,rfl,(by show 0≤sizeLine;decide),fun z hz=>?_⟩
 have a7:aH H6 (upd H6 z (.lst [])):=aj hz _
 have b7:(upd H6 z (.lst [])) z=some (.lst []):=af
 generalize upd H6 z (.lst [])=H7 at a7 b7
 have lp:=pw.len
 refine⟨kvs,Sum.inl h,a7 _ _ p6,rfl,aL (by omega),fun v hv=>?_,fun hv=>?_⟩
 ·obtain⟨l,row,rfl,Sl,ls,lo,⟨as,hl,pa⟩,ok,sp1,rl⟩:=pw.got h v hv
  have Th:∀ a ob,H a=some ob→a≠s→a≠o→H7 a=some ob:=fun a ob e m m2=>a7 _ _ (a6 _ _ (Tg _ _ e m m2))
  have l7:=Th _ _ hl ls lo
  have nxl:x≠l:=cE hx hl (by intro z;cases z)
  have npl:p≠l:=cE hp hl (by intro z;cases z)
  have la:=pa.len
  refine⟨.inl ⟨rfl,_,bG.of l7⟩,_,rfl,l,_,_,rfl,rfl,l7,(by rw[bY];exact aL (by omega)),?_⟩
  have k8:cA l H7 (upd H7 l (.lst (as.map V.ref++[.ref q]))):=aI l _ _
  have l8:(upd H7 l (.lst (as.map V.ref++[.ref q]))) l=some (.lst (as.map V.ref++[.ref q])):=af
  generalize upd H7 l (.lst (as.map V.ref++[.ref q]))=H8 at k8 l8
  have t07:∀ a xs,H a=some (.tup xs)→H7 a=some (.tup xs):=fun a xs e=>Th _ _ e (cE e hs (by intro z;cases z)) (cE e ho (by intro z;cases z))
  have Qi:∀ a xs,H7 a=some (.tup xs)→H8 a=some (.tup xs):=fun a xs e=>k8 _ _ e (cE e l7 (by intro z;cases z))
  have s8:=k8 _ _ (a7 _ _ (a6 _ _ s5)) ls.symm
  have o8:=k8 _ _ (a7 _ _ (a6 _ _ o5)) lo.symm
  refine⟨_,rfl,k S q H8 ⟨sx,ss,so,sp,fun a z=>?_,k8 _ _ (a7 _ _ (a6 _ _ x5)) nxl,s8,o8,ne,kvs,k8 _ _ (a7 _ _ p6) npl,fun g v e=>?_,fun g e=>?_,pw.one,by omega⟩ (Qi _ _ (a7 _ _ b6)) (fun a z=>.inl z) (fun a ob e m=>?_) (fun a xs e=>Qi _ _ (t07 _ _ e))⟩
  ·by_cases z1:a=s
   ·rw[z1];exact⟨_,s8⟩
   by_cases z2:a=o
   ·rw[z2];exact⟨_,o8⟩
   by_cases z3:a=l
   ·rw[z3];exact⟨_,l8⟩
   obtain⟨ob,e⟩:=al a z
   exact⟨ob,k8 _ _ (Th _ _ e z1 z2) z3⟩
  ·by_cases c:g=h
   ·subst c
    rw[hv]at e
    cases e
    refine⟨l,row++([(((aB.length:Nat):Int),(((aB++qv g cs).length:Nat):Int))]:Row),rfl,Sl,ls,lo,⟨as++[q],by rw[lK];exact l8,?_⟩,?_,?_,?_⟩
    ·exact aX.append (pa.tups fun a xs e=>Qi _ _ (t07 _ _ e)) (.cons (b:=(((aB.length:Nat):Int),(((aB++qv g cs).length:Nat):Int))) (Qi _ _ (a7 _ _ b6)) .nil)
    ·intro r hr
     rcases List.mem_append.mp hr with z|z
     ·exact ok r z
     ·rw[List.mem_singleton.mp z]
      show ((aB.length:Nat):Int)≤((aB++qv g cs).length:Nat)
      rw[eZ]
      omega
    ·rw[cC,sp1,nR,wg,Nat.zero_add]
     congr 1
     refine zI _ _ _ ?_
     rw[eZ,qf]
     omega
    ·rw[eZ]
     simp only[ur]
     omega
   ·obtain⟨l',pQ,e1,e2,e3,e4,e5,e6,e7,e8⟩:=pw.got g v e
    subst e1
    have nl:l'≠l:=fun z=>c (pw.one g h _ e (by rw[z];exact hv))
    refine⟨l',pQ,rfl,e2,e3,e4,e5.two (fun xs q=>k8 _ _ (Th _ _ q e3 e4) nl) (fun a xs e=>Qi _ _ (t07 _ _ e)),e6,?_,by omega⟩
    rw[e7,nR,nS (fun z=>c z.symm),om]
  ·have c:g≠h:=fun z=>by rw[z,hv]at e;cases e
   rw[nR,pw.jE g e,nS (fun z=>c z.symm),om]
  ·have z1:a≠s:=fun z=>m (by rw[z];exact ss)
   have z2:a≠o:=fun z=>m (by rw[z];exact so)
   have z3:a≠l:=fun z=>m (by rw[z];exact Sl)
   exact k8 _ _ (Th _ _ e z1 z2) z3
 ·have fz:H z=none:=FG z hz
  have p7:=a7 _ _ p6
  have k8:cA p H7 (upd H7 p (.dK (putK kvs (Sum.inl h) (.ref z)))):=aI p _ _
  have p8:(upd H7 p (.dK (putK kvs (Sum.inl h) (.ref z)))) p=some (.dK (putK kvs (Sum.inl h) (.ref z))):=af
  generalize upd H7 p (.dK (putK kvs (Sum.inl h) (.ref z)))=H8 at k8 p8
  have z8:=k8 _ _ b7 (cE b7 p7 (by intro z;cases z))
  refine⟨.inl ⟨rfl,_,bG.of z8⟩,_,rfl,z,_,_,rfl,rfl,z8,(by show 0<sizeLine;decide),?_⟩
  have k9:cA z H8 (upd H8 z (.lst ([]++[.ref q]))):=aI z _ _
  have z9:(upd H8 z (.lst ([]++[.ref q]))) z=some (.lst ([]++[.ref q])):=af
  generalize upd H8 z (.lst ([]++[.ref q]))=H9 at k9 z9
  have Ti:∀ a ob,H6 a=some ob→a≠p→H9 a=some ob:=fun a ob e m=>k9 _ _ (k8 _ _ (a7 _ _ e) m) (au e hz)
  have Qj:∀ a ob,H a=some ob→a≠s→a≠o→a≠p→H9 a=some ob:=fun a ob e m m2 m3=>Ti _ _ (a6 _ _ (Tg _ _ e m m2)) m3
  have t69:∀ a xs,H6 a=some (.tup xs)→H9 a=some (.tup xs):=fun a xs e=>Ti _ _ e (cE e p6 (by intro z;cases z))
  have t09:∀ a xs,H a=some (.tup xs)→H9 a=some (.tup xs):=fun a xs e=>Qj _ _ e (cE e hs (by intro z;cases z)) (cE e ho (by intro z;cases z)) (cE e hp (by intro z;cases z))
  have s9:=Ti _ _ (a6 _ _ s5) UL.symm
  have o9:=Ti _ _ (a6 _ _ o5) npo.symm
  have p9:=k9 _ _ p8 (cE p7 b7 (by intro z;cases z))
  have nz:∀ a,S a→a≠z:=fun a sa=>by
   obtain⟨ob,e⟩:=al a sa
   exact au e fz
  refine⟨_,rfl,k (fun a=>S a∨a=z) q H9 ⟨.inl sx,.inl ss,.inl so,.inl sp,fun a w=>?_,Ti _ _ (a6 _ _ x5) nxp,s9,o9,ne,_,p9,fun g v e=>?_,fun g e=>?_,fun g g' v e e'=>?_,(by have:=jm kvs (Sum.inl h:Key) (V.ref z);omega)⟩ (t69 _ _ b6) (fun a w=>w.imp id fun y=>by rw[y];exact fz) (fun a ob e m=>?_) (fun a xs e=>t09 _ _ e)⟩
  ·rcases w with w|w
   ·by_cases z1:a=s
    ·rw[z1];exact⟨_,s9⟩
    by_cases z2:a=o
    ·rw[z2];exact⟨_,o9⟩
    by_cases z3:a=p
    ·rw[z3];exact⟨_,p9⟩
    obtain⟨ob,e⟩:=al a w
    exact⟨ob,Qj _ _ e z1 z2 z3⟩
   ·rw[w];exact⟨_,z9⟩
  ·rw[lV]at e
   by_cases c:g=h
   ·subst c
    rw[if_pos rfl]at e
    cases e
    refine⟨z,([(((aB.length:Nat):Int),(((aB++qv g cs).length:Nat):Int))]:Row),rfl,.inr rfl,(nz _ ss).symm,(nz _ so).symm,⟨[q],z9,.cons (t69 _ _ b6) .nil⟩,?_,?_,?_⟩
    ·intro r hr
     rw[List.mem_singleton.mp hr]
     show ((aB.length:Nat):Int)≤((aB++qv g cs).length:Nat)
     rw[eZ]
     omega
    ·rw[nR,pw.jE g hv,wg,Nat.zero_add,List.nil_append]
     refine zI _ _ _ ?_
     rw[eZ,qf]
     omega
    ·simp only[ur]
     omega
   ·rw[if_neg (fun z=>c (Sum.inl.inj z))]at e
    obtain⟨l',pQ,e1,e2,e3,e4,e5,e6,e7,e8⟩:=pw.got g v e
    subst e1
    refine⟨l',pQ,rfl,.inl e2,e3,e4,e5.two (fun xs q=>Qj _ _ q e3 e4 (cE q hp (by intro z;cases z))) (fun a xs e=>t09 _ _ e),e6,?_,by omega⟩
    rw[e7,nR,nS (fun z=>c z.symm),om]
  ·rw[lV]at e
   have c:g≠h:=fun z=>by rw[z,if_pos rfl]at e;cases e
   rw[if_neg (fun z=>c (Sum.inl.inj z))]at e
   rw[nR,pw.jE g e,nS (fun z=>c z.symm),om]
  ·have other:∀ g v,g≠h→bU kvs (Sum.inl g)=some v→v≠.ref z:=fun g v c e y=>by
    obtain⟨l',pQ,e1,e2,_⟩:=pw.got g v e
    rw[e1]at y
    cases y
    exact nz _ e2 rfl
   rw[lV]at e e'
   by_cases c:g=h
   ·by_cases c':g'=h
    ·rw[c,c']
    ·rw[c,if_pos rfl]at e
     rw[if_neg (fun z=>c' (Sum.inl.inj z))]at e'
     cases e
     exact absurd rfl (other _ _ c' e')
   ·rw[if_neg (fun z=>c (Sum.inl.inj z))]at e
    by_cases c':g'=h
    ·rw[c',if_pos rfl]at e'
     cases e'
     exact absurd rfl (other _ _ c e)
    ·rw[if_neg (fun z=>c' (Sum.inl.inj z))]at e'
     exact pw.one _ _ _ e e'
  ·have z1:a≠s:=fun z=>m (by rw[z];exact ss)
   have z2:a≠o:=fun z=>m (by rw[z];exact so)
   have z3:a≠p:=fun z=>m (by rw[z];exact sp)
   exact Qj _ _ e z1 z2 z3
def QY(aB:jW)(a:Int):Prop:=0≤a∧a<(aB.length:Nat)
inductive zJ(C XN:Addr)(vs:List V)(H:Hp)(Q:VK)(E:XK):Prop
 | mk (S:Addr→Prop) (x d s o p:Addr) (n:Nat) (aB:jW) (a:Int) (_:vs=[.ref x,.int a]) (_:We C S H x d s o p n aB) (_:vI a) (_:aB.length≤100000) (_:(QY aB a→Q .jE H)) (_:(¬ QY aB a→E (.ref XN) none H)):zJ C XN vs H Q E
inductive CZ(C XN:Addr)(vs:List V)(H:Hp)(Q:VK)(E:XK):Prop
 | mk (S:Addr→Prop) (x d s o p:Addr) (n:Nat) (aB:jW) (a:Int) (_:vs=[.ref x,.int a]) (_:We C S H x d s o p n aB) (_:vI a) (_:aB.length≤100000) (_:(∀ (j:Nat) (q:Int × Nat),a=j→aB[j]?=some q→Q (vQ q.2) H)) (_:(¬ QY aB a→E (.ref XN) none H)):CZ C XN vs H Q E
theorem QY.get{aB:jW}{a:Int}(h:QY aB a):∃ (j:Nat) (q:Int × Nat),a=j∧aB[j]?=some q:=by
 obtain⟨h0,h1⟩:=h
 exact⟨a.toNat,aB[a.toNat]'(by omega),by omega,by simp⟩
theorem rf:aG ["self","address"] ["self","address"] (ay cQ):=⟨rfl,rfl,rfl,by decide +kernel,rfl,by decide +kernel,by decide +kernel⟩
theorem Fb:aG ["self","address"] ["self","address"] (ay nF):=⟨rfl,rfl,rfl,by decide +kernel,rfl,by decide +kernel,by decide +kernel⟩
theorem qE{f C XN fs fi:Addr}{fd gs:FuncData}(F:gX K "check_address" "Well.check_address" cQ f fd)(T:n9 mg)(cW:ClsAt K mg "Well" C fi)(n1:aU K C "signs")(dB:yZ K mg "OutOfInk" XN)(bf:aN K C "size" "Well.size" iE gZ fs gs):aF P w K mg base (qC P w) 2 f fd Iq (zJ C XN):=by
 have iH:aF P w K mg base bN 1 fs gs gZ (rS C):=mY bf.F T cW.cl n1
 refine HG F rf (fun vs H Q E h=>?_) (fun cdv A outer s H vs Q E hr h=>?_)
 ·obtain⟨S,x,d,s,o,p,n,aB,a,rfl,_⟩:=h
  rfl
 obtain⟨S,x,d,s,o,p,n,aB,a,rfl,W,fa,len,k1,k2⟩:=h
 refine⟨_,(ao (cy (kU (uC nu yx az (pv 1) (b8 (pv 0) cW.cl bf.mt iH (hr.mono (by decide)) bf.b .nil cK)))
   (ao (pN PySem.F.excBase_ValueError dB.x dB.m rfl vG (aa (rJ (mz (nI (pv 1) (mz (nI (b8 (pv 0) cW.cl bf.mt iH (hr.mono (by decide)) bf.b .nil cK) vH))))) ah)))
   bC)),?_⟩
 have fl:vI ((aB.length:Nat):Int):=⟨by omega,by omega⟩
 refine⟨_,rfl,_,_,rfl,rfl,_,rfl,ff (fun c0=>?_) (fun c0=>⟨_,rfl,jI ⟨_,rfl,a,rfl,fa.log,_,rfl,x,d,_,rfl,W.hx,rfl,x,d,s,o,p,aB,rfl,W.hx,W.hs,_,rfl,fl.log,fun y=>⟨(by show 1≤sizeLine;decide),k2 fun iw=>c0 (decide_eq_true iw.1)⟩⟩⟩)⟩
 refine⟨_,rfl,x,d,_,rfl,W.hx,rfl,x,d,s,o,p,aB,rfl,W.hx,W.hs,_,_,rfl,rfl,_,rfl,?_⟩
 by_cases iw:QY aB a
 ·rw[decide_eq_true iw.2]
  exact i7 (k1 iw)
 ·rw[decide_eq_false (fun z=>iw ⟨of_decide_eq_true c0,z⟩)]
  exact jI ⟨_,rfl,a,rfl,fa.log,_,rfl,x,d,_,rfl,W.hx,rfl,x,d,s,o,p,aB,rfl,W.hx,W.hs,_,rfl,fl.log,fun y=>⟨(by show 1≤sizeLine;decide),k2 iw⟩⟩
theorem C1{f C XN fc fs fi:Addr}{fd gc gs:FuncData}(F:gX K "sign" "Well.sign" nF f fd)(T:n9 mg)(cW:ClsAt K mg "Well" C fi)(n1:aU K C "signs")(dB:yZ K mg "OutOfInk" XN)(bf:aN K C "size" "Well.size" iE gZ fs gs)(dJ:aN K C "check_address" "Well.check_address" cQ Iq fc gc):aF P w K mg base (qC P w) 3 f fd Iq (CZ C XN):=by
 have sj:aF P w K mg base (qC P w) 2 fc gc Iq (zJ C XN):=qE dJ.F T cW n1 dB bf
 refine HG F Fb (fun vs H Q E h=>?_) (fun cdv A outer s H vs Q E hr h=>?_)
 ·obtain⟨S,x,d,s,o,p,n,aB,a,rfl,_⟩:=h
  rfl
 obtain⟨S,x,d,s,o,p,n,aB,a,rfl,W,fa,len,k1,k2⟩:=h
 refine⟨_,(ak (bO (cM (pv 0) cW.cl dJ.mt sj (hr.mono (by decide)) dJ.b .nil qP (aa (pv 1) ah)))
   (ao (aM (bu bw (gz (pv 0) rfl) (pv 1) (fun _ _=>rfl))))),?_⟩
 refine⟨_,rfl,x,d,_,rfl,W.hx,rfl,_,rfl,S,x,d,s,o,p,n,aB,a,rfl,W,fa,len,fun iw=>?_,k2⟩
 obtain⟨j,q,ej,eq⟩:=iw.get
 refine⟨_,rfl,x,C,d,_,.ref s,rfl,W.hx,cW.cl,n1,rfl,_,rfl,s,_,_,_,rfl,rfl,bG.of W.hs,(?_:_=some (vQ q.2)),k1 j q ej eq⟩
 rw[ej]
 exact cU (by unfold LR;rw[qG,eq];rfl)
def Mi(n:Nat)(p:Int × Int):Bool:=decide (0≤p.1)&&decide (p.1<p.2)&&decide (p.2≤(n:Int))
def pA(n:Nat)(row:Row):Bool:=row.all (Mi n)
inductive C2(C:Addr)(vs:List V)(H:Hp)(Q:VK)(E:XK):Prop
 | mk (S:Addr→Prop) (x d s o p r:Addr) (n:Nat) (aB:jW) (row:Row) (_:vs=[.ref x,.ref r]) (_:We C S H x d s o p n aB) (_:bP H r row) (_:row.length≤1000) (_: ∀ H',aH H H'→Q (.bl (pA aB.length row)) H'):C2 C vs H Q E
theorem C3:aG ["self","row"] ["self","row"] (ay kg):=⟨rfl,rfl,rfl,by decide +kernel,rfl,by decide +kernel,by decide +kernel⟩
theorem AB{f C fs fi:Addr}{fd gs:FuncData}(F:gX K "holds" "Well.holds" kg f fd)(T:n9 mg)(cW:ClsAt K mg "Well" C fi)(n1:aU K C "signs")(bf:aN K C "size" "Well.size" iE gZ fs gs):aF P w K mg base bN 2 f fd NV (C2 C):=by
 have iH:aF P w K mg base bN 1 fs gs gZ (rS C):=mY bf.F T cW.cl n1
 refine F.ok C3 (fun vs H Q E h=>?_) (fun cdv A outer s H vs Q E hr h=>?_)
 ·obtain⟨S,x,d,s,o,p,r,n,aB,row,rfl,_⟩:=h
  rfl
 obtain⟨S,x,d,s,o,p,r,n,aB,row,rfl,W,R,len,k⟩:=h
 refine⟨_,(ao (aM (aO (Jq rfl) rfl T.Sv PyProof.Rows.boot_all (aa (lW (N:=["start","stop","self"]) (qQ (sc:=ay kg) (NX:=["self","row"]) (jx:=[none,none,some 0]) rfl rfl rfl (by decide +kernel) (by decide +kernel) rfl (by decide +kernel) rfl (by decide +kernel)) rfl (cH (pv 1)) (fun _ _ _ _ _ _=>(HH (n:=2) rfl (bS (aV (i:=0) (show List.Nodup (["start","stop","self"]:List Str) by decide +kernel) rfl (Or.inl rfl)) (bS (aV (i:=1) (show List.Nodup (["start","stop","self"]:List Str) by decide +kernel) rfl (Or.inl rfl)) ku)))) (fun _ _ _ _ _ _=>iG) (fun _ _ _ _ _ _=>(Jr nu yx nu az (pv 0) (pv 1) (b8 (pv 2) cW.cl bf.mt iH (hr.mono (by decide)) bf.b .nil cK)))) ah)))),?_⟩
 obtain⟨as,hr1,pa⟩:=id R
 have la:=pa.len
 refine⟨_,rfl,r,rfl,⟨_,bG.of hr1⟩,fun acc hacc=>jo (K:=K) (a:=r) (xs:=as.map V.ref) (fun i σ H1=>∃ u w:Option V,σ=[u,w,some (.ref x)]∧H1 acc=some (.lst (((row.take i).map (Mi aB.length)).map V.bl))∧aH H H1) ⟨none,none,rfl,af,aj hacc _⟩ (fun i σ H1 _ ⟨_,_,_,_,s⟩=>bG.of (s _ _ hr1)) ?_ ?_⟩
 ·rintro i y σ H1 hi ⟨u,w,rfl,ha,s1⟩
  rw[qG]at hi
  obtain⟨t,et,rfl⟩:=Option.map_eq_some_iff.mp hi
  obtain⟨q,eq,ht⟩:=tP pa et
  have W1:=W.same s1
  refine⟨t,_,rfl,jK.of (s1 _ _ ht),rfl,_,_,rfl,_,_,rfl,rfl,?_⟩
  have fin:∀ v:Bool,Mi aB.length q=v→∃ ys,H1 acc=some (.lst ys)∧ys.length<sizeLine∧∃ u w:Option V,[some (V.int q.1),some (V.int q.2),some (.ref x)]=[u,w,some (.ref x)]∧(upd H1 acc (.lst (ys++[.bl v]))) acc=some (.lst (((row.take (i+1)).map (Mi aB.length)).map V.bl))∧aH H (upd H1 acc (.lst (ys++[.bl v]))):=fun v hv=>by
   refine⟨_,ha,?_,_,_,rfl,?_,?_⟩
   ·rw[bY,bY,ko]
    exact aL (by omega)
   ·rw[af,take_snoc eq,lK,lK,← hv]
    rfl
   ·intro b ob e
    rw[aC (au e hacc)]
    exact s1 _ _ e
  refine⟨_,rfl,_,_,rfl,rfl,_,rfl,ff (fun c1=>?_) (fun c1=>fin false ?_)⟩
  ·refine⟨_,rfl,_,_,rfl,rfl,_,rfl,ff (fun c2=>?_) (fun c2=>fin false ?_)⟩
   ·refine⟨_,rfl,x,d,_,rfl,W1.hx,rfl,x,d,s,o,p,aB,rfl,W1.hx,W1.hs,_,_,rfl,rfl,fin _ ?_⟩
    unfold Mi
    rw[c1,c2]
    rfl
   ·unfold Mi
    rw[c1,Bool.eq_false_iff.mpr c2]
    rfl
  ·unfold Mi
   rw[Bool.eq_false_iff.mpr c1]
   rfl
 ·rintro σ H1 ⟨u,w,rfl,ha,s1⟩
  rw[bY,la,kr]at ha
  refine⟨acc,_,rfl,bG.of ha,?_⟩
  have e:(row.map (Mi aB.length)).all id=pA aB.length row:=by
   unfold pA
   rw[List.all_map]
   rfl
  rw[e]
  exact k H1 s1
structure UM(mg:Str→Option Value):Prop where
 s:∃ t,mg "MOST_SHEETS"=some (.int 40 t)
 w:∃ t,mg "MOST_WEIGHT"=some (.int 200 t)
 h:∃ t,mg "HIDDEN"=some (.str (Str.ofString "#") t)
theorem HL.irr{rows:eY}(h:HL rows){s:Int}:¬ Reach (Bs rows) s s:=by
 obtain⟨rk,_,hr⟩:=h
 have key:∀ g,Reach (Bs rows) s g→rk g<rk s:=by
  intro g r
  induction r with
  | one e=>exact hr _ _ e
  | step _ e ih=>exact Nat.lt_trans (hr _ _ e) ih
 exact fun z=>Nat.lt_irrefl _ (key s z)
theorem HL.walk{rows:eY}(h:HL rows){s:Int}{way:List Int}(w:Walk (Bs rows) s way)(l:2≤way.length)(e:way.getLast?=some s):False:=by
 rw[List.getLast?_eq_getElem?]at e
 exact h.irr (w.reach (way.length-2) s (by rw[show way.length-2+1=way.length-1 by omega];exact e))
structure wZ(rows:eY)(f:Int→Int):Prop where
 len:rows.length≤100
 es:∀ es∈rows,es.length≤1000
 sd:Sound rows
 rk:HL rows
 wt:Weighs rows f
 most:∀ x:Int,0≤x→x<rows.length→f x≤200
inductive zK(vs:List V)(H:Hp)(Q:VK)(E:XK):Prop
 | mk (r:Addr) (rows:eY) (s:Int) (f:Int→Int) (_:vs=[.ref r,.int s]) (_:iN H r (rows.map itemsOf)) (_:wZ rows f) (_:0≤s) (_:s<rows.length) (_: ∀ H',aH H H'→Q .jE H'):zK vs H Q E
theorem lJ:aG ["rows","sheet","way","weights","number"] ["rows","sheet"] (ay kD):=⟨rfl,rfl,rfl,by decide +kernel,rfl,by decide +kernel,by decide +kernel⟩
theorem zL{g fI fB fW fV fY fR:Addr}{fd BB Nq FJ SH fdY fdR:FuncData}(F:gX K "check_weave" "check_weave" kD g fd)(T:n9 mg)(G:UM mg)(b9:aA K mg "windows" eK oh fI BB)(j4:aA K mg "below" kZ mj fB Nq)(jB:aA K mg "item_weight" iC Iv fW FJ)(kG:aA K mg "weights_below" eL mj fV SH)(jA:aA K mg "way_between" iB Iu fY fdY)(Ih:aA K mg "ring" AV vm fR fdR):aF P w K mg base bN 4 g fd vm zK:=by
 have zM:aF P w K mg base bN 3 fV SH mj tR:=vS kG.F T b9 j4 jB
 have Tj:aF P w K mg base bN 3 fR fdR vm GA:=Np Ih.F T b9 jA
 refine F.ok lJ (fun vs H Q E h=>?_) (fun cdv A outer s0 H vs Q E hr h=>?_)
 ·obtain⟨r,rows,s,f,rfl,_⟩:=h
  rfl
 obtain⟨r,rows,s,f,rfl,hR,B,h0,h1,k⟩:=h
 have hu:=mH hr
 obtain⟨C4,C5⟩:=G.w
 have bl:=B.len
 refine⟨_,(ak (aQ (i:=2) lJ.nd rfl (Or.inl rfl) (aP Ih Tj hr (aa (pv 0) (aa (pv 1) ah))))
   (ak (cy (yq (G6 (pv 2)))
   (ao yr)
   bC)
   (ak (aQ (i:=3) lJ.nd rfl (Or.inl rfl) (aP kG zM hr (aa (pv 0) (aa (iQ (sQ rfl) rfl T.nM yl (aa (iQ Ck rfl T.lH PyProof.Rows.boot_range (aa (aO bq rfl T.ic lN (aa (pv 0) ah)) ah)) ah)) ah))))
   (ao (iV PassesOwn.never rfl (kW rfl T.lH (aa (aO bq rfl T.ic lN (aa (pv 0) ah)) ah)) (aV (i:=4) lJ.nd rfl (Or.inl rfl))
   (ao (cy (cI Hg (iY hu (pv 3) (pv 4) (fun _ _=>rfl)) (BW (v:=.int 200) rfl C5 ⟨C4,rfl⟩) (cj _))
   (ao yr)
   bC))))))),?_⟩
 refine⟨_,rfl,_,rfl,r,s,rfl,r,rows,s,s,rfl,hR,by omega,B.es,B.sd,h0,h1,fun way o H' _ _ wk l2 _ eg=>(B.rk.walk wk l2 eg).elim,fun _ H1 s1=>?_⟩
 refine⟨_,rfl,false,rfl,i7 ?_⟩
 have hR1:=hR.same s1
 obtain⟨vs,hr1,al⟩:=id hR1
 have lv:vs.length=rows.length:=by rw[al.len,bY]
 refine⟨_,rfl,_,rfl,r,_,rfl,.inl (bG.of hr1),_,rfl,fun p1 hp1=>⟨p1,_,_,rfl,af,⟨by omega,by omega,by omega,by omega⟩,jb (aL (by omega)),fun L hL=>?_⟩⟩
 rw[yM,lv,show ((rows.length:Int)-0).toNat=rows.length by omega]
 rw[lv]at hL
 have s2:=s1.trans ((aj hp1 (.Dz 0 ((rows.length:Nat):Int))).trans (aj hL (.lst ((run 0 rows.length).map V.int))))
 have Uk:(upd (upd H1 p1 (.Dz 0 ((rows.length:Nat):Int))) L (.lst ((run 0 rows.length).map V.int))) L=some (.lst ((run 0 rows.length).map V.int)):=af
 generalize upd (upd H1 p1 (.Dz 0 ((rows.length:Nat):Int))) L (.lst ((run 0 rows.length).map V.int))=H2 at s2 Uk
 refine⟨r,L,rows,run 0 rows.length,f,rfl,hR.same s2,Uk,by rw[HM];omega,by omega,B.es,B.sd,B.rk,(fun x hx=>by have:=Li hx;omega),B.wt,fun S kvs H3 hS hv s3 _=>?_⟩
 have LQ:=s2.trans s3
 obtain⟨vs3,Jt,al3⟩:=hR.same LQ
 have lv3:vs3.length=rows.length:=by rw[al3.len,bY]
 refine⟨_,rfl,r,_,rfl,.inl (bG.of Jt),_,rfl,by omega,by omega,?_⟩
 refine m7 (lo:=0) (n:=((vs3.length:Nat):Int).toNat) (fun i σ H4=>∃ u:Option V,σ=[some (.ref r),some (.int s),some .jE,some (.ref S),u]∧aH H H4∧H4 S=some (.dK kvs)) ⟨none,rfl,LQ,hS⟩ ?_ ?_
 ·rintro i σ H4 hi ⟨u,rfl,s4,Sy⟩
  have il:i<rows.length:=by omega
  have z:=oz.k (k:=Sum.inl (0+(i:Int))) Sy
  rw[hv (0+(i:Int)) (by rw[show (0:Int)+(i:Int)=0+i from rfl];exact rW (run_get 0 rows.length i il))]at z
  refine⟨_,rfl,_,rfl,S,_,rfl,z,_,_,rfl,rfl,_,rfl,?_⟩
  rw[decide_eq_false (show ¬ f (0+(i:Int)) > 200 from fun y=>by have:=B.most (0+(i:Int)) (by omega) (by omega);omega)]
  exact i7 ⟨_,rfl,s4,Sy⟩
 ·rintro σ H4 ⟨u,rfl,s4,_⟩
  exact k H4 s4
structure iZ(C CS:Addr)(S:Addr→Prop)(H:Hp)(x d wl sh bl kn du bk dS st op:Addr)(past:mD)(ops:List Int)(lines:mh):Prop where
 hx:H x=some (.ins C d [("well",.ref wl),("shelf",.ref sh),("blots",.ref bl),("knots",.ref kn),("dues",.ref du),("book",.ref bk)])
 W:Sh CS S H sh dS st op past ops
 hb:H bk=some (eS lines)
 nx:¬ S x
 nb:¬ S bk
structure zN(K:PySem.W.Frag)(mg:Str→Option Value)(C CS XS XM XT:Addr):Prop where
 M:Te K mg CS XS XM
 c:∃ fi,ClsAt K mg "Library" C fi
 nw:aU K C "well"
 ns:aU K C "shelf"
 DB:aU K C "blots"
 nk:aU K C "knots"
 nd:aU K C "dues"
 DC:aU K C "book"
 zt:yZ K mg "TooMany" XT
 G:UM mg
def Fr(S S':Addr→Prop)(bk:Addr)(H H':Hp):Prop:=(∀ a,S' a→S a∨H a=none)∧(∀ a ob,H a=some ob→¬ S a→a≠bk→H' a=some ob)∧∀ a xs,H a=some (.tup xs)→H' a=some (.tup xs)
theorem Fr.same{S S':Addr→Prop}{bk:Addr}{H0 H H':Hp}(s:aH H0 H)(f:Fr S S' bk H H'):Fr S S' bk H0 H' :=
 ⟨fun a z=>(f.1 a z).imp id fun y=>aW s y,fun a ob e n1 n2=>f.2.1 a ob (s _ _ e) n1 n2,fun a xs e=>f.2.2 a xs (s _ _ e)⟩
theorem iZ.same{C CS:Addr}{S:Addr→Prop}{H H':Hp}{x d wl sh bl kn du bk dS st op:Addr}{past:mD}{ops:List Int}{lines:mh}(L:iZ C CS S H x d wl sh bl kn du bk dS st op past ops lines)(s:aH H H'):iZ C CS S H' x d wl sh bl kn du bk dS st op past ops lines :=
 ⟨s _ _ L.hx,L.W.same s,s _ _ L.hb,L.nx,L.nb⟩
theorem iZ.neb{C CS:Addr}{S:Addr→Prop}{H:Hp}{x d wl sh bl kn du bk dS st op:Addr}{past:mD}{ops:List Int}{lines:mh}(L:iZ C CS S H x d wl sh bl kn du bk dS st op past ops lines):x≠bk:=fun e=>by
 have z:=L.hx
 rw[e,L.hb]at z
 cases z
inductive yf(C CS:Addr)(vs:List V)(H:Hp)(Q:VK)(E:XK):Prop
 | mk (S:Addr→Prop) (x d wl sh bl kn du bk dS st op:Addr) (past:mD) (ops:List Int) (lines:mh) (_:vs=[.ref x]) (_:iZ C CS S H x d wl sh bl kn du bk dS st op past ops lines) (_:Q (.int (ops.length:Nat)) H):yf C CS vs H Q E
inductive GU(C CS:Addr)(vs:List V)(H:Hp)(Q:VK)(E:XK):Prop
 | mk (S:Addr→Prop) (x d wl sh bl kn du bk dS st op:Addr) (past:mD) (ops:List Int) (lines:mh) (_:vs=[.ref x]) (_:iZ C CS S H x d wl sh bl kn du bk dS st op past ops lines) (_:Q (.int ((past.length:Nat)-1)) H):GU C CS vs H Q E
inductive yg(C CS:Addr)(vs:List V)(H:Hp)(Q:VK)(E:XK):Prop
 | mk (S:Addr→Prop) (x d wl sh bl kn du bk dS st op:Addr) (past:mD) (ops:List Int) (lines:mh) (dd c:Addr) (e:mV) (cs:List Addr) (pT:List (Nat × List Item)) (last:List (List Item)) (_:vs=[.ref x,.ref dd,.ref c]) (_:iZ C CS S H x d wl sh bl kn du bk dS st op past ops lines) (_:e.At H dd) (_:e.Ok) (_:H c=some (.lst (cs.map V.ref))) (_:c≠bk) (_:bR (GR H) cs pT) (_:(∀ a∈cs,∀ (s:Int) (r:Addr),H a=some (.tup [.int s,.ref r])→r≠bk)) (_:past.getLast?=some last) (_:Qh last pT) (_:pT.length≤200) (_:last.length≤500) (_:past.length≤1000) (_:lines.length≤1000) (_ :
 ∀ (S':Addr→Prop) (H':Hp),iZ C CS S' H' x d wl sh bl kn du bk dS st op (past++[qe last pT]) (ops++List.replicate ((qe last pT).length-last.length) ((past.length:Nat):Int)) (lines++[e.line])→Fr S S' bk H H'→Q .jE H'):yg C CS vs H Q E
theorem xH:aG ["self","deed","changes"] ["self","deed","changes"] (ay cB):=⟨rfl,rfl,rfl,by decide +kernel,rfl,by decide +kernel,by decide +kernel⟩
theorem zO:aG ["self"] ["self"] (ay iT):=⟨rfl,rfl,rfl,by decide +kernel,rfl,by decide +kernel,by decide +kernel⟩
theorem AD:aG ["self"] ["self"] (ay kE):=⟨rfl,rfl,rfl,by decide +kernel,rfl,by decide +kernel,by decide +kernel⟩
theorem qw{f C CS XS XM XT fM:Addr}{fd gM:FuncData}(F:gX K "many" "Library.many" iT f fd)(L:zN K mg C CS XS XM XT)(dz:aN K CS "many" "Shelf.many" jd gZ fM gM):aF P w K mg base bN 2 f fd gZ (yf C CS):=by
 obtain⟨M,⟨fi,aJ⟩,nw,ns,DB,nk,nd,DC,cP,G⟩:=L
 obtain⟨T,⟨fj,bJ⟩,n1,n2,eT,dc⟩:=M
 have oJ:aF P w K mg base bN 1 _ _ gZ (CO CS):=sX dz.F T bJ.cl n1
 refine F.ok zO (fun vs H Q E h=>?_) (fun cdv A outer s H vs Q E hr h=>?_)
 ·obtain⟨S,x,d,wl,sh,bl,kn,du,bk,dS,st,op,past,ops,lines,rfl,_⟩:=h
  rfl
 obtain⟨S,x,d,wl,sh,bl,kn,du,bk,dS,st,op,past,ops,lines,rfl,L,k⟩:=h
 refine⟨_,(ao (aM (b8 (gz (pv 0) rfl) bJ.cl dz.mt oJ (hr.mono (by decide)) dz.b .nil cK))),?_⟩
 exact⟨_,rfl,x,C,d,_,.ref sh,rfl,L.hx,aJ.cl,ns,rfl,sh,dS,_,rfl,L.W.hx,rfl,S,sh,dS,st,op,past,ops,rfl,L.W,k⟩
theorem zP{f C CS XS XM XT fM:Addr}{fd gM:FuncData}(F:gX K "now" "Library.now" kE f fd)(L:zN K mg C CS XS XM XT)(bz:aN K CS "now" "Shelf.now" eN gZ fM gM):aF P w K mg base bN 2 f fd gZ (GU C CS):=by
 obtain⟨M,⟨fi,aJ⟩,nw,ns,DB,nk,nd,DC,cP,G⟩:=L
 obtain⟨T,⟨fj,bJ⟩,n1,n2,eT,dc⟩:=M
 have jr:aF P w K mg base bN 1 _ _ gZ (BL CS):=mX bz.F T bJ.cl n1
 refine F.ok AD (fun vs H Q E h=>?_) (fun cdv A outer s H vs Q E hr h=>?_)
 ·obtain⟨S,x,d,wl,sh,bl,kn,du,bk,dS,st,op,past,ops,lines,rfl,_⟩:=h
  rfl
 obtain⟨S,x,d,wl,sh,bl,kn,du,bk,dS,st,op,past,ops,lines,rfl,L,k⟩:=h
 obtain⟨as,hs,al⟩:=L.W.hs
 refine⟨_,(ao (aM (b8 (gz (pv 0) rfl) bJ.cl bz.mt jr (hr.mono (by decide)) bz.b .nil cK))),?_⟩
 refine⟨_,rfl,x,C,d,_,.ref sh,rfl,L.hx,aJ.cl,ns,rfl,sh,dS,_,rfl,L.W.hx,rfl,sh,dS,st,op,_,rfl,L.W.hx,hs,?_⟩
 rw[bY,al.len]
 exact k
theorem pR{f C CS XS XM XT fI fD fN fC fT:Addr}{fd gI gD gN gC gT:FuncData}(F:gX K "enter" "Library.enter" cB f fd)(L:zN K mg C CS XS XM XT)(jq:aA K mg "ink_words" jc iu fI gI)(oK:aA K mg "shown_deed" j8 ["deed"] fD gD)(iP:aA K mg "changed" nC FP fC gC)(bz:aN K CS "now" "Shelf.now" eN gZ fN gN)(lY:aN K CS "step" "Shelf.step" j9 Q8 fT gT):aF P w K mg base bN 3 f fd Me (yg C CS):=by
 obtain⟨M,⟨fi,aJ⟩,nw,ns,DB,nk,nd,DC,cP,G⟩:=L
 obtain⟨T,⟨fj,bJ⟩,n1,n2,eT,dc⟩:=M
 have Fc:aF P w K mg base bN 2 _ _ ["deed"] zy:=Az oK.F T jq
 have Fd:aF P w K mg base bN 2 _ _ Q8 (zD CS):=AA lY.F T bJ n1 n2 iP bz
 refine F.ok xH (fun vs H Q E h=>?_) (fun cdv A outer s H vs Q E hr h=>?_)
 ·obtain⟨S,x,d,wl,sh,bl,kn,du,bk,dS,st,op,past,ops,lines,dd,c,e,cs,pT,last,rfl,_⟩:=h
  rfl
 obtain⟨S,x,d,wl,sh,bl,kn,du,bk,dS,st,op,past,ops,lines,dd,c,e,cs,pT,last,rfl,L,de,ok,hc,ncb,al,nr,hl,oc,l1,l2,l3,l4,k⟩:=h
 refine⟨_,(ak (bO (jF qz uu uv cF (gz (pv 0) rfl) (aa (aP oK Fc hr (aa (pv 1) ah)) ah)))
   (ao (bO (cM (gz (pv 0) rfl) bJ.cl lY.mt Fd (hr.mono (by decide)) lY.b .nil cK (aa (pv 2) ah))))),?_⟩
 refine⟨_,rfl,x,C,d,_,.ref bk,rfl,L.hx,aJ.cl,DC,rfl,.inl ⟨rfl,_,bG.of L.hb⟩,_,rfl,dd,e,rfl,de,ok,GO ok,fun H1 s1=>?_⟩
 refine⟨bk,_,_,rfl,rfl,s1 _ _ L.hb,aL (by rw[bY];omega),?_⟩
 have e2:(lines.map fun w=>V.str (txt w))++[V.str (txt e.line)]=(lines++[e.line]).map fun w=>V.str (txt w):=by rw[lK];rfl
 rw[e2]
 have k2:cA bk H (upd H1 bk (eS (lines++[e.line]))):=fun a o q n=>by
  rw[aC n]
  exact s1 _ _ q
 have hb2:(upd H1 bk (eS (lines++[e.line]))) bk=some (eS (lines++[e.line])):=af
 have fr2:∀ a,(upd H1 bk (eS (lines++[e.line]))) a=none→H a=none:=fun a q=>by
  by_cases z:a=bk
  ·rw[z,af]at q;cases q
  ·rw[aC z]at q;exact aW s1 q
 generalize upd H1 bk (eS (lines++[e.line]))=H2 at k2 hb2 fr2
 have t2:∀ a xs,H a=some (.tup xs)→H2 a=some (.tup xs):=fun a xs q=>k2 _ _ q (cE q L.hb (by intro z;cases z))
 have W2:Sh CS S H2 sh dS st op past ops:=L.W.keep L.hb L.nb k2
 have x2:=k2 _ _ L.hx L.neb
 refine⟨_,rfl,x,C,d,_,.ref sh,rfl,x2,aJ.cl,ns,rfl,sh,dS,_,rfl,W2.hx,rfl,_,rfl,S,sh,dS,st,op,c,past,ops,cs,pT,last,rfl,W2,k2 _ _ hc ncb,?_,hl,oc,l1,l2,l3,fun S' H3 W3 sub fr tp=>?_⟩
 ·have key:∀ {as:List Addr} {ds:List (Nat × List Item)},bR (GR H) as ds→(∀ a∈as,a∈cs)→bR (GR H2) as ds:=by
   intro as ds q
   induction q with
   | nil=>intro _;exact .nil
   | cons o t ih =>
    intro sub
    refine .cons ?_ (ih fun a ha=>sub a (rV _ ha))
    obtain⟨r,ha,it⟩:=o
    have Tn:=nr _ (sub _ qH) _ r ha
    exact⟨r,t2 _ _ ha,it.fr (fun xs q=>k2 _ _ q Tn) t2⟩
  exact key al fun _ z=>z
 ·refine k S' H3 ⟨fr _ _ x2 L.nx,W3,fr _ _ hb2 L.nb,fun z=>?_,fun z=>?_⟩ ⟨fun a z=>(sub a z).imp id fun q=>fr2 a q,fun a ob q n n'=>fr _ _ (k2 _ _ q n') n,fun a xs q=>tp _ _ (t2 _ _ q)⟩
  ·rcases sub _ z with q|q
   ·exact L.nx q
   ·rw[x2]at q;cases q
  ·rcases sub _ z with q|q
   ·exact L.nb q
   ·rw[hb2]at q;cases q
abbrev uq(pe:mK):mD:=pe.map fun rows=>rows.map itemsOf
def mZ(rows:eY)(s:Nat)(es:List Int):eY:=rows.take s++[es]++rows.drop (s+1)
theorem NH(rows:eY)(s:Nat)(es:List Int):qe (rows.map itemsOf) [(s,itemsOf es)]=(mZ rows s es).map itemsOf:=by
 show (rows.map itemsOf).take s++[itemsOf es]++(rows.map itemsOf).drop (s+1)=_
 unfold mZ
 rw[lK,lK,List.map_take,List.map_drop]
 rfl
theorem zQ{rows:eY}{s:Nat}{es:List Int}(h:s≤rows.length):(mZ rows s es).length=if s=rows.length then rows.length+1 else rows.length:=by
 unfold mZ
 rw[eZ,eZ,ko,List.length_drop]
 show min s rows.length+1+_=_
 split <;> omega
def LV(ops:List Int)(n s m:Nat):List Int:=ops++if s=n then [(m:Int)] else []
theorem Qk{rows:eY}{s:Nat}{es:List Int}{ops:List Int}{m:Nat}(h:s≤rows.length):ops++List.replicate (((mZ rows s es).map itemsOf).length-(rows.map itemsOf).length) (m:Int)=LV ops rows.length s m:=by
 rw[bY,bY,zQ h]
 unfold LV
 by_cases c:s=rows.length
 ·rw[if_pos c,if_pos c,show rows.length+1-rows.length=1 by omega]
  rfl
 ·rw[if_neg c,if_neg c,Nat.sub_self]
  rfl
inductive uZ(C CS:Addr)(vs:List V)(H:Hp)(Q:VK)(E:XK):Prop
 | mk (S:Addr→Prop) (x d wl sh bl kn du bk dS st op:Addr) (pe:mK) (ops:List Int) (lines:mh) (dd r:Addr) (e:mV) (s:Nat) (es:List Int) (rows:eY) (f:Int→Int) (_:vs=[.ref x,.ref dd,.int (s:Nat),.ref r]) (_:iZ C CS S H x d wl sh bl kn du bk dS st op (uq pe) ops lines) (_:e.At H dd) (_:e.Ok) (_:bM H (.ref r) (itemsOf es)) (_:r≠bk) (_:pe.getLast?=some rows) (_:s≤rows.length) (_:rows.length≤50) (_:pe.length≤900) (_:lines.length≤900) (_:wZ (mZ rows s es) f) (_ :
 ∀ (S':Addr→Prop) (H':Hp),iZ C CS S' H' x d wl sh bl kn du bk dS st op (uq (pe++[mZ rows s es])) (LV ops rows.length s pe.length) (lines++[e.line])→Fr S S' bk H H'→Q .jE H'):uZ C CS vs H Q E
theorem wm:aG ["self","deed","sheet","items"] ["self","deed","sheet","items"] (ay fQ):=⟨rfl,rfl,rfl,by decide +kernel,rfl,by decide +kernel,by decide +kernel⟩
structure JN(K:PySem.W.Frag)(mg:Str→Option Value)(CS:Addr):Prop where
 many:∃ f g,aN K CS "many" "Shelf.many" jd gZ f g
 now:∃ f g,aN K CS "now" "Shelf.now" eN gZ f g
 cs:∃ f g,aN K CS "check_sheet" "Shelf.check_sheet" eO Am f g
 cm:∃ f g,aN K CS "check_moment" "Shelf.check_moment" ck J3 f g
 rst:∃ f g,aN K CS "rows_then" "Shelf.rows_then" cX J3 f g
 rs:∃ f g,aN K CS "rows" "Shelf.rows" lR gZ f g
 stp:∃ f g,aN K CS "step" "Shelf.step" j9 Q8 f g
structure NI(K:PySem.W.Frag)(mg:Str→Option Value):Prop where
 win:∃ f g,aA K mg "windows" eK oh f g
 bel:∃ f g,aA K mg "below" kZ mj f g
 iw:∃ f g,aA K mg "item_weight" iC Iv f g
 wb:∃ f g,aA K mg "weights_below" eL mj f g
 wy:∃ f g,aA K mg "way_between" iB Iu f g
 rg:∃ f g,aA K mg "ring" AV vm f g
 cw:∃ f g,aA K mg "check_weave" kD vm f g
 ch:∃ f g,aA K mg "changed" nC FP f g
 ik:∃ f g,aA K mg "ink_words" jc iu f g
 sd:∃ f g,aA K mg "shown_deed" j8 ["deed"] f g
theorem lZ{pe:mK}{rows:eY}(h:pe.getLast?=some rows):(uq pe).getLast?=some (rows.map itemsOf):=by
 rw[List.getLast?_map,h]
 rfl
theorem LW{H H':Hp}{rs:List Addr}{rows:List (List Item)}{r:Addr}{its:List Item}{s:Nat}(al:bR (fun q i=>bM H' (.ref q) i) rs rows)(it:bM H' (.ref r) its):bR (bM H') ((rs.map V.ref).take s++[.ref r]++(rs.map V.ref).drop (s+1)) (rows.take s++[its]++rows.drop (s+1)):=by
 have key:bR (bM H') (rs.map V.ref) rows:=by
  induction al with
  | nil=>exact .nil
  | cons o t ih=>exact .cons o ih
 exact ((key.take s).app (.cons it .nil)).app (key.drop (s+1))
theorem oM{f C CS XS XM XT fE:Addr}{fd gE:FuncData}(F:gX K "change" "Library.change" fQ f fd)(L:zN K mg C CS XS XM XT)(A1:JN K mg CS)(A2:NI K mg)(aY:aN K C "enter" "Library.enter" cB Me fE gE):aF P w K mg base bN 5 f fd QD (uZ C CS):=by
 obtain⟨⟨_,_,d1⟩,⟨_,_,d2⟩,⟨_,_,d3⟩,⟨_,_,d4⟩,⟨_,_,d7⟩,⟨_,_,cG⟩,⟨_,_,d9⟩⟩:=A1
 obtain⟨⟨_,_,w1⟩,⟨_,_,w2⟩,⟨_,_,w3⟩,⟨_,_,w4⟩,⟨_,_,w5⟩,⟨_,_,w6⟩,⟨_,_,m5⟩,⟨_,_,iP⟩,⟨_,_,w9⟩,⟨_,_,w10⟩⟩:=A2
 have nV:aF P w K mg base bN 3 _ _ Me (yg C CS):=pR aY.F L w9 w10 iP d2 d9
 obtain⟨M,⟨fi,aJ⟩,nw,ns,DB,nk,nd,DC,cP,G⟩:=L
 have l5:aF P w K mg base bN 4 _ _ gZ (zH CS):=o7 cG.F M d2 d4 d7
 obtain⟨T,⟨fj,bJ⟩,n1,n2,eT,dc⟩:=M
 have zE:aF P w K mg base bN 1 _ _ FP rR:=zB iP.F T
 have C6:aF P w K mg base bN 4 _ _ vm zK:=zL m5.F T G w1 w2 w3 w4 w5 w6
 refine F.ok wm (fun vs H Q E h=>?_) (fun cdv A outer s H vs Q E hr h=>?_)
 ·obtain⟨S,x,d,wl,sh,bl,kn,du,bk,dS,st,op,pe,ops,lines,dd,r,e,s,es,rows,f,rfl,_⟩:=h
  rfl
 obtain⟨S,x,d,wl,sh,bl,kn,du,bk,dS,st,op,pe,ops,lines,dd,r,e,s,es,rows,f,rfl,L,de,ok,hi,Tn,hl,sl,l1,l2,l3,B,k⟩:=h
 have hl':=lZ hl
 have lp:(uq pe).length=pe.length:=bY _
 have lo:ops.length=rows.length:=by
  obtain⟨last,z1,z2⟩:=L.W.Mh.BK
  rw[hl']at z1
  cases z1
  rw[z2,bY]
 refine⟨_,(ak (bO (aP m5 C6 hr (aa (aP iP zE hr (aa (b8 (gz (pv 0) rfl) bJ.cl cG.mt l5 (hr.mono (by decide)) cG.b .nil cK) (aa (pv 2) (aa (pv 3) ah)))) (aa (pv 2) ah))))
   (ao (bO (cM (pv 0) aJ.cl aY.mt nV (hr.mono (by decide)) aY.b .nil cK (aa (pv 1) (aa (bI (aa (jH (aa (pv 2) (aa (pv 3) ah))) ah)) ah)))))),?_⟩
 refine⟨_,rfl,x,C,d,_,.ref sh,rfl,L.hx,aJ.cl,ns,rfl,sh,dS,_,rfl,L.W.hx,rfl,S,sh,dS,st,op,uq pe,ops,rfl,L.W,⟨by omega,by omega⟩,fun rws el q H1 fs s1=>?_⟩
 rw[hl']at el
 cases el
 obtain⟨fq,rs,hq,al⟩:=fs
 have lr:rs.length=rows.length:=by rw[al.len,bY]
 have hi1:=hi.same s1
 have L1:=L.same s1
 refine⟨_,rfl,_,rfl,q,r,_,s,rfl,hq,by rw[bY,lr];exact sl,by rw[bY,lr];omega,fun p2 H2 hp2 s2 f2=>?_⟩
 refine⟨_,rfl,p2,mZ rows s es,(s:Int),f,rfl,⟨_,hp2,?_⟩,B,by omega,by rw[zQ sl];split <;> omega,fun H3 s3=>?_⟩
 ·have z:=LW (H:=H) (H':=H2) (s:=s) (al.mono fun q' i' w'=>(w'.2.2).same s2) (hi1.same s2)
  have e':(rows.map itemsOf).take s++[itemsOf es]++(rows.map itemsOf).drop (s+1)=(mZ rows s es).map itemsOf:=by
   unfold mZ
   rw[lK,lK,List.map_take,List.map_drop]
   rfl
  rw[e']at z
  exact z
 have JX:=s1.trans (s2.trans s3)
 have L3:=L.same JX
 refine⟨_,rfl,x,d,_,rfl,L3.hx,rfl,_,rfl,_,rfl,_,rfl,(by show 2≤sizeLine;decide),fun t ht=>⟨(by show 1≤sizeLine;decide),fun c hc=>?_⟩⟩
 have s4:aH H3 (upd (upd H3 t (.tup [.int (s:Nat),.ref r])) c (.lst [.ref t])):=(aj ht _).trans (aj hc _)
 have To:(upd (upd H3 t (.tup [.int (s:Nat),.ref r])) c (.lst [.ref t])) t=some (.tup [.int (s:Nat),.ref r]):=aj hc _ _ _ af
 have hc4:(upd (upd H3 t (.tup [.int (s:Nat),.ref r])) c (.lst [.ref t])) c=some (.lst ([t].map V.ref)):=af
 have nc:c≠bk:=fun z=>by
  have:=aj ht (.tup [.int (s:Nat),.ref r]) _ _ L3.hb
  rw[← z,hc]at this
  cases this
 generalize upd (upd H3 t (.tup [.int (s:Nat),.ref r])) c (.lst [.ref t])=H4 at s4 To hc4
 have Ql:=JX.trans s4
 refine⟨S,x,d,wl,sh,bl,kn,du,bk,dS,st,op,uq pe,ops,lines,dd,c,e,[t],[(s,itemsOf es)],rows.map itemsOf,rfl,L.same Ql,de.same Ql,ok,hc4,nc,.cons ⟨r,To,hi.same Ql⟩ .nil,?_,hl',?_,(by show 1≤200;decide),by rw[bY];omega,by omega,by omega,fun S' H' L' fr=>?_⟩
 ·intro a ha s' r' e'
  rw[List.mem_singleton.mp ha,To]at e'
  cases e'
  exact Tn
 ·intro i ch ei
  match i,ei with
  | 0,ei =>
   cases ei
   show s≤(rows.map itemsOf).length
   rw[bY]
   exact sl
  | i+1,ei=>cases ei
 ·rw[NH,Qk sl,lp]at L'
  refine k S' H' ?_ (fr.same Ql)
  have ep:uq (pe++[mZ rows s es])=uq pe++[(mZ rows s es).map itemsOf]:=by
   show (pe++[mZ rows s es]).map _=_
   rw[lK]
   rfl
  rw[ep]
  exact L'
theorem NJ{n:Nat}(h:n≤1000):vI ((n:Nat):Int):=⟨by omega,by omega⟩
inductive C7(C CS XT:Addr)(vs:List V)(H:Hp)(Q:VK)(E:XK):Prop
 | mk (S:Addr→Prop) (x d wl sh bl kn du bk dS st op:Addr) (pe:mK) (ops:List Int) (lines:mh) (dd r:Addr) (e:mV) (es:List Int) (rows:eY) (_:vs=[.ref x,.ref dd,.ref r]) (_:iZ C CS S H x d wl sh bl kn du bk dS st op (uq pe) ops lines) (_:e.At H dd) (_:e.Ok) (_:bM H (.ref r) (itemsOf es)) (_:r≠bk) (_:pe.getLast?=some rows) (_:rows.length≤50) (_:pe.length≤900) (_:lines.length≤900) (_:(40≤rows.length→E (.ref XT) none H)) (_:(rows.length<40→(∃ f,wZ (rows++[es]) f)∧∀ (S':Addr→Prop) (H':Hp),iZ C CS S' H' x d wl sh bl kn du bk dS st op (uq (pe++[rows++[es]])) (ops++[((pe.length:Nat):Int)]) (lines++[e.line])→Fr S S' bk H H'→Q (.int (rows.length:Nat)) H')):C7 C CS XT vs H Q E
theorem qx:aG ["self","deed","items","sheet"] ["self","deed","items"] (ay jh):=⟨rfl,rfl,rfl,by decide +kernel,rfl,by decide +kernel,by decide +kernel⟩
theorem Fe(rows:eY)(es:List Int):mZ rows rows.length es=rows++[es]:=by
 unfold mZ
 rw[kr,List.drop_of_length_le (by omega),om]
structure Tp(K:PySem.W.Frag)(mg:Str→Option Value)(C:Addr):Prop where
 en:∃ f g,aN K C "enter" "Library.enter" cB Me f g
 ch:∃ f g,aN K C "change" "Library.change" fQ QD f g
 many:∃ f g,aN K C "many" "Library.many" iT gZ f g
 bg:∃ f g,aN K C "begin" "Library.begin" jh T3 f g
theorem yh{C CS:Addr}{S:Addr→Prop}{H:Hp}{x d wl sh bl kn du bk dS st op:Addr}{pe:mK}{ops:List Int}{lines:mh}{rows:eY}(L:iZ C CS S H x d wl sh bl kn du bk dS st op (uq pe) ops lines)(hl:pe.getLast?=some rows):ops.length=rows.length:=by
 obtain⟨last,z1,z2⟩:=L.W.Mh.BK
 rw[lZ hl]at z1
 cases z1
 rw[z2,bY]
theorem wz{f C CS XS XM XT:Addr}{fd:FuncData}(F:gX K "begin" "Library.begin" jh f fd)(L:zN K mg C CS XS XM XT)(A1:JN K mg CS)(A2:NI K mg)(A3:Tp K mg C):aF P w K mg base (qC P w) 6 f fd T3 (C7 C CS XT):=by
 obtain⟨⟨_,_,e1⟩,⟨_,_,bX⟩,⟨_,_,cL⟩,_⟩:=A3
 have mE:aF P w K mg base bN 5 _ _ QD (uZ C CS):=oM bX.F L A1 A2 e1
 obtain⟨⟨_,_,d1⟩,_⟩:=A1
 have pB:aF P w K mg base bN 2 _ _ gZ (yf C CS):=qw cL.F L d1
 obtain⟨M,⟨fi,aJ⟩,nw,ns,DB,nk,nd,DC,cP,G⟩:=L
 obtain⟨C8,C9⟩:=G.s
 refine HG F qx (fun vs H Q E h=>?_) (fun cdv A outer s H vs Q E hr h=>?_)
 ·obtain⟨S,x,d,wl,sh,bl,kn,du,bk,dS,st,op,pe,ops,lines,dd,r,e,es,rows,rfl,_⟩:=h
  rfl
 obtain⟨S,x,d,wl,sh,bl,kn,du,bk,dS,st,op,pe,ops,lines,dd,r,e,es,rows,rfl,L,de,ok,hi,Tn,hl,l1,l2,l3,k1,k2⟩:=h
 have lo:=yh L hl
 refine⟨_,(ak (aQ (i:=3) qx.nd rfl (Or.inl rfl) (b8 (pv 0) aJ.cl cL.mt pB (hr.mono (by decide)) cL.b .nil cK))
   (ak (cy (cI N5 (pv 3) (BW (v:=.int 40) rfl C9 ⟨C8,rfl⟩) (cj _))
   (ao (pN PySem.F.excBase_ValueError cP.x cP.m rfl vG (aa (rJ (mz (nI (pv 3) (mz vH)))) ah)))
   bC)
   (ak (bO (cM (pv 0) aJ.cl bX.mt mE (hr.mono (by decide)) bX.b .nil cK (aa (pv 1) (aa (pv 3) (aa (pv 2) ah)))))
   (ao (aM (pv 3)))))),?_⟩
 refine⟨_,rfl,x,d,_,rfl,L.hx,rfl,S,x,d,wl,sh,bl,kn,du,bk,dS,st,op,uq pe,ops,lines,rfl,L,?_⟩
 rw[lo]
 refine⟨_,rfl,_,_,rfl,rfl,_,rfl,ff (fun c=>?_) (fun c=>?_)⟩
 ·have c':=of_decide_eq_true c
  exact⟨_,rfl,_,rfl,(NJ (by omega)).log,fun y=>⟨(by show 1≤sizeLine;decide),k1 (by omega)⟩⟩
 ·have c':¬ ((rows.length:Nat):Int)≥40:=fun z=>c (decide_eq_true z)
  obtain⟨⟨f,B⟩,k3⟩:=k2 (by omega)
  refine⟨_,rfl,x,d,_,rfl,L.hx,rfl,_,rfl,_,rfl,_,rfl,S,x,d,wl,sh,bl,kn,du,bk,dS,st,op,pe,ops,lines,dd,r,e,rows.length,es,rows,f,rfl,L,de,ok,hi,Tn,hl,fH _,l1,l2,l3,by rw[Fe];exact B,fun S' H' L' fr=>?_⟩
  rw[Fe]at L'
  have eo:LV ops rows.length rows.length pe.length=ops++[((pe.length:Nat):Int)]:=by unfold LV;rw[if_pos rfl]
  rw[eo]at L'
  exact⟨_,rfl,k3 S' H' L' fr⟩
abbrev frW:List Nat:=(Str.ofString "fresh").cps.toList
theorem LX:(mV.plain frW []).Ok:=⟨by decide +kernel,fun _ z=>by cases z⟩
inductive Dc(C CS XT:Addr)(vs:List V)(H:Hp)(Q:VK)(E:XK):Prop
 | mk (S:Addr→Prop) (x d wl sh bl kn du bk dS st op:Addr) (pe:mK) (ops:List Int) (lines:mh) (rows:eY) (_:vs=[.ref x]) (_:iZ C CS S H x d wl sh bl kn du bk dS st op (uq pe) ops lines) (_:pe.getLast?=some rows) (_:rows.length≤50) (_:pe.length≤900) (_:lines.length≤900) (_:(40≤rows.length→∀ H',aH H H'→E (.ref XT) none H')) (_:(rows.length<40→(∃ f,wZ (rows++[[]]) f)∧∀ (S':Addr→Prop) (H':Hp),iZ C CS S' H' x d wl sh bl kn du bk dS st op (uq (pe++[rows++[[]]])) (ops++[((pe.length:Nat):Int)]) (lines++[(mV.plain frW []).line])→Fr S S' bk H H'→Q (.int (rows.length:Nat)) H')):Dc C CS XT vs H Q E
theorem xJ:aG ["self"] ["self"] (ay gQ):=⟨rfl,rfl,rfl,by decide +kernel,rfl,by decide +kernel,by decide +kernel⟩
theorem wA{f C CS XS XM XT:Addr}{fd:FuncData}(F:gX K "fresh" "Library.fresh" gQ f fd)(L:zN K mg C CS XS XM XT)(A1:JN K mg CS)(A2:NI K mg)(A3:Tp K mg C):aF P w K mg base (qC P w) 7 f fd gZ (Dc C CS XT):=by
 obtain⟨_,_,jt⟩:=A3.bg
 have zR:aF P w K mg base (qC P w) 6 _ _ T3 (C7 C CS XT):=wz jt.F L A1 A2 A3
 obtain⟨M,⟨fi,aJ⟩,nw,ns,DB,nk,nd,DC,cP,G⟩:=L
 refine HG F xJ (fun vs H Q E h=>?_) (fun cdv A outer s H vs Q E hr h=>?_)
 ·obtain⟨S,x,d,wl,sh,bl,kn,du,bk,dS,st,op,pe,ops,lines,rows,rfl,_⟩:=h
  rfl
 obtain⟨S,x,d,wl,sh,bl,kn,du,bk,dS,st,op,pe,ops,lines,rows,rfl,L,hl,l1,l2,l3,k1,k2⟩:=h
 refine⟨_,(ao (aM (cM (pv 0) aJ.cl jt.mt zR (hr.mono (by decide)) jt.b .nil qP (aa (jH (aa bT ah)) (aa (bI ah) ah))))),?_⟩
 refine⟨_,rfl,x,d,_,rfl,L.hx,rfl,(by show 1≤sizeLine;decide),fun t ht=>⟨(by show 0≤sizeLine;decide),fun r hr0=>?_⟩⟩
 have s1:aH H (upd (upd H t (.tup [.str (Str.ofString "fresh")])) r (.lst [])):=(aj ht _).trans (aj hr0 _)
 have ht1:(upd (upd H t (.tup [.str (Str.ofString "fresh")])) r (.lst [])) t=some (.tup [.str (Str.ofString "fresh")]):=aj hr0 _ _ _ af
 have hr1:(upd (upd H t (.tup [.str (Str.ofString "fresh")])) r (.lst [])) r=some (.lst []):=af
 have nr:r≠bk:=fun z=>by
  have:=aj ht (.tup [.str (Str.ofString "fresh")]) _ _ L.hb
  rw[← z,hr0]at this
  cases this
 generalize upd (upd H t (.tup [.str (Str.ofString "fresh")])) r (.lst [])=H1 at s1 ht1 hr1
 refine⟨S,x,d,wl,sh,bl,kn,du,bk,dS,st,op,pe,ops,lines,t,r,.plain frW [],[],rows,rfl,L.same s1,by show H1 t=_;rw[ht1,Ll];rfl,LX,⟨r,[],rfl,hr1,.nil⟩,nr,hl,l1,l2,l3,fun c=>k1 c H1 s1,fun c=>?_⟩
 obtain⟨B,k3⟩:=k2 c
 exact⟨B,fun S' H' L' fr=>k3 S' H' L' (fr.same s1)⟩
theorem ng{H H1:Hp}{xw dw:Addr}{o:HO}(h1:H xw=none)(h2:H dw=none)(k:cA xw (upd (upd H dw (.own xw)) xw o) H1):aH H H1:=fun a ob e=>k a ob (by rw[aC (au e h1),aC (au e h2)];exact e) (au e h1)
theorem Sh.l6{C C':Addr}{S:Addr→Prop}{H H':Hp}{x d st op l d':Addr}{past:mD}{ops:List Int}{fs:List (Str × V)}(h:Sh C S H x d st op past ops)(hl:H l=some (.ins C' d' fs))(nl:¬ S l)(k:cA l H H'):Sh C S H' x d st op past ops :=
 h.fr (fun a ob e z=>k a ob e (fun q=>nl (by rw[← q];exact z))) (fun a xs e=>k _ _ e (cE e hl (by intro z;cases z)))
structure QZ(K:PySem.W.Frag)(mg:Str→Option Value)(fS fZ:Addr):Prop where
 win:∃ f g,aA K mg "windows" eK oh f g
 bel:∃ f g,aA K mg "below" kZ mj f g
 ir:∃ f g,aA K mg "item_row" gJ yi f g
 pl:∃ f g,aA K mg "plain" ny iu f g
 vb:∃ f g,aA K mg "views_below" dO mj f g
 sh:∃ g,aA K mg "shown" yH vm fS g
 sz:∃ g,aA K mg "size" ssize iu fZ g
structure Seen(rows:eY)(sh:Int→List Int):Prop where
 es:∀ es∈rows,es.length≤1000
 sd:Sound rows
 rk:HL rows
 ss:ET rows sh
 ln:∀ x:Int,0≤x→x<rows.length→(sh x).length≤10000
inductive rj(C CS XS:Addr)(vs:List V)(H:Hp)(Q:VK)(E:XK):Prop
 | mk (S:Addr→Prop) (x d wl sh bl kn du bk dS st op:Addr) (pe:mK) (ops:List Int) (lines:mh) (rows:eY) (s:Int) (_:vs=[.ref x,.int s]) (_:iZ C CS S H x d wl sh bl kn du bk dS st op (uq pe) ops lines) (_:pe.getLast?=some rows) (_:rows.length≤50) (_:pe.length≤900) (_:vI s) (_:(¬ E7 rows.length s→E (.ref XS) none H)) (_:(E7 rows.length s→∃ f,Seen rows f∧∀ (o:Addr) (H':Hp),bP H' o (rowOf (f s))→aH H H'→H o=none→Q (.ref o) H')):rj C CS XS vs H Q E
inductive Dd(C CS XS:Addr)(vs:List V)(H:Hp)(Q:VK)(E:XK):Prop
 | mk (S:Addr→Prop) (x d wl sh bl kn du bk dS st op:Addr) (pe:mK) (ops:List Int) (lines:mh) (rows:eY) (s:Int) (_:vs=[.ref x,.int s]) (_:iZ C CS S H x d wl sh bl kn du bk dS st op (uq pe) ops lines) (_:pe.getLast?=some rows) (_:rows.length≤50) (_:pe.length≤900) (_:vI s) (_:(¬ E7 rows.length s→E (.ref XS) none H)) (_:(E7 rows.length s→∃ f,Seen rows f∧(rowOf (f s)).length≤1000000∧∀ H',aH H H'→Q (.int (tot (rowOf (f s)))) H')):Dd C CS XS vs H Q E
theorem xK:aG ["self","sheet"] ["self","sheet"] (ay dh):=⟨rfl,rfl,rfl,by decide +kernel,rfl,by decide +kernel,by decide +kernel⟩
theorem zS:aG ["self","sheet"] ["self","sheet"] (ay jN):=⟨rfl,rfl,rfl,by decide +kernel,rfl,by decide +kernel,by decide +kernel⟩
theorem lD{f C CS XS XM XT fS fZ:Addr}{fd:FuncData}(F:gX K "shown" "Library.shown" dh f fd)(L:zN K mg C CS XS XM XT)(A1:JN K mg CS)(A4:QZ K mg fS fZ):aF P w K mg base (qC P w) 5 f fd Am (rj C CS XS):=by
 obtain⟨⟨_,_,d1⟩,⟨_,_,d2⟩,⟨_,_,eU⟩,⟨_,_,d4⟩,⟨_,_,d7⟩,⟨_,_,cG⟩,_⟩:=A1
 obtain⟨⟨_,_,w1⟩,⟨_,_,w2⟩,⟨_,_,w3⟩,⟨_,_,w4⟩,⟨_,_,w5⟩,⟨_,zT⟩,_⟩:=A4
 obtain⟨M,⟨fi,aJ⟩,nw,ns,DB,nk,nd,DC,cP,G⟩:=L
 have l5:aF P w K mg base bN 4 _ _ gZ (zH CS):=o7 cG.F M d2 d4 d7
 have uc:aF P w K mg base (qC P w) 2 _ _ Am (zF CS XS):=qY eU.F M d1
 obtain⟨T,⟨fj,bJ⟩,n1,n2,eT,dc⟩:=M
 have Qm:aF P w K mg base bN 4 _ _ vm CC:=LA zT.F T w1 w2 w3 w4 w5
 refine HG F xK (fun vs H Q E h=>?_) (fun cdv A outer s H vs Q E hr h=>?_)
 ·obtain⟨S,x,d,wl,sh,bl,kn,du,bk,dS,st,op,pe,ops,lines,rows,s,rfl,_⟩:=h
  rfl
 obtain⟨S,x,d,wl,sh,bl,kn,du,bk,dS,st,op,pe,ops,lines,rows,s,rfl,L,hl,l1,l2,fs,k1,k2⟩:=h
 have lo:=yh L hl
 have lp:(uq pe).length=pe.length:=bY _
 have hl':=lZ hl
 refine⟨_,(ak (bO (cM (gz (pv 0) rfl) bJ.cl eU.mt uc (hr.mono (by decide)) eU.b .nil qP (aa (pv 1) ah)))
   (ao (aM (jj.uL zT (T.zc _ zT.m) Qm hr (aa (b8 (gz (pv 0) rfl) bJ.cl cG.mt l5 (hr.mono (by decide)) cG.b .nil cK) (aa (pv 1) ah)))))),?_⟩
 refine⟨_,rfl,x,C,d,_,.ref sh,rfl,L.hx,aJ.cl,ns,rfl,sh,dS,_,rfl,L.W.hx,rfl,_,rfl,S,sh,dS,st,op,uq pe,ops,s,rfl,L.W,⟨by omega,by omega⟩,fs,fun ia=>?_,fun z=>k1 (by rw[← lo];exact z)⟩
 rw[lo]at ia
 obtain⟨f0,sn,k3⟩:=k2 ia
 refine⟨_,rfl,x,C,d,_,.ref sh,rfl,L.hx,aJ.cl,ns,rfl,sh,dS,_,rfl,L.W.hx,rfl,S,sh,dS,st,op,uq pe,ops,rfl,L.W,⟨by omega,by omega⟩,fun rws el q H1 fs1 s1=>?_⟩
 rw[hl']at el
 cases el
 obtain⟨fq,rs,hq,al⟩:=fs1
 have hR:iN H1 q (rows.map itemsOf):=by
  refine⟨rs.map V.ref,hq,?_⟩
  have key:∀ {as:List Addr} {ds:List (List Item)},bR (fun r its=>H r=none∧r≠q∧bM H1 (.ref r) its) as ds→bR (bM H1) (as.map V.ref) ds:=by
   intro as ds z
   induction z with
   | nil=>exact .nil
   | cons o t ih=>exact .cons o.2.2 ih
  exact key al
 exact⟨_,rfl,q,rows,s,f0,rfl,hR,by omega,sn.es,sn.sd,sn.rk,ia.1,ia.2,sn.ss,sn.ln,fun o H2 ho s2 fo=>k3 o H2 ho (s1.trans s2) (aW s1 fo)⟩
theorem xM{f C CS XS XM XT fS fZ fL:Addr}{fd gL:FuncData}(F:gX K "size" "Library.size" jN f fd)(L:zN K mg C CS XS XM XT)(A1:JN K mg CS)(A4:QZ K mg fS fZ)(bh:aN K C "shown" "Library.shown" dh Am fL gL):aF P w K mg base (qC P w) 6 f fd Am (Dd C CS XS):=by
 have ju:aF P w K mg base (qC P w) 5 _ _ Am (rj C CS XS):=lD bh.F L A1 A4
 obtain⟨_,_,_,_,_,_,⟨_,jP⟩⟩:=A4
 obtain⟨M,⟨fi,aJ⟩,nw,ns,DB,nk,nd,DC,cP,G⟩:=L
 obtain⟨T,⟨fj,bJ⟩,n1,n2,eT,dc⟩:=M
 have Bx:aF P w K mg base bN 1 _ _ iu yQ:=Cr jP.F T
 refine HG F zS (fun vs H Q E h=>?_) (fun cdv A outer s H vs Q E hr h=>?_)
 ·obtain⟨S,x,d,wl,sh,bl,kn,du,bk,dS,st,op,pe,ops,lines,rows,s,rfl,_⟩:=h
  rfl
 obtain⟨S,x,d,wl,sh,bl,kn,du,bk,dS,st,op,pe,ops,lines,rows,s,rfl,L,hl,l1,l2,fs,k1,k2⟩:=h
 refine⟨_,(ao (aM (jj.uL jP (T.lI _ jP.m) Bx hr (aa (cM (pv 0) aJ.cl bh.mt ju (hr.mono (by decide)) bh.b .nil qP (aa (pv 1) ah)) ah)))),?_⟩
 refine⟨_,rfl,x,d,_,rfl,L.hx,rfl,_,rfl,S,x,d,wl,sh,bl,kn,du,bk,dS,st,op,pe,ops,lines,rows,s,rfl,L,hl,l1,l2,fs,k1,fun ia=>?_⟩
 obtain⟨f0,sn,lf,k3⟩:=k2 ia
 exact⟨f0,sn,fun o H' ho s' _=>⟨o,_,rfl,ho,lf,fun H2 s2=>k3 H2 (s'.trans s2)⟩⟩
theorem iZ.fr{C CS:Addr}{S:Addr→Prop}{H H':Hp}{x d wl sh bl kn du bk dS st op:Addr}{past:mD}{ops:List Int}{lines:mh}(L:iZ C CS S H x d wl sh bl kn du bk dS st op past ops lines)(k:∀ a ob,H a=some ob→(S a∨a=bk∨a=x)→H' a=some ob)(t:∀ a xs,H a=some (.tup xs)→H' a=some (.tup xs)):iZ C CS S H' x d wl sh bl kn du bk dS st op past ops lines :=
 ⟨k _ _ L.hx (.inr (.inr rfl)),L.W.fr (fun a ob e z=>k a ob e (.inl z)) t,k _ _ L.hb (.inr (.inl rfl)),L.nx,L.nb⟩
structure AE(C CS CW CB:Addr)(U S SW:Addr→Prop)(H:Hp)(x d wl sh bl kn du bk dS st op dw sg ow pw db tb:Addr)(pe:mK)(ops:List Int)(lines:mh)(aB:jW)(nW:Nat)(bK:Row):Prop where
 L:iZ C CS S H x d wl sh bl kn du bk dS st op (uq pe) ops lines
 W:We CW SW H wl dw sg ow pw nW aB
 B:Bl CB H bl db tb
 R:bP H tb bK
 Ct:QN bK
 dj:∀ a,SW a→¬ S a∧a≠bk∧a≠x
 db:¬ S bl∧¬ SW bl∧bl≠bk
 dt:¬ S tb∧¬ SW tb∧tb≠bk
 u:∀ a,U a↔S a∨SW a∨a=bk∨a=x∨a=bl∨a=tb
inductive Al(C CS CW CB:Addr)(U:Addr→Prop)(H:Hp)(x:Addr)(pe:mK)(lines:mh)(aB:jW)(nW:Nat)(bK:Row):Prop
 | mk (S SW:Addr→Prop) (d wl sh bl kn du bk dS st op dw sg ow pw db tb:Addr) (ops:List Int) (_:AE C CS CW CB U S SW H x d wl sh bl kn du bk dS st op dw sg ow pw db tb pe ops lines aB nW bK):Al C CS CW CB U H x pe lines aB nW bK
def OA(U U':Addr→Prop)(H H':Hp):Prop:=(∀ a,U' a→U a∨H a=none)∧(∀ a ob,H a=some ob→¬ U a→H' a=some ob)∧∀ a xs,H a=some (.tup xs)→H' a=some (.tup xs)
theorem OA.pre{U U':Addr→Prop}{H0 H H':Hp}(s:aH H0 H)(f:OA U U' H H'):OA U U' H0 H':=⟨fun a z=>(f.1 a z).imp id fun y=>aW s y,fun a ob e n=>f.2.1 a ob (s _ _ e) n,fun a xs e=>f.2.2 a xs (s _ _ e)⟩
theorem AE.fr{C CS CW CB:Addr}{U S SW:Addr→Prop}{H H':Hp}{x d wl sh bl kn du bk dS st op dw sg ow pw db tb:Addr}{pe:mK}{ops:List Int}{lines:mh}{aB:jW}{nW:Nat}{bK:Row}(h:AE C CS CW CB U S SW H x d wl sh bl kn du bk dS st op dw sg ow pw db tb pe ops lines aB nW bK)(k:∀ a ob,H a=some ob→U a→H' a=some ob)(t:∀ a xs,H a=some (.tup xs)→H' a=some (.tup xs)):AE C CS CW CB U S SW H' x d wl sh bl kn du bk dS st op dw sg ow pw db tb pe ops lines aB nW bK:=by
 obtain⟨L,W,B,R,Ct,dj,db',dt,u⟩:=h
 refine⟨L.fr (fun a ob e z=>k a ob e ((u a).mpr ?_)) t,W.fr (fun a ob e z=>k a ob e ((u a).mpr (.inr (.inl z)))) t,k _ _ B ((u _).mpr (.inr (.inr (.inr (.inr (.inl rfl)))))),R.two (fun xs e=>k _ _ e ((u _).mpr (.inr (.inr (.inr (.inr (.inr rfl))))))) t,Ct,dj,db',dt,u⟩
 rcases z with z|z|z
 ·exact .inl z
 ·exact .inr (.inr (.inl z))
 ·exact .inr (.inr (.inr (.inl z)))
theorem AE.same{C CS CW CB:Addr}{U S SW:Addr→Prop}{H H':Hp}{x d wl sh bl kn du bk dS st op dw sg ow pw db tb:Addr}{pe:mK}{ops:List Int}{lines:mh}{aB:jW}{nW:Nat}{bK:Row}(h:AE C CS CW CB U S SW H x d wl sh bl kn du bk dS st op dw sg ow pw db tb pe ops lines aB nW bK)(s:aH H H'):AE C CS CW CB U S SW H' x d wl sh bl kn du bk dS st op dw sg ow pw db tb pe ops lines aB nW bK:=h.fr (fun a ob e _=>s a ob e) fun a xs e=>s _ _ e
theorem Al.fr{C CS CW CB:Addr}{U:Addr→Prop}{H H':Hp}{x:Addr}{pe:mK}{lines:mh}{aB:jW}{nW:Nat}{bK:Row}(h:Al C CS CW CB U H x pe lines aB nW bK)(k:∀ a ob,H a=some ob→U a→H' a=some ob)(t:∀ a xs,H a=some (.tup xs)→H' a=some (.tup xs)):Al C CS CW CB U H' x pe lines aB nW bK:=by
 obtain⟨S,SW,d,wl,sh,bl,kn,du,bk,dS,st,op,dw,sg,ow,pw,db,tb,ops,z⟩:=h
 exact⟨S,SW,d,wl,sh,bl,kn,du,bk,dS,st,op,dw,sg,ow,pw,db,tb,ops,z.fr k t⟩
theorem Al.same{C CS CW CB:Addr}{U:Addr→Prop}{H H':Hp}{x:Addr}{pe:mK}{lines:mh}{aB:jW}{nW:Nat}{bK:Row}(h:Al C CS CW CB U H x pe lines aB nW bK)(s:aH H H'):Al C CS CW CB U H' x pe lines aB nW bK:=h.fr (fun a ob e _=>s a ob e) fun a xs e=>s _ _ e
theorem AE.De{C CS CW CB:Addr}{U S S' SW:Addr→Prop}{H H':Hp}{x d wl sh bl kn du bk dS st op dw sg ow pw db tb:Addr}{pe Q0:mK}{ops ops':List Int}{lines iI:mh}{aB:jW}{nW:Nat}{bK:Row}(h:AE C CS CW CB U S SW H x d wl sh bl kn du bk dS st op dw sg ow pw db tb pe ops lines aB nW bK)(L':iZ C CS S' H' x d wl sh bl kn du bk dS st op (uq Q0) ops' iI)(fr:Fr S S' bk H H'):∃ U',Al C CS CW CB U' H' x Q0 iI aB nW bK∧OA U U' H H':=by
 obtain⟨L,W,B,R,Ct,dj,db',dt,u⟩:=h
 obtain⟨as,hR,_⟩:=id R
 have nS':∀ a ob,H a=some ob→¬ S a→¬ S' a:=fun a ob e n z=>by
  rcases fr.1 a z with y|y
  ·exact n y
  ·rw[e]at y;cases y
 refine⟨fun a=>S' a∨SW a∨a=bk∨a=x∨a=bl∨a=tb,⟨S',SW,d,wl,sh,bl,kn,du,bk,dS,st,op,dw,sg,ow,pw,db,tb,ops',L',W.fr (fun a ob e z=>fr.2.1 _ _ e (dj a z).1 (dj a z).2.1) fr.2.2,fr.2.1 _ _ B db'.1 db'.2.2,R.two (fun xs e=>fr.2.1 _ _ e dt.1 dt.2.2) fr.2.2,Ct,fun a z=>?_,⟨nS' _ _ B db'.1,db'.2⟩,⟨nS' _ _ hR dt.1,dt.2⟩,fun a=>Iff.rfl⟩,fun a z=>?_,fun a ob e n=>?_,fr.2.2⟩
 ·obtain⟨ob,e⟩:=W.al a z
  exact⟨nS' _ _ e (dj a z).1,(dj a z).2⟩
 ·rcases z with z|z
  ·exact (fr.1 a z).imp (fun y=>(u a).mpr (.inl y)) id
  ·exact .inl ((u a).mpr (.inr z))
 ·exact fr.2.1 a ob e (fun z=>n ((u a).mpr (.inl z))) (fun z=>n ((u a).mpr (.inr (.inr (.inl z)))))
structure zU(K:PySem.W.Frag)(mg:Str→Option Value)(C CS CW CB XS XM XT XO XP:Addr):Prop where
 M:zN K mg C CS XS XM XT
 cw:∃ f,ClsAt K mg "Well" CW f
 w1:aU K CW "signs"
 w2:aU K CW "owners"
 w3:aU K CW "pourings"
 cb:∃ f,ClsAt K mg "Blots" CB f
 b1:aU K CB "stains"
 zo:yZ K mg "OutOfInk" XO
 zp:ExcAt K mg XP
structure Mj(K:PySem.W.Frag)(mg:Str→Option Value)(CW CB:Addr):Prop where
 sz:∃ f g,aN K CW "size" "Well.size" iE gZ f g
 pr:∃ f g,aN K CW "pour" "Well.pour" nE Mq f g
 ca:∃ f g,aN K CW "check_address" "Well.check_address" cQ Iq f g
 sg:∃ f g,aN K CW "sign" "Well.sign" nF Iq f g
 hl:∃ f g,aN K CW "holds" "Well.holds" kg NV f g
 hd:∃ f g,aN K CB "hides" "Blots.hides" kC Iq f g
 fr:∃ f g,aA K mg "first_reaching" dF Ir f g
 wi:∃ f g,aA K mg "within" rG J5 f g
 ad:∃ f g,aA K mg "addresses" nA iu f g
inductive Df(C CS CW CB:Addr)(vs:List V)(H:Hp)(Q:VK)(E:XK):Prop
 | mk (U:Addr→Prop) (x:Addr) (pe:mK) (lines:mh) (aB:jW) (nW:Nat) (bK:Row) (h:Int) (cs:List Nat) (rows:eY) (_:vs=[.ref x,.int h,.str (txt cs)]) (_:Al C CS CW CB U H x pe lines aB nW bK) (_:uU h) (_:cs.length≤200) (_:aB.length≤90000) (_:nW≤900) (_:pe.getLast?=some rows) (_:rows.length≤50) (_:pe.length≤900) (_:lines.length≤900) (_ :
 ∀ (U':Addr→Prop) (q:Addr) (H':Hp),Al C CS CW CB U' H' x (pe++[rows]) (lines++[(mV.Ay h cs).line]) (aB++qv h cs) (nW+1) bK→OA U U' H H'→H' q=some (.tup [.int (aB.length:Nat),.int ((aB++qv h cs).length:Nat)])→Q (.ref q) H'):Df C CS CW CB vs H Q E
theorem rm:aG ["self","hand","text","stretch"] ["self","hand","text"] (ay iU):=⟨rfl,rfl,rfl,by decide +kernel,rfl,by decide +kernel,by decide +kernel⟩
theorem xN{f C CS CW CB XS XM XT XO XP fE:Addr}{fd gE:FuncData}(F:gX K "pour" "Library.pour" iU f fd)(X:zU K mg C CS CW CB XS XM XT XO XP)(A1:JN K mg CS)(A2:NI K mg)(A5:Mj K mg CW CB)(aY:aN K C "enter" "Library.enter" cB Me fE gE):aF P w K mg base bN 4 f fd Mq (Df C CS CW CB):=by
 obtain⟨LM,⟨_,cW⟩,w1,w2,w3,⟨_,lE⟩,b1,dB,Z⟩:=X
 obtain⟨_,⟨_,_,d2⟩,_,_,_,_,⟨_,_,d9⟩⟩:=A1
 obtain⟨_,_,_,_,_,_,_,⟨_,_,iP⟩,⟨_,_,v9⟩,⟨_,_,v10⟩⟩:=A2
 have nV:aF P w K mg base bN 3 _ _ Me (yg C CS):=pR aY.F LM v9 v10 iP d2 d9
 obtain⟨⟨_,_,s1⟩,⟨_,_,nX⟩,_⟩:=A5
 obtain⟨⟨T,_,_,_,_,_⟩,⟨fi,aJ⟩,nw,ns,DB,nk,nd,DC,cP,G⟩:=LM
 have GV:aF P w K mg base bN 2 _ _ Mq (GS CW):=CY nX.F T cW w1 w2 w3 s1
 refine F.ok rm (fun vs H Q E h=>?_) (fun cdv A outer s H vs Q E hr h=>?_)
 ·obtain⟨U,x,pe,lines,aB,nW,bK,h,cs,rows,rfl,_⟩:=h
  rfl
 obtain⟨U,x,pe,lines,aB,nW,bK,h,cs,rows,rfl,⟨S,SW,d,wl,sh,bl,kn,du,bk,dS,st,op,dw,sg,ow,pw,db,tb,ops,LU⟩,fh,lc,li,ln,hl,l1,l2,l3,k⟩:=h
 obtain⟨L,W,B,R,Ct,dj,db',dt,u⟩:=id LU
 refine⟨_,(ak (aQ (i:=3) rm.nd rfl (Or.inl rfl) (cM (gz (pv 0) rfl) cW.cl nX.mt GV (hr.mono (by decide)) nX.b .nil cK (aa (pv 1) (aa (pv 2) ah))))
   (ak (bO (cM (pv 0) aJ.cl aY.mt nV (hr.mono (by decide)) aY.b .nil cK (aa (jH (aa bT (aa (pv 1) (aa (pv 2) ah)))) (aa (bI ah) ah))))
   (ao (aM (pv 3))))),?_⟩
 refine⟨_,rfl,x,C,d,_,.ref wl,rfl,L.hx,aJ.cl,nw,rfl,wl,dw,_,rfl,W.hx,rfl,_,rfl,_,rfl,SW,wl,dw,sg,ow,pw,nW,aB,h,cs,rfl,W,by omega,by omega,fun Q2 q H1 W1 hq sub fr tp=>?_⟩
 have nSW:∀ a ob,H a=some ob→¬ SW a→¬ Q2 a:=fun a ob e n z=>by
  rcases sub a z with y|y
  ·exact n y
  ·rw[e]at y;cases y
 have nk1:∀ a ob,H a=some ob→(S a∨a=bk∨a=x)→¬ SW a:=fun a ob e z y=>by
  obtain⟨y1,y2,y3⟩:=dj a y
  rcases z with z|z|z
  ·exact y1 z
  ·exact y2 z
  ·exact y3 z
 have L1:iZ C CS S H1 x d wl sh bl kn du bk dS st op (uq pe) ops lines:=L.fr (fun a ob e z=>fr _ _ e (nk1 a ob e z)) tp
 obtain⟨as,hR,_⟩:=id R
 have LU1:AE C CS CW CB (fun a=>S a∨Q2 a∨a=bk∨a=x∨a=bl∨a=tb) S Q2 H1 x d wl sh bl kn du bk dS st op dw sg ow pw db tb pe ops lines (aB++qv h cs) (nW+1) bK:=by
  refine⟨L1,W1,fr _ _ B db'.2.1,R.two (fun xs e=>fr _ _ e dt.2.1) tp,Ct,fun a z=>?_,⟨db'.1,nSW _ _ B db'.2.1,db'.2.2⟩,⟨dt.1,nSW _ _ hR dt.2.1,dt.2.2⟩,fun a=>Iff.rfl⟩
  rcases sub a z with y|y
  ·exact dj a y
  ·refine⟨fun q'=>?_,fun q'=>?_,fun q'=>?_⟩
   ·obtain⟨ob,e⟩:=L.W.al a q'
    rw[y]at e;cases e
   ·rw[q',L.hb]at y;cases y
   ·rw[q',L.hx]at y;cases y
 refine⟨_,rfl,x,d,_,rfl,L1.hx,rfl,_,rfl,_,rfl,(by show 3≤sizeLine;decide),fun t ht=>⟨(by show 0≤sizeLine;decide),fun c hc=>?_⟩⟩
 have s2:aH H1 (upd (upd H1 t (.tup [.str (Str.ofString "pour"),.int h,.str (txt cs)])) c (.lst [])):=(aj ht _).trans (aj hc _)
 have DA:(upd (upd H1 t (.tup [.str (Str.ofString "pour"),.int h,.str (txt cs)])) c (.lst [])) t=some (.tup [.str (Str.ofString "pour"),.int h,.str (txt cs)]):=aj hc _ _ _ af
 have hc2:(upd (upd H1 t (.tup [.str (Str.ofString "pour"),.int h,.str (txt cs)])) c (.lst [])) c=some (.lst (([]:List Addr).map V.ref)):=af
 have nc:c≠bk:=fun z=>by
  have:=aj ht (.tup [.str (Str.ofString "pour"),.int h,.str (txt cs)]) _ _ L1.hb
  rw[← z,hc]at this
  cases this
 generalize upd (upd H1 t (.tup [.str (Str.ofString "pour"),.int h,.str (txt cs)])) c (.lst [])=H2 at s2 DA hc2
 have lp:(uq pe).length=pe.length:=bY _
 have FN:=LU1.same s2
 refine⟨S,x,d,wl,sh,bl,kn,du,bk,dS,st,op,uq pe,ops,lines,t,c,.Ay h cs,[],[],rows.map itemsOf,rfl,FN.L,DA,⟨fh,lc⟩,hc2,nc,.nil,(fun _ z=>by cases z),lZ hl,(fun i ch e=>by cases e),(by show 0≤200;decide),by rw[bY];omega,by omega,by omega,fun S' H3 L3 Ua=>?_⟩
 have ep:uq pe++[qe (rows.map itemsOf) []]=uq (pe++[rows]):=by
  show _=(pe++[rows]).map _
  rw[lK]
  rfl
 have eo:ops++List.replicate ((qe (rows.map itemsOf) []).length-(rows.map itemsOf).length) (((uq pe).length:Nat):Int)=ops:=by
  show ops++List.replicate ((rows.map itemsOf).length-(rows.map itemsOf).length) _=ops
  rw[Nat.sub_self]
  exact om _
 rw[ep,eo]at L3
 obtain⟨U',hL',f'⟩:=FN.De L3 Ua
 refine⟨_,rfl,k U' q H3 hL' ⟨fun a z=>?_,fun a ob e n=>?_,fun a xs e=>f'.2.2 _ _ (s2 _ _ (tp _ _ e))⟩ (f'.2.2 _ _ (s2 _ _ hq))⟩
 ·rcases f'.1 a z with y|y
  ·rcases y with y|y|y
   ·exact .inl ((u a).mpr (.inl y))
   ·exact (sub a y).imp (fun w=>(u a).mpr (.inr (.inl w))) id
   ·exact .inl ((u a).mpr (.inr (.inr y)))
  ·have y1:=aW s2 y
   cases e:H a with
   | none=>exact .inr rfl
   | some ob =>
    by_cases z2:SW a
    ·exact .inl ((u a).mpr (.inr (.inl z2)))
    ·rw[fr _ _ e z2]at y1;cases y1
 ·have n1:¬ SW a:=fun z=>n ((u a).mpr (.inr (.inl z)))
  refine f'.2.1 a ob (s2 _ _ (fr _ _ e n1)) fun z=>?_
  rcases z with z|z|z
  ·exact n ((u a).mpr (.inl z))
  ·exact nSW _ _ e n1 z
  ·exact n ((u a).mpr (.inr (.inr z)))
inductive zV(C CS CW CB:Addr)(vs:List V)(H:Hp)(Q:VK)(E:XK):Prop
 | mk (U:Addr→Prop) (x:Addr) (pe:mK) (lines:mh) (aB:jW) (nW:Nat) (bK:Row) (_:vs=[.ref x]) (_:Al C CS CW CB U H x pe lines aB nW bK) (_:Q (.int (aB.length:Nat)) H):zV C CS CW CB vs H Q E
inductive rA(C CS CW CB XO:Addr)(vs:List V)(H:Hp)(Q:VK)(E:XK):Prop
 | mk (U:Addr→Prop) (x r:Addr) (pe:mK) (lines:mh) (aB:jW) (nW:Nat) (bK row:Row) (_:vs=[.ref x,.ref r]) (_:Al C CS CW CB U H x pe lines aB nW bK) (_:bP H r row) (_:row.length≤1000) (_:aB.length≤100000) (_:(pA aB.length row=true→∀ H',aH H H'→Q .jE H')) (_:(pA aB.length row=false→∀ H',aH H H'→E (.ref XO) none H')):rA C CS CW CB XO vs H Q E
theorem AF:aG ["self"] ["self"] (ay jw):=⟨rfl,rfl,rfl,by decide +kernel,rfl,by decide +kernel,by decide +kernel⟩
theorem rB:aG ["self","row"] ["self","row"] (ay dI):=⟨rfl,rfl,rfl,by decide +kernel,rfl,by decide +kernel,by decide +kernel⟩
theorem zW{f C CS CW CB XS XM XT XO XP:Addr}{fd:FuncData}(F:gX K "ink" "Library.ink" jw f fd)(X:zU K mg C CS CW CB XS XM XT XO XP)(A5:Mj K mg CW CB):aF P w K mg base bN 2 f fd gZ (zV C CS CW CB):=by
 obtain⟨LM,⟨_,cW⟩,w1,w2,w3,⟨_,lE⟩,b1,dB,Z⟩:=X
 obtain⟨⟨T,_,_,_,_,_⟩,⟨fi,aJ⟩,nw,ns,DB,nk,nd,DC,cP,G⟩:=LM
 obtain⟨_,_,bf⟩:=A5.sz
 have iH:aF P w K mg base bN 1 _ _ gZ (rS CW):=mY bf.F T cW.cl w1
 refine F.ok AF (fun vs H Q E h=>?_) (fun cdv A outer s H vs Q E hr h=>?_)
 ·obtain⟨U,x,pe,lines,aB,nW,bK,rfl,_⟩:=h
  rfl
 obtain⟨U,x,pe,lines,aB,nW,bK,rfl,⟨S,SW,d,wl,sh,bl,kn,du,bk,dS,st,op,dw,sg,ow,pw,db,tb,ops,LU⟩,k⟩:=h
 refine⟨_,(ao (aM (b8 (gz (pv 0) rfl) cW.cl bf.mt iH (hr.mono (by decide)) bf.b .nil cK))),?_⟩
 exact⟨_,rfl,x,C,d,_,.ref wl,rfl,LU.L.hx,aJ.cl,nw,rfl,wl,dw,_,rfl,LU.W.hx,rfl,wl,dw,sg,ow,pw,aB,rfl,LU.W.hx,LU.W.hs,k⟩
theorem qF{f C CS CW CB XS XM XT XO XP fI:Addr}{fd gI:FuncData}(F:gX K "check_held" "Library.check_held" dI f fd)(X:zU K mg C CS CW CB XS XM XT XO XP)(A5:Mj K mg CW CB)(iJ:aN K C "ink" "Library.ink" jw gZ fI gI):aF P w K mg base (qC P w) 3 f fd NV (rA C CS CW CB XO):=by
 have Dg:aF P w K mg base bN 2 _ _ gZ (zV C CS CW CB):=zW iJ.F X A5
 obtain⟨LM,⟨_,cW⟩,w1,w2,w3,⟨_,lE⟩,b1,dB,Z⟩:=X
 obtain⟨⟨T,_,_,_,_,_⟩,⟨fi,aJ⟩,nw,ns,DB,nk,nd,DC,cP,G⟩:=LM
 obtain⟨⟨_,_,bf⟩,_,_,_,⟨_,_,l9⟩,_⟩:=A5
 have Ff:aF P w K mg base bN 2 _ _ NV (C2 CW):=AB l9.F T cW w1 bf
 refine HG F rB (fun vs H Q E h=>?_) (fun cdv A outer s H vs Q E hr h=>?_)
 ·obtain⟨U,x,r,pe,lines,aB,nW,bK,row,rfl,_⟩:=h
  rfl
 obtain⟨U,x,r,pe,lines,aB,nW,bK,row,rfl,LB,hr1,lr,li,k1,k2⟩:=h
 obtain⟨S,SW,d,wl,sh,bl,kn,du,bk,dS,st,op,dw,sg,ow,pw,db,tb,ops,LU⟩:=id LB
 refine⟨_,(ao (cy (kU (kT (cM (gz (pv 0) rfl) cW.cl l9.mt Ff (hr.mono (by decide)) l9.b .nil cK (aa (pv 1) ah))))
   (ao (pN PySem.F.excBase_ValueError dB.x dB.m rfl vG (aa (rJ (mz (nI (b8 (pv 0) aJ.cl iJ.mt Dg (hr.mono (by decide)) iJ.b .nil cK) vH))) ah)))
   bC)),?_⟩
 refine⟨_,rfl,x,C,d,_,.ref wl,rfl,LU.L.hx,aJ.cl,nw,rfl,wl,dw,_,rfl,LU.W.hx,rfl,_,rfl,SW,wl,dw,sg,ow,pw,r,nW,aB,row,rfl,LU.W,hr1,lr,fun H1 s1=>⟨_,rfl,?_⟩⟩
 cases g:pA aB.length row with
 | true=>exact i7 (k1 g H1 s1)
 | false =>
  have LB1:=LB.same s1
  have LU1:=LU.same s1
  have fl:vI ((aB.length:Nat):Int):=⟨by omega,by omega⟩
  exact jI ⟨_,rfl,x,d,_,rfl,LU1.L.hx,rfl,U,x,pe,lines,aB,nW,bK,rfl,LB1,_,rfl,fl.log,fun y=>⟨(by show 1≤sizeLine;decide),k2 g H1 s1⟩⟩
structure ItF(K:PySem.W.Frag)(mg:Str→Option Value):Prop where
 win:∃ f g,aA K mg "windows" eK oh f g
 bel:∃ f g,aA K mg "below" kZ mj f g
 ir:∃ f g,aA K mg "item_row" gJ yi f g
 pl:∃ f g,aA K mg "plain" ny iu f g
 vb:∃ f g,aA K mg "views_below" dO mj f g
 sz:∃ f g,aA K mg "size" ssize iu f g
 cp:∃ f g,aA K mg "check_places" iS xu f g
 go:∃ f g,aA K mg "goes_on" lQ FO f g
 pi:∃ f g,aA K mg "plain_items" iD oh f g
 de:∃ f g,aA K mg "dealt" tK Iw f g
 pc:∃ f g,aA K mg "pieces" pX xu f g
 ik:∃ f g,aA K mg "inked" tH iu f g
 pa:∃ f g,aA K mg "put_among" lg J6 f g
 pu:∃ f g,aA K mg "put_items" nB Mr f g
abbrev ptW:List Nat:=(Str.ofString "put").cps.toList
inductive Dh(C CS CW CB XS XO XP:Addr)(vs:List V)(H:Hp)(Q:VK)(E:XK):Prop
 | mk (U:Addr→Prop) (x r:Addr) (pe:mK) (lines:mh) (aB:jW) (nW:Nat) (bK row:Row) (s p:Int) (rows:eY) (_:vs=[.ref x,.int s,.int p,.ref r]) (_:Al C CS CW CB U H x pe lines aB nW bK) (_:bP H r row) (_:GN row) (_:aB.length≤100000) (_:pe.getLast?=some rows) (_:rows.length≤50) (_:pe.length≤900) (_:lines.length≤900) (_:vI s) (_:vI p) (_:(¬ E7 rows.length s→∀ H',aH H H'→E (.ref XS) none H')) (_:(E7 rows.length s→∃ sh,Seen rows sh∧(¬ (0≤p∧p≤(sh s).length)→∀ H',aH H H'→E (.ref XP) none H')∧(0≤p∧p≤(sh s).length→(pA aB.length row=false→∀ H',aH H H'→E (.ref XO) none H')∧(pA aB.length row=true→∀ es,rows[s.toNat]?=some es→(∃ f,wZ (mZ rows s.toNat (tV sh p es (fy (ie (dm row))))) f) ∧
  ∀ (U':Addr→Prop) (H':Hp),Al C CS CW CB U' H' x (pe++[mZ rows s.toNat (tV sh p es (fy (ie (dm row))))]) (lines++[(mV.sW ptW [s,p] row).line]) aB nW bK→OA U U' H H'→Q .jE H')))):Dh C CS CW CB XS XO XP vs H Q E
theorem sY:aG ["self","sheet","place","row","items"] ["self","sheet","place","row"] (ay mR):=⟨rfl,rfl,rfl,by decide +kernel,rfl,by decide +kernel,by decide +kernel⟩
theorem BO(ns:List Int):tot (rowOf ns)=(ns.length:Int):=by rw[← pL _ (pK _),dX]
theorem NK{n:Nat}(h:n≤100000):vI ((n:Nat):Int):=⟨by omega,by omega⟩
theorem JO{n:Nat}{row:Row}(h:pA n row=true):∀ p∈row,0≤p.1∧p.1<p.2∧p.2≤n:=fun p hp=>by
 have z:=List.all_eq_true.mp h p hp
 unfold Mi at z
 simpa [and_assoc] using z
theorem vI.big{s:Int}(h:vI s):s<10^60:=by
 obtain⟨_,h1⟩:=h
 omega
set_option maxHeartbeats 4000000 in
theorem zX{f C CS CW CB XS XM XT XO XP fS fZ f1 f2 f3 f4 f5:Addr}{fd g1 g2 g3 g4 g5:FuncData}(F:gX K "put" "Library.put" mR f fd)(X:zU K mg C CS CW CB XS XM XT XO XP)(A1:JN K mg CS)(A2:NI K mg)(A4:QZ K mg fS fZ)(A5:Mj K mg CW CB)(A6:ItF K mg)(aY:aN K C "enter" "Library.enter" cB Me f1 g1)(bX:aN K C "change" "Library.change" fQ QD f2 g2)(bh:aN K C "shown" "Library.shown" dh Am f3 g3)(iJ:aN K C "ink" "Library.ink" jw gZ f4 g4)(dM:aN K C "check_held" "Library.check_held" dI NV f5 g5):aF P w K mg base (qC P w) 6 f fd OI (Dh C CS CW CB XS XO XP):=by
 have sr:aF P w K mg base (qC P w) 3 _ _ NV (rA C CS CW CB XO):=qF dM.F X A5 iJ
 obtain⟨LM,⟨_,cW⟩,w1,w2,w3,⟨_,lE⟩,b1,dB,Z⟩:=X
 have mE:aF P w K mg base bN 5 _ _ QD (uZ C CS):=oM bX.F LM A1 A2 aY
 have ju:aF P w K mg base (qC P w) 5 _ _ Am (rj C CS XS):=lD bh.F LM A1 A4
 obtain⟨M,⟨fi,aJ⟩,nw,ns,DB,nk,nd,DC,cP,G⟩:=LM
 obtain⟨⟨_,_,d1⟩,⟨_,_,d2⟩,⟨_,_,d3⟩,⟨_,_,d4⟩,⟨_,_,d7⟩,⟨_,_,cG⟩,⟨_,_,d9⟩⟩:=A1
 have l5:aF P w K mg base bN 4 _ _ gZ (zH CS):=o7 cG.F M d2 d4 d7
 obtain⟨T,⟨fj,bJ⟩,n1,n2,eT,dc⟩:=M
 obtain⟨⟨_,_,i1⟩,⟨_,_,i2⟩,⟨_,_,i3⟩,⟨_,_,i4⟩,⟨_,_,i5⟩,⟨_,_,i6⟩,⟨_,_,eE⟩,⟨_,_,i8⟩,⟨_,_,i9⟩,⟨_,_,i10⟩,⟨_,_,i11⟩,⟨_,_,nQ⟩,⟨_,_,i13⟩,⟨_,_,qg⟩⟩:=A6
 have o6:aF P w K mg base (qC P w) 2 _ _ xu (xV XP):=qq eE.F T Z i6
 have CJ:aF P w K mg base bN 2 _ _ iu ye:=EV nQ.F T i4
 have GW:aF P w K mg base (qC P w) 4 _ _ Mr (tX XP):=CK qg.F T Z i1 i2 i3 i4 i5 i6 eE i8 i9 i10 i11 nQ i13
 refine HG F sY (fun vs H Q E h=>?_) (fun cdv A outer s0 H vs Q E hr h=>?_)
 ·obtain⟨U,x,r,pe,lines,aB,nW,bK,row,s,p,rows,rfl,_⟩:=h
  rfl
 obtain⟨U,x,r,pe,lines,aB,nW,bK,row,s,p,rows,rfl,LB,hr1,fr,li,hl,l1,l2,l3,fs,fp,k1,k2⟩:=h
 obtain⟨S,SW,d,wl,sh,bl,kn,du,bk,dS,st,op,dw,sg,ow,pw,db,tb,ops,LU⟩:=id LB
 have lo:=yh LU.L hl
 have hl':=lZ hl
 have lp:(uq pe).length=pe.length:=bY _
 refine⟨_,(ak (bO (Cg eE o6 hr qP (aa (cM (pv 0) aJ.cl bh.mt ju (hr.mono (by decide)) bh.b .nil qP (aa (pv 1) ah)) (aa (pv 2) (aa (pv 2) ah)))))
   (ak (bO (cM (pv 0) aJ.cl dM.mt sr (hr.mono (by decide)) dM.b .nil qP (aa (pv 3) ah)))
   (ak (aQ (i:=4) sY.nd rfl (Or.inl rfl) (Cg qg GW hr qP (aa (b8 (gz (pv 0) rfl) bJ.cl cG.mt l5 (hr.mono (by decide)) cG.b .nil cK) (aa (pv 1) (aa (pv 2) (aa (aP nQ CJ hr (aa (pv 3) ah)) ah))))))
   (ao (bO (cM (pv 0) aJ.cl bX.mt mE (hr.mono (by decide)) bX.b .nil cK (aa (jH (aa bT (aa (pv 1) (aa (pv 2) (aa (pv 3) ah))))) (aa (pv 1) (aa (pv 4) ah))))))))),?_⟩
 refine⟨_,rfl,x,d,_,rfl,LU.L.hx,rfl,_,rfl,S,x,d,wl,sh,bl,kn,du,bk,dS,st,op,pe,ops,lines,rows,s,rfl,LU.L,hl,l1,l2,fs,fun z=>k1 z H (aH.refl _),fun ia=>?_⟩
 obtain⟨f0,sn,k3,k4⟩:=k2 ia
 have ls:(f0 s).length≤10000:=sn.ln s ia.1 ia.2
 have lr0:=vW (f0 s)
 refine⟨f0,sn,fun o H1 ho s1 fo=>?_⟩
 have i3:Si p p (tot (rowOf (f0 s)))↔(0≤p∧p≤(f0 s).length):=by
  rw[BO]
  unfold Si
  omega
 refine⟨_,rfl,_,rfl,o,rowOf (f0 s),p,p,rfl,ho,by omega,fp,fp,by rw[BO];exact NK (by omega),fun z H2 s2=>?_,fun z H2 s2=>k3 (fun y=>z (i3.mpr y)) H2 (s1.trans s2)⟩
 have s12:=s1.trans s2
 obtain⟨k5,k6⟩:=k4 (i3.mp z)
 have FN:=LU.same s12
 have hr2:=hr1.same s12
 refine⟨_,rfl,x,d,_,rfl,FN.L.hx,rfl,_,rfl,U,x,r,pe,lines,aB,nW,bK,row,rfl,LB.same s12,hr2,by have:=fr.1;omega,li,fun g H3 s3=>?_,fun g H3 s3=>k5 g H3 (s12.trans s3)⟩
 have JX:=s12.trans s3
 have LU3:=LU.same JX
 have Jt:=hr1.same JX
 have hp:=JO g
 have sl:s.toNat<rows.length:=by have:=ia.1;have:=ia.2;omega
 obtain⟨es,es1⟩:∃ es,rows[s.toNat]?=some es:=⟨_,oj sl⟩
 obtain⟨⟨fB,B⟩,k7⟩:=k6 g _ es1
 refine⟨_,rfl,x,C,d,_,.ref sh,rfl,LU3.L.hx,aJ.cl,ns,rfl,sh,dS,_,rfl,LU3.L.W.hx,rfl,S,sh,dS,st,op,uq pe,ops,rfl,LU3.L.W,⟨by omega,by omega⟩,fun rws el q H4 fs4 s4=>?_⟩
 rw[hl']at el
 cases el
 obtain⟨fq,rs,hq,al⟩:=fs4
 have hR:iN H4 q (rows.map itemsOf):=by
  refine⟨rs.map V.ref,hq,?_⟩
  have key:∀ {as:List Addr} {ds:List (List Item)},bR (fun r its=>H3 r=none∧r≠q∧bM H4 (.ref r) its) as ds→bR (bM H4) (as.map V.ref) ds:=by
   intro as ds z
   induction z with
   | nil=>exact .nil
   | cons o t ih=>exact .cons o.2.2 ih
  exact key al
 have UN:=Jt.same s4
 refine⟨_,rfl,_,rfl,_,rfl,r,row,rfl,UN,by have:=fr.1;omega,fun oi H5 hoi s5 foi=>?_⟩
 have nn:qS row:=fun p' Hy=>⟨(hp p' Hy).1,by have:=(hp p' Hy).2.1;omega⟩
 refine⟨q,oi,rows,s,p,_,f0,rfl,⟨hR.same s5,by omega,sn.es,sn.sd,sn.rk,sn.ss,sn.ln⟩,ia.1,ia.2,hoi,EW (Bu nn),?_,fp,fun _ es q2 H6 Tq hq2 s6 fq2=>?_,fun y=>absurd (i3.mp z) y⟩
 ·unfold ie
  rw[bY]
  have:=vJ row
  have:=fr.1
  omega
 rw[es1]at Tq
 cases Tq
 have s16:aH H H6:=JX.trans (s4.trans (s5.trans s6))
 have LU6:=LU.same s16
 have nq2:q2≠bk:=fun e=>by
  have y:=(LU.same (JX.trans (s4.trans s5))).L.hb
  rw[← e,fq2]at y
  cases y
 refine⟨_,rfl,x,d,_,rfl,LU6.L.hx,rfl,_,rfl,_,rfl,_,rfl,(by show 4≤sizeLine;decide),fun t ht=>?_⟩
 have s7:=aj ht (.tup [.str (Str.ofString "put"),.int s,.int p,.ref r])
 have Q3:(upd H6 t (.tup [.str (Str.ofString "put"),.int s,.int p,.ref r])) t=some (.tup [.str (Str.ofString "put"),.int s,.int p,.ref r]):=af
 generalize upd H6 t (.tup [.str (Str.ofString "put"),.int s,.int p,.ref r])=H7 at s7 Q3
 have s17:=s16.trans s7
 have LU7:=LU.same s17
 have ss:((s.toNat:Nat):Int)=s:=by have:=ia.1;omega
 refine⟨_,rfl,_,rfl,S,x,d,wl,sh,bl,kn,du,bk,dS,st,op,pe,ops,lines,t,q2,.sW ptW [s,p] row,s.toNat,_,rows,fB,by rw[ss];rfl,LU7.L,⟨r,by rw[Q3,Ll];rfl,hr1.same s17⟩,⟨(by show tabAt SV ptW=some 2;decide +kernel),?_,fr⟩,hq2.same s7,nq2,hl,by have:=ia.2;have:=ia.1;omega,l1,l2,l3,B,fun S' H8 L8 FH=>?_⟩
 ·intro y hy
  have b1:=ia.1
  have b2:=(i3.mp z).1
  rcases List.mem_cons.mp hy with e|e
  ·rw[e];exact⟨b1,fs.big⟩
  ·rw[List.mem_singleton.mp e];exact⟨b2,fp.big⟩
 ·obtain⟨U',hL',f'⟩:=LU7.De L8 FH
  exact k7 U' H8 hL' (f'.pre s17)
def nY(aB:jW)(bK:Row)(v:Nat)(a:Int):Nat:=if PX bK a=true then v else ((aB[a.toNat]?).map Prod.snd).getD 0
inductive zY(C CS CW CB:Addr)(vs:List V)(H:Hp)(Q:VK)(E:XK):Prop
 | mk (U:Addr→Prop) (x r:Addr) (pe:mK) (lines:mh) (aB:jW) (nW:Nat) (bK row:Row) (v:Nat) (_:vs=[.ref x,.ref r,vQ v]) (_:Al C CS CW CB U H x pe lines aB nW bK) (_:bP H r row) (_:(∀ p∈row,p.1≤p.2)) (_:(aS row).length≤100000) (_:aB.length≤100000) (_:(∀ a∈aS row,0≤a∧a<(aB.length:Nat))) (_: ∀ H',aH H H'→Q (.str (txt ((aS row).map (nY aB bK v)))) H'):zY C CS CW CB vs H Q E
inductive wB(C CS CW CB XS:Addr)(vs:List V)(H:Hp)(Q:VK)(E:XK):Prop
 | mk (U:Addr→Prop) (x:Addr) (pe:mK) (lines:mh) (aB:jW) (nW:Nat) (bK:Row) (rows:eY) (s:Int) (_:vs=[.ref x,.int s]) (_:Al C CS CW CB U H x pe lines aB nW bK) (_:pe.getLast?=some rows) (_:rows.length≤50) (_:pe.length≤900) (_:aB.length≤100000) (_:vI s) (_:(¬ E7 rows.length s→E (.ref XS) none H)) (_:(E7 rows.length s→∃ sh,Seen rows sh∧(∀ a∈sh s,0≤a∧a<(aB.length:Nat))∧∀ H',aH H H'→Q (.str (txt ((sh s).map (nY aB bK 35)))) H')):wB C CS CW CB XS vs H Q E
theorem wC:aG ["self","row","veil"] ["self","row","veil"] (ay dG):=⟨rfl,rfl,rfl,by decide +kernel,rfl,by decide +kernel,by decide +kernel⟩
theorem zZ:aG ["self","sheet"] ["self","sheet"] (ay jO):=⟨rfl,rfl,rfl,by decide +kernel,rfl,by decide +kernel,by decide +kernel⟩
set_option maxHeartbeats 4000000 in
theorem vc{f C CS CW CB XS XM XT XO XP:Addr}{fd:FuncData}(F:gX K "veiled" "Library.veiled" dG f fd)(X:zU K mg C CS CW CB XS XM XT XO XP)(A5:Mj K mg CW CB):aF P w K mg base bN 4 f fd J4 (zY C CS CW CB):=by
 obtain⟨LM,⟨_,cW⟩,w1,w2,w3,⟨_,lE⟩,b1,dB,Z⟩:=X
 obtain⟨⟨T,_,_,_,_,_⟩,⟨fi,aJ⟩,nw,ns,DB,nk,nd,DC,cP,G⟩:=LM
 obtain⟨⟨_,_,bf⟩,_,⟨_,_,d3⟩,⟨_,_,nZ⟩,_,⟨_,_,kH⟩,⟨_,_,d7⟩,⟨_,_,d8⟩,⟨_,_,qh⟩⟩:=A5
 have GX:aF P w K mg base (qC P w) 3 _ _ Iq (CZ CW XO):=C1 nZ.F T cW w1 dB bf d3
 have Di:aF P w K mg base bN 3 _ _ Iq (Cv CB):=ze kH.F T lE.cl b1 d7 d8
 have GY:aF P w K mg base bN 1 _ _ iu Cf:=Cs qh.F T
 refine F.ok wC (fun vs H Q E h=>?_) (fun cdv A outer s0 H vs Q E hr h=>?_)
 ·obtain⟨U,x,r,pe,lines,aB,nW,bK,row,v,rfl,_⟩:=h
  rfl
 obtain⟨U,x,r,pe,lines,aB,nW,bK,row,v,rfl,LB,hr1,ok,ls,li,ia,k⟩:=h
 obtain⟨S,SW,d,wl,sh,bl,kn,du,bk,dS,st,op,dw,sg,ow,pw,db,tb,ops,LU⟩:=id LB
 refine⟨_,(ao (aM (jF PySem.F.plainAttrs_str PySem.F.slot_str_join PySem.F.type_str_join za bT (aa (lW (N:=["address","self","veil"]) (qQ (sc:=ay dG) (NX:=["self","row","veil"]) (jx:=[none,some 0,some 2]) rfl rfl rfl (by decide +kernel) (by decide +kernel) rfl (by decide +kernel) rfl (by decide +kernel)) rfl (cH (aP qh GY hr (aa (pv 1) ah))) (fun _ _ _ _ _ _=>(aV (i:=0) (show List.Nodup (["address","self","veil"]:List Str) by decide +kernel) rfl (Or.inl rfl))) (fun _ _ _ _ _ _=>iG) (fun _ _ _ _ _ _=>(DN (kT (cM (HP (pv 1) rfl) lE.cl kH.mt Di (hr.mono (by decide)) kH.b .nil cK (aa (pv 0) ah))) (pv 2) (cM (HP (pv 1) rfl) cW.cl nZ.mt GX (hr.mono (by decide)) nZ.b .nil Bg (aa (pv 0) ah))))) ah)))),?_⟩
 refine⟨rfl,_,rfl,r,row,rfl,hr1,ok,by omega,fun n H1 hn s1 fn=>?_⟩
 refine⟨n,rfl,⟨_,bG.of hn⟩,fun acc hacc=>jo (K:=K) (a:=n) (xs:=(aS row).map V.int) (fun i σ H2=>∃ u:Option V,σ=[u,some (.ref x),some (vQ v)]∧H2 acc=some (.lst ((((aS row).take i).map (nY aB bK v)).map vQ))∧aH H1 H2) ⟨none,rfl,af,aj hacc _⟩ (fun i σ H2 _ ⟨_,_,_,s2⟩=>bG.of (s2 _ _ hn)) ?_ ?_⟩
 ·rintro i y σ H2 hi ⟨u,rfl,h2,s2⟩
  rw[qG]at hi
  obtain⟨a,ei,rfl⟩:=Option.map_eq_some_iff.mp hi
  have il:=(List.getElem?_eq_some_iff.mp ei).1
  obtain⟨a0,a1⟩:=ia a (rW ei)
  have FN:=LU.same (s1.trans s2)
  have nx:((((aS row).take (i+1)).map (nY aB bK v)).map vQ)=(((aS row).take i).map (nY aB bK v)).map vQ++[vQ (nY aB bK v a)]:=by
   rw[take_snoc ei,lK,lK]
   rfl
  refine⟨_,rfl,x,C,d,_,.ref bl,rfl,FN.L.hx,aJ.cl,DB,rfl,bl,db,_,rfl,FN.B,rfl,_,rfl,bl,db,tb,bK,a,rfl,FN.B,FN.R,FN.Ct,?_⟩
  cases g:PX bK a with
  | true =>
   have e:nY aB bK v a=v:=if_pos g
   refine⟨_,rfl,jI ⟨_,rfl,_,h2,aL (by rw[bY,bY,ko];omega),_,rfl,?_,bV hacc s2 (aI acc _ _)⟩⟩
   rw[af,nx,e]
  | false =>
   have e:nY aB bK v a=((aB[a.toNat]?).map Prod.snd).getD 0:=if_neg (by rw[g];exact jX)
   refine⟨_,rfl,i7 ⟨_,rfl,x,C,d,_,.ref wl,rfl,FN.L.hx,aJ.cl,nw,rfl,wl,dw,_,rfl,FN.W.hx,rfl,_,rfl,SW,wl,dw,sg,ow,pw,nW,aB,a,rfl,FN.W,⟨by omega,by omega⟩,li,fun j q ej eq=>?_,fun nw'=>absurd ⟨a0,a1⟩ nw'⟩⟩
   have et:a.toNat=j:=by omega
   rw[et,eq]at e
   refine⟨_,h2,aL (by rw[bY,bY,ko];omega),_,rfl,?_,bV hacc s2 (aI acc _ _)⟩
   rw[af,nx,e]
   rfl
 ·rintro σ H2 ⟨u,rfl,h2,s2⟩
  rw[bY,kr]at h2
  exact⟨acc,_,rfl,rfl,h2,by rw[bY];omega,k H2 (s1.trans s2)⟩
theorem xO{f C CS CW CB XS XM XT XO XP fS fZ f1 f2:Addr}{fd g1 g2:FuncData}(F:gX K "text" "Library.text" jO f fd)(X:zU K mg C CS CW CB XS XM XT XO XP)(A1:JN K mg CS)(A4:QZ K mg fS fZ)(A5:Mj K mg CW CB)(bh:aN K C "shown" "Library.shown" dh Am f1 g1)(dH:aN K C "veiled" "Library.veiled" dG J4 f2 g2):aF P w K mg base (qC P w) 6 f fd Am (wB C CS CW CB XS):=by
 have xP:aF P w K mg base bN 4 _ _ J4 (zY C CS CW CB):=vc dH.F X A5
 obtain⟨LM,_,_,_,_,_,_,_,_⟩:=X
 have ju:aF P w K mg base (qC P w) 5 _ _ Am (rj C CS XS):=lD bh.F LM A1 A4
 obtain⟨⟨T,_,_,_,_,_⟩,⟨fi,aJ⟩,nw,ns,DB,nk,nd,DC,cP,G⟩:=LM
 obtain⟨NL,NN⟩:=G.h
 refine HG F zZ (fun vs H Q E h=>?_) (fun cdv A outer s0 H vs Q E hr h=>?_)
 ·obtain⟨U,x,pe,lines,aB,nW,bK,rows,s,rfl,_⟩:=h
  rfl
 obtain⟨U,x,pe,lines,aB,nW,bK,rows,s,rfl,LB,hl,l1,l2,li,fs,k1,k2⟩:=h
 obtain⟨S,SW,d,wl,sh,bl,kn,du,bk,dS,st,op,dw,sg,ow,pw,db,tb,ops,LU⟩:=id LB
 refine⟨_,(ao (aM (cM (pv 0) aJ.cl dH.mt xP (hr.mono (by decide)) dH.b .nil cK (aa (cM (pv 0) aJ.cl bh.mt ju (hr.mono (by decide)) bh.b .nil qP (aa (pv 1) ah)) (aa (BW (v:=.str (Str.ofString "#")) rfl NN ⟨NL,rfl⟩) ah))))),?_⟩
 refine⟨_,rfl,x,d,_,rfl,LU.L.hx,rfl,_,rfl,x,d,_,rfl,LU.L.hx,rfl,_,rfl,S,x,d,wl,sh,bl,kn,du,bk,dS,st,op,pe,ops,lines,rows,s,rfl,LU.L,hl,l1,l2,fs,k1,fun ia=>?_⟩
 obtain⟨f0,sn,ha,k3⟩:=k2 ia
 refine⟨f0,sn,fun o H1 ho s1 fo=>?_⟩
 have ls:=sn.ln s ia.1 ia.2
 exact⟨U,x,o,pe,lines,aB,nW,bK,rowOf (f0 s),35,by rw[show Str.ofString "#"=⟨#[35]⟩ by decide +kernel];rfl,LB.same s1,ho,pK _,by rw[dX];omega,li,by rw[dX];exact ha,by rw[dX];exact fun H2 s2=>k3 H2 (s1.trans s2)⟩
theorem We.l6{C C':Addr}{S:Addr→Prop}{H H':Hp}{x d s o p l d':Addr}{n:Nat}{aB:jW}{fs:List (Str × V)}(h:We C S H x d s o p n aB)(hl:H l=some (.ins C' d' fs))(nl:¬ S l)(k:cA l H H'):We C S H' x d s o p n aB :=
 h.fr (fun a ob e z=>k a ob e (fun q=>nl (by rw[← q];exact z))) (fun a xs e=>k _ _ e (cE e hl (by intro z;cases z)))
theorem bP.l6{C':Addr}{H H':Hp}{r l d':Addr}{row:Row}{fs:List (Str × V)}(h:bP H r row)(hl:H l=some (.ins C' d' fs))(k:cA l H H'):bP H' r row :=
 h.two (fun xs e=>k _ _ e (cE e hl (by intro z;cases z))) (fun a xs e=>k _ _ e (cE e hl (by intro z;cases z)))
theorem pS{H:Hp}{xw dw a:Addr}{o:HO}(e:(upd (upd H dw (.own xw)) xw o) a=none):H a=none:=by
 by_cases z1:a=xw
 ·rw[z1,af]at e;cases e
 rw[aC z1]at e
 by_cases z2:a=dw
 ·rw[z2,af]at e;cases e
 rw[aC z2]at e
 exact e
inductive wD(C CS CW CB:Addr)(vs:List V)(H:Hp)(Q:VK)(E:XK):Prop
 | mk (x d:Addr) (_:vs=[.ref x]) (_:H x=some (.ins C d [])) (_: ∀ (U:Addr→Prop) (H':Hp),Al C CS CW CB U H' x [[]] [] [] 0 []→(∀ a,U a→a=x∨H a=none)→cA x H H'→Q .jE H'):wD C CS CW CB vs H Q E
theorem ud:aG ["self"] ["self"] (ay iW):=⟨rfl,rfl,rfl,by decide +kernel,rfl,by decide +kernel,by decide +kernel⟩
theorem su{f C CS XS XM XT CW CB CT CD f1 f2 f3 f4 f5:Addr}{fd g1 g2 g3 g4 g5:FuncData}(F:gX K "__init__" "Library.__init__" iW f fd)(L:zN K mg C CS XS XM XT)(bJ:ClsAt K mg "Shelf" CS f1)(jU:aN K CS "__init__" "Shelf.__init__" iM gZ f1 g1)
  (cW:ClsAt K mg "Well" CW f2) (kJ:aN K CW "__init__" "Well.__init__" jg gZ f2 g2) (w1:aU K CW "signs") (w2:aU K CW "owners") (w3:aU K CW "pourings")
  (lE:ClsAt K mg "Blots" CB f3) (jV:aN K CB "__init__" "Blots.__init__" iL gZ f3 g3) (b1:aU K CB "stains")
  (Fg:ClsAt K mg "Ties" CT f4) (kK:aN K CT "__init__" "Ties.__init__" je gZ f4 g4) (t1:aU K CT "given") (t2:aU K CT "pairs")
  (Fi:ClsAt K mg "Dues" CD f5) (kL:aN K CD "__init__" "Dues.__init__" jf gZ f5 g5) (u1:aU K CD "sums"):aF P w K mg base bN 3 f fd gZ (wD C CS CW CB):=by
 obtain⟨M,⟨fi,aJ⟩,nw,ns,DB,nk,nd,DC,cP,G⟩:=L
 obtain⟨T,_,n1,n2,eT,dc⟩:=M
 have xQ:aF P w K mg base bN 1 _ _ gZ (CN CS):=uW jU.F bJ.cl n1 n2
 have Aa:aF P w K mg base bN 1 _ _ gZ (CV CW):=wj kJ.F cW.cl w1 w2 w3
 have xR:aF P w K mg base bN 1 _ _ gZ (Cu CB):=uN jV.F lE.cl b1
 have Ab:aF P w K mg base bN 1 _ _ gZ (uY CT):=we kK.F Fg.cl t1 t2
 have Ac:aF P w K mg base bN 1 _ _ gZ (uY CD):=wc kL.F Fi.cl u1
 refine F.ok ud (fun vs H Q E h=>?_) (fun cdv A outer s H vs Q E hr h=>?_)
 ·obtain⟨x,d,rfl,_⟩:=h
  rfl
 obtain⟨x,d,rfl,hx,k⟩:=h
 refine⟨_,(ak (jY (pv 0) (pD cW.QO Aa (hr.mono (by decide)) rfl cW.m kJ.b .nil cK) rfl)
   (ak (jY (pv 0) (pD bJ.QO xQ (hr.mono (by decide)) rfl bJ.m jU.b .nil cK) rfl)
   (ak (jY (pv 0) (pD lE.QO xR (hr.mono (by decide)) rfl lE.m jV.b .nil cK) rfl)
   (ak (jY (pv 0) (pD Fg.QO Ab (hr.mono (by decide)) rfl Fg.m kK.b .nil cK) rfl)
   (ak (jY (pv 0) (pD Fi.QO Ac (hr.mono (by decide)) rfl Fi.m kL.b .nil cK) rfl)
   (ao (jY (pv 0) (bI ah) rfl))))))),?_⟩
 intro wl dw hw1 hw2 _
 refine⟨wl,dw,rfl,af,fun sg ow pw H1 V1 k1 fsg fow fpw=>⟨rfl,?_⟩⟩
 have s1:=ng hw1 hw2 k1
 have fW:∀ a,(a=wl∨a=sg∨a=ow∨a=pw)→H a=none:=fun a e=>by
  rcases e with rfl|rfl|rfl|rfl
  ·exact hw1
  ·exact pS fsg
  ·exact pS fow
  ·exact pS fpw
 have Qn:¬ (x=wl∨x=sg∨x=ow∨x=pw):=fun e=>by
  have:=fW x e
  rw[hx]at this
  cases this
 refine⟨_,rfl,x,C,d,_,rfl,s1 _ _ hx,aJ.cl,nw,by decide,?_⟩
 have q2:cA x H (upd H1 x (.ins C d (L2.cT "well" (.ref wl) []))):=cA.trans (iR.aH.keep s1) (aI x _ _)
 have x2:(upd H1 x (.ins C d (L2.cT "well" (.ref wl) []))) x=some (.ins C d [("well",.ref wl)]):=af
 have kx2:cA x H1 (upd H1 x (.ins C d (L2.cT "well" (.ref wl) []))):=aI x _ _
 generalize upd H1 x (.ins C d (L2.cT "well" (.ref wl) []))=H2 at q2 x2 kx2
 have V2:=V1.l6 (s1 _ _ hx) Qn kx2
 intro sh dS hs1 hs2 _
 refine⟨sh,dS,rfl,af,fun st op z H3 W3 k3 fst fop fz=>⟨rfl,?_⟩⟩
 have s3:=ng hs1 hs2 k3
 have up:∀ a,(upd (upd H2 dS (.own sh)) sh (.ins CS dS [])) a=none→H2 a=none:=fun a e=>by
  by_cases z1:a=sh
  ·rw[z1,af]at e;cases e
  rw[aC z1]at e
  by_cases z2:a=dS
  ·rw[z2,af]at e;cases e
  rw[aC z2]at e
  exact e
 have fS:∀ a,(a=sh∨a=st∨a=op∨a=z)→H2 a=none:=fun a e=>by
  rcases e with rfl|rfl|rfl|rfl
  ·exact hs1
  ·exact up _ fst
  ·exact up _ fop
  ·exact up _ fz
 have Qo:¬ (x=sh∨x=st∨x=op∨x=z):=fun e=>by
  have:=fS x e
  rw[x2]at this
  cases this
 have x3:=s3 _ _ x2
 have V3:=V2.same s3
 refine⟨_,rfl,x,C,d,_,rfl,x3,aJ.cl,ns,(by show 1<1000;decide),?_⟩
 have k4:cA x H3 (upd H3 x (.ins C d (L2.cT "shelf" (.ref sh) [("well",.ref wl)]))):=aI x _ _
 have x4:(upd H3 x (.ins C d (L2.cT "shelf" (.ref sh) [("well",.ref wl)]))) x=some (.ins C d [("well",.ref wl),("shelf",.ref sh)]):=af
 generalize upd H3 x (.ins C d (L2.cT "shelf" (.ref sh) [("well",.ref wl)]))=H4 at k4 x4
 have W4:=W3.l6 x3 Qo k4
 have V4:=V3.l6 x3 Qn k4
 have q4:cA x H H4:=(q2.trans (iR.aH.keep s3)).trans k4
 intro bl db hb1 hb2 _
 refine⟨bl,db,rfl,af,fun tb H5 B5 R5 k5 ftb=>⟨rfl,?_⟩⟩
 have s5:=ng hb1 hb2 k5
 have Qp:=pS ftb
 have x5:=s5 _ _ x4
 have W5:=W4.same s5
 have V5:=V4.same s5
 have LY:bl≠x:=(au x4 hb1).symm
 refine⟨_,rfl,x,C,d,_,rfl,x5,aJ.cl,DB,(by show 2<1000;decide),?_⟩
 have k6:cA x H5 (upd H5 x (.ins C d (L2.cT "blots" (.ref bl) [("well",.ref wl),("shelf",.ref sh)]))):=aI x _ _
 have x6:(upd H5 x (.ins C d (L2.cT "blots" (.ref bl) [("well",.ref wl),("shelf",.ref sh)]))) x=some (.ins C d [("well",.ref wl),("shelf",.ref sh),("blots",.ref bl)]):=af
 generalize upd H5 x (.ins C d (L2.cT "blots" (.ref bl) [("well",.ref wl),("shelf",.ref sh)]))=H6 at k6 x6
 have W6:=W5.l6 x5 Qo k6
 have V6:=V5.l6 x5 Qn k6
 have B6:Bl CB H6 bl db tb:=k6 _ _ B5 LY
 have R6:=R5.l6 x5 k6
 have q6:cA x H H6:=(q4.trans (iR.aH.keep s5)).trans k6
 intro kn dk hk1 hk2 _
 refine⟨kn,dk,rfl,af,fun fs7 H7 _ k7=>⟨rfl,?_⟩⟩
 have s7:=ng hk1 hk2 k7
 have x7:=s7 _ _ x6
 have W7:=W6.same s7
 have V7:=V6.same s7
 have B7:Bl CB H7 bl db tb:=s7 _ _ B6
 have R7:=R6.same s7
 refine⟨_,rfl,x,C,d,_,rfl,x7,aJ.cl,nk,(by show 3<1000;decide),?_⟩
 have k8:cA x H7 (upd H7 x (.ins C d (L2.cT "knots" (.ref kn) [("well",.ref wl),("shelf",.ref sh),("blots",.ref bl)]))):=aI x _ _
 have x8:(upd H7 x (.ins C d (L2.cT "knots" (.ref kn) [("well",.ref wl),("shelf",.ref sh),("blots",.ref bl)]))) x=some (.ins C d [("well",.ref wl),("shelf",.ref sh),("blots",.ref bl),("knots",.ref kn)]):=af
 generalize upd H7 x (.ins C d (L2.cT "knots" (.ref kn) [("well",.ref wl),("shelf",.ref sh),("blots",.ref bl)]))=H8 at k8 x8
 have W8:=W7.l6 x7 Qo k8
 have V8:=V7.l6 x7 Qn k8
 have B8:Bl CB H8 bl db tb:=k8 _ _ B7 LY
 have R8:=R7.l6 x7 k8
 have q8:cA x H H8:=(q6.trans (iR.aH.keep s7)).trans k8
 intro du dd hd1 hd2 _
 refine⟨du,dd,rfl,af,fun fs9 H9 _ k9=>⟨rfl,?_⟩⟩
 have s9:=ng hd1 hd2 k9
 have x9:=s9 _ _ x8
 have W9:=W8.same s9
 have V9:=V8.same s9
 have B9:Bl CB H9 bl db tb:=s9 _ _ B8
 have R9:=R8.same s9
 refine⟨_,rfl,x,C,d,_,rfl,x9,aJ.cl,nd,(by show 4<1000;decide),?_⟩
 have Ml:cA x H9 (upd H9 x (.ins C d (L2.cT "dues" (.ref du) [("well",.ref wl),("shelf",.ref sh),("blots",.ref bl),("knots",.ref kn)]))):=aI x _ _
 have OB:(upd H9 x (.ins C d (L2.cT "dues" (.ref du) [("well",.ref wl),("shelf",.ref sh),("blots",.ref bl),("knots",.ref kn)]))) x=some (.ins C d [("well",.ref wl),("shelf",.ref sh),("blots",.ref bl),("knots",.ref kn),("dues",.ref du)]):=af
 generalize upd H9 x (.ins C d (L2.cT "dues" (.ref du) [("well",.ref wl),("shelf",.ref sh),("blots",.ref bl),("knots",.ref kn)]))=Ej at Ml OB
 have W10:=W9.l6 x9 Qo Ml
 have V10:=V9.l6 x9 Qn Ml
 have B10:Bl CB Ej bl db tb:=Ml _ _ B9 LY
 have R10:=R9.l6 x9 Ml
 have uo:cA x H Ej:=(q8.trans (iR.aH.keep s9)).trans Ml
 refine⟨(by show 0≤sizeLine;decide),fun bk OC=>⟨_,rfl,x,C,d,_,rfl,aj OC _ _ _ OB,aJ.cl,DC,(by show 5<1000;decide),?_⟩⟩
 have nbx:bk≠x:=(au OB OC).symm
 have nSb:¬ (bk=sh∨bk=st∨bk=op∨bk=z):=fun e=>by
  obtain⟨ob,w⟩:=W10.al bk e
  rw[OC]at w
  cases w
 have ou:=aj OC (.lst [])
 have Tr:cA x (upd Ej bk (.lst [])) (upd (upd Ej bk (.lst [])) x (.ins C d (L2.cT "book" (.ref bk) [("well",.ref wl),("shelf",.ref sh),("blots",.ref bl),("knots",.ref kn),("dues",.ref du)]))):=aI x _ _
 have W12:=(W10.same ou).l6 (ou _ _ OB) Qo Tr
 have V12:=(V10.same ou).l6 (ou _ _ OB) Qn Tr
 have B12:=Tr _ _ (ou _ _ B10) LY
 have R12:=(R10.same ou).l6 (ou _ _ OB) Tr
 obtain⟨as5,hR5,_⟩:=id R5
 have Tt:∀ a,(a=sh∨a=st∨a=op∨a=z)→a=x∨H a=none:=fun a e=>.inr (jy q2 (fun e'=>by rw[e']at e;exact Qo e) (fS a e))
 refine k (fun a=>(a=sh∨a=st∨a=op∨a=z)∨(a=wl∨a=sg∨a=ow∨a=pw)∨a=bk∨a=x∨a=bl∨a=tb) _ ⟨_,_,d,wl,sh,bl,kn,du,bk,dS,st,op,dw,sg,ow,pw,db,tb,[],⟨af,W12,?_,Qo,nSb⟩,V12,B12,R12,?_,?_,?_,?_,fun a=>Iff.rfl⟩ ?_ ((uo.trans (iR.aH.keep ou)).trans Tr)
 ·rw[aC nbx]
  exact af
 ·exact⟨.nil,fun _ z=>by cases z⟩
 ·intro a ea
  obtain⟨ob,hob⟩:=V2.al a ea
  refine⟨fun es=>?_,fun eb=>?_,fun ex=>?_⟩
  ·rw[fS a es]at hob;cases hob
  ·obtain⟨ob',w⟩:=V10.al a ea
   rw[eb,OC]at w
   cases w
  ·rw[ex]at ea;exact Qn ea
 ·refine⟨fun es=>?_,fun ew=>?_,fun eb=>?_⟩
  ·obtain⟨ob,w⟩:=W4.al bl es
   rw[hb1]at w;cases w
  ·obtain⟨ob,w⟩:=V4.al bl ew
   rw[hb1]at w;cases w
  ·rw[eb]at B10
   have Tu:Ej bk=some _:=B10
   rw[OC]at Tu;cases Tu
 ·refine⟨fun es=>?_,fun ew=>?_,fun eb=>?_⟩
  ·obtain⟨ob,w⟩:=W4.al tb es
   rw[Qp]at w;cases w
  ·obtain⟨ob,w⟩:=V4.al tb ew
   rw[Qp]at w;cases w
  ·obtain⟨as,hR,_⟩:=id R10
   rw[eb,OC]at hR;cases hR
 ·intro a ea
  rcases ea with ea|ea|ea|ea|ea|ea
  ·exact Tt a ea
  ·exact .inr (fW a ea)
  ·rw[ea];exact .inr (jy uo nbx OC)
  ·exact .inl ea
  ·rw[ea];exact .inr (jy q4 LY hb1)
  ·by_cases ex:a=x
   ·exact .inl ex
   ·rw[ea]at ex ⊢;exact .inr (jy q4 ex Qp)
theorem LZ{z:Str}{i:Int}{n:Nat}(hn:z.length=n)(h0:0≤i)(h1:i<n):∃ c,uE z.cps.toList i=some c:=by
 have hl:i.toNat<z.cps.toList.length:=by
  have:z.cps.toList.length=z.length:=by show _=z.cps.size;simp
  omega
 refine⟨z.cps.toList[i.toNat],?_⟩
 have e:uE z.cps.toList ((i.toNat:Nat):Int)=some z.cps.toList[i.toNat]:=cU (by simp)
 rw[Int.toNat_of_nonneg h0]at e
 exact e
inductive Dj(vs:List V)(H:Hp)(Q:VK)(E:XK):Prop
 | mk (l c:Addr) (b:Bool) (_:vs=[.ref l,.bl b]) (_:cV H l c) (_: ∀ (ch:Nat) (H':Hp),cV H' l c→(∀ a,a≠l→H' a=H a)→Q (vQ ch) H'):Dj vs H Q E
inductive Dk(vs:List V)(H:Hp)(Q:VK)(E:XK):Prop
 | mk (l c:Addr) (m:Nat) (_:vs=[.ref l,.int (m:Nat)]) (_:cV H l c) (_:m≤1000) (_: ∀ (cs:List Nat) (H':Hp),cs.length=m→cV H' l c→cA l H H'→Q (.str (txt cs)) H'):Dk vs H Q E
theorem xg:aG ["_law_src_here","_law_few","_law_some"] ["_law_src_here","_law_few"] (ay jZ):=⟨rfl,rfl,rfl,by decide +kernel,rfl,by decide +kernel,by decide +kernel⟩
theorem xh:aG ["_law_src_here","_law_many","_law_few"] ["_law_src_here","_law_many"] (ay j0):=⟨rfl,rfl,rfl,by decide +kernel,rfl,by decide +kernel,by decide +kernel⟩
theorem Fj{f fN:Addr}{fd Ow:FuncData}(F:gX K "_law_sign" "_law_sign" jZ f fd)(T:n9 mg)(aR:aA K mg "_law_next" iz vn fN Ow):aF P w K mg base bN 2 f fd Iz Dj:=by
 have bF:aF P w K mg base bN 1 fN Ow vn qO:=ki aR.F T
 refine F.ok xg (fun vs H Q E h=>?_) (fun cdv A outer s H vs Q E hr h=>?_)
 ·obtain⟨l,c,b,rfl,_⟩:=h
  rfl
 obtain⟨l,c,b,rfl,S,k⟩:=h
 refine⟨_,(ak (aQ (i:=2) xg.nd rfl (Or.inl rfl) bT)
   (ak (cy (nv (pv 1) (fun _=>rfl))
   (ao (aM (bu Kr bT (aP aR bF hr (aa (pv 0) (aa az ah))) (fun _ _=>rfl))))
   bC)
   (ao (aM (bu Kr (pv 2) (aP aR bF hr (aa (pv 0) (aa az ah))) (fun _ _=>rfl)))))),?_⟩
 refine⟨_,rfl,b,rfl,ff (fun _=>?_) (fun _=>?_)⟩
 ·refine⟨_,rfl,l,c,4,rfl,S,by decide,by decide,fun v H1 a0 a1 S1 k1=>?_⟩
  obtain⟨ch,e⟩:=LZ (z:=Str.ofString "a# b") (n:=4) (by decide +kernel) a0 a1
  exact⟨_,_,ch,rfl,rfl,(by decide +kernel),e,k ch H1 S1 k1⟩
 ·refine⟨_,rfl,_,rfl,l,c,94,rfl,S,by decide,by decide,fun v H1 a0 a1 S1 k1=>?_⟩
  obtain⟨ch,e⟩:=LZ (z:=Str.ofString " !\"#$&'()*+,-./0123456789:;<=>?@ABCDEFGHIJKLMNOPQRSTUVWXYZ[\\]^_`abcdefghijklmnopqrstuvwxyz{|}~") (n:=94) (by decide +kernel) a0 a1
  exact⟨_,_,ch,rfl,rfl,(by decide +kernel),e,k ch H1 S1 k1⟩
theorem Fl{f fN fS:Addr}{fd Ow Oi:FuncData}(F:gX K "_law_text" "_law_text" j0 f fd)(T:n9 mg)(aR:aA K mg "_law_next" iz vn fN Ow)(iK:aA K mg "_law_sign" jZ Iz fS Oi):aF P w K mg base bN 3 f fd J7 Dk:=by
 have bF:aF P w K mg base bN 1 fN Ow vn qO:=ki aR.F T
 have GZ:aF P w K mg base bN 2 fS Oi Iz Dj:=Fj iK.F T aR
 refine F.ok xh (fun vs H Q E h=>?_) (fun cdv A outer s H vs Q E hr h=>?_)
 ·obtain⟨l,c,m,rfl,_⟩:=h
  rfl
 obtain⟨l,c,m,rfl,S,hm,k⟩:=h
 refine⟨_,(ak (aQ (i:=2) xh.nd rfl (Or.inr rfl) (mP mG (aP aR bF hr (aa (pv 0) (aa az ah))) az (cj _)))
   (ao (aM (jF PySem.F.plainAttrs_str PySem.F.slot_str_join PySem.F.type_str_join za bT (aa (lW (N:=["_law_k","_law_src_here","_law_few"]) (qQ (sc:=ay j0) (NX:=["_law_src_here","_law_many","_law_few"]) (jx:=[none,some 0,some 2]) rfl rfl rfl (by decide +kernel) (by decide +kernel) rfl (by decide +kernel) rfl (by decide +kernel)) rfl (kW rfl T.lH (aa (pv 1) ah)) (fun _ _ _ _ _ _=>(aV (i:=0) (show List.Nodup (["_law_k","_law_src_here","_law_few"]:List Str) by decide +kernel) rfl (Or.inl rfl))) (fun _ _ _ _ _ _=>iG) (fun _ _ _ _ _ _=>(aP iK GZ hr (aa (pv 1) (aa (pv 2) ah))))) ah))))),?_⟩
 refine⟨_,rfl,l,c,2,rfl,S,by decide,by decide,fun v H1 _ _ S1 k1=>⟨rfl,?_⟩⟩
 have K1:cA l H H1:=fun b o e m=>(k1 b m).trans e
 refine⟨rfl,_,rfl,(m:Nat),rfl,by omega,by omega,fun acc hacc=>Ey (lo:=0) (k:=((m:Nat):Int).toNat) (fun i σ H2=>∃ (u:Option V) (cs:List Nat),σ=[u,some (.ref l),some (.bl (decide (V.int v=V.int 0)))]∧H2 acc=some (.lst (cs.map vQ))∧cs.length=i∧cV H2 l c∧cA l H H2) ⟨none,[],rfl,af,rfl,S1.same (aj hacc _),fun b o e m=>aj hacc _ _ _ (K1 _ _ e m)⟩ ?_ ?_⟩
 ·rintro i σ H2 hi ⟨u,cs,rfl,ha,hl,S2,K2⟩
  have na:acc≠l:=(S1.ne hacc).1.symm
  have nc:acc≠c:=(S1.ne hacc).2.symm
  refine⟨_,rfl,_,rfl,l,c,_,rfl,S2,fun ch H3 S3 k3=>⟨_,by rw[k3 acc na];exact ha,(by rw[bY];exact aL (by omega)),_,cs++[ch],rfl,?_,?_,?_,?_⟩⟩
  ·rw[af,lK]
   rfl
  ·rw[eZ,hl]
   rfl
  ·exact S3.keep (aI acc _ _) na.symm nc.symm
  ·intro b o e m
   by_cases z:b=acc
   ·rw[z]at e
    have:=jy K1 na hacc
    rw[this]at e
    cases e
   rw[aC z,k3 b m]
   exact K2 _ _ e m
 ·rintro σ H2 ⟨u,cs,rfl,ha,hl,S2,K2⟩
  have hl':cs.length=m:=by omega
  exact⟨acc,cs,rfl,rfl,ha,by omega,k cs H2 hl' S2 K2⟩
theorem vd{α β:Type}{F:α→β→Prop}:∀ {xs:List α} {ys:List β} {x:α} {y:β},Paired F xs ys→F x y→Paired F (xs++[x]) (ys++[y])
 | _,_,_,_,.nil,e=>.cons e .nil
 | _,_,_,_,.cons r t,e=>.cons r (vd t e)
theorem sZ{α β:Type}{F:α→β→Prop}:∀ {xs xs':List α} {ys ys':List β},Paired F xs ys→Paired F xs' ys'→Paired F (xs++xs') (ys++ys')
 | _,_,_,_,.nil,t=>t
 | _,_,_,_,.cons e r,t=>.cons e (sZ r t)
def OD(H:Hp)(a:Addr)(q:Int × Nat):Prop:=H a=some (.tup [.int q.1,vQ q.2])
inductive Ad(H:Hp)(v:Addr)(aB:jW):Prop
 | mk (as:List Addr) (_:H v=some (.lst (as.map V.ref))) (_:Paired (OD H) as aB):Ad H v aB
abbrev kI:Key:=.inr (Str.ofString "ink")
abbrev kR:Key:=.inr (Str.ofString "rows")
abbrev kP:Key:=.inr (Str.ofString "past")
abbrev kVl:Key:=.inr (Str.ofString "veil")
abbrev Ae(ik rw ps vl:Addr):List (Key × V):=[(kI,.ref ik),(kR,.ref rw),(kP,.ref ps),(kVl,.ref vl)]
def Q4(W:Addr→Prop)(ik ps:Addr)(H:Hp)(v:V)(es:List Int):Prop:=∃ b,v=.ref b∧W b∧b≠ik∧b≠ps∧H b=some (.lst (es.map V.int))
def NO(W:Addr→Prop)(ik ps:Addr)(H:Hp)(a:Addr)(rows:eY):Prop:=W a∧a≠ik∧a≠ps∧∃ vs,H a=some (.lst vs)∧bR (Q4 W ik ps H) vs rows
structure NP(W:Addr→Prop)(H:Hp)(w ik rw ps vl:Addr)(aB:jW)(pe:mK)(rows:eY):Prop where
 ww:W w
 wi:W ik
 wp:W ps
 wv:W vl
 al:∀ a,W a→∃ ob,H a=some ob
 hw:H w=some (.dK (Ae ik rw ps vl))
 hi:Ad H ik aB
 hr:NO W ik ps H rw rows
 hp:∃ vs,H ps=some (.lst vs)∧bR (fun v rs=>∃ a,v=.ref a∧NO W ik ps H a rs) vs pe
 ne:ik≠ps
 lst:pe.getLast?=some rows
def Wo(W:Addr→Prop)(H:Hp)(w:Addr)(aB:jW)(pe:mK)(rows:eY):Prop:=∃ ik rw ps vl,NP W H w ik rw ps vl aB pe rows
theorem Q4.fr{W W':Addr→Prop}{ik ps:Addr}{H H':Hp}{v:V}{es:List Int}(s:∀ a,W a→W' a)(k:∀ a xs,H a=some (.lst xs)→W a→a≠ik→a≠ps→H' a=some (.lst xs)):Q4 W ik ps H v es→Q4 W' ik ps H' v es:=fun ⟨b,e,w,n1,n2,h⟩=>⟨b,e,s _ w,n1,n2,k _ _ h w n1 n2⟩
theorem NO.fr{W W':Addr→Prop}{ik ps:Addr}{H H':Hp}{a:Addr}{rows:eY}(s:∀ a,W a→W' a)(k:∀ a xs,H a=some (.lst xs)→W a→a≠ik→a≠ps→H' a=some (.lst xs)):NO W ik ps H a rows→NO W' ik ps H' a rows:=fun ⟨w,n1,n2,vs,h,al⟩=>⟨s _ w,n1,n2,vs,k _ _ h w n1 n2,al.mono fun _ _=>Q4.fr s k⟩
theorem Ad.two{H H':Hp}{v:Addr}{aB:jW}(h:Ad H v aB)(k:∀ xs,H v=some (.lst xs)→H' v=some (.lst xs))(t:∀ a xs,H a=some (.tup xs)→H' a=some (.tup xs)):Ad H' v aB:=by
 obtain⟨as,hv,pa⟩:=h
 exact⟨as,k _ hv,Paired.DJ pa fun a q e=>t _ _ e⟩
theorem NP.fr{W:Addr→Prop}{H H':Hp}{w ik rw ps vl:Addr}{aB:jW}{pe:mK}{rows:eY}(h:NP W H w ik rw ps vl aB pe rows)(k:∀ a ob,H a=some ob→W a→H' a=some ob)(t:∀ a xs,H a=some (.tup xs)→H' a=some (.tup xs)):NP W H' w ik rw ps vl aB pe rows:=by
 obtain⟨ww,wi,wp,wv,al,hw,hi,hr,⟨vs,hp,a2⟩,ne,lst⟩:=h
 refine⟨ww,wi,wp,wv,fun a z=>?_,k _ _ hw ww,hi.two (fun xs e=>k _ _ e wi) t,hr.fr (fun _ z=>z) (fun a xs e z _ _=>k _ _ e z),⟨vs,k _ _ hp wp,a2.mono fun v rs ⟨a,e,z⟩=>⟨a,e,z.fr (fun _ y=>y) (fun a xs e y _ _=>k _ _ e y)⟩⟩,ne,lst⟩
 obtain⟨ob,e⟩:=al a z
 exact⟨ob,k _ _ e z⟩
theorem Wo.fr{W:Addr→Prop}{H H':Hp}{w:Addr}{aB:jW}{pe:mK}{rows:eY}(h:Wo W H w aB pe rows)(k:∀ a ob,H a=some ob→W a→H' a=some ob)(t:∀ a xs,H a=some (.tup xs)→H' a=some (.tup xs)):Wo W H' w aB pe rows:=by
 obtain⟨ik,rw,ps,vl,z⟩:=h
 exact⟨ik,rw,ps,vl,z.fr k t⟩
theorem Wo.same{W:Addr→Prop}{H H':Hp}{w:Addr}{aB:jW}{pe:mK}{rows:eY}(h:Wo W H w aB pe rows)(s:aH H H'):Wo W H' w aB pe rows:=h.fr (fun a ob e _=>s a ob e) fun a xs e=>s _ _ e
def Ii:Sp:=fun vs H Q _=>vs=[]∧∀ (W:Addr→Prop) (w:Addr) (H':Hp),Wo W H' w [] [[]] []→(∀ a,W a→H a=none)→aH H H'→Q (.ref w) H'
theorem Dl:aG [] [] (ay lS):=⟨rfl,rfl,rfl,by decide +kernel,rfl,by decide +kernel,by decide +kernel⟩
theorem Tv{X:Cx}{s1 s2 s3 s4:Str}{a1 a2 a3 a4:Nat}{p1 p2 p3 p4 pos:Pos}{v1 v2 v3 v4:Expr}{t1 t2 t3 t4:TE}(h1:PE X v1 t1)(h2:PE X v2 t2)(h3:PE X v3 t3)(h4:PE X v4 t4) :
  PE X (.Dict [some (.Constant (.str s1) a1 p1),some (.Constant (.str s2) a2 p2),some (.Constant (.str s3) a3 p3),some (.Constant (.str s4) a4 p4)] [v1,v2,v3,v4] pos) (Lc [(tC (.str s1),t1),(tC (.str s2),t2),(tC (.str s3),t3),(tC (.str s4),t4)]) :=
 M8 (uK bT h1 (uK bT h2 (uK bT h3 (uK bT h4 M7)))) rfl rfl (by simp) (by show 4≤15;decide)
abbrev tWo:TE:=Lc [(tC (.str (Str.ofString "ink")),IP BY),(tC (.str (Str.ofString "rows")),IP BY),(tC (.str (Str.ofString "past")),IP (N7 (IP BY) BY)),(tC (.str (Str.ofString "veil")),IP BY)]
theorem L0:∃ (e:Expr) (p:Pos),kB lS=[.Return (some e) p]∧∀ X:Cx,PE X e tWo :=
 ⟨_,_,rfl,fun X=>@Tv X _ _ _ _ _ _ _ _ _ _ _ _ _ _ _ _ _ _ _ _ _ (bI ah) (bI ah) (bI (aa (bI ah) ah)) (bI ah)⟩
theorem Dm{f:Addr}{fd:FuncData}(F:gX K "_law_world" "_law_world" lS f fd):aF P w K mg base bN 1 f fd [] Ii:=by
 refine F.ok Dl (fun vs H Q E h=>?_) (fun cdv A outer s H vs Q E hr h=>?_)
 ·obtain⟨rfl,_⟩:=h
  rfl
 obtain⟨rfl,k⟩:=h
 obtain⟨e,p,he,pw⟩:=L0
 rw[he]
 refine⟨_,ao (aM (pw _)),?_⟩
 intro w hw
 refine⟨(by show 0≤sizeLine;decide),fun ik hik=>⟨(by show 0≤sizeLine;decide),fun rw hrw=>⟨(by show 0≤sizeLine;decide),fun z hz=>⟨(by show 1≤sizeLine;decide),fun ps hps=>⟨(by show 0≤sizeLine;decide),fun vl hvl=>?_⟩⟩⟩⟩⟩
 have s0:=aj hw (.dK [])
 have w0:(upd H w (.dK [])) w=some (.dK []):=af
 generalize upd H w (.dK [])=H0 at s0 w0 hik hrw hz hps hvl
 have s1:=aj hik (.lst [])
 have i1:(upd H0 ik (.lst [])) ik=some (.lst []):=af
 generalize upd H0 ik (.lst [])=H1 at s1 i1 hrw hz hps hvl
 have s2:=aj hrw (.lst [])
 have r2:(upd H1 rw (.lst [])) rw=some (.lst []):=af
 generalize upd H1 rw (.lst [])=H2 at s2 r2 hz hps hvl
 have s3:=aj hz (.lst [])
 have z3:(upd H2 z (.lst [])) z=some (.lst []):=af
 generalize upd H2 z (.lst [])=H3 at s3 z3 hps hvl
 have s4:=aj hps (.lst [.ref z])
 have p4:(upd H3 ps (.lst [.ref z])) ps=some (.lst [.ref z]):=af
 generalize upd H3 ps (.lst [.ref z])=H4 at s4 p4 hvl
 have s5:=aj hvl (.lst [])
 have v5:(upd H4 vl (.lst [])) vl=some (.lst []):=af
 generalize upd H4 vl (.lst [])=H5 at s5 v5
 have QW:aH H1 H5:=s2.trans (s3.trans (s4.trans s5))
 have s05:aH H0 H5:=s1.trans QW
 have w5:=s05 _ _ w0
 have i5:=QW _ _ i1
 have r5:=(s3.trans (s4.trans s5)) _ _ r2
 have z5:=(s4.trans s5) _ _ z3
 have p5:=s5 _ _ p4
 have nl:∀ {a:Addr} {xs:List V},H5 a=some (.lst xs)→a≠w:=fun {a xs} e q=>by rw[q,w5]at e;cases e
 have n1:rw≠ik:=(au i1 hrw).symm
 have n2:rw≠ps:=au (s3 _ _ r2) hps
 have n3:z≠ik:=(au (s2 _ _ i1) hz).symm
 have n4:z≠ps:=au z3 hps
 have n5:ik≠ps:=au ((s2.trans s3) _ _ i1) hps
 refine⟨w5,Ae ik rw ps vl,rfl,(by show 4≤15;decide),?_⟩
 rw[show vL [] (Ae ik rw ps vl)=Ae ik rw ps vl by kernel_rfl]
 have up:∀ {a:Addr} {xs:List V},H5 a=some (.lst xs)→(upd H5 w (.dK (Ae ik rw ps vl))) a=some (.lst xs):=fun {a xs} e=>by rw[aC (nl e)];exact e
 have f0:∀ a,H0 a=none→H a=none:=fun a e=>aW s0 e
 refine k (fun a=>a=w∨a=ik∨a=rw∨a=z∨a=ps∨a=vl) w _ ⟨ik,rw,ps,vl,.inl rfl,.inr (.inl rfl),.inr (.inr (.inr (.inr (.inl rfl)))),.inr (.inr (.inr (.inr (.inr rfl)))),fun a e=>?_,af,⟨[],up i5,.nil⟩,⟨.inr (.inr (.inl rfl)),n1,n2,[],up r5,.nil⟩,⟨[.ref z],up p5,.cons ⟨z,rfl,.inr (.inr (.inr (.inl rfl))),n3,n4,[],up z5,.nil⟩ .nil⟩,n5,rfl⟩ (fun a e=>?_) (bV hw (s0.trans s05) (aI w _ _))
 ·rcases e with rfl|rfl|rfl|rfl|rfl|rfl
  ·exact⟨_,af⟩
  ·exact⟨_,up i5⟩
  ·exact⟨_,up r5⟩
  ·exact⟨_,up z5⟩
  ·exact⟨_,up p5⟩
  ·exact⟨_,up v5⟩
 ·rcases e with rfl|rfl|rfl|rfl|rfl|rfl
  ·exact hw
  ·exact f0 _ hik
  ·exact f0 _ (aW s1 hrw)
  ·exact f0 _ (aW s1 (aW s2 hz))
  ·exact f0 _ (aW s1 (aW s2 (aW s3 hps)))
  ·exact f0 _ (aW s1 (aW s2 (aW s3 (aW s4 hvl))))
inductive Dn(vs:List V)(H:Hp)(Q:VK)(E:XK):Prop
 | mk (W:Addr→Prop) (w r:Addr) (aB:jW) (pe:mK) (rows rows':eY) (_:vs=[.ref w,.ref r]) (_:Wo W H w aB pe rows) (_:pe.length≤1000) (_:(∀ ik ps,(∃ rw vl,H w=some (.dK (Ae ik rw ps vl)))→NO W ik ps H r rows')) (_: ∀ (H':Hp),Wo W H' w aB (pe++[rows']) rows'→(∀ a ob,H a=some ob→¬ W a→H' a=some ob)→(∀ a xs,H a=some (.tup xs)→H' a=some (.tup xs))→Q .jE H'):Dn vs H Q E
theorem Fo:aG ["_law_world_here","_law_rows"] ["_law_world_here","_law_rows"] (ay j3):=⟨rfl,rfl,rfl,by decide +kernel,rfl,by decide +kernel,by decide +kernel⟩
theorem xj{f:Addr}{fd:FuncData}(F:gX K "_law_keep" "_law_keep" j3 f fd):aF P w K mg base bN 1 f fd FQ Dn:=by
 refine F.ok Fo (fun vs H Q E h=>?_) (fun cdv A outer s H vs Q E hr h=>?_)
 ·obtain⟨W,w,r,aB,pe,rows,rows',rfl,_⟩:=h
  rfl
 obtain⟨W,w,r,aB,pe,rows,rows',rfl,⟨ik,rw,ps,vl,h⟩,lp,hr',k⟩:=h
 have hu:=mH hr
 refine⟨_,(ak (uJ hu (pv 0) bT (pv 1) rfl)
   (ao (bO (jF qz uu uv cF (iY hu (pv 0) bT (fun _ _=>rfl)) (aa (pv 1) ah))))),?_⟩
 have hr2:=hr' ik ps ⟨rw,vl,h.hw⟩
 refine⟨_,rfl,_,rfl,w,_,rfl,Cj.k (k:=kR) h.hw (by show 4<sizeLine;decide),?_⟩
 rw[show putK (Ae ik rw ps vl) kR (.ref r)=Ae ik r ps vl by kernel_rfl]
 obtain⟨Qq,hp,al⟩:=h.hp
 have k1:=aI w H (.dK (Ae ik r ps vl))
 have w1:(upd H w (.dK (Ae ik r ps vl))) w=some (.dK (Ae ik r ps vl)):=af
 have nw:∀ {a:Addr} {o:HO},H a=some o→(∀ kvs,o≠.dK kvs)→a≠w:=fun {a o} e n q=>by rw[q,h.hw]at e;cases e;exact n _ rfl
 generalize upd H w (.dK (Ae ik r ps vl))=H1 at k1 w1
 have hp1:=k1 _ _ hp (nw hp (fun _ z=>by cases z))
 have z:=oz.k (k:=kP) w1
 rw[show bU (Ae ik r ps vl) kP=some (.ref ps) by kernel_rfl]at z
 have lpv:Qq.length=pe.length:=al.len
 refine⟨_,rfl,w,_,rfl,z,.inl ⟨rfl,_,bG.of hp1⟩,_,rfl,ps,_,_,rfl,rfl,hp1,aL (by omega),?_⟩
 have UL:w≠ps:=(nw hp (fun _ z=>by cases z)).symm
 have ls:∀ a xs,H a=some (.lst xs)→a≠ps→(upd H1 ps (.lst (Qq++[.ref r]))) a=some (.lst xs):=fun a xs e n=>by
  rw[aC n]
  exact k1 _ _ e (nw e (fun _ z=>by cases z))
 have tp:∀ a xs,H a=some (.tup xs)→(upd H1 ps (.lst (Qq++[.ref r]))) a=some (.tup xs):=fun a xs e=>by
  rw[aC (cE e hp (by intro z;cases z))]
  exact k1 _ _ e (nw e (fun _ z=>by cases z))
 have rwf:∀ {a:Addr} {rs:eY},NO W ik ps H a rs→NO W ik ps (upd H1 ps (.lst (Qq++[.ref r]))) a rs:=fun {a rs} q=>q.fr (fun _ y=>y) fun a xs e _ _ n=>ls a xs e n
 have Jt:=rwf hr2
 refine k _ ⟨ik,r,ps,vl,h.ww,h.wi,h.wp,h.wv,fun a wa=>?_,?_,h.hi.two (fun xs e=>ls _ _ e h.ne) tp,Jt,⟨_,af,(al.mono fun v rs ⟨a,e,q⟩=>⟨a,e,rwf q⟩).app (.cons ⟨r,rfl,Jt⟩ .nil)⟩,h.ne,vo⟩ (fun a ob e n=>?_) tp
 ·by_cases e1:a=ps
  ·rw[e1];exact⟨_,af⟩
  rw[aC e1]
  by_cases e2:a=w
  ·rw[e2];exact⟨_,w1⟩
  ·obtain⟨ob,e⟩:=h.al a wa
   exact⟨ob,k1 _ _ e e2⟩
 ·rw[aC UL]
  exact w1
 ·rw[aC (fun q=>n (by rw[q];exact h.wp))]
  exact k1 _ _ e (fun q=>n (by rw[q];exact h.ww))
theorem Al.al{C CS CW CB:Addr}{U:Addr→Prop}{H:Hp}{x:Addr}{pe:mK}{lines:mh}{aB:jW}{nW:Nat}{bK:Row}(h:Al C CS CW CB U H x pe lines aB nW bK){a:Addr}(z:U a):∃ ob,H a=some ob:=by
 obtain⟨S,SW,d,wl,sh,bl,kn,du,bk,dS,st,op,dw,sg,ow,pw,db,tb,ops,L,W,B,R,Ct,dj,db',dt,u⟩:=h
 obtain⟨as,hR,_⟩:=R
 rcases (u a).mp z with y|y|y|y|y|y
 ·exact L.W.al a y
 ·exact W.al a y
 ·rw[y];exact⟨_,L.hb⟩
 ·rw[y];exact⟨_,L.hx⟩
 ·rw[y];exact⟨_,B⟩
 ·rw[y];exact⟨_,hR⟩
theorem Wo.al{W:Addr→Prop}{H:Hp}{w:Addr}{aB:jW}{pe:mK}{rows:eY}(h:Wo W H w aB pe rows){a:Addr}(z:W a):∃ ob,H a=some ob:=by
 obtain⟨ik,rw,ps,vl,y⟩:=h
 exact y.al a z
structure xm(C CS CW CB:Addr)(H:Hp)(l c w x:Addr)(U W:Addr→Prop)(pe:mK)(rows:eY)(pq:mK)(rq:eY)(lines:mh)(aB:jW)(nW:Nat)(bK:Row):Prop where
 src:cV H l c
 Mm:Al C CS CW CB U H x pe lines aB nW bK
 lst:pe.getLast?=some rows
 wo:Wo W H w aB pq rq
 du:∀ a,U a→¬ W a∧a≠l∧a≠c
 dw:∀ a,W a→a≠l∧a≠c
def Ij(l:Addr)(U W U' W':Addr→Prop)(H H':Hp):Prop:=(∀ a,U' a∨W' a→U a∨W a∨H a=none)∧(∀ a ob,H a=some ob→a≠l→¬ U a→¬ W a→H' a=some ob)∧∀ a xs,H a=some (.tup xs)→H' a=some (.tup xs)
theorem Ij.trans{l:Addr}{U W U1 W1 U2 W2:Addr→Prop}{H H1 H2:Hp}(f:Ij l U W U1 W1 H H1)(hl:∃ ls,H1 l=some ls)(g:Ij l U1 W1 U2 W2 H1 H2):Ij l U W U2 W2 H H2:=by
 have key:∀ a,U1 a∨W1 a∨H1 a=none→U a∨W a∨H a=none:=by
  intro a z
  rcases z with z|z|z
  ·exact f.1 a (.inl z)
  ·exact f.1 a (.inr z)
  by_cases u:U a
  ·exact .inl u
  by_cases v:W a
  ·exact .inr (.inl v)
  refine .inr (.inr ?_)
  cases ea:H a with
  | none=>rfl
  | some ob =>
   exfalso
   by_cases n:a=l
   ·obtain⟨ls,hl⟩:=hl
    rw[n,hl]at z
    cases z
   rw[f.2.1 _ _ ea n u v]at z
   cases z
 have out:∀ a ob,H a=some ob→¬ U a→¬ W a→¬ U1 a∧¬ W1 a:=by
  intro a ob e u v
  refine⟨fun z=>?_,fun z=>?_⟩
  ·rcases f.1 a (.inl z) with y|y|y
   ·exact u y
   ·exact v y
   ·rw[y]at e;cases e
  ·rcases f.1 a (.inr z) with y|y|y
   ·exact u y
   ·exact v y
   ·rw[y]at e;cases e
 exact⟨fun a z=>key a (g.1 a z),fun a ob e n u v=>g.2.1 _ _ (f.2.1 _ _ e n u v) n (out a ob e u v).1 (out a ob e u v).2,fun a xs e=>g.2.2 _ _ (f.2.2 _ _ e)⟩
theorem xm.mv{C CS CW CB:Addr}{H H':Hp}{l c w x:Addr}{U W:Addr→Prop}{pe:mK}{rows:eY}{pq:mK}{rq:eY}{lines:mh}{aB:jW}{nW:Nat}{bK:Row}(h:xm C CS CW CB H l c w x U W pe rows pq rq lines aB nW bK)(k:cA l H H')(s:cV H' l c):xm C CS CW CB H' l c w x U W pe rows pq rq lines aB nW bK:=by
 obtain⟨ls,hl⟩:=h.src.lst
 have t:∀ a xs,H a=some (.tup xs)→H' a=some (.tup xs):=fun a xs e=>k _ _ e (cE e hl (by intro z;cases z))
 exact⟨s,h.Mm.fr (fun a ob e z=>k _ _ e (h.du a z).2.1) t,h.lst,h.wo.fr (fun a ob e z=>k _ _ e (h.dw a z).1) t,h.du,h.dw⟩
theorem xm.same{C CS CW CB:Addr}{H H':Hp}{l c w x:Addr}{U W:Addr→Prop}{pe:mK}{rows:eY}{pq:mK}{rq:eY}{lines:mh}{aB:jW}{nW:Nat}{bK:Row}(h:xm C CS CW CB H l c w x U W pe rows pq rq lines aB nW bK)(s:aH H H'):xm C CS CW CB H' l c w x U W pe rows pq rq lines aB nW bK:=h.mv (fun a o e _=>s a o e) (h.src.same s)
inductive rT(C CS CW CB:Addr)(vs:List V)(H:Hp)(Q:VK)(E:XK):Prop
 | mk (l c w x:Addr) (U W:Addr→Prop) (pe:mK) (rows:eY) (pq:mK) (rq:eY) (lines:mh) (aB:jW) (nW:Nat) (bK:Row) (_:vs=[.ref l,.ref w,.ref x]) (_:xm C CS CW CB H l c w x U W pe rows pq rq lines aB nW bK) (_:pe.length≤800) (_:pq.length≤800) (_:rows.length≤50) (_:lines.length≤800) (_:aB.length≤50000) (_:nW≤800) (_ :
 ∀ (U':Addr→Prop) (H':Hp) (h:Int) (cs:List Nat) (iI:mh),cs.length≤60→iI.length=lines.length+1→xm C CS CW CB H' l c w x U' W (pe++[rows]) rows (pq++[rq]) rq iI (aB++qv h cs) (nW+1) bK→Ij l U W U' W H H'→Q (.bl true) H'):rT C CS CW CB vs H Q E
theorem Fp{α:Type}{xs:List α}{v:Int}(v0:0≤v)(v1:v<xs.length):∃ x∈xs,uE xs v=some x:=by
 obtain⟨j,rfl⟩:∃ j:Nat,v=j:=⟨v.toNat,by omega⟩
 have hj:j<xs.length:=by omega
 exact⟨xs[j],List.getElem_mem hj,cU (oj hj)⟩
def lpT:TS:=fun D σ H=>∃ (l c:Addr) (s1 s2 s3 s4 s6:Option V) (h:Int),σ=[some (.ref l),s1,s2,s3,s4,some (.int h),s6]∧cV H l c∧uU h∧∀ (h':Int) (H':Hp),uU h'→cV H' l c→(∀ a,a≠l→H' a=H a)→D.nx [some (.ref l),s1,s2,s3,s4,some (.int h'),s6] H'
theorem kj:aG ["_law_src_here","_law_world_here","_law_house","_law_many","_law_text_here","_law_hand","_law_start"] ["_law_src_here","_law_world_here","_law_house"] (ay lu):=⟨rfl,rfl,rfl,by decide +kernel,rfl,by decide +kernel,by decide +kernel⟩
set_option maxHeartbeats 4000000 in
theorem xo{f C CS CW CB XS XM XT XO XP f1 f2 fN fT fG fK fM fO:Addr}{fd g1 g2 gN gT gG gK gM gO:FuncData}(F:gX K "_law_pour" "_law_pour" lu f fd)(X:zU K mg C CS CW CB XS XM XT XO XP)(A1:JN K mg CS)(A2:NI K mg)(A5:Mj K mg CW CB)(aY:aN K C "enter" "Library.enter" cB Me f1 g1)(eF:aN K C "pour" "Library.pour" iU Mq f2 g2)(aR:aA K mg "_law_next" iz vn fN gN)(j7:aA K mg "_law_text" j0 J7 fT gT)(iK:aA K mg "_law_sign" jZ Iz fG gG)(eV:aA K mg "_law_keep" j3 FQ fK gK)(bx:aA K mg "_law_same" iA vj fM gM)(bL:aA K mg "_law_whole" dU BS fO gO):aF P w K mg base bN 5 f fd DF (rT C CS CW CB):=by
 have AG:aF P w K mg base bN 4 _ _ Mq (Df C CS CW CB):=xN eF.F X A1 A2 A5 aY
 obtain⟨⟨⟨T,_,_,_,_,_⟩,⟨fi,aJ⟩,_,_,_,_,_,_,_,_⟩,_,_,_,_,_,_,_,_⟩:=X
 have bF:aF P w K mg base bN 1 _ _ vn qO:=ki aR.F T
 have G0:aF P w K mg base bN 3 _ _ J7 Dk:=Fl j7.F T aR iK
 have ue:aF P w K mg base bN 1 _ _ FQ Dn:=xj eV.F
 have gB:aF P w K mg base bN 3 _ _ vj (tM 2):=oH T bL bx 2
 refine F.ok kj (fun vs H Q E h=>?_) (fun cdv A outer s H vs Q E hr h=>?_)
 ·obtain⟨l,c,w,x,U,W,pe,rows,pq,rq,lines,aB,nW,bK,rfl,_⟩:=h
  rfl
 obtain⟨l,c,w,x,U,W,pe,rows,pq,rq,lines,aB,nW,bK,rfl,St,b1,b1',b2,b3,b4,b5,k⟩:=h
 have hu:=mH hr
 refine⟨_,(ak (aQ (i:=3) kj.nd rfl (Or.inl rfl) (bu bw (bI (aa az (aa az (aa az (aa az (aa az ah)))))) (aP aR bF hr (aa (pv 0) (aa az ah))) (fun _ _=>rfl)))
   (ak (aQ (i:=4) kj.nd rfl (Or.inl rfl) (aP j7 G0 hr (aa (pv 0) (aa (aP aR bF hr (aa (pv 0) (aa (bH iy (pv 3) az) ah))) ah))))
   (ak (aQ (i:=5) kj.nd rfl (Or.inr rfl) (aP aR bF hr (aa (pv 0) (aa az ah))))
   (ak (vC (t':=lpT) (cy (cI mG (aP aR bF hr (aa (pv 0) (aa az ah))) az (cj _))
   (ao (aQ (i:=5) kj.nd rfl (Or.inr rfl) (aP aR bF hr (aa (pv 0) (aa (bH Ke az az) ah)))))
   bC) ?b3)
   (ak (aQ (i:=6) kj.nd rfl (Or.inl rfl) (aO bq rfl T.ic lN (aa (iY hu (pv 1) bT (fun _ _=>rfl)) ah)))
   (ak (bO (jF qz PySem.F.slot_list_extend PySem.F.type_list_extend AS (iY hu (pv 1) bT (fun _ _=>rfl)) (aa (lW (N:=["_law_sign_here","_law_hand"]) (qQ (sc:=ay lu) (NX:=["_law_src_here","_law_world_here","_law_house","_law_many","_law_text_here","_law_hand","_law_start"]) (jx:=[none,some 5]) rfl rfl rfl (by decide +kernel) (by decide +kernel) rfl (by decide +kernel) rfl (by decide +kernel)) rfl (PZ (pv 4)) (fun _ _ _ _ _ _=>(aV (i:=0) (show List.Nodup (["_law_sign_here","_law_hand"]:List Str) by decide +kernel) rfl (Or.inl rfl))) (fun _ _ _ _ _ _=>iG) (fun _ _ _ _ _ _=>(jH (aa (pv 1) (aa (pv 0) ah))))) ah)))
   (ak (bO (aP eV ue hr (aa (pv 1) (aa (iY hu (pv 1) bT (fun _ _=>rfl)) ah))))
   (ao (aM (aP bx gB hr (aa (cM (pv 2) aJ.cl eF.mt AG (hr.mono (by decide)) eF.b .nil cK (aa (pv 5) (aa (pv 4) ah))) (aa (jH (aa (pv 6) (aa (bH iy (pv 6) (aO jv rfl T.ic lN (aa (pv 4) ah))) ah))) ah)))))))))))),?_⟩
 case b3 =>
  rintro D σ H ⟨l,c,s1,s2,s3,s4,s6,h,rfl,S,fh,k⟩
  refine⟨_,rfl,l,c,4,rfl,S,by decide,by decide,fun v H1 v0 v1 S1 k1=>⟨rfl,_,rfl,ff (fun _=>?_) (fun _=>k h H1 fh S1 k1)⟩⟩
  refine⟨_,rfl,_,_,rfl,rfl,⟨by decide,by decide,by decide⟩,l,c,_,rfl,S1,by decide,by decide,fun v2 H2 q0 q1 S2 k2=>?_⟩
  rw[show (10:Int)^(59:Int).toNat=10^59 from rfl]at q1
  exact k v2 H2 ⟨q0,Int.lt_trans q1 (by decide)⟩ S2 fun y hy=>(k2 y hy).trans (k1 y hy)
 refine⟨(by show 5≤sizeLine;decide),fun t ht=>?_⟩
 have s1:=aj ht (.lst [.int 1,.int 3,.int 5,.int 8,.int 60])
 have h1:(upd H t (.lst [.int 1,.int 3,.int 5,.int 8,.int 60])) t=some (.lst [.int 1,.int 3,.int 5,.int 8,.int 60]):=af
 have nt:=St.src.ne ht
 generalize upd H t (.lst [.int 1,.int 3,.int 5,.int 8,.int 60])=H1 at s1 h1
 have JP:=St.same s1
 refine⟨_,rfl,l,c,5,rfl,JP.src,by decide,by decide,fun i H2 i0 i1 S2 k2=>?_⟩
 have Mn:=JP.mv (cN k2) S2
 obtain⟨z,hz,ez⟩:=Fp (xs:=[V.int 1,.int 3,.int 5,.int 8,.int 60]) i0 (by show i<5;omega)
 obtain⟨tn,rfl,tn0,tn1⟩:∃ j:Int,z=.int j∧0≤j∧j≤60:=by
  have key:∀ y∈[V.int 1,.int 3,.int 5,.int 8,.int 60],∃ j:Int,y=.int j∧0≤j∧j≤60:=by
   intro y hy
   rcases List.mem_cons.mp hy with q|hy
   ·exact⟨1,q,by decide,by decide⟩
   rcases List.mem_cons.mp hy with q|hy
   ·exact⟨3,q,by decide,by decide⟩
   rcases List.mem_cons.mp hy with q|hy
   ·exact⟨5,q,by decide,by decide⟩
   rcases List.mem_cons.mp hy with q|hy
   ·exact⟨8,q,by decide,by decide⟩
   ·exact⟨60,List.mem_singleton.mp hy,by decide,by decide⟩
  exact key z hz
 refine⟨t,_,_,_,rfl,rfl,bG.of ((k2 t nt.1.symm).trans h1),ez,?_⟩
 refine⟨_,rfl,_,rfl,_,rfl,_,_,rfl,rfl,l,c,_,rfl,S2,by omega,by omega,fun m H3 m0 m1 S3 k3=>?_⟩
 have Ik:=Mn.mv (cN k3) S3
 refine⟨l,c,m.toNat,by rw[show ((m.toNat:Nat):Int)=m by omega];rfl,S3,by omega,fun cs H4 hcs S4 K4=>?_⟩
 have JQ:=Ik.mv K4 S4
 refine⟨_,rfl,l,c,3,rfl,S4,by decide,by decide,fun h0 H5 p0 p1 S5 k5=>?_⟩
 have UO:=JQ.mv (cN k5) S5
 refine⟨l,c,_,_,_,_,_,h0,rfl,S5,⟨p0,by omega⟩,fun h H6 fh S6 k6=>?_⟩
 have DE:=UO.mv (cN k6) S6
 have K16:cA l H H6:=((((((iR.aH.keep s1).trans (cN k2)).trans (cN k3)).trans K4).trans (cN k5)).trans (cN k6))
 obtain⟨ik,rw,ps,vl,wu⟩:=id DE.wo
 obtain⟨as,hik,pa⟩:=id wu.hi
 have la:=Paired.length pa
 have zi:=oz.k (k:=kI) wu.hw
 rw[show bU (Ae ik rw ps vl) kI=some (.ref ik) by kernel_rfl]at zi
 refine⟨_,rfl,w,_,rfl,zi,ik,_,rfl,.inl (bG.of hik),?_⟩
 refine⟨_,rfl,w,_,rfl,zi,.inl ⟨rfl,_,bG.of hik⟩,_,rfl,cs,rfl,fun acc hacc=>Js (fun j σ H7=>∃ (u:Option V) (bs:List Addr),σ=[u,some (.int h)]∧H7 acc=some (.lst (bs.map V.ref))∧Paired (OD H7) bs (qv h (cs.take j))∧aH H6 H7) ⟨none,[],rfl,af,.nil,aj hacc _⟩ ?_ ?_⟩
 ·rintro j ch σ H7 hj ⟨u,bs,rfl,ha,pb,s7⟩
  have lb:=Paired.length pb
  rw[qf,ko]at lb
  refine⟨_,rfl,_,rfl,(by show 2≤sizeLine;decide),fun t ht=>⟨_,aj ht _ _ _ ha,(by rw[bY];exact aL (by omega)),_,bs++[t],rfl,?_,?_,?_⟩⟩
  ·rw[af,lK]
   rfl
  ·have nta:t≠acc:=(au ha ht).symm
   rw[take_snoc hj]
   unfold qv
   rw[lK]
   refine vd (Paired.DJ pb fun a q e=>?_) ?_
   ·show upd _ acc _ a=_
    rw[aC (cE e ha (by intro z;cases z))]
    exact aj ht _ _ _ e
   ·show upd _ acc _ t=_
    rw[aC nta]
    exact af
  ·intro b ob e
   rw[aC (au e hacc)]
   exact aj ht _ _ _ (s7 _ _ e)
 rintro σ H7 ⟨u,bs,rfl,ha,pb,s7⟩
 rw[kr]at pb
 have lb:=Paired.length pb
 rw[qf]at lb
 have Tw:=s7 _ _ hik
 refine⟨ik,acc,_,_,rfl,rfl,Tw,ha,(by rw[bY,bY];exact jb (aL (by omega))),?_⟩
 rw[← lK]
 have k8:cA ik H7 (upd H7 ik (.lst ((as++bs).map V.ref))):=aI ik _ _
 have i8:(upd H7 ik (.lst ((as++bs).map V.ref))) ik=some (.lst ((as++bs).map V.ref)):=af
 generalize upd H7 ik (.lst ((as++bs).map V.ref))=H8 at k8 i8
 have Mp:∀ a ob,H6 a=some ob→a≠ik→H8 a=some ob:=fun a ob e n=>k8 _ _ (s7 _ _ e) n
 have t68:∀ a xs,H6 a=some (.tup xs)→H8 a=some (.tup xs):=fun a xs e=>Mp _ _ e (cE e hik (by intro z;cases z))
 have Qi:∀ a xs,H7 a=some (.tup xs)→H8 a=some (.tup xs):=fun a xs e=>k8 _ _ e (cE e Tw (by intro z;cases z))
 have w8:H8 w=some (.dK (Ae ik rw ps vl)):=Mp _ _ wu.hw (cE wu.hw hik (by intro z;cases z))
 have Q5:NO W ik ps H8 rw rq:=wu.hr.fr (fun _ z=>z) fun a xs e _ n _=>Mp _ _ e n
 have wo8:NP W H8 w ik rw ps vl (aB++qv h cs) pq rq:=by
  obtain⟨Qq,hp,al⟩:=wu.hp
  refine⟨wu.ww,wu.wi,wu.wp,wu.wv,fun a z=>?_,w8,⟨as++bs,i8,sZ (Paired.DJ pa fun a q e=>t68 _ _ e) (Paired.DJ pb fun a q e=>Qi _ _ e)⟩,Q5,⟨Qq,Mp _ _ hp wu.ne.symm,al.mono fun v rs ⟨a,e,q⟩=>⟨a,e,q.fr (fun _ y=>y) fun a xs e _ n _=>Mp _ _ e n⟩⟩,wu.ne,wu.lst⟩
  by_cases e:a=ik
  ·rw[e];exact⟨_,i8⟩
  ·obtain⟨ob,e2⟩:=wu.al a z
   exact⟨ob,Mp _ _ e2 e⟩
 have acE:=DE.Mm.fr (fun a ob e z=>Mp _ _ e (fun q=>(DE.du a z).1 (by rw[q];exact wu.wi))) t68
 have acF:cV H8 l c:=by
  obtain⟨n,ns,i,d,r,e1,e2,h3⟩:=S6
  exact⟨n,ns,i,d,r,Mp _ _ e1 (fun q=>(DE.dw ik wu.wi).1 q.symm),Mp _ _ e2 (fun q=>(DE.dw ik wu.wi).2 q.symm),h3⟩
 have zr:=oz.k (k:=kR) w8
 rw[show bU (Ae ik rw ps vl) kR=some (.ref rw) by kernel_rfl]at zr
 refine⟨_,rfl,_,rfl,w,_,rfl,zr,W,w,rw,aB++qv h cs,pq,rq,rq,rfl,⟨ik,rw,ps,vl,wo8⟩,by omega,fun ik' ps' ⟨rw',vl',e⟩=>?_,fun H9 wo9 UP tp9=>?_⟩
 ·rw[w8]at e
  simp only[Option.some.injEq,HO.dK.injEq,Ae,List.cons.injEq,Prod.mk.injEq,V.ref.injEq,true_and,and_true]at e
  obtain⟨rfl,rfl,rfl,rfl⟩:=e
  exact Q5
 have Tz:=acE.fr (fun a ob e z=>UP _ _ e (DE.du a z).1) tp9
 have NQ:cV H9 l c:=by
  obtain⟨n,ns,i,d,r,e1,e2,h3⟩:=acF
  exact⟨n,ns,i,d,r,UP _ _ e1 (fun q=>(DE.dw l q).1 rfl),UP _ _ e2 (fun q=>(DE.dw c q).2 rfl),h3⟩
 obtain⟨S',Q2,d',Sz,sh',bl',kn',du',bk',dS',st',op',dw',sg',ow',pw',db',tb',ops',LU⟩:=id Tz
 refine⟨_,rfl,x,d',_,rfl,LU.L.hx,rfl,_,rfl,_,rfl,U,x,pe,lines,aB,nW,bK,h,cs,rows,rfl,Tz,fh,by omega,by omega,by omega,DE.lst,b2,by omega,by omega,fun U' q Ej TF Fq hq=>?_⟩
 refine⟨_,rfl,_,rfl,_,rfl,txt cs,rfl,(by rw[dQ];exact jb (aL (by omega))),_,_,rfl,rfl,(by show 2≤sizeLine;decide),fun t2 DA=>?_⟩
 refine⟨_,_,rfl,.inr ⟨false,q,t2,_,_,rfl,rfl,aj DA _ _ _ hq,af,rfl,fun i u v eu ev=>?_⟩,fun QK acN=>?_⟩
 ·match i,eu,ev with
  | 0,eu,ev =>
   cases eu;cases ev
   rw[show (as.map V.ref).length=aB.length by rw[bY,la]]
   exact Eqv.int _
  | 1,eu,ev =>
   cases eu;cases ev
   rw[show ((aB++qv h cs).length:Int)=((as.map V.ref).length:Int)+((txt cs).length:Int) by rw[bY,la,dQ,eZ,qf];omega]
   exact Eqv.int _
 have s12:aH Ej QK:=fun a ob e=>acN _ _ (aj DA _ _ _ e)
 have Qj:∀ a ob,H a=some ob→a≠l→¬ W a→H9 a=some ob:=fun a ob e n z=>UP _ _ (Mp _ _ (K16 _ _ e n) (fun q=>z (by rw[q];exact wu.wi))) z
 have f09:∀ a,H9 a=none→H a=none:=by
  intro a e
  cases ea:H a with
  | none=>rfl
  | some ob =>
   exfalso
   by_cases n:a=l
   ·obtain⟨_,ns,i,d,r,e1,_⟩:=NQ
    rw[n,e1]at e
    cases e
   by_cases z:W a
   ·obtain⟨ob,e2⟩:=wo9.al z
    rw[e2]at e
    cases e
   rw[Qj _ _ ea n z]at e
   cases e
 have TH:cV QK l c:=by
  obtain⟨n,ns,i,d,r,e1,e2,h3⟩:=NQ
  exact⟨n,ns,i,d,r,s12 _ _ (Fq.2.1 _ _ e1 (fun q=>(DE.du l q).2.1 rfl)),s12 _ _ (Fq.2.1 _ _ e2 (fun q=>(DE.du c q).2.2 rfl)),h3⟩
 refine k U' QK h cs _ (by omega) (by rw[eZ];rfl) ⟨TH,TF.fr (fun a ob e _=>s12 _ _ e) (fun a xs e=>s12 _ _ e),(by simp),wo9.fr (fun a ob e z=>s12 _ _ (Fq.2.1 _ _ e (fun y=>(DE.du a y).1 z))) (fun a xs e=>s12 _ _ (Fq.2.2 _ _ e)),fun a z=>?_,DE.dw⟩ ⟨fun a z=>z.elim (fun z=>(Fq.1 a z).elim .inl fun y=>.inr (.inr (f09 a y))) (fun z=>.inr (.inl z)),fun a ob e n y z=>s12 _ _ (Fq.2.1 _ _ (Qj _ _ e n z) y),fun a xs e=>?_⟩
 ·rcases Fq.1 a z with y|y
  ·exact DE.du a y
  ·refine⟨fun z=>?_,fun q=>?_,fun q=>?_⟩
   ·obtain⟨ob,e2⟩:=wo9.al z
    rw[e2]at y
    cases y
   ·obtain⟨_,ns,i,d,r,e1,_⟩:=NQ
    rw[q,e1]at y
    cases y
   ·obtain⟨_,ns,i,d,r,_,e1,_⟩:=NQ
    rw[q,e1]at y
    cases y
 ·obtain⟨ls,hl⟩:=St.src.lst
  exact s12 _ _ (Fq.2.2 _ _ (tp9 _ _ (t68 _ _ (K16 _ _ e (cE e hl (by intro z;cases z))))))
theorem xm.TL{W W':Addr→Prop}{H:Hp}{w ik rw ps vl:Addr}{aB:jW}{pe:mK}{rows:eY}(h:NP W H w ik rw ps vl aB pe rows)(s:∀ a,W a→W' a)(al:∀ a,W' a→∃ ob,H a=some ob):NP W' H w ik rw ps vl aB pe rows:=by
 obtain⟨ww,wi,wp,wv,_,hw,hi,hr,⟨vs,hp,a2⟩,ne,lst⟩:=h
 exact⟨s _ ww,s _ wi,s _ wp,s _ wv,al,hw,hi,hr.fr s (fun a xs e _ _ _=>e),⟨vs,hp,a2.mono fun v rs ⟨a,e,z⟩=>⟨a,e,z.fr s (fun a xs e _ _ _=>e)⟩⟩,ne,lst⟩
inductive uf(C CS CW CB:Addr)(vs:List V)(H:Hp)(Q:VK)(E:XK):Prop
 | mk (l c w x:Addr) (U W:Addr→Prop) (pe:mK) (rows:eY) (pq:mK) (rq:eY) (lines:mh) (aB:jW) (nW:Nat) (bK:Row) (_:vs=[.ref w,.ref x]) (_:xm C CS CW CB H l c w x U W pe rows pq rq lines aB nW bK) (_:pe.length≤800) (_:pq.length≤800) (_:rows.length<40) (_:rq.length=rows.length) (_:lines.length≤800) (_:(∃ f,wZ (rows++[[]]) f)) (_ :
 ∀ (U' W':Addr→Prop) (H':Hp) (iI:mh),iI.length=lines.length+1→xm C CS CW CB H' l c w x U' W' (pe++[rows++[[]]]) (rows++[[]]) (pq++[rq++[[]]]) (rq++[[]]) iI aB nW bK→Ij l U W U' W' H H'→Q (.bl true) H'):uf C CS CW CB vs H Q E
theorem Dp:aG ["_law_world_here","_law_house"] ["_law_world_here","_law_house"] (ay lT):=⟨rfl,rfl,rfl,by decide +kernel,rfl,by decide +kernel,by decide +kernel⟩
set_option maxHeartbeats 4000000 in
theorem Dq{f C CS CW CB XS XM XT XO XP f1 fK fM fO:Addr}{fd g1 gK gM gO:FuncData}(F:gX K "_law_fresh" "_law_fresh" lT f fd)(X:zU K mg C CS CW CB XS XM XT XO XP)(A1:JN K mg CS)(A2:NI K mg)(A3:Tp K mg C)(eX:aN K C "fresh" "Library.fresh" gQ gZ f1 g1)(eV:aA K mg "_law_keep" j3 FQ fK gK)(bx:aA K mg "_law_same" iA vj fM gM)(bL:aA K mg "_law_whole" dU BS fO gO):aF P w K mg base bN 8 f fd Ms (uf C CS CW CB):=by
 have LM:=X.1
 have Af:aF P w K mg base (qC P w) 7 _ _ gZ (Dc C CS XT):=wA eX.F LM A1 A2 A3
 obtain⟨⟨⟨T,_,_,_,_,_⟩,⟨fi,aJ⟩,_,_,_,_,_,_,_,_⟩,_,_,_,_,_,_,_,_⟩:=X
 have ue:aF P w K mg base bN 1 _ _ FQ Dn:=xj eV.F
 have gB:aF P w K mg base bN 2 _ _ vj (tM 1):=oH T bL bx 1
 refine F.ok Dp (fun vs H Q E h=>?_) (fun cdv A outer s H vs Q E hr h=>?_)
 ·obtain⟨l,c,w,x,U,W,pe,rows,pq,rq,lines,aB,nW,bK,rfl,_⟩:=h
  rfl
 obtain⟨l,c,w,x,U,W,pe,rows,pq,rq,lines,aB,nW,bK,rfl,St,b1,b1',b2,b2',b3,B,k⟩:=h
 have hu:=mH hr
 refine⟨_,(ak (bO (aP eV ue hr (aa (pv 0) (aa (bH oX (iY hu (pv 0) bT (fun _ _=>rfl)) (bI (aa (bI ah) ah))) ah))))
   (ao (aM (aP bx gB hr (aa (b8 (pv 1) aJ.cl eX.mt Af (hr.mono (by decide)) eX.b .nil Bg) (aa (bH kX (aO bq rfl T.ic lN (aa (iY hu (pv 0) bT (fun _ _=>rfl)) ah)) az) ah)))))),?_⟩
 obtain⟨ik,rw,ps,vl,wu⟩:=id St.wo
 have zr:=oz.k (k:=kR) wu.hw
 rw[show bU (Ae ik rw ps vl) kR=some (.ref rw) by kernel_rfl]at zr
 refine⟨_,rfl,_,rfl,w,_,rfl,zr,?_⟩
 obtain⟨wrw,n1,n2,vs,hvs,al⟩:=id wu.hr
 have lv:=bR.len al
 refine⟨(by show 0≤sizeLine;decide),fun e he=>⟨(by show 1≤sizeLine;decide),fun o ho=>?_⟩⟩
 have s1:=aj he (.lst [])
 have e1:(upd H e (.lst [])) e=some (.lst []):=af
 generalize upd H e (.lst [])=H1 at s1 e1 ho
 have s2:=aj ho (.lst [.ref e])
 have o2:(upd H1 o (.lst [.ref e])) o=some (.lst [.ref e]):=af
 show Pj _ _ (upd H1 o (.lst [.ref e])) _
 generalize upd H1 o (.lst [.ref e])=H2 at s2 o2
 have s02:=s1.trans s2
 refine⟨rw,o,_,_,rfl,rfl,s02 _ _ hvs,o2,(by rw[lv];exact jb (aL (by simp only[mq,oq];omega))),fun r hr2=>?_⟩
 have s3:=aj hr2 (.lst (vs++[.ref e]))
 have r3:(upd H2 r (.lst (vs++[.ref e]))) r=some (.lst (vs++[.ref e])):=af
 generalize upd H2 r (.lst (vs++[.ref e]))=H3 at s3 r3
 have LQ:=s02.trans s3
 have fr:=aW s02 hr2
 obtain⟨as,hik,_⟩:=id wu.hi
 obtain⟨Qq,hps,_⟩:=id wu.hp
 have e3:=s3 _ _ (s2 _ _ e1)
 have wu3:NP W H3 w ik rw ps vl aB pq rq:=wu.fr (fun a ob e _=>LQ _ _ e) (fun a xs e=>LQ _ _ e)
 have wu':NP (fun a=>W a∨a=e∨a=r) H3 w ik rw ps vl aB pq rq:=xm.TL wu3 (fun a z=>.inl z) (by
  rintro a (z|z|z)
  ·exact wu3.al a z
  ·rw[z];exact⟨_,e3⟩
  ·rw[z];exact⟨_,r3⟩)
 have G1:∀ a ob,H a=some ob→¬ W a→¬ (W a∨a=e∨a=r):=by
  rintro a ob h0 n (z|z|z)
  ·exact n z
  ·rw[z,he]at h0;cases h0
  ·rw[z,fr]at h0;cases h0
 refine⟨fun a=>W a∨a=e∨a=r,w,r,aB,pq,rq,rq++[[]],rfl,⟨ik,rw,ps,vl,wu'⟩,by omega,fun ik' ps' ⟨rw',vl',ee⟩=>?_,fun H4 wo4 UQ tp4=>?_⟩
 ·rw[wu3.hw]at ee
  simp only[Option.some.injEq,HO.dK.injEq,Ae,List.cons.injEq,Prod.mk.injEq,V.ref.injEq,true_and,and_true]at ee
  obtain⟨rfl,rfl,rfl,rfl⟩:=ee
  exact⟨.inr (.inr rfl),(au hik fr).symm,(au hps fr).symm,_,r3,bR.snoc (al.mono fun _ _=>Q4.fr (fun a z=>.inl z) (fun a xs e _ _ _=>LQ _ _ e)) ⟨e,rfl,.inr (.inl rfl),(au hik he).symm,(au hps he).symm,e3⟩⟩
 have Oz:∀ a ob,H a=some ob→¬ W a→H4 a=some ob:=fun a ob e n=>UQ _ _ (LQ _ _ e) (G1 _ _ e n)
 have t04:∀ a xs,H a=some (.tup xs)→H4 a=some (.tup xs):=fun a xs e=>tp4 _ _ (LQ _ _ e)
 have acR:=St.Mm.fr (fun a ob e z=>Oz _ _ e (St.du a z).1) t04
 have Qs:cV H4 l c:=by
  obtain⟨n,ns,i,d,r,e1,e2,h3⟩:=St.src
  exact⟨n,ns,i,d,r,Oz _ _ e1 (fun q=>(St.dw l q).1 rfl),Oz _ _ e2 (fun q=>(St.dw c q).2 rfl),h3⟩
 have uw:∀ a,U a→¬ (W a∨a=e∨a=r):=fun a z=>by
  obtain⟨ob,h0⟩:=St.Mm.al z
  exact G1 _ _ h0 (St.du a z).1
 obtain⟨S',Q2,d',Sz,sh',bl',kn',du',bk',dS',st',op',dw',sg',ow',pw',db',tb',ops',LU⟩:=id acR
 refine⟨_,rfl,x,d',_,rfl,LU.L.hx,rfl,S',x,d',Sz,sh',bl',kn',du',bk',dS',st',op',pe,ops',lines,rows,rfl,LU.L,St.lst,by omega,by omega,by omega,fun c=>absurd c (by omega),fun _=>⟨B,fun S'' H5 L5 Ru=>?_⟩⟩
 obtain⟨U',acS,fu⟩:=LU.De L5 Ru
 have wo5:=wo4.fr (fun a ob e z=>fu.2.1 _ _ e (fun y=>uw a y z)) fu.2.2
 obtain⟨ik5,rw5,ps5,vl5,wu5⟩:=id wo5
 obtain⟨_,_,_,vs5,acU,al5⟩:=id wu5.hr
 have lv5:=bR.len al5
 rw[eZ]at lv5
 have zr5:=oz.k (k:=kR) wu5.hw
 rw[show bU (Ae ik5 rw5 ps5 vl5) kR=some (.ref rw5) by kernel_rfl]at zr5
 refine⟨_,rfl,w,_,rfl,zr5,rw5,_,rfl,.inl (bG.of acU),_,_,rfl,rfl,_,_,rfl,.inl ⟨rfl,?_⟩,fun H6 s6=>?_⟩
 ·rw[lv5]
  simp only[mq,oq]
  congr 1
  omega
 have k06:∀ a ob,H a=some ob→¬ U a→¬ W a→H6 a=some ob:=fun a ob e y z=>s6 _ _ (fu.2.1 _ _ (Oz _ _ e z) y)
 have acV:cV H6 l c:=by
  obtain⟨n,ns,i,d,r,e1,e2,h3⟩:=Qs
  exact⟨n,ns,i,d,r,s6 _ _ (fu.2.1 _ _ e1 (fun q=>(St.du l q).2.1 rfl)),s6 _ _ (fu.2.1 _ _ e2 (fun q=>(St.du c q).2.2 rfl)),h3⟩
 have f04:∀ a,H4 a=none→H a=none:=by
  intro a h0
  cases ea:H a with
  | none=>rfl
  | some ob =>
   exfalso
   by_cases z:W a
   ·obtain⟨ob,e2⟩:=wo4.al (a:=a) (.inl z)
    rw[e2]at h0
    cases h0
   rw[Oz _ _ ea z]at h0
   cases h0
 refine k U' (fun a=>W a∨a=e∨a=r) H6 _ (by rw[eZ];rfl) ⟨acV,acS.same s6,by simp,wo5.same s6,fun a z=>?_,fun a z=>?_⟩ ⟨fun a z=>z.elim (fun z=>(fu.1 a z).elim .inl fun y=>.inr (.inr (f04 a y))) (fun z=>?_),fun a ob e n y z=>k06 _ _ e y z,fun a xs e=>s6 _ _ (fu.2.2 _ _ (t04 _ _ e))⟩
 ·rcases fu.1 a z with y|y
  ·exact⟨uw a y,(St.du a y).2⟩
  ·change H4 a=none at y
   refine⟨fun z=>?_,fun q=>?_,fun q=>?_⟩
   ·obtain⟨ob,e2⟩:=wo4.al z
    rw[e2]at y
    cases y
   ·obtain⟨_,ns,i,d,r,e1,_⟩:=Qs
    rw[q,e1]at y
    cases y
   ·obtain⟨_,ns,i,d,r,_,e1,_⟩:=Qs
    rw[q,e1]at y
    cases y
 ·have ne:=St.src.ne he
  have nr:=St.src.ne fr
  rcases z with z|z|z
  ·exact St.dw a z
  ·rw[z];exact⟨ne.1.symm,ne.2.symm⟩
  ·rw[z];exact⟨nr.1.symm,nr.2.symm⟩
 ·rcases z with z|z|z
  ·exact .inr (.inl z)
  ·rw[z];exact .inr (.inr he)
  ·rw[z];exact .inr (.inr fr)
abbrev e0(n:Nat):eY:=List.replicate n []
theorem Il(n:Nat):e0 n++[[]]=e0 (n+1):=(List.replicate_succ').symm
theorem Ag{n:Nat}{es:List Int}(h:es∈e0 n):es=[]:=(List.mem_replicate.mp h).2
theorem Qt{n:Nat}{x y:Int}:¬ Bs (e0 n) x y:=fun ⟨_,es,he,hy⟩=>by
 rw[Ag (rW he)]at hy
 cases hy
theorem L4(n:Nat):Sound (e0 n):=fun es he y hy=>by
 rw[Ag he]at hy
 cases hy
theorem Qu(n:Nat):HL (e0 n):=⟨fun _=>0,fun _=>mO _,fun _ _ z=>absurd z Qt⟩
theorem L6{n:Nat}(h:n≤100):wZ (e0 n) fun _=>0:=by
 refine⟨by rw[ux];exact h,fun es he=>by rw[Ag he];exact mO _,L4 n,Qu n,fun x es _ he=>?_,fun _ _ _=>by decide⟩
 rw[Ag (rW he)]
 rfl
def Ah(n:Nat):mK:=[[],[],[]]++(List.range n).map fun k=>e0 (k+1)
theorem JR(n:Nat):Ah (n+1)=Ah n++[e0 (n+1)]:=by
 unfold Ah
 rw[List.range_succ,lK,pC]
 rfl
theorem ve(n:Nat):(Ah n).length=n+3:=by
 unfold Ah
 rw[eZ,bY,List.length_range]
 show 3+n=_
 omega
inductive ug(C CS CW CB:Addr)(vs:List V)(H:Hp)(Q:VK)(E:XK):Prop
 | mk (l c w x:Addr) (U W:Addr→Prop) (_:vs=[.ref l,.ref w,.ref x]) (_:xm C CS CW CB H l c w x U W [[]] [] [[]] [] [] [] 0 []) (_ :
 ∀ (U' W':Addr→Prop) (H':Hp) (n:Nat) (aB:jW) (lines:mh),2≤n→n≤4→aB.length≤120→lines.length=n+2→xm C CS CW CB H' l c w x U' W' (Ah n) (e0 n) (Ah n) (e0 n) lines aB 2 []→Ij l U W U' W' H H'→Q (.bl true) H'):ug C CS CW CB vs H Q E
theorem jD:aG ["_law_src_here","_law_world_here","_law_house","_law_good","_law_k"] ["_law_src_here","_law_world_here","_law_house"] (ay oE):=⟨rfl,rfl,rfl,by decide +kernel,rfl,by decide +kernel,by decide +kernel⟩
set_option maxHeartbeats 4000000 in
theorem Dr{f C CS CW CB XS XM XT XO XP f1 f2 f3 fN fT fG fK fM fO fP fF:Addr}{fd g1 g2 g3 gN gT gG gK gM gO gP gF:FuncData}(F:gX K "_law_begin" "_law_begin" oE f fd)(X:zU K mg C CS CW CB XS XM XT XO XP)(A1:JN K mg CS)(A2:NI K mg)(A3:Tp K mg C)(A5:Mj K mg CW CB)(aY:aN K C "enter" "Library.enter" cB Me f1 g1)(eF:aN K C "pour" "Library.pour" iU Mq f2 g2)(eX:aN K C "fresh" "Library.fresh" gQ gZ f3 g3)(aR:aA K mg "_law_next" iz vn fN gN)(j7:aA K mg "_law_text" j0 J7 fT gT)(iK:aA K mg "_law_sign" jZ Iz fG gG)(eV:aA K mg "_law_keep" j3 FQ fK gK)(bx:aA K mg "_law_same" iA vj fM gM)(bL:aA K mg "_law_whole" dU BS fO gO)(lF:aA K mg "_law_pour" lu DF fP gP)(oN:aA K mg "_law_fresh" lT Ms fF gF):aF P w K mg base bN 9 f fd DF (ug C CS CW CB):=by
 have uh:aF P w K mg base bN 5 _ _ DF (rT C CS CW CB):=xo lF.F X A1 A2 A5 aY eF aR j7 iK eV bx bL
 have Ft:aF P w K mg base bN 8 _ _ Ms (uf C CS CW CB):=Dq oN.F X A1 A2 A3 eX eV bx bL
 obtain⟨⟨⟨T,_,_,_,_,_⟩,_,_,_,_,_,_,_,_,_⟩,_,_,_,_,_,_,_,_⟩:=X
 have bF:aF P w K mg base bN 1 _ _ vn qO:=ki aR.F T
 refine F.ok jD (fun vs H Q E h=>?_) (fun cdv A outer s H vs Q E hr h=>?_)
 ·obtain⟨l,c,w,x,U,W,rfl,_⟩:=h
  rfl
 obtain⟨l,c,w,x,U,W,rfl,St,k⟩:=h
 have hu:=mH hr
 refine⟨_,(ak (aQ (i:=3) jD.nd rfl (Or.inl rfl) oA)
   (ak (iV PassesOwn.never rfl (kW rfl T.lH (aa az ah)) (aV (i:=4) jD.nd rfl (Or.inl rfl))
   (ao (aQ (i:=3) jD.nd rfl (Or.inl rfl) (oV (aP lF uh hr (aa (pv 0) (aa (pv 1) (aa (pv 2) ah)))) (pV (pv 3))))))
   (ak (iV PassesOwn.never rfl (kW rfl T.lH (aa (bH iy az (aP aR bF hr (aa (pv 0) (aa az ah)))) ah)) (aV (i:=4) jD.nd rfl (Or.inl rfl))
   (ao (aQ (i:=3) jD.nd rfl (Or.inl rfl) (oV (aP oN Ft hr (aa (pv 1) (aa (pv 2) ah))) (pV (pv 3))))))
   (ao (aM (pv 3)))))),?_⟩
 have f0:Ij l U W U W H H:=⟨fun a z=>z.elim .inl fun y=>.inr (.inl y),fun a ob e _ _ _=>e,fun _ _ e=>e⟩
 refine⟨2,rfl,by decide,by decide,?_⟩
 refine m7 (lo:=0) (n:=(2:Int).toNat) (fun j σ H1=>∃ (u4:Option V) (U1 W1:Addr→Prop) (aB:jW) (lines:mh),σ=[some (.ref l),some (.ref w),some (.ref x),some (.bl true),u4]∧xm C CS CW CB H1 l c w x U1 W1 (List.replicate (j+1) []) [] (List.replicate (j+1) []) [] lines aB j []∧aB.length≤60*j∧lines.length=j∧Ij l U W U1 W1 H H1) ⟨none,U,W,[],[],rfl,St,fH _,rfl,f0⟩ ?_ ?_
 ·rintro j σ H1 hj ⟨u4,U1,W1,aB,lines,rfl,JP,li,ll,f1⟩
  have hj2:j<2:=hj
  refine⟨_,rfl,_,rfl,_,rfl,l,c,w,x,U1,W1,_,_,_,_,lines,aB,j,[],rfl,JP,(by rw[ux];omega),(by rw[ux];omega),(by show 0≤50;decide),by omega,by omega,by omega,fun U2 H2 h cs Qv hcs hl2 Mn f2=>?_⟩
  rw[← List.replicate_succ']at Mn
  have g:∃ (u4:Option V) (U3 W3:Addr→Prop) (TM:jW) (iI:mh),[some (.ref l),some (.ref w),some (.ref x),some (.bl true),some (V.int (0+(j:Int)))]=[some (.ref l),some (.ref w),some (.ref x),some (V.bl true),u4]∧xm C CS CW CB H2 l c w x U3 W3 (List.replicate (j+1+1) []) [] (List.replicate (j+1+1) []) [] iI TM (j+1) []∧TM.length≤60*(j+1)∧iI.length=j+1∧Ij l U W U3 W3 H H2:=⟨_,U2,W1,_,Qv,rfl,Mn,(by rw[eZ,qf];omega),by omega,f1.trans (by obtain⟨ls,hl⟩:=JP.src.lst;exact⟨_,hl⟩) f2⟩
  refine⟨true,rfl,?_⟩
  rw[if_pos rfl]
  exact⟨_,rfl,g⟩
 rintro σ H1 ⟨u4,U1,W1,aB,lines,rfl,JP,li,ll,f1⟩
 refine⟨_,rfl,l,c,3,rfl,JP.src,by decide,by decide,fun v H2 v0 v1 S2 k2=>⟨_,_,rfl,rfl,2+v,rfl,by omega,by omega,?_⟩⟩
 have Mn:=JP.mv (cN k2) S2
 have f2:Ij l U W U1 W1 H H2:=f1.trans (by obtain⟨ls,hl⟩:=JP.src.lst;exact⟨_,hl⟩) ⟨fun a z=>z.elim .inl fun y=>.inr (.inl y),fun a ob e n _ _=>(cN k2) _ _ e n,fun a xs e=>by
  obtain⟨ls,hl⟩:=JP.src.lst
  exact (cN k2) _ _ e (cE e hl (by intro z;cases z))⟩
 clear f1
 refine m7 (lo:=0) (n:=(2+v).toNat) (fun j σ H3=>∃ (u4:Option V) (U3 W3:Addr→Prop) (lines:mh),σ=[some (.ref l),some (.ref w),some (.ref x),some (.bl true),u4]∧xm C CS CW CB H3 l c w x U3 W3 (Ah j) (e0 j) (Ah j) (e0 j) lines aB 2 []∧lines.length=j+2∧Ij l U W U3 W3 H H3) ⟨u4,U1,W1,lines,rfl,Mn,ll,f2⟩ ?_ ?_
 ·rintro j σ H3 hj ⟨u4,U3,W3,lines,rfl,Ik,ll,f3⟩
  have hj2:j<4:=by omega
  refine⟨_,rfl,_,rfl,l,c,w,x,U3,W3,_,_,_,_,lines,aB,2,[],rfl,Ik,(by rw[ve];omega),(by rw[ve];omega),(by rw[ux];omega),rfl,by omega,⟨_,by rw[Il];exact L6 (by omega)⟩,fun U4 W4 H4 Qw hl4 JQ f4=>?_⟩
  rw[Il,← JR]at JQ
  have g:∃ (u4:Option V) (U5 W5:Addr→Prop) (iI:mh),[some (.ref l),some (.ref w),some (.ref x),some (.bl true),some (V.int (0+(j:Int)))]=[some (.ref l),some (.ref w),some (.ref x),some (V.bl true),u4]∧xm C CS CW CB H4 l c w x U5 W5 (Ah (j+1)) (e0 (j+1)) (Ah (j+1)) (e0 (j+1)) iI aB 2 []∧iI.length=j+1+2∧Ij l U W U5 W5 H H4:=⟨_,U4,W4,Qw,rfl,JQ,by omega,f3.trans (by obtain⟨ls,hl⟩:=Ik.src.lst;exact⟨_,hl⟩) f4⟩
  refine⟨true,rfl,?_⟩
  rw[if_pos rfl]
  exact⟨_,rfl,g⟩
 rintro σ H3 ⟨u4,U3,W3,lines,rfl,Ik,ll,f3⟩
 exact⟨_,rfl,k U3 W3 H3 (2+v).toNat aB lines (by omega) (by omega) (by have:(2:Int).toNat=2:=rfl;omega) ll Ik f3⟩
inductive Ai(vs:List V)(H:Hp)(Q:VK)(E:XK):Prop
 | mk (l c w:Addr) (W:Addr→Prop) (aB:jW) (pq:mK) (rq:eY) (_:vs=[.ref l,.ref w]) (_:cV H l c) (_:Wo W H w aB pq rq) (_:(∀ a,W a→a≠l∧a≠c)) (_:aB.length≤50000) (_ :
 ∀ (r:Addr) (row:Row) (H':Hp),row.length≤2→bP H' r row→(∀ p∈row,0≤p.1∧p.1<p.2∧p.2≤aB.length∧p.2≤p.1+40)→H r=none→cV H' l c→cA l H H'→Q (.ref r) H'):Ai vs H Q E
theorem gW:aG ["_law_src_here","_law_world_here","_law_many","_law_row","_law_k","_law_start","_law_span"] ["_law_src_here","_law_world_here"] (ay lG):=⟨rfl,rfl,rfl,by decide +kernel,rfl,by decide +kernel,by decide +kernel⟩
set_option maxHeartbeats 4000000 in
theorem Aj{f fN:Addr}{fd gN:FuncData}(F:gX K "_law_ink_row" "_law_ink_row" lG f fd)(T:n9 mg)(aR:aA K mg "_law_next" iz vn fN gN):aF P w K mg base bN 2 f fd OJ Ai:=by
 have bF:aF P w K mg base bN 1 _ _ vn qO:=ki aR.F T
 refine F.ok gW (fun vs H Q E h=>?_) (fun cdv A outer s H vs Q E hr h=>?_)
 ·obtain⟨l,c,w,W,aB,pq,rq,rfl,_⟩:=h
  rfl
 obtain⟨l,c,w,W,aB,pq,rq,rfl,S,wo,dw,b1,k⟩:=h
 have hu:=mH hr
 refine⟨_,(ak (aQ (i:=2) gW.nd rfl (Or.inl rfl) (aO bq rfl T.ic lN (aa (iY hu (pv 1) bT (fun _ _=>rfl)) ah)))
   (ak (aQ (i:=3) gW.nd rfl (Or.inl rfl) (bI ah))
   (ak (iV PassesOwn.never rfl (kW rfl T.lH (aa (bH FY (aP aR bF hr (aa (pv 0) (aa az ah))) (aO (vt rfl) rfl T.Lr PyProof.Rows.boot_min (aa az (aa (pv 2) ah)))) ah)) (aV (i:=4) gW.nd rfl (Or.inl rfl))
   (ak (aQ (i:=5) gW.nd rfl (Or.inl rfl) (aP aR bF hr (aa (pv 0) (aa (aO (vq rfl) rfl T.Ls PyProof.Rows.boot_max (aa az (aa (pv 2) ah))) ah))))
   (ak (aQ (i:=6) gW.nd rfl (Or.inl rfl) (bH iy az (aP aR bF hr (aa (pv 0) (aa (aO (vq rfl) rfl T.Ls PyProof.Rows.boot_max (aa az (aa (aO (vt rfl) rfl T.Lr PyProof.Rows.boot_min (aa (bu bw (bI (aa az (aa az (aa az (aa az ah))))) (aP aR bF hr (aa (pv 0) (aa az ah))) (fun _ _=>rfl)) (aa (bH kX (pv 2) (pv 5)) ah))) ah))) ah)))))
   (ao (bO (jF qz uu uv cF (pv 3) (aa (jH (aa (pv 5) (aa (bH iy (pv 5) (pv 6)) ah))) ah)))))))
   (ao (aM (pv 3)))))),?_⟩
 obtain⟨ik,rw,ps,vl,wu⟩:=id wo
 obtain⟨as,hik,pa⟩:=id wu.hi
 have la:=Paired.length pa
 have zi:=oz.k (k:=kI) wu.hw
 rw[show bU (Ae ik rw ps vl) kI=some (.ref ik) by kernel_rfl]at zi
 refine⟨_,rfl,w,_,rfl,zi,ik,_,rfl,.inl (bG.of hik),?_⟩
 refine⟨(by show 0≤sizeLine;decide),fun r hr0=>?_⟩
 have s1:=aj hr0 (.lst [])
 have r1:(upd H r (.lst [])) r=some (.lst []):=af
 have nr:=S.ne hr0
 have S1:=S.same s1
 generalize upd H r (.lst [])=H1 at s1 r1 S1
 refine⟨_,rfl,l,c,3,rfl,S1,by decide,by decide,fun v H2 v0 v1 S2 k2=>?_⟩
 rw[show (as.map V.ref).length=aB.length by rw[bY,la]]
 refine⟨_,rfl,_,_,rfl,_,_,rfl,rfl,.inl ⟨by omega,by omega⟩,?_⟩
 have hm:∃ n:Nat,(v*(if (aB.length:Int)<1 then (aB.length:Int) else 1))=n∧n≤2∧(0<n→1≤aB.length):=by
  split
  ·rename_i z
   refine⟨0,?_,by omega,by omega⟩
   rw[show (aB.length:Int)=0 by omega]
   exact Int.mul_zero _
  ·exact⟨v.toNat,by rw[Int.mul_one];omega,by omega,fun _=>by omega⟩
 obtain⟨n,en,n2,n1⟩:=hm
 have hM:(if (aB.length:Int) > 1 then (aB.length:Int) else 1)=if 1≤aB.length then (aB.length:Int) else 1:=by split <;> split <;> omega
 refine⟨n,congrArg (fun z=>[V.int z]) en,by omega,by omega,m7 (lo:=0) (n:=((n:Nat):Int).toNat) (fun j σ H3=>∃ (u4 u5 u6:Option V) (row:Row),σ=[some (.ref l),some (.ref w),some (.int (aB.length:Nat)),some (.ref r),u4,u5,u6]∧bP H3 r row∧row.length=j∧(∀ p∈row,0≤p.1∧p.1<p.2∧p.2≤aB.length∧p.2≤p.1+40)∧cV H3 l c∧cA l H H3) ⟨none,none,none,[],rfl,⟨[],(k2 r nr.1.symm).trans r1,.nil⟩,rfl,(fun p hp=>nomatch hp),S2,(iR.aH.keep s1).trans (cN k2)⟩ ?_ ?_⟩
 ·rintro j σ H3 hj ⟨u4,u5,u6,row,rfl,R3,lr,hp,S3,K3⟩
  have hk:1≤aB.length:=n1 (by omega)
  rw[if_pos hk]at hM
  refine⟨_,rfl,_,rfl,_,_,rfl,l,c,_,rfl,S3,(by rw[hM];omega),(by rw[hM];omega),fun a H4 a0 a1 S4 k4=>?_⟩
  rw[hM]at a1
  refine⟨_,rfl,(by show 4≤sizeLine;decide),fun t ht=>?_⟩
  have s5:=aj ht (.lst [.int 4,.int 4,.int 4,.int 40])
  have h5:(upd H4 t (.lst [.int 4,.int 4,.int 4,.int 40])) t=some (.lst [.int 4,.int 4,.int 4,.int 40]):=af
  have nt:=S4.ne ht
  have S5:=S4.same s5
  generalize upd H4 t (.lst [.int 4,.int 4,.int 4,.int 40])=H5 at s5 h5 S5
  refine⟨_,rfl,l,c,4,rfl,S5,by decide,by decide,fun i H6 i0 i1 S6 k6=>?_⟩
  obtain⟨z,hz,ez⟩:=Fp (xs:=[V.int 4,.int 4,.int 4,.int 40]) i0 (by show i<4;omega)
  obtain⟨q,rfl,q0,q1⟩:∃ q:Int,z=.int q∧4≤q∧q≤40:=by
   rcases List.mem_cons.mp hz with y|hz
   ·exact⟨4,y,by decide,by decide⟩
   rcases List.mem_cons.mp hz with y|hz
   ·exact⟨4,y,by decide,by decide⟩
   rcases List.mem_cons.mp hz with y|hz
   ·exact⟨4,y,by decide,by decide⟩
   ·exact⟨40,List.mem_singleton.mp hz,by decide,by decide⟩
  refine⟨t,_,_,_,rfl,rfl,bG.of ((k6 t nt.1.symm).trans h5),ez,?_⟩
  have hX:∃ x:Int,(if (if (aB.length:Int)-a<q then (aB.length:Int)-a else q) > 1 then (if (aB.length:Int)-a<q then (aB.length:Int)-a else q) else 1)=x∧1≤x∧x≤aB.length-a∧x≤40:=⟨_,rfl,by split <;> split <;> omega,by split <;> split <;> omega,by split <;> split <;> omega⟩
  obtain⟨M,eM,M1,M2,M3⟩:=hX
  refine⟨_,rfl,_,rfl,_,_,rfl,rfl,_,_,rfl,_,_,rfl,l,c,_,rfl,S6,(by rw[eM];omega),(by rw[eM];omega),fun b H7 b0 b1 S7 k7=>⟨_,_,rfl,rfl,?_⟩⟩
  rw[eM]at b1
  have K7:cA l H3 H7:=(((cN k4).trans (iR.aH.keep s5)).trans (cN k6)).trans (cN k7)
  obtain⟨bs,hb,pb⟩:=R3
  obtain⟨ls,hl⟩:=S3.lst
  have hb7:=K7 _ _ hb nr.1.symm
  have pb7:aX H7 bs row:=pb.tups fun a xs e=>K7 _ _ e (cE e hl (by intro z;cases z))
  have lb:=Paired.length pb
  refine⟨_,rfl,.inl ⟨rfl,_,bG.of hb7⟩,_,rfl,_,rfl,_,rfl,_,_,rfl,rfl,(by show 2≤sizeLine;decide),fun p hp2=>⟨r,_,_,rfl,rfl,aj hp2 _ _ _ hb7,(by rw[bY];exact aL (by omega)),?_⟩⟩
  have sp:=aj hp2 (.tup [.int a,.int (a+(1+b))])
  have p8:(upd H7 p (.tup [.int a,.int (a+(1+b))])) p=some (.tup [.int a,.int (a+(1+b))]):=af
  have hb8:=sp _ _ hb7
  have S8:=S7.same sp
  have K8:cA l H (upd H7 p (.tup [.int a,.int (a+(1+b))])):=(K3.trans K7).trans (iR.aH.keep sp)
  have pb8:=aX.snoc (p:=(a,a+(1+b))) (pb7.same sp) p8
  refine⟨_,_,_,row++[(a,a+(1+b))],rfl,⟨bs++[p],by rw[lK];exact af,pb8.tups fun y xs e=>?_⟩,by rw[eZ,lr];rfl,fun y hy=>?_,?_,fun y ob e n=>?_⟩
  ·exact (aC (cE e hb8 (by intro z;cases z))).trans e
  ·rcases List.mem_append.mp hy with hy|hy
   ·exact hp y hy
   ·rw[List.mem_singleton.mp hy]
    exact⟨a0,by show a<a+(1+b);omega,by show a+(1+b)≤_;omega,by show a+(1+b)≤a+40;omega⟩
  ·obtain⟨n,ns,i,d,r',e1,e2,h3⟩:=S8
   exact⟨n,ns,i,d,r',(aC nr.1).trans e1,(aC nr.2).trans e2,h3⟩
  ·exact (aC (au e hr0)).trans (K8 _ _ e n)
 rintro σ H3 ⟨u4,u5,u6,row,rfl,R3,lr,hp,S3,K3⟩
 exact⟨_,rfl,k r row H3 (by omega) R3 hp hr0 S3 K3⟩
theorem Ds(cs:List Nat){k:Int}(h:0≤k):gY.zb cs none (some k)=cs.take k.toNat:=by
 unfold gY.zb
 have e1:HT.gH cs.length 0 none=0:=rfl
 have e2:HT.gH cs.length cs.length (some k)=min k.toNat cs.length:=by
  show (if k<0 then (k+(cs.length:Int)).toNat else min k.toNat cs.length)=_
  rw[if_neg (by omega)]
 rw[e1,e2,List.drop_zero,Nat.sub_zero]
 rcases Nat.le_total k.toNat cs.length with z|z
 ·rw[Nat.min_eq_left z]
 ·rw[Nat.min_eq_right z,yk (fH _),yk z]
theorem BP(cs:List Nat){k:Int}(h:0≤k):gY.zb cs (some k) none=cs.drop k.toNat:=by
 unfold gY.zb
 have e2:HT.gH cs.length 0 (some k)=min k.toNat cs.length:=by
  show (if k<0 then (k+(cs.length:Int)).toNat else min k.toNat cs.length)=_
  rw[if_neg (by omega)]
 have e1:HT.gH cs.length cs.length none=cs.length:=rfl
 rw[e1,e2]
 rcases Nat.le_total k.toNat cs.length with z|z
 ·rw[Nat.min_eq_left z,yk (by rw[List.length_drop];omega)]
 ·rw[Nat.min_eq_right z,List.drop_of_length_le (fH _),List.drop_of_length_le z]
  simp
theorem Fv{es:List Int}(h:∀ e∈es,0≤e):jG es=[]:=by
 unfold jG
 rw[List.filterMap_eq_nil_iff]
 intro e he
 rw[if_neg (by have:=h e he;omega)]
theorem Fw(sh:Int→List Int):∀ {es:List Int},(∀ e∈es,0≤e)→dY sh es=es
 | [],_=>rfl
 | e::r,h=>by
  rw[j6,rN sh (h e (qH ..)),Fw sh fun y hy=>h y (rV _ hy)]
  rfl
theorem OE(sh:Int→List Int)(p:Int):∀ (es:List Int) (f:Int),(∀ e∈es,0≤e)→aE sh p f es=es.take (p-f).toNat
 | [],_,_=>by simp[aE]
 | a::r,f,h=>by
  rw[aE,OE sh p r _ fun y hy=>h y (rV _ hy),rN sh (h a (qH ..))]
  show (if f+1≤p then [a] else if p≤f then [] else _)++r.take (p-(f+1)).toNat=_
  by_cases c:f+1≤p
  ·rw[if_pos c,show (p-f).toNat=(p-(f+1)).toNat+1 by omega]
   rfl
  ·rw[if_neg c,if_pos (by omega),show (p-f).toNat=0 by omega,show (p-(f+1)).toNat=0 by omega]
   rfl
theorem OF(sh:Int→List Int)(p:Int):∀ (es:List Int) (f:Int),(∀ e∈es,0≤e)→bE sh p f es=es.drop (p-f).toNat
 | [],_,_=>by simp[bE]
 | a::r,f,h=>by
  rw[bE,OF sh p r _ fun y hy=>h y (rV _ hy),rN sh (h a (qH ..))]
  show (if f+1≤p then [] else if p≤f then [a] else _)++r.drop (p-(f+1)).toNat=_
  by_cases c:f+1≤p
  ·rw[if_pos c,show (p-f).toNat=(p-(f+1)).toNat+1 by omega]
   rfl
  ·rw[if_neg c,if_pos (by omega),show (p-f).toNat=0 by omega,show (p-(f+1)).toNat=0 by omega]
   rfl
theorem Im(f:Int→Int):∀ {es:List Int},(∀ e∈es,0≤e)→GB f es=(es.length:Int)
 | [],_=>rfl
 | e::r,h=>by
  have ih:=Im f (es:=r) fun y hy=>h y (rV _ hy)
  have he:=h e (qH ..)
  unfold GB at ih ⊢
  rw[kO,List.sum_cons,ih,if_neg (by omega),mq]
  omega
def Dt(n:Nat)(rows:eY):Prop:=∀ es∈rows,es.length≤200∧∀ e∈es,0≤e∧e<(n:Nat)
def own(rows:eY)(x:Int):List Int:=(rows[x.toNat]?).getD []
theorem Dt.QM{n:Nat}{rows:eY}(h:Dt n rows){x y:Int}:¬ Bs rows x y:=fun ⟨_,es,he,hy⟩=>by
 rw[Fv fun e z=>((h es (rW he)).2 e z).1]at hy
 cases hy
theorem Dt.sound{n:Nat}{rows:eY}(h:Dt n rows):Sound rows:=fun es he y hy=>by
 rw[Fv fun e z=>((h es he).2 e z).1]at hy
 cases hy
theorem Dt.rkd{n:Nat}{rows:eY}(h:Dt n rows):HL rows:=⟨fun _=>0,fun _=>mO _,fun _ _ z=>absurd z h.QM⟩
theorem Du{rows:eY}{x:Int}{es:List Int}(h:rows[x.toNat]?=some es):own rows x=es:=by
 unfold own
 rw[h]
 rfl
theorem Dt.own{n:Nat}{rows:eY}(h:Dt n rows)(x:Int):(own rows x).length≤200∧∀ e∈own rows x,0≤e∧e<(n:Nat):=by
 unfold iR.own
 cases e:rows[x.toNat]? with
 | none=>exact⟨Nat.zero_le _,fun _ z=>nomatch z⟩
 | some es=>exact h es (rW e)
theorem Dt.seen{n:Nat}{rows:eY}(h:Dt n rows):Seen rows (iR.own rows):=by
 refine⟨fun es he=>by have:=(h es he).1;omega,h.sound,h.rkd,fun x es _ he=>?_,fun x _ _=>by have:=(h.own x).1;omega⟩
 rw[Du he,Fw _ fun e z=>((h es (rW he)).2 e z).1]
theorem Dt.bears{n:Nat}{rows:eY}(h:Dt n rows)(l:rows.length≤100):wZ rows fun x=>((iR.own rows x).length:Int):=by
 refine⟨l,fun es he=>by have:=(h es he).1;omega,h.sound,h.rkd,fun x es _ he=>?_,fun x _ _=>by have:=(h.own x).1;omega⟩
 rw[Du he,Im _ fun e z=>((h es (rW he)).2 e z).1]
theorem Dt.more{n m:Nat}{rows:eY}(h:Dt n rows)(l:n≤m):Dt m rows:=fun es he=>⟨(h es he).1,fun e z=>⟨((h es he).2 e z).1,by have:=((h es he).2 e z).2;omega⟩⟩
theorem L7{rows:eY}{s:Nat}{es x:List Int}(h:x∈mZ rows s es):x=es∨x∈rows:=by
 unfold mZ at h
 rcases List.mem_append.mp h with h|h
 ·rcases List.mem_append.mp h with h|h
  ·exact .inr (List.mem_of_mem_take h)
  ·exact .inl (List.mem_singleton.mp h)
 ·exact .inr (List.mem_of_mem_drop h)
theorem Ma{rows:eY}{s:Nat}(es:List Int)(h:s<rows.length):mZ rows s es=rows.set s es:=by
 unfold mZ
 rw[List.set_eq_take_append_cons_drop,if_pos h,pC]
 rfl
theorem Fx{k:Nat}:∀ {row:Row},(∀ p∈row,p.2≤p.1+(k:Nat))→(aS row).length≤k*row.length
 | [],_=>mO _
 | p::r,h=>by
  have ih:=Fx (row:=r) fun q hq=>h q (rV _ hq)
  have hp:=h p (qH ..)
  have e:aS (p::r)=span p++aS r:=by unfold aS;rw[nh]
  rw[e,eZ,mq,Nat.mul_add,Nat.mul_one]
  have:(span p).length≤k:=by unfold span;rw[iF];omega
  omega
theorem Fy{n:Nat}{row:Row}(h:∀ p∈row,0≤p.1∧p.1<p.2∧p.2≤(n:Nat)){e:Int}(he:e∈aS row):0≤e∧e<(n:Nat):=by
 unfold aS at he
 obtain⟨p,hp,hm⟩:=List.mem_flatMap.mp he
 have b:=h p hp
 have m:=HN.mp hm
 omega
theorem JS{sh:Int→List Int}{p:Int}{es new:List Int}(h:∀ e∈es,0≤e):tV sh p es new=es.take p.toNat++new++es.drop p.toNat:=by
 unfold tV
 split
 ·rename_i e
  rw[e,om,List.take_append_drop]
 ·rw[OE sh p es 0 h,OF sh p es 0 h,Int.sub_zero]
theorem cV.fru{U U':Addr→Prop}{H H':Hp}{l c:Addr}(S:cV H l c)(fr:OA U U' H H')(nl:¬ U l)(nc:¬ U c):cV H' l c:=by
 obtain⟨n,ns,i,d,r,e1,e2,h3⟩:=S
 exact⟨n,ns,i,d,r,fr.2.1 _ _ e1 nl,fr.2.1 _ _ e2 nc,h3⟩
theorem xm.acX{C CS CW CB:Addr}{H H':Hp}{l c w x:Addr}{U U' W:Addr→Prop}{pe Q0:mK}{rows rows':eY}{pq:mK}{rq:eY}{lines iI:mh}{aB:jW}{nW G1:Nat}{bK OG:Row}(St:xm C CS CW CB H l c w x U W pe rows pq rq lines aB nW bK)(L':Al C CS CW CB U' H' x Q0 iI aB G1 OG)(hl:Q0.getLast?=some rows')(fr:OA U U' H H'):xm C CS CW CB H' l c w x U' W Q0 rows' pq rq iI aB G1 OG∧Ij l U W U' W H H':=by
 refine⟨⟨St.src.fru fr (fun z=>(St.du l z).2.1 rfl) (fun z=>(St.du c z).2.2 rfl),L',hl,St.wo.fr (fun a ob e z=>fr.2.1 _ _ e (fun y=>(St.du a y).1 z)) fr.2.2,fun a z=>?_,St.dw⟩,fun a z=>z.elim (fun z=>(fr.1 a z).elim .inl fun y=>.inr (.inr y)) (fun z=>.inr (.inl z)),fun a ob e _ u _=>fr.2.1 a ob e u,fr.2.2⟩
 rcases fr.1 a z with y|y
 ·exact St.du a y
 ·have n:=St.src.ne y
  refine⟨fun z=>?_,n.1.symm,n.2.symm⟩
  obtain⟨ob,e⟩:=St.wo.al z
  rw[y]at e;cases e
theorem xm.off{C CS CW CB:Addr}{H H':Hp}{l c w x r:Addr}{rs:List V}{U W:Addr→Prop}{pe:mK}{rows:eY}{pq:mK}{rq:eY}{lines:mh}{aB:jW}{nW:Nat}{bK:Row}(St:xm C CS CW CB H l c w x U W pe rows pq rq lines aB nW bK)(hr:H r=some (.lst rs))(nU:¬ U r)(G1:¬ W r)(nl:r≠l)(nc:r≠c)(k:cA r H H'):xm C CS CW CB H' l c w x U W pe rows pq rq lines aB nW bK:=by
 have t:∀ a xs,H a=some (.tup xs)→H' a=some (.tup xs):=fun a xs e=>k _ _ e (cE e hr (by intro z;cases z))
 refine⟨?_,St.Mm.fr (fun a ob e z=>k _ _ e (fun q=>nU (q ▸ z))) t,St.lst,St.wo.fr (fun a ob e z=>k _ _ e (fun q=>G1 (q ▸ z))) t,St.du,St.dw⟩
 obtain⟨n,ns,i,d,r',e1,e2,h3⟩:=St.src
 exact⟨n,ns,i,d,r',k _ _ e1 nl.symm,k _ _ e2 nc.symm,h3⟩
def G2(aB:jW)(rows:eY):mh:=rows.map fun es=>es.map (nY aB [] 35)
abbrev J2(cs:List Nat):V:=.str (txt cs)
theorem NR{aB more:jW}{a:Int}(h:0≤a∧a<(aB.length:Nat)):nY (aB++more) [] 35 a=nY aB [] 35 a:=by
 unfold nY
 rw[yj (by omega)]
theorem Mb{aB more:jW}{rows:eY}(h:Dt aB.length rows):G2 (aB++more) rows=G2 aB rows:=by
 unfold G2
 refine List.map_congr_left fun es he=>List.map_congr_left fun a ha=>NR ((h es he).2 a ha)
theorem G3(ns:List Int):tot (rowOf ns)=(ns.length:Int):=by rw[← pL _ (pK _),dX]
inductive qj(C CS CW CB:Addr)(vs:List V)(H:Hp)(Q:VK)(E:XK):Prop
 | mk (U:Addr→Prop) (x t:Addr) (pe:mK) (lines:mh) (aB:jW) (nW:Nat) (rows:eY) (m:Int) (_:vs=[.ref x,.ref t,.int m]) (_:Al C CS CW CB U H x pe lines aB nW []) (_:pe.getLast?=some rows) (_:rows.length≤50) (_:pe.length≤900) (_:aB.length≤100000) (_:Dt aB.length rows) (_:H t=some (.lst ((G2 aB rows).map J2))) (_:m=(pe.length:Int)-1) (_: ∀ H',aH H H'→Q (.bl true) H'):qj C CS CW CB vs H Q E
theorem n6:aG ["_law_house","_law_texts","_law_moment","_law_sheet"] ["_law_house","_law_texts","_law_moment"] (ay iX):=⟨rfl,rfl,rfl,by decide +kernel,rfl,by decide +kernel,by decide +kernel⟩
set_option maxHeartbeats 4000000 in
theorem um{f C CS CW CB XS XM XT XO XP fS fZ f1 f2 f3 f4 f5 fM fO:Addr}{fd g1 g2 g3 g4 g5 gM gO:FuncData}(F:gX K "_law_texts_right" "_law_texts_right" iX f fd)(X:zU K mg C CS CW CB XS XM XT XO XP)(A1:JN K mg CS)(A4:QZ K mg fS fZ)(A5:Mj K mg CW CB)(bh:aN K C "shown" "Library.shown" dh Am f1 g1)(dH:aN K C "veiled" "Library.veiled" dG J4 f2 g2)(jR:aN K C "text" "Library.text" jO Am f3 g3)(jS:aN K C "size" "Library.size" jN Am f4 g4)(kM:aN K C "now" "Library.now" kE gZ f5 g5){f6:Addr}{g6:FuncData}(cL:aN K C "many" "Library.many" iT gZ f6 g6)(bx:aA K mg "_law_same" iA vj fM gM)(bL:aA K mg "_law_whole" dU BS fO gO):aF P w K mg base bN 7 f fd OL (qj C CS CW CB):=by
 have AH:aF P w K mg base (qC P w) 6 _ _ Am (wB C CS CW CB XS):=xO jR.F X A1 A4 A5 bh dH
 obtain⟨LM,_,_,_,_,_,_,_,_⟩:=X
 have AI:aF P w K mg base (qC P w) 6 _ _ Am (Dd C CS XS):=xM jS.F LM A1 A4 bh
 obtain⟨⟨_,_,d1⟩,⟨_,_,d2⟩,_,_,_,_,_⟩:=A1
 have pB:aF P w K mg base bN 2 _ _ gZ (yf C CS):=qw cL.F LM d1
 have Dv:aF P w K mg base bN 2 _ _ gZ (GU C CS):=zP kM.F LM d2
 obtain⟨⟨T,_,_,_,_,_⟩,⟨fi,aJ⟩,nw,ns,DB,nk,nd,DC,cP,G⟩:=LM
 have gB:aF P w K mg base bN 2 _ _ vj (tM 1):=oH T bL bx 1
 refine F.ok n6 (fun vs H Q E h=>?_) (fun cdv A outer s0 H vs Q E hr h=>?_)
 ·obtain⟨U,x,t,pe,lines,aB,nW,rows,m,rfl,_⟩:=h
  rfl
 obtain⟨U,x,t,pe,lines,aB,nW,rows,m,rfl,LB,hl,l1,l2,li,nn,ht,em,k⟩:=h
 refine⟨_,(ak (iV PassesOwn.never rfl (kW rfl T.lH (aa (aO bq rfl T.ic lN (aa (pv 1) ah)) ah)) (aV (i:=3) n6.nd rfl (Or.inl rfl))
   (ak (cy (kU (kT (aP bx gB hr (aa (cM (pv 0) aJ.cl jR.mt AH (hr.mono (by decide)) jR.b .nil Bg (aa (pv 3) ah)) (aa (bu bw (pv 1) (pv 3) (fun _ _=>rfl)) ah)))))
   (ao (aM oA))
   bC)
   (ao (cy (kU (kT (aP bx gB hr (aa (cM (pv 0) aJ.cl jS.mt AI (hr.mono (by decide)) jS.b .nil Bg (aa (pv 3) ah)) (aa (aO jv rfl T.ic lN (aa (bu bw (pv 1) (pv 3) (fun _ _=>rfl)) ah)) ah)))))
   (ao (aM oA))
   bC))))
   (ao (aM (oV (aP bx gB hr (aa (b8 (pv 0) aJ.cl kM.mt Dv (hr.mono (by decide)) kM.b .nil cK) (aa (pv 2) ah))) (pV (aP bx gB hr (aa (b8 (pv 0) aJ.cl cL.mt pB (hr.mono (by decide)) cL.b .nil cK) (aa (aO bq rfl T.ic lN (aa (pv 1) ah)) ah)))))))),?_⟩
 have lt:((G2 aB rows).map J2).length=rows.length:=by unfold G2;rw[bY,bY]
 refine⟨_,rfl,t,_,rfl,.inl (bG.of ht),_,rfl,by omega,by omega,?_⟩
 have tx:∀ j,j<rows.length→∃ es,rows[j]?=some es∧((G2 aB rows).map J2)[j]?=some (J2 (es.map (nY aB [] 35))):=fun j hj=>⟨rows[j],oj hj,by unfold G2;rw[qG,qG,oj hj];rfl⟩
 refine m7 (lo:=0) (n:=_) (fun j σ H1=>∃ u:Option V,σ=[some (.ref x),some (.ref t),some (.int m),u]∧aH H H1) ⟨none,rfl,aH.refl _⟩ ?_ ?_
 ·rintro j σ H1 hj ⟨u,rfl,s1⟩
  have hj':j<rows.length:=by omega
  obtain⟨es,e1,e2⟩:=tx j hj'
  have eo:own rows (0+(j:Int))=es:=Du (by rw[show (0+(j:Int)).toNat=j by omega];exact e1)
  have UR:=(nn es (rW e1)).1
  have L1:=LB.same s1
  obtain⟨S,SW,d,wl,sh,bl,kn,du,bk,dS,st,op,dw,sg,ow,pw,db,tb,ops,LU⟩:=id L1
  refine⟨_,rfl,x,d,_,rfl,LU.L.hx,rfl,_,rfl,U,x,pe,lines,aB,nW,[],rows,0+(j:Int),rfl,L1,hl,l1,l2,li,⟨by omega,by omega⟩,fun z=>absurd ⟨by omega,by omega⟩ z,fun _=>⟨own rows,nn.seen,(nn.own _).2,fun H2 s2=>?_⟩⟩
  have s12:=s1.trans s2
  rw[eo]
  refine⟨_,rfl,_,rfl,t,_,_,_,rfl,rfl,bG.of (s12 _ _ ht),by rw[show (0+(j:Int))=((j:Nat):Int) by omega];exact cU e2,_,_,rfl,.inl ⟨rfl,rfl⟩,fun H3 s3=>⟨true,rfl,i7 ?_⟩⟩
  have JX:=s12.trans s3
  have L3:=LB.same JX
  obtain⟨S,SW,d,wl,sh,bl,kn,du,bk,dS,st,op,dw,sg,ow,pw,db,tb,ops,LU⟩:=id L3
  refine⟨_,rfl,x,d,_,rfl,LU.L.hx,rfl,_,rfl,S,x,d,wl,sh,bl,kn,du,bk,dS,st,op,pe,ops,lines,rows,0+(j:Int),rfl,LU.L,hl,l1,l2,⟨by omega,by omega⟩,fun z=>absurd ⟨by omega,by omega⟩ z,fun _=>⟨own rows,nn.seen,by have:=vW (own rows (0+(j:Int)));rw[eo]at this ⊢;omega,fun H4 s4=>?_⟩⟩
  have Ql:=JX.trans s4
  rw[eo,G3]
  refine⟨_,rfl,_,rfl,t,_,_,_,rfl,rfl,bG.of (Ql _ _ ht),by rw[show (0+(j:Int))=((j:Nat):Int) by omega];exact cU e2,txt _,rfl,(by rw[dQ,bY];exact jb (aL (by omega))),_,_,rfl,?_,fun H5 s5=>⟨true,rfl,i7 ⟨_,rfl,Ql.trans s5⟩⟩⟩
  rw[dQ,bY]
  exact Eqv.int _
 ·rintro σ H1 ⟨u,rfl,s1⟩
  have L1:=LB.same s1
  obtain⟨S,SW,d,wl,sh,bl,kn,du,bk,dS,st,op,dw,sg,ow,pw,db,tb,ops,LU⟩:=id L1
  have lo:=yh LU.L hl
  refine⟨_,rfl,x,d,_,rfl,LU.L.hx,rfl,S,x,d,wl,sh,bl,kn,du,bk,dS,st,op,_,ops,lines,rfl,LU.L,?_⟩
  have lp:(uq pe).length=pe.length:=bY _
  refine⟨_,rfl,_,_,rfl,.inl ⟨rfl,by rw[em,lp]⟩,fun H2 s2=>⟨true,rfl,jI ?_⟩⟩
  have s12:=s1.trans s2
  have FN:=LU.same s2
  refine⟨_,rfl,x,d,_,rfl,FN.L.hx,rfl,S,x,d,wl,sh,bl,kn,du,bk,dS,st,op,_,ops,lines,rfl,FN.L,?_⟩
  refine⟨_,rfl,t,_,rfl,.inl (bG.of (s12 _ _ ht)),_,_,rfl,.inl ⟨rfl,by rw[lt,lo]⟩,fun H3 s3=>k H3 (s12.trans s3)⟩
theorem m6:aG ["_law_row","_law_numbers","_law_start","_law_stop"] ["_law_row"] (ay oF):=⟨rfl,rfl,rfl,by decide +kernel,rfl,by decide +kernel,by decide +kernel⟩
theorem Dw{f:Addr}{fd:FuncData}(F:gX K "_law_spell" "_law_spell" oF f fd)(T:n9 mg):aF P w K mg base bN 1 f fd ["_law_row"] (Cb 1000000):=by
 refine F.ok m6 (fun vs H Q E h=>?_) (fun cdv A outer s H vs Q E hr h=>?_)
 ·obtain⟨r,row,rfl,_⟩:=h
  rfl
 obtain⟨r,row,rfl,⟨as,hr1,hp⟩,hbd,hlen,hrl,k⟩:=h
 refine⟨_,(ak (aQ (i:=1) m6.nd rfl (Or.inl rfl) (bI ah))
   (ak (iV PassesOwn.never rfl (cH (pv 0)) (qJ (n:=2) rfl (bS (aV (i:=2) m6.nd rfl (Or.inl rfl)) (bS (aV (i:=3) m6.nd rfl (Or.inl rfl)) ku)))
   (ao (bO (jF qz PySem.F.slot_list_extend PySem.F.type_list_extend AS (pv 1) (aa (iQ (sQ rfl) rfl T.nM yl (aa (iQ Ea rfl T.lH PyProof.Rows.boot_range (aa (pv 2) (aa (pv 3) ah))) ah)) ah)))))
   (ao (aM (pv 1))))),?_⟩
 refine⟨(by show 0≤sizeLine;decide),fun q hq=>?_⟩
 have s0:aH H (upd H q (.lst [])):=aj hq _
 refine⟨_,rfl,r,rfl,⟨_,bG.of (s0 _ _ hr1)⟩,jM (K:=K) (a:=r) (xs:=as.map V.ref) (fun i σ H2=>∃ (u v:Option V),σ=[some (.ref r),some (.ref q),u,v]∧H2 q=some (.lst ((aS (row.take i)).map V.int))∧aH H H2)
  ⟨none,none,rfl,af,s0⟩ (fun i σ H2 _ ⟨_,_,_,_,s⟩=>bG.of (s _ _ hr1)) ?_ ?_⟩
 ·rintro i x σ H2 hi ⟨u,v,rfl,hq2,s⟩
  rw[qG]at hi
  obtain⟨a,ea,rfl⟩:=Option.map_eq_some_iff.mp hi
  obtain⟨⟨st,en⟩,ep,ha⟩:=hp.get ea
  obtain⟨b1,b2,b3⟩:=hbd _ (rW ep)
  simp only at b1 b2 b3
  have step:=yP ep
  have lz:(aS (row.take i)).length+(en-st).toNat≤1000000:=by
   have z:=sR row (i+1)
   rw[step,eZ,span,iF]at z
   exact mL z hlen
  refine⟨a,_,rfl,jK.of (s _ _ ha),rfl,_,_,rfl,_,_,rfl,rfl,?_⟩
  refine⟨_,rfl,.inl ⟨rfl,_,bG.of hq2⟩,_,rfl,_,rfl,_,_,rfl,fun p hp=>⟨p,_,_,rfl,af,⟨by omega,by omega,by omega,by omega⟩,jb (aL (by omega)),fun m hm=>?_⟩⟩
  have s1:aH H2 (upd H2 p (.Dz st en)):=aj hp _
  have s2:=s1.trans (aj hm (.lst (A8 st (en-st).toNat)))
  refine⟨q,m,_,_,rfl,rfl,s2 _ _ hq2,af,?_,?_⟩
  ·rw[bY,yM,bY,iF]
   exact jb (aL (by omega))
  ·refine⟨_,_,rfl,?_,bV hq (s.trans s2) (aI q _ _)⟩
   rw[af,step,lK,yM]
   rfl
 ·rintro σ H2 ⟨u,v,rfl,hq2,s⟩
  refine⟨_,rfl,k q H2 ?_ s hq⟩
  rw[bY,hp.len,kr]at hq2
  exact hq2
theorem NS{n:Nat}{i:Nat}(h1:i<n):Hl n ((i:Nat):Int)=some i:=by
 unfold Hl
 rw[if_pos (by omega),Int.toNat_natCast,if_pos (by omega)]
inductive US(C CS CW CB l c x w t:Addr)(n j:Nat)(H:Hp):Prop
 | mk (U W:Addr→Prop) (pe:mK) (rows:eY) (pq:mK) (rq:eY) (lines:mh) (aB:jW) (nW:Nat) (_:xm C CS CW CB H l c w x U W pe rows pq rq lines aB nW []) (_:rows.length=n) (_:n≤4) (_:2≤n) (_:pe.length=n+3+j) (_:pq.length≤100+j) (_:lines.length≤100+j) (_:aB.length≤120+60*j) (_:nW≤2+j) (_:Dt aB.length rows) (_:H t=some (.lst ((G2 aB rows).map J2))) (_:¬ U t) (_:¬ W t) (_:t≠l) (_:t≠c):US C CS CW CB l c x w t n j H
def acY(C CS CW CB:Addr):TS:=fun D σ H=>∃ (a l c x w t:Addr) (n j:Nat) (u5 u6 u7 u8 u9 Q6 Q7:Option V),σ=[some (.ref a),some (.ref l),some (.ref x),some (.ref w),some (.ref t),u5,u6,u7,u8,u9,Q6,Q7]∧US C CS CW CB l c x w t n j H∧j<9∧∀ (v7 v8 v9 v10 v11:Option V) (H':Hp),US C CS CW CB l c x w t n (j+1) H'→D.nx [some (.ref a),some (.ref l),some (.ref x),some (.ref w),some (.ref t),u5,u6,v7,v8,v9,v10,v11] H'
def acZ:TS:=fun D σ H=>∃ (t r:Addr) (s:Int) (s0 s1 s2 s3 s5 s6 s8 ou:Option V) (ts:List V) (old:List Nat) (aB:jW) (row:Row),σ=[s0,s1,s2,s3,some (.ref t),s5,s6,some (.int s),s8,some (.ref r),some (J2 ((aS row).map (nY aB [] 35))),ou]∧H t=some (.lst ts)∧uE ts s=some (J2 old)∧old.length≤200∧(aS row).length≤100∧bP H r row∧∀ (r':Addr) (pQ:Row) (H':Hp),aH H H'→bP H' r' pQ→(r'=r∧pQ=row∨H r'=none∧pQ=[])→old.length+(aS pQ).length≤200→D.nx [s0,s1,s2,s3,some (.ref t),s5,s6,some (.int s),s8,some (.ref r'),some (J2 ((aS pQ).map (nY aB [] 35))),ou] H'
theorem n8:aG ["_law_script","_law_src_here","_law_house","_law_world_here","_law_texts","_law_moment","_law_k","_law_sheet","_law_place","_law_row","_law_new","_law_old"] ["_law_script"] (ay IV):=⟨rfl,rfl,rfl,by decide +kernel,rfl,by decide +kernel,by decide +kernel⟩
set_option maxHeartbeats 4000000 in
theorem Qx{C:Addr}{f x0 x1 x2 x3 x4 x5 x6 x7 x8 x9 OB x11 x12 x13 x14 x15 x16 x17 x18 x19 x20 x21 x22 x23 x24 x25 x26 x27 x28 x29 x30 x31 x32 x33 x34 x35 x36 x37 x38 x39 x40 x41 x42 x43 x44 x45 x46 x47 x48 x49 x50 x51 x52 x53 x54 x55 x56 x57 x58 x59 x60 x61 x62 x63 x64 x65 x66 x67 x68 x69 x70 x71 x72:Addr}{fd y0 y1 y2 y3 y4 y5 y6 y7 y8 y9 y10 y11 y12 y13 y14 y15 y16 y17 y18 y19 y20 y21 y22 y23 y24 y25 y26 y27 y28 y29 y30 y31 y32 y33 y34 y35 y36 y37 y38 y39 y40 y41 y42 y43 y44 y45 y46 y47 y48 y49 y50 y51 y52 y53 y54 y55 y56 y57 y58 y59 y60 y61 y62 y63 y64 y65 y66 y67 y68 y69 y70 y71 y72:FuncData}{bW:Addr}{dW:Addr}{gR:Addr}{sE:Addr}{wK:Addr}{aK:Addr}(F:gX K "law" "law" IV f fd)(T:n9 mg)(G:UM mg)(Z:ExcAt K mg C){nG:Addr}{m8:Addr}{m9:Addr}{pG:Addr}(eT:yZ K mg "NoSheet" nG)(dc:yZ K mg "NoMoment" m8)(dB:yZ K mg "OutOfInk" m9)(cP:yZ K mg "TooMany" pG)(BQ:aA K mg "_law_src" rF Mt x0 y0)
  (aR:aA K mg "_law_next" iz vn x1 y1)
  (bL:aA K mg "_law_whole" dU BS x2 y2)
  (bx:aA K mg "_law_same" iA vj x3 y3)
  (j5:aA K mg "plain" ny iu x4 y4)
  (jP:aA K mg "size" ssize iu x5 y5)
  (eE:aA K mg "check_places" iS xu x6 y6)
  (qb:aA K mg "pieces" pX xu x7 y7)
  (qh:aA K mg "addresses" nA iu x8 y8)
  (fX:aA K mg "first_reaching" dF Ir x9 y9)
  (yb:aA K mg "within" rG J5 OB y10)
  (jV:aN K gR "__init__" "Blots.__init__" iL gZ x11 y11)
  (kH:aN K gR "hides" "Blots.hides" kC Iq x12 y12)
  (b9:aA K mg "windows" eK oh x13 y13)
  (j4:aA K mg "below" kZ mj x14 y14)
  (jA:aA K mg "way_between" iB Iu x15 y15)
  (Ih:aA K mg "ring" AV vm x16 y16)
  (jB:aA K mg "item_weight" iC Iv x17 y17)
  (kG:aA K mg "weights_below" eL mj x18 y18)
  (cZ:aA K mg "item_row" gJ yi x19 y19)
  (gj:aA K mg "views_below" dO mj x20 y20)
  (zT:aA K mg "shown" yH vm x21 y21)
  (kF:aA K mg "goes_on" lQ FO x22 y22)
  (gx:aA K mg "plain_items" iD oh x23 y23)
  (nQ:aA K mg "inked" tH iu x24 y24)
  (vX:aA K mg "dealt" tK Iw x25 y25)
  (qd:aA K mg "put_among" lg J6 x26 y26)
  (qg:aA K mg "put_items" nB Mr x27 y27)
  (jq:aA K mg "ink_words" jc iu x28 y28)
  (oK:aA K mg "shown_deed" j8 ["deed"] x29 y29)
  (iP:aA K mg "changed" nC FP x30 y30)
  (jU:aN K bW "__init__" "Shelf.__init__" iM gZ x31 y31)
  (bz:aN K bW "now" "Shelf.now" eN gZ x32 y32)
  (dz:aN K bW "many" "Shelf.many" jd gZ x33 y33)
  (lY:aN K bW "step" "Shelf.step" j9 Q8 x34 y34)
  (eU:aN K bW "check_sheet" "Shelf.check_sheet" eO Am x35 y35)
  (cu:aN K bW "check_moment" "Shelf.check_moment" ck J3 x36 y36)
  (gV:aN K bW "rows_then" "Shelf.rows_then" cX J3 x37 y37)
  (cG:aN K bW "rows" "Shelf.rows" lR gZ x38 y38)
  (kK:aN K sE "__init__" "Ties.__init__" je gZ x39 y39)
  (kL:aN K wK "__init__" "Dues.__init__" jf gZ x40 y40)
  (kJ:aN K dW "__init__" "Well.__init__" jg gZ x41 y41)
  (bf:aN K dW "size" "Well.size" iE gZ x42 y42)
  (nX:aN K dW "pour" "Well.pour" nE Mq x43 y43)
  (dJ:aN K dW "check_address" "Well.check_address" cQ Iq x44 y44)
  (nZ:aN K dW "sign" "Well.sign" nF Iq x45 y45)
  (l9:aN K dW "holds" "Well.holds" kg NV x46 y46)
  (m5:aA K mg "check_weave" kD vm x47 y47)
  (oO:aN K aK "__init__" "Library.__init__" iW gZ x48 y48)
  (aY:aN K aK "enter" "Library.enter" cB Me x49 y49)
  (bX:aN K aK "change" "Library.change" fQ QD x50 y50)
  (cL:aN K aK "many" "Library.many" iT gZ x51 y51)
  (kM:aN K aK "now" "Library.now" kE gZ x52 y52)
  (jt:aN K aK "begin" "Library.begin" jh T3 x53 y53)
  (eX:aN K aK "fresh" "Library.fresh" gQ gZ x54 y54)
  (iJ:aN K aK "ink" "Library.ink" jw gZ x55 y55)
  (dM:aN K aK "check_held" "Library.check_held" dI NV x56 y56)
  (eF:aN K aK "pour" "Library.pour" iU Mq x57 y57)
  (qm:aN K aK "put" "Library.put" mR OI x58 y58)
  (bh:aN K aK "shown" "Library.shown" dh Am x59 y59)
  (dH:aN K aK "veiled" "Library.veiled" dG J4 x60 y60)
  (jR:aN K aK "text" "Library.text" jO Am x61 y61)
  (jS:aN K aK "size" "Library.size" jN Am x62 y62)
  (iK:aA K mg "_law_sign" jZ Iz x63 y63)
  (j7:aA K mg "_law_text" j0 J7 x64 y64)
  (oQ:aA K mg "_law_world" lS [] x65 y65)
  (eV:aA K mg "_law_keep" j3 FQ x66 y66)
  (lF:aA K mg "_law_pour" lu DF x67 y67)
  (oN:aA K mg "_law_fresh" lT Ms x68 y68)
  (xq:aA K mg "_law_begin" oE DF x69 y69)
  (tw:aA K mg "_law_ink_row" lG OJ x70 y70)
  (oR:aA K mg "_law_texts_right" iX OL x71 y71)
  (xr:aA K mg "_law_spell" oF ["_law_row"] x72 y72) (bJ:ClsAt K mg "Shelf" bW x31) (NT:aU K bW "states") (JT:aU K bW "openings") (cW:ClsAt K mg "Well" dW x41) (Mc:aU K dW "signs") (Io:aU K dW "owners") (BR:aU K dW "pourings") (lE:ClsAt K mg "Blots" gR x11) (Ip:aU K gR "stains") (Fg:ClsAt K mg "Ties" sE x39) (Qy:aU K sE "given") (Qz:aU K sE "pairs") (Fi:ClsAt K mg "Dues" wK x40) (TN:aU K wK "sums") (aJ:ClsAt K mg "Library" aK x48) (TQ:aU K aK "well") (QA:aU K aK "shelf") (QB:aU K aK "blots") (QC:aU K aK "knots") (TR:aU K aK "dues") (TU:aU K aK "book"):aF P w K mg base bN 14 f fd Mt (DV K):=by
 have JU:aF P w K mg base bN 1 _ _ Mt (KO K):=Gy BQ.F T
 have bF:aF P w K mg base bN 1 _ _ vn qO:=ki aR.F T
 have LM:zN K mg aK bW nG m8 pG:=⟨⟨T,⟨_,bJ⟩,NT,JT,eT,dc⟩,⟨_,aJ⟩,TQ,QA,QB,QC,TR,TU,cP,G⟩
 have X:zU K mg aK bW dW gR nG m8 pG m9 C:=⟨LM,⟨_,cW⟩,Mc,Io,BR,⟨_,lE⟩,Ip,dB,Z⟩
 have A1:JN K mg bW:=⟨⟨_,_,dz⟩,⟨_,_,bz⟩,⟨_,_,eU⟩,⟨_,_,cu⟩,⟨_,_,gV⟩,⟨_,_,cG⟩,⟨_,_,lY⟩⟩
 have A2:NI K mg:=⟨⟨_,_,b9⟩,⟨_,_,j4⟩,⟨_,_,jB⟩,⟨_,_,kG⟩,⟨_,_,jA⟩,⟨_,_,Ih⟩,⟨_,_,m5⟩,⟨_,_,iP⟩,⟨_,_,jq⟩,⟨_,_,oK⟩⟩
 have A3:Tp K mg aK:=⟨⟨_,_,aY⟩,⟨_,_,bX⟩,⟨_,_,cL⟩,⟨_,_,jt⟩⟩
 have A4:QZ K mg _ _:=⟨⟨_,_,b9⟩,⟨_,_,j4⟩,⟨_,_,cZ⟩,⟨_,_,j5⟩,⟨_,_,gj⟩,⟨_,zT⟩,⟨_,jP⟩⟩
 have A5:Mj K mg dW gR:=⟨⟨_,_,bf⟩,⟨_,_,nX⟩,⟨_,_,dJ⟩,⟨_,_,nZ⟩,⟨_,_,l9⟩,⟨_,_,kH⟩,⟨_,_,fX⟩,⟨_,_,yb⟩,⟨_,_,qh⟩⟩
 have A6:ItF K mg:=⟨⟨_,_,b9⟩,⟨_,_,j4⟩,⟨_,_,cZ⟩,⟨_,_,j5⟩,⟨_,_,gj⟩,⟨_,_,jP⟩,⟨_,_,eE⟩,⟨_,_,kF⟩,⟨_,_,gx⟩,⟨_,_,vX⟩,⟨_,_,qb⟩,⟨_,_,nQ⟩,⟨_,_,qd⟩,⟨_,_,qg⟩⟩
 have vf:aF P w K mg base bN 3 _ _ gZ (wD aK bW dW gR):=su oO.F LM bJ jU cW kJ Mc Io BR lE jV Ip Fg kK Qy Qz Fi kL TN
 have Dy:aF P w K mg base (qC P w) 6 _ _ OI (Dh aK bW dW gR nG m9 C):=zX qm.F X A1 A2 A4 A5 A6 aY bX bh iJ dM
 have Fz:aF P w K mg base bN 1 _ _ [] Ii:=Dm oQ.F
 have uh:aF P w K mg base bN 5 _ _ DF (rT aK bW dW gR):=xo lF.F X A1 A2 A5 aY eF aR j7 iK eV bx bL
 have FA:aF P w K mg base bN 9 _ _ DF (ug aK bW dW gR):=Dr xq.F X A1 A2 A3 A5 aY eF eX aR j7 iK eV bx bL lF oN
 have AJ:aF P w K mg base bN 2 _ _ OJ Ai:=Aj tw.F T aR
 have FD:aF P w K mg base bN 1 _ _ ["_law_row"] (Cb 1000000):=Dw xr.F T
 have vg:aF P w K mg base bN 7 _ _ OL (qj aK bW dW gR):=um oR.F X A1 A4 A5 bh dH jR jS kM cL bx bL
 refine F.ok n8 (fun vs H Q E h=>?_) (fun cdv A outer s H vs Q E hr h=>?_)
 ·obtain⟨a,ns,rfl,_⟩:=h
  rfl
 obtain⟨a,ns,rfl,hS,h63,k⟩:=h
 have hu:=mH hr
 refine⟨_,(ak (aQ (i:=1) n8.nd rfl (Or.inl rfl) (aP BQ JU hr (aa (pv 0) ah)))
   (ak (aQ (i:=2) n8.nd rfl (Or.inl rfl) (pD aJ.QO vf (hr.mono (by decide)) rfl aJ.m oO.b .nil cK))
   (ak (aQ (i:=3) n8.nd rfl (Or.inr rfl) (Kn Fz (hr.mono (by decide)) rfl oQ.m oQ.F.kp oQ.b .nil cK))
   (ak (cy (kU (kT (aP xq FA hr (aa (pv 1) (aa (pv 3) (aa (pv 2) ah))))))
   (ao (aM oA))
   bC)
   (ak (HJ (N:=["_law_row"]) (i:=4) (qQ (sc:=ay IV) (NX:=["_law_script","_law_src_here","_law_house","_law_world_here","_law_texts","_law_moment","_law_k","_law_sheet","_law_place","_law_row","_law_new","_law_old"]) (jx:=[none]) rfl rfl rfl (by decide +kernel) (by decide +kernel) rfl (by decide +kernel) rfl (by decide +kernel)) rfl n8.nd rfl rfl (cH (iY hu (pv 3) bT (fun _ _=>rfl))) (fun _ _ _ _ _ _=>(aV (i:=0) (show List.Nodup (["_law_row"]:List Str) by decide +kernel) rfl (Or.inl rfl))) (fun _ _ _ _ _ _=>iG) (fun _ _ _ _ _ _=>bT))
   (ak (aQ (i:=5) n8.nd rfl (Or.inl rfl) (bH iy az (aO bq rfl T.ic lN (aa (pv 4) ah))))
   (ak (iV PassesOwn.never rfl (kW rfl T.lH (aa (aP aR bF hr (aa (pv 1) (aa az ah))) ah)) (aV (i:=6) n8.nd rfl (Or.inl rfl))
   (ak (aQ (i:=5) n8.nd rfl (Or.inl rfl) (bH iy (pv 5) az))
   (ak (vC (t':=acY aK bW dW gR) (cy (cI mG (aP aR bF hr (aa (pv 1) (aa az ah))) az (cj _))
   (ao (cy (kU (kT (aP lF uh hr (aa (pv 1) (aa (pv 3) (aa (pv 2) ah))))))
   (ao (aM oA))
   bC))
   (ak (aQ (i:=7) n8.nd rfl (Or.inl rfl) (aP aR bF hr (aa (pv 1) (aa (aO bq rfl T.ic lN (aa (pv 4) ah)) ah))))
   (ak (aQ (i:=8) n8.nd rfl (Or.inl rfl) (aP aR bF hr (aa (pv 1) (aa (bH iy (aO jv rfl T.ic lN (aa (bu bw (pv 4) (pv 7) (fun _ _=>rfl)) ah)) az) ah))))
   (ak (aQ (i:=9) n8.nd rfl (Or.inl rfl) (aP tw AJ hr (aa (pv 1) (aa (pv 3) ah))))
   (ak (aQ (i:=10) n8.nd rfl (Or.inl rfl) (jF PySem.F.plainAttrs_str PySem.F.slot_str_join PySem.F.type_str_join za bT (aa (lW (N:=["_law_number","_law_world_here"]) (qQ (sc:=ay IV) (NX:=["_law_script","_law_src_here","_law_house","_law_world_here","_law_texts","_law_moment","_law_k","_law_sheet","_law_place","_law_row","_law_new","_law_old"]) (jx:=[none,some 3]) rfl rfl rfl (by decide +kernel) (by decide +kernel) rfl (by decide +kernel) rfl (by decide +kernel)) rfl (cH (aP xr FD hr (aa (pv 9) ah))) (fun _ _ _ _ _ _=>(aV (i:=0) (show List.Nodup (["_law_number","_law_world_here"]:List Str) by decide +kernel) rfl (Or.inl rfl))) (fun _ _ _ _ _ _=>iG) (fun _ _ _ _ _ _=>(bu Na (bu Lf (iY hu (pv 1) bT (fun _ _=>rfl)) (pv 0) (fun _ _=>rfl)) az (fun _ _=>rfl)))) ah)))
   (ak (vC (t':=acZ) (cy (cI Hg (bH iy (aO jv rfl T.ic lN (aa (bu bw (pv 4) (pv 7) (fun _ _=>rfl)) ah)) (aO jv rfl T.ic lN (aa (pv 10) ah))) az (cj _))
   (ak (aQ (i:=10) n8.nd rfl (Or.inl rfl) bT)
   (ao (aQ (i:=9) n8.nd rfl (Or.inl rfl) (bI ah))))
   bC) ?b4)
   (ak (cy (yq (G6 (cM (pv 2) aJ.cl qm.mt Dy (hr.mono (by decide)) qm.b .nil Bg (aa (pv 7) (aa (pv 8) (aa (pv 9) ah))))))
   (ao (aM oA))
   bC)
   (ak (bO (jF qz uu uv cF (pv 9) (aa (jH (aa az (aa az ah))) ah)))
   (ak (aQ (i:=11) n8.nd rfl (Or.inl rfl) (bu bw (pv 4) (pv 7) (fun _ _=>rfl)))
   (ao (tF (bH HR (bH HR (pF gY.Lp (pv 11) rD (rE (pv 8))) (pv 10)) (pF gY.Lp (pv 11) (rE (pv 8)) rD)) (tE (pv 4) (pv 7) set_list)))))))))))) ?b1)
   (ao (cy (kU (kT (aP oR vg hr (aa (pv 2) (aa (pv 4) (aa (pv 5) ah))))))
   (ao (aM oA))
   bC)))))
   (ao (aM oA))))))))),?_⟩
 case b4 =>
  rintro D σ H ⟨t,r,s,s0,s1,s2,s3,s5,s6,s8,ou,ts,old,aB,row,rfl,ht,hs,lo,ls,hr1,k⟩
  refine⟨_,rfl,_,rfl,t,_,_,_,rfl,rfl,bG.of ht,hs,txt old,rfl,(by rw[dQ];exact jb (aL (by omega))),_,rfl,txt _,rfl,(by rw[dQ,bY];exact jb (aL (by omega))),_,_,rfl,rfl,_,_,rfl,rfl,_,rfl,?_⟩
  rw[dQ,dQ,bY]
  refine ff (fun _=>?_) (fun c=>k r row H (aH.refl _) hr1 (.inl ⟨rfl,rfl⟩) ?_)
  ·exact⟨(by show 0≤sizeLine;decide),fun q hq=>k q [] _ (aj hq _) ⟨[],af,.nil⟩ (.inr ⟨hq,rfl⟩) (by show old.length+0≤200;omega)⟩
  ·have:=of_decide_eq_false (Bool.eq_false_iff.mpr c)
   omega
 case b1 =>
  rintro D σ H ⟨a,l,c,x,w,t,n,j,u5,u6,u7,u8,u9,Q6,Q7,rfl,I,hj,k⟩
  obtain⟨U,W,pe,rows,pq,rq,lines,aB,nW,St,ln,n4,n2,lp,lq,ll,li,lw,nn,ht,nU,G1,nl,nc⟩:=I
  refine⟨_,rfl,l,c,5,rfl,St.src,by decide,by decide,fun v H1 v0 v1 S1 k1=>⟨rfl,_,rfl,?_⟩⟩
  have JP:=St.mv (cN k1) S1
  have ht1:=(k1 t nl).trans ht
  refine ff (fun _=>?_) (fun _=>?_)
  ·refine⟨_,rfl,_,rfl,_,rfl,l,c,w,x,U,W,pe,rows,pq,rq,lines,aB,nW,[],rfl,JP,by omega,by omega,by omega,by omega,by omega,by omega,fun U' H2 h cs iI hcs hl' Mn fr=>⟨true,rfl,i7 (k _ _ _ _ _ H2 ⟨U',W,_,rows,_,rq,iI,aB++qv h cs,nW+1,Mn,ln,n4,n2,?_,?_,?_,?_,?_,?_,?_,?_,G1,nl,nc⟩)⟩⟩
   ·rw[eZ];simp only[mq,oq];omega
   ·rw[eZ];simp only[mq,oq];omega
   ·omega
   ·rw[eZ,qf];omega
   ·omega
   ·exact nn.more (by rw[eZ];omega)
   ·rw[Mb nn]
    exact fr.2.1 _ _ ht1 nl nU G1
   ·intro z
    rcases fr.1 t (.inl z) with y|y|y
    ·exact nU y
    ·exact G1 y
    ·rw[ht1]at y;cases y
  have lt:((G2 aB rows).map J2).length=rows.length:=by unfold G2;rw[bY,bY]
  refine⟨_,rfl,_,rfl,t,_,rfl,.inl (bG.of ht1),l,c,_,rfl,S1,by omega,by omega,fun s H2 s0 s1 S2 k2=>?_⟩
  have Mn:=JP.mv (cN k2) S2
  have DA:=(k2 t nl).trans ht1
  obtain⟨sn,rfl⟩:∃ sn:Nat,s=sn:=⟨s.toNat,by omega⟩
  have hsn:sn<rows.length:=by omega
  obtain⟨es,es1⟩:∃ es,rows[sn]?=some es:=⟨_,oj hsn⟩
  have et:uE ((G2 aB rows).map J2) ((sn:Nat):Int)=some (J2 (es.map (nY aB [] 35))):=cU (by unfold G2;rw[qG,qG,es1];rfl)
  have UR:=nn es (rW es1)
  refine⟨_,rfl,_,rfl,_,rfl,t,_,_,_,rfl,rfl,bG.of DA,et,txt _,rfl,(by rw[dQ,bY];exact jb (aL (by omega))),_,_,rfl,rfl,?_⟩
  rw[dQ,bY]
  refine⟨l,c,_,rfl,S2,by omega,by omega,fun p H3 p0 p1 S3 k3=>?_⟩
  have Ik:=Mn.mv (cN k3) S3
  have QX:=(k3 t nl).trans DA
  refine⟨_,rfl,_,rfl,l,c,w,W,aB,pq,rq,rfl,S3,Ik.wo,Ik.dw,by omega,fun r row H4 lr UN hp UQ S4 K4=>?_⟩
  have JQ:=Ik.mv K4 S4
  have To:=K4 _ _ QX nl
  have sl:(aS row).length≤80:=by
   have:=Fx (k:=40) (row:=row) fun q hq=>(hp q hq).2.2.2
   omega
  refine⟨rfl,_,rfl,r,row,rfl,UN,fun q hq=>by have:=hp q hq;exact⟨by omega,by omega,by omega⟩,by omega,by omega,fun q H5 hq s5 fq=>?_⟩
  obtain⟨ik,rw',ps,vl,wu⟩:=id JQ.wo
  obtain⟨as,hik,pa⟩:=id wu.hi
  have la:=Paired.length pa
  refine⟨q,rfl,⟨_,bG.of hq⟩,fun acc hacc=>jo (K:=K) (a:=q) (xs:=(aS row).map V.int) (fun i σ H6=>∃ u:Option V,σ=[u,some (.ref w)]∧H6 acc=some (.lst ((((aS row).take i).map (nY aB [] 35)).map vQ))∧aH H5 H6) ⟨none,rfl,af,aj hacc _⟩ (fun i σ H6 _ ⟨_,_,_,s6⟩=>bG.of (s6 _ _ hq)) ?_ ?_⟩
  ·rintro i y σ H6 hi ⟨u,rfl,h6,s6⟩
   rw[qG]at hi
   obtain⟨e,ei,rfl⟩:=Option.map_eq_some_iff.mp hi
   have il:=(List.getElem?_eq_some_iff.mp ei).1
   have he:=Fy (n:=aB.length) (fun p hq=>⟨(hp p hq).1,(hp p hq).2.1,(hp p hq).2.2.1⟩) (rW ei)
   have OH:=s5.trans s6
   have zi:=oz.k (k:=kI) (OH _ _ wu.hw)
   rw[show bU (Ae ik rw' ps vl) kI=some (.ref ik) by kernel_rfl]at zi
   obtain⟨e',rfl⟩:∃ e':Nat,e=e':=⟨e.toNat,by omega⟩
   have le':e'<as.length:=by omega
   obtain⟨q',eq',htp⟩:=tP pa (oj le')
   have sg:nY aB [] 35 ((e':Nat):Int)=q'.2:=by
    unfold nY
    rw[if_neg (by intro z;cases z),Int.toNat_natCast,eq']
    rfl
   refine⟨_,rfl,w,_,rfl,zi,_,rfl,ik,_,_,_,rfl,rfl,bG.of (OH _ _ hik),cU (by rw[qG,oj le'];rfl),as[e'],_,_,_,rfl,rfl,jK.of (OH _ _ htp),rfl,_,h6,aL (by rw[bY,bY,ko];omega),_,rfl,?_,bV hacc s6 (aI acc _ _)⟩
   rw[af,take_snoc ei,lK,lK]
   show _=some (HO.lst (_++[vQ (nY aB [] 35 ((e':Nat):Int))]))
   rw[sg]
  rintro σ H6 ⟨u,rfl,h6,s6⟩
  rw[bY,kr]at h6
  have OH:=s5.trans s6
  have DE:=JQ.same OH
  have ht6:=OH _ _ To
  refine⟨acc,_,rfl,rfl,h6,by rw[bY];omega,?_⟩
  refine⟨t,r,((sn:Nat):Int),_,_,_,_,_,_,_,_,_,es.map (nY aB [] 35),aB,row,rfl,ht6,et,by rw[bY];omega,by omega,UN.same OH,fun r' pQ H7 s7 hr7 TV ac0=>?_⟩
  rw[bY]at ac0
  have St7:=DE.same s7
  have Q3:=s7 _ _ ht6
  have UT:pQ.length≤2∧∀ q∈pQ,0≤q.1∧q.1<q.2∧q.2≤(aB.length:Nat):=by
   rcases TV with ⟨_,z⟩|⟨_,z⟩
   ·rw[z];exact⟨lr,fun q hq=>⟨(hp q hq).1,(hp q hq).2.1,(hp q hq).2.2.1⟩⟩
   ·rw[z];exact⟨Nat.zero_le _,fun _ z=>nomatch z⟩
  have TX:H3 r'=none:=by
   rcases TV with ⟨z,_⟩|⟨z,_⟩
   ·rw[z];exact UQ
   ·have z4:=aW OH z
    cases e3:H3 r' with
    | none=>rfl
    | some ob =>
     by_cases y:r'=l
     ·obtain⟨ls,hls⟩:=S4.lst
      rw[y,hls]at z4
      cases z4
     ·rw[K4 _ _ e3 y]at z4
      cases z4
  have nr:=S3.ne TX
  have nrU:¬ U r':=fun z=>by
   obtain⟨ob,e⟩:=Ik.Mm.al z
   rw[TX]at e;cases e
  have nrW:¬ W r':=fun z=>by
   obtain⟨ob,e⟩:=Ik.wo.al z
   rw[TX]at e;cases e
  have nrt:r'≠t:=fun z=>by rw[z,QX]at TX;cases TX
  have nes:∀ e∈es,0≤e:=fun e z=>(UR.2 e z).1
  have ac2:tV (own rows) p es (fy (ie (dm pQ)))=es.take p.toNat++aS pQ++es.drop p.toNat:=by
   rw[JS nes,zl,wR _ fun q hq=>by have:=(UT.2 q hq).2.1;omega]
  have nn':Dt aB.length (mZ rows sn (es.take p.toNat++aS pQ++es.drop p.toNat)):=fun y hy=>by
   rcases L7 hy with rfl|hy
   ·refine⟨?_,fun e he=>?_⟩
    ·rw[eZ,eZ,ko,List.length_drop]
     omega
    ·rcases List.mem_append.mp he with he|he
     ·rcases List.mem_append.mp he with he|he
      ·exact UR.2 e (List.mem_of_mem_take he)
      ·exact Fy UT.2 he
     ·exact UR.2 e (List.mem_of_mem_drop he)
   ·exact nn y hy
  have eos:own rows ((sn:Nat):Int)=es:=Du (by rw[Int.toNat_natCast];exact es1)
  obtain⟨S',Q2,d',Sz,sh',bl',kn',du',bk',dS',st',op',dw',sg',ow',pw',db',tb',ops',LU⟩:=id St7.Mm
  refine⟨_,rfl,x,d',_,rfl,LU.L.hx,rfl,_,rfl,_,rfl,_,rfl,U,x,r',pe,lines,aB,nW,[],pQ,((sn:Nat):Int),p,rows,rfl,St7.Mm,hr7,⟨by omega,fun q hq=>by have:=UT.2 q hq;exact⟨⟨by omega,by omega⟩,⟨by omega,by omega⟩⟩⟩,by omega,St.lst,by omega,by omega,by omega,⟨by omega,by omega⟩,⟨by omega,by omega⟩,fun z=>absurd ⟨by omega,by omega⟩ z,fun _=>⟨own rows,nn.seen,fun z=>absurd ⟨p0,by rw[eos];omega⟩ z,fun _=>⟨fun hb=>?_,fun _ es' Tq=>?_⟩⟩⟩
  ·have:pA aB.length pQ=true:=List.all_eq_true.mpr fun q hq=>by
    have:=UT.2 q hq
    unfold Mi
    simp only[Bool.and_eq_true,decide_eq_true_eq]
    omega
   rw[this]at hb
   cases hb
  rw[Int.toNat_natCast,es1]at Tq
  cases Tq
  rw[ac2,Int.toNat_natCast]
  have lpr:(mZ rows sn (es.take p.toNat++aS pQ++es.drop p.toNat)).length=rows.length:=by rw[zQ (by omega),if_neg (by omega)]
  refine⟨⟨_,nn'.bears (by omega)⟩,fun U' H8 L8 FH=>⟨false,rfl,i7 ?_⟩⟩
  obtain⟨St8,frs⟩:=St7.acX L8 (rows':=mZ rows sn (es.take p.toNat++aS pQ++es.drop p.toNat)) (by simp) FH
  have ht8:=FH.2.1 _ _ Q3 nU
  obtain⟨as7,TY,pa7⟩:=hr7
  have lr7:=Paired.length pa7
  have Q5:=FH.2.1 _ _ TY nrU
  have nU':∀ y ob,H7 y=some ob→¬ U y→¬ U' y:=fun y ob e n z=>by
   rcases FH.1 y z with q|q
   ·exact n q
   ·rw[q]at e;cases e
  refine⟨_,rfl,.inl ⟨rfl,_,bG.of Q5⟩,(by show 2≤sizeLine;decide),fun tt htt=>⟨r',_,_,rfl,rfl,aj htt _ _ _ Q5,aL (by rw[bY];omega),?_⟩⟩
  have s9:=aj htt (.tup [.int 0,.int 1])
  have St9:=St8.same s9
  have ht9:=s9 _ _ ht8
  have hr9:=s9 _ _ Q5
  generalize upd H8 tt (.tup [.int 0,.int 1])=H9 at s9 St9 ht9 hr9
  have Ml:=aI r' H9 (.lst (as7.map V.ref++[.ref tt]))
  have TZ:=St9.off hr9 (nU' _ _ TY nrU) nrW nr.1.symm nr.2.symm Ml
  have NU:=Ml _ _ ht9 nrt.symm
  generalize upd H9 r' (.lst (as7.map V.ref++[.ref tt]))=Ej at Ml TZ NU
  refine⟨_,rfl,_,rfl,t,_,_,_,rfl,rfl,bG.of NU,et,?_⟩
  refine⟨_,rfl,_,rfl,_,rfl,es.map (nY aB [] 35),rfl,(by rw[bY];omega),_,rfl,_,_,rfl,rfl,?_,_,rfl,_,rfl,_,rfl,es.map (nY aB [] 35),rfl,(by rw[bY];omega),_,_,rfl,rfl,?_,?_⟩
  ·rw[Ds _ p0,ko,bY,bY]
   omega
  ·rw[Ds _ p0,BP _ p0,eZ,ko,List.length_drop,bY,bY]
   omega
  rw[Ds _ p0,BP _ p0]
  refine⟨_,rfl,_,rfl,t,_,_,sn,rfl,rfl,NU,NS (by omega),?_⟩
  have ac4:=fun o:HO=>TZ.off NU (nU' t _ Q3 nU) G1 nl nc (aI t Ej o)
  refine k _ _ _ _ _ _ ⟨U',W,_,_,pq,rq,_,aB,nW,ac4 _,by omega,n4,n2,?_,by omega,?_,by omega,by omega,nn',?_,nU' _ _ Q3 nU,G1,nl,nc⟩
  ·rw[eZ];simp only[mq,oq];omega
  ·rw[eZ];simp only[mq,oq];omega
  ·rw[af,Ma _ hsn]
   unfold G2
   rw[List.map_set,List.map_set,lK,lK,List.map_take,List.map_drop]
 refine⟨_,rfl,a,ns,rfl,hS,fun l c H1 S1 s1 _ _=>?_⟩
 intro x dx fx fdx _
 refine⟨x,dx,rfl,af,fun U H2 L2 fU k2=>⟨rfl,?_⟩⟩
 have s2:=ng fx fdx k2
 have S2:=S1.same s2
 have fU':∀ a,U a→H1 a=none:=fun a z=>by
  rcases fU a z with y|y
  ·rw[y];exact fx
  ·exact pS y
 refine⟨rfl,fun W w H3 wo3 fW s3=>?_⟩
 have Ik:xm aK bW dW gR H3 l c w x U W [[]] [] [[]] [] [] [] 0 []:=by
  refine⟨S2.same s3,L2.same s3,rfl,wo3,fun a z=>⟨fun y=>?_,?_⟩,fun a z=>?_⟩
  ·obtain⟨ob,e⟩:=L2.al z
   rw[fW a y]at e;cases e
  ·have n:=S1.ne (fU' a z)
   exact⟨n.1.symm,n.2.symm⟩
  ·have n:=S2.ne (fW a z)
   exact⟨n.1.symm,n.2.symm⟩
 refine⟨_,rfl,_,rfl,_,rfl,l,c,w,x,U,W,rfl,Ik,fun U' W' H4 n aB lines n2 n4 li ll JQ UQ=>⟨true,rfl,i7 ?_⟩⟩
 obtain⟨ik,rw',ps,vl,wu⟩:=id JQ.wo
 have zr:=oz.k (k:=kR) wu.hw
 rw[show bU (Ae ik rw' ps vl) kR=some (.ref rw') by kernel_rfl]at zr
 obtain⟨_,_,_,vs,hvs,al⟩:=id wu.hr
 have lv:=bR.len al
 rw[ux]at lv
 refine⟨_,rfl,w,_,rfl,zr,rw',rfl,⟨_,bG.of hvs⟩,fun t ht=>jo (K:=K) (a:=rw') (xs:=vs) (fun i σ H5=>∃ u:Option V,σ=[u]∧H5 t=some (.lst (List.replicate i (J2 [])))∧aH H4 H5) ⟨none,rfl,af,aj ht _⟩ (fun i σ H6 _ ⟨_,_,_,s6⟩=>bG.of (s6 _ _ hvs)) ?_ ?_⟩
 ·rintro i y σ H5 hi ⟨u,rfl,h5,s5⟩
  have il:=(List.getElem?_eq_some_iff.mp hi).1
  refine⟨_,h5,aL (by rw[ux];omega),_,rfl,?_,bV ht s5 (aI t _ _)⟩
  rw[af,List.replicate_succ']
  rfl
 rintro σ H5 ⟨u,rfl,h5,s5⟩
 have UO:=JQ.same s5
 rw[lv]at h5
 refine⟨_,rfl,t,_,rfl,.inl (bG.of h5),_,_,rfl,rfl,?_⟩
 rw[ux]
 refine⟨_,rfl,l,c,9,rfl,UO.src,by decide,by decide,fun v H6 v0 v1 S6 k6=>?_⟩
 have DE:=UO.mv (cN k6) S6
 have nt:=JQ.src.ne ht
 have h6:=(k6 t nt.1.symm).trans h5
 refine⟨v,rfl,by omega,by omega,m7 (lo:=0) (n:=v.toNat) (fun j σ H7=>∃ (u6 u7 u8 u9 Q6 Q7:Option V),σ=[some (.ref a),some (.ref l),some (.ref x),some (.ref w),some (.ref t),some (.int (2+(n:Int)+j)),u6,u7,u8,u9,Q6,Q7]∧US aK bW dW gR l c x w t n j H7) ?_ ?_ ?_⟩
 ·refine⟨none,none,none,none,none,none,?_,U',W',_,_,_,_,lines,aB,2,DE,ux ..,n4,n2,ve n,?_,by omega,by omega,fH _,?_,?_,fun z=>?_,fun z=>?_,nt.1.symm,nt.2.symm⟩
  ·rw[show (2:Int)+(n:Int)+((0:Nat):Int)=2+(n:Int) by omega]
   rfl
  ·rw[ve];omega
  ·intro es he
   rw[Ag he]
   exact⟨Nat.zero_le _,fun _ z=>nomatch z⟩
  ·rw[h6]
   unfold G2 e0
   rw[List.map_replicate,List.map_replicate]
   rfl
  ·obtain⟨ob,e⟩:=JQ.Mm.al z
   rw[ht]at e;cases e
  ·obtain⟨ob,e⟩:=JQ.wo.al z
   rw[ht]at e;cases e
 ·rintro j σ H7 hj ⟨u6,u7,u8,u9,Q6,Q7,rfl,I7⟩
  refine⟨_,rfl,_,_,rfl,rfl,?_⟩
  refine⟨a,l,c,x,w,t,n,j,_,_,_,_,_,_,_,rfl,I7,by omega,fun v7 v8 v9 v10 v11 H8 I8=>?_⟩
  obtain⟨U8,W8,pe,rows,pq,rq,lines,aB,nW,St,ln,n4,n2,lp,lq,ll,li,lw,nn,ht,nU,G1,nl,nc⟩:=id I8
  refine⟨_,rfl,_,rfl,_,rfl,U8,x,t,pe,lines,aB,nW,rows,_,rfl,St.Mm,St.lst,by omega,by omega,by omega,nn,ht,by omega,fun H9 s9=>⟨true,rfl,i7 ?_⟩⟩
  refine⟨some (.int (0+(j:Int))),v7,v8,v9,v10,v11,?_,U8,W8,pe,rows,pq,rq,lines,aB,nW,St.same s9,ln,n4,n2,lp,lq,ll,li,lw,nn,s9 _ _ ht,nU,G1,nl,nc⟩
  rw[show (2:Int)+(n:Int)+((j+1:Nat):Int)=2+(n:Int)+(j:Int)+1 by omega]
 ·rintro σ H7 ⟨u6,u7,u8,u9,Q6,Q7,rfl,I7⟩
  exact k H7
end
end iR
namespace iR
open PySem L2 cR jj yX Nb
set_option maxHeartbeats 4000000 in
theorem all_mk:Ob:=by
 intro l w K h mg fa f0 f1 f2 f3 f4 f5 f6 f7 f8 f9 f10 f11 f12 f13 f14 f15 f16 f17 f18 f19 f20 Vy f22 f23 f24 f25 f26 f27 f28 f29 f30 f31 f32 f33 f34 f35 f36 f37 f38 f39 f40 f41 f42 f43 f44 f45 f46 f47 f48 f49 f50 f51 f52 f53 f54 f55 f56 f57 f58 f59 f60 f61 f62 f63 f64 f65 f66 f67 f68 f69 f70 f71 f72 f73 bW dW gR sE wK aK C0 nG m8 m9 pG sF sG DW X G hfa Ht sH qo KA wL uG qK Hu sI KC wM wN KD yI AW sJ qL qM qN sL sM q0 q1 q2 q3 q4 q5 q6 q7 q8 q9 uo q11 q12 q13 q14 q15 q16 q17 q18 q19 q20 q21 q22 q23 q24 q25 q26 q27 q28 q29 q30 q31 q32 q33 q34 q35 q36 q37 q38 q39 q40 q41 q42 q43 q44 q45 q46 q47 q48 q49 q50 q51 q52 q53 q54 q55 q56 q57 q58 q59 q60 q61 q62 q63 q64 q65 q66 q67 q68 q69 q70 q71 q72 q73 z0 z1 z2 z3 z4 z5 z6 z7 z8 z9 z10 z11 z12 e0 DX AX AY DY sN sO DZ uH sP
 obtain⟨al,ll,cl,kl⟩:=q73
 have e:=hfa.symm.trans (PySem.W.mg_of X G al)
 cases e
 have F:=Ga (st:=IV) ll cl kl
 obtain⟨_,D0⟩:=q0.d (ps:=["_law_script"]) X G (fun _ _ _ _ _ _=>xC fun _=>rfl)
 obtain⟨_,D1⟩:=q1.d (ps:=["_law_src_here","_law_base"]) X G (fun _ _ _ _ _ _=>tO fun _ _=>rfl)
 obtain⟨_,D2⟩:=q2.d (ps:=["_law_found"]) X G (fun _ _ _ _ _ _=>xC fun _=>rfl)
 obtain⟨_,D3⟩:=q3.d (ps:=["_law_found","_law_due"]) X G (fun _ _ _ _ _ _=>tO fun _ _=>rfl)
 obtain⟨_,D4⟩:=q4.d (ps:=["row"]) X G (fun _ _ _ _ _ _=>xC fun _=>rfl)
 obtain⟨_,D5⟩:=q5.d (ps:=["row"]) X G (fun _ _ _ _ _ _=>xC fun _=>rfl)
 obtain⟨_,D6⟩:=q6.d (ps:=["row","start","stop"]) X G (fun _ _ _ _ _ _=>JZ fun _ _ _=>rfl)
 obtain⟨_,D7⟩:=q7.d (ps:=["row","start","stop"]) X G (fun _ _ _ _ _ _=>JZ fun _ _ _=>rfl)
 obtain⟨_,D8⟩:=q8.d (ps:=["row"]) X G (fun _ _ _ _ _ _=>xC fun _=>rfl)
 obtain⟨_,D9⟩:=q9.d (ps:=["holes","start"]) X G (fun _ _ _ _ _ _=>tO fun _ _=>rfl)
 obtain⟨_,D10⟩:=uo.d (ps:=["holes","address"]) X G (fun _ _ _ _ _ _=>tO fun _ _=>rfl)
 obtain⟨_,D11⟩:=q11.d (ps:=["self"]) (fun _ _ _ _ _ _=>xC fun _=>rfl)
 obtain⟨_,D12⟩:=q12.d (ps:=["self","address"]) (fun _ _ _ _ _ _=>tO fun _ _=>rfl)
 obtain⟨_,D13⟩:=q13.d (ps:=["items"]) X G (fun _ _ _ _ _ _=>xC fun _=>rfl)
 obtain⟨_,D14⟩:=q14.d (ps:=["rows","sheets"]) X G (fun _ _ _ _ _ _=>tO fun _ _=>rfl)
 obtain⟨_,D15⟩:=q15.d (ps:=["rows","start","goal"]) X G (fun _ _ _ _ _ _=>JZ fun _ _ _=>rfl)
 obtain⟨_,D16⟩:=q16.d (ps:=["rows","sheet"]) X G (fun _ _ _ _ _ _=>tO fun _ _=>rfl)
 obtain⟨_,D17⟩:=q17.d (ps:=["item","weights"]) X G (fun _ _ _ _ _ _=>tO fun _ _=>rfl)
 obtain⟨_,D18⟩:=q18.d (ps:=["rows","sheets"]) X G (fun _ _ _ _ _ _=>tO fun _ _=>rfl)
 obtain⟨_,D19⟩:=q19.d (ps:=["item","views"]) X G (fun _ _ _ _ _ _=>tO fun _ _=>rfl)
 obtain⟨_,D20⟩:=q20.d (ps:=["rows","sheets"]) X G (fun _ _ _ _ _ _=>tO fun _ _=>rfl)
 obtain⟨_,D21⟩:=q21.d (ps:=["rows","sheet"]) X G (fun _ _ _ _ _ _=>tO fun _ _=>rfl)
 obtain⟨_,D22⟩:=q22.d (ps:=["one","other"]) X G (fun _ _ _ _ _ _=>tO fun _ _=>rfl)
 obtain⟨_,D23⟩:=q23.d (ps:=["items"]) X G (fun _ _ _ _ _ _=>xC fun _=>rfl)
 obtain⟨_,D24⟩:=q24.d (ps:=["row"]) X G (fun _ _ _ _ _ _=>xC fun _=>rfl)
 obtain⟨_,D25⟩:=q25.d (ps:=["items","views"]) X G (fun _ _ _ _ _ _=>tO fun _ _=>rfl)
 obtain⟨_,D26⟩:=q26.d (ps:=["items","views","place","others"]) X G (fun _ _ _ _ _ _=>Um fun _ _ _ _=>rfl)
 obtain⟨_,D27⟩:=q27.d (ps:=["rows","sheet","place","items"]) X G (fun _ _ _ _ _ _=>Um fun _ _ _ _=>rfl)
 obtain⟨_,D28⟩:=q28.d (ps:=["row"]) X G (fun _ _ _ _ _ _=>xC fun _=>rfl)
 obtain⟨_,D29⟩:=q29.d (ps:=["deed"]) X G (fun _ _ _ _ _ _=>xC fun _=>rfl)
 obtain⟨_,D30⟩:=q30.d (ps:=["state","sheet","items"]) X G (fun _ _ _ _ _ _=>JZ fun _ _ _=>rfl)
 obtain⟨_,D31⟩:=q31.d (ps:=["self"]) (fun _ _ _ _ _ _=>xC fun _=>rfl)
 obtain⟨_,D32⟩:=q32.d (ps:=["self"]) (fun _ _ _ _ _ _=>xC fun _=>rfl)
 obtain⟨_,D33⟩:=q33.d (ps:=["self"]) (fun _ _ _ _ _ _=>xC fun _=>rfl)
 obtain⟨_,D34⟩:=q34.d (ps:=["self","changes"]) (fun _ _ _ _ _ _=>tO fun _ _=>rfl)
 obtain⟨_,D35⟩:=q35.d (ps:=["self","sheet"]) (fun _ _ _ _ _ _=>tO fun _ _=>rfl)
 obtain⟨_,D36⟩:=q36.d (ps:=["self","moment"]) (fun _ _ _ _ _ _=>tO fun _ _=>rfl)
 obtain⟨_,D37⟩:=q37.d (ps:=["self","moment"]) (fun _ _ _ _ _ _=>tO fun _ _=>rfl)
 obtain⟨_,D38⟩:=q38.d (ps:=["self"]) (fun _ _ _ _ _ _=>xC fun _=>rfl)
 obtain⟨_,D39⟩:=q39.d (ps:=["self"]) (fun _ _ _ _ _ _=>xC fun _=>rfl)
 obtain⟨_,D40⟩:=q40.d (ps:=["self"]) (fun _ _ _ _ _ _=>xC fun _=>rfl)
 obtain⟨_,D41⟩:=q41.d (ps:=["self"]) (fun _ _ _ _ _ _=>xC fun _=>rfl)
 obtain⟨_,D42⟩:=q42.d (ps:=["self"]) (fun _ _ _ _ _ _=>xC fun _=>rfl)
 obtain⟨_,D43⟩:=q43.d (ps:=["self","hand","text"]) (fun _ _ _ _ _ _=>JZ fun _ _ _=>rfl)
 obtain⟨_,D44⟩:=q44.d (ps:=["self","address"]) (fun _ _ _ _ _ _=>tO fun _ _=>rfl)
 obtain⟨_,D45⟩:=q45.d (ps:=["self","address"]) (fun _ _ _ _ _ _=>tO fun _ _=>rfl)
 obtain⟨_,D46⟩:=q46.d (ps:=["self","row"]) (fun _ _ _ _ _ _=>tO fun _ _=>rfl)
 obtain⟨_,D47⟩:=q47.d (ps:=["rows","sheet"]) X G (fun _ _ _ _ _ _=>tO fun _ _=>rfl)
 obtain⟨_,D48⟩:=q48.d (ps:=["self"]) (fun _ _ _ _ _ _=>xC fun _=>rfl)
 obtain⟨_,D49⟩:=q49.d (ps:=["self","deed","changes"]) (fun _ _ _ _ _ _=>JZ fun _ _ _=>rfl)
 obtain⟨_,D50⟩:=q50.d (ps:=["self","deed","sheet","items"]) (fun _ _ _ _ _ _=>Um fun _ _ _ _=>rfl)
 obtain⟨_,D51⟩:=q51.d (ps:=["self"]) (fun _ _ _ _ _ _=>xC fun _=>rfl)
 obtain⟨_,D52⟩:=q52.d (ps:=["self"]) (fun _ _ _ _ _ _=>xC fun _=>rfl)
 obtain⟨_,D53⟩:=q53.d (ps:=["self","deed","items"]) (fun _ _ _ _ _ _=>JZ fun _ _ _=>rfl)
 obtain⟨_,D54⟩:=q54.d (ps:=["self"]) (fun _ _ _ _ _ _=>xC fun _=>rfl)
 obtain⟨_,D55⟩:=q55.d (ps:=["self"]) (fun _ _ _ _ _ _=>xC fun _=>rfl)
 obtain⟨_,D56⟩:=q56.d (ps:=["self","row"]) (fun _ _ _ _ _ _=>tO fun _ _=>rfl)
 obtain⟨_,D57⟩:=q57.d (ps:=["self","hand","text"]) (fun _ _ _ _ _ _=>JZ fun _ _ _=>rfl)
 obtain⟨_,D58⟩:=q58.d (ps:=["self","sheet","place","row"]) (fun _ _ _ _ _ _=>Um fun _ _ _ _=>rfl)
 obtain⟨_,D59⟩:=q59.d (ps:=["self","sheet"]) (fun _ _ _ _ _ _=>tO fun _ _=>rfl)
 obtain⟨_,D60⟩:=q60.d (ps:=["self","row","veil"]) (fun _ _ _ _ _ _=>JZ fun _ _ _=>rfl)
 obtain⟨_,D61⟩:=q61.d (ps:=["self","sheet"]) (fun _ _ _ _ _ _=>tO fun _ _=>rfl)
 obtain⟨_,D62⟩:=q62.d (ps:=["self","sheet"]) (fun _ _ _ _ _ _=>tO fun _ _=>rfl)
 obtain⟨_,D63⟩:=q63.d (ps:=["_law_src_here","_law_few"]) X G (fun _ _ _ _ _ _=>tO fun _ _=>rfl)
 obtain⟨_,D64⟩:=q64.d (ps:=["_law_src_here","_law_many"]) X G (fun _ _ _ _ _ _=>tO fun _ _=>rfl)
 obtain⟨_,D65⟩:=q65.d (ps:=[]) X G (fun _ _ _ _ _ _=>us0 rfl)
 obtain⟨_,D66⟩:=q66.d (ps:=["_law_world_here","_law_rows"]) X G (fun _ _ _ _ _ _=>tO fun _ _=>rfl)
 obtain⟨_,D67⟩:=q67.d (ps:=["_law_src_here","_law_world_here","_law_house"]) X G (fun _ _ _ _ _ _=>JZ fun _ _ _=>rfl)
 obtain⟨_,D68⟩:=q68.d (ps:=["_law_world_here","_law_house"]) X G (fun _ _ _ _ _ _=>tO fun _ _=>rfl)
 obtain⟨_,D69⟩:=q69.d (ps:=["_law_src_here","_law_world_here","_law_house"]) X G (fun _ _ _ _ _ _=>JZ fun _ _ _=>rfl)
 obtain⟨_,D70⟩:=q70.d (ps:=["_law_src_here","_law_world_here"]) X G (fun _ _ _ _ _ _=>tO fun _ _=>rfl)
 obtain⟨_,D71⟩:=q71.d (ps:=["_law_house","_law_texts","_law_moment"]) X G (fun _ _ _ _ _ _=>JZ fun _ _ _=>rfl)
 obtain⟨_,D72⟩:=q72.d (ps:=["_law_row"]) X G (fun _ _ _ _ _ _=>xC fun _=>rfl)
 have T:n9 mg:=⟨PySem.W.mg_none_of X G z0,PySem.W.mg_none_of X G z1,PySem.W.mg_none_of X G z2,PySem.W.mg_none_of X G z3,PySem.W.mg_none_of X G z4,PySem.W.mg_none_of X G z5,PySem.W.mg_none_of X G z6,PySem.W.mg_none_of X G z7,PySem.W.mg_none_of X G z8,PySem.W.mg_none_of X G z9,PySem.W.mg_none_of X G z10,PySem.W.mg_none_of X G z11,PySem.W.mg_none_of X G z12,fun f e=>(D5.m).symm.trans e ▸ PySem.W.mg_of X G uH,fun f e=>(D21.m).symm.trans e ▸ PySem.W.mg_of X G sP⟩
 have Gb:UM mg:=⟨⟨_,PySem.W.mg_of X G sN⟩,⟨_,PySem.W.mg_of X G sO⟩,⟨_,PySem.W.mg_of X G DZ⟩⟩
 obtain⟨ea,eb,ec⟩:=e0
 have Z:ExcAt K mg C0:=⟨PySem.W.mg_of X G ea,eb,ec⟩
 exact⟨_,fun s v=>.of_eq rfl,fun base _ _=>Qx F T Gb Z (DX.d X G) (AX.d X G) (AY.d X G) (DY.d X G) D0 D1 D2 D3 D4 D5 D6 D7 D8 D9 D10 D11 D12 D13 D14 D15 D16 D17 D18 D19 D20 D21 D22 D23 D24 D25 D26 D27 D28 D29 D30 D31 D32 D33 D34 D35 D36 D37 D38 D39 D40 D41 D42 D43 D44 D45 D46 D47 D48 D49 D50 D51 D52 D53 D54 D55 D56 D57 D58 D59 D60 D61 D62 D63 D64 D65 D66 D67 D68 D69 D70 D71 D72 (Ht.d X G D31.mt) sH qo (KA.d X G D41.mt) wL uG qK (Hu.d X G D11.mt) sI (KC.d X G D39.mt) wM wN (KD.d X G D40.mt) yI (AW.d X G D48.mt) sJ qL qM qN sL sM⟩
end iR
theorem PySem.Challenge.cw_inkroot_k34_put_and_read_holds : PySem.Challenge.rw_inkroot_k34_put_and_read.Holds :=
 InkHd.hd2 iR.all_mk
