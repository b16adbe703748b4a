import PyProof.Rows.All
import Wide.All
import OpenK.AllK
import Wide.FinOn
import Lean
import PyProof.EqAt
import PyProof.EqKinds
import PyProof.TupleCall
import PySem.Challenge.RW_inkroot_k36_quotes_stand
set_option Elab.async false
set_option linter.all false
set_option maxRecDepth 100000
abbrev l5:=List (List (List Int))
abbrev eF:=List (List Int)
abbrev l6:=List (List Nat)
abbrev lR:=List (Int × Nat)
abbrev ja:List PySem.Str:=["self"]
abbrev wI:List PySem.Str:=["self","sheet"]
abbrev Kp:List PySem.Str:=["self","moment"]
abbrev Sj:List PySem.Str:=["self","changes"]
abbrev I0:List PySem.Str:=["self","deed","changes"]
abbrev Kq:List PySem.Str:=["self","deed","sheet","items"]
abbrev Vm:List PySem.Str:=["self","deed","items"]
abbrev M5:List PySem.Str:=["self","hand","text"]
abbrev RI:List PySem.Str:=["self","address"]
abbrev OI:List PySem.Str:=["self","row"]
abbrev M6:List PySem.Str:=["self","target","place","source","start","stop"]
abbrev PN:List PySem.Str:=["self","sheet","place","row"]
abbrev PR:List PySem.Str:=["self","sheet","start","stop"]
abbrev Cz:List PySem.Str:=["_law_found"]
abbrev wL:List PySem.Str:=["_law_found","_law_due"]
abbrev eY:List PySem.Str:=["row"]
abbrev mS:List PySem.Str:=["row","start","stop"]
abbrev nv:List PySem.Str:=["items"]
abbrev Ja:List PySem.Str:=["rows","start","goal"]
abbrev lS:List PySem.Str:=["rows","sheets"]
abbrev Jb:List PySem.Str:=["item","weights"]
abbrev wM:List PySem.Str:=["item","views"]
abbrev Ei:List PySem.Str:=["one","other"]
abbrev CA:List PySem.Str:=["items","views"]
abbrev Kr:List PySem.Str:=["items","views","place","others"]
abbrev Ks:List PySem.Str:=["items","views","start","stop"]
abbrev Ge:List PySem.Str:=["state","sheet","items"]
abbrev wN:List PySem.Str:=["rows","sheet"]
abbrev Ku:List PySem.Str:=["rows","sheet","place","items"]
abbrev M7:List PySem.Str:=["rows","sheet","start","stop"]
abbrev wO:List PySem.Str:=["_law_src_here","_law_base"]
abbrev Jc:List PySem.Str:=["_law_src_here","_law_few"]
abbrev Kv:List PySem.Str:=["_law_src_here","_law_many"]
abbrev AW:List PySem.Str:=["_law_world_here","_law_rows"]
abbrev AX:List PySem.Str:=["_law_src_here","_law_world_here","_law_house"]
abbrev Gf:List PySem.Str:=["_law_world_here","_law_house"]
abbrev M8:List PySem.Str:=["_law_numbers"]
abbrev M9:List PySem.Str:=["_law_entries"]
abbrev Kw:List PySem.Str:=["_law_rows","_law_sheet","_law_entries"]
abbrev Na:List PySem.Str:=["_law_script"]
abbrev cO:=@List.length_map.{0,0}
abbrev eG:=@List.length_append.{0}
abbrev iC:=@Nat.le_refl
abbrev ny:=@List.length_cons.{0}
abbrev nu:=@List.map_append.{0,0}
abbrev rX:=@List.mem_cons_of_mem.{0}
abbrev vA:=@List.length_singleton.{0}
abbrev rY:=@List.size_toArray.{0}
abbrev vB:=@List.mem_of_getElem?.{0}
abbrev ue:=@Bool.false_ne_true
abbrev kM:=@List.getElem?_map.{0,0}
abbrev qd:=@PySem.F.plainAttrs_list
abbrev kK:=@List.length_take.{0}
abbrev kO:=@List.take_length.{0}
abbrev pD:=@List.mem_append_right.{0}
abbrev l9:=@List.flatMap_cons.{0,0}
abbrev qM:=@List.getElem?_eq_getElem.{0}
abbrev qv:=@List.concat_eq_append.{0}
abbrev jI:=@Nat.le_of_lt
abbrev r9:=@PySem.F.slot_list_append
abbrev sf:=@PySem.F.type_list_append
abbrev lT:=@PySem.boot_len
abbrev nA:=@List.append_nil.{0}
abbrev lU:=@List.map_cons.{0,0}
abbrev sj:=@List.eq_nil_or_concat.{0}
abbrev kQ:=@Nat.ne_of_lt
abbrev oj:=@List.length_nil.{0}
abbrev qN:=@Nat.lt_of_lt_of_le
abbrev qw:=@List.append_assoc.{0}
abbrev lV:=@Nat.le_trans
abbrev yx:=@PyProof.Rows.boot_isinstance
abbrev rS:=@List.mem_cons_self.{0}
abbrev qe:=@List.foldl_cons.{0,0}
abbrev vD:=@PyProof.Rows.boot_list
abbrev vE:=@List.getLast?_concat.{0}
abbrev sr:=@Option.some.inj.{0}
abbrev yy:=@List.length_replicate.{0}
abbrev AY:=@List.getElem?_append_left.{0}
abbrev zd:=@List.take_of_length_le.{0}
namespace L2
open PySem PySem.Spec PyProof.Rows
abbrev Key:=Sum Int Str
def ze:Key→Value→Bool
 | .inl k,v=>Value.isInt k v
 | .inr x,v=>Value.isStrOf x v
def Wq(w:World):Key→Int
 | .inl k=>hashInt k
 | .inr x=>hashStr w x
theorem eO:∀ {k:Key} {v:Value},ze k v=true→(∃ i t,k=Sum.inl i∧v=Value.int i t)∨(∃ x t,k=Sum.inr x∧v=Value.str x t)
 | .inl i,v,h=>by
  obtain⟨t,e⟩:=Value.isInt_shape (k:=i) (v:=v) h
  exact .inl ⟨i,t,rfl,e⟩
 | .inr x,v,h=>by
  obtain⟨t,e⟩:=Value.isStrOf_shape (x:=x) (v:=v) h
  exact .inr ⟨x,t,rfl,e⟩
theorem Jd(i:Int)(t:Tok):ze (.inl i) (.int i t)=true:=by simp[ze,Value.isInt]
theorem Je(x:Str)(t:Tok):ze (.inr x) (.str x t)=true:=by simp[ze,Value.isStrOf]
theorem PU(a b:Int):decide ((Sum.inl a:Key)=Sum.inl b)=(a == b):=by
 by_cases e:a=b
 ·subst e;simp
 ·have h:¬ (Sum.inl a:Key)=Sum.inl b:=fun q=>e (Sum.inl.inj q)
  rw[decide_eq_false h]
  exact (beq_eq_false_iff_ne.mpr e).symm
theorem PV(a b:Str):decide ((Sum.inr a:Key)=Sum.inr b)=decide (a=b):=by
 by_cases e:a=b
 ·subst e;simp
 ·have h:¬ (Sum.inr a:Key)=Sum.inr b:=fun q=>e (Sum.inr.inj q)
  rw[decide_eq_false h,decide_eq_false e]
theorem PX(a:Int)(b:Str):decide ((Sum.inl a:Key)=Sum.inr b)=false:=decide_eq_false (fun q=>nomatch q)
theorem PY(a:Str)(b:Int):decide ((Sum.inr a:Key)=Sum.inl b)=false:=decide_eq_false (fun q=>nomatch q)
def gh(prog:Program)(w:World):PySem.KeyKind prog w Key where
 is:=ze
 hash:=Wq w
 inj:=fun v a b ha hb=>by
  rcases eO ha with ⟨i,t,rfl,rfl⟩|⟨x,t,rfl,rfl⟩
  ·rcases eO hb with ⟨j,u,rfl,e⟩|⟨y,u,rfl,e⟩
   ·injection e with e1 _;rw[e1]
   ·exact nomatch e
  ·rcases eO hb with ⟨j,u,rfl,e⟩|⟨y,u,rfl,e⟩
   ·exact nomatch e
   ·injection e with e1 _;rw[e1]
 byValue:=fun k v h=>by
  rcases eO h with ⟨i,t,rfl,rfl⟩|⟨x,t,rfl,rfl⟩ <;> rfl
 pyHash:=fun hv h=>by
  rcases eO hv with ⟨i,t,rfl,rfl⟩|⟨x,t,rfl,rfl⟩
  ·exact wpAny_pyHash_int h
  ·exact wpAny_pyHash_str h
 eqBool:=fun hu hv h=>by
  rcases eO hu with ⟨i,t,rfl,rfl⟩|⟨x,t,rfl,rfl⟩
  ·rcases eO hv with ⟨j,u,rfl,rfl⟩|⟨y,u,rfl,rfl⟩
   ·rw[PU]at h;exact wpAny_eqBool_int h
   ·rw[PX]at h;exact SeqAt.EqAt.int_str i t y u _ _ _ _ h
  ·rcases eO hv with ⟨j,u,rfl,rfl⟩|⟨y,u,rfl,rfl⟩
   ·rw[PY]at h;exact SeqAt.EqAt.str_int x t j u _ _ _ _ h
   ·rw[PV]at h;exact wpAny_eqBool_str h
 «strs»:=fun k x t v h=>by
  rcases eO h with ⟨i,u,rfl,e⟩|⟨y,u,rfl,e⟩
  ·exact nomatch e
  ·injection e with e1 _
   subst e1
   cases v <;> rfl
theorem Ej(prog:Program)(w:World)(i:Int)(t:Tok):(gh prog w).is (.inl i) (.int i t)=true:=Jd i t
theorem Ek(prog:Program)(w:World)(x:Str)(t:Tok):(gh prog w).is (.inr x) (.str x t)=true:=Je x t
end L2
namespace L2
open PySem PySem.Spec PyProof.Rows
inductive V where
 | jJ | bl (b:Bool) | int (i:Int) | str (x:Str) | Gg (b:Array UInt8) | OJ (b:UInt64) | ref (a:Addr) | ty (n:String)
 deriving DecidableEq
def RelV:V→Value→Prop
 | .jJ,u=>u=Value.none
 | .bl b,u=>u=Value.bool b
 | .int i,u=>∃ t,u=Value.int i t
 | .str x,u=>∃ t,u=Value.str x t
 | .Gg b,u=>∃ t,u=Value.bytes b t
 | .OJ b,u=>∃ t,u=Value.float b t
 | .ref a,u=>u=Value.ref a
 | .ty n,u=>u=Value.type n
abbrev Vals:List V→List Value→Prop:=Paired RelV
theorem Vals.length{xs:List V}{us:List Value}(r:Vals xs us):xs.length=us.length:=Paired.length r
theorem Vals.get:∀ {xs:List V} {us:List Value} {i:Nat} {x:V},Vals xs us→xs[i]?=some x→∃ u,us[i]?=some u∧RelV x u
 | _,_,_,_,.nil,e=>by simp at e
 | _,_,0,_,.cons r _,e=>by simp at e;subst e;exact⟨_,rfl,r⟩
 | _,_,i+1,x,.cons _ t,e=>by
  obtain⟨u,h1,h2⟩:=Vals.get (i:=i) (x:=x) t (by simpa using e)
  exact⟨u,by simpa using h1,h2⟩
theorem Vals.set{x:V}{u:Value}(r:RelV x u):∀ {xs:List V} {us:List Value} (i:Nat),Vals xs us→Vals (xs.set i x) (us.set i u)
 | _,_,_,.nil=>.nil
 | _,_,0,.cons _ t=>.cons r t
 | _,_,i+1,.cons q t=>.cons q (Vals.set r i t)
theorem Vals.append:∀ {xs ys:List V} {us ws:List Value},Vals xs us→Vals ys ws→Vals (xs++ys) (us++ws)
 | _,_,_,_,.nil,s=>s
 | _,_,_,_,.cons r t,s=>.cons r (Vals.append t s)
theorem Vals.take:∀ {xs:List V} {us:List Value} (n:Nat),Vals xs us→Vals (xs.take n) (us.take n)
 | _,_,0,_=>.nil
 | _,_,_+1,.nil=>.nil
 | _,_,n+1,.cons r t=>.cons r (Vals.take n t)
theorem Vals.drop:∀ {xs:List V} {us:List Value} (n:Nat),Vals xs us→Vals (xs.drop n) (us.drop n)
 | _,_,0,r=>r
 | _,_,_+1,.nil=>.nil
 | _,_,n+1,.cons _ t=>Vals.drop n t
def tX:Option V→Option Value→Prop
 | some v,some u=>RelV v u
 | none,none=>True
 | _,_=>False
def KV{κ:Type}:List (κ × V)→List (κ × Value)→Prop:=Paired fun (p:κ × V) (q:κ × Value)=>p.1=q.1∧RelV p.2 q.2
def kV:Key→V
 | .inl i=>.int i
 | .inr x=>.str x
inductive HO where
 | lst (xs:List V)
 | tup (xs:List V)
 | dK (kvs:List (Key × V)) | dT (kvs:List (List Key × V))
 | set (S:Int→Bool) (n:Nat)
 | ins (C dx:Addr) (fs:List (Str × V))
 | own (x:Addr)
 | xd (fs:List (Str × V))
 | met (f x:Addr)
 | Ef (lo hi:Int)
 | Gh (o:Obj) (u:HO)
 | Nb (ps:Array Value)
 | ext (φ:Heap→Prop)
abbrev Hp:=Addr→Option HO
def upd(H:Hp)(a:Addr)(o:HO):Hp:=fun b=>if b=a then some o else H b
theorem af{H:Hp}{a:Addr}{o:HO}:upd H a o a=some o:=by unfold upd;rw[if_pos rfl]
theorem aC{H:Hp}{a b:Addr}{o:HO}(h:b≠a):upd H a o b=H b:=by unfold upd;rw[if_neg h]
theorem cT{H:Hp}{a b:Addr}{o u:HO}(h:H a=some o)(h':H b=some u)(d:o≠u):a≠b:=by
 intro e;subst e;rw[h]at h';exact d (sr h')
theorem au{H:Hp}{a b:Addr}{o:HO}(h:H a=some o)(h':H b=none):a≠b:=by
 intro e;subst e;rw[h]at h';cases h'
section
variable (P:Program) (w:World)
def gj(H:Hp)(h:Heap)(a:Addr):HO→Prop
 | .lst xs=>xs.length≤sizeLine∧∃ (its:List Value) (n:Nat),Vals xs its∧h.get? a=some { cls:=.type "list",data:=.seq its.toArray n }
 | .tup xs=>xs.length≤sizeLine∧∃ its:List Value,Vals xs its∧IsTup h a its.toArray
 | .dK kvs=>kvs.length≤sizeLine∧(a == sysModules)=false∧∃ vs,KV kvs vs∧h.DictOf (gh P w) a vs
 | .dT kvs=>kvs.length≤sizeLine∧(a == sysModules)=false∧∃ xs:List (List Key × Addr × Value),
   Paired (fun (p:List Key × V) (q:List Key × Addr × Value)=>p.1=q.1∧H q.2.1=some (.tup (p.1.map kV))∧RelV p.2 q.2.2) kvs xs ∧
   ∃ o es ep,h.get? a=some o∧o.ExactDict∧o.data=.dict es ep∧es.toList=xs.map (entryOfKey (tupleKind (gh P w)))∧(xs.map (·.1)).Nodup
 | .set S n=>h.SetOf (intKind P w) a S n
 | .ins C dx fs=>H dx=some (.own a)∧fs.length≤1000∧dx≠a∧h.get? a=some (PySem.W.instObj C dx) ∧
   ∃ mA,h.Ns1 dx mA∧(∀ f,tX (fs.lookup f) (mA f))∧PySem.Within mA (fs.map (·.1))
 | .own _=>∃ o,h.get? a=some o
 | .xd fs=>∃ mA,h.Ns1 a mA∧∀ f,tX (fs.lookup f) (mA f)
 | .Ef lo hi=>∃ t u v,h.get? a=some { cls:=.type "range",data:=.fields #[.int lo t,.int hi u,.int 1 v] }
 | .Gh o u=>h.get? a=some o∧gj H h a u
 | .Nb ps=>h.get? a=some { cls:=.none,data:=.fields ps }
 | .met f x=>h.get? a=some (PySem.W.methodObj (.ref f) (.ref x))
 | .ext φ=>φ h∧(∃ o,h.get? a=some o)∧∀ h1 h2:Heap,φ h1→(∀ o,h1.get? a=some o→h2.get? a=some o)→φ h2
def tw(H:Hp)(h:Heap):Prop:=∀ a o,H a=some o→gj P w H h a o
end
section
variable {P:Program} {w:World} {H H':Hp} {h h':Heap} {a:Addr} {o:HO}
theorem gj.lt(x:gj P w H h a o):a<h.objs.size:=by
 cases o with
 | lst xs=>obtain⟨_,_,_,_,e⟩:=x;exact Heap.lt_size e
 | tup xs=>obtain⟨_,_,_,p⟩:=x;exact p.lt
 | dK kvs=>obtain⟨_,_,_,_,o,_,_,e,_⟩:=x;exact Heap.lt_size e
 | dT kvs=>obtain⟨_,_,_,_,o,_,_,e,_⟩:=x;exact Heap.lt_size e
 | set S n=>obtain⟨o,_,_,_,e,_⟩:=x;exact Heap.lt_size e
 | ins C dx fs=>obtain⟨_,_,_,e,_⟩:=x;exact Heap.lt_size e
 | own y=>obtain⟨_,e⟩:=x;exact Heap.lt_size e
 | xd fs=>obtain⟨_,⟨_,_,_,e,_⟩,_⟩:=x;exact Heap.lt_size e
 | Ef lo hi=>obtain⟨_,_,_,e⟩:=x;exact Heap.lt_size e
 | Gh ob u=>obtain⟨e,_⟩:=x;exact Heap.lt_size e
 | Nb ps=>exact Heap.lt_size (show h.get? a=some _ from x)
 | met f y=>exact Heap.lt_size (show h.get? a=some _ from x)
 | ext φ=>obtain⟨_,⟨_,e⟩,_⟩:=x;exact Heap.lt_size e
theorem Paired.El{α β:Type}{F G:α→β→Prop}:∀ {l₁:List α} {l₂:List β},Paired F l₁ l₂→(∀ a b,F a b→G a b)→Paired G l₁ l₂
 | _,_,.nil,_=>.nil
 | _,_,.cons r t,f=>.cons (f _ _ r) (Paired.El t f)
theorem gj.stay(x:gj P w H h a o)(k:∀ b u,(b=a∨H b=some (.own a))→h.get? b=some u→h'.get? b=some u)
  (ho:∀ b,H b=some (.own a)→H' b=some (.own a)) (ht:∀ b xs,H b=some (.tup xs)→H' b=some (.tup xs)):gj P w H' h' a o:=by
 induction o with
 | lst xs=>obtain⟨z,its,n,r,e⟩:=x;exact⟨z,its,n,r,k _ _ (.inl rfl) e⟩
 | tup xs=>obtain⟨z,its,r,ob,e,c⟩:=x;exact⟨z,its,r,ob,k _ _ (.inl rfl) e,c⟩
 | dK kvs=>obtain⟨z,y,vs,r,ob,es,ep,e,c⟩:=x;exact⟨z,y,vs,r,ob,es,ep,k _ _ (.inl rfl) e,c⟩
 | dT kvs =>
  obtain⟨z,y,xs,r,ob,es,ep,e,c⟩:=x
  exact⟨z,y,xs,Paired.El r fun p q z=>⟨z.1,ht _ _ z.2.1,z.2.2⟩,ob,es,ep,k _ _ (.inl rfl) e,c⟩
 | set S n=>obtain⟨ob,es,ep,t,e,c⟩:=x;exact⟨ob,es,ep,t,k _ _ (.inl rfl) e,c⟩
 | ins C dx fs =>
  obtain⟨d,z,ne,e,mA,⟨od,es,ep,e2,c⟩,r⟩:=x
  exact⟨ho _ d,z,ne,k _ _ (.inl rfl) e,mA,⟨od,es,ep,k _ _ (.inr d) e2,c⟩,r⟩
 | own y=>obtain⟨ob,e⟩:=x;exact⟨ob,k _ _ (.inl rfl) e⟩
 | xd fs=>obtain⟨mA,⟨od,es,ep,e,c⟩,r⟩:=x;exact⟨mA,⟨od,es,ep,k _ _ (.inl rfl) e,c⟩,r⟩
 | Ef lo hi=>obtain⟨t,u,v,e⟩:=x;exact⟨t,u,v,k _ _ (.inl rfl) e⟩
 | Gh ob u ih=>obtain⟨e,q⟩:=x;exact⟨k _ _ (.inl rfl) e,ih q⟩
 | Nb ps =>
  have e:h.get? a=some { cls:=.none,data:=.fields ps }:=x
  show h'.get? a=some { cls:=.none,data:=.fields ps }
  exact k a _ (.inl rfl) e
 | met f y =>
  have e:h.get? a=some (PySem.W.methodObj (.ref f) (.ref y)):=x
  show h'.get? a=some (PySem.W.methodObj (.ref f) (.ref y))
  exact k a _ (.inl rfl) e
 | ext φ=>obtain⟨p,⟨o,e⟩,st⟩:=x;exact⟨st _ _ p fun o q=>k _ _ (.inl rfl) q,⟨o,k _ _ (.inl rfl) e⟩,st⟩
theorem tw.lt(x:tw P w H h)(e:H a=some o):a<h.objs.size:=(x a o e).lt
theorem tw.fresh(x:tw P w H h)(e:h.objs.size≤a):H a=none:=by
 cases q:H a with
 | none=>rfl
 | some u=>exact absurd (qN (x.lt q) e) (Nat.lt_irrefl _)
theorem tw.kept(x:tw P w H h)(k:∀ b u,h.get? b=some u→h'.get? b=some u):tw P w H h':=fun a o e =>
 (x a o e).stay (fun b u _ q=>k b u q) (fun _ q=>q) fun _ _ q=>q
theorem tw.laid(x:tw P w H h)(k:∀ b u,h.get? b=some u→h'.get? b=some u)(hp:h.objs.size≤a)(new:gj P w (upd H a o) h' a o):tw P w (upd H a o) h':=fun b u e=>by
 have hn:=x.fresh hp
 by_cases hb:b=a
 ·subst hb;rw[af]at e;cases e;exact new
 ·rw[aC hb]at e
  exact (x b u e).stay (fun c v _ q=>k c v q) (fun c q=>by rw[aC (au q hn)];exact q) fun c xs q=>by rw[aC (au q hn)];exact q
end
def Rd(H:Hp)(a:Addr)(u:HO):Prop:=H a=some u∨∃ o,H a=some (.Gh o u)
theorem Rd.ok{P:Program}{w:World}{H:Hp}{h:Heap}{a:Addr}{u:HO}(r:Rd H a u)(x:tw P w H h):gj P w H h a u:=by
 rcases r with r|⟨o,r⟩
 ·exact x a u r
 ·obtain⟨_,q⟩:=x a _ r
  exact q
def Sk:Option HO→Prop
 | some (.lst _)=>True
 | some (.dK _)=>True
 | some (.dT _)=>True
 | some (.set _ _)=>True
 | some (.ins _ _ _)=>True
 | some (.ext _)=>True
 | _=>False
section
variable {P:Program} {w:World} {H:Hp} {h h':Heap} {x e:Addr} {o':HO}
theorem tw.write(ok:tw P w H h)(mu:Sk (H x))(he:e=x∨H e=some (.own x))(k:∀ b u,b≠e→h.get? b=some u→h'.get? b=some u)(RJ:∃ u,h'.get? e=some u)
  (new:gj P w (upd H x o') h' x o'):tw P w (upd H x o') h':=fun b u q=>by
 have Sm:∀ c y,H c=some (.own y)→c≠x:=fun c y r z=>by subst z;rw[r]at mu;exact mu
 have Wr:∀ c xs,H c=some (.tup xs)→c≠x:=fun c xs r z=>by subst z;rw[r]at mu;exact mu
 by_cases hb:b=x
 ·subst hb;rw[af]at q;cases q;exact new
 ·rw[aC hb]at q
  by_cases PZ:b=e
  ·have q':H b=some (.own x):=by
    rcases he with z|z
    ·exact absurd (PZ.trans z) hb
    ·rw[PZ];exact z
   rw[q]at q';cases q'
   obtain⟨v,hv⟩:=RJ
   exact⟨v,by rw[PZ];exact hv⟩
  ·refine (ok b u q).stay (fun c v hc r=>k c v ?_ r) (fun c r=>by rw[aC (Sm c b r)];exact r) fun c xs r=>by rw[aC (Wr c xs r)];exact r
   rcases hc with rfl|hc
   ·exact PZ
   ·rintro rfl
    rcases he with z|z
    ·exact Sm c b hc z
    ·rw[hc]at z;cases z;exact hb rfl
end
structure Un(fs ex:List Addr)(H H':Hp)(h h':Heap):Prop where
 keep:∀ b o,h.get? b=some o→H b=none→b∉fs→b∉ex→h'.get? b=some o
 slot:∀ b o,h.get? b=some o→H b=none→b∈fs→b∉ex→∃ sl,h'.get? b=some { o with slots:=sl }
 free:∀ b o,h.get? b=some o→H b=none→b∉ex→H' b=none
 there:∀ b o,h.get? b=some o→b∉ex→∃ o',h'.get? b=some o'
 tups:∀ b xs,H b=some (.tup xs)→H' b=some (.tup xs)
 AZ:∀ b o u,H b=some (.Gh o u)→H' b=some (.Gh o u)
 CC:∀ b ps,H b=some (.Nb ps)→∃ more,H' b=some (.Nb (ps++more))
section
variable {fs fs' ex ex':List Addr} {H H1 H2:Hp} {h h1 h2 h':Heap} {a x e:Addr} {o:HO}
theorem Un.any(u:Un fs ex H H1 h h1){b:Addr}{ob:Obj}(q:h.get? b=some ob)(n:H b=none)(hx:b∉ex):∃ sl,h1.get? b=some { ob with slots:=sl }:=by
 by_cases hb:b∈fs
 ·exact u.slot b ob q n hb hx
 ·exact⟨ob.slots,u.keep b ob q n hb hx⟩
theorem Un.kept(k:∀ b u,h.get? b=some u→h'.get? b=some u):Un fs ex H H h h' :=
 ⟨fun b ob q _ _ _=>k b ob q,fun b ob q _ _ _=>⟨ob.slots,k b ob q⟩,fun _ _ _ n _=>n,fun b ob q _=>⟨ob,k b ob q⟩,fun _ _ q=>q,fun _ _ _ q=>q,fun _ ps q=>⟨#[],by rw[q];simp⟩⟩
theorem Un.refl:Un fs ex H H h h:=Un.kept fun _ _ q=>q
theorem Un.laid(k:∀ b u,h.get? b=some u→h'.get? b=some u)(hp:h.objs.size≤a)(hn:H a=none):Un fs ex H (upd H a o) h h' where
 keep:=fun b u q _ _ _=>k b u q
 slot:=fun b u q _ _ _=>⟨u.slots,k b u q⟩
 free:=fun b u q n _=>by rw[aC (kQ (qN (Heap.lt_size q) hp))];exact n
 there:=fun b u q _=>⟨u,k b u q⟩
 tups:=fun b xs q=>by rw[aC (au q hn)];exact q
 AZ:=fun b u xs q=>by rw[aC (au q hn)];exact q
 CC:=fun b ps q=>⟨#[],by rw[aC (au q hn),q];simp⟩
theorem Un.write(mu:Sk (H x))(he:e=x∨H e=some (.own x))(k:∀ b u,b≠e→h.get? b=some u→h'.get? b=some u)(RJ:∃ u,h'.get? e=some u):Un fs ex H (upd H x o) h h':=by
 have hx:∀ b,H b=none→b≠x:=fun b n z=>by subst z;rw[n]at mu;exact mu
 have hb:∀ b,H b=none→b≠e:=fun b n z=>by
  subst z
  rcases he with r|r
  ·exact hx b n r
  ·rw[n]at r;cases r
 have hm:∀ b u,H b=some u→¬ Sk (some u)→b≠x:=fun b u q nm z=>by subst z;rw[q]at mu;exact nm mu
 refine⟨fun b u q n _ _=>k b u (hb b n) q,fun b u q n _ _=>⟨u.slots,k b u (hb b n) q⟩,fun b u q n _=>by rw[aC (hx b n)];exact n,fun b u q _=>?_,
  fun b xs q=>by rw[aC (hm b _ q fun z=>z)];exact q,fun b u xs q=>by rw[aC (hm b _ q fun z=>z)];exact q,fun b ps q=>⟨#[],by rw[aC (hm b _ q fun z=>z),q];simp⟩⟩
 by_cases PZ:b=e
 ·subst PZ;exact RJ
 ·exact⟨u,k b u PZ q⟩
end
def Vn(h:Heap)(H:Hp):List Addr:=(List.range h.objs.size).filter fun a=>(H a).isSome
def CF(h:Heap)(H:Hp):Heap:=PySem.W.hideAll h (Vn h H)
theorem Jf(h:Heap)(H:Hp):(CF h H).objs.size=h.objs.size:=PySem.W.hideAll_size _ _
theorem Kx{h:Heap}{H:Hp}{b:Addr}{o:Obj}(e:h.get? b=some o)(n:H b=none):(CF h H).get? b=some o :=
 PySem.W.hideAll_get _ e fun hm=>by
  have q:(H b).isSome=true:=(List.mem_filter.mp hm).2
  rw[n]at q;simp at q
theorem Nc{h:Heap}{H:Hp}{b:Addr}{o:Obj}(e:(CF h H).get? b=some o):h.get? b=some o∧H b=none:=by
 have e':h.get? b=some o:=PySem.W.of_hideAll (Vn h H) e
 refine⟨e',?_⟩
 cases q:H b with
 | none=>rfl
 | some x =>
  have hm:b∈Vn h H:=List.mem_filter.mpr ⟨List.mem_range.mpr (Heap.lt_size e'),by simp[q]⟩
  have z:(CF h H).get? b=none:=PySem.W.hideAll_none (Vn h H) hm
  rw[z]at e;cases e
end L2
namespace L2
open PySem PySem.Spec PyProof.Rows
structure Mod(K:PySem.W.Frag)(mg:Str→Option Value)(base:Heap):Prop where
 Sn:K.In base
 glob:base.Ns mainGlobals mg
 blt:∃ mb,base.Ns builtinsNs mb∧∀ x:Str,x≠"__name__"→mb x=bootBuiltins x
 nolimit:base.NoLimit
structure Cx where
 prog:Program
 w:World
 K:PySem.W.Frag
 mg:Str→Option Value
 base:Heap
 A:Around
 N:List Str
 s₀:Shared
 H₀:Hp
 env:Env
 outer:List Env
 stack:List Env
 ex:List Addr
 fn:Str→Bool
 calm:Bool
 pn:List (Addr × Obj)
 xe:Value→Shared→Prop
def frs(l:List Env):List Addr:=l.filterMap (·.frame)
abbrev Cx.fs(X:Cx):List Addr:=frs X.outer
def Vo(sc:Scope)(x:Str):Prop:=sc.names.lookup x=some .local∨sc.names.lookup x=some .cell∨sc.names.lookup x=some .free
def Loc(sc:Scope)(x:Str):Prop:=sc.names.lookup x=some .local∨sc.names.lookup x=some .cell
def Look(env:Env)(h:Heap)(m:Str→Option Value)(x:Str)(u:Value):Prop :=
 (env.kindOf x=some .local∧m x=some u)∨((env.kindOf x=some .cell∨env.kindOf x=some .free)∧∃ c,env.cells.lookup x=some c∧h.IsCell c (some u))
structure Cx.Ok(X:Cx):Prop where
 mod:Mod X.K X.mg X.base
 kind:X.env.scope.kind=.function
 glob:X.env.globals=mainGlobals
 blt:X.env.builtins=builtinsNs
 above:X.s₀.heap.objs.size≤X.env.locals
 inj:∀ x y c,X.env.cells.lookup x=some c→X.env.cells.lookup y=some c→x=y
 has:∀ x,(X.env.kindOf x=some .cell∨X.env.kindOf x=some .free)→∃ c,X.env.cells.lookup x=some c
 So:∀ x c,X.fn x=true→X.env.cells.lookup x=some c→X.s₀.heap.objs.size≤c
 hd:X.calm=true→X.A.handled=none
 frames:X.A.frames=some X.stack
 stk:X.stack=X.outer∨(X.stack=X.env::X.outer∧X.env.frame=some X.env.locals)
 exf:∀ b∈X.ex,b≠X.env.locals∧∀ x c,X.env.cells.lookup x=some c→c≠b
 bs:∀ b o,X.base.get? b=some o→X.s₀.heap.get? b=some o∧X.H₀ b=none
 Nf:X.base.objs.size≤X.s₀.heap.objs.size
 Jg:∀ b o,X.base.get? b=some o→b∉X.ex
 Ng:∀ b∈X.ex,b∉X.fs
 vF:X.s₀.heap.FunFrames X.base X.outer
 P0:∀ b∈X.fs,X.H₀ b=none
structure Inv(X:Cx)(pins:List (Addr × Obj))(σ:List (Option V))(H:Hp)(s:Shared):Prop where
 ok:X.Ok
 os:s.os=X.s₀.os
 bare:AllBare s.gens
 base:Un X.fs X.ex X.H₀ H X.s₀.heap s.heap
 loc:∃ m,s.heap.Ns X.env.locals m∧∀ (i:Nat) (x:Str) (v:V),X.N[i]?=some x→σ[i]?=some (some v)→Vo X.env.scope x→∃ u,RelV v u∧Look X.env s.heap m x u
 cell:∀ x c,X.env.cells.lookup x=some c→∃ v,s.heap.IsCell c v
 free:H X.env.locals=none
 uf:∀ x c,X.env.cells.lookup x=some c→H c=none
 pin:∀ p∈X.pn++pins,s.heap.get? p.1=some p.2∧H p.1=none∧p.1≠X.env.locals∧p.1∉X.fs∧∀ v,p.2.data≠.cell v
 hok:tw X.prog X.w H s.heap
 len:σ.length=X.N.length
section
variable {X:Cx} {pins:List (Addr × Obj)} {σ:List (Option V)} {H H':Hp} {s:Shared} {h':Heap}
theorem Cx.Ok.Ws(ok:X.Ok){b:Addr}{o:Obj}(e:X.base.get? b=some o):b∉X.fs:=fun hb=>by
 have:=(ok.vF.mem hb).1
 rw[e]at this;cases this
theorem Inv.bs(I:Inv X pins σ H s):∀ b o,X.base.get? b=some o→s.heap.get? b=some o∧H b=none:=fun b o e =>
 ⟨I.base.keep b o (I.ok.bs b o e).1 (I.ok.bs b o e).2 (I.ok.Ws e) (I.ok.Jg b o e),I.base.free b o (I.ok.bs b o e).1 (I.ok.bs b o e).2 (I.ok.Jg b o e)⟩
theorem Inv.bk(I:Inv X pins σ H s):∀ b o,X.base.get? b=some o→s.heap.get? b=some o:=fun b o e=>(I.bs b o e).1
theorem Inv.mod(I:Inv X pins σ H s):Mod X.K X.mg X.base:=I.ok.mod
theorem Inv.xW(I:Inv X pins σ H s):X.K.In s.heap:=I.ok.mod.Sn.keeps I.bk
theorem Inv.lt(I:Inv X pins σ H s):X.env.locals<s.heap.objs.size:=let ⟨_,hn,_⟩:=I.loc;hn.lt
theorem Inv.sz(I:Inv X pins σ H s):X.s₀.heap.objs.size≤s.heap.objs.size:=lV I.ok.above (jI I.lt)
theorem Inv.Wt(I:Inv X pins σ H s){a:Addr}(h:s.heap.objs.size≤a):a∉X.fs:=fun hb=>by
 obtain⟨_,o,ho,_⟩:=I.ok.vF.mem hb
 exact absurd (qN (Heap.lt_size ho) (lV I.sz h)) (Nat.lt_irrefl _)
theorem Inv.P1(I:Inv X pins σ H s):∀ x c,X.env.cells.lookup x=some c→c≠X.env.locals:=fun x c e z=>by
 obtain⟨v,o,ho,hd⟩:=I.cell x c e
 obtain⟨m,⟨o',es,ep,ho',hd',_⟩,_⟩:=I.loc
 rw[z,ho']at ho;cases ho;rw[hd']at hd;cases hd
theorem Inv.vF(I:Inv X pins σ H s):s.heap.FunFrames X.base X.outer:=by
 have all:∀ (l:List Env),(∀ b∈frs l,b∈X.fs)→X.s₀.heap.FunFrames X.base l→s.heap.FunFrames X.base l:=by
  intro l
  induction l with
  | nil=>intro _ _;trivial
  | cons env r ih =>
   intro hs hl
   obtain⟨hk,⟨L,o,hf,hn,ho,hd⟩,hr⟩:=hl
   have hL:L∈X.fs:=hs L (by unfold frs;rw[List.filterMap_cons,hf];exact rS)
   obtain⟨sl,e⟩:=I.base.slot L o ho (I.ok.P0 L hL) hL fun z=>I.ok.Ng L z hL
   exact⟨hk,⟨L,_,hf,hn,e,hd⟩,ih (fun b hb=>hs b (by unfold frs;rw[List.filterMap_cons,hf];exact rX _ hb)) hr⟩
 exact all X.outer (fun _ hb=>hb) I.ok.vF
theorem Inv.stack(I:Inv X pins σ H s):s.heap.FunFrames X.base X.stack:=by
 rcases I.ok.stk with e|⟨e,hf⟩
 ·rw[e];exact I.vF
 ·rw[e]
  obtain⟨m,hn,_⟩:=I.loc
  refine .cons (by rw[I.ok.kind];decide) hf hn ?_ I.vF
  exact Heap.get?_none_of_le (lV I.ok.Nf I.ok.above)
theorem Inv.qO(I:Inv X pins σ H s):∀ b∈frs X.stack,b∈X.env.locals::X.fs:=fun b hb=>by
 rcases I.ok.stk with e|⟨e,hf⟩
 ·rw[e]at hb;exact rX _ hb
 ·rw[e]at hb
  unfold frs at hb
  rw[List.filterMap_cons,hf]at hb
  exact hb
theorem Inv.vG(I:Inv X pins σ H s):∀ b∈frs X.stack,H b=none:=fun b hb=>by
 rcases List.mem_cons.mp (I.qO b hb) with e|hb
 ·rw[e];exact I.free
 ·obtain⟨_,o,ho,_⟩:=I.ok.vF.mem hb
  exact I.base.free b o ho (I.ok.P0 b hb) fun z=>I.ok.Ng b z hb
theorem Inv.step{g':Array GenState}{t':Nat}{d':Drawn}{ch:List Addr}(I:Inv X pins σ H s)
  (hch:∀ b∈ch,(b∈X.ex∨X.s₀.heap.objs.size≤b)∧b≠X.env.locals∧(∀ x c,X.env.cells.lookup x=some c→c≠b)∧∀ p∈X.pn++pins,p.1≠b)
  (keep:∀ b o,b≠X.env.locals→b∉X.fs→b∉ch→s.heap.get? b=some o→H b=none→h'.get? b=some o)
  (slot:∀ b o,b≠X.env.locals→b∈X.fs→b∉ch→s.heap.get? b=some o→H b=none→∃ sl,h'.get? b=some { o with slots:=sl }) (free:∀ b o,b∉ch→s.heap.get? b=some o→H b=none→H' b=none)
  (there:∀ b o,b∉ch→s.heap.get? b=some o→∃ o',h'.get? b=some o')
  (tups:∀ b xs,H b=some (.tup xs)→H' b=some (.tup xs)) (AZ:∀ b o u,H b=some (.Gh o u)→H' b=some (.Gh o u)) (CC:∀ b ps,H b=some (.Nb ps)→∃ more,H' b=some (.Nb (ps++more)))
  (ns:∀ m,s.heap.Ns X.env.locals m→h'.Ns X.env.locals m) (hok:tw X.prog X.w H' h') (hg:AllBare g') :
  Inv X pins σ H' { s with heap:=h',gens:=g',drawn:=d',toks:=t' }:=by
 have neL:∀ b o,X.s₀.heap.get? b=some o→b≠X.env.locals:=fun b o e=>kQ (qN (Heap.lt_size e) I.ok.above)
 have Vp:∀ b o,X.s₀.heap.get? b=some o→b∉X.ex→b∉ch:=fun b o e hx hb=>by
  rcases (hch b hb).1 with z|z
  ·exact hx z
  ·exact absurd (qN (Heap.lt_size e) z) (Nat.lt_irrefl _)
 have cellK:∀ x c,X.env.cells.lookup x=some c→∀ v,s.heap.IsCell c v→h'.IsCell c v:=fun x c e v ⟨o,ho,hd⟩=>by
  have Sq:c∉ch:=fun z=>(hch c z).2.2.1 x c e rfl
  by_cases hc:c∈X.fs
  ·obtain⟨sl,q⟩:=slot c o (I.P1 x c e) hc Sq ho (I.uf x c e)
   exact⟨_,q,hd⟩
  ·exact⟨o,keep c o (I.P1 x c e) hc Sq ho (I.uf x c e),hd⟩
 refine⟨I.ok,I.os,hg,⟨fun b o e n hb hx=>?_,fun b o e n hb hx=>?_,fun b o e n hx=>?_,fun b o e hx=>?_,fun b xs e=>tups b xs (I.base.tups b xs e),fun b o xs e=>AZ b o xs (I.base.AZ b o xs e),fun b ps e=>?_⟩,?_,fun x c e=>?_,?_,fun x c e=>?_,fun p hp=>?_,hok,I.len⟩
 ·exact keep b o (neL b o e) hb (Vp b o e hx) (I.base.keep b o e n hb hx) (I.base.free b o e n hx)
 ·obtain⟨sl,e1⟩:=I.base.slot b o e n hb hx
  obtain⟨Vq,e2⟩:=slot b _ (neL b o e) hb (Vp b o e hx) e1 (I.base.free b o e n hx)
  exact⟨Vq,e2⟩
 ·obtain⟨o',e1⟩:=I.base.there b o e hx
  exact free b o' (Vp b o e hx) e1 (I.base.free b o e n hx)
 ·obtain⟨o',e1⟩:=I.base.there b o e hx
  exact there b o' (Vp b o e hx) e1
 ·obtain⟨m1,e1⟩:=I.base.CC b ps e
  obtain⟨m2,e2⟩:=CC b _ e1
  exact⟨m1++m2,by rw[e2,Array.append_assoc]⟩
 ·obtain⟨m,hn,hl⟩:=I.loc
  refine⟨m,ns m hn,fun i x v e1 e2 e3=>?_⟩
  obtain⟨u,r,l⟩:=hl i x v e1 e2 e3
  refine⟨u,r,?_⟩
  rcases l with l|⟨k,c,e,z⟩
  ·exact .inl l
  ·exact .inr ⟨k,c,e,cellK x c e _ z⟩
 ·obtain⟨v,z⟩:=I.cell x c e
  exact⟨v,cellK x c e v z⟩
 ·obtain⟨m,⟨o,_,_,ho,_⟩,_⟩:=I.loc
  exact free _ o (fun z=>(hch _ z).2.1 rfl) ho I.free
 ·obtain⟨v,o,ho,hd⟩:=I.cell x c e
  exact free c o (fun z=>(hch c z).2.2.1 x c e rfl) ho (I.uf x c e)
 ·obtain⟨e,n,ne,nf,d⟩:=I.pin p hp
  have Sq:p.1∉ch:=fun z=>(hch p.1 z).2.2.2 p hp rfl
  exact⟨keep p.1 p.2 ne nf Sq e n,free p.1 p.2 Sq e n,ne,nf,d⟩
theorem Inv.un{t':Nat}(I:Inv X pins σ H s)(u:Un X.fs [] H H' s.heap h')(hok:tw X.prog X.w H' h'):Inv X pins σ H' { s with heap:=h',toks:=t' }:=by
 obtain⟨m,⟨o,es,ep,ho,r⟩,_⟩:=id I.loc
 obtain⟨sl,hL⟩:=u.any ho I.free (by simp)
 exact I.step (g':=s.gens) (d':=s.drawn) (ch:=[]) (fun _ z=>nomatch z) (fun b o _ hb _ e n=>u.keep b o e n hb (by simp)) (fun b o _ hb _ e n=>u.slot b o e n hb (by simp)) (fun b o _ e n=>u.free b o e n (by simp)) (fun b o _ e=>u.there b o e (by simp)) u.tups u.AZ u.CC (fun m' hm=>by
  obtain⟨o',es',Wu,ho',r'⟩:=hm
  rw[ho]at ho';cases ho'
  exact⟨_,es',Wu,hL,r'⟩) hok I.bare
theorem Inv.call{g':Array GenState}{t':Nat}{d':Drawn}{ch:List Addr}(I:Inv X pins σ H s)(u:Un (frs X.stack) ch H H' s.heap h')(hok:tw X.prog X.w H' h')(hg:AllBare g')
  (hch:∀ b∈ch,(b∈X.ex∨X.s₀.heap.objs.size≤b)∧b≠X.env.locals∧(∀ x c,X.env.cells.lookup x=some c→c≠b)∧∀ p∈X.pn++pins,p.1≠b) :
  Inv X pins σ H' { s with heap:=h',gens:=g',drawn:=d',toks:=t' }:=by
 obtain⟨m,⟨o,es,ep,ho,r⟩,_⟩:=id I.loc
 obtain⟨sl,hL⟩:=u.any ho I.free fun z=>(hch _ z).2.1 rfl
 exact I.step (ch:=ch) hch (fun b o hL hb hc e n=>u.keep b o e n (fun z=>(List.mem_cons.mp (I.qO b z)).elim hL hb) hc) (fun b o _ _ hc e n=>u.any e n hc) (fun b o hc e n=>u.free b o e n hc) (fun b o hc e=>u.there b o e hc) u.tups u.AZ u.CC (fun m' hm=>by
  obtain⟨o',es',Wu,ho',r'⟩:=hm
  rw[ho]at ho';cases ho'
  exact⟨_,es',Wu,hL,r'⟩) hok hg
theorem Inv.turned{t':Nat}{it:Addr}(I:Inv X pins σ H s)(k:∀ b o,b≠it→s.heap.get? b=some o→h'.get? b=some o)(hn:H it=none)(hL:it≠X.env.locals)
  (h1:it∈X.ex∨X.s₀.heap.objs.size≤it) (h2:∀ x c,X.env.cells.lookup x=some c→c≠it) (h3:∀ p∈X.pn++pins,p.1≠it):Inv X pins σ H { s with heap:=h',toks:=t' }:=by
 have OL:∀ b u,H b=some u→b≠it:=fun b u e z=>by rw[z,hn]at e;cases e
 refine I.step (g':=s.gens) (d':=s.drawn) (ch:=[it]) (fun b hb=>?_) (fun b o _ _ hc e _=>k b o (fun z=>hc (by simp[z])) e) (fun b o _ _ hc e _=>⟨o.slots,k b o (fun z=>hc (by simp[z])) e⟩) (fun _ _ _ _ n=>n)
  (fun b o hc e=>⟨o,k b o (fun z=>hc (by simp[z])) e⟩) (fun _ _ e=>e) (fun _ _ _ e=>e) (fun b ps e=>⟨#[],by rw[e];simp⟩) (fun m hm=>?_) (fun b u e=>?_) I.bare
 ·have e:b=it:=by simpa using hb
  subst e
  exact⟨h1,hL,h2,h3⟩
 ·obtain⟨o,es,ep,ho,r⟩:=hm
  exact⟨o,es,ep,k _ o (Ne.symm hL) ho,r⟩
 ·refine (I.hok b u e).stay (fun c v hc q=>k c v ?_ q) (fun _ q=>q) fun _ _ q=>q
  rcases hc with z|z
  ·rw[z];exact OL b u e
  ·exact OL c _ z
theorem Inv.tok(I:Inv X pins σ H s)(t:Nat):Inv X pins σ H { s with toks:=t }:=I.un (h':=s.heap) (t':=t) Un.refl I.hok
theorem Inv.kept{t':Nat}(I:Inv X pins σ H s)(k:∀ b u,s.heap.get? b=some u→h'.get? b=some u):Inv X pins σ H { s with heap:=h',toks:=t' }:=I.un (Un.kept k) (I.hok.kept k)
theorem Inv.laid{a:Addr}{o:HO}{t':Nat}(I:Inv X pins σ H s)(k:∀ b u,s.heap.get? b=some u→h'.get? b=some u)(hp:s.heap.objs.size≤a)(new:gj X.prog X.w (upd H a o) h' a o) :
  Inv X pins σ (upd H a o) { s with heap:=h',toks:=t' }:=I.un (Un.laid k hp (I.hok.fresh hp)) (I.hok.laid k hp new)
theorem Inv.write{x e:Addr}{o:HO}{t':Nat}(I:Inv X pins σ H s)(mu:Sk (H x))(he:e=x∨H e=some (.own x))(k:∀ b u,b≠e→s.heap.get? b=some u→h'.get? b=some u)(RJ:∃ u,h'.get? e=some u)
  (new:gj X.prog X.w (upd H x o) h' x o):Inv X pins σ (upd H x o) { s with heap:=h',toks:=t' }:=I.un (Un.write mu he k RJ) (I.hok.write mu he k RJ new)
theorem Inv.HG{OM:List (Addr × Obj)}(I:Inv X pins σ H s)(h:∀ p∈OM,s.heap.get? p.1=some p.2∧H p.1=none∧p.1≠X.env.locals∧p.1∉X.fs∧∀ v,p.2.data≠.cell v):Inv X OM σ H s :=
 ⟨I.ok,I.os,I.bare,I.base,I.loc,I.cell,I.free,I.uf,fun p hp=>(List.mem_append.mp hp).elim (fun z=>I.pin p (List.mem_append_left _ z)) (h p),I.hok,I.len⟩
theorem Em{N:List Str}(hN:N.Nodup){i j:Nat}{x:Str}(a:N[i]?=some x)(b:N[j]?=some x):i=j:=by
 obtain⟨h1,e1⟩:=List.getElem?_eq_some_iff.mp a
 obtain⟨h2,e2⟩:=List.getElem?_eq_some_iff.mp b
 exact (List.getElem_inj hN).mp (e1.trans e2.symm)
theorem Bs{M:Model}{A:Around}{E:Value→Shared→Prop}{i:Nat}{x:Str}{v:V}{u:Value}{Q:Unit→Shared→Prop}(I:Inv X pins σ H s)(hN:X.N.Nodup)(hi:X.N[i]?=some x)(hx:Loc X.env.scope x)(r:RelV v u)
  (h:∀ s',Inv X pins (σ.set i (some v)) H s'→(∃ a,Heap.SameBut a s.heap s'.heap∧(a=X.env.locals∨X.env.cells.lookup x=some a))→Q () s') (hf:X.fn x=true∨X.env.scope.names.lookup x=some .local:=by first|exact .inl rfl|exact .inr rfl|assumption):wpAny M A (storeName X.env x u) Q E s:=by
 obtain⟨m,hn,hl⟩:=id I.loc
 have hcls:(X.env.scope.kind == .class || (X.env.scope.kind == .module&&X.env.locals != X.env.globals))=false:=by rw[I.ok.kind];rfl
 have hiσ:i<σ.length:=by rw[I.len];exact (List.getElem?_eq_some_iff.mp hi).1
 have P1:=I.P1
 have tracked:∀ {a:Addr} {h':Heap},(∃ o,s.heap.get? a=some o∧H a=none)→Heap.SameBut a s.heap h'→tw X.prog X.w H h':=fun {a h'} ha hs b ob e=>by
  obtain⟨_,_,hfree⟩:=ha
  refine (I.hok b ob e).stay (fun c w' hc q=>(hs.2 c ?_).trans q) (fun _ q=>q) fun _ _ q=>q
  rintro rfl
  rcases hc with rfl|hc
  ·rw[hfree]at e;cases e
  ·rw[hfree]at hc;cases hc
 rcases hx with hk|hk
 ·refine wpAny_storeName_local hk hn (fun h' hn' hs=>?_) hcls
  obtain⟨oL,_,_,hoL,_⟩:=id hn
  refine h _ ⟨I.ok,I.os,I.bare,⟨fun b o e n hb hx=>?_,fun b o e n hb hx=>?_,I.base.free,fun b o e hx=>?_,I.base.tups,I.base.AZ,I.base.CC⟩,⟨_,hn',fun j y v' e1 e2 e3=>?_⟩,fun y c e=>?_,I.free,I.uf,fun p hp=>?_,tracked ⟨oL,hoL,I.free⟩ hs,by simpa using I.len⟩ ⟨_,hs,.inl rfl⟩
  ·exact (hs.2 b (kQ (qN (Heap.lt_size e) I.ok.above))).trans (I.base.keep b o e n hb hx)
  ·obtain⟨sl,e1⟩:=I.base.slot b o e n hb hx
   exact⟨sl,(hs.2 b (kQ (qN (Heap.lt_size e) I.ok.above))).trans e1⟩
  ·obtain⟨o',e1⟩:=I.base.there b o e hx
   exact⟨o',(hs.2 b (kQ (qN (Heap.lt_size e) I.ok.above))).trans e1⟩
  ·by_cases hj:j=i
   ·subst hj
    rw[hi]at e1;cases e1
    rw[List.getElem?_set_self hiσ]at e2
    cases e2
    exact⟨u,r,.inl ⟨hk,by simp⟩⟩
   ·rw[List.getElem?_set_ne (Ne.symm hj)]at e2
    obtain⟨u',r',q⟩:=hl j y v' e1 e2 e3
    refine⟨u',r',?_⟩
    rcases q with ⟨k,e⟩|⟨k,c,e,z⟩
    ·refine .inl ⟨k,?_⟩
     have:y≠x:=fun e=>hj (Em hN e1 (e ▸ hi))
     simp[this,e]
    ·exact .inr ⟨k,c,e,z.sameBut hs (P1 y c e)⟩
  ·obtain⟨w',z⟩:=I.cell y c e
   exact⟨w',z.sameBut hs (P1 y c e)⟩
  ·obtain⟨e,n,ne,nf,d⟩:=I.pin p hp
   exact⟨(hs.2 p.1 ne).trans e,n,ne,nf,d⟩
 ·have hfn:X.fn x=true:=by
   rcases hf with z|z
   ·exact z
   ·rw[z]at hk;cases hk
  obtain⟨c,hc⟩:=I.ok.has x (.inl hk)
  obtain⟨w',z⟩:=I.cell x c hc
  refine wpAny_storeName_cell I.ok.kind hk hc z (fun h' hc' hs=>?_)
  obtain⟨oc,hoc,Wv⟩:=id z
  refine h { s with heap:=h' } ⟨I.ok,I.os,I.bare,⟨fun b o e n hb hx=>?_,fun b o e n hb hx=>?_,I.base.free,fun b o e hx=>?_,I.base.tups,I.base.AZ,I.base.CC⟩,⟨m,hn.sameBut hs (Ne.symm (P1 x c hc)),fun j y v' e1 e2 e3=>?_⟩,fun y c' e=>?_,I.free,I.uf,fun p hp=>?_,tracked ⟨oc,hoc,I.uf x c hc⟩ hs,by simpa using I.len⟩ ⟨c,hs,.inr hc⟩
  ·exact (hs.2 b (kQ (qN (Heap.lt_size e) (I.ok.So x c hfn hc)))).trans (I.base.keep b o e n hb hx)
  ·obtain⟨sl,e1⟩:=I.base.slot b o e n hb hx
   exact⟨sl,(hs.2 b (kQ (qN (Heap.lt_size e) (I.ok.So x c hfn hc)))).trans e1⟩
  ·obtain⟨o',e1⟩:=I.base.there b o e hx
   exact⟨o',(hs.2 b (kQ (qN (Heap.lt_size e) (I.ok.So x c hfn hc)))).trans e1⟩
  ·by_cases hj:j=i
   ·subst hj
    rw[hi]at e1;cases e1
    rw[List.getElem?_set_self hiσ]at e2
    cases e2
    exact⟨u,r,.inr ⟨.inl hk,c,hc,hc'⟩⟩
   ·rw[List.getElem?_set_ne (Ne.symm hj)]at e2
    obtain⟨u',r',q⟩:=hl j y v' e1 e2 e3
    refine⟨u',r',?_⟩
    rcases q with q|⟨k,c',e,z'⟩
    ·exact .inl q
    ·refine .inr ⟨k,c',e,z'.sameBut hs ?_⟩
     rintro rfl
     exact hj (Em hN e1 (I.ok.inj _ _ _ e hc ▸ hi))
  ·by_cases hcc:c'=c
   ·subst hcc;exact⟨_,hc'⟩
   ·obtain⟨w2,z2⟩:=I.cell y c' e
    exact⟨w2,z2.sameBut hs hcc⟩
  ·obtain⟨e,n,ne,nf,d⟩:=I.pin p hp
   refine⟨(hs.2 p.1 ?_).trans e,n,ne,nf,d⟩
   intro q
   rw[q,hoc]at e
   have q':oc=p.2:=sr e
   exact d w' (by rw[← q'];exact Wv)
theorem zf{M:Model}{A:Around}{E:Value→Shared→Prop}{i:Nat}{x:Str}{v:V}{u:Value}{Q:Unit→Shared→Prop}(I:Inv X pins σ H s)(hN:X.N.Nodup)(hi:X.N[i]?=some x)(hx:Loc X.env.scope x)(r:RelV v u)
  (h:∀ s',Inv X pins (σ.set i (some v)) H s'→Q () s') (hf:X.fn x=true∨X.env.scope.names.lookup x=some .local:=by first|exact .inl rfl|exact .inr rfl|assumption):wpAny M A (storeName X.env x u) Q E s :=
 Bs I hN hi hx r (fun s' I' _=>h s' I') hf
theorem Inv.Ky{s':Shared}{ch:List Addr}(I:Inv X pins σ H s)(ho:s'.os=s.os)(u:Un (frs X.stack) ch H H' s.heap s'.heap)(hok:tw X.prog X.w H' s'.heap)(hg:AllBare s'.gens)
  (hch:∀ b∈ch,(b∈X.ex∨X.s₀.heap.objs.size≤b)∧b≠X.env.locals∧(∀ x c,X.env.cells.lookup x=some c→c≠b)∧∀ p∈X.pn++pins,p.1≠b):Inv X pins σ H' s':=by
 obtain⟨h',g',d',t',o'⟩:=s'
 have e:o'=s.os:=ho
 subst e
 exact I.call (g':=g') (t':=t') (d':=d') u hok hg hch
end
abbrev XK:=Value→Option Addr→Hp→Prop
abbrev St:=List (Option V)
abbrev VK:=V→Hp→Prop
abbrev TE:=St→Hp→VK→Prop
abbrev TT:=St→Hp→(Bool→Hp→Prop)→Prop
abbrev TA:=St→Hp→(List V→Hp→Prop)→Prop
structure Ends where
 nx:St→Hp→Prop
 rt:VK
 bk:St→Hp→Prop:=fun _ _=>False
 ct:St→Hp→Prop:=fun _ _=>False
abbrev TS:=Ends→St→Hp→Prop
inductive EP(X:Cx)(pins:List (Addr × Obj))(σ:St)(Q:VK)(u:Value)(s':Shared):Prop
 | mk (v:V) (H':Hp) (_:Inv X pins σ H' s') (_:RelV v u) (_:Q v H'):EP X pins σ Q u s'
def TP(X:Cx)(pins:List (Addr × Obj))(σ:St)(Q:Bool→Hp→Prop)(b:Bool)(s':Shared):Prop:=∃ H',Inv X pins σ H' s'∧Q b H'
inductive AP(X:Cx)(pins:List (Addr × Obj))(σ:St)(Q:List V→Hp→Prop)(us:List Value)(s':Shared):Prop
 | mk (vs:List V) (H':Hp) (_:Inv X pins σ H' s') (_:Vals vs us) (_:Q vs H'):AP X pins σ Q us s'
def SP(X:Cx)(pins:List (Addr × Obj))(D:Ends)(f:Flow)(s':Shared):Prop :=
 match f with
 | .next=>∃ σ' H',Inv X pins σ' H' s'∧D.nx σ' H'
 | .brk=>∃ σ' H',Inv X pins σ' H' s'∧D.bk σ' H'
 | .cont=>∃ σ' H',Inv X pins σ' H' s'∧D.ct σ' H'
 | .ret u=>∃ v σ' H',Inv X pins σ' H' s'∧RelV v u∧D.rt v H'
def PE(X:Cx)(e:Expr)(t:TE):Prop :=
 ∀ (pins:List (Addr × Obj)) (s:Shared) (σ:St) (H:Hp) (Q:VK),Inv X pins σ H s→t σ H Q→wpAny (model X.prog X.w) X.A (eval e X.env) (EP X pins σ Q) X.xe s
def PT(X:Cx)(e:Expr)(t:TT):Prop :=
 ∀ (pins:List (Addr × Obj)) (s:Shared) (σ:St) (H:Hp) (Q:Bool→Hp→Prop),Inv X pins σ H s→t σ H Q→wpAny (model X.prog X.w) X.A (isTrue e X.env (eval e X.env)) (TP X pins σ Q) X.xe s
def PW(X:Cx)(e:Expr)(t:TT):Prop :=
 ∀ (whole:Sem Value) (pins:List (Addr × Obj)) (s:Shared) (σ:St) (H:Hp) (Q:Bool→Hp→Prop),Inv X pins σ H s→t σ H Q→wpAny (model X.prog X.w) X.A (isTrue e X.env whole) (TP X pins σ Q) X.xe s
theorem PW.pt{X:Cx}{e:Expr}{t:TT}(h:PW X e t):PT X e t:=h _
def PA(X:Cx)(es:List Expr)(t:TA):Prop :=
 ∀ (pos:Pos) (pins:List (Addr × Obj)) (s:Shared) (σ:St) (H:Hp) (Q:List V→Hp→Prop),Inv X pins σ H s→t σ H Q→wpAny (model X.prog X.w) X.A (spliced (backTo pos (starEach es X.env))) (AP X pins σ Q) X.xe s
def PS(X:Cx)(st:Stmt)(t:TS):Prop :=
 ∀ (pins:List (Addr × Obj)) (s:Shared) (σ:St) (H:Hp) (D:Ends),Inv X pins σ H s→t D σ H→wpAny (model X.prog X.w) X.A (exec st X.env) (SP X pins D) X.xe s
def HH(X:Cx)(st:List Stmt)(t:TS):Prop :=
 ∀ (pins:List (Addr × Obj)) (s:Shared) (σ:St) (H:Hp) (D:Ends),Inv X pins σ H s→t D σ H→wpAny (model X.prog X.w) X.A (execs st X.env) (SP X pins D) X.xe s
theorem cz{α:Type}{t:Sem α}{Q Q':α→Shared→Prop}{M:Model}{A:Around}{E:Value→Shared→Prop}{s:Shared}(h:wpAny M A t Q E s)(hQ:∀ a s,Q a s→Q' a s):wpAny M A t Q' E s:=wpAny_mono h hQ fun _ _ x=>x
end L2
namespace L2
open PySem PySem.Spec PyProof.Rows
section
variable {X:Cx}
inductive Nh(i:Nat)(σ:St)(H:Hp)(Q:VK):Prop
 | mk (v:V) (_:σ[i]?=some (some v)) (_:Q v H):Nh i σ H Q
inductive Ss(x:V)(H:Hp)(Q:Bool→Hp→Prop):Prop
 | mk (c:Bool) (_:x=.bl c) (_:Q c H):Ss x H Q
inductive isI(x:V)(H:Hp)(Q:Option Int→Hp→Prop):Prop
 | mk (i:Int) (_:x=.int i) (_:Q (some i) H):isI x H Q
def tC(v:V):TE:=fun _ H Q=>Q v H
theorem P4{i:Nat}{x:Str}{pos:Pos}(hN:X.N[i]?=some x)(hv:Vo X.env.scope x)(hd:(x == ("__debug__":Str))=false:=by decide)(hcd:(x == ("__classdict__":Str))=false:=by decide):PE X (.Name x pos) (Nh i):=by
 intro pins s σ H Q I h
 obtain⟨v,e,h⟩:=h
 obtain⟨m,hn,hl⟩:=I.loc
 obtain⟨u,r,l⟩:=hl i x v hN e hv
 have fin:EP X pins σ Q u s:=⟨v,H,I,r,h⟩
 rcases l with ⟨hk,hm⟩|⟨hk,c,hc,hcell⟩
 ·exact wpAny_Name (wpAny_loadName_local I.ok.kind hk hn hm fin) hd
 ·rcases hk with hk|hk
  ·exact wpAny_Name (wpAny_loadName_cell I.ok.kind hk hc hcell fin) hd
  ·exact wpAny_Name (wpAny_loadName_free I.ok.kind hk hc hcell fin hcd) hd
theorem aA{i j pos}:PE X (.Constant (.int i) j pos) (tC (.int i)):=fun _ _ _ H _ I h=>wpAny_Constant_int ⟨.int i,H,I.tok _,⟨_,rfl⟩,h⟩
theorem pH{b j pos}:PE X (.Constant (.bool b) j pos) (tC (.bl b)):=fun _ _ _ H _ I h=>Constant_bool ⟨.bl b,H,I,rfl,h⟩
theorem P5{j pos}:PE X (.Constant .none j pos) (tC .jJ):=fun _ _ _ H _ I h=>Constant_none ⟨.jJ,H,I,rfl,h⟩
theorem bO{x j pos}:PE X (.Constant (.str x) j pos) (tC (.str x)):=fun _ _ _ H _ I h=>Calls.Constant_str ⟨.str x,H,I.tok _,⟨_,rfl⟩,h⟩
def Gl(X:Cx)(x:Str):Prop:=X.env.kindOf x=some .globalImplicit
theorem vH{E:Value→Shared→Prop}{pins:List (Addr × Obj)}{s:Shared}{σ:St}{H:Hp}{x:Str}{u:Value}{pos:Pos}{Q:Value→Shared→Prop}(I:Inv X pins σ H s)(hg:Gl X x)(hm:X.mg x=some u)(h:Q u s)
  (hd:(x == ("__debug__":Str))=false:=by decide):wpAny (model X.prog X.w) X.A (eval (.Name x pos) X.env) Q E s :=
 Calls.Name_function_global I.ok.kind hg (Calls.loadGlobal_global (by rw[I.ok.glob];exact I.mod.glob.keeps I.bk) hm h) hd
theorem zg{E:Value→Shared→Prop}{pins:List (Addr × Obj)}{s:Shared}{σ:St}{H:Hp}{x:Str}{u:Value}{pos:Pos}{Q:Value→Shared→Prop}(I:Inv X pins σ H s)(hg:Gl X x)(hm:X.mg x=none)(hv:bootBuiltins x=some u)(h:Q u s)
  (hn:x≠"__name__":=by decide) (hd:(x == ("__debug__":Str))=false:=by decide):wpAny (model X.prog X.w) X.A (eval (.Name x pos) X.env) Q E s:=by
 obtain⟨mb,h1,h2⟩:=I.mod.blt
 exact Calls.Name_function_global I.ok.kind hg (Calls.loadGlobal_builtin (by rw[I.ok.glob];exact I.mod.glob.keeps I.bk) hm (by rw[I.ok.blt];exact h1.keeps I.bk) ((h2 x hn).trans hv) h) hd
theorem HJ{x:Str}{v:V}{u:Value}{pos:Pos}(hg:Gl X x)(hm:X.mg x=some u)(r:RelV v u)(hd:(x == ("__debug__":Str))=false:=by decide):PE X (.Name x pos) (tC v) :=
 fun _ _ _ H _ I h=>vH I hg hm ⟨v,H,I,r,h⟩ hd
theorem Ni{x:Str}{v:V}{u:Value}{pos:Pos}(hg:Gl X x)(hm:X.mg x=none)(hv:bootBuiltins x=some u)(r:RelV v u)(hn:x≠"__name__":=by decide)(hd:(x == ("__debug__":Str))=false:=by decide):PE X (.Name x pos) (tC v) :=
 fun _ _ _ H _ I h=>zg I hg hm hv ⟨v,H,I,r,h⟩ hn hd
variable {a b:Expr} {ta tb:TE} {pos:Pos}
def PC(X:Cx)(op:CmpOp)(a b:Expr)(t:TE):Prop :=
 ∀ (pins:List (Addr × Obj)) (s:Shared) (σ:St) (H:Hp) (Q:VK),Inv X pins σ H s→t σ H Q →
  wpAny (model X.prog X.w) X.A (eval a X.env) (fun v s₁=>wpAny (model X.prog X.w) X.A (eval b X.env) (fun u s₂=>wpAny (model X.prog X.w) X.A (compareOp op v u) (EP X pins σ Q) X.xe s₂) X.xe s₁) X.xe s
theorem En(b:Expr){op:CmpOp}(h:op≠.In)(h2:op≠.NotIn):behindInMarks op b=false:=by
 have e1:(op == CmpOp.In)=false:=by cases op <;> first|rfl|exact absurd rfl h
 have e2:(op == CmpOp.NotIn)=false:=by cases op <;> first|rfl|exact absurd rfl h2
 cases b <;> simp[behindInMarks,e1,e2]
def Ww(ta:TE):TE:=fun σ H Q=>ta σ H fun x H1=>Q (.bl (decide (x=.jJ))) H1
def Su(ta:TE):TE:=fun σ H Q=>ta σ H fun x H1=>Q (.bl (!decide (x=.jJ))) H1
theorem RelV.Eo{x:V}{v:Value}(r:RelV x v):(v == Value.none)=decide (x=.jJ):=by
 cases x with
 | jJ=>cases r;rfl
 | bl _=>cases r;rfl
 | int _=>obtain⟨t,rfl⟩:=r;rfl
 | str _=>obtain⟨t,rfl⟩:=r;rfl
 | Gg _=>obtain⟨t,rfl⟩:=r;rfl
 | OJ _=>obtain⟨t,rfl⟩:=r;rfl
 | ref _=>cases r;rfl
 | ty _=>cases r;rfl
theorem Gi{j pos'}(ha:PE X a ta):PC X .Is a (.Constant .none j pos') (Ww ta):=by
 intro pins s σ H Q I h
 refine cz (ha pins s σ H _ I h) fun v s1 ⟨x,H1,I1,r1,q1⟩=>?_
 exact Constant_none (is_none_gen ⟨.bl _,H1,I1,by rw[r1.Eo];rfl,q1⟩)
theorem Nj{j pos'}(ha:PE X a ta):PC X .IsNot a (.Constant .none j pos') (Su ta):=by
 intro pins s σ H Q I h
 refine cz (ha pins s σ H _ I h) fun v s1 ⟨x,H1,I1,r1,q1⟩=>?_
 exact Constant_none (isnot_none_gen ⟨.bl _,H1,I1,by rw[r1.Eo];rfl,q1⟩)
def tB(t:TE):TT:=fun σ H Q=>t σ H fun x H1=>Ss x H1 Q
theorem Kz{op:CmpOp}{t:TE}(h:PC X op a b t)(h1:behindInMarks op b=false:=by first|exact En _ (by decide) (by decide)|rfl):PE X (.Compare a [op] [b] pos) t:=fun pins s σ H Q I hw=>wpAny_Compare1 (h pins s σ H Q I hw) h1
theorem CG{op:CmpOp}{t:TE}(h:PC X op a b t)(h1:behindInMarks op b=false:=by first|exact En _ (by decide) (by decide)|rfl):PT X (.Compare a [op] [b] pos) (tB t):=by
 intro pins s σ H Q I hw
 refine wpAny_isTrue_Compare1 (cz (h pins s σ H _ I hw) fun v s1 h1=>cz h1 fun u s2 h2=>cz h2 fun c s3 ⟨x,H1,I1,r1,q1⟩=>?_) h1
 obtain⟨d,rfl,q⟩:=q1
 cases r1
 exact wpAny_truthy_bool ⟨H1,I1,q⟩
theorem nB{e:Expr}{t:TE}(h:PE X e t)(he:∀ whole,isTrue e X.env whole=(do let v ← whole;standAt e.pos;holding [v] (truthy v)):=by intro _;rfl):PT X e (tB t):=by
 intro pins s σ H Q I hw
 refine isTrue_plain (cz (h pins s σ H _ I hw) fun v s1 ⟨x,H1,I1,r1,q1⟩=>?_) (he _)
 obtain⟨d,rfl,q⟩:=q1
 cases r1
 exact wpAny_truthy_bool ⟨H1,I1,q⟩
variable {tA Vr:TT} {rest:List Expr}
def Wx(t u:TT):TT:=fun σ H Q=>t σ H fun c H1=>if c=true then u σ H1 Q else Q false H1
def tOr(t u:TT):TT:=fun σ H Q=>t σ H fun c H1=>if c=true then Q true H1 else u σ H1 Q
def Wy(t:TT):TT:=fun σ H Q=>t σ H fun c H1=>Q (!c) H1
theorem vI(ha:PT X a tA):PW X (.BoolOp .And [a] pos) tA:=by
 intro wh pins s σ H Q I h
 refine isTrue_and (cz (ha pins s σ H Q I h) fun c s1 e=>?_)
 cases c with
 | true=>exact isTrue_and_nil e
 | false=>exact e
theorem Gj(ha:PT X a tA):PW X (.BoolOp .Or [a] pos) tA:=by
 intro wh pins s σ H Q I h
 refine isTrue_or (cz (ha pins s σ H Q I h) fun c s1 e=>?_)
 cases c with
 | false=>exact isTrue_or_nil e
 | true=>exact e
theorem wQ(ha:PT X a tA)(hb:PW X (.BoolOp .And (b::rest) pos) Vr):PW X (.BoolOp .And (a::b::rest) pos) (Wx tA Vr):=by
 intro wh pins s σ H Q I h
 refine isTrue_and (cz (ha pins s σ H _ I h) fun c s1 ⟨H1,I1,q1⟩=>?_)
 cases c with
 | true=>exact hb wh pins s1 σ H1 Q I1 q1
 | false=>exact⟨H1,I1,q1⟩
theorem KA(ha:PT X a tA)(hb:PW X (.BoolOp .Or (b::rest) pos) Vr):PW X (.BoolOp .Or (a::b::rest) pos) (tOr tA Vr):=by
 intro wh pins s σ H Q I h
 refine isTrue_or (cz (ha pins s σ H _ I h) fun c s1 ⟨H1,I1,q1⟩=>?_)
 cases c with
 | true=>exact⟨H1,I1,q1⟩
 | false=>exact hb wh pins s1 σ H1 Q I1 q1
theorem mh(ha:PT X a tA):PT X (.UnaryOp .Not a pos) (Wy tA):=by
 intro pins s σ H Q I h
 exact isTrue_not (ha pins s σ H (fun c H1=>Q (!c) H1) I h)
def Sv(ta tb:TE):TE:=fun σ H Q=>ta σ H fun x H1=>Ss x H1 fun c H1=>if c=true then tb σ H1 Q else Q (.bl false) H1
def Sw(ta:TE):TE:=fun σ H Q=>ta σ H fun x H1=>Ss x H1 fun c H1=>Q (.bl (!c)) H1
theorem uM{op}{t:TE}(h:PE X a t):PE X (.BoolOp op [a] pos) t:=fun pins s σ H Q I hw=>BoolOp_one (h pins s σ H Q I hw)
theorem su(ha:PE X a ta)(hb:PE X (.BoolOp .And (b::rest) pos) tb):PE X (.BoolOp .And (a::b::rest) pos) (Sv ta tb):=by
 intro pins s σ H Q I h
 refine BoolOp_and (cz (ha pins s σ H _ I h) fun v s1 ⟨x,H1,I1,r1,q1⟩=>?_)
 obtain⟨c,rfl,q1⟩:=q1
 cases r1
 refine wpAny_truthy_bool ?_
 cases c with
 | true=>exact hb pins s1 σ H1 Q I1 q1
 | false=>exact⟨.bl false,H1,I1,rfl,q1⟩
theorem P6(ha:PE X a ta):PE X (.UnaryOp .Not a pos) (Sw ta):=by
 intro pins s σ H Q I h
 refine UnaryOp_ (cz (ha pins s σ H _ I h) fun v s1 ⟨x,H1,I1,r1,q1⟩=>?_)
 obtain⟨c,rfl,q1⟩:=q1
 cases r1
 exact not_of (wpAny_truthy_bool ⟨.bl (!c),H1,I1,rfl,q1⟩)
def tIf(t:TT)(ta tb:TE):TE:=fun σ H Q=>t σ H fun c H1=>if c=true then ta σ H1 Q else tb σ H1 Q
theorem KC{c:Expr}(hc:PT X c tA)(ha:PE X a ta)(hb:PE X b tb):PE X (.IfExp c a b pos) (tIf tA ta tb):=by
 intro pins s σ H Q I h
 refine wpAny_IfExp (cz (hc pins s σ H _ I h) fun d s1 ⟨H1,I1,q1⟩=>?_)
 cases d with
 | true=>exact ha pins s1 σ H1 Q I1 q1
 | false=>exact hb pins s1 σ H1 Q I1 q1
end
end L2
namespace L2
open PySem PySem.Spec PyProof.Rows
def bF(K:PySem.W.Frag)(H:Hp)(a:Addr)(xs:List V):Prop :=
 Rd H a (.lst xs) ∨
  ∃ (o:Obj) (its:Array Value) (n:Nat),K.lookup a=some o∧o.cls=.type "list"∧o.dict=none∧o.data=.seq its n∧its.size≤sizeLine∧Vals xs its.toList
def jc(K:PySem.W.Frag)(H:Hp)(a:Addr)(xs:List V):Prop :=
 Rd H a (.tup xs) ∨
  ∃ (o:Obj) (its:Array Value) (n:Nat),K.lookup a=some o∧o.cls=.type "tuple"∧o.data=.seq its n∧its.size≤sizeLine∧Vals xs its.toList
def Wz:Value→Option V
 | .none=>some .jJ
 | .bool b=>some (.bl b)
 | .int i _=>some (.int i)
 | .str x _=>some (.str x)
 | .bytes b _=>some (.Gg b)
 | .float b _=>some (.OJ b)
 | .ref a=>some (.ref a)
 | .type n=>some (.ty n)
 | _=>none
theorem RelV.abs{x:V}{u:Value}(r:RelV x u):Wz u=some x:=by
 cases x with
 | jJ=>cases r;rfl
 | bl _=>cases r;rfl
 | int _=>obtain⟨t,rfl⟩:=r;rfl
 | str _=>obtain⟨t,rfl⟩:=r;rfl
 | Gg _=>obtain⟨t,rfl⟩:=r;rfl
 | OJ _=>obtain⟨t,rfl⟩:=r;rfl
 | ref _=>cases r;rfl
 | ty _=>cases r;rfl
theorem RelV.inj{x y:V}{u:Value}(r:RelV x u)(q:RelV y u):x=y:=sr (r.abs.symm.trans q.abs)
theorem Vals.inj:∀ {xs ys:List V} {us:List Value},Vals xs us→Vals ys us→xs=ys
 | _,_,_,.nil,.nil=>rfl
 | _,_,_,.cons r t,.cons r' t'=>by rw[r.inj r',Vals.inj t t']
section
variable {X:Cx} {pins:List (Addr × Obj)} {σ:St} {H:Hp} {s:Shared} {a:Addr} {xs ys:List V}
theorem bF.of{K:PySem.W.Frag}(h:H a=some (.lst xs)):bF K H a xs:=.inl (.inl h)
theorem jc.of{K:PySem.W.Frag}(h:H a=some (.tup xs)):jc K H a xs:=.inl (.inl h)
theorem Inv.list(I:Inv X pins σ H s)(h:bF X.K H a xs):∃ its:List Value,Vals xs its∧PlainL s.heap a its.toArray∧xs.length≤sizeLine:=by
 rcases h with h|⟨o,its,n,hk,hc,hd,hs,hz,r⟩
 ·obtain⟨z,its,n,r,e⟩:=h.ok I.hok
  exact⟨its,r,⟨_,n,e,rfl,rfl,rfl⟩,z⟩
 ·refine⟨its.toList,r,⟨o,n,I.xW a o hk,hc,hd,by simpa using hs⟩,?_⟩
  have e:=r.length
  simp only[Array.length_toList]at e
  omega
theorem Inv.tuple(I:Inv X pins σ H s)(h:jc X.K H a xs):∃ its:List Value,Vals xs its∧IsTup s.heap a its.toArray∧xs.length≤sizeLine:=by
 rcases h with h|⟨o,its,n,hk,hc,hs,hz,r⟩
 ·obtain⟨z,its,r,p⟩:=h.ok I.hok
  exact⟨its,r,p,z⟩
 ·refine⟨its.toList,r,⟨o,I.xW a o hk,hc,n,by simpa using hs⟩,?_⟩
  have e:=r.length
  simp only[Array.length_toList]at e
  omega
theorem Inv.Ep(I:Inv X pins σ H s)(h:bF X.K H a xs)(h':bF X.K H a ys):xs=ys:=by
 obtain⟨its,r,⟨o,n,e,_,_,d⟩,_⟩:=I.list h
 obtain⟨its',r',⟨o',n',e',_,_,d'⟩,_⟩:=I.list h'
 rw[e]at e';cases e'
 rw[d]at d'
 injection d' with d1 _
 have:its=its':=by simpa using congrArg Array.toList d1
 subst this
 exact r.inj r'
theorem Inv.Bt(I:Inv X pins σ H s)(h:jc X.K H a xs)(h':jc X.K H a ys):xs=ys:=by
 obtain⟨its,r,⟨o,e,_,n,d⟩,_⟩:=I.tuple h
 obtain⟨its',r',⟨o',e',_,n',d'⟩,_⟩:=I.tuple h'
 rw[e]at e';cases e'
 rw[d]at d'
 injection d' with d1 _
 have:its=its':=by simpa using congrArg Array.toList d1
 subst this
 exact r.inj r'
end
abbrev Cx.A0(X:Cx)(E:Value→Shared→Prop):Cx:={ X with xe:=E }
abbrev Cx.Kf(X:Cx):Cx:=X.A0 fun _ _=>False
theorem Cx.Ok.A0{X:Cx}(ok:X.Ok)(E:Value→Shared→Prop):(X.A0 E).Ok :=
 ⟨ok.mod,ok.kind,ok.glob,ok.blt,ok.above,ok.inj,ok.has,ok.So,ok.hd,ok.frames,ok.stk,ok.exf,ok.bs,ok.Nf,ok.Jg,ok.Ng,ok.vF,ok.P0⟩
theorem Cx.Ok.sC{X:Cx}{E:Value→Shared→Prop}(ok:(X.A0 E).Ok):X.Ok :=
 ⟨ok.mod,ok.kind,ok.glob,ok.blt,ok.above,ok.inj,ok.has,ok.So,ok.hd,ok.frames,ok.stk,ok.exf,ok.bs,ok.Nf,ok.Jg,ok.Ng,ok.vF,ok.P0⟩
section
variable {X:Cx} {pins:List (Addr × Obj)} {σ:St} {H:Hp} {s:Shared} {E:Value→Shared→Prop}
theorem Inv.A0(I:Inv X pins σ H s)(E:Value→Shared→Prop):Inv (X.A0 E) pins σ H s:=⟨I.ok.A0 E,I.os,I.bare,I.base,I.loc,I.cell,I.free,I.uf,I.pin,I.hok,I.len⟩
theorem Inv.sC(I:Inv (X.A0 E) pins σ H s):Inv X pins σ H s:=⟨I.ok.sC,I.os,I.bare,I.base,I.loc,I.cell,I.free,I.uf,I.pin,I.hok,I.len⟩
theorem SP.sC{D:Ends}{f:Flow}{s':Shared}(h:SP (X.A0 E) pins D f s'):SP X pins D f s':=by
 cases f with
 | next=>obtain⟨σ',H',I,q⟩:=h;exact⟨σ',H',I.sC,q⟩
 | brk=>obtain⟨σ',H',I,q⟩:=h;exact⟨σ',H',I.sC,q⟩
 | cont=>obtain⟨σ',H',I,q⟩:=h;exact⟨σ',H',I.sC,q⟩
 | ret u=>obtain⟨v,σ',H',I,r,q⟩:=h;exact⟨v,σ',H',I.sC,r,q⟩
theorem HH.Kf{st:List Stmt}{t:TS}(h:HH X.Kf st t):HH X st t:=fun pins s σ H D I hw =>
 wpAny_mono (h pins s σ H D (I.A0 _) hw) (fun _ _ q=>q.sC) fun _ _ z=>False.elim z
end
section
variable {X:Cx} {st:Stmt} {rest:List Stmt} {t u:TS} {e:Expr} {te:TE} {pos:Pos}
def Sx:TS:=fun D σ H=>D.nx σ H
def Sy(t u:TS):TS:=fun D σ H=>t { D with nx:=u D } σ H
theorem bL:HH X [] Sx:=fun _ _ σ H _ I h=>wpAny_execs_nil ⟨σ,H,I,h⟩
theorem ak(h1:PS X st t)(h2:HH X rest u):HH X (st::rest) (Sy t u):=by
 intro pins s σ H D I h
 refine wpAny_execs_cons (cz (h1 pins s σ H { D with nx:=u D } I h) fun f s1 q=>?_)
 cases f with
 | next =>
  obtain⟨σ',H',I',q⟩:=q
  exact h2 pins s1 σ' H' D I' q
 | ret v=>exact q
 | brk=>exact q
 | cont=>exact q
theorem ao(h1:PS X st t):HH X [st] t:=by
 intro pins s σ H D I h
 refine wpAny_execs_cons (cz (h1 pins s σ H D I h) fun f s1 q=>?_)
 cases f with
 | next=>exact wpAny_execs_nil q
 | ret v=>exact q
 | brk=>exact q
 | cont=>exact q
def Sz:TS:=fun D σ H=>D.ct σ H
theorem Er:PS X (.Continue pos) Sz:=fun _ _ σ H _ I h=>wpAny_Continue ⟨σ,H,I,h⟩
theorem Inv.quiet{pins:List (Addr × Obj)}{σ:St}{H:Hp}{s:Shared}(I:Inv X pins σ H s):interactive X.env=false:=by simp[interactive,I.ok.kind]
def SA(te:TE):TS:=fun D σ H=>te σ H fun _ H1=>D.nx σ H1
theorem bw(he:PE X e te)(hs:swapsWith e none pos.line X.env=pure false:=by rfl):PS X (.Expr e pos) (SA te):=by
 intro pins s σ H D I h
 exact wpAny_Expr_any (cz (he pins s σ H _ I h) fun v s1 ⟨x,H1,I1,r1,q1⟩=>⟨σ,H1,I1,q1⟩) I.quiet hs
def WA(te:TE):TS:=fun D σ H=>te σ H D.rt
theorem aR(he:PE X e te):PS X (.Return (some e) pos) (WA te):=by
 intro pins s σ H D I h
 exact wpAny_Return_some (cz (he pins s σ H _ I h) fun v s1 ⟨x,H1,I1,r1,q1⟩=>⟨x,σ,H1,I1,r1,q1⟩)
def WB(c:TT)(t u:TS):TS:=fun D σ H=>c σ H fun b H1=>if b=true then t D σ H1 else u D σ H1
theorem cC{c:Expr}{a b:List Stmt}{tc:TT}(hc:PT X c tc)(ha:HH X a t)(hb:HH X b u):PS X (.If c a b pos) (WB tc t u):=by
 intro pins s σ H D I h
 refine wpAny_If (cz (hc pins s σ H _ I h) fun d s1 ⟨H1,I1,q1⟩=>?_)
 cases d with
 | true=>exact ha pins s1 σ H1 D I1 q1
 | false=>exact hb pins s1 σ H1 D I1 q1
def P7:TS:=fun _ _ _=>False
theorem zh:PS X st P7:=fun _ _ _ _ _ _ h=>h.elim
end
abbrev TG:=V→St→Hp→(St→Hp→Prop)→Prop
abbrev ON:=List V→St→Hp→(St→Hp→Prop)→Prop
def PG(X:Cx)(target:Expr)(t:TG):Prop :=
 ∀ (pins:List (Addr × Obj)) (s:Shared) (σ:St) (H:Hp) (v:V) (u:Value) (Q:St→Hp→Prop),Inv X pins σ H s→RelV v u→t v σ H Q →
  wpAny (model X.prog X.w) X.A (assign target X.env u) (fun _ s'=>∃ σ' H',Inv X pins σ' H' s'∧Q σ' H') X.xe s
def RK(X:Cx)(ts:List Expr)(t:ON):Prop :=
 ∀ (pins:List (Addr × Obj)) (s:Shared) (σ:St) (H:Hp) (vs:List V) (us:List Value) (Q:St→Hp→Prop),Inv X pins σ H s→Vals vs us→t vs σ H Q →
  wpAny (model X.prog X.w) X.A (assignInOrder ((assignEach ts X.env).map (·.2)) us) (fun _ s'=>∃ σ' H',Inv X pins σ' H' s'∧Q σ' H') X.xe s
abbrev P8:=V→V→V→Hp→(Hp→Prop)→Prop
def SD(X:Cx)(t:P8):Prop :=
 ∀ (pins:List (Addr × Obj)) (s:Shared) (σ:St) (H:Hp) (o i v:V) (ov iv u:Value) (Q:Hp→Prop),Inv X pins σ H s→RelV o ov→RelV i iv→RelV v u→t o i v H Q →
  wpAny (model X.prog X.w) X.A (setItem ov iv u) (fun _ s'=>∃ H',Inv X pins σ H' s'∧Q H') X.xe s
abbrev Vs:=V→V→Hp→VK→Prop
def WC(X:Cx)(op:Operator)(t:Vs):Prop :=
 ∀ (pins:List (Addr × Obj)) (s:Shared) (σ:St) (H:Hp) (x y:V) (v u:Value) (Q:VK),Inv X pins σ H s→RelV x v→RelV y u→t x y H Q →
  wpAny (model X.prog X.w) X.A (inplaceOp op v u) (EP X pins σ Q) X.xe s
section
variable {X:Cx} {pos:Pos}
def vJ(i:Nat):TG:=fun v σ H Q=>Q (σ.set i (some v)) H
theorem aY{i:Nat}{x:Str}(hN:X.N.Nodup)(hi:X.N[i]?=some x)(hx:Loc X.env.scope x)(hf:X.fn x=true∨X.env.scope.names.lookup x=some .local:=by first|exact .inl rfl|exact .inr rfl|assumption):PG X (.Name x pos) (vJ i):=by
 intro pins s σ H v u Q I r h
 exact wpAny_assign_Name (zf I hN hi hx r (fun s' I'=>⟨_,H,I',h⟩) hf)
def WD:ON:=fun vs σ H Q=>vs=[]∧Q σ H
inductive OO(t:TG)(u:ON)(vs:List V)(σ:St)(H:Hp)(Q:St→Hp→Prop):Prop
 | mk (v:V) (r:List V) (_:vs=v::r) (_:t v σ H fun σ' H'=>u r σ' H' Q):OO t u vs σ H Q
theorem j3:RK X [] WD:=by
 intro pins s σ H vs us Q I r h
 obtain⟨e,h⟩:=h
 subst e
 cases r
 exact assignInOrder_nil ⟨σ,H,I,h⟩
theorem bQ{e:Expr}{es:List Expr}{t:TG}{u:ON}(h1:PG X e t)(h2:RK X es u)
  (hs:(assignEach (e::es) X.env).map (·.2)=assign e X.env::(assignEach es X.env).map (·.2):=by rfl):RK X (e::es) (OO t u):=by
 intro pins s σ H vs us Q I r h
 obtain⟨v,vr,e1,h⟩:=h
 subst e1
 cases r with
 | cons r rr =>
  rw[hs]
  refine assignInOrder_cons (cz (h1 pins s σ H _ _ _ I r h) fun _ s1 ⟨σ1,H1,I1,q1⟩=>?_)
  exact h2 pins s1 σ1 H1 _ _ Q I1 rr q1
inductive Nk(K:PySem.W.Frag)(n:Nat)(t:ON)(v:V)(σ:St)(H:Hp)(Q:St→Hp→Prop):Prop
 | mk (a:Addr) (xs:List V) (_:v=.ref a) (_:jc K H a xs) (_:xs.length=n) (_:t xs σ H Q):Nk K n t v σ H Q
theorem qf{es:List Expr}{k:Nat}{t:ON}{n:Nat}(hc:X.calm=true)(h:RK X es t)
  (hn:(assignEach es X.env).length=n:=by rfl) (hst:(assignEach es X.env).findIdx? (·.1)=none:=by rfl):PG X (.Tuple es k pos) (Nk X.K n t):=by
 intro pins s σ H v u Q I r hw
 obtain⟨a,xs,e1,hq,hl,hw⟩:=hw
 subst e1
 cases r
 obtain⟨its,rv,ht,hz⟩:=I.tuple hq
 refine assign_Tuple_tuple (I.ok.hd hc) ht (by simp[hn,← hl,rv.length]) hst fun h' hx=>?_
 have I1:Inv X pins σ H { s with heap:=h' }:=I.kept (t':=s.toks) fun b o e=>hx b o (kQ (Heap.lt_size e)) e
 exact h pins _ σ H xs _ Q I1 (by simpa using rv) hw
def WE(to ti:TE)(t:P8):TG:=fun v σ H Q=>to σ H fun o H1=>ti σ H1 fun i H2=>t o i v H2 fun H3=>Q σ H3
theorem qP{o i:Expr}{to ti:TE}{t:P8}(ho:PE X o to)(hi:PE X i ti)(hs:SD X t)
  (ha:∀ v,assign (.Subscript o i pos) X.env v=(do
   let ov ← holding [v] (eval o X.env)
   let iv ← holding [v,ov] (eval i X.env)
   standAt pos
   holding [v,ov,iv] (setItem ov iv v)
   release [v,ov,iv] []):=by intro _;rfl):PG X (.Subscript o i pos) (WE to ti t):=by
 intro pins s σ H v u Q I r h
 rw[ha]
 refine wpAny_bind (wpAny_holding (cz (ho pins s σ H _ I h) fun ov s1 ⟨x,H1,I1,r1,q1⟩=>?_))
 refine wpAny_bind (wpAny_holding (cz (hi pins s1 σ H1 _ I1 q1) fun iv s2 ⟨y,H2,I2,r2,q2⟩=>?_))
 refine wpAny_bind (wpAny_standAt (wpAny_bind (wpAny_holding (cz (hs pins s2 σ H2 x y v ov iv u _ I2 r1 r2 r q2) fun _ s3 ⟨H3,I3,q3⟩=>?_))))
 exact wpAny_release ⟨σ,H3,I3,q3⟩
def Nl(te:TE)(g:TG):TS:=fun D σ H=>te σ H fun x H1=>g x σ H1 D.nx
theorem qg{tg e:Expr}{te:TE}{g:TG}(he:PE X e te)(hg:PG X tg g)(hs:swapsWithSole [tg] e pos.line X.env=pure false:=by rfl)(hw:swappedStores [tg] e X.env=pure none:=by rfl)
  (h1:(assignEach [tg] X.env).map (·.2)=[assign tg X.env]:=by rfl):PS X (.Assign [tg] e pos) (Nl te g):=by
 intro pins s σ H D I h
 refine wpAny_Assign_stores (cz (he pins s σ H _ I h) fun v s1 ⟨x,H1,I1,r1,q1⟩=>?_) hs hw
 rw[h1]
 exact cz (hg pins s1 σ H1 x v _ I1 r1 q1) fun _ s2 q=>q
theorem aU{i:Nat}{x:Str}{e:Expr}{te:TE}{pos':Pos}(hN:X.N.Nodup)(hi:X.N[i]?=some x)(hx:Loc X.env.scope x)(he:PE X e te)(hs:swapsWith e (some (.Name x pos')) pos.line X.env=pure false:=by rfl)(hf:X.fn x=true∨X.env.scope.names.lookup x=some .local:=by first|exact .inl rfl|exact .inr rfl|assumption) :
  PS X (.Assign [.Name x pos'] e pos) (Nl te (vJ i)):=by
 intro pins s σ H D I h
 refine wpAny_Assign_Name (cz (he pins s σ H _ I h) fun v s1 ⟨y,H1,I1,r1,q1⟩=>?_) hs
 exact zf I1 hN hi hx r1 (fun s2 I2=>⟨_,H1,I2,q1⟩) hf
def WG(i:Nat)(te:TE)(ti:Vs):TS:=fun D σ H=>∃ x,σ[i]?=some (some x)∧te σ H fun y H1=>ti x y H1 fun z H2=>D.nx (σ.set i (some z)) H2
theorem wR{i:Nat}{x:Str}{e:Expr}{te:TE}{op:Operator}{ti:Vs}{pos':Pos}(hN:X.N.Nodup)(hi:X.N[i]?=some x)(hx:Loc X.env.scope x)(he:PE X e te)(ho:WC X op ti)(hf:X.fn x=true∨X.env.scope.names.lookup x=some .local:=by first|exact .inl rfl|exact .inr rfl|assumption) :
  PS X (.AugAssign (.Name x pos') op e pos) (WG i te ti):=by
 intro pins s σ H D I h
 obtain⟨v,e1,h⟩:=h
 obtain⟨m,hn,hl⟩:=I.loc
 have vis:Vo X.env.scope x:=by rcases hx with k|k;exact .inl k;exact .inr (.inl k)
 obtain⟨u,r,l⟩:=hl i x v hi e1 vis
 refine wpAny_AugAssign_Name ?_
 have go:wpAny (model X.prog X.w) X.A (eval e X.env) (fun w s₂=>wpAny (model X.prog X.w) X.A (inplaceOp op u w) (fun r s₃=>wpAny (model X.prog X.w) X.A (storeName X.env x r) (fun _=>SP X pins D .next) X.xe s₃) X.xe s₂) X.xe s:=by
  refine cz (he pins s σ H _ I h) fun w s1 ⟨y,H1,I1,r1,q1⟩=>?_
  refine cz (ho pins s1 σ H1 v y u w _ I1 r r1 q1) fun z s2 ⟨zv,H2,I2,r2,q2⟩=>?_
  exact zf I2 hN hi hx r2 (fun s3 I3=>⟨_,H2,I3,q2⟩) hf
 rcases l with ⟨hk,hm⟩|⟨hk,c,hc,hcell⟩
 ·exact wpAny_loadName_local I.ok.kind hk hn hm go
 ·rcases hk with hk|hk
  ·exact wpAny_loadName_cell I.ok.kind hk hc hcell go
  ·rcases hx with k|k
   ·have:X.env.scope.names.lookup x=some .free:=hk
    rw[k]at this;cases this
   ·have:X.env.scope.names.lookup x=some .free:=hk
    rw[k]at this;cases this
def ipI(f:Int→Int→Int):Vs:=fun x y H Q=>∃ i j,x=.int i∧y=.int j∧Q (.int (f i j)) H
theorem P9:WC X .Add (ipI fun i j=>i+j):=by
 intro pins s σ H x y v u Q I r1 r2 h
 obtain⟨i,j,e1,e2,q⟩:=h
 subst e1;subst e2
 obtain⟨t,rfl⟩:=r1
 obtain⟨t',rfl⟩:=r2
 exact iadd_int ⟨.int _,H,I.tok _,⟨_,rfl⟩,q⟩
end
section
variable {X:Cx} {pos:Pos}
def Qa(c:TT)(tb:TS):TS:=fun D σ H=>∃ W:Nat→St→Hp→Prop,(∃ m,W m σ H)∧∀ m σ H,W m σ H →
 c σ H fun b H1=>if b=true then ∃ N:St→Hp→Prop,(∀ σ' H',N σ' H'→∃ m',m'<m∧W m' σ' H')∧tb { D with nx:=N,ct:=N,bk:=D.nx } σ H1 else D.nx σ H1
theorem Es{c:Expr}{body:List Stmt}{tc:TT}{tb:TS}(hp:PassesOwn (model X.prog X.w) X.A X.env X.xe)(hc:PT X c tc)(hb:HH X body tb):PS X (.While c body [] pos) (Qa tc tb):=by
 intro pins s σ H D I h
 obtain⟨W,⟨m0,w0⟩,turn⟩:=h
 refine wpAny_While (codeAny_whileLoop (fun n s'=>∃ σ' H',Inv X pins σ' H' s'∧W n σ' H') ?_ m0 ⟨σ,H,I,w0⟩)
 rintro n s1 ⟨σ1,H1,I1,w1⟩
 refine wpAny_passesOwn hp (cz (hc pins s1 σ1 H1 _ I1 (turn n σ1 H1 w1)) fun b s2 ⟨H2,I2,q2⟩=>?_)
 cases b with
 | true =>
  obtain⟨N,hN,q2⟩:=q2
  rw[if_pos rfl]
  refine wpAny_passesOwn hp (cz (hb pins s2 σ1 H2 _ I2 q2) fun f s3 q3=>?_)
  cases f with
  | next =>
   obtain⟨σ3,H3,I3,n3⟩:=q3
   obtain⟨m',hm,w3⟩:=hN σ3 H3 n3
   exact⟨m',hm,σ3,H3,I3,w3⟩
  | cont =>
   obtain⟨σ3,H3,I3,n3⟩:=q3
   obtain⟨m',hm,w3⟩:=hN σ3 H3 n3
   exact⟨m',hm,σ3,H3,I3,w3⟩
  | brk=>exact q3
  | ret v=>exact q3
 | false =>
  rw[if_neg ue]
  exact wpAny_execs_nil ⟨σ1,H2,I2,q2⟩
end
structure It where
 go:Nat→Hp→Prop
 KD:Nat→Hp→V→Hp→Prop
 stop:Nat→Hp→Prop
def pF(X:Cx)(pins:List (Addr × Obj))(H:Hp)(b:Addr):Prop :=
 H b=none∧b≠X.env.locals∧b∉X.fs∧(b∈X.ex∨X.s₀.heap.objs.size≤b)∧(∀ x c,X.env.cells.lookup x=some c→c≠b)∧∀ p∈X.pn++pins,p.1≠b
theorem Inv.KG{X:Cx}{pins:List (Addr × Obj)}{σ:St}{H H':Hp}{s:Shared}{b:Addr}(I:Inv X pins σ H s)(hb:s.heap.objs.size≤b)(hn:H' b=none):pF X pins H' b:=by
 refine⟨hn,Nat.ne_of_gt (qN I.lt hb),I.Wt hb,.inr (lV I.sz hb),fun x c e z=>?_,fun p hp z=>?_⟩
 ·obtain⟨v,q⟩:=I.cell x c e
  exact absurd (qN q.lt (by rw[z];exact hb)) (Nat.lt_irrefl _)
 ·exact absurd (qN (Heap.lt_size (I.pin p hp).1) (by rw[z];exact hb)) (Nat.lt_irrefl _)
structure Turn(P:Program)(w:World)(K:PySem.W.Frag)(tg:Expr)(J:It)(fp:List Addr)(it:Addr)(tn:Nat→Heap→Prop):Prop where
 mem:it∈fp
 obj:∀ i h,tn i h→∀ b∈fp,∃ o,h.get? b=some o∧∀ v,o.data≠.cell v
 keep:∀ i h h',tn i h→(∀ b∈fp,∀ o,h.get? b=some o→h'.get? b=some o)→tn i h'
 item:∀ (X:Cx),X.prog=P→X.w=w→X.K=K→X.calm=true→∀ (i:Nat) (pins:List (Addr × Obj)) (s:Shared) (σ:St) (H:Hp) (E:Value→Shared→Prop),Inv X pins σ H s→(∀ b∈fp,pF X pins H b)→tn i s.heap→J.go i H →
  wpAny (model P w) X.A (pyNext (.ref it)) (fun r s1=>∃ u,r=some u ∧
   wpAny (model P w) X.A (letOwnedTupleGo tg (.ref it) u) (fun _ s2=>∃ x H',Inv X pins σ H' s2∧RelV x u∧J.KD i H x H'∧tn (i+1) s2.heap∧∀ b∈fp,H' b=none) E s1) E s
 done:∀ (X:Cx),X.prog=P→X.w=w→X.K=K→X.calm=true→∀ (i:Nat) (pins:List (Addr × Obj)) (s:Shared) (σ:St) (H:Hp) (E:Value→Shared→Prop),Inv X pins σ H s→(∀ b∈fp,pF X pins H b)→tn i s.heap→J.stop i H →
  wpAny (model P w) X.A (pyNext (.ref it)) (fun r s1=>r=none∧Inv X pins σ H s1) E s
 self:∀ (A:Around) (i:Nat) (s:Shared) (Q:Value→Shared→Prop) (E:Value→Shared→Prop),tn i s.heap→Q (.ref it) s→wpAny (model P w) A (pyIter (.ref it)) Q E s
abbrev TI:=St→Hp→(It→Hp→Prop)→Prop
def PIE(X:Cx)(pins:List (Addr × Obj))(σ:St)(tg:Expr)(R:It→Hp→Prop)(itv:Value)(s2:Shared):Prop :=
 ∃ (it:Addr) (fp:List Addr) (tn:Nat→Heap→Prop) (J:It) (H':Hp),itv=.ref it∧Inv X pins σ H' s2∧Turn X.prog X.w X.K tg J fp it tn∧tn 0 s2.heap∧(∀ b∈fp,pF X pins H' b)∧R J H'
def PI(X:Cx)(tg iter:Expr)(wi:TI):Prop :=
 ∀ (pins:List (Addr × Obj)) (s:Shared) (σ:St) (H:Hp) (R:It→Hp→Prop),Inv X pins σ H s→wi σ H R →
  wpAny (model X.prog X.w) X.A (eval iter X.env) (fun v s1=>wpAny (model X.prog X.w) X.A (pyIter v) (PIE X pins σ tg R) X.xe s1) X.xe s
theorem HK{M:Model}{A:Around}{E:Value→Shared→Prop}{s:Shared}{tg:Expr}{it:Addr}{u:Value}{o:Obj}{n:String}{vs:Array Value}{Q:Unit→Shared→Prop}(ho:s.heap.get? it=some o)(hc:o.cls=.type n)(hd:o.data=.fields vs)
  (hn:["enumerate","zip","dict_itemiterator","dict_reverseitemiterator","odict_iterator","itertools.zip_longest","itertools.pairwise"].contains n=false) (hQ:Q () s):wpAny M A (letOwnedTupleGo tg (.ref it) u) Q E s:=by
 unfold letOwnedTupleGo
 cases tg <;> first
  | exact wpAny_pure hQ
  | (cases u <;> first
    | exact wpAny_pure hQ
    | (refine wpAny_bind (wpAny_load ho ?_);rw[hc,hd];show wpAny M A (if (["enumerate","zip","dict_itemiterator","dict_reverseitemiterator","odict_iterator","itertools.zip_longest","itertools.pairwise"].contains n&&vs[0]? == some (rawInt _))=true then _ else _) Q E s;rw[if_neg (by intro h;rw[hn,Bool.false_and]at h;cases h)];exact wpAny_pure hQ))
def KH(K:PySem.W.Frag)(a:Addr):It :=
 ⟨fun i H=>∃ xs x,bF K H a xs∧xs[i]?=some x,fun i H x H'=>H'=H∧∀ xs,bF K H a xs→xs[i]?=some x,fun i H=>∃ xs,bF K H a xs∧xs.length≤i⟩
def SE(K:PySem.W.Frag)(a:Addr):It :=
 ⟨fun i H=>∃ xs x,jc K H a xs∧xs[i]?=some x,fun i H x H'=>H'=H∧∀ xs,jc K H a xs→xs[i]?=some x,fun i H=>∃ xs,jc K H a xs∧xs.length≤i⟩
def Qc(lo:Int)(n:Nat):It:=⟨fun i _=>i<n,fun i H x H'=>H'=H∧x=.int (lo+i),fun i _=>n≤i⟩
theorem Jh{P:Program}{w:World}{K:PySem.W.Frag}{tg:Expr}(a it:Addr):Turn P w K tg (KH K a) [it] it (fun i h=>h.IsListIter it a i) where
 mem:=by simp
 obj:=fun i h st b hb=>by
  have e:b=it:=by simpa using hb
  subst e
  obtain⟨o,e,c,d⟩:=st
  exact⟨o,e,fun v z=>by rw[d]at z;cases z⟩
 keep:=fun i h h' st k=>st.at fun o e=>k it (by simp) o e
 item:=by
  intro X hP hw hK hc i pins s σ H E I hf st hg
  subst hP hw hK
  obtain⟨xs,x,hq,hx⟩:=hg
  obtain⟨its,rv,p,hz⟩:=I.list hq
  obtain⟨u,hu,ru⟩:=rv.get hx
  obtain⟨f0,f1,f2,f3,f4,f5⟩:=hf it (by simp)
  refine wpAny_pyNext_list_item st p.isList (x:=u) (by simpa using hu) fun h' st' sb=>?_
  have I1:Inv X pins σ H { s with heap:=h' }:=I.turned (t':=s.toks) (fun b o hb e=>(sb.2 b hb).trans e) f0 f1 f3 f4 f5
  obtain⟨o,e,c,d⟩:=id st'
  exact⟨u,rfl,HK (s:={ s with heap:=h' }) e c d (by decide) ⟨x,H,I1,ru,⟨rfl,fun ys hy=>by rw[I.Ep hy hq];exact hx⟩,st',fun b hb=>(hf b hb).1⟩⟩
 done:=by
  intro X hP hw hK hc i pins s σ H E I hf st hg
  subst hP hw hK
  obtain⟨xs,hq,hx⟩:=hg
  obtain⟨its,rv,p,hz⟩:=I.list hq
  obtain⟨f0,f1,f2,f3,f4,f5⟩:=hf it (by simp)
  have hl:=rv.length
  exact wpAny_pyNext_list_end (I.ok.hd hc) st p.isList (by simp;omega) fun h' eb=>⟨rfl,I.turned (t':=s.toks) (fun b o hb e=>eb b o hb e) f0 f1 f3 f4 f5⟩
 self:=fun _ _ _ _ _ st h=>wpAny_pyIter_listiter st h
theorem Gk{P:Program}{w:World}{K:PySem.W.Frag}{tg:Expr}(a it:Addr):Turn P w K tg (SE K a) [it] it (fun i h=>h.IsTupleIter it a i) where
 mem:=by simp
 obj:=fun i h st b hb=>by
  have e:b=it:=by simpa using hb
  subst e
  obtain⟨o,e,c,d⟩:=st
  exact⟨o,e,fun v z=>by rw[d]at z;cases z⟩
 keep:=fun i h h' st k=>st.at fun o e=>k it (by simp) o e
 item:=by
  intro X hP hw hK hc i pins s σ H E I hf st hg
  subst hP hw hK
  obtain⟨xs,x,hq,hx⟩:=hg
  obtain⟨its,rv,p,hz⟩:=I.tuple hq
  obtain⟨u,hu,ru⟩:=rv.get hx
  obtain⟨f0,f1,f2,f3,f4,f5⟩:=hf it (by simp)
  refine wpAny_pyNext_tuple_item st (show s.heap.IsTuple a its.toArray from p) (x:=u) (by simpa using hu) fun h' st' sb=>?_
  have I1:Inv X pins σ H { s with heap:=h' }:=I.turned (t':=s.toks) (fun b o hb e=>(sb.2 b hb).trans e) f0 f1 f3 f4 f5
  obtain⟨o,e,c,d⟩:=id st'
  exact⟨u,rfl,HK (s:={ s with heap:=h' }) e c d (by decide) ⟨x,H,I1,ru,⟨rfl,fun ys hy=>by rw[I.Bt hy hq];exact hx⟩,st',fun b hb=>(hf b hb).1⟩⟩
 done:=by
  intro X hP hw hK hc i pins s σ H E I hf st hg
  subst hP hw hK
  obtain⟨xs,hq,hx⟩:=hg
  obtain⟨its,rv,p,hz⟩:=I.tuple hq
  obtain⟨f0,f1,f2,f3,f4,f5⟩:=hf it (by simp)
  have hl:=rv.length
  exact wpAny_pyNext_tuple_end (I.ok.hd hc) st (show s.heap.IsTuple a its.toArray from p) (by simp;omega) fun h' eb=>⟨rfl,I.turned (t':=s.toks) (fun b o hb e=>eb b o hb e) f0 f1 f3 f4 f5⟩
 self:=fun _ _ _ _ _ st h=>wpAny_pyIter_tupleiter st h
theorem Gm{P:Program}{w:World}{K:PySem.W.Frag}{tg:Expr}(it:Addr)(lo:Int)(n:Nat):Turn P w K tg (Qc lo n) [it] it (fun i h=>IsRangeIter h it (lo+(i:Nat)*1) ((n:Int)-(i:Nat)) 1) where
 mem:=by simp
 obj:=fun i h st b hb=>by
  have e:b=it:=by simpa using hb
  subst e
  exact⟨_,st,fun v z=>by
   have z':Data.fields _=Data.cell v:=z
   cases z'⟩
 keep:=fun i h h' st k=>k it (by simp) _ st
 item:=by
  intro X hP hw hK hc i pins s σ H E I hf st hg
  subst hP hw hK
  obtain⟨f0,f1,f2,f3,f4,f5⟩:=hf it (by simp)
  have W:=Walks.range (prog:=X.prog) (w:=X.w) (I.ok.hd hc) it lo 1 n
  refine W.item i s _ _ hg st fun v h' tk hv st' kk=>?_
  obtain⟨t,rfl⟩:=hv
  have I1:Inv X pins σ H { s with heap:=h',toks:=tk }:=I.turned (fun b o hb e=>kk b o (by simpa using hb) e) f0 f1 f3 f4 f5
  refine⟨_,rfl,HK (s:={ s with heap:=h',toks:=tk }) (n:="range_iterator") st' rfl rfl (by decide) ⟨.int (lo+i),H,I1,⟨t,?_⟩,⟨rfl,rfl⟩,st',fun b hb=>(hf b hb).1⟩⟩
  rw[Int.mul_one]
 done:=by
  intro X hP hw hK hc i pins s σ H E I hf st hg
  subst hP hw hK
  obtain⟨f0,f1,f2,f3,f4,f5⟩:=hf it (by simp)
  exact wpAny_pyNext_range_end (I.ok.hd hc) st (by have:n≤i:=hg;omega) fun h' eb=>⟨rfl,I.turned (t':=s.toks) (fun b o hb e=>eb b o hb e) f0 f1 f3 f4 f5⟩
 self:=fun _ _ _ _ _ st h=>wpAny_pyIter_rangeiter st h
end L2
namespace L2
open PySem PySem.Spec PyProof.Rows
section
variable {X:Cx} {tg:Expr}
inductive isL(K:PySem.W.Frag)(x:V)(H:Hp)(R:It→Hp→Prop):Prop
 | mk (a:Addr) (_:x=.ref a) (_:∃ xs,bF K H a xs) (_:R (KH K a) H):isL K x H R
def OP(K:PySem.W.Frag)(tl:TE):TI:=fun σ H R=>tl σ H fun x H1=>isL K x H1 R
def WH(K:PySem.W.Frag)(tl:TE):TI:=fun σ H R=>tl σ H fun x H1=>∃ a,x=.ref a∧(∃ xs,jc K H1 a xs)∧R (SE K a) H1
theorem cU{l:Expr}{tl:TE}(hl:PE X l tl):PI X tg l (OP X.K tl):=by
 intro pins s σ H R I h
 refine cz (hl pins s σ H _ I h) fun v s1 ⟨x,H1,I1,r1,q1⟩=>?_
 obtain⟨a,e,⟨xs,hq⟩,q⟩:=q1
 subst e
 cases r1
 obtain⟨its,rv,p,hz⟩:=I1.list hq
 refine wpAny_pyIter_list p.isList ?_
 refine⟨s1.heap.objs.size,[s1.heap.objs.size],_,_,H1,rfl,I1.kept (t':=s1.toks) fun b o e=>Heap.get?_push_of_some _ e,Jh a _,⟨_,Heap.get?_push_size _ rfl,rfl,rfl⟩,fun b hb=>?_,q⟩
 have e:b=s1.heap.objs.size:=by simpa using hb
 subst e
 exact I1.KG (iC _) (I1.hok.fresh (iC _))
theorem Qd{l:Expr}{tl:TE}(hl:PE X l tl):PI X tg l (WH X.K tl):=by
 intro pins s σ H R I h
 refine cz (hl pins s σ H _ I h) fun v s1 ⟨x,H1,I1,r1,q1⟩=>?_
 obtain⟨a,e,⟨xs,hq⟩,q⟩:=q1
 subst e
 cases r1
 obtain⟨its,rv,p,hz⟩:=I1.tuple hq
 refine wpAny_pyIter_tuple (show s1.heap.IsTuple a its.toArray from p) ?_
 refine⟨s1.heap.objs.size,[s1.heap.objs.size],_,_,H1,rfl,I1.kept (t':=s1.toks) fun b o e=>Heap.get?_push_of_some _ e,Gk a _,⟨_,Heap.get?_push_size _ rfl,rfl,rfl⟩,fun b hb=>?_,q⟩
 have e:b=s1.heap.objs.size:=by simpa using hb
 subst e
 exact I1.KG (iC _) (I1.hok.fresh (iC _))
theorem KI{pins:List (Addr × Obj)}{σ:St}{H:Hp}{s:Shared}{R:It→Hp→Prop}{E:Value→Shared→Prop}{lo hi:Int}{t u v:Tok}{tk:Nat}(I:Inv X pins σ H s)(h1:-(2^62)≤lo)(h2:lo<2^62)(h3:-(2^62)≤hi)(h4:hi<2^62)
  (q:R (Qc lo (hi-lo).toNat) H):wpAny (model X.prog X.w) X.A (pyIter (.ref s.heap.objs.size)) (PIE X pins σ tg R) E { s with heap:=s.heap.push { cls:=.type "range",data:=.fields #[.int lo t,.int hi u,.int 1 v] },toks:=tk }:=by
 refine wpAny_pyIter_range (IsRange.new ..) (small_one h1 h2 h3 h4) ?_
 have I1:Inv X pins σ H { s with heap:=s.heap.push { cls:=.type "range",data:=.fields #[.int lo t,.int hi u,.int 1 v] },toks:=tk }:=I.kept fun b o e=>Heap.get?_push_of_some _ e
 refine⟨(s.heap.push { cls:=.type "range",data:=.fields #[.int lo t,.int hi u,.int 1 v] }).objs.size,[(s.heap.push { cls:=.type "range",data:=.fields #[.int lo t,.int hi u,.int 1 v] }).objs.size],_,_,H,rfl,
  I1.kept (t':=tk) fun b o e=>Heap.get?_push_of_some _ e,Gm _ lo (hi-lo).toNat,?_,fun b hb=>?_,q⟩
 ·have e1:lo+((0:Nat):Int)*1=lo:=by simp
  have e2:(((hi-lo).toNat:Nat):Int)-((0:Nat):Int)=Builtin.Range.rangeSize lo hi 1:=by rw[rangeSize_one];split <;> omega
  show IsRangeIter _ _ (lo+((0:Nat):Int)*1) ((((hi-lo).toNat:Nat):Int)-((0:Nat):Int)) 1
  rw[e1,e2]
  exact Heap.get?_push_size _ rfl
 ·have e:b=(s.heap.push { cls:=.type "range",data:=.fields #[.int lo t,.int hi u,.int 1 v] }).objs.size:=by simpa using hb
  subst e
  exact I1.KG (iC _) (I1.hok.fresh (iC _))
inductive isR(vs:List V)(H:Hp)(R:It→Hp→Prop):Prop
 | mk (j:Int) (_:vs=[.int j]) (_:-(2^62)≤j) (_:j<2^62) (_:R (Qc 0 j.toNat) H):isR vs H R
def SG(ta:TA):TI:=fun σ H R=>ta σ H fun vs H1=>isR vs H1 R
theorem mj{a:Expr}{ta:TA}{p pos:Pos}(hg:Gl X "range")(hm:X.mg "range"=none)(ha:PA X [a] ta)(hs:starEach [a] X.env=[(false,eval a X.env)]:=by rfl):PI X tg (.Call (.Name "range" p) [a] [] pos) (SG ta):=by
 intro pins s σ H R I h
 refine Call_ (zg I hg hm boot_range (PyProof.Rows.callWith_type1 (cz (ha pos pins s σ H _ I h) fun us s1 ⟨vs,H1,I1,r1,q1⟩=>?_) hs rfl))
 obtain⟨j,e,q1,q2,q⟩:=q1
 subst e
 cases r1 with
 | cons r rr =>
  cases rr
  obtain⟨t,rfl⟩:=r
  exact call_range_1 (KI I1 (by omega) (by omega) q1 q2 (by simpa using q))
def WI(wi:TI)(g:TG)(tb:TS):TS:=fun D σ H=>wi σ H fun J H1=>∃ W:Nat→Nat→St→Hp→Prop,(∃ m,W 0 m σ H1)∧∀ i m σ H,W i m σ H →
 (J.stop i H∧D.nx σ H)∨(J.go i H∧∃ N:St→Hp→Prop,(∀ σ' H',N σ' H'→∃ m',m'<m∧W (i+1) m' σ' H')∧∀ x H',J.KD i H x H'→g x σ H' fun σ2 H2=>tb { D with nx:=N,ct:=N,bk:=D.nx } σ2 H2)
def sD(fp:List Addr)(h:Heap):List (Addr × Obj):=fp.filterMap fun b=>(h.get? b).map fun o=>(b,o)
theorem gJ{fp:List Addr}{h:Heap}{b:Addr}{o:Obj}(hb:b∈fp)(e:h.get? b=some o):(b,o)∈sD fp h:=List.mem_filterMap.mpr ⟨b,hb,by rw[e];rfl⟩
theorem Ji{fp:List Addr}{h:Heap}{p:Addr × Obj}(hp:p∈sD fp h):p.1∈fp∧h.get? p.1=some p.2:=by
 obtain⟨b,hb,e⟩:=List.mem_filterMap.mp hp
 cases q:h.get? b with
 | none=>rw[q]at e;cases e
 | some o =>
  rw[q]at e
  have e':(b,o)=p:=sr e
  subst e'
  exact⟨hb,q⟩
theorem Inv.pinned{pins:List (Addr × Obj)}{σ:St}{H:Hp}{s:Shared}{fp:List Addr}(I:Inv X pins σ H s)(hf:∀ b∈fp,pF X pins H b)(ho:∀ b∈fp,∃ o,s.heap.get? b=some o∧∀ v,o.data≠.cell v):Inv X (pins++sD fp s.heap) σ H s :=
 I.HG fun p hp=>(List.mem_append.mp hp).elim (fun z=>I.pin p (pD _ z)) fun z=>by
  obtain⟨hb,e⟩:=Ji z
  obtain⟨f0,f1,f2,_⟩:=hf p.1 hb
  obtain⟨o,e',d⟩:=ho p.1 hb
  rw[e]at e';cases e'
  exact⟨e,f0,f1,f2,d⟩
theorem Inv.om{pins pl:List (Addr × Obj)}{σ:St}{H:Hp}{s:Shared}(I:Inv X (pins++pl) σ H s):Inv X pins σ H s:=I.HG fun p hp=>I.pin p (pD _ (List.mem_append_left _ hp))
theorem gQ{iter:Expr}{body:List Stmt}{wi:TI}{g:TG}{tb:TS}{pos:Pos}(hp:PassesOwn (model X.prog X.w) X.A X.env X.xe)(hc:X.calm=true)(hi:PI X tg iter wi)(hg:PG X tg g)(hb:HH X body tb)
  (hs:∀ x,foldedSetIterable iter X.env x=pure x:=by intro _;rfl):PS X (.For tg iter body [] pos) (WI wi g tb):=by
 intro pins s σ H D I h
 refine wpAny_For (cz (hi pins s σ H _ I h) fun v s1 h1=>cz h1 fun itv s2 h2=>?_) hs
 obtain⟨it,fp,tn,J,H2,e,I2,T,st2,f2,W,⟨m0,w0⟩,turn⟩:=h2
 subst e
 have qQ:∀ {H':Hp},(∀ b∈fp,H' b=none)→∀ b∈fp,pF X pins H' b:=fun hn b hb=>⟨hn b hb,(f2 b hb).2⟩
 refine codeAny_forLoop_any (fun n s'=>∃ i σ' H',Inv X pins σ' H' s'∧tn i s'.heap∧(∀ b∈fp,H' b=none)∧W i n σ' H') ?_ m0 ⟨0,σ,H2,I2,st2,fun b hb=>(f2 b hb).1,w0⟩
 rintro n s3 ⟨i,σ3,H3,I3,st3,Vt,w3⟩
 rcases turn i n σ3 H3 w3 with ⟨stop,qn⟩|⟨go,N,hN,step⟩
 ·refine wpAny_passesOwn hp (cz (T.done X rfl rfl rfl hc i pins s3 σ3 H3 X.xe I3 (qQ Vt) st3 stop) fun r s4 ⟨hr,I4⟩=>?_)
  subst hr
  exact wpAny_execs_nil ⟨σ3,H3,I4,qn⟩
 ·refine wpAny_passesOwn hp (cz (T.item X rfl rfl rfl hc i pins s3 σ3 H3 X.xe I3 (qQ Vt) st3 go) fun r s4 ⟨u,hr,h4⟩=>?_)
  subst hr
  refine wpAny_passesOwn hp (cz h4 fun _ s5 ⟨x,H5,I5,r5,y5,RL,SH⟩=>?_)
  have I5':=I5.pinned (qQ SH) (T.obj _ _ RL)
  refine wpAny_passesOwn hp (cz (hg _ s5 σ3 H5 x u _ I5' r5 (step x H5 y5)) fun _ s6 ⟨σ6,H6,I6,q6⟩=>?_)
  refine wpAny_passesOwn hp (cz (hb _ s6 σ6 H6 _ I6 q6) fun f s7 q7=>?_)
  have again:∀ {σ7:St} {H7:Hp},Inv X (pins++sD fp s5.heap) σ7 H7 s7→N σ7 H7→∃ m,m<n∧∃ i σ' H',Inv X pins σ' H' s7∧tn i s7.heap∧(∀ b∈fp,H' b=none)∧W i m σ' H':=fun {σ7 H7} I7 n7=>by
   obtain⟨m',hm,w7⟩:=hN σ7 H7 n7
   refine⟨m',hm,i+1,σ7,H7,I7.om,T.keep _ _ _ RL fun b hb o e=>(I7.pin (b,o) (pD _ (pD _ (gJ hb e)))).1,fun b hb=>?_,w7⟩
   obtain⟨o,e,d⟩:=T.obj _ _ RL b hb
   exact (I7.pin (b,o) (pD _ (pD _ (gJ hb e)))).2.1
  cases f with
  | next=>obtain⟨σ7,H7,I7,n7⟩:=q7;exact again I7 n7
  | cont=>obtain⟨σ7,H7,I7,n7⟩:=q7;exact again I7 n7
  | brk=>obtain⟨σ7,H7,I7,q7⟩:=q7;exact⟨σ7,H7,I7.om,q7⟩
  | ret v=>obtain⟨x7,σ7,H7,I7,r7,q7⟩:=q7;exact⟨x7,σ7,H7,I7.om,r7,q7⟩
end
theorem ie{K:PySem.W.Frag}{a:Addr}{xs:List V}{g:TG}{tb:TS}{D:Ends}{σ:St}{H:Hp}(Pv:Nat→St→Hp→Prop)(h0:Pv 0 σ H)(hl:∀ i σ H,i≤xs.length→Pv i σ H→bF K H a xs)
  (hs:∀ i x σ H,xs[i]?=some x→Pv i σ H→g x σ H fun σ2 H2=>tb { D with nx:=Pv (i+1),ct:=Pv (i+1),bk:=D.nx } σ2 H2) (hd:∀ σ H,Pv xs.length σ H→D.nx σ H) :
  ∃ W:Nat→Nat→St→Hp→Prop,(∃ m,W 0 m σ H)∧∀ i m σ H,W i m σ H →
   ((KH K a).stop i H∧D.nx σ H)∨((KH K a).go i H∧∃ N:St→Hp→Prop,(∀ σ' H',N σ' H'→∃ m',m'<m∧W (i+1) m' σ' H')∧∀ x H',(KH K a).KD i H x H'→g x σ H' fun σ2 H2=>tb { D with nx:=N,ct:=N,bk:=D.nx } σ2 H2):=by
 refine⟨fun i m σ H=>m=xs.length-i∧i≤xs.length∧Pv i σ H,⟨xs.length,by simp,Nat.zero_le _,h0⟩,?_⟩
 rintro i m σ H ⟨rfl,hi,p⟩
 have q:=hl i σ H hi p
 by_cases hlt:i<xs.length
 ·refine .inr ⟨⟨xs,xs[i],q,by simp[hlt]⟩,Pv (i+1),fun σ' H' p'=>⟨xs.length-(i+1),by omega,rfl,hlt,p'⟩,fun x H' y=>?_⟩
  obtain⟨e,y⟩:=y
  subst e
  exact hs i x σ _ (y xs q) p
 ·have e:i=xs.length:=by omega
  subst e
  exact .inl ⟨⟨xs,q,iC _⟩,hd σ H p⟩
theorem Nm{K:PySem.W.Frag}{a:Addr}{xs:List V}{g:TG}{tb:TS}{D:Ends}{σ:St}{H:Hp}(Pv:Nat→St→Hp→Prop)(h0:Pv 0 σ H)(hl:∀ i σ H,i≤xs.length→Pv i σ H→jc K H a xs)
  (hs:∀ i x σ H,xs[i]?=some x→Pv i σ H→g x σ H fun σ2 H2=>tb { D with nx:=Pv (i+1),ct:=Pv (i+1),bk:=D.nx } σ2 H2) (hd:∀ σ H,Pv xs.length σ H→D.nx σ H) :
  ∃ W:Nat→Nat→St→Hp→Prop,(∃ m,W 0 m σ H)∧∀ i m σ H,W i m σ H →
   ((SE K a).stop i H∧D.nx σ H)∨((SE K a).go i H∧∃ N:St→Hp→Prop,(∀ σ' H',N σ' H'→∃ m',m'<m∧W (i+1) m' σ' H')∧∀ x H',(SE K a).KD i H x H'→g x σ H' fun σ2 H2=>tb { D with nx:=N,ct:=N,bk:=D.nx } σ2 H2):=by
 refine⟨fun i m σ H=>m=xs.length-i∧i≤xs.length∧Pv i σ H,⟨xs.length,by simp,Nat.zero_le _,h0⟩,?_⟩
 rintro i m σ H ⟨rfl,hi,p⟩
 have q:=hl i σ H hi p
 by_cases hlt:i<xs.length
 ·refine .inr ⟨⟨xs,xs[i],q,by simp[hlt]⟩,Pv (i+1),fun σ' H' p'=>⟨xs.length-(i+1),by omega,rfl,hlt,p'⟩,fun x H' y=>?_⟩
  obtain⟨e,y⟩:=y
  subst e
  exact hs i x σ _ (y xs q) p
 ·have e:i=xs.length:=by omega
  subst e
  exact .inl ⟨⟨xs,q,iC _⟩,hd σ H p⟩
theorem n6{lo:Int}{n:Nat}{g:TG}{tb:TS}{D:Ends}{σ:St}{H:Hp}(Pv:Nat→St→Hp→Prop)(h0:Pv 0 σ H)
  (hs:∀ i σ H,i<n→Pv i σ H→g (.int (lo+i)) σ H fun σ2 H2=>tb { D with nx:=Pv (i+1),ct:=Pv (i+1),bk:=D.nx } σ2 H2) (hd:∀ σ H,Pv n σ H→D.nx σ H) :
  ∃ W:Nat→Nat→St→Hp→Prop,(∃ m,W 0 m σ H)∧∀ i m σ H,W i m σ H →
   ((Qc lo n).stop i H∧D.nx σ H)∨((Qc lo n).go i H∧∃ N:St→Hp→Prop,(∀ σ' H',N σ' H'→∃ m',m'<m∧W (i+1) m' σ' H')∧∀ x H',(Qc lo n).KD i H x H'→g x σ H' fun σ2 H2=>tb { D with nx:=N,ct:=N,bk:=D.nx } σ2 H2):=by
 refine⟨fun i m σ H=>m=n-i∧i≤n∧Pv i σ H,⟨n,by simp,Nat.zero_le _,h0⟩,?_⟩
 rintro i m σ H ⟨rfl,hi,p⟩
 by_cases hlt:i<n
 ·refine .inr ⟨hlt,Pv (i+1),fun σ' H' p'=>⟨n-(i+1),by omega,rfl,hlt,p'⟩,fun x H' y=>?_⟩
  obtain⟨e,y⟩:=y
  subst e y
  exact hs i σ _ hlt p
 ·have e:i=n:=by omega
  subst e
  exact .inl ⟨Nat.le_refl _,hd σ H p⟩
end L2
namespace L2
open PySem PySem.Spec PyProof.Rows
abbrev R2:=V→V→Hp→VK→Prop
def wJ(X:Cx)(f:Value→Value→Sem Value)(r:R2):Prop :=
 ∀ (pins:List (Addr × Obj)) (s:Shared) (σ:St) (H:Hp) (x y:V) (v u:Value) (Q:VK),Inv X pins σ H s→RelV x v→RelV y u→r x y H Q →
  wpAny (model X.prog X.w) X.A (f v u) (EP X pins σ Q) X.xe s
def WJ(X:Cx)(f:Value→Sem Value)(r:V→Hp→VK→Prop):Prop :=
 ∀ (pins:List (Addr × Obj)) (s:Shared) (σ:St) (H:Hp) (x:V) (v:Value) (Q:VK),Inv X pins σ H s→RelV x v→r x H Q →
  wpAny (model X.prog X.w) X.A (f v) (EP X pins σ Q) X.xe s
def nJ(X:Cx)(f:Value)(r:List V→Hp→VK→Prop):Prop :=
 ∀ (pins:List (Addr × Obj)) (s:Shared) (σ:St) (H:Hp) (xs:List V) (us:List Value) (Q:VK),Inv X pins σ H s→Vals xs us→r xs H Q →
  wpAny (model X.prog X.w) X.A (call f us) (EP X pins σ Q) X.xe s
def WK(X:Cx)(r:V→Hp→(Bool→Hp→Prop)→Prop):Prop :=
 ∀ (pins:List (Addr × Obj)) (s:Shared) (σ:St) (H:Hp) (x:V) (v:Value) (Q:Bool→Hp→Prop),Inv X pins σ H s→RelV x v→r x H Q →
  wpAny (model X.prog X.w) X.A (truthy v) (TP X pins σ Q) X.xe s
def Vu(r:R2)(ta tb:TE):TE:=fun σ H Q=>ta σ H fun x H1=>tb σ H1 fun y H2=>r x y H2 Q
def tUn(r:V→Hp→VK→Prop)(ta:TE):TE:=fun σ H Q=>ta σ H fun x H1=>r x H1 Q
inductive rI(C:Int→Int→Prop)(g:Int→Int→V)(x y:V)(H:Hp)(Q:VK):Prop
 | mk (i j:Int) (_:x=.int i) (_:y=.int j) (_:C i j) (_:Q (g i j) H):rI C g x y H Q
inductive Nn(g:Int→Int→V)(x y:V)(H:Hp)(Q:VK):Prop
 | mk (i j:Int) (_:x=.int i) (_:y=.int j) (_:Q (g i j) H):Nn g x y H Q
def rU(g:Int→V):V→Hp→VK→Prop:=fun x H Q=>∃ i,x=.int i∧Q (g i) H
section
variable {X:Cx} {a b c:Expr} {ta tb tc:TE} {pos:Pos}
theorem Qe(ha:PE X a ta)(hb:PE X b tb){pins:List (Addr × Obj)}{s:Shared}{σ:St}{H:Hp}{R:V→V→Hp→Prop}(I:Inv X pins σ H s)
  (h:ta σ H fun x H1=>tb σ H1 fun y H2=>R x y H2) {Q:Value→Shared→Prop} {f:Value→Value→Sem Value}
  (hf:∀ v u s2 x y H2,Inv X pins σ H2 s2→RelV x v→RelV y u→R x y H2→wpAny (model X.prog X.w) X.A (f v u) Q X.xe s2) :
  wpAny (model X.prog X.w) X.A (eval a X.env) (fun v s₁=>wpAny (model X.prog X.w) X.A (eval b X.env) (fun u s₂=>wpAny (model X.prog X.w) X.A (f v u) Q X.xe s₂) X.xe s₁) X.xe s:=by
 refine cz (ha pins s σ H _ I h) fun v s1 ⟨x,H1,I1,r1,q1⟩=>?_
 refine cz (hb pins s1 σ H1 _ I1 q1) fun u s2 ⟨y,H2,I2,r2,q2⟩=>?_
 exact hf v u s2 x y H2 I2 r1 r2 q2
theorem bz{op:Operator}{r:R2}(ho:wJ X (binaryOp op) r)(ha:PE X a ta)(hb:PE X b tb):PE X (.BinOp a op b pos) (Vu r ta tb):=by
 intro pins s σ H Q I h
 exact wpAny_BinOp (Qe ha hb I h fun v u s2 x y H2 I2 rx ry q=>ho pins s2 σ H2 x y v u Q I2 rx ry q)
theorem kT{op:UnaryOp}{r:V→Hp→VK→Prop}(ho:WJ X (unaryOp op) r)(ha:PE X a ta):PE X (.UnaryOp op a pos) (tUn r ta):=by
 intro pins s σ H Q I h
 exact UnaryOp_ (cz (ha pins s σ H _ I h) fun v s1 ⟨x,H1,I1,r1,q1⟩=>ho pins s1 σ H1 x v Q I1 r1 q1)
theorem Vv{f:Value→Value→Sem Value}{C:Int→Int→Prop}{g:Int→Int→Int}
  (rule:∀ (i j:Int) (t u:Tok) (s:Shared) (Q:Value→Shared→Prop) (E:Value→Shared→Prop),C i j→Q (.int (g i j) s.toks) { s with toks:=s.toks+1 }→wpAny (model X.prog X.w) X.A (f (.int i t) (.int j u)) Q E s) :
  wJ X f (rI C fun i j=>.int (g i j)):=by
 intro pins s σ H x y v u Q I rx ry h
 obtain⟨i,j,rfl,rfl,hc,q⟩:=h
 obtain⟨t,rfl⟩:=rx
 obtain⟨t',rfl⟩:=ry
 exact rule i j t t' s _ _ hc ⟨.int (g i j),H,I.tok _,⟨_,rfl⟩,q⟩
theorem SI{f:Value→Value→Sem Value}{g:Int→Int→Int}
  (rule:∀ (i j:Int) (t u:Tok) (s:Shared) (Q:Value→Shared→Prop) (E:Value→Shared→Prop),Q (.int (g i j) s.toks) { s with toks:=s.toks+1 }→wpAny (model X.prog X.w) X.A (f (.int i t) (.int j u)) Q E s) :
  wJ X f (Nn fun i j=>.int (g i j)):=by
 intro pins s σ H x y v u Q I rx ry h
 obtain⟨i,j,rfl,rfl,q⟩:=h
 obtain⟨t,rfl⟩:=rx
 obtain⟨t',rfl⟩:=ry
 exact rule i j t t' s _ _ ⟨.int (g i j),H,I.tok _,⟨_,rfl⟩,q⟩
theorem Np{f:Value→Value→Sem Value}{g:Int→Int→Bool}
  (rule:∀ (i j:Int) (t u:Tok) (s:Shared) (Q:Value→Shared→Prop) (E:Value→Shared→Prop),Q (.bool (g i j)) s→wpAny (model X.prog X.w) X.A (f (.int i t) (.int j u)) Q E s) :
  wJ X f (Nn fun i j=>.bl (g i j)):=by
 intro pins s σ H x y v u Q I rx ry h
 obtain⟨i,j,rfl,rfl,q⟩:=h
 obtain⟨t,rfl⟩:=rx
 obtain⟨t',rfl⟩:=ry
 exact rule i j t t' s _ _ ⟨.bl (g i j),H,I,rfl,q⟩
def WL(i j:Int):Prop:=0≤j∧j≤1000000∧i.natAbs<2^64
def Qf(i j:Int):Prop:=(-(2^64)<i∧i<2^64)∨(-(2^64)<j∧j<2^64)
theorem Qf.ok{i j:Int}(h:Qf i j):IntMulOk i j:=by
 rcases h with ⟨h1,h2⟩|⟨h1,h2⟩
 ·exact .of_left (intBits_le_64 h1 h2)
 ·exact .of_right (intBits_le_64 h1 h2)
theorem eZ:wJ X (binaryOp .Add) (Nn fun i j=>.int (i+j)):=SI fun _ _ _ _ _ _ _ q=>add_int q
theorem gR:wJ X (binaryOp .Sub) (Nn fun i j=>.int (i-j)):=SI fun _ _ _ _ _ _ _ q=>sub_int q
theorem KJ:wJ X (binaryOp .Mult) (rI Qf fun i j=>.int (i*j)):=Vv fun _ _ _ _ _ _ _ hc q=>mul_int q hc.ok
theorem zj:wJ X (binaryOp .Mod) (rI (fun _ j=>0<j) fun i j=>.int (i % j)):=Vv fun i j _ _ _ _ _ hc q=>by
 have h1:(0:Int)<j:=hc
 exact mod_int' (by omega) (by rw[Int.fmod_eq_emod_of_nonneg i (by omega)];exact q)
theorem KL:wJ X (binaryOp .Pow) (rI WL fun i j=>.int (i^j.toNat)):=Vv fun _ _ _ _ _ _ _ hc q=>pow_int_small hc.1 hc.2.1 hc.2.2 q
theorem unI{f:Value→Sem Value}{g:Int→Int}
  (rule:∀ (i:Int) (t:Tok) (s:Shared) (Q:Value→Shared→Prop) (E:Value→Shared→Prop),Q (.int (g i) s.toks) { s with toks:=s.toks+1 }→wpAny (model X.prog X.w) X.A (f (.int i t)) Q E s) :
  WJ X f (rU fun i=>.int (g i)):=by
 intro pins s σ H x v Q I rx h
 obtain⟨i,rfl,q⟩:=h
 obtain⟨t,rfl⟩:=rx
 exact rule i t s _ _ ⟨.int (g i),H,I.tok _,⟨_,rfl⟩,q⟩
theorem iJ:WJ X (unaryOp .USub) (rU fun i=>.int (-i)):=unI fun _ _ _ _ _ q=>neg_int q
end
def SJ:V→V→Bool
 | .jJ,.jJ=>true | .jJ,.int _=>true | .int _,.jJ=>true | .jJ,.bl _=>true | .bl _,.jJ=>true | .jJ,.str _=>true | .str _,.jJ=>true
 | .int _,.int _=>true | .bl _,.bl _=>true | .str _,.str _=>true | .Gg _,.Gg _=>true
 | .int _,.str _=>true | .str _,.int _=>true | .bl _,.str _=>true | .str _,.bl _=>true
 | _,_=>false
def rEq:R2:=fun x y H Q=>SJ x y=true∧Q (.bl (decide (x=y))) H
def rNe:R2:=fun x y H Q=>SJ x y=true∧Q (.bl (!decide (x=y))) H
theorem HL{i j:Int}:decide (V.int i=V.int j)=(i == j):=by
 rw[Bool.eq_iff_iff]
 simp
theorem KN{i j:Bool}:decide (V.bl i=V.bl j)=(i == j):=by
 rw[Bool.eq_iff_iff]
 simp
theorem HM{i j:Str}:decide (V.str i=V.str j)=(i == j):=by
 rw[Bool.eq_iff_iff]
 simp
theorem HN{i j:Array UInt8}:decide (V.Gg i=V.Gg j)=(i.toList == j.toList):=by
 rw[Bool.eq_iff_iff]
 cases i
 cases j
 simp
section
variable {X:Cx} {a b c:Expr} {ta tb tc:TE} {pos:Pos}
theorem cR{pins:List (Addr × Obj)}{σ:St}{H:Hp}{s:Shared}{Q:VK}{k k':Bool}(I:Inv X pins σ H s)(q:Q (.bl k) H)(e:k=k'):EP X pins σ Q (.bool k') s:=by
 subst e
 exact⟨.bl k,H,I,rfl,q⟩
theorem kU:wJ X (compareOp .Eq) rEq:=by
 intro pins s σ H x y v u Q I rx ry h
 obtain⟨hs,q⟩:=h
 cases x with
 | jJ =>
  cases rx
  cases y with
  | jJ=>cases ry;exact PySem.EqNone.eq_none_none (cR I q (by simp))
  | bl j=>cases ry;exact PySem.EqNone.eq_none_bool (cR I q (by simp))
  | int j=>obtain⟨t',rfl⟩:=ry;exact PySem.EqNone.eq_none_int (cR I q (by simp))
  | str j=>obtain⟨t',rfl⟩:=ry;exact PySem.EqNone.eq_none_str (cR I q (by simp))
  | _=>exact absurd (show false=true from hs) ue
 | bl i =>
  cases rx
  cases y with
  | jJ=>cases ry;exact PySem.EqNone.eq_bool_none (cR I q (by simp))
  | bl j=>cases ry;exact eq_bool (cR I q KN)
  | str j=>obtain⟨t',rfl⟩:=ry;exact PySem.EqMixed.eq_bool_str (cR I q (by simp))
  | _=>exact absurd (show false=true from hs) ue
 | int i =>
  obtain⟨t,rfl⟩:=rx
  cases y with
  | jJ=>cases ry;exact PySem.EqNone.eq_int_none (cR I q (by simp))
  | int j=>obtain⟨t',rfl⟩:=ry;exact eq_int (cR I q HL)
  | str j=>obtain⟨t',rfl⟩:=ry;exact PySem.EqMixed.eq_int_str (cR I q (by simp))
  | _=>exact absurd (show false=true from hs) ue
 | str i =>
  obtain⟨t,rfl⟩:=rx
  cases y with
  | jJ=>cases ry;exact PySem.EqNone.eq_str_none (cR I q (by simp))
  | bl j=>cases ry;exact PySem.EqMixed.eq_str_bool (cR I q (by simp))
  | int j=>obtain⟨t',rfl⟩:=ry;exact PySem.EqMixed.eq_str_int (cR I q (by simp))
  | str j=>obtain⟨t',rfl⟩:=ry;exact eq_str (cR I q HM)
  | _=>exact absurd (show false=true from hs) ue
 | Gg i =>
  obtain⟨t,rfl⟩:=rx
  cases y with
  | Gg j=>obtain⟨t',rfl⟩:=ry;exact PySem.W.eq_bytes (cR I q HN)
  | _=>exact absurd (show false=true from hs) ue
 | _=>cases y <;> exact absurd (show false=true from hs) ue
theorem KO:wJ X (compareOp .NotEq) rNe:=by
 intro pins s σ H x y v u Q I rx ry h
 obtain⟨hs,q⟩:=h
 cases x with
 | jJ =>
  cases rx
  cases y with
  | jJ=>cases ry;exact PySem.EqNone.ne_none_none (cR I q (by simp))
  | bl j=>cases ry;exact PySem.EqNone.ne_none_bool (cR I q (by simp))
  | int j=>obtain⟨t',rfl⟩:=ry;exact PySem.EqNone.ne_none_int (cR I q (by simp))
  | str j=>obtain⟨t',rfl⟩:=ry;exact PySem.EqNone.ne_none_str (cR I q (by simp))
  | _=>exact absurd (show false=true from hs) ue
 | bl i =>
  cases rx
  cases y with
  | jJ=>cases ry;exact PySem.EqNone.ne_bool_none (cR I q (by simp))
  | bl j=>cases ry;exact ne_bool (cR I q (congrArg not KN))
  | str j=>obtain⟨t',rfl⟩:=ry;exact PySem.EqMixed.ne_bool_str (cR I q (by simp))
  | _=>exact absurd (show false=true from hs) ue
 | int i =>
  obtain⟨t,rfl⟩:=rx
  cases y with
  | jJ=>cases ry;exact PySem.EqNone.ne_int_none (cR I q (by simp))
  | int j=>obtain⟨t',rfl⟩:=ry;exact ne_int (cR I q (congrArg not HL))
  | str j=>obtain⟨t',rfl⟩:=ry;exact PySem.EqMixed.ne_int_str (cR I q (by simp))
  | _=>exact absurd (show false=true from hs) ue
 | str i =>
  obtain⟨t,rfl⟩:=rx
  cases y with
  | jJ=>cases ry;exact PySem.EqNone.ne_str_none (cR I q (by simp))
  | bl j=>cases ry;exact PySem.EqMixed.ne_str_bool (cR I q (by simp))
  | int j=>obtain⟨t',rfl⟩:=ry;exact PySem.EqMixed.ne_str_int (cR I q (by simp))
  | str j=>obtain⟨t',rfl⟩:=ry;exact ne_str (cR I q (congrArg not HM))
  | _=>exact absurd (show false=true from hs) ue
 | Gg i =>
  obtain⟨t,rfl⟩:=rx
  cases y with
  | Gg j=>obtain⟨t',rfl⟩:=ry;exact PySem.W.ne_bytes (cR I q (congrArg not HN))
  | _=>exact absurd (show false=true from hs) ue
 | _=>cases y <;> exact absurd (show false=true from hs) ue
theorem Et:wJ X (compareOp .Lt) (Nn fun i j=>.bl (decide (i<j))):=Np fun _ _ _ _ _ _ _ q=>lt_int q
theorem mT:wJ X (compareOp .LtE) (Nn fun i j=>.bl (decide (i≤j))):=Np fun _ _ _ _ _ _ _ q=>le_int q
theorem Bu:wJ X (compareOp .Gt) (Nn fun i j=>.bl (decide (j<i))):=Np fun _ _ _ _ _ _ _ q=>gt_int q
theorem OQ:wJ X (compareOp .GtE) (Nn fun i j=>.bl (decide (j≤i))):=Np fun _ _ _ _ _ _ _ q=>ge_int q
theorem bZ(b:Expr){op:CmpOp}(h:op≠.In:=by decide)(h2:op≠.NotIn:=by decide):behindInMarks op b=false:=by
 have e1:(op == CmpOp.In)=false:=by cases op <;> first|rfl|exact absurd rfl h
 have e2:(op == CmpOp.NotIn)=false:=by cases op <;> first|rfl|exact absurd rfl h2
 cases b <;> simp[behindInMarks,e1,e2]
theorem qR{op:CmpOp}{r:R2}(ho:wJ X (compareOp op) r)(ha:PE X a ta)(hb:PE X b tb)(hm:behindInMarks op b=false):PE X (.Compare a [op] [b] pos) (Vu r ta tb):=by
 intro pins s σ H Q I h
 exact wpAny_Compare1 (Qe ha hb I h fun v u s2 x y H2 I2 rx ry q=>ho pins s2 σ H2 x y v u Q I2 rx ry q) hm
def OR(t:TE):TT:=fun σ H Q=>t σ H fun x H'=>Ss x H' Q
theorem bR{op:CmpOp}{r:R2}(ho:wJ X (compareOp op) r)(ha:PE X a ta)(hb:PE X b tb)(hm:behindInMarks op b=false):PT X (.Compare a [op] [b] pos) (OR (Vu r ta tb)):=by
 intro pins s σ H Q I h
 refine wpAny_isTrue_Compare1 (cz (ha pins s σ H _ I h) fun v s1 ⟨x,H1,I1,r1,q1⟩=>cz (hb pins s1 σ H1 _ I1 q1) fun u s2 ⟨y,H2,I2,r2,q2⟩ =>
  cz (ho pins s2 σ H2 x y v u _ I2 r1 r2 q2) fun c s3 ⟨z,H3,I3,r3,k,e,q3⟩=>?_) hm
 subst e
 cases r3
 exact wpAny_truthy_bool ⟨H3,I3,q3⟩
def Qg(r r':R2)(ta tb tc:TE):TE:=fun σ H Q=>ta σ H fun x H1=>tb σ H1 fun y H2=>r x y H2 fun z H3=>∃ k,z=.bl k ∧
 (if k=true then tc σ H3 fun w' H4=>r' y w' H4 Q else Q (.bl false) H3)
theorem zk{op op':CmpOp}{r r':R2}(ho:wJ X (compareOp op) r)(ho':wJ X (compareOp op') r')(ha:PE X a ta)(hb:PE X b tb)(hc:PE X c tc)
  (hm:lastMarks [op,op'] [b,c]=false:=by with_unfolding_all rfl):PT X (.Compare a [op,op'] [b,c] pos) (OR (Qg r r' ta tb tc)):=by
 intro pins s σ H Q I h
 refine isTrue_chain (cz (ha pins s σ H _ I h) fun v s1 ⟨x,H1,I1,r1,q1⟩=>test_link (cz (hb pins s1 σ H1 _ I1 q1) fun u s2 ⟨y,H2,I2,r2,q2⟩ =>
  cz (ho pins s2 σ H2 x y v u _ I2 r1 r2 q2) fun d s3 ⟨z,H3,I3,r3,k,e,q3⟩=>?_)) hm
 subst e
 cases r3
 refine wpAny_truthy_bool ?_
 cases k with
 | false =>
  obtain⟨k',e',q'⟩:=q3
  cases e'
  exact ite_ff ⟨H3,I3,q'⟩
 | true =>
  refine ite_tt (test_last (cz (hc pins s3 σ H3 _ I3 q3) fun w' s4 ⟨z',H4,I4,r4,q4⟩=>cz (ho' pins s4 σ H4 y z' u w' _ I4 r2 r4 q4) fun d' s5 ⟨z2,H5,I5,r5,k2,e2,q5⟩=>?_))
  subst e2
  cases r5
  exact wpAny_truthy_bool ⟨H5,I5,q5⟩
def SK(K:PySem.W.Frag)(x:V)(H:Hp)(k:Bool):Prop :=
 match x with
 | .jJ=>k=false
 | .bl b=>k=b
 | .int i=>k=(i != 0)
 | .str y=>y.length≤sizeLine∧k=((y.length:Int) != 0)
 | .Gg y=>y.size≤sizeLine∧k=((y.size:Int) != 0)
 | .ref p=>(∃ xs,bF K H p xs∧k=!xs.isEmpty)∨(∃ xs,jc K H p xs∧k=!xs.isEmpty)∨∃ kvs,H p=some (.dK kvs)∧k=!kvs.isEmpty
 | _=>False
theorem Gn{κ:Type}{kvs:List (κ × V)}{vs:List (κ × Value)}(r:KV kvs vs):(!vs.isEmpty)=!kvs.isEmpty:=by
 cases r <;> rfl
theorem zl{xs:List V}{its:List Value}(r:Vals xs its):(!its.toArray.isEmpty)=!xs.isEmpty:=by
 cases r <;> simp
theorem uN:(sizeLine:Nat)<2^63:=by rw[sizeLine_eq];decide
theorem Qh:WK X (fun x H Q=>∃ k,SK X.K x H k∧Q k H):=by
 intro pins s σ H x v Q I rx h
 obtain⟨k,e,q⟩:=h
 have hl:=uN
 have hs:sizeLine=16777216:=sizeLine_eq
 cases x with
 | jJ =>
  cases rx
  have e':k=false:=e
  subst e'
  exact truthy_none ⟨H,I,q⟩
 | bl b =>
  cases rx
  have e':k=b:=e
  subst e'
  exact wpAny_truthy_bool ⟨H,I,q⟩
 | int i =>
  obtain⟨t,rfl⟩:=rx
  have e':k=(i != 0):=e
  subst e'
  exact PySem.P.truthy_int ⟨H,I,q⟩
 | str y =>
  obtain⟨t,rfl⟩:=rx
  obtain⟨hy,e'⟩:y.length≤sizeLine∧k=((y.length:Int) != 0):=e
  subst e'
  exact PySem.P.truthy_str (by omega) ⟨H,I.tok _,q⟩
 | Gg y =>
  obtain⟨t,rfl⟩:=rx
  obtain⟨hy,e'⟩:y.size≤sizeLine∧k=((y.size:Int) != 0):=e
  subst e'
  exact PySem.W.truthy_bytes (by omega) ⟨H,I.tok _,q⟩
 | ref p =>
  cases rx
  have e':(∃ xs,bF X.K H p xs∧k=!xs.isEmpty)∨(∃ xs,jc X.K H p xs∧k=!xs.isEmpty)∨∃ kvs,H p=some (.dK kvs)∧k=!kvs.isEmpty:=e
  rcases e' with ⟨xs,hx,e'⟩|⟨xs,hx,e'⟩|⟨kvs,hx,e'⟩
  ·subst e'
   obtain⟨its,r,pl,hz⟩:=I.list hx
   have hlen:=r.length
   exact wpAny_truthy_list pl.isList (by simp only[rY];omega) ⟨H,I.tok _,by rw[zl r];exact q⟩
  ·subst e'
   obtain⟨its,r,pl,hz⟩:=I.tuple hx
   have hlen:=r.length
   exact truthy_tuple pl (by simp only[rY];omega) ⟨H,I.tok _,by rw[zl r];exact q⟩
  ·subst e'
   obtain⟨hz,hS,vs,r,m⟩:kvs.length≤sizeLine∧(p == sysModules)=false∧∃ vs,KV kvs vs∧s.heap.DictOf (gh X.prog X.w) p vs:=I.hok p _ hx
   have hlen:kvs.length=vs.length:=Paired.length r
   exact wpAny_truthy_dict hS m (by omega) ⟨H,I.tok _,by rw[Gn r];exact q⟩
 | _=>exact (show False from e).elim
theorem mU(ha:PE X a ta)(he:∀ whole,isTrue a X.env whole=(do let v ← whole;standAt a.pos;holding [v] (truthy v))) :
  PT X a (fun σ H Q=>ta σ H fun x H'=>∃ k,SK X.K x H' k∧Q k H'):=by
 intro pins s σ H Q I h
 exact isTrue_plain (cz (ha pins s σ H _ I h) fun v s1 ⟨x,H1,I1,r1,q1⟩=>Qh pins s1 σ H1 x v Q I1 r1 q1) (he _)
theorem vals1{x:V}{us:List Value}(r:Vals [x] us):∃ u,us=[u]∧RelV x u:=by
 cases r with
 | cons r1 r2=>cases r2;exact⟨_,rfl,r1⟩
theorem vals2{x y:V}{us:List Value}(r:Vals [x,y] us):∃ u w',us=[u,w']∧RelV x u∧RelV y w':=by
 cases r with
 | cons r1 r2 =>
  cases r2 with
  | cons r3 r4=>cases r4;exact⟨_,_,rfl,r1,r3⟩
theorem Jj(hc:X.calm=true):nJ X (.builtin "max") (fun xs H Q=>∃ i j,xs=[.int i,.int j]∧Q (.int (if j > i then j else i)) H):=by
 intro pins s σ H xs us Q I r h
 obtain⟨i,j,rfl,q⟩:=h
 obtain⟨u,w',rfl,⟨t,rfl⟩,⟨t',rfl⟩⟩:=vals2 r
 refine max_two_ints (I.ok.hd hc) fun h' tk k=>⟨_,H,I.kept k,?_,q⟩
 by_cases hj:j > i
 ·rw[if_pos hj,if_pos hj];exact⟨_,rfl⟩
 ·rw[if_neg hj,if_neg hj];exact⟨_,rfl⟩
theorem Bv(hc:X.calm=true):nJ X (.builtin "min") (fun xs H Q=>∃ i j,xs=[.int i,.int j]∧Q (.int (if j<i then j else i)) H):=by
 intro pins s σ H xs us Q I r h
 obtain⟨i,j,rfl,q⟩:=h
 obtain⟨u,w',rfl,⟨t,rfl⟩,⟨t',rfl⟩⟩:=vals2 r
 refine min_two_ints (I.ok.hd hc) fun h' tk k=>⟨_,H,I.kept k,?_,q⟩
 by_cases hj:j<i
 ·rw[if_pos hj,if_pos hj];exact⟨_,rfl⟩
 ·rw[if_neg hj,if_neg hj];exact⟨_,rfl⟩
end
end L2
namespace L2
open PySem PySem.Spec PyProof.Rows
structure Gp(h:Heap)(x dx C:Addr)(mA:Str→Option Value):Prop where
 obj:h.get? x=some (PySem.W.instObj C dx)
 ns:h.Ns1 dx mA
 ne:dx≠x
theorem Jk{h:Heap}{dx:Addr}{mA:Str→Option Value}(n:h.Ns1 dx mA):∃ od,h.get? dx=some od∧∀ name,PySem.W.lookIn name od=some (mA name):=by
 obtain⟨o,es,ep,ho,hd,hk,_,hm⟩:=n
 refine⟨o,ho,fun name=>?_⟩
 have e:=hm name
 unfold nsFind findBy at e
 rw[← Array.find?_toList]at e
 unfold PySem.W.lookIn
 rw[hd]
 dsimp only
 split
 ·rename_i y q
  rw[q]at e
  exact congrArg some e
 ·rename_i q
  rw[q]at e
  have a:es.toList.any (·.refKey)=false:=by
   rw[List.any_eq_false]
   intro y hy
   obtain⟨z,t,hkey⟩:=hk y (Array.mem_toList_iff.mp hy)
   simp[DictEntry.refKey,hkey]
  have a':¬ es.toList.any (·.refKey)=true:=by rw[a];exact ue
  rw[if_neg a']
  exact congrArg some e
theorem Gp.look{h:Heap}{x dx C:Addr}{mA:Str→Option Value}(I:Gp h x dx C mA):∃ od,PySem.W.InstAt h x (PySem.W.instObj C dx) C (some od)∧∀ name,PySem.W.lookIn name od=some (mA name) :=
 let ⟨od,ho,hl⟩:=Jk I.ns
 ⟨od,⟨I.obj,rfl,rfl,ho⟩,hl⟩
section
variable {prog:Program} {w:World} {A:Around} {E:Value→Shared→Prop} {s:Shared} {K:PySem.W.Frag} {x dx C f:Addr} {mA:Str→Option Value} {name:Str} {v:Value}
theorem get_map{expr:Bool}{Q:Value→Shared→Prop}(X:K.In s.heap)(I:Gp s.heap x dx C mA)(hg:PySem.W.plainGet K C name=true)(hh:PySem.W.hasDictIn K C=true)
  (ha:PySem.W.findIn K (.ref C) name=some none) (hv:mA name=some v) (hv':PySem.W.handedIn v=true) (h:Q v { s with toks:=s.toks+1 }) :
  wpAny (model prog w) A (getAttr (.ref x) name expr) Q E s:=by
 obtain⟨od,J,hl⟩:=I.look
 exact PySem.W.get_value X J (PySem.W.plainGet_of hg).1 (PySem.W.findObj_own hh ha rfl (by rw[hl,hv])) hv' h
theorem KP{pl:Sem Bool}{Q:Value × List Value→Shared→Prop}(X:K.In s.heap)(I:Gp s.heap x dx C mA)(hg:PySem.W.plainGet K C name=true)
  (hf:PySem.W.findIn K (.ref C) name=some (some (.ref f))) (ht:PySem.W.isFn K (.ref f)=true) (hv:mA name=none) (h:Q (.ref f,[.ref x]) s) :
  wpAny (model prog w) A (getMethod (.ref x) name pl) Q E s:=by
 obtain⟨od,J,hl⟩:=I.look
 exact PySem.W.method_fn X J (PySem.W.plainGet_of hg).1 (PySem.W.plainGet_of hg).2 hf (beq_iff_eq.mp ht) (by show (PySem.W.lookIn name od).map (·.isSome)=some false;rw[hl,hv];rfl) h
theorem Nq{ns:List Str}{Q:Unit→Shared→Prop}(X:K.In s.heap)(I:Gp s.heap x dx C mA)
  (hs:PySem.W.findIn K (.ref C) "__setattr__"=some (some (.builtin "object.__setattr__"))) (hp:PySem.W.plainOver K C=true) (ht:PySem.W.takerIn K C name=some none) (hh:PySem.W.hasDictIn K C=true)
  (hw:PySem.Within mA ns) (hsz:ns.length≤sizeLine)
  (h:∀ h',Gp h' x dx C (fun y=>if y=name then some v else mA y)→Heap.SameBut dx s.heap h'→Q () { s with heap:=h',toks:=s.toks+2 }) :
  wpAny (model prog w) A (setAttr (.ref x) name v) Q E s:=by
 obtain⟨od,J,hl⟩:=I.look
 refine PySem.W.set_plain X J hs (PySem.W.osa_open (s:={ s with toks:=s.toks+1 }) (r:=none) X J hp ht fun b=>?_)
 obtain⟨cd,hc,hd'⟩:=PySem.W.any_some hh
 have hx:s.heap.get? x=some ⟨.ref C,some dx,.plain,#[]⟩:=I.obj
 refine wpAny_bind (wpAny_pure (wpAny_bind (wpAny_bind (wpAny_loadPart hx (wpAny_bind (PySem.W.Looks.here (s:={ s with toks:=s.toks+1 }) (PySem.W.looks_clsIn X hc) ?_))))))
 rw[hd']
 refine wpAny_pure (a:=some dx) (wpAny_bind (wpAny_pure (wpAny_bind ?_)))
 refine wpAny_nsSet1 (s:={ s with toks:=s.toks+1 }) I.ns fun h' hn2 hs2=>?_
 obtain⟨oD,esD,epD,hoD,hdD,hcD⟩:=hn2.count (PySem.Within.cons name v hw)
 refine wpAny_bind (wpAny_lookBehind hoD (by rw[hdD];exact pastItsLine_dict (lV hcD (by rw[ny];omega))) ?_)
 exact wpAny_pure (h _ ⟨(hs2.2 _ (Ne.symm I.ne)).trans I.obj,hn2,I.ne⟩ hs2)
theorem KQ{R:Result→Shared→Prop}{vs:List Value}{kw:List (Str × Value)}(X:K.In s.heap)(hm:PySem.W.makesIn K C=true)
  (hi:PySem.W.findIn K (.ref C) "__init__"=some (some (.ref f))) (hf:PySem.W.typeIn K (.ref f)=some (.type "function"))
  (h:codeAny (model prog w) (A.under (.builtin "type.__call__" ⟨.ref C::vs,kw⟩)) (.call (.ref f) ⟨.ref (s.heap.objs.size+1)::vs,kw⟩) (PySem.W.InitBack (s.heap.objs.size+1) R)
   { s with heap:=(s.heap.push PySem.W.emptyDict).push (PySem.W.instObj C s.heap.objs.size) }) :
  codeAny (model prog w) A (.call (.ref C) ⟨vs,kw⟩) R s:=by
 obtain⟨hh,g,d,t,os⟩:=s
 exact PySem.W.make_core (PySem.W.makes_of X hm) (PySem.W.looks_findIn X hi) (fun self=>PySem.W.bind_fn X self hf) (.inl rfl) h
end
def dh(f:Str)(v:V):List (Str × V)→List (Str × V)
 | []=>[(f,v)]
 | (g,x)::r=>if g=f then (g,v)::r else (g,x)::dh f v r
theorem xX(f g:Str)(v:V):∀ fs:List (Str × V),(dh f v fs).lookup g=if g=f then some v else fs.lookup g
 | []=>by
  show List.lookup g [(f,v)]=_
  by_cases h:g=f
  ·have hb:(g == f)=true:=beq_iff_eq.mpr h
   simp only[List.lookup,hb,if_pos h]
  ·have hb:(g == f)=false:=beq_eq_false_iff_ne.mpr h
   simp only[List.lookup,hb,if_neg h]
 | (k,x)::r=>by
  have ih:=xX f g v r
  rw[show dh f v ((k,x)::r)=(if k=f then (k,v)::r else (k,x)::dh f v r) from rfl]
  by_cases hk:k=f
  ·rw[if_pos hk]
   by_cases h:g=k
   ·have hb:(g == k)=true:=beq_iff_eq.mpr h
    simp only[List.lookup,hb,if_pos (h.trans hk)]
   ·have hb:(g == k)=false:=beq_eq_false_iff_ne.mpr h
    simp only[List.lookup,hb,if_neg (fun e:g=f=>h (e.trans hk.symm))]
  ·rw[if_neg hk]
   by_cases h:g=k
   ·have hb:(g == k)=true:=beq_iff_eq.mpr h
    simp only[List.lookup,hb,if_neg (fun e:g=f=>hk (h.symm.trans e))]
   ·have hb:(g == k)=false:=beq_eq_false_iff_ne.mpr h
    simp only[List.lookup,hb]
    exact ih
theorem wU(f:Str)(v:V):∀ fs:List (Str × V),f∈(dh f v fs).map (·.1)∧∀ g,g∈fs.map (·.1)→g∈(dh f v fs).map (·.1)
 | []=>⟨by simp[dh],fun g h=>by simp at h⟩
 | (k,x)::r=>by
  obtain⟨i1,i2⟩:=wU f v r
  rw[show dh f v ((k,x)::r)=(if k=f then (k,v)::r else (k,x)::dh f v r) from rfl]
  by_cases hk:k=f
  ·rw[if_pos hk]
   subst hk
   exact⟨by simp,fun g h=>by simpa using h⟩
  ·rw[if_neg hk]
   refine⟨?_,fun g h=>?_⟩
   ·rw[lU]
    exact rX _ i1
   ·rw[lU]at h ⊢
    rcases List.mem_cons.mp h with e|e
    ·exact List.mem_cons.mpr (.inl e)
    ·exact rX _ (i2 g e)
theorem xY(f:Str)(v:V):∀ fs:List (Str × V),(dh f v fs).length≤fs.length+1
 | []=>by simp[dh]
 | (k,x)::r=>by
  have ih:=xY f v r
  rw[show dh f v ((k,x)::r)=(if k=f then (k,v)::r else (k,x)::dh f v r) from rfl]
  by_cases hk:k=f
  ·rw[if_pos hk,ny,ny];omega
  ·rw[if_neg hk,ny,ny];omega
theorem tX.some_of{v:V}{o:Option Value}(r:tX (some v) o):∃ u,o=some u∧RelV v u:=by
 cases o with
 | none=>exact (show False from r).elim
 | some u=>exact⟨u,rfl,r⟩
theorem tX.none_of{o:Option Value}(r:tX none o):o=none:=by
 cases o with
 | none=>rfl
 | some u=>exact (show False from r).elim
theorem Jl{v:V}{u:Value}(r:RelV v u):PySem.W.handedIn u=true:=by
 cases v with
 | jJ=>cases (show u=Value.none from r);rfl
 | bl b=>cases (show u=Value.bool b from r);rfl
 | int i=>obtain⟨t,e⟩:=(show ∃ t,u=Value.int i t from r);cases e;rfl
 | str x=>obtain⟨t,e⟩:=(show ∃ t,u=Value.str x t from r);cases e;rfl
 | Gg b=>obtain⟨t,e⟩:=(show ∃ t,u=Value.bytes b t from r);cases e;rfl
 | OJ b=>obtain⟨t,e⟩:=(show ∃ t,u=Value.float b t from r);cases e;rfl
 | ref a=>cases (show u=Value.ref a from r);rfl
 | ty n=>cases (show u=Value.type n from r);rfl
section
variable {P:Program} {w:World} {H H':Hp} {h h':Heap} {a C dx:Addr} {fs fs':List (Str × V)}
theorem yP(hok:tw P w H h)(e:H a=some (.ins C dx fs)):∃ mA,Gp h a dx C mA∧(∀ f,tX (fs.lookup f) (mA f))∧PySem.Within mA (fs.map (·.1))∧fs.length≤1000∧H dx=some (.own a):=by
 obtain⟨d,z,ne,ob,mA,n,r,q⟩:=(show gj P w H h a (.ins C dx fs) from hok a _ e)
 exact⟨mA,⟨ob,n,ne⟩,r,q,z,d⟩
end
structure Bw(K:PySem.W.Frag)(C:Addr):Prop where
 pg:PySem.W.plainGet K C Str.empty=true
 hd:PySem.W.hasDictIn K C=true
 po:PySem.W.plainOver K C=true
 sa:PySem.W.findIn K (.ref C) "__setattr__"=some (some (.builtin "object.__setattr__"))
theorem Bw.get{K:PySem.W.Frag}{C:Addr}(c:Bw K C)(f:Str):PySem.W.plainGet K C f=true:=c.pg
def bh(K:PySem.W.Frag)(C:Addr)(f:Str):Prop:=PySem.W.findIn K (.ref C) f=some none
theorem bh.SM{K:PySem.W.Frag}{C:Addr}{f:Str}(n:bh K C f):PySem.W.takerIn K C f=some none:=by
 unfold PySem.W.takerIn
 rw[show PySem.W.findIn K (.ref C) f=some none from n]
 rfl
structure Meth(K:PySem.W.Frag)(C:Addr)(m:Str)(f:Addr):Prop where
 at_:PySem.W.findIn K (.ref C) m=some (some (.ref f))
 fn:PySem.W.isFn K (.ref f)=true
 kp:PySem.W.keepIn K (.ref f)=true
section
variable {X:Cx} {pins:List (Addr × Obj)} {σ:St} {H:Hp} {s:Shared} {a C dx:Addr} {fs:List (Str × V)} {f:Str} {v:V} {A:Around} {E:Value→Shared→Prop}
theorem zq{b:Bool}{Q:Value→Shared→Prop}(I:Inv X pins σ H s)(e:H a=some (.ins C dx fs))(c:Bw X.K C)(n:bh X.K C f)(l:fs.lookup f=some v)
  (h:∀ u s',Inv X pins σ H s'→RelV v u→Q u s'):wpAny (model X.prog X.w) A (getAttr (.ref a) f b) Q E s:=by
 obtain⟨mA,O,r,_,_,_⟩:=yP I.hok e
 obtain⟨u,hu,ru⟩:=tX.some_of (v:=v) (o:=mA f) (by rw[← l];exact r f)
 exact get_map I.xW O (c.get f) c.hd n hu (Jl ru) (h u _ (I.tok _) ru)
theorem zu{m:Str}{g:Addr}{pl:Sem Bool}{Q:Value × List Value→Shared→Prop}(I:Inv X pins σ H s)(e:H a=some (.ins C dx fs))(c:Bw X.K C)(k:Meth X.K C m g)(l:fs.lookup m=none)
  (h:Q (.ref g,[.ref a]) s):wpAny (model X.prog X.w) A (getMethod (.ref a) m pl) Q E s:=by
 obtain⟨mA,O,r,_,_,_⟩:=yP I.hok e
 have hn:mA m=none:=tX.none_of (by rw[← l];exact r m)
 exact KP I.xW O (c.get m) k.at_ k.fn hn h
theorem zw{y:V}{u:Value}{Q:Unit→Shared→Prop}(I:Inv X pins σ H s)(e:H a=some (.ins C dx fs))(c:Bw X.K C)(n:bh X.K C f)(hl:fs.length<1000)(ry:RelV y u)
  (h:∀ s',Inv X pins σ (upd H a (.ins C dx (dh f y fs))) s'→Q () s'):wpAny (model X.prog X.w) A (setAttr (.ref a) f u) Q E s:=by
 obtain⟨mA,O,r,wi,_,ho⟩:=yP I.hok e
 have hz:(fs.map (·.1)).length≤sizeLine:=by rw[cO,sizeLine_eq];omega
 refine Nq I.xW O c.sa c.po n.SM c.hd wi hz fun h' O' sb=>h _ ?_
 have hd:∃ o,h'.get? dx=some o:=let ⟨o,_,_,e',_⟩:=O'.ns;⟨o,e'⟩
 refine I.write (x:=a) (e:=dx) (by rw[e];exact True.intro) (.inr ho) (fun b q hb z=>(sb.2 b hb).trans z) hd ?_
 refine⟨by rw[aC O.ne];exact ho,?_,O.ne,O'.obj,_,O'.ns,fun g=>?_,fun g hg=>?_⟩
 ·have:=xY f y fs;omega
 ·show tX ((dh f y fs).lookup g) (if g=f then some u else mA g)
  rw[xX]
  by_cases q:g=f
  ·rw[if_pos q,if_pos q];exact ry
  ·rw[if_neg q,if_neg q];exact r g
 ·by_cases q:g=f
  ·rw[q];exact (wU f y fs).1
  ·refine (wU f y fs).2 g (wi g fun z=>hg ?_)
   show (if g=f then some u else mA g)=none
   rw[if_neg q];exact z
theorem Inv.made(I:Inv X pins σ H s):Inv X pins σ (upd (upd H s.heap.objs.size (.own (s.heap.objs.size+1))) (s.heap.objs.size+1) (.ins C s.heap.objs.size []))
  { s with heap:=(s.heap.push PySem.W.emptyDict).push (PySem.W.instObj C s.heap.objs.size) }:=by
 have e1:(s.heap.push PySem.W.emptyDict).get? s.heap.objs.size=some PySem.W.emptyDict:=Heap.get?_push_size s.heap rfl
 have e2:((s.heap.push PySem.W.emptyDict).push (PySem.W.instObj C s.heap.objs.size)).get? (s.heap.objs.size+1)=some (PySem.W.instObj C s.heap.objs.size):=by
  have:=Heap.get?_push_size (s.heap.push PySem.W.emptyDict) (o:=PySem.W.instObj C s.heap.objs.size) rfl
  rwa [Heap.size_push]at this
 have e3:(s.heap.push PySem.W.emptyDict).Ns s.heap.objs.size (fun _=>none):=⟨PySem.W.emptyDict,#[],_,e1,rfl,(fun e he=>absurd he (by simp)),fun _=>rfl⟩
 have I1:=I.laid (a:=s.heap.objs.size) (o:=.own (s.heap.objs.size+1)) (h':=s.heap.push PySem.W.emptyDict) (t':=s.toks) (fun b u q=>Heap.get?_push_of_some _ q) (iC _) ⟨_,e1⟩
 refine I1.laid (a:=s.heap.objs.size+1) (o:=.ins C s.heap.objs.size []) (t':=s.toks) (fun b u q=>Heap.get?_push_of_some _ q) (Nat.le_of_eq (Heap.size_push _ _)) ?_
 have ne:s.heap.objs.size≠s.heap.objs.size+1:=kQ (Nat.lt_succ_self _)
 refine⟨by rw[aC ne,af],Nat.zero_le _,ne,e2,fun _=>none,(Heap.Ns1.of_empty e3).at fun o q=>Heap.get?_push_of_some _ q,fun _=>True.intro,fun y hy=>absurd rfl hy⟩
theorem Nr{prog:Program}{w:World}{env:Env}{e:Expr}{f:Str}{pos:Pos}{s:Shared}{Q:Value→Shared→Prop}(hb:attributeBase e f env (eval e env)=eval e env)
  (h:wpAny (model prog w) A (eval e env) (fun o s₁=>wpAny (model prog w) A (getAttr o f true) Q E s₁) E s):wpAny (model prog w) A (eval (.Attribute e f pos) env) Q E s :=
 Attribute_any_ h (by rw[arm_eval_Attribute,hb])
end
inductive SN(K:PySem.W.Frag)(f:Str)(x:V)(H:Hp)(Q:VK):Prop
 | mk (a C dx:Addr) (fs:List (Str × V)) (v:V) (_:x=.ref a) (_:H a=some (.ins C dx fs)) (_:Bw K C) (_:bh K C f) (_:fs.lookup f=some v) (_:Q v H):SN K f x H Q
def WM(K:PySem.W.Frag)(ta:TE)(f:Str):TE:=fun σ H Q=>ta σ H fun x H1=>SN K f x H1 Q
def WN(K:PySem.W.Frag)(ta tv:TE)(f:Str):TS:=fun D σ H=>tv σ H fun y H1=>ta σ H1 fun x H2=>∃ a C dx fs,x=.ref a∧H2 a=some (.ins C dx fs)∧Bw K C∧bh K C f∧fs.length<1000 ∧
 D.nx σ (upd H2 a (.ins C dx (dh f y fs)))
def SO(X:Cx)(op:Operator)(rd:V→V→Hp→VK→Prop):Prop :=
 ∀ (pins:List (Addr × Obj)) (s:Shared) (σ:St) (H:Hp) (x y:V) (u v:Value) (Q:VK),Inv X pins σ H s→RelV x u→RelV y v→rd x y H Q→wpAny (model X.prog X.w) X.A (inplaceOp op u v) (EP X pins σ Q) X.xe s
def Nt(K:PySem.W.Frag)(ta tv:TE)(rd:V→V→Hp→VK→Prop)(f:Str):TS:=fun D σ H=>ta σ H fun x H1=>∃ a C dx fs v,x=.ref a∧H1 a=some (.ins C dx fs)∧Bw K C∧bh K C f∧fs.lookup f=some v ∧
 tv σ H1 fun y H2=>rd v y H2 fun z H3=>∃ WO fs',H3 a=some (.ins C WO fs')∧fs'.length<1000∧D.nx σ (upd H3 a (.ins C WO (dh f z fs')))
section
variable {X:Cx} {o e value:Expr} {f:Str} {pos pos' tpos:Pos} {ta tv:TE}
theorem ff(he:PE X e ta)(hb:attributeBase e f X.env (eval e X.env)=eval e X.env):PE X (.Attribute e f pos) (WM X.K ta f):=by
 intro pins s σ H Q I h
 refine Nr hb (cz (he pins s σ H _ I h) fun u s1 ⟨x,H1,I1,rx,a,C,dx,fs,v,ex,ea,c,n,l,q⟩=>?_)
 subst ex
 obtain rfl:u=Value.ref a:=rx
 exact zq I1 ea c n l fun u' s2 I2 ru=>⟨v,H1,I2,ru,q⟩
theorem j9(ha:PE X o ta)(hv:PE X value tv)(hs:swapsWith value (some (.Attribute o f pos')) pos.line X.env=pure false):PS X (.Assign [.Attribute o f pos'] value pos) (WN X.K ta tv f):=by
 intro pins s σ H D I h
 refine plainObj_wpAny_Assign_Attribute (cz (hv pins s σ H _ I h) fun u s1 ⟨y,H1,I1,ry,q⟩=>cz (ha pins s1 σ H1 _ I1 q) fun ov s2 ⟨x,H2,I2,rx,a,C,dx,fs,ex,ea,c,n,l,q2⟩=>?_) hs
 subst ex
 obtain rfl:ov=Value.ref a:=rx
 exact zw I2 ea c n l ry fun s3 I3=>⟨σ,_,I3,q2⟩
theorem wV{op:Operator}{rd:V→V→Hp→VK→Prop}(ha:PE X o ta)(hv:PE X value tv)(hop:SO X op rd):PS X (.AugAssign (.Attribute o f tpos) op value pos) (Nt X.K ta tv rd f):=by
 intro pins s σ H D I h
 refine wpAny_AugAssign_AttributeAny (cz (ha pins s σ H _ I h) fun ov s1 ⟨x,H1,I1,rx,a,C,dx,fs,v,ex,ea,c,n,l,q⟩=>?_)
 subst ex
 obtain rfl:ov=Value.ref a:=rx
 refine zq I1 ea c n l fun u s2 I2 ru=>cz (hv pins s2 σ H1 _ I2 q) fun w3 s3 ⟨y,H2,I3,ry,q3⟩=>cz (hop pins s3 σ H2 v y u w3 _ I3 ru ry q3) fun w4 s4 ⟨z,H3,I4,rz,WO,fs',ea',l',q4⟩=>?_
 exact zw I4 ea' c n l' rz fun s5 I5=>⟨σ,_,I5,q4⟩
end
section
variable {X:Cx} {pins:List (Addr × Obj)} {σ:St} {H:Hp} {s:Shared} {A:Around} {E:Value→Shared→Prop} {Q:Value→Shared→Prop} {c:Value} {b:Bool}
inductive mW(K:PySem.W.Frag)(H:Hp):V→Value→Prop where
 | jJ:mW K H .jJ (.type "NoneType")
 | bl (x:Bool):mW K H (.bl x) (.type "bool")
 | int (i:Int):mW K H (.int i) (.type "int")
 | str (x:Str):mW K H (.str x) (.type "str")
 | OJ (x:UInt64):mW K H (.OJ x) (.type "float")
 | lst {a:Addr} {xs:List V} (e:H a=some (.lst xs)):mW K H (.ref a) (.type "list")
 | Gh {a:Addr} {o:Obj} {xs:List V} (e:H a=some (.Gh o (.lst xs))):mW K H (.ref a) (.type "list")
 | tup {a:Addr} {xs:List V} (e:H a=some (.tup xs)):mW K H (.ref a) (.type "tuple")
 | dK {a:Addr} {kvs:List (Key × V)} (e:H a=some (.dK kvs)):mW K H (.ref a) (.type "dict")
 | dT {a:Addr} {kvs:List (List Key × V)} (e:H a=some (.dT kvs)):mW K H (.ref a) (.type "dict")
 | ins {a C dx:Addr} {fs:List (Str × V)} (e:H a=some (.ins C dx fs)) (cl:Bw K C) (ha:PySem.W.findIn K (.ref C) "__class__"=some (some (.builtin "object.__class__")))
   (hn:PySem.W.specialIn K (.builtin "object.__class__") "__get__"=some (some (.builtin "getset_descriptor.__get__"))) (htk:PySem.W.takesIn K (.builtin "object.__class__")=some true)
   (hm:PySem.W.mroIn K C (.type "object")=some true):mW K H (.ref a) (.ref C)
theorem Jm{x:V}{u t:Value}(I:Inv X pins σ H s)(rx:RelV x u)(ty:mW X.K H x t)(e:PySem.W.kitOne X.K t c=some b)(h:∀ tk,Q (.bool b) { s with toks:=tk }) :
  wpAny (model X.prog X.w) A (call (.builtin "isinstance") [u,c]) Q E s:=by
 cases ty with
 | jJ=>cases (show u=Value.none from rx);exact PySem.W.kia_one PySem.W.kitx_none I.xW True.intro e (fun z=>nomatch z) h
 | bl y=>cases (show u=Value.bool y from rx);exact PySem.W.kia_one PySem.W.kitx_bool I.xW True.intro e (fun z=>nomatch z) h
 | int i=>obtain⟨t,q⟩:=(show ∃ t,u=Value.int i t from rx);cases q;exact PySem.W.kia_one PySem.W.kitx_int I.xW True.intro e (fun z=>nomatch z) h
 | str y=>obtain⟨t,q⟩:=(show ∃ t,u=Value.str y t from rx);cases q;exact PySem.W.kia_one PySem.W.kitx_str I.xW True.intro e (fun z=>nomatch z) h
 | OJ y=>obtain⟨t,q⟩:=(show ∃ t,u=Value.float y t from rx);cases q;exact PySem.W.kia_one PySem.W.kitx_float I.xW True.intro e (fun z=>nomatch z) h
 | @lst a xs ea =>
  cases (show u=Value.ref a from rx)
  obtain⟨_,_,n,_,h1⟩:=(show gj X.prog X.w H s.heap a (.lst xs) from I.hok a _ ea)
  exact PySem.W.kia_one PySem.W.kitx_list I.xW ⟨_,h1,rfl⟩ e (fun z=>nomatch z) h
 | @Gh a ob xs ea =>
  cases (show u=Value.ref a from rx)
  obtain⟨_,_,_,n,_,h1⟩:=(show gj X.prog X.w H s.heap a (.Gh ob (.lst xs)) from I.hok a _ ea)
  exact PySem.W.kia_one PySem.W.kitx_list I.xW ⟨_,h1,rfl⟩ e (fun z=>nomatch z) h
 | @tup a xs ea =>
  cases (show u=Value.ref a from rx)
  obtain⟨_,_,_,p⟩:=(show gj X.prog X.w H s.heap a (.tup xs) from I.hok a _ ea)
  obtain⟨o,h1,h2,_⟩:=p
  exact PySem.W.kia_one PySem.W.kitx_tuple I.xW ⟨o,h1,h2⟩ e (fun z=>nomatch z) h
 | @dK a kvs ea =>
  cases (show u=Value.ref a from rx)
  obtain⟨_,_,vs,_,p⟩:=(show gj X.prog X.w H s.heap a (.dK kvs) from I.hok a _ ea)
  obtain⟨o,es,ep,h1,h2,_⟩:=p
  exact PySem.W.kia_one PySem.W.kitx_dict I.xW ⟨o,h1,h2.1⟩ e (fun z=>nomatch z) h
 | @dT a kvs ea =>
  cases (show u=Value.ref a from rx)
  obtain⟨_,_,xs,_,o,es,ep,h1,h2,_⟩:=(show gj X.prog X.w H s.heap a (.dT kvs) from I.hok a _ ea)
  exact PySem.W.kia_one PySem.W.kitx_dict I.xW ⟨o,h1,h2.1⟩ e (fun z=>nomatch z) h
 | @ins a C dx fs ea cl ha hn htk hm =>
  cases (show u=Value.ref a from rx)
  obtain⟨mA,O,_⟩:=yP I.hok ea
  obtain⟨od,J,_⟩:=O.look
  exact PySem.W.kia_one (PySem.W.kitx_own (cl.get _) cl.hd ha hn htk hm) I.xW J e (fun z=>nomatch z) h
end
end L2
namespace L2
open PySem PySem.Spec PyProof.Rows
structure kL(k:Nat)(A:Around):Prop where
 hd:A.handled=none
 dp:A.depth+3*k+5<recursionLimit
 un:A.units+16*k+200<cLine
theorem kL.mono{j k:Nat}{A:Around}(r:kL k A)(h:j≤k):kL j A:=⟨r.hd,by have:=r.dp;omega,by have:=r.un;omega⟩
theorem kL.deeper{k:Nat}{A:Around}(r:kL (k+1) A)(env:Env):kL k (A.deeper env) :=
 ⟨r.hd,by have:=r.dp;show A.depth+1+3*k+5<_;omega,by have:=r.un;show A.units+3+16*k+200<_;omega⟩
theorem Gq{A:Around}{C:Addr}{us:List Value}{kw:List (Str × Value)}:(A.under (.builtin "type.__call__" ⟨.ref C::us,kw⟩)).depth=A.depth+1:=by
 first|rfl|simp[Around.under,Code.weight,Code.isCreation,Code.isGuard,Code.isCaller,Code.frames,Code.isFrame,guardIds]
theorem Gr{A:Around}{C:Addr}{us:List Value}{kw:List (Str × Value)}:(A.under (.builtin "type.__call__" ⟨.ref C::us,kw⟩)).units=A.units+1:=by
 first|rfl|simp[Around.under,Code.cUnits,Code.frames,Code.isFrame]
theorem kL.make{k:Nat}{A:Around}(r:kL (k+1) A)(C:Addr)(us:List Value)(kw:List (Str × Value)):kL k (A.under (.builtin "type.__call__" ⟨.ref C::us,kw⟩)) :=
 ⟨r.hd,by have:=r.dp;rw[Gq];omega,by have:=r.un;rw[Gr];omega⟩
theorem kL.depth{k:Nat}{A:Around}(r:kL k A):A.depth<recursionLimit:=by have:=r.dp;omega
theorem kL.units{k:Nat}{A:Around}(r:kL k A):A.units+64<cLine:=by have:=r.un;omega
def CH:TA:=fun _ H Q=>Q [] H
def OS(ta:TE)(tr:TA):TA:=fun σ H Q=>ta σ H fun x H1=>tr σ H1 fun xs H2=>Q (x::xs) H2
section
variable {X:Cx} {e:Expr} {es:List Expr} {te:TE} {t:TA} {pos:Pos}
theorem ah:PA X [] CH:=fun _ _ _ _ H Q I h=>Calls.spliced_nil ⟨[],H,I,.nil,h⟩
theorem aa(ha:PE X e te)(hr:PA X es t)(hs:starEach (e::es) X.env=(false,eval e X.env)::starEach es X.env:=by rfl):PA X (e::es) (OS te t):=by
 intro pos pins s σ H Q I h
 rw[hs]
 show wpAny _ _ (spliced ((false,eval e X.env)::backTo pos (starEach es X.env))) _ _ s
 refine Calls.spliced_cons (cz (ha pins s σ H _ I h) fun u s1 ⟨x,H1,I1,r1,q1⟩=>?_)
 exact cz (hr pos pins s1 σ H1 _ I1 q1) fun us s2 ⟨xs,H2,I2,r2,q2⟩=>⟨x::xs,H2,I2,.cons r1 r2,q2⟩
def WQ(t:TA):TE:=fun σ H Q=>t σ H fun xs H1=>xs.length≤sizeLine∧∀ p,H1 p=none→Q (.ref p) (upd H1 p (.tup xs))
def Jo(t:TA):TE:=fun σ H Q=>t σ H fun xs H1=>xs.length≤sizeLine∧∀ p,H1 p=none→Q (.ref p) (upd H1 p (.lst xs))
theorem eK{x1}(h:PA X es t):PE X (.Tuple es x1 pos) (WQ t):=by
 intro pins s σ H Q I hq
 refine wpAny_Tuple_spliced (cz (h pos pins s σ H _ I hq) fun us s1 ⟨xs,H1,I1,r,z,q⟩=>⟨by rw[← r.length];exact z,?_⟩)
 have hf:H1 s1.heap.objs.size=none:=I1.hok.fresh (iC _)
 refine⟨.ref s1.heap.objs.size,upd H1 s1.heap.objs.size (.tup xs),I1.laid (t':=s1.toks) (fun b u e=>Heap.get?_push_of_some _ e) (iC _) ?_,rfl,q _ hf⟩
 exact⟨z,us,r,⟨_,Heap.get?_push_size _ rfl,rfl,_,rfl⟩⟩
theorem bJ(h:PA X es t):PE X (.List es pos) (Jo t):=by
 intro pins s σ H Q I hq
 refine wpAny_List_spliced (cz (h pos pins s σ H _ I hq) fun us s1 ⟨xs,H1,I1,r,z,q⟩=>⟨by rw[← r.length];exact z,?_⟩)
 have hf:H1 s1.heap.objs.size=none:=I1.hok.fresh (iC _)
 refine⟨.ref s1.heap.objs.size,upd H1 s1.heap.objs.size (.lst xs),I1.laid (t':=s1.toks) (fun b u e=>Heap.get?_push_of_some _ e) (iC _) ?_,rfl,q _ hf⟩
 exact⟨z,us,0,r,Heap.get?_push_size _ rfl⟩
end
abbrev Sp:=List V→Hp→VK→XK→Prop
abbrev KR:=List Env→Hp→Shared→XK→Value→Shared→Prop
structure Gs(P:Program)(w:World)(K:PySem.W.Frag)(mg:Str→Option Value)(base:Heap)(A:Around)(outer:List Env)(s:Shared)(H:Hp):Prop where
 frames:A.frames=some outer
 mod:Mod K mg base
 bs:∀ b o,base.get? b=some o→s.heap.get? b=some o∧H b=none
 Nf:base.objs.size≤s.heap.objs.size
 vF:s.heap.FunFrames base outer
 P0:∀ b∈frs outer,H b=none
 hok:tw P w H s.heap
 bare:AllBare s.gens
def CE(outer:List Env)(P:Program)(w:World)(H:Hp)(s:Shared)(Q:VK)(u:Value)(s':Shared):Prop :=
 ∃ v H',s'.os=s.os∧AllBare s'.gens∧Un (frs outer) [] H H' s.heap s'.heap∧tw P w H' s'.heap∧RelV v u∧Q v H'
def CR(CX:KR)(outer:List Env)(P:Program)(w:World)(H:Hp)(s:Shared)(Q:VK)(E:XK)(r:Result)(s':Shared):Prop :=
 match r with
 | .ok (.ret u)=>CE outer P w H s Q u s'
 | .ok _=>False
 | .error e=>CX outer H s E e s'
structure aB(P:Program)(w:World)(K:PySem.W.Frag)(mg:Str→Option Value)(base:Heap)(CX:KR)(k:Nat)(f:Addr)(fd:FuncData)(ps:List Str)(sp:Sp):Prop where
 len:∀ vs H Q E,sp vs H Q E→vs.length=ps.length
 run:∀ (A:Around) (outer:List Env) (s:Shared) (H:Hp) (args:Args) (us:List Value) (vs:List V) (Q:VK) (E:XK),kL k A→Gs P w K mg base A outer s H→BindsTo s fd args (ps.zip us)→Vals vs us→sp vs H Q E →
  codeAny (model P w) A (.call (.ref f) args) (CR CX outer P w H s Q E) s
theorem Gs.make{P:Program}{w:World}{K:PySem.W.Frag}{mg:Str→Option Value}{base:Heap}{A:Around}{outer:List Env}{s:Shared}{H:Hp}(e:Gs P w K mg base A outer s H)(C:Addr)(us:List Value)(kw:List (Str × Value)) :
  Gs P w K mg base (A.under (.builtin "type.__call__" ⟨.ref C::us,kw⟩)) outer s H:=⟨by first|exact e.frames|(simpa [Around.under,Code.envs,Code.isFrame,pushEnvs] using e.frames),e.mod,e.bs,e.Nf,e.vF,e.P0,e.hok,e.bare⟩
section
variable {X:Cx} {pins:List (Addr × Obj)} {σ:St} {H:Hp} {s s':Shared}
theorem Inv.SQ(I:Inv X pins σ H s):Gs X.prog X.w X.K X.mg X.base X.A X.stack s H :=
 ⟨I.ok.frames,I.ok.mod,I.bs,lV I.ok.Nf I.sz,I.stack,I.vG,I.hok,I.bare⟩
theorem Inv.after{Q:VK}{u:Value}(I:Inv X pins σ H s)(h:CE X.stack X.prog X.w H s Q u s'):EP X pins σ Q u s':=by
 obtain⟨v,H',os,bare,un,hok,r,q⟩:=h
 obtain⟨hh,g,d,t,os'⟩:=s'
 obtain rfl:os'=s.os:=os
 exact⟨v,H',I.call (h':=hh) (g':=g) (d':=d) (t':=t) (ch:=[]) un hok bare (fun b z=>absurd z (by simp)),r,q⟩
end
def Eu(sp:Sp)(zx:List V)(E:XK)(t:TA):TE:=fun σ H Q=>t σ H fun vs H1=>sp (vs++zx) H1 Q E
inductive SR(C:Addr)(m:Str)(x:V)(H:Hp)(N:Prop):Prop
 | mk (a dx:Addr) (fs:List (Str × V)) (_:x=.ref a) (_:H a=some (.ins C dx fs)) (_:fs.lookup m=none) (_:N):SR C m x H N
def OT(C:Addr)(m:Str)(sp:Sp)(zx:List V)(E:XK)(ta:TE)(t:TA):TE:=fun σ H Q=>ta σ H fun x H1=>SR C m x H1 (t σ H1 fun vs H2=>sp (x::(vs++zx)) H2 Q E)
def SS(C:Addr)(sp:Sp)(zx:List V)(E:XK)(t:TA):TE:=fun σ H Q=>t σ H fun vs H1=>∀ x dx,H1 x=none→H1 dx=none→dx≠x →
 sp (.ref x::(vs++zx)) (upd (upd H1 dx (.own x)) x (.ins C dx [])) (fun v H2=>v=.jJ∧Q (.ref x) H2) E
def Binds(K:PySem.W.Frag)(fd:FuncData)(ps:List Str)(ds:List Value):Prop :=
 ∀ (s:Shared) (us:List Value),K.In s.heap→(us++ds).length=ps.length→BindsTo s fd ⟨us,[]⟩ (ps.zip (us++ds))
theorem Binds.all{K:PySem.W.Frag}{fd:FuncData}{ps:List Str}(h:∀ us:List Value,us.length=ps.length→bindArgs fd ⟨us,[]⟩=pure (ps.zip us)):Binds K fd ps []:=fun s us _ hl=>by
 rw[nA]at hl ⊢
 exact .of_eq (h us hl)
def Passes(CX:KR)(X:Cx)(E:XK):Prop:=∀ (pins:List (Addr × Obj)) (σ:St) (H:Hp) (s:Shared) (e:Value) (s':Shared),Inv X pins σ H s→CX X.stack H s E e s'→X.xe e s'
section
variable {X:Cx} {CX:KR} {k:Nat} {f C:Addr} {fd:FuncData} {ps:List Str} {sp:Sp} {zx:List V} {ds:List Value} {E:XK} {x m:Str} {p pos apos:Pos} {e o:Expr} {es:List Expr} {ta:TE} {t:TA}
theorem CJ{pins:List (Addr × Obj)}{σ:St}{H:Hp}{s:Shared}{Q:VK}{us:List Value}{vs:List V}(F:aB X.prog X.w X.K X.mg X.base CX k f fd ps sp)(hr:kL k X.A)(hb:Binds X.K fd ps ds)(hd:Vals zx ds)(hx:Passes CX X E)
  (I:Inv X pins σ H s) (r:Vals vs us) (h:sp (vs++zx) H Q E):wpAny (model X.prog X.w) X.A (call (.ref f) us) (EP X pins σ Q) X.xe s:=by
 have r2:Vals (vs++zx) (us++ds):=r.append hd
 have hl:(us++ds).length=ps.length:=by rw[← r2.length];exact F.len _ _ _ _ h
 refine wpAny_call (codeAny_mono (F.run X.A X.stack s H ⟨us,[]⟩ (us++ds) (vs++zx) Q E hr I.SQ (hb s us I.xW hl) r2 h) fun r s' hq=>?_)
 cases r with
 | error e=>exact hx pins σ H s e s' I hq
 | ok fl =>
  cases fl with
  | ret u=>exact I.after hq
  | next=>exact False.elim hq
  | brk=>exact False.elim hq
  | cont=>exact False.elim hq
theorem CK(F:aB X.prog X.w X.K X.mg X.base CX k f fd ps sp)(hr:kL k X.A)(hg:Gl X x)(hm:X.mg x=some (.ref f))(hk:PySem.W.keepIn X.K (.ref f)=true)(hb:Binds X.K fd ps ds)(hd:Vals zx ds)(hx:Passes CX X E)
  (ha:PA X (e::es) t) (hdb:(x == ("__debug__":Str))=false:=by decide) (he:starEach (e::es) X.env=(false,eval e X.env)::starEach es X.env:=by rfl) (hpl:(backTo pos (starEach es X.env)).any (·.1)=false:=by rfl) :
  PE X (.Call (.Name x p) (e::es) [] pos) (Eu sp zx E t):=by
 intro pins s σ H Q I h
 refine wpAny_Call_Name_kw (vH I hg hm ?_ hdb)
 refine PySem.W.callWith_K (h₀:=X.base) I.ok.mod.Sn hk (cz (ha pos pins s σ H _ I h) fun us s1 ⟨vs,H1,I1,r,q⟩=>⟨I1.xW,?_⟩) he hpl
 exact CJ F hr hb hd hx I1 r q
theorem KS(F:aB X.prog X.w X.K X.mg X.base CX k f fd ps sp)(hr:kL k X.A)(hg:Gl X x)(hm:X.mg x=some (.ref f))(hk:PySem.W.keepIn X.K (.ref f)=true)(hb:Binds X.K fd ps ds)(hd:Vals zx ds)(hx:Passes CX X E)
  (hdb:(x == ("__debug__":Str))=false:=by decide):PE X (.Call (.Name x p) [] [] pos) (Eu sp zx E CH):=by
 intro pins s σ H Q I h
 refine wpAny_Call_Name_kw (vH I hg hm ?_ hdb)
 exact PySem.W.callWith_K0 I.xW hk (CJ (us:=[]) F hr hb hd hx I .nil h)
theorem cI{pl:Sem Bool}(he:PE X o ta)(c:Bw X.K C)(hm:Meth X.K C m f)(F:aB X.prog X.w X.K X.mg X.base CX k f fd ps sp)(hr:kL k X.A)(hb:Binds X.K fd ps ds)(hd:Vals zx ds)(hx:Passes CX X E)(ha:PA X (e::es) t)
  (hst:starEach (e::es) X.env=(false,eval e X.env)::starEach es X.env:=by rfl) (hpl:(backTo pos (starEach es X.env)).any (·.1)=false:=by rfl)
  (ht:eval (.Call (.Attribute o m apos) (e::es) [] pos) X.env=(do
   let ov ← eval o X.env
   standAt apos.atName
   let (f,first) ← holding [ov] (getMethod ov m pl)
   callWith pos f first (backTo pos (starEach (e::es) X.env)) (backToKw pos (keywordEach [] X.env))):=by rfl) :
  PE X (.Call (.Attribute o m apos) (e::es) [] pos) (OT C m sp zx E ta t):=by
 intro pins s σ H Q I h
 refine PySem.W.methodCall_KW (pl:=pl) (cz (he pins s σ H _ I h) fun u s1 ⟨x,H1,I1,rx,a,dx,fs,ex,ea,l,q⟩=>?_) ht
 subst ex
 obtain rfl:u=Value.ref a:=rx
 refine zu I1 ea c hm l ?_
 refine PySem.W.callWith_K (first:=[.ref a]) (h₀:=X.base) I.ok.mod.Sn hm.kp (cz (ha pos pins s1 σ H1 _ I1 q) fun us s2 ⟨vs,H2,I2,r,q2⟩=>⟨I2.xW,?_⟩) hst hpl
 exact CJ (us:=.ref a::us) (vs:=.ref a::vs) F hr hb hd hx I2 (.cons rfl r) q2
theorem cV{pl:Sem Bool}(he:PE X o ta)(c:Bw X.K C)(hm:Meth X.K C m f)(F:aB X.prog X.w X.K X.mg X.base CX k f fd ps sp)(hr:kL k X.A)(hb:Binds X.K fd ps ds)(hd:Vals zx ds)(hx:Passes CX X E)
  (ht:eval (.Call (.Attribute o m apos) [] [] pos) X.env=(do
   let ov ← eval o X.env
   standAt apos.atName
   let (f,first) ← holding [ov] (getMethod ov m pl)
   callWith pos f first (backTo pos (starEach [] X.env)) (backToKw pos (keywordEach [] X.env))):=by rfl) :
  PE X (.Call (.Attribute o m apos) [] [] pos) (OT C m sp zx E ta CH):=by
 intro pins s σ H Q I h
 refine PySem.W.methodCall_KW (pl:=pl) (cz (he pins s σ H _ I h) fun u s1 ⟨x,H1,I1,rx,a,dx,fs,ex,ea,l,q⟩=>?_) ht
 subst ex
 obtain rfl:u=Value.ref a:=rx
 refine zu I1 ea c hm l ?_
 exact PySem.W.callWith_K0 (first:=[.ref a]) I1.xW hm.kp (CJ (us:=[.ref a]) (vs:=[.ref a]) F hr hb hd hx I1 (.cons rfl .nil) q)
structure Mk(K:PySem.W.Frag)(C f:Addr):Prop where
 makes:PySem.W.makesIn K C=true
 init:PySem.W.findIn K (.ref C) "__init__"=some (some (.ref f))
 fn:PySem.W.isFn K (.ref f)=true
 kp:PySem.W.keepIn K (.ref C)=true
theorem KU{pins:List (Addr × Obj)}{σ:St}{H:Hp}{s:Shared}{Q:VK}{us:List Value}{vs:List V}(M:Mk X.K C f)(F:aB X.prog X.w X.K X.mg X.base CX k f fd ps sp)(hr:kL (k+1) X.A)(hb:Binds X.K fd ps ds)(hd:Vals zx ds)
  (hx:Passes CX X E) (I:Inv X pins σ H s) (r:Vals vs us)
  (h:∀ x dx,H x=none→H dx=none→dx≠x→sp (.ref x::(vs++zx)) (upd (upd H dx (.own x)) x (.ins C dx [])) (fun v H2=>v=.jJ∧Q (.ref x) H2) E) :
  wpAny (model X.prog X.w) X.A (call (.ref C) us) (EP X pins σ Q) X.xe s:=by
 have hq:=h (s.heap.objs.size+1) s.heap.objs.size (I.hok.fresh (Nat.le_succ _)) (I.hok.fresh (iC _)) (kQ (Nat.lt_succ_self _))
 have I2:=Inv.made (C:=C) I
 have r2:Vals (V.ref (s.heap.objs.size+1)::(vs++zx)) (Value.ref (s.heap.objs.size+1)::(us++ds)):=.cons rfl (r.append hd)
 have hl:(Value.ref (s.heap.objs.size+1)::us++ds).length=ps.length:=by
  have e:=r2.length
  rw[F.len _ _ _ _ hq]at e
  exact e.symm
 refine wpAny_call (KQ (f:=f) I.xW M.makes M.init (beq_iff_eq.mp M.fn) (codeAny_mono (F.run _ X.stack _ _ ⟨Value.ref (s.heap.objs.size+1)::us,[]⟩ (Value.ref (s.heap.objs.size+1)::(us++ds)) _ _ E (hr.make C us [])
  (I2.SQ.make C us []) (hb _ (Value.ref (s.heap.objs.size+1)::us) I2.xW hl) r2 hq) fun r s' hq'=>?_))
 cases r with
 | error e=>exact hx pins σ _ _ e s' I2 hq'
 | ok fl =>
  cases fl with
  | ret u =>
   obtain⟨v,H',I3,rv,ev,q3⟩:=I2.after hq'
   subst ev
   exact⟨rv,⟨V.ref (s.heap.objs.size+1),H',I3,rfl,q3⟩⟩
  | next=>exact False.elim hq'
  | brk=>exact False.elim hq'
  | cont=>exact False.elim hq'
theorem qx(M:Mk X.K C f)(F:aB X.prog X.w X.K X.mg X.base CX k f fd ps sp)(hr:kL (k+1) X.A)(hg:Gl X x)(hm:X.mg x=some (.ref C))(hb:Binds X.K fd ps ds)(hd:Vals zx ds)(hx:Passes CX X E)
  (hdb:(x == ("__debug__":Str))=false:=by decide):PE X (.Call (.Name x p) [] [] pos) (SS C sp zx E CH):=by
 intro pins s σ H Q I h
 refine wpAny_Call_Name_kw (vH I hg hm ?_ hdb)
 exact PySem.W.callWith_K0 I.xW M.kp (KU (us:=[]) M F hr hb hd hx I .nil h)
end
structure aG(N P:List Str)(sc:Scope):Prop where
 kind:sc.kind=.function
 co:sc.isCoroutine=false
 gen:sc.isGenerator=false
 nd:N.Nodup
 pre:N.take P.length=P
 par:∀ x∈P,sc.names.lookup x=some .local∨sc.names.lookup x=some .cell
 Qi:∀ y∈sc.names,y.2≠.free
theorem Bx{kindOf:Str→Option NameKind}{x:Str}:∀ {binds:List (Str × Value)} {m:Str→Option Value},(∀ v,(x,v)∉binds)→bindL kindOf binds m x=m x
 | [],_,_=>rfl
 | (n,v)::r,m,h=>by
  unfold bindL
  rw[Bx fun w hw=>h w (rX _ hw)]
  split
  ·have:x≠n:=by rintro rfl;exact h v rS
   simp[this]
  ·rfl
theorem By{kindOf:Str→Option NameKind}{x:Str}:∀ {binds:List (Str × Value)} {m:Str→Option Value},(∀ v,(x,v)∉binds)→bindC kindOf binds m x=m x
 | [],_,_=>rfl
 | (n,v)::r,m,h=>by
  unfold bindC
  rw[By fun w hw=>h w (rX _ hw)]
  split
  ·rfl
  ·have:x≠n:=by rintro rfl;exact h v rS
   simp[this]
theorem BA{kindOf:Str→Option NameKind}{x:Str}{v:Value}:∀ {P:List Str} {vs:List Value} {i:Nat} {m:Str→Option Value},P.Nodup→P[i]?=some x→vs[i]?=some v→kindOf x=some .local →
  bindL kindOf (P.zip vs) m x=some v
 | [],_,_,_,_,h,_,_=>by simp at h
 | _::_,[],_,_,_,_,h,_=>by simp at h
 | p::P,w::vs,0,m,nd,h1,h2,hk=>by
  simp at h1 h2;subst h1;subst h2
  show bindL kindOf ((p,w)::P.zip vs) m p=_
  unfold bindL
  rw[Bx fun v hv=>(List.nodup_cons.mp nd).1 (List.of_mem_zip hv).1,if_pos hk]
  simp
 | p::P,w::vs,i+1,m,nd,h1,h2,hk=>by
  show bindL kindOf ((p,w)::P.zip vs) m x=_
  unfold bindL
  exact BA (i:=i) (List.nodup_cons.mp nd).2 (by simpa using h1) (by simpa using h2) hk
theorem BB{kindOf:Str→Option NameKind}{x:Str}{v:Value}:∀ {P:List Str} {vs:List Value} {i:Nat} {m:Str→Option Value},P.Nodup→P[i]?=some x→vs[i]?=some v→kindOf x≠some .local →
  bindC kindOf (P.zip vs) m x=some v
 | [],_,_,_,_,h,_,_=>by simp at h
 | _::_,[],_,_,_,_,h,_=>by simp at h
 | p::P,w::vs,0,m,nd,h1,h2,hk=>by
  simp at h1 h2;subst h1;subst h2
  show bindC kindOf ((p,w)::P.zip vs) m p=_
  unfold bindC
  rw[By fun v hv=>(List.nodup_cons.mp nd).1 (List.of_mem_zip hv).1,if_neg hk]
  simp
 | p::P,w::vs,i+1,m,nd,h1,h2,hk=>by
  show bindC kindOf ((p,w)::P.zip vs) m x=_
  unfold bindC
  exact BB (i:=i) (List.nodup_cons.mp nd).2 (by simpa using h1) (by simpa using h2) hk
def start(N:List Str)(vs:List V):St:=vs.map some++List.replicate (N.length-vs.length) none
def Gu(CX:KR)(P:Program)(w:World)(K:PySem.W.Frag)(mg:Str→Option Value)(base:Heap)(N:List Str)(qual:Str)(scope:Scope)(f:Addr)(cd:Value)(A:Around)(outer:List Env)(s:Shared)(H:Hp)(E:XK):Cx where
 prog:=P
 w:=w
 K:=K
 mg:=mg
 base:=base
 A:=A.deeper (envOfC qual scope s.heap.objs.size f cd)
 N:=N
 s₀:=s
 H₀:=H
 env:=envOfC qual scope s.heap.objs.size f cd
 outer:=outer
 stack:=envOfC qual scope s.heap.objs.size f cd::outer
 ex:=[]
 calm:=true
 fn:=fun _=>true
 pn:=[]
 xe:=fun e s'=>wpAny (model P w) (A.deeper (envOfC qual scope s.heap.objs.size f cd)) (leaving (envOfC qual scope s.heap.objs.size f cd) e) (fun _ s''=>CX outer H s E e s'') (fun e' s''=>CX outer H s E e' s'') s'
theorem Ew{sc:Scope}{n:Nat}{x:Str}(h:sc.names.lookup x=some .cell):∃ c,(cellsFrom n sc.names []).lookup x=some c:=by
 have q:=PySem.W.cellsFrom_some sc.names n [] (.inl h)
 exact Option.isSome_iff_exists.mp q
theorem Jp{CX:KR}{P:Program}{w:World}{K:PySem.W.Frag}{mg:Str→Option Value}{base:Heap}{N ps:List Str}{qual:Str}{scope:Scope}{f:Addr}{cd:Value}{A:Around}{outer:List Env}{s s1:Shared}{H:Hp}{E:XK}{us:List Value}{vs:List V}
  (S:aG N ps scope) (hd:A.handled=none) (e0:Gs P w K mg base A outer s H) (hl:vs.length=ps.length) (r:Vals vs us)
  (x:InCallC s s.heap.objs.size (bindL (envOfC qual scope s.heap.objs.size f cd).kindOf (ps.zip us) fun _=>none) (cellsFrom (s.heap.objs.size+1) scope.names []) (bindC (envOfC qual scope s.heap.objs.size f cd).kindOf (ps.zip us) fun _=>none) s1) :
  Inv (Gu CX P w K mg base N qual scope f cd A outer s H E) [] (start N vs) H s1:=by
 have hpl:ps.length≤N.length:=by have:=congrArg List.length S.pre;rw[kK]at this;omega
 obtain⟨h1,tk,rfl,hk⟩:=x.done
 have SV:∀ b:Addr,b∉(Gu CX P w K mg base N qual scope f cd A outer s H E).ex:=fun b z=>absurd (show b∈([]:List Addr) from z) (by simp)
 refine⟨⟨e0.mod,S.kind,rfl,rfl,iC _,fun y z c h1 h2=>?_,fun y hy=>?_,fun y c _ h=>?_,fun _=>hd,Around.frames_deeper e0.frames,.inr ⟨rfl,rfl⟩,fun b z=>absurd z (SV b),e0.bs,e0.Nf,fun b _ _=>SV b,fun b z=>absurd z (SV b),e0.vF,e0.P0⟩,
  rfl,e0.bare,Un.kept hk,⟨_,x.toInCall.ns,fun i y v h1 h2 h3=>?_⟩,fun y c h=>⟨_,x.cell y c h⟩,e0.hok.fresh (iC _),fun y c h=>?_,fun p hp=>absurd (show p∈([]:List (Addr × Obj)) from hp) (by simp),e0.hok.kept hk,?_⟩
 ·exact name_of_addr x.apart (PySem.mem_of_lookup h1) (PySem.mem_of_lookup h2)
 ·have hy:scope.names.lookup y=some .cell∨scope.names.lookup y=some .free:=hy
  rcases hy with hy|hy
  ·exact Ew hy
  ·exact absurd rfl (S.Qi _ (PySem.mem_of_lookup hy))
 ·exact jI (x.above y c (PySem.mem_of_lookup h))
 ·have hi:i<vs.length:=by
   unfold start at h2
   by_cases hi:i<vs.length
   ·exact hi
   ·rw[List.getElem?_append_right (by simpa using hi)]at h2
    rw[List.getElem?_replicate]at h2
    split at h2 <;> cases h2
  have ha:vs[i]?=some v:=by
   unfold start at h2
   rw[AY (by simpa using hi),kM]at h2
   cases e:vs[i]? with
   | none=>rw[e]at h2;cases h2
   | some a=>rw[e]at h2;cases h2;rfl
  obtain⟨u,hu,rv⟩:=r.get ha
  have hp:ps[i]?=some y:=by
   rw[← S.pre,List.getElem?_take_of_lt (by omega)];exact h1
  have ndP:ps.Nodup:=by rw[← S.pre];exact S.nd.sublist (List.take_sublist _ _)
  refine⟨u,rv,?_⟩
  rcases S.par y (vB hp) with k|k
  ·exact .inl ⟨k,BA ndP hp hu k⟩
  ·obtain⟨c,e⟩:=Ew (n:=s.heap.objs.size+1) k
   refine .inr ⟨.inl k,c,e,?_⟩
   have q:=x.cell y c e
   rw[BB ndP hp hu (by show scope.names.lookup y≠_;rw[k];decide)]at q
   exact q
 ·exact e0.hok.fresh (jI (x.above y c (PySem.mem_of_lookup h)))
 ·unfold start
  show _=N.length
  rw[eG,cO,yy]
  omega
theorem OU{CX:KR}{P:Program}{w:World}{K:PySem.W.Frag}{mg:Str→Option Value}{base:Heap}{k:Nat}{f:Addr}{name qual:Str}{params:Arguments}{body:List Stmt}{scope:Scope}{dV kV doc pm cdv ct oc:Value}{an od:Option Addr}
  {osl:Array (Option Value)} {N ps:List Str} {sp:Sp} (lk:K.lookup f=some ⟨oc,od,.func (PySem.W.fnOf name qual params body scope dV kV doc pm an cdv ct),osl⟩) (hcd:PySem.W.codeIn K cdv qual=true) (S:aG N ps scope)
  (len:∀ vs H Q E,sp vs H Q E→vs.length=ps.length)
  (hbody:∀ (A:Around) (outer:List Env) (s:Shared) (H:Hp) (vs:List V) (Q:VK) (E:XK),kL k (A.deeper (envOfC qual scope s.heap.objs.size f cdv))→sp vs H Q E →
   ∃ t,HH (Gu CX P w K mg base N qual scope f cdv A outer s H E) body t∧t { nx:=fun _ H'=>Q .jJ H',rt:=Q } (start N vs) H) :
  aB P w K mg base CX (k+1) f (PySem.W.fnOf name qual params body scope dV kV doc pm an cdv ct) ps sp:=by
 refine⟨len,fun A outer s H args us vs Q E hr e0 hb r Gv=>?_⟩
 have hl:=len _ _ _ _ Gv
 have KX:K.In s.heap:=e0.mod.Sn.keeps fun b o e=>(e0.bs b o e).1
 have lim:s.heap.NoLimit:=e0.mod.nolimit.keeps fun b o e=>(e0.bs b o e).1
 have hkind:∀ y∈ps.zip us,scope.names.lookup y.1=some .local∨(scope.names.lookup y.1=some .cell∧((cellsFrom (s.heap.objs.size+1) scope.names []).lookup y.1).isSome=true):=fun ⟨n,v⟩ hy=>by
  rcases S.par n (List.of_mem_zip hy).1 with q|q
  ·exact .inl q
  ·exact .inr ⟨q,PySem.W.cellsFrom_some _ _ _ (.inl q)⟩
 refine codeAny_call_function hr.depth (KX _ _ lk) rfl S.co S.gen rfl (PySem.W.codeRec_of KX hcd) (hb _ _ _ _ ?_)
 refine wpAny_newFunctionEnv_cells S.kind hkind fun env he s1 x=>?_
 subst he
 refine⟨lim.keeps x.toInCall.keep,codeAny_func ?_⟩
 obtain⟨t,ht,hq⟩:=hbody A outer s H vs Q E (hr.deeper _) Gv
 have I:Inv (Gu CX P w K mg base N qual scope f cdv A outer s H E) [] (start N vs) H s1:=Jp S hr.hd e0 hl r x
 refine wpAny_mono (ht [] s1 (start N vs) H _ I hq) (fun fl s' hs=>?_) fun e s' hs=>hs
 have fin:∀ {σ':St} {H':Hp} {v:V} {u:Value},Inv (Gu CX P w K mg base N qual scope f cdv A outer s H E) [] σ' H' s'→RelV v u→Q v H'→CE outer P w H s Q u s' :=
  fun {σ' H' v u} J rv q=>⟨v,H',J.os,J.bare,J.base,J.hok,rv,q⟩
 cases fl with
 | ret u =>
  obtain⟨v,σ',H',J,rv,q⟩:=hs
  exact fin J rv q
 | next =>
  obtain⟨σ',H',J,q⟩:=hs
  exact fin (v:=V.jJ) (u:=Value.none) J rfl q
 | brk =>
  obtain⟨_,_,_,q⟩:=hs
  exact False.elim q
 | cont =>
  obtain⟨_,_,_,q⟩:=hs
  exact False.elim q
end L2
namespace L2
open PySem PySem.Spec PyProof.Rows
section
variable {X:Cx} {x:Str} {p pos:Pos} {e:Expr} {es:List Expr} {t:TA} {id T:String} {r:List V→Hp→VK→Prop}
def tCB(r:List V→Hp→VK→Prop)(t:TA):TE:=fun σ H Q=>t σ H fun vs H1=>r vs H1 Q
theorem aV(hc:nJ X (.builtin id) r)(hg:Gl X x)(hm:X.mg x=none)(hv:bootBuiltins x=some (.builtin id))(ha:PA X (e::es) t)(hn:x≠"__name__":=by decide)(hdb:(x == ("__debug__":Str))=false:=by decide)
  (he:starEach (e::es) X.env=(false,eval e X.env)::starEach es X.env:=by rfl) (hpl:(backTo pos (starEach es X.env)).any (·.1)=false:=by rfl):PE X (.Call (.Name x p) (e::es) [] pos) (tCB r t):=by
 intro pins s σ H Q I h
 refine wpAny_Call_Name_kw (zg I hg hm hv ?_ hn hdb)
 exact PyProof.Rows.callWith_builtin1 (cz (ha pos pins s σ H _ I h) fun us s1 ⟨vs,H1,I1,r1,q1⟩=>hc pins s1 σ H1 vs us Q I1 r1 q1) he hpl
theorem eV(hc:nJ X (.type T) r)(hg:Gl X x)(hm:X.mg x=none)(hv:bootBuiltins x=some (.type T))(ha:PA X (e::es) t)(hn:x≠"__name__":=by decide)(hdb:(x == ("__debug__":Str))=false:=by decide)
  (he:starEach (e::es) X.env=(false,eval e X.env)::starEach es X.env:=by rfl) (hpl:(backTo pos (starEach es X.env)).any (·.1)=false:=by rfl):PE X (.Call (.Name x p) (e::es) [] pos) (tCB r t):=by
 intro pins s σ H Q I h
 refine wpAny_Call_Name_kw (zg I hg hm hv ?_ hn hdb)
 exact PyProof.Rows.callWith_type1 (cz (ha pos pins s σ H _ I h) fun us s1 ⟨vs,H1,I1,r1,q1⟩=>hc pins s1 σ H1 vs us Q I1 r1 q1) he hpl
end
end L2
namespace HT
open PySem PyProof.Rows
section
variable {prog:Program} {w:World} {A:Around} {E:Value→Shared→Prop} {s:Shared}
def j4(n d:Nat):Option Int→Nat
 | none=>d
 | some v=>if v<0 then (v+(n:Int)).toNat else min v.toNat n
theorem HP(n d k:Nat):j4 n d (some (k:Int))=min k n:=by
 show (if (k:Int)<0 then ((k:Int)+(n:Int)).toNat else min (k:Int).toNat n)=min k n
 rw[if_neg (by omega),Int.toNat_natCast]
theorem Qj(n d:Nat)(hd:d≤n)(o:Option Int):j4 n d o≤n:=by
 cases o with
 | none=>exact hd
 | some v =>
  show (if v<0 then (v+(n:Int)).toNat else min v.toNat n)≤n
  by_cases hv:v<0
  ·rw[if_pos hv];omega
  ·rw[if_neg hv];exact Nat.min_le_right _ _
theorem HQ(v:Int)(n d:Nat):(if v<0 then max (v+(n:Int)) 0 else min v (n:Int))=((j4 n d (some v):Nat):Int):=by
 show (if v<0 then max (v+(n:Int)) 0 else min v (n:Int))=(((if v<0 then (v+(n:Int)).toNat else min v.toNat n):Nat):Int)
 by_cases hv:v<0
 ·simp only[if_pos hv];omega
 ·simp only[if_neg hv];omega
theorem Gw(lo hi:Option Int)(n:Nat):Builtin.Slice.sliceAdjust lo hi 1 (n:Int)=(((j4 n 0 lo:Nat):Int),((j4 n n hi:Nat):Int)):=by
 have h1:¬ ((1:Int)<0):=by omega
 unfold Builtin.Slice.sliceAdjust
 simp only[h1,if_false]
 refine Prod.ext ?_ ?_
 ·cases lo with
  | none=>rfl
  | some v=>exact HQ v n 0
 ·cases hi with
  | none=>rfl
  | some v=>exact HQ v n n
theorem Gx(i j:Nat):Builtin.Slice.slicePlaces (i:Int) (j:Int) 1=j-i:=by
 unfold Builtin.Slice.slicePlaces
 have h1:(1:Int) > 0:=by omega
 simp only[h1,if_true,Int.ediv_one]
 split <;> omega
theorem zy{v:Value}{o:Option Int}{Q:Option Int→Shared→Prop}(p:IsPart v o)(h:Q o s):wpAny (model prog w) A (Builtin.Slice.slicePartIndex v) Q E s:=by
 cases p with
 | none=>exact slicePart_none h
 | int i t=>exact slicePart_int h
theorem wW{sl:Addr}{vl vu:Value}{lo hi:Option Int}{n:Nat}{Q:Int × Int × Nat→Shared→Prop}(hs:s.heap.IsSliceOf sl vl vu .none)(pl:IsPart vl lo)(pu:IsPart vu hi)
  (h:Q (((j4 n 0 lo:Nat):Int),1,j4 n n hi-j4 n 0 lo) s):wpAny (model prog w) A (Builtin.Slice.sliceApplied (.ref sl) (pure (n:Int))) Q E s:=by
 obtain⟨os,hos,hcs,hds⟩:=id hs
 unfold Builtin.Slice.sliceApplied Builtin.Slice.sliceFields
 refine wpAny_bind (wpAny_bind (wpAny_field hos hds (x:=vl) rfl (wpAny_bind (wpAny_field hos hds (x:=vu) rfl (wpAny_bind (wpAny_field hos hds (x:=.none) rfl (wpAny_pure ?_)))))))
 refine wpAny_bind (slicePart_none ?_)
 show wpAny _ _ (if ((1:Int) == 0)=true then _ else _) _ _ s
 rw[if_neg (by decide)]
 refine wpAny_bind (zy pl (wpAny_bind (zy pu (wpAny_bind (wpAny_pure ?_)))))
 show wpAny _ _ (match Builtin.Slice.sliceAdjust lo hi 1 (n:Int) with|(lo,hi)=>pure (lo,(1:Int),Builtin.Slice.slicePlaces lo hi 1)) _ _ s
 rw[Gw lo hi n]
 show wpAny _ _ (pure (((j4 n 0 lo:Nat):Int),(1:Int),Builtin.Slice.slicePlaces ((j4 n 0 lo:Nat):Int) ((j4 n n hi:Nat):Int) 1)) _ _ s
 rw[Gx]
 exact wpAny_pure h
theorem KW(xs:Array Value)(i k:Nat):((List.range k).filterMap fun (m:Nat)=>xs[((i:Int)+(m:Int)*1).toNat]?).toArray=((xs.toList.drop i).take k).toArray:=by
 have e:(fun (m:Nat)=>xs[((i:Int)+(m:Int)*1).toNat]?)=fun m=>xs[i+m]?:=by
  funext m
  have:((i:Int)+(m:Int)*1).toNat=i+m:=by omega
  rw[this]
 rw[e]
 have:=pick_run xs i k
 rw[List.filterMap_map]at this
 have e2:((fun x=>xs[x]?) ∘ fun x=>i+x)=fun m=>xs[i+m]?:=rfl
 rw[e2]at this
 rw[this]
theorem vK{t sl:Addr}{items:Array Value}{vl vu:Value}{lo hi:Option Int}{Q:Value→Shared→Prop}(ht:IsTup s.heap t items)(hs:s.heap.IsSliceOf sl vl vu .none)(pl:IsPart vl lo)(pu:IsPart vu hi)
  (hw:¬ (j4 items.size 0 lo=0∧j4 items.size items.size hi=items.size))
  (h:Q (.ref s.heap.objs.size) { s with heap:=s.heap.push { cls:=.type "tuple",data:=.seq ((items.toList.drop (j4 items.size 0 lo)).take (j4 items.size items.size hi-j4 items.size 0 lo)).toArray } })
  (hsz:items.size≤sizeLine):wpAny (model prog w) A (getItem (.ref t) (.ref sl)) Q E s:=by
 have HR:sizeOk (.seq ((items.toList.drop (j4 items.size 0 lo)).take (j4 items.size items.size hi-j4 items.size 0 lo)).toArray):=by
  show ((items.toList.drop (j4 items.size 0 lo)).take (j4 items.size items.size hi-j4 items.size 0 lo)).toArray.size≤sizeLine
  rw[rY,kK,List.length_drop,Array.length_toList]
  omega
 have hj:j4 items.size items.size hi≤items.size:=Qj _ _ (iC _) hi
 obtain⟨os,hos,hcs,hds⟩:=id hs
 have hTs:s.TypeIs (.ref sl) "slice":=⟨os,hos,hcs⟩
 unfold getItem
 try with_reducible refine wpAny_holding ?_
 first|refine wpAny_bind (wpAny_pure ?_)|skip
 refine wpAny_bind (wpAny_sequenceKey ht.typeIs (by decide) ?_)
 refine wpAny_bind (wpAny_callSpecial?_slot (name:=Str.ofString "__getitem__") ht.typeIs PyProof.Rows.slot_tuple_getitem
  (wpAny_call_entry PyProof.Rows.slot_tuple_getitem ht.typeIs entry_tuple_getitem ?_ (args_tuple_getitem _ _)))
 show wpAny _ _ (Builtin.Tuple.tupleItemsOf (.ref t) >>= _) _ _ s
 refine wpAny_bind (tupleItemsOf_ ht ?_)
 refine wpAny_bind (wpAny_typeOf hTs ?_)
 rw[if_pos (by decide)]
 refine wpAny_bind (wW hs pl pu ?_)
 have hno:¬ ((((j4 items.size 0 lo:Nat):Int) == 0&&(1:Int) == 1&&(j4 items.size items.size hi-j4 items.size 0 lo) == items.size)=true):=by
  intro q
  rw[Bool.and_eq_true,Bool.and_eq_true]at q
  have q1:((j4 items.size 0 lo:Nat):Int)=0:=eq_of_beq q.1.1
  have q2:j4 items.size items.size hi-j4 items.size 0 lo=items.size:=eq_of_beq q.2
  exact hw ⟨by omega,by omega⟩
 show wpAny _ _ (if (((j4 items.size 0 lo:Nat):Int) == 0&&(1:Int) == 1&&(j4 items.size items.size hi-j4 items.size 0 lo) == items.size)=true then _ else _) _ _ s
 rw[if_neg hno,KW]
 first
  | exact wpAny_bind (m:=Builtin.Tuple.tupleExact _) (wpAny_newObj_type (wpAny_pure ⟨_,rfl,wpAny_pure h⟩) HR)
  | exact wpAny_bind (m:=Builtin.Tuple.tupleExact _) (wpAny_newObj_type (wpAny_bind (wpAny_pure (wpAny_pure ⟨_,rfl,wpAny_pure h⟩))) HR)
  | exact wpAny_bind (wpAny_bind (m:=Builtin.Tuple.tupleExact _) (wpAny_newObj_type (wpAny_pure (wpAny_pure ⟨_,rfl,wpAny_pure h⟩)) HR))
  | exact wpAny_bind (wpAny_bind (m:=Builtin.Tuple.tupleExact _) (wpAny_newObj_type (wpAny_pure ⟨_,rfl,wpAny_pure h⟩) HR))
end
end HT
namespace L2
open PySem PySem.Spec PyProof.Rows
abbrev TO:=St→Hp→(Option Int→Hp→Prop)→Prop
def PO(X:Cx)(e:Option Expr)(t:TO):Prop :=
 ∀ (pins:List (Addr × Obj)) (s:Shared) (σ:St) (H:Hp) (Q:Option Int→Hp→Prop),Inv X pins σ H s→t σ H Q →
  wpAny (model X.prog X.w) X.A (evalPart e X.env) (fun u s'=>∃ o H',Inv X pins σ H' s'∧IsPart u o∧Q o H') X.xe s
def Nu:TO:=fun _ H Q=>Q none H
def SX(t:TE):TO:=fun σ H Q=>t σ H fun x H1=>isI x H1 Q
theorem intsAre_of{ns:List Int}:∀ {us:List Value},Vals (ns.map V.int) us→IntsAre us ns:=by
 induction ns with
 | nil=>intro us r;rw[List.map_nil]at r;cases r;exact .nil
 | cons n ns ih =>
  intro us r
  rw[lU]at r
  cases r with
  | cons r1 r2 =>
   obtain⟨t,e⟩:=r1
   subst e
   exact .cons n t (ih r2)
section
variable {X:Cx} {e:Expr} {te:TE} {lo hi:Option Expr} {tl th:TO} {pos p2:Pos}
theorem pI:PO X none Nu:=by
 intro pins s σ H Q I h
 rw[evalPart_none]
 exact wpAny_pure ⟨none,H,I,.none,h⟩
theorem mO(h:PE X e te):PO X (some e) (SX te):=by
 intro pins s σ H Q I hw
 rw[evalPart_some]
 refine cz (h pins s σ H _ I hw) fun u s1 ⟨x,H1,I1,r1,q1⟩=>?_
 obtain⟨i,rfl,q⟩:=q1
 obtain⟨t,rfl⟩:=r1
 exact⟨some i,H1,I1,.int i t,q⟩
def WR(X:Cx)(r:V→Option Int→Option Int→Hp→VK→Prop):Prop :=
 ∀ (pins:List (Addr × Obj)) (s:Shared) (σ:St) (H:Hp) (x:V) (v vl vu:Value) (lo hi:Option Int) (sl:Addr) (Q:VK),Inv X pins σ H s→RelV x v→s.heap.IsSliceOf sl vl vu .none→IsPart vl lo→IsPart vu hi→r x lo hi H Q →
  ∃ T id,typeLookup (.type T) "__getitem__"=pure (some (.builtin id))∧s.TypeIs v T∧wpAny (model X.prog X.w) X.A (getItem v (.ref sl)) (EP X pins σ Q) X.xe s
def tSl(r:V→Option Int→Option Int→Hp→VK→Prop)(te:TE)(tl th:TO):TE:=fun σ H Q=>te σ H fun x H1=>tl σ H1 fun l H2=>th σ H2 fun u H3=>r x l u H3 Q
theorem kX{r:V→Option Int→Option Int→Hp→VK→Prop}(hr:WR X r)(he:PE X e te)(hl:PO X lo tl)(hu:PO X hi th):PE X (.Subscript e (.Slice lo hi none p2) pos) (tSl r te tl th):=by
 intro pins s σ H Q I h
 refine Subscript_ (cz (he pins s σ H _ I h) fun v s1 ⟨x,H1,I1,r1,q1⟩=>?_)
 refine wpAny_Slice (cz (hl pins s1 σ H1 _ I1 q1) fun vl s2 ⟨l,H2,I2,pl,q2⟩=>cz (hu pins s2 σ H2 _ I2 q2) fun vu s3 ⟨u,H3,I3,pu,q3⟩=>?_)
 rw[evalPart_none]
 refine wpAny_pure ?_
 have I4:Inv X pins σ H3 { s3 with heap:=s3.heap.push { cls:=.type "slice",data:=.fields #[vl,vu,.none] } }:=I3.kept (t':=s3.toks) fun b ob q=>Heap.get?_push_of_some _ q
 obtain⟨T,id,hT,ht,hg⟩:=hr pins { s3 with heap:=s3.heap.push { cls:=.type "slice",data:=.fields #[vl,vu,.none] } } σ H3 x v vl vu l u s3.heap.objs.size Q I4 r1 (Heap.IsSliceOf.new ..) pl pu q3
 show wpAny (model X.prog X.w) X.A (subscriptTail e (.Slice lo hi none p2) v (.ref s3.heap.objs.size)) (EP X pins σ Q) X.xe { s3 with heap:=s3.heap.push { cls:=.type "slice",data:=.fields #[vl,vu,.none] } }
 exact tail_any (ops:=[.ref s3.heap.objs.size,v]) ht hT hg (by with_unfolding_all rfl)
def jV(xs:List V)(lo hi:Option Int):List V:=(xs.drop (HT.j4 xs.length 0 lo)).take (HT.j4 xs.length xs.length hi-HT.j4 xs.length 0 lo)
theorem xZ(xs:List V)(lo hi:Option Int):(jV xs lo hi).length≤xs.length:=by
 unfold jV
 rw[kK,List.length_drop]
 omega
def WS(K:PySem.W.Frag):V→Option Int→Option Int→Hp→VK→Prop:=fun x lo hi H Q=>∃ a xs,x=.ref a∧jc K H a xs ∧
 ¬ (HT.j4 xs.length 0 lo=0∧HT.j4 xs.length xs.length hi=xs.length)∧∀ p,H p=none→Q (.ref p) (upd H p (.tup (jV xs lo hi)))
theorem Qk:WR X (WS X.K):=by
 intro pins s σ H x v vl vu lo hi sl Q I rx hs pl pu h
 obtain⟨a,xs,rfl,hx,hw,q⟩:=h
 cases rx
 obtain⟨its,r,ht,hz⟩:=I.tuple hx
 have hlen:its.toArray.size=xs.length:=by rw[rY];exact r.length.symm
 refine⟨"tuple",_,PyProof.Rows.slot_tuple_getitem.lookup,ht.typeIs,?_⟩
 refine HT.vK ht hs pl pu (by rw[hlen];exact hw) ?_ (by rw[hlen];exact hz)
 rw[hlen]
 refine⟨.ref s.heap.objs.size,_,I.laid (t':=s.toks) (o:=.tup (jV xs lo hi)) (fun b ob q=>Heap.get?_push_of_some _ q) (iC _) ?_,rfl,q _ (I.hok.fresh (iC _))⟩
 exact⟨Nat.le_trans (xZ xs lo hi) hz,_,(r.drop (HT.j4 xs.length 0 lo)).take (HT.j4 xs.length xs.length hi-HT.j4 xs.length 0 lo),IsTup.new _ _⟩
end
end L2
namespace L2
open PySem PySem.Spec PyProof.Rows
def HS(n:Nat)(i:Int):Option Nat:=if 0≤i then (if i<n then some i.toNat else none) else if -(n:Int)≤i then some (i+n).toNat else none
def wK{α:Type}(xs:List α)(i:Int):Option α:=(HS xs.length i).bind fun j=>xs[j]?
theorem HU{n:Nat}{i:Int}{j:Nat}(h:HS n i=some j):seqIndex? i n=some j∧j<n∧-(n:Int)≤i∧i<n:=by
 unfold HS at h
 by_cases h0:0≤i
 ·rw[if_pos h0]at h
  by_cases h1:i<n
  ·rw[if_pos h1]at h
   have e:i.toNat=j:=sr h
   exact⟨by rw[seqIndex_of h0 h1,e],by omega,by omega,h1⟩
  ·rw[if_neg h1]at h;cases h
 ·rw[if_neg h0]at h
  by_cases h1:-(n:Int)≤i
  ·rw[if_pos h1]at h
   have e:(i+n).toNat=j:=sr h
   exact⟨by rw[seqIndex_neg (by omega) h1,e],by omega,h1,by omega⟩
  ·rw[if_neg h1]at h;cases h
theorem CL{α:Type}{xs:List α}{i:Int}{v:α}(h:wK xs i=some v):∃ j,seqIndex? i xs.length=some j∧xs[j]?=some v∧j<xs.length∧-(xs.length:Int)≤i∧i<xs.length:=by
 unfold wK at h
 cases e:HS xs.length i with
 | none=>rw[e]at h;cases h
 | some j =>
  rw[e]at h
  obtain⟨h1,h2,h3,h4⟩:=HU e
  exact⟨j,h1,h,h2,h3,h4⟩
theorem eL{α:Type}{xs:List α}{j:Nat}{v:α}(h:xs[j]?=some v):wK xs (j:Int)=some v:=by
 have hj:j<xs.length:=(List.getElem?_eq_some_iff.mp h).1
 have e:HS xs.length (j:Int)=some j:=by
  unfold HS
  rw[if_pos (by omega),if_pos (by omega)];simp
 unfold wK;rw[e];exact h
theorem KY{α:Type}(xs:List α)(v:α):wK (xs++[v]) (-1)=some v:=by
 have hl:(xs++[v]).length=xs.length+1:=by simp
 have e:HS (xs++[v]).length (-1)=some xs.length:=by
  unfold HS
  rw[hl,if_neg (by decide),if_pos (by omega)]
  congr 1
  omega
 unfold wK
 rw[e]
 show (xs++[v])[xs.length]?=some v
 simp
def Nv(b:Expr):Prop:=∀ o i,subscripted b false o i=operate [o,i] (getItem o i)
def SY(X:Cx)(r:R2):Prop :=
 ∀ (value slice:Expr) (pins:List (Addr × Obj)) (s:Shared) (σ:St) (H:Hp) (x y:V) (v u:Value) (Q:VK),Inv X pins σ H s→RelV x v→RelV y u→r x y H Q →
  subscripted slice false v u=operate [v,u] (getItem v u)→wpAny (model X.prog X.w) X.A (subscriptTail value slice v u) (EP X pins σ Q) X.xe s
def MtR(X:Cx)(id:String)(r:V→List V→Hp→VK→Prop):Prop :=
 ∀ (pins:List (Addr × Obj)) (s:Shared) (σ:St) (H:Hp) (x:V) (xs:List V) (v:Value) (us:List Value) (Q:VK),Inv X pins σ H s→RelV x v→Vals xs us→r x xs H Q →
  wpAny (model X.prog X.w) X.A (call (.builtin id) (v::us)) (EP X pins σ Q) X.xe s
section
variable {X:Cx} {a b:Expr} {ta tb:TE} {pos:Pos}
theorem bq{r:R2}(hr:SY X r)(ha:PE X a ta)(hb:PE X b tb)(hs:Nv b):PE X (.Subscript a b pos) (Vu r ta tb):=by
 intro pins s σ H Q I h
 exact Subscript_ (Qe ha hb I h fun v u s2 x y H2 I2 rx ry q=>hr a b pins s2 σ H2 x y v u Q I2 rx ry q (hs _ _))
inductive S0(K:PySem.W.Frag)(x y:V)(H:Hp)(Q:VK):Prop
 | mk (p:Addr) (xs:List V) (i:Int) (v:V) (_:x=.ref p) (_:y=.int i) (_:bF K H p xs) (_:wK xs i=some v) (_:Q v H):S0 K x y H Q
inductive Ql(K:PySem.W.Frag)(x y:V)(H:Hp)(Q:VK):Prop
 | mk (p:Addr) (xs:List V) (i:Int) (v:V) (_:x=.ref p) (_:y=.int i) (_:jc K H p xs) (_:wK xs i=some v) (_:Q v H):Ql K x y H Q
def WT:R2:=fun x y H Q=>∃ z i c,x=.str z∧y=.int i∧z.length≤sizeLine∧wK z.cps.toList i=some c∧Q (.str ⟨#[c]⟩) H
theorem bf:SY X (S0 X.K):=by
 intro value slice pins s σ H x y v u Q I rx ry h hs
 obtain⟨p,xs,i,z,rfl,rfl,hq,he,q⟩:=h
 cases rx
 obtain⟨t,rfl⟩:=ry
 obtain⟨its,r,pl,hz⟩:=I.list hq
 obtain⟨j,h1,h2,h3,h4,h5⟩:=CL he
 obtain⟨w,ew,rw'⟩:=r.get h2
 have hl:=r.length
 have hn:=uN
 have fin:EP X pins σ Q w s:=⟨z,H,I,rw',q⟩
 by_cases h0:0≤i
 ·have hj:i.toNat=j:=by
   rw[seqIndex_of h0 h5]at h1
   exact sr h1
  exact item_listR pl.isList h0 (by omega) (by rw[hj];simpa using ew) fin hs
 ·have hj:(i+(its.toArray.size:Int)).toNat=j:=by
   rw[seqIndex_neg (by omega) h4]at h1
   rw[rY,← hl]
   exact sr h1
  exact subscriptTail_builtinR (x:=w) pl.isList.typeIs slot_list_getitem.lookup
   (wpAny_getItem_list_neg (Q:=fun r s'=>r=w∧EP X pins σ Q r s') pl.isList (by omega) (by rw[rY] <;> omega) (by omega) (by rw[hj];simpa using ew) ⟨rfl,fin⟩) hs
theorem dm:SY X (Ql X.K):=by
 intro value slice pins s σ H x y v u Q I rx ry h hs
 obtain⟨p,xs,i,z,rfl,rfl,hq,he,q⟩:=h
 cases rx
 obtain⟨t,rfl⟩:=ry
 obtain⟨its,r,pl,hz⟩:=I.tuple hq
 obtain⟨j,h1,h2,h3,h4,h5⟩:=CL he
 obtain⟨w,ew,rw'⟩:=r.get h2
 have hl:=r.length
 have hn:=uN
 have fin:EP X pins σ Q w s:=⟨z,H,I,rw',q⟩
 exact subscriptTail_builtinR (x:=w) pl.typeIs slot_tuple_getitem.lookup
  (getItem_tuple (j:=j) (Q:=fun r s'=>r=w∧EP X pins σ Q r s') pl (by omega) (by omega) (by rw[rY,← hl];exact h1) (by simpa using ew) ⟨rfl,fin⟩) hs
theorem KZ:SY X WT:=by
 intro value slice pins s σ H x y v u Q I rx ry h hs
 obtain⟨z,i,c,rfl,rfl,hz,he,q⟩:=h
 obtain⟨t,rfl⟩:=rx
 obtain⟨t',rfl⟩:=ry
 obtain⟨j,h1,h2,h3,h4,h5⟩:=CL he
 have hl:z.cps.toList.length=z.length:=by simp[Str.length]
 rw[hl]at h1 h4 h5
 have hn:=uN
 exact tail_any (typeIs_str s z t) slot_str_getitem.lookup (getItem_str (c:=c) (by
  have e1:decide (i < -(2^63:Int))=false:=decide_eq_false (by omega)
  have e2:decide (i≥2^63)=false:=decide_eq_false (by omega)
  rw[e1,e2,Bool.or_false]) (by rw[h1];simpa using h2) ⟨.str ⟨#[c]⟩,H,I.tok _,⟨_,rfl⟩,q⟩) hs
theorem Gy(its:List Value)(n j:Nat)(u:Value):Obj.mapSeq (·.setIfInBounds j u) { cls:=.type "list",data:=.seq its.toArray n }={ cls:=.type "list",data:=.seq (its.set j u).toArray n }:=by
 simp[Obj.mapSeq]
theorem Inv.lst{pins:List (Addr × Obj)}{σ:St}{H:Hp}{s:Shared}{p:Addr}{xs:List V}(I:Inv X pins σ H s)(h:H p=some (.lst xs)) :
  ∃ (its:List Value) (n:Nat),Vals xs its∧s.heap.get? p=some { cls:=.type "list",data:=.seq its.toArray n }∧xs.length≤sizeLine:=by
 obtain⟨z,its,n,r,e⟩:=I.hok p _ h
 exact⟨its,n,r,e,z⟩
theorem Inv.Qm{pins:List (Addr × Obj)}{σ:St}{H:Hp}{s:Shared}{p:Addr}{xs ys:List V}{its its':List Value}{n n':Nat}{f:Obj→Obj}(I:Inv X pins σ H s)(h:H p=some (.lst xs))
  (ho:s.heap.get? p=some { cls:=.type "list",data:=.seq its.toArray n }) (hf:f { cls:=.type "list",data:=.seq its.toArray n }={ cls:=.type "list",data:=.seq its'.toArray n' }) (r:Vals ys its') (hz:ys.length≤sizeLine) (t:Nat) :
  Inv X pins σ (upd H p (.lst ys)) { s with heap:=s.heap.update p f,toks:=t }:=by
 have e:(s.heap.update p f).get? p=some { cls:=.type "list",data:=.seq its'.toArray n' }:=by
  rw[Heap.get?_update_self f ho (by rw[hf] <;> rfl),hf]
 refine I.write (x:=p) (e:=p) (by rw[h];trivial) (.inl rfl) (fun b u hb q=>(Heap.get?_update_other _ _ (Ne.symm hb)).trans q) ⟨_,e⟩ ?_
 exact⟨hz,its',n',r,e⟩
inductive OV(o i v:V)(H:Hp)(Q:Hp→Prop):Prop
 | mk (p:Addr) (xs:List V) (k:Int) (j:Nat) (_:o=.ref p) (_:i=.int k) (_:H p=some (.lst xs)) (_:HS xs.length k=some j) (_:Q (upd H p (.lst (xs.set j v)))):OV o i v H Q
theorem set_list:SD X OV:=by
 intro pins s σ H o i v ov iv u Q I ro ri rv h
 obtain⟨p,xs,k,j,rfl,rfl,hp,hj,q⟩:=h
 cases ro
 obtain⟨t,rfl⟩:=ri
 obtain⟨its,n,r,ho,hz⟩:=I.lst hp
 obtain⟨h1,h2,h3,h4⟩:=HU hj
 have hl:=r.length
 have hn:=uN
 have I':Inv X pins σ (upd H p (.lst (xs.set j v))) { s with heap:=s.heap.update p (Obj.mapSeq (·.setIfInBounds j u)) } :=
  I.Qm hp ho (Gy its n j u) (r.set rv j) (by rw[List.length_set];exact hz) s.toks
 by_cases h0:0≤k
 ·have hk:k.toNat=j:=by
   rw[seqIndex_of h0 h4]at h1
   exact sr h1
  exact PySem.W.ki_setAt ho h0 (by omega) (by rw[rY,← hl];exact h4) (by rw[hk];exact⟨_,I',q⟩)
 ·have hk:(k+(its.toArray.size:Int)).toNat=j:=by
   rw[seqIndex_neg (by omega) h3]at h1
   rw[rY,← hl]
   exact sr h1
  exact PySem.W.ki_setBack ho (by omega) (by rw[rY,← hl];exact h3) (by omega) (by rw[hk];exact⟨_,I',q⟩)
theorem CM(lo hi:Option Int)(n:Nat):(sliceBounds lo hi none n).1=((HT.j4 n 0 lo:Nat):Int)∧(sliceBounds lo hi none n).2.1=((HT.j4 n n hi:Nat):Int)∧(sliceBounds lo hi none n).2.2=1:=by
 refine⟨?_,?_,rfl⟩
 ·cases lo with
  | none=>simp[sliceBounds,HT.j4]
  | some i =>
   simp only[sliceBounds,HT.j4,Option.getD_none,show (1:Int) > 0 by decide,if_true]
   by_cases h:i<0
   ·simp only[h,if_true] <;> omega
   ·simp only[h,if_false] <;> omega
 ·cases hi with
  | none=>simp[sliceBounds,HT.j4]
  | some i =>
   simp only[sliceBounds,HT.j4,Option.getD_none,show (1:Int) > 0 by decide,if_true]
   by_cases h:i<0
   ·simp only[h,if_true] <;> omega
   ·simp only[h,if_false] <;> omega
theorem A7(its:List Value)(lo hi:Option Int):slicePick its.toArray lo hi none=((its.drop (HT.j4 its.length 0 lo)).take (HT.j4 its.length its.length hi-HT.j4 its.length 0 lo)).toArray:=by
 obtain⟨h1,h2,h3⟩:=CM lo hi its.toArray.size
 unfold slicePick
 rw[h1,h2,h3]
 simp only[sliceRange_one,pick_run,rY] <;> rfl
inductive S7(K:PySem.W.Frag)(x:V)(lo hi:Option Int)(H:Hp)(Q:VK):Prop
 | mk (a:Addr) (xs:List V) (_:x=.ref a) (_:bF K H a xs) (_:∀ p,H p=none→Q (.ref p) (upd H p (.lst (jV xs lo hi)))):S7 K x lo hi H Q
theorem pJ:WR X (S7 X.K):=by
 intro pins s σ H x v vl vu lo hi sl Q I rx hs pl pu h
 obtain⟨a,xs,rfl,hx,q⟩:=h
 cases rx
 obtain⟨its,r,ht,hz⟩:=I.list hx
 have hlen:=r.length
 refine⟨"list",_,slot_list_getitem.lookup,ht.isList.typeIs,?_⟩
 refine wpAny_getItem_list_slice ht.isList hs pl pu .none (by simp) ?_ (by rw[rY] <;> omega)
 rw[A7,← hlen]
 refine⟨.ref s.heap.objs.size,_,I.laid (t':=s.toks) (o:=.lst (jV xs lo hi)) (fun b ob q=>Heap.get?_push_of_some _ q) (iC _) ?_,rfl,q _ (I.hok.fresh (iC _))⟩
 exact⟨Nat.le_trans (xZ xs lo hi) hz,_,0,(r.drop (HT.j4 xs.length 0 lo)).take (HT.j4 xs.length xs.length hi-HT.j4 xs.length 0 lo),Heap.get?_push_size _ rfl⟩
inductive S8(K:PySem.W.Frag)(xs:List V)(H:Hp)(Q:VK):Prop
 | mk (p:Addr) (ys:List V) (_:xs=[.ref p]) (_:bF K H p ys∨jc K H p ys) (_:Q (.int ys.length) H):S8 K xs H Q
inductive Qn(K:PySem.W.Frag)(xs:List V)(H:Hp)(Q:VK):Prop
 | mk (p:Addr) (ys:List V) (_:xs=[.ref p]) (_:bF K H p ys∨jc K H p ys) (_:∀ l,H l=none→Q (.ref l) (upd H l (.lst ys))):Qn K xs H Q
theorem aX:nJ X (.builtin "len") (S8 X.K):=by
 intro pins s σ H xs us Q I r h
 obtain⟨p,ys,rfl,hq,q⟩:=h
 obtain⟨u,rfl,rx⟩:=vals1 r
 cases rx
 have hn:=uN
 rcases hq with hq|hq
 ·obtain⟨its,r',pl,hz⟩:=I.list hq
  have hlen:=r'.length
  exact Calls.call_len_list pl.isList (by simp only[rY] <;> omega) ⟨.int ys.length,H,I.tok _,⟨s.toks+1,by rw[rY,hlen]⟩,q⟩
 ·obtain⟨its,r',pl,hz⟩:=I.tuple hq
  have hlen:=r'.length
  exact len_tuple pl (by simp only[rY] <;> omega) ⟨.int ys.length,H,I.tok _,⟨s.toks+1,by rw[rY,hlen]⟩,q⟩
theorem vL:nJ X (.builtin "len") (fun xs H Q=>∃ z,xs=[.str z]∧z.length≤sizeLine∧Q (.int z.length) H):=by
 intro pins s σ H xs us Q I r h
 obtain⟨z,rfl,hz,q⟩:=h
 obtain⟨u,rfl,t,rfl⟩:=vals1 r
 have hn:=uN
 exact len_str (by omega) ⟨.int z.length,H,I.tok _,⟨_,rfl⟩,q⟩
theorem iK:nJ X (.type "list") (Qn X.K):=by
 intro pins s σ H xs us Q I r h
 obtain⟨p,ys,rfl,hq,q⟩:=h
 obtain⟨u,rfl,rx⟩:=vals1 r
 cases rx
 have fin:∀ (its:List Value),Vals ys its→ys.length≤sizeLine→∀ (h':Heap) (c':Nat),(∀ b o',s.heap.get? b=some o'→h'.get? b=some o') →
   h'.get? s.heap.objs.size=some { cls:=.type "list",dict:=none,data:=.seq its.toArray c',slots:=#[] }→EP X pins σ Q (.ref s.heap.objs.size) { s with heap:=h' }:=fun its r' hz h' c' kp e =>
  ⟨.ref s.heap.objs.size,_,I.laid (t':=s.toks) kp (iC _) (show gj X.prog X.w _ h' _ (.lst ys) from ⟨hz,its,c',r',e⟩),rfl,q _ (I.hok.fresh (iC _))⟩
 rcases hq with hq|hq
 ·obtain⟨its,r',pl,hz⟩:=I.list hq
  have hlen:=r'.length
  obtain⟨o,ho,hc,n,hd⟩:=pl.isList
  exact call_list_seq p (.inl rfl) ho hc hd (fun h' c' kp e=>fin its r' hz h' c' kp e) (by simp only[rY] <;> omega)
 ·obtain⟨its,r',pl,hz⟩:=I.tuple hq
  have hlen:=r'.length
  obtain⟨o,ho,hc,n,hd⟩:=pl
  exact call_list_seq p (.inr rfl) ho hc hd (fun h' c' kp e=>fin its r' hz h' c' kp e) (by simp only[rY] <;> omega)
def WU(K:PySem.W.Frag)(T:String)(x:V)(H:Hp):Prop:=match x with
 | .str _=>T="str"
 | .int _=>T="int"
 | .ref p=>(T="list"∧∃ xs,bF K H p xs)∨(T="tuple"∧∃ o,K.lookup p=some o∧o.cls=.type "tuple"∧o.dict=none) ∨
   (T="dict"∧((∃ kvs,H p=some (.dK kvs))∨∃ kvs,H p=some (.dT kvs)))∨(T="set"∧∃ S n,H p=some (.set S n))
 | _=>False
theorem K0{pins:List (Addr × Obj)}{σ:St}{H:Hp}{s:Shared}{T:String}{x:V}{v:Value}(I:Inv X pins σ H s)(r:RelV x v)(ty:WU X.K T x H) :
  s.TypeIs v T∧∀ a,v=.ref a→∃ ob,s.heap.get? a=some ob∧ob.dict=none:=by
 cases x with
 | str z =>
  obtain⟨t,rfl⟩:=r
  cases (show T="str" from ty)
  exact⟨typeIs_str s z t,fun _ e=>nomatch e⟩
 | int i =>
  obtain⟨t,rfl⟩:=r
  cases (show T="int" from ty)
  exact⟨typeIs_int s i t,fun _ e=>nomatch e⟩
 | ref p =>
  cases r
  rcases ty with ⟨rfl,xs,hq⟩|⟨rfl,o,hk,hc,hd⟩|⟨rfl,hk⟩|⟨rfl,S,n,hk⟩
  ·obtain⟨its,_,pl,_⟩:=I.list hq
   refine⟨pl.isList.typeIs,fun a e=>?_⟩
   cases e
   obtain⟨o,n,e,c,hd,_⟩:=pl
   exact⟨o,e,hd⟩
  ·refine⟨⟨o,I.xW p o hk,hc⟩,fun a e=>?_⟩
   cases e
   exact⟨o,I.xW _ o hk,hd⟩
  ·have z:∃ o,s.heap.get? p=some o∧o.ExactDict:=by
    rcases hk with ⟨kvs,hk⟩|⟨kvs,hk⟩
    ·obtain⟨_,_,_,_,o,_,_,e,ex,_⟩:=I.hok p _ hk
     exact⟨o,e,ex⟩
    ·obtain⟨_,_,_,_,o,_,_,e,ex,_⟩:=I.hok p _ hk
     exact⟨o,e,ex⟩
   obtain⟨o,e,ex⟩:=z
   refine⟨⟨o,e,ex.1⟩,fun a e2=>?_⟩
   cases e2
   exact⟨o,e,ex.2.1⟩
  ·obtain⟨o,_,_,_,e,ex,_⟩:=I.hok p _ hk
   refine⟨⟨o,e,ex.1⟩,fun a e2=>?_⟩
   cases e2
   exact⟨o,e,ex.2.1⟩
 | _=>exact False.elim ty
def WV(K:PySem.W.Frag)(T:String)(r:V→List V→Hp→VK→Prop)(to:TE):TE:=fun σ H Q=>to σ H fun x H1=>WU K T x H1∧r x [] H1 Q
def tBM(K:PySem.W.Frag)(T:String)(r:V→List V→Hp→VK→Prop)(to:TE)(t:TA):TE:=fun σ H Q=>to σ H fun x H1=>WU K T x H1∧t σ H1 fun xs H2=>r x xs H2 Q
variable {o e:Expr} {es:List Expr} {to:TE} {t:TA} {name:Str} {apos cpos:Pos} {T id:String} {r:V→List V→Hp→VK→Prop}
theorem Qo(pa:PlainAttrs T)(slot:Slot T name id)(hty:typeOf (.builtin id)=pure (.type "method_descriptor"))(hm:MtR X id r)(ho:PE X o to)
  (hbase:attributeBase o name X.env (eval o X.env)=eval o X.env:=by rfl) (hline:(apos.endLine == cpos.line)=true:=by rfl):PE X (.Call (.Attribute o name apos) [] [] cpos) (WV X.K T r to):=by
 intro pins s σ H Q I h
 refine wpAny_Call_method0_late hbase hline (cz (ho pins s σ H _ I h) fun v s1 ⟨x,H1,I1,r1,ty,q1⟩=>?_)
 obtain⟨h1,h2⟩:=K0 I1 r1 ty
 exact⟨T,id,pa,slot,hty,h1,h2,Calls.callWith_builtin rfl (PySem.evalArgs_none (hm pins s1 σ H1 x [] v [] Q I1 r1 .nil q1))⟩
theorem je(pa:PlainAttrs T)(slot:Slot T name id)(hty:typeOf (.builtin id)=pure (.type "method_descriptor"))(hm:MtR X id r)(ho:PE X o to)(ha:PA X (e::es) t)
  (hbase:attributeBase o name X.env (eval o X.env)=eval o X.env:=by rfl)
  (hfew:((backTo cpos (starEach (e::es) X.env)).all (fun x=>!x.1)&&(backToKw cpos (keywordEach [] X.env)).all (fun x=>x.1.isSome)
   && decide ((e::es).length+([]:List Keyword).length+(if ([]:List Keyword).isEmpty then 0 else 1)<30))=true:=by rfl)
  (hline:(apos.endLine == cpos.line)=true:=by rfl) (hs:starEach (e::es) X.env=(false,eval e X.env)::starEach es X.env:=by rfl) (hplain:(backTo cpos (starEach es X.env)).any (·.1)=false:=by rfl) :
  PE X (.Call (.Attribute o name apos) (e::es) [] cpos) (tBM X.K T r to t):=by
 intro pins s σ H Q I h
 refine wpAny_Call_method_late hbase hfew hline rfl (cz (ho pins s σ H _ I h) fun v s1 ⟨x,H1,I1,r1,ty,q1⟩=>?_)
 obtain⟨h1,h2⟩:=K0 I1 r1 ty
 refine⟨T,id,pa,slot,hty,h1,h2,?_⟩
 have hA:=ha cpos pins s1 σ H1 _ I1 q1
 rw[hs]at hA ⊢
 refine Calls.callWith_builtin (by show (false || (backTo cpos (starEach es X.env)).any (·.1))=false;rw[hplain] <;> rfl) (Calls.evalArgs_plain ?_)
 exact cz hA fun us s2 ⟨vs,H2,I2,r2,q2⟩=>hm pins s2 σ H2 x vs v us Q I2 r1 r2 q2
end
end L2
namespace L2
open PySem PySem.Spec PyProof.Rows
def RM(X:Cx)(id:String)(r:V→List V→Hp→VK→Prop):Prop :=
 ∀ (pins:List (Addr × Obj)) (s:Shared) (σ:St) (H:Hp) (x:V) (xs:List V) (v:Value) (us:List Value) (Q:VK),Inv X pins σ H s→RelV x v→Vals xs us→r x xs H Q →
  wpAny (model X.prog X.w) X.A (call (.builtin id) (v::us)) (EP X pins σ Q) X.xe s
theorem Vals.one:∀ {x:V} {us:List Value},Vals [x] us→∃ u,us=[u]∧RelV x u
 | _,_,.cons r .nil=>⟨_,rfl,r⟩
theorem Vals.two:∀ {x y:V} {us:List Value},Vals [x,y] us→∃ u v,us=[u,v]∧RelV x u∧RelV y v
 | _,_,_,.cons r (.cons q .nil)=>⟨_,_,rfl,r,q⟩
theorem Vals.zero:∀ {us:List Value},Vals [] us→us=[]
 | _,.nil=>rfl
theorem Vals.dropLast{xs:List V}{us:List Value}(h:Vals xs us):Vals xs.dropLast us.dropLast:=by
 induction h with
 | nil=>exact .nil
 | cons r t ih =>
  cases t with
  | nil=>exact .nil
  | cons q t'=>exact .cons r ih
theorem Vals.eraseIdx:∀ {xs:List V} {us:List Value} (i:Nat),Vals xs us→Vals (xs.eraseIdx i) (us.eraseIdx i)
 | _,_,_,.nil=>.nil
 | _,_,0,.cons _ t=>t
 | _,_,i+1,.cons r t=>.cons r (Vals.eraseIdx i t)
theorem Vals.rep{xs:List V}{us:List Value}(h:Vals xs us):∀ k:Nat,Vals (List.replicate k xs).flatten (List.replicate k us).flatten
 | 0=>.nil
 | k+1=>by
  rw[List.replicate_succ,List.replicate_succ,List.flatten_cons,List.flatten_cons]
  exact Vals.append h (Vals.rep h k)
theorem Gz{α:Type}(l:List α):l.eraseIdx (l.length-1)=l.dropLast:=by
 induction l with
 | nil=>rfl
 | cons a r ih =>
  cases r with
  | nil=>rfl
  | cons b r =>
   have e:(a::b::r).length-1=((b::r).length-1)+1:=by
    have h1:(a::b::r).length=r.length+2:=rfl
    have h2:(b::r).length=r.length+1:=rfl
    omega
   rw[e,List.eraseIdx_cons_succ,ih]
   all_goals rfl
theorem BC{α:Type}:∀ (l:List α) (i:Nat),(l.eraseIdx i).length≤l.length
 | [],_=>iC _
 | _::_,0=>Nat.le_succ _
 | _::r,i+1=>Nat.succ_le_succ (BC r i)
theorem foldl_rep(its:List Value):∀ (k:Nat) (acc:List Value),
  List.foldl (fun x1 x2=>x1++x2) acc.toArray (List.replicate k its.toArray)=(acc++(List.replicate k its).flatten).toArray
 | 0,acc=>by simp
 | k+1,acc=>by
  have e:acc.toArray++its.toArray=(acc++its).toArray:=by simp
  have e2:(acc++its)++(List.replicate k its).flatten=acc++(List.replicate (k+1) its).flatten:=by
   rw[List.replicate_succ,List.flatten_cons,qw]
  rw[← e2,← foldl_rep its k (acc++its),← e,List.replicate_succ,qe]
section
variable {X:Cx} {pins:List (Addr × Obj)} {σ:St} {H:Hp} {s:Shared} {l b:Addr} {xs ys zs:List V}
theorem Inv.K3{its its':List Value}{n:Nat}{f:Array Value→Array Value}{t':Nat}(I:Inv X pins σ H s)(hH:H l=some (.lst xs))
  (e:s.heap.get? l=some { cls:=.type "list",data:=.seq its.toArray n }) (hf:f its.toArray=its'.toArray) (hv:Vals ys its') (hz:ys.length≤sizeLine) :
  Inv X pins σ (upd H l (.lst ys)) { s with heap:=s.heap.update l (Obj.mapSeq f),toks:=t' }:=by
 have q:=PySem.IsL.update e f
 rw[hf]at q
 refine I.write (x:=l) (e:=l) (by rw[hH];exact trivial) (.inl rfl) (fun b' u hb hu=>(Heap.get?_update_other s.heap (Obj.mapSeq f) (Ne.symm hb)).trans hu) ⟨_,q⟩ ?_
 exact⟨hz,its',_,hv,q⟩
theorem Inv.K5{its:List Value}{t':Nat}(I:Inv X pins σ H s)(hv:Vals ys its)(hz:ys.length≤sizeLine) :
  Inv X pins σ (upd H s.heap.objs.size (.lst ys)) { s with heap:=s.heap.push { cls:=.type "list",data:=.seq its.toArray },toks:=t' } :=
 I.laid (fun _ _ q=>Heap.get?_push_of_some _ q) (iC _) ⟨hz,its,0,hv,Heap.get?_push_size _ rfl⟩
theorem Inv.fresh(I:Inv X pins σ H s):H s.heap.objs.size=none:=I.hok.fresh (iC _)
theorem Inv.A8(I:Inv X pins σ H s)(hH:H l=some (.lst xs)):xs.length≤sizeLine∧∃ (its:List Value) (n:Nat),Vals xs its∧xs.length=its.length∧s.heap.get? l=some { cls:=.type "list",data:=.seq its.toArray n }:=by
 obtain⟨z,its,n,r,e⟩:=I.hok l _ hH
 exact⟨z,its,n,r,r.length,e⟩
theorem zz{n:Nat}(h:n≤sizeLine):Builtin.List.listTooLong n=false:=by
 unfold Builtin.List.listTooLong
 exact decide_eq_false (by omega)
end
section
variable {X:Cx}
inductive HV(x:V)(vs:List V)(H:Hp)(Q:VK):Prop
 | mk (l:Addr) (xs:List V) (y:V) (_:x=.ref l) (_:vs=[y]) (_:H l=some (.lst xs)) (_:xs.length<sizeLine) (_:Q .jJ (upd H l (.lst (xs++[y])))):HV x vs H Q
theorem cA:RM X "list.append" HV:=by
 intro pins s σ H x vs v us Q I rx rv h
 obtain⟨l,xs,y,rfl,rfl,hH,hz,q⟩:=h
 cases rx
 obtain⟨u,rfl,ru⟩:=rv.one
 obtain⟨z,its,n,r,hl,e⟩:=I.A8 hH
 refine call_meets F.slot_list_append ⟨_,e,rfl⟩ F.entry_list_append (F.args_list_append_2 _ _) (PySem.list_append l its.toArray n u (by rw[rY];omega)) ⟨e,?_⟩
 refine⟨.jJ,_,I.K3 (its':=its++[u]) hH e (by simp) (r.append (.cons ru .nil)) ?_,rfl,q⟩
 rw[eG,vA]
 omega
inductive HW(x:V)(vs:List V)(H:Hp)(Q:VK):Prop
 | mk (l b:Addr) (xs zs:List V) (_:x=.ref l) (_:vs=[.ref b]) (_:H l=some (.lst xs)) (_:H b=some (.lst zs)) (_:xs.length+zs.length≤sizeLine) (_:Q .jJ (upd H l (.lst (xs++zs)))):HW x vs H Q
theorem BD:RM X "list.extend" HW:=by
 intro pins s σ H x vs v us Q I rx rv h
 obtain⟨l,b,xs,zs,rfl,rfl,hH,hB,hz,q⟩:=h
 cases rx
 obtain⟨u,rfl,ru⟩:=rv.one
 cases ru
 obtain⟨z,its,n,r,hl,e⟩:=I.A8 hH
 obtain⟨z2,its2,n2,r2,hl2,e2⟩:=I.A8 hB
 have hsz:its.toArray.size+its2.toArray.size≤sizeLine:=by rw[rY,rY];omega
 have Ex:¬ (!its.toArray.isEmpty&&Builtin.List.listTooLong (its.toArray.size+its2.toArray.size))=true:=by
  rw[zz hsz,Bool.and_false]
  exact ue
 refine call_meets F.slot_list_extend ⟨_,e,rfl⟩ F.entry_list_extend (F.args_list_extend_2 _ _)
  (AutoSeq1.list_extend_list_list_0 l its.toArray n b its2.toArray n2 Ex (by rw[rY];omega) (by omega)) ⟨e,e2,?_⟩
 refine⟨.jJ,_,I.K3 (its':=its++its2) hH e (by simp) (r.append r2) ?_,rfl,q⟩
 rw[eG]
 omega
def WW:V→List V→Hp→VK→Prop:=fun x vs H Q=>∃ l xs y,x=.ref l∧vs=[]∧H l=some (.lst xs)∧xs[xs.length-1]?=some y∧Q y (upd H l (.lst xs.dropLast))
theorem Qp:RM X "list.pop" WW:=by
 intro pins s σ H x vs v us Q I rx rv h
 obtain⟨l,xs,y,rfl,rfl,hH,hy,q⟩:=h
 cases rx
 have hus:=rv.zero
 subst hus
 obtain⟨z,its,n,r,hl,e⟩:=I.A8 hH
 obtain⟨u,hu,ru⟩:=r.get hy
 have hy':its.toArray[its.toArray.size-1]?=some u:=by
  show its.toArray[its.length-1]?=some u
  rw[← Array.getElem?_toList,← hl]
  exact hu
 refine call_meets F.slot_list_pop ⟨_,e,rfl⟩ F.entry_list_pop (F.args_list_pop_1 _) (MeetsSeq.list_pop_last l its.toArray n u hy' (by rw[rY];omega)) ⟨e,?_⟩
 refine⟨y,_,I.K3 (its':=its.dropLast) hH e ?_ r.dropLast ?_,ru,q⟩
 ·show its.toArray.eraseIdxIfInBounds (its.toArray.size-1)=its.dropLast.toArray
  rw[rY,List.eraseIdxIfInBounds_toArray,Gz]
 ·rw[List.length_dropLast]
  omega
def Qq:V→List V→Hp→VK→Prop:=fun x vs H Q=>∃ l xs i k y,x=.ref l∧vs=[.int i]∧H l=some (.lst xs)∧-(2^63)≤i∧i<2^63∧seqIndex? i xs.length=some k∧xs[k]?=some y∧Q y (upd H l (.lst (xs.eraseIdx k)))
theorem K6:RM X "list.pop" Qq:=by
 intro pins s σ H x vs v us Q I rx rv h
 obtain⟨l,xs,i,k,y,rfl,rfl,hH,h1,h2,hk,hy,q⟩:=h
 cases rx
 obtain⟨u,rfl,ru⟩:=rv.one
 obtain⟨t,rfl⟩:=ru
 obtain⟨z,its,n,r,hl,e⟩:=I.A8 hH
 obtain⟨w,hw,rw'⟩:=r.get hy
 refine call_meets F.slot_list_pop ⟨_,e,rfl⟩ F.entry_list_pop (F.args_list_pop_2 _ _)
  (MeetsSeq.list_pop_at l its.toArray n i t k w (fitsIndex_both h1 h2) (by rw[rY,← hl];exact hk) (by rw[← Array.getElem?_toList];exact hw) (by rw[rY];omega)) ⟨e,?_⟩
 refine⟨y,_,I.K3 (its':=its.eraseIdx k) hH e ?_ (r.eraseIdx k) ?_,rw',q⟩
 ·show its.toArray.eraseIdxIfInBounds k=(its.eraseIdx k).toArray
  rw[List.eraseIdxIfInBounds_toArray]
 ·have:=BC xs k
  omega
inductive Qs(x y:V)(H:Hp)(Q:VK):Prop
 | mk (l b:Addr) (xs zs:List V) (_:x=.ref l) (_:y=.ref b) (_:H l=some (.lst xs)) (_:H b=some (.lst zs)) (_:xs.length+zs.length≤sizeLine) (_:∀ p,H p=none→Q (.ref p) (upd H p (.lst (xs++zs)))):Qs x y H Q
theorem kZ:wJ X (binaryOp .Add) Qs:=by
 intro pins s σ H x y v u Q I rx ry h
 obtain⟨l,b,xs,zs,rfl,rfl,hH,hB,hz,q⟩:=h
 cases rx
 cases ry
 obtain⟨z,its,n,r,hl,e⟩:=I.A8 hH
 obtain⟨z2,its2,n2,r2,hl2,e2⟩:=I.A8 hB
 refine PySem.P.add_list e e2 ?_ (by rw[rY,rY];omega)
 have ea:its.toArray++its2.toArray=(its++its2).toArray:=by simp
 rw[ea]
 exact⟨.ref _,_,I.K5 (t':=s.toks) (r.append r2) (by rw[eG];omega),rfl,q _ I.fresh⟩
def S9:R2:=fun x y H Q=>∃ l k xs,x=.ref l∧y=.int k∧H l=some (.lst xs)∧-(2^63)≤k∧k<2^63∧xs.length*k.toNat≤sizeLine ∧
 ∀ p,H p=none→Q (.ref p) (upd H p (.lst (List.replicate k.toNat xs).flatten))
theorem len_rep{α:Type}(xs:List α)(k:Nat):(List.replicate k xs).flatten.length=k*xs.length:=by
 induction k with
 | zero=>simp
 | succ k ih=>rw[List.replicate_succ,List.flatten_cons,eG,ih,Nat.succ_mul,Nat.add_comm]
theorem K9:wJ X (binaryOp .Mult) S9:=by
 intro pins s σ H x y v u Q I rx ry h
 obtain⟨l,k,xs,rfl,rfl,hH,h1,h2,hz,q⟩:=h
 cases rx
 obtain⟨t,rfl⟩:=ry
 obtain⟨z,its,n,r,hl,e⟩:=I.A8 hH
 have hlen:its.toArray.size*k.toNat≤sizeLine:=by rw[rY,← hl];exact hz
 have hcap:¬ its.toArray.size*k.toNat > (2^63-1) / 8:=by
  have:(sizeLine:Nat)≤(2^63-1) / 8:=by decide
  omega
 have hfit:¬ (!Builtin.List.listFitsIndex k)=true:=by
  rw[fitsIndex_both h1 h2]
  exact ue
 have Ex:¬ Builtin.List.listTooLong (its.toArray.size*k.toNat)=true:=by
  rw[zz hlen]
  exact ue
 have hnew:List.foldl (fun x1 x2=>x1++x2) #[] (List.replicate (if its.toArray.isEmpty=true then 0 else k.toNat) its.toArray)=(List.replicate k.toNat its).flatten.toArray:=by
  have f0:∀ m:Nat,List.foldl (fun x1 x2=>x1++x2) #[] (List.replicate m its.toArray)=(List.replicate m its).flatten.toArray:=fun m=>by
   have:=foldl_rep its m []
   rw[List.nil_append]at this
   exact this
  rw[f0]
  cases its with
  | nil=>simp
  | cons a r'=>rw[if_neg (by simp)]
 refine wpAny_binaryOp_repeat_ref (T:="list") (U:="int") (by decide) ⟨_,e,rfl⟩ (fun s'=>typeIs_int s' k t) noFill_list_mul F.fills_int_mul F.slot_int_rmul repeat_list F.slot_int_index.lookup
  (call_meets F.slot_int_rmul (typeIs_int s k t) F.entry_int_rmul (F.args_int_rmul_2 _ _) (int___rmul___int_list k t l its.toArray n)
   ⟨e,rfl,⟨_,e,rfl⟩,call_meets F.slot_list_mul ⟨_,e,rfl⟩ F.entry_list_mul (F.args_list_mul_2 _ _) (AutoListH.list___mul___list_int_3 l its.toArray n k t hfit hcap Ex) ⟨e,?_⟩⟩)
 rw[hnew]
 exact⟨.ref _,_,I.K5 (t':=s.toks) (r.rep k.toNat) (by rw[len_rep,Nat.mul_comm];exact hz),rfl,q _ I.fresh⟩
end
end L2
namespace Att
open PySem PySem.W PySem.Calls PyProof.Rows
theorem yz{P:Params}{h:Heap}:∀ (ns:List Int) (vs:List Value),WellAll P h vs (ns.map WData.int)→IntsAre vs ns:=by
 intro ns
 induction ns with
 | nil =>
  intro vs w
  rw[List.map_nil]at w
  cases w
  exact .nil
 | cons n ns ih =>
  intro vs w
  rw[lU]at w
  cases w with
  | cons a b =>
   cases a
   exact .cons _ _ (ih _ b)
theorem Jq{l:OpenLaw}{n:Nat}(hn:l.most=some n){P:Params}{h:Heap}{args:List WData}{vals:List Value}
  (hpre:l.row.toRowW.claim.pre args=true) (hwl:WellAll P h vals args) :
  ∃ a vs ns,vals=[Value.ref a]∧args=[WData.list (ns.map WData.int)]∧h.get? a=some { cls:=.type "list",data:=.seq vs.toArray }∧IntsAre vs ns∧ns.length≤n:=by
 have hsh:WShape.hasAll [] args [.list .int]=true:=(pre_splitW hpre).1
 have hc:l.pre.holds [] { args:=args }=true:=(pre_splitW hpre).2
 obtain⟨d,r,rfl,h1,h2⟩:=hasAllW_cons hsh
 obtain rfl:=hasAllW_nil h2
 obtain⟨xs,rfl,h3⟩:=hasW_list h1
 obtain⟨ns,rfl⟩:=items_int h3
 have hlen:ns.length≤n:=by
  unfold OpenLaw.pre at hc
  have h4:(WTm.not (.lt (.lit (.int (n:Int))) (.len (.arg 0)))).holds [] { args:=[.list (ns.map .int)] }=true:=by
   have h4:=(holds_andW hc).1
   rw[hn]at h4
   exact h4
  have h5:=condW_of h4 (w_not (w_lt w_lit (w_len_list (w_arg rfl))))
  rw[cO]at h5
  refine Nat.le_of_not_lt fun q=>?_
  have q':(n:Int)<((ns.length:Nat):Int):=by omega
  first
   | (rw[decide_eq_true q']at h5;exact absurd h5 (by decide))
   | (simp at h5;omega)
 cases hwl with
 | cons w1 w2 =>
  cases w2
  cases w1 with
  | list ho hall=>exact⟨_,_,ns,rfl,rfl,ho,yz ns _ hall,hlen⟩
theorem Jr(l:OpenLaw)(args:List WData):l.row.toRowW.claim.post args (.bool true) args=true :=
 postW_of (r:=l.row.toRowW) (X:=(true == true))
  (show WShape.has [] (.bool true) .bool=true by first|rfl|decide|simp[WShape.has,WShape.arms,WShape.armsAll])
  (show (WTm.eq .res (.lit (.bool true))).value [] { args:=args,res:=some (.bool true),after:=args }=some (.bool (true == true)) from w_eq_bool (w_res rfl) w_lit) rfl
theorem Ey{l:OpenLaw}{n:Nat}{q:Program}{loose:List Str}{XP:(Str→Option Value)→Heap→Prop}{YP:World→Heap→Prop}{d:DefRec}
  (hn:l.most=some n) (hdf:d.params.defaults=[])
  (call:∀ (w:World) (s₀ s₁:Shared) (mg mb:Str→Option Value) (fa:Addr) (o:Obj) (pm cd doc:Value) (a:Addr) (vs:List Value) (ns:List Int),
   Ground q loose [] XP w s₀ mg mb s₁.heap→YP w s₁.heap →
   s₁.heap.get? fa=some o→o.data=.func (docDef d.name d.params d.body d.scope pm cd doc)→s₁.heap.CodeRec cd d.name→mg d.name=some (.ref fa) →
   s₁.heap.get? a=some { cls:=.type "list",data:=.seq vs.toArray }→IntsAre vs ns→ns.length≤n→s₁.gens=#[] →
   codeAny (model l.prog w) callerA (.call (.ref fa) ⟨[.ref a],[]⟩) (fun r s'=>r=.ok (.ret (.bool true))∧OldK s₁.heap s'.heap∧s'.os=s₁.os∧AllBare s'.gens) s₁) :
  WalkO q loose XP YP l.row.toRowW d [] (fun f vs=>PySem.call f vs):=by
 intro w s₀ s₁ mg mb G Y fa o pm cd doc dV kV ho hd hcd hD hmg hg args vals as hpre hlay hrd hwl hlo
 obtain rfl:dV=.none:=Dflts.none hD hdf
 obtain rfl:kV=.none:=Dflts.noKw hD
 obtain⟨a,vs,ns,rfl,rfl,hobj,hints,hlen⟩:=Jq hn hpre hwl
 refine enter_call (codeAny_mono (call w s₀ s₁ mg mb fa o pm cd doc a vs ns G Y ho (fd_plain hd) hcd hmg hobj hints hlen hg) fun r s' hq=>?_)
 obtain⟨rfl,h2,h3,h4⟩:=hq
 exact⟨.inl ⟨.bool true,.bool true,[],rfl,fun _=>rfl,.bool true,Jr l _,fun _=>⟨List.Pairwise.nil,fun _ hm=>(nomatch hm)⟩⟩,h2,h3,h4⟩
end Att
namespace L2
open PySem PySem.Spec PyProof.Rows
theorem BE:∀ {vs:List Value} {ns:List Int},IntsAre vs ns→Vals (ns.map V.int) vs
 | _,_,.nil=>.nil
 | _,_,.cons n t h=>.cons ⟨t,rfl⟩ (BE h)
def Qt(H:Hp):Prop:=∀ b,H b=none∨∃ o xs,H b=some (.Gh o (.lst xs))
theorem La{P:Program}{w:World}{K:PySem.W.Frag}{mg mb:Str→Option Value}{CX:KR}{k:Nat}{fa a:Addr}{fd:FuncData}{x:Str}{sp:Sp}{s₁:Shared}{vs:List Value}{ns:List Int}
  (KX:K.In s₁.heap) (hns:s₁.heap.Ns mainGlobals mg) (hb:s₁.heap.Ns builtinsNs mb) (hbb:∀ x:Str,x≠"__name__"→mb x=bootBuiltins x) (hlim:s₁.heap.NoLimit) (hg:s₁.gens=#[])
  (ha:s₁.heap.get? a=some { cls:=.type "list",data:=.seq vs.toArray }) (hi:IntsAre vs ns) (hl:ns.length≤sizeLine) (hr:kL k callerA)
  (F:∀ base:Heap,K.In base→base.Ns mainGlobals mg→aB P w K mg base CX k fa fd [x] sp) (hbind:∀ (s:Shared) (u:Value),BindsTo s fd ⟨[u],[]⟩ [(x,u)])
  (Gv:∀ H:Hp,Qt H→bF K H a (ns.map V.int)→sp [.ref a] H (fun v _=>v=.bl true) fun _ _ _=>False)
  (WX:∀ H e s',CX [] H s₁ (fun _ _ _=>False) e s'→False) :
  codeAny (model P w) callerA (.call (.ref fa) ⟨[.ref a],[]⟩) (fun r s'=>r=.ok (.ret (.bool true))∧OldK s₁.heap s'.heap∧s'.os=s₁.os∧AllBare s'.gens) s₁:=by
 have rv:=BE hi
 have WY:=hi.length
 have core:∀ H:Hp,Qt H→bF K H a (ns.map V.int)→tw P w H s₁.heap→(∀ b,H b≠none→b=a)→(H a≠none→K.lookup a=none) →
   codeAny (model P w) callerA (.call (.ref fa) ⟨[.ref a],[]⟩) (fun r s'=>r=.ok (.ret (.bool true))∧OldK s₁.heap s'.heap∧s'.os=s₁.os∧AllBare s'.gens) s₁:=by
  intro H hO hS hok hA hK
  have HX:∀ {b:Addr} {o:Obj},s₁.heap.get? b=some o→H b=none→(CF s₁.heap H).get? b=some o:=fun e n=>Kx e n
  have SV:∀ {b:Addr} {o:Obj} {es:Array DictEntry} {ep:Nat},s₁.heap.get? b=some o→o.data=.dict es ep→H b=none:=fun {b o es ep} e d=>by
   cases q:H b with
   | none=>rfl
   | some u =>
    have e':b=a:=hA b (by rw[q];simp)
    subst e'
    rw[ha]at e;cases e
    have d':Data.seq vs.toArray _=Data.dict es ep:=d
    cases d'
  have Vw:∀ {b:Addr} {m:Str→Option Value},s₁.heap.Ns b m→(CF s₁.heap H).Ns b m:=fun {b m} ⟨o,es,ep,e,d,r⟩=>⟨o,es,ep,HX e (SV e d),d,r⟩
  have hKb:K.In (CF s₁.heap H):=fun b o e=>HX (KX b o e) (by
   cases q:H b with
   | none=>rfl
   | some u =>
    have e':b=a:=hA b (by rw[q];simp)
    subst e'
    rw[hK (by rw[q];simp)]at e;cases e)
  have hM:Mod K mg (CF s₁.heap H):=⟨hKb,Vw hns,⟨mb,Vw hb,hbb⟩,let ⟨mc,h1,h2⟩:=hlim;⟨mc,Vw h1,h2⟩⟩
  have e0:Gs P w K mg (CF s₁.heap H) callerA [] s₁ H:=⟨rfl,hM,fun b o e=>Nc e,Nat.le_of_eq (Jf _ _),trivial,fun b hb=>absurd (show b∈([]:List Addr) from hb) (by simp),hok,.of_eq hg⟩
  refine codeAny_mono ((F _ hKb (Vw hns)).run callerA [] s₁ H ⟨[.ref a],[]⟩ [.ref a] [.ref a] _ _ hr e0 (hbind s₁ (.ref a)) (.cons rfl .nil) (Gv H hO hS)) fun r s' h=>?_
  cases r with
  | error e=>exact (WX H e s' h).elim
  | ok fl =>
   cases fl with
   | next=>exact False.elim h
   | brk=>exact False.elim h
   | cont=>exact False.elim h
   | ret u =>
    obtain⟨v,H',os,bare,un,Lb,r',q⟩:=h
    have q':v=.bl true:=q
    subst q'
    obtain rfl:u=Value.bool true:=r'
    refine⟨rfl,OldK.of_keep fun b o e=>?_,os,bare⟩
    cases q:H b with
    | none=>exact un.keep b o e q (by intro z;exact absurd (show b∈([]:List Addr) from z) (by simp)) (by simp)
    | some u =>
     rcases hO b with z|⟨ob,xs,z⟩
     ·rw[q]at z;cases z
     ·have z2:=un.AZ b ob _ z
      obtain⟨e1,_⟩:=hok b _ z
      obtain⟨e2,_⟩:=Lb b _ z2
      rw[e]at e1;cases e1
      exact e2
 cases hk:K.lookup a with
 | some o =>
  have e:=KX a o hk
  rw[ha]at e
  cases e
  refine core (fun _=>none) (fun _=>.inl rfl) (.inr ⟨_,vs.toArray,_,hk,rfl,rfl,rfl,by rw[rY,WY];exact hl,by simpa using rv⟩) (fun b u z=>by have z':(none:Option HO)=some u:=z;cases z') (fun b z=>absurd rfl z) fun z=>absurd rfl z
 | none =>
  refine core (fun b=>if b=a then some (.Gh { cls:=.type "list",data:=.seq vs.toArray } (.lst (ns.map V.int))) else none) (fun b=>?_) (.inl (.inr ⟨{ cls:=.type "list",data:=.seq vs.toArray },if_pos rfl⟩)) (fun b u z=>?_) (fun b z=>?_) fun _=>hk
  ·by_cases hb:b=a
   ·exact .inr ⟨_,_,if_pos hb⟩
   ·exact .inl (if_neg hb)
  ·by_cases hb:b=a
   ·have z':=(if_pos hb).symm.trans z
    cases z'
    subst hb
    exact⟨ha,by rw[cO];exact hl,vs,_,rv,ha⟩
   ·have z':=(if_neg hb).symm.trans z
    cases z'
  ·by_cases hb:b=a
   ·exact hb
   ·exact absurd (if_neg hb) z
end L2
namespace L2
open PySem PySem.Spec PyProof.Rows
theorem Ny{l:PySem.W.OpenLaw}{n k:Nat}{q:Program}{loose:List Str}{XP:(Str→Option Value)→Heap→Prop}{YP:World→Heap→Prop}{d:DefRec}{K:Params→PySem.W.Frag}{CX:World→KR}{sp:World→Sp}{x:Str}
  (hn:l.most=some n) (hn2:n≤sizeLine) (hdf:d.params.defaults=[]) (hr:kL k callerA)
  (hY:∀ (w:World) (h:Heap),YP w h→(K w.params).In h)
  (F:∀ (w:World) (mg:Str→Option Value) (fa:Addr) (h:Heap),(K w.params).In h→h.Ns mainGlobals mg→mg d.name=some (.ref fa) →
   ∃ fd:FuncData,(∀ (s:Shared) (u:Value),BindsTo s fd ⟨[u],[]⟩ [(x,u)]) ∧
    ∀ base:Heap,(K w.params).In base→base.Ns mainGlobals mg→aB l.prog w (K w.params) mg base (CX w) k fa fd [x] (sp w))
  (Gv:∀ (w:World) (H:Hp) (a:Addr) (ns:List Int),ns.length≤n→Qt H→bF (K w.params) H a (ns.map V.int)→sp w [.ref a] H (fun v _=>v=.bl true) fun _ _ _=>False)
  (WX:∀ (w:World) (H:Hp) (s:Shared) (e:Value) (s':Shared),CX w [] H s (fun _ _ _=>False) e s'→False) :
  PySem.W.WalkO q loose XP YP l.row.toRowW d [] (fun f vs=>PySem.call f vs):=by
 refine Att.Ey hn hdf fun w s₀ s₁ mg mb fa o pm cd doc a vs ns G Y ho hd hcd hmg hobj hints hlen hg=>?_
 have KX:=hY w _ Y
 obtain⟨fd,hb,hF⟩:=F w mg fa _ KX G.T.g hmg
 exact La KX G.T.g G.T.b G.T.builtins G.T.nolimit hg hobj hints (lV hlen hn2) hr hF hb (fun H hO hS=>Gv w H a ns hlen hO hS) fun H e s'=>WX w H s₁ e s'
end L2
namespace L2
open PySem PySem.Spec PyProof.Rows
def pK(s:Stmt):Arguments:=match s with
 | .FunctionDef _ a _ _ _ _ _ _ _ _=>a
 | _=>{ posonlyargs:=[],args:=[],vararg:=none,kwonlyargs:=[],kw_defaults:=[],kwarg:=none,defaults:=[] }
def lg(s:Stmt):List Stmt:=match s with
 | .FunctionDef _ _ b _ _ _ _ _ _ _=>b
 | _=>[]
def az(s:Stmt):Scope:=match s with
 | .FunctionDef _ _ _ _ _ _ sc _ _ _=>sc
 | _=>{ kind:=.function,names:=[],isGenerator:=false,isCoroutine:=false }
abbrev bV:KR:=fun _ _ _ _ _ _=>False
abbrev E0:XK:=fun _ _ _=>False
theorem dz{X:Cx}:Passes bV X E0:=fun _ _ _ _ _ _ _ h=>h.elim
structure iD(K:PySem.W.Frag)(x qual:Str)(st:Stmt)(f:Addr)(fd:FuncData):Prop where
 ex:∃ (oc:Value) (od:Option Addr) (kV doc pm:Value) (an:Option Addr) (cdv ct:Value) (osl:Array (Option Value)),
  fd=PySem.W.fnOf x qual (pK st) (lg st) (az st) .none kV doc pm an cdv ct∧K.lookup f=some ⟨oc,od,.func fd,osl⟩∧PySem.W.codeIn K cdv qual=true
 kp:PySem.W.keepIn K (.ref f)=true
section
variable {P:Program} {w:World} {K:PySem.W.Frag} {mg:Str→Option Value} {base:Heap}
theorem iD.ok{x qual:Str}{st:Stmt}{f:Addr}{fd:FuncData}{N ps:List Str}{k:Nat}{sp:Sp}(F:iD K x qual st f fd)(S:aG N ps (az st))(len:∀ vs H Q E,sp vs H Q E→vs.length=ps.length)
  (hbody:∀ (cdv:Value) (A:Around) (outer:List Env) (s:Shared) (H:Hp) (vs:List V) (Q:VK) (E:XK),kL k (A.deeper (envOfC qual (az st) s.heap.objs.size f cdv))→sp vs H Q E →
   ∃ t,HH (Gu bV P w K mg base N qual (az st) f cdv A outer s H E).Kf (lg st) t∧t { nx:=fun _ H'=>Q .jJ H',rt:=Q } (start N vs) H):aB P w K mg base bV (k+1) f fd ps sp:=by
 obtain⟨oc,od,kV,doc,pm,an,cdv,ct,osl,rfl,lk,hcd⟩:=F.ex
 refine OU lk hcd S len fun A outer s H vs Q E hr Gv=>?_
 obtain⟨t,h,q⟩:=hbody cdv A outer s H vs Q E hr Gv
 exact⟨t,h.Kf,q⟩
theorem iD.binds{x qual:Str}{st:Stmt}{f:Addr}{fd:FuncData}{ps:List Str}(F:iD K x qual st f fd)
  (h:∀ (kV doc pm:Value) (an:Option Addr) (cdv ct:Value) (us:List Value),us.length=ps.length→bindArgs (PySem.W.fnOf x qual (pK st) (lg st) (az st) .none kV doc pm an cdv ct) ⟨us,[]⟩=pure (ps.zip us)):Binds K fd ps []:=by
 obtain⟨oc,od,kV,doc,pm,an,cdv,ct,osl,rfl,lk,hcd⟩:=F.ex
 exact .all (h kV doc pm an cdv ct)
theorem GA{x qual:Str}{st:Stmt}{f:Addr}{oc:Value}{od an:Option Addr}{osl:Array (Option Value)}{kV doc pm cdv ct:Value}(l:K.lookup f=some ⟨oc,od,.func (PySem.W.fnOf x qual (pK st) (lg st) (az st) .none kV doc pm an cdv ct),osl⟩)
  (c:PySem.W.codeIn K cdv qual=true) (k:PySem.W.keepIn K (.ref f)=true):iD K x qual st f (PySem.W.fnOf x qual (pK st) (lg st) (az st) .none kV doc pm an cdv ct):=⟨⟨oc,od,kV,doc,pm,an,cdv,ct,osl,rfl,l,c⟩,k⟩
end
theorem lY{A:Around}{k:Nat}(hr:kL k A):A.units+1<cLine:=Nat.lt_of_le_of_lt (Nat.add_le_add_left (by decide:1≤64) _) hr.units
section
variable {X:Cx}
theorem pv(i:Nat){x:Str}{pos:Pos}(hN:X.N[i]?=some x:=by rfl)(hv:Vo X.env.scope x:=by first|exact Or.inl rfl|exact Or.inr (Or.inl rfl)|exact Or.inr (Or.inr rfl))(hd:(x == ("__debug__":Str))=false:=by decide)
  (hcd:(x == ("__classdict__":Str))=false:=by decide):PE X (.Name x pos) (Nh i):=P4 hN hv hd hcd
end
theorem iL{A B:Prop}(h:B):if false=true then A else B:=by
 rw[if_neg ue]
 exact h
theorem lW{A B:Prop}(h:A):if true=true then A else B:=by
 rw[if_pos rfl]
 exact h
theorem dQ{c A B:Prop} [Decidable c] (h1:c→A) (h2:¬ c→B):if c then A else B:=by
 by_cases h:c
 ·rw[if_pos h]
  exact h1 h
 ·rw[if_neg h]
  exact h2 h
theorem Lc{c A B:Prop} [Decidable c] (hc:c) (h:B):if (!decide c)=true then A else B:=by
 rw[decide_eq_true hc]
 exact iL h
def aF(H H':Hp):Prop:=∀ b o,H b=some o→H' b=some o
theorem aF.refl(H:Hp):aF H H:=fun _ _ h=>h
theorem aF.trans{H H1 H2:Hp}(a:aF H H1)(b:aF H1 H2):aF H H2:=fun c o h=>b c o (a c o h)
theorem aF.free{H H':Hp}(e:aF H H'){l:Addr}(h:H' l=Option.none):H l=Option.none:=by
 cases q:H l with
 | none=>rfl
 | some o =>
  rw[e l o q]at h
  cases h
end L2
namespace jd
open PySem L2
def top(i:Nat):Stmt:=PySem.Challenge.pw_inkroot_k36_quotes_stand.main.body.getD i (.Pass ⟨0,0,0,0⟩)
def Nz:Stmt→List Stmt
 | .ClassDef (body:=b) ..=>b
 | _=>[]
def iW(i j:Nat):Stmt:=(Nz (top i)).getD j (.Pass ⟨0,0,0,0⟩)
inductive DI(K:PySem.W.Frag)(x:Str)(st:Stmt)(f:Addr):Prop
 | mk {oc:Value} {od an:Option Addr} {osl:Array (Option Value)} {kV doc pm cdv ct:Value} (_:PySem.W.nsIn K mainGlobals x=some (some (.ref f))) (_:K.lookup f=some ⟨oc,od,.func (PySem.W.fnOf x x (pK st) (lg st) (az st) .none kV doc pm an cdv ct),osl⟩) (_:PySem.W.codeIn K cdv x=true) (_:PySem.W.keepIn K (.ref f)=true):DI K x st f
inductive MI(K:PySem.W.Frag)(C:Addr)(x qual:Str)(st:Stmt)(f:Addr):Prop
 | mk {oc:Value} {od an:Option Addr} {osl:Array (Option Value)} {kV doc pm cdv ct:Value} (_:PySem.W.findIn K (.ref C) x=some (some (.ref f))) (_:PySem.W.isFn K (.ref f)=true) (_:K.lookup f=some ⟨oc,od,.func (PySem.W.fnOf x qual (pK st) (lg st) (az st) .none kV doc pm an cdv ct),osl⟩) (_:PySem.W.codeIn K cdv qual=true) (_:PySem.W.keepIn K (.ref f)=true):MI K C x qual st f
inductive CI(K:PySem.W.Frag)(x:Str)(C:Addr):Prop
 | mk (_:PySem.W.nsIn K mainGlobals x=some (some (.ref C))) (_:PySem.W.plainGet K C Str.empty=true) (_:PySem.W.hasDictIn K C=true) (_:PySem.W.plainOver K C=true) (_:PySem.W.findIn K (.ref C) "__setattr__"=some (some (.builtin "object.__setattr__"))) (_:PySem.W.makesIn K C=true) (_:PySem.W.keepIn K (.ref C)=true):CI K x C
inductive XI(K:PySem.W.Frag)(x:Str)(C:Addr):Prop
 | mk (_:PySem.W.nsIn K mainGlobals x=some (some (.ref C))) (_:PySem.W.excIn K C [.type "ValueError",.type "Exception",.type "BaseException",.type "object"] "ValueError.__new__"=true) (_:PySem.W.exmOne K (.ref C) (.ref C)=some true):XI K x C
inductive Ez(K:PySem.W.Frag)(vs:List V)(H:Hp)(Q:VK)(E:XK):Prop
 | mk (a:Addr) (ns:List Int) (_:vs=[.ref a]) (_:bF K H a (ns.map V.int)) (_:ns.length≤63) (_: ∀ H',Q (.bl true) H'):Ez K vs H Q E
abbrev tE:Stmt:=top 67
abbrev iM:Stmt:=top 68
abbrev eS:Stmt:=top 69
abbrev iN:Stmt:=top 70
abbrev lu:Stmt:=top 11
abbrev ssize:Stmt:=top 12
abbrev eT:Stmt:=top 14
abbrev mP:Stmt:=top 15
abbrev BF:Stmt:=top 16
abbrev uO:Stmt:=top 17
abbrev nC:Stmt:=top 22
abbrev CN:Stmt:=top 23
abbrev iS:Stmt:=iW 27 0
abbrev qS:Stmt:=iW 27 3
abbrev dZ:Stmt:=top 31
abbrev ly:Stmt:=top 32
abbrev iO:Stmt:=top 39
abbrev BG:Stmt:=top 40
abbrev iP:Stmt:=top 37
abbrev fy:Stmt:=top 38
abbrev eX:Stmt:=top 33
abbrev dJ:Stmt:=top 34
abbrev zA:Stmt:=top 35
abbrev lA:Stmt:=top 42
abbrev gu:Stmt:=top 43
abbrev qT:Stmt:=top 44
abbrev qU:Stmt:=top 45
abbrev mq:Stmt:=top 46
abbrev oq:Stmt:=top 48
abbrev tF:Stmt:=top 47
abbrev ou:Stmt:=top 49
abbrev jf:Stmt:=top 51
abbrev kB:Stmt:=top 52
abbrev oz:Stmt:=top 54
abbrev iT:Stmt:=iW 55 0
abbrev gS:Stmt:=iW 55 3
abbrev iF:Stmt:=iW 55 2
abbrev kC:Stmt:=iW 55 1
abbrev dD:Stmt:=iW 55 4
abbrev cG:Stmt:=iW 55 5
abbrev mw:Stmt:=iW 55 7
abbrev dF:Stmt:=iW 55 10
abbrev mX:Stmt:=iW 55 9
abbrev jg:Stmt:=iW 57 0
abbrev jh:Stmt:=iW 29 0
abbrev ji:Stmt:=iW 59 0
abbrev kg:Stmt:=iW 59 2
abbrev oA:Stmt:=iW 59 1
abbrev jW:Stmt:=iW 59 5
abbrev uP:Stmt:=iW 59 3
abbrev kF:Stmt:=iW 59 6
abbrev lC:Stmt:=top 64
abbrev bS:Stmt:=iW 65 1
abbrev jX:Stmt:=iW 65 26
abbrev vM:Stmt:=iW 65 25
abbrev cJ:Stmt:=iW 65 2
abbrev jj:Stmt:=iW 65 3
abbrev ig:Stmt:=iW 65 7
abbrev dN:Stmt:=iW 65 30
abbrev ug:Stmt:=iW 65 34
abbrev iV:Stmt:=iW 65 6
abbrev jK:Stmt:=iW 65 27
abbrev d8:Stmt:=iW 65 4
abbrev nO:Stmt:=iW 65 8
abbrev rL:Stmt:=iW 65 23
abbrev uh:Stmt:=iW 65 32
abbrev iX:Stmt:=iW 65 0
abbrev nP:Stmt:=iW 65 9
abbrev jk:Stmt:=iW 65 11
abbrev lD:Stmt:=iW 65 28
abbrev ki:Stmt:=top 73
abbrev kj:Stmt:=top 74
abbrev mY:Stmt:=top 76
abbrev jm:Stmt:=top 77
abbrev mz:Stmt:=top 80
abbrev mZ:Stmt:=top 81
abbrev pL:Stmt:=top 82
abbrev lE:Stmt:=top 72
abbrev jo:Stmt:=top 75
abbrev pM:Stmt:=top 71
abbrev oB:Stmt:=top 78
abbrev j5:Stmt:=top 83
abbrev pN:Stmt:=top 84
abbrev NB:Stmt:=top 85
end jd
namespace jd
open PySem L2
def OW:Prop:=∀ {l:PySem.W.OpenLaw} {w:World} {K:PySem.W.Frag} {h:Heap} {mg:Str→Option Value} {fa:Addr} {f0 f1 f2 f3 f4 f5 f6 f7 f8 f9 Vx Vy Vz f13 f14 f15 VA f17 f18 f19 f20 f21 WZ f23 f24 f25 f26 f27 f28 f29 f30 f31 f32 f33 f34 f35 f36 f37 f38 f39 f40 f41 f42 f43 f44 f45 f46 f47 f48 f49 f50 f51 f52 f53 f54 f55 f56 f57 f58 f59 f60 f61 f62 f63 f64 f65 f66 f67 f68 f69 f70 f71 f72 f73 f74 f75 f76 f77 f78 f79 f80 f81 f82 f83 b9 ef gU um ya aI C0 m5 n8 n9 qy:Addr} {uo uq EA:Tok} (X:K.In h) (G:h.Ns mainGlobals mg) (hfa:mg "law"=some (.ref fa))
  (HY:CI K "Shelf" b9)
  (ur:PySem.W.findIn K (.ref b9) "states"=some none)
  (rM:PySem.W.findIn K (.ref b9) "openings"=some none)
  (Ld:CI K "Well" ef)
  (yb:PySem.W.findIn K (.ref ef) "signs"=some none)
  (vN:PySem.W.findIn K (.ref ef) "owners"=some none)
  (sE:PySem.W.findIn K (.ref ef) "pourings"=some none)
  (HZ:CI K "Blots" gU)
  (uu:PySem.W.findIn K (.ref gU) "stains"=some none)
  (Le:CI K "Ties" um)
  (yc:PySem.W.findIn K (.ref um) "given"=some none)
  (yd:PySem.W.findIn K (.ref um) "pairs"=some none)
  (Lf:CI K "Dues" ya)
  (zB:PySem.W.findIn K (.ref ya) "sums"=some none)
  (BH:CI K "Library" aI)
  (uv:PySem.W.findIn K (.ref aI) "well"=some none)
  (sF:PySem.W.findIn K (.ref aI) "shelf"=some none)
  (sG:PySem.W.findIn K (.ref aI) "blots"=some none)
  (sH:PySem.W.findIn K (.ref aI) "knots"=some none)
  (ux:PySem.W.findIn K (.ref aI) "dues"=some none)
  (uy:PySem.W.findIn K (.ref aI) "book"=some none)
  (q0:DI K "_law_src" tE f0)
  (q1:DI K "_law_next" iM f1)
  (q2:DI K "_law_whole" eS f2)
  (q3:DI K "_law_same" iN f3)
  (q4:DI K "plain" lu f4)
  (q5:DI K "size" ssize f5)
  (q6:DI K "check_places" eT f6)
  (q7:DI K "pieces" mP f7)
  (q8:DI K "part" BF f8)
  (q9:DI K "addresses" uO f9)
  (uz:DI K "first_reaching" nC Vx)
  (NC:DI K "within" CN Vy)
  (VB:MI K gU "__init__" "Blots.__init__" iS Vz)
  (Qu:MI K gU "hides" "Blots.hides" qS f13)
  (Qv:DI K "windows" dZ f14)
  (Qw:DI K "below" ly f15)
  (VC:DI K "way_between" iO VA)
  (q17:DI K "ring" BG f17)
  (q18:DI K "item_weight" iP f18)
  (q19:DI K "weights_below" fy f19)
  (q20:DI K "item_row" eX f20)
  (q21:DI K "views_below" dJ f21)
  (q22:DI K "shown" zA WZ)
  (q23:DI K "goes_on" lA f23)
  (q24:DI K "plain_items" gu f24)
  (q25:DI K "inked" qT f25)
  (q26:DI K "dealt" qU f26)
  (q27:DI K "put_among" mq f27)
  (q28:DI K "put_items" oq f28)
  (q29:DI K "parted" tF f29)
  (q30:DI K "cut_items" ou f30)
  (q31:DI K "ink_words" jf f31)
  (q32:DI K "shown_deed" kB f32)
  (q33:DI K "changed" oz f33)
  (q34:MI K b9 "__init__" "Shelf.__init__" iT f34)
  (q35:MI K b9 "now" "Shelf.now" gS f35)
  (q36:MI K b9 "many" "Shelf.many" iF f36)
  (q37:MI K b9 "step" "Shelf.step" kC f37)
  (q38:MI K b9 "check_sheet" "Shelf.check_sheet" dD f38)
  (q39:MI K b9 "check_moment" "Shelf.check_moment" cG f39)
  (q40:MI K b9 "rows_then" "Shelf.rows_then" dF f40)
  (q41:MI K b9 "rows" "Shelf.rows" mX f41)
  (q42:MI K b9 "row" "Shelf.row" mw f42)
  (q43:MI K um "__init__" "Ties.__init__" jg f43)
  (q44:MI K ya "__init__" "Dues.__init__" jh f44)
  (q45:MI K ef "__init__" "Well.__init__" ji f45)
  (q46:MI K ef "size" "Well.size" kg f46)
  (q47:MI K ef "pour" "Well.pour" oA f47)
  (q48:MI K ef "check_address" "Well.check_address" jW f48)
  (q49:MI K ef "sign" "Well.sign" uP f49)
  (q50:MI K ef "holds" "Well.holds" kF f50)
  (q51:DI K "check_weave" lC f51)
  (q52:MI K aI "__init__" "Library.__init__" iX f52)
  (q53:MI K aI "enter" "Library.enter" bS f53)
  (q54:MI K aI "change" "Library.change" cJ f54)
  (q55:MI K aI "many" "Library.many" jX f55)
  (q56:MI K aI "now" "Library.now" vM f56)
  (q57:MI K aI "begin" "Library.begin" jj f57)
  (q58:MI K aI "fresh" "Library.fresh" ig f58)
  (q59:MI K aI "ink" "Library.ink" jK f59)
  (q60:MI K aI "check_held" "Library.check_held" d8 f60)
  (q61:MI K aI "pour" "Library.pour" iV f61)
  (q62:MI K aI "put" "Library.put" nO f62)
  (q63:MI K aI "shown" "Library.shown" dN f63)
  (q64:MI K aI "veiled" "Library.veiled" rL f64)
  (q65:MI K aI "text" "Library.text" uh f65)
  (q66:MI K aI "size" "Library.size" ug f66)
  (q67:MI K aI "cut" "Library.cut" nP f67)
  (q68:MI K aI "quote" "Library.quote" jk f68)
  (q69:MI K aI "row" "Library.row" lD f69)
  (q70:DI K "_law_sign" ki f70)
  (q71:DI K "_law_text" kj f71)
  (q72:DI K "_law_world" mY f72)
  (q73:DI K "_law_keep" jm f73)
  (q74:DI K "_law_pour" mz f74)
  (q75:DI K "_law_fresh" mZ f75)
  (q76:DI K "_law_begin" pL f76)
  (q77:DI K "_law_row_of" lE f77)
  (q78:DI K "_law_items_of" jo f78)
  (q79:DI K "_law_spell" pM f79)
  (q80:DI K "_law_swap" oB f80)
  (q81:DI K "_law_all_right" j5 f81)
  (q82:DI K "_law_quote" pN f82)
  (q83:DI K "law" NB f83)
  (z0:PySem.W.nsIn K mainGlobals "len"=some none)
  (z1:PySem.W.nsIn K mainGlobals "list"=some none)
  (z2:PySem.W.nsIn K mainGlobals "tuple"=some none)
  (z3:PySem.W.nsIn K mainGlobals "int"=some none)
  (z4:PySem.W.nsIn K mainGlobals "bool"=some none)
  (z5:PySem.W.nsIn K mainGlobals "str"=some none)
  (z6:PySem.W.nsIn K mainGlobals "range"=some none)
  (z7:PySem.W.nsIn K mainGlobals "zip"=some none)
  (z8:PySem.W.nsIn K mainGlobals "isinstance"=some none)
  (z9:PySem.W.nsIn K mainGlobals "sum"=some none)
  (z10:PySem.W.nsIn K mainGlobals "min"=some none)
  (z11:PySem.W.nsIn K mainGlobals "max"=some none)
  (z12:PySem.W.nsIn K mainGlobals "all"=some none)
  (e0:XI K "OutOfPlace" C0)
  (EB:XI K "NoSheet" m5)
  (BI:XI K "NoMoment" n8)
  (BJ:XI K "OutOfInk" n9)
  (EC:XI K "TooMany" qy)
  (uA:PySem.W.nsIn K mainGlobals "MOST_SHEETS"=some (some (.int 40 uo)))
  (uB:PySem.W.nsIn K mainGlobals "MOST_WEIGHT"=some (some (.int 200 uq)))
  (ED:PySem.W.nsIn K mainGlobals "HIDDEN"=some (some (.str (Str.ofString "#") EA)))
  (vO:PySem.W.nsIn K mainGlobals "size_spans"=some (some (.ref f5)))
  (uC:PySem.W.nsIn K mainGlobals "shown_weave"=some (some (.ref WZ))),
  ∃ fd:FuncData,(∀ (s:Shared) (v:Value),BindsTo s fd ⟨[v],[]⟩ [("_law_script",v)])∧∀ base:Heap,K.In base→base.Ns mainGlobals mg→aB l.prog w K mg base bV 14 fa fd ["_law_script"] (Ez K)
theorem walk{l:PySem.W.OpenLaw}{q:Program}{loose:List Str}{XP:(Str→Option Value)→Heap→Prop}{YP:World→Heap→Prop}{d:DefRec}{K:Params→PySem.W.Frag}(hn:l.most=some 63)(hdf:d.params.defaults=[])
  (hY:∀ (w:World) (h:Heap),YP w h→(K w.params).In h)
  (F:∀ (w:World) (mg:Str→Option Value) (fa:Addr) (h:Heap),(K w.params).In h→h.Ns mainGlobals mg→mg d.name=some (.ref fa) →
   ∃ fd:FuncData,(∀ (s:Shared) (u:Value),BindsTo s fd ⟨[u],[]⟩ [("_law_script",u)])∧∀ base:Heap,(K w.params).In base→base.Ns mainGlobals mg→aB l.prog w (K w.params) mg base bV 14 fa fd ["_law_script"] (Ez (K w.params))) :
  PySem.W.WalkO q loose XP YP l.row.toRowW d [] (fun f vs=>PySem.call f vs) :=
 L2.Ny (n:=63) (k:=14) (x:="_law_script") (CX:=fun _=>bV) (sp:=fun w=>Ez (K w.params)) hn (by decide) hdf ⟨rfl,by decide,by decide⟩ hY F (fun _ _ a ns hl _ hS=>⟨a,ns,rfl,hS,hl,fun _=>rfl⟩) fun _ _ _ _ _ z=>z
end jd
namespace PySem.W.Fast
theorem tw5266767160564515993:True:=⟨⟩
theorem tw7721461359934943768:True:=⟨⟩
theorem tw201933790862995104:True:=⟨⟩
theorem tw17911854883868612575:True:=⟨⟩
theorem tw8705221007131104421:True:=⟨⟩
theorem tw8702715673530555363:True:=⟨⟩
theorem tw16082918698202490753:True:=⟨⟩
theorem tw11938183843352125368:True:=⟨⟩
theorem tw14059090881922659559:True:=⟨⟩
theorem tw11482716289855169126:True:=⟨⟩
theorem tw5823663383824831483:True:=⟨⟩
theorem tw4214155358151254385:True:=⟨⟩
theorem tw17443121716060226498:True:=⟨⟩
theorem tw3952281214197815731:True:=⟨⟩
theorem tw2438395570035680096:True:=⟨⟩
theorem tw9033460669454685244:True:=⟨⟩
theorem tw6390158133017393018:True:=⟨⟩
theorem tw3358629806368766875:True:=⟨⟩
theorem tw16837328682235141961:True:=⟨⟩
theorem tw15988519153443854489:True:=⟨⟩
theorem tw3278096243541500057:True:=⟨⟩
theorem tw340762271652277686:True:=⟨⟩
theorem tw2549935631491634239:True:=⟨⟩
theorem tw10184423217230927028:True:=⟨⟩
theorem tw6893651972064436114:True:=⟨⟩
theorem tw13199918972012773611:True:=⟨⟩
theorem tw4599518829872630295:True:=⟨⟩
theorem tw6087799887143813866:True:=⟨⟩
theorem tw10311874637892447070:True:=⟨⟩
theorem tw639998947755463844:True:=⟨⟩
theorem tw5259495657781364954:True:=⟨⟩
theorem tw9414604910088457052:True:=⟨⟩
theorem tw3747551655624476472:True:=⟨⟩
theorem tw7448590157026515100:True:=⟨⟩
theorem tw11522209194051020180:True:=⟨⟩
theorem tw8431870796251760129:True:=⟨⟩
theorem tw12917904529186767824:True:=⟨⟩
theorem tw17713329838241354911:True:=⟨⟩
theorem tw13683521634764191411:True:=⟨⟩
theorem tw929797194750666733:True:=⟨⟩
theorem tw3175490337562636929:True:=⟨⟩
theorem tw11908589936443683549:True:=⟨⟩
theorem tw11757221397965655049:True:=⟨⟩
theorem tw13718620914246052479:True:=⟨⟩
theorem tw5672941685523407125:True:=⟨⟩
theorem tw13924823354043443059:True:=⟨⟩
theorem tw12210883103745332148:True:=⟨⟩
theorem tw10080766573768989648:True:=⟨⟩
theorem tw8194943878313794300:True:=⟨⟩
theorem tw1776091565182299973:True:=⟨⟩
theorem tw3807239704271807456:True:=⟨⟩
theorem tw7177228722901893065:True:=⟨⟩
theorem tw10743600868441389177:True:=⟨⟩
theorem tw16085063527680454937:True:=⟨⟩
theorem tw15327553820733192719:True:=⟨⟩
theorem tw18231864511094827091:True:=⟨⟩
theorem tw6575905953755740786:True:=⟨⟩
theorem tw2639053131959415615:True:=⟨⟩
theorem tw16776213180799385185:True:=⟨⟩
theorem tw3601379681474563612:True:=⟨⟩
theorem tw2464771637733428870:True:=⟨⟩
theorem tw7919322466757921914:True:=⟨⟩
theorem tw8770930764494953254:True:=⟨⟩
theorem tw2305525327703168107:True:=⟨⟩
theorem tw6856055761122152441:True:=⟨⟩
theorem tw14775826335213089089:True:=⟨⟩
theorem tw15807248867374481496:True:=⟨⟩
theorem tw13284177181590120750:True:=⟨⟩
theorem tw17143298393006933066:True:=⟨⟩
theorem tw13376792451069586937:True:=⟨⟩
theorem tw9835064846997071787:True:=⟨⟩
theorem tw7204292791472459546:True:=⟨⟩
theorem tw16855969461675917500:True:=⟨⟩
theorem tw2954215728994819189:True:=⟨⟩
theorem tw887497061804453241:True:=⟨⟩
theorem tw8711602308927071272:True:=⟨⟩
theorem tw3369312502788764452:True:=⟨⟩
theorem tw10656229636116531723:True:=⟨⟩
theorem tw14052591556160792890:True:=⟨⟩
theorem tw5492585606739117306:True:=⟨⟩
theorem tw288193289924607393:True:=⟨⟩
theorem tw14211481313688112593:True:=⟨⟩
theorem tw15337604138945863446:True:=⟨⟩
theorem tw5560532703664446662:True:=⟨⟩
theorem tw11801845688269871698:True:=⟨⟩
theorem tw2618936888552600133:True:=⟨⟩
theorem tw15052472843376236856:True:=⟨⟩
theorem tw596280827895313215:True:=⟨⟩
theorem tw12851293545338506345:True:=⟨⟩
theorem tw15706232477189756379:True:=⟨⟩
theorem tw15048905190594825987:True:=⟨⟩
theorem tw10842984952328896065:True:=⟨⟩
theorem tw15852970164072359407:True:=⟨⟩
theorem tw18418380011427830924:True:=⟨⟩
theorem tw15192949705756320920:True:=⟨⟩
theorem tw4887408277650683621:True:=⟨⟩
theorem tw6643384745748384720:True:=⟨⟩
theorem tw8391286001974631308:True:=⟨⟩
theorem tw11066153436690369455:True:=⟨⟩
theorem tw3762650319995831718:True:=⟨⟩
theorem tw8843159015503798977:True:=⟨⟩
theorem tw6873679623317477727:True:=⟨⟩
theorem tw5920977276875883376:True:=⟨⟩
theorem tw11553575440415695131:True:=⟨⟩
theorem tw15310232041003677834:True:=⟨⟩
theorem tw9035370790972631509:True:=⟨⟩
theorem tw10277041301546726208:True:=⟨⟩
theorem tw1502817224425569565:True:=⟨⟩
theorem tw5144735202265306001:True:=⟨⟩
theorem tw13170691197324150504:True:=⟨⟩
theorem tw10471635254527446707:True:=⟨⟩
theorem tw18384035710541945678:True:=⟨⟩
theorem tw15761050457806705791:True:=⟨⟩
theorem tw3241739244931427823:True:=⟨⟩
theorem tw8065473323069613036:True:=⟨⟩
theorem tw14616673628485984237:True:=⟨⟩
theorem tw17323458830874340338:True:=⟨⟩
theorem tw12316983353678536434:True:=⟨⟩
theorem tw9846425762459389065:True:=⟨⟩
theorem tw5971883013748126546:True:=⟨⟩
theorem tw6119131802831041313:True:=⟨⟩
theorem tw6225011473945262114:True:=⟨⟩
theorem tw4247735912238159857:True:=⟨⟩
theorem tw14823435911390801152:True:=⟨⟩
theorem tw17544143542903068042:True:=⟨⟩
theorem tw16589266931370067063:True:=⟨⟩
theorem tw12282208545046103628:True:=⟨⟩
theorem tw17136844248976525402:True:=⟨⟩
theorem tw7868268928060844866:True:=⟨⟩
theorem tw2483849429705481627:True:=⟨⟩
theorem tw1148613693418686457:True:=⟨⟩
theorem tw14922636566349518079:True:=⟨⟩
theorem tw5545320503792133555:True:=⟨⟩
theorem tw5420692676110422685:True:=⟨⟩
theorem tw3056135266478694041:True:=⟨⟩
theorem tw11433182864504307127:True:=⟨⟩
theorem tw16318561534288026659:True:=⟨⟩
theorem tw8563227107404305527:True:=⟨⟩
theorem tw14743168080113099429:True:=⟨⟩
theorem tw10106584894168627816:True:=⟨⟩
theorem tw18250324289309780850:True:=⟨⟩
theorem tw3266467478519457373:True:=⟨⟩
theorem tw2715520085349319209:True:=⟨⟩
theorem tw5358480190662264400:True:=⟨⟩
theorem tw16755101942307132356:True:=⟨⟩
theorem tw18320425888816889052:True:=⟨⟩
theorem tw15616061808417589035:True:=⟨⟩
theorem tw5328794425318160951:True:=⟨⟩
theorem tw8453799327730558381:True:=⟨⟩
theorem tw5048514128451207375:True:=⟨⟩
theorem tw5002953776295597493:True:=⟨⟩
theorem tw7944065429464153093:True:=⟨⟩
theorem tw14768843304860515211:True:=⟨⟩
theorem tw18335309282976675861:True:=⟨⟩
theorem tw16536246767931552789:True:=⟨⟩
theorem tw1100436582592135551:True:=⟨⟩
theorem tw2934219923387042476:True:=⟨⟩
theorem tw14834212492915629472:True:=⟨⟩
theorem tw17355821157091688343:True:=⟨⟩
theorem tw8536772591133448592:True:=⟨⟩
theorem tw11592233067333777617:True:=⟨⟩
theorem tw10872973647811691412:True:=⟨⟩
theorem tw15270117090923842873:True:=⟨⟩
theorem tw8132002346896852977:True:=⟨⟩
theorem tw9661340401271138017:True:=⟨⟩
theorem tw14191155137395378218:True:=⟨⟩
theorem tw2350650622221892671:True:=⟨⟩
theorem tw13465651402191161140:True:=⟨⟩
theorem tw14636336187856897320:True:=⟨⟩
theorem tw1863486939816155090:True:=⟨⟩
theorem tw17958905761557354413:True:=⟨⟩
theorem tw11676476505969239795:True:=⟨⟩
theorem tw5598422720332775707:True:=⟨⟩
theorem tw4101868303265456960:True:=⟨⟩
theorem tw10056268787773549685:True:=⟨⟩
theorem tw9613917067209929284:True:=⟨⟩
theorem tw14781794720783504400:True:=⟨⟩
theorem tw15380571870273327858:True:=⟨⟩
theorem tw10943352149162543475:True:=⟨⟩
theorem tw16926177943753941115:True:=⟨⟩
theorem tw6963942596279738602:True:=⟨⟩
theorem tw15976878904460361604:True:=⟨⟩
theorem tw7105116107401322991:True:=⟨⟩
theorem tw10098341751400325980:True:=⟨⟩
theorem tw9122619520116840697:True:=⟨⟩
theorem tw4695248145826227608:True:=⟨⟩
theorem tw13791118020735398756:True:=⟨⟩
theorem tw6139354878624457511:True:=⟨⟩
theorem tw16911138164849261164:True:=⟨⟩
theorem tw17125534406106201078:True:=⟨⟩
theorem tw3745030668776603827:True:=⟨⟩
theorem tw3114209929918224560:True:=⟨⟩
theorem tw17858398770523798544:True:=⟨⟩
theorem tw14341710514594268440:True:=⟨⟩
theorem tw16812754901229170729:True:=⟨⟩
theorem tw7422450485355497166:True:=⟨⟩
theorem tw1030895084703914662:True:=⟨⟩
theorem tw2336997687437494446:True:=⟨⟩
theorem tw16507470917822616487:True:=⟨⟩
theorem tw9466703208499806207:True:=⟨⟩
theorem tw11864492032317687419:True:=⟨⟩
theorem tw17540359043136350951:True:=⟨⟩
theorem tw17376185908672390092:True:=⟨⟩
theorem tw9172098480387323218:True:=⟨⟩
theorem tw14757316813241316095:True:=⟨⟩
theorem tw14376197925122989402:True:=⟨⟩
theorem tw7895905356701642532:True:=⟨⟩
theorem tw10853609457541284994:True:=⟨⟩
theorem tw10042564545992659113:True:=⟨⟩
theorem tw6489279890824307718:True:=⟨⟩
theorem tw14730585973531414856:True:=⟨⟩
theorem tw4235442842634232576:True:=⟨⟩
theorem tw6137627091318505220:True:=⟨⟩
theorem tw9004290650808440347:True:=⟨⟩
theorem tw3933127296314296901:True:=⟨⟩
theorem tw16070520208798654050:True:=⟨⟩
theorem tw10926254661349605779:True:=⟨⟩
theorem tw17271173239716123283:True:=⟨⟩
theorem tw2691314249269441890:True:=⟨⟩
theorem tw1725775869473304110:True:=⟨⟩
theorem tw11199536012045426704:True:=⟨⟩
theorem tw12351889584849309997:True:=⟨⟩
theorem tw9068592195408067628:True:=⟨⟩
theorem tw15359678482840867004:True:=⟨⟩
theorem tw8187561533065666016:True:=⟨⟩
theorem tw9313340293058905794:True:=⟨⟩
theorem tw546045491944166320:True:=⟨⟩
theorem tw4678053371402397297:True:=⟨⟩
theorem tw5257980697231369008:True:=⟨⟩
theorem tw3368063185686083676:True:=⟨⟩
theorem tw11919394034183540835:True:=⟨⟩
theorem tw13699679847253708401:True:=⟨⟩
theorem tw10211920968119738353:True:=⟨⟩
theorem tw2828918764300638291:True:=⟨⟩
theorem tw10791529695436120941:True:=⟨⟩
theorem tw2941110116458823770:True:=⟨⟩
theorem tw5259419018314410194:True:=⟨⟩
theorem tw2037830406172198710:True:=⟨⟩
theorem tw7280470766933355584:True:=⟨⟩
theorem tw7228544481450379970:True:=⟨⟩
theorem tw475493093037957295:True:=⟨⟩
theorem tw18301967789204320441:True:=⟨⟩
theorem tw5245171607019132025:True:=⟨⟩
theorem tw16793480782360540001:True:=⟨⟩
theorem tw5282374406133797099:True:=⟨⟩
theorem tw10545551873038618343:True:=⟨⟩
theorem tw10663214330717077937:True:=⟨⟩
theorem tw6994132556236726050:True:=⟨⟩
theorem tw2199796172568613666:True:=⟨⟩
theorem tw8895810321323980133:True:=⟨⟩
theorem tw5523748086111670569:True:=⟨⟩
theorem tw7268442159490524311:True:=⟨⟩
theorem tw8516132290513968387:True:=⟨⟩
theorem tw8582313367619897943:True:=⟨⟩
theorem tw2099357435179905251:True:=⟨⟩
theorem tw6287910171820333042:True:=⟨⟩
theorem tw2388851764993613908:True:=⟨⟩
theorem tw1177472664376371084:True:=⟨⟩
theorem tw14231007732145278333:True:=⟨⟩
theorem tw8206628090352085206:True:=⟨⟩
theorem tw668283313921076907:True:=⟨⟩
theorem tw6567959430481548653:True:=⟨⟩
theorem tw15911190677581700465:True:=⟨⟩
theorem tw16826079917789185208:True:=⟨⟩
theorem tw14683391070143995484:True:=⟨⟩
theorem tw17596207649916899212:True:=⟨⟩
theorem tw5133233234896554985:True:=⟨⟩
theorem tw8025866022032955277:True:=⟨⟩
theorem tw12187760470641846209:True:=⟨⟩
theorem tw1008819555749048269:True:=⟨⟩
theorem tw17007661377396893166:True:=⟨⟩
theorem tw17741780180618222233:True:=⟨⟩
theorem tw14858227021085502525:True:=⟨⟩
theorem tw2566676522688843499:True:=⟨⟩
theorem tw13246766490439714986:True:=⟨⟩
theorem tw35453382799193172:True:=⟨⟩
theorem tw12128983970671436951:True:=⟨⟩
theorem tw7816458437747694925:True:=⟨⟩
theorem tw8640519804382773043:True:=⟨⟩
theorem tw18241070544959546962:True:=⟨⟩
theorem tw13568050029362515886:True:=⟨⟩
theorem tw11530763352649988738:True:=⟨⟩
theorem tw8597078654916950455:True:=⟨⟩
theorem tw13466401092301658706:True:=⟨⟩
theorem tw7893359709070193378:True:=⟨⟩
theorem tw6126727566957236487:True:=⟨⟩
theorem tw14709067265242032183:True:=⟨⟩
theorem tw9506057348323318137:True:=⟨⟩
theorem tw4618563617764221657:True:=⟨⟩
theorem tw17656978941437696718:True:=⟨⟩
theorem tw5138122612657069612:True:=⟨⟩
theorem tw13413120622993171973:True:=⟨⟩
theorem tw13007702986738082025:True:=⟨⟩
theorem tw8551530927566085067:True:=⟨⟩
theorem tw11038096184079391756:True:=⟨⟩
theorem tw4334978477770310011:True:=⟨⟩
theorem tw1358488638362572488:True:=⟨⟩
theorem tw5347916735140767940:True:=⟨⟩
theorem tw6592064974482039171:True:=⟨⟩
theorem tw17871407275776409998:True:=⟨⟩
theorem tw7811249657809835964:True:=⟨⟩
theorem tw3404100638408864986:True:=⟨⟩
theorem tw6200291111874061967:True:=⟨⟩
theorem tw1958173601154685798:True:=⟨⟩
theorem tw10106209411293129469:True:=⟨⟩
theorem tw14162534063413645657:True:=⟨⟩
theorem tw12723866722133007598:True:=⟨⟩
theorem tw5032221903144492455:True:=⟨⟩
theorem tw6843156750358919923:True:=⟨⟩
theorem tw16438567626229859001:True:=⟨⟩
theorem tw8434155362096528272:True:=⟨⟩
theorem tw4666138723679726020:True:=⟨⟩
theorem tw7668081531243994470:True:=⟨⟩
theorem tw12427193524009723120:True:=⟨⟩
theorem tw10950980562084081225:True:=⟨⟩
theorem tw8300559805780007183:True:=⟨⟩
theorem tw16692126541153111420:True:=⟨⟩
theorem tw4086440609839527419:True:=⟨⟩
theorem tw6430006275329591917:True:=⟨⟩
theorem tw6479198242889836846:True:=⟨⟩
theorem tw16716669228950392269:True:=⟨⟩
theorem tw10457288135770883430:True:=⟨⟩
theorem tw1152280803645456329:True:=⟨⟩
theorem tw8488597851141143361:True:=⟨⟩
theorem tw9673315348360905054:True:=⟨⟩
theorem tw2914239639276264917:True:=⟨⟩
theorem tw13832028563066712594:True:=⟨⟩
theorem tw3277385477876747749:True:=⟨⟩
theorem tw13848341546378416986:True:=⟨⟩
theorem tw14967748268358932388:True:=⟨⟩
theorem tw13171582711824660201:True:=⟨⟩
theorem tw8812553217932655669:True:=⟨⟩
theorem tw8176171890345177691:True:=⟨⟩
theorem tw8414239806934473288:True:=⟨⟩
theorem tw15697052279047917805:True:=⟨⟩
theorem tw8424683824695897173:True:=⟨⟩
theorem tw4947958366985535220:True:=⟨⟩
theorem tw15645659504350646496:True:=⟨⟩
theorem tw16897199031210556401:True:=⟨⟩
theorem tw17229525592110020810:True:=⟨⟩
theorem tw7894291896141336592:True:=⟨⟩
theorem tw14972306418750295076:True:=⟨⟩
theorem tw4658605333950578375:True:=⟨⟩
theorem tw5521999178615050318:True:=⟨⟩
theorem tw13266665588111882970:True:=⟨⟩
theorem tw14328993568879149558:True:=⟨⟩
theorem tw4550526188429742390:True:=⟨⟩
theorem tw14779959896889231018:True:=⟨⟩
theorem tw16987499721572198789:True:=⟨⟩
theorem tw17008278808186666848:True:=⟨⟩
theorem tw16451766098598118912:True:=⟨⟩
theorem tw867545482160904006:True:=⟨⟩
theorem tw1677218594691281164:True:=⟨⟩
theorem tw12356547056315000535:True:=⟨⟩
theorem tw5461878685832631934:True:=⟨⟩
theorem tw699727529744723581:True:=⟨⟩
theorem tw11212508736572459970:True:=⟨⟩
theorem tw13527433544523128478:True:=⟨⟩
theorem tw12496314823322815035:True:=⟨⟩
theorem tw367360305359901486:True:=⟨⟩
theorem tw16997342421984579106:True:=⟨⟩
theorem tw6159457995108339719:True:=⟨⟩
theorem tw467197192338748191:True:=⟨⟩
theorem tw1768709015091796872:True:=⟨⟩
theorem tw15888353765882172403:True:=⟨⟩
theorem tw3256989540141137145:True:=⟨⟩
theorem tw7891155265659943045:True:=⟨⟩
theorem tw16561679319669150387:True:=⟨⟩
theorem tw10905877928499814346:True:=⟨⟩
theorem tw18133094969009105927:True:=⟨⟩
theorem tw14504870665629177839:True:=⟨⟩
theorem tw16148727849651087611:True:=⟨⟩
theorem tw1119296851093288793:True:=⟨⟩
theorem tw6813158528109826770:True:=⟨⟩
theorem tw18319340038455266007:True:=⟨⟩
theorem tw10339135674781753861:True:=⟨⟩
theorem tw11896315940032893076:True:=⟨⟩
theorem tw3805149200188993779:True:=⟨⟩
theorem tw16879625254048975842:True:=⟨⟩
theorem tw6643917349384532850:True:=⟨⟩
theorem tw13767348390180235505:True:=⟨⟩
theorem tw17650621176965145316:True:=⟨⟩
theorem tw731455424596538654:True:=⟨⟩
theorem tw1661140123691711642:True:=⟨⟩
theorem tw2023451093014739413:True:=⟨⟩
theorem tw2067672552784147376:True:=⟨⟩
theorem tw17557573514726360038:True:=⟨⟩
theorem tw10860808297160181524:True:=⟨⟩
theorem tw10343401241700814924:True:=⟨⟩
theorem tw14583221139126696943:True:=⟨⟩
theorem tw12453020433298168056:True:=⟨⟩
theorem tw3709718796087113139:True:=⟨⟩
theorem tw16463928071755140835:True:=⟨⟩
theorem tw3124227320207485808:True:=⟨⟩
theorem tw11301947126141402702:True:=⟨⟩
theorem tw9750978122708927969:True:=⟨⟩
theorem tw1401859992718279104:True:=⟨⟩
theorem tw7496226533242156712:True:=⟨⟩
theorem tw12553614613398509872:True:=⟨⟩
theorem tw8058309445949219363:True:=⟨⟩
theorem tw13330969649964296368:True:=⟨⟩
theorem tw1487266390603908670:True:=⟨⟩
theorem tw8578883143154518798:True:=⟨⟩
theorem tw4874142557443319099:True:=⟨⟩
theorem tw2655825482211653971:True:=⟨⟩
theorem tw14628452164590182859:True:=⟨⟩
theorem tw14494027080890474704:True:=⟨⟩
theorem tw3646788602236240389:True:=⟨⟩
theorem tw7500815993417339492:True:=⟨⟩
theorem tw8983375498964542253:True:=⟨⟩
theorem tw14265350037210520631:True:=⟨⟩
theorem tw1647329728928147860:True:=⟨⟩
theorem tw15165443481586129267:True:=⟨⟩
theorem tw11369720674294490193:True:=⟨⟩
theorem tw502356923802279398:True:=⟨⟩
theorem tw3737191772079650573:True:=⟨⟩
theorem tw15696329015888293831:True:=⟨⟩
theorem tw2504232164509738102:True:=⟨⟩
theorem tw9723488707155528781:True:=⟨⟩
theorem tw7107412676729922424:True:=⟨⟩
theorem tw13883716466503783684:True:=⟨⟩
theorem tw5549287979197196846:True:=⟨⟩
theorem tw2293546253744348968:True:=⟨⟩
theorem tw7210759732906116670:True:=⟨⟩
theorem tw3796958779092063617:True:=⟨⟩
theorem tw12075146367857852993:True:=⟨⟩
theorem tw7602765937464981511:True:=⟨⟩
theorem tw7781562935926963073:True:=⟨⟩
theorem tw17450915791978254636:True:=⟨⟩
theorem tw9131390455091998837:True:=⟨⟩
theorem tw12045162348882964507:True:=⟨⟩
theorem tw9983811421891968728:True:=⟨⟩
theorem tw9449270256053932819:True:=⟨⟩
theorem tw4172828891685866081:True:=⟨⟩
end PySem.W.Fast
namespace InkHd
open PySem PySem.W PyProof.Rows
set_option maxRecDepth 100000 in
set_option maxHeartbeats 0 in
open_top hd_k36 for PySem.Challenge.rw_inkroot_k36_quotes_stand
set_option maxRecDepth 100000 in
set_option maxHeartbeats 0 in
theorem hd2(A:jd.OW):PySem.Challenge.rw_inkroot_k36_quotes_stand.Holds:=by
 refine hd_k36 ?_
 k_fill
 refine jd.walk (l:=PySem.Challenge.rw_inkroot_k36_quotes_stand) rfl rfl (fun w h Y=>PySem.W.kIn_of Y) ?F
 case F =>
  intro w mg fa h KX G hmg
  refine' A KX G hmg (.mk ?g1 ?g2 ?g3 ?g4 ?g5 ?g6 ?g7) ?g8 ?g9 (.mk ?g10 ?g11 ?g12 ?g13 ?g14 ?g15 ?g16) ?g17 ?g18 ?g19 (.mk ?g20 ?g21 ?g22 ?g23 ?g24 ?g25 ?g26) ?g27 (.mk ?g28 ?g29 ?g30 ?g31 ?g32 ?g33 ?g34) ?g35 ?g36 (.mk ?g37 ?g38 ?g39 ?g40 ?g41 ?g42 ?g43) ?g44 (.mk ?g45 ?g46 ?g47 ?g48 ?g49 ?g50 ?g51) ?g52 ?g53 ?g54 ?g55 ?g56 ?g57 (.mk ?g58 ?g59 ?g60 ?g61) (.mk ?g62 ?g63 ?g64 ?g65) (.mk ?g66 ?g67 ?g68 ?g69) (.mk ?g70 ?g71 ?g72 ?g73) (.mk ?g74 ?g75 ?g76 ?g77) (.mk ?g78 ?g79 ?g80 ?g81) (.mk ?g82 ?g83 ?g84 ?g85) (.mk ?g86 ?g87 ?g88 ?g89) (.mk ?g90 ?g91 ?g92 ?g93) (.mk ?g94 ?g95 ?g96 ?g97) (.mk ?g98 ?g99 ?W0 ?Xa) (.mk ?Xb ?Xc ?Xd ?Xe) (.mk ?Xf ?Xg ?Xh ?Xi ?Xj) (.mk ?Xk ?Xl ?Xm ?Xn ?Xo) (.mk ?Xp ?Xq ?Xr ?Xs) (.mk ?Xu ?Xv ?Xw ?Xx) (.mk ?Xy ?Xz ?XA ?XC) (.mk ?XD ?XE ?XF ?XG) (.mk ?XH ?XJ ?XN ?XQ) (.mk ?XR ?XU ?XW ?XX) (.mk ?XY ?XZ ?X0 ?X3) (.mk ?X4 ?X5 ?X6 ?X7) (.mk ?X8 ?X9 ?Yb ?Yc) (.mk ?Yd ?Ye ?Yg ?Yh) (.mk ?Yi ?Yj ?Yk ?Yl) (.mk ?Ym ?Yn ?Yo ?Yp) (.mk ?Yq ?Yr ?Ys ?Yt) (.mk ?Yu ?Yv ?Yw ?Yx) (.mk ?Yy ?Yz ?YA ?YB) (.mk ?YC ?YD ?YE ?YF) (.mk ?YG ?YH ?YI ?YJ) (.mk ?YK ?YL ?YM ?YN) (.mk ?YO ?YQ ?YR ?YS) (.mk ?YT ?YU ?YV ?YW) (.mk ?YX ?YY ?YZ ?Y0 ?Y3) (.mk ?Y4 ?Y5 ?Y6 ?Y7 ?Y8) (.mk ?Y9 ?Za ?Zb ?Zc ?Zd) (.mk ?Ze ?Zf ?Zg ?Zh ?Zi) (.mk ?Zj ?Zk ?Zl ?Zm ?Zn) (.mk ?Zo ?Zp ?Zq ?Zr ?Zs) (.mk ?Zt ?Zu ?Zv ?Zw ?Zx) (.mk ?Zy ?Zz ?ZA ?ZC ?ZD) (.mk ?ZE ?ZF ?ZG ?ZH ?ZI) (.mk ?ZJ ?ZK ?ZL ?ZM ?ZN) (.mk ?ZO ?ZP ?ZQ ?ZR ?ZS) (.mk ?ZT ?ZU ?ZV ?ZW ?ZX) (.mk ?ZY ?ZZ ?Z0 ?Z1 ?Z2) (.mk ?Z3 ?Z4 ?Z5 ?Z6 ?Z7) (.mk ?Z8 ?Z9 ?aaa ?aab ?aac) (.mk ?aad ?aae ?aaf ?aag ?aah) (.mk ?aai ?aaj ?aak ?aal ?aam) (.mk ?aan ?aao ?aap ?aaq) (.mk ?aar ?aas ?aat ?aau ?aav) (.mk ?aaw ?aax ?aay ?aaz ?aaA) (.mk ?aaB ?aaC ?aaD ?aaE ?aaF) (.mk ?aaG ?aaH ?aaI ?aaJ ?aaK) (.mk ?aaL ?aaM ?aaN ?aaO ?aaP) (.mk ?aaQ ?aaR ?aaS ?aaT ?aaU) (.mk ?aaV ?aaW ?aaX ?aaY ?aaZ) (.mk ?aa0 ?aa1 ?aa2 ?aa3 ?aa4) (.mk ?aa5 ?aa6 ?aa7 ?aa8 ?aa9) (.mk ?aba ?abb ?abc ?abd ?abe) (.mk ?abf ?abg ?abh ?abi ?abj) (.mk ?abk ?abl ?abm ?abn ?abo) (.mk ?abp ?abq ?abr ?abt ?abu) (.mk ?abv ?abw ?abx ?aby ?abz) (.mk ?abA ?abB ?abC ?abD ?abE) (.mk ?abF ?abG ?abH ?abI ?abJ) (.mk ?abK ?abL ?abM ?abN ?abO) (.mk ?abP ?abQ ?abR ?abS ?abT) (.mk ?abU ?abV ?abW ?abX) (.mk ?abY ?abZ ?ab0 ?ab1) (.mk ?ab2 ?ab3 ?ab4 ?ab5) (.mk ?ab6 ?ab7 ?ab8 ?ab9) (.mk ?acd ?ace ?acf ?acg) (.mk ?ach ?aci ?acj ?ack) (.mk ?acm ?acn ?aco ?acp) (.mk ?acq ?acr ?acs ?acu) (.mk ?acv ?acw ?acy ?acz) (.mk ?acA ?acB ?acC ?acD) (.mk ?acE ?acF ?acG ?acH) (.mk ?acI ?acJ ?acK ?acL) (.mk ?acM ?acN ?acO ?acP) (.mk ?acQ ?acR ?acS ?acT) ?acU ?acV ?acW ?acX ?acY ?acZ ?ac0 ?ac1 ?ac2 ?ac3 ?ac4 ?ac5 ?ac6 (.mk ?ac7 ?ac8 ?ac9) (.mk ?ada ?adb ?ade) (.mk ?adf ?adg ?adh) (.mk ?adi ?adj ?adk) (.mk ?adl ?adm ?adn) ?ado ?adp ?adq ?ads ?adt
  case g1|g2|g3|g4|g5|g6|g7|g8|g9|g10|g11|g12|g13|g14|g15|g16|g17|g18|g19|g20|g21|g22|g23|g24|g25|g26|g27|g28|g29|g30|g31|g32|g33|g34|g35|g36|g37|g38|g39|g40|g41|g42|g43|g44|g45|g46|g47|g48|g49|g50|g51|g52|g53|g54|g55|g56|g57|g58|g59|g60|g61|g62|g63|g64|g65|g66|g67|g68|g69|g70|g71|g72|g73|g74|g75|g76|g77|g78|g79|g80|g81|g82|g83|g84|g85|g86|g87|g88|g89|g90|g91|g92|g93|g94|g95|g96|g97|g98|g99|W0|Xa|Xb|Xc|Xd|Xe|Xf|Xg|Xh|Xi|Xj|Xk|Xl|Xm|Xn|Xo|Xp|Xq|Xr|Xs|Xu|Xv|Xw|Xx|Xy|Xz|XA|XC|XD|XE|XF|XG|XH|XJ|XN|XQ|XR|XU|XW|XX|XY|XZ|X0|X3|X4|X5|X6|X7|X8|X9|Yb|Yc|Yd|Ye|Yg|Yh|Yi|Yj|Yk|Yl|Ym|Yn|Yo|Yp|Yq|Yr|Ys|Yt|Yu|Yv|Yw|Yx|Yy|Yz|YA|YB|YC|YD|YE|YF|YG|YH|YI|YJ|YK|YL|YM|YN|YO|YQ|YR|YS|YT|YU|YV|YW|YX|YY|YZ|Y0|Y3|Y4|Y5|Y6|Y7|Y8|Y9|Za|Zb|Zc|Zd|Ze|Zf|Zg|Zh|Zi|Zj|Zk|Zl|Zm|Zn|Zo|Zp|Zq|Zr|Zs|Zt|Zu|Zv|Zw|Zx|Zy|Zz|ZA|ZC|ZD|ZE|ZF|ZG|ZH|ZI|ZJ|ZK|ZL|ZM|ZN|ZO|ZP|ZQ|ZR|ZS|ZT|ZU|ZV|ZW|ZX|ZY|ZZ|Z0|Z1|Z2|Z3|Z4|Z5|Z6|Z7|Z8|Z9|aaa|aab|aac|aad|aae|aaf|aag|aah|aai|aaj|aak|aal|aam|aan|aao|aap|aaq|aar|aas|aat|aau|aav|aaw|aax|aay|aaz|aaA|aaB|aaC|aaD|aaE|aaF|aaG|aaH|aaI|aaJ|aaK|aaL|aaM|aaN|aaO|aaP|aaQ|aaR|aaS|aaT|aaU|aaV|aaW|aaX|aaY|aaZ|aa0|aa1|aa2|aa3|aa4|aa5|aa6|aa7|aa8|aa9|aba|abb|abc|abd|abe|abf|abg|abh|abi|abj|abk|abl|abm|abn|abo|abp|abq|abr|abt|abu|abv|abw|abx|aby|abz|abA|abB|abC|abD|abE|abF|abG|abH|abI|abJ|abK|abL|abM|abN|abO|abP|abQ|abR|abS|abT|abU|abV|abW|abX|abY|abZ|ab0|ab1|ab2|ab3|ab4|ab5|ab6|ab7|ab8|ab9|acd|ace|acf|acg|ach|aci|acj|ack|acm|acn|aco|acp|acq|acr|acs|acu|acv|acw|acy|acz|acA|acB|acC|acD|acE|acF|acG|acH|acI|acJ|acK|acL|acM|acN|acO|acP|acQ|acR|acS|acT|acU|acV|acW|acX|acY|acZ|ac0|ac1|ac2|ac3|ac4|ac5|ac6|ac7|ada|adf|adi|adl|ado|adp|adq|ads|adt=>k_is
  case ac8|adb|adg|adj|adm=>k_exc
  case ac9|ade|adh|adk|adn=>kts_exm
end InkHd
namespace cZ
open PySem PySem.Spec PyProof.Rows L2
section
variable {X:Cx}
theorem dc:nJ X (.builtin "isinstance") (fun xs H Q=>∃ x T t b,xs=[x,.ty T]∧mW X.K H x t∧PySem.W.kitOne X.K t (.type T)=some b∧Q (.bl b) H):=by
 intro pins s σ H xs us Q I r h
 obtain⟨x,T,t,b,rfl,ty,e,q⟩:=h
 obtain⟨u,v,rfl,rx,rv⟩:=r.two
 cases (show v=Value.type T from rv)
 exact Jm I rx ty e fun tk=>⟨.bl b,H,I.tok tk,rfl,q⟩
theorem rN{x:Str}{T:String}{pos:Pos}(hg:Gl X x)(hm:X.mg x=none)(hv:bootBuiltins x=some (.type T))(hn:x≠"__name__":=by decide)(hd:(x == ("__debug__":Str))=false:=by decide):PE X (.Name x pos) (tC (.ty T)) :=
 Ni hg hm hv rfl hn hd
end
theorem ND{X:Cx}{pins:List (Addr × Obj)}{σ:L2.St}{H:Hp}{s:Shared}{h':Heap}{t':Nat}{ch:List Addr}(I:Inv X pins σ H s)(k:∀ b o,b∉ch→s.heap.get? b=some o→h'.get? b=some o)
  (hf:∀ b∈ch,pF X pins H b):Inv X pins σ H { s with heap:=h',toks:=t' }:=by
 have OL:∀ b u,H b=some u→b∉ch:=fun b u e z=>by rw[(hf b z).1]at e;cases e
 refine I.step (g':=s.gens) (d':=s.drawn) (ch:=ch) (fun b hb=>?_) (fun b o _ _ hc e _=>k b o hc e) (fun b o _ _ hc e _=>⟨o.slots,k b o hc e⟩) (fun _ _ _ _ n=>n)
  (fun b o hc e=>⟨o,k b o hc e⟩) (fun _ _ e=>e) (fun _ _ _ e=>e) (fun b ps e=>⟨#[],by rw[e];simp⟩) (fun m hm=>?_) (fun b u e=>?_) I.bare
 ·obtain⟨_,f1,_,f3,f4,f5⟩:=hf b hb
  exact⟨f3,f1,f4,f5⟩
 ·obtain⟨o,es,ep,ho,r⟩:=hm
  exact⟨o,es,ep,k _ o (fun z=>(hf _ z).2.1 rfl) ho,r⟩
 ·refine (I.hok b u e).stay (fun c v hc q=>k c v ?_ q) (fun _ q=>q) fun _ _ q=>q
  rcases hc with z|z
  ·rw[z];exact OL b u e
  ·exact OL c _ z
theorem adopt{X:Cx}{pins:List (Addr × Obj)}{σ:L2.St}{H:Hp}{s:Shared}{h':Heap}{t':Nat}{ch:List Addr}{p:Addr}{xs:List V}{us:List Value}(I:Inv X pins σ H s)(k:∀ b o,b∉ch→s.heap.get? b=some o→h'.get? b=some o)
  (hf:∀ b∈ch,pF X pins H b) (hp:s.heap.objs.size≤p) (hz:xs.length≤sizeLine) (rv:Vals xs us) (ht:IsTup h' p us.toArray):Inv X pins σ (upd H p (.tup xs)) { s with heap:=h',toks:=t' }:=by
 have hn:H p=none:=I.hok.fresh hp
 have OL:∀ b u,H b=some u→b∉ch:=fun b u e z=>by rw[(hf b z).1]at e;cases e
 have nep:∀ b o,s.heap.get? b=some o→b≠p:=fun b o e z=>by subst z;exact absurd (qN (Heap.lt_size e) hp) (Nat.lt_irrefl _)
 refine I.step (g':=s.gens) (d':=s.drawn) (ch:=ch) (fun b hb=>?_) (fun b o _ _ hc e _=>k b o hc e) (fun b o _ _ hc e _=>⟨o.slots,k b o hc e⟩) (fun b o _ e n=>by rw[aC (nep b o e)];exact n)
  (fun b o hc e=>⟨o,k b o hc e⟩) (fun b ys e=>by rw[aC (au e hn)];exact e) (fun b _ _ e=>by rw[aC (au e hn)];exact e) (fun b ps e=>⟨#[],by rw[aC (au e hn),e];simp⟩) (fun m hm=>?_) (fun b u e=>?_) I.bare
 ·obtain⟨_,f1,_,f3,f4,f5⟩:=hf b hb
  exact⟨f3,f1,f4,f5⟩
 ·obtain⟨o,es,ep,ho,r⟩:=hm
  exact⟨o,es,ep,k _ o (fun z=>(hf _ z).2.1 rfl) ho,r⟩
 ·by_cases hb:b=p
  ·subst hb
   rw[af]at e
   cases e
   exact⟨hz,us,rv,ht⟩
  ·rw[aC hb]at e
   refine (I.hok b u e).stay (fun c v hc q=>k c v ?_ q) (fun c q=>by rw[aC (au q hn)];exact q) fun c ys q=>by rw[aC (au q hn)];exact q
   rcases hc with z|z
   ·rw[z];exact OL b u e
   ·exact OL c _ z
def F5(k:Bool)(h:Heap)(i a:Addr)(n:Nat):Prop:=match k with
 | true=>h.IsListIter i a n
 | false=>h.IsTupleIter i a n
def AS(k:Bool)(h:Heap)(a:Addr)(xs:Array Value):Prop:=match k with
 | true=>h.IsList a xs
 | false=>h.IsTuple a xs
theorem F5.at{k:Bool}{h h':Heap}{i a:Addr}{n:Nat}(x:F5 k h i a n)(e:∀ o,h.get? i=some o→h'.get? i=some o):F5 k h' i a n:=by
 cases k
 ·obtain⟨o,ho,r⟩:=x;exact⟨o,e o ho,r⟩
 ·obtain⟨o,ho,r⟩:=x;exact⟨o,e o ho,r⟩
theorem AS.at{k:Bool}{h h':Heap}{a:Addr}{xs:Array Value}(x:AS k h a xs)(e:∀ o,h.get? a=some o→h'.get? a=some o):AS k h' a xs:=by
 cases k
 ·obtain⟨o,ho,r⟩:=x;exact⟨o,e o ho,r⟩
 ·obtain⟨o,ho,r⟩:=x;exact⟨o,e o ho,r⟩
theorem F5.obj{k:Bool}{h:Heap}{i a:Addr}{n:Nat}(x:F5 k h i a n):∃ o,h.get? i=some o∧∀ v,o.data≠.cell v:=by
 cases k
 ·obtain⟨o,ho,_,d⟩:=x;exact⟨o,ho,fun v z=>by rw[d]at z;cases z⟩
 ·obtain⟨o,ho,_,d⟩:=x;exact⟨o,ho,fun v z=>by rw[d]at z;cases z⟩
section
variable {prog:Program} {w:World} {A:Around} {E:Value→Shared→Prop} {s:Shared}
theorem GB{it t:Addr}{i:Nat}{items:Array Value}{x:Value}{Q:Value→Shared→Prop}(hit:s.heap.IsTupleIter it t i)(ht:s.heap.IsTuple t items)(hx:items[i]?=some x)
  (hQ:∀ h',h'.IsTupleIter it t (i+1)→Heap.SameBut it s.heap h'→Q x { s with heap:=h' }):wpAny (model prog w) A (Builtin.SmallTypes.nextOf (.ref it)) Q E s:=by
 obtain⟨o,ho,hc,hd⟩:=id hit
 obtain⟨ol,hol,_,nl,hdl⟩:=ht
 unfold Builtin.SmallTypes.nextOf
 refine wpAny_bind (wpAny_callSpecial?_slot (name:=Str.ofString "__next__") hit.typeIs F.slot_tuple_iterator_next (wpAny_call_entry F.slot_tuple_iterator_next hit.typeIs F.entry_tuple_iterator_next ?_ (F.args_tuple_iterator_next_1 _)))
 show wpAny _ _ (field (.ref it) 0 >>= _) _ _ s
 refine wpAny_bind (wpAny_field ho hd (x:=.ref t) rfl ?_)
 show wpAny _ _ (if (Value.ref t == Value.none)=true then _ else _) _ _ s
 rw[if_neg (show ¬ ((Value.ref t == Value.none)=true) from ue)]
 show wpAny _ _ (field (.ref it) 1 >>= _) _ _ s
 refine wpAny_bind (wpAny_field ho hd (x:=.int i 0) rfl ?_)
 show wpAny _ _ (seqItems? (.ref t) >>= _) _ _ s
 refine wpAny_bind (wpAny_seqItems hol hdl ?_)
 simp only[Int.toNat_natCast,hx]
 refine wpAny_bind (wpAny_setField ho hd (by simp) (wpAny_pure ⟨x,rfl,wpAny_pure (hQ _ ?_ (Heap.SameBut.update ..))⟩))
 refine⟨_,Heap.get?_update_self _ ho (Obj.isFreed_of_fields (Obj.data_mapFields hd _)),(Obj.cls_mapFields ..).trans hc,?_⟩
 rw[Obj.data_mapFields hd];simp[rawInt]
theorem Js{it t:Addr}{i:Nat}{items:Array Value}{Q:Value→Shared→Prop}(hh:A.handled=none)(hit:s.heap.IsTupleIter it t i)(ht:s.heap.IsTuple t items)(hx:items[i]?=none)
  (hE:∀ h' e,Heap.ExtBut it s.heap h'→(∃ o,h'.get? e=some o∧o.cls=.type "StopIteration")→E (.ref e) { s with heap:=h' }):wpAny (model prog w) A (Builtin.SmallTypes.nextOf (.ref it)) Q E s:=by
 obtain⟨o,ho,hc,hd⟩:=id hit
 obtain⟨ol,hol,_,nl,hdl⟩:=ht
 unfold Builtin.SmallTypes.nextOf
 refine wpAny_bind (wpAny_callSpecial?_slot (name:=Str.ofString "__next__") hit.typeIs F.slot_tuple_iterator_next (wpAny_call_entry F.slot_tuple_iterator_next hit.typeIs F.entry_tuple_iterator_next ?_ (F.args_tuple_iterator_next_1 _)))
 show wpAny _ _ (field (.ref it) 0 >>= _) _ _ s
 refine wpAny_bind (wpAny_field ho hd (x:=.ref t) rfl ?_)
 show wpAny _ _ (if (Value.ref t == Value.none)=true then _ else _) _ _ s
 rw[if_neg (show ¬ ((Value.ref t == Value.none)=true) from ue)]
 show wpAny _ _ (field (.ref it) 1 >>= _) _ _ s
 refine wpAny_bind (wpAny_field ho hd (x:=.int i 0) rfl ?_)
 show wpAny _ _ (seqItems? (.ref t) >>= _) _ _ s
 refine wpAny_bind (wpAny_seqItems hol hdl ?_)
 simp only[Int.toNat_natCast,hx]
 refine wpAny_bind (wpAny_rule (wpAny_bind (wpAny_setField ho hd (by simp) ?_)))
 show wpAny _ _ (newExc (.type "StopIteration") [] >>= _) _ _ _
 refine wpAny_bind ?_
 simp only[newExc,newTuple]
 refine wpAny_bind (wpAny_newObj_type ?_ (by size_fits))
 refine wpAny_bind (m:=firstArgMember _ _) (wpAny_of_eq (a:=Value.none) (by first|rfl|(simp only[firstArgMember];rfl)) ?_)
 refine wpAny_newObj_type ?_ (by size_fits)
 simp only[raiseNew]
 refine wpAny_bind (wpAny_handled ?_)
 first|rw[show A.in1.handled=none from hh]|rw[hh]
 refine wpAny_bind (wpAny_pure (wpAny_throw ?_))
 exact hE _ _ (((Heap.SameBut.update ..).extBut.push _).push _) ⟨_,Heap.get?_push_size _ rfl,rfl⟩
theorem uQ{k:Bool}{it t:Addr}{i:Nat}{items:Array Value}{x:Value}{Q:Value→Shared→Prop}(hit:F5 k s.heap it t i)(ht:AS k s.heap t items)(hx:items[i]?=some x)
  (hQ:∀ h',F5 k h' it t (i+1)→Heap.SameBut it s.heap h'→Q x { s with heap:=h' }):wpAny (model prog w) A (Builtin.SmallTypes.nextOf (.ref it)) Q E s:=by
 cases k
 ·exact GB hit ht hx hQ
 ·exact wpAny_nextOf_list_item hit ht hx hQ
theorem BK{k:Bool}{it t:Addr}{i:Nat}{items:Array Value}{Q:Value→Shared→Prop}(hh:A.handled=none)(hit:F5 k s.heap it t i)(ht:AS k s.heap t items)(hx:items[i]?=none)
  (hE:∀ h' e,Heap.ExtBut it s.heap h'→(∃ o,h'.get? e=some o∧o.cls=.type "StopIteration")→E (.ref e) { s with heap:=h' }):wpAny (model prog w) A (Builtin.SmallTypes.nextOf (.ref it)) Q E s:=by
 cases k
 ·exact Js hh hit ht hx hE
 ·exact wpAny_nextOf_list_end hh hit ht hx hE
abbrev BL(k:Bool)(l:Addr):Obj:={ cls:=.type (if k then "list_iterator" else "tuple_iterator"),data:=.fields #[.ref l,.int 0 0] }
theorem OX{k:Bool}{l:Addr}{xs:Array Value}{Q:Value→Shared→Prop}(h:AS k s.heap l xs)(hQ:Q (.ref s.heap.objs.size) { s with heap:=s.heap.push (BL k l) }):wpAny (model prog w) A (pyIter (.ref l)) Q E s:=by
 cases k
 ·exact wpAny_pyIter_tuple h hQ
 ·exact wpAny_pyIter_list h hQ
structure BN(k:Bool)(h:Heap)(z TI TO i1 i2 l1 l2:Addr)(n:Nat):Prop where
 z:IsZip h z TI TO .none
 ti:IsPair h TI (.ref i1) (.ref i2)
 to:∃ a b,IsPair h TO a b
 i1:F5 k h i1 l1 n
 i2:F5 k h i2 l2 n
theorem Jt{k:Bool}{z TI TO i1 i2 l1 l2:Addr}{n:Nat}{xs ys:Array Value}{x y:Value}{Q:Value→Shared→Prop}(D:ZipApart z TI TO i1 i2 l1 l2)(st:BN k s.heap z TI TO i1 i2 l1 l2 n)
  (hl1:AS k s.heap l1 xs) (hl2:AS k s.heap l2 ys) (hx:xs[n]?=some x) (hy:ys[n]?=some y)
  (hQ:∀ h',IsZip h' z TI TO (rawInt s.heap.objs.size)→IsPair h' TO x y→F5 k h' i1 l1 (n+1)→F5 k h' i2 l2 (n+1)→IsPair h' s.heap.objs.size x y →
   (∀ c o,c≠z→c≠TO→c≠i1→c≠i2→s.heap.get? c=some o→h'.get? c=some o)→Q (.ref s.heap.objs.size) { s with heap:=h' }) :
  wpAny (model prog w) A (Builtin.«zip.__next__» ⟨[.ref z],[]⟩) (fun fin s'=>∃ v,fin=.done (.ret v)∧Q v s') E s:=by
 obtain⟨hz,hTI,⟨a,b,hTO⟩,h1,h2⟩:=st
 show wpAny _ _ (field (.ref z) 2 >>= _) _ _ _
 refine wpAny_bind (wpAny_field hz rfl (x:=.bool false) rfl ?_)
 show wpAny _ _ (field (.ref z) 3 >>= _) _ _ _
 refine wpAny_bind (wpAny_field hz rfl (x:=.ref TI) rfl (wpAny_bind (wpAny_seqItems hTI rfl ?_)))
 show wpAny _ _ (Builtin.SmallTypes.ownedTupleIsFree (.ref z) >>= _) _ _ _
 refine wpAny_bind ?_
 unfold Builtin.SmallTypes.ownedTupleIsFree
 refine wpAny_bind (wpAny_field hz rfl (x:=.none) rfl (wpAny_pure ?_))
 simp only[if_true]
 refine wpAny_bind (wpAny_rule (wpAny_bind (wpAny_field hz rfl (x:=.ref TO) rfl (wpAny_bind (wpAny_setField_rec hz (by simp) fun g1 z1 c1=>?_)))))
 replace z1:IsZip g1 z TI TO .ellipsis:=z1
 refine wpAny_bind ?_
 simp only[List.zipIdx_cons,List.zipIdx_nil,List.forIn_cons,List.forIn_nil]
 refine wpAny_bind (wpAny_bind (wpAny_onRaise ?_))
 show wpAny _ _ (Builtin.SmallTypes.nextOf (.ref i1) >>= _) _ _ _
 refine wpAny_bind (uQ (h1.at fun o e=>c1.extBut _ _ D.i1z e) (hl1.at fun o e=>c1.extBut _ _ D.l1z e) hx fun g2 h12 c2=>wpAny_pure ?_)
 have o2:IsPair g2 TO a b:=c2.extBut _ _ D.TOi1 (c1.extBut _ _ D.TOz hTO)
 refine wpAny_bind (wpAny_seqItems o2 rfl (wpAny_bind (wpAny_updateSeq_pair o2 fun g3 o3 c3=>?_)))
 replace o3:IsPair g3 TO x b:=o3
 refine wpAny_bind (wpAny_letGo (wpAny_pure (wpAny_bind (wpAny_bind (wpAny_onRaise ?_)))))
 show wpAny _ _ (Builtin.SmallTypes.nextOf (.ref i2) >>= _) _ _ _
 refine wpAny_bind (uQ (((h2.at fun o e=>c1.extBut _ _ D.i2z e).at fun o e=>c2.extBut _ _ D.i12.symm e).at fun o e=>c3.extBut _ _ D.TOi2.symm e)
  (((hl2.at fun o e=>c1.extBut _ _ D.l2z e).at fun o e=>c2.extBut _ _ D.l2i1 e).at fun o e=>c3.extBut _ _ D.l2TO e) hy fun g4 h24 c4=>wpAny_pure ?_)
 have o4:IsPair g4 TO x b:=c4.extBut _ _ D.TOi2 o3
 refine wpAny_bind (wpAny_seqItems o4 rfl (wpAny_bind (wpAny_updateSeq_pair o4 fun g5 o5 c5=>?_)))
 replace o5:IsPair g5 TO x y:=o5
 refine wpAny_bind (wpAny_letGo (wpAny_pure (wpAny_pure (wpAny_bind (wpAny_seqItems o5 rfl (wpAny_bind (wpAny_newTuple ?_)))))))
 have sz:g5.objs.size=s.heap.objs.size:=by rw[c5.1,c4.1,c3.1,c2.1,c1.1]
 have z5:IsZip g5 z TI TO .ellipsis:=c5.extBut _ _ D.TOz.symm (c4.extBut _ _ D.i2z.symm (c3.extBut _ _ D.TOz.symm (c2.extBut _ _ D.i1z.symm z1)))
 have k5:∀ c o,c≠z→c≠TO→c≠i1→c≠i2→s.heap.get? c=some o→g5.get? c=some o:=fun c o n1 n2 n3 n4 e=>c5.extBut _ _ n2 (c4.extBut _ _ n4 (c3.extBut _ _ n2 (c2.extBut _ _ n3 (c1.extBut _ _ n1 e))))
 have RN:F5 k g5 i1 l1 (n+1):=((h12.at fun o e=>c3.extBut _ _ D.TOi1.symm e).at fun o e=>c4.extBut _ _ D.i12 e).at fun o e=>c5.extBut _ _ D.TOi1.symm e
 have h25:F5 k g5 i2 l2 (n+1):=h24.at fun o e=>c5.extBut _ _ D.TOi2.symm e
 have zlt:z<g5.objs.size:=Heap.lt_size z5
 show wpAny _ _ (Builtin.SmallTypes.ownedTupleHandOut (.ref z) (.ref g5.objs.size) >>= _) _ _ _
 refine wpAny_bind ?_
 unfold Builtin.SmallTypes.ownedTupleHandOut
 have z6:IsZip (g5.push { cls:=.type "tuple",data:=.seq #[x,y] }) z TI TO .ellipsis:=Heap.get?_push_of_some _ z5
 refine wpAny_bind (wpAny_setField_rec z6 (by simp) fun g7 z7 c7=>?_)
 replace z7:IsZip g7 z TI TO (rawInt g5.objs.size):=z7
 refine wpAny_setField_rec z7 (by simp) fun g8 z8 c8=>?_
 replace z8:IsZip g8 z TI TO (rawInt g5.objs.size):=z8
 have up:∀ c o,c≠z→g5.get? c=some o→g8.get? c=some o:=fun c o n1 e=>c8.extBut _ _ n1 (c7.extBut _ _ n1 (Heap.get?_push_of_some _ e))
 have t8:IsPair g8 g5.objs.size x y:=c8.extBut _ _ (Nat.ne_of_gt zlt) (c7.extBut _ _ (Nat.ne_of_gt zlt) (Heap.get?_push_size _ rfl))
 rw[sz]at z8 t8
 refine wpAny_pure ⟨_,rfl,?_⟩
 show Q (.ref g5.objs.size) _
 rw[sz]
 exact hQ g8 z8 (up _ _ D.TOz o5) (RN.at fun o e=>up _ o D.i1z e) (h25.at fun o e=>up _ o D.i2z e) t8 fun c o n1 n2 n3 n4 e=>up c o n1 (k5 c o n1 n2 n3 n4 e)
theorem Lg{k:Bool}{z TI TO i1 i2 l1 l2:Addr}{n:Nat}{xs ys:Array Value}{Q:Fin→Shared→Prop}(hh:A.handled=none)(D:ZipApart z TI TO i1 i2 l1 l2)(st:BN k s.heap z TI TO i1 i2 l1 l2 n)
  (hl1:AS k s.heap l1 xs) (hl2:AS k s.heap l2 ys) (hend:xs[n]?=none∨ys[n]?=none)
  (hE:∀ h' e,(∀ c o,c≠z→c≠TO→c≠i1→c≠i2→s.heap.get? c=some o→h'.get? c=some o)→(∃ o,h'.get? e=some o∧o.cls=.type "StopIteration")→E (.ref e) { s with heap:=h' }) :
  wpAny (model prog w) A (Builtin.«zip.__next__» ⟨[.ref z],[]⟩) Q E s:=by
 obtain⟨hz,hTI,⟨a,b,hTO⟩,h1,h2⟩:=st
 show wpAny _ _ (field (.ref z) 2 >>= _) _ _ _
 refine wpAny_bind (wpAny_field hz rfl (x:=.bool false) rfl ?_)
 show wpAny _ _ (field (.ref z) 3 >>= _) _ _ _
 refine wpAny_bind (wpAny_field hz rfl (x:=.ref TI) rfl (wpAny_bind (wpAny_seqItems hTI rfl ?_)))
 show wpAny _ _ (Builtin.SmallTypes.ownedTupleIsFree (.ref z) >>= _) _ _ _
 refine wpAny_bind ?_
 unfold Builtin.SmallTypes.ownedTupleIsFree
 refine wpAny_bind (wpAny_field hz rfl (x:=.none) rfl (wpAny_pure ?_))
 simp only[if_true]
 refine wpAny_bind (wpAny_rule (wpAny_bind (wpAny_field hz rfl (x:=.ref TO) rfl (wpAny_bind (wpAny_setField_rec hz (by simp) fun g1 z1 c1=>?_)))))
 replace z1:IsZip g1 z TI TO .ellipsis:=z1
 refine wpAny_bind ?_
 simp only[List.zipIdx_cons,List.zipIdx_nil,List.forIn_cons,List.forIn_nil]
 refine wpAny_bind (wpAny_bind (wpAny_onRaise ?_))
 show wpAny _ _ (Builtin.SmallTypes.nextOf (.ref i1) >>= _) _ _ _
 cases hx:xs[n]? with
 | none =>
  refine wpAny_bind (BK hh (h1.at fun o e=>c1.extBut _ _ D.i1z e) (hl1.at fun o e=>c1.extBut _ _ D.l1z e) hx fun g2 e c2 he=>?_)
  obtain⟨oe,Qx,hce⟩:=he
  have z2:IsZip g2 z TI TO .ellipsis:=c2 _ _ D.i1z.symm z1
  have hez:e≠z:=fun x=>by subst x;rw[z2]at Qx;cases Qx;simp at hce
  exact wpAny_setField_rec z2 (by simp) fun g3 _ c3=>hE g3 e (fun c o n1 _ n3 _ x=>c3.extBut _ _ n1 (c2 _ _ n3 (c1.extBut _ _ n1 x))) ⟨oe,c3.extBut _ _ hez Qx,hce⟩
 | some x =>
  have hy:ys[n]?=none:=by rcases hend with h|h;(rw[hx]at h;cases h);exact h
  refine wpAny_bind (uQ (h1.at fun o e=>c1.extBut _ _ D.i1z e) (hl1.at fun o e=>c1.extBut _ _ D.l1z e) hx fun g2 h12 c2=>wpAny_pure ?_)
  have o2:IsPair g2 TO a b:=c2.extBut _ _ D.TOi1 (c1.extBut _ _ D.TOz hTO)
  refine wpAny_bind (wpAny_seqItems o2 rfl (wpAny_bind (wpAny_updateSeq_pair o2 fun g3 o3 c3=>?_)))
  refine wpAny_bind (wpAny_letGo (wpAny_pure (wpAny_bind (wpAny_bind (wpAny_onRaise ?_)))))
  show wpAny _ _ (Builtin.SmallTypes.nextOf (.ref i2) >>= _) _ _ _
  refine wpAny_bind (BK hh (((h2.at fun o e=>c1.extBut _ _ D.i2z e).at fun o e=>c2.extBut _ _ D.i12.symm e).at fun o e=>c3.extBut _ _ D.TOi2.symm e)
   (((hl2.at fun o e=>c1.extBut _ _ D.l2z e).at fun o e=>c2.extBut _ _ D.l2i1 e).at fun o e=>c3.extBut _ _ D.l2TO e) hy fun g4 e c4 he=>?_)
  obtain⟨oe,Qx,hce⟩:=he
  have z4:IsZip g4 z TI TO .ellipsis:=c4 _ _ D.i2z.symm (c3.extBut _ _ D.TOz.symm (c2.extBut _ _ D.i1z.symm z1))
  have hez:e≠z:=fun x=>by subst x;rw[z4]at Qx;cases Qx;simp at hce
  exact wpAny_setField_rec z4 (by simp) fun g5 _ c5=>hE g5 e (fun c o n1 n2 n3 n4 x=>c5.extBut _ _ n1 (c4 _ _ n4 (c3.extBut _ _ n2 (c2.extBut _ _ n3 (c1.extBut _ _ n1 x))))) ⟨oe,c5.extBut _ _ hez Qx,hce⟩
theorem GC{k:Bool}{z TI TO i1 i2 l1 l2:Addr}{n:Nat}{xs ys:Array Value}{x y:Value}{Q:Option Value→Shared→Prop}(D:ZipApart z TI TO i1 i2 l1 l2)(st:BN k s.heap z TI TO i1 i2 l1 l2 n)
  (hl1:AS k s.heap l1 xs) (hl2:AS k s.heap l2 ys) (hx:xs[n]?=some x) (hy:ys[n]?=some y)
  (hQ:∀ h',IsZip h' z TI TO (rawInt s.heap.objs.size)→IsPair h' TO x y→F5 k h' i1 l1 (n+1)→F5 k h' i2 l2 (n+1)→IsPair h' s.heap.objs.size x y →
   (∀ c o,c≠z→c≠TO→c≠i1→c≠i2→s.heap.get? c=some o→h'.get? c=some o)→Q (some (.ref s.heap.objs.size)) { s with heap:=h' }):wpAny (model prog w) A (pyNext (.ref z)) Q E s:=by
 have hT:s.TypeIs (.ref z) "zip":=⟨_,st.z,rfl⟩
 unfold pyNext
 exact wpAny_bind (wpAny_attempt (wpAny_callSpecial?_slot (name:=Str.ofString "__next__") hT F.slot_zip_next (wpAny_call_entry F.slot_zip_next hT F.entry_zip_next
  (Jt D st hl1 hl2 hx hy fun h' a1 a2 a3 a4 a5 a7=>wpAny_pure (hQ h' a1 a2 a3 a4 a5 a7)) (F.args_zip_next_1 _))))
theorem Ju{k:Bool}{z TI TO i1 i2 l1 l2:Addr}{n:Nat}{xs ys:Array Value}{Q:Option Value→Shared→Prop}(hh:A.handled=none)(D:ZipApart z TI TO i1 i2 l1 l2)(st:BN k s.heap z TI TO i1 i2 l1 l2 n)
  (hl1:AS k s.heap l1 xs) (hl2:AS k s.heap l2 ys) (hend:xs[n]?=none∨ys[n]?=none)
  (hQ:∀ h',(∀ c o,c≠z→c≠TO→c≠i1→c≠i2→s.heap.get? c=some o→h'.get? c=some o)→Q none { s with heap:=h' }):wpAny (model prog w) A (pyNext (.ref z)) Q E s:=by
 have hT:s.TypeIs (.ref z) "zip":=⟨_,st.z,rfl⟩
 unfold pyNext
 refine wpAny_bind (wpAny_attempt (wpAny_callSpecial?_slot (name:=Str.ofString "__next__") hT F.slot_zip_next (wpAny_call_entry F.slot_zip_next hT F.entry_zip_next
  (Lg hh D st hl1 hl2 hend fun h' e hk he=>?_) (F.args_zip_next_1 _))))
 obtain⟨o,ho,hc⟩:=he
 exact wpAny_bind (wpAny_isInstance (T:="StopIteration") (b:=true) ⟨o,ho,hc⟩ isSubtype_stop (wpAny_pure (hQ _ hk)))
end
abbrev VD(k:Bool)(h:Heap)(l1:Addr):Heap:=h.push (BL k l1)
abbrev VE(k:Bool)(h:Heap)(l1 l2:Addr):Heap:=(VD k h l1).push (BL k l2)
abbrev VF(k:Bool)(h:Heap)(l1 l2:Addr):Heap:=(VE k h l1 l2).push { cls:=.type "tuple",data:=.seq #[.ref h.objs.size,.ref (VD k h l1).objs.size] }
abbrev VG(k:Bool)(h:Heap)(l1 l2:Addr):Heap:=(VF k h l1 l2).push { cls:=.type "tuple",data:=.seq #[.none,.none] }
abbrev RO(k:Bool)(h:Heap)(l1 l2:Addr):Heap:=(VG k h l1 l2).push { cls:=.type "zip",data:=.fields #[.none,.bool false,.bool false,.ref (VE k h l1 l2).objs.size,.ref (VF k h l1 l2).objs.size] }
theorem GD(k:Bool)(l1 l2:Addr)(xs ys:Array Value) :
  Meets (Builtin.«zip.__new__» ⟨[.type "zip",.ref l1,.ref l2],[]⟩) (fun _ R s=>AS k s.heap l1 xs∧AS k s.heap l2 ys∧R (.ok (.ret (.ref (VG k s.heap l1 l2).objs.size))) { s with heap:=RO k s.heap l1 l2 }) :=
 .of_wp fun prog w A R s h=>by
  obtain⟨hp,g,d,tk,os⟩:=s;obtain⟨hl1,hl2,h⟩:=h
  have hsub:=sub_zip
  have hL1:AS k (Shared.heap ⟨hp,g,d,tk,os⟩) l1 xs:=hl1
  have VH:AS k (Shared.heap ⟨hp.push (BL k l1),g,d,tk,os⟩) l2 ys:=hl2.at fun o e=>Heap.get?_push_of_some _ e
  wp_walk using OX hL1,OX VH
  exact⟨_,rfl,h⟩
section
variable {prog:Program} {w:World} {A:Around} {E:Value→Shared→Prop} {s:Shared}
theorem Jv{k:Bool}{l1 l2:Addr}{xs ys:Array Value}{Q:Value→Shared→Prop}(hl1:AS k s.heap l1 xs)(hl2:AS k s.heap l2 ys)
  (h:∀ h',BN k h' (s.heap.objs.size+4) (s.heap.objs.size+2) (s.heap.objs.size+3) s.heap.objs.size (s.heap.objs.size+1) l1 l2 0→(∀ c o,s.heap.get? c=some o→h'.get? c=some o)→Q (.ref (s.heap.objs.size+4)) { s with heap:=h' }) :
  wpAny (model prog w) A (call (.type "zip") [.ref l1,.ref l2]) Q E s:=by
 refine callType_new F.called_zip (by decide) (F.typeCall_zip_2 _ _) (F.newCall_zip_2 _ _) (fun obj=>F.args_object_init_3 obj _ _) F.entry_zip_new (GD k l1 l2 xs ys) ⟨hl1,hl2,?_⟩
 have z1:(VD k s.heap l1).objs.size=s.heap.objs.size+1:=Heap.size_push ..
 have z2:(VE k s.heap l1 l2).objs.size=s.heap.objs.size+2:=by rw[Heap.size_push,z1]
 have z3:(VF k s.heap l1 l2).objs.size=s.heap.objs.size+3:=by rw[Heap.size_push,z2]
 have z4:(VG k s.heap l1 l2).objs.size=s.heap.objs.size+4:=by rw[Heap.size_push,z3]
 have g5:(RO k s.heap l1 l2).get? (VG k s.heap l1 l2).objs.size=some _:=Heap.get?_push_size _ rfl
 have g4:(RO k s.heap l1 l2).get? (VF k s.heap l1 l2).objs.size=some _:=Heap.get?_push_of_some _ (Heap.get?_push_size _ rfl)
 have g3:(RO k s.heap l1 l2).get? (VE k s.heap l1 l2).objs.size=some _:=Heap.get?_push_of_some _ (Heap.get?_push_of_some _ (Heap.get?_push_size _ rfl))
 have g2:(RO k s.heap l1 l2).get? (VD k s.heap l1).objs.size=some (BL k l2):=Heap.get?_push_of_some _ (Heap.get?_push_of_some _ (Heap.get?_push_of_some _ (Heap.get?_push_size _ rfl)))
 have g1:(RO k s.heap l1 l2).get? s.heap.objs.size=some (BL k l1):=Heap.get?_push_of_some _ (Heap.get?_push_of_some _ (Heap.get?_push_of_some _ (Heap.get?_push_of_some _ (Heap.get?_push_size _ rfl))))
 show _∧_
 rw[z2,z3,z4]at g5
 rw[z1,z2]at g3
 rw[z3]at g4
 rw[z1]at g2
 rw[z4]
 refine⟨⟨_,g5,rfl⟩,h _ ⟨g5,g3,⟨_,_,g4⟩,?_,?_⟩ fun c o x=>Heap.get?_push_of_some _ (Heap.get?_push_of_some _ (Heap.get?_push_of_some _ (Heap.get?_push_of_some _ (Heap.get?_push_of_some _ x))))⟩
 ·cases k
  ·exact⟨_,g1,rfl,rfl⟩
  ·exact⟨_,g1,rfl,rfl⟩
 ·cases k
  ·exact⟨_,g2,rfl,rfl⟩
  ·exact⟨_,g2,rfl,rfl⟩
end
def Ia(K:PySem.W.Frag)(k:Bool)(H:Hp)(a:Addr)(xs:List V):Prop:=match k with
 | true=>bF K H a xs
 | false=>jc K H a xs
theorem wX{X:Cx}{pins:List (Addr × Obj)}{σ:L2.St}{H:Hp}{s:Shared}{k:Bool}{a:Addr}{xs:List V}(I:Inv X pins σ H s)(h:Ia X.K k H a xs):∃ its:List Value,Vals xs its∧AS k s.heap a its.toArray∧xs.length≤sizeLine:=by
 cases k
 ·obtain⟨its,r,p,z⟩:=I.tuple h
  exact⟨its,r,p,z⟩
 ·obtain⟨its,r,p,z⟩:=I.list h
  exact⟨its,r,p.isList,z⟩
theorem Ib{X:Cx}{pins:List (Addr × Obj)}{σ:L2.St}{H:Hp}{s:Shared}{k:Bool}{a:Addr}{xs ys:List V}(I:Inv X pins σ H s)(h:Ia X.K k H a xs)(h':Ia X.K k H a ys):xs=ys:=by
 cases k
 ·exact I.Bt h h'
 ·exact I.Ep h h'
theorem Lh{k:Bool}{h:Heap}{a:Addr}{xs:Array Value}(x:AS k h a xs):a<h.objs.size:=by
 cases k
 ·obtain⟨o,ho,_⟩:=x;exact Heap.lt_size ho
 ·obtain⟨o,ho,_⟩:=x;exact Heap.lt_size ho
def Tc(K:PySem.W.Frag)(k:Bool)(a1 a2:Addr):It :=
 ⟨fun i H=>∃ xs ys x y,Ia K k H a1 xs∧Ia K k H a2 ys∧xs[i]?=some x∧ys[i]?=some y,fun i H v H'=>∃ p x y,H p=none∧v=.ref p∧H'=upd H p (.tup [x,y])∧(∀ xs,Ia K k H a1 xs→xs[i]?=some x)∧∀ ys,Ia K k H a2 ys→ys[i]?=some y,fun i H=>∃ xs ys,Ia K k H a1 xs∧Ia K k H a2 ys∧(xs.length≤i∨ys.length≤i)⟩
theorem Li{P:Program}{w:World}{K:PySem.W.Frag}{elts:List Expr}{x1:Nat}{tpos:Pos}{k:Bool}{z TI TO i1 i2 l1 l2:Addr}(D:ZipApart z TI TO i1 i2 l1 l2) :
  Turn P w K (.Tuple elts x1 tpos) (Tc K k l1 l2) [z,TI,TO,i1,i2] z (fun i h=>BN k h z TI TO i1 i2 l1 l2 i) where
 mem:=by simp
 obj:=fun i h st b hb=>by
  obtain⟨hz,hTI,⟨a,c,hTO⟩,h1,h2⟩:=st
  simp only[List.mem_cons,List.not_mem_nil,or_false]at hb
  rcases hb with rfl|rfl|rfl|rfl|rfl
  ·exact⟨_,hz,fun v e=>by cases e⟩
  ·exact⟨_,hTI,fun v e=>by cases e⟩
  ·exact⟨_,hTO,fun v e=>by cases e⟩
  ·exact h1.obj
  ·exact h2.obj
 keep:=fun i h h' st kk=>by
  obtain⟨hz,hTI,⟨a,c,hTO⟩,h1,h2⟩:=st
  exact⟨kk z (by simp) _ hz,kk TI (by simp) _ hTI,⟨a,c,kk TO (by simp) _ hTO⟩,h1.at fun o e=>kk i1 (by simp) o e,h2.at fun o e=>kk i2 (by simp) o e⟩
 item:=by
  intro X hP hw hK hc i pins s σ H E I hf st hg
  subst hP hw hK
  obtain⟨xs,ys,x,y,q1,q2,e1,e2⟩:=hg
  obtain⟨us,r1,p1,_⟩:=wX I q1
  obtain⟨vs,r2,p2,_⟩:=wX I q2
  obtain⟨u,eu,ru⟩:=r1.get e1
  obtain⟨v,ev,rv⟩:=r2.get e2
  refine GC (x:=u) (y:=v) D st p1 p2 (by simpa using eu) (by simpa using ev) fun h' g1 g2 g3 g4 g5 g7=>?_
  refine⟨_,rfl,wpAny_letOwnedTupleGo_zip g1 fun h2 hz2 c2=>?_⟩
  have ne:∀ {b o},s.heap.get? b=some o→s.heap.objs.size≠b:=fun e=>Nat.ne_of_gt (Heap.lt_size e)
  have k2:∀ b o,b∉[z,TI,TO,i1,i2]→s.heap.get? b=some o→h2.get? b=some o:=fun b o hb e=>by
   simp only[List.mem_cons,List.not_mem_nil,or_false,not_or]at hb
   exact c2.extBut _ _ hb.1 (g7 b o hb.1 hb.2.2.1 hb.2.2.2.1 hb.2.2.2.2 e)
  have I2:Inv X pins σ (upd H s.heap.objs.size (.tup [x,y])) { s with heap:=h2,toks:=s.toks } :=
   adopt I k2 hf (iC _) (by show 2≤sizeLine;decide) (.cons ru (.cons rv .nil)) ⟨_,c2.extBut _ _ (ne st.z) g5,rfl,_,rfl⟩
  refine⟨.ref s.heap.objs.size,_,I2,rfl,⟨_,x,y,I.hok.fresh (iC _),rfl,rfl,fun xs' q=>?_,fun ys' q=>?_⟩,?_,fun b hb=>?_⟩
  ·rw[Ib I q q1];exact e1
  ·rw[Ib I q q2];exact e2
  ·exact⟨hz2,c2.extBut _ _ D.TIz (g7 _ _ D.TIz D.TITO D.TIi1 D.TIi2 st.ti),⟨u,v,c2.extBut _ _ D.TOz g2⟩,g3.at fun o e=>c2.extBut _ _ D.i1z e,g4.at fun o e=>c2.extBut _ _ D.i2z e⟩
  ·have hlt:∃ o,s.heap.get? b=some o:=by
    obtain⟨hz,hTI,⟨a,c,hTO⟩,h1,h2⟩:=st
    simp only[List.mem_cons,List.not_mem_nil,or_false]at hb
    rcases hb with rfl|rfl|rfl|rfl|rfl
    ·exact⟨_,hz⟩
    ·exact⟨_,hTI⟩
    ·exact⟨_,hTO⟩
    ·exact h1.obj.imp fun _ e=>e.1
    ·exact h2.obj.imp fun _ e=>e.1
   obtain⟨o,e⟩:=hlt
   rw[aC (ne e).symm]
   exact (hf b hb).1
 done:=by
  intro X hP hw hK hc i pins s σ H E I hf st hg
  subst hP hw hK
  obtain⟨xs,ys,q1,q2,e⟩:=hg
  obtain⟨us,r1,p1,_⟩:=wX I q1
  obtain⟨vs,r2,p2,_⟩:=wX I q2
  have l1:=r1.length
  have l2:=r2.length
  refine Ju (I.ok.hd hc) D st p1 p2 (e.imp (fun e=>by simp;omega) (fun e=>by simp;omega)) fun h' kk=>⟨rfl,ND (t':=s.toks) (ch:=[z,TI,TO,i1,i2]) I (fun b o hb e=>?_) hf⟩
  simp only[List.mem_cons,List.not_mem_nil,or_false,not_or]at hb
  exact kk b o hb.1 hb.2.2.1 hb.2.2.2.1 hb.2.2.2.2 e
 self:=fun _ _ _ _ _ st h=>wpAny_pyIter_zip st.z h
def adw(K:PySem.W.Frag)(ta:TA):TI:=fun σ H R=>ta σ H fun vs H1=>∃ k a1 a2 xs ys,vs=[.ref a1,.ref a2]∧Ia K k H1 a1 xs∧Ia K k H1 a2 ys∧R (Tc K k a1 a2) H1
theorem Qy{X:Cx}{elts:List Expr}{x1:Nat}{tpos:Pos}{a b:Expr}{ta:TA}{p pos:Pos}(hg:Gl X "zip")(hm:X.mg "zip"=none)(ha:PA X [a,b] ta)
  (hs:starEach [a,b] X.env=[(false,eval a X.env),(false,eval b X.env)]:=by rfl) (hs2:starEach [b] X.env=[(false,eval b X.env)]:=by rfl):PI X (.Tuple elts x1 tpos) (.Call (.Name "zip" p) [a,b] [] pos) (adw X.K ta):=by
 intro pins s σ H R I h
 refine Call_ (zg I hg hm boot_zip (PyProof.Rows.callWith_type1 (cz (ha pos pins s σ H _ I h) fun us s1 ⟨vs,H1,I1,r1,q1⟩=>?_) (by rw[hs,hs2]) (by rw[hs2];rfl)))
 obtain⟨k,a1,a2,xs,ys,e,q1,q2,q⟩:=q1
 subst e
 obtain⟨u1,u2,rfl,e1,e2⟩:=r1.two
 cases (show u1=Value.ref a1 from e1)
 cases (show u2=Value.ref a2 from e2)
 obtain⟨us,rr1,p1,_⟩:=wX I1 q1
 obtain⟨ws,rr2,p2,_⟩:=wX I1 q2
 have b1:=Lh p1
 have b2:=Lh p2
 refine Jv p1 p2 fun h' st kk=>wpAny_pyIter_zip st.z ?_
 have I2:Inv X pins σ H1 { s1 with heap:=h',toks:=s1.toks }:=I1.kept kk
 refine⟨_,_,_,_,H1,rfl,I2,Li (zipApart_new b1 b2),st,fun b hb=>?_,q⟩
 have hb':s1.heap.objs.size≤b:=by
  simp only[List.mem_cons,List.not_mem_nil,or_false]at hb
  rcases hb with rfl|rfl|rfl|rfl|rfl
  ·exact Nat.le_add_right _ _
  ·exact Nat.le_add_right _ _
  ·exact Nat.le_add_right _ _
  ·exact iC _
  ·exact Nat.le_add_right _ _
 exact I1.KG hb' (I1.hok.fresh hb')
theorem NF{K:PySem.W.Frag}{k:Bool}{a1 a2:Addr}{xs ys:List V}{g:TG}{tb:TS}{D:Ends}{σ:L2.St}{H:Hp}(Pv:Nat→L2.St→Hp→Prop)(hn:xs.length=ys.length)(h0:Pv 0 σ H)
  (hl:∀ i σ H,i≤xs.length→Pv i σ H→Ia K k H a1 xs∧Ia K k H a2 ys)
  (hs:∀ i x y p σ H,xs[i]?=some x→ys[i]?=some y→H p=none→Pv i σ H→g (.ref p) σ (upd H p (.tup [x,y])) fun σ2 H2=>tb { D with nx:=Pv (i+1),ct:=Pv (i+1),bk:=D.nx } σ2 H2) (hd:∀ σ H,Pv xs.length σ H→D.nx σ H) :
  ∃ W:Nat→Nat→L2.St→Hp→Prop,(∃ m,W 0 m σ H)∧∀ i m σ H,W i m σ H →
   ((Tc K k a1 a2).stop i H∧D.nx σ H)∨((Tc K k a1 a2).go i H∧∃ N:L2.St→Hp→Prop,(∀ σ' H',N σ' H'→∃ m',m'<m∧W (i+1) m' σ' H')∧∀ x H',(Tc K k a1 a2).KD i H x H'→g x σ H' fun σ2 H2=>tb { D with nx:=N,ct:=N,bk:=D.nx } σ2 H2):=by
 refine⟨fun i m σ H=>m=xs.length-i∧i≤xs.length∧Pv i σ H,⟨xs.length,by simp,Nat.zero_le _,h0⟩,?_⟩
 rintro i m σ H ⟨rfl,hi,p⟩
 obtain⟨q1,q2⟩:=hl i σ H hi p
 by_cases hlt:i<xs.length
 ·have adx:i<ys.length:=by omega
  refine .inr ⟨⟨xs,ys,xs[i],ys[i],q1,q2,by simp[hlt],by simp[adx]⟩,Pv (i+1),fun σ' H' p'=>⟨xs.length-(i+1),by omega,rfl,hlt,p'⟩,fun x H' y=>?_⟩
  obtain⟨a,x',y',hn',rfl,rfl,e1,e2⟩:=y
  exact hs i x' y' a σ _ (e1 xs q1) (e2 ys q2) hn' p
 ·have e:i=xs.length:=by omega
  subst e
  exact .inl ⟨⟨xs,ys,q1,q2,.inl (iC _)⟩,hd σ H p⟩
def BO(lo:Int)(n:Nat):List V:=(List.range n).map fun i:Nat=>V.int (lo+i)
section
variable {X:Cx}
theorem EE:nJ X (.type "range") (fun xs H Q=>∃ i j:Int,xs=[.int i,.int j]∧∀ p,H p=none→Q (.ref p) (upd H p (.Ef i j))):=by
 intro pins s σ H xs us Q I r h
 obtain⟨i,j,rfl,q⟩:=h
 obtain⟨u1,u2,rfl,⟨t,rfl⟩,⟨t',rfl⟩⟩:=r.two
 refine call_range_2 ⟨.ref s.heap.objs.size,_,I.laid (o:=.Ef i j) (fun b o e=>Heap.get?_push_of_some _ e) (iC _) ⟨t,t',s.toks,Heap.get?_push_size _ rfl⟩,rfl,q _ (I.hok.fresh (iC _))⟩
theorem uD(hc:X.calm=true):nJ X (.type "list") (fun xs H Q=>∃ p i j,xs=[.ref p]∧H p=some (.Ef i j)∧(-(2^62)≤i∧i<2^62∧-(2^62)≤j∧j<2^62)∧(j-i).toNat≤sizeLine ∧
  ∀ l,H l=none→Q (.ref l) (upd H l (.lst (BO i (j-i).toNat)))):=by
 intro pins s σ H xs us Q I r h
 obtain⟨p,i,j,rfl,hp,⟨b1,b2,b3,b4⟩,hz,q⟩:=h
 obtain⟨u,rfl,rx⟩:=r.one
 cases (show u=Value.ref p from rx)
 obtain⟨t,u,v,e⟩:=(show gj X.prog X.w H s.heap p (.Ef i j) from I.hok p _ hp)
 have e2:Builtin.Range.rangeSize i j 1=(((j-i).toNat:Nat):Int):=by rw[rangeSize_one];split <;> omega
 have hz':(j-i).toNat≤2^24:=by have:=sizeLine_eq;omega
 refine call_list_range (I.ok.hd hc) e (small_one b1 b2 b3 b4) e2 hz' fun h' tk acc' c' hk hS hacc=>?_
 refine⟨.ref s.heap.objs.size,_,I.laid (o:=.lst (BO i (j-i).toNat)) (t':=tk) hk (iC _) ⟨?_,acc'.toList,c',?_,by simpa using hS⟩,rfl,q _ (I.hok.fresh (iC _))⟩
 ·unfold BO;simpa using hz
 ·have hl:acc'.toList.length=(j-i).toNat:=by simpa using hacc.1
  have key:∀ (n:Nat) (us:List Value) (lo:Int),us.length=n→(∀ k v,us[k]?=some v→∃ t,v=Value.int (lo+(k:Nat)*1) t)→Vals ((List.range n).map fun i:Nat=>V.int (lo+i)) us:=by
   intro n
   induction n with
   | zero=>intro us lo hl _;cases us with
    | nil=>exact .nil
    | cons=>simp at hl
   | succ n ih =>
    intro us lo hl hv
    cases us with
    | nil=>simp at hl
    | cons u us =>
     rw[List.range_succ_eq_map,lU,List.map_map]
     refine .cons ?_ ?_
     ·obtain⟨t,e⟩:=hv 0 u rfl
      exact⟨t,by rw[e];simp⟩
     ·have:=ih us (lo+1) (by simpa using hl) fun k v e=>by
       obtain⟨t,e'⟩:=hv (k+1) v (by simpa using e)
       refine⟨t,?_⟩
       rw[e']
       have:lo+((k+1:Nat):Int)*1=lo+1+(k:Int)*1:=by omega
       rw[this]
      have e3:((fun i:Nat=>V.int (lo+i)) ∘ Nat.succ)=fun i:Nat=>V.int (lo+1+i):=by
       funext i
       simp only[Function.comp,Nat.succ_eq_add_one]
       have:lo+((i+1:Nat):Int)=lo+1+(i:Int):=by omega
       rw[this]
      rw[e3]
      exact this
  exact key _ _ i hl fun k v e=>hacc.2 k v (by simpa using e)
end
section
variable {X:Cx}
theorem Lj{j:Int}(h0:0<j)(h1:j<10^70):j.natAbs.log2<9000:=by
 have h:j.natAbs<2^9000:=Nat.lt_trans (show j.natAbs<10^70 by omega) (by decide +kernel)
 exact (Nat.log2_lt (by omega)).mpr h
theorem EF:wJ X (binaryOp .FloorDiv) (rI (fun _ j=>0<j∧j<10^70) fun i j=>.int (i / j)):=Vv fun i j _ _ _ _ _ hc q=>by
 have h1:(0:Int)<j:=hc.1
 exact floordiv_int (by omega) (by rw[Int.fdiv_eq_ediv_of_nonneg i (by omega)];exact q) (.inl (PyProof.noPylong_of_log2 (Lj hc.1 hc.2)))
theorem EG(hc:X.calm=true):nJ X (.builtin "sum") (fun xs H Q=>∃ (p:Addr) (ns:List Int),xs=[.ref p]∧bF X.K H p (ns.map V.int)∧Q (.int ns.sum) H):=by
 intro pins s σ H xs us Q I r h
 obtain⟨p,ns,rfl,hq,q⟩:=h
 obtain⟨u,rfl,rx⟩:=r.one
 cases (show u=Value.ref p from rx)
 obtain⟨its,rv,pl,hz⟩:=I.list hq
 have hi:IntsAre its ns:=intsAre_of rv
 have hall:AllInts its.toArray:=hi.allInts
 obtain⟨zs,ez⟩:=hall.items
 have hl:=pl.isList
 have es:(numsOf its.toArray.toList).sum=ns.sum:=by rw[show its.toArray.toList=its from rfl,hi.numsOf]
 rw[ez]at hl es
 rw[nums_intItems]at es
 refine PySem.sum_intListG (I.ok.hd hc) hl fun h' tk t' hk=>⟨.int ns.sum,H,I.kept hk,⟨t',?_⟩,q⟩
 rw[preSum_eq,zd (by simp),es]
end
end cZ
namespace jd
abbrev Row:=List (Int × Int)
def grow(t:Row)(s e:Int):Row :=
 match t.getLast? with
 | some p=>if p.2=s then t.dropLast++[(p.1,e)] else t++[(s,e)]
 | none=>t++[(s,e)]
def dG(t:Row)(p:Int × Int):Row:=if p.1=p.2 then t else grow t p.1 p.2
def bT(r:Row):Row:=r.foldl dG []
def run(s:Int):Nat→List Int
 | 0=>[]
 | n+1=>s::run (s+1) n
def span(p:Int × Int):List Int:=run p.1 (p.2-p.1).toNat
def bx(r:Row):List Int:=r.flatMap span
def rowOf(ns:List Int):Row:=ns.foldl (fun t n=>grow t n (n+1)) []
theorem jq(s:Int)(n:Nat):(run s n).length=n:=by
 induction n generalizing s with
 | zero=>rfl
 | succ n ih=>simp[run,ih]
theorem oE(s e:Int):grow [] s e=[(s,e)]:=rfl
theorem oF(t:Row){q:Int × Int}{s:Int}{e:Int}(h:q.2=s):grow (t++[q]) s e=t++[(q.1,e)]:=by
 simp[grow,h]
theorem oG(t:Row){q:Int × Int}{s:Int}{e:Int}(h:¬ q.2=s):grow (t++[q]) s e=t++[q]++[(s,e)]:=by
 simp[grow,h]
theorem Jw(t:Row)(a s e:Int):grow (t++[(a,s)]) s e=t++[(a,e)]:=by
 simp[grow]
theorem zC(t:Row)(a s:Int)(n:Nat):(run s n).foldl (fun t n=>grow t n (n+1)) (t++[(a,s)])=t++[(a,s+n)]:=by
 induction n generalizing s with
 | zero=>simp[run]
 | succ n ih =>
  rw[run,qe,Jw,ih]
  have:s+1+(n:Int)=s+((n+1:Nat):Int):=by omega
  rw[this]
theorem Lk(t:Row)(p:Int × Int)(h:p.1≤p.2):dG t p=(span p).foldl (fun t n=>grow t n (n+1)) t:=by
 obtain⟨s,e⟩:=p
 simp only at h
 unfold dG span
 by_cases he:s=e
 ·subst he;simp[run]
 ·obtain⟨n,hn⟩:∃ n:Nat,e=s+1+n:=⟨(e-s-1).toNat,by omega⟩
  subst hn
  rw[if_neg he]
  have h2:((s,s+1+(n:Int)).2-(s,s+1+(n:Int)).1).toNat=n+1:=by simp only;omega
  rw[h2,run,qe]
  simp only
  rcases sj t with rfl|⟨u,q,rfl⟩
  ·rw[oE,oE]
   exact (zC [] s (s+1) n).symm
  ·by_cases hq:q.2=s
   ·rw[qv,oF u hq,oF u hq,zC]
   ·rw[qv,oG u hq,oG u hq,zC]
theorem oH{α β γ:Type}(f:γ→β→γ)(g:α→List β):∀ (l:List α) (c:γ),(l.flatMap g).foldl f c=l.foldl (fun c a=>(g a).foldl f c) c
 | [],_=>rfl
 | a::l,c=>by rw[l9,List.foldl_append,qe,oH f g l]
theorem EH(r:Row)(h:∀ p∈r,p.1≤p.2):bT r=rowOf (bx r):=by
 unfold bT rowOf bx
 rw[oH]
 have key:∀ (r:Row),(∀ p∈r,p.1≤p.2)→∀ t:Row,r.foldl dG t=r.foldl (fun c a=>(span a).foldl (fun t n=>grow t n (n+1)) c) t:=by
  intro r
  induction r with
  | nil=>intro _ t;rfl
  | cons p r ih =>
   intro h t
   rw[qe,qe,Lk t p (h p (rS ..))]
   exact ih (fun q hq=>h q (rX _ hq)) _
 exact key r h []
theorem ye(t:Row)(s e:Int):(grow t s e).length≤t.length+1:=by
 rcases sj t with rfl|⟨u,q,rfl⟩
 ·rw[oE];simp
 ·by_cases hq:q.2=s
  ·rw[qv,oF u hq];simp
  ·rw[qv,oG u hq];simp
theorem foldl_take_succ{α β:Type}(f:β→α→β)(l:List α)(b:β)(i:Nat)(x:α)(h:l[i]?=some x):(l.take (i+1)).foldl f b=f ((l.take i).foldl f b) x:=by
 rw[List.take_add_one,h,List.foldl_append]
 rfl
end jd
namespace jd
def tot(r:Row):Int:=(r.map fun p=>p.2-p.1).sum
theorem NG:tot []=0:=rfl
theorem EI(p:Int × Int)(r:Row):tot (p::r)=(p.2-p.1)+tot r:=by simp[tot]
theorem Ll(r:Row)(p:Int × Int):tot (r++[p])=tot r+(p.2-p.1):=by simp[tot]
theorem zD(r q:Row):tot (r++q)=tot r+tot q:=by simp[tot]
theorem take_snoc{α:Type}{l:List α}{i:Nat}{x:α}(h:l[i]?=some x):l.take (i+1)=l.take i++[x]:=by rw[List.take_add_one,h];rfl
end jd
namespace jd
theorem zE(s:Int)(n:Nat):run s (n+1)=run s n++[s+n]:=by
 induction n generalizing s with
 | zero=>simp[run]
 | succ n ih =>
  rw[run,ih,run]
  have:s+1+(n:Int)=s+((n+1:Nat):Int):=by omega
  rw[this];rfl
theorem BP{a n:Int}(h:a≤n):span (a,n+1)=span (a,n)++[n]:=by
 unfold span
 have e:((a,n+1).2-(a,n+1).1).toNat=((a,n).2-(a,n).1).toNat+1:=by simp only;omega
 rw[e,zE]
 have:a+((((a,n).2-(a,n).1).toNat:Nat):Int)=n:=by simp only;omega
 simp only at this ⊢
 rw[this]
theorem EJ(n:Int):span (n,n+1)=[n]:=by
 have:=BP (a:=n) (n:=n) (Int.le_refl _)
 rw[this]
 have e:span (n,n)=[]:=by unfold span;simp[run]
 rw[e];rfl
theorem cF(r q:Row):bx (r++q)=bx r++bx q:=by unfold bx;rw[List.flatMap_append]
theorem iu(p:Int × Int):bx [p]=span p:=by simp[bx]
theorem GF(t:Row)(n:Int)(h:∀ p∈t,p.1≤p.2):bx (grow t n (n+1))=bx t++[n]:=by
 rcases sj t with rfl|⟨u,q,rfl⟩
 ·rw[oE,iu,EJ];rfl
 ·rw[qv]at h ⊢
  by_cases hq:q.2=n
  ·obtain⟨a,b⟩:=q
   simp only at hq
   subst hq
   have hb:a≤b:=h (a,b) (by simp)
   rw[oF u rfl,cF,cF,iu,iu,BP hb,qw]
  ·rw[oG u hq,cF,iu,EJ]
theorem Ic(t:Row)(n:Int)(h:∀ p∈t,p.1≤p.2):∀ p∈grow t n (n+1),p.1≤p.2:=by
 rcases sj t with rfl|⟨u,q,rfl⟩
 ·rw[oE];intro p hp;simp at hp;subst hp;show n≤n+1;omega
 ·rw[qv]at h ⊢
  by_cases hq:q.2=n
  ·rw[oF u hq]
   intro p hp
   rcases List.mem_append.mp hp with z|z
   ·exact h p (List.mem_append_left _ z)
   ·simp at z;subst z
    have:=h q (by simp)
    show q.1≤n+1
    omega
  ·rw[oG u hq]
   intro p hp
   rcases List.mem_append.mp hp with z|z
   ·exact h p z
   ·simp at z;subst z;show n≤n+1;omega
theorem jr(ns:List Int):bx (rowOf ns)=ns:=by
 have key:∀ (ns:List Int) (t:Row),(∀ p∈t,p.1≤p.2)→bx (ns.foldl (fun t n=>grow t n (n+1)) t)=bx t++ns:=by
  intro ns
  induction ns with
  | nil=>intro t _;simp
  | cons n ns ih =>
   intro t h
   rw[qe,ih _ (Ic t n h),GF t n h,qw];rfl
 have:=key ns [] (fun p hp=>by cases hp)
 simpa [rowOf,bx] using this
theorem sI(ns:List Int):∀ p∈rowOf ns,p.1≤p.2:=by
 have key:∀ (ns:List Int) (t:Row),(∀ p∈t,p.1≤p.2)→∀ p∈ns.foldl (fun t n=>grow t n (n+1)) t,p.1≤p.2:=by
  intro ns
  induction ns with
  | nil=>intro t h;exact h
  | cons n ns ih=>intro t h;exact ih _ (Ic t n h)
 exact key ns [] (fun p hp=>by cases hp)
end jd
namespace jd
theorem yf(p:Int × Int)(h:p.1≤p.2):((span p).length:Int)=p.2-p.1:=by
 unfold span;rw[jq];omega
theorem tG:∀ (r:Row),(∀ p∈r,p.1≤p.2)→((bx r).length:Int)=tot r
 | [],_=>rfl
 | p::r,h=>by
  have ih:=tG r fun q hq=>h q (rX _ hq)
  have hp:=yf p (h p (rS ..))
  have e:bx (p::r)=span p++bx r:=rfl
  rw[e,eG,EI]
  omega
end jd
namespace jd
open PySem L2 cZ
structure ay(K:PySem.W.Frag)(mg:Str→Option Value)(x:Str)(st:Stmt)(ps:List Str)(a:Addr)(d:FuncData):Prop where
 F:iD K x x st a d
 b:Binds K d ps []
 m:mg x=some (.ref a)
section
variable {X:Cx}
theorem aL{x:Str}{st:Stmt}{ps:List Str}{f:Addr}{fd:FuncData}{j k:Nat}{sp:Sp}{e:Expr}{es:List Expr}{t:TA}{p pos:Pos}(d:ay X.K X.mg x st ps f fd)(G:aB X.prog X.w X.K X.mg X.base bV k f fd ps sp)(hr:kL j X.A)
  (ha:PA X (e::es) t) (hjk:k≤j:=by first|decide|omega) (hg:Gl X x:=by rfl) (hdb:(x == ("__debug__":Str))=false:=by decide) (he:starEach (e::es) X.env=(false,eval e X.env)::starEach es X.env:=by rfl)
  (hpl:(backTo pos (starEach es X.env)).any (·.1)=false:=by rfl):PE X (.Call (.Name x p) (e::es) [] pos) (Eu sp [] E0 t) :=
 CK G (hr.mono hjk) hg d.m d.F.kp d.b .nil dz ha hdb he hpl
theorem zF{st:Stmt}{t t':TS}(h:PS X st t)(hi:∀ D σ H,t' D σ H→t D σ H):PS X st t':=fun pins s σ H D I q=>h pins s σ H D I (hi D σ H q)
end
def cS(l:Addr)(H H':Hp):Prop:=∀ a o,H a=some o→a≠l→H' a=some o
theorem aF.keep{l:Addr}{H H':Hp}(s:aF H H'):cS l H H':=fun a o e _=>s a o e
theorem cS.trans{l:Addr}{H H1 H2:Hp}(a:cS l H H1)(b:cS l H1 H2):cS l H H2:=fun c o e n=>b c o (a c o e n) n
theorem aJ(l:Addr)(H:Hp)(o:HO):cS l H (upd H l o):=fun a u e n=>by rw[aC n];exact e
theorem ck{l:Addr}{H H1 H2:Hp}(h:H l=none)(a:aF H H1)(b:cS l H1 H2):aF H H2:=fun c o e=>b c o (a c o e) (au e h)
theorem aj{H:Hp}{p:Addr}(h:H p=none)(o:HO):aF H (upd H p o):=fun b u q=>by rw[aC (au q h)];exact q
theorem jL{l a:Addr}{H H':Hp}(k:cS l H H')(n:a≠l)(h:H' a=none):H a=none:=by
 cases q:H a with
 | none=>rfl
 | some o=>rw[k a o q n]at h;cases h
def dR(H:Hp)(l c:Addr):Prop:=c≠l∧∃ (ns:List Int) (i d r:Int),H l=some (.lst [.ref c,.int i,.int d,.int r])∧H c=some (.lst (ns.map V.int))∧0≤i∧0≤r∧r<2147483647
theorem dR.same{H H':Hp}{l c:Addr}(s:dR H l c)(k:aF H H'):dR H' l c:=by
 obtain⟨n,ns,i,d,r,h1,h2,h3⟩:=s
 exact⟨n,ns,i,d,r,k _ _ h1,k _ _ h2,h3⟩
theorem dR.keep{H H':Hp}{l c m:Addr}(s:dR H l c)(k:cS m H H')(h1:l≠m)(h2:c≠m):dR H' l c:=by
 obtain⟨n,ns,i,d,r,e1,e2,h3⟩:=s
 exact⟨n,ns,i,d,r,k _ _ e1 h1,k _ _ e2 h2,h3⟩
theorem dR.ne{H:Hp}{l c a:Addr}(s:dR H l c)(h:H a=none):l≠a∧c≠a:=by
 obtain⟨n,ns,i,d,r,e1,e2,h3⟩:=s
 exact⟨au e1 h,au e2 h⟩
theorem Td{a b c d:V}:wK [a,b,c,d] 0=some a:=rfl
theorem Qz{a b c d:V}:wK [a,b,c,d] 1=some b:=rfl
theorem NH{a b c d:V}:wK [a,b,c,d] 2=some c:=rfl
theorem Te{a b c d:V}:wK [a,b,c,d] 3=some d:=rfl
theorem Tf{a b:V}:wK [a,b] 0=some a:=rfl
theorem Tg{a b:V}:wK [a,b] 1=some b:=rfl
inductive sJ(vs:List V)(H:Hp)(Q:VK)(E:XK):Prop
 | mk (l c:Addr) (b:Int) (_:vs=[.ref l,.int b]) (_:dR H l c) (_:0<b) (_:b<10^70) (_ :
 ∀ (v:Int) (H':Hp),0≤v→v<b→dR H' l c→(∀ a,a≠l→H' a=H a)→Q (.int v) H'):sJ vs H Q E
inductive Lm(K:PySem.W.Frag)(vs:List V)(H:Hp)(Q:VK)(E:XK):Prop
 | mk (a:Addr) (ns:List Int) (_:vs=[.ref a]) (_:bF K H a (ns.map V.int)) (_ :
 ∀ (l c:Addr) (H':Hp),dR H' l c→aF H H'→H l=none→H c=none→Q (.ref l) H'):Lm K vs H Q E
def flat:V→Bool
 | .int _ | .bl _ | .str _ | .jJ=>true
 | _=>false
def Ln(k:Bool)(H:Hp)(a:Addr)(xs:List V):Prop:=match k with
 | true=>H a=some (.lst xs)
 | false=>H a=some (.tup xs)
theorem Ln.same{k:Bool}{H H':Hp}{a:Addr}{xs:List V}(h:Ln k H a xs)(s:aF H H'):Ln k H' a xs:=by
 cases k
 ·exact s _ _ h
 ·exact s _ _ h
theorem Ln.sq{K:PySem.W.Frag}{k:Bool}{H:Hp}{a:Addr}{xs:List V}(h:Ln k H a xs):Ia K k H a xs:=by
 cases k
 ·exact jc.of h
 ·exact bF.of h
def Eqv(H:Hp):Nat→V→V→Prop
 | 0,_,_=>False
 | n+1,x,y=>(flat x=true∧x=y)∨∃ (k:Bool) (a b:Addr) (xs ys:List V),x=.ref a∧y=.ref b∧Ln k H a xs∧Ln k H b ys∧xs.length=ys.length ∧
   ∀ (i:Nat) (u v:V),xs[i]?=some u→ys[i]?=some v→Eqv H n u v
theorem Eqv.same{H H':Hp}(s:aF H H'):∀ {n:Nat} {x y:V},Eqv H n x y→Eqv H' n x y
 | 0,_,_,h=>h
 | n+1,x,y,h=>by
  rcases h with h|⟨k,a,b,xs,ys,e1,e2,h1,h2,hl,hi⟩
  ·exact .inl h
  ·exact .inr ⟨k,a,b,xs,ys,e1,e2,h1.same s,h2.same s,hl,fun i u v eu ev=>Eqv.same s (hi i u v eu ev)⟩
theorem Eqv.int{H:Hp}{n:Nat}(i:Int):Eqv H (n+1) (.int i) (.int i):=.inl ⟨rfl,rfl⟩
def uR(n:Nat):Sp:=fun vs H Q _=>∃ x y,vs=[x,y]∧Eqv H n x y∧∀ H',aF H H'→Q (.bl true) H'
inductive CO(vs:List V)(H:Hp)(Q:VK)(E:XK):Prop
 | mk (i:Int) (_:vs=[.int i]) (_:Q (.bl true) H):CO vs H Q E
section
variable (K:PySem.W.Frag)
theorem Th:PySem.W.kitOne K (.type "bool") (.type "bool")=some true:=by rfl
theorem Ti:PySem.W.kitOne K (.type "int") (.type "bool")=some false:=by kernel_rfl
theorem Tj:PySem.W.kitOne K (.type "int") (.type "int")=some true:=by rfl
theorem ady:PySem.W.kitOne K (.type "str") (.type "bool")=some false:=by kernel_rfl
theorem adz:PySem.W.kitOne K (.type "str") (.type "int")=some false:=by kernel_rfl
theorem Tn:PySem.W.kitOne K (.type "str") (.type "str")=some true:=by rfl
theorem adA:PySem.W.kitOne K (.type "list") (.type "bool")=some false:=by kernel_rfl
theorem adB:PySem.W.kitOne K (.type "list") (.type "int")=some false:=by kernel_rfl
theorem adC:PySem.W.kitOne K (.type "list") (.type "str")=some false:=by kernel_rfl
theorem To:PySem.W.kitOne K (.type "list") (.type "list")=some true:=by rfl
theorem k_lt:PySem.W.kitOne K (.type "list") (.type "tuple")=some false:=by kernel_rfl
theorem adD:PySem.W.kitOne K (.type "tuple") (.type "bool")=some false:=by kernel_rfl
theorem adE:PySem.W.kitOne K (.type "tuple") (.type "int")=some false:=by kernel_rfl
theorem adF:PySem.W.kitOne K (.type "tuple") (.type "str")=some false:=by kernel_rfl
theorem adG:PySem.W.kitOne K (.type "tuple") (.type "list")=some false:=by kernel_rfl
theorem adH:PySem.W.kitOne K (.type "tuple") (.type "tuple")=some true:=by rfl
end
def RP(k:Bool):Value:=.type (if k then "list" else "tuple")
theorem Ln.ty{K:PySem.W.Frag}{k:Bool}{H:Hp}{a:Addr}{xs:List V}(h:Ln k H a xs):mW K H (.ref a) (RP k):=by
 cases k
 ·exact mW.tup h
 ·exact mW.lst h
theorem adI(K:PySem.W.Frag)(k:Bool):PySem.W.kitOne K (RP k) (.type "bool")=some false:=by cases k;exact adD K;exact adA K
theorem adJ(K:PySem.W.Frag)(k:Bool):PySem.W.kitOne K (RP k) (.type "int")=some false:=by cases k;exact adE K;exact adB K
theorem adK(K:PySem.W.Frag)(k:Bool):PySem.W.kitOne K (RP k) (.type "str")=some false:=by cases k;exact adF K;exact adC K
theorem Tp(K:PySem.W.Frag)(k:Bool):PySem.W.kitOne K (RP k) (.type "list")=some k:=by cases k;exact adG K;exact To K
theorem Tq(K:PySem.W.Frag)(k:Bool):PySem.W.kitOne K (RP k) (.type "tuple")=some (!k):=by cases k;exact adH K;exact k_lt K
def wY(H:Hp)(a:Addr)(p:Int × Int):Prop:=H a=some (.tup [.int p.1,.int p.2])
abbrev bu(H:Hp):List Addr→Row→Prop:=Paired (wY H)
inductive bX(H:Hp)(r:Addr)(row:Row):Prop
 | mk (as:List Addr) (_:H r=some (.lst (as.map V.ref))) (_:bu H as row):bX H r row
theorem bu.tups{H H':Hp}{as:List Addr}{row:Row}(h:bu H as row)(t:∀ a xs,H a=some (.tup xs)→H' a=some (.tup xs)):bu H' as row:=Paired.El h fun a p e=>t a _ e
theorem bu.same{H H':Hp}{as:List Addr}{row:Row}(h:bu H as row)(s:aF H H'):bu H' as row:=h.tups fun a xs e=>s a _ e
theorem bX.same{H H':Hp}{r:Addr}{row:Row}(h:bX H r row)(s:aF H H'):bX H' r row:=by
 obtain⟨as,h1,h2⟩:=h
 exact⟨as,s _ _ h1,h2.same s⟩
theorem bu.keep{H H':Hp}{as:List Addr}{row:Row}{l:Addr}{xs:List V}(h:bu H as row)(hl:H l=some (.lst xs))(s:cS l H H'):bu H' as row :=
 h.tups fun a ys e=>s a _ e (cT e hl (by intro z;cases z))
theorem bX.keep{H H':Hp}{r:Addr}{row:Row}{l:Addr}{xs:List V}(h:bX H r row)(hl:H l=some (.lst xs))(n:r≠l)(s:cS l H H'):bX H' r row:=by
 obtain⟨as,h1,h2⟩:=h
 exact⟨as,s _ _ h1 n,h2.keep hl s⟩
theorem bu.get{H:Hp}:∀ {as:List Addr} {row:Row} {i:Nat} {a:Addr},bu H as row→as[i]?=some a→∃ p,row[i]?=some p∧wY H a p
 | _,_,_,_,.nil,e=>by simp at e
 | _,_,0,_,.cons r _,e=>by simp at e;subst e;exact⟨_,rfl,r⟩
 | _,_,i+1,a,.cons _ t,e=>by
  obtain⟨p,h1,h2⟩:=bu.get (i:=i) (a:=a) t (by simpa using e)
  exact⟨p,by simpa using h1,h2⟩
theorem bu.snoc{H:Hp}:∀ {as:List Addr} {row:Row} {a:Addr} {p:Int × Int},bu H as row→wY H a p→bu H (as++[a]) (row++[p])
 | _,_,_,_,.nil,e=>.cons e .nil
 | _,_,_,_,.cons r t,e=>.cons r (bu.snoc t e)
theorem bu.split{H:Hp}:∀ {as:List Addr} {row:Row} {p:Int × Int},bu H as (row++[p])→∃ bs a,as=bs++[a]∧bu H bs row∧wY H a p
 | as,[],p,h=>by
  cases h with
  | cons r t=>cases t;exact⟨[],_,rfl,.nil,r⟩
 | as,q::row,p,h=>by
  cases h with
  | cons r t =>
   obtain⟨bs,a,rfl,h1,h2⟩:=bu.split (row:=row) (p:=p) t
   exact⟨_::bs,a,rfl,.cons r h1,h2⟩
theorem bu.len{H:Hp}{as:List Addr}{row:Row}(h:bu H as row):as.length=row.length:=Paired.length h
theorem bX.eqv{H:Hp}{r q:Addr}{row:Row}(h:bX H r row)(g:bX H q row)(n:Nat):Eqv H (n+3) (.ref r) (.ref q):=by
 obtain⟨as,h1,h2⟩:=h
 obtain⟨bs,g1,g2⟩:=g
 refine .inr ⟨true,r,q,_,_,rfl,rfl,h1,g1,by rw[cO,cO,h2.len,g2.len],fun i u v eu ev=>?_⟩
 rw[kM]at eu ev
 obtain⟨a,ea,rfl⟩:=Option.map_eq_some_iff.mp eu
 obtain⟨b,eb,rfl⟩:=Option.map_eq_some_iff.mp ev
 obtain⟨p,e1,k1⟩:=h2.get ea
 obtain⟨p',e2,k2⟩:=g2.get eb
 rw[e1]at e2
 cases e2
 refine .inr ⟨false,a,b,_,_,rfl,rfl,k1,k2,rfl,fun j u v eu ev=>?_⟩
 rw[eu]at ev
 cases ev
 match j,eu with
 | 0,eu=>cases eu;exact Eqv.int _
 | 1,eu=>cases eu;exact Eqv.int _
theorem fH{α:Type}(xs:List α)(v:α):wK (xs++[v]) (-1)=some v:=KY xs v
theorem zG(n:Nat):HS (n+1) (-1)=some n:=by
 unfold HS
 rw[if_neg (by decide),if_pos (by omega)]
 congr 1
 omega
theorem zH{α:Type}(xs:List α)(a b:α):(xs++[a]).set xs.length b=xs++[b]:=by
 simp
theorem zI(lo:Int)(n:Nat):BO lo n=(run lo n).map V.int:=by
 unfold BO
 induction n generalizing lo with
 | zero=>rfl
 | succ n ih =>
  rw[List.range_succ_eq_map,lU,List.map_map,run,lU,← ih (lo+1)]
  congr 1
  ·simp
  ·apply List.map_congr_left
   intro i _
   simp only[Function.comp,Nat.succ_eq_add_one]
   congr 1
   omega
inductive CP(lim:Nat)(vs:List V)(H:Hp)(Q:VK)(E:XK):Prop
 | mk (r:Addr) (row:Row) (_:vs=[.ref r]) (_:bX H r row) (_:(∀ p∈row,0≤p.1∧p.1≤p.2∧p.2<2^62)) (_:(bx row).length≤1000000) (_:row.length≤lim) (_ :
 ∀ (n:Addr) (H':Hp),H' n=some (.lst ((bx row).map V.int))→aF H H'→H n=none→Q (.ref n) H'):CP lim vs H Q E
inductive CQ(vs:List V)(H:Hp)(Q:VK)(E:XK):Prop
 | mk (n:Addr) (ns:List Int) (_:vs=[.ref n]) (_:H n=some (.lst (ns.map V.int))) (_:ns.length≤1000000) (_ :
 ∀ (r:Addr) (H':Hp),bX H' r (rowOf ns)→aF H H'→H r=none→Q (.ref r) H'):CQ vs H Q E
inductive vP(vs:List V)(H:Hp)(Q:VK)(E:XK):Prop
 | mk (r:Addr) (row:Row) (_:vs=[.ref r]) (_:bX H r row) (_:row.length≤1000000) (_ :
 ∀ (q:Addr) (H':Hp),bX H' q (bT row)→aF H H'→H q=none→Q (.ref q) H'):vP vs H Q E
theorem aM{n:Nat}(h:n≤1000001):n<sizeLine:=Nat.lt_of_le_of_lt h (by decide)
end jd
namespace jd
open PySem L2 cZ
def QA:TS:=fun D σ H=>∃ (l c:Addr) (b:Int),σ=[some (.ref l),some (.int b),none,none]∧dR H l c ∧
 ∀ (cell:Option V) (H':Hp),dR H' l c→(∀ a,a≠l→H' a=H a)→D.nx [some (.ref l),some (.int b),cell,none] H'
def QB:TS:=fun D σ H=>∃ (l c:Addr) (b:Int),σ=[some (.ref l),some (.int b),some (.int 7),none]∧dR H l c ∧
 ∀ (cell:Int) (H':Hp),dR H' l c→(∀ a,a≠l→H' a=H a)→D.nx [some (.ref l),some (.int b),some (.int cell),none] H'
theorem NI{ns:List Int}{i:Int}(h0:0≤i)(h1:i<(ns.length:Int)):∃ v:Int,wK (ns.map V.int) i=some (.int v):=by
 have hk:i.toNat<ns.length:=by omega
 refine⟨ns[i.toNat],?_⟩
 have q:wK (ns.map V.int) ((i.toNat:Nat):Int)=some (.int ns[i.toNat]):=eL (by rw[kM,qM hk] <;> rfl)
 have ei:((i.toNat:Nat):Int)=i:=by omega
 rw[ei]at q
 exact q
theorem Lo(ns:List Int)(lo hi:Option Int):∃ ms:List Int,jV (ns.map V.int) lo hi=ms.map V.int:=by
 unfold jV
 refine⟨(ns.drop (HT.j4 (ns.map V.int).length 0 lo)).take (HT.j4 (ns.map V.int).length (ns.map V.int).length hi-HT.j4 (ns.map V.int).length 0 lo),?_⟩
 rw[List.map_take,List.map_drop]
theorem tt{p:Prop} [Decidable p] {Q:V→Hp→Prop} {H:Hp} (hp:p) (h:Q (.bl true) H):Q (.bl (decide p)) H:=by
 rw[decide_eq_true hp]
 exact h
theorem Ln.or{K:PySem.W.Frag}{k:Bool}{H:Hp}{a:Addr}{xs:List V}(h:Ln k H a xs):bF K H a xs∨jc K H a xs:=by
 cases k
 ·exact .inr (jc.of h)
 ·exact .inl (bF.of h)
theorem cW{l:Addr}{H H':Hp}(k:∀ a,a≠l→H' a=H a):cS l H H':=fun a o e n=>by rw[k a n];exact e
end jd
namespace jd
open PySem L2 cZ
theorem dR.lst{H:Hp}{l c:Addr}(s:dR H l c):∃ xs,H l=some (.lst xs):=by
 obtain⟨n,ns,i,d,r,e1,_⟩:=s
 exact⟨_,e1⟩
end jd
namespace cZ
open PySem PySem.Spec PyProof.Rows L2
def A9(X:Cx)(N:List Str)(scope:Scope)(C:Addr)(s₀:Shared)(H₀:Hp)(ex:List Addr)(pn:List (Addr × Obj)):Cx where
 prog:=X.prog
 w:=X.w
 K:=X.K
 mg:=X.mg
 base:=X.base
 A:=X.A
 N:=N
 s₀:=s₀
 H₀:=H₀
 env:=newEnv scope C X.env.globals [] X.env.qual none .none (some X.env) X.env.builtins
 outer:=X.stack
 stack:=X.stack
 ex:=ex
 fn:=fun _=>true
 calm:=X.calm
 pn:=pn
 xe:=fun _ _=>False
structure BQ(scope:Scope):Prop where
 kind:scope.kind=.function
 free:∀ x∈scope.names,x.2≠.free
 cell:∀ x∈scope.names,x.2≠.cell
 names:∀ x∈scope.names,x.2=.local→scope.names.lookup x.1=some .local
section
variable {prog:Program} {w:World} {A:Around} {R:Result→Shared→Prop} {s:Shared}
def tH(ifs:List Expr)(env:Env):Sem Bool:=forIn ifs true fun c r=>if r=true then do let ok ← isTrue c env (eval c env);pure (ForInStep.yield ok) else pure (ForInStep.yield r)
theorem BR{elt target iter:Expr}{ifs:List Expr}{scope:Scope}{pos:Pos}{it acc:Value}{env:Env}(I:Nat→Shared→Prop)
  (turn:∀ n s,I n s→wpAny (model prog w) A (pyNext it) (fun r s₁=>match r with
   | none=>R (.ok .next) s₁
   | some v=>wpAny (model prog w) A (letOwnedTupleGo target it v) (fun _ s₂=>wpAny (model prog w) A (assign target env v) (fun _ s₃ =>
     wpAny (model prog w) A (tH ifs env) (fun ok s₄ =>
      if ok=true then wpAny (model prog w) A (eval elt env) (fun x s₅=>wpAny (model prog w) A (call (.builtin "list.append") [acc,x]) (fun _ s₆=>∃ m,m<n∧I m s₆) (fun _ _=>False) s₅) (fun _ _=>False) s₄
      else ∃ m,m<n∧I m s₄) (fun _ _=>False) s₃) (fun _ _=>False) s₂) (fun _ _=>False) s₁) (fun _ _=>False) s)
  (n:Nat) (h:I n s):codeAny (model prog w) A (.compLoop (.ListComp elt [⟨target,iter,ifs,0⟩] scope pos) 0 it acc env) R s:=by
 refine codeAny_loop rfl I (fun n s hI=>?_) n h
 show wpAny _ A ((compTurn (.ListComp elt [⟨target,iter,ifs,0⟩] scope pos) 0 it acc env).onRaise (fun x=>do noteFrame x env;theTreesLotGoes x)) _ _ s
 refine wpAny_noted ?_
 rw[compTurn_list]
 refine wpAny_bind (wpAny_standAt (wpAny_bind (wpAny_mono (turn n s hI) (fun r s₁ h₁=>?_) fun _ _ h'=>h'.elim)))
 cases r with
 | none=>exact wpAny_pure h₁
 | some v =>
  refine wpAny_bind (wpAny_mono h₁ (fun _ s₂ h₂=>wpAny_bind (wpAny_mono h₂ (fun _ s₃ h₃=>wpAny_bind (wpAny_mono h₃ (fun ok s₄ h₄=>?_) fun _ _ h'=>h'.elim)) fun _ _ h'=>h'.elim)) fun _ _ h'=>h'.elim)
  cases ok with
  | false=>exact wpAny_pure ⟨rfl,h₄⟩
  | true=>exact wpAny_bind (wpAny_bind (wpAny_mono h₄ (fun x s₅ h₅=>wpAny_bind (wpAny_mono h₅ (fun _ s₆ h₆=>wpAny_pure (wpAny_pure ⟨rfl,h₆⟩)) fun _ _ h'=>h'.elim)) fun _ _ h'=>h'.elim))
end
section
variable {X:Cx} {N:List Str} {scope:Scope}
theorem GG{pins:List (Addr × Obj)}{σ:L2.St}{H:Hp}{s:Shared}{fp:List Addr}{h₁:Heap}{t:Nat}(cs:BQ scope)(I:Inv X pins σ H s)(hf:∀ b∈fp,pF X pins H b)(hlt:∀ b∈fp,b<s.heap.objs.size)
  (hns:h₁.Ns s.heap.objs.size fun _=>none) (hk:∀ b o,s.heap.get? b=some o→h₁.get? b=some o) :
  Inv (A9 X N scope s.heap.objs.size s H fp (X.pn++pins)) [] (List.replicate N.length none) H { s with heap:=h₁,toks:=t }:=by
 have Tr:∀ {x c},(A9 X N scope s.heap.objs.size s H fp (X.pn++pins)).env.cells.lookup x=some c→False:=fun {x c} e=>by
  have e':(none:Option Addr)=some c:=e
  cases e'
 refine⟨⟨I.ok.mod,cs.kind,I.ok.glob,I.ok.blt,iC _,fun x y c e _=>(Tr e).elim,fun x hx=>?_,fun x c _ e=>(Tr e).elim,I.ok.hd,I.ok.frames,.inl rfl,fun b hb=>⟨Nat.ne_of_lt (hlt b hb),fun x c e=>(Tr e).elim⟩,I.bs,lV I.ok.Nf I.sz,fun b o e hb=>?_,fun b hb z=>?_,I.stack,I.vG⟩,
  rfl,I.bare,Un.kept hk,⟨_,hns,fun i x v e1 e2 _=>?_⟩,fun x c e=>(Tr e).elim,I.hok.fresh (iC _),fun x c e=>(Tr e).elim,fun p hp=>?_,I.hok.kept hk,by rw[yy];rfl⟩
 ·have hx':scope.names.lookup x=some .cell∨scope.names.lookup x=some .free:=hx
  rcases hx' with z|z
  ·exact absurd rfl (cs.cell _ (PySem.mem_of_lookup z))
  ·exact absurd rfl (cs.free _ (PySem.mem_of_lookup z))
 ·rcases (hf b hb).2.2.2.1 with z|z
  ·exact I.ok.Jg b o e z
  ·exact absurd (qN (Heap.lt_size (I.ok.bs b o e).1) z) (Nat.lt_irrefl _)
 ·rcases List.mem_cons.mp (I.qO b z) with e|e
  ·exact (hf b hb).2.1 e
  ·exact (hf b hb).2.2.1 e
 ·rw[List.getElem?_replicate]at e2
  split at e2 <;> cases e2
 ·have Kg:p∈X.pn++pins:=by
   have z:p∈(X.pn++pins)++[]:=hp
   simpa using z
  obtain⟨e,n,nl,nf,d⟩:=I.pin p Kg
  refine⟨hk _ _ e,n,kQ (Heap.lt_size e),fun z=>?_,d⟩
  rcases List.mem_cons.mp (I.qO p.1 z) with e|e
  ·exact nl e
  ·exact nf e
theorem Lp{pins:List (Addr × Obj)}{σ σ':L2.St}{H H':Hp}{s s':Shared}{fp:List Addr}{h':Heap}(I:Inv X pins σ H s)(hf:∀ b∈fp,pF X pins H b)(J:Inv (A9 X N scope s.heap.objs.size s H fp (X.pn++pins)) [] σ' H' s')
  (hs:Heap.SameBut s.heap.objs.size s'.heap h'):Inv X pins σ H' { s' with heap:=h' }:=by
 have I4:Inv X pins σ H' s':=I.Ky (ch:=fp) J.os J.base J.hok J.bare fun b hb=>⟨(hf b hb).2.2.2.1,(hf b hb).2.1,(hf b hb).2.2.2.2.1,(hf b hb).2.2.2.2.2⟩
 refine I4.turned (t':=s'.toks) (it:=s.heap.objs.size) (fun b o hb e=>hs.extBut _ _ hb e) J.free (Nat.ne_of_gt I.lt) (.inr I.sz) (fun x c e z=>?_) fun p hp z=>?_
 ·obtain⟨v,o,ho,_⟩:=I.cell x c e
  exact absurd (Heap.lt_size ho) (by rw[z];exact Nat.lt_irrefl _)
 ·exact absurd (Heap.lt_size (I.pin p hp).1) (by rw[z];exact Nat.lt_irrefl _)
def Ie(X:Cx)(ifs:List Expr)(t:TT):Prop :=
 ∀ (pins:List (Addr × Obj)) (s:Shared) (σ:L2.St) (H:Hp) (Q:Bool→Hp→Prop),Inv X pins σ H s→t σ H Q→wpAny (model X.prog X.w) X.A (tH ifs X.env) (TP X pins σ Q) X.xe s
def Lq:TT:=fun _ H Q=>Q true H
theorem mQ:Ie X [] Lq:=fun pins s σ H Q I h=>wpAny_tests_nil ⟨H,I,h⟩
theorem Ig{c:Expr}{t:TT}(h:PT X c t):Ie X [c] t:=fun pins s σ H Q I q=>wpAny_tests_one (h pins s σ H Q I q)
def Lr(J:It)(acc:Addr)(g:TG)(tt:TT)(te:TE)(n:Nat)(H:Hp)(Q:VK):Prop :=
 ∃ W:Nat→Nat→L2.St→Hp→Prop,(∃ m,W 0 m (List.replicate n none) H)∧∀ i m σ H,W i m σ H →
  (J.stop i H∧Q (.ref acc) H)∨(J.go i H∧∃ Nx:L2.St→Hp→Prop,(∀ σ' H',Nx σ' H'→∃ m',m'<m∧W (i+1) m' σ' H')∧∀ x H',J.KD i H x H'→g x σ H' fun σ2 H2=>tt σ2 H2 fun b H3 =>
   if b=true then te σ2 H3 fun v H4=>∃ xs,H4 acc=some (.lst xs)∧xs.length<sizeLine∧Nx σ2 (upd H4 acc (.lst (xs++[v]))) else Nx σ2 H3)
def Tt(n:Nat)(wi:TI)(g:TG)(tt:TT)(te:TE):TE:=fun σ H Q=>wi σ H fun J H1=>∀ acc,H1 acc=none→Lr J acc g tt te n (upd H1 acc (.lst [])) Q
theorem CU{elt tg iter:Expr}{ifs:List Expr}{pos:Pos}{wi:TI}{g:TG}{tt:TT}{te:TE}(cs:BQ scope)(hc:X.calm=true)(hi:PI X tg iter wi)
  (hg:∀ C s₀ H₀ ex pn,PG (A9 X N scope C s₀ H₀ ex pn) tg g) (ht:∀ C s₀ H₀ ex pn,Ie (A9 X N scope C s₀ H₀ ex pn) ifs tt) (he:∀ C s₀ H₀ ex pn,PE (A9 X N scope C s₀ H₀ ex pn) elt te)
  (hs:∀ x,foldedSetIterable iter X.env x=pure x:=by intro _;rfl):PE X (.ListComp elt [⟨tg,iter,ifs,0⟩] scope pos) (Tt N.length wi g tt te):=by
 intro pins s σ H Q I h
 refine wpAny_ListComp cs.free cs.kind cs.names (cz (hi pins s σ H _ I h) fun v s1 h1=>cz h1 fun itv s2 h2=>?_) hs
 obtain⟨it,fp,tn,J,H2,e,I2,T,st2,f2,q⟩:=h2
 subst e
 refine wpAny_newObj_type (hd:=by size_fits) ?_
 have hacc:H2 s2.heap.objs.size=none:=I2.hok.fresh (iC _)
 have I3:Inv X pins σ (upd H2 s2.heap.objs.size (.lst [])) { s2 with heap:=s2.heap.push { cls:=.type "list",data:=.seq ([]:List Value).toArray },toks:=s2.toks }:=I2.K5 (ys:=[]) .nil (Nat.zero_le _)
 have OY:∀ b∈fp,b<s2.heap.objs.size:=fun b hb=>by
  obtain⟨o,ho,_⟩:=T.obj _ _ st2 b hb
  exact Heap.lt_size ho
 have f3:∀ b∈fp,pF X pins (upd H2 s2.heap.objs.size (.lst [])) b:=fun b hb=>⟨by rw[aC (kQ (OY b hb))];exact (f2 b hb).1,(f2 b hb).2⟩
 have k3:∀ b o,s2.heap.get? b=some o→(s2.heap.push { cls:=.type "list",data:=.seq ([]:List Value).toArray }).get? b=some o:=fun b o e=>Heap.get?_push_of_some _ e
 have q3:=q _ hacc
 generalize Tu:({ s2 with heap:=s2.heap.push { cls:=.type "list",data:=.seq ([]:List Value).toArray },toks:=s2.toks }:Shared)=s3 at I3
 generalize hH3:upd H2 s2.heap.objs.size (.lst [])=H3 at I3 f3 q3
 have OZ:s3.heap=s2.heap.push { cls:=.type "list",data:=.seq ([]:List Value).toArray }:=by rw[← Tu]
 have EK:∀ b∈fp,b<s3.heap.objs.size:=fun b hb=>by rw[OZ,Heap.size_push];exact Nat.lt_succ_of_lt (OY b hb)
 have st3:tn 0 s3.heap:=T.keep _ _ _ st2 fun b _ o e=>by rw[OZ];exact k3 b o e
 show wpAny _ _ _ _ _ s3
 refine wpAny_newFunctionEnv cs.cell (fun y hy=>by simp at hy) (fun h₁ hns Ls=>?_) cs.kind
 have kh:∀ b o,s3.heap.get? b=some o→h₁.get? b=some o:=fun b o e=>Ls.extBut _ _ (kQ (Heap.lt_size e)) (Heap.get?_push_of_some _ e)
 have J0:Inv (A9 X N scope s3.heap.objs.size s3 H3 fp (X.pn++pins)) [] (List.replicate N.length none) H3 { s3 with heap:=h₁,toks:=s3.toks+([]:List (Str × Value)).length }:=GG cs I3 f3 EK hns kh
 have O0:tn 0 h₁:=T.keep _ _ _ st3 fun b _ o e=>kh b o e
 obtain⟨W,⟨m0,w0⟩,turn⟩:=q3
 have qQ:∀ {H':Hp},(∀ b∈fp,H' b=none)→∀ b∈fp,pF (A9 X N scope s3.heap.objs.size s3 H3 fp (X.pn++pins)) [] H' b:=fun hn b hb=>by
  refine⟨hn b hb,kQ (EK b hb),fun z=>?_,.inl hb,fun x c e=>?_,fun p hp=>?_⟩
  ·rcases List.mem_cons.mp (I3.qO b z) with e|e
   ·exact (f3 b hb).2.1 e
   ·exact (f3 b hb).2.2.1 e
  ·have e':(none:Option Addr)=some c:=e
   cases e'
  ·have Kg:p∈X.pn++pins:=by
    have z:p∈(X.pn++pins)++[]:=hp
    simpa using z
   exact (f3 b hb).2.2.2.2.2 p Kg
 have loop:∀ s5:Shared,s5={ s3 with heap:=h₁,toks:=s3.toks+([]:List (Str × Value)).length }→codeAny (model X.prog X.w) X.A (.compLoop (.ListComp elt [⟨tg,iter,ifs,0⟩] scope pos) 0 (.ref it) (.ref s2.heap.objs.size) (A9 X N scope s3.heap.objs.size s3 H3 fp (X.pn++pins)).env)
   (fun r s'=>∃ m,s'.heap.Ns s3.heap.objs.size m∧∀ h',Heap.SameBut s3.heap.objs.size s'.heap h'→match r with
    | .ok _=>EP X pins σ Q (.ref s2.heap.objs.size) { s' with heap:=h' }
    | .error x=>wpAny (model X.prog X.w) X.A (passOn "comprehension.variables-let-go" x (A9 X N scope s3.heap.objs.size s3 H3 fp (X.pn++pins)).env) (EP X pins σ Q) X.xe { s' with heap:=h' }) s5:=by
  rintro s5 rfl
  refine BR (fun n s'=>∃ i σ' H',Inv (A9 X N scope s3.heap.objs.size s3 H3 fp (X.pn++pins)) [] σ' H' s'∧tn i s'.heap∧(∀ b∈fp,H' b=none)∧W i n σ' H') ?_ m0 ⟨0,_,H3,J0,O0,fun b hb=>(f3 b hb).1,w0⟩
  rintro n s6 ⟨i,σ6,H6,I6,Lu,F6,w6⟩
  rcases turn i n σ6 H6 w6 with ⟨stop,qn⟩|⟨go,Nx,hN,step⟩
  ·refine cz (T.done (A9 X N scope s3.heap.objs.size s3 H3 fp (X.pn++pins)) rfl rfl rfl hc i [] s6 σ6 H6 _ I6 (qQ F6) Lu stop) fun r s7 ⟨hr,I7⟩=>?_
   subst hr
   obtain⟨m,hm,_⟩:=I7.loc
   exact⟨m,hm,fun h' adL=>⟨.ref s2.heap.objs.size,H6,Lp I3 f3 I7 adL,rfl,qn⟩⟩
  ·refine cz (T.item (A9 X N scope s3.heap.objs.size s3 H3 fp (X.pn++pins)) rfl rfl rfl hc i [] s6 σ6 H6 _ I6 (qQ F6) Lu go) fun r s7 ⟨u,hr,h7⟩=>?_
   subst hr
   refine cz h7 fun _ s8 ⟨x,H8,I8,r8,y8,GH,Jx⟩=>?_
   have QC:=I8.pinned (qQ Jx) (T.obj _ _ GH)
   refine cz (hg _ _ _ _ _ _ s8 σ6 H8 x u _ QC r8 (step x H8 y8)) fun _ s9 ⟨σ9,H9,I9,q9⟩=>?_
   refine cz (ht _ _ _ _ _ _ s9 σ9 H9 _ I9 q9) fun ok Eg ⟨BS,Lv,uz⟩=>?_
   have again:∀ {σ7:L2.St} {H7:Hp} {qz:Shared},Inv (A9 X N scope s3.heap.objs.size s3 H3 fp (X.pn++pins)) ([]++sD fp s8.heap) σ7 H7 qz→Nx σ7 H7→∃ m,m<n∧∃ i σ' H',Inv (A9 X N scope s3.heap.objs.size s3 H3 fp (X.pn++pins)) [] σ' H' qz∧tn i qz.heap∧(∀ b∈fp,H' b=none)∧W i m σ' H':=fun {σ7 H7 qz} I7 n7=>by
    obtain⟨m',hm,w7⟩:=hN σ7 H7 n7
    refine⟨m',hm,i+1,σ7,H7,I7.om,T.keep _ _ _ GH fun b hb o e=>(I7.pin (b,o) (pD _ (pD _ (gJ hb e)))).1,fun b hb=>?_,w7⟩
    obtain⟨o,e,d⟩:=T.obj _ _ GH b hb
    exact (I7.pin (b,o) (pD _ (pD _ (gJ hb e)))).2.1
   cases ok with
   | false =>
    rw[if_neg ue]at uz
    exact again Lv uz
   | true =>
    rw[if_pos rfl]at uz
    refine cz (he _ _ _ _ _ _ Eg σ9 BS _ Lv uz) fun v qz ⟨y,Lw,Tv,Tw,xs,hx,hz,NJ⟩=>?_
    refine cz (cA _ qz σ9 Lw (.ref s2.heap.objs.size) [y] (.ref s2.heap.objs.size) [v] (fun _ H'=>Nx σ9 H') Tv rfl (.cons Tw .nil) ⟨_,xs,y,rfl,rfl,hx,hz,NJ⟩) fun _ s12 ⟨_,Ih,Tz,_,Lx⟩=>?_
    exact again Tz Lx
 exact codeAny_compStart_list (loop _ rfl) (T.self _ _ _ _ _ O0 (loop _ rfl))
theorem wZ{K:PySem.W.Frag}{a acc:Addr}{xs:List V}{g:TG}{tt:TT}{te:TE}{n:Nat}{H:Hp}{Q:VK}(Pv:Nat→L2.St→Hp→Prop)(h0:Pv 0 (List.replicate n none) H)(hl:∀ i σ H,i≤xs.length→Pv i σ H→bF K H a xs)
  (hs:∀ i x σ H,xs[i]?=some x→Pv i σ H→g x σ H fun σ2 H2=>tt σ2 H2 fun b H3=>if b=true then te σ2 H3 fun v H4=>∃ ys,H4 acc=some (.lst ys)∧ys.length<sizeLine∧Pv (i+1) σ2 (upd H4 acc (.lst (ys++[v]))) else Pv (i+1) σ2 H3)
  (hd:∀ σ H,Pv xs.length σ H→Q (.ref acc) H):Lr (KH K a) acc g tt te n H Q:=by
 refine⟨fun i m σ H=>m=xs.length-i∧i≤xs.length∧Pv i σ H,⟨xs.length,by simp,Nat.zero_le _,h0⟩,?_⟩
 rintro i m σ H ⟨rfl,hi,p⟩
 have q:=hl i σ H hi p
 by_cases hlt:i<xs.length
 ·refine .inr ⟨⟨xs,xs[i],q,by simp[hlt]⟩,Pv (i+1),fun σ' H' p'=>⟨xs.length-(i+1),by omega,rfl,hlt,p'⟩,fun x H' y=>?_⟩
  obtain⟨e,y⟩:=y
  subst e
  exact hs i x σ _ (y xs q) p
 ·have e:i=xs.length:=by omega
  subst e
  exact .inl ⟨⟨xs,q,iC _⟩,hd σ H p⟩
end
end cZ
namespace cZ
open PySem PySem.Spec PyProof.Rows L2
end cZ
namespace cZ
open PySem PySem.Spec PyProof.Rows L2
section
variable {prog:Program} {w:World} {A:Around} {R:Result→Shared→Prop} {s:Shared}
theorem NK(elt tg iter rZ cX:Expr)(ifs ko:List Expr)(scope:Scope)(pos:Pos)(it acc:Value)(env:Env) :
  compTurn (.ListComp elt [⟨tg,iter,ifs,0⟩,⟨rZ,cX,ko,0⟩] scope pos) 1 it acc env=(do
   standAt cX.pos
   match ← pyNext it with
   | none=>pure (.done .next)
   | some v =>
    letOwnedTupleGo rZ it v
    assign rZ env v
    let ok ← tH ko env
    if ok then (do let _ ← call (.builtin "list.append") [acc,← eval elt env])
    again (.compLoop (.ListComp elt [⟨tg,iter,ifs,0⟩,⟨rZ,cX,ko,0⟩] scope pos) 1 it acc env)):=by rfl
theorem Ly(elt tg iter rZ cX:Expr)(ifs ko:List Expr)(scope:Scope)(pos:Pos)(it acc:Value)(env:Env) :
  compTurn (.ListComp elt [⟨tg,iter,ifs,0⟩,⟨rZ,cX,ko,0⟩] scope pos) 0 it acc env=(do
   standAt iter.pos
   match ← pyNext it with
   | none=>pure (.done .next)
   | some v =>
    letOwnedTupleGo tg it v
    assign tg env v
    let ok ← tH ifs env
    if ok then
     let x ← eval cX env
     standAt cX.pos
     let x ← foldedSetIterable cX env x
     let _ ← runOwn (.compStart (.ListComp elt [⟨tg,iter,ifs,0⟩,⟨rZ,cX,ko,0⟩] scope pos) 1 (← holding [x] (pyIter x)) acc env) env
    again (.compLoop (.ListComp elt [⟨tg,iter,ifs,0⟩,⟨rZ,cX,ko,0⟩] scope pos) 0 it acc env)):=by rfl
theorem QD{elt tg iter rZ cX:Expr}{ifs ko:List Expr}{scope:Scope}{pos:Pos}{it acc:Value}{env:Env}(I:Nat→Shared→Prop)
  (turn:∀ n s,I n s→wpAny (model prog w) A (pyNext it) (fun r s₁=>match r with
   | none=>R (.ok .next) s₁
   | some v=>wpAny (model prog w) A (letOwnedTupleGo rZ it v) (fun _ s₂=>wpAny (model prog w) A (assign rZ env v) (fun _ s₃ =>
     wpAny (model prog w) A (tH ko env) (fun ok s₄ =>
      if ok=true then wpAny (model prog w) A (eval elt env) (fun x s₅=>wpAny (model prog w) A (call (.builtin "list.append") [acc,x]) (fun _ s₆=>∃ m,m<n∧I m s₆) (fun _ _=>False) s₅) (fun _ _=>False) s₄
      else ∃ m,m<n∧I m s₄) (fun _ _=>False) s₃) (fun _ _=>False) s₂) (fun _ _=>False) s₁) (fun _ _=>False) s)
  (n:Nat) (h:I n s):codeAny (model prog w) A (.compLoop (.ListComp elt [⟨tg,iter,ifs,0⟩,⟨rZ,cX,ko,0⟩] scope pos) 1 it acc env) R s:=by
 refine codeAny_loop rfl I (fun n s hI=>?_) n h
 show wpAny _ A ((compTurn (.ListComp elt [⟨tg,iter,ifs,0⟩,⟨rZ,cX,ko,0⟩] scope pos) 1 it acc env).onRaise (fun x=>do noteFrame x env;theTreesLotGoes x)) _ _ s
 refine wpAny_noted ?_
 rw[NK]
 refine wpAny_bind (wpAny_standAt (wpAny_bind (wpAny_mono (turn n s hI) (fun r s₁ h₁=>?_) fun _ _ h'=>h'.elim)))
 cases r with
 | none=>exact wpAny_pure h₁
 | some v =>
  refine wpAny_bind (wpAny_mono h₁ (fun _ s₂ h₂=>wpAny_bind (wpAny_mono h₂ (fun _ s₃ h₃=>wpAny_bind (wpAny_mono h₃ (fun ok s₄ h₄=>?_) fun _ _ h'=>h'.elim)) fun _ _ h'=>h'.elim)) fun _ _ h'=>h'.elim)
  cases ok with
  | false=>exact wpAny_pure ⟨rfl,h₄⟩
  | true=>exact wpAny_bind (wpAny_bind (wpAny_mono h₄ (fun x s₅ h₅=>wpAny_bind (wpAny_mono h₅ (fun _ s₆ h₆=>wpAny_pure (wpAny_pure ⟨rfl,h₆⟩)) fun _ _ h'=>h'.elim)) fun _ _ h'=>h'.elim))
theorem NL{elt tg iter rZ cX:Expr}{ifs ko:List Expr}{scope:Scope}{pos:Pos}{it acc:Value}{env:Env}
  (h0:codeAny (model prog w) A (.compLoop (.ListComp elt [⟨tg,iter,ifs,0⟩,⟨rZ,cX,ko,0⟩] scope pos) 1 it acc env) R s)
  (h:wpAny (model prog w) A (pyIter it) (fun it' s'=>codeAny (model prog w) A (.compLoop (.ListComp elt [⟨tg,iter,ifs,0⟩,⟨rZ,cX,ko,0⟩] scope pos) 1 it' acc env) R s') (fun _ _=>False) s) :
  codeAny (model prog w) A (.compStart (.ListComp elt [⟨tg,iter,ifs,0⟩,⟨rZ,cX,ko,0⟩] scope pos) 1 it acc env) R s:=by
 refine codeAny_of_tree ?_
 show wpAny _ _ ((compStart (.ListComp elt [⟨tg,iter,ifs,0⟩,⟨rZ,cX,ko,0⟩] scope pos) 1 it acc env).onRaise (fun x=>do noteFrame x env;standAt theWindowsPlace)) _ _ s
 refine wpAny_notedAt ?_
 unfold compStart
 show wpAny _ _ (ask >>= _) _ _ s
 refine wpAny_bind (wpAny_askSetting (wpAny_ite ?_))
 split
 ·first
   | exact wpAny_bind (wpAny_pure (wpAny_pure (And.intro rfl h0)))
   | exact wpAny_pure (And.intro rfl h0)
 ·first
   | exact wpAny_bind (wpAny_rule (wpAny_bind (wpAny_standAt (wpAny_bind (wpAny_mono h (fun it' s' h'=>wpAny_pure (And.intro rfl h')) fun _ _ x=>x.elim)))))
   | (refine wpAny_bind (wpAny_rule ?_);show wpAny _ _ (standAt cX.pos >>= _) _ _ s;exact wpAny_bind (wpAny_standAt (wpAny_bind (wpAny_mono h (fun it' s' h'=>wpAny_pure (And.intro rfl h')) fun _ _ x=>x.elim))))
theorem NN{elt tg iter rZ cX:Expr}{ifs ko:List Expr}{scope:Scope}{pos:Pos}{it acc:Value}{env:Env}(I:Nat→Shared→Prop)
  (hs2:∀ x,foldedSetIterable cX env x=pure x)
  (turn:∀ n s,I n s→wpAny (model prog w) A (pyNext it) (fun r s₁=>match r with
   | none=>R (.ok .next) s₁
   | some v=>wpAny (model prog w) A (letOwnedTupleGo tg it v) (fun _ s₂=>wpAny (model prog w) A (assign tg env v) (fun _ s₃ =>
     wpAny (model prog w) A (tH ifs env) (fun ok s₄ =>
      if ok=true then wpAny (model prog w) A (eval cX env) (fun x s₅=>wpAny (model prog w) A (pyIter x) (fun TF s₆ =>
       codeAny (model prog w) A (.compStart (.ListComp elt [⟨tg,iter,ifs,0⟩,⟨rZ,cX,ko,0⟩] scope pos) 1 TF acc env) (fun r s₇=>(∃ f,r=.ok f)∧∃ m,m<n∧I m s₇) s₆) (fun _ _=>False) s₅) (fun _ _=>False) s₄
      else ∃ m,m<n∧I m s₄) (fun _ _=>False) s₃) (fun _ _=>False) s₂) (fun _ _=>False) s₁) (fun _ _=>False) s)
  (n:Nat) (h:I n s):codeAny (model prog w) A (.compLoop (.ListComp elt [⟨tg,iter,ifs,0⟩,⟨rZ,cX,ko,0⟩] scope pos) 0 it acc env) R s:=by
 refine codeAny_loop rfl I (fun n s hI=>?_) n h
 show wpAny _ A ((compTurn (.ListComp elt [⟨tg,iter,ifs,0⟩,⟨rZ,cX,ko,0⟩] scope pos) 0 it acc env).onRaise (fun x=>do noteFrame x env;theTreesLotGoes x)) _ _ s
 refine wpAny_noted ?_
 rw[Ly]
 refine wpAny_bind (wpAny_standAt (wpAny_bind (wpAny_mono (turn n s hI) (fun r s₁ h₁=>?_) fun _ _ h'=>h'.elim)))
 cases r with
 | none=>exact wpAny_pure h₁
 | some v =>
  refine wpAny_bind (wpAny_mono h₁ (fun _ s₂ h₂=>wpAny_bind (wpAny_mono h₂ (fun _ s₃ h₃=>wpAny_bind (wpAny_mono h₃ (fun ok s₄ h₄=>?_) fun _ _ h'=>h'.elim)) fun _ _ h'=>h'.elim)) fun _ _ h'=>h'.elim)
  cases ok with
  | false=>exact wpAny_pure ⟨rfl,h₄⟩
  | true =>
   refine wpAny_bind (wpAny_mono h₄ (fun x s₅ h₅=>wpAny_bind (wpAny_standAt (wpAny_bind (wpAny_of_eq (hs2 x) (wpAny_bind (wpAny_holding (wpAny_mono h₅ (fun TF s₆ h₆=>?_) fun _ _ h'=>h'.elim))))))) fun _ _ h'=>h'.elim)
   refine wpAny_bind (wpAny_runOwn (codeAny_mono h₆ fun r s₇ ⟨⟨f,hf⟩,hm⟩=>?_))
   subst hf
   exact wpAny_pure ⟨rfl,hm⟩
end
section
variable {X:Cx} {N:List Str} {scope:Scope}
def GI(wi:TI)(acc:Addr)(g:TG)(tt:TT)(te:TE):L2.St→Hp→(L2.St→Hp→Prop)→Prop:=fun σ H Nx=>wi σ H fun J H1 =>
 ∃ W:Nat→Nat→L2.St→Hp→Prop,(∃ m,W 0 m σ H1)∧∀ i m σ H,W i m σ H →
  (J.stop i H∧Nx σ H)∨(J.go i H∧∃ N2:L2.St→Hp→Prop,(∀ σ' H',N2 σ' H'→∃ m',m'<m∧W (i+1) m' σ' H')∧∀ x H',J.KD i H x H'→g x σ H' fun σ2 H2=>tt σ2 H2 fun b H3 =>
   if b=true then te σ2 H3 fun v H4=>∃ xs,H4 acc=some (.lst xs)∧xs.length<sizeLine∧N2 σ2 (upd H4 acc (.lst (xs++[v]))) else N2 σ2 H3)
theorem Jy{Y:Cx}{elt tg iter rZ cX:Expr}{ifs ko:List Expr}{pos:Pos}{GJ:TI}{g2:TG}{GK:TT}{te:TE}{acc:Addr}(hc:Y.calm=true)(hxe:Y.xe=fun _ _=>False)(hi:PI Y rZ cX GJ)(hg:PG Y rZ g2)(ht:Ie Y ko GK)(he:PE Y elt te)
  {pins:List (Addr × Obj)} {s:Shared} {σ:L2.St} {H:Hp} {Nx:L2.St→Hp→Prop} (I:Inv Y pins σ H s) (h:GI GJ acc g2 GK te σ H Nx) :
  wpAny (model Y.prog Y.w) Y.A (eval cX Y.env) (fun x s₅=>wpAny (model Y.prog Y.w) Y.A (pyIter x) (fun TF s₆ =>
   codeAny (model Y.prog Y.w) Y.A (.compStart (.ListComp elt [⟨tg,iter,ifs,0⟩,⟨rZ,cX,ko,0⟩] scope pos) 1 TF (.ref acc) Y.env) (fun r s₇=>(∃ f,r=.ok f)∧∃ σ' H',Inv Y pins σ' H' s₇∧Nx σ' H') s₆) (fun _ _=>False) s₅) (fun _ _=>False) s:=by
 have hi':=hi pins s σ H _ I h
 have hg':=hg
 have ht':=ht
 have he':=he
 unfold PG at hg'
 unfold Ie at ht'
 unfold PE at he'
 rw[hxe]at hi' hg' ht' he'
 refine cz hi' fun v s1 h1=>cz h1 fun itv s2 h2=>?_
 obtain⟨it,fp,tn,J,H2,e,I2,T,st2,f2,W,⟨m0,w0⟩,turn⟩:=h2
 subst e
 have qQ:∀ {H':Hp},(∀ b∈fp,H' b=none)→∀ b∈fp,pF Y pins H' b:=fun hn b hb=>⟨hn b hb,(f2 b hb).2⟩
 have loop:codeAny (model Y.prog Y.w) Y.A (.compLoop (.ListComp elt [⟨tg,iter,ifs,0⟩,⟨rZ,cX,ko,0⟩] scope pos) 1 (.ref it) (.ref acc) Y.env) (fun r s₇=>(∃ f,r=.ok f)∧∃ σ' H',Inv Y pins σ' H' s₇∧Nx σ' H') s2:=by
  refine QD (fun n s'=>∃ i σ' H',Inv Y pins σ' H' s'∧tn i s'.heap∧(∀ b∈fp,H' b=none)∧W i n σ' H') ?_ m0 ⟨0,σ,H2,I2,st2,fun b hb=>(f2 b hb).1,w0⟩
  rintro n s6 ⟨i,σ6,H6,I6,Lu,F6,w6⟩
  rcases turn i n σ6 H6 w6 with ⟨stop,qn⟩|⟨go,N2,hN,step⟩
  ·refine cz (T.done Y rfl rfl rfl hc i pins s6 σ6 H6 _ I6 (qQ F6) Lu stop) fun r s7 ⟨hr,I7⟩=>?_
   subst hr
   exact⟨⟨_,rfl⟩,σ6,H6,I7,qn⟩
  ·refine cz (T.item Y rfl rfl rfl hc i pins s6 σ6 H6 _ I6 (qQ F6) Lu go) fun r s7 ⟨u,hr,h7⟩=>?_
   subst hr
   refine cz h7 fun _ s8 ⟨x,H8,I8,r8,y8,GH,Jx⟩=>?_
   have QC:=I8.pinned (qQ Jx) (T.obj _ _ GH)
   refine cz (hg' _ s8 σ6 H8 x u _ QC r8 (step x H8 y8)) fun _ s9 ⟨σ9,H9,I9,q9⟩=>?_
   refine cz (ht' _ s9 σ9 H9 _ I9 q9) fun ok Eg ⟨BS,Lv,uz⟩=>?_
   have again:∀ {σ7:L2.St} {H7:Hp} {qz:Shared},Inv Y (pins++sD fp s8.heap) σ7 H7 qz→N2 σ7 H7→∃ m,m<n∧∃ i σ' H',Inv Y pins σ' H' qz∧tn i qz.heap∧(∀ b∈fp,H' b=none)∧W i m σ' H':=fun {σ7 H7 qz} I7 n7=>by
    obtain⟨m',hm,w7⟩:=hN σ7 H7 n7
    refine⟨m',hm,i+1,σ7,H7,I7.om,T.keep _ _ _ GH fun b hb o e=>(I7.pin (b,o) (pD _ (pD _ (gJ hb e)))).1,fun b hb=>?_,w7⟩
    obtain⟨o,e,d⟩:=T.obj _ _ GH b hb
    exact (I7.pin (b,o) (pD _ (pD _ (gJ hb e)))).2.1
   cases ok with
   | false =>
    rw[if_neg ue]at uz
    exact again Lv uz
   | true =>
    rw[if_pos rfl]at uz
    refine cz (he' _ Eg σ9 BS _ Lv uz) fun v qz ⟨y,Lw,Tv,Tw,xs,hx,hz,NJ⟩=>?_
    have ap:=cA _ qz σ9 Lw (.ref acc) [y] (.ref acc) [v] (fun _ H'=>N2 σ9 H') Tv rfl (.cons Tw .nil) ⟨_,xs,y,rfl,rfl,hx,hz,NJ⟩
    rw[hxe]at ap
    exact cz ap fun _ s12 ⟨_,Ih,Tz,_,Lx⟩=>again Tz Lx
 exact NL loop (T.self _ _ _ _ _ st2 loop)
end
theorem TH{i:Nat}{v:V}{σ:L2.St}{H:Hp}{Q:L2.St→Bool→Hp→Prop}(h:Q (σ.set i (some v)) true H):vJ i v σ H (fun σ2 H2=>Lq σ2 H2 (Q σ2)):=h
theorem yes{σ:L2.St}{H:Hp}{Q:Bool→Hp→Prop}(h:Q true H):Lq σ H Q:=h
section
variable {X:Cx} {N:List Str} {scope:Scope} {C:Addr} {s₀:Shared} {H₀:Hp} {ex:List Addr} {pn:List (Addr × Obj)}
theorem Ii{es:List Expr}{k:Nat}{t:ON}{n:Nat}{pos:Pos}(hc:X.calm=true)(h:RK (A9 X N scope C s₀ H₀ ex pn) es t)
  (hn:(assignEach es (A9 X N scope C s₀ H₀ ex pn).env).length=n:=by rfl) (hst:(assignEach es (A9 X N scope C s₀ H₀ ex pn).env).findIdx? (·.1)=none:=by rfl):PG (A9 X N scope C s₀ H₀ ex pn) (.Tuple es k pos) (Nk X.K n t):=qf (X:=A9 X N scope C s₀ H₀ ex pn) hc h hn hst
theorem Ij:SY (A9 X N scope C s₀ H₀ ex pn) (Ql X.K):=dm
end
end cZ
namespace jd
open PySem L2 cZ
theorem GL{row:Row}{i:Nat}{p:Int × Int}(h:row[i]?=some p):bx (row.take (i+1))=bx (row.take i)++span p:=by
 rw[take_snoc h,cF,iu]
theorem Ba(row:Row)(i:Nat):(bx (row.take i)).length≤(bx row).length:=by
 conv=>rhs;rw[← List.take_append_drop i row,cF,eG]
 omega
theorem grown{H0 H2:Hp}{q t:Addr}{bs:List Addr}{row:Row}{st en:Int}(TL:H0 q=none)(s:aF H0 H2)(hq2:H2 q=some (.lst (bs.map V.ref)))(hb:bu H2 bs row)(ht:H2 t=none) :
  (upd (upd H2 t (.tup [.int st,.int en])) q (.lst (bs.map V.ref++[.ref t]))) q=some (.lst ((bs++[t]).map V.ref)) ∧
  bu (upd (upd H2 t (.tup [.int st,.int en])) q (.lst (bs.map V.ref++[.ref t]))) (bs++[t]) (row++[(st,en)])∧aF H0 (upd (upd H2 t (.tup [.int st,.int en])) q (.lst (bs.map V.ref++[.ref t]))):=by
 have QE:q≠t:=au hq2 ht
 have s1:aF H2 (upd H2 t (.tup [.int st,.int en])):=aj ht _
 refine⟨by rw[af,nu];rfl,?_,ck TL (s.trans s1) (aJ q _ _)⟩
 refine bu.snoc ((hb.same s1).keep (s1 _ _ hq2) (aJ q _ _)) ?_
 show upd _ q _ t=_
 rw[aC QE.symm,af]
theorem turned{H0 H2:Hp}{q t a:Addr}{bs:List Addr}{row:Row}{st en:Int}(TL:H0 q=none)(s:aF H0 H2)(hq2:H2 q=some (.lst (bs.map V.ref++[.ref a])))(hb:bu H2 bs row)(ht:H2 t=none) :
  (upd (upd H2 t (.tup [.int st,.int en])) q (.lst ((bs.map V.ref++[V.ref a]).set bs.length (V.ref t)))) q=some (.lst ((bs++[t]).map V.ref)) ∧
  bu (upd (upd H2 t (.tup [.int st,.int en])) q (.lst ((bs.map V.ref++[V.ref a]).set bs.length (V.ref t)))) (bs++[t]) (row++[(st,en)])∧aF H0 (upd (upd H2 t (.tup [.int st,.int en])) q (.lst ((bs.map V.ref++[V.ref a]).set bs.length (V.ref t)))):=by
 have QE:q≠t:=au hq2 ht
 have s1:aF H2 (upd H2 t (.tup [.int st,.int en])):=aj ht _
 have e:(bs.map V.ref++[V.ref a]).set bs.length (V.ref t)=(bs++[t]).map V.ref:=by
  have z:=zH (bs.map V.ref) (V.ref a) (V.ref t)
  rw[cO]at z
  rw[z,nu];rfl
 rw[e]
 refine⟨af,?_,ck TL (s.trans s1) (aJ q _ _)⟩
 refine bu.snoc ((hb.same s1).keep (s1 _ _ hq2) (aJ q _ _)) ?_
 show upd _ q _ t=_
 rw[aC QE.symm,af]
theorem Lz(bs:List Addr)(a:Addr):HS (bs.map V.ref++[V.ref a]).length (-1)=some bs.length:=by
 rw[eG,cO,vA]
 exact zG _
theorem Jz{f:Row→Int × Int→Row}{row:Row}{i:Nat}{p:Int × Int}(h:row[i]?=some p):(row.take (i+1)).foldl f []=f ((row.take i).foldl f []) p:=foldl_take_succ f row [] i p h
theorem EL(row:Row):∀ t:Row,(row.foldl dG t).length≤t.length+row.length:=by
 induction row with
 | nil=>intro t;simp
 | cons p row ih =>
  intro t
  have h1:=ih (dG t p)
  have h2:(dG t p).length≤t.length+1:=by
   unfold dG
   split
   ·omega
   ·exact ye _ _ _
  rw[qe,ny]
  omega
theorem zJ(ns:List Int):∀ t:Row,(ns.foldl (fun t n=>grow t n (n+1)) t).length≤t.length+ns.length:=by
 induction ns with
 | nil=>intro t;simp
 | cons n ns ih =>
  intro t
  have h1:=ih (grow t n (n+1))
  have h2:=ye t n (n+1)
  rw[qe,ny]
  omega
end jd
namespace jd
open PySem PySem.Spec PyProof.Rows L2 cZ
inductive CV(vs:List V)(H:Hp)(Q:VK)(E:XK):Prop
 | mk (r:Addr) (row:Row) (_:vs=[.ref r]) (_:bX H r row) (_:row.length≤1000000) (_: ∀ H',aF H H'→Q (.int (tot row)) H'):CV vs H Q E
end jd
namespace jM
open PySem PySem.Spec PyProof.Rows PySem.W L2
section
variable {P:Program} {w:World} {H H':Hp} {h h0 g:Heap} {a T:Addr} {C a0:Value} {o:HO}
theorem NO(x:gj P w H h a o):∃ u,h.get? a=some u:=by
 cases o with
 | lst xs=>obtain⟨_,_,_,_,e⟩:=x;exact⟨_,e⟩
 | tup xs=>obtain⟨_,_,_,_,e,_⟩:=x;exact⟨_,e⟩
 | dK kvs=>obtain⟨_,_,_,_,_,_,_,e,_⟩:=x;exact⟨_,e⟩
 | dT kvs=>obtain⟨_,_,_,_,_,_,_,e,_⟩:=x;exact⟨_,e⟩
 | set S n=>obtain⟨_,_,_,_,e,_⟩:=x;exact⟨_,e⟩
 | ins C dx fs=>obtain⟨_,_,_,e,_⟩:=x;exact⟨_,e⟩
 | own y=>exact x
 | xd fs=>obtain⟨_,⟨_,_,_,e,_⟩,_⟩:=x;exact⟨_,e⟩
 | Ef lo hi=>obtain⟨_,_,_,e⟩:=x;exact⟨_,e⟩
 | Gh ob u=>exact⟨_,x.1⟩
 | Nb ps=>exact⟨_,x⟩
 | met f y=>exact⟨_,x⟩
 | ext φ=>exact x.2.1
theorem Ik(x:tw P w H h){b:Addr}(e:h.get? b=none):H b=none:=by
 cases q:H b with
 | none=>rfl
 | some u =>
  obtain⟨z,hz⟩:=NO (x b u q)
  rw[e]at hz
  cases hz
theorem BU{l:List Addr}{b:Addr}(e:(hideAll h l).get? b=none):b∈l∨h.get? b=none:=by
 by_cases hb:b∈l
 ·exact .inl hb
 ·right
  cases q:h.get? b with
  | none=>rfl
  | some u=>rw[hideAll_get l q hb]at e;cases e
def Fly(h0:Heap)(H:Hp)(h:Heap)(a T:Addr)(C a0:Value):Prop :=
 (∃ oe vs oT ts,h.get? a=some oe∧(oe.cls=C∧vs[0]?=some a0)∧oe.data=.fields vs∧vs[1]?=some (.ref T)∧T≠a∧h.get? T=some oT∧oT.data=.fields ts∧ts[3]?=some .none)∧(H a=none∧H T=none)∧h0.get? a=none∧h0.get? T=none
theorem EM{fs hd:List Addr}{l':List Env}(u:Un fs [] H H' h0 h)(hok:tw P w H' h)(h1:∀ b o,h0.get? b=some o→b∉fs→b∉hd)(h2:∀ b∈hd,H' b=none)
  (h3:∀ b∈fs,∃ o,h.get? b=some o∧∀ vs,o.data≠.fields vs) (h4:∀ b∈hd,h0.get? b=none∨∃ o,h.get? b=some o∧∀ vs,o.data≠.fields vs)
  (ha:h0.get? a=none) (ha':H' a=none) (f:Heap.FlyingW (hideAll h hd) l' a C a0 g) (k:h.UpToSlots g) :
  Un fs [] H H' h0 g∧tw P w H' g∧∃ T,Fly h0 H' g a T C a0:=by
 have nil:∀ b:Addr,b∉([]:List Addr):=fun b=>List.not_mem_nil
 have kp:∀ b o,h.get? b=some o→b∉hd→g.get? b=some o:=fun b o e n=>f.1 b o (hideAll_get hd e n)
 refine⟨⟨fun b o e n hb _=>kp b o (u.keep b o e n hb (nil b)) (h1 b o e hb),fun b o e n hb _=>?_,fun b o e n _=>u.free b o e n (nil b),fun b o e _=>?_,u.tups,u.AZ,u.CC⟩,fun b o e=>?_,?_⟩
 ·obtain⟨sl,e1⟩:=u.slot b o e n hb (nil b)
  obtain⟨o',e2,nf⟩:=h3 b hb
  obtain⟨Vq,e3⟩:=k b o' e2 nf
  rw[e1]at e2
  cases e2
  exact⟨Vq,e3⟩
 ·by_cases hb:b∈fs
  ·obtain⟨o',e2,nf⟩:=h3 b hb
   obtain⟨Vq,e3⟩:=k b o' e2 nf
   exact⟨_,e3⟩
  ·obtain⟨o',e1⟩:=u.there b o e (nil b)
   exact⟨o',kp b o' e1 (h1 b o e hb)⟩
 ·refine (hok b o e).stay (fun c v hc q=>kp c v q fun hm=>?_) (fun _ q=>q) fun _ _ q=>q
  have hn:=h2 c hm
  rcases hc with rfl|hc
  ·rw[e]at hn;cases hn
  ·rw[hc]at hn;cases hn
 ·obtain⟨_,_,_,oe,vs,T,oT,ts,e1,e2,e3,e4,e5,e6,e7,e8,e9⟩:=f
  refine⟨T,⟨oe,vs,oT,ts,e1,e2,e3,e4,e6,e7,e8,e9⟩,⟨ha',?_⟩,ha,?_⟩
  ·rcases BU e5 with hm|hn
   ·exact h2 T hm
   ·exact Ik hok hn
  ·rcases BU e5 with hm|hn
   ·rcases h4 T hm with z|⟨o,eo,nf⟩
    ·exact z
    ·obtain⟨sl,eg⟩:=k T o eo nf
     rw[e7]at eg
     cases eg
     exact absurd e8 (nf ts)
   ·cases q:h0.get? T with
    | none=>rfl
    | some o =>
     obtain⟨o',eo⟩:=u.there T o q (nil T)
     rw[hn]at eo
     cases eo
theorem GN{base:Heap}{l:List Env}(F:Fly h0 H h a T C a0)(S:h.FunFrames base l):Heap.FlyingW (hideAll h (a::T::frs l)) l a C a0 h:=by
 obtain⟨⟨oe,vs,oT,ts,e1,e2,e3,e4,e5,e6,e7,e8⟩,_,_⟩:=F
 refine⟨fun b o e=>of_hideAll _ e,hideAll_none _ (rS),funFrames_hide S fun env he b hb=>?_,oe,vs,T,oT,ts,e1,e2,e3,e4,?_,e5,e6,e7,e8⟩
 ·exact rX _ (rX _ (List.mem_filterMap.mpr ⟨env,he,hb⟩))
 ·exact hideAll_none _ (rX _ rS)
end
def oJ(P:Program)(w:World):KR:=fun outer H s E e s'=>∃ a T C a0 H',e=.ref a∧(s'.os=s.os∧AllBare s'.gens)∧Un (frs outer) [] H H' s.heap s'.heap∧tw P w H' s'.heap∧Fly s.heap H' s'.heap a T C a0∧E C none H'
section
variable {X:Cx} {pins:List (Addr × Obj)} {σ:L2.St} {H H1:Hp} {s s':Shared} {a T:Addr} {C a0:Value}
theorem LA(hst:X.stack=X.env::X.outer)(hf:X.env.frame=some X.env.locals):frs X.stack=X.env.locals::X.fs:=by
 rw[hst]
 unfold frs
 rw[List.filterMap_cons,hf]
 rfl
theorem BV(I:Inv X pins σ H s):∀ b∈frs X.stack,∃ o,s.heap.get? b=some o∧∀ vs,o.data≠.fields vs:=fun b hb=>(I.stack.mem hb).2
end
section
variable {P:Program} {w:World} {K:PySem.W.Frag} {mg:Str→Option Value} {base:Heap} {N:List Str} {qual:Str} {scope:Scope} {f:Addr} {cd:Value} {A:Around} {outer:List Env} {s:Shared} {H:Hp} {E:XK}
abbrev Kh(P:Program)(w:World)(K:PySem.W.Frag)(mg:Str→Option Value)(base:Heap)(N:List Str)(qual:Str)(scope:Scope)(f:Addr)(cd:Value)(A:Around)(outer:List Env)(s:Shared)(H:Hp)(E:XK):Cx :=
 Gu (oJ P w) P w K mg base N qual scope f cd A outer s H E
theorem lZ:Passes (oJ P w) (Kh P w K mg base N qual scope f cd A outer s H E) E:=by
 intro pins σ H1 s1 e s' I h
 obtain⟨a,T,C,a0,H',rfl,⟨os,bare⟩,u,hok,F,q⟩:=h
 have I1:Inv (Kh P w K mg base N qual scope f cd A outer s H E) pins σ H' s':=I.Ky (ch:=[]) os u hok bare (fun b z=>absurd z (by simp))
 obtain⟨_,⟨na,nT⟩,sa,sT⟩:=id F
 have old:∀ b,s1.heap.get? b=none→s.heap.get? b=none:=fun b e=>by
  cases z:s.heap.get? b with
  | none=>rfl
  | some o =>
   obtain⟨o',e'⟩:=I.base.there b o z (fun m=>absurd (show b∈([]:List Addr) from m) (by simp))
   rw[e]at e'
   cases e'
 refine wpAny_leaves_onW (base:=hideAll s'.heap (a::T::frs (Kh P w K mg base N qual scope f cd A outer s H E).stack)) I.ok.frames rfl (GN F I1.stack) fun g fl k=>?_
 have p1:∀ b o,s.heap.get? b=some o→b∉frs outer→b∉a::T::frs (Kh P w K mg base N qual scope f cd A outer s H E).stack:=fun b o e hb hm=>by
  rcases List.mem_cons.mp hm with rfl|hm
  ·rw[old b sa]at e;cases e
  rcases List.mem_cons.mp hm with rfl|hm
  ·rw[old b sT]at e;cases e
  ·rw[LA rfl rfl]at hm
   rcases List.mem_cons.mp hm with rfl|hm
   ·exact absurd (Heap.lt_size e) (Nat.not_lt.mpr I.ok.above)
   ·exact hb hm
 have p2:∀ b∈a::T::frs (Kh P w K mg base N qual scope f cd A outer s H E).stack,H' b=none:=fun b hm=>by
  rcases List.mem_cons.mp hm with rfl|hm
  ·exact na
  rcases List.mem_cons.mp hm with rfl|hm
  ·exact nT
  ·exact I1.vG b hm
 have p4:∀ b∈a::T::frs (Kh P w K mg base N qual scope f cd A outer s H E).stack,s.heap.get? b=none∨∃ o,s'.heap.get? b=some o∧∀ vs,o.data≠.fields vs:=fun b hm=>by
  rcases List.mem_cons.mp hm with rfl|hm
  ·exact .inl (old b sa)
  rcases List.mem_cons.mp hm with rfl|hm
  ·exact .inl (old b sT)
  ·exact .inr (BV I1 b hm)
 obtain⟨u',Lb,T',F'⟩:=EM (h0:=s.heap) (fs:=frs outer) (hd:=a::T::frs (Kh P w K mg base N qual scope f cd A outer s H E).stack) I1.base hok p1 p2 (fun b hb=>(I1.vF.mem hb).2) p4 (old a sa) na fl k
 exact⟨a,T',C,a0,H',rfl,⟨I1.os,bare⟩,u',Lb,F',q⟩
def Raises(X:Cx)(E:XK):Prop:=∀ (pins:List (Addr × Obj)) (σ:L2.St) (H:Hp) (s:Shared) (h':Heap) (e:Addr) (C:Value) (args:List Value),Inv X pins σ H s→Heap.MadeExcOf s.heap h' e C args→E C none H→X.xe (.ref e) { s with heap:=h' }
theorem zK:Raises (Kh P w K mg base N qual scope f cd A outer s H E) E:=by
 intro pins σ H1 s1 h' e C args I M q
 have old:∀ b,s1.heap.get? b=none→s.heap.get? b=none:=fun b e=>by
  cases z:s.heap.get? b with
  | none=>rfl
  | some o =>
   obtain⟨o',e'⟩:=I.base.there b o z (fun m=>absurd (show b∈([]:List Addr) from m) (by simp))
   rw[e]at e'
   cases e'
 refine wpAny_leaves_madeW (base:=hideAll s1.heap (frs (Kh P w K mg base N qual scope f cd A outer s H E).stack)) (h:=s1.heap) I.ok.frames rfl (fun b o e=>of_hideAll _ e) (funFrames_hide I.stack fun env he b hb=>List.mem_filterMap.mpr ⟨env,he,hb⟩) M fun g t fl _ _ k=>?_
 have k1:s1.heap.UpToSlots g:=(Heap.UpToSlots.of_keeps M.keeps).trans k
 have p1:∀ b o,s.heap.get? b=some o→b∉frs outer→b∉frs (Kh P w K mg base N qual scope f cd A outer s H E).stack:=fun b o e hb hm=>by
  rw[LA rfl rfl]at hm
  rcases List.mem_cons.mp hm with rfl|hm
  ·exact absurd (Heap.lt_size e) (Nat.not_lt.mpr I.ok.above)
  ·exact hb hm
 obtain⟨u',Lb,T',F'⟩:=EM (h0:=s.heap) (fs:=frs outer) (hd:=frs (Kh P w K mg base N qual scope f cd A outer s H E).stack) I.base I.hok p1 (fun b hm=>I.vG b hm) (fun b hb=>(I.vF.mem hb).2) (fun b hm=>.inr (BV I b hm)) (old e M.new) (Ik I.hok M.new) fl k1
 exact⟨e,T',C,.ref t,H1,rfl,⟨I.os,I.bare⟩,u',Lb,F',q⟩
theorem F7{x qual:Str}{st:Stmt}{f:Addr}{fd:FuncData}{N ps:List Str}{k:Nat}{sp:Sp}(F:iD K x qual st f fd)(S:aG N ps (az st))(len:∀ vs H Q E,sp vs H Q E→vs.length=ps.length)
  (hbody:∀ (cdv:Value) (A:Around) (outer:List Env) (s:Shared) (H:Hp) (vs:List V) (Q:VK) (E:XK),kL k (A.deeper (envOfC qual (az st) s.heap.objs.size f cdv))→sp vs H Q E →
   ∃ t,HH (Kh P w K mg base N qual (az st) f cdv A outer s H E) (lg st) t∧t { nx:=fun _ H'=>Q .jJ H',rt:=Q } (start N vs) H):aB P w K mg base (oJ P w) (k+1) f fd ps sp:=by
 obtain⟨oc,od,kV,doc,pm,an,cdv,ct,osl,rfl,lk,hcd⟩:=F.ex
 exact OU lk hcd S len fun A outer s H vs Q E hr Gv=>hbody cdv A outer s H vs Q E hr Gv
end
section
variable {X:Cx}
theorem NP{K:Frag}{h:Heap}{C:Addr}{bmB:List Value}{newId:String}{x:Str}{mg:Str→Option Value}(I:K.In h)(m:mg x=some (.ref C))(q:excIn K C bmB newId=true):OwnCls x C bmB newId mg h:=by
 refine⟨m,?_⟩
 unfold excIn at q
 split at q
 case h_2=>cases q
 rename_i dd cd sl ho
 split at q
 case h_2=>cases q
 rename_i c1 bm k0 k1 k2 k3 n k5 hm hs
 simp only[Bool.and_eq_true,beq_iff_eq,Bool.not_eq_true']at q
 obtain⟨⟨⟨⟨⟨e1,e2⟩,adN⟩,ht⟩,hno⟩,hni⟩:=q
 cases e1
 cases e2
 cases cd with
 | mk nm bs mro ns qn hd sn sub ab col del =>
  cases hm
  cases adN
  cases sl with
  | mk l =>
   have hs':l=[k0,k1,k2,k3,some (.builtin newId),k5]:=hs
   subst hs'
   exact⟨bm,ns,nm,qn,bs,hd,sn,sub,ab,col,dd,k0,k1,k2,k3,k5,_,I _ _ ho,.of_isNs (isNs_of_in I hno),nsMap_none_of_in I hno hni,tail_of_in I ht⟩
def QF(C:Addr)(E:XK)(t:TA):TS:=fun _ σ H=>t σ H fun vs H1=>vs.length≤sizeLine∧E (.ref C) none H1
theorem sL{E:XK}{x:Str}{C:Addr}{bmB:List Value}{newId initId B:String}{e:Expr}{es:List Expr}{t:TA}{np cpos pos:Pos}(FB:ExcBaseFacts B newId initId bmB)(hx:excIn X.K C bmB newId=true)(hm:X.mg x=some (.ref C))(hc:X.calm=true)(hr:Raises X E)
  (ha:PA X (e::es) t) (hg:Gl X x:=by rfl) (hdb:(x == ("__debug__":Str))=false:=by decide) (he:starEach (e::es) X.env=(false,eval e X.env)::starEach es X.env:=by rfl) (hpl:(backTo cpos (starEach es X.env)).any (·.1)=false:=by rfl) :
  PS X (.Raise (some (.Call (.Name x np) (e::es) [] cpos)) none pos) (QF C E t):=by
 intro pins s σ H D I h
 obtain⟨tl,Nd,c1,c2,c3,c4,c5,c6,c7,c8,c9,d0,d1,d2,d3,d5,mN,hC,hN,hni,T⟩:=(NP I.mod.Sn hm hx).obj
 refine wpAny_Raise_call_subT (nm:=c1) (q:=c2) (N:=Nd) (bs:=c3) (hdct:=c4) (sn:=c5) (sub:=c6) (ab:=c7) (col:=c8) (dd:=c9) (k0:=d0) (k1:=d1) (k2:=d2) (k3:=d3) (k5:=d5) FB (T.hasType FB.hasBase) (I.ok.hd hc) (by rw[he];show (false || (backTo cpos (starEach es X.env)).any (·.1))=false;rw[hpl];rfl) hni (vH I hg hm ⟨rfl,?_⟩ hdb)
 rw[he]
 have hw:=ha cpos pins s σ H _ I h
 rw[he]at hw
 refine Calls.evalArgs_plain (cz hw fun us s1 ⟨vs,H1,I1,r,q1,q2⟩=>?_)
 exact⟨rfl,by rw[← r.length];exact q1,I1.bk _ _ hC,hN.keeps I1.bk,T.keeps I1.bk,fun h' e M=>hr pins σ H1 s1 h' e _ _ I1 M q2⟩
end
section
variable {X:Cx} {x:Str} {st:Stmt} {ps:List Str} {f:Addr} {fd:FuncData} {j k:Nat} {sp:Sp} {e:Expr} {es:List Expr} {t:TA} {p pos:Pos} {E:XK}
theorem pO(d:jd.ay X.K X.mg x st ps f fd)(G:aB X.prog X.w X.K X.mg X.base (oJ X.prog X.w) k f fd ps sp)(hr:kL j X.A)(hx:Passes (oJ X.prog X.w) X E)
  (ha:PA X (e::es) t) (hjk:k≤j:=by first|decide|omega) (hg:Gl X x:=by rfl) (hdb:(x == ("__debug__":Str))=false:=by decide) (he:starEach (e::es) X.env=(false,eval e X.env)::starEach es X.env:=by rfl)
  (hpl:(backTo pos (starEach es X.env)).any (·.1)=false:=by rfl):PE X (.Call (.Name x p) (e::es) [] pos) (Eu sp [] E t) :=
 CK G (hr.mono hjk) hg d.m d.F.kp d.b .nil hx ha hdb he hpl
end
end jM
namespace jM
open PySem PySem.Spec PyProof.Rows L2
section
variable {X:Cx}
abbrev TJ:=L2.St→Hp→(Hp→Prop)→Prop
def PJ(X:Cx)(es:List Expr)(m:Nat)(t:TJ):Prop:=∀ (pins:List (Addr × Obj)) (s:Shared) (σ:L2.St) (H:Hp) (out:Str) (Q:Hp→Prop),L2.Inv X pins σ H s→t σ H Q→out.length+m≤1000000 →
 wpAny (model X.prog X.w) X.A (joinParts out (evalEach es X.env)) (fun u s'=>∃ x tk H',u=.str x tk∧L2.Inv X pins σ H' s'∧Q H') X.xe s
theorem zL:PJ X [] 0 (fun _ H Q=>Q H):=fun pins s σ H out Q I h hl =>
 joinParts_nil ⟨out,_,H,rfl,I.tok _,h⟩ (jI (Nat.lt_of_le_of_lt hl (by decide)))
theorem yQ{out y:Str}{m n:Nat}(h:out.length+(n+m)≤1000000)(hy:y.length≤n):(out++y).length≤sizeLine∧(out++y).length+m≤1000000:=by
 rw[PySem.strLen_append]
 refine⟨Nat.le_of_lt (Nat.lt_of_le_of_lt (show out.length+y.length≤1000000 by omega) (by decide)),by omega⟩
theorem qh{x:Str}{j:Nat}{pos:Pos}{es:List Expr}{m:Nat}{t:TJ}(h:PJ X es m t):PJ X (.Constant (.str x) j pos::es) (x.length+m) t:=by
 intro pins s σ H out Q I q hl
 refine joinParts_consE (joinParts_cons (Calls.Constant_str ?_))
 have z:=yQ (y:=x) hl (iC _)
 exact⟨z.1,h pins _ σ H _ Q (I.tok _) q z.2⟩
theorem qV{e:Expr}{te:TE}{pos:Pos}{es:List Expr}{m:Nat}{t:TJ}(he:PE X e te)(h:PJ X es m t):PJ X (.FormattedValue e (-1) none pos::es) (1921+m) (fun σ H Q=>te σ H fun v H1=>∃ i:Int,v=.int i∧i.natAbs.log2<1920∧t σ H1 Q):=by
 intro pins s σ H out Q I q hl
 refine joinParts_consE (joinParts_cons (FormattedValue_plain (cz (he pins s σ H _ I q) fun v s1 ⟨x,H1,I1,r1,i,e1,hi,q1⟩=>?_)))
 subst e1
 obtain⟨tk,rfl⟩:=r1
 refine formatField_int_small hi ?_
 have z:=yQ (y:=Str.ofString (toString i)) hl (int_text_len_1921 hi)
 exact⟨z.1,h pins _ σ H1 _ Q (I1.tok _) q1 z.2⟩
theorem vQ{v1 v2:Expr}{rest:List Expr}{pos:Pos}{m:Nat}{t:TJ}(h:PJ X (v1::v2::rest) m t)(hm:m≤1000000:=by decide +kernel):PE X (.JoinedStr (v1::v2::rest) pos) (fun σ H Q=>t σ H fun H1=>∀ x,Q (.str x) H1):=by
 intro pins s σ H Q I q
 refine JoinedStr_many (cz (h pins s σ H Str.empty _ I q (by show 0+m≤_;omega)) fun u s1 ⟨x,tk,H1,e,I1,q1⟩=>?_)
 subst e
 exact⟨.str x,H1,I1,⟨_,rfl⟩,q1 x⟩
def NQ(r r' r2:R2)(ta tb tc td:TE):TT:=fun σ H Q=>ta σ H fun x H1=>tb σ H1 fun y H2=>r x y H2 fun z H3=>∃ k,z=.bl k ∧
 (if k=true then tc σ H3 fun u H4=>r' y u H4 fun z' H5=>∃ k',z'=.bl k'∧(if k'=true then td σ H5 fun v H6=>r2 u v H6 fun z2 H7=>∃ k2,z2=.bl k2∧Q k2 H7 else Q false H5) else Q false H3)
theorem JA{op op' QG:CmpOp}{r r' r2:R2}{a b c d:Expr}{ta tb tc td:TE}{pos:Pos}(ho:wJ X (compareOp op) r)(ho':wJ X (compareOp op') r')(ho2:wJ X (compareOp QG) r2)(ha:PE X a ta)(hb:PE X b tb)(hc:PE X c tc)(hd:PE X d td)
  (hm:lastMarks [op,op',QG] [b,c,d]=false:=by with_unfolding_all rfl):PT X (.Compare a [op,op',QG] [b,c,d] pos) (NQ r r' r2 ta tb tc td):=by
 intro pins s σ H Q I h
 refine isTrue_chain (cz (ha pins s σ H _ I h) fun v s1 ⟨x,H1,I1,r1,q1⟩=>test_link (cz (hb pins s1 σ H1 _ I1 q1) fun u s2 ⟨y,H2,I2,r2',q2⟩ =>
  cz (ho pins s2 σ H2 x y v u _ I2 r1 r2' q2) fun z s3 ⟨z',H3,I3,r3,k,e,q3⟩=>?_)) hm
 subst e
 cases r3
 refine wpAny_truthy_bool ?_
 cases k with
 | false=>exact ite_ff ⟨H3,I3,q3⟩
 | true =>
  refine ite_tt (test_link (cz (hc pins s3 σ H3 _ I3 q3) fun v4 s4 ⟨x4,H4,I4,r4,q4⟩=>cz (ho' pins s4 σ H4 y x4 u v4 _ I4 r2' r4 q4) fun z5 s5 ⟨x5,H5,I5,r5,k5,e5,q5⟩=>?_))
  subst e5
  cases r5
  refine wpAny_truthy_bool ?_
  cases k5 with
  | false=>exact ite_ff ⟨H5,I5,q5⟩
  | true =>
   refine ite_tt (test_last (cz (hd pins s5 σ H5 _ I5 q5) fun v6 s6 ⟨x6,H6,I6,r6,q6⟩=>cz (ho2 pins s6 σ H6 x4 x6 v4 v6 _ I6 r4 r6 q6) fun z7 s7 ⟨x7,H7,I7,r7,k7,e7,q7⟩=>?_))
   subst e7
   cases r7
   exact wpAny_truthy_bool ⟨H7,I7,q7⟩
end
end jM
namespace jd
open PySem L2 cZ jM
theorem aS{H H':Hp}{a:Addr}(s:aF H H')(h:H' a=none):H a=none:=by
 cases q:H a with
 | none=>rfl
 | some o=>rw[s a o q]at h;cases h
def qW(i:Int):Prop:=-(10^60)<i∧i<10^60
theorem qW.log{i:Int}(h:qW i):i.natAbs.log2<1920:=by
 have h1:i.natAbs<2^1920:=by
  have:i.natAbs<10^60:=by
   obtain⟨a,b⟩:=h
   have e:((10:Int)^60)=(((10:Nat)^60:Nat):Int):=by norm_cast
   rw[e]at a b
   omega
  exact qN this (by decide +kernel)
 by_cases h0:i.natAbs=0
 ·rw[h0]
  decide
 ·exact (Nat.log2_lt h0).mpr h1
def LC(a b h:Int)(p:Int × Int):Row:=if max (a-h) 0<min (b-h) (p.2-p.1) then [(p.1+max (a-h) 0,p.1+min (b-h) (p.2-p.1))] else []
def nK(a b:Int):Int→Row→Row
 | _,[]=>[]
 | h,p::r=>LC a b h p++nK a b (h+(p.2-p.1)) r
theorem EN(a b:Int)(p:Int × Int):∀ (r:Row) (c:Int),nK a b c (r++[p])=nK a b c r++LC a b (c+tot r) p
 | [],c=>by simp[nK,NG]
 | q::r,c=>by
  have e:c+(q.2-q.1)+tot r=c+tot (q::r):=by rw[EI];omega
  rw[List.cons_append,nK,EN a b p r,nK,e,qw]
theorem QH(a b h:Int)(p:Int × Int):(LC a b h p).length≤1:=by
 unfold LC
 split <;> simp
theorem oK(a b:Int):∀ (r:Row) (c:Int),(nK a b c r).length≤r.length
 | [],_=>iC _
 | q::r,c=>by
  have ih:=oK a b r (c+(q.2-q.1))
  have z:=QH a b c q
  rw[nK,eG,ny]
  omega
theorem LD(a b h:Int)(p:Int × Int):∀ q∈LC a b h p,q.1≤q.2:=by
 unfold LC
 split
 ·intro q hq
  simp only[List.mem_singleton]at hq
  subst hq
  simp only
  omega
 ·intro q hq
  cases hq
theorem CY(a b:Int):∀ (r:Row) (c:Int),∀ q∈nK a b c r,q.1≤q.2
 | [],_=>fun q hq=>by cases hq
 | p::r,c=>fun q hq=>by
  rw[nK]at hq
  rcases List.mem_append.mp hq with z|z
  ·exact LD a b c p q z
  ·exact CY a b r _ q z
theorem EO(s:Int):∀ (n k:Nat),(run s n).drop k=run (s+k) (n-k)
 | n,0=>by simp
 | 0,k+1=>by simp[run]
 | n+1,k+1=>by
  rw[run,List.drop_succ_cons,EO (s+1) n k]
  have e1:s+1+(k:Int)=s+((k+1:Nat):Int):=by omega
  have e2:n+1-(k+1)=n-k:=by omega
  rw[e1,e2]
theorem ER(s:Int):∀ (n k:Nat),(run s n).take k=run s (min k n)
 | n,0=>by simp[run]
 | 0,k+1=>by simp[run]
 | n+1,k+1=>by
  rw[run,List.take_succ_cons,ER (s+1) n k]
  have e2:min (k+1) (n+1)=min k n+1:=by omega
  rw[e2,run]
theorem JB(a b h:Int)(p:Int × Int)(hp:p.1≤p.2):bx (LC a b h p)=((span p).take (b-h).toNat).drop (a-h).toNat:=by
 obtain⟨s,e⟩:=p
 simp only at hp
 unfold LC span
 simp only
 rw[ER,EO]
 split
 ·rename_i hc
  rw[iu,span]
  simp only
  congr 1
  ·omega
  ·omega
 ·rename_i hc
  have z:min (b-h).toNat (e-s).toNat-(a-h).toNat=0:=by omega
  rw[z]
  rfl
theorem tK(a b:Int):∀ (r:Row) (h:Int),(∀ p∈r,p.1≤p.2)→bx (nK a b h r)=((bx r).take (b-h).toNat).drop (a-h).toNat
 | [],h,_=>by simp[nK,bx]
 | p::r,h,ok=>by
  have hp:=ok p (rS ..)
  have ih:=tK a b r (h+(p.2-p.1)) fun q hq=>ok q (rX _ hq)
  have e:bx (p::r)=span p++bx r:=rfl
  have hl:=yf p hp
  rw[nK,cF,JB a b h p hp,ih,e,List.take_append,List.drop_append,kK]
  congr 1
  have e1:(b-(h+(p.2-p.1))).toNat=(b-h).toNat-(span p).length:=by omega
  rw[e1]
  by_cases hb:(span p).length≤(b-h).toNat
  ·have e2:(a-(h+(p.2-p.1))).toNat=(a-h).toNat-min (b-h).toNat (span p).length:=by omega
   rw[e2]
  ·have e3:(b-h).toNat-(span p).length=0:=by omega
   rw[e3]
   simp
def Eh(a b t:Int):Prop:=0≤a∧a≤b∧b≤t
inductive tL(C:Addr)(vs:List V)(H:Hp)(Q:VK)(E:XK):Prop
 | mk (r:Addr) (row:Row) (a b:Int) (_:vs=[.ref r,.int a,.int b]) (_:bX H r row) (_:row.length≤1000000) (_:qW a) (_:qW b) (_:qW (tot row)) (_:(Eh a b (tot row)→∀ H',aF H H'→Q .jJ H')) (_:(¬ Eh a b (tot row)→∀ H',aF H H'→E (.ref C) none H')):tL C vs H Q E
inductive sM(vs:List V)(H:Hp)(Q:VK)(E:XK):Prop
 | mk (r:Addr) (row:Row) (a b:Int) (_:vs=[.ref r,.int a,.int b]) (_:bX H r row) (_:row.length≤1000000) (_ :
 ∀ (q:Addr) (H':Hp),bX H' q (nK a b 0 row)→aF H H'→H q=none→Q (.ref q) H'):sM vs H Q E
inductive GO(C:Addr)(vs:List V)(H:Hp)(Q:VK)(E:XK):Prop
 | mk (r:Addr) (row:Row) (a b:Int) (_:vs=[.ref r,.int a,.int b]) (_:bX H r row) (_:row.length≤1000000) (_:qW a) (_:qW b) (_:qW (tot row)) (_:(Eh a b (tot row)→∀ (q:Addr) (H':Hp),bX H' q (bT (nK a b 0 row))→aF H H'→H q=none→Q (.ref q) H')) (_:(¬ Eh a b (tot row)→∀ H',aF H H'→E (.ref C) none H')):GO C vs H Q E
structure ExcAt(K:PySem.W.Frag)(mg:Str→Option Value)(C:Addr):Prop where
 m:mg "OutOfPlace"=some (.ref C)
 x:PySem.W.excIn K C [.type "ValueError",.type "Exception",.type "BaseException",.type "object"] "ValueError.__new__"=true
 h:PySem.W.exmOne K (.ref C) (.ref C)=some true
end jd
namespace jd
open PySem L2 cZ jM
theorem zM{P:Program}{w:World}{X:Cx}:Passes (oJ P w) X (fun _ _ _=>False):=fun _ _ _ _ _ _ _ h=>by
 obtain⟨_,_,_,_,_,_,_,_,_,_,z⟩:=h
 exact z.elim
end jd
namespace jd
open PySem L2 cZ jM
theorem pP(r:Row)(ok:∀ p∈r,p.1≤p.2):bx (bT r)=bx r:=by rw[EH r ok,jr]
theorem uS(a b:Int)(row:Row)(ok:∀ p∈row,p.1≤p.2):bx (bT (nK a b 0 row))=((bx row).take b.toNat).drop a.toNat:=by
 rw[pP _ (CY a b row 0),tK a b row 0 ok,Int.sub_zero,Int.sub_zero]
theorem run_get(s:Int):∀ (n k:Nat),k<n→(run s n)[k]?=some (s+k)
 | 0,k,h=>by omega
 | n+1,0,_=>by simp[run]
 | n+1,k+1,h=>by
  rw[run,List.getElem?_cons_succ,run_get (s+1) n k (by omega)]
  congr 1
  omega
theorem qA(r:Row):(bT r).length≤r.length:=by
 have z:=EL r []
 simpa [bT] using z
end jd
namespace jd
open PySem PySem.Spec PyProof.Rows L2 cZ jM
theorem bu.append{H:Hp}:∀ {as bs:List Addr} {r q:Row},bu H as r→bu H bs q→bu H (as++bs) (r++q)
 | _,_,_,_,.nil,t=>t
 | _,_,_,_,.cons e r,t=>.cons e (bu.append r t)
theorem QI{r q:Row}(h:∀ p∈r,p.1≤p.2)(g:∀ p∈q,p.1≤p.2):∀ p∈r++q,p.1≤p.2:=fun p hp=>(List.mem_append.mp hp).elim (h p) (g p)
end jd
namespace L2
open PySem PySem.Spec PyProof.Rows
section
variable {κ:Type} [DecidableEq κ]
def cj(kvs:List (κ × V))(k:κ):Option V:=(kvs.find? fun kv=>decide (kv.1=k)).map (·.2)
def putK(kvs:List (κ × V))(k:κ)(v:V):List (κ × V) :=
 if (kvs.any fun kv=>decide (kv.1=k))=true then kvs.map (fun kv=>if kv.1=k then (kv.1,v) else kv) else kvs++[(k,v)]
theorem ju{p:κ × V}{r:List (κ × V)}{k:κ}(e:p.1=k):cj (p::r) k=some p.2:=by simp[cj,List.find?_cons,e]
theorem jv{p:κ × V}{r:List (κ × V)}{k:κ}(e:¬ p.1=k):cj (p::r) k=cj r k:=by simp[cj,List.find?_cons,e]
theorem oM(k:κ):∀ kvs:List (κ × V),(kvs.any fun kv=>decide (kv.1=k))=(cj kvs k).isSome
 | []=>rfl
 | p::r=>by
  rw[List.any_cons]
  by_cases e:p.1=k
  ·simp only[ju e,decide_eq_true e,Bool.true_or,Option.isSome_some]
  ·rw[jv e,decide_eq_false e,Bool.false_or];exact oM k r
theorem ES(k j:κ)(y:V):∀ kvs:List (κ × V),cj (kvs.map fun kv=>if kv.1=k then (kv.1,y) else kv) j=(cj kvs j).map fun x=>if j=k then y else x
 | []=>rfl
 | p::r=>by
  have ih:=ES k j y r
  rw[lU]
  by_cases h:p.1=k
  ·rw[if_pos h]
   by_cases e:p.1=j
   ·rw[ju (p:=(p.1,y)) e,ju e,Option.map_some,if_pos (e.symm.trans h)]
   ·rw[jv (p:=(p.1,y)) e,jv e,ih]
  ·rw[if_neg h]
   by_cases e:p.1=j
   ·rw[ju (p:=p) e,ju e,Option.map_some,if_neg (fun z=>h (e.trans z))]
   ·rw[jv (p:=p) e,jv e,ih]
theorem BW(k j:κ)(y:V):∀ kvs:List (κ × V),cj kvs k=none→cj (kvs++[(k,y)]) j=if j=k then some y else cj kvs j
 | [],_=>by
  by_cases e:k=j
  ·rw[if_pos e.symm];exact ju (p:=(k,y)) e
  ·rw[if_neg (fun z=>e z.symm)];exact jv (p:=(k,y)) e
 | p::r,hn=>by
  rw[List.cons_append]
  have hk:¬ p.1=k:=fun z=>by rw[ju z]at hn;cases hn
  rw[jv hk]at hn
  have ih:=BW k j y r hn
  by_cases e:p.1=j
  ·rw[ju e,ju e,if_neg (fun z=>hk (e.trans z))]
  ·rw[jv e,jv e,ih]
theorem m6(kvs:List (κ × V))(k j:κ)(y:V):cj (putK kvs k y) j=if j=k then some y else cj kvs j:=by
 unfold putK
 by_cases a:(kvs.any fun kv=>decide (kv.1=k))=true
 ·rw[if_pos a,ES]
  rw[oM]at a
  by_cases e:j=k
  ·obtain⟨x,hx⟩:=Option.isSome_iff_exists.mp a
   rw[if_pos e,e,hx,Option.map_some,if_pos rfl]
  ·rw[if_neg e]
   cases cj kvs j with
   | none=>rfl
   | some x=>rw[Option.map_some,if_neg e]
 ·rw[if_neg a]
  refine BW k j y kvs ?_
  rw[oM]at a
  cases q:cj kvs k with
  | none=>rfl
  | some x=>rw[q]at a;exact (a rfl).elim
theorem jw(kvs:List (κ × V))(k:κ)(v:V):(putK kvs k v).length≤kvs.length+1:=by
 unfold putK
 split
 ·rw[cO];omega
 ·rw[eG,ny,oj];omega
theorem zN{kvs:List (κ × V)}{k:κ}(v:V)(h:cj kvs k=none):putK kvs k v=kvs++[(k,v)]:=by
 unfold putK
 rw[oM,h]
 exact if_neg (by decide)
theorem tX.xg{o:Option V}{u:Option Value}(r:tX o u):o.isSome=u.isSome:=by
 cases o with
 | none=>cases u with
  | none=>rfl
  | some _=>exact (show False from r).elim
 | some _=>cases u with
  | none=>exact (show False from r).elim
  | some _=>rfl
theorem KV.val{kvs:List (κ × V)}{vs:List (κ × Value)}(r:KV kvs vs)(k:κ):tX (cj kvs k) (valueAt vs k):=by
 unfold KV at r
 induction r with
 | nil=>exact True.intro
 | @cons p q ps qs h t ih =>
  obtain⟨h1,h2⟩:=h
  by_cases e:p.1=k
  ·have e':q.1=k:=h1.symm.trans e
   have b:valueAt (q::qs) k=some q.2:=by simp[valueAt,List.find?_cons,e']
   rw[ju e,b];exact h2
  ·have e':¬ q.1=k:=fun z=>e (h1.trans z)
   have b:valueAt (q::qs) k=valueAt qs k:=by simp[valueAt,List.find?_cons,e']
   rw[jv e,b];exact ih
theorem KV.any{kvs:List (κ × V)}{vs:List (κ × Value)}(r:KV kvs vs)(k:κ):(kvs.any fun kv=>decide (kv.1=k))=vs.any fun kv=>decide (kv.1=k):=by
 unfold KV at r
 induction r with
 | nil=>rfl
 | cons h t ih=>rw[List.any_cons,List.any_cons,ih,h.1]
theorem KV.repl{kvs:List (κ × V)}{vs:List (κ × Value)}(r:KV kvs vs)(k:κ){y:V}{u:Value}(ry:RelV y u) :
  KV (kvs.map fun kv=>if kv.1=k then (kv.1,y) else kv) (vs.map fun kv=>if kv.1=k then (kv.1,u) else kv):=by
 unfold KV at r ⊢
 induction r with
 | nil=>exact .nil
 | @cons p q ps qs h t ih =>
  rw[lU,lU]
  refine .cons ?_ ih
  obtain⟨h1,h2⟩:=h
  by_cases e:p.1=k
  ·rw[if_pos e,if_pos (h1.symm.trans e)];exact⟨h1,ry⟩
  ·rw[if_neg e,if_neg (fun z=>e (h1.trans z))];exact⟨h1,h2⟩
theorem KV.put{kvs:List (κ × V)}{vs:List (κ × Value)}(r:KV kvs vs)(k:κ){y:V}{u:Value}(ry:RelV y u):KV (putK kvs k y) (stored vs k u):=by
 unfold putK stored
 rw[r.any k]
 by_cases e:(vs.any fun kv=>decide (kv.1=k))=true
 ·rw[if_pos e,if_pos e];exact r.repl k ry
 ·rw[if_neg e,if_neg e];exact Paired.snoc r ⟨rfl,ry⟩
theorem KV.length{kvs:List (κ × V)}{vs:List (κ × Value)}(r:KV kvs vs):kvs.length=vs.length:=Paired.length r
end
theorem BX{P:Program}{w:World}{k:Key}{u:Value}(r:RelV (kV k) u):(gh P w).is k u=true:=by
 cases k with
 | inl i=>obtain⟨t,e⟩:=(show ∃ t,u=Value.int i t from r);subst e;exact Ej P w i t
 | inr x=>obtain⟨t,e⟩:=(show ∃ t,u=Value.str x t from r);subst e;exact Ek P w x t
theorem BY{P:Program}{w:World}:∀ {ks:List Key} {us:List Value},Vals (ks.map kV) us→ItemsAre (gh P w) ks us
 | [],_,r=>by rw[List.map_nil]at r;cases r;exact .nil
 | k::ks,_,r=>by
  rw[lU]at r
  cases r with
  | cons h t=>exact .cons (BX h) (BY t)
abbrev KT(H:Hp):List (List Key × V)→List (List Key × Addr × Value)→Prop:=Paired fun p q=>p.1=q.1∧H q.2.1=some (.tup (p.1.map kV))∧RelV p.2 q.2.2
theorem KT.val{H:Hp}{kvs:List (List Key × V)}{xs:List (List Key × Addr × Value)}(r:KT H kvs xs)(k:List Key):tX (cj kvs k) ((atKey xs k).map (·.2)):=by
 induction r with
 | nil=>exact True.intro
 | @cons p q ps qs h t ih =>
  obtain⟨h1,_,h2⟩:=h
  by_cases e:p.1=k
  ·have e':q.1=k:=h1.symm.trans e
   have b:atKey (q::qs) k=some q.2:=by simp[atKey,List.find?_cons,e']
   rw[ju e,b];exact h2
  ·have e':¬ q.1=k:=fun z=>e (h1.trans z)
   have b:atKey (q::qs) k=atKey qs k:=by simp[atKey,List.find?_cons,e']
   rw[jv e,b];exact ih
theorem KT.repl{H:Hp}{kvs:List (List Key × V)}{xs:List (List Key × Addr × Value)}(r:KT H kvs xs)(k:List Key){y:V}{u:Value}(ry:RelV y u) :
  KT H (kvs.map fun kv=>if kv.1=k then (kv.1,y) else kv) (xs.map (putAt k u)):=by
 induction r with
 | nil=>exact .nil
 | @cons p q ps qs h t ih =>
  rw[lU,lU]
  refine .cons ?_ ih
  obtain⟨h1,h2,h3⟩:=h
  unfold putAt
  by_cases e:p.1=k
  ·rw[if_pos e,if_pos (h1.symm.trans e)];exact⟨h1,h2,ry⟩
  ·rw[if_neg e,if_neg (fun z=>e (h1.trans z))];exact⟨h1,h2,h3⟩
theorem KT.put{H:Hp}{kvs:List (List Key × V)}{xs:List (List Key × Addr × Value)}(r:KT H kvs xs)(k:List Key){b:Addr}{y:V}{u:Value}(hb:H b=some (.tup (k.map kV)))(ry:RelV y u) :
  KT H (putK kvs k y) (storedH xs k b u):=by
 have e:(kvs.any fun kv=>decide (kv.1=k))=(atKey xs k).isSome:=by
  rw[oM,(r.val k).xg,Option.isSome_map]
 unfold putK storedH
 rw[e]
 by_cases q:(atKey xs k).isSome=true
 ·rw[if_pos q,if_pos q];exact r.repl k ry
 ·rw[if_neg q,if_neg q];exact Paired.snoc r ⟨rfl,hb,ry⟩
theorem KT.keeps{H H':Hp}{kvs:List (List Key × V)}{xs:List (List Key × Addr × Value)}(r:KT H kvs xs)(ht:∀ b ys,H b=some (.tup ys)→H' b=some (.tup ys)):KT H' kvs xs :=
 Paired.El r fun _ _ z=>⟨z.1,ht _ _ z.2.1,z.2.2⟩
section
variable {P:Program} {w:World} {H:Hp} {h:Heap} {a:Addr}
theorem O1{u:HO}(ok:tw P w H h)(e:Rd H a u):gj P w H h a u:=e.ok ok
theorem ET{kvs:List (Key × V)}(ok:tw P w H h)(e:Rd H a (.dK kvs)):kvs.length≤sizeLine∧(a == sysModules)=false∧∃ vs,KV kvs vs∧h.DictOf (gh P w) a vs :=
 show gj P w H h a (.dK kvs) from O1 ok e
theorem LF{kvs:List (Key × V)}(ok:tw P w H h)(e:H a=some (.dK kvs)):kvs.length≤sizeLine∧(a == sysModules)=false∧∃ vs,KV kvs vs∧h.DictOf (gh P w) a vs:=ET ok (.inl e)
theorem CZ{ks:List Key}(ok:tw P w H h)(e:H a=some (.tup (ks.map kV))):(tupleKind (gh P w)).is h ks a:=by
 obtain⟨_,its,r,o,h1,h2,n,h3⟩:=(show gj P w H h a (.tup (ks.map kV)) from ok a _ e)
 exact⟨o,its.toArray,n,h1,h2,h3,by simpa using BY r⟩
theorem EU{kvs:List (List Key × V)}(ok:tw P w H h)(e:Rd H a (.dT kvs)):kvs.length≤sizeLine∧(a == sysModules)=false ∧
  ∃ xs,KT H kvs xs∧h.DictOfH (tupleKind (gh P w)) a xs:=by
 obtain⟨z,y,xs,r,o,es,ep,h1,h2,h3,h4,h5⟩:=(show gj P w H h a (.dT kvs) from O1 ok e)
 refine⟨z,y,xs,r,o,es,ep,h1,h2,h3,h4,fun x hx=>?_,h5⟩
 have all:∀ {l:List (List Key × V)} {m:List (List Key × Addr × Value)},KT H l m→∀ x∈m,(tupleKind (gh P w)).is h x.1 x.2.1:=by
  intro l m q
  induction q with
  | nil=>intro x hx;exact nomatch hx
  | @cons p q ps qs hq t ih =>
   intro x hx
   rcases List.mem_cons.mp hx with e|hx
   ·subst e
    exact CZ ok (by rw[← hq.1];exact hq.2.1)
   ·exact ih x hx
 exact all r x hx
theorem TM{kvs:List (List Key × V)}(ok:tw P w H h)(e:H a=some (.dT kvs)):kvs.length≤sizeLine∧(a == sysModules)=false ∧
  ∃ xs,KT H kvs xs∧h.DictOfH (tupleKind (gh P w)) a xs:=EU ok (.inl e)
end
def mC(H:Hp)(a:Addr)(y:V)(r:Option V):Prop :=
 (∃ kvs k,Rd H a (.dK kvs)∧y=kV k∧r=cj kvs k)∨∃ kvs k b,Rd H a (.dT kvs)∧y=.ref b∧H b=some (.tup (k.map kV))∧r=cj kvs k
def C1(H:Hp)(a:Addr)(y v:V)(H':Hp):Prop :=
 (∃ kvs k,H a=some (.dK kvs)∧y=kV k∧kvs.length<sizeLine∧H'=upd H a (.dK (putK kvs k v))) ∨
 ∃ kvs k b,H a=some (.dT kvs)∧y=.ref b∧H b=some (.tup (k.map kV))∧kvs.length<sizeLine∧H'=upd H a (.dT (putK kvs k v))
theorem mC.k{H:Hp}{a:Addr}{kvs:List (Key × V)}{k:Key}(e:H a=some (.dK kvs)):mC H a (kV k) (cj kvs k):=.inl ⟨kvs,k,.inl e,rfl,rfl⟩
theorem C1.k{H:Hp}{a:Addr}{kvs:List (Key × V)}{k:Key}{v:V}(e:H a=some (.dK kvs))(hl:kvs.length<sizeLine):C1 H a (kV k) v (upd H a (.dK (putK kvs k v))):=.inl ⟨kvs,k,e,rfl,hl,rfl⟩
section
variable {X:Cx} {pins:List (Addr × Obj)} {σ:St} {H:Hp} {s:Shared} {a:Addr} {y v:V} {u r:Value} {o:Option V} {A:Around} {E:Value→Shared→Prop}
theorem Inv.big(I:Inv X pins σ H s):sysModules<s.heap.objs.size:=by
 have h:mainGlobals<s.heap.objs.size:=(I.mod.glob.keeps I.bk).lt
 exact Nat.lt_trans (by decide) h
theorem JC{Q:Value→Shared→Prop}(hu:A.units+1<cLine)(I:Inv X pins σ H s)(g:mC H a y (some v))(ry:RelV y u)(h:∀ w' s',Inv X pins σ H s'→RelV v w'→Q w' s') :
  wpAny (model X.prog X.w) A (getItem (.ref a) u) Q E s:=by
 rcases g with ⟨kvs,k,e,ey,l⟩|⟨kvs,k,b,e,ey,eb,l⟩
 ·subst ey
  obtain⟨z,hd,vs,rel,dd⟩:=ET I.hok e
  obtain⟨w',hw,rw'⟩:=tX.some_of (v:=v) (o:=valueAt vs k) (by rw[l];exact rel.val k)
  exact wpAny_getItem_of (BX ry) dd.mapOf hw (h w' _ (I.tok _) rw')
 ·subst ey
  cases (show u=Value.ref b from ry)
  obtain⟨z,hd,xs,rel,dd⟩:=EU I.hok e
  obtain⟨w',hw,rw'⟩:=tX.some_of (v:=v) (o:=(atKey xs k).map (·.2)) (by rw[l];exact rel.val k)
  obtain⟨p,hp,hp2⟩:=Option.map_eq_some_iff.mp hw
  refine wpAny_getItem_heap (tupleKind_room_in1 hu) (CZ I.hok eb) dd hp ?_
  rw[hp2]
  exact h w' _ (I.tok _) rw'
theorem NR{Q:Value→Shared→Prop}(hu:A.units+1<cLine)(I:Inv X pins σ H s)(g:mC H a y o)(ry:RelV y u)(h:∀ s',Inv X pins σ H s'→Q (.bool (!o.isSome)) s') :
  wpAny (model X.prog X.w) A (compareOp .NotIn u (.ref a)) Q E s:=by
 rcases g with ⟨kvs,k,e,ey,l⟩|⟨kvs,k,b,e,ey,eb,l⟩
 ·subst ey
  obtain⟨z,hd,vs,rel,dd⟩:=ET I.hok e
  refine wpAny_notIn_of (BX ry) hd dd.mapOf ?_
  rw[← (rel.val k).xg,← l]
  exact h _ (I.tok _)
 ·subst ey
  cases (show u=Value.ref b from ry)
  obtain⟨z,hd,xs,rel,dd⟩:=EU I.hok e
  refine wpAny_notIn_heap (tupleKind_room_in1 hu) (CZ I.hok eb) hd dd ?_
  have q:=(rel.val k).xg
  rw[Option.isSome_map]at q
  rw[← q,← l]
  exact h _ (I.tok _)
theorem yR{h':Heap}{t':Nat}{ob:HO}(I:Inv X pins σ H s)(mu:Sk (H a))(hs:Heap.SameBut a s.heap h')(he:∃ q,h'.get? a=some q)(new:gj X.prog X.w (upd H a ob) h' a ob) :
  Inv X pins σ (upd H a ob) { s with heap:=h',toks:=t' } :=
 I.write (x:=a) (e:=a) mu (.inl rfl) (fun b q hb z=>(hs.2 b hb).trans z) he new
theorem GP{P:Program}{w:World}{H':Hp}{h':Heap}{kvs:List (Key × V)}{vs:List (Key × Value)}(z:kvs.length≤sizeLine)(hd:(a == sysModules)=false)(rel:KV kvs vs)(dd:h'.DictOf (gh P w) a vs) :
  gj P w H' h' a (.dK kvs):=⟨z,hd,vs,rel,dd⟩
theorem JD{H':Hp}{Q:Unit→Shared→Prop}(hu:A.units+1<cLine)(I:Inv X pins σ H s)(g:C1 H a y v H')(ry:RelV y u)(rv:RelV v r)(h:∀ s',Inv X pins σ H' s'→Q () s') :
  wpAny (model X.prog X.w) A (setItem (.ref a) u r) Q E s:=by
 rcases g with ⟨kvs,k,e,ey,l,eH⟩|⟨kvs,k,b,e,ey,eb,l,eH⟩
 ·subst ey eH
  obtain⟨z,hd,vs,rel,dd⟩:=LF I.hok e
  have hz:vs.length≤sizeLine:=by rw[← rel.length];exact z
  have hl:(putK kvs k v).length≤sizeLine:=by have:=jw kvs k v;omega
  refine wpAny_setItem_pairs (hsz:=hz) (BX ry) dd fun h' MQ hs=>h _ ?_
  have he:∃ q,h'.get? a=some q:=let ⟨q,_,_,hq,_⟩:=MQ;⟨q,hq⟩
  exact yR I (by rw[e];exact True.intro) hs he (GP hl hd (rel.put k rv) MQ)
 ·subst ey eH
  cases (show u=Value.ref b from ry)
  obtain⟨z,hd,xs,rel,dd⟩:=TM I.hok e
  have hz:xs.length≤sizeLine:=by rw[← Paired.length rel];exact z
  have hl:(putK kvs k v).length≤sizeLine:=by have:=jw kvs k v;omega
  refine wpAny_setItem_heap (hsz:=hz) (tupleKind_room_in1 hu) (CZ I.hok eb) dd fun h' MQ hs=>h _ ?_
  obtain⟨q,es,ep,hq,h2,h3,h4,_,h5⟩:=MQ
  refine yR I (by rw[e];exact True.intro) hs ⟨q,hq⟩ ⟨hl,hd,_,(rel.put k eb rv).keeps fun c ys ec=>?_,q,es,ep,hq,h2,h3,h4,h5⟩
  rw[aC (cT ec e (fun z=>nomatch z))]
  exact ec
end
def TN(i:Expr):Prop:=∀ ov iv,subscripted i false ov iv=operate [ov,iv] (getItem ov iv)
theorem NS{prog:Program}{w:World}{A:Around}{E:Value→Shared→Prop}{s:Shared}{env:Env}{value slice:Expr}{pos:Pos}{T id:String}{Q:Value→Shared→Prop}
  (hl:typeLookup (.type T) "__getitem__"=pure (some (.builtin id))) (hs:TN slice)
  (h:wpAny (model prog w) A (eval value env) (fun o s₁=>wpAny (model prog w) A (eval slice env) (fun i s₂=>s₂.TypeIs o T∧wpAny (model prog w) A (getItem o i) Q E s₂) E s₁) E s) :
  wpAny (model prog w) A (eval (.Subscript value slice pos) env) Q E s:=by
 refine Subscript_ (wpAny_mono h (fun o s₁ h₁=>wpAny_mono h₁ (fun i s₂ h₂=>?_) fun _ _ x=>x) fun _ _ x=>x)
 obtain⟨hT,h₂⟩:=h₂
 unfold subscriptTail
 refine wpAny_bind ?_
 rw[getitemInPython_of_ne hT.not_modules]
 refine wpAny_bind (wpAny_specialOf hT hl ?_)
 have fin:wpAny (model prog w) A (subscripted slice false o i) (fun r s₃=>wpAny (model prog w) A (letTemporaryGo value o r >>= fun _=>pure r) Q E s₃) E s₂:=by
  rw[hs o i]
  exact wpAny_operating (wpAny_mono h₂ (fun r s₃ h₃=>wpAny_bind (wpAny_letTemporaryGo (wpAny_pure h₃))) fun _ _ x=>x)
 first
  | exact wpAny_pure (wpAny_bind fin)
  | exact wpAny_bind (wpAny_pure (wpAny_bind fin))
  | exact wpAny_bind fin
theorem EV{X:Cx}{pins:List (Addr × Obj)}{σ:St}{H:Hp}{s:Shared}{a:Addr}{y:V}{o:Option V}(I:Inv X pins σ H s)(g:mC H a y o):s.TypeIs (.ref a) "dict":=by
 rcases g with ⟨kvs,k,e,_,_⟩|⟨kvs,k,b,e,_,_,_⟩
 ·obtain⟨_,_,vs,_,dd⟩:=ET I.hok e
  exact dd.typeIs
 ·obtain⟨_,_,xs,_,dd⟩:=EU I.hok e
  exact dd.typeIs
inductive TQ(x y:V)(H:Hp)(Q:VK):Prop
 | mk (a:Addr) (v:V) (_:x=.ref a) (_:mC H a y (some v)) (_:Q v H):TQ x y H Q
def TR(td ty:TE):TE:=fun σ H Q=>td σ H fun x H1=>ty σ H1 fun y H2=>TQ x y H2 Q
def NT(ty td:TE):TE:=fun σ H Q=>ty σ H fun y H1=>td σ H1 fun x H2=>∃ a o,x=.ref a∧mC H2 a y o∧Q (.bl (!o.isSome)) H2
def TU(td ty tv:TE):TS:=fun D σ H=>tv σ H fun v H1=>td σ H1 fun x H2=>ty σ H2 fun y H3=>∃ a H4,x=.ref a∧C1 H3 a y v H4∧D.nx σ H4
section
variable {X:Cx} {o i e value:Expr} {pos pos' tpos:Pos} {td ty tv:TE}
theorem dX(hu:X.A.units+1<cLine)(ho:PE X o td)(hi:PE X i ty)(hs:TN i):PE X (.Subscript o i pos) (TR td ty):=by
 intro pins s σ H Q I h
 refine NS PySem.F.slot_dict_getitem.lookup hs (cz (ho pins s σ H _ I h) fun u s1 ⟨x,H1,I1,rx,q1⟩=>cz (hi pins s1 σ H1 _ I1 q1) fun iv s2 ⟨y,H2,I2,ry,a,v,ex,g,q2⟩=>?_)
 subst ex
 obtain rfl:u=Value.ref a:=rx
 exact⟨EV I2 g,JC hu I2 g ry fun w' s3 I3 rw'=>⟨v,H2,I3,rw',q2⟩⟩
theorem BZ(hu:X.A.units+1<cLine)(hi:PE X i ty)(ho:PE X o td):PC X .NotIn i o (NT ty td):=by
 intro pins s σ H Q I h
 refine cz (hi pins s σ H _ I h) fun iv s1 ⟨y,H1,I1,ry,q1⟩=>cz (ho pins s1 σ H1 _ I1 q1) fun u s2 ⟨x,H2,I2,rx,a,ov,ex,g,q2⟩=>?_
 subst ex
 obtain rfl:u=Value.ref a:=rx
 exact NR hu I2 g ry fun s3 I3=>⟨.bl (!ov.isSome),H2,I3,rfl,q2⟩
theorem vR(hu:X.A.units+1<cLine)(ho:PE X o td)(hi:PE X i ty)(hv:PE X value tv)(hs:swapsWith value (some (.Subscript o i pos')) pos.line X.env=pure false) :
  PS X (.Assign [.Subscript o i pos'] value pos) (TU td ty tv):=by
 intro pins s σ H D I h
 refine wpAny_Assign_Subscript (cz (hv pins s σ H _ I h) fun r s1 ⟨v,H1,I1,rv,q1⟩=>cz (ho pins s1 σ H1 _ I1 q1) fun u s2 ⟨x,H2,I2,rx,q2⟩=>cz (hi pins s2 σ H2 _ I2 q2) fun iv s3 ⟨y,H3,I3,ry,a,H4,ex,g,q3⟩=>?_) hs
 subst ex
 obtain rfl:u=Value.ref a:=rx
 exact JD hu I3 g ry rv fun s4 I4=>⟨σ,H4,I4,q3⟩
end
theorem EW{P:Program}{w:World}{H:Hp}(h:Heap)(hb:sysModules<h.objs.size):gj P w H (h.push { cls:=.type "dict",data:=.dict #[] }) h.objs.size (.dK []) :=
 ⟨Nat.zero_le _,beq_eq_false_iff_ne.mpr (Ne.symm (kQ hb)),[],.nil,Heap.DictOf.new h⟩
def QJ:TE:=fun _ H Q=>∀ p,H p=none→Q (.ref p) (upd H p (.dK []))
section
variable {X:Cx} {pos:Pos}
theorem oN:PE X (.Dict [] [] pos) QJ:=fun pins s σ H Q I h =>
 wpAny_Dict_empty ⟨.ref s.heap.objs.size,_,I.laid (a:=s.heap.objs.size) (o:=.dK []) (t':=s.toks) (fun _ _ q=>Heap.get?_push_of_some _ q) (iC _) (EW s.heap I.big),rfl,h _ (I.hok.fresh (iC _))⟩
end
def GQ:List (TE × TE)→St→Hp→(List (V × V)→Hp→Prop)→Prop
 | [],_,H,Q=>Q [] H
 | (tk,tv)::r,σ,H,Q=>tk σ H fun x H1=>tv σ H1 fun y H2=>GQ r σ H2 fun ps H3=>Q ((x,y)::ps) H3
abbrev VV:List (V × V)→List (Value × Value)→Prop:=Paired fun p q=>RelV p.1 q.1∧RelV p.2 q.2
def VI(X:Cx)(pos:Pos)(keys:List (Option Expr))(values:List Expr)(NU:List (TE × TE)):Prop :=
 ∀ (pins:List (Addr × Obj)) (s:Shared) (σ:St) (H:Hp) (Q:List (V × V)→Hp→Prop),Inv X pins σ H s→GQ NU σ H Q →
  wpAny (model X.prog X.w) X.A (evalPairs (pairTrees keys values X.env pos)) (fun vs s'=>∃ ps H',Inv X pins σ H' s'∧VV ps vs∧Q ps H') X.xe s
theorem NV{X:Cx}{pos:Pos}:VI X pos [] [] []:=fun pins s σ H Q I h=>pairTrees_nil_walk ⟨[],H,I,.nil,h⟩
theorem vS{X:Cx}{pos:Pos}{k v:Expr}{ks:List (Option Expr)}{vs:List Expr}{tk tv:TE}{NU:List (TE × TE)}(hk:PE X k tk)(hv:PE X v tv)(hr:VI X pos ks vs NU) :
  VI X pos (some k::ks) (v::vs) ((tk,tv)::NU):=fun pins s σ H Q I h =>
 pairTrees_cons_walk (cz (hk pins s σ H _ I h) fun u s1 ⟨x,H1,I1,rx,q1⟩=>cz (hv pins s1 σ H1 _ I1 q1) fun w2 s2 ⟨y,H2,I2,ry,q2⟩ =>
  cz (hr pins s2 σ H2 _ I2 q2) fun ws s3 ⟨ps,H3,I3,rel,q3⟩=>⟨(x,y)::ps,H3,I3,.cons ⟨rx,ry⟩ rel,q3⟩)
def xh(kvs more:List (Key × V)):List (Key × V):=more.foldl (fun acc kv=>putK acc kv.1 kv.2) kvs
theorem KV.merge:∀ {more:List (Key × V)} {rs:List (Key × Value)} {kvs:List (Key × V)} {vs:List (Key × Value)},KV more rs→KV kvs vs→KV (xh kvs more) (merged vs rs):=by
 intro more rs kvs vs r
 unfold KV at r
 induction r generalizing kvs vs with
 | nil=>intro q;exact q
 | @cons p q ps qs h t ih =>
  intro r0
  have e:KV (putK kvs p.1 p.2) (stored vs q.1 q.2):=by
   have:=r0.put p.1 h.2
   rw[← h.1];exact this
  exact ih e
theorem uE:∀ (more kvs:List (Key × V)),(xh kvs more).length≤kvs.length+more.length
 | [],kvs=>by show kvs.length≤kvs.length+0;omega
 | p::r,kvs=>by
  have h1:=uE r (putK kvs p.1 p.2)
  have h2:=jw kvs p.1 p.2
  show (xh (putK kvs p.1 p.2) r).length≤_
  rw[ny];omega
theorem zO{P:Program}{w:World}:∀ {kvs:List (Key × V)} {ws:List (Value × Value)},VV (kvs.map fun kv=>(kV kv.1,kv.2)) ws→∃ rs,Carries (gh P w) ws rs∧KV kvs rs
 | [],_,r=>by rw[List.map_nil]at r;cases r;exact⟨[],True.intro,.nil⟩
 | p::kvs,_,r=>by
  rw[lU]at r
  cases r with
  | @cons a b as bs h t =>
   obtain⟨rs,c,q⟩:=zO (P:=P) (w:=w) t
   obtain⟨b1,b2⟩:=b
   exact⟨(p.1,b2)::rs,⟨BX h.1,rfl,c⟩,.cons ⟨rfl,h.2⟩ q⟩
def LG(NU:List (TE × TE)):TE:=fun σ H Q=>∀ p,H p=none→GQ NU σ (upd H p (.dK [])) fun ps H2=>H2 p=some (.dK [])∧∃ kvs:List (Key × V),ps=kvs.map (fun kv=>(kV kv.1,kv.2))∧kvs.length≤15∧Q (.ref p) (upd H2 p (.dK (xh [] kvs)))
theorem NW{X:Cx}{pos:Pos}{keys:List (Option Expr)}{values:List Expr}{NU:List (TE × TE)}(h:VI X pos keys values NU)(hall:keys.all (·.isSome)=true)(hl:keys.length=values.length)(h0:keys≠[])
  (RN:keys.length≤15):PE X (.Dict keys values pos) (LG NU):=by
 intro pins s σ H Q I q
 have hn:=I.hok.fresh (iC s.heap.objs.size)
 have I1:=I.laid (a:=s.heap.objs.size) (o:=.dK []) (h':=s.heap.push { cls:=.type "dict",data:=.dict #[] }) (t':=s.toks) (fun _ _ q=>Heap.get?_push_of_some _ q) (iC _) (EW s.heap I.big)
 refine wpAny_Dict_walk (knd:=gh X.prog X.w) hall hl h0 RN (cz (h pins _ σ _ _ I1 (q _ hn)) fun ws s2 ⟨ps,H2,I2,rel,e,kvs,ep,lk,q2⟩=>?_)
 subst ep
 obtain⟨rs,c,rk⟩:=zO (P:=X.prog) (w:=X.w) rel
 obtain⟨z,hd,vs0,r0,dd⟩:=LF I2.hok e
 cases r0
 refine⟨rs,c,dd,fun h' MQ hs=>⟨.ref s.heap.objs.size,_,?_,rfl,q2⟩⟩
 have hz:(xh [] kvs).length≤sizeLine:=by
  have h1:=uE kvs []
  rw[oj]at h1
  rw[sizeLine_eq];omega
 have he:∃ q,h'.get? s.heap.objs.size=some q:=let ⟨q,_,_,hq,_⟩:=MQ;⟨q,hq⟩
 exact yR I2 (by rw[e];exact True.intro) hs he (GP hz hd (rk.merge .nil) MQ)
structure M2(X:Cx)(o:Expr)(m:Str)(apos:Pos)(e f:Expr)(cpos:Pos):Prop where
 base:attributeBase o m X.env (eval o X.env)=eval o X.env
 few:((backTo cpos (starEach [e,f] X.env)).all (fun x=>!x.1)&&(backToKw cpos (keywordEach [] X.env)).all (fun x=>x.1.isSome)
  && decide (([e,f]:List Expr).length+([]:List Keyword).length+(if ([]:List Keyword).isEmpty then 0 else 1)<30))=true
 line:(apos.endLine == cpos.line)=true
 trees:backTo cpos (starEach [e,f] X.env)=[(false,eval e X.env),(false,eval f X.env)]
def IsD(H:Hp)(a:Addr):Prop:=(∃ kvs,Rd H a (.dK kvs))∨∃ kvs,Rd H a (.dT kvs)
theorem QK{X:Cx}{pins:List (Addr × Obj)}{σ:St}{H:Hp}{s:Shared}{a:Addr}(I:Inv X pins σ H s)(d:IsD H a) :
  s.TypeIs (.ref a) "dict"∧(∀ b,Value.ref a=.ref b→∃ ob,s.heap.get? b=some ob∧ob.dict=none)∧(a == sysModules)=false:=by
 rcases d with ⟨kvs,e⟩|⟨kvs,e⟩
 ·obtain⟨_,hd,vs,_,dd⟩:=ET I.hok e
  refine⟨dd.typeIs,fun b q=>?_,hd⟩
  cases q
  obtain⟨ob,_,_,h1,h2,_⟩:=dd
  exact⟨ob,h1,h2.2.1⟩
 ·obtain⟨_,hd,xs,_,dd⟩:=EU I.hok e
  refine⟨dd.typeIs,fun b q=>?_,hd⟩
  cases q
  obtain⟨ob,_,_,h1,h2,_⟩:=dd
  exact⟨ob,h1,h2.2.1⟩
end L2
namespace cZ
open PySem PySem.Spec PyProof.Rows L2
def lX(X:Cx)(N:List Str)(scope:Scope)(cl:List (Str × Addr))(C:Addr)(s₀:Shared)(H₀:Hp)(ex:List Addr)(pn:List (Addr × Obj)):Cx where
 prog:=X.prog
 w:=X.w
 K:=X.K
 mg:=X.mg
 base:=X.base
 A:=X.A
 N:=N
 s₀:=s₀
 H₀:=H₀
 env:=compEnvC scope cl C X.env
 outer:=X.stack
 stack:=X.stack
 ex:=ex
 fn:=fun _=>false
 calm:=X.calm
 pn:=pn
 xe:=fun _ _=>False
structure B0(X:Cx)(N:List Str)(scope:Scope)(cl:List (Str × Addr))(jx:List (Option Nat)):Prop where
 kind:scope.kind=.function
 cell:∀ x∈scope.names,x.2≠.cell
 names:∀ x∈scope.names,x.2=.local→scope.names.lookup x.1=some .local
 clos:closureFor scope X.env=pure cl
 sub:∀ x c,cl.lookup x=some c→X.env.cells.lookup x=some c
 has:∀ x,((relabel scope X.env).names.lookup x=some .cell∨(relabel scope X.env).names.lookup x=some .free)→∃ c,cl.lookup x=some c
 len:jx.length=N.length
 free:∀ (i j:Nat) (x:Str),jx[i]?=some (some j)→N[i]?=some x→X.N[j]?=some x∧X.env.scope.names.lookup x=some .cell∧(relabel scope X.env).names.lookup x=some .cell
def uT(jx:List (Option Nat))(σ:L2.St):L2.St:=jx.map fun o=>o.bind fun j=>(σ[j]?).join
section
variable {X:Cx} {N:List Str} {scope:Scope} {cl:List (Str × Addr)} {jx:List (Option Nat)}
theorem yg{pins:List (Addr × Obj)}{σ:L2.St}{H:Hp}{s:Shared}{fp:List Addr}{h₁:Heap}{t:Nat}(cs:B0 X N scope cl jx)(I:Inv X pins σ H s)(hf:∀ b∈fp,pF X pins H b)(hlt:∀ b∈fp,b<s.heap.objs.size)
  (hns:h₁.Ns s.heap.objs.size fun _=>none) (hk:∀ b o,s.heap.get? b=some o→h₁.get? b=some o) :
  Inv (lX X N scope cl s.heap.objs.size s H fp (X.pn++pins)) [] (uT jx σ) H { s with heap:=h₁,toks:=t }:=by
 have sub:∀ {x c},(lX X N scope cl s.heap.objs.size s H fp (X.pn++pins)).env.cells.lookup x=some c→X.env.cells.lookup x=some c:=fun {x c} e=>cs.sub x c e
 refine⟨⟨I.ok.mod,cs.kind,I.ok.glob,I.ok.blt,iC _,fun x y c e e'=>I.ok.inj x y c (sub e) (sub e'),fun x hx=>cs.has x hx,fun x c z _=>(by cases z),I.ok.hd,I.ok.frames,.inl rfl,fun b hb=>⟨Nat.ne_of_lt (hlt b hb),fun x c e=>(hf b hb).2.2.2.2.1 x c (sub e)⟩,I.bs,lV I.ok.Nf I.sz,fun b o e hb=>?_,fun b hb z=>?_,I.stack,I.vG⟩,
  rfl,I.bare,Un.kept hk,⟨_,hns,fun i x v e1 e2 _=>?_⟩,fun x c e=>?_,I.hok.fresh (iC _),fun x c e=>I.uf x c (sub e),fun p hp=>?_,I.hok.kept hk,by unfold uT;rw[cO];exact cs.len⟩
 ·rcases (hf b hb).2.2.2.1 with z|z
  ·exact I.ok.Jg b o e z
  ·exact absurd (qN (Heap.lt_size (I.ok.bs b o e).1) z) (Nat.lt_irrefl _)
 ·rcases List.mem_cons.mp (I.qO b z) with e|e
  ·exact (hf b hb).2.1 e
  ·exact (hf b hb).2.2.1 e
 ·unfold uT at e2
  rw[kM]at e2
  cases ej:jx[i]? with
  | none=>rw[ej]at e2;cases e2
  | some o =>
   rw[ej]at e2
   cases o with
   | none=>cases e2
   | some j =>
    have e3:σ[j]?=some (some v):=by
     have z:((σ[j]?).join)=some v:=sr e2
     cases hs:σ[j]? with
     | none=>rw[hs]at z;cases z
     | some q=>rw[hs]at z;exact congrArg some z
    obtain⟨f1,f2,f3⟩:=cs.free i j x ej e1
    obtain⟨m,hn,hl⟩:=I.loc
    obtain⟨u,ru,look⟩:=hl j x v f1 e3 (.inr (.inl f2))
    refine⟨u,ru,?_⟩
    rcases look with ⟨k,_⟩|⟨_,c,hc,o,ho,hd⟩
    ·have k':X.env.scope.names.lookup x=some .local:=k
     rw[f2]at k'
     cases k'
    ·obtain⟨c',hc'⟩:=cs.has x (.inl f3)
     have z:=cs.sub x c' hc'
     rw[hc]at z
     cases z
     exact .inr ⟨.inl f3,c,hc',o,hk _ _ ho,hd⟩
 ·obtain⟨v,o,ho,hd⟩:=I.cell x c (sub e)
  exact⟨v,o,hk _ _ ho,hd⟩
 ·have Kg:p∈X.pn++pins:=by
   have z:p∈(X.pn++pins)++[]:=hp
   simpa using z
  obtain⟨e,n,nl,nf,d⟩:=I.pin p Kg
  refine⟨hk _ _ e,n,kQ (Heap.lt_size e),fun z=>?_,d⟩
  rcases List.mem_cons.mp (I.qO p.1 z) with e|e
  ·exact nl e
  ·exact nf e
theorem xj{pins:List (Addr × Obj)}{σ σ':L2.St}{H H':Hp}{s s':Shared}{fp:List Addr}(I:Inv X pins σ H s)(hf:∀ b∈fp,pF X pins H b)(J:Inv (lX X N scope cl s.heap.objs.size s H fp (X.pn++pins)) [] σ' H' s'):Inv X pins σ H' s' :=
 I.Ky (ch:=fp) J.os J.base J.hok J.bare fun b hb=>⟨(hf b hb).2.2.2.1,(hf b hb).2.1,(hf b hb).2.2.2.2.1,(hf b hb).2.2.2.2.2⟩
theorem xm{pins:List (Addr × Obj)}{σ σ2:L2.St}{H H':Hp}{s s':Shared}{h':Heap}(I:Inv X pins σ H s)(I4:Inv X pins σ2 H' s')(hfree:H' s.heap.objs.size=none)(hs:Heap.SameBut s.heap.objs.size s'.heap h'):Inv X pins σ2 H' { s' with heap:=h' }:=by
 refine I4.turned (t':=s'.toks) (it:=s.heap.objs.size) (fun b o hb e=>hs.extBut _ _ hb e) hfree (Nat.ne_of_gt I.lt) (.inr I.sz) (fun x c e z=>?_) fun p hp z=>?_
 ·obtain⟨v,o,ho,_⟩:=I.cell x c e
  exact absurd (Heap.lt_size ho) (by rw[z];exact Nat.lt_irrefl _)
 ·exact absurd (Heap.lt_size (I.pin p hp).1) (by rw[z];exact Nat.lt_irrefl _)
def yS(J:It)(acc:Addr)(g:TG)(tt:TT)(te:TE)(σ0:L2.St)(H:Hp)(Q:VK):Prop :=
 ∃ W:Nat→Nat→L2.St→Hp→Prop,(∃ m,W 0 m σ0 H)∧∀ i m σ H,W i m σ H →
  (J.stop i H∧Q (.ref acc) H)∨(J.go i H∧∃ Nx:L2.St→Hp→Prop,(∀ σ' H',Nx σ' H'→∃ m',m'<m∧W (i+1) m' σ' H')∧∀ x H',J.KD i H x H'→g x σ H' fun σ2 H2=>tt σ2 H2 fun b H3 =>
   if b=true then te σ2 H3 fun v H4=>∃ xs,H4 acc=some (.lst xs)∧xs.length<sizeLine∧Nx σ2 (upd H4 acc (.lst (xs++[v]))) else Nx σ2 H3)
def xo(jx:List (Option Nat))(wi:TI)(g:TG)(tt:TT)(te:TE):TE:=fun σ H Q=>wi σ H fun J H1=>∀ acc,H1 acc=none→yS J acc g tt te (uT jx σ) (upd H1 acc (.lst [])) Q
theorem B3{elt tg iter:Expr}{ifs:List Expr}{pos pos':Pos}{wi:TI}{g:TG}{tt:TT}{te:TE}(cs:B0 X N scope cl jx)(hc:X.calm=true)(hi:PI X tg iter wi)
  (hg:∀ C s₀ H₀ ex pn,PG (lX X N scope cl C s₀ H₀ ex pn) tg g) (ht:∀ C s₀ H₀ ex pn,Ie (lX X N scope cl C s₀ H₀ ex pn) ifs tt) (he:∀ C s₀ H₀ ex pn,PE (lX X N scope cl C s₀ H₀ ex pn) elt te)
  (hs:∀ x,foldedSetIterable iter X.env x=pure x) {use:Option (Value→Sem Unit)} {Q':Value→Shared→Prop} {Q:VK} {pins:List (Addr × Obj)} {s:Shared} {σ:L2.St} {H:Hp} (I:Inv X pins σ H s) (h:xo jx wi g tt te σ H Q)
  (fin:∀ (s3:Shared) (H3:Hp) (fp:List Addr) (acc:Addr) (σ6:L2.St) (H6:Hp) (s7:Shared),Inv X pins σ H3 s3→(∀ b∈fp,pF X pins H3 b)→Inv (lX X N scope cl s3.heap.objs.size s3 H3 fp (X.pn++pins)) [] σ6 H6 s7→Q (.ref acc) H6 →
   compPost (model X.prog X.w) X.A X.xe use Q' (.ref acc) s3.heap.objs.size (.ok .next) s7) :
  wpAny (model X.prog X.w) X.A (comprehension (.ListComp elt [⟨tg,iter,ifs,0⟩] scope pos) scope X.env pos' (newList []) false (eval iter X.env) use) Q' X.xe s:=by
 refine wpAny_comprehension_free (use:=use) rfl hs cs.clos cs.kind cs.names (cz (hi pins s σ H _ I h) fun v s1 h1=>cz h1 fun itv s2 h2=>?_)
 obtain⟨it,fp,tn,J,H2,e,I2,T,st2,f2,q⟩:=h2
 subst e
 refine wpAny_newObj_type (hd:=by size_fits) ?_
 have hacc:H2 s2.heap.objs.size=none:=I2.hok.fresh (iC _)
 have I3:Inv X pins σ (upd H2 s2.heap.objs.size (.lst [])) { s2 with heap:=s2.heap.push { cls:=.type "list",data:=.seq ([]:List Value).toArray },toks:=s2.toks }:=I2.K5 (ys:=[]) .nil (Nat.zero_le _)
 have OY:∀ b∈fp,b<s2.heap.objs.size:=fun b hb=>by
  obtain⟨o,ho,_⟩:=T.obj _ _ st2 b hb
  exact Heap.lt_size ho
 have f3:∀ b∈fp,pF X pins (upd H2 s2.heap.objs.size (.lst [])) b:=fun b hb=>⟨by rw[aC (kQ (OY b hb))];exact (f2 b hb).1,(f2 b hb).2⟩
 have k3:∀ b o,s2.heap.get? b=some o→(s2.heap.push { cls:=.type "list",data:=.seq ([]:List Value).toArray }).get? b=some o:=fun b o e=>Heap.get?_push_of_some _ e
 have q3:=q _ hacc
 generalize Tu:({ s2 with heap:=s2.heap.push { cls:=.type "list",data:=.seq ([]:List Value).toArray },toks:=s2.toks }:Shared)=s3 at I3
 generalize hH3:upd H2 s2.heap.objs.size (.lst [])=H3 at I3 f3 q3
 have OZ:s3.heap=s2.heap.push { cls:=.type "list",data:=.seq ([]:List Value).toArray }:=by rw[← Tu]
 have EK:∀ b∈fp,b<s3.heap.objs.size:=fun b hb=>by rw[OZ,Heap.size_push];exact Nat.lt_succ_of_lt (OY b hb)
 have st3:tn 0 s3.heap:=T.keep _ _ _ st2 fun b _ o e=>by rw[OZ];exact k3 b o e
 show wpAny _ _ _ _ _ s3
 refine wpAny_newFunctionEnv cs.cell (fun y hy=>by simp at hy) (fun h₁ hns Ls=>?_) cs.kind
 have kh:∀ b o,s3.heap.get? b=some o→h₁.get? b=some o:=fun b o e=>Ls.extBut _ _ (kQ (Heap.lt_size e)) (Heap.get?_push_of_some _ e)
 have J0:Inv (lX X N scope cl s3.heap.objs.size s3 H3 fp (X.pn++pins)) [] (uT jx σ) H3 { s3 with heap:=h₁,toks:=s3.toks+([]:List (Str × Value)).length }:=yg cs I3 f3 EK hns kh
 have O0:tn 0 h₁:=T.keep _ _ _ st3 fun b _ o e=>kh b o e
 obtain⟨W,⟨m0,w0⟩,turn⟩:=q3
 have qQ:∀ {H':Hp},(∀ b∈fp,H' b=none)→∀ b∈fp,pF (lX X N scope cl s3.heap.objs.size s3 H3 fp (X.pn++pins)) [] H' b:=fun hn b hb=>by
  refine⟨hn b hb,kQ (EK b hb),fun z=>?_,.inl hb,fun x c e=>(f3 b hb).2.2.2.2.1 x c (cs.sub x c e),fun p hp=>?_⟩
  ·rcases List.mem_cons.mp (I3.qO b z) with e|e
   ·exact (f3 b hb).2.1 e
   ·exact (f3 b hb).2.2.1 e
  ·have Kg:p∈X.pn++pins:=by
    have z:p∈(X.pn++pins)++[]:=hp
    simpa using z
   exact (f3 b hb).2.2.2.2.2 p Kg
 have loop:∀ s5:Shared,s5={ s3 with heap:=h₁,toks:=s3.toks+([]:List (Str × Value)).length }→codeAny (model X.prog X.w) X.A (.compLoop (.ListComp elt [⟨tg,iter,ifs,0⟩] scope pos) 0 (.ref it) (.ref s2.heap.objs.size) (lX X N scope cl s3.heap.objs.size s3 H3 fp (X.pn++pins)).env)
   (compPost (model X.prog X.w) X.A X.xe use Q' (.ref s2.heap.objs.size) s3.heap.objs.size) s5:=by
  rintro s5 rfl
  refine BR (fun n s'=>∃ i σ' H',Inv (lX X N scope cl s3.heap.objs.size s3 H3 fp (X.pn++pins)) [] σ' H' s'∧tn i s'.heap∧(∀ b∈fp,H' b=none)∧W i n σ' H') ?_ m0 ⟨0,_,H3,J0,O0,fun b hb=>(f3 b hb).1,w0⟩
  rintro n s6 ⟨i,σ6,H6,I6,Lu,F6,w6⟩
  rcases turn i n σ6 H6 w6 with ⟨stop,qn⟩|⟨go,Nx,hN,step⟩
  ·refine cz (T.done (lX X N scope cl s3.heap.objs.size s3 H3 fp (X.pn++pins)) rfl rfl rfl hc i [] s6 σ6 H6 _ I6 (qQ F6) Lu stop) fun r s7 ⟨hr,I7⟩=>?_
   subst hr
   exact fin s3 H3 fp _ σ6 H6 s7 I3 f3 I7 qn
  ·refine cz (T.item (lX X N scope cl s3.heap.objs.size s3 H3 fp (X.pn++pins)) rfl rfl rfl hc i [] s6 σ6 H6 _ I6 (qQ F6) Lu go) fun r s7 ⟨u,hr,h7⟩=>?_
   subst hr
   refine cz h7 fun _ s8 ⟨x,H8,I8,r8,y8,GH,Jx⟩=>?_
   have QC:=I8.pinned (qQ Jx) (T.obj _ _ GH)
   refine cz (hg _ _ _ _ _ _ s8 σ6 H8 x u _ QC r8 (step x H8 y8)) fun _ s9 ⟨σ9,H9,I9,q9⟩=>?_
   refine cz (ht _ _ _ _ _ _ s9 σ9 H9 _ I9 q9) fun ok Eg ⟨BS,Lv,uz⟩=>?_
   have again:∀ {σ7:L2.St} {H7:Hp} {qz:Shared},Inv (lX X N scope cl s3.heap.objs.size s3 H3 fp (X.pn++pins)) ([]++sD fp s8.heap) σ7 H7 qz→Nx σ7 H7→∃ m,m<n∧∃ i σ' H',Inv (lX X N scope cl s3.heap.objs.size s3 H3 fp (X.pn++pins)) [] σ' H' qz∧tn i qz.heap∧(∀ b∈fp,H' b=none)∧W i m σ' H':=fun {σ7 H7 qz} I7 n7=>by
    obtain⟨m',hm,w7⟩:=hN σ7 H7 n7
    refine⟨m',hm,i+1,σ7,H7,I7.om,T.keep _ _ _ GH fun b hb o e=>(I7.pin (b,o) (pD _ (pD _ (gJ hb e)))).1,fun b hb=>?_,w7⟩
    obtain⟨o,e,d⟩:=T.obj _ _ GH b hb
    exact (I7.pin (b,o) (pD _ (pD _ (gJ hb e)))).2.1
   cases ok with
   | false =>
    rw[if_neg ue]at uz
    exact again Lv uz
   | true =>
    rw[if_pos rfl]at uz
    refine cz (he _ _ _ _ _ _ Eg σ9 BS _ Lv uz) fun v qz ⟨y,Lw,Tv,Tw,xs,hx,hz,NJ⟩=>?_
    refine cz (cA _ qz σ9 Lw (.ref s2.heap.objs.size) [y] (.ref s2.heap.objs.size) [v] (fun _ H'=>Nx σ9 H') Tv rfl (.cons Tw .nil) ⟨_,xs,y,rfl,rfl,hx,hz,NJ⟩) fun _ s12 ⟨_,Ih,Tz,_,Lx⟩=>?_
    exact again Tz Lx
 exact codeAny_compStart_list (loop _ rfl) (T.self _ _ _ _ _ O0 (loop _ rfl))
theorem LH{elt tg iter:Expr}{ifs:List Expr}{pos:Pos}{wi:TI}{g:TG}{tt:TT}{te:TE}(cs:B0 X N scope cl jx)(hc:X.calm=true)(hi:PI X tg iter wi)
  (hg:∀ C s₀ H₀ ex pn,PG (lX X N scope cl C s₀ H₀ ex pn) tg g) (ht:∀ C s₀ H₀ ex pn,Ie (lX X N scope cl C s₀ H₀ ex pn) ifs tt) (he:∀ C s₀ H₀ ex pn,PE (lX X N scope cl C s₀ H₀ ex pn) elt te)
  (hs:∀ x,foldedSetIterable iter X.env x=pure x:=by intro _;rfl):PE X (.ListComp elt [⟨tg,iter,ifs,0⟩] scope pos) (xo jx wi g tt te):=by
 intro pins s σ H Q I h
 rw[eval_ListComp]
 refine B3 (use:=none) cs hc hi hg ht he hs I h fun s3 H3 fp acc σ6 H6 s7 I3 f3 I7 qn=>?_
 obtain⟨m,hm,_⟩:=I7.loc
 exact⟨m,hm,fun h' Ls=>⟨.ref acc,H6,xm I3 (xj I3 f3 I7) I7.free Ls,rfl,qn⟩⟩
theorem NY{elt tg iter:Expr}{ifs:List Expr}{pos pos' pos2:Pos}{wi:TI}{g:TG}{tt:TT}{te:TE}{i:Nat}{x:Str}(cs:B0 X N scope cl jx)(hc:X.calm=true)(hN:X.N.Nodup)(hix:X.N[i]?=some x)(hx:X.env.scope.names.lookup x=some .local)(hi:PI X tg iter wi)
  (hg:∀ C s₀ H₀ ex pn,PG (lX X N scope cl C s₀ H₀ ex pn) tg g) (ht:∀ C s₀ H₀ ex pn,Ie (lX X N scope cl C s₀ H₀ ex pn) ifs tt) (he:∀ C s₀ H₀ ex pn,PE (lX X N scope cl C s₀ H₀ ex pn) elt te)
  (hsw:swapsWith (.ListComp elt [⟨tg,iter,ifs,0⟩] scope pos) (some (.Name x pos')) pos2.line X.env=pure true:=by rfl)
  (hs:∀ x,foldedSetIterable iter X.env x=pure x:=by intro _;rfl):PS X (.Assign [.Name x pos'] (.ListComp elt [⟨tg,iter,ifs,0⟩] scope pos) pos2) (Nl (xo jx wi g tt te) (vJ i)):=by
 intro pins s σ H D I h
 rw[exec_Assign_Name_used _ _ _ _ hsw]
 refine wpAny_bind (wpAny_standAt (wpAny_bind ?_))
 show wpAny _ X.A (do let _ ← comprehension (.ListComp elt [⟨tg,iter,ifs,0⟩] scope pos) scope X.env _ (newList []) false (eval iter X.env) (some (assign (.Name x pos') X.env))) _ _ s
 have h':xo jx wi g tt te σ H (fun v H'=>vJ i v σ H' D.nx):=h
 refine wpAny_bind (cz (B3 (use:=some (assign (.Name x pos') X.env)) (Q':=fun _ s'=>∃ σ' H',Inv X pins σ' H' s'∧D.nx σ' H') cs hc hi hg ht he hs I h' fun s3 H3 fp acc σ6 H6 s7 I3 f3 I7 qn=>?_) fun _ s' q=>?_)
 ·have I4:=xj I3 f3 I7
  obtain⟨m,hm,_⟩:=I7.loc
  refine wpAny_assign_Name (Bs I4 hN hix (.inl hx) (v:=.ref acc) rfl (fun s8 I8 ⟨a,Ls,ha⟩=>?_) (.inr hx))
  have na:s3.heap.objs.size≠a:=by
   rcases ha with rfl|ha
   ·exact Nat.ne_of_gt I3.lt
   ·intro z
    obtain⟨v,o,ho,_⟩:=I3.cell x a ha
    exact absurd (Heap.lt_size ho) (by rw[z];exact Nat.lt_irrefl _)
  refine⟨m,hm.at' fun o e=>Ls.extBut _ o na e,fun h' hs'=>⟨_,H6,xm I3 I8 I7.free hs',qn⟩⟩
 ·exact wpAny_pure (wpAny_pure q)
theorem oO{K:PySem.W.Frag}{a acc:Addr}{xs:List V}{g:TG}{tt:TT}{te:TE}{σ0:L2.St}{H:Hp}{Q:VK}(Pv:Nat→L2.St→Hp→Prop)(h0:Pv 0 σ0 H)(hl:∀ i σ H,i≤xs.length→Pv i σ H→bF K H a xs)
  (hs:∀ i x σ H,xs[i]?=some x→Pv i σ H→g x σ H fun σ2 H2=>tt σ2 H2 fun b H3=>if b=true then te σ2 H3 fun v H4=>∃ ys,H4 acc=some (.lst ys)∧ys.length<sizeLine∧Pv (i+1) σ2 (upd H4 acc (.lst (ys++[v]))) else Pv (i+1) σ2 H3)
  (hd:∀ σ H,Pv xs.length σ H→Q (.ref acc) H):yS (KH K a) acc g tt te σ0 H Q:=by
 refine⟨fun i m σ H=>m=xs.length-i∧i≤xs.length∧Pv i σ H,⟨xs.length,by simp,Nat.zero_le _,h0⟩,?_⟩
 rintro i m σ H ⟨rfl,hi,p⟩
 have q:=hl i σ H hi p
 by_cases hlt:i<xs.length
 ·refine .inr ⟨⟨xs,xs[i],q,by simp[hlt]⟩,Pv (i+1),fun σ' H' p'=>⟨xs.length-(i+1),by omega,rfl,hlt,p'⟩,fun x H' y=>?_⟩
  obtain⟨e,y⟩:=y
  subst e
  exact hs i x σ _ (y xs q) p
 ·have e:i=xs.length:=by omega
  subst e
  exact .inl ⟨⟨xs,q,iC _⟩,hd σ H p⟩
theorem EX{lo:Int}{k:Nat}{acc:Addr}{g:TG}{tt:TT}{te:TE}{σ0:L2.St}{H:Hp}{Q:VK}(Pv:Nat→L2.St→Hp→Prop)(h0:Pv 0 σ0 H)
  (hs:∀ i σ H,i<k→Pv i σ H→g (.int (lo+i)) σ H fun σ2 H2=>tt σ2 H2 fun b H3=>if b=true then te σ2 H3 fun v H4=>∃ ys,H4 acc=some (.lst ys)∧ys.length<sizeLine∧Pv (i+1) σ2 (upd H4 acc (.lst (ys++[v]))) else Pv (i+1) σ2 H3)
  (hd:∀ σ H,Pv k σ H→Q (.ref acc) H):yS (Qc lo k) acc g tt te σ0 H Q:=by
 refine⟨fun i m σ H=>m=k-i∧i≤k∧Pv i σ H,⟨k,by simp,Nat.zero_le _,h0⟩,?_⟩
 rintro i m σ H ⟨rfl,hi,p⟩
 by_cases hlt:i<k
 ·refine .inr ⟨hlt,Pv (i+1),fun σ' H' p'=>⟨k-(i+1),by omega,rfl,hlt,p'⟩,fun x H' y=>?_⟩
  obtain⟨e,y⟩:=y
  subst e y
  exact hs i σ _ hlt p
 ·have e:i=k:=by omega
  subst e
  exact .inl ⟨Nat.le_refl _,hd σ H p⟩
end
section
variable {X:Cx} {N:List Str} {scope:Scope} {cl:List (Str × Addr)} {C:Addr} {s₀:Shared} {H₀:Hp} {ex:List Addr} {pn:List (Addr × Obj)}
theorem Il{es:List Expr}{k:Nat}{t:ON}{n:Nat}{pos:Pos}(hc:X.calm=true)(h:RK (lX X N scope cl C s₀ H₀ ex pn) es t)
  (hn:(assignEach es (lX X N scope cl C s₀ H₀ ex pn).env).length=n:=by rfl) (hst:(assignEach es (lX X N scope cl C s₀ H₀ ex pn).env).findIdx? (·.1)=none:=by rfl):PG (lX X N scope cl C s₀ H₀ ex pn) (.Tuple es k pos) (Nk X.K n t):=qf (X:=lX X N scope cl C s₀ H₀ ex pn) hc h hn hst
theorem LI{tg l:Expr}{tl:TE}(hl:PE (lX X N scope cl C s₀ H₀ ex pn) l tl):PI (lX X N scope cl C s₀ H₀ ex pn) tg l (OP X.K tl):=cU hl
end
theorem C2{X:Cx}:nJ X (.type "range") (fun xs H Q=>∃ j:Int,xs=[.int j]∧∀ p,H p=none→Q (.ref p) (upd H p (.Ef 0 j))):=by
 intro pins s σ H xs us Q I r h
 obtain⟨j,rfl,q⟩:=h
 obtain⟨u1,rfl,⟨t,rfl⟩⟩:=r.one
 refine call_range_1 ⟨.ref s.heap.objs.size,_,I.laid (o:=.Ef 0 j) (fun b o e=>Heap.get?_push_of_some _ e) (iC _) ⟨_,_,_,Heap.get?_push_size _ rfl⟩,rfl,q _ (I.hok.fresh (iC _))⟩
theorem xq{scope:Scope}{env:Env}(h:∀ p∈scope.names,p.2=.free→∃ c,env.cells.lookup p.1=some c) :
  ∃ cl,closureFor scope env=pure cl∧(∀ x c,cl.lookup x=some c→env.cells.lookup x=some c)∧(∀ p∈scope.names,p.2=.free→∃ c,cl.lookup p.1=some c):=by
 unfold closureFor
 have key:∀ (l:List (Str × NameKind)) (cs:List (Str × Addr)),(∀ p∈l,p.2=.free→∃ c,env.cells.lookup p.1=some c)→(∀ x c,cs.lookup x=some c→env.cells.lookup x=some c) →
   ∃ cl,(forIn l cs (fun p r=>if (p.2 == NameKind.free)=true then do let c ← cellOf env p.1;pure (ForInStep.yield ((p.1,c)::r)) else pure (ForInStep.yield r)):Sem (List (Str × Addr)))=pure cl∧(∀ x c,cl.lookup x=some c→env.cells.lookup x=some c)∧(∀ p∈l,p.2=.free→∃ c,cl.lookup p.1=some c)∧(∀ x c,cs.lookup x=some c→∃ c,cl.lookup x=some c):=by
  intro l
  induction l with
  | nil=>intro cs _ hcs;exact⟨cs,rfl,hcs,(fun p hp=>by cases hp),fun x c e=>⟨c,e⟩⟩
  | cons p l ih =>
   intro cs hl hcs
   rw[List.forIn_cons]
   by_cases hp:p.2=.free
   ·obtain⟨c,hc⟩:=hl p rS hp
    have e1:(p.2 == NameKind.free)=true:=by rw[hp];rfl
    have e2:cellOf env p.1=pure c:=by
     unfold cellOf
     rw[hc]
    rw[if_pos e1,e2]
    simp only[pure_bind]
    obtain⟨cl,h1,h2,h3,h4⟩:=ih ((p.1,c)::cs) (fun q hq=>hl q (rX _ hq)) (fun x d e=>by
     rw[List.lookup_cons]at e
     cases hx:x == p.1 with
     | true =>
      rw[hx]at e
      cases e
      rw[eq_of_beq hx]
      exact hc
     | false =>
      rw[hx]at e
      exact hcs x d e)
    refine⟨cl,h1,h2,fun q hq hf=>?_,fun x d e=>?_⟩
    ·rcases List.mem_cons.mp hq with rfl|hq
     ·exact h4 q.1 c (by rw[List.lookup_cons];simp)
     ·exact h3 q hq hf
    ·cases hx:x == p.1 with
     | true=>exact h4 x c (by rw[List.lookup_cons,hx])
     | false=>exact h4 x d (by rw[List.lookup_cons,hx];exact e)
   ·have e1:¬ (p.2 == NameKind.free)=true:=fun z=>hp (eq_of_beq z)
    rw[if_neg e1]
    simp only[pure_bind]
    obtain⟨cl,h1,h2,h3,h4⟩:=ih cs (fun q hq=>hl q (rX _ hq)) hcs
    refine⟨cl,h1,h2,fun q hq hf=>?_,h4⟩
    rcases List.mem_cons.mp hq with rfl|hq
    ·exact absurd hf hp
    ·exact h3 q hq hf
 obtain⟨cl,h1,h2,h3,_⟩:=key scope.names [] h (fun x c e=>by cases e)
 refine⟨cl,?_,h2,h3⟩
 rw[← h1]
 simp only[bind_pure]
theorem oQ{env:Env}:∀ {names:List (Str × NameKind)} {x:Str} {k:NameKind},names.lookup x=some k →
  (names.map fun (n,k)=>if (k == NameKind.free&&env.scope.kind == .function&&env.kindOf n == some .cell) then (n,NameKind.cell) else (n,k)).lookup x=some (if (k == NameKind.free&&env.scope.kind == .function&&env.kindOf x == some .cell) then NameKind.cell else k)
 | [],_,_,h=>by cases h
 | (n,k')::r,x,k,h=>by
  rw[lU]
  by_cases hx:(x == n)=true
  ·have e:x=n:=eq_of_beq hx
   subst e
   rw[List.lookup_cons,hx]at h
   cases h
   by_cases hc:(k' == NameKind.free&&env.scope.kind == .function&&env.kindOf x == some .cell)=true
   ·show List.lookup x ((if (k' == NameKind.free&&env.scope.kind == .function&&env.kindOf x == some .cell)=true then (x,NameKind.cell) else (x,k'))::_)=_
    rw[if_pos hc,if_pos hc,List.lookup_cons,hx]
   ·show List.lookup x ((if (k' == NameKind.free&&env.scope.kind == .function&&env.kindOf x == some .cell)=true then (x,NameKind.cell) else (x,k'))::_)=_
    rw[if_neg hc,if_neg hc,List.lookup_cons,hx]
  ·have hf:(x == n)=false:=by simpa using hx
   rw[List.lookup_cons,hf]at h
   have ih:=oQ (env:=env) h
   show List.lookup x ((if (k' == NameKind.free&&env.scope.kind == .function&&env.kindOf n == some .cell)=true then (n,NameKind.cell) else (n,k'))::_)=_
   by_cases hc:(k' == NameKind.free&&env.scope.kind == .function&&env.kindOf n == some .cell)=true
   ·rw[if_pos hc,List.lookup_cons,hf];exact ih
   ·rw[if_neg hc,List.lookup_cons,hf];exact ih
theorem nL{env:Env}:∀ {names:List (Str × NameKind)} {x:Str},names.lookup x=none →
  (names.map fun (n,k)=>if (k == NameKind.free&&env.scope.kind == .function&&env.kindOf n == some .cell) then (n,NameKind.cell) else (n,k)).lookup x=none
 | [],_,_=>rfl
 | (n,k')::r,x,h=>by
  rw[lU]
  have hf:(x == n)=false:=by
   cases hx:x == n with
   | false=>rfl
   | true=>rw[List.lookup_cons,hx]at h;cases h
  rw[List.lookup_cons,hf]at h
  have ih:=nL (env:=env) h
  show List.lookup x ((if (k' == NameKind.free&&env.scope.kind == .function&&env.kindOf n == some .cell)=true then (n,NameKind.cell) else (n,k'))::_)=_
  by_cases hc:(k' == NameKind.free&&env.scope.kind == .function&&env.kindOf n == some .cell)=true
  ·rw[if_pos hc,List.lookup_cons,hf];exact ih
  ·rw[if_neg hc,List.lookup_cons,hf];exact ih
structure B4(X:Cx)(N:List Str)(scope:Scope)(jx:List (Option Nat)):Prop where
 kind:scope.kind=.function
 cell:∀ x∈scope.names,x.2≠.cell
 names:∀ x∈scope.names,x.2=.local→scope.names.lookup x.1=some .local
 xk:X.env.scope.kind=.function
 fr:∀ x∈scope.names,x.2=.free→X.env.scope.names.lookup x.1=some .cell
 len:jx.length=N.length
 free:∀ (i j:Nat) (x:Str),jx[i]?=some (some j)→N[i]?=some x→X.N[j]?=some x∧scope.names.lookup x=some .free
def freeOk(NX N:List Str)(scope:Scope)(jx:List (Option Nat)):Bool:=(jx.zip N).all fun p=>match p.1 with
 | none=>true
 | some j=>decide (NX[j]?=some p.2)&&decide (scope.names.lookup p.2=some .free)
theorem yh{X:Cx}{N NX:List Str}{scope sc:Scope}{jx:List (Option Nat)}(e1:X.env.scope=sc)(e2:X.N=NX)(k:scope.kind=.function)(h1:∀ x∈scope.names,x.2≠.cell)(h2:∀ x∈scope.names,x.2=.local→scope.names.lookup x.1=some .local)
  (h3:sc.kind=.function) (h4:∀ x∈scope.names,x.2=.free→sc.names.lookup x.1=some .cell) (h5:jx.length=N.length) (h6:freeOk NX N scope jx=true):B4 X N scope jx:=by
 refine⟨k,h1,h2,by rw[e1];exact h3,by rw[e1];exact h4,h5,fun i j x a b=>?_⟩
 rw[e2]
 unfold freeOk at h6
 rw[List.all_eq_true]at h6
 have z:=h6 (some j,x) (vB (i:=i) (by rw[List.getElem?_zip_eq_some];exact⟨a,b⟩))
 simp only[Bool.and_eq_true,decide_eq_true_eq]at z
 exact z
section
variable {X:Cx} {N:List Str} {scope:Scope} {jx:List (Option Nat)}
theorem B4.toF{pins:List (Addr × Obj)}{σ:L2.St}{H:Hp}{s:Shared}(cg:B4 X N scope jx)(I:Inv X pins σ H s):∃ cl,B0 X N scope cl jx:=by
 obtain⟨cl,h1,h2,h3⟩:=xq (scope:=scope) (env:=X.env) fun p hp hf=>I.ok.has p.1 (.inl (cg.fr p hp hf))
 have rel:∀ x,scope.names.lookup x=some .free→(relabel scope X.env).names.lookup x=some .cell:=fun x hx=>by
  have z:=oQ (env:=X.env) hx
  have c:(NameKind.free == NameKind.free&&X.env.scope.kind == .function&&X.env.kindOf x == some .cell)=true:=by
   have q:X.env.kindOf x=some .cell:=cg.fr (x,.free) (PySem.mem_of_lookup hx) rfl
   rw[cg.xk,q]
   rfl
  rw[if_pos c]at z
  exact z
 refine⟨cl,cg.kind,cg.cell,cg.names,h1,h2,fun x hx=>?_,cg.len,fun i j x a b=>?_⟩
 ·cases e:scope.names.lookup x with
  | none =>
   have z:(relabel scope X.env).names.lookup x=none:=nL (env:=X.env) e
   rw[z]at hx
   rcases hx with q|q <;> cases q
  | some k =>
   by_cases hk:k=.free
   ·subst hk
    exact h3 (x,.free) (PySem.mem_of_lookup e) rfl
   ·have z:(relabel scope X.env).names.lookup x=some (if (k == NameKind.free&&X.env.scope.kind == .function&&X.env.kindOf x == some .cell) then NameKind.cell else k):=oQ (env:=X.env) e
    have c:(k == NameKind.free)=false:=by
     cases q:k == NameKind.free with
     | false=>rfl
     | true=>exact absurd (eq_of_beq q) hk
    rw[c]at z
    simp only[Bool.false_and,Bool.false_eq_true,if_false]at z
    rw[z]at hx
    rcases hx with q|q
    ·cases q
     exact absurd rfl (cg.cell (x,.cell) (PySem.mem_of_lookup e))
    ·cases q
     exact absurd rfl hk
 ·obtain⟨f1,f2⟩:=cg.free i j x a b
  exact⟨f1,cg.fr (x,.free) (PySem.mem_of_lookup f2) rfl,rel x f2⟩
theorem qB{elt tg iter:Expr}{ifs:List Expr}{pos:Pos}{wi:TI}{g:TG}{tt:TT}{te:TE}(cg:B4 X N scope jx)(hc:X.calm=true)(hi:PI X tg iter wi)
  (hg:∀ cl C s₀ H₀ ex pn,PG (lX X N scope cl C s₀ H₀ ex pn) tg g) (ht:∀ cl C s₀ H₀ ex pn,Ie (lX X N scope cl C s₀ H₀ ex pn) ifs tt) (he:∀ cl C s₀ H₀ ex pn,PE (lX X N scope cl C s₀ H₀ ex pn) elt te)
  (hs:∀ x,foldedSetIterable iter X.env x=pure x:=by intro _;rfl):PE X (.ListComp elt [⟨tg,iter,ifs,0⟩] scope pos) (xo jx wi g tt te):=by
 intro pins s σ H Q I h
 obtain⟨cl,cs⟩:=cg.toF I
 exact LH cs hc hi (hg cl) (ht cl) (he cl) hs pins s σ H Q I h
theorem NZ{elt tg iter:Expr}{ifs:List Expr}{pos pos' pos2:Pos}{wi:TI}{g:TG}{tt:TT}{te:TE}{i:Nat}{x:Str}(cg:B4 X N scope jx)(hc:X.calm=true)(hN:X.N.Nodup)(hix:X.N[i]?=some x)(hx:X.env.scope.names.lookup x=some .local)(hi:PI X tg iter wi)
  (hg:∀ cl C s₀ H₀ ex pn,PG (lX X N scope cl C s₀ H₀ ex pn) tg g) (ht:∀ cl C s₀ H₀ ex pn,Ie (lX X N scope cl C s₀ H₀ ex pn) ifs tt) (he:∀ cl C s₀ H₀ ex pn,PE (lX X N scope cl C s₀ H₀ ex pn) elt te)
  (hsw:swapsWith (.ListComp elt [⟨tg,iter,ifs,0⟩] scope pos) (some (.Name x pos')) pos2.line X.env=pure true:=by rfl)
  (hs:∀ x,foldedSetIterable iter X.env x=pure x:=by intro _;rfl):PS X (.Assign [.Name x pos'] (.ListComp elt [⟨tg,iter,ifs,0⟩] scope pos) pos2) (Nl (xo jx wi g tt te) (vJ i)):=by
 intro pins s σ H D I h
 obtain⟨cl,cs⟩:=cg.toF I
 exact NY cs hc hN hix hx hi (hg cl) (ht cl) (he cl) hsw hs pins s σ H D I h
end
end cZ
namespace cZ
open PySem PySem.Spec PyProof.Rows L2
section
variable {X:Cx} {N:List Str} {scope:Scope} {cl:List (Str × Addr)} {jx:List (Option Nat)}
def EY(J:It)(acc:Addr)(g:TG)(tt:TT)(GJ:TI)(g2:TG)(GK:TT)(te:TE)(σ0:L2.St)(H:Hp)(Q:VK):Prop :=
 ∃ W:Nat→Nat→L2.St→Hp→Prop,(∃ m,W 0 m σ0 H)∧∀ i m σ H,W i m σ H →
  (J.stop i H∧Q (.ref acc) H)∨(J.go i H∧∃ Nx:L2.St→Hp→Prop,(∀ σ' H',Nx σ' H'→∃ m',m'<m∧W (i+1) m' σ' H')∧∀ x H',J.KD i H x H'→g x σ H' fun σ2 H2=>tt σ2 H2 fun b H3 =>
   if b=true then GI GJ acc g2 GK te σ2 H3 Nx else Nx σ2 H3)
def Im(jx:List (Option Nat))(wi:TI)(g:TG)(tt:TT)(GJ:TI)(g2:TG)(GK:TT)(te:TE):TE:=fun σ H Q=>wi σ H fun J H1=>∀ acc,H1 acc=none→EY J acc g tt GJ g2 GK te (uT jx σ) (upd H1 acc (.lst [])) Q
theorem GR{elt tg iter rZ cX:Expr}{ifs ko:List Expr}{pos pos':Pos}{wi GJ:TI}{g g2:TG}{tt GK:TT}{te:TE}(cs:B0 X N scope cl jx)(hc:X.calm=true)(hi:PI X tg iter wi)
  (hg:∀ C s₀ H₀ ex pn,PG (lX X N scope cl C s₀ H₀ ex pn) tg g) (ht:∀ C s₀ H₀ ex pn,Ie (lX X N scope cl C s₀ H₀ ex pn) ifs tt) (hi2:∀ C s₀ H₀ ex pn,PI (lX X N scope cl C s₀ H₀ ex pn) rZ cX GJ) (hg2:∀ C s₀ H₀ ex pn,PG (lX X N scope cl C s₀ H₀ ex pn) rZ g2) (JE:∀ C s₀ H₀ ex pn,Ie (lX X N scope cl C s₀ H₀ ex pn) ko GK) (he:∀ C s₀ H₀ ex pn,PE (lX X N scope cl C s₀ H₀ ex pn) elt te)
  (hs:∀ x,foldedSetIterable iter X.env x=pure x) (hs2:∀ (env:Env) x,foldedSetIterable cX env x=pure x) {use:Option (Value→Sem Unit)} {Q':Value→Shared→Prop} {Q:VK} {pins:List (Addr × Obj)} {s:Shared} {σ:L2.St} {H:Hp} (I:Inv X pins σ H s) (h:Im jx wi g tt GJ g2 GK te σ H Q)
  (fin:∀ (s3:Shared) (H3:Hp) (fp:List Addr) (acc:Addr) (σ6:L2.St) (H6:Hp) (s7:Shared),Inv X pins σ H3 s3→(∀ b∈fp,pF X pins H3 b)→Inv (lX X N scope cl s3.heap.objs.size s3 H3 fp (X.pn++pins)) [] σ6 H6 s7→Q (.ref acc) H6 →
   compPost (model X.prog X.w) X.A X.xe use Q' (.ref acc) s3.heap.objs.size (.ok .next) s7) :
  wpAny (model X.prog X.w) X.A (comprehension (.ListComp elt [⟨tg,iter,ifs,0⟩,⟨rZ,cX,ko,0⟩] scope pos) scope X.env pos' (newList []) false (eval iter X.env) use) Q' X.xe s:=by
 refine wpAny_comprehension_free (use:=use) rfl hs cs.clos cs.kind cs.names (cz (hi pins s σ H _ I h) fun v s1 h1=>cz h1 fun itv s2 h2=>?_)
 obtain⟨it,fp,tn,J,H2,e,I2,T,st2,f2,q⟩:=h2
 subst e
 refine wpAny_newObj_type (hd:=by size_fits) ?_
 have hacc:H2 s2.heap.objs.size=none:=I2.hok.fresh (iC _)
 have I3:Inv X pins σ (upd H2 s2.heap.objs.size (.lst [])) { s2 with heap:=s2.heap.push { cls:=.type "list",data:=.seq ([]:List Value).toArray },toks:=s2.toks }:=I2.K5 (ys:=[]) .nil (Nat.zero_le _)
 have OY:∀ b∈fp,b<s2.heap.objs.size:=fun b hb=>by
  obtain⟨o,ho,_⟩:=T.obj _ _ st2 b hb
  exact Heap.lt_size ho
 have f3:∀ b∈fp,pF X pins (upd H2 s2.heap.objs.size (.lst [])) b:=fun b hb=>⟨by rw[aC (kQ (OY b hb))];exact (f2 b hb).1,(f2 b hb).2⟩
 have k3:∀ b o,s2.heap.get? b=some o→(s2.heap.push { cls:=.type "list",data:=.seq ([]:List Value).toArray }).get? b=some o:=fun b o e=>Heap.get?_push_of_some _ e
 have q3:=q _ hacc
 generalize Tu:({ s2 with heap:=s2.heap.push { cls:=.type "list",data:=.seq ([]:List Value).toArray },toks:=s2.toks }:Shared)=s3 at I3
 generalize hH3:upd H2 s2.heap.objs.size (.lst [])=H3 at I3 f3 q3
 have OZ:s3.heap=s2.heap.push { cls:=.type "list",data:=.seq ([]:List Value).toArray }:=by rw[← Tu]
 have EK:∀ b∈fp,b<s3.heap.objs.size:=fun b hb=>by rw[OZ,Heap.size_push];exact Nat.lt_succ_of_lt (OY b hb)
 have st3:tn 0 s3.heap:=T.keep _ _ _ st2 fun b _ o e=>by rw[OZ];exact k3 b o e
 show wpAny _ _ _ _ _ s3
 refine wpAny_newFunctionEnv cs.cell (fun y hy=>by simp at hy) (fun h₁ hns Ls=>?_) cs.kind
 have kh:∀ b o,s3.heap.get? b=some o→h₁.get? b=some o:=fun b o e=>Ls.extBut _ _ (kQ (Heap.lt_size e)) (Heap.get?_push_of_some _ e)
 have J0:Inv (lX X N scope cl s3.heap.objs.size s3 H3 fp (X.pn++pins)) [] (uT jx σ) H3 { s3 with heap:=h₁,toks:=s3.toks+([]:List (Str × Value)).length }:=yg cs I3 f3 EK hns kh
 have O0:tn 0 h₁:=T.keep _ _ _ st3 fun b _ o e=>kh b o e
 obtain⟨W,⟨m0,w0⟩,turn⟩:=q3
 have qQ:∀ {H':Hp},(∀ b∈fp,H' b=none)→∀ b∈fp,pF (lX X N scope cl s3.heap.objs.size s3 H3 fp (X.pn++pins)) [] H' b:=fun hn b hb=>by
  refine⟨hn b hb,kQ (EK b hb),fun z=>?_,.inl hb,fun x c e=>(f3 b hb).2.2.2.2.1 x c (cs.sub x c e),fun p hp=>?_⟩
  ·rcases List.mem_cons.mp (I3.qO b z) with e|e
   ·exact (f3 b hb).2.1 e
   ·exact (f3 b hb).2.2.1 e
  ·have Kg:p∈X.pn++pins:=by
    have z:p∈(X.pn++pins)++[]:=hp
    simpa using z
   exact (f3 b hb).2.2.2.2.2 p Kg
 have loop:∀ s5:Shared,s5={ s3 with heap:=h₁,toks:=s3.toks+([]:List (Str × Value)).length }→codeAny (model X.prog X.w) X.A (.compLoop (.ListComp elt [⟨tg,iter,ifs,0⟩,⟨rZ,cX,ko,0⟩] scope pos) 0 (.ref it) (.ref s2.heap.objs.size) (lX X N scope cl s3.heap.objs.size s3 H3 fp (X.pn++pins)).env)
   (compPost (model X.prog X.w) X.A X.xe use Q' (.ref s2.heap.objs.size) s3.heap.objs.size) s5:=by
  rintro s5 rfl
  refine NN (fun n s'=>∃ i σ' H',Inv (lX X N scope cl s3.heap.objs.size s3 H3 fp (X.pn++pins)) [] σ' H' s'∧tn i s'.heap∧(∀ b∈fp,H' b=none)∧W i n σ' H') (hs2 _) ?_ m0 ⟨0,_,H3,J0,O0,fun b hb=>(f3 b hb).1,w0⟩
  rintro n s6 ⟨i,σ6,H6,I6,Lu,F6,w6⟩
  rcases turn i n σ6 H6 w6 with ⟨stop,qn⟩|⟨go,Nx,hN,step⟩
  ·refine cz (T.done (lX X N scope cl s3.heap.objs.size s3 H3 fp (X.pn++pins)) rfl rfl rfl hc i [] s6 σ6 H6 _ I6 (qQ F6) Lu stop) fun r s7 ⟨hr,I7⟩=>?_
   subst hr
   exact fin s3 H3 fp _ σ6 H6 s7 I3 f3 I7 qn
  ·refine cz (T.item (lX X N scope cl s3.heap.objs.size s3 H3 fp (X.pn++pins)) rfl rfl rfl hc i [] s6 σ6 H6 _ I6 (qQ F6) Lu go) fun r s7 ⟨u,hr,h7⟩=>?_
   subst hr
   refine cz h7 fun _ s8 ⟨x,H8,I8,r8,y8,GH,Jx⟩=>?_
   have QC:=I8.pinned (qQ Jx) (T.obj _ _ GH)
   refine cz (hg _ _ _ _ _ _ s8 σ6 H8 x u _ QC r8 (step x H8 y8)) fun _ s9 ⟨σ9,H9,I9,q9⟩=>?_
   refine cz (ht _ _ _ _ _ _ s9 σ9 H9 _ I9 q9) fun ok Eg ⟨BS,Lv,uz⟩=>?_
   have again:∀ {σ7:L2.St} {H7:Hp} {qz:Shared},Inv (lX X N scope cl s3.heap.objs.size s3 H3 fp (X.pn++pins)) ([]++sD fp s8.heap) σ7 H7 qz→Nx σ7 H7→∃ m,m<n∧∃ i σ' H',Inv (lX X N scope cl s3.heap.objs.size s3 H3 fp (X.pn++pins)) [] σ' H' qz∧tn i qz.heap∧(∀ b∈fp,H' b=none)∧W i m σ' H':=fun {σ7 H7 qz} I7 n7=>by
    obtain⟨m',hm,w7⟩:=hN σ7 H7 n7
    refine⟨m',hm,i+1,σ7,H7,I7.om,T.keep _ _ _ GH fun b hb o e=>(I7.pin (b,o) (pD _ (pD _ (gJ hb e)))).1,fun b hb=>?_,w7⟩
    obtain⟨o,e,d⟩:=T.obj _ _ GH b hb
    exact (I7.pin (b,o) (pD _ (pD _ (gJ hb e)))).2.1
   cases ok with
   | false =>
    rw[if_neg ue]at uz
    exact again Lv uz
   | true =>
    rw[if_pos rfl]at uz
    refine cz (Jy (Y:=lX X N scope cl s3.heap.objs.size s3 H3 fp (X.pn++pins)) hc rfl (hi2 _ _ _ _ _) (hg2 _ _ _ _ _) (JE _ _ _ _ _) (he _ _ _ _ _) Lv uz) fun x qz h11=>cz h11 fun TF s12 h12=>codeAny_mono h12 fun r EZ ⟨hr,σ',H',I13,n13⟩=>⟨hr,again I13 n13⟩
 exact codeAny_compStart_list (loop _ rfl) (T.self _ _ _ _ _ O0 (loop _ rfl))
theorem JF{elt tg iter rZ cX:Expr}{ifs ko:List Expr}{pos:Pos}{wi GJ:TI}{g g2:TG}{tt GK:TT}{te:TE}(cg:B4 X N scope jx)(hc:X.calm=true)(hi:PI X tg iter wi)
  (hg:∀ cl C s₀ H₀ ex pn,PG (lX X N scope cl C s₀ H₀ ex pn) tg g) (ht:∀ cl C s₀ H₀ ex pn,Ie (lX X N scope cl C s₀ H₀ ex pn) ifs tt)
  (hi2:∀ cl C s₀ H₀ ex pn,PI (lX X N scope cl C s₀ H₀ ex pn) rZ cX GJ) (hg2:∀ cl C s₀ H₀ ex pn,PG (lX X N scope cl C s₀ H₀ ex pn) rZ g2) (JE:∀ cl C s₀ H₀ ex pn,Ie (lX X N scope cl C s₀ H₀ ex pn) ko GK) (he:∀ cl C s₀ H₀ ex pn,PE (lX X N scope cl C s₀ H₀ ex pn) elt te)
  (hs:∀ x,foldedSetIterable iter X.env x=pure x:=by intro _;rfl) (hs2:∀ (env:Env) x,foldedSetIterable cX env x=pure x:=by intro _ _;rfl) :
  PE X (.ListComp elt [⟨tg,iter,ifs,0⟩,⟨rZ,cX,ko,0⟩] scope pos) (Im jx wi g tt GJ g2 GK te):=by
 intro pins s σ H Q I h
 obtain⟨cl,cs⟩:=cg.toF I
 rw[eval_ListComp]
 refine GR (use:=none) cs hc hi (hg cl) (ht cl) (hi2 cl) (hg2 cl) (JE cl) (he cl) hs hs2 I h fun s3 H3 fp acc σ6 H6 s7 I3 f3 I7 qn=>?_
 obtain⟨m,hm,_⟩:=I7.loc
 exact⟨m,hm,fun h' Ls=>⟨.ref acc,H6,xm I3 (xj I3 f3 I7) I7.free Ls,rfl,qn⟩⟩
theorem E1{K:PySem.W.Frag}{a acc:Addr}{xs:List V}{g:TG}{tt:TT}{GJ:TI}{g2:TG}{GK:TT}{te:TE}{σ0:L2.St}{H:Hp}{Q:VK}(Pv:Nat→L2.St→Hp→Prop)(h0:Pv 0 σ0 H)(hl:∀ i σ H,i≤xs.length→Pv i σ H→bF K H a xs)
  (hs:∀ i x σ H,xs[i]?=some x→Pv i σ H→g x σ H fun σ2 H2=>tt σ2 H2 fun b H3=>if b=true then GI GJ acc g2 GK te σ2 H3 (Pv (i+1)) else Pv (i+1) σ2 H3)
  (hd:∀ σ H,Pv xs.length σ H→Q (.ref acc) H):EY (KH K a) acc g tt GJ g2 GK te σ0 H Q:=by
 refine⟨fun i m σ H=>m=xs.length-i∧i≤xs.length∧Pv i σ H,⟨xs.length,by simp,Nat.zero_le _,h0⟩,?_⟩
 rintro i m σ H ⟨rfl,hi,p⟩
 have q:=hl i σ H hi p
 by_cases hlt:i<xs.length
 ·refine .inr ⟨⟨xs,xs[i],q,by simp[hlt]⟩,Pv (i+1),fun σ' H' p'=>⟨xs.length-(i+1),by omega,rfl,hlt,p'⟩,fun x H' y=>?_⟩
  obtain⟨e,y⟩:=y
  subst e
  exact hs i x σ _ (y xs q) p
 ·have e:i=xs.length:=by omega
  subst e
  exact .inl ⟨⟨xs,q,iC _⟩,hd σ H p⟩
theorem GS{K:PySem.W.Frag}{a acc:Addr}{xs:List V}{g:TG}{tt:TT}{te:TE}{σ:L2.St}{H:Hp}{Nx:L2.St→Hp→Prop}(Pv:Nat→L2.St→Hp→Prop)(h0:Pv 0 σ H)(hl:∀ i σ H,i≤xs.length→Pv i σ H→bF K H a xs)
  (hs:∀ i x σ H,xs[i]?=some x→Pv i σ H→g x σ H fun σ2 H2=>tt σ2 H2 fun b H3=>if b=true then te σ2 H3 fun v H4=>∃ ys,H4 acc=some (.lst ys)∧ys.length<sizeLine∧Pv (i+1) σ2 (upd H4 acc (.lst (ys++[v]))) else Pv (i+1) σ2 H3)
  (hd:∀ σ H,Pv xs.length σ H→Nx σ H):∃ W:Nat→Nat→L2.St→Hp→Prop,(∃ m,W 0 m σ H)∧∀ i m σ H,W i m σ H →
  ((KH K a).stop i H∧Nx σ H)∨((KH K a).go i H∧∃ N2:L2.St→Hp→Prop,(∀ σ' H',N2 σ' H'→∃ m',m'<m∧W (i+1) m' σ' H')∧∀ x H',(KH K a).KD i H x H'→g x σ H' fun σ2 H2=>tt σ2 H2 fun b H3 =>
   if b=true then te σ2 H3 fun v H4=>∃ xs,H4 acc=some (.lst xs)∧xs.length<sizeLine∧N2 σ2 (upd H4 acc (.lst (xs++[v]))) else N2 σ2 H3):=by
 refine⟨fun i m σ H=>m=xs.length-i∧i≤xs.length∧Pv i σ H,⟨xs.length,by simp,Nat.zero_le _,h0⟩,?_⟩
 rintro i m σ H ⟨rfl,hi,p⟩
 have q:=hl i σ H hi p
 by_cases hlt:i<xs.length
 ·refine .inr ⟨⟨xs,xs[i],q,by simp[hlt]⟩,Pv (i+1),fun σ' H' p'=>⟨xs.length-(i+1),by omega,rfl,hlt,p'⟩,fun x H' y=>?_⟩
  obtain⟨e,y⟩:=y
  subst e
  exact hs i x σ _ (y xs q) p
 ·have e:i=xs.length:=by omega
  subst e
  exact .inl ⟨⟨xs,q,iC _⟩,hd σ H p⟩
end
end cZ
namespace cZ
open PySem PySem.Spec PyProof.Rows L2
open AutoSeq1 (wpAny_loadPart')
section
variable {prog:Program} {w:World} {A:Around} {E:Value→Shared→Prop} {s:Shared} {κ:Type} [DecidableEq κ] {knd:KeyKind prog w κ}
theorem JG{d:Addr}{Q:Bool→Shared→Prop}(hT:s.TypeIs (.ref d) "dict")(h:Q false s):wpAny (model prog w) A (Builtin.List.listLengthHint (.ref d)) Q E s:=by
 unfold Builtin.List.listLengthHint
 refine wpAny_bind (wpAny_specialOf hT F.slot_dict_len.lookup ?_)
 generalize hid:("dict.__len__":String)=id0
 wp_delta
 rw[show splitId id0=some ("dict","__len__") by subst hid;decide +kernel]
 subst hid
 refine wpAny_bind (wpAny_isInstance (T:="dict") (b:=true) hT (by rw[isSubtype_type];kernel_rfl) ?_)
 refine wpAny_ite_split (fun q=>absurd q (by decide)) fun _=>?_
 refine wpAny_ite_split (fun _=>?_) fun q=>absurd (by decide +kernel) q
 exact wpAny_bind (wpAny_typeOf hT (wpAny_pure h))
theorem E2{R:Result→Shared→Prop}{d:Addr}{kvs:List (κ × Value)}{ep:Nat}(hh:A.handled=none)(hs:(d == sysModules)=false)(hd:s.heap.DictAt knd d kvs ep)(hlen:kvs.length≤sizeLine)(S:Addr)(res:Value)(c₀:Nat)(hS:s.heap.get? S=some { cls:=.type "list",data:=.seq #[] c₀ })
  (hR:∀ h' tk acc' c',(∀ b o,b≠S→s.heap.get? b=some o→h'.get? b=some o)→h'.get? S=some { cls:=.type "list",dict:=none,data:=.seq acc' c',slots:=#[] } →
   ItemsOf (fun i v=>∃ k x,kvs[i]?=some (k,x)∧knd.is k v=true) acc' kvs.length→R (.ok (.ret res)) { s with heap:=h',toks:=tk }) :
  wpAny (model prog w) A.in1 (Builtin.List.listExtendWith (.ref S) (.ref d) res)
   (fun fin s'=>match fin with|.done f=>R (.ok f) s'|.again c'=>c'.quiet=true∧codeAny (model prog w) A c' R s') (fun e s'=>R (.error e) s') s:=by
 have hT:s.TypeIs (.ref d) "dict":=by
  obtain⟨o,es,ho,hx,_⟩:=hd
  exact⟨o,ho,hx.1⟩
 have hSd:S≠d:=fun e=>by
  obtain⟨o,es,ho,hx,hda,_⟩:=hd
  rw[← e,hS]at ho
  cases ho
  cases hda
 have adP:S<s.heap.objs.size:=Heap.lt_size hS
 have adQ:d<s.heap.objs.size:=by
  obtain⟨o,es,ho,_⟩:=hd
  exact Heap.lt_size ho
 have hSI:S≠s.heap.objs.size:=kQ adP
 have hdI:d≠s.heap.objs.size:=kQ adQ
 have W:=(Walks.dictKeys (prog:=prog) (w:=w) (A:=A.in1) (knd:=knd) hh s.heap.objs.size d hdI kvs ep).toS
 unfold Builtin.List.listExtendWith
 refine wpAny_bind (wpAny_typeOf hT ?_)
 have h1:Builtin.List.listSameRef (.ref S) (.ref d)=false:=by simp[Builtin.List.listSameRef,hSd]
 have h2:(Value.type "dict" == Value.type "list")=false:=by decide
 have h3:(Value.type "dict" == Value.type "tuple")=false:=by decide
 simp only[h1,h2,h3,Bool.or_false,Bool.false_eq_true,if_false]
 refine wpAny_bind (wpAny_pyIter_dict hs hd ?_)
 have hit:(s.heap.push { cls:=.type "dict_keyiterator",data:=.fields #[.ref d,.int 0 0,.int kvs.length 0,.int ep 0] }).IsKeyIter s.heap.objs.size d 0 kvs.length ep:=⟨_,Heap.get?_push_size _ rfl,rfl,rfl⟩
 have grow:∀ b o,s.heap.get? b=some o→(s.heap.push { cls:=.type "dict_keyiterator",data:=.fields #[.ref d,.int 0 0,.int kvs.length 0,.int ep 0] }).get? b=some o:=fun b o e=>Heap.get?_push_of_some _ e
 generalize s.heap.push { cls:=.type "dict_keyiterator",data:=.fields #[.ref d,.int 0 0,.int kvs.length 0,.int ep 0] }=g1 at hit grow
 have hT1:({ s with heap:=g1 }:Shared).TypeIs (.ref d) "dict":=by
  obtain⟨o,ho,hc⟩:=hT
  exact⟨o,grow _ _ ho,hc⟩
 refine wpAny_bind (wpAny_holding (JG hT1 ?_))
 refine wpAny_ite_split (fun _=>?_) fun q=>absurd (by decide +kernel) q
 refine wpAny_bind (wpAny_rule (wpAny_bind ?_))
 show wpAny _ A.in1 (updateSeq S (fun z=>z.push .none) >>= fun _=>updateSeq S fun z=>z.pop) _ _ _
 have g1S:=grow _ _ hS
 refine wpAny_bind (wpAny_updateSeq g1S rfl ?_)
 have g2S:=Heap.get?_update_self (Obj.mapSeq fun z=>z.push Value.none) g1S rfl
 refine wpAny_updateSeq (hz:=by seq_fits) g2S rfl ?_
 have g3S:=Heap.get?_update_self (Obj.mapSeq fun z=>z.pop) g2S rfl
 have JH:∀ b o,b≠S→g1.get? b=some o→((g1.update S (Obj.mapSeq fun z=>z.push Value.none)).update S (Obj.mapSeq fun z=>z.pop)).get? b=some o:=fun b o nb e =>
  (Heap.get?_update_other _ _ nb.symm).trans ((Heap.get?_update_other _ _ nb.symm).trans e)
 refine wpAny_pure ⟨plainId_quiet F.plain_extend_loop _,codeAny_extend_loopS W hlen S (fun hm=>?_) res kvs.length 0 _ #[] _ rfl (Nat.zero_le _) ⟨hit.at fun o e=>JH _ o hSI.symm e,(hd.at' fun o e=>JH _ o hSd.symm (grow _ o e))⟩ g3S (ItemsOf.nil _) fun s' acc' c' hm hS' hacc=>?_⟩
 ·rcases List.mem_cons.mp hm with e|e
  ·exact hSI e
  ·exact hSd (List.mem_singleton.mp e)
 ·rw[Moved.eq_with hm]
  refine hR s'.heap s'.toks acc' c' (fun b o nb e=>hm.heap b o (fun q=>?_) (JH b o nb (grow b o e))) hS' hacc
  rcases List.mem_cons.mp q with z|z
  ·exact nb z
  ·exact absurd (Heap.lt_size e) (by rw[List.mem_singleton.mp z];exact Nat.lt_irrefl _)
theorem zP{Q:Value→Shared→Prop}{d:Addr}{kvs:List (κ × Value)}{ep:Nat}(hh:A.handled=none)(hs:(d == sysModules)=false)(hd:s.heap.DictAt knd d kvs ep)(hlen:kvs.length≤sizeLine)
  (hQ:∀ h' tk acc' c',(∀ b o,s.heap.get? b=some o→h'.get? b=some o)→h'.get? s.heap.objs.size=some { cls:=.type "list",dict:=none,data:=.seq acc' c',slots:=#[] } →
   ItemsOf (fun i v=>∃ k x,kvs[i]?=some (k,x)∧knd.is k v=true) acc' kvs.length→Q (.ref s.heap.objs.size) { s with heap:=h',toks:=tk }) :
  wpAny (model prog w) A (call (.type "list") [.ref d]) Q E s:=by
 refine callType_codes (Q₁:=fun u s1=>u=.ref s.heap.objs.size∧s1={ s with heap:=s.heap.push { cls:=.type "list",data:=.seq #[] } }) F.called_list (F.typeCall_list_1 _) F.entry_list_init (code_list_new _ ⟨rfl,rfl⟩) fun u s1 e1=>?_
 obtain⟨rfl,rfl⟩:=e1
 have hS:(s.heap.push { cls:=.type "list",data:=.seq #[] }).get? s.heap.objs.size=some { cls:=.type "list",data:=.seq #[] }:=Heap.get?_push_size _ rfl
 have hd1:(s.heap.push { cls:=.type "list",data:=.seq #[] }).DictAt knd d kvs ep:=hd.at' fun o e=>Heap.get?_push_of_some _ e
 have hdn:d≠s.heap.objs.size:=by
  obtain⟨o,es,ho,_⟩:=hd
  exact kQ (Heap.lt_size ho)
 refine⟨⟨_,hS,rfl⟩,F.args_list_init_2 _ _,?_⟩
 show wpAny _ _ (do let old ← Builtin.List.listItems (.ref s.heap.objs.size);Builtin.List.listUpdate (.ref s.heap.objs.size) (fun _=>#[]);letGo old.toList.reverse;Builtin.List.listExtendWith (.ref s.heap.objs.size) (.ref d) .none) _ _ _
 refine wpAny_bind ?_
 unfold Builtin.List.listItems
 refine wpAny_bind (wpAny_seqItems hS rfl (wpAny_pure ?_))
 show wpAny _ _ (updateSeq s.heap.objs.size (fun _=>#[]) >>= fun _=>letGo (#[]:Array Value).toList.reverse >>= fun _=>Builtin.List.listExtendWith (.ref s.heap.objs.size) (.ref d) .none) _ _ _
 refine wpAny_bind (wpAny_updateSeq hS rfl ?_)
 have QL:=Heap.get?_update_self (Obj.mapSeq fun _=>(#[]:Array Value)) hS rfl
 have JH:∀ b o,b≠s.heap.objs.size→(s.heap.push { cls:=.type "list",data:=.seq #[] }).get? b=some o→((s.heap.push { cls:=.type "list",data:=.seq #[] }).update s.heap.objs.size (Obj.mapSeq fun _=>(#[]:Array Value))).get? b=some o:=fun b o nb e=>(Heap.get?_update_other _ _ nb.symm).trans e
 refine wpAny_bind (wpAny_letGo ?_)
 refine E2 (A:=A.in1) (knd:=knd) hh hs (hd1.at' fun o e=>JH _ o hdn e) hlen s.heap.objs.size .none _ QL fun h' tk acc' c' hk hS' hacc=>?_
 exact⟨rfl,hQ h' tk acc' c' (fun b o e=>hk b o (kQ (Heap.lt_size e)) (JH b o (kQ (Heap.lt_size e)) (Heap.get?_push_of_some _ e))) hS' hacc⟩
end
theorem GU{X:Cx}(hc:X.calm=true):nJ X (.type "list") (fun xs H Q=>∃ (d:Addr) (kvs:List (Key × V)),xs=[.ref d]∧H d=some (.dK kvs)∧∀ l,H l=none→Q (.ref l) (upd H l (.lst (kvs.map fun p=>kV p.1)))):=by
 intro pins s σ H xs us Q I r h
 obtain⟨d,kvs,rfl,hd,q⟩:=h
 obtain⟨u,rfl,rx⟩:=r.one
 cases (show u=Value.ref d from rx)
 obtain⟨hz,hs,vs,kv,o,es,ep,ho,hx⟩:=(show gj X.prog X.w H s.heap d (.dK kvs) from I.hok d _ hd)
 have len:=kv.length
 refine zP (I.ok.hd hc) hs ⟨o,es,ho,hx⟩ (by omega) fun h' tk acc' c' hk hS hacc=>?_
 refine⟨.ref s.heap.objs.size,_,I.laid (o:=.lst (kvs.map fun p=>kV p.1)) (t':=tk) hk (iC _) ⟨by rw[cO];exact hz,acc'.toList,c',?_,by simpa using hS⟩,rfl,q _ (I.hok.fresh (iC _))⟩
 have key:∀ (kvs:List (Key × V)) (vs:List (Key × Value)) (us:List Value),KV kvs vs→us.length=vs.length→(∀ (j:Nat) (v:Value),us[j]?=some v→∃ k x,vs[j]?=some (k,x)∧ze k v=true)→Vals (kvs.map fun p=>kV p.1) us:=by
  intro kvs
  induction kvs with
  | nil =>
   intro vs us kv hl _
   cases kv
   cases us with
   | nil=>exact .nil
   | cons=>simp at hl
  | cons p r ih =>
   intro vs us kv hl hp
   cases kv with
   | @cons _ q _ vs' h1 h2 =>
   cases us with
   | nil=>simp at hl
   | cons u us =>
    obtain⟨k,x,e1,e2⟩:=hp 0 u rfl
    have e3:q=(k,x):=by simpa using e1
    subst e3
    refine .cons ?_ (ih vs' us h2 (by simpa using hl) fun j v e=>?_)
    ·show L2.RelV (kV p.1) u
     rw[show p.1=k from h1.1]
     rcases eO e2 with ⟨i,t,rfl,rfl⟩|⟨i,t,rfl,rfl⟩
     ·exact⟨t,rfl⟩
     ·exact⟨t,rfl⟩
    ·obtain⟨k',x',e4,e5⟩:=hp (j+1) v (by simpa using e)
     exact⟨k',x',by simpa using e4,e5⟩
 exact key kvs vs acc'.toList kv (by simpa using hacc.1) fun j v e=>hacc.2 j v (by simpa using e)
end cZ
namespace zQ
open PySem PySem.Spec PyProof.Rows L2 cZ jd
end zQ
namespace jd
open PySem PySem.Spec PyProof.Rows L2 cZ jM zQ
inductive bK{α β:Type}(R:α→β→Prop):List α→List β→Prop
 | nil:bK R [] []
 | cons {a:α} {b:β} {as:List α} {bs:List β}:R a b→bK R as bs→bK R (a::as) (b::bs)
section
variable {α β:Type} {R R':α→β→Prop} {as:List α} {bs:List β} {a:α} {b:β}
theorem bK.len:∀ {as:List α} {bs:List β},bK R as bs→as.length=bs.length
 | _,_,.nil=>rfl
 | _,_,.cons _ t=>by rw[ny,ny,t.len]
theorem bK.get:∀ {as:List α} {bs:List β} {i:Nat},bK R as bs→as[i]?=some a→∃ b,bs[i]?=some b∧R a b
 | _,_,_,.nil,h=>by simp at h
 | _,_,0,.cons r _,h=>by simp at h;subst h;exact⟨_,rfl,r⟩
 | _,_,i+1,.cons _ t,h=>by simp at h;simpa using t.get h
theorem bK.get':∀ {as:List α} {bs:List β} {i:Nat},bK R as bs→bs[i]?=some b→∃ a,as[i]?=some a∧R a b
 | _,_,_,.nil,h=>by simp at h
 | _,_,0,.cons r _,h=>by simp at h;subst h;exact⟨_,rfl,r⟩
 | _,_,i+1,.cons _ t,h=>by simp at h;simpa using t.get' h
theorem bK.snoc:∀ {as:List α} {bs:List β},bK R as bs→R a b→bK R (as++[a]) (bs++[b])
 | _,_,.nil,h=>.cons h .nil
 | _,_,.cons r t,h=>.cons r (t.snoc h)
theorem bK.mono:∀ {as:List α} {bs:List β},(∀ a b,R a b→R' a b)→bK R as bs→bK R' as bs
 | _,_,_,.nil=>.nil
 | _,_,h,.cons r t=>.cons (h _ _ r) (t.mono h)
theorem bK.split:∀ {as:List α} {bs:List β},bK R as (bs++[b])→∃ as' a,as=as'++[a]∧bK R as' bs∧R a b
 | _,[],.cons r .nil=>⟨[],_,rfl,.nil,r⟩
 | _,c::bs,.cons r t=>by
  obtain⟨as',a,rfl,t',r'⟩:=t.split
  exact⟨_::as',a,rfl,.cons r t',r'⟩
end
inductive Item where
 | win (n:Int)
 | aH (a b:Int)
def zR:Item→List V
 | .win n=>[.str "win",.int n]
 | .aH a b=>[.str "ink",.int a,.int b]
def cy(H:Hp)(v:V)(it:Item):Prop:=∃ a,v=.ref a∧H a=some (.tup (zR it))
theorem cy.same{H H':Hp}{v:V}{it:Item}(s:aF H H'):cy H v it→cy H' v it:=fun ⟨a,e,h⟩=>⟨a,e,s _ _ h⟩
theorem cy.keep{H H':Hp}{v:V}{it:Item}{q:Addr}{xs:List V}(hq:H q=some (.lst xs))(k:cS q H H'):cy H v it→cy H' v it:=fun ⟨a,e,h⟩=>⟨a,e,k a _ h (by
 intro z
 rw[z,hq]at h
 cases h)⟩
def br(H:Hp)(v:V)(its:List Item):Prop:=∃ a vs,v=.ref a∧H a=some (.lst vs)∧bK (cy H) vs its
theorem br.same{H H':Hp}{v:V}{its:List Item}(s:aF H H'):br H v its→br H' v its:=fun ⟨a,vs,e,h,t⟩=>⟨a,vs,e,s _ _ h,t.mono fun _ _=>cy.same s⟩
def iy(H:Hp)(r:Addr)(rows:List (List Item)):Prop:=∃ vs,H r=some (.lst vs)∧bK (br H) vs rows
theorem iy.same{H H':Hp}{r:Addr}{rows:List (List Item)}(s:aF H H'):iy H r rows→iy H' r rows:=fun ⟨vs,h,t⟩=>⟨vs,s _ _ h,t.mono fun _ _=>br.same s⟩
theorem cy.eqv{H:Hp}{x y:V}{it:Item}(n:Nat)(h1:cy H x it)(h2:cy H y it):Eqv H (n+2) x y:=by
 obtain⟨a,rfl,e1⟩:=h1
 obtain⟨b,rfl,e2⟩:=h2
 refine .inr ⟨false,a,b,_,_,rfl,rfl,e1,e2,rfl,fun i u v eu ev=>?_⟩
 rw[eu]at ev
 cases ev
 cases it with
 | win n =>
  match i,eu with
  | 0,e=>cases e;exact .inl ⟨rfl,rfl⟩
  | 1,e=>cases e;exact .inl ⟨rfl,rfl⟩
  | k+2,e=>simp[zR]at e
 | aH p q =>
  match i,eu with
  | 0,e=>cases e;exact .inl ⟨rfl,rfl⟩
  | 1,e=>cases e;exact .inl ⟨rfl,rfl⟩
  | 2,e=>cases e;exact .inl ⟨rfl,rfl⟩
  | k+3,e=>simp[zR]at e
theorem br.eqv{H:Hp}{x y:V}{its:List Item}(n:Nat)(h1:br H x its)(h2:br H y its):Eqv H (n+3) x y:=by
 obtain⟨a,vs,rfl,e1,t1⟩:=h1
 obtain⟨b,us,rfl,e2,t2⟩:=h2
 refine .inr ⟨true,a,b,_,_,rfl,rfl,e1,e2,by rw[t1.len,t2.len],fun i u v eu ev=>?_⟩
 obtain⟨z,ez,r1⟩:=t1.get eu
 obtain⟨z',ez',r2⟩:=t2.get ev
 rw[ez]at ez'
 cases ez'
 exact r1.eqv n r2
def aO(t:List Item)(e:Int):List Item :=
 if e<0 then t++[.win (-1-e)] else
 match t.getLast? with
 | some (.aH a b)=>if b=e then t.dropLast++[.aH a (e+1)] else t++[.aH e (e+1)]
 | _=>t++[.aH e (e+1)]
def itemsOf(es:List Int):List Item:=es.foldl aO []
def eN(its:List Item):List Int:=its.filterMap fun it=>match it with|.win n=>some n|.aH _ _=>none
def jU(es:List Int):List Int:=es.filterMap fun e=>if e<0 then some (-1-e) else none
theorem gV(a b:List Item):eN (a++b)=eN a++eN b:=by unfold eN;rw[List.filterMap_append]
theorem JI(t:List Item)(e:Int):eN (aO t e)=eN t++(if e<0 then [-1-e] else []):=by
 unfold aO
 by_cases h:e<0
 ·rw[if_pos h,if_pos h,gV];rfl
 ·rw[if_neg h,if_neg h,nA]
  rcases sj t with rfl|⟨t',l,rfl⟩
  ·rfl
  ·rw[qv,vE]
   cases l with
   | win n=>simp[gV,eN]
   | aH a b =>
    show eN (if b=e then (t'++[Item.aH a b]).dropLast++[.aH a (e+1)] else (t'++[Item.aH a b])++[.aH e (e+1)])=_
    by_cases hb:b=e
    ·rw[if_pos hb,List.dropLast_concat,gV,gV];rfl
    ·rw[if_neg hb,gV,gV];simp[eN]
theorem JJ(es:List Int):∀ t:List Item,eN (es.foldl aO t)=eN t++jU es:=by
 induction es with
 | nil=>intro t;simp[jU]
 | cons e es ih =>
  intro t
  rw[qe,ih,JI,qw]
  unfold jU
  rw[List.filterMap_cons]
  by_cases h:e<0
  ·simp[h]
  ·simp[h]
theorem jN(es:List Int):eN (itemsOf es)=jU es:=by
 unfold itemsOf
 rw[JJ]
 rfl
theorem Ca{es:List Int}{y:Int}:y∈jU es↔0≤y∧-1-y∈es:=by
 unfold jU
 rw[List.mem_filterMap]
 constructor
 ·rintro⟨e,he,h⟩
  by_cases h0:e<0
  ·rw[if_pos h0]at h
   cases h
   exact⟨by omega,by rw[show -1-(-1-e)=e by omega];exact he⟩
  ·rw[if_neg h0]at h
   cases h
 ·rintro⟨h0,h1⟩
  refine⟨-1-y,h1,?_⟩
  rw[if_pos (by omega)]
  congr 1
  omega
theorem qC(es:List Int):∀ t:List Item,(es.foldl aO t).length≤t.length+es.length:=by
 induction es with
 | nil=>intro t;simp
 | cons e es ih =>
  intro t
  rw[qe]
  have z:=ih (aO t e)
  have z2:(aO t e).length≤t.length+1:=by
   unfold aO
   split
   ·simp
   ·split
    ·split
     ·rw[eG,List.length_dropLast,vA];omega
     ·simp
    ·simp
  rw[ny]
  omega
def Cb(rows:eF)(x y:Int):Prop:=0≤x∧∃ es,rows[x.toNat]?=some es∧y∈jU es
inductive Reach(E:Int→Int→Prop)(s:Int):Int→Prop
 | one {y:Int}:E s y→Reach E s y
 | step {y z:Int}:Reach E s y→E y z→Reach E s z
theorem Reach.closed{E:Int→Int→Prop}{s:Int}{S:Int→Prop}(h0:∀ y,E s y→S y)(h1:∀ x y,S x→E x y→S y):∀ {g:Int},Reach E s g→S g
 | _,.one h=>h0 _ h
 | _,.step r h=>h1 _ _ (Reach.closed h0 h1 r) h
def Sound(rows:eF):Prop:=∀ es∈rows,∀ y∈jU es,y<rows.length
theorem Sound.QM{rows:eF}(h:Sound rows){x y:Int}(e:Cb rows x y):0≤y∧y<rows.length:=by
 obtain⟨_,es,he,hy⟩:=e
 exact⟨(Ca.mp hy).1,h es (vB he) y hy⟩
def Walk(E:Int→Int→Prop)(s:Int)(w:List Int):Prop:=w[0]?=some s∧∀ (i:Nat) (x y:Int),w[i]?=some x→w[i+1]?=some y→E x y
theorem Walk.one(E:Int→Int→Prop)(s:Int):Walk E s [s]:=⟨rfl,fun i x y _ h=>by simp at h⟩
theorem Walk.snoc{E:Int→Int→Prop}{s e y:Int}{w:List Int}(h:Walk E s w)(hl:w.getLast?=some e)(he:E e y):Walk E s (w++[y]):=by
 obtain⟨h0,h1⟩:=h
 have hw:w≠[]:=by intro z;rw[z]at hl;cases hl
 have hpos:0<w.length:=by cases w with|nil=>exact absurd rfl hw|cons _ _=>simp
 refine⟨by rw[AY hpos];exact h0,fun i x z hx hz=>?_⟩
 by_cases c:i+1<w.length
 ·rw[AY c]at hz
  rw[AY (by omega)]at hx
  exact h1 i x z hx hz
 ·have c2:i+1=w.length:=by
   have:i+1<(w++[y]).length:=by
    rcases Nat.lt_or_ge (i+1) (w++[y]).length with q|q
    ·exact q
    ·rw[List.getElem?_eq_none q]at hz;cases hz
   rw[eG,vA]at this
   omega
  rw[c2,List.getElem?_append_right (iC _),Nat.sub_self]at hz
  rw[AY (by omega)]at hx
  rw[List.getLast?_eq_getElem?]at hl
  have:i=w.length-1:=by omega
  rw[this,hl]at hx
  cases hx
  cases hz
  exact he
theorem Walk.reach{E:Int→Int→Prop}{s:Int}{w:List Int}(h:Walk E s w):∀ (i:Nat) (y:Int),w[i+1]?=some y→Reach E s y:=by
 intro i
 induction i with
 | zero=>intro y hy;exact .one (h.2 0 s y h.1 hy)
 | succ i ih =>
  intro y hy
  have:∃ x,w[i+1]?=some x:=by
   rcases Nat.lt_or_ge (i+1) w.length with q|q
   ·exact⟨w[i+1],qM q⟩
   ·rw[List.getElem?_eq_none (by omega)]at hy;cases hy
  obtain⟨x,hx⟩:=this
  exact .step (ih x hx) (h.2 _ _ _ hx hy)
def cnt(n:Nat)(p:Nat→Bool):Nat:=((List.range n).filter p).length
theorem LJ(n:Nat){p q:Nat→Bool}(h:∀ i,i<n→p i=q i):cnt n p=cnt n q:=by
 unfold cnt
 rw[List.filter_congr fun i hi=>h i (List.mem_range.mp hi)]
theorem E3(n:Nat)(p:Nat→Bool):cnt (n+1) p=cnt n p+(if p n=true then 1 else 0):=by
 unfold cnt
 rw[List.range_succ,List.filter_append,eG]
 congr 1
 by_cases h:p n=true
 ·rw[if_pos h];simp[h]
 ·rw[if_neg h];simp[h]
theorem E4(j:Nat):∀ (n:Nat) {p q:Nat→Bool},j<n→p j=true→(∀ i,q i=(p i&&decide (i≠j)))→cnt n q+1=cnt n p
 | 0,_,_,h,_,_=>by omega
 | n+1,p,q,h,hj,hq=>by
  rw[E3,E3]
  by_cases e:j=n
  ·subst e
   have z:cnt j q=cnt j p:=LJ j fun i hi=>by
    rw[hq i]
    have:decide (i≠j)=true:=by simp;omega
    rw[this,Bool.and_true]
   have z2:q j=false:=by rw[hq j];simp
   rw[z,z2,if_pos hj]
   simp
  ·have ih:=E4 j n (p:=p) (q:=q) (by omega) hj hq
   have z:q n=p n:=by
    rw[hq n]
    have:decide (n≠j)=true:=by simp;omega
    rw[this,Bool.and_true]
   rw[z]
   omega
theorem LK(n:Nat)(p:Nat→Bool):cnt n p≤n:=by
 unfold cnt
 have:=List.length_filter_le p (List.range n)
 rw[List.length_range]at this
 exact this
def iz(av:Addr→Prop)(H:Hp)(v:V)(es:List Int):Prop:=∃ a,v=.ref a∧¬ av a∧H a=some (.lst (es.map V.int))
theorem iz.keep{av:Addr→Prop}{H H':Hp}{v:V}{es:List Int}(k:∀ a o,¬ av a→H a=some o→H' a=some o):iz av H v es→iz av H' v es:=fun ⟨a,e,n,h⟩=>⟨a,e,n,k a _ n h⟩
def Io(rows:eF):Prop:=∃ rk:Int→Nat,(∀ x,rk x≤40)∧∀ x y,Cb rows x y→rk y<rk x
theorem iz.at{av:Addr→Prop}{H:Hp}{v:V}{es:List Int}{q:Addr}(o:HO)(hq:av q):iz av H v es→iz av (upd H q o) v es:=iz.keep fun a u n e=>by
 rw[aC (fun z=>n (by rw[z];exact hq))]
 exact e
theorem iz.same{av:Addr→Prop}{H H':Hp}{v:V}{es:List Int}(s:aF H H'):iz av H v es→iz av H' v es:=iz.keep fun a u _ e=>s a u e
def seen(kvs:List (Key × V))(x:Int):Prop:=(cj kvs (Sum.inl x)).isSome=true
def miss(n:Nat)(kvs:List (Key × V)):Nat:=cnt n fun i=>(cj kvs (Sum.inl (i:Int))).isNone
theorem sN{kvs:List (Key × V)}{y x:Int}(v:V):seen (putK kvs (Sum.inl y) v) x↔x=y∨seen kvs x:=by
 unfold seen
 rw[m6]
 by_cases h:x=y
 ·rw[if_pos (by rw[h]),h];simp
 ·rw[if_neg (fun z=>h (Sum.inl.inj z))];simp[h]
theorem E5{n:Nat}{kvs:List (Key × V)}{y:Int}(v:V)(h0:0≤y)(h1:y<n)(hn:cj kvs (Sum.inl y)=none):miss n (putK kvs (Sum.inl y) v)+1=miss n kvs:=by
 refine E4 y.toNat n (by omega) ?_ fun i=>?_
 ·show (cj kvs (Sum.inl (y.toNat:Int))).isNone=true
  rw[show ((y.toNat:Nat):Int)=y by omega,hn]
  rfl
 ·show (cj (putK kvs (Sum.inl y) v) (Sum.inl (i:Int))).isNone=((cj kvs (Sum.inl (i:Int))).isNone&&decide (i≠y.toNat))
  rw[m6]
  by_cases h:(i:Int)=y
  ·rw[if_pos (by rw[h])]
   have:decide (i≠y.toNat)=false:=by simp;omega
   rw[this,Bool.and_false]
   rfl
  ·rw[if_neg (fun z=>h (Sum.inl.inj z))]
   have:decide (i≠y.toNat)=true:=by simp;omega
   rw[this,Bool.and_true]
theorem Ip(lo:Int)(n:Nat):(run lo n).length=n:=by
 induction n generalizing lo with
 | zero=>rfl
 | succ n ih=>rw[run,ny,ih]
theorem LL:∀ {n:Nat} {lo y:Int},y∈run lo n→lo≤y∧y<lo+n
 | 0,_,_,h=>by cases h
 | n+1,lo,y,h=>by
  rcases List.mem_cons.mp h with rfl|z
  ·omega
  ·have:=LL z
   omega
theorem bK.new{H2:Hp}{q t:Addr}{vs:List V}{its:List Item}{it:Item}{ys:List V}(hq2:H2 q=some (.lst ys))(hb:bK (cy H2) vs its)(ht:H2 t=none)(zs:List V) :
  bK (cy (upd (upd H2 t (.tup (zR it))) q (.lst zs))) (vs++[.ref t]) (its++[it]):=by
 have QE:q≠t:=au hq2 ht
 have s1:aF H2 (upd H2 t (.tup (zR it))):=aj ht _
 refine bK.snoc (hb.mono fun v i h=>(h.same s1).keep (s1 _ _ hq2) (aJ q _ _)) ⟨t,rfl,?_⟩
 rw[aC QE.symm,af]
end jd
namespace N1
open PySem PySem.Spec PyProof.Rows L2 cZ
section
variable {M:Model} {A:Around} {E:Value→Shared→Prop} {s:Shared}
theorem C3{a b:Value}{Q:Value→Shared→Prop}(ha:s.TypeIs a "list")(hb:s.TypeIs b "list")(hc:wpAny M A (call (.builtin "list.__iadd__") [a,b]) Q E s):wpAny M A (inplaceOp .Add a b) Q E s:=by
 unfold inplaceOp
 refine wpAny_holding ?_
 have hq:isSeqSlot (some (.builtin "list.__iadd__"))=true:=by decide +kernel
 have hfi:fillsInplaceSlot (.type "list") "add" (Operator.Add == .Add)=pure false:=by
  unfold fillsInplaceSlot
  show (typeLookup (.type "list") (dunderI "add") >>= fun fi=>pure (fi.isSome&&!isSeqSlot fi))=pure false
  rw[PySem.F.slot_list_iadd.lookup,pure_bind,hq];rfl
 have hsi:seqSlot? (.type "list") (dunderI "add")=pure (some (.builtin "list.__iadd__")):=PySem.seqSlot_of PySem.F.slot_list_iadd.lookup hq
 refine wpAny_bind (wpAny_typeOf ha (wpAny_bind (wpAny_of_eq hfi ?_)))
 show wpAny M A (if false=true then _ else _) Q E s
 rw[if_neg ue]
 refine wpAny_bind (binaryOp1_none (nm:="add") ha hb PySem.noFill_list_add ?_)
 refine wpAny_bind (wpAny_of_eq hsi ?_)
 exact wpAny_bind (wpAny_rule hc)
end
section
variable {X:Cx}
def O2:V→V→Hp→VK→Prop:=fun x y H Q=>∃ l b xs zs,x=.ref l∧y=.ref b∧H l=some (.lst xs)∧H b=some (.lst zs)∧xs.length+zs.length≤sizeLine∧Q (.ref l) (upd H l (.lst (xs++zs)))
theorem xr:WC X .Add O2:=by
 intro pins s σ H x y v u Q I rx ry h
 obtain⟨l,b,xs,zs,rfl,rfl,hH,hB,hz,q⟩:=h
 cases rx
 cases ry
 obtain⟨z,its,n,r,hl,e⟩:=I.A8 hH
 obtain⟨z2,its2,n2,r2,hl2,e2⟩:=I.A8 hB
 have hsz:its.toArray.size+its2.toArray.size≤sizeLine:=by rw[rY,rY];omega
 have Ex:¬ (!its.toArray.isEmpty&&Builtin.List.listTooLong (its.toArray.size+its2.toArray.size))=true:=by
  rw[zz hsz,Bool.and_false]
  exact ue
 refine C3 ⟨_,e,rfl⟩ ⟨_,e2,rfl⟩ ?_
 refine call_meets PySem.F.slot_list_iadd ⟨_,e,rfl⟩ PySem.F.entry_list_iadd (PySem.F.args_list_iadd_2 _ _)
  (AutoSeq1.list___iadd___list_list_0 l its.toArray n b its2.toArray n2 Ex (by rw[rY];omega) (by omega)) ⟨e,e2,?_⟩
 refine⟨.ref l,_,I.K3 (its':=its++its2) hH e (by simp) (r.append r2) ?_,rfl,q⟩
 rw[eG]
 omega
section
variable {N:List Str} {scope:Scope} {cl:List (Str × Addr)} {C:Addr} {s₀:Shared} {H₀:Hp} {ex:List Addr} {pn:List (Addr × Obj)}
theorem GV:nJ (lX X N scope cl C s₀ H₀ ex pn) (.type "list") (Qn X.K):=iK
end
theorem GW:SO X .Add O2:=fun pins s σ H x y u v Q I rx ry h=>xr pins s σ H x y u v Q I rx ry h
end
theorem N3{p q A B T:Prop} [Decidable p] [Decidable q] (w:p→(if decide q=true then A else B)→T) (h1:p∧q→A) (h2:¬ (p∧q)→B):if decide p=true then T else (if false=true then A else B):=by
 by_cases a:p
 ·rw[if_pos (decide_eq_true a)]
  by_cases b:q
  ·exact w a (by rw[if_pos (decide_eq_true b)];exact h1 ⟨a,b⟩)
  ·exact w a (by rw[decide_eq_false b,if_neg ue];exact h2 fun z=>b z.2)
 ·rw[decide_eq_false a,if_neg ue,if_neg ue]
  exact h2 fun z=>a z.1
theorem QN{p q A B T:Prop} [Decidable p] [Decidable q] (w:(if decide q=true then A else B)→T) (h1:p∧q→A) (h2:¬ (p∧q)→B):if decide p=true then T else (if false=true then A else B):=N3 (fun _=>w) h1 h2
end N1
namespace jd
open PySem PySem.Spec PyProof.Rows L2 cZ jM zQ
def oR(r:Row):Prop:=∀ p∈r,0≤p.1∧p.1≤p.2
def lF(r:Row):Prop:=∀ p∈r,0≤p.1∧p.1<p.2
theorem Cc{t:Row}{s e:Int}(h:lF t)(h0:0≤s)(h1:s<e):lF (grow t s e):=by
 have add:lF (t++[(s,e)]):=fun p hp=>by
  rcases List.mem_append.mp hp with z|z
  ·exact h p z
  ·rw[List.mem_singleton.mp z];exact⟨h0,h1⟩
 unfold grow
 rcases sj t with rfl|⟨t',l,rfl⟩
 ·exact add
 ·rw[qv]at h add ⊢
  rw[vE]
  show lF (if l.2=s then (t'++[l]).dropLast++[(l.1,e)] else t'++[l]++[(s,e)])
  by_cases c:l.2=s
  ·rw[if_pos c,List.dropLast_concat]
   intro p hp
   rcases List.mem_append.mp hp with z|z
   ·exact h p (List.mem_append_left _ z)
   ·have:=h l (by simp)
    rw[List.mem_singleton.mp z]
    exact⟨this.1,by show l.1<e;omega⟩
  ·rw[if_neg c]
   exact add
theorem qD{r:Row}(h:oR r):lF (bT r):=by
 have z:∀ (r t:Row),oR r→lF t→lF (r.foldl dG t):=by
  intro r
  induction r with
  | nil=>intro t _ g;exact g
  | cons p r ih =>
   intro t h g
   rw[qe]
   refine ih _ (fun q hq=>h q (rX _ hq)) ?_
   unfold dG
   have hp:=h p (by simp)
   by_cases c:p.1=p.2
   ·rw[if_pos c];exact g
   ·rw[if_neg c];exact Cc g hp.1 (by omega)
 exact z r [] h fun p hp=>by cases hp
theorem Cd{ns:List Int}(h:∀ x∈ns,0≤x):lF (rowOf ns):=by
 have z:∀ (ns:List Int) (t:Row),(∀ x∈ns,0≤x)→lF t→lF (ns.foldl (fun t n=>grow t n (n+1)) t):=by
  intro ns
  induction ns with
  | nil=>intro t _ g;exact g
  | cons n ns ih =>
   intro t h g
   rw[qe]
   exact ih _ (fun x hx=>h x (rX _ hx)) (Cc g (h n (by simp)) (by omega))
 exact z ns [] h fun p hp=>by cases hp
theorem lF.nn{r:Row}(h:lF r):oR r:=fun p hp=>⟨(h p hp).1,by have:=(h p hp).2;omega⟩
theorem zS(a b:Int):∀ (r:Row) (h:Int),oR r→oR (nK a b h r)
 | [],_,_=>fun p hp=>by cases hp
 | q::r,h,g=>by
  intro p hp
  rw[nK]at hp
  rcases List.mem_append.mp hp with z|z
  ·have gq:=g q (by simp)
   refine⟨?_,LD a b h q p z⟩
   unfold LC at z
   split at z
   ·rw[List.mem_singleton.mp z]
    show 0≤q.1+max (a-h) 0
    omega
   ·cases z
  ·exact zS a b r _ (fun x hx=>g x (rX _ hx)) p z
end jd
namespace N4
open PySem PySem.Spec PyProof.Rows L2 cZ
end N4
namespace jd
open PySem PySem.Spec PyProof.Rows L2 cZ jM zQ N4
end jd
namespace jd
open PySem PySem.Spec PyProof.Rows L2 cZ jM zQ N4
theorem Iq:∀ {n:Nat} {s x:Int},x∈run s n↔s≤x∧x<s+n
 | 0,s,x=>by simp[run]
 | n+1,s,x=>by
  rw[run,List.mem_cons,Iq]
  omega
def Ris(r:Row):Prop:=r.Pairwise (fun p q=>p.2<q.1)∧∀ p∈r,p.1<p.2
end jd
namespace jd
open PySem PySem.Spec PyProof.Rows L2 cZ jM zQ N4
end jd
namespace jd
open PySem PySem.Spec PyProof.Rows L2 cZ jM zQ N1
structure aQ(K:PySem.W.Frag)(C:Addr)(m qual:Str)(st:Stmt)(ps:List Str)(a:Addr)(d:FuncData):Prop where
 F:iD K m qual st a d
 b:Binds K d ps []
 mt:Meth K C m a
structure ClsAt(K:PySem.W.Frag)(mg:Str→Option Value)(x:Str)(C fi:Addr):Prop where
 cl:Bw K C
 m:mg x=some (.ref C)
 RQ:Mk K C fi
structure C4(K:PySem.W.Frag)(mg:Str→Option Value)(x:Str)(C:Addr):Prop where
 m:mg x=some (.ref C)
 x:PySem.W.excIn K C [.type "ValueError",.type "Exception",.type "BaseException",.type "object"] "ValueError.__new__"=true
 h:PySem.W.exmOne K (.ref C) (.ref C)=some true
end jd
namespace jd
open PySem L2 cZ jM
section
variable {K:PySem.W.Frag} {mg:Str→Option Value} {h:Heap} {x qual:Str} {st:Stmt} {f C:Addr} {ps:List Str}
theorem DI.d(q:DI K x st f)(X:K.In h)(G:h.Ns mainGlobals mg)(b:∀ (kV doc pm:Value) (an:Option Addr) (cdv ct:Value) (us:List Value),us.length=ps.length→bindArgs (PySem.W.fnOf x x (pK st) (lg st) (az st) .none kV doc pm an cdv ct) ⟨us,[]⟩=pure (ps.zip us)):∃ fd,ay K mg x st ps f fd:=by
 obtain⟨a,l,c,k⟩:=q
 have F:=GA l c k
 exact⟨_,F,F.binds b,PySem.W.mg_of X G a⟩
theorem MI.d(q:MI K C x qual st f)(b:∀ (kV doc pm:Value) (an:Option Addr) (cdv ct:Value) (us:List Value),us.length=ps.length→bindArgs (PySem.W.fnOf x qual (pK st) (lg st) (az st) .none kV doc pm an cdv ct) ⟨us,[]⟩=pure (ps.zip us)):∃ fd,aQ K C x qual st ps f fd:=by
 obtain⟨a,i,l,c,k⟩:=q
 have F:=GA l c k
 exact⟨_,F,F.binds b,⟨a,i,k⟩⟩
theorem CI.d{fi:Addr}(q:CI K x C)(X:K.In h)(G:h.Ns mainGlobals mg)(m:Meth K C "__init__" fi):ClsAt K mg x C fi:=by
 obtain⟨a,pg,hd,po,sa,mk,kc⟩:=q
 obtain⟨a1,i1,k1⟩:=m
 exact⟨⟨pg,hd,po,sa⟩,PySem.W.mg_of X G a,⟨mk,a1,i1,kc⟩⟩
theorem XI.d(q:XI K x C)(X:K.In h)(G:h.Ns mainGlobals mg):C4 K mg x C:=by
 obtain⟨a,b,c⟩:=q
 exact⟨PySem.W.mg_of X G a,b,c⟩
end
section
variable {p:List Value→Prop}
theorem us0(h:p []):∀ us:List Value,us.length=0→p us:=fun us e=>by rw[List.length_eq_zero_iff.mp e];exact h
theorem xu(h:∀ a,p [a]):∀ us:List Value,us.length=1→p us
 | [a],_=>h a
theorem tY(h:∀ a b,p [a,b]):∀ us:List Value,us.length=2→p us
 | [a,b],_=>h a b
theorem Ir(h:∀ a b c,p [a,b,c]):∀ us:List Value,us.length=3→p us
 | [a,b,c],_=>h a b c
theorem QO(h:∀ a b c d,p [a,b,c,d]):∀ us:List Value,us.length=4→p us
 | [a,b,c,d],_=>h a b c d
theorem us6(h:∀ a b c d e f,p [a,b,c,d,e,f]):∀ us:List Value,us.length=6→p us
 | [a,b,c,d,e,f],_=>h a b c d e f
end
end jd
namespace cZ
open PySem PySem.Spec PyProof.Rows L2
theorem zT{α β:Type}{F:α→β→Prop}:∀ {xs:List α} {ys:List β} {i:Nat} {x:α},Paired F xs ys→xs[i]?=some x→∃ y,ys[i]?=some y∧F x y
 | _,_,_,_,.nil,e=>by simp at e
 | _,_,0,_,.cons r _,e=>by simp at e;subst e;exact⟨_,rfl,r⟩
 | _,_,i+1,x,.cons _ t,e=>by
  obtain⟨y,h1,h2⟩:=zT (i:=i) (x:=x) t (by simpa using e)
  exact⟨y,by simpa using h1,h2⟩
theorem yi{α β:Type}{F:α→β→Prop}:∀ {xs:List α} {ys:List β} {i:Nat} {y:β},Paired F xs ys→ys[i]?=some y→∃ x,xs[i]?=some x∧F x y
 | _,_,_,_,.nil,e=>by simp at e
 | _,_,0,_,.cons r _,e=>by simp at e;subst e;exact⟨_,rfl,r⟩
 | _,_,i+1,y,.cons _ t,e=>by
  obtain⟨x,h1,h2⟩:=yi (i:=i) (y:=y) t (by simpa using e)
  exact⟨x,by simpa using h1,h2⟩
end cZ
namespace cZ
open PySem PySem.Spec PyProof.Rows L2 jd zQ
def QS(td ty tx:TE):TE:=fun σ H Q=>td σ H fun x H1=>∃ a,x=.ref a∧IsD H1 a∧ty σ H1 fun y H2=>tx σ H2 fun z H3=>∃ kvs k,H3 a=some (.dK kvs)∧y=kV k∧kvs.length<sizeLine ∧
 (∀ v,cj kvs k=some v→Q v H3)∧(cj kvs k=none→Q z (upd H3 a (.dK (putK kvs k z))))
theorem LN{X:Cx}{o e f:Expr}{apos cpos:Pos}{td ty tx:TE}(ho:PE X o td)(he:PE X e ty)(hf:PE X f tx)(m:M2 X o "setdefault" apos e f cpos):PE X (.Call (.Attribute o "setdefault" apos) [e,f] [] cpos) (QS td ty tx):=by
 intro pins s σ H Q I h
 refine wpAny_Call_method m.base m.few m.line PySem.F.plainAttrs_dict PySem.F.slot_dict_setdefault PySem.F.type_dict_setdefault (cz (ho pins s σ H _ I h) fun u s1 ⟨x,H1,I1,rx,a,ex,d,q1⟩=>?_)
 subst ex
 obtain rfl:u=Value.ref a:=rx
 obtain⟨t1,t2,_⟩:=QK I1 d
 refine⟨t1,t2,?_⟩
 rw[m.trees]
 refine Calls.callWith_builtin rfl (Calls.evalArgs_plain (Calls.spliced_cons (cz (he pins s1 σ H1 _ I1 q1) fun iv s2 ⟨y,H2,I2,ry,q2⟩ =>
  Calls.spliced_cons (cz (hf pins s2 σ H2 _ I2 q2) fun fv s3 ⟨z,H3,I3,rz,kvs,k,ea,ey,hlen,g1,g2⟩=>Calls.spliced_nil ?_))))
 subst ey
 obtain⟨hz,hd,vs,rel,dd⟩:=LF I3.hok ea
 have len:=rel.length
 refine call_meetsIn PySem.F.slot_dict_setdefault dd.typeIs PySem.F.entry_dict_setdefault (PySem.F.args_dict_setdefault_3 _ _ _) (kt_meets_setdefault (gh X.prog X.w) a (BX ry) hd fv) ⟨vs,dd,by omega,fun v hv=>?_,fun hn h' MQ hs=>?_⟩
 ·have r:=rel.val k
  rw[hv]at r
  cases ev:cj kvs k with
  | none=>rw[ev]at r;exact (show False from r).elim
  | some w =>
   rw[ev]at r
   exact⟨w,H3,I3.tok _,r,g1 w ev⟩
 ·have r:=rel.val k
  rw[hn]at r
  cases ev:cj kvs k with
  | some w=>rw[ev]at r;exact (show False from r).elim
  | none =>
   have hl:(putK kvs k z).length≤sizeLine:=by have:=jw kvs k z;omega
   have he':∃ q,h'.get? a=some q:=let ⟨q,_,_,hq,_⟩:=MQ;⟨q,hq⟩
   exact⟨z,_,yR I3 (by rw[ea];exact True.intro) hs he' (GP hl hd (rel.put k rz) MQ),rz,g2 ev⟩
end cZ
namespace cZ
open PySem PySem.Spec PyProof.Rows L2
end cZ
namespace cZ
open PySem PySem.Spec PyProof.Rows L2 jd zQ
end cZ
namespace jM
open PySem PySem.Spec PyProof.Rows PySem.W L2
end jM
namespace cZ
open PySem PySem.Spec PyProof.Rows L2 jM
def E6(c:Nat):V:=.str ⟨#[c]⟩
def txt(cs:List Nat):Str:=⟨cs.toArray⟩
theorem C5(x:Str):txt x.cps.toList=x:=by cases x;rfl
theorem qX(cs:List Nat):(txt cs).length=cs.length:=by show (cs.toArray).size=_;simp
theorem N5{a b:List Nat}(h:txt a=txt b):a=b:=by
 have e:=congrArg (fun x:Str=>x.cps.toList) h
 simpa [txt] using e
theorem Iu:∀ {cs:List Nat} {us:List Value},Vals (cs.map E6) us→StrsAre us (cs.map fun c=>(⟨#[c]⟩:Str))
 | [],_,.nil=>.nil
 | c::cs,_,.cons ⟨t,e⟩ r=>by
  subst e
  exact .cons _ t (Iu r)
theorem GX(cs:List Nat):Txt.join (Str.ofString "") (cs.map fun c=>(⟨#[c]⟩:Str))=txt cs:=by
 have e:Txt.join (Str.ofString "") (cs.map fun c=>(⟨#[c]⟩:Str))=Str.join (Str.ofString "") (cs.map fun c=>(⟨#[c]⟩:Str)):=by
  have z:=join_plain_closes (Str.ofString "") (cs.map fun c=>(⟨#[c]⟩:Str))
  exact beq_iff_eq.mp z
 rw[e]
 have em:(Str.ofString "")=(⟨#[]⟩:Str):=by decide +kernel
 rw[em]
 clear e em
 induction cs with
 | nil=>rfl
 | cons c cs ih =>
  cases cs with
  | nil=>rfl
  | cons d cs =>
   rw[lU]at ih
   have s:Str.join ⟨#[]⟩ ((c::d::cs).map fun c=>(⟨#[c]⟩:Str))=Str.append (Str.append ⟨#[c]⟩ ⟨#[]⟩) (Str.join ⟨#[]⟩ ((⟨#[d]⟩:Str)::cs.map fun c=>(⟨#[c]⟩:Str))):=rfl
   rw[s,ih]
   show (⟨(#[c]++#[])++(d::cs).toArray⟩:Str)=⟨(c::d::cs).toArray⟩
   simp
theorem Ce:∀ cs:List Nat,(cs.map ((fun x:Str=>x.length) ∘ fun c=>(⟨#[c]⟩:Str))).sum=cs.length
 | []=>rfl
 | c::cs=>by rw[lU,List.sum_cons,Ce cs,ny];show 1+_=_;omega
theorem all_range:∀ bs:List Bool,(List.range bs.length).all (fun i=>bs.getD i false)=bs.all id
 | []=>rfl
 | b::bs=>by
  rw[ny,List.range_succ_eq_map,List.all_cons,List.all_map,List.all_cons,← all_range bs]
  rfl
section
variable {X:Cx}
theorem Bb(hc:X.calm=true):nJ X (.type "list") (fun xs H Q=>∃ cs:List Nat,xs=[.str (txt cs)]∧cs.length≤sizeLine∧∀ l,H l=none→Q (.ref l) (upd H l (.lst (cs.map E6)))):=by
 intro pins s σ H xs us Q I r h
 obtain⟨cs,rfl,hz,q⟩:=h
 obtain⟨u,rfl,t,rfl⟩:=r.one
 refine call_list_str (I.ok.hd hc) (txt cs) t (hn:=by show cs.toArray.size≤_;simpa using hz) fun h' tk acc' c' hk hS hacc=>?_
 refine⟨.ref s.heap.objs.size,_,I.laid (o:=.lst (cs.map E6)) (t':=tk) hk (iC _) ⟨by rw[cO];exact hz,acc'.toList,c',?_,by simpa using hS⟩,rfl,q _ (I.hok.fresh (iC _))⟩
 have key:∀ (cs:List Nat) (us:List Value),us.length=cs.length→(∀ (j:Nat) (v:Value),us[j]?=some v→∃ c u,cs[j]?=some c∧v=Value.str ⟨#[c]⟩ u)→Vals (cs.map E6) us:=by
  intro cs
  induction cs with
  | nil=>intro us hl _;cases us with
   | nil=>exact .nil
   | cons=>simp at hl
  | cons c cs ih=>intro us hl hp;cases us with
   | nil=>simp at hl
   | cons u us =>
    obtain⟨c',t',e1,e2⟩:=hp 0 u rfl
    refine .cons ?_ (ih us (by simpa using hl) fun j v e=>by simpa using hp (j+1) v (by simpa using e))
    have:c=c':=by simpa using e1
    subst this
    exact⟨t',e2⟩
 refine key cs acc'.toList (by have:=hacc.1;simpa [txt] using this) fun j v e=>?_
 obtain⟨c,u,e1,e2⟩:=hacc.2 j v (by simpa using e)
 exact⟨c,u,by simpa [txt] using e1,e2⟩
theorem LO:RM X "str.join" (fun x xs H Q=>∃ (l:Addr) (cs:List Nat),x=.str (Str.ofString "")∧xs=[.ref l]∧H l=some (.lst (cs.map E6))∧cs.length≤1000000∧Q (.str (txt cs)) H):=by
 intro pins s σ H x xs v us Q I rx rs h
 obtain⟨l,cs,rfl,rfl,hl,hz,q⟩:=h
 obtain⟨t,rfl⟩:=rx
 obtain⟨u,rfl,ru⟩:=rs.one
 cases (show u=Value.ref l from ru)
 obtain⟨its,rv,pl,_⟩:=I.list (bF.of (K:=X.K) hl)
 refine join_list pl.isList (Iu rv) ?_ fun t' k=>?_
 ·rw[List.map_map]
  have e1:(Str.ofString "").length=0:=by decide +kernel
  have e2:=Ce cs
  rw[e1,e2]
  omega
 ·rw[GX]
  exact⟨.str (txt cs),H,I.tok _,⟨t',rfl⟩,q⟩
theorem JK(hc:X.calm=true):nJ X (.builtin "all") (fun xs H Q=>∃ (p:Addr) (bs:List Bool),xs=[.ref p]∧bF X.K H p (bs.map V.bl)∧Q (.bl (bs.all id)) H):=by
 intro pins s σ H xs us Q I r h
 obtain⟨p,bs,rfl,hq,q⟩:=h
 obtain⟨u,rfl,rx⟩:=r.one
 cases (show u=Value.ref p from rx)
 obtain⟨its,rv,pl,hz⟩:=I.list hq
 have len:=rv.length
 rw[cO]at len
 have hpl:=pl.isList
 have plt:p<s.heap.objs.size:=by
  obtain⟨o,ho,_⟩:=hpl
  exact Heap.lt_size ho
 refine call_all_walk (wpAny_pyIter_list hpl ?_)
 refine⟨s.heap.objs.size,[s.heap.objs.size,p],[s.heap.objs.size],its.toArray.size,_,_,fun i=>bs.getD i false,rfl,Walks.list (A:=X.A.in1) (I.ok.hd hc) s.heap.objs.size p (kQ plt) its.toArray,⟨⟨_,Heap.get?_push_size _ rfl,rfl,rfl⟩,hpl.at fun o e=>Heap.get?_push_of_some _ e⟩,fun i v s' Q' E' hP hQ=>?_,fun h' tk hk=>?_⟩
 ·have hv:its[i]?=some v:=by simpa using hP
  obtain⟨x,ex,er⟩:=yi rv hv
  rw[kM]at ex
  obtain⟨b,eb,rfl⟩:=Option.map_eq_some_iff.mp ex
  cases (show v=Value.bool b from er)
  refine wpAny_truthy_bool ?_
  have e:bs.getD i false=b:=by rw[List.getD_eq_getElem?_getD,eb];rfl
  have hQ':Q' (bs.getD i false) s':=hQ
  rw[e]at hQ'
  exact hQ'
 ·have e:(List.range its.toArray.size).all (fun i=>bs.getD i false)=bs.all id:=by
   rw[rY,← len]
   exact all_range bs
  rw[e]
  exact⟨.bl (bs.all id),H,I.kept fun b o e=>hk b o (fun z=>by rw[List.mem_singleton.mp z]at e;exact absurd (Heap.lt_size e) (Nat.lt_irrefl _)) (Heap.get?_push_of_some _ e),rfl,q⟩
def LP(r r' r2:R2)(ta tb tc td:TE):TE:=fun σ H Q=>ta σ H fun x H1=>tb σ H1 fun y H2=>r x y H2 fun z H3=>∃ k,z=.bl k ∧
 (if k=true then tc σ H3 fun u H4=>r' y u H4 fun z' H5=>∃ k',z'=.bl k'∧(if k'=true then td σ H5 fun v H6=>r2 u v H6 Q else Q (.bl false) H5) else Q (.bl false) H3)
theorem JL{op op' QG:CmpOp}{r r' r2:R2}{a b c d:Expr}{ta tb tc td:TE}{pos:Pos}(ho:wJ X (compareOp op) r)(ho':wJ X (compareOp op') r')(ho2:wJ X (compareOp QG) r2)(ha:PE X a ta)(hb:PE X b tb)(hc:PE X c tc)(hd:PE X d td)
  (hm:lastMarks [op,op',QG] [b,c,d]=false:=by with_unfolding_all rfl):PE X (.Compare a [op,op',QG] [b,c,d] pos) (LP r r' r2 ta tb tc td):=by
 intro pins s σ H Q I h
 refine Compare_chain (cz (ha pins s σ H _ I h) fun v s1 ⟨x,H1,I1,r1,q1⟩=>chain_link (cz (hb pins s1 σ H1 _ I1 q1) fun u s2 ⟨y,H2,I2,r2',q2⟩ =>
  cz (ho pins s2 σ H2 x y v u _ I2 r1 r2' q2) fun z s3 ⟨z',H3,I3,r3,k,e,q3⟩=>?_)) hm
 subst e
 cases r3
 refine wpAny_truthy_bool ?_
 cases k with
 | false=>exact ite_ff ⟨.bl false,H3,I3,rfl,q3⟩
 | true =>
  refine ite_tt (chain_link (cz (hc pins s3 σ H3 _ I3 q3) fun v4 s4 ⟨x4,H4,I4,r4,q4⟩=>cz (ho' pins s4 σ H4 y x4 u v4 _ I4 r2' r4 q4) fun z5 s5 ⟨x5,H5,I5,r5,k5,e5,q5⟩=>?_))
  subst e5
  cases r5
  refine wpAny_truthy_bool ?_
  cases k5 with
  | false=>exact ite_ff ⟨.bl false,H5,I5,rfl,q5⟩
  | true=>exact ite_tt (chain_last (cz (hd pins s5 σ H5 _ I5 q5) fun v6 s6 ⟨x6,H6,I6,r6,q6⟩=>ho2 pins s6 σ H6 x4 x6 v4 v6 Q I6 r4 r6 q6))
end
def Its(cs:List Nat):It:=⟨fun i _=>i<cs.length,fun i H x H'=>H'=H∧∃ c,cs[i]?=some c∧x=E6 c,fun i _=>i=cs.length⟩
theorem E7{P:Program}{w:World}{K:PySem.W.Frag}{tg:Expr}{it:Addr}{cs:List Nat}{t:Tok}{ty:String}(W:∀ A':Around,A'.handled=none→Walks P w A' it [it] [it] (txt cs).cps.size (SignAt (txt cs)) (fun i h=>h.IsStrIter it ty (txt cs) t i))
  (hs:∀ (A:Around) (i:Nat) (s:Shared) (Q:Value→Shared→Prop) (E:Value→Shared→Prop),s.heap.IsStrIter it ty (txt cs) t i→Q (.ref it) s→wpAny (model P w) A (pyIter (.ref it)) Q E s)
  (hn:["enumerate","zip","dict_itemiterator","dict_reverseitemiterator","odict_iterator","itertools.zip_longest","itertools.pairwise"].contains ty=false):Turn P w K tg (Its cs) [it] it (fun i h=>h.IsStrIter it ty (txt cs) t i) where
 mem:=by simp
 obj:=fun i h st b hb=>by
  have e:b=it:=by simpa using hb
  subst e
  obtain⟨o,e,c,d⟩:=st
  exact⟨o,e,fun v z=>by rw[d]at z;cases z⟩
 keep:=fun i h h' st k=>by
  obtain⟨o,e,r⟩:=st
  exact⟨o,k it (by simp) o e,r⟩
 item:=by
  intro X hP hw hK hc i pins s σ H E I hf st hg
  subst hP hw hK
  obtain⟨f0,f1,f2,f3,f4,f5⟩:=hf it (by simp)
  have hi:i<(txt cs).cps.size:=by
   show i<cs.toArray.size
   rw[rY]
   exact hg
  refine (W X.A (I.ok.hd hc)).item i s _ _ hi st fun v h' tk hv st' kk=>?_
  obtain⟨c,u,ec,rfl⟩:=hv
  have I1:Inv X pins σ H { s with heap:=h',toks:=tk }:=I.turned (fun b o hb e=>kk b o (by simpa using hb) e) f0 f1 f3 f4 f5
  obtain⟨oi,ei,ci,di⟩:=id st'
  exact⟨_,rfl,HK (s:={ s with heap:=h',toks:=tk }) ei ci di hn ⟨E6 c,H,I1,⟨u,rfl⟩,⟨rfl,c,by simpa [txt] using ec,rfl⟩,st',fun b hb=>(hf b hb).1⟩⟩
 done:=by
  intro X hP hw hK hc i pins s σ H E I hf st hg
  subst hP hw hK
  obtain⟨f0,f1,f2,f3,f4,f5⟩:=hf it (by simp)
  have e:i=(txt cs).cps.size:=by
   show i=cs.toArray.size
   rw[rY]
   exact hg
  rw[e]at st
  exact (W X.A (I.ok.hd hc)).done s _ _ st fun h' tk kk=>⟨rfl,I.turned (fun b o hb e=>kk b o (by simpa using hb) e) f0 f1 f3 f4 f5⟩
 self:=hs
def adS(tl:TE):TI:=fun σ H R=>tl σ H fun x H1=>∃ cs,x=.str (txt cs)∧R (Its cs) H1
theorem QT{X:Cx}{tg l:Expr}{tl:TE}(hl:PE X l tl):PI X tg l (adS tl):=by
 intro pins s σ H R I h
 refine cz (hl pins s σ H _ I h) fun v s1 ⟨x,H1,I1,r1,q1⟩=>?_
 obtain⟨cs,e,q⟩:=q1
 subst e
 obtain⟨t,rfl⟩:=r1
 have fp:∀ b∈[s1.heap.objs.size],pF X pins H1 b:=fun b hb=>by
  have e:b=s1.heap.objs.size:=by simpa using hb
  subst e
  exact I1.KG (iC _) (I1.hok.fresh (iC _))
 cases ha:(txt cs).cps.all (·<128) with
 | true=>exact wpAny_pyIter_ascii ha ⟨s1.heap.objs.size,[s1.heap.objs.size],_,_,H1,rfl,I1.kept (t':=s1.toks) fun b o e=>Heap.get?_push_of_some _ e,E7 (t:=t) (fun A' hA=>Walks.strAscii hA _ _ t) (fun _ _ _ _ _ st h=>wpAny_pyIter_striter_ascii st h) (by decide),⟨_,Heap.get?_push_size _ rfl,rfl,rfl⟩,fp,q⟩
 | false=>exact wpAny_pyIter_wide ha ⟨s1.heap.objs.size,[s1.heap.objs.size],_,_,H1,rfl,I1.kept (t':=s1.toks) fun b o e=>Heap.get?_push_of_some _ e,E7 (t:=t) (fun A' hA=>Walks.strWide hA _ _ t) (fun _ _ _ _ _ st h=>wpAny_pyIter_striter_wide st h) (by decide),⟨_,Heap.get?_push_size _ rfl,rfl,rfl⟩,fp,q⟩
theorem JM{cs:List Nat}{acc:Addr}{g:TG}{tt:TT}{te:TE}{σ0:L2.St}{H:Hp}{Q:VK}(Pv:Nat→L2.St→Hp→Prop)(h0:Pv 0 σ0 H)
  (hs:∀ (i:Nat) c σ H,cs[i]?=some c→Pv i σ H→g (E6 c) σ H fun σ2 H2=>tt σ2 H2 fun b H3=>if b=true then te σ2 H3 fun v H4=>∃ ys,H4 acc=some (.lst ys)∧ys.length<sizeLine∧Pv (i+1) σ2 (upd H4 acc (.lst (ys++[v]))) else Pv (i+1) σ2 H3)
  (hd:∀ σ H,Pv cs.length σ H→Q (.ref acc) H):yS (Its cs) acc g tt te σ0 H Q:=by
 refine⟨fun i m σ H=>m=cs.length-i∧i≤cs.length∧Pv i σ H,⟨cs.length,by simp,Nat.zero_le _,h0⟩,?_⟩
 rintro i m σ H ⟨rfl,hi,p⟩
 by_cases hlt:i<cs.length
 ·refine .inr ⟨hlt,Pv (i+1),fun σ' H' p'=>⟨cs.length-(i+1),by omega,rfl,hlt,p'⟩,fun x H' y=>?_⟩
  obtain⟨e,c,y,ex⟩:=y
  subst e ex
  exact hs i c σ _ y p
 ·have e:i=cs.length:=by omega
  subst e
  exact .inl ⟨rfl,hd σ H p⟩
end cZ
namespace cZ
open PySem PySem.Spec PyProof.Rows L2 jM jd
section
variable {X:Cx}
theorem C6(a b:List Nat):txt a++txt b=txt (a++b):=by
 show (⟨a.toArray++b.toArray⟩:Str)=⟨(a++b).toArray⟩
 simp
end
end cZ
namespace uU
open PySem
end uU
namespace uU
open PySem PySem.Spec PyProof.Rows
end uU
namespace uU
open PySem PySem.Spec PyProof.Rows
end uU
namespace uU
open PySem PySem.Spec PyProof.Rows
end uU
namespace uU
open PySem PySem.Spec PyProof.Rows
end uU
namespace uU
open PySem PySem.Spec PyProof.Rows
end uU
namespace uU
open PySem PySem.Spec PyProof.Rows
end uU
namespace uU
open PySem PySem.Spec PyProof.Rows L2
end uU
namespace jO
open PySem PySem.Spec PyProof.Rows L2 cZ PySem.Builtin PySem.Builtin.Str
theorem vU(cs:List Nat):(txt cs).cps.toList=cs:=by simp[txt]
def jn(c:Nat):l6→List Nat
 | []=>[]
 | [x]=>x
 | x::y::r=>x++c::jn c (y::r)
theorem LQ(c:Nat):∀ ps:l6,Str.join ⟨#[c]⟩ (ps.map txt)=txt (jn c ps)
 | []=>rfl
 | [x]=>rfl
 | x::y::r=>by
  show txt x++⟨#[c]⟩++Str.join ⟨#[c]⟩ ((y::r).map txt)=_
  rw[LQ c (y::r)]
  refine ext_toList ?_
  rw[vU]
  show ((txt x).cps++#[c]++(txt (jn c (y::r))).cps).toList=_
  rw[Array.toList_append,Array.toList_append,vU,vU]
  simp[jn]
end jO
namespace jO
open PySem PySem.Spec PyProof.Rows L2 cZ PySem.Builtin PySem.Builtin.Str
section
variable {X:Cx}
theorem Cf:∀ {ys:List Str} {us:List Value},Vals (ys.map V.str) us→StrsAre us ys
 | [],_,.nil=>.nil
 | _::_,_,.cons r t=>by
  obtain⟨t',rfl⟩:=r
  exact .cons _ t' (Cf t)
theorem E8:RM X "str.join" (fun x xs H Q=>∃ (l:Addr) (c:Nat) (ps:l6),x=.str ⟨#[c]⟩∧xs=[.ref l]∧H l=some (.lst (ps.map fun w=>V.str (txt w)))∧(ps.map List.length).sum+ps.length≤1000000∧Q (.str (txt (jn c ps))) H):=by
 intro pins s σ H x xs v us Q I rx rs h
 obtain⟨l,c,ps,rfl,rfl,hl,hz,q⟩:=h
 obtain⟨t,rfl⟩:=rx
 obtain⟨u,rfl,ru⟩:=rs.one
 cases (show u=Value.ref l from ru)
 obtain⟨its,rv,pl,_⟩:=I.list (bF.of (K:=X.K) hl)
 have rv':Vals ((ps.map txt).map V.str) its:=by rw[List.map_map];exact rv
 refine join_list pl.isList (Cf rv') ?_ fun t' k=>?_
 ·rw[List.map_map,cO]
  have e1:(⟨#[c]⟩:Str).length=1:=rfl
  have e2:ps.map ((fun x:Str=>x.length) ∘ txt)=ps.map List.length:=List.map_congr_left fun p _=>qX p
  rw[e1,e2]
  omega
 ·have e:Txt.join ⟨#[c]⟩ (ps.map txt)=txt (jn c ps):=by
   show glued _ _=_
   rw[StrLaws.glued_eq_join,LQ]
  rw[e]
  exact⟨.str (txt (jn c ps)),H,I.tok _,⟨t',rfl⟩,q⟩
abbrev VJ:=L2.St→Hp→Str→(Str→Hp→Prop)→Prop
def RS(X:Cx)(es:List Expr)(m:Nat)(t:VJ):Prop:=∀ (pins:List (Addr × Obj)) (s:Shared) (σ:L2.St) (H:Hp) (out:Str) (Q:Str→Hp→Prop),L2.Inv X pins σ H s→t σ H out Q→out.length+m≤1000000 →
 wpAny (model X.prog X.w) X.A (joinParts out (evalEach es X.env)) (fun u s'=>∃ x tk H',u=.str x tk∧L2.Inv X pins σ H' s'∧Q x H') X.xe s
theorem N6:RS X [] 0 (fun _ H out Q=>Q out H):=fun pins s σ H out Q I h hl =>
 joinParts_nil ⟨out,_,H,rfl,I.tok _,h⟩ (jI (Nat.lt_of_le_of_lt hl (by decide)))
theorem N7{x:Str}{j:Nat}{pos:Pos}{es:List Expr}{m:Nat}{t:VJ}(h:RS X es m t):RS X (.Constant (.str x) j pos::es) (x.length+m) (fun σ H out Q=>t σ H (out++x) Q):=by
 intro pins s σ H out Q I q hl
 refine joinParts_consE (joinParts_cons (Calls.Constant_str ?_))
 have z:=jM.yQ (y:=x) hl (iC _)
 exact⟨z.1,h pins _ σ H _ Q (I.tok _) q z.2⟩
theorem Iv{e:Expr}{te:TE}{pos:Pos}{es:List Expr}{m:Nat}{t:VJ}(he:PE X e te)(h:RS X es m t):RS X (.FormattedValue e (-1) none pos::es) (1921+m) (fun σ H out Q=>te σ H fun v H1=>∃ i:Int,v=.int i∧i.natAbs.log2<1920∧t σ H1 (out++Str.ofString (toString i)) Q):=by
 intro pins s σ H out Q I q hl
 refine joinParts_consE (joinParts_cons (FormattedValue_plain (cz (he pins s σ H _ I q) fun v s1 ⟨x,H1,I1,r1,i,e1,hi,q1⟩=>?_)))
 subst e1
 obtain⟨tk,rfl⟩:=r1
 refine formatField_int_small hi ?_
 have z:=jM.yQ (y:=Str.ofString (toString i)) hl (int_text_len_1921 hi)
 exact⟨z.1,h pins _ σ H1 _ Q (I1.tok _) q1 z.2⟩
theorem LR{v1 v2:Expr}{rest:List Expr}{pos:Pos}{m:Nat}{t:VJ}(h:RS X (v1::v2::rest) m t)(hm:m≤1000000:=by decide +kernel):PE X (.JoinedStr (v1::v2::rest) pos) (fun σ H Q=>t σ H Str.empty fun x H1=>Q (.str x) H1):=by
 intro pins s σ H Q I q
 refine JoinedStr_many (cz (h pins s σ H Str.empty _ I q (by show 0+m≤_;omega)) fun u s1 ⟨x,tk,H1,e,I1,q1⟩=>?_)
 subst e
 exact⟨.str x,H1,I1,⟨_,rfl⟩,q1⟩
end
end jO
namespace jO
open PySem PySem.Spec PyProof.Rows L2 cZ PySem.Builtin PySem.Builtin.Str
end jO
namespace jO
open PySem PySem.Spec PyProof.Rows L2 cZ PySem.Builtin PySem.Builtin.Str jd
def dg(n:Int):List Nat:=(Nat.toDigits 10 n.toNat).map Char.toNat
theorem yT{n:Int}(h:0≤n):Str.ofString (toString n)=txt (dg n):=by
 refine ext_toList ?_
 rw[vU]
 obtain⟨m,rfl⟩:∃ m:Nat,n=(m:Int):=⟨n.toNat,by omega⟩
 exact PySem.W.KIN.signs_num m
theorem GY{n:Int}(h0:0≤n)(h1:n<10^60):(dg n).length≤60:=by
 have:=toString_length_le h0 (k:=60) (by decide) h1
 rw[yT h0,qX]at this
 exact this
end jO
namespace LS
open PySem PySem.Spec PyProof.Rows PySem.W L2 cZ jM
end LS
namespace LS
open PySem PySem.Spec PyProof.Rows PySem.W L2 cZ jM
end LS
namespace jO
open PySem PySem.Spec PyProof.Rows L2 cZ PySem.Builtin PySem.Builtin.Str jd
end jO
namespace LS
open PySem PySem.Spec PyProof.Rows PySem.W L2 cZ jM
end LS
namespace E9
open PySem PySem.Spec PyProof.Rows L2 cZ jM jd
end E9
namespace E9
open PySem PySem.Spec PyProof.Rows L2 cZ jM jd PySem.W PyProof.Rows.KTD
section
variable {X:Cx}
theorem TV{e:Expr}{te:TE}{pos pos':Pos}(he:PE X e te):PE X (.JoinedStr [.FormattedValue e (-1) none pos] pos') (fun σ H Q=>te σ H fun v H1=>(∃ i:Int,v=.int i∧i.natAbs.log2<1920∧Q (.str (Str.ofString (toString i))) H1)∨∃ cs:List Nat,v=.str (txt cs)∧cs.length≤100000∧Q (.str (txt cs)) H1):=by
 intro pins s σ H Q I q
 refine JoinedStr_one (FormattedValue_plain (cz (he pins s σ H _ I q) fun v s1 ⟨x,H1,I1,r1,h1⟩=>?_))
 rcases h1 with ⟨i,rfl,hi,q1⟩|⟨cs,rfl,hc,q1⟩
 ·obtain⟨tk,rfl⟩:=r1
  exact formatField_int_small hi ⟨.str _,H1,I1.tok _,⟨_,rfl⟩,q1⟩
 ·obtain⟨tk,rfl⟩:=r1
  exact formatField_str (fun t' k=>⟨.str _,H1,I1.tok _,⟨_,rfl⟩,q1⟩) (by rw[qX];exact lV hc (by decide))
end
end E9
namespace E9
open PySem PySem.Spec PyProof.Rows L2 cZ jM jd jO PySem.Builtin PySem.Builtin.Str
end E9
namespace E9
open PySem PySem.Spec PyProof.Rows L2 cZ PySem.Builtin PySem.Builtin.Str jd
end E9
namespace jM
open PySem PySem.Spec PyProof.Rows PySem.W L2
section
variable {X:Cx} {pins:List (Addr × Obj)} {σ:L2.St} {H:Hp} {s:Shared} {a:Addr}
variable {x m:Str} {st:Stmt} {ps:List Str} {f C:Addr} {fd:FuncData} {j k:Nat} {sp:Sp} {e o:Expr} {es:List Expr} {ta:TE} {t:TA} {p apos pos:Pos} {pl:Sem Bool}
variable {te:TEx} {i:Nat} {z:Str} {pos':Pos} {c:Expr} {tc:TT} {tx ty:TSx} {a b:Stmt} {hs:List Hd}
theorem yU{y:Str}(d:jd.ay X.K X.mg x st ps f fd)(hm:X.mg y=some (.ref f))(G:aB X.prog X.w X.K X.mg X.base bV k f fd ps sp)(hr:kL j X.A)
  (ha:PA X (e::es) t) (hjk:k≤j:=by first|decide|omega) (hg:Gl X y:=by rfl) (hdb:(y == ("__debug__":Str))=false:=by decide) (he:starEach (e::es) X.env=(false,eval e X.env)::starEach es X.env:=by rfl)
  (hpl:(backTo pos (starEach es X.env)).any (·.1)=false:=by rfl):PE X (.Call (.Name y p) (e::es) [] pos) (Eu sp [] E0 t) :=
 CK G (hr.mono hjk) hg hm d.F.kp d.b .nil dz ha hdb he hpl
end
end jM
set_option Elab.async false
set_option linter.all false
set_option maxRecDepth 100000
namespace jd
open PySem L2 cZ jM zQ N1
structure pG(mg:Str→Option Value):Prop where
 ic:mg "len"=none
 lG:mg "list"=none
 Iw:mg "tuple"=none
 O4:mg "int"=none
 GZ:mg "bool"=none
 O5:mg "str"=none
 nQ:mg "range"=none
 TX:mg "zip"=none
 cK:mg "isinstance"=none
 O6:mg "sum"=none
 O7:mg "min"=none
 TY:mg "max"=none
 TZ:mg "all"=none
 qj:∀ f,mg "size"=some (.ref f)→mg "size_spans"=some (.ref f)
 zU:∀ f,mg "shown"=some (.ref f)→mg "shown_weave"=some (.ref f)
section
variable {P:Program} {w:World} {K:PySem.W.Frag} {mg:Str→Option Value} {base:Heap}
theorem G0:aG ["_law_script"] ["_law_script"] (az tE):=⟨rfl,rfl,rfl,by decide +kernel,rfl,by decide +kernel,by decide +kernel⟩
theorem G1{f:Addr}{fd:FuncData}(F:iD K "_law_src" "_law_src" tE f fd)(T:pG mg):aB P w K mg base bV 1 f fd Na (Lm K):=by
 refine F.ok G0 (fun vs H Q E h=>?_) (fun cdv A outer s H vs Q E hr h=>?_)
 ·obtain⟨a,ns,rfl,_⟩:=h
  rfl
 obtain⟨a,ns,rfl,hS,k⟩:=h
 refine⟨_,(ao (aR (bJ (aa (eV iK rfl T.lG vD (aa (kX pJ (pv 0) pI (mO aA)) ah)) (aa aA (aa aA (aa aA ah))))))),?_⟩
 refine⟨_,rfl,_,rfl,a,_,rfl,hS,fun p hp=>?_⟩
 refine⟨p,_,rfl,.inl (bF.of af),fun c hc=>?_⟩
 refine⟨(by show 4≤sizeLine;decide),fun l hl=>?_⟩
 obtain⟨ms,em⟩:=Lo ns none (some 63)
 have F8:c≠l:=au (H:=upd (upd H p _) c _) af hl
 have s1:aF H (upd H p (.lst (jV (ns.map V.int) none (some 63)))):=aj hp _
 have s2:=s1.trans (aj hc (.lst (jV (ns.map V.int) none (some 63))))
 refine k l c _ ⟨F8,ms,0,0,1,af,?_,by decide,by decide,by decide⟩ (s2.trans (aj hl _)) (s2.free hl) (s1.free hc)
 rw[aC F8,af,em]
theorem pQ:aG ["_law_src_here","_law_base","_law_cell","_law_digit"] ["_law_src_here","_law_base"] (az iM):=⟨rfl,rfl,rfl,by decide +kernel,rfl,by decide +kernel,by decide +kernel⟩
theorem kG{f:Addr}{fd:FuncData}(F:iD K "_law_next" "_law_next" iM f fd)(T:pG mg):aB P w K mg base bV 1 f fd wO sJ:=by
 refine F.ok pQ (fun vs H Q E h=>?_) (fun cdv A outer s H vs Q E hr h=>?_)
 ·obtain⟨l,c,b,rfl,_⟩:=h
  rfl
 obtain⟨l,c,b,rfl,S,hb0,hb1,k⟩:=h
 refine⟨_,(ak (zF (t':=QA) (cC (bR mT (bq bf (pv 0) aA (fun _ _=>rfl)) aA (bZ _))
   (ak (aU (i:=2) pQ.nd rfl (Or.inl rfl) aA)
   (ak (zF (t':=QB) (cC (bR Et (bq bf (pv 0) aA (fun _ _=>rfl)) (aV aX rfl T.ic lT (aa (bq bf (pv 0) aA (fun _ _=>rfl)) ah)) (bZ _))
   (ak (aU (i:=2) pQ.nd rfl (Or.inl rfl) (bq bf (bq bf (pv 0) aA (fun _ _=>rfl)) (bq bf (pv 0) aA (fun _ _=>rfl)) (fun _ _=>rfl)))
   (ao (qg (bz eZ (bq bf (pv 0) aA (fun _ _=>rfl)) aA) (qP (pv 0) aA set_list))))
   bL) ?b2)
   (ak (qg (bz zj (bz eZ (bz eZ (bz KJ (bq bf (pv 0) aA (fun _ _=>rfl)) aA) (bz zj (pv 2) aA)) aA) aA) (qP (pv 0) aA set_list))
   (ao (cC (bR OQ (pv 2) (bz KL aA aA) (bZ _))
   (ao (qg (pv 2) (qP (pv 0) aA set_list)))
   bL)))))
   bL) ?b1)
   (ak (cC (bR Bu (bq bf (pv 0) aA (fun _ _=>rfl)) aA (bZ _))
   (ak (aU (i:=3) pQ.nd rfl (Or.inl rfl) (bz zj (bq bf (pv 0) aA (fun _ _=>rfl)) (pv 1)))
   (ak (qg (bz EF (bq bf (pv 0) aA (fun _ _=>rfl)) (pv 1)) (qP (pv 0) aA set_list))
   (ao (aR (pv 3)))))
   bL)
   (ao (aR (bz zj (bz EF (bz zj (bz KJ (bq bf (pv 0) aA (fun _ _=>rfl)) aA) aA) aA) (pv 1)))))),?_⟩
 case b2 =>
  rintro D σ H ⟨l,c,b,rfl,⟨F8,ns,i,d,r,hl,hc,hi,hr0,hr1⟩,k⟩
  refine⟨_,rfl,l,_,_,_,rfl,rfl,bF.of hl,Qz,_,rfl,l,_,_,_,rfl,rfl,bF.of hl,Td,c,_,rfl,.inl (bF.of hc),_,_,rfl,rfl,_,rfl,?_⟩
  refine dQ (fun c2=>?_) (fun c2=>?_)
  ·have c3:i<(ns.length:Int):=by
    have z:=of_decide_eq_true c2
    rwa [cO]at z
   obtain⟨v,hv⟩:=NI hi c3
   refine⟨_,rfl,l,_,_,_,rfl,rfl,bF.of hl,Td,_,rfl,l,_,_,_,rfl,rfl,bF.of hl,Qz,c,_,_,_,rfl,rfl,bF.of hc,hv,?_⟩
   refine⟨_,rfl,l,_,_,_,rfl,rfl,bF.of hl,Qz,_,_,rfl,rfl,_,rfl,l,_,_,1,rfl,rfl,hl,rfl,?_⟩
   exact k v _ ⟨F8,ns,i+1,d,r,af,by rw[aC F8];exact hc,by omega,hr0,hr1⟩ fun a ha=>aC ha
  ·exact k 7 H ⟨F8,ns,i,d,r,hl,hc,hi,hr0,hr1⟩ fun a _=>rfl
 case b1 =>
  rintro D σ H ⟨l,c,b,rfl,S,k⟩
  obtain⟨F8,ns,i,d,r,hl,hc,hi,hr0,hr1⟩:=id S
  refine⟨_,rfl,l,_,_,_,rfl,rfl,bF.of hl,NH,_,_,rfl,rfl,_,rfl,?_⟩
  refine dQ (fun c1=>?_) (fun c1=>?_)
  ·refine⟨l,c,b,rfl,S,fun cell H1 S1 k1=>?_⟩
   obtain⟨_,ns1,i1,d1,r1,hl1,hc1,hi1,hr2,G2⟩:=id S1
   refine⟨_,rfl,l,_,_,_,rfl,rfl,bF.of hl1,Te,_,_,rfl,rfl,.inl ⟨by omega,by omega⟩,_,rfl,_,_,rfl,rfl,(by show (0:Int)<998244353;decide),_,_,rfl,rfl,_,_,rfl,rfl,_,_,rfl,rfl,(by show (0:Int)<2147483647;decide),_,rfl,l,_,_,3,rfl,rfl,hl1,rfl,?_⟩
   refine⟨_,rfl,_,_,rfl,rfl,⟨by decide,by decide,by decide⟩,_,_,rfl,rfl,_,rfl,?_⟩
   have b0:0≤(r1*48271+cell % 998244353+1) % 2147483647:=Int.emod_nonneg _ (by decide)
   have b1:(r1*48271+cell % 998244353+1) % 2147483647<2147483647:=Int.emod_lt_of_pos _ (by decide)
   refine dQ (fun c2=>?_) (fun c2=>?_)
   ·refine⟨_,rfl,_,rfl,l,_,_,2,rfl,rfl,af,rfl,?_⟩
    refine k _ _ ⟨F8,ns1,i1,cell,_,af,?_,hi1,b0,b1⟩ fun a ha=>?_
    ·rw[aC F8,aC F8];exact hc1
    ·rw[aC ha,aC ha];exact k1 a ha
   ·refine k _ _ ⟨F8,ns1,i1,d1,_,af,?_,hi1,b0,b1⟩ fun a ha=>?_
    ·rw[aC F8];exact hc1
    ·rw[aC ha];exact k1 a ha
  ·exact k none H S fun a _=>rfl
 refine⟨l,c,b,rfl,S,fun cell H1 S1 k1=>?_⟩
 obtain⟨F8,ns,i,d,r,hl,hc,hi,hr0,hr1⟩:=S1
 refine⟨_,rfl,l,_,_,_,rfl,rfl,bF.of hl,NH,_,_,rfl,rfl,_,rfl,?_⟩
 refine dQ (fun c1=>?_) (fun c1=>?_)
 ·refine⟨_,rfl,l,_,_,_,rfl,rfl,bF.of hl,NH,_,rfl,_,_,rfl,rfl,hb0,?_⟩
  refine⟨_,rfl,l,_,_,_,rfl,rfl,bF.of hl,NH,_,rfl,_,_,rfl,rfl,⟨hb0,hb1⟩,_,rfl,l,_,_,2,rfl,rfl,hl,rfl,?_⟩
  refine⟨_,rfl,?_⟩
  refine k (d % b) _ (Int.emod_nonneg _ (by omega)) (Int.emod_lt_of_pos _ hb0) ⟨F8,ns,i,d / b,r,af,?_,hi,hr0,hr1⟩ fun a ha=>?_
  ·rw[aC F8];exact hc
  ·rw[aC ha];exact k1 a ha
 ·refine⟨_,rfl,l,_,_,_,rfl,rfl,bF.of hl,Te,_,_,rfl,rfl,.inl ⟨by omega,by omega⟩,_,_,rfl,rfl,(by show (0:Int)<2147483399;decide),_,_,rfl,rfl,⟨by decide,by decide⟩,_,rfl,_,_,rfl,rfl,hb0,?_⟩
  exact k _ _ (Int.emod_nonneg _ (by omega)) (Int.emod_lt_of_pos _ hb0) ⟨F8,ns,i,d,r,hl,hc,hi,hr0,hr1⟩ k1
theorem C7:aG ["_law_found"] ["_law_found"] (az eS):=⟨rfl,rfl,rfl,by decide +kernel,rfl,by decide +kernel,by decide +kernel⟩
theorem sO:aG ["_law_found","_law_due","_law_one","_law_other"] ["_law_found","_law_due"] (az iN):=⟨rfl,rfl,rfl,by decide +kernel,rfl,by decide +kernel,by decide +kernel⟩
theorem C8{f:Addr}{fd:FuncData}(F:iD K "_law_whole" "_law_whole" eS f fd)(T:pG mg):aB P w K mg base bV 1 f fd Cz CO:=by
 refine F.ok C7 (fun vs H Q E h=>?_) (fun cdv A outer s H vs Q E hr h=>?_)
 ·obtain⟨i,rfl,_⟩:=h
  rfl
 obtain⟨i,rfl,k⟩:=h
 refine⟨_,(ao (aR (su (aV dc rfl T.cK yx (aa (pv 0) (aa (rN rfl T.O4 PyProof.Rows.boot_int) ah))) (uM (P6 (aV dc rfl T.cK yx (aa (pv 0) (aa (rN rfl T.GZ PyProof.Rows.boot_bool) ah)))))))),?_⟩
 exact⟨_,rfl,_,_,_,_,rfl,mW.int i,Tj K,_,rfl,lW ⟨_,rfl,_,_,_,_,rfl,mW.int i,Ti K,_,rfl,k⟩⟩
theorem Bc{f fW:Addr}{fd Iz:FuncData}{n:Nat}(T:pG mg)(b8:ay K mg "_law_whole" eS Cz fW Iz)(Fb:aB P w K mg base bV 1 fW Iz Cz CO)
  (bP:ay K mg "_law_same" iN wL f fd) (jy:aB P w K mg base bV (n+1) f fd wL (uR n)):aB P w K mg base bV (n+2) f fd wL (uR (n+1)):=by
 refine bP.F.ok sO (fun vs H Q E h=>?_) (fun cdv A outer s H vs Q E hr h=>?_)
 ·obtain⟨x,y,rfl,_⟩:=h
  rfl
 obtain⟨x,y,rfl,h,k⟩:=h
 refine⟨_,(ak (cC (CG (Gi (pv 1)))
   (ao (aR (Kz (Gi (pv 0)))))
   bL)
   (ak (cC (nB (aV dc rfl T.cK yx (aa (pv 1) (aa (rN rfl T.GZ PyProof.Rows.boot_bool) ah))))
   (ao (aR (su (aV dc rfl T.cK yx (aa (pv 0) (aa (rN rfl T.GZ PyProof.Rows.boot_bool) ah))) (uM (qR kU (pv 0) (pv 1) (bZ _))))))
   bL)
   (ak (cC (nB (aV dc rfl T.cK yx (aa (pv 1) (aa (rN rfl T.O4 PyProof.Rows.boot_int) ah))))
   (ao (aR (su (aL b8 Fb hr (aa (pv 0) ah)) (uM (qR kU (pv 0) (pv 1) (bZ _))))))
   bL)
   (ak (cC (nB (aV dc rfl T.cK yx (aa (pv 1) (aa (rN rfl T.O5 PyProof.Rows.boot_str) ah))))
   (ao (aR (su (aV dc rfl T.cK yx (aa (pv 0) (aa (rN rfl T.O5 PyProof.Rows.boot_str) ah))) (uM (qR kU (pv 0) (pv 1) (bZ _))))))
   bL)
   (ak (cC (PW.pt (KA (bR KO (aV dc rfl T.cK yx (aa (pv 1) (aa (rN rfl T.lG vD) ah))) (aV dc rfl T.cK yx (aa (pv 0) (aa (rN rfl T.lG vD) ah))) (bZ _)) (Gj (bR KO (aV dc rfl T.cK yx (aa (pv 1) (aa (rN rfl T.Iw PyProof.Rows.boot_tuple) ah))) (aV dc rfl T.cK yx (aa (pv 0) (aa (rN rfl T.Iw PyProof.Rows.boot_tuple) ah))) (bZ _)))))
   (ao (aR pH))
   bL)
   (ak (cC (bR KO (aV aX rfl T.ic lT (aa (pv 0) ah)) (aV aX rfl T.ic lT (aa (pv 1) ah)) (bZ _))
   (ao (aR pH))
   bL)
   (ak (gQ PassesOwn.never rfl (Qy rfl T.TX (aa (pv 0) (aa (pv 1) ah))) (qf (n:=2) rfl (bQ (aY (i:=2) sO.nd rfl (Or.inl rfl)) (bQ (aY (i:=3) sO.nd rfl (Or.inl rfl)) j3)))
   (ao (cC (mh (nB (aL bP jy hr (aa (pv 2) (aa (pv 3) ah)))))
   (ao (aR pH))
   bL)))
   (ao (aR pH))))))))),?_⟩
 have kk:=k H (aF.refl H)
 rcases h with ⟨hf,rfl⟩|⟨kd,a,b,xs,ys,rfl,rfl,h1,h2,hl,hi⟩
 ·cases x with
  | jJ =>
   refine⟨_,rfl,_,rfl,dQ (fun _=>?_) (fun c=>absurd (decide_eq_true rfl) c)⟩
   exact⟨_,rfl,tt rfl kk⟩
  | bl v =>
   refine⟨_,rfl,_,rfl,dQ (fun c=>absurd (of_decide_eq_true c) (fun z=>nomatch z)) (fun _=>?_)⟩
   refine⟨_,rfl,_,_,_,_,rfl,mW.bl v,Th K,_,rfl,lW ?_⟩
   exact⟨_,rfl,_,_,_,_,rfl,mW.bl v,Th K,_,rfl,lW ⟨_,rfl,_,rfl,rfl,tt rfl kk⟩⟩
  | int i =>
   refine⟨_,rfl,_,rfl,dQ (fun c=>absurd (of_decide_eq_true c) (fun z=>nomatch z)) (fun _=>?_)⟩
   refine⟨_,rfl,_,_,_,_,rfl,mW.int i,Ti K,_,rfl,iL ?_⟩
   refine⟨_,rfl,_,_,_,_,rfl,mW.int i,Tj K,_,rfl,lW ?_⟩
   exact⟨_,rfl,i,rfl,_,rfl,lW ⟨_,rfl,_,rfl,rfl,tt rfl kk⟩⟩
  | str v =>
   refine⟨_,rfl,_,rfl,dQ (fun c=>absurd (of_decide_eq_true c) (fun z=>nomatch z)) (fun _=>?_)⟩
   refine⟨_,rfl,_,_,_,_,rfl,mW.str v,ady K,_,rfl,iL ?_⟩
   refine⟨_,rfl,_,_,_,_,rfl,mW.str v,adz K,_,rfl,iL ?_⟩
   refine⟨_,rfl,_,_,_,_,rfl,mW.str v,Tn K,_,rfl,lW ?_⟩
   exact⟨_,rfl,_,_,_,_,rfl,mW.str v,Tn K,_,rfl,lW ⟨_,rfl,_,rfl,rfl,tt rfl kk⟩⟩
  | _=>cases hf
 ·refine⟨_,rfl,_,rfl,dQ (fun c=>absurd (of_decide_eq_true c) (fun z=>nomatch z)) (fun _=>?_)⟩
  refine⟨_,rfl,_,_,_,_,rfl,h2.ty,adI K kd,_,rfl,iL ?_⟩
  refine⟨_,rfl,_,_,_,_,rfl,h2.ty,adJ K kd,_,rfl,iL ?_⟩
  refine⟨_,rfl,_,_,_,_,rfl,h2.ty,adK K kd,_,rfl,iL ?_⟩
  refine⟨_,rfl,_,_,_,_,rfl,h2.ty,Tp K kd,_,rfl,_,_,_,_,rfl,h1.ty,Tp K kd,rfl,_,rfl,Lc rfl ?_⟩
  refine⟨_,rfl,_,_,_,_,rfl,h2.ty,Tq K kd,_,rfl,_,_,_,_,rfl,h1.ty,Tq K kd,rfl,_,rfl,Lc rfl ?_⟩
  refine⟨_,rfl,a,_,rfl,h1.or,_,rfl,b,_,rfl,h2.or,rfl,_,rfl,Lc (by rw[hl]) ?_⟩
  refine⟨_,rfl,_,rfl,kd,a,b,xs,ys,rfl,h1.sq,h2.sq,NF (fun i σ H2=>∃ u v,σ=[some (.ref a),some (.ref b),u,v]∧aF H H2) hl ⟨none,none,rfl,aF.refl H⟩ (fun i σ H2 _ ⟨_,_,_,s⟩=>⟨(h1.same s).sq,(h2.same s).sq⟩) ?_ ?_⟩
  ·rintro i u v p σ H2 eu ev hp ⟨_,_,rfl,s⟩
   refine⟨p,_,rfl,jc.of af,rfl,u,[v],rfl,v,[],rfl,rfl,?_⟩
   have s2:=s.trans (aj hp (.tup [u,v]))
   refine⟨_,rfl,_,rfl,u,v,rfl,Eqv.same s2 (hi i u v eu ev),fun H4 s4=>⟨_,rfl,iL ?_⟩⟩
   exact⟨_,_,rfl,s2.trans s4⟩
  ·rintro σ H2 ⟨_,_,rfl,s⟩
   exact k H2 s
theorem pR{f fW:Addr}{fd Iz:FuncData}(T:pG mg)(b8:ay K mg "_law_whole" eS Cz fW Iz)(bP:ay K mg "_law_same" iN wL f fd):∀ n:Nat,aB P w K mg base bV (n+1) f fd wL (uR n)
 | 0=>by
  have no:∀ vs H Q E,¬ uR 0 vs H Q E:=fun vs H Q E h=>by
   obtain⟨x,y,_,h,_⟩:=h
   exact h
  exact⟨fun vs H Q E h=>absurd h (no vs H Q E),fun A outer s H args us vs Q E _ _ _ _ h=>absurd h (no vs H Q E)⟩
 | n+1=>Bc T b8 (C8 b8.F T) bP (pR T b8 bP n)
theorem yV:aG ["row","told","start","stop"] ["row"] (az lu):=⟨rfl,rfl,rfl,by decide +kernel,rfl,by decide +kernel,by decide +kernel⟩
theorem zV{f:Addr}{fd:FuncData}(F:iD K "plain" "plain" lu f fd):aB P w K mg base bV 1 f fd eY vP:=by
 refine F.ok yV (fun vs H Q E h=>?_) (fun cdv A outer s H vs Q E hr h=>?_)
 ·obtain⟨r,row,rfl,_⟩:=h
  rfl
 obtain⟨r,row,rfl,⟨as,hr1,hp⟩,hlen,k⟩:=h
 refine⟨_,(ak (aU (i:=1) yV.nd rfl (Or.inl rfl) (bJ ah))
   (ak (gQ PassesOwn.never rfl (cU (pv 0)) (qf (n:=2) rfl (bQ (aY (i:=2) yV.nd rfl (Or.inl rfl)) (bQ (aY (i:=3) yV.nd rfl (Or.inl rfl)) j3)))
   (ak (cC (bR kU (pv 2) (pv 3) (bZ _))
   (ao Er)
   bL)
   (ao (cC (PW.pt (wQ (mU (pv 1) (fun _=>rfl)) (vI (bR kU (bq dm (bq bf (pv 1) (kT iJ aA) (fun _ _=>rfl)) aA (fun _ _=>rfl)) (pv 2) (bZ _)))))
   (ao (qg (eK (aa (bq dm (bq bf (pv 1) (kT iJ aA) (fun _ _=>rfl)) aA (fun _ _=>rfl)) (aa (pv 3) ah))) (qP (pv 1) (kT iJ aA) set_list)))
   (ao (bw (je qd r9 sf cA (pv 1) (aa (eK (aa (pv 2) (aa (pv 3) ah))) ah))))))))
   (ao (aR (pv 1))))),?_⟩
 refine⟨(by show 0≤sizeLine;decide),fun q hq=>?_⟩
 have s0:aF H (upd H q (.lst [])):=aj hq _
 refine⟨_,rfl,r,rfl,⟨_,bF.of (s0 _ _ hr1)⟩,ie (K:=K) (a:=r) (xs:=as.map V.ref) (fun i σ H2=>∃ (bs:List Addr) (u v:Option V),σ=[some (.ref r),some (.ref q),u,v]∧H2 q=some (.lst (bs.map V.ref))∧bu H2 bs ((row.take i).foldl dG [])∧aF H H2)
  ⟨[],none,none,rfl,af,.nil,s0⟩ (fun i σ H2 _ ⟨_,_,_,_,_,_,s⟩=>bF.of (s _ _ hr1)) ?_ ?_⟩
 ·rintro i x σ H2 hi ⟨bs,u,v,rfl,hq2,hb,s⟩
  rw[kM]at hi
  obtain⟨a,ea,rfl⟩:=Option.map_eq_some_iff.mp hi
  obtain⟨⟨st,en⟩,ep,ha⟩:=hp.get ea
  have step:=Jz (f:=dG) ep
  have bl:bs.length<sizeLine:=by
   have z:=hb.len
   have z2:=EL (row.take i) []
   rw[kK]at z2
   exact aM (by simp only[oj]at z2;omega)
  refine⟨a,_,rfl,jc.of (s _ _ ha),rfl,_,_,rfl,_,_,rfl,rfl,?_⟩
  refine⟨_,rfl,_,rfl,rfl,_,rfl,dQ (fun c=>?_) (fun c=>?_)⟩
  ·have e:st=en:=V.int.inj (of_decide_eq_true c)
   refine⟨bs,_,_,rfl,hq2,?_,s⟩
   rw[step,dG,if_pos e]
   exact hb
  ·have e:¬ st=en:=fun z=>c (decide_eq_true (congrArg V.int z))
   rw[dG,if_neg e]at step
   rcases sj ((row.take i).foldl dG []) with hn|⟨rw0,q0,hn⟩
   ·rw[hn]at hb step
    have O8:bs=[]:=List.eq_nil_of_length_eq_zero hb.len
    subst O8
    refine⟨_,rfl,false,.inl ⟨_,bF.of hq2,rfl⟩,iL (iL ?_)⟩
    refine⟨_,rfl,.inl ⟨rfl,_,bF.of hq2⟩,_,rfl,_,rfl,(by show 2≤sizeLine;decide),fun t ht=>⟨q,_,_,rfl,rfl,aj ht _ _ _ hq2,(by show 0<sizeLine;decide),?_⟩⟩
    obtain⟨g1,g2,g3⟩:=grown (st:=st) (en:=en) hq s hq2 hb ht
    refine⟨[]++[t],_,_,rfl,g1,?_,g3⟩
    rw[step,oE]
    exact g2
   ·rw[qv]at hn
    rw[hn]at hb step
    obtain⟨cs,a0,rfl,hc,ha0⟩:=hb.split
    have IA:H2 q=some (.lst (cs.map V.ref++[.ref a0])):=by rw[hq2,nu];rfl
    refine⟨_,rfl,true,.inl ⟨_,bF.of IA,by simp⟩,lW ?_⟩
    refine⟨_,rfl,_,rfl,q,_,_,_,rfl,rfl,bF.of IA,fH _ _,a0,_,_,_,rfl,rfl,jc.of ha0,Tg,_,rfl,rfl,_,rfl,dQ (fun c2=>?_) (fun c2=>?_)⟩
    ·have e2:q0.2=st:=V.int.inj (of_decide_eq_true c2)
     refine⟨_,rfl,_,rfl,q,_,_,_,rfl,rfl,bF.of IA,fH _ _,a0,_,_,_,rfl,rfl,jc.of ha0,Tf,_,rfl,(by show 2≤sizeLine;decide),fun t ht=>?_⟩
     refine⟨_,rfl,_,rfl,q,_,_,cs.length,rfl,rfl,aj ht _ _ _ IA,Lz cs a0,?_⟩
     obtain⟨g1,g2,g3⟩:=turned (st:=q0.1) (en:=en) hq s IA hc ht
     refine⟨cs++[t],_,_,rfl,g1,?_,g3⟩
     rw[step,oF _ e2]
     exact g2
    ·have e2:¬ q0.2=st:=fun z=>c2 (decide_eq_true (congrArg V.int z))
     refine⟨_,rfl,.inl ⟨rfl,_,bF.of hq2⟩,_,rfl,_,rfl,(by show 2≤sizeLine;decide),fun t ht=>⟨q,_,_,rfl,rfl,aj ht _ _ _ hq2,(by rw[cO];exact bl),?_⟩⟩
     obtain⟨g1,g2,g3⟩:=grown (st:=st) (en:=en) hq s hq2 hb ht
     refine⟨cs++[a0]++[t],_,_,rfl,g1,?_,g3⟩
     rw[step,oG _ e2]
     exact g2
 ·rintro σ H2 ⟨bs,u,v,rfl,hq2,hb,s⟩
  refine⟨_,rfl,k q H2 ⟨bs,hq2,?_⟩ s hq⟩
  rw[cO,hp.len,kO]at hb
  exact hb
theorem QU:aG ["row"] ["row"] (az ssize):=⟨rfl,rfl,rfl,by decide +kernel,rfl,by decide +kernel,by decide +kernel⟩
theorem IB{f:Addr}{fd:FuncData}(F:iD K "size" "size" ssize f fd)(T:pG mg):aB P w K mg base bV 1 f fd eY CV:=by
 refine F.ok QU (fun vs H Q E h=>?_) (fun cdv A outer s H vs Q E hr h=>?_)
 ·obtain⟨n,ns,rfl,_⟩:=h
  rfl
 obtain⟨r,row,rfl,⟨as,hr1,hp⟩,hlen,k⟩:=h
 refine⟨_,(ao (aR (aV (EG rfl) rfl T.O6 PyProof.Rows.boot_sum (aa (CU (N:=["start","stop"]) ⟨rfl,by decide +kernel,by decide +kernel,by decide +kernel⟩ rfl (cU (pv 0)) (fun _ _ _ _ _=>(Ii (n:=2) rfl (bQ (aY (i:=0) (show List.Nodup (["start","stop"]:List Str) by decide +kernel) rfl (Or.inl rfl)) (bQ (aY (i:=1) (show List.Nodup (["start","stop"]:List Str) by decide +kernel) rfl (Or.inl rfl)) j3)))) (fun _ _ _ _ _=>mQ) (fun _ _ _ _ _=>(bz gR (pv 1) (pv 0)))) ah)))),?_⟩
 refine⟨_,rfl,r,rfl,⟨_,bF.of hr1⟩,fun acc hacc=>wZ (K:=K) (a:=r) (xs:=as.map V.ref) (fun i σ H2=>∃ u v:Option V,σ=[u,v]∧H2 acc=some (.lst (((row.take i).map fun p=>p.2-p.1).map V.int))∧aF H H2)
  ⟨none,none,rfl,af,aj hacc _⟩ (fun i σ H2 _ ⟨_,_,_,_,s⟩=>bF.of (s _ _ hr1)) ?_ ?_⟩
 ·rintro i x σ H2 hi ⟨u,v,rfl,ha,s⟩
  rw[kM]at hi
  obtain⟨a,ea,rfl⟩:=Option.map_eq_some_iff.mp hi
  obtain⟨⟨st,en⟩,ep,hpa⟩:=hp.get ea
  refine⟨a,_,rfl,jc.of (s _ _ hpa),rfl,_,_,rfl,_,_,rfl,rfl,yes (lW ?_)⟩
  refine⟨_,rfl,_,rfl,_,_,rfl,rfl,_,ha,?_,_,_,rfl,?_,ck hacc s (aJ acc _ _)⟩
  ·rw[cO,cO,kK]
   exact aM (by omega)
  ·rw[af,take_snoc ep,nu,nu]
   rfl
 ·rintro σ H2 ⟨u,v,rfl,ha,s⟩
  rw[cO,hp.len,kO]at ha
  exact⟨acc,_,rfl,bF.of ha,k H2 s⟩
theorem zW:aG ["row","start","stop"] ["row","start","stop"] (az eT):=⟨rfl,rfl,rfl,by decide +kernel,rfl,by decide +kernel,by decide +kernel⟩
theorem j6{f fS C:Addr}{fd JN:FuncData}(F:iD K "check_places" "check_places" eT f fd)(T:pG mg)(Z:ExcAt K mg C)(iY:ay K mg "size" ssize eY fS JN):aB P w K mg base (oJ P w) 2 f fd mS (tL C):=by
 have IC:aB P w K mg base bV 1 fS JN eY CV:=IB iY.F T
 refine F7 F zW (fun vs H Q E h=>?_) (fun cdv A outer s H vs Q E hr h=>?_)
 ·obtain⟨r,row,a,b,rfl,_⟩:=h
  rfl
 obtain⟨r,row,a,b,rfl,R,hl,fa,fb,ft,k1,k2⟩:=h
 refine⟨_,(ao (cC (mh (JA mT mT mT aA (pv 1) (pv 2) (jM.yU iY (T.qj _ iY.m) IC hr (aa (pv 0) ah))))
   (ao (zF (t':=fun _ σ H'=>σ=[some (.ref r),some (.int a),some (.int b)]∧aF H H'∧¬ Eh a b (tot row)) (sL PySem.F.excBase_ValueError Z.x Z.m rfl zK (aa (vQ (qh (qV (pv 1) (qh (qV (pv 2) (qh (qV (jM.yU iY (T.qj _ iY.m) IC hr (aa (pv 0) ah)) zL))))))) ah)) ?b1))
   bL)),?_⟩
 case b1 =>
  rintro D σ H' ⟨rfl,s1,hn⟩
  refine⟨_,rfl,a,rfl,fa.log,_,rfl,b,rfl,fb.log,_,rfl,r,row,rfl,R.same s1,hl,fun H2 s2=>⟨_,rfl,ft.log,fun x=>⟨(by show 1≤sizeLine;decide),k2 hn H2 (s1.trans s2)⟩⟩⟩
 refine⟨_,rfl,_,_,rfl,rfl,_,rfl,dQ (fun c1=>?_) (fun c1=>lW ⟨rfl,aF.refl H,fun z=>c1 (decide_eq_true z.1)⟩)⟩
 refine⟨_,rfl,_,_,rfl,rfl,_,rfl,dQ (fun c2=>?_) (fun c2=>lW ⟨rfl,aF.refl H,fun z=>c2 (decide_eq_true z.2.1)⟩)⟩
 refine⟨_,rfl,r,row,rfl,R,hl,fun H1 s1=>⟨_,_,rfl,rfl,_,rfl,dQ (fun c3=>?_) (fun c3=>?_)⟩⟩
 ·refine⟨rfl,s1,fun z=>?_⟩
  rw[decide_eq_true z.2.2]at c3
  cases c3
 ·refine k1 ⟨of_decide_eq_true c1,of_decide_eq_true c2,?_⟩ H1 s1
  by_cases z:b≤tot row
  ·exact z
  ·rw[decide_eq_false z]at c3
   exact absurd rfl c3
theorem m7:aG ["row","start","stop","told","ahead","first","last","low","high"] ["row","start","stop"] (az mP):=⟨rfl,rfl,rfl,by decide +kernel,rfl,by decide +kernel,by decide +kernel⟩
theorem xx{f:Addr}{fd:FuncData}(F:iD K "pieces" "pieces" mP f fd)(T:pG mg):aB P w K mg base bV 1 f fd mS sM:=by
 refine F.ok m7 (fun vs H Q E h=>?_) (fun cdv A outer s H vs Q E hr h=>?_)
 ·obtain⟨r,row,a,b,rfl,_⟩:=h
  rfl
 obtain⟨r,row,a,b,rfl,⟨as,hr1,hp⟩,hlen,k⟩:=h
 refine⟨_,(ak (aU (i:=3) m7.nd rfl (Or.inl rfl) (bJ ah))
   (ak (aU (i:=4) m7.nd rfl (Or.inl rfl) aA)
   (ak (gQ PassesOwn.never rfl (cU (pv 0)) (qf (n:=2) rfl (bQ (aY (i:=5) m7.nd rfl (Or.inl rfl)) (bQ (aY (i:=6) m7.nd rfl (Or.inl rfl)) j3)))
   (ak (aU (i:=7) m7.nd rfl (Or.inl rfl) (aV (Jj rfl) rfl T.TY PyProof.Rows.boot_max (aa (bz gR (pv 1) (pv 4)) (aa aA ah))))
   (ak (aU (i:=8) m7.nd rfl (Or.inl rfl) (aV (Bv rfl) rfl T.O7 PyProof.Rows.boot_min (aa (bz gR (pv 2) (pv 4)) (aa (bz gR (pv 6) (pv 5)) ah))))
   (ak (cC (bR Et (pv 7) (pv 8) (bZ _))
   (ao (bw (je qd r9 sf cA (pv 3) (aa (eK (aa (bz eZ (pv 5) (pv 7)) (aa (bz eZ (pv 5) (pv 8)) ah))) ah))))
   bL)
   (ao (wR (i:=4) m7.nd rfl (Or.inl rfl) (bz gR (pv 6) (pv 5)) P9))))))
   (ao (aR (pv 3)))))),?_⟩
 refine⟨(by show 0≤sizeLine;decide),fun q hq=>?_⟩
 have s0:aF H (upd H q (.lst [])):=aj hq _
 refine⟨_,rfl,r,rfl,⟨_,bF.of (s0 _ _ hr1)⟩,ie (K:=K) (a:=r) (xs:=as.map V.ref) (fun i σ H2=>∃ (bs:List Addr) (t:Int) (u v x y:Option V),σ=[some (.ref r),some (.int a),some (.int b),some (.ref q),some (.int t),u,v,x,y]∧t=tot (row.take i)∧H2 q=some (.lst (bs.map V.ref))∧bu H2 bs (nK a b 0 (row.take i))∧aF H H2)
  ⟨[],0,none,none,none,none,rfl,rfl,af,.nil,s0⟩ (fun i σ H2 _ ⟨_,_,_,_,_,_,_,_,_,_,s⟩=>bF.of (s _ _ hr1)) ?_ ?_⟩
 ·rintro i x σ H2 hi ⟨bs,t,u,v,x1,y1,rfl,et,hq2,hb,s⟩
  rw[kM]at hi
  obtain⟨ad,ea,rfl⟩:=Option.map_eq_some_iff.mp hi
  obtain⟨⟨st,en⟩,ep,ha⟩:=hp.get ea
  have step:=EN a b (st,en) (row.take i) 0
  rw[← take_snoc ep,Int.zero_add,← et]at step
  have QV:t+(en-st)=tot (row.take (i+1)):=by rw[take_snoc ep,Ll,et]
  have bl:bs.length<sizeLine:=by
   have z:=hb.len
   have z2:=oK a b (row.take i) 0
   rw[kK]at z2
   exact aM (by omega)
  have e1:(if (0:Int) > a-t then (0:Int) else a-t)=max (a-t) 0:=by split <;> omega
  have e2:(if en-st<b-t then en-st else b-t)=min (b-t) (en-st):=by split <;> omega
  refine⟨ad,_,rfl,jc.of (s _ _ ha),rfl,_,_,rfl,_,_,rfl,rfl,?_⟩
  refine⟨_,rfl,_,rfl,_,_,rfl,rfl,_,_,rfl,?_⟩
  refine⟨_,rfl,_,rfl,_,_,rfl,rfl,_,rfl,_,rfl,_,_,rfl,rfl,_,_,rfl,?_⟩
  rw[e1,e2]
  refine⟨_,rfl,_,rfl,_,_,rfl,rfl,_,rfl,dQ (fun c=>?_) (fun c=>?_)⟩
  ·have c':max (a-t) 0<min (b-t) (en-st):=of_decide_eq_true c
   unfold LC at step
   rw[if_pos c']at step
   refine⟨_,rfl,.inl ⟨rfl,_,bF.of hq2⟩,_,rfl,_,rfl,_,_,rfl,rfl,_,rfl,_,rfl,_,_,rfl,rfl,(by show 2≤sizeLine;decide),fun tu htu=>⟨q,_,_,rfl,rfl,aj htu _ _ _ hq2,(by rw[cO];exact bl),?_⟩⟩
   obtain⟨g1,g2,g3⟩:=grown (st:=st+max (a-t) 0) (en:=st+min (b-t) (en-st)) hq s hq2 hb htu
   refine⟨_,rfl,_,rfl,_,rfl,_,_,rfl,rfl,_,_,rfl,rfl,?_⟩
   refine⟨bs++[tu],_,_,_,_,_,rfl,QV,g1,?_,g3⟩
   rw[step]
   exact g2
  ·have c':¬ max (a-t) 0<min (b-t) (en-st):=fun z=>c (decide_eq_true z)
   unfold LC at step
   rw[if_neg c',nA]at step
   refine⟨_,rfl,_,rfl,_,rfl,_,_,rfl,rfl,_,_,rfl,rfl,?_⟩
   refine⟨bs,_,_,_,_,_,rfl,QV,hq2,?_,s⟩
   rw[step]
   exact hb
 ·rintro σ H2 ⟨bs,t,u,v,x1,y1,rfl,et,hq2,hb,s⟩
  rw[cO,hp.len,kO]at hb
  exact⟨_,rfl,k q H2 ⟨bs,hq2,hb⟩ s hq⟩
theorem QW:aG ["row","start","stop"] ["row","start","stop"] (az BF):=⟨rfl,rfl,rfl,by decide +kernel,rfl,by decide +kernel,by decide +kernel⟩
theorem N8{f fS fC fP fQ C:Addr}{fd JN fdC JO fdQ:FuncData}(F:iD K "part" "part" BF f fd)(T:pG mg)(Z:ExcAt K mg C)(iY:ay K mg "size" ssize eY fS JN)(bY:ay K mg "check_places" eT mS fC fdC)
  (fL:ay K mg "plain" lu eY fP JO) (gx:ay K mg "pieces" mP mS fQ fdQ):aB P w K mg base (oJ P w) 3 f fd mS (GO C):=by
 have gX:aB P w K mg base (oJ P w) 2 _ _ mS (tL C):=j6 bY.F T Z iY
 have zX:aB P w K mg base bV 1 _ _ eY vP:=zV fL.F
 have pS:aB P w K mg base bV 1 _ _ mS sM:=xx gx.F T
 refine F7 F QW (fun vs H Q E h=>?_) (fun cdv A outer s H vs Q E hr h=>?_)
 ·obtain⟨r,row,a,b,rfl,_⟩:=h
  rfl
 obtain⟨r,row,a,b,rfl,R,hl,fa,fb,ft,k1,k2⟩:=h
 refine⟨_,(ak (bw (pO bY gX hr lZ (aa (pv 0) (aa (pv 1) (aa (pv 2) ah)))))
   (ao (aR (aL fL zX hr (aa (aL gx pS hr (aa (pv 0) (aa (pv 1) (aa (pv 2) ah)))) ah))))),?_⟩
 refine⟨_,rfl,_,rfl,_,rfl,r,row,a,b,rfl,R,hl,fa,fb,ft,fun hin H1 s1=>?_,k2⟩
 refine⟨_,rfl,_,rfl,_,rfl,r,row,a,b,rfl,R.same s1,hl,fun q H2 R2 s2 hq=>?_⟩
 refine⟨q,_,rfl,R2,lV (oK a b row 0) hl,fun q3 H3 R3 s3 IA=>?_⟩
 exact k1 hin q3 H3 R3 (s1.trans (s2.trans s3)) (aS (s1.trans s2) IA)
def Bl(CB:Addr)(H:Hp)(x d t:Addr):Prop:=H x=some (.ins CB d [("stains",.ref t)])
inductive C9(CB:Addr)(vs:List V)(H:Hp)(Q:VK)(E:XK):Prop
 | mk (x d:Addr) (_:vs=[.ref x]) (_:H x=some (.ins CB d [])) (_: ∀ (t:Addr) (H':Hp),Bl CB H' x d t→bX H' t []→cS x H H'→H t=none→Q .jJ H'):C9 CB vs H Q E
theorem xy:aG ["self"] ["self"] (az iS):=⟨rfl,rfl,rfl,by decide +kernel,rfl,by decide +kernel,by decide +kernel⟩
theorem vV{f C:Addr}{fd:FuncData}(F:iD K "__init__" "Blots.__init__" iS f fd)(cl:Bw K C)(ns:bh K C "stains"):aB P w K mg base bV 1 f fd ja (C9 C):=by
 refine F.ok xy (fun vs H Q E h=>?_) (fun cdv A outer s H vs Q E hr h=>?_)
 ·obtain⟨x,d,rfl,_⟩:=h
  rfl
 obtain⟨x,d,rfl,hx,k⟩:=h
 refine⟨_,(ao (j9 (pv 0) (bJ ah) rfl)),?_⟩
 refine⟨(by show 0≤sizeLine;decide),fun t ht=>?_⟩
 have nt:t≠x:=(au hx ht).symm
 refine⟨_,rfl,x,C,d,_,rfl,aj ht _ _ _ hx,cl,ns,by decide,?_⟩
 exact k t _ af ⟨[],by rw[aC nt,af];rfl,.nil⟩ (fun a o e n=>by rw[aC n];exact aj ht _ a o e) ht
theorem JP(its:List Item):(eN its).length≤its.length:=List.length_filterMap_le _ its
inductive Dc(vs:List V)(H:Hp)(Q:VK)(E:XK):Prop
 | mk (r:Addr) (its:List Item) (_:vs=[.ref r]) (_:br H (.ref r) its) (_:its.length≤100000) (_ :
 ∀ (o:Addr) (H':Hp),H' o=some (.lst ((eN its).map V.int))→aF H H'→H o=none→Q (.ref o) H'):Dc vs H Q E
theorem JQ:aG ["items"] ["items"] (az dZ):=⟨rfl,rfl,rfl,by decide +kernel,rfl,by decide +kernel,by decide +kernel⟩
theorem zY{f:Addr}{fd:FuncData}(F:iD K "windows" "windows" dZ f fd)(T:pG mg):aB P w K mg base bV 1 f fd nv Dc:=by
 refine F.ok JQ (fun vs H Q E h=>?_) (fun cdv A outer s H vs Q E hr h=>?_)
 ·obtain⟨n,ns,rfl,_⟩:=h
  rfl
 obtain⟨r,its,rfl,⟨a,vs,e,hr1,hp⟩,hlen,k⟩:=h
 cases e
 refine⟨_,(ao (aR (CU (N:=["item"]) ⟨rfl,by decide +kernel,by decide +kernel,by decide +kernel⟩ rfl (cU (pv 0)) (fun _ _ _ _ _=>(aY (i:=0) (show List.Nodup (["item"]:List Str) by decide +kernel) rfl (Or.inl rfl))) (fun _ _ _ _ _=>Ig (bR kU (bq Ij (pv 0) aA (fun _ _=>rfl)) bO (bZ _))) (fun _ _ _ _ _=>(bq Ij (pv 0) aA (fun _ _=>rfl)))))),?_⟩
 refine⟨_,rfl,r,rfl,⟨_,bF.of hr1⟩,fun acc hacc=>wZ (K:=K) (a:=r) (xs:=vs) (fun i σ H2=>∃ u:Option V,σ=[u]∧H2 acc=some (.lst ((eN (its.take i)).map V.int))∧aF H H2)
  ⟨none,rfl,af,aj hacc _⟩ (fun i σ H2 _ ⟨_,_,_,s⟩=>bF.of (s _ _ hr1)) ?_ ?_⟩
 ·rintro i x σ H2 hi ⟨u,rfl,ha,s⟩
  obtain⟨it,ei,b,rfl,hb⟩:=hp.get hi
  have step:eN (its.take (i+1))=eN (its.take i)++eN [it]:=by rw[take_snoc ei,gV]
  have bl:(eN (its.take i)).length≤100000:=by
   have z:=JP (its.take i)
   rw[kK]at z
   omega
  cases it with
  | win n =>
   refine⟨_,rfl,b,_,_,_,rfl,rfl,jc.of (s _ _ hb),rfl,rfl,_,rfl,dQ (fun _=>?_) (fun z=>absurd (by decide) z)⟩
   refine⟨_,rfl,b,_,_,_,rfl,rfl,jc.of (s _ _ hb),rfl,_,ha,(by rw[cO];exact aM (by omega)),_,rfl,?_,ck hacc s (aJ acc _ _)⟩
   rw[af,step,nu]
   rfl
  | aH p q =>
   refine⟨_,rfl,b,_,_,_,rfl,rfl,jc.of (s _ _ hb),rfl,rfl,_,rfl,dQ (fun z=>absurd z (by decide)) (fun _=>?_)⟩
   refine⟨_,rfl,?_,s⟩
   rw[ha,step]
   show _=some (HO.lst ((eN (its.take i)++[]).map V.int))
   rw[nA]
 ·rintro σ H2 ⟨u,rfl,ha,s⟩
  rw[hp.len,kO]at ha
  exact k acc H2 ha s hacc
structure JR(rows:eF)(ks:List Int):Prop where
 Ef:∀ x∈ks,0≤x∧x<rows.length
 dn:∀ (i:Nat) (x:Int),ks[i]?=some x→∀ y,Cb rows x y→y∈ks.take i
inductive yW(vs:List V)(H:Hp)(Q:VK)(E:XK):Prop
 | mk (r L:Addr) (rows:eF) (ss:List Int) (_:vs=[.ref r,.ref L]) (_:iy H r (rows.map itemsOf)) (_:H L=some (.lst (ss.map V.int))) (_:ss.length≤1000) (_:rows.length≤1000) (_:(∀ es∈rows,es.length≤1000)) (_:Sound rows) (_:Io rows) (_:(∀ s∈ss,0≤s∧s<rows.length)) (_ :
 ∀ (ks:List Int) (o:Addr) (H':Hp),H' o=some (.lst (ks.map V.int))→aF H H'→JR rows ks→(∀ s∈ss,s∈ks)→ks.length≤1000→H o=none→Q (.ref o) H'):yW vs H Q E
theorem JR.snoc{rows:eF}{ks:List Int}{x:Int}(h:JR rows ks)(h0:0≤x)(h1:x<rows.length)(hx:∀ y,Cb rows x y→y∈ks):JR rows (ks++[x]):=by
 refine⟨fun y hy=>?_,fun i y hi z hz=>?_⟩
 ·rcases List.mem_append.mp hy with q|q
  ·exact h.Ef y q
  ·have:y=x:=by simpa using q
   omega
 ·by_cases c:i<ks.length
  ·rw[AY c]at hi
   rw[List.take_append_of_le_length (by omega)]
   exact h.dn i y hi z hz
  ·have c2:i=ks.length:=by
    rcases Nat.lt_or_ge i (ks++[x]).length with q|q
    ·rw[eG,vA]at q;omega
    ·rw[List.getElem?_eq_none q]at hi;cases hi
   subst c2
   rw[List.getElem?_append_right (iC _),Nat.sub_self]at hi
   cases hi
   rw[List.take_append_of_le_length (iC _),kO]
   exact hx z hz
theorem Cg{kvs:List (Key × V)}{ks:List Int}(h:kvs.map (·.1)=ks.map Sum.inl)(x:Int):seen kvs x↔x∈ks:=by
 unfold seen
 rw[← oM,List.any_eq_true]
 constructor
 ·rintro⟨p,hp,e⟩
  have e':p.1=Sum.inl x:=of_decide_eq_true e
  have:p.1∈ks.map (Sum.inl:Int→Key):=by rw[← h];exact List.mem_map_of_mem hp
  rw[e',List.mem_map]at this
  obtain⟨y,hy,ey⟩:=this
  rw[Sum.inl.inj ey]at hy
  exact hy
 ·intro hx
  have:(Sum.inl x:Key)∈kvs.map (·.1):=by rw[h];exact List.mem_map_of_mem hx
  obtain⟨p,hp,e⟩:=List.mem_map.mp this
  exact⟨p,hp,decide_eq_true e⟩
structure Bel(rows:eF)(rk:Int→Nat)(H:Hp)(W S:Addr)(ss:List Int)(H2:Hp)(bs ps ks:List Int)(kvs:List (Key × V)):Prop where
 hW:H2 W=some (.lst ((bs++ps).map V.int))
 hS:H2 S=some (.dK kvs)
 sm:aF H H2
 ky:kvs.map (·.1)=ks.map Sum.inl
 tp:JR rows ks
 rg:∀ x∈bs++ps,0≤x∧x<rows.length
 ns:∀ x∈ps,¬ seen kvs x
 pw:ps.Pairwise fun a b=>rk b<rk a
 rb:∀ (i:Nat) (x:Int),ps[i]?=some x→rk x+i≤40
 st:∀ s∈ss,s∈bs∨s∈ks
 kl:kvs.length+miss rows.length kvs≤rows.length
 bl:bs.length≤1000
theorem Ci{kvs:List (Key × V)}{k:Key}(v:V)(h:(cj kvs k).isSome=true):(putK kvs k v).map (·.1)=kvs.map (·.1):=by
 unfold putK
 rw[if_pos (by rw[oM];exact h),List.map_map]
 refine List.map_congr_left fun p _=>?_
 show (if p.1=k then (p.1,v) else p).1=p.1
 split <;> rfl
theorem G3{rk:Int→Nat}{ps:List Int}(rb:∀ (i:Nat) (x:Int),ps[i]?=some x→rk x+i≤40):ps.length≤41:=by
 rcases sj ps with rfl|⟨p',n,rfl⟩
 ·simp
 ·rw[qv]at rb ⊢
  have:=rb p'.length n (by rw[List.getElem?_append_right (iC _),Nat.sub_self];rfl)
  rw[eG,vA]
  omega
structure Top(rk:Int→Nat)(ss bs ps ks:List Int)(kvs:List (Key × V))(bs' ps':List Int)(n:Int):Prop where
 eq:bs++ps=bs'++ps'++[n]
 ns:∀ x∈ps',¬ seen kvs x∧x≠n
 pw:ps'.Pairwise fun a b=>rk b<rk a
 rb:∀ (i:Nat) (x:Int),ps'[i]?=some x→rk x+i≤40
 st:∀ s∈ss,s∈bs'∨s=n∨s∈ks
 old:seen kvs n→bs'.length+50-ps'.length<bs.length+50-ps.length
 le:bs'.length+50-ps'.length≤bs.length+51-ps.length
 bl:bs'.length≤bs.length
 up:∀ y:Int,rk y≤40→rk y<rk n→(ps++[y]).Pairwise (fun a b=>rk b<rk a)∧∀ (i:Nat) (x:Int),(ps++[y])[i]?=some x→rk x+i≤40
theorem Bel.top{rows:eF}{rk:Int→Nat}{H:Hp}{W S:Addr}{ss:List Int}{H2:Hp}{bs ps ks:List Int}{kvs:List (Key × V)}(B:Bel rows rk H W S ss H2 bs ps ks kvs):bs++ps=[]∨∃ bs' ps' n,Top rk ss bs ps ks kvs bs' ps' n:=by
 have LV:∀ (qs:List Int) (y:Int),(∀ (i:Nat) (x:Int),qs[i]?=some x→rk x+i≤40)→rk y+qs.length≤40→∀ (i:Nat) (x:Int),(qs++[y])[i]?=some x→rk x+i≤40:=by
  intro qs y h1 h2 i x hx
  rcases Nat.lt_or_ge i qs.length with q|q
  ·rw[AY q]at hx
   exact h1 i x hx
  ·have qi:i=qs.length:=by
    rcases Nat.lt_or_ge i (qs++[y]).length with w|w
    ·rw[eG,vA]at w;omega
    ·rw[List.getElem?_eq_none w]at hx;cases hx
   subst qi
   rw[List.getElem?_append_right (iC _),Nat.sub_self]at hx
   cases hx
   exact h2
 rcases sj ps with rfl|⟨ps',n,rfl⟩
 ·rcases sj bs with rfl|⟨bs',n,rfl⟩
  ·exact .inl rfl
  ·rw[qv]at B ⊢
   refine .inr ⟨bs',[],n,by simp,by simp,by simp,by simp,fun s hs=>?_,fun _=>?_,?_,?_,fun y h1 h2=>⟨by simp,LV [] y (by simp) (by simpa using h1)⟩⟩
   ·rcases B.st s hs with z|z
    ·rcases List.mem_append.mp z with z|z
     ·exact .inl z
     ·exact .inr (.inl (by simpa using z))
    ·exact .inr (.inr z)
   ·rw[eG,vA];simp only[oj];omega
   ·rw[eG,vA];simp only[oj];omega
   ·rw[eG,vA];omega
 ·rw[qv]at B ⊢
  have pwd:=List.pairwise_append.mp B.pw
  have rbn:=B.rb ps'.length n (by rw[List.getElem?_append_right (iC _),Nat.sub_self];rfl)
  refine .inr ⟨bs,ps',n,by rw[qw],fun x hx=>⟨B.ns x (List.mem_append_left _ hx),fun e=>?_⟩,pwd.1,fun i x hx=>?_,fun s hs=>(B.st s hs).elim .inl fun z=>.inr (.inr z),fun z=>absurd z (B.ns n (by simp)),?_,iC _,fun y h1 h2=>⟨?_,LV _ y B.rb ?_⟩⟩
  ·subst e
   exact Nat.lt_irrefl _ (pwd.2.2 x hx x (by simp))
  ·refine B.rb i x ?_
   rw[AY]
   ·exact hx
   ·rcases Nat.lt_or_ge i ps'.length with q|q
    ·exact q
    ·rw[List.getElem?_eq_none q]at hx;cases hx
  ·rw[eG,vA];omega
  ·rw[List.pairwise_append]
   refine⟨B.pw,by simp,fun a ha c hc=>?_⟩
   have:c=y:=by simpa using hc
   subst this
   rcases List.mem_append.mp ha with q|q
   ·have:=pwd.2.2 a q n (by simp)
    omega
   ·have:a=n:=by simpa using q
    subst this
    exact h2
  ·rw[eG,vA];omega
def O9(rows:eF)(rk:Int→Nat)(H:Hp)(r L W S:Addr)(ss:List Int)(m:Nat)(σ:L2.St)(H2:Hp):Prop:=∃ (bs ps ks:List Int) (kvs:List (Key × V)) (u v:Option V),σ=[some (.ref r),some (.ref L),some (.ref S),some (.ref W),u,v]∧Bel rows rk H W S ss H2 bs ps ks kvs∧m=100*miss rows.length kvs+(bs.length+50-ps.length)
theorem vW:aG ["rows","sheets","told","waiting","number","missing"] ["rows","sheets"] (az ly):=⟨rfl,rfl,rfl,by decide +kernel,rfl,by decide +kernel,by decide +kernel⟩
theorem Fc{f fI:Addr}{fd AU:FuncData}(F:iD K "below" "below" ly f fd)(T:pG mg)(cu:ay K mg "windows" dZ nv fI AU):aB P w K mg base bV 2 f fd lS yW:=by
 have zZ:aB P w K mg base bV 1 fI AU nv Dc:=zY cu.F T
 refine F.ok vW (fun vs H Q E h=>?_) (fun cdv A outer s0 H vs Q E hr h=>?_)
 ·obtain⟨r,L,rows,ss,rfl,_⟩:=h
  rfl
 obtain⟨r,L,rows,ss,rfl,hR,hL,hsl,hlen,hes,LW,⟨rk,hrb,hrk⟩,hin,k⟩:=h
 have hu:=lY hr
 refine⟨_,(ak (aU (i:=2) vW.nd rfl (Or.inr rfl) oN)
   (ak (aU (i:=3) vW.nd rfl (Or.inl rfl) (eV iK rfl T.lG vD (aa (pv 1) ah)))
   (ak (Es PassesOwn.never (mU (pv 3) (fun _=>rfl)) (ak (aU (i:=4) vW.nd rfl (Or.inl rfl) (bq bf (pv 3) (kT iJ aA) (fun _ _=>rfl)))
   (ak (NZ (N:=["other","told"]) (i:=5) (yh (sc:=az ly) (NX:=["rows","sheets","told","waiting","number","missing"]) (jx:=[none,some 2]) rfl rfl rfl (by decide +kernel) (by decide +kernel) rfl (by decide +kernel) rfl (by decide +kernel)) rfl vW.nd rfl rfl (cU (aL cu zZ hr (aa (bq bf (pv 0) (pv 4) (fun _ _=>rfl)) ah))) (fun _ _ _ _ _ _=>(aY (i:=0) (show List.Nodup (["other","told"]:List Str) by decide +kernel) rfl (Or.inl rfl))) (fun _ _ _ _ _ _=>Ig (CG (BZ hu (pv 0) (pv 1)))) (fun _ _ _ _ _ _=>(pv 0)))
   (ao (cC (mU (pv 5) (fun _=>rfl))
   (ao (bw (je qd r9 sf cA (pv 3) (aa (bq bf (pv 5) aA (fun _ _=>rfl)) ah))))
   (ak (vR hu (pv 2) (pv 4) pH rfl)
   (ao (bw (Qo qd PySem.F.slot_list_pop PySem.F.type_list_pop Qp (pv 3))))))))))
   (ao (aR (eV (GU rfl) rfl T.lG vD (aa (pv 2) ah))))))),?_⟩
 intro S hS
 have s1:aF H (upd H S (.dK [])):=aj hS _
 refine⟨_,rfl,L,_,rfl,.inl (bF.of (s1 _ _ hL)),fun W hW=>?_⟩
 have s2:=s1.trans (aj hW (.lst (ss.map V.int)))
 have RT:H W=none:=by
  cases e:H W with
  | none=>rfl
  | some o=>exact absurd ((s1 _ _ e).symm.trans hW) (by simp)
 have Pa:W≠S:=(au af hW).symm
 refine⟨O9 rows rk H r L W S ss,⟨_,ss,[],[],[],none,none,rfl,⟨(by rw[af,nA]),aj hW _ _ _ af,s2,rfl,⟨(fun x hx=>by cases hx),fun i x hi=>by simp at hi⟩,(fun x hx=>hin x (by simpa using hx)),by simp,by simp,by simp,(fun s hs=>.inl hs),?_,hsl⟩,rfl⟩,?_⟩
 ·have:=LK rows.length (fun i=>(cj ([]:List (Key × V)) (Sum.inl (i:Int))).isNone)
  show 0+cnt rows.length _≤_
  omega
 rintro m σ H2 ⟨bs,ps,ks,kvs,u,v,rfl,B,rfl⟩
 refine⟨_,rfl,!((bs++ps).map V.int).isEmpty,.inl ⟨_,bF.of B.hW,rfl⟩,?_⟩
 rcases B.top with en|⟨bs',ps',n,t⟩
 ·have e2:(!((bs++ps).map V.int).isEmpty)=false:=by rw[en];rfl
  rw[e2]
  refine iL ?_
  have ek:kvs.map (fun p=>kV p.1)=ks.map V.int:=by
   have z:kvs.map (fun p=>kV p.1)=(kvs.map (·.1)).map kV:=by rw[List.map_map];rfl
   rw[z,B.ky,List.map_map]
   rfl
  have kl:ks.length=kvs.length:=by
   have z:=congrArg List.length B.ky
   rw[cO,cO]at z
   exact z.symm
  have VL:=B.kl
  refine⟨_,rfl,S,kvs,rfl,B.hS,fun l hl=>?_⟩
  refine k ks l _ (by rw[af,ek]) (B.sm.trans (aj hl _)) B.tp (fun s hs=>(B.st s hs).elim (fun z=>?_) id) (by omega) ?_
  ·rw[(List.append_eq_nil_iff.mp en).1]at z
   cases z
  cases e:H l with
  | none=>rfl
  | some o=>exact absurd ((B.sm _ _ e).symm.trans hl) (by simp)
 have eW:=B.hW
 rw[t.eq]at eW
 rw[t.eq]
 refine dQ (fun _=>?_) (fun z=>absurd (by simp) z)
 refine⟨fun σ' H'=>∃ m',m'<100*miss rows.length kvs+(bs.length+50-ps.length)∧O9 rows rk H r L W S ss m' σ' H',fun σ' H' z=>z,?_⟩
 have an:wK ((bs'++ps'++[n]).map V.int) (-1)=some (.int n):=by rw[nu];exact fH _ _
 obtain⟨n0,n1⟩:=B.rg n (by rw[t.eq];simp)
 have tl:=t.le
 have Nb:=t.bl
 have pl:=G3 B.rb
 have pl':=G3 t.rb
 have bbl:=B.bl
 obtain⟨es,nR⟩:∃ es,rows[n.toNat]?=some es:=⟨_,qM (by omega)⟩
 have T3:=hes es (vB nR)
 obtain⟨G4,hr2,vX⟩:=hR.same B.sm
 obtain⟨vi,N9,hI⟩:=vX.get' (i:=n.toNat) (b:=itemsOf es) (by rw[kM,nR];rfl)
 obtain⟨b,MR,rfl,hb,hit⟩:=id hI
 have hil:=qC es []
 have LX:wK G4 n=some (.ref b):=by
  have z:=eL N9
  rw[show ((n.toNat:Nat):Int)=n by omega]at z
  exact z
 refine⟨_,rfl,_,rfl,W,_,_,_,rfl,rfl,bF.of eW,an,?_⟩
 refine⟨_,rfl,_,rfl,r,_,_,_,rfl,rfl,bF.of hr2,LX,b,itemsOf es,rfl,hI,?_,fun z H4 hz s4 nz=>?_⟩
 ·show (es.foldl aO []).length≤_
  simp only[oj]at hil
  omega
 rw[jN]at hz
 have adV:(jU es).length≤es.length:=List.length_filterMap_le _ es
 have T4:=s4 _ _ B.hS
 have hW4:=s4 _ _ eW
 refine⟨z,rfl,⟨_,bF.of hz⟩,fun acc hacc=>oO (K:=K) (a:=z) (xs:=(jU es).map V.int) (fun i σ H5=>∃ u:Option V,σ=[u,some (.ref S)]∧H5 acc=some (.lst ((((jU es).take i).filter (fun y=>(cj kvs (Sum.inl y)).isNone)).map V.int))∧aF H4 H5) ⟨none,rfl,af,aj hacc _⟩ (fun i σ H5 _ ⟨_,_,_,s5⟩=>bF.of (s5 _ _ hz)) ?_ ?_⟩
 ·rintro i x σ H5 hi ⟨u,rfl,h5,s5⟩
  rw[kM]at hi
  obtain⟨y,ey,rfl⟩:=Option.map_eq_some_iff.mp hi
  have st:=take_snoc ey
  have bl:(((jU es).take i).filter (fun y=>(cj kvs (Sum.inl y)).isNone)).length≤1000:=by
   have z:=List.length_filter_le (fun y=>(cj kvs (Sum.inl y)).isNone) ((jU es).take i)
   rw[kK]at z
   omega
  refine⟨_,rfl,_,rfl,S,_,rfl,mC.k (k:=Sum.inl y) (s5 _ _ T4),_,rfl,?_⟩
  cases ev:cj kvs (Sum.inl y) with
  | none =>
   refine lW ⟨_,rfl,_,h5,(by rw[cO];exact aM (by omega)),_,rfl,?_,ck hacc s5 (aJ acc _ _)⟩
   rw[af,st,List.filter_append,List.filter_cons_of_pos (p:=fun y=>(cj kvs (Sum.inl y)).isNone) (by rw[ev];rfl),nu]
   rfl
  | some o =>
   refine iL ⟨_,rfl,?_,s5⟩
   rw[st,List.filter_append,List.filter_cons_of_neg (p:=fun y=>(cj kvs (Sum.inl y)).isNone) (by rw[ev];exact ue),List.filter_nil,nA]
   exact h5
 rintro σ H5 ⟨u,rfl,h5,s5⟩
 rw[cO,kO]at h5
 have VM:=s5 _ _ T4
 have hW5:=s5 _ _ hW4
 have sm5:=B.sm.trans (s4.trans s5)
 have VL:=B.kl
 refine⟨_,rfl,_,.inl ⟨_,bF.of h5,rfl⟩,?_⟩
 cases em:(jU es).filter (fun y=>(cj kvs (Sum.inl y)).isNone) with
 | nil =>
  refine iL ?_
  have adY:∀ y,Cb rows n y→y∈ks:=by
   rintro y ⟨_,es',he',hy⟩
   rw[nR]at he'
   cases he'
   rw[← Cg B.ky]
   have z:=List.filter_eq_nil_iff.mp em y hy
   unfold seen
   cases q:cj kvs (Sum.inl y) with
   | none=>rw[q]at z;exact absurd rfl z
   | some o=>rfl
  refine⟨_,rfl,_,rfl,S,_,rfl,C1.k (k:=Sum.inl n) VM (aM (by omega)),?_⟩
  have QX:(upd H5 S (.dK (putK kvs (Sum.inl n) (.bl true)))) W=some (.lst ((bs'++ps'++[n]).map V.int)):=by rw[aC Pa];exact hW5
  refine⟨_,rfl,.inl ⟨rfl,_,bF.of QX⟩,W,_,.int n,rfl,rfl,QX,(by simp),?_⟩
  have ee:((bs'++ps'++[n]).map V.int).dropLast=(bs'++ps').map V.int:=by rw[nu (l₁:=bs'++ps'),List.map_singleton,List.dropLast_concat]
  rw[ee]
  have rg':∀ x∈bs'++ps',0≤x∧x<rows.length:=fun x hx=>B.rg x (by rw[t.eq];exact List.mem_append_left _ hx)
  cases en:cj kvs (Sum.inl n) with
  | none =>
   have mp:=E5 (n:=rows.length) (.bl true) n0 n1 en
   refine⟨100*miss rows.length (putK kvs (Sum.inl n) (.bl true))+(bs'.length+50-ps'.length),by omega,bs',ps',ks++[n],putK kvs (Sum.inl n) (.bl true),_,_,rfl,⟨af,(by rw[aC Pa.symm,af]),ck RT (ck hS sm5 (aJ S _ _)) (aJ W _ _),?_,B.tp.snoc n0 n1 adY,rg',fun x hx=>?_,t.pw,t.rb,fun s hs=>?_,?_,by omega⟩,rfl⟩
   ·rw[zN _ en,nu,B.ky,nu]
    rfl
   ·intro q
    rcases (sN _).mp q with e|e
    ·exact (t.ns x hx).2 e
    ·exact (t.ns x hx).1 e
   ·rcases t.st s hs with q|q|q
    ·exact .inl q
    ·exact .inr (by rw[q];simp)
    ·exact .inr (List.mem_append_left _ q)
   ·rw[zN _ en,eG,vA]at *
    omega
  | some o =>
   have sn:seen kvs n:=by unfold seen;rw[en];rfl
   have so:=t.old sn
   have sp:∀ x,seen (putK kvs (Sum.inl n) (.bl true)) x↔seen kvs x:=fun x=>by
    rw[sN]
    exact⟨fun z=>z.elim (fun e=>by rw[e];exact sn) id,.inr⟩
   have ms:miss rows.length (putK kvs (Sum.inl n) (.bl true))=miss rows.length kvs:=by
    refine LJ _ fun i _=>?_
    have z:=sp (i:Int)
    unfold seen at z
    cases q1:cj (putK kvs (Sum.inl n) (.bl true)) (Sum.inl (i:Int)) with
    | none =>
     cases q2:cj kvs (Sum.inl (i:Int)) with
     | none=>rfl
     | some o2=>rw[q1,q2]at z;exact absurd (z.mpr rfl) ue
    | some o1 =>
     cases q2:cj kvs (Sum.inl (i:Int)) with
     | none=>rw[q1,q2]at z;exact absurd (z.mp rfl) ue
     | some o2=>rfl
   have kn:n∈ks:=(Cg B.ky n).mp sn
   refine⟨100*miss rows.length (putK kvs (Sum.inl n) (.bl true))+(bs'.length+50-ps'.length),by rw[ms];omega,bs',ps',ks,putK kvs (Sum.inl n) (.bl true),_,_,rfl,⟨af,(by rw[aC Pa.symm,af]),ck RT (ck hS sm5 (aJ S _ _)) (aJ W _ _),?_,B.tp,rg',fun x hx q=>(t.ns x hx).1 ((sp x).mp q),t.pw,t.rb,fun s hs=>?_,?_,by omega⟩,rfl⟩
   ·rw[Ci _ (by rw[en];rfl),B.ky]
   ·rcases t.st s hs with q|q|q
    ·exact .inl q
    ·exact .inr (by rw[q];exact kn)
    ·exact .inr q
   ·have z:=congrArg List.length (Ci (kvs:=kvs) (k:=Sum.inl n) (.bl true) (by rw[en];rfl))
    rw[cO,cO]at z
    rw[z,ms]
    exact VL
 | cons y ts =>
  refine lW ?_
  rw[em]at h5
  have ym:y∈(jU es).filter (fun y=>(cj kvs (Sum.inl y)).isNone):=by rw[em];simp
  obtain⟨yw,yn⟩:=List.mem_filter.mp ym
  have RU:Cb rows n y:=⟨n0,es,nR,yw⟩
  obtain⟨y0,y1⟩:=LW.QM RU
  obtain⟨up1,up2⟩:=t.up y (hrb y) (hrk n y RU)
  have wl:=congrArg List.length t.eq
  rw[eG]at wl
  refine⟨_,rfl,.inl ⟨rfl,_,bF.of hW5⟩,_,rfl,acc,_,_,_,rfl,rfl,bF.of h5,eL (xs:=V.int y::ts.map V.int) (j:=0) rfl,W,_,_,rfl,rfl,hW5,(by rw[cO,← wl];exact aM (by omega)),?_⟩
  have pl2:=G3 up2
  rw[eG,vA]at pl2
  refine⟨100*miss rows.length kvs+(bs.length+50-(ps++[y]).length),?_,bs,ps++[y],ks,kvs,_,_,rfl,⟨(by rw[af,← qw,t.eq,nu (l₁:=bs'++ps'++[n])];rfl),(by rw[aC Pa.symm];exact VM),ck RT sm5 (aJ W _ _),B.ky,B.tp,fun x hx=>?_,fun x hx=>?_,up1,up2,B.st,VL,bbl⟩,rfl⟩
  ·rw[eG,vA];omega
  ·rw[← qw]at hx
   rcases List.mem_append.mp hx with q|q
   ·exact B.rg x q
   ·have:x=y:=by simpa using q
    subst this
    exact⟨y0,y1⟩
  ·rcases List.mem_append.mp hx with q|q
   ·exact B.ns x q
   ·have:x=y:=by simpa using q
    subst this
    intro q
    unfold seen at q
    cases w:cj kvs (Sum.inl x) with
    | none=>rw[w]at q;cases q
    | some o=>rw[w]at yn;cases yn
structure Bfs(rows:eF)(H:Hp)(W S:Addr)(s g:Int)(extra:Int→Prop)(H2:Hp)(vs:List V)(wl:eF)(kvs:List (Key × V)):Prop where
 hW:H2 W=some (.lst vs)
 hl:bK (iz (fun a=>a=W∨a=S) H2) vs wl
 hS:H2 S=some (.dK kvs)
 sm:aF H H2
 wk:∀ w∈wl,Walk (Cb rows) s w∧w.length≤kvs.length+1∧∃ e,w.getLast?=some e∧0≤e∧e<rows.length
 kl:kvs.length+miss rows.length kvs≤rows.length
 cl:∀ x,(x=s∨seen kvs x)→(∃ w∈wl,w.getLast?=some x)∨extra x∨∀ y,Cb rows x y→y≠g∧seen kvs y
inductive ID(vs:List V)(H:Hp)(Q:VK)(E:XK):Prop
 | mk (r:Addr) (rows:eF) (s g:Int) (_:vs=[.ref r,.int s,.int g]) (_:iy H r (rows.map itemsOf)) (_:rows.length≤1000) (_:(∀ es∈rows,es.length≤1000)) (_:Sound rows) (_:0≤s) (_:s<rows.length) (_:(∀ (way:List Int) (o:Addr) (H':Hp),H' o=some (.lst (way.map V.int))→aF H H'→Walk (Cb rows) s way→2≤way.length→way.length≤2000→way.getLast?=some g→Q (.ref o) H')) (_:(¬ Reach (Cb rows) s g→∀ H',aF H H'→Q .jJ H')):ID vs H Q E
theorem jY:aG ["rows","start","goal","ways","seen","way","number"] ["rows","start","goal"] (az iO):=⟨rfl,rfl,rfl,by decide +kernel,rfl,by decide +kernel,by decide +kernel⟩
def VN(n:Nat)(W S:Addr):L2.St→Hp→Nat:=fun _ H=>match H W,H S with
 | some (.lst vs),some (.dK kvs)=>2*miss n kvs+vs.length
 | _,_=>0
theorem LY{n:Nat}{W S:Addr}{σ:L2.St}{H:Hp}{vs:List V}{kvs:List (Key × V)}(h1:H W=some (.lst vs))(h2:H S=some (.dK kvs)):VN n W S σ H=2*miss n kvs+vs.length:=by
 unfold VN
 rw[h1,h2]
def Pb(rows:eF)(H:Hp)(r W S:Addr)(s g:Int)(σ:L2.St)(H2:Hp):Prop:=∃ (vs:List V) (wl:eF) (kvs:List (Key × V)) (u v:Option V),σ=[some (.ref r),some (.int s),some (.int g),some (.ref W),some (.ref S),u,v]∧Bfs rows H W S s g (fun _=>False) H2 vs wl kvs∧vs.length+2*miss rows.length kvs≤2*rows.length+1
theorem Aa{f fI:Addr}{fd AU:FuncData}(F:iD K "way_between" "way_between" iO f fd)(T:pG mg)(cu:ay K mg "windows" dZ nv fI AU):aB P w K mg base bV 2 f fd Ja ID:=by
 have zZ:aB P w K mg base bV 1 fI AU nv Dc:=zY cu.F T
 refine F.ok jY (fun vs H Q E h=>?_) (fun cdv A outer s0 H vs Q E hr h=>?_)
 ·obtain⟨r,rows,s,g,rfl,_⟩:=h
  rfl
 obtain⟨r,rows,s,g,rfl,hR,hlen,hes,LW,h0,h1,kY,kN⟩:=h
 have hu:=lY hr
 refine⟨_,(ak (aU (i:=3) jY.nd rfl (Or.inl rfl) (bJ (aa (bJ (aa (pv 1) ah)) ah)))
   (ak (aU (i:=4) jY.nd rfl (Or.inl rfl) oN)
   (ak (Es PassesOwn.never (mU (pv 3) (fun _=>rfl)) (ak (aU (i:=5) jY.nd rfl (Or.inl rfl) (je qd PySem.F.slot_list_pop PySem.F.type_list_pop K6 (pv 3) (aa aA ah)))
   (ao (gQ PassesOwn.never rfl (cU (aL cu zZ hr (aa (bq bf (pv 0) (bq bf (pv 5) (kT iJ aA) (fun _ _=>rfl)) (fun _ _=>rfl)) ah))) (aY (i:=6) jY.nd rfl (Or.inl rfl))
   (ak (cC (bR kU (pv 6) (pv 2) (bZ _))
   (ao (aR (bz kZ (pv 5) (bJ (aa (pv 2) ah)))))
   bL)
   (ao (cC (CG (BZ hu (pv 6) (pv 4)))
   (ak (vR hu (pv 4) (pv 6) pH rfl)
   (ao (bw (je qd r9 sf cA (pv 3) (aa (bz kZ (pv 5) (bJ (aa (pv 6) ah))) ah)))))
   bL)))))))
   (ao (aR P5))))),?_⟩
 refine⟨_,rfl,(by show 1≤sizeLine;decide),fun a0 ha0=>⟨(by show 1≤sizeLine;decide),fun W hW=>?_⟩⟩
 intro S hS
 have s1:aF H (upd H a0 (.lst [.int s])):=aj ha0 _
 have s2:=s1.trans (aj hW (.lst [.ref a0]))
 have s3:=s2.trans (aj hS (.dK []))
 have RT:H W=none:=by
  cases e:H W with
  | none=>rfl
  | some o=>exact absurd ((s1 _ _ e).symm.trans hW) (by simp)
 have H0S:H S=none:=by
  cases e:H S with
  | none=>rfl
  | some o=>exact absurd ((s2 _ _ e).symm.trans hS) (by simp)
 have Pa:W≠S:=au af hS
 have n0W:a0≠W:=au af hW
 have n0S:a0≠S:=au (aj hW _ _ _ af) hS
 refine⟨fun m σ H2=>m=VN rows.length W S σ H2∧Pb rows H r W S s g σ H2,⟨_,rfl,?_⟩,?_⟩
 ·have cl:=LK rows.length (fun i=>(cj ([]:List (Key × V)) (Sum.inl (i:Int))).isNone)
  refine⟨[.ref a0],[[s]],[],none,none,rfl,⟨aj hS _ _ _ af,.cons ⟨a0,rfl,(fun z=>z.elim n0W n0S),aj hS _ _ _ (aj hW _ _ _ af)⟩ .nil,af,s3,?_,?_,?_⟩,?_⟩
  ·intro w hw
   have:w=[s]:=by simpa using hw
   subst this
   exact⟨Walk.one _ _,by simp,s,rfl,h0,h1⟩
  ·show 0+miss rows.length []≤rows.length
   unfold miss
   omega
  ·rintro x (rfl|hx)
   ·exact .inl ⟨[x],by simp,rfl⟩
   ·cases hx
  ·show 1+2*miss rows.length []≤_
   unfold miss
   omega
 ·rintro m σ H2 ⟨rfl,vs,wl,kvs,u,v,rfl,B,hml⟩
  rw[LY B.hW B.hS]
  refine⟨_,rfl,!vs.isEmpty,.inl ⟨vs,bF.of B.hW,rfl⟩,?_⟩
  cases vs with
  | nil =>
   refine iL (kN (fun QY=>?_) H2 B.sm)
   have hwl:=B.hl
   cases hwl
   have base:∀ x,(x=s∨seen kvs x)→∀ y,Cb rows x y→y≠g∧seen kvs y:=fun x hx=>by
    rcases B.cl x hx with ⟨w,hw,_⟩|z|z
    ·cases hw
    ·exact z.elim
    ·exact z
   exact (Reach.closed (S:=fun y=>y≠g∧seen kvs y) (base s (.inl rfl)) (fun x y hx=>base x (.inr hx.2) y) QY).1 rfl
  | cons v0 vs' =>
   refine lW ⟨fun σ' H'=>Pb rows H r W S s g σ' H'∧VN rows.length W S σ' H'<2*miss rows.length kvs+(v0::vs').length,fun σ' H' ⟨p,l⟩=>⟨_,l,rfl,p⟩,?_⟩
   obtain⟨hW2,hl2,QL,sm2,wk2,kl2,cl2⟩:=id B
   cases hl2 with
   | @cons _ w0 _ QZ hv0 ad0 =>
   obtain⟨wa,rfl,nwa,hwa⟩:=id hv0
   obtain⟨wkw,wlw,e,hle,e0,e1⟩:=wk2 w0 (by simp)
   have wal:∃ w1,w0=w1++[e]:=by
    rw[List.getLast?_eq_some_iff]at hle
    exact hle
   obtain⟨w1,rfl⟩:=wal
   obtain⟨es,nR⟩:∃ es,rows[e.toNat]?=some es:=⟨_,qM (by omega)⟩
   have ad1:es∈rows:=vB nR
   have T3:=hes es ad1
   refine⟨_,rfl,.inl ⟨rfl,_,bF.of hW2⟩,W,_,0,0,.ref wa,rfl,rfl,hW2,by decide,by decide,(by simp[seqIndex?]),rfl,?_⟩
   have ee:(V.ref wa::vs').eraseIdx 0=vs':=rfl
   rw[ee]
   have T5:∀ {v:V} {ns:List Int},iz (fun a=>a=W∨a=S) H2 v ns→iz (fun a=>a=W∨a=S) (upd H2 W (.lst vs')) v ns:=fun h=>h.at _ (.inl rfl)
   have Q0:aF H (upd H2 W (.lst vs')):=ck RT sm2 (aJ W _ _)
   obtain⟨G4,G2,vX⟩:=hR.same Q0
   obtain⟨vi,N9,hI⟩:=vX.get' (i:=e.toNat) (b:=itemsOf es) (by rw[kM,nR];rfl)
   obtain⟨b,MR,rfl,hb,hit⟩:=id hI
   have ad2:(upd H2 W (.lst vs')) wa=some (.lst (w1.map V.int++[.int e])):=by
    rw[aC (fun z=>nwa (.inl z)),hwa,nu]
    rfl
   have hil:=qC es []
   refine⟨_,rfl,_,rfl,_,rfl,wa,_,_,_,rfl,rfl,bF.of ad2,fH _ _,r,_,_,_,rfl,rfl,bF.of G2,?_,b,itemsOf es,rfl,hI,?_,fun z H4 hz s4 nz=>?_⟩
   ·have z:=eL N9
    rw[show ((e.toNat:Nat):Int)=e by omega]at z
    exact z
   ·show (es.foldl aO []).length≤_
    simp only[oj]at hil
    omega
   rw[jN]at hz
   have hW3:(upd H2 W (.lst vs')) W=some (.lst vs'):=af
   have JS:(upd H2 W (.lst vs')) S=some (.dK kvs):=by rw[aC Pa.symm];exact QL
   have nzW:z≠W:=(au hW3 nz).symm
   have nzS:z≠S:=(au JS nz).symm
   have adV:(jU es).length≤es.length:=List.length_filterMap_le _ es
   refine⟨z,rfl,⟨_,bF.of hz⟩,ie (K:=K) (a:=z) (xs:=(jU es).map V.int) (fun i σ H5=>∃ (LZ:List V) (Pc:eF) (mD:List (Key × V)) (v:Option V),σ=[some (.ref r),some (.int s),some (.int g),some (.ref W),some (.ref S),some (.ref wa),v] ∧
    Bfs rows H W S s g (fun x=>x=e) H5 LZ Pc mD∧iz (fun a=>a=W∨a=S) H5 (.ref wa) (w1++[e])∧iz (fun a=>a=W∨a=S) H5 (.ref z) (jU es)∧(∀ y∈(jU es).take i,y≠g∧seen mD y)∧LZ.length+2*miss rows.length mD≤vs'.length+2*miss rows.length kvs∧kvs.length≤mD.length) ?_ ?_ ?_ ?_⟩
   ·refine⟨vs',QZ,kvs,_,rfl,⟨s4 _ _ hW3,ad0.mono fun _ _ h=>(T5 h).same s4,s4 _ _ JS,Q0.trans s4,fun w hw=>wk2 w (rX _ hw),kl2,fun x hx=>?_⟩,(T5 hv0).same s4,⟨z,rfl,fun q=>q.elim nzW nzS,hz⟩,(fun y hy=>by simp at hy),iC _,iC _⟩
    rcases cl2 x hx with ⟨w,hw,hwx⟩|q|q
    ·rcases List.mem_cons.mp hw with rfl|hw'
     ·refine .inr (.inl ?_)
      rw[hle]at hwx
      exact (sr hwx).symm
     ·exact .inl ⟨w,hw',hwx⟩
    ·exact q.elim
    ·exact .inr (.inr q)
   ·rintro i σ H5 _ ⟨_,_,_,_,_,_,_,⟨a,ea,_,ha⟩,_⟩
    cases ea
    exact bF.of ha
   ·rintro i x σ H5 hi ⟨LZ,Pc,mD,v,rfl,B5,Oa,hz5,Fd,hm5,hk5⟩
    rw[kM]at hi
    obtain⟨y,ey,rfl⟩:=Option.map_eq_some_iff.mp hi
    have RU:Cb rows e y:=⟨e0,es,nR,vB ey⟩
    obtain⟨y0,y1⟩:=LW.QM RU
    obtain⟨wa',ewa,ad5,Pd⟩:=id Oa
    cases ewa
    have wl0:(w1++[e]).length≤2000:=by have:=B5.kl;omega
    refine⟨_,rfl,_,rfl,rfl,_,rfl,dQ (fun c=>?_) (fun c=>?_)⟩
    ·have eg:y=g:=V.int.inj (of_decide_eq_true c)
     subst eg
     refine⟨_,rfl,_,rfl,(by show 1≤sizeLine;decide),fun b1 hb1=>⟨wa,b1,_,_,rfl,rfl,aj hb1 _ _ _ Pd,af,jI (aM (by rw[cO];simp at wl0 ⊢;omega)),fun o ho=>?_⟩⟩
     refine kY (w1++[e]++[y]) o _ ?_ ((B5.sm.trans (aj hb1 _)).trans (aj ho _)) (wkw.snoc hle RU) (by simp) (by have:=B5.kl;rw[eG,vA];omega) (by simp)
     rw[af,nu (l₁:=w1++[e])]
     rfl
    ·have eg:¬ y=g:=fun q=>c (decide_eq_true (congrArg V.int q))
     refine⟨_,rfl,_,rfl,S,_,rfl,mC.k (k:=Sum.inl y) B5.hS,_,rfl,?_⟩
     have Pe:∀ Ob:List (Key × V),(∀ x,seen mD x→seen Ob x)→seen Ob y→∀ y'∈(jU es).take (i+1),y'≠g∧seen Ob y':=fun Ob hmono hy y' hy'=>by
      rw[take_snoc ey]at hy'
      rcases List.mem_append.mp hy' with q|q
      ·exact⟨(Fd y' q).1,hmono _ (Fd y' q).2⟩
      ·have:y'=y:=by simpa using q
       subst this
       exact⟨eg,hy⟩
     cases ev:cj mD (Sum.inl y) with
     | some o1 =>
      refine iL ?_
      exact⟨LZ,Pc,mD,_,rfl,B5,Oa,hz5,Pe mD (fun _ q=>q) (by unfold seen;rw[ev];rfl),hm5,hk5⟩
     | none =>
      refine lW ?_
      have VL:=B5.kl
      refine⟨_,rfl,_,rfl,S,_,rfl,C1.k (k:=Sum.inl y) B5.hS (aM (by omega)),?_⟩
      have e6:∀ {v:V} {ns:List Int},iz (fun a=>a=W∨a=S) H5 v ns→iz (fun a=>a=W∨a=S) (upd H5 S (.dK (putK mD (Sum.inl y) (.bl true)))) v ns:=fun h=>h.at _ (.inr rfl)
      have s6:aF H (upd H5 S (.dK (putK mD (Sum.inl y) (.bl true)))):=ck H0S B5.sm (aJ S _ _)
      have QX:(upd H5 S (.dK (putK mD (Sum.inl y) (.bl true)))) W=some (.lst LZ):=by rw[aC Pa];exact B5.hW
      have T6:(upd H5 S (.dK (putK mD (Sum.inl y) (.bl true)))) wa=some (.lst ((w1++[e]).map V.int)):=by rw[aC (fun q=>ad5 (.inr q))];exact Pd
      have Q2:(upd H5 S (.dK (putK mD (Sum.inl y) (.bl true)))) S=some (.dK (putK mD (Sum.inl y) (.bl true))):=af
      generalize upd H5 S (.dK (putK mD (Sum.inl y) (.bl true)))=H6 at e6 s6 QX T6 Q2
      have vl:LZ.length<sizeLine:=aM (by simp only[ny]at hml;omega)
      refine⟨_,rfl,.inl ⟨rfl,_,bF.of QX⟩,_,rfl,_,rfl,(by show 1≤sizeLine;decide),fun b1 hb1=>⟨wa,b1,_,_,rfl,rfl,aj hb1 _ _ _ T6,af,jI (aM (by rw[cO];simp at wl0 ⊢;omega)),fun o ho=>⟨W,_,_,rfl,rfl,aj ho _ _ _ (aj hb1 _ _ _ QX),vl,?_⟩⟩⟩
      have s7:aF H6 (upd H6 b1 (.lst [.int y])):=aj hb1 _
      have s8:=s7.trans (aj ho (.lst ((w1++[e]).map V.int++[.int y])))
      have noW:o≠W:=(au (s7 _ _ QX) ho).symm
      have T7:o≠S:=(au (s7 _ _ Q2) ho).symm
      have e9:∀ {v:V} {ns:List Int},iz (fun a=>a=W∨a=S) H5 v ns→iz (fun a=>a=W∨a=S) (upd (upd (upd H6 b1 (.lst [.int y])) o (.lst ((w1++[e]).map V.int++[.int y]))) W (.lst (LZ++[.ref o]))) v ns:=fun h=>((e6 h).same s8).at _ (.inl rfl)
      have mp:=E5 (n:=rows.length) (.bl true) y0 y1 ev
      have pl:(putK mD (Sum.inl y) (.bl true)).length=mD.length+1:=by rw[zN _ ev];simp
      have mono:∀ x,seen mD x→seen (putK mD (Sum.inl y) (.bl true)) x:=fun x q=>(sN _).mpr (.inr q)
      have sy:seen (putK mD (Sum.inl y) (.bl true)) y:=(sN _).mpr (.inl rfl)
      refine⟨LZ++[.ref o],Pc++[w1++[e]++[y]],putK mD (Sum.inl y) (.bl true),_,rfl,⟨af,bK.snoc (B5.hl.mono fun _ _ h=>e9 h) ⟨o,rfl,fun q=>q.elim noW T7,?_⟩,?_,ck RT (s6.trans s8) (aJ W _ _),?_,?_,?_⟩,e9 Oa,e9 hz5,Pe _ mono sy,?_,?_⟩
      ·rw[aC noW,af,nu (l₁:=w1++[e])]
       rfl
      ·rw[aC Pa.symm]
       exact s8 _ _ Q2
      ·intro w hw
       rcases List.mem_append.mp hw with q|q
       ·obtain⟨q1,q2,q3⟩:=B5.wk w q
        exact⟨q1,by omega,q3⟩
       ·have:w=w1++[e]++[y]:=by simpa using q
        subst this
        refine⟨wkw.snoc hle RU,?_,y,by simp,y0,y1⟩
        rw[eG,vA,pl]
        omega
      ·omega
      ·intro x hx
       have old:(x=s∨seen mD x)→(∃ w∈Pc++[w1++[e]++[y]],w.getLast?=some x)∨x=e∨∀ y_1,Cb rows x y_1→y_1≠g∧seen (putK mD (Sum.inl y) (.bl true)) y_1:=fun q=>by
        rcases B5.cl x q with ⟨w,hw,hl⟩|q|q
        ·exact .inl ⟨w,List.mem_append_left _ hw,hl⟩
        ·exact .inr (.inl q)
        ·exact .inr (.inr fun y' hy'=>⟨(q y' hy').1,mono _ (q y' hy').2⟩)
       rcases hx with q|q
       ·exact old (.inl q)
       ·rcases (sN _).mp q with rfl|q'
        ·exact .inl ⟨w1++[e]++[x],by simp,by simp⟩
        ·exact old (.inr q')
      ·rw[eG,vA]
       omega
      ·omega
   ·rintro σ H5 ⟨LZ,Pc,mD,v,rfl,B5,Oa,hz5,Fd,hm5,hk5⟩
    rw[cO,kO]at Fd
    have B6:Bfs rows H W S s g (fun _=>False) H5 LZ Pc mD:=⟨B5.hW,B5.hl,B5.hS,B5.sm,B5.wk,B5.kl,fun x hx=>by
     rcases B5.cl x hx with q|rfl|q
     ·exact .inl q
     ·refine .inr (.inr fun y hy=>Fd y ?_)
      obtain⟨_,es',he',hy'⟩:=hy
      rw[nR]at he'
      cases he'
      exact hy'
     ·exact .inr (.inr q)⟩
    simp only[ny]at hml
    refine⟨⟨LZ,Pc,mD,_,_,rfl,B6,by omega⟩,?_⟩
    rw[LY B6.hW B6.hS,ny]
    omega
inductive G5(vs:List V)(H:Hp)(Q:VK)(E:XK):Prop
 | mk (r:Addr) (s:Int) (_:vs=[.ref r,.int s]) (_:ID [.ref r,.int s,.int s] H Q E):G5 vs H Q E
theorem Q3:aG ["rows","sheet"] ["rows","sheet"] (az BG):=⟨rfl,rfl,rfl,by decide +kernel,rfl,by decide +kernel,by decide +kernel⟩
theorem Oc{f fI fJ:Addr}{fd AU fdJ:FuncData}(F:iD K "ring" "ring" BG f fd)(T:pG mg)(cu:ay K mg "windows" dZ nv fI AU)(jP:ay K mg "way_between" iO Ja fJ fdJ):aB P w K mg base bV 3 f fd wN G5:=by
 have Dd:aB P w K mg base bV 2 fJ fdJ Ja ID:=Aa jP.F T cu
 refine F.ok Q3 (fun vs H Q E h=>?_) (fun cdv A outer s H vs Q E hr h=>?_)
 ·obtain⟨r,s,rfl,_⟩:=h
  rfl
 obtain⟨r,s,rfl,h⟩:=h
 refine⟨_,(ao (aR (aL jP Dd hr (aa (pv 0) (aa (pv 1) (aa (pv 1) ah)))))),?_⟩
 refine⟨_,rfl,_,rfl,_,rfl,?_⟩
 obtain⟨r',rows,s',g,e,h1,h2,h3,h4,h5,h6,kY,kN⟩:=h
 cases e
 exact⟨r,rows,s,s,rfl,h1,h2,h3,h4,h5,h6,kY,kN⟩
def G6(f:Int→Int)(es:List Int):Int:=(es.map fun e=>if e<0 then 1+f (-1-e) else 1).sum
def De(f:Int→Int):Item→Int
 | .win n=>1+f n
 | .aH a b=>b-a
def Fe(f:Int→Int)(its:List Item):Int:=(its.map (De f)).sum
theorem oS(f:Int→Int)(a b:List Item):Fe f (a++b)=Fe f a+Fe f b:=by unfold Fe;rw[nu,List.sum_append]
theorem L0(f:Int→Int)(t:List Item)(e:Int):Fe f (aO t e)=Fe f t+(if e<0 then 1+f (-1-e) else 1):=by
 unfold aO
 by_cases h:e<0
 ·rw[if_pos h,if_pos h,oS]
  simp[Fe,De]
 ·rw[if_neg h,if_neg h]
  rcases sj t with rfl|⟨t',l,rfl⟩
  ·simp[Fe,De]
   omega
  ·rw[qv,vE]
   cases l with
   | win n =>
    show Fe f (t'++[Item.win n]++[.aH e (e+1)])=_
    rw[oS]
    simp[Fe,De]
    omega
   | aH a b =>
    show Fe f (if b=e then (t'++[Item.aH a b]).dropLast++[.aH a (e+1)] else (t'++[Item.aH a b])++[.aH e (e+1)])=_
    by_cases hb:b=e
    ·rw[if_pos hb,List.dropLast_concat,oS,oS]
     simp[Fe,De]
     omega
    ·rw[if_neg hb,oS]
     simp[Fe,De]
     omega
theorem JT(f:Int→Int)(es:List Int):Fe f (itemsOf es)=G6 f es:=by
 have z:∀ t:List Item,Fe f (es.foldl aO t)=Fe f t+G6 f es:=by
  induction es with
  | nil=>intro t;simp[G6]
  | cons e es ih =>
   intro t
   rw[qe,ih,L0]
   unfold G6
   rw[lU,List.sum_cons]
   omega
 have:=z []
 unfold itemsOf
 rw[this]
 simp[Fe]
def Weighs(rows:eF)(f:Int→Int):Prop:=∀ (x:Int) (es:List Int),0≤x→rows[x.toNat]?=some es→f x=G6 f es
inductive Q4(vs:List V)(H:Hp)(Q:VK)(E:XK):Prop
 | mk (v:V) (it:Item) (S:Addr) (kvs:List (Key × V)) (f:Int→Int) (_:vs=[v,.ref S]) (_:cy H v it) (_:H S=some (.dK kvs)) (_:(∀ n,it=.win n→cj kvs (Sum.inl n)=some (.int (f n)))) (_:Q (.int (De f it)) H):Q4 vs H Q E
theorem Bd:aG ["item","weights"] ["item","weights"] (az iP):=⟨rfl,rfl,rfl,by decide +kernel,rfl,by decide +kernel,by decide +kernel⟩
theorem Ab{g:Addr}{fd:FuncData}(F:iD K "item_weight" "item_weight" iP g fd)(T:pG mg):aB P w K mg base bV 1 g fd Jb Q4:=by
 refine F.ok Bd (fun vs H Q E h=>?_) (fun cdv A outer s H vs Q E hr h=>?_)
 ·obtain⟨v,it,S,kvs,f,rfl,_⟩:=h
  rfl
 obtain⟨v,it,S,kvs,f,rfl,⟨a,rfl,ha⟩,hS,hw,k⟩:=h
 have hu:=lY hr
 refine⟨_,(ak (cC (bR kU (bq dm (pv 0) aA (fun _ _=>rfl)) bO (bZ _))
   (ao (aR (bz eZ aA (dX hu (pv 1) (bq dm (pv 0) aA (fun _ _=>rfl)) (fun _ _=>rfl)))))
   bL)
   (ao (aR (bz gR (bq dm (pv 0) aA (fun _ _=>rfl)) (bq dm (pv 0) aA (fun _ _=>rfl)))))),?_⟩
 cases it with
 | win n =>
  refine⟨_,rfl,a,_,_,_,rfl,rfl,jc.of ha,rfl,rfl,_,rfl,dQ (fun _=>?_) (fun z=>absurd (by decide) z)⟩
  have z:=mC.k (k:=Sum.inl n) hS
  rw[hw n rfl]at z
  exact⟨_,rfl,_,rfl,a,_,_,_,rfl,rfl,jc.of ha,rfl,S,_,rfl,z,_,_,rfl,rfl,k⟩
 | aH p q =>
  refine⟨_,rfl,a,_,_,_,rfl,rfl,jc.of ha,rfl,rfl,_,rfl,dQ (fun z=>absurd z (by decide)) (fun _=>?_)⟩
  exact⟨_,rfl,a,_,_,_,rfl,rfl,jc.of ha,rfl,_,rfl,a,_,_,_,rfl,rfl,jc.of ha,rfl,_,_,rfl,rfl,k⟩
inductive uV(vs:List V)(H:Hp)(Q:VK)(E:XK):Prop
 | mk (r L:Addr) (rows:eF) (ss:List Int) (f:Int→Int) (_:vs=[.ref r,.ref L]) (_:iy H r (rows.map itemsOf)) (_:H L=some (.lst (ss.map V.int))) (_:ss.length≤1000) (_:rows.length≤1000) (_:(∀ es∈rows,es.length≤1000)) (_:Sound rows) (_:Io rows) (_:(∀ s∈ss,0≤s∧s<rows.length)) (_:Weighs rows f) (_ :
 ∀ (S:Addr) (kvs:List (Key × V)) (H':Hp),H' S=some (.dK kvs)→(∀ s∈ss,cj kvs (Sum.inl s)=some (.int (f s)))→aF H H'→H S=none→Q (.ref S) H'):uV vs H Q E
theorem nE:aG ["rows","sheets","weights","number"] ["rows","sheets"] (az fy):=⟨rfl,rfl,rfl,by decide +kernel,rfl,by decide +kernel,by decide +kernel⟩
theorem xA{g fI fB fW:Addr}{fd AU Od Iz:FuncData}(F:iD K "weights_below" "weights_below" fy g fd)(T:pG mg)(cu:ay K mg "windows" dZ nv fI AU)(jz:ay K mg "below" ly lS fB Od)(jQ:ay K mg "item_weight" iP Jb fW Iz):aB P w K mg base bV 3 g fd lS uV:=by
 have G7:aB P w K mg base bV 2 fB Od lS yW:=Fc jz.F T cu
 have Df:aB P w K mg base bV 1 fW Iz Jb Q4:=Ab jQ.F T
 refine F.ok nE (fun vs H Q E h=>?_) (fun cdv A outer s0 H vs Q E hr h=>?_)
 ·obtain⟨r,L,rows,ss,f,rfl,_⟩:=h
  rfl
 obtain⟨r,L,rows,ss,f,rfl,hR,hL,hsl,hlen,hes,LW,hrk,hin,hf,k⟩:=h
 have hu:=lY hr
 refine⟨_,(ak (aU (i:=2) nE.nd rfl (Or.inr rfl) oN)
   (ak (gQ PassesOwn.never rfl (cU (aL jz G7 hr (aa (pv 0) (aa (pv 1) ah)))) (aY (i:=3) nE.nd rfl (Or.inl rfl))
   (ao (vR hu (pv 2) (pv 3) (aV (EG rfl) rfl T.O6 PyProof.Rows.boot_sum (aa (qB (N:=["item","weights"]) (yh (sc:=az fy) (NX:=["rows","sheets","weights","number"]) (jx:=[none,some 2]) rfl rfl rfl (by decide +kernel) (by decide +kernel) rfl (by decide +kernel) rfl (by decide +kernel)) rfl (cU (bq bf (pv 0) (pv 3) (fun _ _=>rfl))) (fun _ _ _ _ _ _=>(aY (i:=0) (show List.Nodup (["item","weights"]:List Str) by decide +kernel) rfl (Or.inl rfl))) (fun _ _ _ _ _ _=>mQ) (fun _ _ _ _ _ _=>(aL jQ Df hr (aa (pv 0) (aa (pv 1) ah))))) ah)) rfl)))
   (ao (aR (pv 2))))),?_⟩
 intro S hS
 have s1:aF H (upd H S (.dK [])):=aj hS _
 refine⟨_,rfl,_,rfl,r,L,rows,ss,rfl,hR.same s1,s1 _ _ hL,hsl,hlen,hes,LW,hrk,hin,fun ks o H2 ho s2 tp sk kl hno=>?_⟩
 have QL:=s2 _ _ (af (H:=H) (a:=S) (o:=.dK []))
 have T7:o≠S:=(au af hno).symm
 refine⟨o,rfl,⟨_,bF.of ho⟩,ie (K:=K) (a:=o) (xs:=ks.map V.int) (fun i σ H3=>∃ (kvs:List (Key × V)) (u:Option V),σ=[some (.ref r),some (.ref L),some (.ref S),u]∧H3 S=some (.dK kvs)∧(∀ y∈ks.take i,cj kvs (Sum.inl y)=some (.int (f y)))∧kvs.length≤i∧(∀ a ob,a≠S→H2 a=some ob→H3 a=some ob)) ⟨[],none,rfl,QL,(fun y hy=>by simp at hy),iC _,fun _ _ _ e=>e⟩ ?_ ?_ ?_⟩
 ·rintro i σ H3 _ ⟨_,_,_,_,_,_,k3⟩
  exact bF.of (k3 o _ T7 ho)
 ·rintro i x σ H3 hi ⟨kvs,u,rfl,JS,Kl,hk3,k3⟩
  rw[kM]at hi
  obtain⟨x,ex,rfl⟩:=Option.map_eq_some_iff.mp hi
  obtain⟨x0,x1⟩:=tp.Ef x (vB ex)
  obtain⟨es,nR⟩:∃ es,rows[x.toNat]?=some es:=⟨_,qM (by omega)⟩
  have T3:=hes es (vB nR)
  have Q0:aF H H3:=fun a ob e=>k3 a ob (au e hS) (s2 _ _ (s1 _ _ e))
  obtain⟨G4,G2,vX⟩:=hR.same Q0
  obtain⟨vi,N9,hI⟩:=vX.get' (i:=x.toNat) (b:=itemsOf es) (by rw[kM,nR];rfl)
  obtain⟨b,MR,rfl,hb,hit⟩:=id hI
  have hil:=qC es []
  have alO:(itemsOf es).length≤1000:=by
   show (es.foldl aO []).length≤_
   simp only[oj]at hil
   omega
  have LX:wK G4 x=some (.ref b):=by
   have z:=eL N9
   rw[show ((x.toNat:Nat):Int)=x by omega]at z
   exact z
  refine⟨_,rfl,_,rfl,r,_,_,_,rfl,rfl,bF.of G2,LX,b,rfl,⟨_,bF.of hb⟩,fun acc hacc=>oO (K:=K) (a:=b) (xs:=MR) (fun j σ H5=>∃ u:Option V,σ=[u,some (.ref S)]∧H5 acc=some (.lst ((((itemsOf es).take j).map (De f)).map V.int))∧aF H3 H5) ⟨none,rfl,af,aj hacc _⟩ (fun j σ H5 _ ⟨_,_,_,s5⟩=>bF.of (s5 _ _ hb)) ?_ ?_⟩
  ·rintro j v σ H5 hj ⟨u,rfl,h5,s5⟩
   obtain⟨it,ei,hiv⟩:=hit.get hj
   have st:=take_snoc ei
   unfold vJ Lq
   refine lW ⟨_,rfl,_,rfl,v,it,S,kvs,f,rfl,hiv.same s5,s5 _ _ JS,fun n hn=>?_,?_⟩
   ·subst hn
    refine Kl n (tp.dn i x ex n ⟨x0,es,nR,?_⟩)
    rw[← jN]
    unfold eN
    rw[List.mem_filterMap]
    exact⟨.win n,vB ei,rfl⟩
   ·refine⟨_,h5,(by rw[cO,cO,kK];exact aM (by omega)),_,rfl,?_,ck hacc s5 (aJ acc _ _)⟩
    rw[af,st,nu,nu]
    rfl
  ·rintro σ H5 ⟨u,rfl,h5,s5⟩
   rw[hit.len,kO]at h5
   have es1:((itemsOf es).map (De f)).sum=f x:=by rw[hf x es x0 nR];exact JT f es
   have VM:=s5 _ _ JS
   have kvl:i<ks.length:=by
    rcases Nat.lt_or_ge i ks.length with q|q
    ·exact q
    ·rw[List.getElem?_eq_none q]at ex;cases ex
   refine⟨acc,_,rfl,bF.of h5,?_⟩
   rw[es1]
   refine⟨_,rfl,_,rfl,S,_,rfl,C1.k (k:=Sum.inl x) VM (aM (by omega)),?_⟩
   refine⟨putK kvs (Sum.inl x) (.int (f x)),_,rfl,af,fun y hy=>?_,?_,fun a ob n e=>?_⟩
   ·rw[m6]
    rw[take_snoc ex]at hy
    by_cases c:y=x
    ·rw[if_pos (by rw[c]),c]
    ·rw[if_neg (fun z=>c (Sum.inl.inj z))]
     rcases List.mem_append.mp hy with q|q
     ·exact Kl y q
     ·exact absurd (by simpa using q) c
   ·have:=jw kvs (Sum.inl x) (V.int (f x))
    omega
   ·rw[aC n]
    exact s5 _ _ (k3 a ob n e)
 ·rintro σ H3 ⟨kvs,u,rfl,JS,Kl,hk3,k3⟩
  rw[cO,kO]at Kl
  exact⟨_,rfl,k S kvs H3 JS (fun s hs=>Kl s (sk s hs)) (fun a ob e=>k3 a ob (au e hS) (s2 _ _ (s1 _ _ e))) hS⟩
def rO(g:Int→Row):Item→Row
 | .win n=>g n
 | .aH a b=>[(a,b)]
def m8(sh:Int→List Int)(e:Int):List Int:=if e<0 then sh (-1-e) else [e]
def cM(sh:Int→List Int)(es:List Int):List Int:=es.flatMap (m8 sh)
def Ff(rows:eF)(sh:Int→List Int):Prop:=∀ (x:Int) (es:List Int),0≤x→rows[x.toNat]?=some es→sh x=cM sh es
def aZ(sh:Int→List Int)(its:List Item):Row:=its.flatMap (rO fun n=>rowOf (sh n))
def uF(t:List Item):Prop:=∀ a b,Item.aH a b∈t→a<b
theorem eU(sh:Int→List Int)(a b:List Item):aZ sh (a++b)=aZ sh a++aZ sh b:=by unfold aZ;rw[List.flatMap_append]
theorem mE(sh:Int→List Int)(it:Item):aZ sh [it]=rO (fun n=>rowOf (sh n)) it:=by simp[aZ]
theorem JU(sh:Int→List Int)(t:List Item)(e:Int)(ok:uF t):bx (aZ sh (aO t e))=bx (aZ sh t)++m8 sh e∧uF (aO t e):=by
 have add:∀ it:Item,(∀ a b,it=.aH a b→a<b)→uF (t++[it]):=fun it h a b hm=>by
  rcases List.mem_append.mp hm with z|z
  ·exact ok a b z
  ·exact h a b (List.mem_singleton.mp z).symm
 unfold aO
 by_cases h:e<0
 ·rw[if_pos h]
  refine⟨?_,add _ fun a b z=>by cases z⟩
  rw[eU,cF,mE]
  show _++bx (rowOf (sh (-1-e)))=_
  rw[jr]
  unfold m8
  rw[if_pos h]
 ·rw[if_neg h]
  have one:bx [(e,e+1)]=[e]:=by
   rw[iu]
   unfold span
   have:(e+1-e).toNat=1:=by omega
   show run e (e+1-e).toNat=_
   rw[this]
   rfl
  have es1:m8 sh e=[e]:=by unfold m8;rw[if_neg h]
  have vY:bx (aZ sh (t++[.aH e (e+1)]))=bx (aZ sh t)++m8 sh e∧uF (t++[.aH e (e+1)]):=by
   refine⟨?_,add _ fun a b z=>by cases z;omega⟩
   rw[eU,cF,mE,es1]
   show _++bx [(e,e+1)]=_
   rw[one]
  rcases sj t with rfl|⟨t',l,rfl⟩
  ·exact vY
  ·rw[qv]at ok add vY ⊢
   rw[vE]
   cases l with
   | win n=>exact vY
   | aH a b =>
    show bx (aZ sh (if b=e then (t'++[Item.aH a b]).dropLast++[.aH a (e+1)] else (t'++[Item.aH a b])++[.aH e (e+1)]))=_∧uF (if b=e then (t'++[Item.aH a b]).dropLast++[.aH a (e+1)] else (t'++[Item.aH a b])++[.aH e (e+1)])
    by_cases hb:b=e
    ·subst hb
     have ab:=ok a b (by simp)
     rw[if_pos rfl,List.dropLast_concat]
     refine⟨?_,fun p q hm=>?_⟩
     ·rw[eU,eU,cF,cF,mE,mE,es1,qw]
      congr 1
      show bx [(a,b+1)]=bx [(a,b)]++[b]
      rw[iu,iu]
      unfold span
      show run a (b+1-a).toNat=run a (b-a).toNat++[b]
      have:(b+1-a).toNat=(b-a).toNat+1:=by omega
      rw[this,zE]
      congr 2
      omega
     ·rcases List.mem_append.mp hm with z|z
      ·exact ok p q (List.mem_append_left _ z)
      ·have z':Item.aH p q=Item.aH a (b+1):=by simpa using z
       cases z'
       omega
    ·rw[if_neg hb]
     exact vY
theorem Ac(sh:Int→List Int)(es:List Int):bx (aZ sh (itemsOf es))=cM sh es∧uF (itemsOf es):=by
 have z:∀ t:List Item,uF t→bx (aZ sh (es.foldl aO t))=bx (aZ sh t)++cM sh es∧uF (es.foldl aO t):=by
  induction es with
  | nil=>intro t ok;exact⟨by simp[cM],ok⟩
  | cons e es ih =>
   intro t ok
   obtain⟨h1,h2⟩:=JU sh t e ok
   obtain⟨h3,h4⟩:=ih _ h2
   refine⟨?_,h4⟩
   rw[qe,h3,h1,qw]
   unfold cM
   rw[l9]
 have q:=z [] (fun a b h=>by cases h)
 refine⟨?_,q.2⟩
 unfold itemsOf
 rw[q.1]
 rfl
theorem JV(sh:Int→List Int)(it:Item)(h:∀ a b,it=.aH a b→a<b):(rO (fun n=>rowOf (sh n)) it).length≤(bx (rO (fun n=>rowOf (sh n)) it)).length:=by
 cases it with
 | win n =>
  show (rowOf (sh n)).length≤(bx (rowOf (sh n))).length
  rw[jr]
  have z:=zJ (sh n) []
  simpa [rowOf] using z
 | aH a b =>
  have ab:=h a b rfl
  show 1≤(bx [(a,b)]).length
  rw[iu]
  unfold span
  show 1≤(run a (b-a).toNat).length
  rw[Ip]
  omega
theorem uW(sh:Int→List Int):∀ its:List Item,uF its→(aZ sh its).length≤(bx (aZ sh its)).length
 | [],_=>by simp[aZ]
 | it::its,h=>by
  have e:aZ sh (it::its)=rO (fun n=>rowOf (sh n)) it++aZ sh its:=by unfold aZ;rw[l9]
  rw[e,cF,eG,eG]
  have a:=JV sh it (fun a b z=>h a b (by rw[← z];simp))
  have b:=uW sh its (fun a b z=>h a b (rX _ z))
  omega
theorem JW(sh:Int→List Int)(its:List Item)(h:uF its):∀ p∈aZ sh its,p.1≤p.2:=by
 intro p hp
 unfold aZ at hp
 obtain⟨it,hi,hm⟩:=List.mem_flatMap.mp hp
 cases it with
 | win n=>exact sI _ p hm
 | aH a b =>
  have:p=(a,b):=by simpa [rO] using hm
  subst this
  have:=h a b hi
  show a≤b
  omega
inductive tM(vs:List V)(H:Hp)(Q:VK)(E:XK):Prop
 | mk (v:V) (it:Item) (S:Addr) (kvs:List (Key × V)) (g:Int→Row) (_:vs=[v,.ref S]) (_:cy H v it) (_:H S=some (.dK kvs)) (_:(∀ n,it=.win n→∃ a,cj kvs (Sum.inl n)=some (.ref a)∧bX H a (g n))) (_ :
 ∀ (a:Addr) (H':Hp),bX H' a (rO g it)→aF H H'→((∃ n,it=.win n∧cj kvs (Sum.inl n)=some (.ref a))∨H a=none)→Q (.ref a) H'):tM vs H Q E
theorem G8:aG ["item","views"] ["item","views"] (az eX):=⟨rfl,rfl,rfl,by decide +kernel,rfl,by decide +kernel,by decide +kernel⟩
theorem yj{f:Addr}{fd:FuncData}(F:iD K "item_row" "item_row" eX f fd)(T:pG mg):aB P w K mg base bV 1 f fd wM tM:=by
 refine F.ok G8 (fun vs H Q E h=>?_) (fun cdv A outer s H vs Q E hr h=>?_)
 ·obtain⟨v,it,S,kvs,g,rfl,_⟩:=h
  rfl
 obtain⟨v,it,S,kvs,g,rfl,⟨a,rfl,ha⟩,hS,hw,k⟩:=h
 have hu:=lY hr
 refine⟨_,(ak (cC (bR kU (bq dm (pv 0) aA (fun _ _=>rfl)) bO (bZ _))
   (ao (aR (dX hu (pv 1) (bq dm (pv 0) aA (fun _ _=>rfl)) (fun _ _=>rfl))))
   bL)
   (ao (aR (bJ (aa (eK (aa (bq dm (pv 0) aA (fun _ _=>rfl)) (aa (bq dm (pv 0) aA (fun _ _=>rfl)) ah))) ah))))),?_⟩
 cases it with
 | win n =>
  refine⟨_,rfl,a,_,_,_,rfl,rfl,jc.of ha,rfl,rfl,_,rfl,dQ (fun _=>?_) (fun z=>absurd (by decide) z)⟩
  obtain⟨b,hb,Rb⟩:=hw n rfl
  have z:=mC.k (k:=Sum.inl n) hS
  rw[hb]at z
  exact⟨_,rfl,_,rfl,a,_,_,_,rfl,rfl,jc.of ha,rfl,S,_,rfl,z,k b H Rb (aF.refl H) (.inl ⟨n,rfl,hb⟩)⟩
 | aH p q =>
  refine⟨_,rfl,a,_,_,_,rfl,rfl,jc.of ha,rfl,rfl,_,rfl,dQ (fun z=>absurd z (by decide)) (fun _=>?_)⟩
  refine⟨_,rfl,a,_,_,_,rfl,rfl,jc.of ha,rfl,_,rfl,a,_,_,_,rfl,rfl,jc.of ha,rfl,(by show 2≤sizeLine;decide),fun t ht=>⟨(by show 1≤sizeLine;decide),fun l hl=>?_⟩⟩
  have s1:aF H (upd H t (.tup [.int p,.int q])):=aj ht _
  have s2:=s1.trans (aj hl (.lst [.ref t]))
  refine k l _ ⟨[t],af,.cons ?_ .nil⟩ s2 (.inr ?_)
  ·exact aj hl _ _ _ af
  ·cases e:H l with
   | none=>rfl
   | some o=>exact absurd ((s1 _ _ e).symm.trans hl) (by simp)
theorem bu.Fg{H H':Hp}{S:Addr}{kvs:List (Key × V)}(hS:H S=some (.dK kvs))(k:∀ a ob,a≠S→H a=some ob→H' a=some ob):∀ {as:List Addr} {r:Row},bu H as r→bu H' as r
 | _,_,.nil=>.nil
 | _,_,.cons r t=>.cons (k _ _ (fun z=>by
   have r':=r
   unfold wY at r'
   rw[z,hS]at r'
   cases r') r) (bu.Fg hS k t)
theorem bX.Fg{H H':Hp}{S a:Addr}{kvs:List (Key × V)}{row:Row}(hS:H S=some (.dK kvs))(n:a≠S)(k:∀ a ob,a≠S→H a=some ob→H' a=some ob)(R:bX H a row):bX H' a row:=by
 obtain⟨as,h,p⟩:=R
 exact⟨as,k _ _ n h,p.Fg hS k⟩
def IE(H:Hp)(kvs:List (Key × V))(sh:Int→List Int)(xs:List Int):Prop:=∀ x∈xs,∃ a,cj kvs (Sum.inl x)=some (.ref a)∧bX H a (rowOf (sh x))
inductive vZ(vs:List V)(H:Hp)(Q:VK)(E:XK):Prop
 | mk (r L:Addr) (rows:eF) (ss:List Int) (sh:Int→List Int) (_:vs=[.ref r,.ref L]) (_:iy H r (rows.map itemsOf)) (_:H L=some (.lst (ss.map V.int))) (_:ss.length≤1000) (_:rows.length≤1000) (_:(∀ es∈rows,es.length≤1000)) (_:Sound rows) (_:Io rows) (_:(∀ s∈ss,0≤s∧s<rows.length)) (_:Ff rows sh) (_:(∀ x:Int,0≤x→x<rows.length→(sh x).length≤10000)) (_ :
 ∀ (S:Addr) (kvs:List (Key × V)) (ks:List Int) (H':Hp),H' S=some (.dK kvs)→IE H' kvs sh ks→JR rows ks→(∀ s∈ss,s∈ks)→(∀ x∈ks,∀ a,cj kvs (Sum.inl x)=some (.ref a)→H a=none)→aF H H'→H S=none→Q (.ref S) H'):vZ vs H Q E
theorem qm:aG ["rows","sheets","views","number"] ["rows","sheets"] (az dJ):=⟨rfl,rfl,rfl,by decide +kernel,rfl,by decide +kernel,by decide +kernel⟩
theorem oU{g fI fB fW fP:Addr}{fd AU Od Iz JO:FuncData}(F:iD K "views_below" "views_below" dJ g fd)(T:pG mg)(cu:ay K mg "windows" dZ nv fI AU)(jz:ay K mg "below" ly lS fB Od)(cB:ay K mg "item_row" eX wM fW Iz)(fL:ay K mg "plain" lu eY fP JO):aB P w K mg base bV 3 g fd lS vZ:=by
 have G7:aB P w K mg base bV 2 fB Od lS yW:=Fc jz.F T cu
 have xB:aB P w K mg base bV 1 fW Iz wM tM:=yj cB.F T
 have zX:aB P w K mg base bV 1 fP JO eY vP:=zV fL.F
 refine F.ok qm (fun vs H Q E h=>?_) (fun cdv A outer s0 H vs Q E hr h=>?_)
 ·obtain⟨r,L,rows,ss,sh,rfl,_⟩:=h
  rfl
 obtain⟨r,L,rows,ss,sh,rfl,hR,hL,hsl,hlen,hes,LW,hrk,hin,hsh,hbd,k⟩:=h
 have hu:=lY hr
 refine⟨_,(ak (aU (i:=2) qm.nd rfl (Or.inr rfl) oN)
   (ak (gQ PassesOwn.never rfl (cU (aL jz G7 hr (aa (pv 0) (aa (pv 1) ah)))) (aY (i:=3) qm.nd rfl (Or.inl rfl))
   (ao (vR hu (pv 2) (pv 3) (aL fL zX hr (aa (JF (N:=["item","stretch","views"]) (yh (sc:=az dJ) (NX:=["rows","sheets","views","number"]) (jx:=[none,none,some 2]) rfl rfl rfl (by decide +kernel) (by decide +kernel) rfl (by decide +kernel) rfl (by decide +kernel)) rfl (cU (bq bf (pv 0) (pv 3) (fun _ _=>rfl))) (fun _ _ _ _ _ _=>(aY (i:=0) (show List.Nodup (["item","stretch","views"]:List Str) by decide +kernel) rfl (Or.inl rfl))) (fun _ _ _ _ _ _=>mQ) (fun _ _ _ _ _ _=>(LI (aL cB xB hr (aa (pv 0) (aa (pv 2) ah))))) (fun _ _ _ _ _ _=>(aY (i:=1) (show List.Nodup (["item","stretch","views"]:List Str) by decide +kernel) rfl (Or.inl rfl))) (fun _ _ _ _ _ _=>mQ) (fun _ _ _ _ _ _=>(pv 1))) ah)) rfl)))
   (ao (aR (pv 2))))),?_⟩
 intro S hS
 have s1:aF H (upd H S (.dK [])):=aj hS _
 refine⟨_,rfl,_,rfl,r,L,rows,ss,rfl,hR.same s1,s1 _ _ hL,hsl,hlen,hes,LW,hrk,hin,fun ks o H2 ho s2 tp sk kl hno=>?_⟩
 have QL:=s2 _ _ (af (H:=H) (a:=S) (o:=.dK []))
 have T7:o≠S:=(au af hno).symm
 refine⟨o,rfl,⟨_,bF.of ho⟩,ie (K:=K) (a:=o) (xs:=ks.map V.int) (fun i σ H3=>∃ (kvs:List (Key × V)) (u:Option V),σ=[some (.ref r),some (.ref L),some (.ref S),u]∧H3 S=some (.dK kvs)∧IE H3 kvs sh (ks.take i)∧kvs.length≤i∧(∀ x a,cj kvs (Sum.inl x)=some (.ref a)→H a=none∧a≠S)∧(∀ a ob,a≠S→H2 a=some ob→H3 a=some ob)) ⟨[],none,rfl,QL,(fun y hy=>by simp at hy),iC _,(fun x a e=>by cases e),fun _ _ _ e=>e⟩ ?_ ?_ ?_⟩
 ·rintro i σ H3 _ ⟨_,_,_,_,_,_,_,k3⟩
  exact bF.of (k3 o _ T7 ho)
 ·rintro i x σ H3 hi ⟨kvs,u,rfl,JS,Kl,hk3,VO,k3⟩
  rw[kM]at hi
  obtain⟨x,ex,rfl⟩:=Option.map_eq_some_iff.mp hi
  obtain⟨x0,x1⟩:=tp.Ef x (vB ex)
  obtain⟨es,nR⟩:∃ es,rows[x.toNat]?=some es:=⟨_,qM (by omega)⟩
  have Q0:aF H H3:=fun a ob e=>k3 a ob (au e hS) (s2 _ _ (s1 _ _ e))
  obtain⟨G4,G2,vX⟩:=hR.same Q0
  obtain⟨vi,N9,hI⟩:=vX.get' (i:=x.toNat) (b:=itemsOf es) (by rw[kM,nR];rfl)
  obtain⟨b,MR,rfl,hb,hit⟩:=id hI
  obtain⟨Gv,hok⟩:=Ac sh es
  have shx:=hsh x es x0 nR
  have tot:(aZ sh (itemsOf es)).length≤10000:=by
   have z:=uW sh (itemsOf es) hok
   rw[Gv,← shx]at z
   have:=hbd x x0 x1
   omega
  have part:∀ j,(aZ sh ((itemsOf es).take j)).length≤10000:=fun j=>by
   have e:aZ sh (itemsOf es)=aZ sh ((itemsOf es).take j)++aZ sh ((itemsOf es).drop j):=by rw[← eU,List.take_append_drop]
   rw[e,eG]at tot
   omega
  have LX:wK G4 x=some (.ref b):=by
   have z:=eL N9
   rw[show ((x.toNat:Nat):Int)=x by omega]at z
   exact z
  refine⟨_,rfl,_,rfl,r,_,_,_,rfl,rfl,bF.of G2,LX,b,rfl,⟨_,bF.of hb⟩,fun acc hacc=>E1 (K:=K) (a:=b) (xs:=MR) (fun j σ H5=>∃ (u v:Option V) (as:List Addr),σ=[u,v,some (.ref S)]∧H5 acc=some (.lst (as.map V.ref))∧bu H5 as (aZ sh ((itemsOf es).take j))∧aF H3 H5) ⟨none,none,[],rfl,af,.nil,aj hacc _⟩ (fun j σ H5 _ ⟨_,_,_,_,_,_,s5⟩=>bF.of (s5 _ _ hb)) ?_ ?_⟩
  ·rintro j v σ H5 hj ⟨u,u2,as,rfl,h5,p5,s5⟩
   obtain⟨it,ei,hiv⟩:=hit.get hj
   have st:aZ sh ((itemsOf es).take (j+1))=aZ sh ((itemsOf es).take j)++rO (fun n=>rowOf (sh n)) it:=by rw[take_snoc ei,eU,mE]
   refine TH ?_
   refine lW ?_
   refine⟨_,rfl,_,rfl,v,it,S,kvs,(fun n=>rowOf (sh n)),rfl,hiv.same s5,s5 _ _ JS,fun n hn=>?_,fun a2 H6 R6 s6 hor=>?_⟩
   ·subst hn
    obtain⟨a,ha,Ra⟩:=Kl n (tp.dn i x ex n ⟨x0,es,nR,by
     rw[← jN]
     unfold eN
     rw[List.mem_filterMap]
     exact⟨.win n,vB ei,rfl⟩⟩)
    exact⟨a,ha,Ra.same s5⟩
   obtain⟨Q5,h6a,p6⟩:=id R6
   have na2:a2≠acc:=by
    rcases hor with ⟨n,hn,hv⟩|hn
    ·subst hn
     obtain⟨a,ha,as0,h0',_⟩:=Kl n (tp.dn i x ex n ⟨x0,es,nR,by
      rw[← jN]
      unfold eN
      rw[List.mem_filterMap]
      exact⟨.win n,vB ei,rfl⟩⟩)
     rw[hv]at ha
     cases ha
     exact au h0' hacc
    ·exact (au h5 hn).symm
   have h6:=s6 _ _ h5
   have pl:=part (j+1)
   rw[st,eG]at pl
   have al:=p5.len
   have al2:=p6.len
   refine⟨a2,rfl,⟨_,bF.of h6a⟩,GS (K:=K) (a:=a2) (acc:=acc) (g:=vJ 1) (tt:=Lq) (te:=Nh 1) (xs:=Q5.map V.ref) (fun l σ H7=>∃ v2:Option V,σ=[some v,v2,some (.ref S)]∧H7 acc=some (.lst ((as++Q5.take l).map V.ref))∧bu H7 (as++Q5.take l) (aZ sh ((itemsOf es).take j)++(rO (fun n=>rowOf (sh n)) it).take l)∧cS acc H6 H7∧aF H3 H7) ?_ ?_ ?_ ?_⟩
   ·exact⟨u2,rfl,(by simpa using h6),(by simpa using p5.same s6),(fun _ _ e _=>e),s5.trans s6⟩
   ·rintro l σ H7 _ ⟨_,_,_,_,K7,_⟩
    exact bF.of (K7 a2 _ h6a na2)
   ·rintro l y σ H7 hl ⟨v2,rfl,h7,p7,K7,s7⟩
    rw[kM]at hl
    obtain⟨t,et,rfl⟩:=Option.map_eq_some_iff.mp hl
    obtain⟨pr,epr,hpr⟩:=p6.get et
    have ll:l<Q5.length:=by
     rcases Nat.lt_or_ge l Q5.length with q|q
     ·exact q
     ·rw[List.getElem?_eq_none q]at et;cases et
    have T8:wY H7 t pr:=K7 t _ hpr (fun z=>by
     have q:H6 acc=some (.tup [.int pr.1,.int pr.2]):=by rw[← z];exact hpr
     rw[h6]at q
     cases q)
    have K8:cS acc H7 (upd H7 acc (.lst ((as++Q5.take l).map V.ref++[.ref t]))):=aJ acc _ _
    refine TH ?_
    refine lW ?_
    refine⟨_,rfl,_,h7,?_,_,rfl,?_,?_,?_,ck hacc s7 K8⟩
    ·rw[cO,eG,kK]
     exact aM (by omega)
    ·rw[af,take_snoc et,← qw,nu (l₁:=as++Q5.take l)]
     rfl
    ·rw[take_snoc et,take_snoc epr,← qw,← qw]
     exact bu.snoc (p7.keep h7 K8) (K8 t _ T8 (fun z=>by
      have q:H7 acc=some (.tup [.int pr.1,.int pr.2]):=by rw[← z];exact T8
      rw[h7]at q
      cases q))
    ·exact fun a ob e n=>K8 a ob (K7 a ob e n) n
   ·rintro σ H7 ⟨v2,rfl,h7,p7,K7,s7⟩
    rw[cO,kO]at h7 p7
    rw[al2,kO]at p7
    exact⟨_,_,_,rfl,h7,(by rw[st];exact p7),s7⟩
  ·rintro σ H5 ⟨u,u2,as,rfl,h5,p5,s5⟩
   rw[hit.len,kO]at p5
   have kvl:i<ks.length:=by
    rcases Nat.lt_or_ge i ks.length with q|q
    ·exact q
    ·rw[List.getElem?_eq_none q]at ex;cases ex
   refine⟨acc,_,rfl,⟨as,h5,p5⟩,by omega,fun q H6 R6 s6 hq=>?_⟩
   have Q2:=s6 _ _ (s5 _ _ JS)
   have nqS:q≠S:=(au (s5 _ _ JS) hq).symm
   have er:bT (aZ sh (itemsOf es))=rowOf (sh x):=by rw[EH _ (JW sh _ hok),Gv,shx]
   rw[er]at R6
   have k7:∀ a ob,a≠S→H6 a=some ob→upd H6 S (.dK (putK kvs (Sum.inl x) (.ref q))) a=some ob:=fun a ob n e=>by rw[aC n];exact e
   refine⟨_,rfl,_,rfl,S,_,rfl,C1.k (k:=Sum.inl x) Q2 (aM (by omega)),?_⟩
   refine⟨putK kvs (Sum.inl x) (.ref q),_,rfl,af,fun y hy=>?_,?_,fun y a e=>?_,fun a ob n e=>k7 a ob n (s6 _ _ (s5 _ _ (k3 a ob n e)))⟩
   ·rw[m6]
    by_cases c:y=x
    ·rw[if_pos (by rw[c]),c]
     exact⟨q,rfl,R6.Fg Q2 nqS k7⟩
    ·rw[if_neg (fun z=>c (Sum.inl.inj z))]
     rw[take_snoc ex]at hy
     rcases List.mem_append.mp hy with z|z
     ·obtain⟨a,ha,Ra⟩:=Kl y z
      exact⟨a,ha,((Ra.same s5).same s6).Fg Q2 (VO y a ha).2 k7⟩
     ·exact absurd (by simpa using z) c
   ·have:=jw kvs (Sum.inl x) (V.ref q)
    omega
   ·rw[m6]at e
    by_cases c:y=x
    ·rw[if_pos (by rw[c])]at e
     cases e
     refine⟨?_,nqS⟩
     cases z:H q with
     | none=>rfl
     | some ob=>exact absurd ((s5 _ _ (Q0 _ _ z)).symm.trans hq) (by simp)
    ·rw[if_neg (fun z=>c (Sum.inl.inj z))]at e
     exact VO y a e
 ·rintro σ H3 ⟨kvs,u,rfl,JS,Kl,hk3,VO,k3⟩
  rw[cO,kO]at Kl
  exact⟨_,rfl,k S kvs ks H3 JS Kl tp sk (fun x _ a e=>(VO x a e).1) (fun a ob e=>k3 a ob (au e hS) (s2 _ _ (s1 _ _ e))) hS⟩
inductive Dg(vs:List V)(H:Hp)(Q:VK)(E:XK):Prop
 | mk (r:Addr) (rows:eF) (s:Int) (sh:Int→List Int) (_:vs=[.ref r,.int s]) (_:iy H r (rows.map itemsOf)) (_:rows.length≤1000) (_:(∀ es∈rows,es.length≤1000)) (_:Sound rows) (_:Io rows) (_:0≤s) (_:s<rows.length) (_:Ff rows sh) (_:(∀ x:Int,0≤x→x<rows.length→(sh x).length≤10000)) (_ :
 ∀ (o:Addr) (H':Hp),bX H' o (rowOf (sh s))→aF H H'→H o=none→Q (.ref o) H'):Dg vs H Q E
theorem Oe:aG ["rows","sheet"] ["rows","sheet"] (az zA):=⟨rfl,rfl,rfl,by decide +kernel,rfl,by decide +kernel,by decide +kernel⟩
theorem L4{g fI fB fW fP fV:Addr}{fd AU Od Iz JO T9:FuncData}(F:iD K "shown" "shown" zA g fd)(T:pG mg)(cu:ay K mg "windows" dZ nv fI AU)(jz:ay K mg "below" ly lS fB Od)(cB:ay K mg "item_row" eX wM fW Iz)(fL:ay K mg "plain" lu eY fP JO)(cY:ay K mg "views_below" dJ lS fV T9):aB P w K mg base bV 4 g fd wN Dg:=by
 have lH:aB P w K mg base bV 3 fV T9 lS vZ:=oU cY.F T cu jz cB fL
 refine F.ok Oe (fun vs H Q E h=>?_) (fun cdv A outer s0 H vs Q E hr h=>?_)
 ·obtain⟨r,rows,s,sh,rfl,_⟩:=h
  rfl
 obtain⟨r,rows,s,sh,rfl,hR,hlen,hes,LW,hrk,h0,h1,hsh,hbd,k⟩:=h
 have hu:=lY hr
 refine⟨_,(ao (aR (dX hu (aL cY lH hr (aa (pv 0) (aa (bJ (aa (pv 1) ah)) ah))) (pv 1) (fun _ _=>rfl)))),?_⟩
 refine⟨_,rfl,_,rfl,(by show 1≤sizeLine;decide),fun L hL=>?_⟩
 have s1:aF H (upd H L (.lst [.int s])):=aj hL _
 refine⟨r,L,rows,[s],sh,rfl,hR.same s1,af,(by simp),hlen,hes,LW,hrk,(fun x hx=>by rw[List.mem_singleton.mp hx];exact⟨h0,h1⟩),hsh,hbd,fun S kvs ks H' hS hv tp sk hn s' _=>?_⟩
 have sk:=sk s (by simp)
 obtain⟨a,ha,Ra⟩:=hv s sk
 have z:=mC.k (k:=Sum.inl s) hS
 rw[ha]at z
 exact⟨_,rfl,S,_,rfl,z,k a H' Ra (s1.trans s') (aS s1 (hn s sk a ha))⟩
def Q6:Item→Item→Bool
 | .aH _ b,.aH c _=>decide (b=c)
 | _,_=>false
inductive G9(vs:List V)(H:Hp)(Q:VK)(E:XK):Prop
 | mk (x y:V) (i j:Item) (_:vs=[x,y]) (_:cy H x i) (_:cy H y j) (_:Q (.bl (Q6 i j)) H):G9 vs H Q E
theorem JX:aG ["one","other"] ["one","other"] (az lA):=⟨rfl,rfl,rfl,by decide +kernel,rfl,by decide +kernel,by decide +kernel⟩
theorem Hf{f:Addr}{fd:FuncData}(F:iD K "goes_on" "goes_on" lA f fd)(T:pG mg):aB P w K mg base bV 1 f fd Ei G9:=by
 refine F.ok JX (fun vs H Q E h=>?_) (fun cdv A outer s H vs Q E hr h=>?_)
 ·obtain⟨x,y,i,j,rfl,_⟩:=h
  rfl
 obtain⟨x,y,i,j,rfl,⟨a,rfl,ha⟩,⟨b,rfl,hb⟩,k⟩:=h
 refine⟨_,(ao (aR (su (qR kU (bq dm (pv 0) aA (fun _ _=>rfl)) bO (bZ _)) (su (qR kU (bq dm (pv 1) aA (fun _ _=>rfl)) bO (bZ _)) (uM (qR kU (bq dm (pv 0) aA (fun _ _=>rfl)) (bq dm (pv 1) aA (fun _ _=>rfl)) (bZ _))))))),?_⟩
 cases i with
 | win n=>exact⟨_,rfl,a,_,_,_,rfl,rfl,jc.of ha,rfl,rfl,_,rfl,dQ (fun z=>absurd z (by decide)) (fun _=>k)⟩
 | aH p q =>
  refine⟨_,rfl,a,_,_,_,rfl,rfl,jc.of ha,rfl,rfl,_,rfl,dQ (fun _=>?_) (fun z=>absurd (by decide) z)⟩
  cases j with
  | win n=>exact⟨_,rfl,b,_,_,_,rfl,rfl,jc.of hb,rfl,rfl,_,rfl,dQ (fun z=>absurd z (by decide)) (fun _=>k)⟩
  | aH u v =>
   refine⟨_,rfl,b,_,_,_,rfl,rfl,jc.of hb,rfl,rfl,_,rfl,dQ (fun _=>?_) (fun z=>absurd (by decide) z)⟩
   refine⟨_,rfl,a,_,_,_,rfl,rfl,jc.of ha,rfl,_,rfl,b,_,_,_,rfl,rfl,jc.of hb,rfl,rfl,?_⟩
   have e:decide (V.int q=V.int u)=decide (q=u):=by
    by_cases c:q=u
    ·rw[c];simp
    ·have c2:¬ V.int q=V.int u:=fun z=>c (V.int.inj z)
     rw[decide_eq_false c,decide_eq_false c2]
   rw[e]
   exact k
def bG(t:List Item)(it:Item):List Item :=
 match t.getLast?,it with
 | some (.aH a b),.aH c d=>if b=c then t.dropLast++[.aH a d] else t++[it]
 | _,_=>t++[it]
def Hg(its:List Item):List Item:=its.foldl bG []
theorem Hh(its:List Item):∀ t:List Item,(its.foldl bG t).length≤t.length+its.length:=by
 induction its with
 | nil=>intro t;simp
 | cons e its ih =>
  intro t
  rw[qe]
  have z:=ih (bG t e)
  have z2:(bG t e).length≤t.length+1:=by
   unfold bG
   split
   ·split
    ·rw[eG,List.length_dropLast,vA];omega
    ·simp
   ·simp
  rw[ny]
  omega
inductive lI(vs:List V)(H:Hp)(Q:VK)(E:XK):Prop
 | mk (r:Addr) (its:List Item) (_:vs=[.ref r]) (_:br H (.ref r) its) (_:its.length≤1000000) (_ :
 ∀ (o:Addr) (H':Hp),br H' (.ref o) (Hg its)→aF H H'→H o=none→Q (.ref o) H'):lI vs H Q E
theorem qo:aG ["items","told","item"] ["items"] (az gu):=⟨rfl,rfl,rfl,by decide +kernel,rfl,by decide +kernel,by decide +kernel⟩
theorem oV{f fG:Addr}{fd VP:FuncData}(F:iD K "plain_items" "plain_items" gu f fd)(T:pG mg)(jA:ay K mg "goes_on" lA Ei fG VP):aB P w K mg base bV 2 f fd nv lI:=by
 have L7:aB P w K mg base bV 1 fG VP Ei G9:=Hf jA.F T
 refine F.ok qo (fun vs H Q E h=>?_) (fun cdv A outer s H vs Q E hr h=>?_)
 ·obtain⟨r,its,rfl,_⟩:=h
  rfl
 obtain⟨r,its,rfl,⟨a,MR,e,hr1,hit⟩,hlen,k⟩:=h
 cases e
 refine⟨_,(ak (aU (i:=1) qo.nd rfl (Or.inl rfl) (bJ ah))
   (ak (gQ PassesOwn.never rfl (cU (pv 0)) (aY (i:=2) qo.nd rfl (Or.inl rfl))
   (ao (cC (PW.pt (wQ (mU (pv 1) (fun _=>rfl)) (vI (nB (aL jA L7 hr (aa (bq bf (pv 1) (kT iJ aA) (fun _ _=>rfl)) (aa (pv 2) ah)))))))
   (ao (qg (eK (aa bO (aa (bq dm (bq bf (pv 1) (kT iJ aA) (fun _ _=>rfl)) aA (fun _ _=>rfl)) (aa (bq dm (pv 2) aA (fun _ _=>rfl)) ah)))) (qP (pv 1) (kT iJ aA) set_list)))
   (ao (bw (je qd r9 sf cA (pv 1) (aa (pv 2) ah)))))))
   (ao (aR (pv 1))))),?_⟩
 refine⟨(by show 0≤sizeLine;decide),fun q hq=>?_⟩
 have s0:aF H (upd H q (.lst [])):=aj hq _
 refine⟨_,rfl,r,rfl,⟨_,bF.of (s0 _ _ hr1)⟩,ie (K:=K) (a:=r) (xs:=MR) (fun i σ H2=>∃ (vs:List V) (u:Option V),σ=[some (.ref r),some (.ref q),u]∧H2 q=some (.lst vs)∧bK (cy H2) vs ((its.take i).foldl bG [])∧aF H H2)
  ⟨[],none,rfl,af,.nil,s0⟩ (fun i σ H2 _ ⟨_,_,_,_,_,s⟩=>bF.of (s _ _ hr1)) ?_ ?_⟩
 ·rintro i x σ H2 hi ⟨vs,u,rfl,hq2,hb,s⟩
  obtain⟨it,ei,hiv⟩:=hit.get hi
  have hx2:=hiv.same s
  have step:(its.take (i+1)).foldl bG []=bG ((its.take i).foldl bG []) it:=by rw[take_snoc ei,List.foldl_append];rfl
  have bl:vs.length<sizeLine:=by
   have z:=hb.len
   have z2:=Hh (its.take i) []
   rw[kK,oj]at z2
   exact aM (by omega)
  have app:bG ((its.take i).foldl bG []) it=(its.take i).foldl bG []++[it]→∃ (vs':List V) (u':Option V),[some (V.ref r),some (.ref q),some x]=[some (.ref r),some (.ref q),u']∧(upd H2 q (.lst (vs++[x]))) q=some (.lst vs')∧bK (cy (upd H2 q (.lst (vs++[x])))) vs' ((its.take (i+1)).foldl bG [])∧aF H (upd H2 q (.lst (vs++[x]))):=fun e=>by
   refine⟨_,_,rfl,af,?_,ck hq s (aJ q _ _)⟩
   rw[step,e]
   exact bK.snoc (hb.mono fun v i h=>h.keep hq2 (aJ q _ _)) (hx2.keep hq2 (aJ q _ _))
  rcases sj ((its.take i).foldl bG []) with hn|⟨t0,l0,hn⟩
  ·have hvs:vs=[]:=by
    rw[hn]at hb
    exact List.eq_nil_of_length_eq_zero hb.len
   subst hvs
   refine⟨_,rfl,false,.inl ⟨_,bF.of hq2,rfl⟩,iL (iL ?_)⟩
   refine⟨_,rfl,.inl ⟨rfl,_,bF.of hq2⟩,_,rfl,q,_,_,rfl,rfl,hq2,bl,app ?_⟩
   rw[hn]
   rfl
  ·rw[qv]at hn
   have hb':=hb
   rw[hn]at hb'
   obtain⟨us,v0,rfl,hb0,hv0⟩:=hb'.split
   obtain⟨a0,rfl,ha0⟩:=id hv0
   refine⟨_,rfl,true,.inl ⟨_,bF.of hq2,by simp⟩,lW ?_⟩
   refine⟨_,rfl,_,rfl,q,_,_,_,rfl,rfl,bF.of hq2,fH _ _,_,rfl,_,_,l0,it,rfl,hv0,hx2,_,rfl,?_⟩
   cases l0 with
   | win n =>
    refine iL ?_
    refine⟨_,rfl,.inl ⟨rfl,_,bF.of hq2⟩,_,rfl,q,_,_,rfl,rfl,hq2,bl,app ?_⟩
    rw[hn]
    unfold bG
    rw[vE]
   | aH p1 p2 =>
    cases it with
    | win n =>
     refine iL ?_
     refine⟨_,rfl,.inl ⟨rfl,_,bF.of hq2⟩,_,rfl,q,_,_,rfl,rfl,hq2,bl,app ?_⟩
     rw[hn]
     unfold bG
     rw[vE]
    | aH c d =>
     refine dQ (fun z=>?_) (fun z=>?_)
     ·have e2:p2=c:=of_decide_eq_true z
      obtain⟨ax,rfl,hax⟩:=id hx2
      refine⟨_,rfl,_,rfl,q,_,_,_,rfl,rfl,bF.of hq2,fH _ _,a0,_,_,_,rfl,rfl,jc.of ha0,rfl,_,rfl,ax,_,_,_,rfl,rfl,jc.of hax,rfl,(by show 3≤sizeLine;decide),fun t ht=>?_⟩
      refine⟨_,rfl,_,rfl,q,_,_,us.length,rfl,rfl,aj ht _ _ _ hq2,(by rw[eG];exact zG _),?_⟩
      rw[zH]
      refine⟨_,_,rfl,af,?_,ck hq (s.trans (aj ht _)) (aJ q _ _)⟩
      have e3:(its.take (i+1)).foldl bG []=t0++[.aH p1 d]:=by
       rw[step,hn]
       unfold bG
       rw[vE,List.dropLast_concat]
       show (if p2=c then t0++[Item.aH p1 d] else _)=_
       rw[if_pos e2]
      rw[e3]
      exact bK.new (it:=.aH p1 d) hq2 hb0 ht _
     ·have e2:¬ p2=c:=fun w=>z (decide_eq_true w)
      refine⟨_,rfl,.inl ⟨rfl,_,bF.of hq2⟩,_,rfl,q,_,_,rfl,rfl,hq2,bl,app ?_⟩
      rw[hn]
      unfold bG
      rw[vE]
      show (if p2=c then _ else t0++[Item.aH p1 p2]++[Item.aH c d])=_
      rw[if_neg e2]
 ·rintro σ H2 ⟨vs,u,rfl,hq2,hb,s⟩
  rw[hit.len,kO]at hb
  exact⟨_,rfl,k q H2 ⟨q,vs,rfl,hq2,hb⟩ s hq⟩
def dO(r:Row):List Item:=r.map fun p=>.aH p.1 p.2
inductive tN(vs:List V)(H:Hp)(Q:VK)(E:XK):Prop
 | mk (r:Addr) (row:Row) (_:vs=[.ref r]) (_:bX H r row) (_:row.length≤100000) (_ :
 ∀ (o:Addr) (H':Hp),br H' (.ref o) (dO (bT row))→aF H H'→H o=none→Q (.ref o) H'):tN vs H Q E
theorem Of:aG ["row"] ["row"] (az qT):=⟨rfl,rfl,rfl,by decide +kernel,rfl,by decide +kernel,by decide +kernel⟩
theorem v7{f fP:Addr}{fd JO:FuncData}(F:iD K "inked" "inked" qT f fd)(T:pG mg)(fL:ay K mg "plain" lu eY fP JO):aB P w K mg base bV 2 f fd eY tN:=by
 have zX:aB P w K mg base bV 1 fP JO eY vP:=zV fL.F
 refine F.ok Of (fun vs H Q E h=>?_) (fun cdv A outer s H vs Q E hr h=>?_)
 ·obtain⟨r,row,rfl,_⟩:=h
  rfl
 obtain⟨r,row,rfl,R,hlen,k⟩:=h
 refine⟨_,(ao (aR (CU (N:=["start","stop"]) ⟨rfl,by decide +kernel,by decide +kernel,by decide +kernel⟩ rfl (cU (aL fL zX hr (aa (pv 0) ah))) (fun _ _ _ _ _=>(Ii (n:=2) rfl (bQ (aY (i:=0) (show List.Nodup (["start","stop"]:List Str) by decide +kernel) rfl (Or.inl rfl)) (bQ (aY (i:=1) (show List.Nodup (["start","stop"]:List Str) by decide +kernel) rfl (Or.inl rfl)) j3)))) (fun _ _ _ _ _=>mQ) (fun _ _ _ _ _=>(eK (aa bO (aa (pv 0) (aa (pv 1) ah)))))))),?_⟩
 refine⟨_,rfl,r,row,rfl,R,by omega,fun q H1 R1 s1 hq=>?_⟩
 obtain⟨as,h1,p1⟩:=id R1
 have pl:=qA row
 refine⟨q,rfl,⟨_,bF.of h1⟩,fun acc hacc=>wZ (K:=K) (a:=q) (xs:=as.map V.ref) (fun i σ H2=>∃ (u v:Option V) (vs:List V),σ=[u,v]∧H2 acc=some (.lst vs)∧bK (cy H2) vs (dO ((bT row).take i))∧aF H1 H2)
  ⟨none,none,[],rfl,af,.nil,aj hacc _⟩ (fun i σ H2 _ ⟨_,_,_,_,_,_,s⟩=>bF.of (s _ _ h1)) ?_ ?_⟩
 ·rintro i x σ H2 hi ⟨u,v,vs,rfl,ha,t2,s⟩
  rw[kM]at hi
  obtain⟨a,ea,rfl⟩:=Option.map_eq_some_iff.mp hi
  obtain⟨⟨st,en⟩,ep,hpa⟩:=p1.get ea
  have bl:=t2.len
  unfold dO at bl
  rw[cO,kK]at bl
  refine⟨a,_,rfl,jc.of (s _ _ hpa),rfl,_,_,rfl,_,_,rfl,rfl,yes (lW ?_)⟩
  refine⟨_,rfl,_,rfl,(by show 3≤sizeLine;decide),fun t ht=>?_⟩
  refine⟨vs,aj ht _ _ _ ha,aM (by omega),_,_,_,rfl,af,?_,ck hacc (s.trans (aj ht _)) (aJ acc _ _)⟩
  have e:dO ((bT row).take (i+1))=dO ((bT row).take i)++[.aH st en]:=by
   rw[take_snoc ep]
   unfold dO
   rw[nu]
   rfl
  rw[e]
  exact bK.new (it:=.aH st en) ha t2 ht _
 ·rintro σ H2 ⟨u,v,vs,rfl,ha,t2,s⟩
  rw[cO,p1.len,kO]at t2
  refine k acc H2 ⟨acc,vs,rfl,ha,t2⟩ (s1.trans s) ?_
  cases e:H acc with
  | none=>rfl
  | some o=>exact absurd ((s1 _ _ e).symm.trans hacc) (by simp)
def iG:Item→List Int
 | .win n=>[-1-n]
 | .aH a b=>run a (b-a).toNat
def dH(its:List Item):List Int:=its.flatMap iG
def pT:Item→Prop
 | .win n=>0≤n
 | .aH a b=>0≤a∧a<b
def iE(its:List Item):Prop:=∀ it∈its,pT it
theorem gy(a b:List Item):dH (a++b)=dH a++dH b:=by unfold dH;rw[List.flatMap_append]
theorem oW(a:Item):dH [a]=iG a:=by simp[dH]
theorem iE.append{a b:List Item}(h:iE a)(g:iE b):iE (a++b):=fun it hm=>(List.mem_append.mp hm).elim (h it) (g it)
theorem iE.one{a:Item}(h:pT a):iE [a]:=fun it hm=>by rw[List.mem_singleton.mp hm];exact h
theorem Ma(t:List Item){n:Int}(h:0≤n):aO t (-1-n)=t++[.win n]:=by
 unfold aO
 rw[if_pos (by omega)]
 congr 3
 omega
theorem JY(t:List Item)(p s:Int)(h:0≤s):aO (t++[.aH p s]) s=t++[.aH p (s+1)]:=by
 unfold aO
 rw[if_neg (by omega),vE]
 show (if s=s then (t++[Item.aH p s]).dropLast++[.aH p (s+1)] else _)=_
 rw[if_pos rfl,List.dropLast_concat]
theorem Cj(t:List Item)(p:Int):∀ (n:Nat) (s:Int),0≤s→(run s n).foldl aO (t++[.aH p s])=t++[.aH p (s+n)]
 | 0,s,_=>by simp[run]
 | n+1,s,h=>by
  rw[run,qe,JY t p s h,Cj t p n (s+1) (by omega)]
  congr 3
  omega
theorem Hi(t:List Item)(it:Item)(h:pT it):bG t it=(iG it).foldl aO t:=by
 cases it with
 | win n =>
  show bG t (.win n)=aO t (-1-n)
  rw[Ma t h]
  unfold bG
  cases t.getLast? with
  | none=>rfl
  | some l=>cases l <;> rfl
 | aH a b =>
  obtain⟨a0,ab⟩:=h
  have e:(b-a).toNat=(b-(a+1)).toNat+1:=by omega
  show bG t (.aH a b)=(run a (b-a).toNat).foldl aO t
  rw[e,run,qe]
  have fin:∀ (u:List Item) (p:Int),(run (a+1) (b-(a+1)).toNat).foldl aO (u++[.aH p (a+1)])=u++[.aH p b]:=fun u p=>by
   rw[Cj u p _ _ (by omega)]
   congr 3
   omega
  unfold bG aO
  rw[if_neg (by omega)]
  cases t.getLast? with
  | none=>exact (fin t a).symm
  | some l =>
   cases l with
   | win n=>exact (fin t a).symm
   | aH p q =>
    show (if q=a then t.dropLast++[Item.aH p b] else t++[Item.aH a b])=List.foldl aO (if q=a then t.dropLast++[Item.aH p (a+1)] else t++[Item.aH a (a+1)]) _
    by_cases c:q=a
    ·rw[if_pos c,if_pos c,fin]
    ·rw[if_neg c,if_neg c,fin]
theorem pU(its:List Item)(h:iE its):Hg its=itemsOf (dH its):=by
 unfold Hg itemsOf dH
 rw[oH]
 have z:∀ (its:List Item) (t:List Item),iE its→its.foldl bG t=its.foldl (fun c a=>(iG a).foldl aO c) t:=by
  intro its
  induction its with
  | nil=>intro t _;rfl
  | cons it its ih =>
   intro t h
   rw[qe,qe,Hi t it (h it (by simp))]
   exact ih _ fun i hi=>h i (rX _ hi)
 exact z its [] h
theorem JZ(t:List Item)(e:Int)(h:iE t):dH (aO t e)=dH t++[e]∧iE (aO t e):=by
 unfold aO
 by_cases c:e<0
 ·rw[if_pos c,gy,oW]
  refine⟨?_,h.append (iE.one (by show 0≤-1-e;omega))⟩
  show dH t++[-1-(-1-e)]=_
  rw[show -1-(-1-e)=e by omega]
 ·rw[if_neg c]
  have pl:dH (t++[.aH e (e+1)])=dH t++[e]∧iE (t++[.aH e (e+1)]):=by
   refine⟨?_,h.append (iE.one ⟨by omega,by omega⟩)⟩
   rw[gy,oW]
   show _++run e (e+1-e).toNat=_
   rw[show (e+1-e).toNat=1 by omega]
   rfl
  rcases sj t with rfl|⟨t',l,rfl⟩
  ·exact pl
  ·rw[qv]at h pl ⊢
   rw[vE]
   cases l with
   | win n=>exact pl
   | aH a b =>
    show dH (if b=e then (t'++[Item.aH a b]).dropLast++[.aH a (e+1)] else (t'++[Item.aH a b])++[.aH e (e+1)])=_∧iE (if b=e then (t'++[Item.aH a b]).dropLast++[.aH a (e+1)] else (t'++[Item.aH a b])++[.aH e (e+1)])
    by_cases hb:b=e
    ·subst hb
     obtain⟨a0,ab⟩:0≤a∧a<b:=h (.aH a b) (by simp)
     rw[if_pos rfl,List.dropLast_concat]
     refine⟨?_,iE.append (fun i hi=>h i (List.mem_append_left _ hi)) (iE.one ⟨a0,by omega⟩)⟩
     rw[gy,gy,oW,oW,qw]
     congr 1
     show run a (b+1-a).toNat=run a (b-a).toNat++[b]
     rw[show (b+1-a).toNat=(b-a).toNat+1 by omega,zE]
     congr 2
     omega
    ·rw[if_neg hb]
     exact pl
theorem qY(es:List Int):dH (itemsOf es)=es∧iE (itemsOf es):=by
 have z:∀ (es:List Int) (t:List Item),iE t→dH (es.foldl aO t)=dH t++es∧iE (es.foldl aO t):=by
  intro es
  induction es with
  | nil=>intro t h;exact⟨by simp,h⟩
  | cons e es ih =>
   intro t h
   obtain⟨h1,h2⟩:=JZ t e h
   obtain⟨h3,h4⟩:=ih _ h2
   exact⟨by rw[qe,h3,h1,qw];rfl,h4⟩
 obtain⟨h1,h2⟩:=z es [] (fun i hi=>by cases hi)
 exact⟨by unfold itemsOf;rw[h1];rfl,h2⟩
theorem sP(r:Row):dH (dO r)=bx r:=by
 unfold dH dO bx
 rw[List.flatMap_map]
 rfl
theorem v8{r:Row}(h:lF r):iE (dO r):=by
 intro it hm
 unfold dO at hm
 obtain⟨p,hp,rfl⟩:=List.mem_map.mp hm
 exact h p hp
abbrev qE:=Item × Row × Int × Int
def dI(sh:Int→List Int)(it:Item):Row:=rO (fun n=>rowOf (sh n)) it
def bN(sh:Int→List Int):Int→List Item→List qE
 | _,[]=>[]
 | f,it::r=>(it,dI sh it,f,f+tot (dI sh it))::bN sh (f+tot (dI sh it)) r
theorem wc(sh:Int→List Int)(b:List Item):∀ (a:List Item) (f:Int),bN sh f (a++b)=bN sh f a++bN sh (f+tot (aZ sh a)) b
 | [],f=>by simp[bN,aZ,tot]
 | it::a,f=>by
  rw[List.cons_append,bN,bN,wc sh b a,List.cons_append]
  have e:aZ sh (it::a)=dI sh it++aZ sh a:=by unfold aZ;rw[l9];rfl
  rw[e,zD,Int.add_assoc]
theorem Ck(sh:Int→List Int):∀ (a:List Item) (f:Int),(bN sh f a).length=a.length
 | [],_=>rfl
 | _::a,f=>by rw[bN,ny,ny,Ck sh a]
def oX(N:Addr→Prop)(H:Hp)(v:V)(d:qE):Prop:=∃ (a ra:Addr) (x:V),v=.ref a∧H a=some (.tup [x,.ref ra,.int d.2.2.1,.int d.2.2.2])∧cy H x d.1∧bX H ra d.2.1∧N ra
theorem oX.same{N:Addr→Prop}{H H':Hp}{v:V}{d:qE}(s:aF H H'):oX N H v d→oX N H' v d:=fun ⟨a,ra,x,e,h,i,r,n⟩=>⟨a,ra,x,e,s _ _ h,i.same s,r.same s,n⟩
theorem oX.keep{N:Addr→Prop}{H H':Hp}{v:V}{d:qE}{q:Addr}{xs:List V}(hq:H q=some (.lst xs))(nq:∀ a,N a→a≠q)(k:cS q H H'):oX N H v d→oX N H' v d:=fun ⟨a,ra,x,e,h,i,r,n⟩=>⟨a,ra,x,e,k a _ h (by
 intro z
 rw[z,hq]at h
 cases h),i.keep hq k,r.keep hq (nq ra n) k,n⟩
def xC(H:Hp)(kvs:List (Key × V))(sh:Int→List Int)(its:List Item):Prop:=∀ n,Item.win n∈its→∃ a,cj kvs (Sum.inl n)=some (.ref a)∧bX H a (rowOf (sh n))
theorem xC.same{H H':Hp}{kvs:List (Key × V)}{sh:Int→List Int}{its:List Item}(s:aF H H')(h:xC H kvs sh its):xC H' kvs sh its:=fun n hn=>by
 obtain⟨a,e,r⟩:=h n hn
 exact⟨a,e,r.same s⟩
def aD(p:Int)(d:qE):List Item:=if d.2.2.2≤p then [d.1] else if p≤d.2.2.1 then [] else dO (bT (nK 0 (p-d.2.2.1) 0 d.2.1))
def bD(p:Int)(d:qE):List Item:=if d.2.2.2≤p then [] else if p≤d.2.2.1 then [d.1] else dO (bT (nK (p-d.2.2.1) (d.2.2.2-d.2.2.1) 0 d.2.1))
def aE(sh:Int→List Int)(p:Int):Int→List Int→List Int
 | _,[]=>[]
 | f,e::r=>(if f+(m8 sh e).length≤p then [e] else if p≤f then [] else (m8 sh e).take (p-f).toNat)++aE sh p (f+(m8 sh e).length) r
def bE(sh:Int→List Int)(p:Int):Int→List Int→List Int
 | _,[]=>[]
 | f,e::r=>(if f+(m8 sh e).length≤p then [] else if p≤f then [e] else (m8 sh e).drop (p-f).toNat)++bE sh p (f+(m8 sh e).length) r
theorem iQ(sh:Int→List Int)(e:Int)(r:List Int):cM sh (e::r)=m8 sh e++cM sh r:=by unfold cM;rw[l9]
theorem Cm(sh:Int→List Int)(p:Int)(y:List Int):∀ (x:List Int) (f:Int),aE sh p f (x++y)=aE sh p f x++aE sh p (f+(cM sh x).length) y
 | [],f=>by simp[aE,cM]
 | e::x,f=>by
  rw[List.cons_append,aE,aE,Cm sh p y x,qw,iQ,eG,Int.add_assoc]
  push_cast
  rfl
theorem Cn(sh:Int→List Int)(p:Int)(y:List Int):∀ (x:List Int) (f:Int),bE sh p f (x++y)=bE sh p f x++bE sh p (f+(cM sh x).length) y
 | [],f=>by simp[bE,cM]
 | e::x,f=>by
  rw[List.cons_append,bE,bE,Cn sh p y x,qw,iQ,eG,Int.add_assoc]
  push_cast
  rfl
theorem pV(sh:Int→List Int){e:Int}(h:0≤e):m8 sh e=[e]:=by unfold m8;rw[if_neg (by omega)]
theorem qF(sh:Int→List Int):∀ (n:Nat) (a:Int),0≤a→cM sh (run a n)=run a n
 | 0,_,_=>rfl
 | n+1,a,h=>by rw[run,iQ,pV sh h,qF sh n (a+1) (by omega)];rfl
theorem Mb(sh:Int→List Int)(p:Int):∀ (n:Nat) (a f:Int),0≤a→aE sh p f (run a n)=(run a n).take (p-f).toNat
 | 0,_,_,_=>by simp[run,aE]
 | n+1,a,f,h=>by
  rw[run,aE,Mb sh p n (a+1) _ (by omega),pV sh h]
  show (if f+1≤p then [a] else if p≤f then [] else _)++(run (a+1) n).take (p-(f+1)).toNat=_
  by_cases c:f+1≤p
  ·rw[if_pos c,show (p-f).toNat=(p-(f+1)).toNat+1 by omega]
   rfl
  ·rw[if_neg c,if_pos (by omega),show (p-f).toNat=0 by omega,show (p-(f+1)).toNat=0 by omega]
   rfl
theorem Mc(sh:Int→List Int)(p:Int):∀ (n:Nat) (a f:Int),0≤a→bE sh p f (run a n)=(run a n).drop (p-f).toNat
 | 0,_,_,_=>by simp[run,bE]
 | n+1,a,f,h=>by
  rw[run,bE,Mc sh p n (a+1) _ (by omega),pV sh h]
  show (if f+1≤p then [] else if p≤f then [a] else _)++(run (a+1) n).drop (p-(f+1)).toNat=_
  by_cases c:f+1≤p
  ·rw[if_pos c,show (p-f).toNat=(p-(f+1)).toNat+1 by omega]
   rfl
  ·rw[if_neg c,if_pos (by omega),show (p-f).toNat=0 by omega,show (p-(f+1)).toNat=0 by omega]
   rfl
theorem Me(sh:Int→List Int){n:Int}(h:0≤n):m8 sh (-1-n)=sh n:=by
 unfold m8
 rw[if_pos (by omega),show -1-(-1-n)=n by omega]
theorem yX(sh:Int→List Int)(it:Item)(h:pT it):∀ q∈dI sh it,q.1≤q.2:=by
 cases it with
 | win n=>exact sI _
 | aH a b =>
  intro q hq
  have:q=(a,b):=by simpa [dI,rO] using hq
  subst this
  have:=h.2
  show a≤b
  omega
theorem oY(sh:Int→List Int)(it:Item)(h:pT it):bx (dI sh it)=cM sh (iG it):=by
 cases it with
 | win n =>
  show bx (rowOf (sh n))=cM sh [-1-n]
  rw[jr,iQ,Me sh h]
  simp[cM]
 | aH a b =>
  show bx [(a,b)]=cM sh (run a (b-a).toNat)
  rw[iu,qF sh _ _ h.1]
  rfl
theorem qG(sh:Int→List Int)(it:Item)(h:pT it):tot (dI sh it)=(cM sh (iG it)).length:=by
 rw[← oY sh it h,tG _ (yX sh it h)]
theorem Ua(sh:Int→List Int)(p f:Int)(it:Item)(h:pT it):dH (aD p (it,dI sh it,f,f+tot (dI sh it)))=aE sh p f (iG it):=by
 have tt:=qG sh it h
 have sp:dH (dO (bT (nK 0 (p-f) 0 (dI sh it))))=(cM sh (iG it)).take (p-f).toNat:=by
  rw[sP,uS _ _ _ (yX sh it h),oY sh it h]
  rfl
 unfold aD
 show dH (if f+tot (dI sh it)≤p then [it] else if p≤f then [] else dO (bT (nK 0 (p-f) 0 (dI sh it))))=_
 rw[tt]
 cases it with
 | win n =>
  have e1:cM sh (iG (.win n))=m8 sh (-1-n):=by show cM sh [-1-n]=_;rw[iQ];simp[cM]
  rw[e1]at sp ⊢
  show _=aE sh p f [-1-n]
  rw[aE,aE,nA]
  split
  ·rfl
  ·split
   ·rfl
   ·exact sp
 | aH a b =>
  have e1:cM sh (iG (.aH a b))=run a (b-a).toNat:=qF sh _ _ h.1
  rw[e1]at sp ⊢
  show _=aE sh p f (run a (b-a).toNat)
  rw[Mb sh p _ _ _ h.1]
  have rl:=jq a (b-a).toNat
  split
  ·rename_i c
   rw[oW,zd (by omega)]
   rfl
  ·split
   ·rename_i c
    rw[show (p-f).toNat=0 by omega]
    rfl
   ·exact sp
theorem Ub(sh:Int→List Int)(p f:Int)(it:Item)(h:pT it):dH (bD p (it,dI sh it,f,f+tot (dI sh it)))=bE sh p f (iG it):=by
 have tt:=qG sh it h
 have sp:dH (dO (bT (nK (p-f) (f+tot (dI sh it)-f) 0 (dI sh it))))=(cM sh (iG it)).drop (p-f).toNat:=by
  rw[sP,uS _ _ _ (yX sh it h),oY sh it h,zd (by rw[tt];omega)]
 unfold bD
 show dH (if f+tot (dI sh it)≤p then [] else if p≤f then [it] else dO (bT (nK (p-f) (f+tot (dI sh it)-f) 0 (dI sh it))))=_
 have c1:(f+tot (dI sh it)≤p)=(f+(cM sh (iG it)).length≤p):=by rw[tt]
 simp only[c1]
 cases it with
 | win n =>
  have e1:cM sh (iG (.win n))=m8 sh (-1-n):=by show cM sh [-1-n]=_;rw[iQ];simp[cM]
  rw[e1]at sp ⊢
  show _=bE sh p f [-1-n]
  rw[bE,bE,nA]
  split
  ·rfl
  ·split
   ·rfl
   ·exact sp
 | aH a b =>
  have e1:cM sh (iG (.aH a b))=run a (b-a).toNat:=qF sh _ _ h.1
  rw[e1]at sp ⊢
  show _=bE sh p f (run a (b-a).toNat)
  rw[Mc sh p _ _ _ h.1]
  have rl:=jq a (b-a).toNat
  split
  ·rename_i c
   rw[List.drop_of_length_le (by omega)]
   rfl
  ·split
   ·rename_i c
    rw[oW,show (p-f).toNat=0 by omega]
    rfl
   ·exact sp
theorem Fi(sh:Int→List Int)(p:Int):∀ (its:List Item) (f:Int),iE its→dH ((bN sh f its).flatMap (aD p))=aE sh p f (dH its)
 | [],f,_=>rfl
 | it::r,f,h=>by
  have h1:=h it (by simp)
  rw[bN,l9,gy,Ua sh p f it h1,Fi sh p r _ fun i hi=>h i (rX _ hi)]
  have e:dH (it::r)=iG it++dH r:=by unfold dH;rw[l9]
  rw[e,Cm,qG sh it h1]
theorem Co(sh:Int→List Int)(p:Int):∀ (its:List Item) (f:Int),iE its→dH ((bN sh f its).flatMap (bD p))=bE sh p f (dH its)
 | [],f,_=>rfl
 | it::r,f,h=>by
  have h1:=h it (by simp)
  rw[bN,l9,gy,Ub sh p f it h1,Co sh p r _ fun i hi=>h i (rX _ hi)]
  have e:dH (it::r)=iG it++dH r:=by unfold dH;rw[l9]
  rw[e,Cn,qG sh it h1]
def Q7(sh:Int→List Int)(its:List Item):Prop:=∀ n,Item.win n∈its→∀ x∈sh n,0≤x
theorem Og(sh:Int→List Int)(it:Item)(h:pT it)(g:∀ n,it=.win n→∀ x∈sh n,0≤x):oR (dI sh it):=by
 cases it with
 | win n=>exact (Cd (g n rfl)).nn
 | aH a b =>
  intro q hq
  have:q=(a,b):=by simpa [dI,rO] using hq
  subst this
  exact⟨h.1,by have:=h.2;show a≤b;omega⟩
theorem Dh(sh:Int→List Int):∀ (its:List Item) (f:Int),iE its→Q7 sh its→∀ d∈bN sh f its,pT d.1∧oR d.2.1
 | [],_,_,_=>fun d hd=>by cases hd
 | it::r,f,h,g=>by
  intro d hd
  rw[bN]at hd
  rcases List.mem_cons.mp hd with rfl|z
  ·exact⟨h it (by simp),Og sh it (h it (by simp)) fun n e=>g n (by rw[e];simp)⟩
  ·exact Dh sh r _ (fun i hi=>h i (rX _ hi)) (fun n hn=>g n (rX _ hn)) d z
theorem Fj{a b:Int}{r:Row}(h:oR r):iE (dO (bT (nK a b 0 r))):=v8 (qD (zS a b r 0 h))
theorem Uc{p:Int}{d:qE}(h:pT d.1)(g:oR d.2.1):iE (aD p d):=by
 unfold aD
 split
 ·exact iE.one h
 ·split
  ·exact fun i hi=>by cases hi
  ·exact Fj g
theorem Ud{p:Int}{d:qE}(h:pT d.1)(g:oR d.2.1):iE (bD p d):=by
 unfold bD
 split
 ·exact fun i hi=>by cases hi
 ·split
  ·exact iE.one h
  ·exact Fj g
theorem Di{g:qE→List Item}{l:List qE}(h:∀ d∈l,iE (g d)):iE (l.flatMap g):=fun it hm=>by
 obtain⟨d,hd,hm⟩:=List.mem_flatMap.mp hm
 exact h d hd it hm
theorem yY(r:Row):(dO r).length=r.length:=by unfold dO;rw[cO]
theorem tO(a b:Int)(r:Row):(dO (bT (nK a b 0 r))).length≤r.length:=by
 rw[yY]
 exact lV (qA _) (oK a b r 0)
theorem Ad(sh:Int→List Int){g:qE→List Item}(hg:∀ d,(g d).length≤d.2.1.length+1):∀ (its:List Item) (f:Int),((bN sh f its).flatMap g).length≤(aZ sh its).length+its.length
 | [],_=>by simp[bN]
 | it::r,f=>by
  rw[bN,l9,eG]
  have a:=hg (it,dI sh it,f,f+tot (dI sh it))
  have b:=Ad sh hg r (f+tot (dI sh it))
  have e:aZ sh (it::r)=dI sh it++aZ sh r:=by unfold aZ;rw[l9];rfl
  rw[e,eG,ny]
  simp only at a
  omega
theorem Q8(p:Int)(d:qE):(aD p d).length≤d.2.1.length+1:=by
 unfold aD
 split
 ·simp
 ·split
  ·simp
  ·exact lV (tO _ _ _) (by omega)
theorem Q9(p:Int)(d:qE):(bD p d).length≤d.2.1.length+1:=by
 unfold bD
 split
 ·simp
 ·split
  ·simp
  ·exact lV (tO _ _ _) (by omega)
theorem kH{α β:Type}(g:α→List β)(l:List α)(i:Nat):((l.take i).flatMap g).length≤(l.flatMap g).length:=by
 have e:l.flatMap g=(l.take i).flatMap g++(l.drop i).flatMap g:=by rw[← List.flatMap_append,List.take_append_drop]
 rw[e,eG]
 omega
theorem tP{α β:Type}(g:α→List β){l:List α}{i:Nat}{a:α}(h:l[i]?=some a):(l.take (i+1)).flatMap g=(l.take i).flatMap g++g a:=by
 rw[take_snoc h,List.flatMap_append]
 simp
theorem we(sh:Int→List Int){its:List Item}{it:Item}(h:it∈its):(dI sh it).length≤(aZ sh its).length:=by
 obtain⟨a,b,rfl⟩:=List.append_of_mem h
 rw[eU]
 have e:aZ sh (it::b)=dI sh it++aZ sh b:=by unfold aZ;rw[l9];rfl
 rw[e,eG,eG]
 omega
def IF(A B:Addr)(H H':Hp):Prop:=∀ a o,H a=some o→a≠A→a≠B→H' a=some o
theorem IF.tup{A B:Addr}{H H':Hp}{xs ys:List V}(k:IF A B H H')(hA:H A=some (.lst xs))(hB:H B=some (.lst ys)):∀ a zs,H a=some (.tup zs)→H' a=some (.tup zs):=fun a zs h=>k a _ h (fun z=>by
 rw[z,hA]at h
 cases h) (fun z=>by
 rw[z,hB]at h
 cases h)
theorem cy.tups{H H':Hp}{v:V}{it:Item}(t:∀ a xs,H a=some (.tup xs)→H' a=some (.tup xs)):cy H v it→cy H' v it:=fun ⟨a,e,h⟩=>⟨a,e,t a _ h⟩
theorem oX.Pf{N:Addr→Prop}{A B:Addr}{H H':Hp}{v:V}{d:qE}{xs ys:List V}(hA:H A=some (.lst xs))(hB:H B=some (.lst ys))(n:∀ a,N a→a≠A∧a≠B)(k:IF A B H H'):oX N H v d→oX N H' v d:=fun ⟨a,ra,x,e,h,i,⟨as,hr,hp⟩,hn⟩ =>
 ⟨a,ra,x,e,k.tup hA hB _ _ h,i.tups (k.tup hA hB),⟨as,k _ _ hr (n ra hn).1 (n ra hn).2,hp.tups (k.tup hA hB)⟩,hn⟩
theorem bK.app{α β:Type}{R:α→β→Prop}:∀ {as cs:List α} {bs ds:List β},bK R as bs→bK R cs ds→bK R (as++cs) (bs++ds)
 | _,_,_,_,.nil,h=>h
 | _,_,_,_,.cons r t,h=>.cons r (t.app h)
structure nM(H1:Hp)(A B:Addr)(l1 l2:List Item)(H2:Hp):Prop where
 a:∃ vs,H2 A=some (.lst vs)∧bK (cy H2) vs l1
 b:∃ vs,H2 B=some (.lst vs)∧bK (cy H2) vs l2
 k:IF A B H1 H2
theorem nM.same{H1 H2 H3:Hp}{A B:Addr}{l1 l2:List Item}(p:nM H1 A B l1 l2 H2)(s:aF H2 H3):nM H1 A B l1 l2 H3:=by
 obtain⟨⟨v1,h1,t1⟩,⟨v2,h2,t2⟩,k⟩:=p
 exact⟨⟨v1,s _ _ h1,t1.mono fun _ _ h=>h.same s⟩,⟨v2,s _ _ h2,t2.mono fun _ _ h=>h.same s⟩,fun a o e n m=>s _ _ (k a o e n m)⟩
theorem nM.IG{H1 H2:Hp}{A B:Addr}{l1 l2 l3:List Item}{v1 v3:List V}(p:nM H1 A B l1 l2 H2)(n:A≠B)(h1:H2 A=some (.lst v1))(t3:bK (cy H2) v3 l3):nM H1 A B (l1++l3) l2 (upd H2 A (.lst (v1++v3))):=by
 obtain⟨⟨v1',h1',t1⟩,⟨v2,h2,t2⟩,k⟩:=p
 rw[h1]at h1'
 cases h1'
 have kp:∀ v i,cy H2 v i→cy (upd H2 A (.lst (v1++v3))) v i:=fun v i h=>h.keep h1 (aJ A _ _)
 refine⟨⟨_,af,(t1.mono kp).app (t3.mono kp)⟩,⟨v2,by rw[aC n.symm];exact h2,t2.mono kp⟩,fun a o e m1 m2=>?_⟩
 rw[aC m1]
 exact k a o e m1 m2
theorem nM.II{H1 H2:Hp}{A B:Addr}{l1 l2 l3:List Item}{v2 v3:List V}(p:nM H1 A B l1 l2 H2)(n:A≠B)(h2:H2 B=some (.lst v2))(t3:bK (cy H2) v3 l3):nM H1 A B l1 (l2++l3) (upd H2 B (.lst (v2++v3))):=by
 obtain⟨⟨v1,h1,t1⟩,⟨v2',h2',t2⟩,k⟩:=p
 rw[h2]at h2'
 cases h2'
 have kp:∀ v i,cy H2 v i→cy (upd H2 B (.lst (v2++v3))) v i:=fun v i h=>h.keep h2 (aJ B _ _)
 refine⟨⟨v1,by rw[aC n];exact h1,t1.mono kp⟩,⟨_,af,(t2.mono kp).app (t3.mono kp)⟩,fun a o e m1 m2=>?_⟩
 rw[aC m2]
 exact k a o e m1 m2
theorem Ae{rows:eF}{sh:Int→List Int}(LW:Sound rows)(hrk:Io rows)(hsh:Ff rows sh):∀ x:Int,0≤x→x<rows.length→∀ y∈sh x,0≤y:=by
 obtain⟨rk,hb,hd⟩:=hrk
 have key:∀ (k:Nat) (x:Int),rk x<k→0≤x→x<rows.length→∀ y∈sh x,0≤y:=by
  intro k
  induction k with
  | zero=>intro x h;omega
  | succ k ih =>
   intro x hx x0 x1 y hy
   have he:rows[x.toNat]?=some rows[x.toNat]:=qM (by omega)
   rw[hsh x _ x0 he]at hy
   unfold cM at hy
   obtain⟨e,hm,hy⟩:=List.mem_flatMap.mp hy
   unfold m8 at hy
   by_cases c:e<0
   ·rw[if_pos c]at hy
    have nx:Cb rows x (-1-e):=⟨x0,_,he,Ca.mpr ⟨by omega,by rw[show -1-(-1-e)=e by omega];exact hm⟩⟩
    obtain⟨a,b⟩:=LW.QM nx
    have:=hd _ _ nx
    exact ih _ (by omega) a b y hy
   ·rw[if_neg c]at hy
    rw[List.mem_singleton.mp hy]
    omega
 exact fun x=>key (rk x+1) x (Nat.lt_succ_self _)
theorem yZ{rows:eF}{s n:Int}{es:List Int}(h0:0≤s)(he:rows[s.toNat]?=some es)(h:Item.win n∈itemsOf es):Cb rows s n:=by
 refine⟨h0,es,he,?_⟩
 rw[← jN]
 unfold eN
 rw[List.mem_filterMap]
 exact⟨.win n,h,rfl⟩
structure uX(H:Hp)(r:Addr)(rows:eF)(sh:Int→List Int):Prop where
 at_:iy H r (rows.map itemsOf)
 len:rows.length≤1000
 ents:∀ es∈rows,es.length≤1000
 snd:Sound rows
 rk:Io rows
 Ue:Ff rows sh
 bd:∀ x:Int,0≤x→x<rows.length→(sh x).length≤10000
theorem uX.same{H H':Hp}{r:Addr}{rows:eF}{sh:Int→List Int}(s:aF H H')(h:uX H r rows sh):uX H' r rows sh:={ h with at_:=h.at_.same s }
structure Ug(H:Hp)(r:Addr)(rows:eF)(sh:Int→List Int)(s:Int)(es:List Int)(G4:List V)(b:Addr):Prop where
 he:rows[s.toNat]?=some es
 hr:H r=some (.lst G4)
 ix:wK G4 s=some (.ref b)
 it:br H (.ref b) (itemsOf es)
 il:(itemsOf es).length≤1000
 rl:(aZ sh (itemsOf es)).length≤10000
 tt:tot (rowOf (sh s))=(sh s).length
 se:sh s=cM sh es
theorem uX.one{H:Hp}{r:Addr}{rows:eF}{sh:Int→List Int}{s:Int}(h:uX H r rows sh)(h0:0≤s)(h1:s<rows.length):∃ es G4 b,Ug H r rows sh s es G4 b:=by
 have nR:rows[s.toNat]?=some rows[s.toNat]:=qM (by omega)
 obtain⟨G4,hr2,vX⟩:=h.at_
 obtain⟨vi,N9,hI⟩:=vX.get' (i:=s.toNat) (b:=itemsOf rows[s.toNat]) (by rw[kM,nR];rfl)
 obtain⟨b,MR,rfl,hb,hit⟩:=id hI
 have z:=eL N9
 rw[show ((s.toNat:Nat):Int)=s by omega]at z
 have hil:=qC rows[s.toNat] []
 have hel:=h.ents _ (vB nR)
 obtain⟨Gv,hok⟩:=Ac sh rows[s.toNat]
 have se:=h.Ue s _ h0 nR
 refine⟨_,G4,b,nR,hr2,z,hI,?_,?_,?_,se⟩
 ·show (rows[s.toNat].foldl aO []).length≤_
  simp only[oj]at hil
  omega
 ·have q:=uW sh (itemsOf rows[s.toNat]) hok
  rw[Gv,← se]at q
  have:=h.bd s h0 h1
  omega
 ·rw[← tG _ (sI _),jr]
theorem qW.small{i:Int}(h0:0≤i)(h1:i≤10000):qW i:=by
 have a:(0:Int)<10^60:=by decide
 have b:(10000:Int)<10^60:=by decide
 exact⟨by omega,by omega⟩
theorem tQ(ns:List Int):(rowOf ns).length≤ns.length:=by
 have z:=zJ ns []
 simpa [rowOf] using z
def qp(sh:Int→List Int)(p:Int)(es new:List Int):List Int:=if new=[] then es else aE sh p 0 es++new++bE sh p 0 es
inductive za(vs:List V)(H:Hp)(Q:VK)(E:XK):Prop
 | mk (r S:Addr) (its:List Item) (kvs:List (Key × V)) (sh:Int→List Int) (N:Addr→Prop) (_:vs=[.ref r,.ref S]) (_:br H (.ref r) its) (_:H S=some (.dK kvs)) (_:xC H kvs sh its) (_:its.length≤100000) (_:(∀ it∈its,(dI sh it).length≤100000)) (_:(∀ n a,Item.win n∈its→cj kvs (Sum.inl n)=some (.ref a)→N a)) (_:(∀ a,H a=none→N a)) (_ :
 ∀ (o:Addr) (vs':List V) (H':Hp),H' o=some (.lst vs')→bK (oX N H') vs' (bN sh 0 its)→aF H H'→H o=none→Q (.ref o) H'):za vs H Q E
theorem qZ:aG ["items","views","told","first","item","row","last"] ["items","views"] (az qU):=⟨rfl,rfl,rfl,by decide +kernel,rfl,by decide +kernel,by decide +kernel⟩
theorem Fl{f fI fZ:Addr}{fd AU RV:FuncData}(F:iD K "dealt" "dealt" qU f fd)(T:pG mg)(cB:ay K mg "item_row" eX wM fI AU)(iY:ay K mg "size" ssize eY fZ RV):aB P w K mg base bV 2 f fd CA za:=by
 have xB:aB P w K mg base bV 1 fI AU wM tM:=yj cB.F T
 have IC:aB P w K mg base bV 1 fZ RV eY CV:=IB iY.F T
 refine F.ok qZ (fun vs H Q E h=>?_) (fun cdv A outer s H vs Q E hr h=>?_)
 ·obtain⟨r,S,its,kvs,sh,N,rfl,_⟩:=h
  rfl
 obtain⟨r,S,its,kvs,sh,N,rfl,⟨r',MR,e,hr1,hit⟩,hS,hW,hlen,hrl,nW,nN,k⟩:=h
 cases e
 refine⟨_,(ak (aU (i:=2) qZ.nd rfl (Or.inl rfl) (bJ ah))
   (ak (aU (i:=3) qZ.nd rfl (Or.inl rfl) aA)
   (ak (gQ PassesOwn.never rfl (cU (pv 0)) (aY (i:=4) qZ.nd rfl (Or.inl rfl))
   (ak (aU (i:=5) qZ.nd rfl (Or.inl rfl) (aL cB xB hr (aa (pv 4) (aa (pv 1) ah))))
   (ak (aU (i:=6) qZ.nd rfl (Or.inl rfl) (bz eZ (pv 3) (jM.yU iY (T.qj _ iY.m) IC hr (aa (pv 5) ah))))
   (ak (bw (je qd r9 sf cA (pv 2) (aa (eK (aa (pv 4) (aa (pv 5) (aa (pv 3) (aa (pv 6) ah))))) ah)))
   (ao (aU (i:=3) qZ.nd rfl (Or.inl rfl) (pv 6)))))))
   (ao (aR (pv 2)))))),?_⟩
 refine⟨(by show 0≤sizeLine;decide),fun q hq=>?_⟩
 have s0:aF H (upd H q (.lst [])):=aj hq _
 refine⟨_,rfl,r,rfl,⟨_,bF.of (s0 _ _ hr1)⟩,ie (K:=K) (a:=r) (xs:=MR) (fun i σ H2=>∃ (vs:List V) (u1 u2 u3:Option V),σ=[some (.ref r),some (.ref S),some (.ref q),some (.int (0+tot (aZ sh (its.take i)))),u1,u2,u3]∧H2 q=some (.lst vs)∧bK (oX (fun a=>N a∧a≠q) H2) vs (bN sh 0 (its.take i))∧aF H H2)
  ⟨[],none,none,none,rfl,af,.nil,s0⟩ (fun i σ H2 _ ⟨_,_,_,_,_,_,_,s⟩=>bF.of (s _ _ hr1)) ?_ ?_⟩
 ·rintro i x σ H2 hi ⟨vs,u1,u2,u3,rfl,hq2,hb,s⟩
  obtain⟨it,ei,hiv⟩:=hit.get hi
  have im:=vB ei
  have bl:=hb.len
  rw[Ck,kK]at bl
  refine⟨_,rfl,_,rfl,x,it,S,kvs,fun n=>rowOf (sh n),rfl,hiv.same s,s _ _ hS,fun n hn=>(hW.same s) n (by rw[← hn];exact im),fun a H3 R3 s3 w3=>?_⟩
  have na:N a∧a≠q:=by
   rcases w3 with ⟨n,rfl,hv⟩|h0
   ·refine⟨nW n a im hv,?_⟩
    obtain⟨b,hb1,⟨as,hb2,_⟩⟩:=hW n im
    rw[hv]at hb1
    cases hb1
    exact au hb2 hq
   ·exact⟨nN a (aS s h0),(au hq2 h0).symm⟩
  refine⟨_,rfl,_,rfl,a,dI sh it,rfl,R3,lV (hrl it im) (by decide),fun H4 s4=>⟨_,_,rfl,rfl,?_⟩⟩
  have Uh:=s4 _ _ (s3 _ _ hq2)
  refine⟨_,rfl,.inl ⟨rfl,_,bF.of Uh⟩,_,rfl,_,rfl,_,rfl,_,rfl,(by show 4≤sizeLine;decide),fun t ht=>?_⟩
  have Ui:=aj ht (.tup [x,.ref a,.int (0+tot (aZ sh (its.take i))),.int (0+tot (aZ sh (its.take i))+tot (dI sh it))]) _ _ Uh
  refine⟨q,_,_,rfl,rfl,Ui,aM (by omega),?_⟩
  refine⟨_,rfl,_,some x,some (.ref a),some (.int (0+tot (aZ sh (its.take i))+tot (dI sh it))),?_,af,?_,ck hq (s.trans (s3.trans (s4.trans (aj ht _)))) (aJ q _ _)⟩
  ·have e:aZ sh (its.take (i+1))=aZ sh (its.take i)++dI sh it:=by rw[take_snoc ei,eU,mE];rfl
   rw[e,zD,← Int.add_assoc]
   rfl
  ·have e:bN sh 0 (its.take (i+1))=bN sh 0 (its.take i)++[(it,dI sh it,0+tot (aZ sh (its.take i)),0+tot (aZ sh (its.take i))+tot (dI sh it))]:=by rw[take_snoc ei,wc];rfl
   rw[e]
   have QE:t≠q:=(au Uh ht).symm
   refine bK.snoc (hb.mono fun v d h=>(((h.same s3).same s4).same (aj ht _)).keep Ui (fun a h=>h.2) (aJ q _ _)) ⟨t,a,x,rfl,?_,?_,?_,na⟩
   ·rw[aC QE,af]
   ·exact ((((hiv.same s).same s3).same s4).same (aj ht _)).keep Ui (aJ q _ _)
   ·exact (((R3.same s4).same (aj ht _))).keep Ui na.2 (aJ q _ _)
 ·rintro σ H2 ⟨vs,u1,u2,u3,rfl,hq2,hb,s⟩
  rw[hit.len,kO]at hb
  exact⟨_,rfl,k q vs H2 hq2 (hb.mono fun v d ⟨a,ra,x,e,h,i,r,n⟩=>⟨a,ra,x,e,h,i,r,n.1⟩) s hq⟩
inductive uY(vs:List V)(H:Hp)(Q:VK)(E:XK):Prop
 | mk (r S o:Addr) (p:Int) (its JH:List Item) (kvs:List (Key × V)) (sh:Int→List Int) (_:vs=[.ref r,.ref S,.int p,.ref o]) (_:br H (.ref r) its) (_:H S=some (.dK kvs)) (_:xC H kvs sh its) (_:br H (.ref o) JH) (_:iE its) (_:iE JH) (_:Q7 sh its) (_:its.length≤50000) (_:(aZ sh its).length≤50000) (_:JH.length≤50000) (_ :
 ∀ (q:Addr) (H':Hp),br H' (.ref q) (itemsOf (aE sh p 0 (dH its)++dH JH++bE sh p 0 (dH its)))→aF H H'→H q=none→Q (.ref q) H'):uY vs H Q E
theorem gz:aG ["items","views","place","others","ahead","behind","item","row","first","last"] ["items","views","place","others"] (az mq):=⟨rfl,rfl,rfl,by decide +kernel,rfl,by decide +kernel,by decide +kernel⟩
theorem Dj{f fI fZ fP fS fG fK fD:Addr}{fd AU RV JO JN VP fdK Uj:FuncData}(F:iD K "put_among" "put_among" mq f fd)(T:pG mg)(cB:ay K mg "item_row" eX wM fI AU)(iY:ay K mg "size" ssize eY fZ RV)(fL:ay K mg "plain" lu eY fP JO)(gx:ay K mg "pieces" mP mS fS JN)(jA:ay K mg "goes_on" lA Ei fG VP)(cL:ay K mg "plain_items" gu nv fK fdK)(oZ:ay K mg "dealt" qU CA fD Uj){fN:Addr}{Mf:FuncData}(gY:ay K mg "inked" qT eY fN Mf):aB P w K mg base bV 3 f fd Kr uY:=by
 have Hj:aB P w K mg base bV 2 fD Uj CA za:=Fl oZ.F T cB iY
 have pS:aB P w K mg base bV 1 fS JN mS sM:=xx gx.F T
 have rf:aB P w K mg base bV 2 fN Mf eY tN:=v7 gY.F T fL
 have jR:aB P w K mg base bV 2 fK fdK nv lI:=oV cL.F T jA
 refine F.ok gz (fun vs H Q E h=>?_) (fun cdv A outer s H vs Q E hr h=>?_)
 ·obtain⟨r,S,o,p,its,JH,kvs,sh,rfl,_⟩:=h
  rfl
 obtain⟨r,S,o,p,its,JH,kvs,sh,rfl,hI,hS,hW,hO,VQ,ok2,nn,l1,l2,l3,k⟩:=h
 refine⟨_,(ak (aU (i:=4) gz.nd rfl (Or.inl rfl) (bJ ah))
   (ak (aU (i:=5) gz.nd rfl (Or.inl rfl) (bJ ah))
   (ak (gQ PassesOwn.never rfl (cU (aL oZ Hj hr (aa (pv 0) (aa (pv 1) ah)))) (qf (n:=4) rfl (bQ (aY (i:=6) gz.nd rfl (Or.inl rfl)) (bQ (aY (i:=7) gz.nd rfl (Or.inl rfl)) (bQ (aY (i:=8) gz.nd rfl (Or.inl rfl)) (bQ (aY (i:=9) gz.nd rfl (Or.inl rfl)) j3)))))
   (ao (cC (bR mT (pv 9) (pv 2) (bZ _))
   (ao (bw (je qd r9 sf cA (pv 4) (aa (pv 6) ah))))
   (ao (cC (bR mT (pv 2) (pv 8) (bZ _))
   (ao (bw (je qd r9 sf cA (pv 5) (aa (pv 6) ah))))
   (ak (wR (i:=4) gz.nd rfl (Or.inl rfl) (aL gY rf hr (aa (aL gx pS hr (aa (pv 7) (aa aA (aa (bz gR (pv 2) (pv 8)) ah)))) ah)) xr)
   (ao (wR (i:=5) gz.nd rfl (Or.inl rfl) (aL gY rf hr (aa (aL gx pS hr (aa (pv 7) (aa (bz gR (pv 2) (pv 8)) (aa (bz gR (pv 9) (pv 8)) ah)))) ah)) xr))))))))
   (ao (aR (aL cL jR hr (aa (bz kZ (bz kZ (pv 4) (pv 3)) (pv 5)) ah))))))),?_⟩
 refine⟨(by show 0≤sizeLine;decide),fun A hA=>⟨(by show 0≤sizeLine;decide),fun B hB=>?_⟩⟩
 have sA:aF H (upd H A (.lst [])):=aj hA _
 have sB:aF _ (upd (upd H A (.lst [])) B (.lst [])):=aj hB _
 have s0:=sA.trans sB
 have Mg:A≠B:=au af hB
 have Uk:=aS sA hB
 refine⟨_,rfl,_,rfl,r,S,its,kvs,sh,fun a=>a≠A∧a≠B,rfl,hI.same s0,s0 _ _ hS,hW.same s0,by omega,(fun it hi=>by have:=we sh hi;omega),?_,?_,fun D dv H1 hD hdl s1 _=>?_⟩
 ·intro n a hn hv
  obtain⟨b,e,as,hb,_⟩:=hW n hn
  rw[hv]at e
  cases e
  exact⟨au hb hA,au hb Uk⟩
 ·intro a ha
  exact⟨(au (sB _ _ af) ha).symm,(au af ha).symm⟩
 have Ul:=s1 _ _ (sB _ _ (af (H:=H) (a:=A) (o:=.lst [])))
 have Um:=s1 _ _ (af (H:=upd H A (.lst [])) (a:=B) (o:=.lst []))
 have nD:D≠A∧D≠B:=by
  rename_i Uo
  exact⟨(au (sB _ _ af) Uo).symm,(au af Uo).symm⟩
 have ad9:=Ad sh (Q8 p) its 0
 have aea:=Ad sh (Q9 p) its 0
 have Rc:=Dh sh its 0 VQ nn
 refine⟨D,rfl,⟨_,bF.of hD⟩,ie (K:=K) (a:=D) (xs:=dv) (fun i σ H2=>∃ u1 u2 u3 u4:Option V,σ=[some (.ref r),some (.ref S),some (.int p),some (.ref o),some (.ref A),some (.ref B),u1,u2,u3,u4]∧nM H1 A B (((bN sh 0 its).take i).flatMap (aD p)) (((bN sh 0 its).take i).flatMap (bD p)) H2)
  ⟨none,none,none,none,rfl,⟨_,Ul,.nil⟩,⟨_,Um,.nil⟩,fun _ _ e _ _=>e⟩ (fun i σ H2 _ ⟨_,_,_,_,_,pv⟩=>bF.of (pv.k _ _ hD nD.1 nD.2)) ?_ ?_⟩
 ·rintro i x σ H2 hi ⟨u1,u2,u3,u4,rfl,pv⟩
  obtain⟨d,ed,hd1⟩:=hdl.get hi
  have hd2:=hd1.Pf Ul Um (fun a h=>h) pv.k
  obtain⟨a,ra,xi,rfl,hta,hxi,RW,nra⟩:=hd2
  have eA:=tP (aD p) ed
  have eB:=tP (bD p) ed
  have bA:=kH (aD p) (bN sh 0 its) i
  have bB:=kH (bD p) (bN sh 0 its) i
  have bA1:=kH (aD p) (bN sh 0 its) (i+1)
  have bB1:=kH (bD p) (bN sh 0 its) (i+1)
  obtain⟨v1,hv1,t1⟩:=pv.a
  obtain⟨v2,hv2,t2⟩:=pv.b
  have z1:=t1.len
  have z2:=t2.len
  obtain⟨it,row,fi,la⟩:=d
  have rl:row.length≤50000:=by
   have z:=vB ed
   have:∃ it'∈its,row=dI sh it':=by
    have q:∀ (its:List Item) (f:Int),(it,row,fi,la)∈bN sh f its→∃ it'∈its,row=dI sh it':=by
     intro its
     induction its with
     | nil=>intro f h;cases h
     | cons i0 r0 ih =>
      intro f h
      rw[bN]at h
      rcases List.mem_cons.mp h with e|e
      ·cases e;exact⟨it,by simp,rfl⟩
      ·obtain⟨i1,m1,e1⟩:=ih _ e
       exact⟨i1,rX _ m1,e1⟩
    exact q its 0 z
   obtain⟨i1,m1,rfl⟩:=this
   have:=we sh m1
   omega
  refine⟨a,_,rfl,jc.of hta,rfl,_,_,rfl,_,_,rfl,_,_,rfl,_,_,rfl,rfl,?_⟩
  refine⟨_,rfl,_,rfl,_,_,rfl,rfl,_,rfl,dQ (fun c=>?_) (fun c=>?_)⟩
  ·have c':la≤p:=of_decide_eq_true c
   refine⟨_,rfl,.inl ⟨rfl,_,bF.of hv1⟩,_,rfl,A,_,_,rfl,rfl,hv1,aM (by omega),?_⟩
   refine⟨_,_,_,_,rfl,?_⟩
   rw[eA,eB]
   have e1:aD p (it,row,fi,la)=[it]:=by unfold aD;rw[if_pos c']
   have e2:bD p (it,row,fi,la)=[]:=by unfold bD;rw[if_pos c']
   rw[e1,e2,nA]
   exact pv.IG Mg hv1 (.cons hxi .nil)
  ·have c':¬ la≤p:=fun z=>c (decide_eq_true z)
   refine⟨_,rfl,_,rfl,_,_,rfl,rfl,_,rfl,dQ (fun c2=>?_) (fun c2=>?_)⟩
   ·have Rf:p≤fi:=of_decide_eq_true c2
    refine⟨_,rfl,.inl ⟨rfl,_,bF.of hv2⟩,_,rfl,B,_,_,rfl,rfl,hv2,aM (by omega),?_⟩
    refine⟨_,_,_,_,rfl,?_⟩
    rw[eA,eB]
    have e1:aD p (it,row,fi,la)=[]:=by unfold aD;rw[if_neg c',if_pos Rf]
    have e2:bD p (it,row,fi,la)=[it]:=by unfold bD;rw[if_neg c',if_pos Rf]
    rw[e1,e2,nA]
    exact pv.II Mg hv2 (.cons hxi .nil)
   ·have Rf:¬ p≤fi:=fun z=>c2 (decide_eq_true z)
    have e1:aD p (it,row,fi,la)=dO (bT (nK 0 (p-fi) 0 row)):=by unfold aD;rw[if_neg c',if_neg Rf]
    have e2:bD p (it,row,fi,la)=dO (bT (nK (p-fi) (la-fi) 0 row)):=by unfold bD;rw[if_neg c',if_neg Rf]
    rw[eA,e1,eG]at bA1
    rw[eB,e2,eG]at bB1
    refine⟨_,rfl,_,rfl,_,rfl,_,rfl,_,_,rfl,rfl,ra,row,0,p-fi,rfl,RW,by omega,fun q1 H3 R3 s3 hq1=>⟨q1,_,rfl,R3,lV (oK _ _ _ _) (by omega),fun q2 H4 I4 s4 hq2=>?_⟩⟩
    obtain⟨q2',v3,e3,h3,t3⟩:=I4
    cases e3
    have z3:=t3.len
    have J1:=s4 _ _ (s3 _ _ hv1)
    refine⟨A,q2,_,_,rfl,rfl,J1,h3,jI (aM (by omega)),?_⟩
    have pv5:=((pv.same s3).same s4).IG Mg J1 t3
    have aeg:bX (upd H4 A (.lst (v1++v3))) ra row:=((RW.same s3).same s4).keep J1 nra.1 (aJ A _ _)
    have aeh:(upd H4 A (.lst (v1++v3))) B=some (.lst v2):=by rw[aC Mg.symm];exact s4 _ _ (s3 _ _ hv2)
    refine⟨_,rfl,_,rfl,_,rfl,_,rfl,_,_,rfl,rfl,_,rfl,_,rfl,_,_,rfl,rfl,ra,row,p-fi,la-fi,rfl,aeg,by omega,fun q3 H6 R6 s6 IA=>⟨q3,_,rfl,R6,lV (oK _ _ _ _) (by omega),fun q4 H7 I7 s7 Uh=>?_⟩⟩
    obtain⟨q4',v4,e4,h4,t4⟩:=I7
    cases e4
    have z4:=t4.len
    have Pg:=s7 _ _ (s6 _ _ aeh)
    refine⟨B,q4,_,_,rfl,rfl,Pg,h4,jI (aM (by omega)),?_⟩
    refine⟨_,_,_,_,rfl,?_⟩
    rw[eA,eB,e1,e2]
    exact ((pv5.same s6).same s7).II Mg Pg t4
 ·rintro σ H2 ⟨u1,u2,u3,u4,rfl,pv⟩
  have dl:=hdl.len
  rw[dl,kO]at pv
  obtain⟨v1,hv1,t1⟩:=pv.a
  obtain⟨v2,hv2,t2⟩:=pv.b
  have z1:=t1.len
  have z2:=t2.len
  have sm:aF H H2:=fun a ob e=>pv.k a ob (s1 _ _ (s0 _ _ e)) (au e hA) (au e Uk)
  obtain⟨o',v3,e3,h3,t3⟩:=hO.same sm
  cases e3
  have z3:=t3.len
  refine⟨_,rfl,_,rfl,A,o,_,_,rfl,rfl,hv1,h3,jI (aM (by omega)),fun c1 hc1=>?_⟩
  have n1:aF H2 (upd H2 c1 (.lst (v1++v3))):=aj hc1 _
  refine⟨_,rfl,c1,B,_,_,rfl,rfl,af,n1 _ _ hv2,jI (aM (by rw[eG];omega)),fun c2 hc2=>?_⟩
  have n2:aF _ (upd (upd H2 c1 (.lst (v1++v3))) c2 (.lst (v1++v3++v2))):=aj hc2 _
  have Lx:=n1.trans n2
  refine⟨c2,_,rfl,⟨c2,_,rfl,af,((t1.app t3).app t2).mono fun v i h=>h.same Lx⟩,by rw[eG,eG];omega,fun q H9 I9 s9 hq9=>?_⟩
  have okA:iE ((bN sh 0 its).flatMap (aD p)):=Di fun d hd=>Uc (Rc d hd).1 (Rc d hd).2
  have okB:iE ((bN sh 0 its).flatMap (bD p)):=Di fun d hd=>Ud (Rc d hd).1 (Rc d hd).2
  rw[pU _ ((okA.append ok2).append okB),gy,gy,Fi sh p its 0 VQ,Co sh p its 0 VQ]at I9
  exact k q H9 I9 (sm.trans (Lx.trans s9)) (aS (sm.trans Lx) hq9)
inductive rj(C:Addr)(vs:List V)(H:Hp)(Q:VK)(E:XK):Prop
 | mk (r o:Addr) (rows:eF) (s p:Int) (its:List Item) (sh:Int→List Int) (_:vs=[.ref r,.int s,.int p,.ref o]) (_:uX H r rows sh) (_:0≤s) (_:s<rows.length) (_:br H (.ref o) its) (_:iE its) (_:its.length≤10000) (_:qW p) (_:(0≤p∧p≤(sh s).length→∀ (es:List Int) (q:Addr) (H':Hp),rows[s.toNat]?=some es→br H' (.ref q) (itemsOf (qp sh p es (dH its)))→aF H H'→H q=none→Q (.ref q) H')) (_:(¬ (0≤p∧p≤(sh s).length)→∀ H',aF H H'→E (.ref C) none H')):rj C vs H Q E
theorem Mh{its:List Item}(h:iE its):dH its=[]↔its=[]:=by
 refine⟨fun e=>?_,fun e=>by rw[e];rfl⟩
 cases its with
 | nil=>rfl
 | cons it r =>
  have e1:dH (it::r)=iG it++dH r:=by unfold dH;rw[l9]
  rw[e1]at e
  have e2:=(List.append_eq_nil_iff.mp e).1
  cases it with
  | win n=>cases e2
  | aH a b =>
   have ab:a<b:=(h (.aH a b) (by simp)).2
   have:=jq a (b-a).toNat
   have e3:run a (b-a).toNat=[]:=e2
   rw[e3]at this
   simp only[oj]at this
   omega
theorem yk:aG ["rows","sheet","place","items","views"] ["rows","sheet","place","items"] (az oq):=⟨rfl,rfl,rfl,by decide +kernel,rfl,by decide +kernel,by decide +kernel⟩
theorem wg{f fw fb fi fp fv fs fc fg fk fd' fq fn fa C:Addr}{fd gw gb gi gp gv gs gc gg gk gd gq gn ga:FuncData}(F:iD K "put_items" "put_items" oq f fd)(T:pG mg)(Z:ExcAt K mg C)
  (cu:ay K mg "windows" dZ nv fw gw) (jz:ay K mg "below" ly lS fb gb) (cB:ay K mg "item_row" eX wM fi gi) (fL:ay K mg "plain" lu eY fp gp) (cY:ay K mg "views_below" dJ lS fv gv) (iY:ay K mg "size" ssize eY fs gs) (bY:ay K mg "check_places" eT mS fc gc)
  (jA:ay K mg "goes_on" lA Ei fg gg) (cL:ay K mg "plain_items" gu nv fk gk) (oZ:ay K mg "dealt" qU CA fd' gd) (gx:ay K mg "pieces" mP mS fq gq) (gY:ay K mg "inked" qT eY fn gn) (rm:ay K mg "put_among" mq Kr fa ga):aB P w K mg base (oJ P w) 4 f fd Ku (rj C):=by
 have gX:aB P w K mg base (oJ P w) 2 _ _ mS (tL C):=j6 bY.F T Z iY
 have lH:aB P w K mg base bV 3 _ _ lS vZ:=oU cY.F T cu jz cB fL
 have jR:aB P w K mg base bV 2 _ _ nv lI:=oV cL.F T jA
 have Hl:aB P w K mg base bV 3 _ _ Kr uY:=Dj rm.F T cB iY fL gx jA cL oZ gY
 refine F7 F yk (fun vs H Q E h=>?_) (fun cdv A outer s0 H vs Q E hr h=>?_)
 ·obtain⟨r,o,rows,s,p,its,sh,rfl,_⟩:=h
  rfl
 obtain⟨r,o,rows,s,p,its,sh,rfl,R,h0,h1,hO,ok,ol,fp,k1,k2⟩:=h
 have hu:=lY hr
 refine⟨_,(ak (aU (i:=4) yk.nd rfl (Or.inl rfl) (aL cY lH hr (aa (pv 0) (aa (bJ (aa (pv 1) ah)) ah))))
   (ak (bw (pO bY gX hr lZ (aa (dX hu (pv 4) (pv 1) (fun _ _=>rfl)) (aa (pv 2) (aa (pv 2) ah)))))
   (ak (cC (mh (mU (pv 3) (fun _=>rfl)))
   (ao (aR (aL cL jR hr (aa (bq bf (pv 0) (pv 1) (fun _ _=>rfl)) ah))))
   bL)
   (ao (aR (aL rm Hl hr (aa (bq bf (pv 0) (pv 1) (fun _ _=>rfl)) (aa (pv 4) (aa (pv 2) (aa (pv 3) ah)))))))))),?_⟩
 refine⟨_,rfl,_,rfl,(by show 1≤sizeLine;decide),fun L hL=>?_⟩
 have s1:aF H (upd H L (.lst [.int s])):=aj hL _
 refine⟨r,L,rows,[s],sh,rfl,R.at_.same s1,af,by simp,R.len,R.ents,R.snd,R.rk,(fun x hx=>by rw[List.mem_singleton.mp hx];exact⟨h0,h1⟩),R.Ue,R.bd,fun S kvs ks H2 hS hv tp sk hn s2 hS0=>?_⟩
 have Up:=sk s (by simp)
 obtain⟨a,ha,Ra⟩:=hv s Up
 have z:=mC.k (k:=Sum.inl s) hS
 rw[ha]at z
 have s12:=s1.trans s2
 have shl:=R.bd s h0 h1
 have rol:=tQ (sh s)
 obtain⟨es,G4,b,O⟩:=(R.same s12).one h0 h1
 refine⟨_,rfl,_,rfl,S,_,rfl,z,_,rfl,_,rfl,a,rowOf (sh s),p,p,rfl,Ra,by omega,fp,fp,(by rw[O.tt];exact qW.small (by omega) (by omega)),fun hin H3 s3=>?_,fun hin H3 s3=>?_⟩
 ·have hp:0≤p∧p≤(sh s).length:=⟨hin.1,by rw[← O.tt];exact hin.2.2⟩
  obtain⟨es',aej,b',O3⟩:=(R.same (s12.trans s3)).one h0 h1
  have ee:es=es':=sr (O.he.symm.trans O3.he)
  subst ee
  have hO3:=hO.same (s12.trans s3)
  obtain⟨o',VR,eo,ho,to⟩:=id hO3
  cases eo
  refine⟨_,rfl,!VR.isEmpty,.inl ⟨_,bF.of ho,rfl⟩,?_⟩
  have el:=to.len
  cases its with
  | nil =>
   have:VR=[]:=List.eq_nil_of_length_eq_zero (by simpa using el)
   subst this
   refine lW ?_
   refine⟨_,rfl,_,rfl,r,_,_,_,rfl,rfl,bF.of O3.hr,O3.ix,b',itemsOf es,rfl,O3.it,lV O3.il (by decide),fun q H4 I4 s4 hq=>?_⟩
   refine k1 hp es q H4 O.he ?_ (s12.trans (s3.trans s4)) (aS (s12.trans s3) hq)
   obtain⟨e1,e2⟩:=qY es
   rw[pU _ e2,e1]at I4
   exact I4
  | cons it r0 =>
   have:(!VR.isEmpty)=true:=by
    cases VR with
    | nil=>simp at el
    | cons _ _=>rfl
   rw[this]
   refine iL ?_
   refine⟨_,rfl,_,rfl,r,_,_,_,rfl,rfl,bF.of O3.hr,O3.ix,_,rfl,_,rfl,_,rfl,b',S,o,p,itemsOf es,it::r0,kvs,sh,rfl,O3.it,s3 _ _ hS,fun n hn=>?_,hO3,(qY es).2,ok,fun n hn=>?_,lV O3.il (by decide),lV O3.rl (by decide),lV ol (by decide),fun q H4 I4 s4 hq=>?_⟩
   ·have nx:=yZ h0 O.he hn
    obtain⟨i,hi⟩:=List.getElem?_of_mem Up
    obtain⟨a2,e2,R2⟩:=hv n (List.mem_of_mem_take (tp.dn i s hi n nx))
    exact⟨a2,e2,R2.same s3⟩
   ·have nx:=yZ h0 O.he hn
    obtain⟨n0,n1⟩:=R.snd.QM nx
    exact Ae R.snd R.rk R.Ue n n0 n1
   ·refine k1 hp es q H4 O.he ?_ (s12.trans (s3.trans s4)) (aS (s12.trans s3) hq)
    rw[(qY es).1]at I4
    unfold qp
    rw[if_neg (fun z=>by cases (Mh ok).mp z)]
    exact I4
 ·exact k2 (fun hp=>hin ⟨hp.1,Int.le_refl _,by rw[O.tt];exact hp.2⟩) H3 (s12.trans s3)
def kD(a b:Int)(d:qE):List Item:=if d.2.2.2≤a∨b≤d.2.2.1 then [d.1] else if a≤d.2.2.1∧d.2.2.2≤b then [] else dO (bT (nK 0 (a-d.2.2.1) 0 d.2.1++nK (b-d.2.2.1) (d.2.2.2-d.2.2.1) 0 d.2.1))
def tD(a b:Int)(d:qE):List Item:=if d.2.2.2≤a∨b≤d.2.2.1 then [] else if a≤d.2.2.1∧d.2.2.2≤b then [d.1] else dO (bT (nK (a-d.2.2.1) (b-d.2.2.1) 0 d.2.1))
def VS(sh:Int→List Int)(a b f e:Int):List Int:=if f+(m8 sh e).length≤a∨b≤f then [e] else if a≤f∧f+(m8 sh e).length≤b then [] else (m8 sh e).take (a-f).toNat++(m8 sh e).drop (b-f).toNat
def kE(sh:Int→List Int)(a b:Int):Int→List Int→List Int
 | _,[]=>[]
 | f,e::r=>VS sh a b f e++kE sh a b (f+(m8 sh e).length) r
theorem Cp(sh:Int→List Int)(a b:Int)(y:List Int):∀ (x:List Int) (f:Int),kE sh a b f (x++y)=kE sh a b f x++kE sh a b (f+(cM sh x).length) y
 | [],f=>by simp[kE,cM]
 | e::x,f=>by
  rw[List.cons_append,kE,kE,Cp sh a b y x,qw,iQ,eG,Int.add_assoc]
  push_cast
  rfl
theorem tnS{a f:Int}(h:f<a):(a-f).toNat=(a-(f+1)).toNat+1:=by omega
theorem Ph{a f:Int}(h:a≤f):(a-f).toNat=0:=Int.toNat_of_nonpos (Int.sub_nonpos_of_le h)
theorem VT{a f:Int}(h:a≤f):(a-(f+1)).toNat=0:=Ph (Int.le_trans h (Int.le_of_lt (Int.lt_succ f)))
theorem nS{a f:Int}(h:¬ f+1≤a):a≤f:=Int.not_lt.mp h
theorem Mi(sh:Int→List Int){a b:Int}(ab:a<b):∀ (n:Nat) (x f:Int),0≤x→kE sh a b f (run x n)=(run x n).take (a-f).toNat++(run x n).drop (b-f).toNat
 | 0,_,_,_=>by simp[run,kE]
 | n+1,x,f,h=>by
  rw[run,kE,Mi sh ab n (x+1) _ (by omega)]
  unfold VS
  rw[pV sh h]
  show (if f+1≤a∨b≤f then [x] else if a≤f∧f+1≤b then [] else _)++((run (x+1) n).take (a-(f+1)).toNat++(run (x+1) n).drop (b-(f+1)).toNat)=_
  by_cases c1:f+1≤a
  ·rw[if_pos (.inl c1),tnS c1,tnS (Int.lt_trans c1 ab)]
   rfl
  ·by_cases c2:b≤f
   ·rw[if_pos (.inr c2),Ph (nS c1),Ph c2,VT (nS c1),VT c2]
    rfl
   ·rw[if_neg (fun z=>z.elim c1 c2),if_pos ⟨nS c1,Int.not_le.mp c2⟩,Ph (nS c1),tnS (Int.not_le.mp c2),VT (nS c1)]
    rfl
theorem J2{a b t:Int}{r:Row}(ok:∀ p∈r,p.1≤p.2)(h:(bx r).length≤t.toNat):bx (bT (nK 0 a 0 r++nK b t 0 r))=(bx r).take a.toNat++(bx r).drop b.toNat:=by
 rw[pP _ (QI (CY _ _ _ _) (CY _ _ _ _)),cF,tK _ _ _ _ ok,tK _ _ _ _ ok]
 show ((bx r).take (a-0).toNat).drop 0++((bx r).take (t-0).toNat).drop (b-0).toNat=_
 rw[Int.sub_zero,Int.sub_zero,Int.sub_zero,zd h]
 rfl
theorem Uq(sh:Int→List Int){a b:Int}(ab:a<b)(f:Int)(it:Item)(h:pT it):dH (kD a b (it,dI sh it,f,f+tot (dI sh it)))=kE sh a b f (iG it):=by
 have tt:=qG sh it h
 have sp:dH (dO (bT (nK 0 (a-f) 0 (dI sh it)++nK (b-f) (f+tot (dI sh it)-f) 0 (dI sh it))))=(cM sh (iG it)).take (a-f).toNat++(cM sh (iG it)).drop (b-f).toNat:=by
  rw[sP,J2 (yX sh it h) (by rw[oY sh it h,tt];omega),oY sh it h]
 unfold kD
 show dH (if f+tot (dI sh it)≤a∨b≤f then [it] else if a≤f∧f+tot (dI sh it)≤b then [] else dO (bT (nK 0 (a-f) 0 (dI sh it)++nK (b-f) (f+tot (dI sh it)-f) 0 (dI sh it))))=_
 have c1:(f+tot (dI sh it)≤a∨b≤f)=(f+(cM sh (iG it)).length≤a∨b≤f):=by rw[tt]
 have c2:(a≤f∧f+tot (dI sh it)≤b)=(a≤f∧f+(cM sh (iG it)).length≤b):=by rw[tt]
 simp only[c1,c2]
 cases it with
 | win n =>
  have e1:cM sh (iG (.win n))=m8 sh (-1-n):=by show cM sh [-1-n]=_;rw[iQ];simp[cM]
  rw[e1]at sp ⊢
  show _=kE sh a b f [-1-n]
  rw[kE,kE,nA]
  unfold VS
  split
  ·rfl
  ·split
   ·rfl
   ·exact sp
 | aH x y =>
  have e1:cM sh (iG (.aH x y))=run x (y-x).toNat:=qF sh _ _ h.1
  rw[e1]at sp ⊢
  show _=kE sh a b f (run x (y-x).toNat)
  rw[Mi sh ab _ _ _ h.1]
  have rl:=jq x (y-x).toNat
  split
  ·rename_i c
   rw[oW]
   rcases c with c|c
   ·rw[zd (by omega),List.drop_of_length_le (by omega),nA]
    rfl
   ·rw[Ph (Int.le_trans (Int.le_of_lt ab) c),Ph c]
    rfl
  ·split
   ·rename_i c
    rw[Ph c.1,List.drop_of_length_le (by omega)]
    rfl
   ·exact sp
theorem IJ(sh:Int→List Int){a b:Int}(ab:a<b):∀ (its:List Item) (f:Int),iE its→dH ((bN sh f its).flatMap (kD a b))=kE sh a b f (dH its)
 | [],f,_=>rfl
 | it::r,f,h=>by
  have h1:=h it (by simp)
  rw[bN,l9,gy,Uq sh ab f it h1,IJ sh ab r _ fun i hi=>h i (rX _ hi)]
  have e:dH (it::r)=iG it++dH r:=by unfold dH;rw[l9]
  rw[e,Cp,qG sh it h1]
theorem Ur{a b:Int}{d:qE}(h:pT d.1)(g:oR d.2.1):iE (kD a b d):=by
 unfold kD
 split
 ·exact iE.one h
 ·split
  ·exact fun i hi=>by cases hi
  ·exact v8 (qD fun p hp=>(List.mem_append.mp hp).elim (zS _ _ _ _ g p) (zS _ _ _ _ g p))
theorem Mj(a b:Int)(d:qE):(kD a b d).length≤d.2.1.length+d.2.1.length+1:=by
 unfold kD
 split
 ·simp
 ·split
  ·simp
  ·rw[yY]
   refine lV (qA _) ?_
   rw[eG]
   have:=oK 0 (a-d.2.2.1) d.2.1 0
   have:=oK (b-d.2.2.1) (d.2.2.2-d.2.2.1) d.2.1 0
   omega
theorem Rg(a b:Int)(d:qE):(tD a b d).length≤d.2.1.length+d.2.1.length+1:=by
 unfold tD
 split
 ·simp
 ·split
  ·simp
  ·exact lV (tO _ _ _) (by omega)
theorem tR(sh:Int→List Int){g:qE→List Item}(hg:∀ d,(g d).length≤d.2.1.length+d.2.1.length+1):∀ (its:List Item) (f:Int),((bN sh f its).flatMap g).length≤(aZ sh its).length+(aZ sh its).length+its.length
 | [],_=>by simp[bN]
 | it::r,f=>by
  rw[bN,l9,eG]
  have a:=hg (it,dI sh it,f,f+tot (dI sh it))
  have b:=tR sh hg r (f+tot (dI sh it))
  have e:aZ sh (it::r)=dI sh it++aZ sh r:=by unfold aZ;rw[l9];rfl
  rw[e,eG,ny]
  simp only at a
  omega
theorem Fo(sh:Int→List Int)(it:Item)(row:Row)(fi la:Int):∀ (its:List Item) (f:Int),(it,row,fi,la)∈bN sh f its→∃ it'∈its,row=dI sh it'
 | [],_,h=>by cases h
 | i0::r0,f,h=>by
  rw[bN]at h
  rcases List.mem_cons.mp h with e|e
  ·cases e;exact⟨it,by simp,rfl⟩
  ·obtain⟨i1,m1,e1⟩:=Fo sh it row fi la r0 _ e
   exact⟨i1,rX _ m1,e1⟩
theorem Cq{H:Hp}{A:Addr}{l:List Item}{vs:List V}(h:H A=some (.lst vs))(t:bK (cy H) vs l):br H (.ref A) l:=⟨A,vs,rfl,h,t⟩
def uZ(sh:Int→List Int)(a b:Int)(es:List Int):List Int:=if a=b then es else kE sh a b 0 es
inductive Af(vs:List V)(H:Hp)(Q:VK)(E:XK):Prop
 | mk (r S:Addr) (a b:Int) (its:List Item) (kvs:List (Key × V)) (sh:Int→List Int) (_:vs=[.ref r,.ref S,.int a,.int b]) (_:br H (.ref r) its) (_:H S=some (.dK kvs)) (_:xC H kvs sh its) (_:its.length≤10000) (_:(aZ sh its).length≤20000) (_ :
 ∀ (t L M:Addr) (H':Hp),H' t=some (.tup [.ref L,.ref M])→br H' (.ref L) ((bN sh 0 its).flatMap (kD a b))→br H' (.ref M) ((bN sh 0 its).flatMap (tD a b))→aF H H'→Q (.ref t) H'):Af vs H Q E
theorem lJ:aG ["items","views","start","stop","left","taken","item","row","first","last"] ["items","views","start","stop"] (az tF):=⟨rfl,rfl,rfl,by decide +kernel,rfl,by decide +kernel,by decide +kernel⟩
theorem J3{f fI fZ fP fS fD fN:Addr}{fd AU RV JO JN Uj Mf:FuncData}(F:iD K "parted" "parted" tF f fd)(T:pG mg)(cB:ay K mg "item_row" eX wM fI AU)(iY:ay K mg "size" ssize eY fZ RV)(fL:ay K mg "plain" lu eY fP JO)(gx:ay K mg "pieces" mP mS fS JN)(oZ:ay K mg "dealt" qU CA fD Uj)(gY:ay K mg "inked" qT eY fN Mf):aB P w K mg base bV 3 f fd Ks Af:=by
 have Hj:aB P w K mg base bV 2 fD Uj CA za:=Fl oZ.F T cB iY
 have pS:aB P w K mg base bV 1 fS JN mS sM:=xx gx.F T
 have rf:aB P w K mg base bV 2 fN Mf eY tN:=v7 gY.F T fL
 refine F.ok lJ (fun vs H Q E h=>?_) (fun cdv A outer s H vs Q E hr h=>?_)
 ·obtain⟨r,S,a,b,its,kvs,sh,rfl,_⟩:=h
  rfl
 obtain⟨r,S,p,q,its,kvs,sh,rfl,hI,hS,hW,l1,l2,k⟩:=h
 refine⟨_,(ak (aU (i:=4) lJ.nd rfl (Or.inl rfl) (bJ ah))
   (ak (aU (i:=5) lJ.nd rfl (Or.inl rfl) (bJ ah))
   (ak (gQ PassesOwn.never rfl (cU (aL oZ Hj hr (aa (pv 0) (aa (pv 1) ah)))) (qf (n:=4) rfl (bQ (aY (i:=6) lJ.nd rfl (Or.inl rfl)) (bQ (aY (i:=7) lJ.nd rfl (Or.inl rfl)) (bQ (aY (i:=8) lJ.nd rfl (Or.inl rfl)) (bQ (aY (i:=9) lJ.nd rfl (Or.inl rfl)) j3)))))
   (ao (cC (PW.pt (KA (bR mT (pv 9) (pv 2) (bZ _)) (Gj (bR mT (pv 3) (pv 8) (bZ _)))))
   (ao (bw (je qd r9 sf cA (pv 4) (aa (pv 6) ah))))
   (ao (cC (PW.pt (wQ (bR mT (pv 2) (pv 8) (bZ _)) (vI (bR mT (pv 9) (pv 3) (bZ _)))))
   (ao (bw (je qd r9 sf cA (pv 5) (aa (pv 6) ah))))
   (ak (wR (i:=4) lJ.nd rfl (Or.inl rfl) (aL gY rf hr (aa (bz kZ (aL gx pS hr (aa (pv 7) (aa aA (aa (bz gR (pv 2) (pv 8)) ah)))) (aL gx pS hr (aa (pv 7) (aa (bz gR (pv 3) (pv 8)) (aa (bz gR (pv 9) (pv 8)) ah))))) ah)) xr)
   (ao (wR (i:=5) lJ.nd rfl (Or.inl rfl) (aL gY rf hr (aa (aL gx pS hr (aa (pv 7) (aa (bz gR (pv 2) (pv 8)) (aa (bz gR (pv 3) (pv 8)) ah)))) ah)) xr))))))))
   (ao (aR (eK (aa (pv 4) (aa (pv 5) ah)))))))),?_⟩
 refine⟨(by show 0≤sizeLine;decide),fun A hA=>⟨(by show 0≤sizeLine;decide),fun B hB=>?_⟩⟩
 have sA:aF H (upd H A (.lst [])):=aj hA _
 have sB:aF _ (upd (upd H A (.lst [])) B (.lst [])):=aj hB _
 have s0:=sA.trans sB
 have Mg:A≠B:=au af hB
 have Uk:=aS sA hB
 refine⟨_,rfl,_,rfl,r,S,its,kvs,sh,fun a=>a≠A∧a≠B,rfl,hI.same s0,s0 _ _ hS,hW.same s0,by omega,(fun it hi=>by have:=we sh hi;omega),?_,?_,fun D dv H1 hD hdl s1 _=>?_⟩
 ·intro n a hn hv
  obtain⟨b,e,as,hb,_⟩:=hW n hn
  rw[hv]at e
  cases e
  exact⟨au hb hA,au hb Uk⟩
 ·intro a ha
  exact⟨(au (sB _ _ af) ha).symm,(au af ha).symm⟩
 have Ul:=s1 _ _ (sB _ _ (af (H:=H) (a:=A) (o:=.lst [])))
 have Um:=s1 _ _ (af (H:=upd H A (.lst [])) (a:=B) (o:=.lst []))
 have nD:D≠A∧D≠B:=by
  rename_i Uo
  exact⟨(au (sB _ _ af) Uo).symm,(au af Uo).symm⟩
 have ad9:=tR sh (Mj p q) its 0
 have aea:=tR sh (Rg p q) its 0
 refine⟨D,rfl,⟨_,bF.of hD⟩,ie (K:=K) (a:=D) (xs:=dv) (fun i σ H2=>∃ u1 u2 u3 u4:Option V,σ=[some (.ref r),some (.ref S),some (.int p),some (.int q),some (.ref A),some (.ref B),u1,u2,u3,u4]∧nM H1 A B (((bN sh 0 its).take i).flatMap (kD p q)) (((bN sh 0 its).take i).flatMap (tD p q)) H2)
  ⟨none,none,none,none,rfl,⟨_,Ul,.nil⟩,⟨_,Um,.nil⟩,fun _ _ e _ _=>e⟩ (fun i σ H2 _ ⟨_,_,_,_,_,pv⟩=>bF.of (pv.k _ _ hD nD.1 nD.2)) ?_ ?_⟩
 ·rintro i x σ H2 hi ⟨u1,u2,u3,u4,rfl,pv⟩
  obtain⟨d,ed,hd1⟩:=hdl.get hi
  have hd2:=hd1.Pf Ul Um (fun a h=>h) pv.k
  obtain⟨a,ra,xi,rfl,hta,hxi,RW,nra⟩:=hd2
  have eA:=tP (kD p q) ed
  have eB:=tP (tD p q) ed
  have bA:=kH (kD p q) (bN sh 0 its) i
  have bB:=kH (tD p q) (bN sh 0 its) i
  have bA1:=kH (kD p q) (bN sh 0 its) (i+1)
  have bB1:=kH (tD p q) (bN sh 0 its) (i+1)
  obtain⟨v1,hv1,t1⟩:=pv.a
  obtain⟨v2,hv2,t2⟩:=pv.b
  have z1:=t1.len
  have z2:=t2.len
  obtain⟨it,row,fi,la⟩:=d
  have rl:row.length≤20000:=by
   obtain⟨i1,m1,rfl⟩:=Fo sh it row fi la its 0 (vB ed)
   have:=we sh m1
   omega
  have mV:v1.length<sizeLine:=aM (by omega)
  have Ml:(la≤p∨q≤fi)→nM H1 A B (((bN sh 0 its).take (i+1)).flatMap (kD p q)) (((bN sh 0 its).take (i+1)).flatMap (tD p q)) (upd H2 A (.lst (v1++[xi]))):=fun c=>by
   rw[eA,eB]
   have e1:kD p q (it,row,fi,la)=[it]:=by unfold kD;rw[if_pos c]
   have e2:tD p q (it,row,fi,la)=[]:=by unfold tD;rw[if_pos c]
   rw[e1,e2,nA]
   exact pv.IG Mg hv1 (.cons hxi .nil)
  refine⟨a,_,rfl,jc.of hta,rfl,_,_,rfl,_,_,rfl,_,_,rfl,_,_,rfl,rfl,?_⟩
  refine⟨_,rfl,_,rfl,_,_,rfl,rfl,_,rfl,dQ (fun c=>lW ?_) (fun c=>?_)⟩
  ·exact⟨_,rfl,.inl ⟨rfl,_,bF.of hv1⟩,_,rfl,A,_,_,rfl,rfl,hv1,mV,_,_,_,_,rfl,Ml (.inl (of_decide_eq_true c))⟩
  have c':¬ la≤p:=fun z=>c (decide_eq_true z)
  refine⟨_,rfl,_,rfl,_,_,rfl,rfl,_,rfl,dQ (fun c2=>?_) (fun c2=>?_)⟩
  ·exact⟨_,rfl,.inl ⟨rfl,_,bF.of hv1⟩,_,rfl,A,_,_,rfl,rfl,hv1,mV,_,_,_,_,rfl,Ml (.inr (of_decide_eq_true c2))⟩
  have Rf:¬ q≤fi:=fun z=>c2 (decide_eq_true z)
  have n1:¬ (la≤p∨q≤fi):=fun z=>z.elim c' Rf
  have part:¬ (p≤fi∧la≤q)→nM H1 A B (((bN sh 0 its).take i).flatMap (kD p q)) (((bN sh 0 its).take i).flatMap (tD p q)) H2→kD p q (it,row,fi,la)=dO (bT (nK 0 (p-fi) 0 row++nK (q-fi) (la-fi) 0 row))∧tD p q (it,row,fi,la)=dO (bT (nK (p-fi) (q-fi) 0 row)):=fun c3 _=>by
   refine⟨?_,?_⟩
   ·unfold kD;rw[if_neg n1,if_neg c3]
   ·unfold tD;rw[if_neg n1,if_neg c3]
  have go:¬ (p≤fi∧la≤q)→∀ (q1 q2:Addr) (v3:List V) (H4:Hp),H4 q2=some (.lst v3)→bK (cy H4) v3 (dO (bT (nK 0 (p-fi) 0 row++nK (q-fi) (la-fi) 0 row)))→aF H2 H4→v1.length+v3.length≤sizeLine∧nM H1 A B (((bN sh 0 its).take (i+1)).flatMap (kD p q)) (((bN sh 0 its).take i).flatMap (tD p q)) (upd H4 A (.lst (v1++v3)))∧bX (upd H4 A (.lst (v1++v3))) ra row∧(upd H4 A (.lst (v1++v3))) B=some (.lst v2):=fun c3 q1 q2 v3 H4 h3 t3 s4=>by
   obtain⟨e1,e2⟩:=part c3 pv
   have z3:=t3.len
   rw[eA,e1,eG]at bA1
   have J1:=s4 _ _ hv1
   refine⟨Nat.le_of_lt (aM (by omega)),?_,(RW.same s4).keep J1 nra.1 (aJ A _ _),by rw[aC Mg.symm];exact s4 _ _ hv2⟩
   rw[eA,e1]
   exact (pv.same s4).IG Mg J1 t3
  have go2:¬ (p≤fi∧la≤q)→∀ (v4:List V) (H5 H7:Hp),nM H1 A B (((bN sh 0 its).take (i+1)).flatMap (kD p q)) (((bN sh 0 its).take i).flatMap (tD p q)) H5→H5 B=some (.lst v2)→bK (cy H7) v4 (dO (bT (nK (p-fi) (q-fi) 0 row)))→aF H5 H7→v2.length+v4.length≤sizeLine∧nM H1 A B (((bN sh 0 its).take (i+1)).flatMap (kD p q)) (((bN sh 0 its).take (i+1)).flatMap (tD p q)) (upd H7 B (.lst (v2++v4))):=fun c3 v4 H5 H7 pv5 h5 t4 s7=>by
   obtain⟨e1,e2⟩:=part c3 pv
   have z4:=t4.len
   rw[eB,e2,eG]at bB1
   refine⟨Nat.le_of_lt (aM (by omega)),?_⟩
   rw[eB,e2]
   exact (pv5.same s7).II Mg (s7 _ _ h5) t4
  have pl1:=oK 0 (p-fi) row 0
  have pl2:=oK (q-fi) (la-fi) row 0
  have pl3:=oK (p-fi) (q-fi) row 0
  refine⟨_,rfl,_,rfl,_,_,rfl,rfl,_,rfl,QN (fun z=>⟨_,rfl,_,rfl,_,_,rfl,rfl,_,rfl,z⟩) (fun c5=>?_) (fun c5=>?_)⟩
  ·refine⟨_,rfl,.inl ⟨rfl,_,bF.of hv2⟩,_,rfl,B,_,_,rfl,rfl,hv2,aM (by omega),_,_,_,_,rfl,?_⟩
   rw[eA,eB]
   have e1:kD p q (it,row,fi,la)=[]:=by unfold kD;rw[if_neg n1,if_pos c5]
   have e2:tD p q (it,row,fi,la)=[it]:=by unfold tD;rw[if_neg n1,if_pos c5]
   rw[e1,e2,nA]
   exact pv.II Mg hv2 (.cons hxi .nil)
  ·refine⟨_,rfl,_,rfl,_,rfl,_,rfl,_,_,rfl,rfl,ra,row,0,p-fi,rfl,RW,by omega,fun q1 H3 R3 s3 hq1=>?_⟩
   obtain⟨as3,ha3,pa3⟩:=id R3
   have n3:=pa3.len
   refine⟨_,rfl,_,rfl,_,rfl,_,_,rfl,rfl,_,rfl,_,rfl,_,_,rfl,rfl,ra,row,q-fi,la-fi,rfl,RW.same s3,by omega,fun q2 H4 R4 s4 hq2=>?_⟩
   obtain⟨as4,ha4,pa4⟩:=id R4
   have n4:=pa4.len
   refine⟨q1,q2,_,_,rfl,rfl,s4 _ _ ha3,ha4,(by rw[cO,cO];exact jI (aM (by omega))),fun m hm=>?_⟩
   have s5:aF H4 (upd H4 m (.lst (as3.map V.ref++as4.map V.ref))):=aj hm _
   refine⟨m,nK 0 (p-fi) 0 row++nK (q-fi) (la-fi) 0 row,rfl,⟨as3++as4,by rw[af,nu],bu.append ((pa3.same s4).same s5) (pa4.same s5)⟩,by rw[eG];omega,fun q3 H6 I6 s6 IA=>?_⟩
   obtain⟨q3',v3,e3,h3,t3⟩:=I6
   cases e3
   have s26:=s3.trans (s4.trans (s5.trans s6))
   obtain⟨g1,g2,g3,g4⟩:=go c5 q1 q3 v3 H6 h3 t3 s26
   refine⟨A,q3,_,_,rfl,rfl,s26 _ _ hv1,h3,g1,?_⟩
   refine⟨_,rfl,_,rfl,_,rfl,_,rfl,_,_,rfl,rfl,_,rfl,_,rfl,_,_,rfl,rfl,ra,row,p-fi,q-fi,rfl,g3,by omega,fun q4 H7 R7 s7 Uh=>⟨q4,_,rfl,R7,by omega,fun q5 H8 I8 s8 Ui=>?_⟩⟩
   obtain⟨q5',v4,e4,h4,t4⟩:=I8
   cases e4
   obtain⟨f1,f2⟩:=go2 c5 v4 _ H8 g2 g4 t4 (s7.trans s8)
   exact⟨B,q5,_,_,rfl,rfl,(s7.trans s8) _ _ g4,h4,f1,_,_,_,_,rfl,f2⟩
 ·rintro σ H2 ⟨u1,u2,u3,u4,rfl,pv⟩
  have dl:=hdl.len
  rw[dl,kO]at pv
  obtain⟨v1,hv1,t1⟩:=pv.a
  obtain⟨v2,hv2,t2⟩:=pv.b
  have sm:aF H H2:=fun a ob e=>pv.k a ob (s1 _ _ (s0 _ _ e)) (au e hA) (au e Uk)
  refine⟨_,rfl,_,rfl,(by show 2≤sizeLine;decide),fun t ht=>k t A B _ af ?_ ?_ (sm.trans (aj ht _))⟩
  ·exact (Cq hv1 t1).same (aj ht _)
  ·exact (Cq hv2 t2).same (aj ht _)
inductive vc(C:Addr)(vs:List V)(H:Hp)(Q:VK)(E:XK):Prop
 | mk (r:Addr) (rows:eF) (s a b:Int) (sh:Int→List Int) (_:vs=[.ref r,.int s,.int a,.int b]) (_:uX H r rows sh) (_:0≤s) (_:s<rows.length) (_:qW a) (_:qW b) (_:(Eh a b (sh s).length→∀ (es:List Int) (q:Addr) (H':Hp),rows[s.toNat]?=some es→br H' (.ref q) (itemsOf (uZ sh a b es))→aF H H'→H q=none→Q (.ref q) H')) (_:(¬ Eh a b (sh s).length→∀ H',aF H H'→E (.ref C) none H')):vc C vs H Q E
theorem yl:aG ["rows","sheet","start","stop","views"] ["rows","sheet","start","stop"] (az ou):=⟨rfl,rfl,rfl,by decide +kernel,rfl,by decide +kernel,by decide +kernel⟩
theorem Dk{f fw fb fi fp fv fs fc fg fk fd' fq fn fa C:Addr}{fd gw gb gi gp gv gs gc gg gk gd gq gn ga:FuncData}(F:iD K "cut_items" "cut_items" ou f fd)(T:pG mg)(Z:ExcAt K mg C)
  (cu:ay K mg "windows" dZ nv fw gw) (jz:ay K mg "below" ly lS fb gb) (cB:ay K mg "item_row" eX wM fi gi) (fL:ay K mg "plain" lu eY fp gp) (cY:ay K mg "views_below" dJ lS fv gv) (iY:ay K mg "size" ssize eY fs gs) (bY:ay K mg "check_places" eT mS fc gc)
  (jA:ay K mg "goes_on" lA Ei fg gg) (cL:ay K mg "plain_items" gu nv fk gk) (oZ:ay K mg "dealt" qU CA fd' gd) (gx:ay K mg "pieces" mP mS fq gq) (gY:ay K mg "inked" qT eY fn gn) (tS:ay K mg "parted" tF Ks fa ga):aB P w K mg base (oJ P w) 4 f fd M7 (vc C):=by
 have gX:aB P w K mg base (oJ P w) 2 _ _ mS (tL C):=j6 bY.F T Z iY
 have lH:aB P w K mg base bV 3 _ _ lS vZ:=oU cY.F T cu jz cB fL
 have jR:aB P w K mg base bV 2 _ _ nv lI:=oV cL.F T jA
 have Oh:aB P w K mg base bV 3 _ _ Ks Af:=J3 tS.F T cB iY fL gx oZ gY
 refine F7 F yl (fun vs H Q E h=>?_) (fun cdv A outer s0 H vs Q E hr h=>?_)
 ·obtain⟨r,rows,s,p,q,sh,rfl,_⟩:=h
  rfl
 obtain⟨r,rows,s,p,q,sh,rfl,R,h0,h1,fp,fq,k1,k2⟩:=h
 have hu:=lY hr
 refine⟨_,(ak (aU (i:=4) yl.nd rfl (Or.inl rfl) (aL cY lH hr (aa (pv 0) (aa (bJ (aa (pv 1) ah)) ah))))
   (ak (bw (pO bY gX hr lZ (aa (dX hu (pv 4) (pv 1) (fun _ _=>rfl)) (aa (pv 2) (aa (pv 3) ah)))))
   (ak (cC (bR kU (pv 2) (pv 3) (bZ _))
   (ao (aR (aL cL jR hr (aa (bq bf (pv 0) (pv 1) (fun _ _=>rfl)) ah))))
   bL)
   (ao (aR (aL cL jR hr (aa (bq dm (aL tS Oh hr (aa (bq bf (pv 0) (pv 1) (fun _ _=>rfl)) (aa (pv 4) (aa (pv 2) (aa (pv 3) ah))))) aA (fun _ _=>rfl)) ah))))))),?_⟩
 refine⟨_,rfl,_,rfl,(by show 1≤sizeLine;decide),fun L hL=>?_⟩
 have s1:aF H (upd H L (.lst [.int s])):=aj hL _
 refine⟨r,L,rows,[s],sh,rfl,R.at_.same s1,af,by simp,R.len,R.ents,R.snd,R.rk,(fun x hx=>by rw[List.mem_singleton.mp hx];exact⟨h0,h1⟩),R.Ue,R.bd,fun S kvs ks H2 hS hv tp sk hn s2 hS0=>?_⟩
 have Up:=sk s (by simp)
 obtain⟨a,ha,Ra⟩:=hv s Up
 have z:=mC.k (k:=Sum.inl s) hS
 rw[ha]at z
 have s12:=s1.trans s2
 have shl:=R.bd s h0 h1
 have rol:=tQ (sh s)
 obtain⟨es,G4,b,O⟩:=(R.same s12).one h0 h1
 refine⟨_,rfl,_,rfl,S,_,rfl,z,_,rfl,_,rfl,a,rowOf (sh s),p,q,rfl,Ra,by omega,fp,fq,(by rw[O.tt];exact qW.small (by omega) (by omega)),fun hin H3 s3=>?_,fun hin H3 s3=>?_⟩
 ·have hp:Eh p q (sh s).length:=⟨hin.1,hin.2.1,by rw[← O.tt];exact hin.2.2⟩
  obtain⟨es',aej,b',O3⟩:=(R.same (s12.trans s3)).one h0 h1
  have ee:es=es':=sr (O.he.symm.trans O3.he)
  subst ee
  obtain⟨e1,e2⟩:=qY es
  refine⟨_,rfl,_,rfl,rfl,_,rfl,dQ (fun c=>?_) (fun c=>?_)⟩
  ·have c':p=q:=V.int.inj (of_decide_eq_true c)
   refine⟨_,rfl,_,rfl,r,_,_,_,rfl,rfl,bF.of O3.hr,O3.ix,b',itemsOf es,rfl,O3.it,lV O3.il (by decide),fun o H4 I4 s4 ho=>?_⟩
   refine k1 hp es o H4 O.he ?_ (s12.trans (s3.trans s4)) (aS (s12.trans s3) ho)
   rw[pU _ e2,e1]at I4
   unfold uZ
   rw[if_pos c']
   exact I4
  ·have c':¬ p=q:=fun z=>c (by rw[z];exact decide_eq_true rfl)
   have pq:p<q:=by have:=hp.2.1;omega
   refine⟨_,rfl,_,rfl,r,_,_,_,rfl,rfl,bF.of O3.hr,O3.ix,_,rfl,_,rfl,_,rfl,b',S,p,q,itemsOf es,kvs,sh,rfl,O3.it,s3 _ _ hS,fun n hn=>?_,lV O3.il (by decide),lV O3.rl (by decide),fun t L M H4 ht hL4 hM4 s4=>?_⟩
   ·have nx:=yZ h0 O.he hn
    obtain⟨i,hi⟩:=List.getElem?_of_mem Up
    obtain⟨a2,e2,R2⟩:=hv n (List.mem_of_mem_take (tp.dn i s hi n nx))
    exact⟨a2,e2,R2.same s3⟩
   have nn:Q7 sh (itemsOf es):=fun n hn=>by
    have nx:=yZ h0 O.he hn
    obtain⟨n0,n1⟩:=R.snd.QM nx
    exact Ae R.snd R.rk R.Ue n n0 n1
   have Rc:=Dh sh (itemsOf es) 0 e2 nn
   have lk:iE ((bN sh 0 (itemsOf es)).flatMap (kD p q)):=Di fun d hd=>Ur (Rc d hd).1 (Rc d hd).2
   have ll:=tR sh (Mj p q) (itemsOf es) 0
   have oil:=O3.il
   have orl:=O3.rl
   refine⟨t,_,_,_,rfl,rfl,jc.of ht,rfl,L,_,rfl,hL4,by omega,fun o H5 I5 s5 ho=>?_⟩
   refine k1 hp es o H5 O.he ?_ (s12.trans (s3.trans (s4.trans s5))) (aS (s12.trans (s3.trans s4)) ho)
   rw[pU _ lk,IJ sh pq _ _ e2,e1]at I5
   unfold uZ
   rw[if_neg c']
   exact I5
 ·exact k2 (fun hp=>hin ⟨hp.1,hp.2.1,by rw[O.tt];exact hp.2.2⟩) H3 (s12.trans s3)
abbrev fX(ws:l6):HO:=.lst (ws.map fun w=>V.str (txt w))
abbrev RX:List (Str × Int):=[(Str.ofString "fresh",0),(Str.ofString "cut",3),(Str.ofString "move",4),(Str.ofString "quote",5),(Str.ofString "window",3),(Str.ofString "fix",1),(Str.ofString "back",2),(Str.ofString "fork",2),(Str.ofString "untie",1),(Str.ofString "read",1)]
abbrev Us:List (Str × Int):=[(Str.ofString "put",2),(Str.ofString "strike",0),(Str.ofString "blot",1),(Str.ofString "lift",1)]
def tabAt(D:List (Str × Int))(n:List Nat):Option Int:=(D.find? fun p=>decide (txt n=p.1)).map (·.2)
theorem Ag{D:List (Str × Int)}{n:List Nat}{i:Int}(h:tabAt D n=some i):(D.find? fun p=>decide (txt n=p.1))=some (txt n,i):=by
 unfold tabAt at h
 obtain⟨⟨x,j⟩,e,rfl⟩:=Option.map_eq_some_iff.mp h
 have z:=List.find?_some e
 have:txt n=x:=of_decide_eq_true z
 rw[e,this]
abbrev nU:List Nat:=[116,105,101]
inductive m9 where
 | Be (h:Int) (t:List Nat)
 | F9 (a b:Row)
 | plain (n:List Nat) (ns:List Int)
 | uG (n:List Nat) (ns:List Int) (r:Row)
def m9.At(H:Hp)(p:Addr):m9→Prop
 | .Be h t=>H p=some (.tup [.str (Str.ofString "pour"),.int h,.str (txt t)])
 | .F9 a b=>∃ q1 q2,H p=some (.tup [.str (Str.ofString "tie"),.ref q1,.ref q2])∧bX H q1 a∧bX H q2 b∧q1≠q2
 | .plain n ns=>H p=some (.tup (.str (txt n)::ns.map V.int))
 | .uG n ns r=>∃ q,H p=some (.tup (.str (txt n)::ns.map V.int++[.ref q]))∧bX H q r
def wj(n:Int):Prop:=0≤n∧n<10^60
def Ho(r:Row):Prop:=r.length≤29∧∀ p∈r,wj p.1∧wj p.2
def m9.Ok:m9→Prop
 | .Be h t=>wj h∧t.length≤200
 | .F9 a b=>Ho a∧Ho b
 | .plain n ns=>tabAt RX n=some (ns.length:Int)∧∀ x∈ns,wj x
 | .uG n ns r=>tabAt Us n=some (ns.length:Int)∧(∀ x∈ns,wj x)∧Ho r
abbrev gA(p:Int × Int):List Nat:=jO.dg p.1++45::jO.dg p.2
theorem J4{p:Int × Int}(h:wj p.1∧wj p.2):(gA p).length≤121:=by
 rw[eG,ny]
 have a:=jO.GY h.1.1 h.1.2
 have b:=jO.GY h.2.1 h.2.2
 omega
theorem Dl{n:Int}(h:wj n):n.natAbs.log2<1920:=by
 obtain⟨h0,h1⟩:=h
 by_cases z:n.natAbs=0
 ·rw[z];decide
 ·rw[Nat.log2_lt z]
  have a:n.natAbs<10^60:=by omega
  exact qN a (lV (show (10:Nat)^60≤2^200 by decide) (Nat.pow_le_pow_right (by decide) (by decide)))
inductive Part where
 | num (x:Int)
 | tx (t:List Nat)
 | row (r:Row)
def Part.At(H:Hp)(v:V):Part→Prop
 | .num x=>v=.int x
 | .tx t=>v=.str (txt t)
 | .row r=>∃ q,v=.ref q∧bX H q r
def Part.Ok:Part→Prop
 | .num x=>wj x
 | .tx t=>t.length≤200
 | .row r=>Ho r
abbrev wm(r:Row):List Nat:=r.flatMap fun p=>32::gA p
def Part.line:Part→List Nat
 | .num x=>32::jO.dg x
 | .tx t=>32::t
 | .row r=>wm r
theorem Ah{r:Row}(h:Ho r):(wm r).length≤4000:=by
 have key:∀ l:Row,(∀ p∈l,wj p.1∧wj p.2)→(wm l).length≤122*l.length:=by
  intro l
  induction l with
  | nil=>intro _;exact iC _
  | cons p l ih =>
   intro g
   have z:=ih fun q hq=>g q (rX _ hq)
   have z2:=J4 (g p rS)
   show ((32::gA p)++wm l).length≤_
   rw[eG,ny,ny]
   omega
 have:=key r h.2
 have:=h.1
 omega
theorem Part.Fp{p:Part}(h:p.Ok):p.line.length≤4000:=by
 cases p with
 | num x=>have:=jO.GY h.1 h.2;show (32::jO.dg x).length≤_;rw[ny];omega
 | tx t=>have h':t.length≤200:=h;show (32::t).length≤_;rw[ny];omega
 | row r=>exact Ah h
def m9.nm:m9→List Nat
 | .Be _ _=>[112,111,117,114]
 | .F9 _ _=>nU
 | .plain n _=>n
 | .uG n _ _=>n
def m9.parts:m9→List Part
 | .Be h t=>[.num h,.tx t]
 | .F9 _ _=>[]
 | .plain _ ns=>ns.map .num
 | .uG _ ns r=>ns.map .num++[.row r]
def m9.line:m9→List Nat
 | .F9 a b=>nU++wm a++[32,47]++wm b
 | d=>d.nm++d.parts.flatMap Part.line
theorem Mm{H:Hp}{p:Addr}{d:m9}(h:d.At H p)(nt:∀ a b,d≠.F9 a b):∃ vs,H p=some (.tup (.str (txt d.nm)::vs))∧bK (fun v q=>Part.At H v q) vs d.parts:=by
 have nums:∀ ns:List Int,bK (fun v q=>Part.At H v q) (ns.map V.int) (ns.map Part.num):=fun ns=>by
  induction ns with
  | nil=>exact .nil
  | cons x ns ih=>exact .cons rfl ih
 cases d with
 | Be x t=>exact⟨_,by rw[h,show Str.ofString "pour"=txt [112,111,117,114] by decide +kernel];rfl,.cons rfl (.cons rfl .nil)⟩
 | F9 a b=>exact absurd rfl (nt a b)
 | plain n ns=>exact⟨_,h,nums ns⟩
 | uG n ns r =>
  obtain⟨q,e,z⟩:=h
  exact⟨ns.map V.int++[.ref q],by rw[e];rfl,(nums ns).snoc ⟨q,rfl,z⟩⟩
theorem J5{d:m9}(h:d.Ok):∀ q∈d.parts,q.Ok:=by
 cases d with
 | Be x t =>
  intro q hq
  rcases List.mem_cons.mp hq with z|z
  ·rw[z];exact h.1
  ·rw[List.mem_singleton.mp z];exact h.2
 | F9 a b=>intro q hq;cases hq
 | plain n ns =>
  intro q hq
  obtain⟨x,hx,rfl⟩:=List.mem_map.mp hq
  exact h.2 x hx
 | uG n ns r =>
  intro q hq
  rcases List.mem_append.mp hq with z|z
  ·obtain⟨x,hx,rfl⟩:=List.mem_map.mp z
   exact h.2.1 x hx
  ·rw[List.mem_singleton.mp z];exact h.2.2
theorem Fq{H:Hp}:∀ {vs:List V} {ps:List Part} {i:Nat} {v:V},bK (fun v q=>Part.At H v q) vs ps→vs[i]?=some v→∃ q,ps[i]?=some q∧q.At H v
 | _,_,_,_,.nil,h=>by simp at h
 | _,_,0,_,.cons o t,h=>by
  have e:=sr h
  subst e
  exact⟨_,rfl,o⟩
 | _,_,i+1,_,.cons o t,h=>by
  obtain⟨q,e,z⟩:=Fq (i:=i) t (by simpa using h)
  exact⟨q,by simpa using e,z⟩
theorem Cr{ps:List Part}(h:∀ q∈ps,q.Ok):(ps.flatMap Part.line).length≤4000*ps.length:=by
 induction ps with
 | nil=>exact Nat.zero_le _
 | cons p ps ih =>
  have z:=ih fun q hq=>h q (rX _ hq)
  have z2:=Part.Fp (h p rS)
  rw[l9,eG,ny,Nat.mul_add,Nat.mul_one]
  omega
theorem IK(n:List Nat):∀ ws:l6,jO.jn 32 (n::ws)=n++ws.flatMap (fun w=>32::w):=by
 intro ws
 induction ws generalizing n with
 | nil=>show n=_;simp
 | cons w ws ih =>
  show n++32::jO.jn 32 (w::ws)=_
  rw[ih w,l9]
  simp
theorem Ft{D:List (Str × Int)}{n:List Nat}{k:Int}(hD:∀ p∈D,32∉p.1.cps.toList∧p.1.cps.toList≠[112,111,117,114]∧p.1.cps.toList≠nU∧p.1.cps.toList.length≤10)(h:tabAt D n=some k):32∉n∧n≠[112,111,117,114]∧n≠nU∧n.length≤10:=by
 have z:=hD _ (List.mem_of_find?_eq_some (Ag h))
 have e:(txt n).cps.toList=n:=jO.vU n
 rw[show ((txt n,k):Str × Int).1=txt n from rfl,e]at z
 exact z
theorem Mn{n:List Nat}{k:Int}(h:tabAt RX n=some k):32∉n∧n≠[112,111,117,114]∧n≠nU∧n.length≤10:=Ft (by decide +kernel) h
theorem Mp{n:List Nat}{k:Int}(h:tabAt Us n=some k):32∉n∧n≠[112,111,117,114]∧n≠nU∧n.length≤10:=Ft (by decide +kernel) h
theorem sQ(r:Row):wm r=(r.map gA).flatMap fun w=>32::w:=by
 induction r with
 | nil=>rfl
 | cons x r ih=>rw[lU,l9,← ih];rfl
theorem m9.At.same{H H':Hp}{p:Addr}{d:m9}(h:d.At H p)(s:aF H H'):d.At H' p:=by
 cases d with
 | Be x t=>exact s _ _ h
 | F9 a b=>obtain⟨q1,q2,e,r1,r2,n⟩:=h;exact⟨q1,q2,s _ _ e,r1.same s,r2.same s,n⟩
 | plain n ns=>exact s _ _ h
 | uG n ns r=>obtain⟨q,e,r1⟩:=h;exact⟨q,s _ _ e,r1.same s⟩
theorem J6{n:List Nat}{k:Int}(h:tabAt RX n=some k):k≤5:=by
 have z:∀ p∈RX,p.2≤5:=by decide +kernel
 exact z _ (List.mem_of_find?_eq_some (Ag h))
theorem J7{n:List Nat}{k:Int}(h:tabAt Us n=some k):k≤5:=by
 have z:∀ p∈Us,p.2≤5:=by decide +kernel
 exact z _ (List.mem_of_find?_eq_some (Ag h))
theorem Hq{d:m9}(ok:d.Ok):(∀ a b,d≠.F9 a b)→d.nm≠nU∧d.nm.length≤10∧d.parts.length≤10:=by
 intro nt
 cases d with
 | Be x t=>exact⟨by show [112,111,117,114]≠nU;decide,by show 4≤10;decide,by show 2≤10;decide⟩
 | F9 a b=>exact absurd rfl (nt a b)
 | plain n ns =>
  obtain⟨_,_,f3,f4⟩:=Mn ok.1
  have:=J6 ok.1
  exact⟨f3,f4,by show (ns.map Part.num).length≤10;rw[cO];omega⟩
 | uG n ns r =>
  obtain⟨_,_,f3,f4⟩:=Mp ok.1
  have:=J7 ok.1
  exact⟨f3,f4,by show (ns.map Part.num++[Part.row r]).length≤10;rw[eG,cO];show ns.length+1≤10;omega⟩
inductive vd(vs:List V)(H:Hp)(Q:VK)(E:XK):Prop
 | mk (q:Addr) (r:Row) (_:vs=[.ref q]) (_:bX H q r) (_:Ho r) (_: ∀ (a:Addr) (H':Hp),H' a=some (fX (r.map gA))→aF H H'→H a=none→Q (.ref a) H'):vd vs H Q E
theorem Fv:aG ["row"] ["row"] (az jf):=⟨rfl,rfl,rfl,by decide +kernel,rfl,by decide +kernel,by decide +kernel⟩
theorem Mq{a b:Int}(ha:0≤a)(hb:0≤b):(Str.empty++Str.ofString (toString a)++Str.ofString "-"++Str.ofString (toString b))=txt (gA (a,b)):=by
 rw[jO.yT ha,jO.yT hb,show Str.ofString "-"=txt [45] by decide +kernel,show Str.empty=txt [] from rfl,C6,C6,C6]
 simp
theorem Dm{f:Addr}{fd:FuncData}(F:iD K "ink_words" "ink_words" jf f fd)(T:pG mg):aB P w K mg base bV 1 f fd eY vd:=by
 refine F.ok Fv (fun vs H Q E h=>?_) (fun cdv A outer s H vs Q E hr h=>?_)
 ·obtain⟨q,r,rfl,_⟩:=h
  rfl
 obtain⟨q,r,rfl,⟨as,hq,pa⟩,⟨lr,fr⟩,k⟩:=h
 refine⟨_,(ao (aR (qB (N:=["start","stop"]) (yh (sc:=az jf) (NX:=["row"]) (jx:=[none,none]) rfl rfl rfl (by decide +kernel) (by decide +kernel) rfl (by decide +kernel) rfl (by decide +kernel)) rfl (cU (pv 0)) (fun _ _ _ _ _ _=>(Il (n:=2) rfl (bQ (aY (i:=0) (show List.Nodup (["start","stop"]:List Str) by decide +kernel) rfl (Or.inl rfl)) (bQ (aY (i:=1) (show List.Nodup (["start","stop"]:List Str) by decide +kernel) rfl (Or.inl rfl)) j3)))) (fun _ _ _ _ _ _=>mQ) (fun _ _ _ _ _ _=>(jO.LR (jO.Iv (pv 0) (jO.N7 (jO.Iv (pv 1) jO.N6)))))))),?_⟩
 have lp:=Paired.length pa
 refine⟨_,rfl,q,rfl,⟨_,bF.of hq⟩,fun acc hacc=>oO (K:=K) (a:=q) (xs:=as.map V.ref) (fun i σ H2=>∃ u0 u1:Option V,σ=[u0,u1]∧H2 acc=some (fX ((r.take i).map gA))∧aF H H2) ⟨none,none,rfl,af,aj hacc _⟩ (fun i σ H2 _ ⟨_,_,_,_,s2⟩=>bF.of (s2 _ _ hq)) ?_ ?_⟩
 ·rintro i y σ H2 hi ⟨u0,u1,rfl,h2,s2⟩
  rw[kM]at hi
  obtain⟨a,ei,rfl⟩:=Option.map_eq_some_iff.mp hi
  obtain⟨p,ep,hp⟩:=pa.get ei
  have fp:=fr p (vB ep)
  have il:=(List.getElem?_eq_some_iff.mp ep).1
  refine⟨a,_,rfl,jc.of (s2 _ _ hp),rfl,_,_,rfl,_,_,rfl,rfl,?_⟩
  refine⟨_,rfl,_,rfl,Dl fp.1,_,rfl,_,rfl,Dl fp.2,_,h2,aM (by rw[cO,cO,kK];omega),_,_,rfl,?_,ck hacc s2 (aJ acc _ _)⟩
  rw[af,take_snoc ep,nu,lU,List.map_nil,Mq fp.1.1 fp.2.1]
  show some (HO.lst _)=some (HO.lst _)
  rw[nu]
  rfl
 ·rintro σ H2 ⟨u0,u1,rfl,h2,s2⟩
  rw[cO,lp,kO]at h2
  exact k acc H2 h2 s2 hacc
def Part.words:Part→l6
 | .num x=>[jO.dg x]
 | .tx t=>[t]
 | .row r=>r.map gA
theorem ve(ps:List Part):(ps.flatMap Part.words).flatMap (fun w=>32::w)=ps.flatMap Part.line:=by
 induction ps with
 | nil=>rfl
 | cons p ps ih =>
  rw[l9,l9,List.flatMap_append,ih]
  congr 1
  cases p with
  | num x=>show (32::jO.dg x)++[]=32::jO.dg x;rw[nA]
  | tx t=>show (32::t)++[]=32::t;rw[nA]
  | row r=>exact (sQ r).symm
inductive Ai(vs:List V)(H:Hp)(Q:VK)(E:XK):Prop
 | mk (p:Addr) (d:m9) (_:vs=[.ref p]) (_:d.At H p) (_:d.Ok) (_:((∀ a b,d≠.F9 a b)→d.nm≠nU∧d.nm.length≤10∧d.parts.length≤10)) (_: ∀ H',aF H H'→Q (.str (txt d.line)) H'):Ai vs H Q E
theorem nV:aG ["deed","words","thing"] ["deed"] (az kB):=⟨rfl,rfl,rfl,by decide +kernel,rfl,by decide +kernel,by decide +kernel⟩
theorem Aj(W:l6):(W.map List.length).sum+W.length=(W.flatMap fun w=>32::w).length:=by
 induction W with
 | nil=>rfl
 | cons x W ih =>
  rw[lU,List.sum_cons,ny,l9,eG,ny,← ih]
  omega
theorem tT(a b:l6):(a.map fun w=>V.str (txt w))++(b.map fun w=>V.str (txt w))=(a++b).map fun w=>V.str (txt w):=List.map_append.symm
set_option maxHeartbeats 4000000 in
theorem Bf{f fI:Addr}{fd gI:FuncData}(F:iD K "shown_deed" "shown_deed" kB f fd)(T:pG mg)(jB:ay K mg "ink_words" jf eY fI gI):aB P w K mg base bV 2 f fd ["deed"] Ai:=by
 have vf:aB P w K mg base bV 1 _ _ eY vd:=Dm jB.F T
 refine F.ok nV (fun vs H Q E h=>?_) (fun cdv A outer s H vs Q E hr h=>?_)
 ·obtain⟨p,d,rfl,_⟩:=h
  rfl
 obtain⟨p,d,rfl,hd,ok,nn,k⟩:=h
 refine⟨_,(ak (cC (bR kU (bq dm (pv 0) aA (fun _ _=>rfl)) bO (bZ _))
   (ao (aR (je PySem.F.plainAttrs_str PySem.F.slot_str_join PySem.F.type_str_join jO.E8 bO (aa (bz kZ (bz kZ (bz kZ (bJ (aa bO ah)) (aL jB vf hr (aa (bq dm (pv 0) aA (fun _ _=>rfl)) ah))) (bJ (aa bO ah))) (aL jB vf hr (aa (bq dm (pv 0) aA (fun _ _=>rfl)) ah))) ah))))
   bL)
   (ak (aU (i:=1) nV.nd rfl (Or.inl rfl) (bJ (aa (bq dm (pv 0) aA (fun _ _=>rfl)) ah)))
   (ak (gQ PassesOwn.never rfl (Qd (kX Qk (pv 0) (mO aA) pI)) (aY (i:=2) nV.nd rfl (Or.inl rfl))
   (ao (wR (i:=1) nV.nd rfl (Or.inl rfl) (KC (nB (aV dc rfl T.cK yx (aa (pv 2) (aa (rN rfl T.lG vD) ah)))) (aL jB vf hr (aa (pv 2) ah)) (bJ (aa (E9.TV (pv 2)) ah))) xr)))
   (ao (aR (je PySem.F.plainAttrs_str PySem.F.slot_str_join PySem.F.type_str_join jO.E8 bO (aa (pv 1) ah))))))),?_⟩
 have tt:Str.ofString "tie"=txt nU:=by decide +kernel
 have kil:PySem.W.kitOne K (.type "int") (.type "list")=some false:=by kernel_rfl
 have ksl:PySem.W.kitOne K (.type "str") (.type "list")=some false:=by kernel_rfl
 by_cases ht:∃ a b,d=.F9 a b
 ·obtain⟨a,b,rfl⟩:=ht
  obtain⟨q1,q2,hp,r1,r2,_⟩:=hd
  have la:=Ah ok.1
  have lb:=Ah ok.2
  have ea:(a.map gA).length=a.length:=cO _
  have eb:(b.map gA).length=b.length:=cO _
  have a29:=ok.1.1
  have b29:=ok.2.1
  refine⟨_,rfl,p,_,_,_,rfl,rfl,jc.of hp,eL (j:=0) rfl,?_⟩
  refine⟨rfl,_,rfl,dQ (fun _=>?_) (fun c=>absurd (decide_eq_true rfl) c)⟩
  refine⟨rfl,(by show 1≤sizeLine;decide),fun t1 f1=>?_⟩
  have s1:=aj f1 (.lst [.str (Str.ofString "tie")])
  have h1:(upd H t1 (.lst [.str (Str.ofString "tie")])) t1=some (fX [nU]):=by rw[tt];exact af
  generalize upd H t1 (.lst [.str (Str.ofString "tie")])=H1 at s1 h1
  refine⟨_,rfl,p,_,_,_,rfl,rfl,jc.of (s1 _ _ hp),eL (j:=1) rfl,q1,a,rfl,r1.same s1,ok.1,fun w1 H2 hw1 s2 fw1=>?_⟩
  refine⟨t1,w1,_,_,rfl,rfl,s2 _ _ h1,hw1,jI (aM (by simp only[cO,ny,oj];omega)),fun t2 f2=>?_⟩
  rw[tT]
  have s3:=aj f2 (fX ([nU]++a.map gA))
  have h3:(upd H2 t2 (fX ([nU]++a.map gA))) t2=some (fX ([nU]++a.map gA)):=af
  generalize upd H2 t2 (fX ([nU]++a.map gA))=H3 at s3 h3
  refine⟨(by show 1≤sizeLine;decide),fun t3 f3=>?_⟩
  have s4:=aj f3 (.lst [.str (Str.ofString "/")])
  have h4:(upd H3 t3 (.lst [.str (Str.ofString "/")])) t3=some (fX [[47]]):=by rw[show Str.ofString "/"=txt [47] by decide +kernel];exact af
  generalize upd H3 t3 (.lst [.str (Str.ofString "/")])=H4 at s4 h4
  refine⟨t2,t3,_,_,rfl,rfl,s4 _ _ h3,h4,jI (aM (by simp only[cO,eG,ny,oj];omega)),fun t4 f4=>?_⟩
  rw[tT]
  have s5:=aj f4 (fX ([nU]++a.map gA++[[47]]))
  have h5:(upd H4 t4 (fX ([nU]++a.map gA++[[47]]))) t4=some (fX ([nU]++a.map gA++[[47]])):=af
  generalize upd H4 t4 (fX ([nU]++a.map gA++[[47]]))=H5 at s5 h5
  have Hr:aF H H5:=s1.trans (s2.trans (s3.trans (s4.trans s5)))
  refine⟨_,rfl,p,_,_,_,rfl,rfl,jc.of (Hr _ _ hp),eL (j:=2) rfl,q2,b,rfl,r2.same Hr,ok.2,fun w2 H6 hw2 s6 fw2=>?_⟩
  refine⟨t4,w2,_,_,rfl,rfl,s6 _ _ h5,hw2,jI (aM (by simp only[cO,eG,ny,oj];omega)),fun t5 f5=>?_⟩
  rw[tT]
  have s7:=aj f5 (fX ([nU]++a.map gA++[[47]]++b.map gA))
  have e5:[nU]++a.map gA++[[47]]++b.map gA=nU::(a.map gA++[47]::b.map gA):=by simp
  have el:jO.jn 32 (nU::(a.map gA++[47]::b.map gA))=(m9.F9 a b).line:=by
   rw[IK,List.flatMap_append,l9,← sQ,← sQ]
   show _=nU++wm a++[32,47]++wm b
   simp
  have fs:=Aj (a.map gA++[47]::b.map gA)
  rw[List.flatMap_append,l9,← sQ,← sQ]at fs
  simp only[eG,ny,oj]at fs
  refine⟨t5,32,_,by rw[show Str.ofString " "=⟨#[32]⟩ by decide +kernel],rfl,af,?_,?_⟩
  ·rw[e5,lU,List.sum_cons,ny]
   simp only[eG,ny,oj]
   omega
  rw[e5]at s7 ⊢
  rw[el]
  exact k _ (Hr.trans (s6.trans s7))
 have nt:∀ a b,d≠.F9 a b:=fun a b e=>ht ⟨a,b,e⟩
 obtain⟨vs,hp,al⟩:=Mm hd nt
 obtain⟨n1,n2,n3⟩:=nn nt
 have pk:=J5 ok
 have lv:=al.len
 have ln:d.line=d.nm++d.parts.flatMap Part.line:=by
  cases d with
  | F9 a b=>exact absurd rfl (nt a b)
  | _=>rfl
 refine⟨_,rfl,p,_,_,_,rfl,rfl,jc.of hp,eL (j:=0) rfl,?_⟩
 refine⟨rfl,_,rfl,dQ (fun c=>absurd (of_decide_eq_true c) (by rw[tt];intro z;exact n1 (N5 (V.str.inj z)))) (fun _=>?_)⟩
 refine⟨_,rfl,p,_,_,_,rfl,rfl,jc.of hp,eL (j:=0) rfl,(by show 1≤sizeLine;decide),fun wl fwl=>?_⟩
 have s0:=aj fwl (.lst [.str (txt d.nm)])
 have h0:(upd H wl (.lst [.str (txt d.nm)])) wl=some (fX [d.nm]):=af
 refine⟨_,rfl,_,rfl,p,_,rfl,jc.of (s0 _ _ hp),?_,fun tp htp=>?_⟩
 ·rintro⟨z,_⟩
  have e:HT.j4 (V.str (txt d.nm)::vs).length 0 (some 1)=min 1 (V.str (txt d.nm)::vs).length:=HT.HP _ _ 1
  have z':HT.j4 (V.str (txt d.nm)::vs).length 0 (some 1)=0:=z
  rw[e,ny]at z'
  omega
 have ec:jV (V.str (txt d.nm)::vs) (some 1) none=vs:=by
  unfold jV
  have e:HT.j4 (V.str (txt d.nm)::vs).length 0 (some 1)=1:=(HT.HP _ _ 1).trans (by rw[ny];omega)
  have e2:HT.j4 (V.str (txt d.nm)::vs).length (V.str (txt d.nm)::vs).length none=vs.length+1:=rfl
  rw[e,e2]
  show vs.take (vs.length+1-1)=vs
  exact zd (by omega)
 rw[ec]
 change (upd H wl (.lst [.str (txt d.nm)])) tp=none at htp
 have s1':=aj htp (.tup vs)
 have h1:(upd (upd H wl (.lst [.str (txt d.nm)])) tp (.tup vs)) tp=some (.tup vs):=af
 have h1w:=s1' _ _ h0
 have s1:=s0.trans s1'
 have nwt:wl≠tp:=au h0 htp
 generalize upd (upd H wl (.lst [.str (txt d.nm)])) tp (.tup vs)=H1 at s1 h1 h1w
 refine⟨tp,rfl,⟨_,jc.of h1⟩,Nm (K:=K) (a:=tp) (xs:=vs) (fun i σ H2=>∃ u:Option V,σ=[some (.ref p),some (.ref wl),u]∧H2 wl=some (fX (d.nm::(d.parts.take i).flatMap Part.words))∧H2 tp=some (.tup vs)∧aF H H2) ⟨none,rfl,by rw[List.take_zero,List.flatMap_nil];exact h1w,h1,s1⟩ (fun i σ H2 _ ⟨_,_,_,h2,_⟩=>jc.of h2) ?_ ?_⟩
 ·rintro i v σ H2 hi ⟨u,rfl,h2,h2t,s2⟩
  obtain⟨q,eq,hq⟩:=Fq al hi
  have qk:=pk q (vB eq)
  have ql:=Part.Fp qk
  have fl:=Cr (ps:=d.parts.take i) fun q hq=>pk q (List.mem_of_mem_take hq)
  have ft:(d.parts.take i).length≤10:=by rw[kK];omega
  have fs:=Aj ((d.parts.take i).flatMap Part.words)
  rw[ve]at fs
  have nx:d.nm::(d.parts.take (i+1)).flatMap Part.words=(d.nm::(d.parts.take i).flatMap Part.words)++q.words:=by
   rw[take_snoc eq,List.flatMap_append,l9,List.flatMap_nil,nA,List.cons_append]
  have lB:(d.nm::(d.parts.take i).flatMap Part.words).length≤50000:=by rw[ny];omega
  have lq:q.words.length≤29:=by
   cases q with
   | num x=>show 1≤29;decide
   | tx t=>show 1≤29;decide
   | row r=>show (r.map gA).length≤29;rw[cO];exact qk.1
  have fin:∀ (t:Addr) (H3:Hp) (v':V),aF H2 H3→H2 t=none→H3 t=some (fX q.words)→∃ (l b:Addr) (xs zs:List V),V.ref wl=.ref l∧V.ref t=.ref b∧H3 l=some (.lst xs)∧H3 b=some (.lst zs)∧xs.length+zs.length≤sizeLine∧∃ u:Option V,([some (.ref p),some (.ref wl),some v']:List (Option V)).set 1 (some (.ref l))=[some (.ref p),some (.ref wl),u]∧(upd H3 l (.lst (xs++zs))) wl=some (fX (d.nm::(d.parts.take (i+1)).flatMap Part.words))∧(upd H3 l (.lst (xs++zs))) tp=some (.tup vs)∧aF H (upd H3 l (.lst (xs++zs))):=by
   intro t H3 v' s3 EK h3
   refine⟨wl,t,_,_,rfl,rfl,s3 _ _ h2,h3,jI (aM (by rw[cO,cO];omega)),_,rfl,?_,?_,?_⟩
   ·rw[tT,af,nx]
   ·rw[aC nwt.symm];exact s3 _ _ h2t
   ·exact ck fwl (s2.trans s3) (aJ wl _ _)
  cases q with
  | num x =>
   cases (show v=.int x from hq)
   refine⟨_,rfl,_,rfl,_,"list",_,_,rfl,.int x,kil,_,rfl,iL ⟨_,rfl,.inl ⟨x,rfl,Dl qk,?_⟩⟩⟩
   rw[jO.yT qk.1]
   exact⟨(by show 1≤sizeLine;decide),fun t EK=>fin t _ (.int x) (aj EK _) EK af⟩
  | tx t =>
   cases (show v=.str (txt t) from hq)
   have lt:t.length≤200:=qk
   refine⟨_,rfl,_,rfl,_,"list",_,_,rfl,.str _,ksl,_,rfl,iL ⟨_,rfl,.inr ⟨t,rfl,by omega,?_⟩⟩⟩
   exact⟨(by show 1≤sizeLine;decide),fun t' EK=>fin t' _ (.str (txt t)) (aj EK _) EK af⟩
  | row r =>
   obtain⟨qa,rfl,hr⟩:=hq
   have hr2:=hr.same s2
   obtain⟨as,has,_⟩:=id hr2
   refine⟨_,rfl,_,rfl,_,"list",_,_,rfl,.lst has,To K,_,rfl,lW ?_⟩
   exact⟨_,rfl,qa,r,rfl,hr2,qk,fun t H3 h3 s3 EK=>fin t H3 (.ref qa) s3 EK h3⟩
 ·rintro σ H2 ⟨u,rfl,h2,h2t,s2⟩
  rw[lv,kO]at h2
  have fs:=Aj (d.parts.flatMap Part.words)
  rw[ve]at fs
  have fl:=Cr (ps:=d.parts) pk
  refine⟨rfl,_,rfl,wl,32,_,by rw[show Str.ofString " "=⟨#[32]⟩ by decide +kernel],rfl,h2,?_,?_⟩
  ·rw[lU,List.sum_cons,ny]
   omega
  rw[IK,ve,← ln]
  exact k H2 s2
structure Ut(S:Addr→Prop)(H:Hp)(st op r:Addr)(its:List Item):Prop where
 own:S r
 ne:r≠st∧r≠op
 at':br H (.ref r) its
def Hs(S:Addr→Prop)(H:Hp)(st op a:Addr)(rows:List (List Item)):Prop:=S a∧a≠st∧a≠op∧∃ rs:List Addr,H a=some (.lst (rs.map V.ref))∧bK (Ut S H st op) rs rows
abbrev nF:=List (List (List Item))
structure VU(past:nF)(ops:List Int):Prop where
 Cs:∃ last,past.getLast?=some last∧ops.length=last.length
 fit:∀ (s:Nat) (o:Int),ops[s]?=some o→0≤o∧o<past.length∧∀ (m:Nat) (rows:List (List Item)),past[m]?=some rows→(o≤m↔s<rows.length)
 less:∀ (m:Nat) (rows:List (List Item)),past[m]?=some rows→rows.length≤ops.length
structure Sh(C:Addr)(S:Addr→Prop)(H:Hp)(x d st op:Addr)(past:nF)(ops:List Int):Prop where
 sx:S x
 ss:S st
 so:S op
 al:∀ a,S a→∃ ob,H a=some ob
 hx:H x=some (.ins C d [("states",.ref st),("openings",.ref op)])
 hs:∃ as:List Addr,H st=some (.lst (as.map V.ref))∧bK (Hs S H st op) as past
 ho:H op=some (.lst (ops.map V.int))
 ne:st≠op
 MS:VU past ops
theorem br.fr{H H':Hp}{r:Addr}{its:List Item}(h:br H (.ref r) its)(k:∀ xs,H r=some (.lst xs)→H' r=some (.lst xs))(t:∀ a xs,H a=some (.tup xs)→H' a=some (.tup xs)):br H' (.ref r) its:=by
 obtain⟨a,vs,e,h1,h2⟩:=h
 cases e
 exact⟨r,vs,rfl,k _ h1,h2.mono fun v it ⟨b,e,hb⟩=>⟨b,e,t _ _ hb⟩⟩
theorem Hs.fr{S S':Addr→Prop}{H H':Hp}{st op a:Addr}{rows:List (List Item)}(h:Hs S H st op a rows)(sub:∀ a,S a→S' a)(k:∀ a ob,H a=some ob→S a→a≠st→a≠op→H' a=some ob)(t:∀ a xs,H a=some (.tup xs)→H' a=some (.tup xs)):Hs S' H' st op a rows:=by
 obtain⟨sa,n1,n2,rs,hr,al⟩:=h
 exact⟨sub _ sa,n1,n2,rs,k _ _ hr sa n1 n2,al.mono fun r its q=>⟨sub _ q.own,q.ne,q.at'.fr (fun xs e=>k _ _ e q.own q.ne.1 q.ne.2) t⟩⟩
theorem Sh.fr{C:Addr}{S:Addr→Prop}{H H':Hp}{x d st op:Addr}{past:nF}{ops:List Int}(h:Sh C S H x d st op past ops)(k:∀ a ob,H a=some ob→S a→H' a=some ob)(t:∀ a xs,H a=some (.tup xs)→H' a=some (.tup xs)):Sh C S H' x d st op past ops:=by
 obtain⟨sx,ss,so,al,hx,⟨as,hs,a2⟩,ho,ne,MS⟩:=h
 refine⟨sx,ss,so,fun a z=>?_,k _ _ hx sx,⟨as,k _ _ hs ss,a2.mono fun a rows q=>q.fr (fun _ z=>z) (fun a ob e z _ _=>k _ _ e z) t⟩,k _ _ ho so,ne,MS⟩
 obtain⟨ob,e⟩:=al a z
 exact⟨ob,k _ _ e z⟩
theorem Sh.same{C:Addr}{S:Addr→Prop}{H H':Hp}{x d st op:Addr}{past:nF}{ops:List Int}(h:Sh C S H x d st op past ops)(k:aF H H'):Sh C S H' x d st op past ops:=h.fr (fun a ob e _=>k a ob e) (fun a xs e=>k _ _ e)
theorem Sh.keep{C:Addr}{S:Addr→Prop}{H H':Hp}{x d st op l:Addr}{past:nF}{ops:List Int}{ls:List V}(h:Sh C S H x d st op past ops)(hl:H l=some (.lst ls))(nl:¬ S l)(k:cS l H H'):Sh C S H' x d st op past ops :=
 h.fr (fun a ob e z=>k a ob e (fun q=>nl (by rw[← q];exact z))) (fun a xs e=>k _ _ e (cT e hl (by intro z;cases z)))
theorem Ak:∀ {as bs:List Addr},as.map V.ref=bs.map V.ref→as=bs
 | [],[],_=>rfl
 | [],_::_,h=>by cases h
 | _::_,[],h=>by cases h
 | a::as,b::bs,h=>by
  rw[lU,lU]at h
  injection h with h1 h2
  cases h1
  rw[Ak h2]
theorem Sh.last{C:Addr}{S:Addr→Prop}{H:Hp}{x d st op:Addr}{past:nF}{ops:List Int}(h:Sh C S H x d st op past ops){as:List Addr}(ha:H st=some (.lst (as.map V.ref))):∃ as' a,as=as'++[a]∧∀ last,past.getLast?=some last→Hs S H st op a last:=by
 obtain⟨bs,hb,a2⟩:=h.hs
 have e:as=bs:=by
  rw[ha]at hb
  have:=HO.lst.inj (sr hb)
  exact Ak this
 subst e
 obtain⟨last,hl,_⟩:=h.MS.Cs
 obtain⟨p',rfl⟩:∃ p',past=p'++[last]:=by
  rcases sj past with rfl|⟨p',l,rfl⟩
  ·cases hl
  ·rw[qv,vE]at hl
   cases hl
   exact⟨p',qv⟩
 obtain⟨as',a,rfl,_,r⟩:=a2.split
 refine⟨as',a,rfl,fun l e=>?_⟩
 rw[hl]at e
 cases e
 exact r
theorem vg(xs:List V){p:Int}(h:0≤p):jV xs none (some p)=xs.take p.toNat:=by
 unfold jV
 have e1:HT.j4 xs.length 0 none=0:=rfl
 have e2:HT.j4 xs.length xs.length (some p)=min p.toNat xs.length:=by
  show (if p<0 then (p+(xs.length:Int)).toNat else min p.toNat xs.length)=_
  rw[if_neg (by omega)]
 rw[e1,e2,List.drop_zero,Nat.sub_zero]
 rcases Nat.le_total p.toNat xs.length with z|z
 ·rw[Nat.min_eq_left z]
 ·rw[Nat.min_eq_right z,zd (iC _),zd z]
theorem xD(xs:List V){p:Int}(h:0≤p):jV xs (some p) none=xs.drop p.toNat:=by
 unfold jV
 have e1:HT.j4 xs.length xs.length none=xs.length:=rfl
 have e2:HT.j4 xs.length 0 (some p)=min p.toNat xs.length:=by
  show (if p<0 then (p+(xs.length:Int)).toNat else min p.toNat xs.length)=_
  rw[if_neg (by omega)]
 rw[e1,e2]
 rcases Nat.le_total p.toNat xs.length with z|z
 ·rw[Nat.min_eq_left z,zd (by rw[List.length_drop];omega)]
 ·rw[Nat.min_eq_right z,List.drop_of_length_le (iC _),List.drop_of_length_le z]
  simp
inductive tU(vs:List V)(H:Hp)(Q:VK)(E:XK):Prop
 | mk (a r:Addr) (rs:List V) (s:Nat) (_:vs=[.ref a,.int (s:Nat),.ref r]) (_:H a=some (.lst rs)) (_:s≤rs.length) (_:rs.length≤1000) (_: ∀ (p:Addr) (H':Hp),H' p=some (.lst (rs.take s++[.ref r]++rs.drop (s+1)))→aF H H'→H p=none→Q (.ref p) H'):tU vs H Q E
inductive Dn(C:Addr)(vs:List V)(H:Hp)(Q:VK)(E:XK):Prop
 | mk (x d:Addr) (_:vs=[.ref x]) (_:H x=some (.ins C d [])) (_: ∀ (st op z:Addr) (H':Hp),Sh C (fun a=>a=x∨a=st∨a=op∨a=z) H' x d st op [[]] []→cS x H H'→H st=none→H op=none→H z=none→Q .jJ H'):Dn C vs H Q E
inductive Fw(C:Addr)(vs:List V)(H:Hp)(Q:VK)(E:XK):Prop
 | mk (x d st op:Addr) (as:List V) (_:vs=[.ref x]) (_:H x=some (.ins C d [("states",.ref st),("openings",.ref op)])) (_:H st=some (.lst as)) (_:Q (.int ((as.length:Nat)-1)) H):Fw C vs H Q E
inductive Dp(C:Addr)(vs:List V)(H:Hp)(Q:VK)(E:XK):Prop
 | mk (S:Addr→Prop) (x d st op:Addr) (past:nF) (ops:List Int) (_:vs=[.ref x]) (_:Sh C S H x d st op past ops) (_:Q (.int (ops.length:Nat)) H):Dp C vs H Q E
theorem J8:aG ["state","sheet","items"] ["state","sheet","items"] (az oz):=⟨rfl,rfl,rfl,by decide +kernel,rfl,by decide +kernel,by decide +kernel⟩
theorem xE:aG ["self"] ["self"] (az iT):=⟨rfl,rfl,rfl,by decide +kernel,rfl,by decide +kernel,by decide +kernel⟩
theorem Fx:aG ["self"] ["self"] (az gS):=⟨rfl,rfl,rfl,by decide +kernel,rfl,by decide +kernel,by decide +kernel⟩
theorem Dq:aG ["self"] ["self"] (az iF):=⟨rfl,rfl,rfl,by decide +kernel,rfl,by decide +kernel,by decide +kernel⟩
theorem Al{f:Addr}{fd:FuncData}(F:iD K "changed" "changed" oz f fd)(T:pG mg):aB P w K mg base bV 1 f fd Ge tU:=by
 refine F.ok J8 (fun vs H Q E h=>?_) (fun cdv A outer s H vs Q E hr h=>?_)
 ·obtain⟨a,r,rs,s,rfl,_⟩:=h
  rfl
 obtain⟨a,r,rs,s,rfl,ha,sl,l1,k⟩:=h
 refine⟨_,(ak (cC (mh (zk mT mT aA (pv 1) (aV aX rfl T.ic lT (aa (pv 0) ah))))
   (ao zh)
   bL)
   (ao (aR (bz kZ (bz kZ (kX pJ (pv 0) pI (mO (pv 1))) (bJ (aa (pv 2) ah))) (kX pJ (pv 0) (mO (bz eZ (pv 1) aA)) pI))))),?_⟩
 refine⟨_,rfl,_,_,rfl,rfl,_,rfl,dQ (fun c0=>?_) (fun c0=>absurd (decide_eq_true (by omega)) c0)⟩
 refine⟨_,rfl,a,_,rfl,.inl (bF.of ha),_,_,rfl,rfl,_,rfl,?_⟩
 rw[decide_eq_true (show ((s:Nat):Int)≤((rs.length:Nat):Int) by omega)]
 refine iL ?_
 refine⟨_,rfl,_,rfl,_,rfl,a,_,rfl,bF.of ha,fun p1 hp1=>?_⟩
 rw[vg _ (by omega),Int.toNat_natCast]
 have s1:aF H (upd H p1 (.lst (rs.take s))):=aj hp1 _
 have h1:(upd H p1 (.lst (rs.take s))) p1=some (.lst (rs.take s)):=af
 generalize upd H p1 (.lst (rs.take s))=H1 at s1 h1
 refine⟨_,rfl,(by show 1≤sizeLine;decide),fun p2 hp2=>?_⟩
 have s2:aF H1 (upd H1 p2 (.lst [.ref r])):=aj hp2 _
 have h2:(upd H1 p2 (.lst [.ref r])) p2=some (.lst [.ref r]):=af
 generalize upd H1 p2 (.lst [.ref r])=H2 at s2 h2
 refine⟨p1,p2,_,_,rfl,rfl,s2 _ _ h1,h2,(by rw[kK];exact jI (aM (by simp only[vA];omega))),fun p3 hp3=>?_⟩
 have s3:aF H2 (upd H2 p3 (.lst (rs.take s++[.ref r]))):=aj hp3 _
 have h3:(upd H2 p3 (.lst (rs.take s++[.ref r]))) p3=some (.lst (rs.take s++[.ref r])):=af
 generalize upd H2 p3 (.lst (rs.take s++[.ref r]))=H3 at s3 h3
 have Mr:=s1.trans (s2.trans s3)
 refine⟨_,rfl,_,rfl,_,_,rfl,rfl,_,rfl,a,_,rfl,bF.of (Mr _ _ ha),fun p4 hp4=>?_⟩
 rw[xD _ (by omega),show (((s:Nat):Int)+1).toNat=s+1 by omega]
 have s4:aF H3 (upd H3 p4 (.lst (rs.drop (s+1)))):=aj hp4 _
 have h4:(upd H3 p4 (.lst (rs.drop (s+1)))) p4=some (.lst (rs.drop (s+1))):=af
 generalize upd H3 p4 (.lst (rs.drop (s+1)))=H4 at s4 h4
 refine⟨p3,p4,_,_,rfl,rfl,s4 _ _ h3,h4,(by rw[eG,kK,List.length_drop];exact jI (aM (by simp only[vA];omega))),fun p5 hp5=>?_⟩
 have s04:=Mr.trans s4
 exact k p5 _ af (s04.trans (aj hp5 _)) (aS s04 hp5)
theorem wz{f C:Addr}{fd:FuncData}(F:iD K "__init__" "Shelf.__init__" iT f fd)(cl:Bw K C)(n1:bh K C "states")(n2:bh K C "openings"):aB P w K mg base bV 1 f fd ja (Dn C):=by
 refine F.ok xE (fun vs H Q E h=>?_) (fun cdv A outer s H vs Q E hr h=>?_)
 ·obtain⟨x,d,rfl,_⟩:=h
  rfl
 obtain⟨x,d,rfl,hx,k⟩:=h
 refine⟨_,(ak (j9 (pv 0) (bJ (aa (bJ ah) ah)) rfl)
   (ao (j9 (pv 0) (bJ ah) rfl))),?_⟩
 refine⟨(by show 0≤sizeLine;decide),fun z hz=>?_⟩
 have a0:aF H (upd H z (.lst [])):=aj hz _
 have z0:(upd H z (.lst [])) z=some (.lst []):=af
 generalize upd H z (.lst [])=H0 at a0 z0
 refine⟨(by show 1≤sizeLine;decide),fun st hst=>?_⟩
 have a1:aF H0 (upd H0 st (.lst [.ref z])):=aj hst _
 have b1:(upd H0 st (.lst [.ref z])) st=some (.lst [.ref z]):=af
 generalize upd H0 st (.lst [.ref z])=H1 at a1 b1
 have a01:=a0.trans a1
 refine⟨_,rfl,x,C,d,_,rfl,a01 _ _ hx,cl,n1,by decide,?_⟩
 have k2:cS x H1 (upd H1 x (.ins C d (L2.dh "states" (.ref st) []))):=aJ x _ _
 have h2:(upd H1 x (.ins C d (L2.dh "states" (.ref st) []))) x=some (.ins C d [("states",.ref st)]):=af
 generalize upd H1 x (.ins C d (L2.dh "states" (.ref st) []))=H2 at k2 h2
 have Rh:st≠x:=(au (a0 _ _ hx) hst).symm
 have nzx:z≠x:=(au hx hz).symm
 have nzs:z≠st:=au z0 hst
 have b2:=k2 _ _ b1 Rh
 have z2:=k2 _ _ (a1 _ _ z0) nzx
 refine⟨(by show 0≤sizeLine;decide),fun op hop=>?_⟩
 have Kf:op≠x:=(au h2 hop).symm
 have nso:st≠op:=au b2 hop
 have nzo:z≠op:=au z2 hop
 refine⟨_,rfl,x,C,d,_,rfl,aj hop _ _ _ h2,cl,n2,(by show 1<1000;decide),?_⟩
 have k5:cS x H (upd (upd H2 op (.lst [])) x (.ins C d (L2.dh "openings" (.ref op) [("states",.ref st)]))):=fun a ob e n=>by
  rw[aC n]
  exact aj hop _ _ _ (k2 _ _ (a01 _ _ e) n)
 have z5:(upd (upd H2 op (.lst [])) x (.ins C d (L2.dh "openings" (.ref op) [("states",.ref st)]))) z=some (.lst []):=by rw[aC nzx];exact aj hop _ _ _ z2
 have s5:(upd (upd H2 op (.lst [])) x (.ins C d (L2.dh "openings" (.ref op) [("states",.ref st)]))) st=some (.lst [.ref z]):=by rw[aC Rh];exact aj hop _ _ _ b2
 have o5:(upd (upd H2 op (.lst [])) x (.ins C d (L2.dh "openings" (.ref op) [("states",.ref st)]))) op=some (.lst []):=by rw[aC Kf];exact af
 have x5:(upd (upd H2 op (.lst [])) x (.ins C d (L2.dh "openings" (.ref op) [("states",.ref st)]))) x=some (.ins C d [("states",.ref st),("openings",.ref op)]):=af
 generalize upd (upd H2 op (.lst [])) x (.ins C d (L2.dh "openings" (.ref op) [("states",.ref st)]))=H5 at k5 z5 s5 o5 x5
 refine k st op z _ ⟨.inl rfl,.inr (.inl rfl),.inr (.inr (.inl rfl)),fun a w=>?_,x5,⟨[z],s5,.cons ⟨.inr (.inr (.inr rfl)),nzs,nzo,[],z5,.nil⟩ .nil⟩,o5,nso,⟨⟨[],rfl,rfl⟩,fun s o e=>(by cases s <;> cases e),fun m rows e=>?_⟩⟩ k5 (aS a0 hst) ?_ hz
 ·rcases w with rfl|rfl|rfl|rfl
  ·exact⟨_,x5⟩
  ·exact⟨_,s5⟩
  ·exact⟨_,o5⟩
  ·exact⟨_,z5⟩
 ·match m,e with
  | 0,e=>cases e;exact iC _
  | m+1,e=>cases e
 ·exact aS a01 (jL k2 Kf hop)
theorem rA{f C:Addr}{fd:FuncData}(F:iD K "now" "Shelf.now" gS f fd)(T:pG mg)(cl:Bw K C)(n1:bh K C "states"):aB P w K mg base bV 1 f fd ja (Fw C):=by
 refine F.ok Fx (fun vs H Q E h=>?_) (fun cdv A outer s H vs Q E hr h=>?_)
 ·obtain⟨x,d,st,op,as,rfl,_⟩:=h
  rfl
 obtain⟨x,d,st,op,as,rfl,hx,hs,k⟩:=h
 refine⟨_,(ao (aR (bz gR (aV aX rfl T.ic lT (aa (ff (pv 0) rfl) ah)) aA))),?_⟩
 exact⟨_,rfl,x,C,d,_,.ref st,rfl,hx,cl,n1,rfl,st,_,rfl,.inl (bF.of hs),_,_,rfl,rfl,k⟩
theorem uH{f C:Addr}{fd:FuncData}(F:iD K "many" "Shelf.many" iF f fd)(T:pG mg)(cl:Bw K C)(n1:bh K C "states"):aB P w K mg base bV 1 f fd ja (Dp C):=by
 refine F.ok Dq (fun vs H Q E h=>?_) (fun cdv A outer s H vs Q E hr h=>?_)
 ·obtain⟨S,x,d,st,op,past,ops,rfl,_⟩:=h
  rfl
 obtain⟨S,x,d,st,op,past,ops,rfl,W,k⟩:=h
 obtain⟨as,hs,a2⟩:=W.hs
 obtain⟨last,hl,ol⟩:=W.MS.Cs
 refine⟨_,(ao (aR (aV aX rfl T.ic lT (aa (bq bf (ff (pv 0) rfl) (kT iJ aA) (fun _ _=>rfl)) ah)))),?_⟩
 obtain⟨as',a,rfl,r⟩:=W.last hs
 refine⟨_,rfl,x,C,d,_,.ref st,rfl,W.hx,cl,n1,rfl,_,rfl,st,_,_,.ref a,rfl,rfl,bF.of hs,(by rw[nu];exact fH _ _),?_⟩
 obtain⟨_,_,_,rs,ha,al⟩:=r last hl
 refine⟨a,_,rfl,.inl (bF.of ha),?_⟩
 rw[cO,al.len,← ol]
 exact k
def Uu(rows:List (List Item))(ch:Nat × List Item):List (List Item):=rows.take ch.1++[ch.2]++rows.drop (ch.1+1)
def rB(rows:List (List Item))(qL:List (Nat × List Item)):List (List Item):=qL.foldl Uu rows
def Ri(rows:List (List Item))(qL:List (Nat × List Item)):Prop:=∀ (i:Nat) (ch:Nat × List Item),qL[i]?=some ch→ch.1≤(rB rows (qL.take i)).length
theorem Oi{rows:List (List Item)}{ch:Nat × List Item}(h:ch.1≤rows.length):rows.length≤(Uu rows ch).length∧(Uu rows ch).length≤rows.length+1:=by
 unfold Uu
 rw[eG,eG,kK,List.length_drop]
 simp only[vA]
 omega
theorem Ct{rows:List (List Item)}{qL:List (Nat × List Item)}{i:Nat}{ch:Nat × List Item}(h:qL[i]?=some ch):rB rows (qL.take (i+1))=Uu (rB rows (qL.take i)) ch:=by
 unfold rB
 rw[take_snoc h,List.foldl_append]
 rfl
theorem Am{rows:List (List Item)}{qL:List (Nat × List Item)}(ok:Ri rows qL):∀ i,i≤qL.length→rows.length≤(rB rows (qL.take i)).length∧(rB rows (qL.take i)).length≤rows.length+i
 | 0,_=>⟨Nat.le_refl _,iC _⟩
 | i+1,h=>by
  have e:qL[i]?=some qL[i]:=qM (by omega)
  have a:=Am ok i (by omega)
  have b:=Oi (ok i _ e)
  rw[Ct e]
  omega
theorem VU.step{past:nF}{ops:List Int}{last rows:List (List Item)}(h:VU past ops)(hl:past.getLast?=some last)(le:last.length≤rows.length):VU (past++[rows]) (ops++List.replicate (rows.length-last.length) ((past.length:Nat):Int)):=by
 obtain⟨⟨l',hl',ol⟩,fit,less⟩:=h
 rw[hl]at hl'
 cases hl'
 have get:∀ (m:Nat) (r:List (List Item)),(past++[rows])[m]?=some r→past[m]?=some r∧m<past.length∨m=past.length∧r=rows:=fun m r e=>by
  by_cases c:m<past.length
  ·rw[AY c]at e
   exact .inl ⟨e,c⟩
  ·rw[List.getElem?_append_right (by omega)]at e
   match hm:m-past.length,e with
   | 0,e=>cases e;exact .inr ⟨by omega,rfl⟩
   | k+1,e=>cases e
 refine⟨⟨rows,vE,by rw[eG,yy];omega⟩,fun s o e=>?_,fun m r e=>?_⟩
 ·by_cases c:s<ops.length
  ·rw[AY c]at e
   obtain⟨f0,f1,f2⟩:=fit s o e
   refine⟨f0,by rw[eG];simp only[vA];omega,fun m r em=>?_⟩
   rcases get m r em with ⟨q,_⟩|⟨rfl,rfl⟩
   ·exact f2 m r q
   ·constructor
    ·intro _;omega
    ·intro _;omega
  ·rw[List.getElem?_append_right (by omega),List.getElem?_replicate]at e
   split at e
   ·cases e
    refine⟨by omega,by rw[eG];simp only[vA];omega,fun m r em=>?_⟩
    rcases get m r em with ⟨q,lt⟩|⟨rfl,rfl⟩
    ·have:=less m r q
     constructor
     ·intro z;omega
     ·intro z;omega
    ·constructor
     ·intro _;omega
     ·intro _;omega
   ·cases e
 ·rw[eG,yy]
  rcases get m r e with ⟨q,_⟩|⟨rfl,rfl⟩
  ·have:=less m r q
   omega
  ·omega
theorem bK.take{α β:Type}{R:α→β→Prop}:∀ {as:List α} {bs:List β} (n:Nat),bK R as bs→bK R (as.take n) (bs.take n)
 | _,_,0,_=>by rw[List.take_zero,List.take_zero];exact .nil
 | _,_,n+1,.nil=>.nil
 | _,_,n+1,.cons e r=>.cons e (r.take n)
theorem bK.drop{α β:Type}{R:α→β→Prop}:∀ {as:List α} {bs:List β} (n:Nat),bK R as bs→bK R (as.drop n) (bs.drop n)
 | _,_,0,h=>h
 | _,_,n+1,.nil=>.nil
 | _,_,n+1,.cons _ r=>r.drop n
theorem Fy(v:V):∀ n:Nat,(List.replicate n [v]).flatten=List.replicate n v
 | 0=>rfl
 | n+1=>by rw[List.replicate_succ,List.flatten_cons,Fy v n,List.replicate_succ];rfl
theorem Oj{H:Hp}{a:Addr}{ob:HO}(h:H a=some ob):upd H a ob=H:=by
 funext b
 by_cases e:b=a
 ·rw[e,af,h]
 ·rw[aC e]
def Ht(H:Hp)(a:Addr)(ch:Nat × List Item):Prop:=∃ r:Addr,H a=some (.tup [.int (ch.1:Nat),.ref r])∧br H (.ref r) ch.2
theorem Ht.same{H H':Hp}{a:Addr}{ch:Nat × List Item}(s:aF H H'):Ht H a ch→Ht H' a ch:=fun ⟨r,h1,h2⟩=>⟨r,s _ _ h1,h2.same s⟩
inductive An(C:Addr)(vs:List V)(H:Hp)(Q:VK)(E:XK):Prop
 | mk (S:Addr→Prop) (x d st op c:Addr) (past:nF) (ops:List Int) (cs:List Addr) (qL:List (Nat × List Item)) (last:List (List Item)) (_:vs=[.ref x,.ref c]) (_:Sh C S H x d st op past ops) (_:H c=some (.lst (cs.map V.ref))) (_:bK (Ht H) cs qL) (_:past.getLast?=some last) (_:Ri last qL) (_:qL.length≤200) (_:last.length≤500) (_:past.length≤1000) (_ :
 ∀ (S':Addr→Prop) (H':Hp),Sh C S' H' x d st op (past++[rB last qL]) (ops++List.replicate ((rB last qL).length-last.length) ((past.length:Nat):Int))→(∀ a,S' a→S a∨H a=none)→(∀ a ob,H a=some ob→¬ S a→H' a=some ob)→(∀ a xs,H a=some (.tup xs)→H' a=some (.tup xs))→Q .jJ H'):An C vs H Q E
theorem jS:aG ["self","changes","state","ahead","sheet","items"] ["self","changes"] (az kC):=⟨rfl,rfl,rfl,by decide +kernel,rfl,by decide +kernel,by decide +kernel⟩
theorem Bg{f C fi fN fC:Addr}{fd gN gC:FuncData}(F:iD K "step" "Shelf.step" kC f fd)(T:pG mg)(bH:ClsAt K mg "Shelf" C fi)(n1:bh K C "states")(n2:bh K C "openings")(iU:ay K mg "changed" oz Ge fC gC)(bU:aQ K C "now" "Shelf.now" gS ja fN gN):aB P w K mg base bV 2 f fd Sj (An C):=by
 have Ao:aB P w K mg base bV 1 _ _ Ge tU:=Al iU.F T
 have mF:aB P w K mg base bV 1 _ _ ja (Fw C):=rA bU.F T bH.cl n1
 refine F.ok jS (fun vs H Q E h=>?_) (fun cdv A outer s H vs Q E hr h=>?_)
 ·obtain⟨S,x,d,st,op,c,past,ops,cs,qL,last,rfl,_⟩:=h
  rfl
 obtain⟨S,x,d,st,op,c,past,ops,cs,qL,last,rfl,W,hc,a2,hl,okc,lc,ll,lp,k⟩:=h
 refine⟨_,(ak (aU (i:=2) jS.nd rfl (Or.inl rfl) (bq bf (ff (pv 0) rfl) (kT iJ aA) (fun _ _=>rfl)))
   (ak (aU (i:=3) jS.nd rfl (Or.inl rfl) (aV aX rfl T.ic lT (aa (pv 2) ah)))
   (ak (gQ PassesOwn.never rfl (cU (pv 1)) (qf (n:=2) rfl (bQ (aY (i:=4) jS.nd rfl (Or.inl rfl)) (bQ (aY (i:=5) jS.nd rfl (Or.inl rfl)) j3)))
   (ao (aU (i:=2) jS.nd rfl (Or.inl rfl) (aL iU Ao hr (aa (pv 2) (aa (pv 4) (aa (eV iK rfl T.lG vD (aa (pv 5) ah)) ah)))))))
   (ak (bw (je qd r9 sf cA (ff (pv 0) rfl) (aa (pv 2) ah)))
   (ao (wV (pv 0) (bz K9 (bJ (aa (cV (pv 0) bH.cl bU.mt mF (hr.mono (by decide)) bU.b .nil dz) ah)) (bz gR (aV aX rfl T.ic lT (aa (pv 2) ah)) (pv 3))) GW)))))),?_⟩
 obtain⟨as,hs,al⟩:=id W.hs
 obtain⟨as',a,ea,r⟩:=W.last hs
 obtain⟨Sa,na1,na2,rs,ha,ar⟩:=r last hl
 have lal:=al.len
 refine⟨_,rfl,x,C,d,_,.ref st,rfl,W.hx,bH.cl,n1,rfl,_,rfl,st,_,_,.ref a,rfl,rfl,bF.of hs,(by rw[ea,nu];exact fH _ _),?_⟩
 refine⟨_,rfl,a,_,rfl,.inl (bF.of ha),?_⟩
 rw[cO,ar.len]
 have hst:∀ q,H q=none→q≠st∧q≠op:=fun q hq=>⟨fun z=>(by rw[z,hs]at hq;cases hq),fun z=>(by rw[z,W.ho]at hq;cases hq)⟩
 refine⟨_,rfl,c,rfl,⟨_,bF.of hc⟩,ie (K:=K) (a:=c) (xs:=cs.map V.ref) (fun i σ H1=>∃ (u4 u5:Option V) (S1:Addr→Prop) (ai:Addr),σ=[some (.ref x),some (.ref c),some (.ref ai),some (.int (last.length:Nat)),u4,u5]∧aF H H1∧(∀ q,S q→S1 q)∧(∀ q,S1 q→S q∨H q=none)∧(∀ q,S1 q→∃ ob,H1 q=some ob)∧Hs S1 H1 st op ai (rB last (qL.take i))) ⟨none,none,S,a,rfl,aF.refl _,fun _ z=>z,fun _ z=>.inl z,W.al,r last hl⟩ (fun i σ H1 _ ⟨_,_,_,_,_,s,_⟩=>bF.of (s _ _ hc)) ?_ ?_⟩
 ·rintro i y σ H1 hi ⟨u4,u5,S1,ai,rfl,s1,up,sub,al1,Uv⟩
  rw[kM]at hi
  obtain⟨t,et,rfl⟩:=Option.map_eq_some_iff.mp hi
  obtain⟨ch,ech,q⟩:=a2.get et
  have il:=(List.getElem?_eq_some_iff.mp ech).1
  obtain⟨ri,ht,hri⟩:=q.same s1
  obtain⟨b,vs,eb,hb,itb⟩:=id hri
  cases eb
  obtain⟨Sai,Uw,aeq,VW,hai,VX⟩:=id Uv
  refine⟨t,_,rfl,jc.of ht,rfl,_,_,rfl,_,_,rfl,rfl,?_⟩
  refine⟨_,rfl,_,rfl,_,rfl,ri,_,rfl,.inl (bF.of hb),fun z hz=>?_⟩
  have s2:aF H1 (upd H1 z (.lst vs)):=aj hz _
  have z2:(upd H1 z (.lst vs)) z=some (.lst vs):=af
  generalize upd H1 z (.lst vs)=H2 at s2 z2
  have lens:=Am okc i (by omega)
  have aer:=okc i ch ech
  have VY:=VX.len
  refine⟨ai,z,_,ch.1,rfl,s2 _ _ hai,by rw[cO,VY];exact aer,by rw[cO,VY];omega,fun p H3 hp3 s3 fp=>?_⟩
  have VZ:=s2.trans s3
  have fz:H z=none:=aS s1 hz
  have fp':H p=none:=aS (s1.trans s2) fp
  refine⟨_,_,fun q=>S1 q∨q=z∨q=p,p,rfl,s1.trans VZ,fun q z=>.inl (up q z),fun q w=>?_,fun q w=>?_,.inr (.inr rfl),(hst p fp').1,(hst p fp').2,VW.take ch.1++[z]++VW.drop (ch.1+1),?_,?_⟩
  ·rcases w with w|rfl|rfl
   ·exact sub q w
   ·exact .inr fz
   ·exact .inr fp'
  ·rcases w with w|rfl|rfl
   ·obtain⟨ob,e⟩:=al1 q w
    exact⟨ob,VZ _ _ e⟩
   ·exact⟨_,s3 _ _ z2⟩
   ·exact⟨_,hp3⟩
  ·rw[hp3]
   simp only[nu,List.map_take,List.map_drop,lU,List.map_nil]
  ·rw[Ct ech]
   have mv:bK (Ut (fun q=>S1 q∨q=z∨q=p) H3 st op) VW (rB last (qL.take i)):=VX.mono fun r its q=>⟨.inl q.own,q.ne,q.at'.same VZ⟩
   refine ((mv.take ch.1).app (.cons ⟨.inr (.inl rfl),hst z fz,⟨z,vs,rfl,s3 _ _ z2,itb.mono fun v it q=>q.same VZ⟩⟩ .nil)).app (mv.drop (ch.1+1))
 ·rintro σ H1 ⟨u4,u5,S1,ai,rfl,s1,up,sub,al1,Uv⟩
  have lcs:(cs.map V.ref).length=qL.length:=by rw[cO,a2.len]
  rw[lcs,kO]at Uv
  have lens:=Am okc qL.length (iC _)
  rw[kO]at lens
  obtain⟨Sai,Uw,aeq,VW,hai,VX⟩:=id Uv
  have VY:=VX.len
  have W1:=W.same s1
  have hs1:=s1 _ _ hs
  refine⟨_,rfl,x,C,d,_,.ref st,rfl,W1.hx,bH.cl,n1,rfl,.inl ⟨rfl,_,bF.of hs1⟩,_,rfl,st,_,_,rfl,rfl,hs1,(by rw[cO];exact aM (by omega)),?_⟩
  rw[show as.map V.ref++[.ref ai]=(as++[ai]).map V.ref by rw[nu];rfl]
  have k2:cS st H1 (upd H1 st (.lst ((as++[ai]).map V.ref))):=aJ st _ _
  have st2:(upd H1 st (.lst ((as++[ai]).map V.ref))) st=some (.lst ((as++[ai]).map V.ref)):=af
  generalize upd H1 st (.lst ((as++[ai]).map V.ref))=H2 at k2 st2
  have V0:x≠st:=cT W1.hx hs1 (by intro z;cases z)
  have nxo:x≠op:=cT W1.hx W1.ho (by intro z;cases z)
  have x2:=k2 _ _ W1.hx V0
  have o2:=k2 _ _ W1.ho W.ne.symm
  have ai2:=k2 _ _ hai Uw
  have lmn:(((as++[ai]).map V.ref).length:Int)-1=((past.length:Nat):Int):=by
   rw[cO,eG,lal]
   simp only[vA]
   omega
  refine⟨_,rfl,x,C,d,_,.ref op,rfl,x2,bH.cl,n2,rfl,_,rfl,x,d,_,rfl,x2,rfl,x,d,st,op,_,rfl,x2,st2,?_⟩
  rw[lmn]
  refine⟨(by show 1≤sizeLine;decide),fun t2 JE=>?_⟩
  have s3:aF H2 (upd H2 t2 (.lst [.int (past.length:Nat)])):=aj JE _
  have b3:(upd H2 t2 (.lst [.int (past.length:Nat)])) t2=some (.lst [.int (past.length:Nat)]):=af
  generalize upd H2 t2 (.lst [.int (past.length:Nat)])=H3 at s3 b3
  refine⟨_,rfl,ai,_,rfl,.inl (bF.of (s3 _ _ ai2)),_,rfl,_,_,rfl,rfl,?_⟩
  rw[cO,VY]
  have ek:(((rB last qL).length:Nat):Int)-((last.length:Nat):Int)=(((rB last qL).length-last.length:Nat):Int):=by omega
  show S9 _ (V.int ((((rB last qL).length:Nat):Int)-((last.length:Nat):Int))) _ _
  rw[ek]
  refine⟨t2,_,_,rfl,rfl,b3,by omega,by omega,(by simp only[vA];exact jI (aM (by omega))),fun t3 RY=>?_⟩
  rw[Int.toNat_natCast,Fy]
  generalize hk:(rB last qL).length-last.length=kk
  have s4:aF H3 (upd H3 t3 (.lst (List.replicate kk (V.int (past.length:Nat))))):=aj RY _
  have b4:(upd H3 t3 (.lst (List.replicate kk (V.int (past.length:Nat))))) t3=some (.lst (List.replicate kk (V.int (past.length:Nat)))):=af
  generalize upd H3 t3 (.lst (List.replicate kk (V.int (past.length:Nat))))=H4 at s4 b4
  have Wa:=s3.trans s4
  have lo:ops.length≤700:=by
   obtain⟨l',hl',ol⟩:=W.MS.Cs
   rw[hl]at hl'
   cases hl'
   omega
  refine⟨op,t3,_,_,rfl,rfl,Wa _ _ o2,b4,(by rw[cO,yy];exact jI (aM (by omega))),?_⟩
  rw[show ops.map V.int++List.replicate kk (V.int (past.length:Nat))=(ops++List.replicate kk ((past.length:Nat):Int)).map V.int by rw[nu,List.map_replicate]]
  have k5:cS op H4 (upd H4 op (.lst ((ops++List.replicate kk ((past.length:Nat):Int)).map V.int))):=aJ op _ _
  have o5:(upd H4 op (.lst ((ops++List.replicate kk ((past.length:Nat):Int)).map V.int))) op=some (.lst ((ops++List.replicate kk ((past.length:Nat):Int)).map V.int)):=af
  generalize upd H4 op (.lst ((ops++List.replicate kk ((past.length:Nat):Int)).map V.int))=H5 at k5 o5
  have x5:=k5 _ _ (Wa _ _ x2) nxo
  refine⟨d,_,x5,(by show 2<1000;decide),?_⟩
  have e5:upd H5 x (.ins C d (L2.dh "openings" (.ref op) ([("states",.ref st),("openings",.ref op)]:List (Str × V))))=H5:=Oj x5
  rw[e5]
  have Ol:∀ q ob,H1 q=some ob→q≠st→q≠op→H5 q=some ob:=fun q ob e m1 m2=>k5 _ _ (Wa _ _ (k2 _ _ e m1)) m2
  have t15:∀ q xs,H1 q=some (.tup xs)→H5 q=some (.tup xs):=fun q xs e=>Ol _ _ e (cT e hs1 (by intro z;cases z)) (cT e W1.ho (by intro z;cases z))
  have RL:=k5 _ _ (Wa _ _ st2) W.ne
  refine k S1 H5 ⟨up _ W.sx,up _ W.ss,up _ W.so,fun q w=>?_,x5,⟨as++[ai],RL,?_⟩,by rw[hk];exact o5,W.ne,W.MS.step hl lens.1⟩ sub (fun q ob e n=>?_) (fun q xs e=>t15 _ _ (s1 _ _ e))
  ·by_cases z1:q=st
   ·rw[z1];exact⟨_,RL⟩
   by_cases z2:q=op
   ·rw[z2];exact⟨_,o5⟩
   obtain⟨ob,e⟩:=al1 q w
   exact⟨ob,Ol _ _ e z1 z2⟩
  ·refine (bK.mono (fun a rows q=>?_) al).app (.cons (Uv.fr (fun _ z=>z) (fun q ob e _ m1 m2=>Ol _ _ e m1 m2) t15) .nil)
   exact q.fr up (fun q ob e _ m1 m2=>Ol _ _ (s1 _ _ e) m1 m2) (fun q xs e=>t15 _ _ (s1 _ _ e))
  ·exact Ol _ _ (s1 _ _ e) (fun z=>n (by rw[z];exact W.ss)) (fun z=>n (by rw[z];exact W.so))
def Aq(n:Nat)(a:Int):Prop:=0≤a∧a<(n:Nat)
theorem Aq.get{n:Nat}{a:Int}(h:Aq n a):∃ j:Nat,a=j∧j<n:=by
 obtain⟨h0,h1⟩:=h
 exact⟨a.toNat,by omega,by omega⟩
def Hu(past:nF)(ops:List Int):Prop:=past.length≤1000∧ops.length≤1000
inductive qH(C XS:Addr)(vs:List V)(H:Hp)(Q:VK)(E:XK):Prop
 | mk (S:Addr→Prop) (x d st op:Addr) (past:nF) (ops:List Int) (s:Int) (_:vs=[.ref x,.int s]) (_:Sh C S H x d st op past ops) (_:Hu past ops) (_:qW s) (_:(Aq ops.length s→Q .jJ H)) (_:(¬ Aq ops.length s→E (.ref XS) none H)):qH C XS vs H Q E
inductive Ar(C XM:Addr)(vs:List V)(H:Hp)(Q:VK)(E:XK):Prop
 | mk (S:Addr→Prop) (x d st op:Addr) (past:nF) (ops:List Int) (m:Int) (_:vs=[.ref x,.int m]) (_:Sh C S H x d st op past ops) (_:Hu past ops) (_:qW m) (_:(Aq past.length m→Q .jJ H)) (_:(¬ Aq past.length m→E (.ref XM) none H)):Ar C XM vs H Q E
def Told(H:Hp)(its:List Item)(Q:V→Hp→Prop):Prop:=∀ (q:Addr) (H':Hp),br H' (.ref q) its→aF H H'→H q=none→Q (.ref q) H'
inductive Ms(C XS:Addr)(vs:List V)(H:Hp)(Q:VK)(E:XK):Prop
 | mk (S:Addr→Prop) (x d st op:Addr) (past:nF) (ops:List Int) (s:Int) (_:vs=[.ref x,.int s]) (_:Sh C S H x d st op past ops) (_:Hu past ops) (_:qW s) (_:(∀ (si:Nat) (last:List (List Item)) (its:List Item),s=si→past.getLast?=some last→last[si]?=some its→Told H its Q)) (_:(¬ Aq ops.length s→E (.ref XS) none H)):Ms C XS vs H Q E
def Om(H H':Hp)(q:Addr)(rows:List (List Item)):Prop:=H q=none∧∃ rs:List Addr,H' q=some (.lst (rs.map V.ref))∧bK (fun r its=>H r=none∧r≠q∧br H' (.ref r) its) rs rows
inductive vh(C XM:Addr)(vs:List V)(H:Hp)(Q:VK)(E:XK):Prop
 | mk (S:Addr→Prop) (x d st op:Addr) (past:nF) (ops:List Int) (m:Int) (_:vs=[.ref x,.int m]) (_:Sh C S H x d st op past ops) (_:Hu past ops) (_:qW m) (_:(∀ (mi:Nat) (rows:List (List Item)),m=mi→past[mi]?=some rows→∀ (q:Addr) (H':Hp),Om H H' q rows→aF H H'→Q (.ref q) H')) (_:(¬ Aq past.length m→E (.ref XM) none H)):vh C XM vs H Q E
inductive vj(C:Addr)(vs:List V)(H:Hp)(Q:VK)(E:XK):Prop
 | mk (S:Addr→Prop) (x d st op:Addr) (past:nF) (ops:List Int) (_:vs=[.ref x]) (_:Sh C S H x d st op past ops) (_:Hu past ops) (_:(∀ (rows:List (List Item)),past.getLast?=some rows→∀ (q:Addr) (H':Hp),Om H H' q rows→aF H H'→Q (.ref q) H')):vj C vs H Q E
theorem tZ:aG ["self","sheet"] ["self","sheet"] (az dD):=⟨rfl,rfl,rfl,by decide +kernel,rfl,by decide +kernel,by decide +kernel⟩
theorem sR:aG ["self","moment"] ["self","moment"] (az cG):=⟨rfl,rfl,rfl,by decide +kernel,rfl,by decide +kernel,by decide +kernel⟩
theorem Fz:aG ["self","sheet"] ["self","sheet"] (az mw):=⟨rfl,rfl,rfl,by decide +kernel,rfl,by decide +kernel,by decide +kernel⟩
theorem wA:aG ["self","moment"] ["self","moment"] (az dF):=⟨rfl,rfl,rfl,by decide +kernel,rfl,by decide +kernel,by decide +kernel⟩
theorem Dr:aG ["self"] ["self"] (az mX):=⟨rfl,rfl,rfl,by decide +kernel,rfl,by decide +kernel,by decide +kernel⟩
structure RZ(K:PySem.W.Frag)(mg:Str→Option Value)(C XS XM:Addr):Prop where
 T:pG mg
 c:∃ fi,ClsAt K mg "Shelf" C fi
 n1:bh K C "states"
 n2:bh K C "openings"
 zs:C4 K mg "NoSheet" XS
 zm:C4 K mg "NoMoment" XM
theorem gB{f C XS XM fM:Addr}{fd gM:FuncData}(F:iD K "check_sheet" "Shelf.check_sheet" dD f fd)(M:RZ K mg C XS XM)(cP:aQ K C "many" "Shelf.many" iF ja fM gM):aB P w K mg base (oJ P w) 2 f fd wI (qH C XS):=by
 obtain⟨T,⟨fi,bH⟩,n1,n2,dP,cQ⟩:=M
 have pW:aB P w K mg base bV 1 _ _ ja (Dp C):=uH cP.F T bH.cl n1
 refine F7 F tZ (fun vs H Q E h=>?_) (fun cdv A outer s H vs Q E hr h=>?_)
 ·obtain⟨S,x,d,st,op,past,ops,a,rfl,_⟩:=h
  rfl
 obtain⟨S,x,d,st,op,past,ops,a,rfl,W,ok,fa,k1,k2⟩:=h
 refine⟨_,(ao (cC (mh (zk mT Et aA (pv 1) (cV (pv 0) bH.cl cP.mt pW (hr.mono (by decide)) cP.b .nil dz)))
   (ao (sL PySem.F.excBase_ValueError dP.x dP.m rfl zK (aa (vQ (qh (qV (pv 1) (qh (qV (cV (pv 0) bH.cl cP.mt pW (hr.mono (by decide)) cP.b .nil dz) zL))))) ah)))
   bL)),?_⟩
 have fl:qW ((ops.length:Nat):Int):=⟨by have:=ok.2;omega,by have:=ok.2;omega⟩
 refine⟨_,rfl,_,_,rfl,rfl,_,rfl,dQ (fun c0=>?_) (fun c0=>⟨_,rfl,lW ⟨_,rfl,a,rfl,fa.log,_,rfl,x,d,_,rfl,W.hx,rfl,S,x,d,st,op,past,ops,rfl,W,_,rfl,fl.log,fun y=>⟨(by show 1≤sizeLine;decide),k2 fun iw=>c0 (decide_eq_true iw.1)⟩⟩⟩)⟩
 refine⟨_,rfl,x,d,_,rfl,W.hx,rfl,S,x,d,st,op,past,ops,rfl,W,_,_,rfl,rfl,_,rfl,?_⟩
 by_cases iw:Aq ops.length a
 ·rw[decide_eq_true iw.2]
  exact iL (k1 iw)
 ·rw[decide_eq_false (fun z=>iw ⟨of_decide_eq_true c0,z⟩)]
  exact lW ⟨_,rfl,a,rfl,fa.log,_,rfl,x,d,_,rfl,W.hx,rfl,S,x,d,st,op,past,ops,rfl,W,_,rfl,fl.log,fun y=>⟨(by show 1≤sizeLine;decide),k2 iw⟩⟩
theorem rT{f C XS XM fN:Addr}{fd gN:FuncData}(F:iD K "check_moment" "Shelf.check_moment" cG f fd)(M:RZ K mg C XS XM)(bU:aQ K C "now" "Shelf.now" gS ja fN gN):aB P w K mg base (oJ P w) 2 f fd Kp (Ar C XM):=by
 obtain⟨T,⟨fi,bH⟩,n1,n2,dP,cQ⟩:=M
 have mF:aB P w K mg base bV 1 _ _ ja (Fw C):=rA bU.F T bH.cl n1
 refine F7 F sR (fun vs H Q E h=>?_) (fun cdv A outer s H vs Q E hr h=>?_)
 ·obtain⟨S,x,d,st,op,past,ops,a,rfl,_⟩:=h
  rfl
 obtain⟨S,x,d,st,op,past,ops,a,rfl,W,ok,fa,k1,k2⟩:=h
 obtain⟨as,hs,al⟩:=W.hs
 have la:(as.map V.ref).length=past.length:=by rw[cO,al.len]
 refine⟨_,(ao (cC (mh (zk mT mT aA (pv 1) (cV (pv 0) bH.cl bU.mt mF (hr.mono (by decide)) bU.b .nil dz)))
   (ao (sL PySem.F.excBase_ValueError cQ.x cQ.m rfl zK (aa (vQ (qh (qV (pv 1) (qh (qV (cV (pv 0) bH.cl bU.mt mF (hr.mono (by decide)) bU.b .nil dz) zL))))) ah)))
   bL)),?_⟩
 have fl:qW (((as.map V.ref).length:Int)-1):=⟨by rw[la];have:=ok.1;omega,by rw[la];have:=ok.1;omega⟩
 refine⟨_,rfl,_,_,rfl,rfl,_,rfl,dQ (fun c0=>?_) (fun c0=>⟨_,rfl,lW ⟨_,rfl,a,rfl,fa.log,_,rfl,x,d,_,rfl,W.hx,rfl,x,d,st,op,_,rfl,W.hx,hs,_,rfl,fl.log,fun y=>⟨(by show 1≤sizeLine;decide),k2 fun iw=>c0 (decide_eq_true iw.1)⟩⟩⟩)⟩
 refine⟨_,rfl,x,d,_,rfl,W.hx,rfl,x,d,st,op,_,rfl,W.hx,hs,_,_,rfl,rfl,_,rfl,?_⟩
 by_cases iw:Aq past.length a
 ·rw[decide_eq_true (show a≤((as.map V.ref).length:Int)-1 by rw[la];have:=iw.2;omega)]
  exact iL (k1 iw)
 ·rw[decide_eq_false (show ¬ a≤((as.map V.ref).length:Int)-1 by rw[la];exact fun z=>iw ⟨of_decide_eq_true c0,by omega⟩)]
  exact lW ⟨_,rfl,a,rfl,fa.log,_,rfl,x,d,_,rfl,W.hx,rfl,x,d,st,op,_,rfl,W.hx,hs,_,rfl,fl.log,fun y=>⟨(by show 1≤sizeLine;decide),k2 iw⟩⟩
theorem Sh.at'{C:Addr}{S:Addr→Prop}{H:Hp}{x d st op:Addr}{past:nF}{ops:List Int}(h:Sh C S H x d st op past ops){as:List Addr}(ha:H st=some (.lst (as.map V.ref))){i:Nat}{rows:List (List Item)}(e:past[i]?=some rows):∃ a,as[i]?=some a∧Hs S H st op a rows:=by
 obtain⟨bs,hb,a2⟩:=h.hs
 have e':as=bs:=by
  rw[ha]at hb
  exact Ak (HO.lst.inj (sr hb))
 subst e'
 exact a2.get' e
theorem Sh.Pj{C:Addr}{S:Addr→Prop}{H:Hp}{x d st op:Addr}{past:nF}{ops:List Int}(h:Sh C S H x d st op past ops):∃ last,past.getLast?=some last∧past[past.length-1]?=some last∧ops.length=last.length:=by
 obtain⟨last,hl,ol⟩:=h.MS.Cs
 refine⟨last,hl,?_,ol⟩
 rw[List.getLast?_eq_getElem?]at hl
 exact hl
theorem Ds{f C XS XM fM fs:Addr}{fd gM gs:FuncData}(F:iD K "row" "Shelf.row" mw f fd)(M:RZ K mg C XS XM)(cP:aQ K C "many" "Shelf.many" iF ja fM gM)(aN:aQ K C "check_sheet" "Shelf.check_sheet" dD wI fs gs):aB P w K mg base (oJ P w) 3 f fd wI (Ms C XS):=by
 have cN:aB P w K mg base (oJ P w) 2 _ _ wI (qH C XS):=gB aN.F M cP
 obtain⟨T,⟨fi,bH⟩,n1,n2,dP,cQ⟩:=M
 refine F7 F Fz (fun vs H Q E h=>?_) (fun cdv A outer s H vs Q E hr h=>?_)
 ·obtain⟨S,x,d,st,op,past,ops,a,rfl,_⟩:=h
  rfl
 obtain⟨S,x,d,st,op,past,ops,a,rfl,W,ok,fa,k1,k2⟩:=h
 refine⟨_,(ak (bw (cI (pv 0) bH.cl aN.mt cN (hr.mono (by decide)) aN.b .nil lZ (aa (pv 1) ah)))
   (ao (aR (eV iK rfl T.lG vD (aa (bq bf (bq bf (ff (pv 0) rfl) (kT iJ aA) (fun _ _=>rfl)) (pv 1) (fun _ _=>rfl)) ah))))),?_⟩
 refine⟨_,rfl,x,d,_,rfl,W.hx,rfl,_,rfl,S,x,d,st,op,past,ops,a,rfl,W,ok,fa,fun ia=>?_,k2⟩
 obtain⟨j,rfl,jl⟩:=ia.get
 obtain⟨as,hs,al⟩:=id W.hs
 obtain⟨as',b,ea,r⟩:=W.last hs
 obtain⟨last,hl,_,ol⟩:=W.Pj
 obtain⟨_,_,_,rs,hb,ar⟩:=r last hl
 have el:last[j]?=some last[j]:=qM (by omega)
 obtain⟨ri,eri,rw'⟩:=ar.get' el
 obtain⟨c,vs,ec,hc,it⟩:=rw'.at'
 cases ec
 refine⟨_,rfl,x,C,d,_,.ref st,rfl,W.hx,bH.cl,n1,rfl,_,rfl,st,_,_,.ref b,rfl,rfl,bF.of hs,(by rw[ea,nu];exact fH _ _),_,rfl,b,_,_,.ref ri,rfl,rfl,bF.of hb,eL (by rw[kM,eri];rfl),ri,_,rfl,.inl (bF.of hc),fun q hq=>?_⟩
 exact k1 j last _ rfl hl el q _ ⟨q,vs,rfl,af,it.mono fun v i z=>z.same (aj hq _)⟩ (aj hq _) hq
theorem vm{f C XS XM fN fm:Addr}{fd gN gm:FuncData}(F:iD K "rows_then" "Shelf.rows_then" dF f fd)(M:RZ K mg C XS XM)(bU:aQ K C "now" "Shelf.now" gS ja fN gN)(cH:aQ K C "check_moment" "Shelf.check_moment" cG Kp fm gm):aB P w K mg base (oJ P w) 3 f fd Kp (vh C XM):=by
 have t9:aB P w K mg base (oJ P w) 2 _ _ Kp (Ar C XM):=rT cH.F M bU
 obtain⟨T,⟨fi,bH⟩,n1,n2,dP,cQ⟩:=M
 refine F7 F wA (fun vs H Q E h=>?_) (fun cdv A outer s H vs Q E hr h=>?_)
 ·obtain⟨S,x,d,st,op,past,ops,m,rfl,_⟩:=h
  rfl
 obtain⟨S,x,d,st,op,past,ops,m,rfl,W,ok,fm,k1,k2⟩:=h
 obtain⟨as,hs,al⟩:=id W.hs
 refine⟨_,(ak (bw (cI (pv 0) bH.cl cH.mt t9 (hr.mono (by decide)) cH.b .nil lZ (aa (pv 1) ah)))
   (ao (aR (qB (N:=["items"]) (yh (sc:=az dF) (NX:=["self","moment"]) (jx:=[none]) rfl rfl rfl (by decide +kernel) (by decide +kernel) rfl (by decide +kernel) rfl (by decide +kernel)) rfl (cU (bq bf (ff (pv 0) rfl) (pv 1) (fun _ _=>rfl))) (fun _ _ _ _ _ _=>(aY (i:=0) (show List.Nodup (["items"]:List Str) by decide +kernel) rfl (Or.inl rfl))) (fun _ _ _ _ _ _=>mQ) (fun _ _ _ _ _ _=>(eV GV rfl T.lG vD (aa (pv 0) ah))))))),?_⟩
 refine⟨_,rfl,x,d,_,rfl,W.hx,rfl,_,rfl,S,x,d,st,op,past,ops,m,rfl,W,ok,fm,fun im=>?_,k2⟩
 obtain⟨i,rfl,il⟩:=im.get
 have er:past[i]?=some past[i]:=qM il
 generalize past[i]=rows at er
 obtain⟨b,eb,_,_,_,rs,hb,ar⟩:=W.at' hs er
 have lr:=ar.len
 have lo:=W.MS.less i rows er
 have ok2:=ok.2
 refine⟨_,rfl,x,C,d,_,.ref st,rfl,W.hx,bH.cl,n1,rfl,_,rfl,st,_,_,.ref b,rfl,rfl,bF.of hs,eL (by rw[kM,eb];rfl),?_⟩
 refine⟨b,rfl,⟨_,bF.of hb⟩,fun acc hacc=>oO (K:=K) (a:=b) (xs:=rs.map V.ref) (fun j σ H1=>∃ (u:Option V) (qs:List Addr),σ=[u]∧H1 acc=some (.lst (qs.map V.ref))∧aF H H1∧bK (fun r its=>H r=none∧r≠acc∧br H1 (.ref r) its) qs (rows.take j)) ⟨none,[],rfl,af,aj hacc _,by rw[List.take_zero];exact .nil⟩ (fun j σ H1 _ ⟨_,_,_,_,s,_⟩=>bF.of (s _ _ hb)) ?_ ?_⟩
 ·rintro j y σ H1 hj ⟨u,qs,rfl,ha,s1,aq⟩
  rw[kM]at hj
  obtain⟨ri,eri,rfl⟩:=Option.map_eq_some_iff.mp hj
  obtain⟨its,aev,rw'⟩:=ar.get eri
  obtain⟨c,vs,ec,hc,it⟩:=rw'.at'
  cases ec
  refine⟨_,rfl,ri,_,rfl,.inl (bF.of (s1 _ _ hc)),fun z hz=>⟨_,aj hz _ _ _ ha,?_,_,qs++[z],rfl,?_,?_,?_⟩⟩
  ·have:=aq.len
   rw[kK]at this
   rw[cO]
   exact aM (by omega)
  ·rw[af,nu]
   rfl
  ·intro q ob e
   rw[aC (au e hacc)]
   exact aj hz _ _ _ (s1 _ _ e)
  ·have nza:z≠acc:=(au ha hz).symm
   have fr:∀ q ob,H1 q=some ob→q≠acc→(upd (upd H1 z (.lst vs)) acc (.lst (qs.map V.ref++[.ref z]))) q=some ob:=fun q ob e n=>by
    rw[aC n]
    exact aj hz _ _ _ e
   have tu:∀ q xs,H1 q=some (.tup xs)→(upd (upd H1 z (.lst vs)) acc (.lst (qs.map V.ref++[.ref z]))) q=some (.tup xs):=fun q xs e=>fr _ _ e (cT e ha (by intro w;cases w))
   rw[take_snoc aev]
   refine bK.snoc (aq.mono fun r its ⟨h1,h2,h3⟩=>⟨h1,h2,h3.fr (fun xs e=>fr _ _ e h2) tu⟩) ⟨aS s1 hz,nza,z,vs,rfl,?_,it.mono fun v i ⟨q,e,hq⟩=>⟨q,e,tu _ _ (s1 _ _ hq)⟩⟩
   rw[aC nza]
   exact af
 ·rintro σ H1 ⟨u,qs,rfl,ha,s1,aq⟩
  rw[cO,lr,kO]at aq
  exact k1 i rows rfl er acc H1 ⟨hacc,qs,ha,aq⟩ s1
theorem jZ{f C XS XM fN fm fr:Addr}{fd gN gm gr:FuncData}(F:iD K "rows" "Shelf.rows" mX f fd)(M:RZ K mg C XS XM)(bU:aQ K C "now" "Shelf.now" gS ja fN gN)(cH:aQ K C "check_moment" "Shelf.check_moment" cG Kp fm gm)(iA:aQ K C "rows_then" "Shelf.rows_then" dF Kp fr gr):aB P w K mg base bV 4 f fd ja (vj C):=by
 have xF:aB P w K mg base (oJ P w) 3 _ _ Kp (vh C XM):=vm iA.F M bU cH
 obtain⟨T,⟨fi,bH⟩,n1,n2,dP,cQ⟩:=M
 have mF:aB P w K mg base bV 1 _ _ ja (Fw C):=rA bU.F T bH.cl n1
 refine F.ok Dr (fun vs H Q E h=>?_) (fun cdv A outer s H vs Q E hr h=>?_)
 ·obtain⟨S,x,d,st,op,past,ops,rfl,_⟩:=h
  rfl
 obtain⟨S,x,d,st,op,past,ops,rfl,W,ok,k⟩:=h
 obtain⟨as,hs,al⟩:=id W.hs
 obtain⟨last,hl,hl2,_⟩:=W.Pj
 have lp:past.length-1<past.length:=(List.getElem?_eq_some_iff.mp hl2).1
 have VQ:=ok.1
 have la:(((as.map V.ref).length:Nat):Int)-1=((past.length-1:Nat):Int):=by rw[cO,al.len];omega
 refine⟨_,(ao (aR (cI (pv 0) bH.cl iA.mt xF (hr.mono (by decide)) iA.b .nil zM (aa (cV (pv 0) bH.cl bU.mt mF (hr.mono (by decide)) bU.b .nil dz) ah)))),?_⟩
 refine⟨_,rfl,x,d,_,rfl,W.hx,rfl,_,rfl,x,d,_,rfl,W.hx,rfl,x,d,st,op,_,rfl,W.hx,hs,?_⟩
 rw[la]
 refine⟨S,x,d,st,op,past,ops,_,rfl,W,ok,⟨by omega,by omega⟩,fun mi rows em er q H1 fs s1=>?_,fun nm=>absurd ⟨by omega,by omega⟩ nm⟩
 have:mi=past.length-1:=by omega
 subst this
 rw[hl2]at er
 cases er
 exact k last hl q H1 fs s1
inductive wB(C:Addr)(vs:List V)(H:Hp)(Q:VK)(E:XK):Prop
 | mk (x d:Addr) (_:vs=[.ref x]) (_:H x=some (.ins C d [])) (_: ∀ (fs:List (Str × V)) (H':Hp),H' x=some (.ins C d fs)→cS x H H'→Q .jJ H'):wB C vs H Q E
theorem yC:aG ["self"] ["self"] (az jg):=⟨rfl,rfl,rfl,by decide +kernel,rfl,by decide +kernel,by decide +kernel⟩
theorem yD:aG ["self"] ["self"] (az jh):=⟨rfl,rfl,rfl,by decide +kernel,rfl,by decide +kernel,by decide +kernel⟩
theorem FA{x z:Addr}{H:Hp}{o o':HO}(hz:H z=none):cS x H (upd (upd H z o) x o'):=fun a ob e n=>by
 rw[aC n]
 exact aj hz o a ob e
theorem xG{f C:Addr}{fd:FuncData}(F:iD K "__init__" "Dues.__init__" jh f fd)(cl:Bw K C)(n1:bh K C "sums"):aB P w K mg base bV 1 f fd ja (wB C):=by
 refine F.ok yD (fun vs H Q E h=>?_) (fun cdv A outer s H vs Q E hr h=>?_)
 ·obtain⟨x,d,rfl,_⟩:=h
  rfl
 obtain⟨x,d,rfl,hx,k⟩:=h
 refine⟨_,(ao (j9 (pv 0) oN rfl)),?_⟩
 intro z hz
 exact⟨_,rfl,x,C,d,_,rfl,aj hz _ _ _ hx,cl,n1,by decide,k _ _ af (FA hz)⟩
theorem xH{f C:Addr}{fd:FuncData}(F:iD K "__init__" "Ties.__init__" jg f fd)(cl:Bw K C)(n1:bh K C "given")(n2:bh K C "pairs"):aB P w K mg base bV 1 f fd ja (wB C):=by
 refine F.ok yC (fun vs H Q E h=>?_) (fun cdv A outer s H vs Q E hr h=>?_)
 ·obtain⟨x,d,rfl,_⟩:=h
  rfl
 obtain⟨x,d,rfl,hx,k⟩:=h
 refine⟨_,(ak (j9 (pv 0) aA rfl)
   (ao (j9 (pv 0) oN rfl))),?_⟩
 refine⟨_,rfl,x,C,d,_,rfl,hx,cl,n1,by decide,?_⟩
 have k1:cS x H (upd H x (.ins C d (L2.dh "given" (.int 0) []))):=aJ x _ _
 have h1:(upd H x (.ins C d (L2.dh "given" (.int 0) []))) x=some (.ins C d (L2.dh "given" (.int 0) [])):=af
 generalize upd H x (.ins C d (L2.dh "given" (.int 0) []))=H1 at k1 h1
 intro z hz
 exact⟨_,rfl,x,C,d,_,rfl,aj hz _ _ _ h1,cl,n2,(by show 1<1000;decide),k _ _ af (k1.trans (FA hz))⟩
def MT(aH:lR):List V:=aH.map fun p=>E6 p.2
def hds(aH:lR):List V:=aH.map fun p=>V.int p.1
def rV(h:Int)(cs:List Nat):lR:=cs.map fun c=>(h,c)
theorem tV(h:Int)(cs:List Nat):(rV h cs).length=cs.length:=cO ..
theorem Oo(aH:lR)(h:Int)(cs:List Nat):MT (aH++rV h cs)=MT aH++cs.map E6:=by
 unfold MT rV
 rw[nu,List.map_map]
 rfl
theorem Dt(v:V):∀ n:Nat,(List.replicate n [v]).flatten=List.replicate n v
 | 0=>rfl
 | n+1=>by rw[List.replicate_succ,List.flatten_cons,Dt v n,List.replicate_succ];rfl
theorem Oq(aH:lR)(h:Int)(cs:List Nat):hds (aH++rV h cs)=hds aH++(List.replicate cs.length [V.int h]).flatten:=by
 rw[Dt]
 unfold hds rV
 rw[nu,List.map_map]
 congr 1
 exact List.map_eq_replicate_iff.mpr fun c _=>rfl
def vn(h:Int):Nat→lR→List Int
 | _,[]=>[]
 | i,p::r=>if p.1=h then (i:Int)::vn h (i+1) r else vn h (i+1) r
theorem o7(h:Int):∀ (a b:lR) (i:Nat),vn h i (a++b)=vn h i a++vn h (i+a.length) b
 | [],b,i=>rfl
 | p::a,b,i=>by
  rw[List.cons_append,vn,vn,ny,o7 h a b (i+1),show i+1+a.length=i+(a.length+1) by omega]
  split <;> rfl
theorem xJ(h:Int):∀ (cs:List Nat) (i:Nat),vn h i (rV h cs)=run (i:Int) cs.length
 | [],i=>rfl
 | c::cs,i=>by
  show vn h i ((h,c)::rV h cs)=_
  rw[vn,if_pos rfl,xJ h cs (i+1),ny,run,show ((i+1:Nat):Int)=(i:Int)+1 by omega]
theorem pA{h g:Int}(n:g≠h):∀ (cs:List Nat) (i:Nat),vn h i (rV g cs)=[]
 | [],i=>rfl
 | c::cs,i=>by
  show vn h i ((g,c)::rV g cs)=_
  rw[vn,if_neg n,pA n cs (i+1)]
theorem As(a b:Int)(k:Nat)(e:b=a+k):bx [(a,b)]=run a k:=by
 show span (a,b)++[]=_
 rw[nA]
 show run a (b-a).toNat=_
 rw[show (b-a).toNat=k by omega]
structure Pw(S:Addr→Prop)(H:Hp)(s o:Addr)(n:Nat)(kvs:List (Key × V))(aH:lR):Prop where
 got:∀ h v,cj kvs (Sum.inl h)=some v→∃ (l:Addr) (row:Row),v=.ref l∧S l∧l≠s∧l≠o∧bX H l row∧(∀ p∈row,p.1≤p.2)∧bx row=vn h 0 aH∧row.length≤n
 jJ:∀ h,cj kvs (Sum.inl h)=none→vn h 0 aH=[]
 one:∀ h g v,cj kvs (Sum.inl h)=some v→cj kvs (Sum.inl g)=some v→h=g
 len:kvs.length≤n
structure We(C:Addr)(S:Addr→Prop)(H:Hp)(x d s o p:Addr)(n:Nat)(aH:lR):Prop where
 sx:S x
 ss:S s
 so:S o
 sp:S p
 al:∀ a,S a→∃ ob,H a=some ob
 hx:H x=some (.ins C d [("signs",.ref s),("owners",.ref o),("pourings",.ref p)])
 hs:H s=some (.lst (MT aH))
 ho:H o=some (.lst (hds aH))
 ne:s≠o
 dk:∃ kvs,H p=some (.dK kvs)∧Pw S H s o n kvs aH
theorem bX.two{H H':Hp}{r:Addr}{row:Row}(h:bX H r row)(k:∀ xs,H r=some (.lst xs)→H' r=some (.lst xs))(t:∀ a xs,H a=some (.tup xs)→H' a=some (.tup xs)):bX H' r row:=by
 obtain⟨as,h1,h2⟩:=h
 exact⟨as,k _ h1,h2.tups t⟩
theorem We.fr{C:Addr}{S:Addr→Prop}{H H':Hp}{x d s o p:Addr}{n:Nat}{aH:lR}(h:We C S H x d s o p n aH)(k:∀ a ob,H a=some ob→S a→H' a=some ob)(t:∀ a xs,H a=some (.tup xs)→H' a=some (.tup xs)):We C S H' x d s o p n aH:=by
 obtain⟨sx,ss,so,sp,al,hx,hs,ho,ne,kvs,hp,pw⟩:=h
 refine⟨sx,ss,so,sp,fun a z=>?_,k _ _ hx sx,k _ _ hs ss,k _ _ ho so,ne,kvs,k _ _ hp sp,fun h v e=>?_,pw.jJ,pw.one,pw.len⟩
 ·obtain⟨ob,e⟩:=al a z
  exact⟨ob,k _ _ e z⟩
 ·obtain⟨l,row,e1,e2,e3,e4,e5,r⟩:=pw.got h v e
  exact⟨l,row,e1,e2,e3,e4,e5.two (fun xs q=>k _ _ q e2) t,r⟩
theorem We.same{C:Addr}{S:Addr→Prop}{H H':Hp}{x d s o p:Addr}{n:Nat}{aH:lR}(h:We C S H x d s o p n aH)(k:aF H H'):We C S H' x d s o p n aH:=h.fr (fun a ob e _=>k a ob e) (fun a xs e=>k _ _ e)
theorem IL(aH:lR):(MT aH).length=aH.length:=cO ..
theorem Ot(aH:lR):(hds aH).length=aH.length:=cO ..
theorem Mt{H:Hp}{a:Addr}{ob:HO}(h:H a=some ob):upd H a ob=H:=by
 funext b
 by_cases e:b=a
 ·rw[e,af,h]
 ·rw[aC e]
inductive Du(C:Addr)(vs:List V)(H:Hp)(Q:VK)(E:XK):Prop
 | mk (x d:Addr) (_:vs=[.ref x]) (_:H x=some (.ins C d [])) (_: ∀ (s o p:Addr) (H':Hp),We C (fun a=>a=x∨a=s∨a=o∨a=p) H' x d s o p 0 []→cS x H H'→H s=none→H o=none→H p=none→Q .jJ H'):Du C vs H Q E
inductive wC(C:Addr)(vs:List V)(H:Hp)(Q:VK)(E:XK):Prop
 | mk (x d s o p:Addr) (aH:lR) (_:vs=[.ref x]) (_:H x=some (.ins C d [("signs",.ref s),("owners",.ref o),("pourings",.ref p)])) (_:H s=some (.lst (MT aH))) (_:Q (.int (aH.length:Nat)) H):wC C vs H Q E
inductive Hv(C:Addr)(vs:List V)(H:Hp)(Q:VK)(E:XK):Prop
 | mk (S:Addr→Prop) (x d s o p:Addr) (n:Nat) (aH:lR) (h:Int) (cs:List Nat) (_:vs=[.ref x,.int h,.str (txt cs)]) (_:We C S H x d s o p n aH) (_:aH.length+cs.length≤100000) (_:n≤1000) (_ :
 ∀ (S':Addr→Prop) (q:Addr) (H':Hp),We C S' H' x d s o p (n+1) (aH++rV h cs)→H' q=some (.tup [.int (aH.length:Nat),.int ((aH++rV h cs).length:Nat)])→(∀ a,S' a→S a∨H a=none)→(∀ a ob,H a=some ob→¬ S a→H' a=some ob)→(∀ a xs,H a=some (.tup xs)→H' a=some (.tup xs))→Q (.ref q) H'):Hv C vs H Q E
theorem yE:aG ["self"] ["self"] (az ji):=⟨rfl,rfl,rfl,by decide +kernel,rfl,by decide +kernel,by decide +kernel⟩
theorem FD:aG ["self"] ["self"] (az kg):=⟨rfl,rfl,rfl,by decide +kernel,rfl,by decide +kernel,by decide +kernel⟩
theorem sS:aG ["self","hand","text","start","stretch"] ["self","hand","text"] (az oA):=⟨rfl,rfl,rfl,by decide +kernel,rfl,by decide +kernel,by decide +kernel⟩
theorem xK{f C:Addr}{fd:FuncData}(F:iD K "__init__" "Well.__init__" ji f fd)(cl:Bw K C)(n1:bh K C "signs")(n2:bh K C "owners")(n3:bh K C "pourings"):aB P w K mg base bV 1 f fd ja (Du C):=by
 refine F.ok yE (fun vs H Q E h=>?_) (fun cdv A outer s H vs Q E hr h=>?_)
 ·obtain⟨x,d,rfl,_⟩:=h
  rfl
 obtain⟨x,d,rfl,hx,k⟩:=h
 refine⟨_,(ak (j9 (pv 0) (bJ ah) rfl)
   (ak (j9 (pv 0) (bJ ah) rfl)
   (ao (j9 (pv 0) oN rfl)))),?_⟩
 refine⟨(by show 0≤sizeLine;decide),fun s hs=>?_⟩
 have a1:aF H (upd H s (.lst [])):=aj hs _
 have b1:(upd H s (.lst [])) s=some (.lst []):=af
 generalize upd H s (.lst [])=H1 at a1 b1
 refine⟨_,rfl,x,C,d,_,rfl,a1 _ _ hx,cl,n1,by decide,?_⟩
 have k2:cS x H1 (upd H1 x (.ins C d (L2.dh "signs" (.ref s) []))):=aJ x _ _
 have h2:(upd H1 x (.ins C d (L2.dh "signs" (.ref s) []))) x=some (.ins C d [("signs",.ref s)]):=af
 generalize upd H1 x (.ins C d (L2.dh "signs" (.ref s) []))=H2 at k2 h2
 have Rh:s≠x:=(au hx hs).symm
 have b2:=k2 _ _ b1 Rh
 refine⟨(by show 0≤sizeLine;decide),fun o ho=>?_⟩
 have a3:aF H2 (upd H2 o (.lst [])):=aj ho _
 have c3:(upd H2 o (.lst [])) o=some (.lst []):=af
 generalize upd H2 o (.lst [])=H3 at a3 c3
 refine⟨_,rfl,x,C,d,_,rfl,a3 _ _ h2,cl,n2,(by show 1<1000;decide),?_⟩
 have k4:cS x H3 (upd H3 x (.ins C d (L2.dh "owners" (.ref o) [("signs",.ref s)]))):=aJ x _ _
 have h4:(upd H3 x (.ins C d (L2.dh "owners" (.ref o) [("signs",.ref s)]))) x=some (.ins C d [("signs",.ref s),("owners",.ref o)]):=af
 generalize upd H3 x (.ins C d (L2.dh "owners" (.ref o) [("signs",.ref s)]))=H4 at k4 h4
 have Kf:o≠x:=(au h2 ho).symm
 have c4:=k4 _ _ c3 Kf
 have b4:=k4 _ _ (a3 _ _ b2) Rh
 intro p hp
 have Wb:p≠x:=(au h4 hp).symm
 refine⟨_,rfl,x,C,d,_,rfl,aj hp _ _ _ h4,cl,n3,(by show 2<1000;decide),?_⟩
 have k5:cS x H (upd (upd H4 p (.dK [])) x (.ins C d (L2.dh "pourings" (.ref p) [("signs",.ref s),("owners",.ref o)]))):=fun a ob e n=>by
  rw[aC n]
  exact aj hp _ _ _ (k4 _ _ (a3 _ _ (k2 _ _ (a1 _ _ e) n)) n)
 refine k s o p _ ⟨.inl rfl,.inr (.inl rfl),.inr (.inr (.inl rfl)),.inr (.inr (.inr rfl)),fun a z=>?_,af,?_,?_,au b2 ho,[],?_,?_⟩ k5 hs ?_ ?_
 ·rcases z with rfl|rfl|rfl|rfl
  ·exact⟨_,af⟩
  ·exact⟨_,by rw[aC Rh];exact aj hp _ _ _ b4⟩
  ·exact⟨_,by rw[aC Kf];exact aj hp _ _ _ c4⟩
  ·exact⟨_,by rw[aC Wb];exact af⟩
 ·rw[aC Rh];exact aj hp _ _ _ b4
 ·rw[aC Kf];exact aj hp _ _ _ c4
 ·rw[aC Wb];exact af
 ·exact⟨fun h v e=>(by cases e),fun h e=>rfl,fun h g v e=>(by cases e),iC _⟩
 ·exact aS a1 (jL k2 Kf ho)
 ·exact aS a1 (jL k2 Wb (aS a3 (jL k4 Wb hp)))
theorem rC{f C:Addr}{fd:FuncData}(F:iD K "size" "Well.size" kg f fd)(T:pG mg)(cl:Bw K C)(n1:bh K C "signs"):aB P w K mg base bV 1 f fd ja (wC C):=by
 refine F.ok FD (fun vs H Q E h=>?_) (fun cdv A outer s H vs Q E hr h=>?_)
 ·obtain⟨x,d,s,o,p,aH,rfl,_⟩:=h
  rfl
 obtain⟨x,d,s,o,p,aH,rfl,hx,hs,k⟩:=h
 refine⟨_,(ao (aR (aV aX rfl T.ic lT (aa (ff (pv 0) rfl) ah)))),?_⟩
 refine⟨_,rfl,x,C,d,_,.ref s,rfl,hx,cl,n1,rfl,s,_,rfl,.inl (bF.of hs),?_⟩
 rw[IL]
 exact k
theorem Dv{f C fs fi:Addr}{fd gs:FuncData}(F:iD K "pour" "Well.pour" oA f fd)(T:pG mg)(iH:ClsAt K mg "Well" C fi)(n1:bh K C "signs")(n2:bh K C "owners")(n3:bh K C "pourings")(cD:aQ K C "size" "Well.size" kg ja fs gs):aB P w K mg base bV 2 f fd M5 (Hv C):=by
 have mG:aB P w K mg base bV 1 fs gs ja (wC C):=rC cD.F T iH.cl n1
 refine F.ok sS (fun vs H Q E h=>?_) (fun cdv A outer s H vs Q E hr h=>?_)
 ·obtain⟨S,x,d,s,o,p,n,aH,h,cs,rfl,_⟩:=h
  rfl
 obtain⟨S,x,d,s,o,p,n,aH,h,cs,rfl,W,len,nn,k⟩:=h
 have hu:=lY hr
 refine⟨_,(ak (aU (i:=3) sS.nd rfl (Or.inl rfl) (cV (pv 0) iH.cl cD.mt mG (hr.mono (by decide)) cD.b .nil dz))
   (ak (wV (pv 0) (eV (Bb rfl) rfl T.lG vD (aa (pv 2) ah)) GW)
   (ak (wV (pv 0) (bz K9 (bJ (aa (pv 1) ah)) (aV vL rfl T.ic lT (aa (pv 2) ah))) GW)
   (ak (aU (i:=4) sS.nd rfl (Or.inl rfl) (eK (aa (pv 3) (aa (cV (pv 0) iH.cl cD.mt mG (hr.mono (by decide)) cD.b .nil dz) ah))))
   (ak (bw (je qd r9 sf cA (LN (ff (pv 0) rfl) (pv 1) (bJ ah) ⟨rfl,rfl,rfl,rfl⟩) (aa (pv 4) ah)))
   (ao (aR (pv 4)))))))),?_⟩
 refine⟨_,rfl,x,d,_,rfl,W.hx,rfl,x,d,s,o,p,aH,rfl,W.hx,W.hs,?_⟩
 obtain⟨sx,ss,so,sp,al,hx,hs,ho,ne,kvs,hp,pw⟩:=id W
 have V0:x≠s:=cT hx hs (by intro z;cases z)
 have nxo:x≠o:=cT hx ho (by intro z;cases z)
 have nxp:x≠p:=cT hx hp (by intro z;cases z)
 have Wc:p≠s:=cT hp hs (by intro z;cases z)
 have npo:p≠o:=cT hp ho (by intro z;cases z)
 refine⟨_,rfl,x,C,d,_,.ref s,rfl,hx,iH.cl,n1,rfl,_,rfl,cs,rfl,jI (aM (by omega)),fun t ht=>?_⟩
 have a1:aF H (upd H t (.lst (cs.map E6))):=aj ht _
 have b1:(upd H t (.lst (cs.map E6))) t=some (.lst (cs.map E6)):=af
 generalize upd H t (.lst (cs.map E6))=H1 at a1 b1
 refine⟨s,t,_,_,rfl,rfl,a1 _ _ hs,b1,(by rw[IL,cO];exact jI (aM (by omega))),?_⟩
 rw[← Oo aH h cs]
 have k2:cS s H1 (upd H1 s (.lst (MT (aH++rV h cs)))):=aJ s _ _
 have s2:(upd H1 s (.lst (MT (aH++rV h cs)))) s=some (.lst (MT (aH++rV h cs))):=af
 generalize upd H1 s (.lst (MT (aH++rV h cs)))=H2 at k2 s2
 have k02:cS s H H2:=fun a ob e m=>k2 _ _ (a1 _ _ e) m
 have x2:=k02 _ _ hx V0
 refine⟨d,_,x2,(by show 3<1000;decide),?_⟩
 have e3:upd H2 x (.ins C d (L2.dh "signs" (.ref s) ([("signs",.ref s),("owners",.ref o),("pourings",.ref p)]:List (Str × V))))=H2:=Mt x2
 rw[e3]
 refine⟨_,rfl,x,C,d,_,.ref o,rfl,x2,iH.cl,n2,rfl,_,rfl,(by show 1≤sizeLine;decide),fun t2 JE=>?_⟩
 have a3:aF H2 (upd H2 t2 (.lst [.int h])):=aj JE _
 have b3:(upd H2 t2 (.lst [.int h])) t2=some (.lst [.int h]):=af
 generalize upd H2 t2 (.lst [.int h])=H3 at a3 b3
 refine⟨_,rfl,txt cs,rfl,(by rw[qX];exact jI (aM (by omega))),?_⟩
 rw[qX]
 refine⟨t2,_,_,rfl,rfl,b3,by omega,by omega,(by simp only[vA];exact jI (aM (by omega))),fun t3 RY=>?_⟩
 rw[Int.toNat_natCast]
 have a4:aF H3 (upd H3 t3 (.lst (List.replicate cs.length [V.int h]).flatten)):=aj RY _
 have b4:(upd H3 t3 (.lst (List.replicate cs.length [V.int h]).flatten)) t3=some (.lst (List.replicate cs.length [V.int h]).flatten):=af
 generalize upd H3 t3 (.lst (List.replicate cs.length [V.int h]).flatten)=H4 at a4 b4
 have Pk:cS s H H4:=fun a ob e m=>a4 _ _ (a3 _ _ (k02 _ _ e m))
 refine⟨o,t3,_,_,rfl,rfl,Pk _ _ ho ne.symm,b4,(by rw[Ot,Dt,yy];exact jI (aM (by omega))),?_⟩
 rw[← Oq aH h cs]
 have k5:cS o H4 (upd H4 o (.lst (hds (aH++rV h cs)))):=aJ o _ _
 have o5:(upd H4 o (.lst (hds (aH++rV h cs)))) o=some (.lst (hds (aH++rV h cs))):=af
 generalize upd H4 o (.lst (hds (aH++rV h cs)))=H5 at k5 o5
 have Ux:∀ a ob,H a=some ob→a≠s→a≠o→H5 a=some ob:=fun a ob e m m2=>k5 _ _ (Pk _ _ e m) m2
 have x5:=Ux _ _ hx V0 nxo
 have s5:=k5 _ _ (a4 _ _ (a3 _ _ s2)) ne
 refine⟨d,_,x5,(by show 3<1000;decide),?_⟩
 have e5:upd H5 x (.ins C d (L2.dh "owners" (.ref o) ([("signs",.ref s),("owners",.ref o),("pourings",.ref p)]:List (Str × V))))=H5:=Mt x5
 rw[e5]
 have SH:∀ q,H5 q=none→H q=none:=fun q hq=>by
  cases e:H q with
  | none=>rfl
  | some ob =>
   by_cases z1:q=s
   ·rw[z1,s5]at hq;cases hq
   by_cases z2:q=o
   ·rw[z2,o5]at hq;cases hq
   rw[Ux _ _ e z1 z2]at hq
   cases hq
 refine⟨_,rfl,_,rfl,x,d,_,rfl,x5,rfl,x,d,s,o,p,_,rfl,x5,s5,?_⟩
 refine⟨(by show 2≤sizeLine;decide),fun q hq=>?_⟩
 have a6:aF H5 (upd H5 q (.tup [.int (aH.length:Nat),.int ((aH++rV h cs).length:Nat)])):=aj hq _
 have b6:(upd H5 q (.tup [.int (aH.length:Nat),.int ((aH++rV h cs).length:Nat)])) q=some (.tup [.int (aH.length:Nat),.int ((aH++rV h cs).length:Nat)]):=af
 generalize upd H5 q (.tup [.int (aH.length:Nat),.int ((aH++rV h cs).length:Nat)])=H6 at a6 b6
 have p6:=a6 _ _ (Ux _ _ hp Wc npo)
 have F6:∀ q,H6 q=none→H q=none:=fun q hq=>SH q (aS a6 hq)
 refine⟨_,rfl,x,C,d,_,.ref p,rfl,a6 _ _ x5,iH.cl,n3,rfl,p,rfl,.inl ⟨_,.inl p6⟩,_,rfl,(by show 0≤sizeLine;decide),fun z hz=>?_⟩
 have a7:aF H6 (upd H6 z (.lst [])):=aj hz _
 have b7:(upd H6 z (.lst [])) z=some (.lst []):=af
 generalize upd H6 z (.lst [])=H7 at a7 b7
 have lp:=pw.len
 refine⟨kvs,Sum.inl h,a7 _ _ p6,rfl,aM (by omega),fun v hv=>?_,fun hv=>?_⟩
 ·obtain⟨l,row,rfl,Sl,ls,lo,⟨as,hl,pa⟩,ok,sp1,rl⟩:=pw.got h v hv
  have Uy:∀ a ob,H a=some ob→a≠s→a≠o→H7 a=some ob:=fun a ob e m m2=>a7 _ _ (a6 _ _ (Ux _ _ e m m2))
  have l7:=Uy _ _ hl ls lo
  have nxl:x≠l:=cT hx hl (by intro z;cases z)
  have npl:p≠l:=cT hp hl (by intro z;cases z)
  have la:=pa.len
  refine⟨.inl ⟨rfl,_,bF.of l7⟩,_,rfl,l,_,_,rfl,rfl,l7,(by rw[cO];exact aM (by omega)),?_⟩
  have k8:cS l H7 (upd H7 l (.lst (as.map V.ref++[.ref q]))):=aJ l _ _
  have l8:(upd H7 l (.lst (as.map V.ref++[.ref q]))) l=some (.lst (as.map V.ref++[.ref q])):=af
  generalize upd H7 l (.lst (as.map V.ref++[.ref q]))=H8 at k8 l8
  have t07:∀ a xs,H a=some (.tup xs)→H7 a=some (.tup xs):=fun a xs e=>Uy _ _ e (cT e hs (by intro z;cases z)) (cT e ho (by intro z;cases z))
  have Rj:∀ a xs,H7 a=some (.tup xs)→H8 a=some (.tup xs):=fun a xs e=>k8 _ _ e (cT e l7 (by intro z;cases z))
  have s8:=k8 _ _ (a7 _ _ (a6 _ _ s5)) ls.symm
  have o8:=k8 _ _ (a7 _ _ (a6 _ _ o5)) lo.symm
  refine⟨_,rfl,k S q H8 ⟨sx,ss,so,sp,fun a z=>?_,k8 _ _ (a7 _ _ (a6 _ _ x5)) nxl,s8,o8,ne,kvs,k8 _ _ (a7 _ _ p6) npl,fun g v e=>?_,fun g e=>?_,pw.one,by omega⟩ (Rj _ _ (a7 _ _ b6)) (fun a z=>.inl z) (fun a ob e m=>?_) (fun a xs e=>Rj _ _ (t07 _ _ e))⟩
  ·by_cases z1:a=s
   ·rw[z1];exact⟨_,s8⟩
   by_cases z2:a=o
   ·rw[z2];exact⟨_,o8⟩
   by_cases z3:a=l
   ·rw[z3];exact⟨_,l8⟩
   obtain⟨ob,e⟩:=al a z
   exact⟨ob,k8 _ _ (Uy _ _ e z1 z2) z3⟩
  ·by_cases c:g=h
   ·subst c
    rw[hv]at e
    cases e
    refine⟨l,row++([(((aH.length:Nat):Int),(((aH++rV g cs).length:Nat):Int))]:Row),rfl,Sl,ls,lo,⟨as++[q],by rw[nu];exact l8,?_⟩,?_,?_,?_⟩
    ·exact bu.append (pa.tups fun a xs e=>Rj _ _ (t07 _ _ e)) (.cons (b:=(((aH.length:Nat):Int),(((aH++rV g cs).length:Nat):Int))) (Rj _ _ (a7 _ _ b6)) .nil)
    ·intro r hr
     rcases List.mem_append.mp hr with z|z
     ·exact ok r z
     ·rw[List.mem_singleton.mp z]
      show ((aH.length:Nat):Int)≤((aH++rV g cs).length:Nat)
      rw[eG]
      omega
    ·rw[cF,sp1,o7,xJ,Nat.zero_add]
     congr 1
     refine As _ _ _ ?_
     rw[eG,tV]
     omega
    ·rw[eG]
     simp only[vA]
     omega
   ·obtain⟨l',Ou,e1,e2,e3,e4,e5,e6,e7,e8⟩:=pw.got g v e
    subst e1
    have nl:l'≠l:=fun z=>c (pw.one g h _ e (by rw[z];exact hv))
    refine⟨l',Ou,rfl,e2,e3,e4,e5.two (fun xs q=>k8 _ _ (Uy _ _ q e3 e4) nl) (fun a xs e=>Rj _ _ (t07 _ _ e)),e6,?_,by omega⟩
    rw[e7,o7,pA (fun z=>c z.symm),nA]
  ·have c:g≠h:=fun z=>by rw[z,hv]at e;cases e
   rw[o7,pw.jJ g e,pA (fun z=>c z.symm),nA]
  ·have z1:a≠s:=fun z=>m (by rw[z];exact ss)
   have z2:a≠o:=fun z=>m (by rw[z];exact so)
   have z3:a≠l:=fun z=>m (by rw[z];exact Sl)
   exact k8 _ _ (Uy _ _ e z1 z2) z3
 ·have fz:H z=none:=F6 z hz
  have p7:=a7 _ _ p6
  have k8:cS p H7 (upd H7 p (.dK (putK kvs (Sum.inl h) (.ref z)))):=aJ p _ _
  have p8:(upd H7 p (.dK (putK kvs (Sum.inl h) (.ref z)))) p=some (.dK (putK kvs (Sum.inl h) (.ref z))):=af
  generalize upd H7 p (.dK (putK kvs (Sum.inl h) (.ref z)))=H8 at k8 p8
  have z8:=k8 _ _ b7 (cT b7 p7 (by intro z;cases z))
  refine⟨.inl ⟨rfl,_,bF.of z8⟩,_,rfl,z,_,_,rfl,rfl,z8,(by show 0<sizeLine;decide),?_⟩
  have k9:cS z H8 (upd H8 z (.lst ([]++[.ref q]))):=aJ z _ _
  have z9:(upd H8 z (.lst ([]++[.ref q]))) z=some (.lst ([]++[.ref q])):=af
  generalize upd H8 z (.lst ([]++[.ref q]))=H9 at k9 z9
  have Uz:∀ a ob,H6 a=some ob→a≠p→H9 a=some ob:=fun a ob e m=>k9 _ _ (k8 _ _ (a7 _ _ e) m) (au e hz)
  have Rk:∀ a ob,H a=some ob→a≠s→a≠o→a≠p→H9 a=some ob:=fun a ob e m m2 m3=>Uz _ _ (a6 _ _ (Ux _ _ e m m2)) m3
  have t69:∀ a xs,H6 a=some (.tup xs)→H9 a=some (.tup xs):=fun a xs e=>Uz _ _ e (cT e p6 (by intro z;cases z))
  have t09:∀ a xs,H a=some (.tup xs)→H9 a=some (.tup xs):=fun a xs e=>Rk _ _ e (cT e hs (by intro z;cases z)) (cT e ho (by intro z;cases z)) (cT e hp (by intro z;cases z))
  have s9:=Uz _ _ (a6 _ _ s5) Wc.symm
  have o9:=Uz _ _ (a6 _ _ o5) npo.symm
  have p9:=k9 _ _ p8 (cT p7 b7 (by intro z;cases z))
  have nz:∀ a,S a→a≠z:=fun a sa=>by
   obtain⟨ob,e⟩:=al a sa
   exact au e fz
  refine⟨_,rfl,k (fun a=>S a∨a=z) q H9 ⟨.inl sx,.inl ss,.inl so,.inl sp,fun a w=>?_,Uz _ _ (a6 _ _ x5) nxp,s9,o9,ne,_,p9,fun g v e=>?_,fun g e=>?_,fun g g' v e e'=>?_,(by have:=jw kvs (Sum.inl h:Key) (V.ref z);omega)⟩ (t69 _ _ b6) (fun a w=>w.imp id fun y=>by rw[y];exact fz) (fun a ob e m=>?_) (fun a xs e=>t09 _ _ e)⟩
  ·rcases w with w|w
   ·by_cases z1:a=s
    ·rw[z1];exact⟨_,s9⟩
    by_cases z2:a=o
    ·rw[z2];exact⟨_,o9⟩
    by_cases z3:a=p
    ·rw[z3];exact⟨_,p9⟩
    obtain⟨ob,e⟩:=al a w
    exact⟨ob,Rk _ _ e z1 z2 z3⟩
   ·rw[w];exact⟨_,z9⟩
  ·rw[m6]at e
   by_cases c:g=h
   ·subst c
    rw[if_pos rfl]at e
    cases e
    refine⟨z,([(((aH.length:Nat):Int),(((aH++rV g cs).length:Nat):Int))]:Row),rfl,.inr rfl,(nz _ ss).symm,(nz _ so).symm,⟨[q],z9,.cons (t69 _ _ b6) .nil⟩,?_,?_,?_⟩
    ·intro r hr
     rw[List.mem_singleton.mp hr]
     show ((aH.length:Nat):Int)≤((aH++rV g cs).length:Nat)
     rw[eG]
     omega
    ·rw[o7,pw.jJ g hv,xJ,Nat.zero_add,List.nil_append]
     refine As _ _ _ ?_
     rw[eG,tV]
     omega
    ·simp only[vA]
     omega
   ·rw[if_neg (fun z=>c (Sum.inl.inj z))]at e
    obtain⟨l',Ou,e1,e2,e3,e4,e5,e6,e7,e8⟩:=pw.got g v e
    subst e1
    refine⟨l',Ou,rfl,.inl e2,e3,e4,e5.two (fun xs q=>Rk _ _ q e3 e4 (cT q hp (by intro z;cases z))) (fun a xs e=>t09 _ _ e),e6,?_,by omega⟩
    rw[e7,o7,pA (fun z=>c z.symm),nA]
  ·rw[m6]at e
   have c:g≠h:=fun z=>by rw[z,if_pos rfl]at e;cases e
   rw[if_neg (fun z=>c (Sum.inl.inj z))]at e
   rw[o7,pw.jJ g e,pA (fun z=>c z.symm),nA]
  ·have other:∀ g v,g≠h→cj kvs (Sum.inl g)=some v→v≠.ref z:=fun g v c e y=>by
    obtain⟨l',Ou,e1,e2,_⟩:=pw.got g v e
    rw[e1]at y
    cases y
    exact nz _ e2 rfl
   rw[m6]at e e'
   by_cases c:g=h
   ·by_cases c':g'=h
    ·rw[c,c']
    ·rw[c,if_pos rfl]at e
     rw[if_neg (fun z=>c' (Sum.inl.inj z))]at e'
     cases e
     exact absurd rfl (other _ _ c' e')
   ·rw[if_neg (fun z=>c (Sum.inl.inj z))]at e
    by_cases c':g'=h
    ·rw[c',if_pos rfl]at e'
     cases e'
     exact absurd rfl (other _ _ c e)
    ·rw[if_neg (fun z=>c' (Sum.inl.inj z))]at e'
     exact pw.one _ _ _ e e'
  ·have z1:a≠s:=fun z=>m (by rw[z];exact ss)
   have z2:a≠o:=fun z=>m (by rw[z];exact so)
   have z3:a≠p:=fun z=>m (by rw[z];exact sp)
   exact Rk _ _ e z1 z2 z3
theorem Mu(xs:List V){p q:Int}(h:0≤p)(g:0≤q):jV xs (some p) (some q)=(xs.take q.toNat).drop p.toNat:=by
 unfold jV
 have e:∀ r:Int,0≤r→∀ d,HT.j4 xs.length d (some r)=min r.toNat xs.length:=fun r hr d=>by
  show (if r<0 then (r+(xs.length:Int)).toNat else min r.toNat xs.length)=_
  rw[if_neg (by omega)]
 rw[e p h,e q g,List.drop_take]
 rcases Nat.le_total p.toNat xs.length with z|z
 ·rw[Nat.min_eq_left z]
  rcases Nat.le_total q.toNat xs.length with y|y
  ·rw[Nat.min_eq_left y]
  ·rw[Nat.min_eq_right y,zd (by rw[List.length_drop];omega),zd (by rw[List.length_drop];omega)]
 ·rw[Nat.min_eq_right z,List.drop_of_length_le (iC _),List.drop_of_length_le z]
  simp
def MU(n:Nat)(p:Int × Int):Bool:=decide (0≤p.1)&&decide (p.1<p.2)&&decide (p.2≤(n:Int))
def qq(n:Nat)(row:Row):Bool:=row.all (MU n)
inductive Dw(C:Addr)(vs:List V)(H:Hp)(Q:VK)(E:XK):Prop
 | mk (S:Addr→Prop) (x d s o p r:Addr) (n:Nat) (aH:lR) (row:Row) (_:vs=[.ref x,.ref r]) (_:We C S H x d s o p n aH) (_:bX H r row) (_:row.length≤1000) (_: ∀ H',aF H H'→Q (.bl (qq aH.length row)) H'):Dw C vs H Q E
theorem Dy:aG ["self","row"] ["self","row"] (az kF):=⟨rfl,rfl,rfl,by decide +kernel,rfl,by decide +kernel,by decide +kernel⟩
theorem Bh{f C fs fi:Addr}{fd gs:FuncData}(F:iD K "holds" "Well.holds" kF f fd)(T:pG mg)(iH:ClsAt K mg "Well" C fi)(n1:bh K C "signs")(cD:aQ K C "size" "Well.size" kg ja fs gs):aB P w K mg base bV 2 f fd OI (Dw C):=by
 have mG:aB P w K mg base bV 1 fs gs ja (wC C):=rC cD.F T iH.cl n1
 refine F.ok Dy (fun vs H Q E h=>?_) (fun cdv A outer s H vs Q E hr h=>?_)
 ·obtain⟨S,x,d,s,o,p,r,n,aH,row,rfl,_⟩:=h
  rfl
 obtain⟨S,x,d,s,o,p,r,n,aH,row,rfl,W,R,len,k⟩:=h
 refine⟨_,(ao (aR (aV (JK rfl) rfl T.TZ PyProof.Rows.boot_all (aa (qB (N:=["start","stop","self"]) (yh (sc:=az kF) (NX:=["self","row"]) (jx:=[none,none,some 0]) rfl rfl rfl (by decide +kernel) (by decide +kernel) rfl (by decide +kernel) rfl (by decide +kernel)) rfl (cU (pv 1)) (fun _ _ _ _ _ _=>(Il (n:=2) rfl (bQ (aY (i:=0) (show List.Nodup (["start","stop","self"]:List Str) by decide +kernel) rfl (Or.inl rfl)) (bQ (aY (i:=1) (show List.Nodup (["start","stop","self"]:List Str) by decide +kernel) rfl (Or.inl rfl)) j3)))) (fun _ _ _ _ _ _=>mQ) (fun _ _ _ _ _ _=>(JL mT Et mT aA (pv 0) (pv 1) (cV (pv 2) iH.cl cD.mt mG (hr.mono (by decide)) cD.b .nil dz)))) ah)))),?_⟩
 obtain⟨as,hr1,pa⟩:=id R
 have la:=pa.len
 refine⟨_,rfl,r,rfl,⟨_,bF.of hr1⟩,fun acc hacc=>oO (K:=K) (a:=r) (xs:=as.map V.ref) (fun i σ H1=>∃ u w:Option V,σ=[u,w,some (.ref x)]∧H1 acc=some (.lst (((row.take i).map (MU aH.length)).map V.bl))∧aF H H1) ⟨none,none,rfl,af,aj hacc _⟩ (fun i σ H1 _ ⟨_,_,_,_,s⟩=>bF.of (s _ _ hr1)) ?_ ?_⟩
 ·rintro i y σ H1 hi ⟨u,w,rfl,ha,s1⟩
  rw[kM]at hi
  obtain⟨t,et,rfl⟩:=Option.map_eq_some_iff.mp hi
  obtain⟨q,eq,ht⟩:=zT pa et
  have W1:=W.same s1
  refine⟨t,_,rfl,jc.of (s1 _ _ ht),rfl,_,_,rfl,_,_,rfl,rfl,?_⟩
  have fin:∀ v:Bool,MU aH.length q=v→∃ ys,H1 acc=some (.lst ys)∧ys.length<sizeLine∧∃ u w:Option V,[some (V.int q.1),some (V.int q.2),some (.ref x)]=[u,w,some (.ref x)]∧(upd H1 acc (.lst (ys++[.bl v]))) acc=some (.lst (((row.take (i+1)).map (MU aH.length)).map V.bl))∧aF H (upd H1 acc (.lst (ys++[.bl v]))):=fun v hv=>by
   refine⟨_,ha,?_,_,_,rfl,?_,?_⟩
   ·rw[cO,cO,kK]
    exact aM (by omega)
   ·rw[af,take_snoc eq,nu,nu,← hv]
    rfl
   ·intro b ob e
    rw[aC (au e hacc)]
    exact s1 _ _ e
  refine⟨_,rfl,_,_,rfl,rfl,_,rfl,dQ (fun c1=>?_) (fun c1=>fin false ?_)⟩
  ·refine⟨_,rfl,_,_,rfl,rfl,_,rfl,dQ (fun c2=>?_) (fun c2=>fin false ?_)⟩
   ·refine⟨_,rfl,x,d,_,rfl,W1.hx,rfl,x,d,s,o,p,aH,rfl,W1.hx,W1.hs,_,_,rfl,rfl,fin _ ?_⟩
    unfold MU
    rw[c1,c2]
    rfl
   ·unfold MU
    rw[c1,Bool.eq_false_iff.mpr c2]
    rfl
  ·unfold MU
   rw[Bool.eq_false_iff.mpr c1]
   rfl
 ·rintro σ H1 ⟨u,w,rfl,ha,s1⟩
  rw[cO,la,kO]at ha
  refine⟨acc,_,rfl,bF.of ha,?_⟩
  have e:(row.map (MU aH.length)).all id=qq aH.length row:=by
   unfold qq
   rw[List.all_map]
   rfl
  rw[e]
  exact k H1 s1
structure Wd(mg:Str→Option Value):Prop where
 s:∃ t,mg "MOST_SHEETS"=some (.int 40 t)
 w:∃ t,mg "MOST_WEIGHT"=some (.int 200 t)
 h:∃ t,mg "HIDDEN"=some (.str (Str.ofString "#") t)
theorem Io.irr{rows:eF}(h:Io rows){s:Int}:¬ Reach (Cb rows) s s:=by
 obtain⟨rk,_,hr⟩:=h
 have key:∀ g,Reach (Cb rows) s g→rk g<rk s:=by
  intro g r
  induction r with
  | one e=>exact hr _ _ e
  | step _ e ih=>exact Nat.lt_trans (hr _ _ e) ih
 exact fun z=>Nat.lt_irrefl _ (key s z)
theorem Io.walk{rows:eF}(h:Io rows){s:Int}{way:List Int}(w:Walk (Cb rows) s way)(l:2≤way.length)(e:way.getLast?=some s):False:=by
 rw[List.getLast?_eq_getElem?]at e
 exact h.irr (w.reach (way.length-2) s (by rw[show way.length-2+1=way.length-1 by omega];exact e))
structure uI(rows:eF)(f:Int→Int):Prop where
 len:rows.length≤100
 es:∀ es∈rows,es.length≤1000
 sd:Sound rows
 rk:Io rows
 wt:Weighs rows f
 most:∀ x:Int,0≤x→x<rows.length→f x≤200
inductive Au(vs:List V)(H:Hp)(Q:VK)(E:XK):Prop
 | mk (r:Addr) (rows:eF) (s:Int) (f:Int→Int) (_:vs=[.ref r,.int s]) (_:iy H r (rows.map itemsOf)) (_:uI rows f) (_:0≤s) (_:s<rows.length) (_: ∀ H',aF H H'→Q .jJ H'):Au vs H Q E
theorem mR:aG ["rows","sheet","way","weights","number"] ["rows","sheet"] (az lC):=⟨rfl,rfl,rfl,by decide +kernel,rfl,by decide +kernel,by decide +kernel⟩
theorem Av{g fI fB fW fV fY fR:Addr}{fd AU Od Iz T9 fdY fdR:FuncData}(F:iD K "check_weave" "check_weave" lC g fd)(T:pG mg)(G:Wd mg)(cu:ay K mg "windows" dZ nv fI AU)(jz:ay K mg "below" ly lS fB Od)(jQ:ay K mg "item_weight" iP Jb fW Iz)(lK:ay K mg "weights_below" fy lS fV T9)(jP:ay K mg "way_between" iO Ja fY fdY)(IM:ay K mg "ring" BG wN fR fdR):aB P w K mg base bV 4 g fd wN Au:=by
 have Aw:aB P w K mg base bV 3 fV T9 lS uV:=xA lK.F T cu jz jQ
 have UA:aB P w K mg base bV 3 fR fdR wN G5:=Oc IM.F T cu jP
 refine F.ok mR (fun vs H Q E h=>?_) (fun cdv A outer s0 H vs Q E hr h=>?_)
 ·obtain⟨r,rows,s,f,rfl,_⟩:=h
  rfl
 obtain⟨r,rows,s,f,rfl,hR,B,h0,h1,k⟩:=h
 have hu:=lY hr
 obtain⟨Dz,DA⟩:=G.w
 have bl:=B.len
 refine⟨_,(ak (aU (i:=2) mR.nd rfl (Or.inl rfl) (aL IM UA hr (aa (pv 0) (aa (pv 1) ah))))
   (ak (cC (CG (Nj (pv 2)))
   (ao zh)
   bL)
   (ak (aU (i:=3) mR.nd rfl (Or.inl rfl) (aL lK Aw hr (aa (pv 0) (aa (eV (uD rfl) rfl T.lG vD (aa (eV C2 rfl T.nQ PyProof.Rows.boot_range (aa (aV aX rfl T.ic lT (aa (pv 0) ah)) ah)) ah)) ah))))
   (ao (gQ PassesOwn.never rfl (mj rfl T.nQ (aa (aV aX rfl T.ic lT (aa (pv 0) ah)) ah)) (aY (i:=4) mR.nd rfl (Or.inl rfl))
   (ao (cC (bR Bu (dX hu (pv 3) (pv 4) (fun _ _=>rfl)) (HJ (v:=.int 200) rfl DA ⟨Dz,rfl⟩) (bZ _))
   (ao zh)
   bL))))))),?_⟩
 refine⟨_,rfl,_,rfl,r,s,rfl,r,rows,s,s,rfl,hR,by omega,B.es,B.sd,h0,h1,fun way o H' _ _ wk l2 _ eg=>(B.rk.walk wk l2 eg).elim,fun _ H1 s1=>?_⟩
 refine⟨_,rfl,false,rfl,iL ?_⟩
 have hR1:=hR.same s1
 obtain⟨vs,hr1,al⟩:=id hR1
 have lv:vs.length=rows.length:=by rw[al.len,cO]
 refine⟨_,rfl,_,rfl,r,_,rfl,.inl (bF.of hr1),_,rfl,fun p1 hp1=>⟨p1,_,_,rfl,af,⟨by omega,by omega,by omega,by omega⟩,jI (aM (by omega)),fun L hL=>?_⟩⟩
 rw[zI,lv,show ((rows.length:Int)-0).toNat=rows.length by omega]
 rw[lv]at hL
 have s2:=s1.trans ((aj hp1 (.Ef 0 ((rows.length:Nat):Int))).trans (aj hL (.lst ((run 0 rows.length).map V.int))))
 have VH:(upd (upd H1 p1 (.Ef 0 ((rows.length:Nat):Int))) L (.lst ((run 0 rows.length).map V.int))) L=some (.lst ((run 0 rows.length).map V.int)):=af
 generalize upd (upd H1 p1 (.Ef 0 ((rows.length:Nat):Int))) L (.lst ((run 0 rows.length).map V.int))=H2 at s2 VH
 refine⟨r,L,rows,run 0 rows.length,f,rfl,hR.same s2,VH,by rw[Ip];omega,by omega,B.es,B.sd,B.rk,(fun x hx=>by have:=LL hx;omega),B.wt,fun S kvs H3 hS hv s3 _=>?_⟩
 have Mr:=s2.trans s3
 obtain⟨vs3,G2,al3⟩:=hR.same Mr
 have lv3:vs3.length=rows.length:=by rw[al3.len,cO]
 refine⟨_,rfl,r,_,rfl,.inl (bF.of G2),_,rfl,by omega,by omega,?_⟩
 refine n6 (lo:=0) (n:=((vs3.length:Nat):Int).toNat) (fun i σ H4=>∃ u:Option V,σ=[some (.ref r),some (.int s),some .jJ,some (.ref S),u]∧aF H H4∧H4 S=some (.dK kvs)) ⟨none,rfl,Mr,hS⟩ ?_ ?_
 ·rintro i σ H4 hi ⟨u,rfl,s4,T4⟩
  have il:i<rows.length:=by omega
  have z:=mC.k (k:=Sum.inl (0+(i:Int))) T4
  rw[hv (0+(i:Int)) (by rw[show (0:Int)+(i:Int)=0+i from rfl];exact vB (run_get 0 rows.length i il))]at z
  refine⟨_,rfl,_,rfl,S,_,rfl,z,_,_,rfl,rfl,_,rfl,?_⟩
  rw[decide_eq_false (show ¬ f (0+(i:Int)) > 200 from fun y=>by have:=B.most (0+(i:Int)) (by omega) (by omega);omega)]
  exact iL ⟨_,rfl,s4,T4⟩
 ·rintro σ H4 ⟨u,rfl,s4,_⟩
  exact k H4 s4
structure jC(C CS:Addr)(S:Addr→Prop)(H:Hp)(x d wl sh bl kn du bk dS st op:Addr)(past:nF)(ops:List Int)(lines:l6):Prop where
 hx:H x=some (.ins C d [("well",.ref wl),("shelf",.ref sh),("blots",.ref bl),("knots",.ref kn),("dues",.ref du),("book",.ref bk)])
 W:Sh CS S H sh dS st op past ops
 hb:H bk=some (fX lines)
 nx:¬ S x
 nb:¬ S bk
structure Bj(K:PySem.W.Frag)(mg:Str→Option Value)(C CS XS XM XT:Addr):Prop where
 M:RZ K mg CS XS XM
 c:∃ fi,ClsAt K mg "Library" C fi
 nw:bh K C "well"
 ns:bh K C "shelf"
 Ga:bh K C "blots"
 nk:bh K C "knots"
 nd:bh K C "dues"
 FE:bh K C "book"
 zt:C4 K mg "TooMany" XT
 G:Wd mg
def Fr(S S':Addr→Prop)(bk:Addr)(H H':Hp):Prop:=(∀ a,S' a→S a∨H a=none)∧(∀ a ob,H a=some ob→¬ S a→a≠bk→H' a=some ob)∧∀ a xs,H a=some (.tup xs)→H' a=some (.tup xs)
theorem Fr.same{S S':Addr→Prop}{bk:Addr}{H0 H H':Hp}(s:aF H0 H)(f:Fr S S' bk H H'):Fr S S' bk H0 H' :=
 ⟨fun a z=>(f.1 a z).imp id fun y=>aS s y,fun a ob e n1 n2=>f.2.1 a ob (s _ _ e) n1 n2,fun a xs e=>f.2.2 a xs (s _ _ e)⟩
theorem jC.same{C CS:Addr}{S:Addr→Prop}{H H':Hp}{x d wl sh bl kn du bk dS st op:Addr}{past:nF}{ops:List Int}{lines:l6}(L:jC C CS S H x d wl sh bl kn du bk dS st op past ops lines)(s:aF H H'):jC C CS S H' x d wl sh bl kn du bk dS st op past ops lines :=
 ⟨s _ _ L.hx,L.W.same s,s _ _ L.hb,L.nx,L.nb⟩
theorem jC.neb{C CS:Addr}{S:Addr→Prop}{H:Hp}{x d wl sh bl kn du bk dS st op:Addr}{past:nF}{ops:List Int}{lines:l6}(L:jC C CS S H x d wl sh bl kn du bk dS st op past ops lines):x≠bk:=fun e=>by
 have z:=L.hx
 rw[e,L.hb]at z
 cases z
inductive DB(C CS:Addr)(vs:List V)(H:Hp)(Q:VK)(E:XK):Prop
 | mk (S:Addr→Prop) (x d wl sh bl kn du bk dS st op:Addr) (past:nF) (ops:List Int) (lines:l6) (_:vs=[.ref x]) (_:jC C CS S H x d wl sh bl kn du bk dS st op past ops lines) (_:Q (.int (ops.length:Nat)) H):DB C CS vs H Q E
inductive zb(C CS:Addr)(vs:List V)(H:Hp)(Q:VK)(E:XK):Prop
 | mk (S:Addr→Prop) (x d wl sh bl kn du bk dS st op:Addr) (past:nF) (ops:List Int) (lines:l6) (dd c:Addr) (e:m9) (cs:List Addr) (qL:List (Nat × List Item)) (last:List (List Item)) (_:vs=[.ref x,.ref dd,.ref c]) (_:jC C CS S H x d wl sh bl kn du bk dS st op past ops lines) (_:e.At H dd) (_:e.Ok) (_:H c=some (.lst (cs.map V.ref))) (_:c≠bk) (_:bK (Ht H) cs qL) (_:(∀ a∈cs,∀ (s:Int) (r:Addr),H a=some (.tup [.int s,.ref r])→r≠bk)) (_:past.getLast?=some last) (_:Ri last qL) (_:qL.length≤200) (_:last.length≤500) (_:past.length≤1000) (_:lines.length≤1000) (_ :
 ∀ (S':Addr→Prop) (H':Hp),jC C CS S' H' x d wl sh bl kn du bk dS st op (past++[rB last qL]) (ops++List.replicate ((rB last qL).length-last.length) ((past.length:Nat):Int)) (lines++[e.line])→Fr S S' bk H H'→Q .jJ H'):zb C CS vs H Q E
theorem yF:aG ["self","deed","changes"] ["self","deed","changes"] (az bS):=⟨rfl,rfl,rfl,by decide +kernel,rfl,by decide +kernel,by decide +kernel⟩
theorem Ax:aG ["self"] ["self"] (az jX):=⟨rfl,rfl,rfl,by decide +kernel,rfl,by decide +kernel,by decide +kernel⟩
theorem yG{f C CS XS XM XT fM:Addr}{fd gM:FuncData}(F:iD K "many" "Library.many" jX f fd)(L:Bj K mg C CS XS XM XT)(cP:aQ K CS "many" "Shelf.many" iF ja fM gM):aB P w K mg base bV 2 f fd ja (DB C CS):=by
 obtain⟨M,⟨fi,aK⟩,nw,ns,Ga,nk,nd,FE,dB,G⟩:=L
 obtain⟨T,⟨fj,bH⟩,n1,n2,dP,cQ⟩:=M
 have pW:aB P w K mg base bV 1 _ _ ja (Dp CS):=uH cP.F T bH.cl n1
 refine F.ok Ax (fun vs H Q E h=>?_) (fun cdv A outer s H vs Q E hr h=>?_)
 ·obtain⟨S,x,d,wl,sh,bl,kn,du,bk,dS,st,op,past,ops,lines,rfl,_⟩:=h
  rfl
 obtain⟨S,x,d,wl,sh,bl,kn,du,bk,dS,st,op,past,ops,lines,rfl,L,k⟩:=h
 refine⟨_,(ao (aR (cV (ff (pv 0) rfl) bH.cl cP.mt pW (hr.mono (by decide)) cP.b .nil dz))),?_⟩
 exact⟨_,rfl,x,C,d,_,.ref sh,rfl,L.hx,aK.cl,ns,rfl,sh,dS,_,rfl,L.W.hx,rfl,S,sh,dS,st,op,past,ops,rfl,L.W,k⟩
theorem qI{f C CS XS XM XT fI fD fN fC fT:Addr}{fd gI gD gN gC gT:FuncData}(F:iD K "enter" "Library.enter" bS f fd)(L:Bj K mg C CS XS XM XT)(jB:ay K mg "ink_words" jf eY fI gI)(pX:ay K mg "shown_deed" kB ["deed"] fD gD)(iU:ay K mg "changed" oz Ge fC gC)(bU:aQ K CS "now" "Shelf.now" gS ja fN gN)(ng:aQ K CS "step" "Shelf.step" kC Sj fT gT):aB P w K mg base bV 3 f fd I0 (zb C CS):=by
 obtain⟨M,⟨fi,aK⟩,nw,ns,Ga,nk,nd,FE,dB,G⟩:=L
 obtain⟨T,⟨fj,bH⟩,n1,n2,dP,cQ⟩:=M
 have FF:aB P w K mg base bV 2 _ _ ["deed"] Ai:=Bf pX.F T jB
 have FG:aB P w K mg base bV 2 _ _ Sj (An CS):=Bg ng.F T bH n1 n2 iU bU
 refine F.ok yF (fun vs H Q E h=>?_) (fun cdv A outer s H vs Q E hr h=>?_)
 ·obtain⟨S,x,d,wl,sh,bl,kn,du,bk,dS,st,op,past,ops,lines,dd,c,e,cs,qL,last,rfl,_⟩:=h
  rfl
 obtain⟨S,x,d,wl,sh,bl,kn,du,bk,dS,st,op,past,ops,lines,dd,c,e,cs,qL,last,rfl,L,de,ok,hc,ncb,al,nr,hl,oc,l1,l2,l3,l4,k⟩:=h
 refine⟨_,(ak (bw (je qd r9 sf cA (ff (pv 0) rfl) (aa (aL pX FF hr (aa (pv 1) ah)) ah)))
   (ao (bw (cI (ff (pv 0) rfl) bH.cl ng.mt FG (hr.mono (by decide)) ng.b .nil dz (aa (pv 2) ah))))),?_⟩
 refine⟨_,rfl,x,C,d,_,.ref bk,rfl,L.hx,aK.cl,FE,rfl,.inl ⟨rfl,_,bF.of L.hb⟩,_,rfl,dd,e,rfl,de,ok,Hq ok,fun H1 s1=>?_⟩
 refine⟨bk,_,_,rfl,rfl,s1 _ _ L.hb,aM (by rw[cO];omega),?_⟩
 have e2:(lines.map fun w=>V.str (txt w))++[V.str (txt e.line)]=(lines++[e.line]).map fun w=>V.str (txt w):=by rw[nu];rfl
 rw[e2]
 have k2:cS bk H (upd H1 bk (fX (lines++[e.line]))):=fun a o q n=>by
  rw[aC n]
  exact s1 _ _ q
 have hb2:(upd H1 bk (fX (lines++[e.line]))) bk=some (fX (lines++[e.line])):=af
 have fr2:∀ a,(upd H1 bk (fX (lines++[e.line]))) a=none→H a=none:=fun a q=>by
  by_cases z:a=bk
  ·rw[z,af]at q;cases q
  ·rw[aC z]at q;exact aS s1 q
 generalize upd H1 bk (fX (lines++[e.line]))=H2 at k2 hb2 fr2
 have t2:∀ a xs,H a=some (.tup xs)→H2 a=some (.tup xs):=fun a xs q=>k2 _ _ q (cT q L.hb (by intro z;cases z))
 have W2:Sh CS S H2 sh dS st op past ops:=L.W.keep L.hb L.nb k2
 have x2:=k2 _ _ L.hx L.neb
 refine⟨_,rfl,x,C,d,_,.ref sh,rfl,x2,aK.cl,ns,rfl,sh,dS,_,rfl,W2.hx,rfl,_,rfl,S,sh,dS,st,op,c,past,ops,cs,qL,last,rfl,W2,k2 _ _ hc ncb,?_,hl,oc,l1,l2,l3,fun S' H3 W3 sub fr tp=>?_⟩
 ·have key:∀ {as:List Addr} {ds:List (Nat × List Item)},bK (Ht H) as ds→(∀ a∈as,a∈cs)→bK (Ht H2) as ds:=by
   intro as ds q
   induction q with
   | nil=>intro _;exact .nil
   | cons o t ih =>
    intro sub
    refine .cons ?_ (ih fun a ha=>sub a (rX _ ha))
    obtain⟨r,ha,it⟩:=o
    have UB:=nr _ (sub _ rS) _ r ha
    exact⟨r,t2 _ _ ha,it.fr (fun xs q=>k2 _ _ q UB) t2⟩
  exact key al fun _ z=>z
 ·refine k S' H3 ⟨fr _ _ x2 L.nx,W3,fr _ _ hb2 L.nb,fun z=>?_,fun z=>?_⟩ ⟨fun a z=>(sub a z).imp id fun q=>fr2 a q,fun a ob q n n'=>fr _ _ (k2 _ _ q n') n,fun a xs q=>tp _ _ (t2 _ _ q)⟩
  ·rcases sub _ z with q|q
   ·exact L.nx q
   ·rw[x2]at q;cases q
  ·rcases sub _ z with q|q
   ·exact L.nb q
   ·rw[hb2]at q;cases q
abbrev rD(pe:l5):nF:=pe.map fun rows=>rows.map itemsOf
def jb(rows:eF)(s:Nat)(es:List Int):eF:=rows.take s++[es]++rows.drop (s+1)
theorem Ov(rows:eF)(s:Nat)(es:List Int):rB (rows.map itemsOf) [(s,itemsOf es)]=(jb rows s es).map itemsOf:=by
 show (rows.map itemsOf).take s++[itemsOf es]++(rows.map itemsOf).drop (s+1)=_
 unfold jb
 rw[nu,nu,List.map_take,List.map_drop]
 rfl
theorem sU{rows:eF}{s:Nat}{es:List Int}(h:s≤rows.length):(jb rows s es).length=if s=rows.length then rows.length+1 else rows.length:=by
 unfold jb
 rw[eG,eG,kK,List.length_drop]
 show min s rows.length+1+_=_
 split <;> omega
def Mv(ops:List Int)(n s m:Nat):List Int:=ops++if s=n then [(m:Int)] else []
theorem Rl{rows:eF}{s:Nat}{es:List Int}{ops:List Int}{m:Nat}(h:s≤rows.length):ops++List.replicate (((jb rows s es).map itemsOf).length-(rows.map itemsOf).length) (m:Int)=Mv ops rows.length s m:=by
 rw[cO,cO,sU h]
 unfold Mv
 by_cases c:s=rows.length
 ·rw[if_pos c,if_pos c,show rows.length+1-rows.length=1 by omega]
  rfl
 ·rw[if_neg c,if_neg c,Nat.sub_self]
  rfl
inductive qJ(C CS:Addr)(vs:List V)(H:Hp)(Q:VK)(E:XK):Prop
 | mk (S:Addr→Prop) (x d wl sh bl kn du bk dS st op:Addr) (pe:l5) (ops:List Int) (lines:l6) (dd r:Addr) (e:m9) (s:Nat) (es:List Int) (rows:eF) (f:Int→Int) (_:vs=[.ref x,.ref dd,.int (s:Nat),.ref r]) (_:jC C CS S H x d wl sh bl kn du bk dS st op (rD pe) ops lines) (_:e.At H dd) (_:e.Ok) (_:br H (.ref r) (itemsOf es)) (_:r≠bk) (_:pe.getLast?=some rows) (_:s≤rows.length) (_:rows.length≤50) (_:pe.length≤900) (_:lines.length≤900) (_:uI (jb rows s es) f) (_ :
 ∀ (S':Addr→Prop) (H':Hp),jC C CS S' H' x d wl sh bl kn du bk dS st op (rD (pe++[jb rows s es])) (Mv ops rows.length s pe.length) (lines++[e.line])→Fr S S' bk H H'→Q .jJ H'):qJ C CS vs H Q E
theorem xM:aG ["self","deed","sheet","items"] ["self","deed","sheet","items"] (az cJ):=⟨rfl,rfl,rfl,by decide +kernel,rfl,by decide +kernel,by decide +kernel⟩
structure Hw(K:PySem.W.Frag)(mg:Str→Option Value)(CS:Addr):Prop where
 many:∃ f g,aQ K CS "many" "Shelf.many" iF ja f g
 now:∃ f g,aQ K CS "now" "Shelf.now" gS ja f g
 cs:∃ f g,aQ K CS "check_sheet" "Shelf.check_sheet" dD wI f g
 cm:∃ f g,aQ K CS "check_moment" "Shelf.check_moment" cG Kp f g
 rst:∃ f g,aQ K CS "rows_then" "Shelf.rows_then" dF Kp f g
 rs:∃ f g,aQ K CS "rows" "Shelf.rows" mX ja f g
 stp:∃ f g,aQ K CS "step" "Shelf.step" kC Sj f g
structure Km(K:PySem.W.Frag)(mg:Str→Option Value):Prop where
 win:∃ f g,ay K mg "windows" dZ nv f g
 bel:∃ f g,ay K mg "below" ly lS f g
 iw:∃ f g,ay K mg "item_weight" iP Jb f g
 wb:∃ f g,ay K mg "weights_below" fy lS f g
 wy:∃ f g,ay K mg "way_between" iO Ja f g
 rg:∃ f g,ay K mg "ring" BG wN f g
 cw:∃ f g,ay K mg "check_weave" lC wN f g
 ch:∃ f g,ay K mg "changed" oz Ge f g
 ik:∃ f g,ay K mg "ink_words" jf eY f g
 sd:∃ f g,ay K mg "shown_deed" kB ["deed"] f g
theorem iI{pe:l5}{rows:eF}(h:pe.getLast?=some rows):(rD pe).getLast?=some (rows.map itemsOf):=by
 rw[List.getLast?_map,h]
 rfl
theorem Mw{H H':Hp}{rs:List Addr}{rows:List (List Item)}{r:Addr}{its:List Item}{s:Nat}(al:bK (fun q i=>br H' (.ref q) i) rs rows)(it:br H' (.ref r) its):bK (br H') ((rs.map V.ref).take s++[.ref r]++(rs.map V.ref).drop (s+1)) (rows.take s++[its]++rows.drop (s+1)):=by
 have key:bK (br H') (rs.map V.ref) rows:=by
  induction al with
  | nil=>exact .nil
  | cons o t ih=>exact .cons o ih
 exact ((key.take s).app (.cons it .nil)).app (key.drop (s+1))
theorem iZ{f C CS XS XM XT fE:Addr}{fd gE:FuncData}(F:iD K "change" "Library.change" cJ f fd)(L:Bj K mg C CS XS XM XT)(A1:Hw K mg CS)(A2:Km K mg)(aP:aQ K C "enter" "Library.enter" bS I0 fE gE):aB P w K mg base bV 5 f fd Kq (qJ C CS):=by
 obtain⟨⟨_,_,d1⟩,⟨_,_,d2⟩,⟨_,_,d3⟩,⟨_,_,d4⟩,⟨_,_,d7⟩,⟨_,_,bI⟩,⟨_,_,d9⟩⟩:=A1
 obtain⟨⟨_,_,w1⟩,⟨_,_,w2⟩,⟨_,_,w3⟩,⟨_,_,w4⟩,⟨_,_,w5⟩,⟨_,_,w6⟩,⟨_,_,nX⟩,⟨_,_,iU⟩,⟨_,_,w9⟩,⟨_,_,w10⟩⟩:=A2
 have pB:aB P w K mg base bV 3 _ _ I0 (zb C CS):=qI aP.F L w9 w10 iU d2 d9
 obtain⟨M,⟨fi,aK⟩,nw,ns,Ga,nk,nd,FE,dB,G⟩:=L
 have gH:aB P w K mg base bV 4 _ _ ja (vj CS):=jZ bI.F M d2 d4 d7
 obtain⟨T,⟨fj,bH⟩,n1,n2,dP,cQ⟩:=M
 have Ao:aB P w K mg base bV 1 _ _ Ge tU:=Al iU.F T
 have DC:aB P w K mg base bV 4 _ _ wN Au:=Av nX.F T G w1 w2 w3 w4 w5 w6
 refine F.ok xM (fun vs H Q E h=>?_) (fun cdv A outer s H vs Q E hr h=>?_)
 ·obtain⟨S,x,d,wl,sh,bl,kn,du,bk,dS,st,op,pe,ops,lines,dd,r,e,s,es,rows,f,rfl,_⟩:=h
  rfl
 obtain⟨S,x,d,wl,sh,bl,kn,du,bk,dS,st,op,pe,ops,lines,dd,r,e,s,es,rows,f,rfl,L,de,ok,hi,UB,hl,sl,l1,l2,l3,B,k⟩:=h
 have hl':=iI hl
 have lp:(rD pe).length=pe.length:=cO _
 have lo:ops.length=rows.length:=by
  obtain⟨last,z1,z2⟩:=L.W.MS.Cs
  rw[hl']at z1
  cases z1
  rw[z2,cO]
 refine⟨_,(ak (bw (aL nX DC hr (aa (aL iU Ao hr (aa (cV (ff (pv 0) rfl) bH.cl bI.mt gH (hr.mono (by decide)) bI.b .nil dz) (aa (pv 2) (aa (pv 3) ah)))) (aa (pv 2) ah))))
   (ao (bw (cI (pv 0) aK.cl aP.mt pB (hr.mono (by decide)) aP.b .nil dz (aa (pv 1) (aa (bJ (aa (eK (aa (pv 2) (aa (pv 3) ah))) ah)) ah)))))),?_⟩
 refine⟨_,rfl,x,C,d,_,.ref sh,rfl,L.hx,aK.cl,ns,rfl,sh,dS,_,rfl,L.W.hx,rfl,S,sh,dS,st,op,rD pe,ops,rfl,L.W,⟨by omega,by omega⟩,fun rws el q H1 fs s1=>?_⟩
 rw[hl']at el
 cases el
 obtain⟨fq,rs,hq,al⟩:=fs
 have lr:rs.length=rows.length:=by rw[al.len,cO]
 have hi1:=hi.same s1
 have L1:=L.same s1
 refine⟨_,rfl,_,rfl,q,r,_,s,rfl,hq,by rw[cO,lr];exact sl,by rw[cO,lr];omega,fun p2 H2 hp2 s2 f2=>?_⟩
 refine⟨_,rfl,p2,jb rows s es,(s:Int),f,rfl,⟨_,hp2,?_⟩,B,by omega,by rw[sU sl];split <;> omega,fun H3 s3=>?_⟩
 ·have z:=Mw (H:=H) (H':=H2) (s:=s) (al.mono fun q' i' w'=>(w'.2.2).same s2) (hi1.same s2)
  have e':(rows.map itemsOf).take s++[itemsOf es]++(rows.map itemsOf).drop (s+1)=(jb rows s es).map itemsOf:=by
   unfold jb
   rw[nu,nu,List.map_take,List.map_drop]
   rfl
  rw[e']at z
  exact z
 have EZ:=s1.trans (s2.trans s3)
 have L3:=L.same EZ
 refine⟨_,rfl,x,d,_,rfl,L3.hx,rfl,_,rfl,_,rfl,_,rfl,(by show 2≤sizeLine;decide),fun t ht=>⟨(by show 1≤sizeLine;decide),fun c hc=>?_⟩⟩
 have s4:aF H3 (upd (upd H3 t (.tup [.int (s:Nat),.ref r])) c (.lst [.ref t])):=(aj ht _).trans (aj hc _)
 have ht4:(upd (upd H3 t (.tup [.int (s:Nat),.ref r])) c (.lst [.ref t])) t=some (.tup [.int (s:Nat),.ref r]):=aj hc _ _ _ af
 have hc4:(upd (upd H3 t (.tup [.int (s:Nat),.ref r])) c (.lst [.ref t])) c=some (.lst ([t].map V.ref)):=af
 have nc:c≠bk:=fun z=>by
  have:=aj ht (.tup [.int (s:Nat),.ref r]) _ _ L3.hb
  rw[← z,hc]at this
  cases this
 generalize upd (upd H3 t (.tup [.int (s:Nat),.ref r])) c (.lst [.ref t])=H4 at s4 ht4 hc4
 have IP:=EZ.trans s4
 refine⟨S,x,d,wl,sh,bl,kn,du,bk,dS,st,op,rD pe,ops,lines,dd,c,e,[t],[(s,itemsOf es)],rows.map itemsOf,rfl,L.same IP,de.same IP,ok,hc4,nc,.cons ⟨r,ht4,hi.same IP⟩ .nil,?_,hl',?_,(by show 1≤200;decide),by rw[cO];omega,by omega,by omega,fun S' H' L' fr=>?_⟩
 ·intro a ha s' r' e'
  rw[List.mem_singleton.mp ha,ht4]at e'
  cases e'
  exact UB
 ·intro i ch ei
  match i,ei with
  | 0,ei =>
   cases ei
   show s≤(rows.map itemsOf).length
   rw[cO]
   exact sl
  | i+1,ei=>cases ei
 ·rw[Ov,Rl sl,lp]at L'
  refine k S' H' ?_ (fr.same IP)
  have ep:rD (pe++[jb rows s es])=rD pe++[(jb rows s es).map itemsOf]:=by
   show (pe++[jb rows s es]).map _=_
   rw[nu]
   rfl
  rw[ep]
  exact L'
theorem Ow{n:Nat}(h:n≤1000):qW ((n:Nat):Int):=⟨by omega,by omega⟩
inductive DE(C CS XT:Addr)(vs:List V)(H:Hp)(Q:VK)(E:XK):Prop
 | mk (S:Addr→Prop) (x d wl sh bl kn du bk dS st op:Addr) (pe:l5) (ops:List Int) (lines:l6) (dd r:Addr) (e:m9) (es:List Int) (rows:eF) (_:vs=[.ref x,.ref dd,.ref r]) (_:jC C CS S H x d wl sh bl kn du bk dS st op (rD pe) ops lines) (_:e.At H dd) (_:e.Ok) (_:br H (.ref r) (itemsOf es)) (_:r≠bk) (_:pe.getLast?=some rows) (_:rows.length≤50) (_:pe.length≤900) (_:lines.length≤900) (_:(40≤rows.length→E (.ref XT) none H)) (_:(rows.length<40→(∃ f,uI (rows++[es]) f)∧∀ (S':Addr→Prop) (H':Hp),jC C CS S' H' x d wl sh bl kn du bk dS st op (rD (pe++[rows++[es]])) (ops++[((pe.length:Nat):Int)]) (lines++[e.line])→Fr S S' bk H H'→Q (.int (rows.length:Nat)) H')):DE C CS XT vs H Q E
theorem rP:aG ["self","deed","items","sheet"] ["self","deed","items"] (az jj):=⟨rfl,rfl,rfl,by decide +kernel,rfl,by decide +kernel,by decide +kernel⟩
theorem FH(rows:eF)(es:List Int):jb rows rows.length es=rows++[es]:=by
 unfold jb
 rw[kO,List.drop_of_length_le (by omega),nA]
structure UC(K:PySem.W.Frag)(mg:Str→Option Value)(C:Addr):Prop where
 en:∃ f g,aQ K C "enter" "Library.enter" bS I0 f g
 ch:∃ f g,aQ K C "change" "Library.change" cJ Kq f g
 many:∃ f g,aQ K C "many" "Library.many" jX ja f g
 bg:∃ f g,aQ K C "begin" "Library.begin" jj Vm f g
theorem tW{C CS:Addr}{S:Addr→Prop}{H:Hp}{x d wl sh bl kn du bk dS st op:Addr}{pe:l5}{ops:List Int}{lines:l6}{rows:eF}(L:jC C CS S H x d wl sh bl kn du bk dS st op (rD pe) ops lines)(hl:pe.getLast?=some rows):ops.length=rows.length:=by
 obtain⟨last,z1,z2⟩:=L.W.MS.Cs
 rw[iI hl]at z1
 cases z1
 rw[z2,cO]
theorem xN{f C CS XS XM XT:Addr}{fd:FuncData}(F:iD K "begin" "Library.begin" jj f fd)(L:Bj K mg C CS XS XM XT)(A1:Hw K mg CS)(A2:Km K mg)(A3:UC K mg C):aB P w K mg base (oJ P w) 6 f fd Vm (DE C CS XT):=by
 obtain⟨⟨_,_,e1⟩,⟨_,_,aT⟩,⟨_,_,j0⟩,_⟩:=A3
 have dY:aB P w K mg base bV 5 _ _ Kq (qJ C CS):=iZ aT.F L A1 A2 e1
 obtain⟨⟨_,_,d1⟩,_⟩:=A1
 have Bk:aB P w K mg base bV 2 _ _ ja (DB C CS):=yG j0.F L d1
 obtain⟨M,⟨fi,aK⟩,nw,ns,Ga,nk,nd,FE,dB,G⟩:=L
 obtain⟨DF,DG⟩:=G.s
 refine F7 F rP (fun vs H Q E h=>?_) (fun cdv A outer s H vs Q E hr h=>?_)
 ·obtain⟨S,x,d,wl,sh,bl,kn,du,bk,dS,st,op,pe,ops,lines,dd,r,e,es,rows,rfl,_⟩:=h
  rfl
 obtain⟨S,x,d,wl,sh,bl,kn,du,bk,dS,st,op,pe,ops,lines,dd,r,e,es,rows,rfl,L,de,ok,hi,UB,hl,l1,l2,l3,k1,k2⟩:=h
 have lo:=tW L hl
 refine⟨_,(ak (aU (i:=3) rP.nd rfl (Or.inl rfl) (cV (pv 0) aK.cl j0.mt Bk (hr.mono (by decide)) j0.b .nil dz))
   (ak (cC (bR OQ (pv 3) (HJ (v:=.int 40) rfl DG ⟨DF,rfl⟩) (bZ _))
   (ao (sL PySem.F.excBase_ValueError dB.x dB.m rfl zK (aa (vQ (qh (qV (pv 3) (qh zL)))) ah)))
   bL)
   (ak (bw (cI (pv 0) aK.cl aT.mt dY (hr.mono (by decide)) aT.b .nil dz (aa (pv 1) (aa (pv 3) (aa (pv 2) ah)))))
   (ao (aR (pv 3)))))),?_⟩
 refine⟨_,rfl,x,d,_,rfl,L.hx,rfl,S,x,d,wl,sh,bl,kn,du,bk,dS,st,op,rD pe,ops,lines,rfl,L,?_⟩
 rw[lo]
 refine⟨_,rfl,_,_,rfl,rfl,_,rfl,dQ (fun c=>?_) (fun c=>?_)⟩
 ·have c':=of_decide_eq_true c
  exact⟨_,rfl,_,rfl,(Ow (by omega)).log,fun y=>⟨(by show 1≤sizeLine;decide),k1 (by omega)⟩⟩
 ·have c':¬ ((rows.length:Nat):Int)≥40:=fun z=>c (decide_eq_true z)
  obtain⟨⟨f,B⟩,k3⟩:=k2 (by omega)
  refine⟨_,rfl,x,d,_,rfl,L.hx,rfl,_,rfl,_,rfl,_,rfl,S,x,d,wl,sh,bl,kn,du,bk,dS,st,op,pe,ops,lines,dd,r,e,rows.length,es,rows,f,rfl,L,de,ok,hi,UB,hl,iC _,l1,l2,l3,by rw[FH];exact B,fun S' H' L' fr=>?_⟩
  rw[FH]at L'
  have eo:Mv ops rows.length rows.length pe.length=ops++[((pe.length:Nat):Int)]:=by unfold Mv;rw[if_pos rfl]
  rw[eo]at L'
  exact⟨_,rfl,k3 S' H' L' fr⟩
abbrev frW:List Nat:=(Str.ofString "fresh").cps.toList
theorem Mx:(m9.plain frW []).Ok:=⟨by decide +kernel,fun _ z=>by cases z⟩
inductive DH(C CS XT:Addr)(vs:List V)(H:Hp)(Q:VK)(E:XK):Prop
 | mk (S:Addr→Prop) (x d wl sh bl kn du bk dS st op:Addr) (pe:l5) (ops:List Int) (lines:l6) (rows:eF) (_:vs=[.ref x]) (_:jC C CS S H x d wl sh bl kn du bk dS st op (rD pe) ops lines) (_:pe.getLast?=some rows) (_:rows.length≤50) (_:pe.length≤900) (_:lines.length≤900) (_:(40≤rows.length→∀ H',aF H H'→E (.ref XT) none H')) (_:(rows.length<40→(∃ f,uI (rows++[[]]) f)∧∀ (S':Addr→Prop) (H':Hp),jC C CS S' H' x d wl sh bl kn du bk dS st op (rD (pe++[rows++[[]]])) (ops++[((pe.length:Nat):Int)]) (lines++[(m9.plain frW []).line])→Fr S S' bk H H'→Q (.int (rows.length:Nat)) H')):DH C CS XT vs H Q E
theorem yH:aG ["self"] ["self"] (az ig):=⟨rfl,rfl,rfl,by decide +kernel,rfl,by decide +kernel,by decide +kernel⟩
theorem xO{f C CS XS XM XT:Addr}{fd:FuncData}(F:iD K "fresh" "Library.fresh" ig f fd)(L:Bj K mg C CS XS XM XT)(A1:Hw K mg CS)(A2:Km K mg)(A3:UC K mg C):aB P w K mg base (oJ P w) 7 f fd ja (DH C CS XT):=by
 obtain⟨_,_,jD⟩:=A3.bg
 have Ay:aB P w K mg base (oJ P w) 6 _ _ Vm (DE C CS XT):=xN jD.F L A1 A2 A3
 obtain⟨M,⟨fi,aK⟩,nw,ns,Ga,nk,nd,FE,dB,G⟩:=L
 refine F7 F yH (fun vs H Q E h=>?_) (fun cdv A outer s H vs Q E hr h=>?_)
 ·obtain⟨S,x,d,wl,sh,bl,kn,du,bk,dS,st,op,pe,ops,lines,rows,rfl,_⟩:=h
  rfl
 obtain⟨S,x,d,wl,sh,bl,kn,du,bk,dS,st,op,pe,ops,lines,rows,rfl,L,hl,l1,l2,l3,k1,k2⟩:=h
 refine⟨_,(ao (aR (cI (pv 0) aK.cl jD.mt Ay (hr.mono (by decide)) jD.b .nil lZ (aa (eK (aa bO ah)) (aa (bJ ah) ah))))),?_⟩
 refine⟨_,rfl,x,d,_,rfl,L.hx,rfl,(by show 1≤sizeLine;decide),fun t ht=>⟨(by show 0≤sizeLine;decide),fun r hr0=>?_⟩⟩
 have s1:aF H (upd (upd H t (.tup [.str (Str.ofString "fresh")])) r (.lst [])):=(aj ht _).trans (aj hr0 _)
 have ht1:(upd (upd H t (.tup [.str (Str.ofString "fresh")])) r (.lst [])) t=some (.tup [.str (Str.ofString "fresh")]):=aj hr0 _ _ _ af
 have hr1:(upd (upd H t (.tup [.str (Str.ofString "fresh")])) r (.lst [])) r=some (.lst []):=af
 have nr:r≠bk:=fun z=>by
  have:=aj ht (.tup [.str (Str.ofString "fresh")]) _ _ L.hb
  rw[← z,hr0]at this
  cases this
 generalize upd (upd H t (.tup [.str (Str.ofString "fresh")])) r (.lst [])=H1 at s1 ht1 hr1
 refine⟨S,x,d,wl,sh,bl,kn,du,bk,dS,st,op,pe,ops,lines,t,r,.plain frW [],[],rows,rfl,L.same s1,by show H1 t=_;rw[ht1,C5];rfl,Mx,⟨r,[],rfl,hr1,.nil⟩,nr,hl,l1,l2,l3,fun c=>k1 c H1 s1,fun c=>?_⟩
 obtain⟨B,k3⟩:=k2 c
 exact⟨B,fun S' H' L' fr=>k3 S' H' L' (fr.same s1)⟩
theorem oh{H H1:Hp}{xw dw:Addr}{o:HO}(h1:H xw=none)(h2:H dw=none)(k:cS xw (upd (upd H dw (.own xw)) xw o) H1):aF H H1:=fun a ob e=>k a ob (by rw[aC (au e h1),aC (au e h2)];exact e) (au e h1)
theorem Sh.nh{C C':Addr}{S:Addr→Prop}{H H':Hp}{x d st op l d':Addr}{past:nF}{ops:List Int}{fs:List (Str × V)}(h:Sh C S H x d st op past ops)(hl:H l=some (.ins C' d' fs))(nl:¬ S l)(k:cS l H H'):Sh C S H' x d st op past ops :=
 h.fr (fun a ob e z=>k a ob e (fun q=>nl (by rw[← q];exact z))) (fun a xs e=>k _ _ e (cT e hl (by intro z;cases z)))
structure R0(K:PySem.W.Frag)(mg:Str→Option Value)(fS fZ:Addr):Prop where
 win:∃ f g,ay K mg "windows" dZ nv f g
 bel:∃ f g,ay K mg "below" ly lS f g
 ir:∃ f g,ay K mg "item_row" eX wM f g
 pl:∃ f g,ay K mg "plain" lu eY f g
 vb:∃ f g,ay K mg "views_below" dJ lS f g
 sh:∃ g,ay K mg "shown" zA wN fS g
 sz:∃ g,ay K mg "size" ssize eY fZ g
structure Seen(rows:eF)(sh:Int→List Int):Prop where
 es:∀ es∈rows,es.length≤1000
 sd:Sound rows
 rk:Io rows
 ss:Ff rows sh
 ln:∀ x:Int,0≤x→x<rows.length→(sh x).length≤10000
inductive sV(C CS XS:Addr)(vs:List V)(H:Hp)(Q:VK)(E:XK):Prop
 | mk (S:Addr→Prop) (x d wl sh bl kn du bk dS st op:Addr) (pe:l5) (ops:List Int) (lines:l6) (rows:eF) (s:Int) (_:vs=[.ref x,.int s]) (_:jC C CS S H x d wl sh bl kn du bk dS st op (rD pe) ops lines) (_:pe.getLast?=some rows) (_:rows.length≤50) (_:pe.length≤900) (_:qW s) (_:(¬ Aq rows.length s→E (.ref XS) none H)) (_:(Aq rows.length s→∃ f,Seen rows f∧∀ (o:Addr) (H':Hp),bX H' o (rowOf (f s))→aF H H'→H o=none→Q (.ref o) H')):sV C CS XS vs H Q E
theorem yI:aG ["self","sheet"] ["self","sheet"] (az dN):=⟨rfl,rfl,rfl,by decide +kernel,rfl,by decide +kernel,by decide +kernel⟩
theorem mH{f C CS XS XM XT fS fZ:Addr}{fd:FuncData}(F:iD K "shown" "Library.shown" dN f fd)(L:Bj K mg C CS XS XM XT)(A1:Hw K mg CS)(A4:R0 K mg fS fZ):aB P w K mg base (oJ P w) 5 f fd wI (sV C CS XS):=by
 obtain⟨⟨_,_,d1⟩,⟨_,_,d2⟩,⟨_,_,aN⟩,⟨_,_,d4⟩,⟨_,_,d7⟩,⟨_,_,bI⟩,_⟩:=A1
 obtain⟨⟨_,_,w1⟩,⟨_,_,w2⟩,⟨_,_,w3⟩,⟨_,_,w4⟩,⟨_,_,w5⟩,⟨_,Az⟩,_⟩:=A4
 obtain⟨M,⟨fi,aK⟩,nw,ns,Ga,nk,nd,FE,dB,G⟩:=L
 have gH:aB P w K mg base bV 4 _ _ ja (vj CS):=jZ bI.F M d2 d4 d7
 have cN:aB P w K mg base (oJ P w) 2 _ _ wI (qH CS XS):=gB aN.F M d1
 obtain⟨T,⟨fj,bH⟩,n1,n2,dP,cQ⟩:=M
 have Rm:aB P w K mg base bV 4 _ _ wN Dg:=L4 Az.F T w1 w2 w3 w4 w5
 refine F7 F yI (fun vs H Q E h=>?_) (fun cdv A outer s H vs Q E hr h=>?_)
 ·obtain⟨S,x,d,wl,sh,bl,kn,du,bk,dS,st,op,pe,ops,lines,rows,s,rfl,_⟩:=h
  rfl
 obtain⟨S,x,d,wl,sh,bl,kn,du,bk,dS,st,op,pe,ops,lines,rows,s,rfl,L,hl,l1,l2,fs,k1,k2⟩:=h
 have lo:=tW L hl
 have lp:(rD pe).length=pe.length:=cO _
 have hl':=iI hl
 refine⟨_,(ak (bw (cI (ff (pv 0) rfl) bH.cl aN.mt cN (hr.mono (by decide)) aN.b .nil lZ (aa (pv 1) ah)))
   (ao (aR (jM.yU Az (T.zU _ Az.m) Rm hr (aa (cV (ff (pv 0) rfl) bH.cl bI.mt gH (hr.mono (by decide)) bI.b .nil dz) (aa (pv 1) ah)))))),?_⟩
 refine⟨_,rfl,x,C,d,_,.ref sh,rfl,L.hx,aK.cl,ns,rfl,sh,dS,_,rfl,L.W.hx,rfl,_,rfl,S,sh,dS,st,op,rD pe,ops,s,rfl,L.W,⟨by omega,by omega⟩,fs,fun ia=>?_,fun z=>k1 (by rw[← lo];exact z)⟩
 rw[lo]at ia
 obtain⟨f0,sn,k3⟩:=k2 ia
 refine⟨_,rfl,x,C,d,_,.ref sh,rfl,L.hx,aK.cl,ns,rfl,sh,dS,_,rfl,L.W.hx,rfl,S,sh,dS,st,op,rD pe,ops,rfl,L.W,⟨by omega,by omega⟩,fun rws el q H1 fs1 s1=>?_⟩
 rw[hl']at el
 cases el
 obtain⟨fq,rs,hq,al⟩:=fs1
 have hR:iy H1 q (rows.map itemsOf):=by
  refine⟨rs.map V.ref,hq,?_⟩
  have key:∀ {as:List Addr} {ds:List (List Item)},bK (fun r its=>H r=none∧r≠q∧br H1 (.ref r) its) as ds→bK (br H1) (as.map V.ref) ds:=by
   intro as ds z
   induction z with
   | nil=>exact .nil
   | cons o t ih=>exact .cons o.2.2 ih
  exact key al
 exact⟨_,rfl,q,rows,s,f0,rfl,hR,by omega,sn.es,sn.sd,sn.rk,ia.1,ia.2,sn.ss,sn.ln,fun o H2 ho s2 fo=>k3 o H2 ho (s1.trans s2) (aS s1 fo)⟩
theorem jC.fr{C CS:Addr}{S:Addr→Prop}{H H':Hp}{x d wl sh bl kn du bk dS st op:Addr}{past:nF}{ops:List Int}{lines:l6}(L:jC C CS S H x d wl sh bl kn du bk dS st op past ops lines)(k:∀ a ob,H a=some ob→(S a∨a=bk∨a=x)→H' a=some ob)(t:∀ a xs,H a=some (.tup xs)→H' a=some (.tup xs)):jC C CS S H' x d wl sh bl kn du bk dS st op past ops lines :=
 ⟨k _ _ L.hx (.inr (.inr rfl)),L.W.fr (fun a ob e z=>k a ob e (.inl z)) t,k _ _ L.hb (.inr (.inl rfl)),L.nx,L.nb⟩
structure Bm(C CS CW CB:Addr)(U S SW:Addr→Prop)(H:Hp)(x d wl sh bl kn du bk dS st op dw sg ow pw db tb:Addr)(pe:l5)(ops:List Int)(lines:l6)(aH:lR)(nW:Nat)(bW:Row):Prop where
 L:jC C CS S H x d wl sh bl kn du bk dS st op (rD pe) ops lines
 W:We CW SW H wl dw sg ow pw nW aH
 B:Bl CB H bl db tb
 R:bX H tb bW
 Rn:Ris bW
 dj:∀ a,SW a→¬ S a∧a≠bk∧a≠x
 db:¬ S bl∧¬ SW bl∧bl≠bk
 dt:¬ S tb∧¬ SW tb∧tb≠bk
 u:∀ a,U a↔S a∨SW a∨a=bk∨a=x∨a=bl∨a=tb
inductive zc(C CS CW CB:Addr)(U:Addr→Prop)(H:Hp)(x:Addr)(pe:l5)(lines:l6)(aH:lR)(nW:Nat)(bW:Row):Prop
 | mk (S SW:Addr→Prop) (d wl sh bl kn du bk dS st op dw sg ow pw db tb:Addr) (ops:List Int) (_:Bm C CS CW CB U S SW H x d wl sh bl kn du bk dS st op dw sg ow pw db tb pe ops lines aH nW bW):zc C CS CW CB U H x pe lines aH nW bW
def MV(U U':Addr→Prop)(H H':Hp):Prop:=(∀ a,U' a→U a∨H a=none)∧(∀ a ob,H a=some ob→¬ U a→H' a=some ob)∧∀ a xs,H a=some (.tup xs)→H' a=some (.tup xs)
theorem MV.pre{U U':Addr→Prop}{H0 H H':Hp}(s:aF H0 H)(f:MV U U' H H'):MV U U' H0 H':=⟨fun a z=>(f.1 a z).imp id fun y=>aS s y,fun a ob e n=>f.2.1 a ob (s _ _ e) n,fun a xs e=>f.2.2 a xs (s _ _ e)⟩
theorem Bm.fr{C CS CW CB:Addr}{U S SW:Addr→Prop}{H H':Hp}{x d wl sh bl kn du bk dS st op dw sg ow pw db tb:Addr}{pe:l5}{ops:List Int}{lines:l6}{aH:lR}{nW:Nat}{bW:Row}(h:Bm C CS CW CB U S SW H x d wl sh bl kn du bk dS st op dw sg ow pw db tb pe ops lines aH nW bW)(k:∀ a ob,H a=some ob→U a→H' a=some ob)(t:∀ a xs,H a=some (.tup xs)→H' a=some (.tup xs)):Bm C CS CW CB U S SW H' x d wl sh bl kn du bk dS st op dw sg ow pw db tb pe ops lines aH nW bW:=by
 obtain⟨L,W,B,R,Rn,dj,db',dt,u⟩:=h
 refine⟨L.fr (fun a ob e z=>k a ob e ((u a).mpr ?_)) t,W.fr (fun a ob e z=>k a ob e ((u a).mpr (.inr (.inl z)))) t,k _ _ B ((u _).mpr (.inr (.inr (.inr (.inr (.inl rfl)))))),R.two (fun xs e=>k _ _ e ((u _).mpr (.inr (.inr (.inr (.inr (.inr rfl))))))) t,Rn,dj,db',dt,u⟩
 rcases z with z|z|z
 ·exact .inl z
 ·exact .inr (.inr (.inl z))
 ·exact .inr (.inr (.inr (.inl z)))
theorem Bm.same{C CS CW CB:Addr}{U S SW:Addr→Prop}{H H':Hp}{x d wl sh bl kn du bk dS st op dw sg ow pw db tb:Addr}{pe:l5}{ops:List Int}{lines:l6}{aH:lR}{nW:Nat}{bW:Row}(h:Bm C CS CW CB U S SW H x d wl sh bl kn du bk dS st op dw sg ow pw db tb pe ops lines aH nW bW)(s:aF H H'):Bm C CS CW CB U S SW H' x d wl sh bl kn du bk dS st op dw sg ow pw db tb pe ops lines aH nW bW:=h.fr (fun a ob e _=>s a ob e) fun a xs e=>s _ _ e
theorem zc.fr{C CS CW CB:Addr}{U:Addr→Prop}{H H':Hp}{x:Addr}{pe:l5}{lines:l6}{aH:lR}{nW:Nat}{bW:Row}(h:zc C CS CW CB U H x pe lines aH nW bW)(k:∀ a ob,H a=some ob→U a→H' a=some ob)(t:∀ a xs,H a=some (.tup xs)→H' a=some (.tup xs)):zc C CS CW CB U H' x pe lines aH nW bW:=by
 obtain⟨S,SW,d,wl,sh,bl,kn,du,bk,dS,st,op,dw,sg,ow,pw,db,tb,ops,z⟩:=h
 exact⟨S,SW,d,wl,sh,bl,kn,du,bk,dS,st,op,dw,sg,ow,pw,db,tb,ops,z.fr k t⟩
theorem zc.same{C CS CW CB:Addr}{U:Addr→Prop}{H H':Hp}{x:Addr}{pe:l5}{lines:l6}{aH:lR}{nW:Nat}{bW:Row}(h:zc C CS CW CB U H x pe lines aH nW bW)(s:aF H H'):zc C CS CW CB U H' x pe lines aH nW bW:=h.fr (fun a ob e _=>s a ob e) fun a xs e=>s _ _ e
theorem Bm.wD{C CS CW CB:Addr}{U S S' SW:Addr→Prop}{H H':Hp}{x d wl sh bl kn du bk dS st op dw sg ow pw db tb:Addr}{pe Sb:l5}{ops ops':List Int}{lines iB:l6}{aH:lR}{nW:Nat}{bW:Row}(h:Bm C CS CW CB U S SW H x d wl sh bl kn du bk dS st op dw sg ow pw db tb pe ops lines aH nW bW)(L':jC C CS S' H' x d wl sh bl kn du bk dS st op (rD Sb) ops' iB)(fr:Fr S S' bk H H'):∃ U',zc C CS CW CB U' H' x Sb iB aH nW bW∧MV U U' H H':=by
 obtain⟨L,W,B,R,Rn,dj,db',dt,u⟩:=h
 obtain⟨as,hR,_⟩:=id R
 have nS':∀ a ob,H a=some ob→¬ S a→¬ S' a:=fun a ob e n z=>by
  rcases fr.1 a z with y|y
  ·exact n y
  ·rw[e]at y;cases y
 refine⟨fun a=>S' a∨SW a∨a=bk∨a=x∨a=bl∨a=tb,⟨S',SW,d,wl,sh,bl,kn,du,bk,dS,st,op,dw,sg,ow,pw,db,tb,ops',L',W.fr (fun a ob e z=>fr.2.1 _ _ e (dj a z).1 (dj a z).2.1) fr.2.2,fr.2.1 _ _ B db'.1 db'.2.2,R.two (fun xs e=>fr.2.1 _ _ e dt.1 dt.2.2) fr.2.2,Rn,fun a z=>?_,⟨nS' _ _ B db'.1,db'.2⟩,⟨nS' _ _ hR dt.1,dt.2⟩,fun a=>Iff.rfl⟩,fun a z=>?_,fun a ob e n=>?_,fr.2.2⟩
 ·obtain⟨ob,e⟩:=W.al a z
  exact⟨nS' _ _ e (dj a z).1,(dj a z).2⟩
 ·rcases z with z|z
  ·exact (fr.1 a z).imp (fun y=>(u a).mpr (.inl y)) id
  ·exact .inl ((u a).mpr (.inr z))
 ·exact fr.2.1 a ob e (fun z=>n ((u a).mpr (.inl z))) (fun z=>n ((u a).mpr (.inr (.inr (.inl z)))))
structure yJ(K:PySem.W.Frag)(mg:Str→Option Value)(C CS CW CB XS XM XT XO XP:Addr):Prop where
 M:Bj K mg C CS XS XM XT
 cw:∃ f,ClsAt K mg "Well" CW f
 w1:bh K CW "signs"
 w2:bh K CW "owners"
 w3:bh K CW "pourings"
 cb:∃ f,ClsAt K mg "Blots" CB f
 b1:bh K CB "stains"
 zo:C4 K mg "OutOfInk" XO
 zp:ExcAt K mg XP
structure Ro(K:PySem.W.Frag)(mg:Str→Option Value)(CW CB:Addr):Prop where
 sz:∃ f g,aQ K CW "size" "Well.size" kg ja f g
 pr:∃ f g,aQ K CW "pour" "Well.pour" oA M5 f g
 ca:∃ f g,aQ K CW "check_address" "Well.check_address" jW RI f g
 sg:∃ f g,aQ K CW "sign" "Well.sign" uP RI f g
 hl:∃ f g,aQ K CW "holds" "Well.holds" kF OI f g
 hd:∃ f g,aQ K CB "hides" "Blots.hides" qS RI f g
 fr:∃ f g,ay K mg "first_reaching" nC ["holes","start"] f g
 wi:∃ f g,ay K mg "within" CN ["holes","address"] f g
 ad:∃ f g,ay K mg "addresses" uO eY f g
inductive DJ(C CS CW CB:Addr)(vs:List V)(H:Hp)(Q:VK)(E:XK):Prop
 | mk (U:Addr→Prop) (x:Addr) (pe:l5) (lines:l6) (aH:lR) (nW:Nat) (bW:Row) (h:Int) (cs:List Nat) (rows:eF) (_:vs=[.ref x,.int h,.str (txt cs)]) (_:zc C CS CW CB U H x pe lines aH nW bW) (_:wj h) (_:cs.length≤200) (_:aH.length≤90000) (_:nW≤900) (_:pe.getLast?=some rows) (_:rows.length≤50) (_:pe.length≤900) (_:lines.length≤900) (_ :
 ∀ (U':Addr→Prop) (q:Addr) (H':Hp),zc C CS CW CB U' H' x (pe++[rows]) (lines++[(m9.Be h cs).line]) (aH++rV h cs) (nW+1) bW→MV U U' H H'→H' q=some (.tup [.int (aH.length:Nat),.int ((aH++rV h cs).length:Nat)])→Q (.ref q) H'):DJ C CS CW CB vs H Q E
theorem sW:aG ["self","hand","text","stretch"] ["self","hand","text"] (az iV):=⟨rfl,rfl,rfl,by decide +kernel,rfl,by decide +kernel,by decide +kernel⟩
theorem yK{f C CS CW CB XS XM XT XO XP fE:Addr}{fd gE:FuncData}(F:iD K "pour" "Library.pour" iV f fd)(X:yJ K mg C CS CW CB XS XM XT XO XP)(A1:Hw K mg CS)(A2:Km K mg)(A5:Ro K mg CW CB)(aP:aQ K C "enter" "Library.enter" bS I0 fE gE):aB P w K mg base bV 4 f fd M5 (DJ C CS CW CB):=by
 obtain⟨LM,⟨_,iH⟩,w1,w2,w3,⟨_,qt⟩,b1,mJ,Z⟩:=X
 obtain⟨_,⟨_,_,d2⟩,_,_,_,_,⟨_,_,d9⟩⟩:=A1
 obtain⟨_,_,_,_,_,_,_,⟨_,_,iU⟩,⟨_,_,v9⟩,⟨_,_,v10⟩⟩:=A2
 have pB:aB P w K mg base bV 3 _ _ I0 (zb C CS):=qI aP.F LM v9 v10 iU d2 d9
 obtain⟨⟨_,_,s1⟩,⟨_,_,pC⟩,_⟩:=A5
 obtain⟨⟨T,_,_,_,_,_⟩,⟨fi,aK⟩,nw,ns,Ga,nk,nd,FE,dB,G⟩:=LM
 have Hx:aB P w K mg base bV 2 _ _ M5 (Hv CW):=Dv pC.F T iH w1 w2 w3 s1
 refine F.ok sW (fun vs H Q E h=>?_) (fun cdv A outer s H vs Q E hr h=>?_)
 ·obtain⟨U,x,pe,lines,aH,nW,bW,h,cs,rows,rfl,_⟩:=h
  rfl
 obtain⟨U,x,pe,lines,aH,nW,bW,h,cs,rows,rfl,⟨S,SW,d,wl,sh,bl,kn,du,bk,dS,st,op,dw,sg,ow,pw,db,tb,ops,LU⟩,fh,lc,li,ln,hl,l1,l2,l3,k⟩:=h
 obtain⟨L,W,B,R,Rn,dj,db',dt,u⟩:=id LU
 refine⟨_,(ak (aU (i:=3) sW.nd rfl (Or.inl rfl) (cI (ff (pv 0) rfl) iH.cl pC.mt Hx (hr.mono (by decide)) pC.b .nil dz (aa (pv 1) (aa (pv 2) ah))))
   (ak (bw (cI (pv 0) aK.cl aP.mt pB (hr.mono (by decide)) aP.b .nil dz (aa (eK (aa bO (aa (pv 1) (aa (pv 2) ah)))) (aa (bJ ah) ah))))
   (ao (aR (pv 3))))),?_⟩
 refine⟨_,rfl,x,C,d,_,.ref wl,rfl,L.hx,aK.cl,nw,rfl,wl,dw,_,rfl,W.hx,rfl,_,rfl,_,rfl,SW,wl,dw,sg,ow,pw,nW,aH,h,cs,rfl,W,by omega,by omega,fun Pn q H1 W1 hq sub fr tp=>?_⟩
 have nSW:∀ a ob,H a=some ob→¬ SW a→¬ Pn a:=fun a ob e n z=>by
  rcases sub a z with y|y
  ·exact n y
  ·rw[e]at y;cases y
 have nk1:∀ a ob,H a=some ob→(S a∨a=bk∨a=x)→¬ SW a:=fun a ob e z y=>by
  obtain⟨y1,y2,y3⟩:=dj a y
  rcases z with z|z|z
  ·exact y1 z
  ·exact y2 z
  ·exact y3 z
 have L1:jC C CS S H1 x d wl sh bl kn du bk dS st op (rD pe) ops lines:=L.fr (fun a ob e z=>fr _ _ e (nk1 a ob e z)) tp
 obtain⟨as,hR,_⟩:=id R
 have LU1:Bm C CS CW CB (fun a=>S a∨Pn a∨a=bk∨a=x∨a=bl∨a=tb) S Pn H1 x d wl sh bl kn du bk dS st op dw sg ow pw db tb pe ops lines (aH++rV h cs) (nW+1) bW:=by
  refine⟨L1,W1,fr _ _ B db'.2.1,R.two (fun xs e=>fr _ _ e dt.2.1) tp,Rn,fun a z=>?_,⟨db'.1,nSW _ _ B db'.2.1,db'.2.2⟩,⟨dt.1,nSW _ _ hR dt.2.1,dt.2.2⟩,fun a=>Iff.rfl⟩
  rcases sub a z with y|y
  ·exact dj a y
  ·refine⟨fun q'=>?_,fun q'=>?_,fun q'=>?_⟩
   ·obtain⟨ob,e⟩:=L.W.al a q'
    rw[y]at e;cases e
   ·rw[q',L.hb]at y;cases y
   ·rw[q',L.hx]at y;cases y
 refine⟨_,rfl,x,d,_,rfl,L1.hx,rfl,_,rfl,_,rfl,(by show 3≤sizeLine;decide),fun t ht=>⟨(by show 0≤sizeLine;decide),fun c hc=>?_⟩⟩
 have s2:aF H1 (upd (upd H1 t (.tup [.str (Str.ofString "pour"),.int h,.str (txt cs)])) c (.lst [])):=(aj ht _).trans (aj hc _)
 have JE:(upd (upd H1 t (.tup [.str (Str.ofString "pour"),.int h,.str (txt cs)])) c (.lst [])) t=some (.tup [.str (Str.ofString "pour"),.int h,.str (txt cs)]):=aj hc _ _ _ af
 have hc2:(upd (upd H1 t (.tup [.str (Str.ofString "pour"),.int h,.str (txt cs)])) c (.lst [])) c=some (.lst (([]:List Addr).map V.ref)):=af
 have nc:c≠bk:=fun z=>by
  have:=aj ht (.tup [.str (Str.ofString "pour"),.int h,.str (txt cs)]) _ _ L1.hb
  rw[← z,hc]at this
  cases this
 generalize upd (upd H1 t (.tup [.str (Str.ofString "pour"),.int h,.str (txt cs)])) c (.lst [])=H2 at s2 JE hc2
 have lp:(rD pe).length=pe.length:=cO _
 have MW:=LU1.same s2
 refine⟨S,x,d,wl,sh,bl,kn,du,bk,dS,st,op,rD pe,ops,lines,t,c,.Be h cs,[],[],rows.map itemsOf,rfl,MW.L,JE,⟨fh,lc⟩,hc2,nc,.nil,(fun _ z=>by cases z),iI hl,(fun i ch e=>by cases e),(by show 0≤200;decide),by rw[cO];omega,by omega,by omega,fun S' H3 L3 Vt=>?_⟩
 have ep:rD pe++[rB (rows.map itemsOf) []]=rD (pe++[rows]):=by
  show _=(pe++[rows]).map _
  rw[nu]
  rfl
 have eo:ops++List.replicate ((rB (rows.map itemsOf) []).length-(rows.map itemsOf).length) (((rD pe).length:Nat):Int)=ops:=by
  show ops++List.replicate ((rows.map itemsOf).length-(rows.map itemsOf).length) _=ops
  rw[Nat.sub_self]
  exact nA _
 rw[ep,eo]at L3
 obtain⟨U',hL',f'⟩:=MW.wD L3 Vt
 refine⟨_,rfl,k U' q H3 hL' ⟨fun a z=>?_,fun a ob e n=>?_,fun a xs e=>f'.2.2 _ _ (s2 _ _ (tp _ _ e))⟩ (f'.2.2 _ _ (s2 _ _ hq))⟩
 ·rcases f'.1 a z with y|y
  ·rcases y with y|y|y
   ·exact .inl ((u a).mpr (.inl y))
   ·exact (sub a y).imp (fun w=>(u a).mpr (.inr (.inl w))) id
   ·exact .inl ((u a).mpr (.inr (.inr y)))
  ·have y1:=aS s2 y
   cases e:H a with
   | none=>exact .inr rfl
   | some ob =>
    by_cases z2:SW a
    ·exact .inl ((u a).mpr (.inr (.inl z2)))
    ·rw[fr _ _ e z2]at y1;cases y1
 ·have n1:¬ SW a:=fun z=>n ((u a).mpr (.inr (.inl z)))
  refine f'.2.1 a ob (s2 _ _ (fr _ _ e n1)) fun z=>?_
  rcases z with z|z|z
  ·exact n ((u a).mpr (.inl z))
  ·exact nSW _ _ e n1 z
  ·exact n ((u a).mpr (.inr (.inr z)))
inductive AA(C CS CW CB:Addr)(vs:List V)(H:Hp)(Q:VK)(E:XK):Prop
 | mk (U:Addr→Prop) (x:Addr) (pe:l5) (lines:l6) (aH:lR) (nW:Nat) (bW:Row) (_:vs=[.ref x]) (_:zc C CS CW CB U H x pe lines aH nW bW) (_:Q (.int (aH.length:Nat)) H):AA C CS CW CB vs H Q E
inductive sX(C CS CW CB XO:Addr)(vs:List V)(H:Hp)(Q:VK)(E:XK):Prop
 | mk (U:Addr→Prop) (x r:Addr) (pe:l5) (lines:l6) (aH:lR) (nW:Nat) (bW row:Row) (_:vs=[.ref x,.ref r]) (_:zc C CS CW CB U H x pe lines aH nW bW) (_:bX H r row) (_:row.length≤1000) (_:aH.length≤100000) (_:(qq aH.length row=true→∀ H',aF H H'→Q .jJ H')) (_:(qq aH.length row=false→∀ H',aF H H'→E (.ref XO) none H')):sX C CS CW CB XO vs H Q E
theorem Bo:aG ["self"] ["self"] (az jK):=⟨rfl,rfl,rfl,by decide +kernel,rfl,by decide +kernel,by decide +kernel⟩
theorem sY:aG ["self","row"] ["self","row"] (az d8):=⟨rfl,rfl,rfl,by decide +kernel,rfl,by decide +kernel,by decide +kernel⟩
theorem AB{f C CS CW CB XS XM XT XO XP:Addr}{fd:FuncData}(F:iD K "ink" "Library.ink" jK f fd)(X:yJ K mg C CS CW CB XS XM XT XO XP)(A5:Ro K mg CW CB):aB P w K mg base bV 2 f fd ja (AA C CS CW CB):=by
 obtain⟨LM,⟨_,iH⟩,w1,w2,w3,⟨_,qt⟩,b1,mJ,Z⟩:=X
 obtain⟨⟨T,_,_,_,_,_⟩,⟨fi,aK⟩,nw,ns,Ga,nk,nd,FE,dB,G⟩:=LM
 obtain⟨_,_,cD⟩:=A5.sz
 have mG:aB P w K mg base bV 1 _ _ ja (wC CW):=rC cD.F T iH.cl w1
 refine F.ok Bo (fun vs H Q E h=>?_) (fun cdv A outer s H vs Q E hr h=>?_)
 ·obtain⟨U,x,pe,lines,aH,nW,bW,rfl,_⟩:=h
  rfl
 obtain⟨U,x,pe,lines,aH,nW,bW,rfl,⟨S,SW,d,wl,sh,bl,kn,du,bk,dS,st,op,dw,sg,ow,pw,db,tb,ops,LU⟩,k⟩:=h
 refine⟨_,(ao (aR (cV (ff (pv 0) rfl) iH.cl cD.mt mG (hr.mono (by decide)) cD.b .nil dz))),?_⟩
 exact⟨_,rfl,x,C,d,_,.ref wl,rfl,LU.L.hx,aK.cl,nw,rfl,wl,dw,_,rfl,LU.W.hx,rfl,wl,dw,sg,ow,pw,aH,rfl,LU.W.hx,LU.W.hs,k⟩
theorem rW{f C CS CW CB XS XM XT XO XP fI:Addr}{fd gI:FuncData}(F:iD K "check_held" "Library.check_held" d8 f fd)(X:yJ K mg C CS CW CB XS XM XT XO XP)(A5:Ro K mg CW CB)(iR:aQ K C "ink" "Library.ink" jK ja fI gI):aB P w K mg base (oJ P w) 3 f fd OI (sX C CS CW CB XO):=by
 have DK:aB P w K mg base bV 2 _ _ ja (AA C CS CW CB):=AB iR.F X A5
 obtain⟨LM,⟨_,iH⟩,w1,w2,w3,⟨_,qt⟩,b1,mJ,Z⟩:=X
 obtain⟨⟨T,_,_,_,_,_⟩,⟨fi,aK⟩,nw,ns,Ga,nk,nd,FE,dB,G⟩:=LM
 obtain⟨⟨_,_,cD⟩,_,_,_,⟨_,_,ni⟩,_⟩:=A5
 have FI:aB P w K mg base bV 2 _ _ OI (Dw CW):=Bh ni.F T iH w1 cD
 refine F7 F sY (fun vs H Q E h=>?_) (fun cdv A outer s H vs Q E hr h=>?_)
 ·obtain⟨U,x,r,pe,lines,aH,nW,bW,row,rfl,_⟩:=h
  rfl
 obtain⟨U,x,r,pe,lines,aH,nW,bW,row,rfl,LB,hr1,lr,li,k1,k2⟩:=h
 obtain⟨S,SW,d,wl,sh,bl,kn,du,bk,dS,st,op,dw,sg,ow,pw,db,tb,ops,LU⟩:=id LB
 refine⟨_,(ao (cC (mh (nB (cI (ff (pv 0) rfl) iH.cl ni.mt FI (hr.mono (by decide)) ni.b .nil dz (aa (pv 1) ah))))
   (ao (sL PySem.F.excBase_ValueError mJ.x mJ.m rfl zK (aa (vQ (qh (qV (cV (pv 0) aK.cl iR.mt DK (hr.mono (by decide)) iR.b .nil dz) zL))) ah)))
   bL)),?_⟩
 refine⟨_,rfl,x,C,d,_,.ref wl,rfl,LU.L.hx,aK.cl,nw,rfl,wl,dw,_,rfl,LU.W.hx,rfl,_,rfl,SW,wl,dw,sg,ow,pw,r,nW,aH,row,rfl,LU.W,hr1,lr,fun H1 s1=>⟨_,rfl,?_⟩⟩
 cases g:qq aH.length row with
 | true=>exact iL (k1 g H1 s1)
 | false =>
  have LB1:=LB.same s1
  have LU1:=LU.same s1
  have fl:qW ((aH.length:Nat):Int):=⟨by omega,by omega⟩
  exact lW ⟨_,rfl,x,d,_,rfl,LU1.L.hx,rfl,U,x,pe,lines,aH,nW,bW,rfl,LB1,_,rfl,fl.log,fun y=>⟨(by show 1≤sizeLine;decide),k2 g H1 s1⟩⟩
structure UD(K:PySem.W.Frag)(mg:Str→Option Value):Prop where
 win:∃ f g,ay K mg "windows" dZ nv f g
 bel:∃ f g,ay K mg "below" ly lS f g
 ir:∃ f g,ay K mg "item_row" eX wM f g
 pl:∃ f g,ay K mg "plain" lu eY f g
 vb:∃ f g,ay K mg "views_below" dJ lS f g
 sz:∃ f g,ay K mg "size" ssize eY f g
 cp:∃ f g,ay K mg "check_places" eT mS f g
 go:∃ f g,ay K mg "goes_on" lA Ei f g
 pi:∃ f g,ay K mg "plain_items" gu nv f g
 de:∃ f g,ay K mg "dealt" qU CA f g
 pc:∃ f g,ay K mg "pieces" mP mS f g
 ik:∃ f g,ay K mg "inked" qT eY f g
 pa:∃ f g,ay K mg "put_among" mq Kr f g
 pu:∃ f g,ay K mg "put_items" oq Ku f g
abbrev ptW:List Nat:=(Str.ofString "put").cps.toList
inductive DL(C CS CW CB XS XO XP:Addr)(vs:List V)(H:Hp)(Q:VK)(E:XK):Prop
 | mk (U:Addr→Prop) (x r:Addr) (pe:l5) (lines:l6) (aH:lR) (nW:Nat) (bW row:Row) (s p:Int) (rows:eF) (_:vs=[.ref x,.int s,.int p,.ref r]) (_:zc C CS CW CB U H x pe lines aH nW bW) (_:bX H r row) (_:Ho row) (_:aH.length≤100000) (_:pe.getLast?=some rows) (_:rows.length≤50) (_:pe.length≤900) (_:lines.length≤900) (_:qW s) (_:qW p) (_:(¬ Aq rows.length s→∀ H',aF H H'→E (.ref XS) none H')) (_:(Aq rows.length s→∃ sh,Seen rows sh∧(¬ (0≤p∧p≤(sh s).length)→∀ H',aF H H'→E (.ref XP) none H')∧(0≤p∧p≤(sh s).length→(qq aH.length row=false→∀ H',aF H H'→E (.ref XO) none H')∧(qq aH.length row=true→∀ es,rows[s.toNat]?=some es→(∃ f,uI (jb rows s.toNat (qp sh p es (dH (dO (bT row))))) f) ∧
  ∀ (U':Addr→Prop) (H':Hp),zc C CS CW CB U' H' x (pe++[jb rows s.toNat (qp sh p es (dH (dO (bT row))))]) (lines++[(m9.uG ptW [s,p] row).line]) aH nW bW→MV U U' H H'→Q .jJ H')))):DL C CS CW CB XS XO XP vs H Q E
theorem uJ:aG ["self","sheet","place","row","items"] ["self","sheet","place","row"] (az nO):=⟨rfl,rfl,rfl,by decide +kernel,rfl,by decide +kernel,by decide +kernel⟩
theorem xP(ns:List Int):tot (rowOf ns)=(ns.length:Int):=by rw[← tG _ (sI _),jr]
theorem IQ{n:Nat}(h:n≤100000):qW ((n:Nat):Int):=⟨by omega,by omega⟩
theorem J9{n:Nat}{row:Row}(h:qq n row=true):∀ p∈row,0≤p.1∧p.1<p.2∧p.2≤n:=fun p hp=>by
 have z:=List.all_eq_true.mp h p hp
 unfold MU at z
 simpa [and_assoc] using z
theorem qW.big{s:Int}(h:qW s):s<10^60:=by
 obtain⟨_,h1⟩:=h
 omega
set_option maxHeartbeats 4000000 in
theorem AD{f C CS CW CB XS XM XT XO XP fS fZ f1 f2 f3 f4 f5:Addr}{fd g1 g2 g3 g4 g5:FuncData}(F:iD K "put" "Library.put" nO f fd)(X:yJ K mg C CS CW CB XS XM XT XO XP)(A1:Hw K mg CS)(A2:Km K mg)(A4:R0 K mg fS fZ)(A5:Ro K mg CW CB)(A6:UD K mg)(aP:aQ K C "enter" "Library.enter" bS I0 f1 g1)(aT:aQ K C "change" "Library.change" cJ Kq f2 g2)(bC:aQ K C "shown" "Library.shown" dN wI f3 g3)(iR:aQ K C "ink" "Library.ink" jK ja f4 g4)(eE:aQ K C "check_held" "Library.check_held" d8 OI f5 g5):aB P w K mg base (oJ P w) 6 f fd PN (DL C CS CW CB XS XO XP):=by
 have ua:aB P w K mg base (oJ P w) 3 _ _ OI (sX C CS CW CB XO):=rW eE.F X A5 iR
 obtain⟨LM,⟨_,iH⟩,w1,w2,w3,⟨_,qt⟩,b1,mJ,Z⟩:=X
 have dY:aB P w K mg base bV 5 _ _ Kq (qJ C CS):=iZ aT.F LM A1 A2 aP
 have jE:aB P w K mg base (oJ P w) 5 _ _ wI (sV C CS XS):=mH bC.F LM A1 A4
 obtain⟨M,⟨fi,aK⟩,nw,ns,Ga,nk,nd,FE,dB,G⟩:=LM
 obtain⟨⟨_,_,d1⟩,⟨_,_,d2⟩,⟨_,_,d3⟩,⟨_,_,d4⟩,⟨_,_,d7⟩,⟨_,_,bI⟩,⟨_,_,d9⟩⟩:=A1
 have gH:aB P w K mg base bV 4 _ _ ja (vj CS):=jZ bI.F M d2 d4 d7
 obtain⟨T,⟨fj,bH⟩,n1,n2,dP,cQ⟩:=M
 obtain⟨⟨_,_,i1⟩,⟨_,_,i2⟩,⟨_,_,i3⟩,⟨_,_,i4⟩,⟨_,_,i5⟩,⟨_,_,i6⟩,⟨_,_,bY⟩,⟨_,_,i8⟩,⟨_,_,i9⟩,⟨_,_,UE⟩,⟨_,_,Sd⟩,⟨_,_,gY⟩,⟨_,_,Wf⟩,⟨_,_,kq⟩⟩:=A6
 have gX:aB P w K mg base (oJ P w) 2 _ _ mS (tL XP):=j6 bY.F T Z i6
 have rf:aB P w K mg base bV 2 _ _ eY tN:=v7 gY.F T i4
 have vo:aB P w K mg base (oJ P w) 4 _ _ Ku (rj XP):=wg kq.F T Z i1 i2 i3 i4 i5 i6 bY i8 i9 UE Sd gY Wf
 refine F7 F uJ (fun vs H Q E h=>?_) (fun cdv A outer s0 H vs Q E hr h=>?_)
 ·obtain⟨U,x,r,pe,lines,aH,nW,bW,row,s,p,rows,rfl,_⟩:=h
  rfl
 obtain⟨U,x,r,pe,lines,aH,nW,bW,row,s,p,rows,rfl,LB,hr1,fr,li,hl,l1,l2,l3,fs,fp,k1,k2⟩:=h
 obtain⟨S,SW,d,wl,sh,bl,kn,du,bk,dS,st,op,dw,sg,ow,pw,db,tb,ops,LU⟩:=id LB
 have lo:=tW LU.L hl
 have hl':=iI hl
 have lp:(rD pe).length=pe.length:=cO _
 refine⟨_,(ak (bw (pO bY gX hr lZ (aa (cI (pv 0) aK.cl bC.mt jE (hr.mono (by decide)) bC.b .nil lZ (aa (pv 1) ah)) (aa (pv 2) (aa (pv 2) ah)))))
   (ak (bw (cI (pv 0) aK.cl eE.mt ua (hr.mono (by decide)) eE.b .nil lZ (aa (pv 3) ah)))
   (ak (aU (i:=4) uJ.nd rfl (Or.inl rfl) (pO kq vo hr lZ (aa (cV (ff (pv 0) rfl) bH.cl bI.mt gH (hr.mono (by decide)) bI.b .nil dz) (aa (pv 1) (aa (pv 2) (aa (aL gY rf hr (aa (pv 3) ah)) ah))))))
   (ao (bw (cI (pv 0) aK.cl aT.mt dY (hr.mono (by decide)) aT.b .nil dz (aa (eK (aa bO (aa (pv 1) (aa (pv 2) (aa (pv 3) ah))))) (aa (pv 1) (aa (pv 4) ah))))))))),?_⟩
 refine⟨_,rfl,x,d,_,rfl,LU.L.hx,rfl,_,rfl,S,x,d,wl,sh,bl,kn,du,bk,dS,st,op,pe,ops,lines,rows,s,rfl,LU.L,hl,l1,l2,fs,fun z=>k1 z H (aF.refl _),fun ia=>?_⟩
 obtain⟨f0,sn,k3,k4⟩:=k2 ia
 have ls:(f0 s).length≤10000:=sn.ln s ia.1 ia.2
 have lr0:=tQ (f0 s)
 refine⟨f0,sn,fun o H1 ho s1 fo=>?_⟩
 have i3:Eh p p (tot (rowOf (f0 s)))↔(0≤p∧p≤(f0 s).length):=by
  rw[xP]
  unfold Eh
  omega
 refine⟨_,rfl,_,rfl,o,rowOf (f0 s),p,p,rfl,ho,by omega,fp,fp,by rw[xP];exact IQ (by omega),fun z H2 s2=>?_,fun z H2 s2=>k3 (fun y=>z (i3.mpr y)) H2 (s1.trans s2)⟩
 have s12:=s1.trans s2
 obtain⟨k5,k6⟩:=k4 (i3.mp z)
 have MW:=LU.same s12
 have hr2:=hr1.same s12
 refine⟨_,rfl,x,d,_,rfl,MW.L.hx,rfl,_,rfl,U,x,r,pe,lines,aH,nW,bW,row,rfl,LB.same s12,hr2,by have:=fr.1;omega,li,fun g H3 s3=>?_,fun g H3 s3=>k5 g H3 (s12.trans s3)⟩
 have EZ:=s12.trans s3
 have Se:=LU.same EZ
 have G2:=hr1.same EZ
 have hp:=J9 g
 have sl:s.toNat<rows.length:=by have:=ia.1;have:=ia.2;omega
 obtain⟨es,es1⟩:∃ es,rows[s.toNat]?=some es:=⟨_,qM sl⟩
 obtain⟨⟨fB,B⟩,k7⟩:=k6 g _ es1
 refine⟨_,rfl,x,C,d,_,.ref sh,rfl,Se.L.hx,aK.cl,ns,rfl,sh,dS,_,rfl,Se.L.W.hx,rfl,S,sh,dS,st,op,rD pe,ops,rfl,Se.L.W,⟨by omega,by omega⟩,fun rws el q H4 fs4 s4=>?_⟩
 rw[hl']at el
 cases el
 obtain⟨fq,rs,hq,al⟩:=fs4
 have hR:iy H4 q (rows.map itemsOf):=by
  refine⟨rs.map V.ref,hq,?_⟩
  have key:∀ {as:List Addr} {ds:List (List Item)},bK (fun r its=>H3 r=none∧r≠q∧br H4 (.ref r) its) as ds→bK (br H4) (as.map V.ref) ds:=by
   intro as ds z
   induction z with
   | nil=>exact .nil
   | cons o t ih=>exact .cons o.2.2 ih
  exact key al
 have hr4:=G2.same s4
 refine⟨_,rfl,_,rfl,_,rfl,r,row,rfl,hr4,by have:=fr.1;omega,fun oi H5 hoi s5 foi=>?_⟩
 have nn:oR row:=fun p' Kg=>⟨(hp p' Kg).1,by have:=(hp p' Kg).2.1;omega⟩
 refine⟨q,oi,rows,s,p,_,f0,rfl,⟨hR.same s5,by omega,sn.es,sn.sd,sn.rk,sn.ss,sn.ln⟩,ia.1,ia.2,hoi,v8 (qD nn),?_,fp,fun _ es q2 H6 FJ hq2 s6 UG=>?_,fun y=>absurd (i3.mp z) y⟩
 ·unfold dO
  rw[cO]
  have:=qA row
  have:=fr.1
  omega
 rw[es1]at FJ
 cases FJ
 have Po:aF H H6:=EZ.trans (s4.trans (s5.trans s6))
 have Wg:=LU.same Po
 have UH:q2≠bk:=fun e=>by
  have y:=(LU.same (EZ.trans (s4.trans s5))).L.hb
  rw[← e,UG]at y
  cases y
 refine⟨_,rfl,x,d,_,rfl,Wg.L.hx,rfl,_,rfl,_,rfl,_,rfl,(by show 4≤sizeLine;decide),fun t ht=>?_⟩
 have s7:=aj ht (.tup [.str (Str.ofString "put"),.int s,.int p,.ref r])
 have ht7:(upd H6 t (.tup [.str (Str.ofString "put"),.int s,.int p,.ref r])) t=some (.tup [.str (Str.ofString "put"),.int s,.int p,.ref r]):=af
 generalize upd H6 t (.tup [.str (Str.ofString "put"),.int s,.int p,.ref r])=H7 at s7 ht7
 have s17:=Po.trans s7
 have LU7:=LU.same s17
 have ss:((s.toNat:Nat):Int)=s:=by have:=ia.1;omega
 refine⟨_,rfl,_,rfl,S,x,d,wl,sh,bl,kn,du,bk,dS,st,op,pe,ops,lines,t,q2,.uG ptW [s,p] row,s.toNat,_,rows,fB,by rw[ss];rfl,LU7.L,⟨r,by rw[ht7,C5];rfl,hr1.same s17⟩,⟨(by show tabAt Us ptW=some 2;decide +kernel),?_,fr⟩,hq2.same s7,UH,hl,by have:=ia.2;have:=ia.1;omega,l1,l2,l3,B,fun S' H8 L8 Jx=>?_⟩
 ·intro y hy
  have b1:=ia.1
  have b2:=(i3.mp z).1
  rcases List.mem_cons.mp hy with e|e
  ·rw[e];exact⟨b1,fs.big⟩
  ·rw[List.mem_singleton.mp e];exact⟨b2,fp.big⟩
 ·obtain⟨U',hL',f'⟩:=LU7.wD L8 Jx
  exact k7 U' H8 hL' (f'.pre s17)
theorem We.nh{C C':Addr}{S:Addr→Prop}{H H':Hp}{x d s o p l d':Addr}{n:Nat}{aH:lR}{fs:List (Str × V)}(h:We C S H x d s o p n aH)(hl:H l=some (.ins C' d' fs))(nl:¬ S l)(k:cS l H H'):We C S H' x d s o p n aH :=
 h.fr (fun a ob e z=>k a ob e (fun q=>nl (by rw[← q];exact z))) (fun a xs e=>k _ _ e (cT e hl (by intro z;cases z)))
theorem bX.nh{C':Addr}{H H':Hp}{r l d':Addr}{row:Row}{fs:List (Str × V)}(h:bX H r row)(hl:H l=some (.ins C' d' fs))(k:cS l H H'):bX H' r row :=
 h.two (fun xs e=>k _ _ e (cT e hl (by intro z;cases z))) (fun a xs e=>k _ _ e (cT e hl (by intro z;cases z)))
theorem qK{H:Hp}{xw dw a:Addr}{o:HO}(e:(upd (upd H dw (.own xw)) xw o) a=none):H a=none:=by
 by_cases z1:a=xw
 ·rw[z1,af]at e;cases e
 rw[aC z1]at e
 by_cases z2:a=dw
 ·rw[z2,af]at e;cases e
 rw[aC z2]at e
 exact e
inductive xQ(C CS CW CB:Addr)(vs:List V)(H:Hp)(Q:VK)(E:XK):Prop
 | mk (x d:Addr) (_:vs=[.ref x]) (_:H x=some (.ins C d [])) (_: ∀ (U:Addr→Prop) (H':Hp),zc C CS CW CB U H' x [[]] [] [] 0 []→(∀ a,U a→a=x∨H a=none)→cS x H H'→Q .jJ H'):xQ C CS CW CB vs H Q E
theorem vp:aG ["self"] ["self"] (az iX):=⟨rfl,rfl,rfl,by decide +kernel,rfl,by decide +kernel,by decide +kernel⟩
theorem uc{f C CS XS XM XT CW CB CT CD f1 f2 f3 f4 f5:Addr}{fd g1 g2 g3 g4 g5:FuncData}(F:iD K "__init__" "Library.__init__" iX f fd)(L:Bj K mg C CS XS XM XT)(bH:ClsAt K mg "Shelf" CS f1)(j7:aQ K CS "__init__" "Shelf.__init__" iT ja f1 g1)
  (iH:ClsAt K mg "Well" CW f2) (lM:aQ K CW "__init__" "Well.__init__" ji ja f2 g2) (w1:bh K CW "signs") (w2:bh K CW "owners") (w3:bh K CW "pourings")
  (qt:ClsAt K mg "Blots" CB f3) (j8:aQ K CB "__init__" "Blots.__init__" iS ja f3 g3) (b1:bh K CB "stains")
  (FL:ClsAt K mg "Ties" CT f4) (lN:aQ K CT "__init__" "Ties.__init__" jg ja f4 g4) (t1:bh K CT "given") (t2:bh K CT "pairs")
  (FN:ClsAt K mg "Dues" CD f5) (lO:aQ K CD "__init__" "Dues.__init__" jh ja f5 g5) (u1:bh K CD "sums"):aB P w K mg base bV 3 f fd ja (xQ C CS CW CB):=by
 obtain⟨M,⟨fi,aK⟩,nw,ns,Ga,nk,nd,FE,dB,G⟩:=L
 obtain⟨T,_,n1,n2,dP,cQ⟩:=M
 have yL:aB P w K mg base bV 1 _ _ ja (Dn CS):=wz j7.F bH.cl n1 n2
 have AE:aB P w K mg base bV 1 _ _ ja (Du CW):=xK lM.F iH.cl w1 w2 w3
 have yM:aB P w K mg base bV 1 _ _ ja (C9 CB):=vV j8.F qt.cl b1
 have AF:aB P w K mg base bV 1 _ _ ja (wB CT):=xH lN.F FL.cl t1 t2
 have AG:aB P w K mg base bV 1 _ _ ja (wB CD):=xG lO.F FN.cl u1
 refine F.ok vp (fun vs H Q E h=>?_) (fun cdv A outer s H vs Q E hr h=>?_)
 ·obtain⟨x,d,rfl,_⟩:=h
  rfl
 obtain⟨x,d,rfl,hx,k⟩:=h
 refine⟨_,(ak (j9 (pv 0) (qx iH.RQ AE (hr.mono (by decide)) rfl iH.m lM.b .nil dz) rfl)
   (ak (j9 (pv 0) (qx bH.RQ yL (hr.mono (by decide)) rfl bH.m j7.b .nil dz) rfl)
   (ak (j9 (pv 0) (qx qt.RQ yM (hr.mono (by decide)) rfl qt.m j8.b .nil dz) rfl)
   (ak (j9 (pv 0) (qx FL.RQ AF (hr.mono (by decide)) rfl FL.m lN.b .nil dz) rfl)
   (ak (j9 (pv 0) (qx FN.RQ AG (hr.mono (by decide)) rfl FN.m lO.b .nil dz) rfl)
   (ao (j9 (pv 0) (bJ ah) rfl))))))),?_⟩
 intro wl dw hw1 hw2 _
 refine⟨wl,dw,rfl,af,fun sg ow pw H1 V1 k1 fsg fow fpw=>⟨rfl,?_⟩⟩
 have s1:=oh hw1 hw2 k1
 have fW:∀ a,(a=wl∨a=sg∨a=ow∨a=pw)→H a=none:=fun a e=>by
  rcases e with rfl|rfl|rfl|rfl
  ·exact hw1
  ·exact qK fsg
  ·exact qK fow
  ·exact qK fpw
 have Rp:¬ (x=wl∨x=sg∨x=ow∨x=pw):=fun e=>by
  have:=fW x e
  rw[hx]at this
  cases this
 refine⟨_,rfl,x,C,d,_,rfl,s1 _ _ hx,aK.cl,nw,by decide,?_⟩
 have q2:cS x H (upd H1 x (.ins C d (L2.dh "well" (.ref wl) []))):=cS.trans (jd.aF.keep s1) (aJ x _ _)
 have x2:(upd H1 x (.ins C d (L2.dh "well" (.ref wl) []))) x=some (.ins C d [("well",.ref wl)]):=af
 have kx2:cS x H1 (upd H1 x (.ins C d (L2.dh "well" (.ref wl) []))):=aJ x _ _
 generalize upd H1 x (.ins C d (L2.dh "well" (.ref wl) []))=H2 at q2 x2 kx2
 have V2:=V1.nh (s1 _ _ hx) Rp kx2
 intro sh dS hs1 hs2 _
 refine⟨sh,dS,rfl,af,fun st op z H3 W3 k3 fst fop fz=>⟨rfl,?_⟩⟩
 have s3:=oh hs1 hs2 k3
 have up:∀ a,(upd (upd H2 dS (.own sh)) sh (.ins CS dS [])) a=none→H2 a=none:=fun a e=>by
  by_cases z1:a=sh
  ·rw[z1,af]at e;cases e
  rw[aC z1]at e
  by_cases z2:a=dS
  ·rw[z2,af]at e;cases e
  rw[aC z2]at e
  exact e
 have fS:∀ a,(a=sh∨a=st∨a=op∨a=z)→H2 a=none:=fun a e=>by
  rcases e with rfl|rfl|rfl|rfl
  ·exact hs1
  ·exact up _ fst
  ·exact up _ fop
  ·exact up _ fz
 have Rq:¬ (x=sh∨x=st∨x=op∨x=z):=fun e=>by
  have:=fS x e
  rw[x2]at this
  cases this
 have x3:=s3 _ _ x2
 have V3:=V2.same s3
 refine⟨_,rfl,x,C,d,_,rfl,x3,aK.cl,ns,(by show 1<1000;decide),?_⟩
 have k4:cS x H3 (upd H3 x (.ins C d (L2.dh "shelf" (.ref sh) [("well",.ref wl)]))):=aJ x _ _
 have x4:(upd H3 x (.ins C d (L2.dh "shelf" (.ref sh) [("well",.ref wl)]))) x=some (.ins C d [("well",.ref wl),("shelf",.ref sh)]):=af
 generalize upd H3 x (.ins C d (L2.dh "shelf" (.ref sh) [("well",.ref wl)]))=H4 at k4 x4
 have W4:=W3.nh x3 Rq k4
 have V4:=V3.nh x3 Rp k4
 have q4:cS x H H4:=(q2.trans (jd.aF.keep s3)).trans k4
 intro bl db hb1 hb2 _
 refine⟨bl,db,rfl,af,fun tb H5 B5 R5 k5 ftb=>⟨rfl,?_⟩⟩
 have s5:=oh hb1 hb2 k5
 have Rr:=qK ftb
 have x5:=s5 _ _ x4
 have W5:=W4.same s5
 have V5:=V4.same s5
 have My:bl≠x:=(au x4 hb1).symm
 refine⟨_,rfl,x,C,d,_,rfl,x5,aK.cl,Ga,(by show 2<1000;decide),?_⟩
 have k6:cS x H5 (upd H5 x (.ins C d (L2.dh "blots" (.ref bl) [("well",.ref wl),("shelf",.ref sh)]))):=aJ x _ _
 have x6:(upd H5 x (.ins C d (L2.dh "blots" (.ref bl) [("well",.ref wl),("shelf",.ref sh)]))) x=some (.ins C d [("well",.ref wl),("shelf",.ref sh),("blots",.ref bl)]):=af
 generalize upd H5 x (.ins C d (L2.dh "blots" (.ref bl) [("well",.ref wl),("shelf",.ref sh)]))=H6 at k6 x6
 have W6:=W5.nh x5 Rq k6
 have V6:=V5.nh x5 Rp k6
 have B6:Bl CB H6 bl db tb:=k6 _ _ B5 My
 have R6:=R5.nh x5 k6
 have q6:cS x H H6:=(q4.trans (jd.aF.keep s5)).trans k6
 intro kn dk hk1 hk2 _
 refine⟨kn,dk,rfl,af,fun fs7 H7 _ k7=>⟨rfl,?_⟩⟩
 have s7:=oh hk1 hk2 k7
 have x7:=s7 _ _ x6
 have W7:=W6.same s7
 have V7:=V6.same s7
 have B7:Bl CB H7 bl db tb:=s7 _ _ B6
 have R7:=R6.same s7
 refine⟨_,rfl,x,C,d,_,rfl,x7,aK.cl,nk,(by show 3<1000;decide),?_⟩
 have k8:cS x H7 (upd H7 x (.ins C d (L2.dh "knots" (.ref kn) [("well",.ref wl),("shelf",.ref sh),("blots",.ref bl)]))):=aJ x _ _
 have x8:(upd H7 x (.ins C d (L2.dh "knots" (.ref kn) [("well",.ref wl),("shelf",.ref sh),("blots",.ref bl)]))) x=some (.ins C d [("well",.ref wl),("shelf",.ref sh),("blots",.ref bl),("knots",.ref kn)]):=af
 generalize upd H7 x (.ins C d (L2.dh "knots" (.ref kn) [("well",.ref wl),("shelf",.ref sh),("blots",.ref bl)]))=H8 at k8 x8
 have W8:=W7.nh x7 Rq k8
 have V8:=V7.nh x7 Rp k8
 have B8:Bl CB H8 bl db tb:=k8 _ _ B7 My
 have R8:=R7.nh x7 k8
 have q8:cS x H H8:=(q6.trans (jd.aF.keep s7)).trans k8
 intro du dd hd1 hd2 _
 refine⟨du,dd,rfl,af,fun fs9 H9 _ k9=>⟨rfl,?_⟩⟩
 have s9:=oh hd1 hd2 k9
 have x9:=s9 _ _ x8
 have W9:=W8.same s9
 have V9:=V8.same s9
 have B9:Bl CB H9 bl db tb:=s9 _ _ B8
 have R9:=R8.same s9
 refine⟨_,rfl,x,C,d,_,rfl,x9,aK.cl,nd,(by show 4<1000;decide),?_⟩
 have MX:cS x H9 (upd H9 x (.ins C d (L2.dh "dues" (.ref du) [("well",.ref wl),("shelf",.ref sh),("blots",.ref bl),("knots",.ref kn)]))):=aJ x _ _
 have Pp:(upd H9 x (.ins C d (L2.dh "dues" (.ref du) [("well",.ref wl),("shelf",.ref sh),("blots",.ref bl),("knots",.ref kn)]))) x=some (.ins C d [("well",.ref wl),("shelf",.ref sh),("blots",.ref bl),("knots",.ref kn),("dues",.ref du)]):=af
 generalize upd H9 x (.ins C d (L2.dh "dues" (.ref du) [("well",.ref wl),("shelf",.ref sh),("blots",.ref bl),("knots",.ref kn)]))=BS at MX Pp
 have W10:=W9.nh x9 Rq MX
 have V10:=V9.nh x9 Rp MX
 have B10:Bl CB BS bl db tb:=MX _ _ B9 My
 have R10:=R9.nh x9 MX
 have uz:cS x H BS:=(q8.trans (jd.aF.keep s9)).trans MX
 refine⟨(by show 0≤sizeLine;decide),fun bk Pq=>⟨_,rfl,x,C,d,_,rfl,aj Pq _ _ _ Pp,aK.cl,FE,(by show 5<1000;decide),?_⟩⟩
 have nbx:bk≠x:=(au Pp Pq).symm
 have nSb:¬ (bk=sh∨bk=st∨bk=op∨bk=z):=fun e=>by
  obtain⟨ob,w⟩:=W10.al bk e
  rw[Pq]at w
  cases w
 have qz:=aj Pq (.lst [])
 have Ox:cS x (upd BS bk (.lst [])) (upd (upd BS bk (.lst [])) x (.ins C d (L2.dh "book" (.ref bk) [("well",.ref wl),("shelf",.ref sh),("blots",.ref bl),("knots",.ref kn),("dues",.ref du)]))):=aJ x _ _
 have W12:=(W10.same qz).nh (qz _ _ Pp) Rq Ox
 have V12:=(V10.same qz).nh (qz _ _ Pp) Rp Ox
 have B12:=Ox _ _ (qz _ _ B10) My
 have R12:=(R10.same qz).nh (qz _ _ Pp) Ox
 obtain⟨as5,hR5,_⟩:=id R5
 have UI:∀ a,(a=sh∨a=st∨a=op∨a=z)→a=x∨H a=none:=fun a e=>.inr (jL q2 (fun e'=>by rw[e']at e;exact Rq e) (fS a e))
 refine k (fun a=>(a=sh∨a=st∨a=op∨a=z)∨(a=wl∨a=sg∨a=ow∨a=pw)∨a=bk∨a=x∨a=bl∨a=tb) _ ⟨_,_,d,wl,sh,bl,kn,du,bk,dS,st,op,dw,sg,ow,pw,db,tb,[],⟨af,W12,?_,Rq,nSb⟩,V12,B12,R12,?_,?_,?_,?_,fun a=>Iff.rfl⟩ ?_ ((uz.trans (jd.aF.keep qz)).trans Ox)
 ·rw[aC nbx]
  exact af
 ·exact⟨.nil,fun _ z=>by cases z⟩
 ·intro a ea
  obtain⟨ob,hob⟩:=V2.al a ea
  refine⟨fun es=>?_,fun eb=>?_,fun ex=>?_⟩
  ·rw[fS a es]at hob;cases hob
  ·obtain⟨ob',w⟩:=V10.al a ea
   rw[eb,Pq]at w
   cases w
  ·rw[ex]at ea;exact Rp ea
 ·refine⟨fun es=>?_,fun ew=>?_,fun eb=>?_⟩
  ·obtain⟨ob,w⟩:=W4.al bl es
   rw[hb1]at w;cases w
  ·obtain⟨ob,w⟩:=V4.al bl ew
   rw[hb1]at w;cases w
  ·rw[eb]at B10
   have UJ:BS bk=some _:=B10
   rw[Pq]at UJ;cases UJ
 ·refine⟨fun es=>?_,fun ew=>?_,fun eb=>?_⟩
  ·obtain⟨ob,w⟩:=W4.al tb es
   rw[Rr]at w;cases w
  ·obtain⟨ob,w⟩:=V4.al tb ew
   rw[Rr]at w;cases w
  ·obtain⟨as,hR,_⟩:=id R10
   rw[eb,Pq]at hR;cases hR
 ·intro a ea
  rcases ea with ea|ea|ea|ea|ea|ea
  ·exact UI a ea
  ·exact .inr (fW a ea)
  ·rw[ea];exact .inr (jL uz nbx Pq)
  ·exact .inl ea
  ·rw[ea];exact .inr (jL q4 My hb1)
  ·by_cases ex:a=x
   ·exact .inl ex
   ·rw[ea]at ex ⊢;exact .inr (jL q4 ex Rr)
theorem Om.at_{H H':Hp}{q:Addr}{rows:List (List Item)}(h:Om H H' q rows):iy H' q rows:=by
 obtain⟨_,rs,hq,al⟩:=h
 refine⟨rs.map V.ref,hq,?_⟩
 have key:∀ {as:List Addr} {ds:List (List Item)},bK (fun r its=>H r=none∧r≠q∧br H' (.ref r) its) as ds→bK (br H') (as.map V.ref) ds:=by
  intro as ds z
  induction z with
  | nil=>exact .nil
  | cons o t ih=>exact .cons o.2.2 ih
 exact key al
abbrev ctW:List Nat:=(Str.ofString "cut").cps.toList
abbrev qtW:List Nat:=(Str.ofString "quote").cps.toList
inductive DM(C CS CW CB XS XP:Addr)(vs:List V)(H:Hp)(Q:VK)(E:XK):Prop
 | mk (U:Addr→Prop) (x:Addr) (pe:l5) (lines:l6) (aH:lR) (nW:Nat) (bW:Row) (s a b:Int) (rows:eF) (_:vs=[.ref x,.int s,.int a,.int b]) (_:zc C CS CW CB U H x pe lines aH nW bW) (_:pe.getLast?=some rows) (_:rows.length≤50) (_:pe.length≤900) (_:lines.length≤900) (_:qW s) (_:qW a) (_:qW b)
  (_:¬ Aq rows.length s→∀ H',aF H H'→E (.ref XS) none H') (_:Aq rows.length s→∃ sh,Seen rows sh∧(¬ Eh a b (sh s).length→∀ H',aF H H'→E (.ref XP) none H')∧(Eh a b (sh s).length→∀ es,rows[s.toNat]?=some es→(∃ f,uI (jb rows s.toNat (uZ sh a b es)) f) ∧
  ∀ (U':Addr→Prop) (H':Hp),zc C CS CW CB U' H' x (pe++[jb rows s.toNat (uZ sh a b es)]) (lines++[(m9.plain ctW [s,a,b]).line]) aH nW bW→MV U U' H H'→Q .jJ H')):DM C CS CW CB XS XP vs H Q E
inductive xR(C CS CW CB XS XP:Addr)(vs:List V)(H:Hp)(Q:VK)(E:XK):Prop
 | mk (U:Addr→Prop) (x:Addr) (pe:l5) (lines:l6) (aH:lR) (nW:Nat) (bW:Row) (t p s a b:Int) (rows:eF) (_:vs=[.ref x,.int t,.int p,.int s,.int a,.int b]) (_:zc C CS CW CB U H x pe lines aH nW bW) (_:pe.getLast?=some rows) (_:rows.length≤50) (_:pe.length≤900) (_:lines.length≤900) (_:qW t) (_:qW p) (_:qW s) (_:qW a) (_:qW b)
  (_:¬ Aq rows.length t→∀ H',aF H H'→E (.ref XS) none H') (_:Aq rows.length t→(¬ Aq rows.length s→∀ H',aF H H'→E (.ref XS) none H')∧(Aq rows.length s→∃ sh,Seen rows sh∧(¬ Eh a b (sh s).length→∀ H',aF H H'→E (.ref XP) none H')∧(Eh a b (sh s).length→(¬ (0≤p∧p≤(sh t).length)→∀ H',aF H H'→E (.ref XP) none H')∧(0≤p∧p≤(sh t).length→∀ es,rows[t.toNat]?=some es→(∃ f,uI (jb rows t.toNat (qp sh p es (((sh s).take b.toNat).drop a.toNat))) f) ∧
  ∀ (U':Addr→Prop) (H':Hp),zc C CS CW CB U' H' x (pe++[jb rows t.toNat (qp sh p es (((sh s).take b.toNat).drop a.toNat))]) (lines++[(m9.plain qtW [t,p,s,a,b]).line]) aH nW bW→MV U U' H H'→Q .jJ H')))):xR C CS CW CB XS XP vs H Q E
inductive Hy(C CS XS:Addr)(vs:List V)(H:Hp)(Q:VK)(E:XK):Prop
 | mk (S:Addr→Prop) (x d wl sh bl kn du bk dS st op:Addr) (pe:l5) (ops:List Int) (lines:l6) (rows:eF) (s:Int) (_:vs=[.ref x,.int s]) (_:jC C CS S H x d wl sh bl kn du bk dS st op (rD pe) ops lines) (_:pe.getLast?=some rows) (_:rows.length≤50) (_:pe.length≤900) (_:qW s)
  (_:¬ Aq rows.length s→E (.ref XS) none H) (_:Aq rows.length s→∀ es,rows[s.toNat]?=some es→∀ (q:Addr) (H':Hp),br H' (.ref q) (itemsOf es)→aF H H'→H q=none→Q (.ref q) H'):Hy C CS XS vs H Q E
theorem uK:aG ["self","sheet","start","stop","items"] ["self","sheet","start","stop"] (az nP):=⟨rfl,rfl,rfl,by decide +kernel,rfl,by decide +kernel,by decide +kernel⟩
set_option maxHeartbeats 4000000 in
theorem AH{f C CS CW CB XS XM XT XO XP f1 f2 fc fp:Addr}{fd g1 g2 gc gp:FuncData}(F:iD K "cut" "Library.cut" nP f fd)(X:yJ K mg C CS CW CB XS XM XT XO XP)(A1:Hw K mg CS)(A2:Km K mg)(A6:UD K mg)(aP:aQ K C "enter" "Library.enter" bS I0 f1 g1)(aT:aQ K C "change" "Library.change" cJ Kq f2 g2)(rE:ay K mg "cut_items" ou M7 fc gc)(tS:ay K mg "parted" tF Ks fp gp):aB P w K mg base (oJ P w) 6 f fd PR (DM C CS CW CB XS XP):=by
 obtain⟨LM,_,_,_,_,_,_,_,Z⟩:=X
 have dY:aB P w K mg base bV 5 _ _ Kq (qJ C CS):=iZ aT.F LM A1 A2 aP
 obtain⟨M,⟨fi,aK⟩,nw,ns,Ga,nk,nd,FE,dB,G⟩:=LM
 obtain⟨⟨_,_,d1⟩,⟨_,_,d2⟩,⟨_,_,aN⟩,⟨_,_,d4⟩,⟨_,_,d7⟩,⟨_,_,bI⟩,⟨_,_,d9⟩⟩:=A1
 have gH:aB P w K mg base bV 4 _ _ ja (vj CS):=jZ bI.F M d2 d4 d7
 have cN:aB P w K mg base (oJ P w) 2 _ _ wI (qH CS XS):=gB aN.F M d1
 obtain⟨T,⟨fj,bH⟩,n1,n2,dP,cQ⟩:=M
 obtain⟨⟨_,_,i1⟩,⟨_,_,i2⟩,⟨_,_,i3⟩,⟨_,_,i4⟩,⟨_,_,i5⟩,⟨_,_,i6⟩,⟨_,_,i7⟩,⟨_,_,i8⟩,⟨_,_,i9⟩,⟨_,_,UE⟩,⟨_,_,Sd⟩,⟨_,_,i12⟩,⟨_,_,Wf⟩,⟨_,_,i14⟩⟩:=A6
 have Hz:aB P w K mg base (oJ P w) 4 _ _ M7 (vc XP):=Dk rE.F T Z i1 i2 i3 i4 i5 i6 i7 i8 i9 UE Sd i12 tS
 refine F7 F uK (fun vs H Q E h=>?_) (fun cdv A outer s0 H vs Q E hr h=>?_)
 ·obtain⟨U,x,pe,lines,aH,nW,bW,s,a,b,rows,rfl,_⟩:=h
  rfl
 obtain⟨U,x,pe,lines,aH,nW,bW,s,a,b,rows,rfl,LB,hl,l1,l2,l3,fs,fa,fb,k1,k2⟩:=h
 obtain⟨S,SW,d,wl,sh,bl,kn,du,bk,dS,st,op,dw,sg,ow,pw,db,tb,ops,LU⟩:=id LB
 have lo:=tW LU.L hl
 have hl':=iI hl
 have lp:(rD pe).length=pe.length:=cO _
 have ok:Hu (rD pe) ops:=⟨by omega,by omega⟩
 refine⟨_,(ak (bw (cI (ff (pv 0) rfl) bH.cl aN.mt cN (hr.mono (by decide)) aN.b .nil lZ (aa (pv 1) ah)))
   (ak (aU (i:=4) uK.nd rfl (Or.inl rfl) (pO rE Hz hr lZ (aa (cV (ff (pv 0) rfl) bH.cl bI.mt gH (hr.mono (by decide)) bI.b .nil dz) (aa (pv 1) (aa (pv 2) (aa (pv 3) ah))))))
   (ao (bw (cI (pv 0) aK.cl aT.mt dY (hr.mono (by decide)) aT.b .nil dz (aa (eK (aa bO (aa (pv 1) (aa (pv 2) (aa (pv 3) ah))))) (aa (pv 1) (aa (pv 4) ah)))))))),?_⟩
 refine⟨_,rfl,x,C,d,_,.ref sh,rfl,LU.L.hx,aK.cl,ns,rfl,sh,dS,_,rfl,LU.L.W.hx,rfl,_,rfl,S,sh,dS,st,op,rD pe,ops,s,rfl,LU.L.W,ok,fs,fun ia=>?_,fun z=>k1 (by rw[← lo];exact z) H (aF.refl _)⟩
 rw[lo]at ia
 obtain⟨f0,sn,k3,k4⟩:=k2 ia
 refine⟨_,rfl,x,C,d,_,.ref sh,rfl,LU.L.hx,aK.cl,ns,rfl,sh,dS,_,rfl,LU.L.W.hx,rfl,S,sh,dS,st,op,rD pe,ops,rfl,LU.L.W,ok,fun rws el q H1 fs1 s1=>?_⟩
 rw[hl']at el
 cases el
 have sl:s.toNat<rows.length:=by have:=ia.1;have:=ia.2;omega
 obtain⟨es,es1⟩:∃ es,rows[s.toNat]?=some es:=⟨_,qM sl⟩
 refine⟨_,rfl,_,rfl,_,rfl,q,rows,s,a,b,f0,rfl,⟨fs1.at_,by omega,sn.es,sn.sd,sn.rk,sn.ss,sn.ln⟩,ia.1,ia.2,fa,fb,fun i3 es' q2 H2 FJ hq2 s2 UG=>?_,fun n3 H2 s2=>k3 n3 H2 (s1.trans s2)⟩
 rw[es1]at FJ
 cases FJ
 obtain⟨⟨fB,B⟩,k5⟩:=k4 i3 es es1
 have s12:=s1.trans s2
 have MW:=LU.same s12
 have UH:q2≠bk:=fun e=>by
  have y:=(LU.same s1).L.hb
  rw[← e,UG]at y
  cases y
 refine⟨_,rfl,x,d,_,rfl,MW.L.hx,rfl,_,rfl,_,rfl,_,rfl,(by show 4≤sizeLine;decide),fun t ht=>?_⟩
 have s3:=aj ht (.tup [.str (Str.ofString "cut"),.int s,.int a,.int b])
 have RY:(upd H2 t (.tup [.str (Str.ofString "cut"),.int s,.int a,.int b])) t=some (.tup [.str (Str.ofString "cut"),.int s,.int a,.int b]):=af
 generalize upd H2 t (.tup [.str (Str.ofString "cut"),.int s,.int a,.int b])=H3 at s3 RY
 have EZ:=s12.trans s3
 have Se:=LU.same EZ
 have ss:((s.toNat:Nat):Int)=s:=by have:=ia.1;omega
 refine⟨_,rfl,_,rfl,S,x,d,wl,sh,bl,kn,du,bk,dS,st,op,pe,ops,lines,t,q2,.plain ctW [s,a,b],s.toNat,_,rows,fB,by rw[ss];rfl,Se.L,(by show H3 t=_;rw[RY,C5];rfl),⟨(by show tabAt RX ctW=some 3;decide +kernel),?_⟩,hq2.same s3,UH,hl,by omega,l1,l2,l3,B,fun S' H8 L8 Jx=>?_⟩
 ·intro y hy
  have b1:=ia.1
  unfold Eh at i3
  rcases List.mem_cons.mp hy with e|hy
  ·rw[e];exact⟨b1,fs.big⟩
  rcases List.mem_cons.mp hy with e|hy
  ·rw[e];exact⟨by omega,fa.big⟩
  ·rw[List.mem_singleton.mp hy];exact⟨by omega,fb.big⟩
 ·obtain⟨U',hL',f'⟩:=Se.wD L8 Jx
  exact k5 U' H8 hL' (f'.pre EZ)
theorem nG:aG ["self","target","place","source","start","stop","row","items"] ["self","target","place","source","start","stop"] (az jk):=⟨rfl,rfl,rfl,by decide +kernel,rfl,by decide +kernel,by decide +kernel⟩
set_option maxHeartbeats 4000000 in
theorem xS{f C CS CW CB XS XM XT XO XP fS fZ f1 f2 f3 fp:Addr}{fd g1 g2 g3 gp:FuncData}(F:iD K "quote" "Library.quote" jk f fd)(X:yJ K mg C CS CW CB XS XM XT XO XP)(A1:Hw K mg CS)(A2:Km K mg)(A4:R0 K mg fS fZ)(A6:UD K mg)(aP:aQ K C "enter" "Library.enter" bS I0 f1 g1)(aT:aQ K C "change" "Library.change" cJ Kq f2 g2)(bC:aQ K C "shown" "Library.shown" dN wI f3 g3)(Cu:ay K mg "part" BF mS fp gp):aB P w K mg base (oJ P w) 6 f fd M6 (xR C CS CW CB XS XP):=by
 obtain⟨LM,_,_,_,_,_,_,_,Z⟩:=X
 have dY:aB P w K mg base bV 5 _ _ Kq (qJ C CS):=iZ aT.F LM A1 A2 aP
 have jE:aB P w K mg base (oJ P w) 5 _ _ wI (sV C CS XS):=mH bC.F LM A1 A4
 obtain⟨M,⟨fi,aK⟩,nw,ns,Ga,nk,nd,FE,dB,G⟩:=LM
 obtain⟨⟨_,_,d1⟩,⟨_,_,d2⟩,⟨_,_,aN⟩,⟨_,_,d4⟩,⟨_,_,d7⟩,⟨_,_,bI⟩,⟨_,_,d9⟩⟩:=A1
 have gH:aB P w K mg base bV 4 _ _ ja (vj CS):=jZ bI.F M d2 d4 d7
 have cN:aB P w K mg base (oJ P w) 2 _ _ wI (qH CS XS):=gB aN.F M d1
 obtain⟨T,⟨fj,bH⟩,n1,n2,dP,cQ⟩:=M
 obtain⟨⟨_,_,i1⟩,⟨_,_,i2⟩,⟨_,_,i3⟩,⟨_,_,i4⟩,⟨_,_,i5⟩,⟨_,_,i6⟩,⟨_,_,i7⟩,⟨_,_,i8⟩,⟨_,_,i9⟩,⟨_,_,UE⟩,⟨_,_,Sd⟩,⟨_,_,gY⟩,⟨_,_,Wf⟩,⟨_,_,kq⟩⟩:=A6
 have UK:aB P w K mg base (oJ P w) 3 _ _ mS (GO XP):=N8 Cu.F T Z i6 i7 i4 Sd
 have rf:aB P w K mg base bV 2 _ _ eY tN:=v7 gY.F T i4
 have vo:aB P w K mg base (oJ P w) 4 _ _ Ku (rj XP):=wg kq.F T Z i1 i2 i3 i4 i5 i6 i7 i8 i9 UE Sd gY Wf
 refine F7 F nG (fun vs H Q E h=>?_) (fun cdv A outer s0 H vs Q E hr h=>?_)
 ·obtain⟨U,x,pe,lines,aH,nW,bW,t,p,s,a,b,rows,rfl,_⟩:=h
  rfl
 obtain⟨U,x,pe,lines,aH,nW,bW,t,p,s,a,b,rows,rfl,LB,hl,l1,l2,l3,ft,fp,fs,fa,fb,k1,k2⟩:=h
 obtain⟨S,SW,d,wl,sh,bl,kn,du,bk,dS,st,op,dw,sg,ow,pw,db,tb,ops,LU⟩:=id LB
 have lo:=tW LU.L hl
 have hl':=iI hl
 have lp:(rD pe).length=pe.length:=cO _
 have ok:Hu (rD pe) ops:=⟨by omega,by omega⟩
 refine⟨_,(ak (bw (cI (ff (pv 0) rfl) bH.cl aN.mt cN (hr.mono (by decide)) aN.b .nil lZ (aa (pv 1) ah)))
   (ak (aU (i:=6) nG.nd rfl (Or.inl rfl) (pO Cu UK hr lZ (aa (cI (pv 0) aK.cl bC.mt jE (hr.mono (by decide)) bC.b .nil lZ (aa (pv 3) ah)) (aa (pv 4) (aa (pv 5) ah)))))
   (ak (aU (i:=7) nG.nd rfl (Or.inl rfl) (pO kq vo hr lZ (aa (cV (ff (pv 0) rfl) bH.cl bI.mt gH (hr.mono (by decide)) bI.b .nil dz) (aa (pv 1) (aa (pv 2) (aa (aL gY rf hr (aa (pv 6) ah)) ah))))))
   (ao (bw (cI (pv 0) aK.cl aT.mt dY (hr.mono (by decide)) aT.b .nil dz (aa (eK (aa bO (aa (pv 1) (aa (pv 2) (aa (pv 3) (aa (pv 4) (aa (pv 5) ah))))))) (aa (pv 1) (aa (pv 7) ah))))))))),?_⟩
 refine⟨_,rfl,x,C,d,_,.ref sh,rfl,LU.L.hx,aK.cl,ns,rfl,sh,dS,_,rfl,LU.L.W.hx,rfl,_,rfl,S,sh,dS,st,op,rD pe,ops,t,rfl,LU.L.W,ok,ft,fun it=>?_,fun z=>k1 (by rw[← lo];exact z) H (aF.refl _)⟩
 rw[lo]at it
 obtain⟨k3,k4⟩:=k2 it
 refine⟨_,rfl,x,d,_,rfl,LU.L.hx,rfl,_,rfl,S,x,d,wl,sh,bl,kn,du,bk,dS,st,op,pe,ops,lines,rows,s,rfl,LU.L,hl,l1,l2,fs,fun z=>k3 z H (aF.refl _),fun ia=>?_⟩
 obtain⟨f0,sn,k5,k6⟩:=k4 ia
 refine⟨f0,sn,fun o H1 ho s1 fo=>?_⟩
 have ls:(f0 s).length≤10000:=sn.ln s ia.1 ia.2
 have lr0:=tQ (f0 s)
 have tt:tot (rowOf (f0 s))=(f0 s).length:=xP _
 refine⟨_,rfl,_,rfl,o,rowOf (f0 s),a,b,rfl,ho,by omega,fa,fb,by rw[tt];exact IQ (by omega),fun i3 q0 H2 TL s2 fq0=>?_,fun n3 H2 s2=>k5 (by rw[← tt];exact n3) H2 (s1.trans s2)⟩
 rw[tt]at i3
 have s12:=s1.trans s2
 obtain⟨k7,k8⟩:=k6 i3
 have MW:=LU.same s12
 refine⟨_,rfl,x,C,d,_,.ref sh,rfl,MW.L.hx,aK.cl,ns,rfl,sh,dS,_,rfl,MW.L.W.hx,rfl,S,sh,dS,st,op,rD pe,ops,rfl,MW.L.W,ok,fun rws el q H3 fs3 s3=>?_⟩
 rw[hl']at el
 cases el
 have EZ:=s12.trans s3
 have tl:t.toNat<rows.length:=by have:=it.1;have:=it.2;omega
 obtain⟨es,es1⟩:∃ es,rows[t.toNat]?=some es:=⟨_,qM tl⟩
 have nnp:∀ {r:Row},lF r→oR r:=fun h p hp=>⟨(h p hp).1,by have:=(h p hp).2;omega⟩
 have nn0:oR (rowOf (f0 s)):=nnp (Cd (Ae sn.sd sn.rk sn.ss s ia.1 ia.2))
 have nn1:oR (bT (nK a b 0 (rowOf (f0 s)))):=nnp (qD (zS a b _ 0 nn0))
 have lpl:(bT (nK a b 0 (rowOf (f0 s)))).length≤10000:=by
  have:=tO a b (rowOf (f0 s))
  rw[yY]at this
  omega
 have epl:dH (dO (bT (bT (nK a b 0 (rowOf (f0 s))))))=((f0 s).take b.toNat).drop a.toNat:=by
  rw[sP,pP _ fun q hq=>(nn1 q hq).2,uS _ _ _ (sI _),jr]
 refine⟨_,rfl,_,rfl,_,rfl,q0,_,rfl,TL.same s3,by omega,fun oi H4 hoi s4 foi=>?_⟩
 have IP:=EZ.trans s4
 refine⟨q,oi,rows,t,p,_,f0,rfl,⟨fs3.at_.same s4,by omega,sn.es,sn.sd,sn.rk,sn.ss,sn.ln⟩,it.1,it.2,hoi,v8 (qD nn1),?_,fp,fun ip es' q2 H5 FJ hq2 s5 UG=>?_,fun np H5 s5=>k7 np H5 (IP.trans s5)⟩
 ·rw[yY]
  have:=qA (bT (nK a b 0 (rowOf (f0 s))))
  omega
 rw[es1]at FJ
 cases FJ
 rw[epl]at hq2
 obtain⟨⟨fB,B⟩,k9⟩:=k8 ip es es1
 have Hr:=IP.trans s5
 have LU5:=LU.same Hr
 have UH:q2≠bk:=fun e=>by
  have y:=(LU.same IP).L.hb
  rw[← e,UG]at y
  cases y
 refine⟨_,rfl,x,d,_,rfl,LU5.L.hx,rfl,_,rfl,_,rfl,_,rfl,_,rfl,_,rfl,(by show 6≤sizeLine;decide),fun t' ht=>?_⟩
 have s6:=aj ht (.tup [.str (Str.ofString "quote"),.int t,.int p,.int s,.int a,.int b])
 have ht6:(upd H5 t' (.tup [.str (Str.ofString "quote"),.int t,.int p,.int s,.int a,.int b])) t'=some (.tup [.str (Str.ofString "quote"),.int t,.int p,.int s,.int a,.int b]):=af
 generalize upd H5 t' (.tup [.str (Str.ofString "quote"),.int t,.int p,.int s,.int a,.int b])=H6 at s6 ht6
 have Po:=Hr.trans s6
 have Wg:=LU.same Po
 have ss:((t.toNat:Nat):Int)=t:=by have:=it.1;omega
 refine⟨_,rfl,_,rfl,S,x,d,wl,sh,bl,kn,du,bk,dS,st,op,pe,ops,lines,t',q2,.plain qtW [t,p,s,a,b],t.toNat,_,rows,fB,by rw[ss];rfl,Wg.L,(by show H6 t'=_;rw[ht6,C5];rfl),⟨(by show tabAt RX qtW=some 5;decide +kernel),?_⟩,hq2.same s6,UH,hl,by omega,l1,l2,l3,B,fun S' H8 L8 Jx=>?_⟩
 ·intro y hy
  have b1:=ia.1
  have b2:=it.1
  unfold Eh at i3
  rcases List.mem_cons.mp hy with e|hy
  ·rw[e];exact⟨b2,ft.big⟩
  rcases List.mem_cons.mp hy with e|hy
  ·rw[e];exact⟨ip.1,fp.big⟩
  rcases List.mem_cons.mp hy with e|hy
  ·rw[e];exact⟨b1,fs.big⟩
  rcases List.mem_cons.mp hy with e|hy
  ·rw[e];exact⟨by omega,fa.big⟩
  ·rw[List.mem_singleton.mp hy];exact⟨by omega,fb.big⟩
 ·obtain⟨U',hL',f'⟩:=Wg.wD L8 Jx
  exact k9 U' H8 hL' (f'.pre Po)
theorem Bp:aG ["self","sheet"] ["self","sheet"] (az lD):=⟨rfl,rfl,rfl,by decide +kernel,rfl,by decide +kernel,by decide +kernel⟩
theorem AI{f C CS XS XM XT fr:Addr}{fd gr:FuncData}(F:iD K "row" "Library.row" lD f fd)(L:Bj K mg C CS XS XM XT)(A1:Hw K mg CS)(kr:aQ K CS "row" "Shelf.row" mw wI fr gr):aB P w K mg base (oJ P w) 4 f fd wI (Hy C CS XS):=by
 obtain⟨⟨_,_,d1⟩,⟨_,_,d2⟩,⟨_,_,aN⟩,⟨_,_,d4⟩,⟨_,_,d7⟩,⟨_,_,bI⟩,⟨_,_,d9⟩⟩:=A1
 obtain⟨M,⟨fi,aK⟩,nw,ns,Ga,nk,nd,FE,dB,G⟩:=L
 have HA:aB P w K mg base (oJ P w) 3 _ _ wI (Ms CS XS):=Ds kr.F M d1 aN
 obtain⟨T,⟨fj,bH⟩,n1,n2,dP,cQ⟩:=M
 refine F7 F Bp (fun vs H Q E h=>?_) (fun cdv A outer s0 H vs Q E hr h=>?_)
 ·obtain⟨S,x,d,wl,sh,bl,kn,du,bk,dS,st,op,pe,ops,lines,rows,s,rfl,_⟩:=h
  rfl
 obtain⟨S,x,d,wl,sh,bl,kn,du,bk,dS,st,op,pe,ops,lines,rows,s,rfl,L,hl,l1,l2,fs,k1,k2⟩:=h
 have lo:=tW L hl
 have hl':=iI hl
 have lp:(rD pe).length=pe.length:=cO _
 refine⟨_,(ao (aR (cI (ff (pv 0) rfl) bH.cl kr.mt HA (hr.mono (by decide)) kr.b .nil lZ (aa (pv 1) ah)))),?_⟩
 refine⟨_,rfl,x,C,d,_,.ref sh,rfl,L.hx,aK.cl,ns,rfl,sh,dS,_,rfl,L.W.hx,rfl,_,rfl,S,sh,dS,st,op,rD pe,ops,s,rfl,L.W,⟨by omega,by omega⟩,fs,fun si last its e1 e2 e3=>?_,fun z=>k1 (by rw[← lo];exact z)⟩
 rw[hl']at e2
 cases e2
 rw[kM]at e3
 obtain⟨es,e4,rfl⟩:=Option.map_eq_some_iff.mp e3
 have il:=(List.getElem?_eq_some_iff.mp e4).1
 exact fun q H' hq s1 fq=>k2 ⟨by omega,by omega⟩ es (by rw[e1,Int.toNat_natCast];exact e4) q H' hq s1 fq
theorem Mz{z:Str}{i:Int}{n:Nat}(hn:z.length=n)(h0:0≤i)(h1:i<n):∃ c,wK z.cps.toList i=some c:=by
 have hl:i.toNat<z.cps.toList.length:=by
  have:z.cps.toList.length=z.length:=by show _=z.cps.size;simp
  omega
 refine⟨z.cps.toList[i.toNat],?_⟩
 have e:wK z.cps.toList ((i.toNat:Nat):Int)=some z.cps.toList[i.toNat]:=eL (by simp)
 rw[Int.toNat_of_nonneg h0]at e
 exact e
inductive DN(vs:List V)(H:Hp)(Q:VK)(E:XK):Prop
 | mk (l c:Addr) (b:Bool) (_:vs=[.ref l,.bl b]) (_:dR H l c) (_: ∀ (ch:Nat) (H':Hp),dR H' l c→(∀ a,a≠l→H' a=H a)→Q (E6 ch) H'):DN vs H Q E
inductive DO(vs:List V)(H:Hp)(Q:VK)(E:XK):Prop
 | mk (l c:Addr) (m:Nat) (_:vs=[.ref l,.int (m:Nat)]) (_:dR H l c) (_:m≤1000) (_: ∀ (cs:List Nat) (H':Hp),cs.length=m→dR H' l c→cS l H H'→Q (.str (txt cs)) H'):DO vs H Q E
theorem yo:aG ["_law_src_here","_law_few","_law_some"] ["_law_src_here","_law_few"] (az ki):=⟨rfl,rfl,rfl,by decide +kernel,rfl,by decide +kernel,by decide +kernel⟩
theorem yp:aG ["_law_src_here","_law_many","_law_few"] ["_law_src_here","_law_many"] (az kj):=⟨rfl,rfl,rfl,by decide +kernel,rfl,by decide +kernel,by decide +kernel⟩
theorem FO{f fN:Addr}{fd Mf:FuncData}(F:iD K "_law_sign" "_law_sign" ki f fd)(T:pG mg)(aW:ay K mg "_law_next" iM wO fN Mf):aB P w K mg base bV 2 f fd Jc DN:=by
 have bM:aB P w K mg base bV 1 fN Mf wO sJ:=kG aW.F T
 refine F.ok yo (fun vs H Q E h=>?_) (fun cdv A outer s H vs Q E hr h=>?_)
 ·obtain⟨l,c,b,rfl,_⟩:=h
  rfl
 obtain⟨l,c,b,rfl,S,k⟩:=h
 refine⟨_,(ak (aU (i:=2) yo.nd rfl (Or.inl rfl) bO)
   (ak (cC (mU (pv 1) (fun _=>rfl))
   (ao (aR (bq KZ bO (aL aW bM hr (aa (pv 0) (aa aA ah))) (fun _ _=>rfl))))
   bL)
   (ao (aR (bq KZ (pv 2) (aL aW bM hr (aa (pv 0) (aa aA ah))) (fun _ _=>rfl)))))),?_⟩
 refine⟨_,rfl,b,rfl,dQ (fun _=>?_) (fun _=>?_)⟩
 ·refine⟨_,rfl,l,c,4,rfl,S,by decide,by decide,fun v H1 a0 a1 S1 k1=>?_⟩
  obtain⟨ch,e⟩:=Mz (z:=Str.ofString "a# b") (n:=4) (by decide +kernel) a0 a1
  exact⟨_,_,ch,rfl,rfl,(by decide +kernel),e,k ch H1 S1 k1⟩
 ·refine⟨_,rfl,_,rfl,l,c,94,rfl,S,by decide,by decide,fun v H1 a0 a1 S1 k1=>?_⟩
  obtain⟨ch,e⟩:=Mz (z:=Str.ofString " !\"#$&'()*+,-./0123456789:;<=>?@ABCDEFGHIJKLMNOPQRSTUVWXYZ[\\]^_`abcdefghijklmnopqrstuvwxyz{|}~") (n:=94) (by decide +kernel) a0 a1
  exact⟨_,_,ch,rfl,rfl,(by decide +kernel),e,k ch H1 S1 k1⟩
theorem FP{f fN fS:Addr}{fd Mf JN:FuncData}(F:iD K "_law_text" "_law_text" kj f fd)(T:pG mg)(aW:ay K mg "_law_next" iM wO fN Mf)(jF:ay K mg "_law_sign" ki Jc fS JN):aB P w K mg base bV 3 f fd Kv DO:=by
 have bM:aB P w K mg base bV 1 fN Mf wO sJ:=kG aW.F T
 have HB:aB P w K mg base bV 2 fS JN Jc DN:=FO jF.F T aW
 refine F.ok yp (fun vs H Q E h=>?_) (fun cdv A outer s H vs Q E hr h=>?_)
 ·obtain⟨l,c,m,rfl,_⟩:=h
  rfl
 obtain⟨l,c,m,rfl,S,hm,k⟩:=h
 refine⟨_,(ak (aU (i:=2) yp.nd rfl (Or.inr rfl) (qR kU (aL aW bM hr (aa (pv 0) (aa aA ah))) aA (bZ _)))
   (ao (aR (je PySem.F.plainAttrs_str PySem.F.slot_str_join PySem.F.type_str_join LO bO (aa (qB (N:=["_law_k","_law_src_here","_law_few"]) (yh (sc:=az kj) (NX:=["_law_src_here","_law_many","_law_few"]) (jx:=[none,some 0,some 2]) rfl rfl rfl (by decide +kernel) (by decide +kernel) rfl (by decide +kernel) rfl (by decide +kernel)) rfl (mj rfl T.nQ (aa (pv 1) ah)) (fun _ _ _ _ _ _=>(aY (i:=0) (show List.Nodup (["_law_k","_law_src_here","_law_few"]:List Str) by decide +kernel) rfl (Or.inl rfl))) (fun _ _ _ _ _ _=>mQ) (fun _ _ _ _ _ _=>(aL jF HB hr (aa (pv 1) (aa (pv 2) ah))))) ah))))),?_⟩
 refine⟨_,rfl,l,c,2,rfl,S,by decide,by decide,fun v H1 _ _ S1 k1=>⟨rfl,?_⟩⟩
 have K1:cS l H H1:=fun b o e m=>(k1 b m).trans e
 refine⟨rfl,_,rfl,(m:Nat),rfl,by omega,by omega,fun acc hacc=>EX (lo:=0) (k:=((m:Nat):Int).toNat) (fun i σ H2=>∃ (u:Option V) (cs:List Nat),σ=[u,some (.ref l),some (.bl (decide (V.int v=V.int 0)))]∧H2 acc=some (.lst (cs.map E6))∧cs.length=i∧dR H2 l c∧cS l H H2) ⟨none,[],rfl,af,rfl,S1.same (aj hacc _),fun b o e m=>aj hacc _ _ _ (K1 _ _ e m)⟩ ?_ ?_⟩
 ·rintro i σ H2 hi ⟨u,cs,rfl,ha,hl,S2,K2⟩
  have na:acc≠l:=(S1.ne hacc).1.symm
  have nc:acc≠c:=(S1.ne hacc).2.symm
  refine⟨_,rfl,_,rfl,l,c,_,rfl,S2,fun ch H3 S3 k3=>⟨_,by rw[k3 acc na];exact ha,(by rw[cO];exact aM (by omega)),_,cs++[ch],rfl,?_,?_,?_,?_⟩⟩
  ·rw[af,nu]
   rfl
  ·rw[eG,hl]
   rfl
  ·exact S3.keep (aJ acc _ _) na.symm nc.symm
  ·intro b o e m
   by_cases z:b=acc
   ·rw[z]at e
    have:=jL K1 na hacc
    rw[this]at e
    cases e
   rw[aC z,k3 b m]
   exact K2 _ _ e m
 ·rintro σ H2 ⟨u,cs,rfl,ha,hl,S2,K2⟩
  have hl':cs.length=m:=by omega
  exact⟨acc,cs,rfl,rfl,ha,by omega,k cs H2 hl' S2 K2⟩
theorem wF{α β:Type}{F:α→β→Prop}:∀ {xs:List α} {ys:List β} {x:α} {y:β},Paired F xs ys→F x y→Paired F (xs++[x]) (ys++[y])
 | _,_,_,_,.nil,e=>.cons e .nil
 | _,_,_,_,.cons r t,e=>.cons r (wF t e)
theorem uL{α β:Type}{F:α→β→Prop}:∀ {xs xs':List α} {ys ys':List β},Paired F xs ys→Paired F xs' ys'→Paired F (xs++xs') (ys++ys')
 | _,_,_,_,.nil,t=>t
 | _,_,_,_,.cons e r,t=>.cons e (uL r t)
def Pr(H:Hp)(a:Addr)(q:Int × Nat):Prop:=H a=some (.tup [.int q.1,E6 q.2])
inductive AJ(H:Hp)(v:Addr)(aH:lR):Prop
 | mk (as:List Addr) (_:H v=some (.lst (as.map V.ref))) (_:Paired (Pr H) as aH):AJ H v aH
abbrev kI:Key:=.inr (Str.ofString "ink")
abbrev kR:Key:=.inr (Str.ofString "rows")
abbrev kP:Key:=.inr (Str.ofString "past")
abbrev kVl:Key:=.inr (Str.ofString "veil")
abbrev vC(ik rw ps vl:Addr):List (Key × V):=[(kI,.ref ik),(kR,.ref rw),(kP,.ref ps),(kVl,.ref vl)]
def Pu(W:Addr→Prop)(ik ps:Addr)(H:Hp)(v:V)(es:List Int):Prop:=∃ b,v=.ref b∧W b∧b≠ik∧b≠ps∧H b=some (.lst (es.map V.int))
def MA(W:Addr→Prop)(ik ps:Addr)(H:Hp)(a:Addr)(rows:eF):Prop:=W a∧a≠ik∧a≠ps∧∃ vs,H a=some (.lst vs)∧bK (Pu W ik ps H) vs rows
structure Gd(W:Addr→Prop)(H:Hp)(w ik rw ps vl:Addr)(aH:lR)(pe:l5)(rows:eF):Prop where
 ww:W w
 wi:W ik
 wp:W ps
 wv:W vl
 al:∀ a,W a→∃ ob,H a=some ob
 hw:H w=some (.dK (vC ik rw ps vl))
 hi:AJ H ik aH
 hr:MA W ik ps H rw rows
 hp:∃ vs,H ps=some (.lst vs)∧bK (fun v rs=>∃ a,v=.ref a∧MA W ik ps H a rs) vs pe
 ne:ik≠ps
 lst:pe.getLast?=some rows
def Wo(W:Addr→Prop)(H:Hp)(w:Addr)(aH:lR)(pe:l5)(rows:eF):Prop:=∃ ik rw ps vl,Gd W H w ik rw ps vl aH pe rows
theorem Pu.fr{W W':Addr→Prop}{ik ps:Addr}{H H':Hp}{v:V}{es:List Int}(s:∀ a,W a→W' a)(k:∀ a xs,H a=some (.lst xs)→W a→a≠ik→a≠ps→H' a=some (.lst xs)):Pu W ik ps H v es→Pu W' ik ps H' v es:=fun ⟨b,e,w,n1,n2,h⟩=>⟨b,e,s _ w,n1,n2,k _ _ h w n1 n2⟩
theorem MA.fr{W W':Addr→Prop}{ik ps:Addr}{H H':Hp}{a:Addr}{rows:eF}(s:∀ a,W a→W' a)(k:∀ a xs,H a=some (.lst xs)→W a→a≠ik→a≠ps→H' a=some (.lst xs)):MA W ik ps H a rows→MA W' ik ps H' a rows:=fun ⟨w,n1,n2,vs,h,al⟩=>⟨s _ w,n1,n2,vs,k _ _ h w n1 n2,al.mono fun _ _=>Pu.fr s k⟩
theorem AJ.two{H H':Hp}{v:Addr}{aH:lR}(h:AJ H v aH)(k:∀ xs,H v=some (.lst xs)→H' v=some (.lst xs))(t:∀ a xs,H a=some (.tup xs)→H' a=some (.tup xs)):AJ H' v aH:=by
 obtain⟨as,hv,pa⟩:=h
 exact⟨as,k _ hv,Paired.El pa fun a q e=>t _ _ e⟩
theorem Gd.fr{W:Addr→Prop}{H H':Hp}{w ik rw ps vl:Addr}{aH:lR}{pe:l5}{rows:eF}(h:Gd W H w ik rw ps vl aH pe rows)(k:∀ a ob,H a=some ob→W a→H' a=some ob)(t:∀ a xs,H a=some (.tup xs)→H' a=some (.tup xs)):Gd W H' w ik rw ps vl aH pe rows:=by
 obtain⟨ww,wi,wp,wv,al,hw,hi,hr,⟨vs,hp,a2⟩,ne,lst⟩:=h
 refine⟨ww,wi,wp,wv,fun a z=>?_,k _ _ hw ww,hi.two (fun xs e=>k _ _ e wi) t,hr.fr (fun _ z=>z) (fun a xs e z _ _=>k _ _ e z),⟨vs,k _ _ hp wp,a2.mono fun v rs ⟨a,e,z⟩=>⟨a,e,z.fr (fun _ y=>y) (fun a xs e y _ _=>k _ _ e y)⟩⟩,ne,lst⟩
 obtain⟨ob,e⟩:=al a z
 exact⟨ob,k _ _ e z⟩
theorem Wo.fr{W:Addr→Prop}{H H':Hp}{w:Addr}{aH:lR}{pe:l5}{rows:eF}(h:Wo W H w aH pe rows)(k:∀ a ob,H a=some ob→W a→H' a=some ob)(t:∀ a xs,H a=some (.tup xs)→H' a=some (.tup xs)):Wo W H' w aH pe rows:=by
 obtain⟨ik,rw,ps,vl,z⟩:=h
 exact⟨ik,rw,ps,vl,z.fr k t⟩
theorem Wo.same{W:Addr→Prop}{H H':Hp}{w:Addr}{aH:lR}{pe:l5}{rows:eF}(h:Wo W H w aH pe rows)(s:aF H H'):Wo W H' w aH pe rows:=h.fr (fun a ob e _=>s a ob e) fun a xs e=>s _ _ e
def IS:Sp:=fun vs H Q _=>vs=[]∧∀ (W:Addr→Prop) (w:Addr) (H':Hp),Wo W H' w [] [[]] []→(∀ a,W a→H a=none)→aF H H'→Q (.ref w) H'
theorem DP:aG [] [] (az mY):=⟨rfl,rfl,rfl,by decide +kernel,rfl,by decide +kernel,by decide +kernel⟩
theorem UL{X:Cx}{s1 s2 s3 s4:Str}{a1 a2 a3 a4:Nat}{p1 p2 p3 p4 pos:Pos}{v1 v2 v3 v4:Expr}{t1 t2 t3 t4:TE}(h1:PE X v1 t1)(h2:PE X v2 t2)(h3:PE X v3 t3)(h4:PE X v4 t4) :
  PE X (.Dict [some (.Constant (.str s1) a1 p1),some (.Constant (.str s2) a2 p2),some (.Constant (.str s3) a3 p3),some (.Constant (.str s4) a4 p4)] [v1,v2,v3,v4] pos) (LG [(tC (.str s1),t1),(tC (.str s2),t2),(tC (.str s3),t3),(tC (.str s4),t4)]) :=
 NW (vS bO h1 (vS bO h2 (vS bO h3 (vS bO h4 NV)))) rfl rfl (by simp) (by show 4≤15;decide)
abbrev tWo:TE:=LG [(tC (.str (Str.ofString "ink")),Jo CH),(tC (.str (Str.ofString "rows")),Jo CH),(tC (.str (Str.ofString "past")),Jo (OS (Jo CH) CH)),(tC (.str (Str.ofString "veil")),Jo CH)]
theorem MB:∃ (e:Expr) (p:Pos),lg mY=[.Return (some e) p]∧∀ X:Cx,PE X e tWo :=
 ⟨_,_,rfl,fun X=>@UL X _ _ _ _ _ _ _ _ _ _ _ _ _ _ _ _ _ _ _ _ _ (bJ ah) (bJ ah) (bJ (aa (bJ ah) ah)) (bJ ah)⟩
theorem DQ{f:Addr}{fd:FuncData}(F:iD K "_law_world" "_law_world" mY f fd):aB P w K mg base bV 1 f fd [] IS:=by
 refine F.ok DP (fun vs H Q E h=>?_) (fun cdv A outer s H vs Q E hr h=>?_)
 ·obtain⟨rfl,_⟩:=h
  rfl
 obtain⟨rfl,k⟩:=h
 obtain⟨e,p,he,pw⟩:=MB
 rw[he]
 refine⟨_,ao (aR (pw _)),?_⟩
 intro w hw
 refine⟨(by show 0≤sizeLine;decide),fun ik hik=>⟨(by show 0≤sizeLine;decide),fun rw hrw=>⟨(by show 0≤sizeLine;decide),fun z hz=>⟨(by show 1≤sizeLine;decide),fun ps hps=>⟨(by show 0≤sizeLine;decide),fun vl hvl=>?_⟩⟩⟩⟩⟩
 have s0:=aj hw (.dK [])
 have w0:(upd H w (.dK [])) w=some (.dK []):=af
 generalize upd H w (.dK [])=H0 at s0 w0 hik hrw hz hps hvl
 have s1:=aj hik (.lst [])
 have i1:(upd H0 ik (.lst [])) ik=some (.lst []):=af
 generalize upd H0 ik (.lst [])=H1 at s1 i1 hrw hz hps hvl
 have s2:=aj hrw (.lst [])
 have r2:(upd H1 rw (.lst [])) rw=some (.lst []):=af
 generalize upd H1 rw (.lst [])=H2 at s2 r2 hz hps hvl
 have s3:=aj hz (.lst [])
 have z3:(upd H2 z (.lst [])) z=some (.lst []):=af
 generalize upd H2 z (.lst [])=H3 at s3 z3 hps hvl
 have s4:=aj hps (.lst [.ref z])
 have p4:(upd H3 ps (.lst [.ref z])) ps=some (.lst [.ref z]):=af
 generalize upd H3 ps (.lst [.ref z])=H4 at s4 p4 hvl
 have s5:=aj hvl (.lst [])
 have v5:(upd H4 vl (.lst [])) vl=some (.lst []):=af
 generalize upd H4 vl (.lst [])=H5 at s5 v5
 have Hr:aF H1 H5:=s2.trans (s3.trans (s4.trans s5))
 have s05:aF H0 H5:=s1.trans Hr
 have w5:=s05 _ _ w0
 have i5:=Hr _ _ i1
 have r5:=(s3.trans (s4.trans s5)) _ _ r2
 have z5:=(s4.trans s5) _ _ z3
 have p5:=s5 _ _ p4
 have nl:∀ {a:Addr} {xs:List V},H5 a=some (.lst xs)→a≠w:=fun {a xs} e q=>by rw[q,w5]at e;cases e
 have n1:rw≠ik:=(au i1 hrw).symm
 have n2:rw≠ps:=au (s3 _ _ r2) hps
 have n3:z≠ik:=(au (s2 _ _ i1) hz).symm
 have n4:z≠ps:=au z3 hps
 have n5:ik≠ps:=au ((s2.trans s3) _ _ i1) hps
 refine⟨w5,vC ik rw ps vl,rfl,(by show 4≤15;decide),?_⟩
 rw[show xh [] (vC ik rw ps vl)=vC ik rw ps vl by kernel_rfl]
 have up:∀ {a:Addr} {xs:List V},H5 a=some (.lst xs)→(upd H5 w (.dK (vC ik rw ps vl))) a=some (.lst xs):=fun {a xs} e=>by rw[aC (nl e)];exact e
 have f0:∀ a,H0 a=none→H a=none:=fun a e=>aS s0 e
 refine k (fun a=>a=w∨a=ik∨a=rw∨a=z∨a=ps∨a=vl) w _ ⟨ik,rw,ps,vl,.inl rfl,.inr (.inl rfl),.inr (.inr (.inr (.inr (.inl rfl)))),.inr (.inr (.inr (.inr (.inr rfl)))),fun a e=>?_,af,⟨[],up i5,.nil⟩,⟨.inr (.inr (.inl rfl)),n1,n2,[],up r5,.nil⟩,⟨[.ref z],up p5,.cons ⟨z,rfl,.inr (.inr (.inr (.inl rfl))),n3,n4,[],up z5,.nil⟩ .nil⟩,n5,rfl⟩ (fun a e=>?_) (ck hw (s0.trans s05) (aJ w _ _))
 ·rcases e with rfl|rfl|rfl|rfl|rfl|rfl
  ·exact⟨_,af⟩
  ·exact⟨_,up i5⟩
  ·exact⟨_,up r5⟩
  ·exact⟨_,up z5⟩
  ·exact⟨_,up p5⟩
  ·exact⟨_,up v5⟩
 ·rcases e with rfl|rfl|rfl|rfl|rfl|rfl
  ·exact hw
  ·exact f0 _ hik
  ·exact f0 _ (aS s1 hrw)
  ·exact f0 _ (aS s1 (aS s2 hz))
  ·exact f0 _ (aS s1 (aS s2 (aS s3 hps)))
  ·exact f0 _ (aS s1 (aS s2 (aS s3 (aS s4 hvl))))
inductive xT(vs:List V)(H:Hp)(Q:VK)(E:XK):Prop
 | mk (W:Addr→Prop) (w r:Addr) (aH:lR) (pe:l5) (rows rows':eF) (_:vs=[.ref w,.ref r]) (_:Wo W H w aH pe rows) (_:pe.length≤1000) (_:(∀ ik ps,(∃ rw vl,H w=some (.dK (vC ik rw ps vl)))→MA W ik ps H r rows')) (_: ∀ (H':Hp),Wo W H' w aH (pe++[rows']) rows'→(∀ a ob,H a=some ob→¬ W a→H' a=some ob)→(∀ a xs,H a=some (.tup xs)→H' a=some (.tup xs))→Q .jJ H'):xT vs H Q E
theorem FQ:aG ["_law_world_here","_law_rows"] ["_law_world_here","_law_rows"] (az jm):=⟨rfl,rfl,rfl,by decide +kernel,rfl,by decide +kernel,by decide +kernel⟩
theorem pY{f:Addr}{fd:FuncData}(F:iD K "_law_keep" "_law_keep" jm f fd):aB P w K mg base bV 1 f fd AW xT:=by
 refine F.ok FQ (fun vs H Q E h=>?_) (fun cdv A outer s H vs Q E hr h=>?_)
 ·obtain⟨W,w,r,aH,pe,rows,rows',rfl,_⟩:=h
  rfl
 obtain⟨W,w,r,aH,pe,rows,rows',rfl,⟨ik,rw,ps,vl,h⟩,lp,hr',k⟩:=h
 have hu:=lY hr
 refine⟨_,(ak (vR hu (pv 0) bO (pv 1) rfl)
   (ao (bw (je qd r9 sf cA (dX hu (pv 0) bO (fun _ _=>rfl)) (aa (pv 1) ah))))),?_⟩
 have hr2:=hr' ik ps ⟨rw,vl,h.hw⟩
 refine⟨_,rfl,_,rfl,w,_,rfl,C1.k (k:=kR) h.hw (by show 4<sizeLine;decide),?_⟩
 rw[show putK (vC ik rw ps vl) kR (.ref r)=vC ik r ps vl by kernel_rfl]
 obtain⟨Rt,hp,al⟩:=h.hp
 have k1:=aJ w H (.dK (vC ik r ps vl))
 have w1:(upd H w (.dK (vC ik r ps vl))) w=some (.dK (vC ik r ps vl)):=af
 have nw:∀ {a:Addr} {o:HO},H a=some o→(∀ kvs,o≠.dK kvs)→a≠w:=fun {a o} e n q=>by rw[q,h.hw]at e;cases e;exact n _ rfl
 generalize upd H w (.dK (vC ik r ps vl))=H1 at k1 w1
 have hp1:=k1 _ _ hp (nw hp (fun _ z=>by cases z))
 have z:=mC.k (k:=kP) w1
 rw[show cj (vC ik r ps vl) kP=some (.ref ps) by kernel_rfl]at z
 have lpv:Rt.length=pe.length:=al.len
 refine⟨_,rfl,w,_,rfl,z,.inl ⟨rfl,_,bF.of hp1⟩,_,rfl,ps,_,_,rfl,rfl,hp1,aM (by omega),?_⟩
 have Wc:w≠ps:=(nw hp (fun _ z=>by cases z)).symm
 have ls:∀ a xs,H a=some (.lst xs)→a≠ps→(upd H1 ps (.lst (Rt++[.ref r]))) a=some (.lst xs):=fun a xs e n=>by
  rw[aC n]
  exact k1 _ _ e (nw e (fun _ z=>by cases z))
 have tp:∀ a xs,H a=some (.tup xs)→(upd H1 ps (.lst (Rt++[.ref r]))) a=some (.tup xs):=fun a xs e=>by
  rw[aC (cT e hp (by intro z;cases z))]
  exact k1 _ _ e (nw e (fun _ z=>by cases z))
 have rwf:∀ {a:Addr} {rs:eF},MA W ik ps H a rs→MA W ik ps (upd H1 ps (.lst (Rt++[.ref r]))) a rs:=fun {a rs} q=>q.fr (fun _ y=>y) fun a xs e _ _ n=>ls a xs e n
 have G2:=rwf hr2
 refine k _ ⟨ik,r,ps,vl,h.ww,h.wi,h.wp,h.wv,fun a wa=>?_,?_,h.hi.two (fun xs e=>ls _ _ e h.ne) tp,G2,⟨_,af,(al.mono fun v rs ⟨a,e,q⟩=>⟨a,e,rwf q⟩).app (.cons ⟨r,rfl,G2⟩ .nil)⟩,h.ne,vE⟩ (fun a ob e n=>?_) tp
 ·by_cases e1:a=ps
  ·rw[e1];exact⟨_,af⟩
  rw[aC e1]
  by_cases e2:a=w
  ·rw[e2];exact⟨_,w1⟩
  ·obtain⟨ob,e⟩:=h.al a wa
   exact⟨ob,k1 _ _ e e2⟩
 ·rw[aC Wc]
  exact w1
 ·rw[aC (fun q=>n (by rw[q];exact h.wp))]
  exact k1 _ _ e (fun q=>n (by rw[q];exact h.ww))
theorem zc.al{C CS CW CB:Addr}{U:Addr→Prop}{H:Hp}{x:Addr}{pe:l5}{lines:l6}{aH:lR}{nW:Nat}{bW:Row}(h:zc C CS CW CB U H x pe lines aH nW bW){a:Addr}(z:U a):∃ ob,H a=some ob:=by
 obtain⟨S,SW,d,wl,sh,bl,kn,du,bk,dS,st,op,dw,sg,ow,pw,db,tb,ops,L,W,B,R,Rn,dj,db',dt,u⟩:=h
 obtain⟨as,hR,_⟩:=R
 rcases (u a).mp z with y|y|y|y|y|y
 ·exact L.W.al a y
 ·exact W.al a y
 ·rw[y];exact⟨_,L.hb⟩
 ·rw[y];exact⟨_,L.hx⟩
 ·rw[y];exact⟨_,B⟩
 ·rw[y];exact⟨_,hR⟩
theorem Wo.al{W:Addr→Prop}{H:Hp}{w:Addr}{aH:lR}{pe:l5}{rows:eF}(h:Wo W H w aH pe rows){a:Addr}(z:W a):∃ ob,H a=some ob:=by
 obtain⟨ik,rw,ps,vl,y⟩:=h
 exact y.al a z
structure sZ(C CS CW CB:Addr)(H:Hp)(l c w x:Addr)(U W:Addr→Prop)(pe:l5)(rows:eF)(pq:l5)(rq:eF)(lines:l6)(aH:lR)(nW:Nat)(bW:Row):Prop where
 src:dR H l c
 IT:zc C CS CW CB U H x pe lines aH nW bW
 lst:pe.getLast?=some rows
 wo:Wo W H w aH pq rq
 du:∀ a,U a→¬ W a∧a≠l∧a≠c
 dw:∀ a,W a→a≠l∧a≠c
def IU(l:Addr)(U W U' W':Addr→Prop)(H H':Hp):Prop:=(∀ a,U' a∨W' a→U a∨W a∨H a=none)∧(∀ a ob,H a=some ob→a≠l→¬ U a→¬ W a→H' a=some ob)∧∀ a xs,H a=some (.tup xs)→H' a=some (.tup xs)
theorem IU.trans{l:Addr}{U W U1 W1 U2 W2:Addr→Prop}{H H1 H2:Hp}(f:IU l U W U1 W1 H H1)(hl:∃ ls,H1 l=some ls)(g:IU l U1 W1 U2 W2 H1 H2):IU l U W U2 W2 H H2:=by
 have key:∀ a,U1 a∨W1 a∨H1 a=none→U a∨W a∨H a=none:=by
  intro a z
  rcases z with z|z|z
  ·exact f.1 a (.inl z)
  ·exact f.1 a (.inr z)
  by_cases u:U a
  ·exact .inl u
  by_cases v:W a
  ·exact .inr (.inl v)
  refine .inr (.inr ?_)
  cases ea:H a with
  | none=>rfl
  | some ob =>
   exfalso
   by_cases n:a=l
   ·obtain⟨ls,hl⟩:=hl
    rw[n,hl]at z
    cases z
   rw[f.2.1 _ _ ea n u v]at z
   cases z
 have out:∀ a ob,H a=some ob→¬ U a→¬ W a→¬ U1 a∧¬ W1 a:=by
  intro a ob e u v
  refine⟨fun z=>?_,fun z=>?_⟩
  ·rcases f.1 a (.inl z) with y|y|y
   ·exact u y
   ·exact v y
   ·rw[y]at e;cases e
  ·rcases f.1 a (.inr z) with y|y|y
   ·exact u y
   ·exact v y
   ·rw[y]at e;cases e
 exact⟨fun a z=>key a (g.1 a z),fun a ob e n u v=>g.2.1 _ _ (f.2.1 _ _ e n u v) n (out a ob e u v).1 (out a ob e u v).2,fun a xs e=>g.2.2 _ _ (f.2.2 _ _ e)⟩
theorem sZ.mv{C CS CW CB:Addr}{H H':Hp}{l c w x:Addr}{U W:Addr→Prop}{pe:l5}{rows:eF}{pq:l5}{rq:eF}{lines:l6}{aH:lR}{nW:Nat}{bW:Row}(h:sZ C CS CW CB H l c w x U W pe rows pq rq lines aH nW bW)(k:cS l H H')(s:dR H' l c):sZ C CS CW CB H' l c w x U W pe rows pq rq lines aH nW bW:=by
 obtain⟨ls,hl⟩:=h.src.lst
 have t:∀ a xs,H a=some (.tup xs)→H' a=some (.tup xs):=fun a xs e=>k _ _ e (cT e hl (by intro z;cases z))
 exact⟨s,h.IT.fr (fun a ob e z=>k _ _ e (h.du a z).2.1) t,h.lst,h.wo.fr (fun a ob e z=>k _ _ e (h.dw a z).1) t,h.du,h.dw⟩
theorem sZ.same{C CS CW CB:Addr}{H H':Hp}{l c w x:Addr}{U W:Addr→Prop}{pe:l5}{rows:eF}{pq:l5}{rq:eF}{lines:l6}{aH:lR}{nW:Nat}{bW:Row}(h:sZ C CS CW CB H l c w x U W pe rows pq rq lines aH nW bW)(s:aF H H'):sZ C CS CW CB H' l c w x U W pe rows pq rq lines aH nW bW:=h.mv (fun a o e _=>s a o e) (h.src.same s)
inductive xU(C CS CW CB:Addr)(vs:List V)(H:Hp)(Q:VK)(E:XK):Prop
 | mk (l c w x:Addr) (U W:Addr→Prop) (pe:l5) (rows:eF) (pq:l5) (rq:eF) (lines:l6) (aH:lR) (nW:Nat) (bW:Row) (_:vs=[.ref l,.ref w,.ref x]) (_:sZ C CS CW CB H l c w x U W pe rows pq rq lines aH nW bW) (_:pe.length≤800) (_:pq.length≤800) (_:rows.length≤50) (_:lines.length≤800) (_:aH.length≤50000) (_:nW≤800) (_ :
 ∀ (U':Addr→Prop) (H':Hp) (h:Int) (cs:List Nat) (iB:l6),cs.length≤60→iB.length=lines.length+1→sZ C CS CW CB H' l c w x U' W (pe++[rows]) rows (pq++[rq]) rq iB (aH++rV h cs) (nW+1) bW→IU l U W U' W H H'→Q (.bl true) H'):xU C CS CW CB vs H Q E
theorem MC{α:Type}{xs:List α}{v:Int}(v0:0≤v)(v1:v<xs.length):∃ x∈xs,wK xs v=some x:=by
 obtain⟨j,rfl⟩:∃ j:Nat,v=j:=⟨v.toNat,by omega⟩
 have hj:j<xs.length:=by omega
 exact⟨xs[j],List.getElem_mem hj,eL (qM hj)⟩
def lpT:TS:=fun D σ H=>∃ (l c:Addr) (s1 s2 s3 s4 s6:Option V) (h:Int),σ=[some (.ref l),s1,s2,s3,s4,some (.int h),s6]∧dR H l c∧wj h∧∀ (h':Int) (H':Hp),wj h'→dR H' l c→(∀ a,a≠l→H' a=H a)→D.nx [some (.ref l),s1,s2,s3,s4,some (.int h'),s6] H'
theorem kJ:aG ["_law_src_here","_law_world_here","_law_house","_law_many","_law_text_here","_law_hand","_law_start"] ["_law_src_here","_law_world_here","_law_house"] (az mz):=⟨rfl,rfl,rfl,by decide +kernel,rfl,by decide +kernel,by decide +kernel⟩
set_option maxHeartbeats 4000000 in
theorem FT{f C CS CW CB XS XM XT XO XP f1 f2 fN fT fG fK fM fO:Addr}{fd g1 g2 gN gT gG gK gM gO:FuncData}(F:iD K "_law_pour" "_law_pour" mz f fd)(X:yJ K mg C CS CW CB XS XM XT XO XP)(A1:Hw K mg CS)(A2:Km K mg)(A5:Ro K mg CW CB)(aP:aQ K C "enter" "Library.enter" bS I0 f1 g1)(gZ:aQ K C "pour" "Library.pour" iV M5 f2 g2)(aW:ay K mg "_law_next" iM wO fN gN)(mK:ay K mg "_law_text" kj Kv fT gT)(jF:ay K mg "_law_sign" ki Jc fG gG)(cE:ay K mg "_law_keep" jm AW fK gK)(bP:ay K mg "_law_same" iN wL fM gM)(b8:ay K mg "_law_whole" eS Cz fO gO):aB P w K mg base bV 5 f fd AX (xU C CS CW CB):=by
 have Bq:aB P w K mg base bV 4 _ _ M5 (DJ C CS CW CB):=yK gZ.F X A1 A2 A5 aP
 obtain⟨⟨⟨T,_,_,_,_,_⟩,⟨fi,aK⟩,_,_,_,_,_,_,_,_⟩,_,_,_,_,_,_,_,_⟩:=X
 have bM:aB P w K mg base bV 1 _ _ wO sJ:=kG aW.F T
 have HC:aB P w K mg base bV 3 _ _ Kv DO:=FP mK.F T aW jF
 have jG:aB P w K mg base bV 1 _ _ AW xT:=pY cE.F
 have jy:aB P w K mg base bV 3 _ _ wL (uR 2):=pR T b8 bP 2
 refine F.ok kJ (fun vs H Q E h=>?_) (fun cdv A outer s H vs Q E hr h=>?_)
 ·obtain⟨l,c,w,x,U,W,pe,rows,pq,rq,lines,aH,nW,bW,rfl,_⟩:=h
  rfl
 obtain⟨l,c,w,x,U,W,pe,rows,pq,rq,lines,aH,nW,bW,rfl,St,b1,b1',b2,b3,b4,b5,k⟩:=h
 have hu:=lY hr
 refine⟨_,(ak (aU (i:=3) kJ.nd rfl (Or.inl rfl) (bq bf (bJ (aa aA (aa aA (aa aA (aa aA (aa aA ah)))))) (aL aW bM hr (aa (pv 0) (aa aA ah))) (fun _ _=>rfl)))
   (ak (aU (i:=4) kJ.nd rfl (Or.inl rfl) (aL mK HC hr (aa (pv 0) (aa (aL aW bM hr (aa (pv 0) (aa (bz eZ (pv 3) aA) ah))) ah))))
   (ak (aU (i:=5) kJ.nd rfl (Or.inr rfl) (aL aW bM hr (aa (pv 0) (aa aA ah))))
   (ak (zF (t':=lpT) (cC (bR kU (aL aW bM hr (aa (pv 0) (aa aA ah))) aA (bZ _))
   (ao (aU (i:=5) kJ.nd rfl (Or.inr rfl) (aL aW bM hr (aa (pv 0) (aa (bz KL aA aA) ah)))))
   bL) ?b3)
   (ak (aU (i:=6) kJ.nd rfl (Or.inl rfl) (aV aX rfl T.ic lT (aa (dX hu (pv 1) bO (fun _ _=>rfl)) ah)))
   (ak (bw (je qd PySem.F.slot_list_extend PySem.F.type_list_extend BD (dX hu (pv 1) bO (fun _ _=>rfl)) (aa (qB (N:=["_law_sign_here","_law_hand"]) (yh (sc:=az mz) (NX:=["_law_src_here","_law_world_here","_law_house","_law_many","_law_text_here","_law_hand","_law_start"]) (jx:=[none,some 5]) rfl rfl rfl (by decide +kernel) (by decide +kernel) rfl (by decide +kernel) rfl (by decide +kernel)) rfl (QT (pv 4)) (fun _ _ _ _ _ _=>(aY (i:=0) (show List.Nodup (["_law_sign_here","_law_hand"]:List Str) by decide +kernel) rfl (Or.inl rfl))) (fun _ _ _ _ _ _=>mQ) (fun _ _ _ _ _ _=>(eK (aa (pv 1) (aa (pv 0) ah))))) ah)))
   (ak (bw (aL cE jG hr (aa (pv 1) (aa (dX hu (pv 1) bO (fun _ _=>rfl)) ah))))
   (ao (aR (aL bP jy hr (aa (cI (pv 2) aK.cl gZ.mt Bq (hr.mono (by decide)) gZ.b .nil dz (aa (pv 5) (aa (pv 4) ah))) (aa (eK (aa (pv 6) (aa (bz eZ (pv 6) (aV vL rfl T.ic lT (aa (pv 4) ah))) ah))) ah)))))))))))),?_⟩
 case b3 =>
  rintro D σ H ⟨l,c,s1,s2,s3,s4,s6,h,rfl,S,fh,k⟩
  refine⟨_,rfl,l,c,4,rfl,S,by decide,by decide,fun v H1 v0 v1 S1 k1=>⟨rfl,_,rfl,dQ (fun _=>?_) (fun _=>k h H1 fh S1 k1)⟩⟩
  refine⟨_,rfl,_,_,rfl,rfl,⟨by decide,by decide,by decide⟩,l,c,_,rfl,S1,by decide,by decide,fun v2 H2 q0 q1 S2 k2=>?_⟩
  rw[show (10:Int)^(59:Int).toNat=10^59 from rfl]at q1
  exact k v2 H2 ⟨q0,Int.lt_trans q1 (by decide)⟩ S2 fun y hy=>(k2 y hy).trans (k1 y hy)
 refine⟨(by show 5≤sizeLine;decide),fun t ht=>?_⟩
 have s1:=aj ht (.lst [.int 1,.int 3,.int 5,.int 8,.int 60])
 have h1:(upd H t (.lst [.int 1,.int 3,.int 5,.int 8,.int 60])) t=some (.lst [.int 1,.int 3,.int 5,.int 8,.int 60]):=af
 have nt:=St.src.ne ht
 generalize upd H t (.lst [.int 1,.int 3,.int 5,.int 8,.int 60])=H1 at s1 h1
 have Kn:=St.same s1
 refine⟨_,rfl,l,c,5,rfl,Kn.src,by decide,by decide,fun i H2 i0 i1 S2 k2=>?_⟩
 have Px:=Kn.mv (cW k2) S2
 obtain⟨z,hz,ez⟩:=MC (xs:=[V.int 1,.int 3,.int 5,.int 8,.int 60]) i0 (by show i<5;omega)
 obtain⟨tn,rfl,Ph,VT⟩:∃ j:Int,z=.int j∧0≤j∧j≤60:=by
  have key:∀ y∈[V.int 1,.int 3,.int 5,.int 8,.int 60],∃ j:Int,y=.int j∧0≤j∧j≤60:=by
   intro y hy
   rcases List.mem_cons.mp hy with q|hy
   ·exact⟨1,q,by decide,by decide⟩
   rcases List.mem_cons.mp hy with q|hy
   ·exact⟨3,q,by decide,by decide⟩
   rcases List.mem_cons.mp hy with q|hy
   ·exact⟨5,q,by decide,by decide⟩
   rcases List.mem_cons.mp hy with q|hy
   ·exact⟨8,q,by decide,by decide⟩
   ·exact⟨60,List.mem_singleton.mp hy,by decide,by decide⟩
  exact key z hz
 refine⟨t,_,_,_,rfl,rfl,bF.of ((k2 t nt.1.symm).trans h1),ez,?_⟩
 refine⟨_,rfl,_,rfl,_,rfl,_,_,rfl,rfl,l,c,_,rfl,S2,by omega,by omega,fun m H3 m0 m1 S3 k3=>?_⟩
 have MY:=Px.mv (cW k3) S3
 refine⟨l,c,m.toNat,by rw[show ((m.toNat:Nat):Int)=m by omega];rfl,S3,by omega,fun cs H4 hcs S4 K4=>?_⟩
 have Oz:=MY.mv K4 S4
 refine⟨_,rfl,l,c,3,rfl,S4,by decide,by decide,fun h0 H5 p0 p1 S5 k5=>?_⟩
 have UM:=Oz.mv (cW k5) S5
 refine⟨l,c,_,_,_,_,_,h0,rfl,S5,⟨p0,by omega⟩,fun h H6 fh S6 k6=>?_⟩
 have AV:=UM.mv (cW k6) S6
 have K16:cS l H H6:=((((((jd.aF.keep s1).trans (cW k2)).trans (cW k3)).trans K4).trans (cW k5)).trans (cW k6))
 obtain⟨ik,rw,ps,vl,wu⟩:=id AV.wo
 obtain⟨as,hik,pa⟩:=id wu.hi
 have la:=Paired.length pa
 have zi:=mC.k (k:=kI) wu.hw
 rw[show cj (vC ik rw ps vl) kI=some (.ref ik) by kernel_rfl]at zi
 refine⟨_,rfl,w,_,rfl,zi,ik,_,rfl,.inl (bF.of hik),?_⟩
 refine⟨_,rfl,w,_,rfl,zi,.inl ⟨rfl,_,bF.of hik⟩,_,rfl,cs,rfl,fun acc hacc=>JM (fun j σ H7=>∃ (u:Option V) (bs:List Addr),σ=[u,some (.int h)]∧H7 acc=some (.lst (bs.map V.ref))∧Paired (Pr H7) bs (rV h (cs.take j))∧aF H6 H7) ⟨none,[],rfl,af,.nil,aj hacc _⟩ ?_ ?_⟩
 ·rintro j ch σ H7 hj ⟨u,bs,rfl,ha,pb,s7⟩
  have lb:=Paired.length pb
  rw[tV,kK]at lb
  refine⟨_,rfl,_,rfl,(by show 2≤sizeLine;decide),fun t ht=>⟨_,aj ht _ _ _ ha,(by rw[cO];exact aM (by omega)),_,bs++[t],rfl,?_,?_,?_⟩⟩
  ·rw[af,nu]
   rfl
  ·have nta:t≠acc:=(au ha ht).symm
   rw[take_snoc hj]
   unfold rV
   rw[nu]
   refine wF (Paired.El pb fun a q e=>?_) ?_
   ·show upd _ acc _ a=_
    rw[aC (cT e ha (by intro z;cases z))]
    exact aj ht _ _ _ e
   ·show upd _ acc _ t=_
    rw[aC nta]
    exact af
  ·intro b ob e
   rw[aC (au e hacc)]
   exact aj ht _ _ _ (s7 _ _ e)
 rintro σ H7 ⟨u,bs,rfl,ha,pb,s7⟩
 rw[kO]at pb
 have lb:=Paired.length pb
 rw[tV]at lb
 have UN:=s7 _ _ hik
 refine⟨ik,acc,_,_,rfl,rfl,UN,ha,(by rw[cO,cO];exact jI (aM (by omega))),?_⟩
 rw[← nu]
 have k8:cS ik H7 (upd H7 ik (.lst ((as++bs).map V.ref))):=aJ ik _ _
 have i8:(upd H7 ik (.lst ((as++bs).map V.ref))) ik=some (.lst ((as++bs).map V.ref)):=af
 generalize upd H7 ik (.lst ((as++bs).map V.ref))=H8 at k8 i8
 have MZ:∀ a ob,H6 a=some ob→a≠ik→H8 a=some ob:=fun a ob e n=>k8 _ _ (s7 _ _ e) n
 have t68:∀ a xs,H6 a=some (.tup xs)→H8 a=some (.tup xs):=fun a xs e=>MZ _ _ e (cT e hik (by intro z;cases z))
 have Rj:∀ a xs,H7 a=some (.tup xs)→H8 a=some (.tup xs):=fun a xs e=>k8 _ _ e (cT e UN (by intro z;cases z))
 have w8:H8 w=some (.dK (vC ik rw ps vl)):=MZ _ _ wu.hw (cT wu.hw hik (by intro z;cases z))
 have hr8:MA W ik ps H8 rw rq:=wu.hr.fr (fun _ z=>z) fun a xs e _ n _=>MZ _ _ e n
 have wo8:Gd W H8 w ik rw ps vl (aH++rV h cs) pq rq:=by
  obtain⟨Rt,hp,al⟩:=wu.hp
  refine⟨wu.ww,wu.wi,wu.wp,wu.wv,fun a z=>?_,w8,⟨as++bs,i8,uL (Paired.El pa fun a q e=>t68 _ _ e) (Paired.El pb fun a q e=>Rj _ _ e)⟩,hr8,⟨Rt,MZ _ _ hp wu.ne.symm,al.mono fun v rs ⟨a,e,q⟩=>⟨a,e,q.fr (fun _ y=>y) fun a xs e _ n _=>MZ _ _ e n⟩⟩,wu.ne,wu.lst⟩
  by_cases e:a=ik
  ·rw[e];exact⟨_,i8⟩
  ·obtain⟨ob,e2⟩:=wu.al a z
   exact⟨ob,MZ _ _ e2 e⟩
 have aeK:=AV.IT.fr (fun a ob e z=>MZ _ _ e (fun q=>(AV.du a z).1 (by rw[q];exact wu.wi))) t68
 have aeL:dR H8 l c:=by
  obtain⟨n,ns,i,d,r,e1,e2,h3⟩:=S6
  exact⟨n,ns,i,d,r,MZ _ _ e1 (fun q=>(AV.dw ik wu.wi).1 q.symm),MZ _ _ e2 (fun q=>(AV.dw ik wu.wi).2 q.symm),h3⟩
 have zr:=mC.k (k:=kR) w8
 rw[show cj (vC ik rw ps vl) kR=some (.ref rw) by kernel_rfl]at zr
 refine⟨_,rfl,_,rfl,w,_,rfl,zr,W,w,rw,aH++rV h cs,pq,rq,rq,rfl,⟨ik,rw,ps,vl,wo8⟩,by omega,fun ik' ps' ⟨rw',vl',e⟩=>?_,fun H9 wo9 M0 tp9=>?_⟩
 ·rw[w8]at e
  simp only[Option.some.injEq,HO.dK.injEq,vC,List.cons.injEq,Prod.mk.injEq,V.ref.injEq,true_and,and_true]at e
  obtain⟨rfl,rfl,rfl,rfl⟩:=e
  exact hr8
 have UO:=aeK.fr (fun a ob e z=>M0 _ _ e (AV.du a z).1) tp9
 have OA:dR H9 l c:=by
  obtain⟨n,ns,i,d,r,e1,e2,h3⟩:=aeL
  exact⟨n,ns,i,d,r,M0 _ _ e1 (fun q=>(AV.dw l q).1 rfl),M0 _ _ e2 (fun q=>(AV.dw c q).2 rfl),h3⟩
 obtain⟨S',Pn,d',QZ,UP,UQ,UR,US,UT,UU,st',op',Wh,Wi,Wj,Wk,db',tb',ops',LU⟩:=id UO
 refine⟨_,rfl,x,d',_,rfl,LU.L.hx,rfl,_,rfl,_,rfl,U,x,pe,lines,aH,nW,bW,h,cs,rows,rfl,UO,fh,by omega,by omega,by omega,AV.lst,b2,by omega,by omega,fun U' q BS UW FU hq=>?_⟩
 refine⟨_,rfl,_,rfl,_,rfl,txt cs,rfl,(by rw[qX];exact jI (aM (by omega))),_,_,rfl,rfl,(by show 2≤sizeLine;decide),fun t2 JE=>?_⟩
 refine⟨_,_,rfl,.inr ⟨false,q,t2,_,_,rfl,rfl,aj JE _ _ _ hq,af,rfl,fun i u v eu ev=>?_⟩,fun Ih aeP=>?_⟩
 ·match i,eu,ev with
  | 0,eu,ev =>
   cases eu;cases ev
   rw[show (as.map V.ref).length=aH.length by rw[cO,la]]
   exact Eqv.int _
  | 1,eu,ev =>
   cases eu;cases ev
   rw[show ((aH++rV h cs).length:Int)=((as.map V.ref).length:Int)+((txt cs).length:Int) by rw[cO,la,qX,eG,tV];omega]
   exact Eqv.int _
 have s12:aF BS Ih:=fun a ob e=>aeP _ _ (aj JE _ _ _ e)
 have Rk:∀ a ob,H a=some ob→a≠l→¬ W a→H9 a=some ob:=fun a ob e n z=>M0 _ _ (MZ _ _ (K16 _ _ e n) (fun q=>z (by rw[q];exact wu.wi))) z
 have f09:∀ a,H9 a=none→H a=none:=by
  intro a e
  cases ea:H a with
  | none=>rfl
  | some ob =>
   exfalso
   by_cases n:a=l
   ·obtain⟨_,ns,i,d,r,e1,_⟩:=OA
    rw[n,e1]at e
    cases e
   by_cases z:W a
   ·obtain⟨ob,e2⟩:=wo9.al z
    rw[e2]at e
    cases e
   rw[Rk _ _ ea n z]at e
   cases e
 have UX:dR Ih l c:=by
  obtain⟨n,ns,i,d,r,e1,e2,h3⟩:=OA
  exact⟨n,ns,i,d,r,s12 _ _ (FU.2.1 _ _ e1 (fun q=>(AV.du l q).2.1 rfl)),s12 _ _ (FU.2.1 _ _ e2 (fun q=>(AV.du c q).2.2 rfl)),h3⟩
 refine k U' Ih h cs _ (by omega) (by rw[eG];rfl) ⟨UX,UW.fr (fun a ob e _=>s12 _ _ e) (fun a xs e=>s12 _ _ e),(by simp),wo9.fr (fun a ob e z=>s12 _ _ (FU.2.1 _ _ e (fun y=>(AV.du a y).1 z))) (fun a xs e=>s12 _ _ (FU.2.2 _ _ e)),fun a z=>?_,AV.dw⟩ ⟨fun a z=>z.elim (fun z=>(FU.1 a z).elim .inl fun y=>.inr (.inr (f09 a y))) (fun z=>.inr (.inl z)),fun a ob e n y z=>s12 _ _ (FU.2.1 _ _ (Rk _ _ e n z) y),fun a xs e=>?_⟩
 ·rcases FU.1 a z with y|y
  ·exact AV.du a y
  ·refine⟨fun z=>?_,fun q=>?_,fun q=>?_⟩
   ·obtain⟨ob,e2⟩:=wo9.al z
    rw[e2]at y
    cases y
   ·obtain⟨_,ns,i,d,r,e1,_⟩:=OA
    rw[q,e1]at y
    cases y
   ·obtain⟨_,ns,i,d,r,_,e1,_⟩:=OA
    rw[q,e1]at y
    cases y
 ·obtain⟨ls,hl⟩:=St.src.lst
  exact s12 _ _ (FU.2.2 _ _ (tp9 _ _ (t68 _ _ (K16 _ _ e (cT e hl (by intro z;cases z))))))
theorem sZ.Py{W W':Addr→Prop}{H:Hp}{w ik rw ps vl:Addr}{aH:lR}{pe:l5}{rows:eF}(h:Gd W H w ik rw ps vl aH pe rows)(s:∀ a,W a→W' a)(al:∀ a,W' a→∃ ob,H a=some ob):Gd W' H w ik rw ps vl aH pe rows:=by
 obtain⟨ww,wi,wp,wv,_,hw,hi,hr,⟨vs,hp,a2⟩,ne,lst⟩:=h
 exact⟨s _ ww,s _ wi,s _ wp,s _ wv,al,hw,hi,hr.fr s (fun a xs e _ _ _=>e),⟨vs,hp,a2.mono fun v rs ⟨a,e,z⟩=>⟨a,e,z.fr s (fun a xs e _ _ _=>e)⟩⟩,ne,lst⟩
inductive vq(C CS CW CB:Addr)(vs:List V)(H:Hp)(Q:VK)(E:XK):Prop
 | mk (l c w x:Addr) (U W:Addr→Prop) (pe:l5) (rows:eF) (pq:l5) (rq:eF) (lines:l6) (aH:lR) (nW:Nat) (bW:Row) (_:vs=[.ref w,.ref x]) (_:sZ C CS CW CB H l c w x U W pe rows pq rq lines aH nW bW) (_:pe.length≤800) (_:pq.length≤800) (_:rows.length<40) (_:rq.length=rows.length) (_:lines.length≤800) (_:(∃ f,uI (rows++[[]]) f)) (_ :
 ∀ (U' W':Addr→Prop) (H':Hp) (iB:l6),iB.length=lines.length+1→sZ C CS CW CB H' l c w x U' W' (pe++[rows++[[]]]) (rows++[[]]) (pq++[rq++[[]]]) (rq++[[]]) iB aH nW bW→IU l U W U' W' H H'→Q (.bl true) H'):vq C CS CW CB vs H Q E
theorem DR:aG ["_law_world_here","_law_house"] ["_law_world_here","_law_house"] (az mZ):=⟨rfl,rfl,rfl,by decide +kernel,rfl,by decide +kernel,by decide +kernel⟩
set_option maxHeartbeats 4000000 in
theorem DS{f C CS CW CB XS XM XT XO XP f1 fK fM fO:Addr}{fd g1 gK gM gO:FuncData}(F:iD K "_law_fresh" "_law_fresh" mZ f fd)(X:yJ K mg C CS CW CB XS XM XT XO XP)(A1:Hw K mg CS)(A2:Km K mg)(A3:UC K mg C)(gf:aQ K C "fresh" "Library.fresh" ig ja f1 g1)(cE:ay K mg "_law_keep" jm AW fK gK)(bP:ay K mg "_law_same" iN wL fM gM)(b8:ay K mg "_law_whole" eS Cz fO gO):aB P w K mg base bV 8 f fd Gf (vq C CS CW CB):=by
 have LM:=X.1
 have AK:aB P w K mg base (oJ P w) 7 _ _ ja (DH C CS XT):=xO gf.F LM A1 A2 A3
 obtain⟨⟨⟨T,_,_,_,_,_⟩,⟨fi,aK⟩,_,_,_,_,_,_,_,_⟩,_,_,_,_,_,_,_,_⟩:=X
 have jG:aB P w K mg base bV 1 _ _ AW xT:=pY cE.F
 have jy:aB P w K mg base bV 2 _ _ wL (uR 1):=pR T b8 bP 1
 refine F.ok DR (fun vs H Q E h=>?_) (fun cdv A outer s H vs Q E hr h=>?_)
 ·obtain⟨l,c,w,x,U,W,pe,rows,pq,rq,lines,aH,nW,bW,rfl,_⟩:=h
  rfl
 obtain⟨l,c,w,x,U,W,pe,rows,pq,rq,lines,aH,nW,bW,rfl,St,b1,b1',b2,b2',b3,B,k⟩:=h
 have hu:=lY hr
 refine⟨_,(ak (bw (aL cE jG hr (aa (pv 0) (aa (bz kZ (dX hu (pv 0) bO (fun _ _=>rfl)) (bJ (aa (bJ ah) ah))) ah))))
   (ao (aR (aL bP jy hr (aa (cV (pv 1) aK.cl gf.mt AK (hr.mono (by decide)) gf.b .nil zM) (aa (bz gR (aV aX rfl T.ic lT (aa (dX hu (pv 0) bO (fun _ _=>rfl)) ah)) aA) ah)))))),?_⟩
 obtain⟨ik,rw,ps,vl,wu⟩:=id St.wo
 have zr:=mC.k (k:=kR) wu.hw
 rw[show cj (vC ik rw ps vl) kR=some (.ref rw) by kernel_rfl]at zr
 refine⟨_,rfl,_,rfl,w,_,rfl,zr,?_⟩
 obtain⟨MD,n1,n2,vs,hvs,al⟩:=id wu.hr
 have lv:=bK.len al
 refine⟨(by show 0≤sizeLine;decide),fun e he=>⟨(by show 1≤sizeLine;decide),fun o ho=>?_⟩⟩
 have s1:=aj he (.lst [])
 have e1:(upd H e (.lst [])) e=some (.lst []):=af
 generalize upd H e (.lst [])=H1 at s1 e1 ho
 have s2:=aj ho (.lst [.ref e])
 have o2:(upd H1 o (.lst [.ref e])) o=some (.lst [.ref e]):=af
 show Qs _ _ (upd H1 o (.lst [.ref e])) _
 generalize upd H1 o (.lst [.ref e])=H2 at s2 o2
 have s02:=s1.trans s2
 refine⟨rw,o,_,_,rfl,rfl,s02 _ _ hvs,o2,(by rw[lv];exact jI (aM (by simp only[ny,oj];omega))),fun r hr2=>?_⟩
 have s3:=aj hr2 (.lst (vs++[.ref e]))
 have r3:(upd H2 r (.lst (vs++[.ref e]))) r=some (.lst (vs++[.ref e])):=af
 generalize upd H2 r (.lst (vs++[.ref e]))=H3 at s3 r3
 have Mr:=s02.trans s3
 have fr:=aS s02 hr2
 obtain⟨as,hik,_⟩:=id wu.hi
 obtain⟨Rt,hps,_⟩:=id wu.hp
 have e3:=s3 _ _ (s2 _ _ e1)
 have wu3:Gd W H3 w ik rw ps vl aH pq rq:=wu.fr (fun a ob e _=>Mr _ _ e) (fun a xs e=>Mr _ _ e)
 have Sf:Gd (fun a=>W a∨a=e∨a=r) H3 w ik rw ps vl aH pq rq:=sZ.Py wu3 (fun a z=>.inl z) (by
  rintro a (z|z|z)
  ·exact wu3.al a z
  ·rw[z];exact⟨_,e3⟩
  ·rw[z];exact⟨_,r3⟩)
 have UY:∀ a ob,H a=some ob→¬ W a→¬ (W a∨a=e∨a=r):=by
  rintro a ob h0 n (z|z|z)
  ·exact n z
  ·rw[z,he]at h0;cases h0
  ·rw[z,fr]at h0;cases h0
 refine⟨fun a=>W a∨a=e∨a=r,w,r,aH,pq,rq,rq++[[]],rfl,⟨ik,rw,ps,vl,Sf⟩,by omega,fun ik' ps' ⟨rw',vl',ee⟩=>?_,fun H4 wo4 fr4 tp4=>?_⟩
 ·rw[wu3.hw]at ee
  simp only[Option.some.injEq,HO.dK.injEq,vC,List.cons.injEq,Prod.mk.injEq,V.ref.injEq,true_and,and_true]at ee
  obtain⟨rfl,rfl,rfl,rfl⟩:=ee
  exact⟨.inr (.inr rfl),(au hik fr).symm,(au hps fr).symm,_,r3,bK.snoc (al.mono fun _ _=>Pu.fr (fun a z=>.inl z) (fun a xs e _ _ _=>Mr _ _ e)) ⟨e,rfl,.inr (.inl rfl),(au hik he).symm,(au hps he).symm,e3⟩⟩
 have Pk:∀ a ob,H a=some ob→¬ W a→H4 a=some ob:=fun a ob e n=>fr4 _ _ (Mr _ _ e) (UY _ _ e n)
 have t04:∀ a xs,H a=some (.tup xs)→H4 a=some (.tup xs):=fun a xs e=>tp4 _ _ (Mr _ _ e)
 have aeT:=St.IT.fr (fun a ob e z=>Pk _ _ e (St.du a z).1) t04
 have Ru:dR H4 l c:=by
  obtain⟨n,ns,i,d,r,e1,e2,h3⟩:=St.src
  exact⟨n,ns,i,d,r,Pk _ _ e1 (fun q=>(St.dw l q).1 rfl),Pk _ _ e2 (fun q=>(St.dw c q).2 rfl),h3⟩
 have uw:∀ a,U a→¬ (W a∨a=e∨a=r):=fun a z=>by
  obtain⟨ob,h0⟩:=St.IT.al z
  exact UY _ _ h0 (St.du a z).1
 obtain⟨S',Pn,d',QZ,UP,UQ,UR,US,UT,UU,st',op',Wh,Wi,Wj,Wk,db',tb',ops',LU⟩:=id aeT
 refine⟨_,rfl,x,d',_,rfl,LU.L.hx,rfl,S',x,d',QZ,UP,UQ,UR,US,UT,UU,st',op',pe,ops',lines,rows,rfl,LU.L,St.lst,by omega,by omega,by omega,fun c=>absurd c (by omega),fun _=>⟨B,fun S'' H5 L5 SH=>?_⟩⟩
 obtain⟨U',aeU,fu⟩:=LU.wD L5 SH
 have wo5:=wo4.fr (fun a ob e z=>fu.2.1 _ _ e (fun y=>uw a y z)) fu.2.2
 obtain⟨ik5,rw5,ps5,vl5,wu5⟩:=id wo5
 obtain⟨_,_,_,vs5,aeW,al5⟩:=id wu5.hr
 have lv5:=bK.len al5
 rw[eG]at lv5
 have zr5:=mC.k (k:=kR) wu5.hw
 rw[show cj (vC ik5 rw5 ps5 vl5) kR=some (.ref rw5) by kernel_rfl]at zr5
 refine⟨_,rfl,w,_,rfl,zr5,rw5,_,rfl,.inl (bF.of aeW),_,_,rfl,rfl,_,_,rfl,.inl ⟨rfl,?_⟩,fun H6 s6=>?_⟩
 ·rw[lv5]
  simp only[ny,oj]
  congr 1
  omega
 have k06:∀ a ob,H a=some ob→¬ U a→¬ W a→H6 a=some ob:=fun a ob e y z=>s6 _ _ (fu.2.1 _ _ (Pk _ _ e z) y)
 have aeX:dR H6 l c:=by
  obtain⟨n,ns,i,d,r,e1,e2,h3⟩:=Ru
  exact⟨n,ns,i,d,r,s6 _ _ (fu.2.1 _ _ e1 (fun q=>(St.du l q).2.1 rfl)),s6 _ _ (fu.2.1 _ _ e2 (fun q=>(St.du c q).2.2 rfl)),h3⟩
 have f04:∀ a,H4 a=none→H a=none:=by
  intro a h0
  cases ea:H a with
  | none=>rfl
  | some ob =>
   exfalso
   by_cases z:W a
   ·obtain⟨ob,e2⟩:=wo4.al (a:=a) (.inl z)
    rw[e2]at h0
    cases h0
   rw[Pk _ _ ea z]at h0
   cases h0
 refine k U' (fun a=>W a∨a=e∨a=r) H6 _ (by rw[eG];rfl) ⟨aeX,aeU.same s6,by simp,wo5.same s6,fun a z=>?_,fun a z=>?_⟩ ⟨fun a z=>z.elim (fun z=>(fu.1 a z).elim .inl fun y=>.inr (.inr (f04 a y))) (fun z=>?_),fun a ob e n y z=>k06 _ _ e y z,fun a xs e=>s6 _ _ (fu.2.2 _ _ (t04 _ _ e))⟩
 ·rcases fu.1 a z with y|y
  ·exact⟨uw a y,(St.du a y).2⟩
  ·change H4 a=none at y
   refine⟨fun z=>?_,fun q=>?_,fun q=>?_⟩
   ·obtain⟨ob,e2⟩:=wo4.al z
    rw[e2]at y
    cases y
   ·obtain⟨_,ns,i,d,r,e1,_⟩:=Ru
    rw[q,e1]at y
    cases y
   ·obtain⟨_,ns,i,d,r,_,e1,_⟩:=Ru
    rw[q,e1]at y
    cases y
 ·have ne:=St.src.ne he
  have nr:=St.src.ne fr
  rcases z with z|z|z
  ·exact St.dw a z
  ·rw[z];exact⟨ne.1.symm,ne.2.symm⟩
  ·rw[z];exact⟨nr.1.symm,nr.2.symm⟩
 ·rcases z with z|z|z
  ·exact .inr (.inl z)
  ·rw[z];exact .inr (.inr he)
  ·rw[z];exact .inr (.inr fr)
abbrev e0(n:Nat):eF:=List.replicate n []
theorem IV(n:Nat):e0 n++[[]]=e0 (n+1):=(List.replicate_succ').symm
theorem AL{n:Nat}{es:List Int}(h:es∈e0 n):es=[]:=(List.mem_replicate.mp h).2
theorem Rv{n:Nat}{x y:Int}:¬ Cb (e0 n) x y:=fun ⟨_,es,he,hy⟩=>by
 rw[AL (vB he)]at hy
 cases hy
theorem ME(n:Nat):Sound (e0 n):=fun es he y hy=>by
 rw[AL he]at hy
 cases hy
theorem Rw(n:Nat):Io (e0 n):=⟨fun _=>0,fun _=>Nat.zero_le _,fun _ _ z=>absurd z Rv⟩
theorem MF{n:Nat}(h:n≤100):uI (e0 n) fun _=>0:=by
 refine⟨by rw[yy];exact h,fun es he=>by rw[AL he];exact Nat.zero_le _,ME n,Rw n,fun x es _ he=>?_,fun _ _ _=>by decide⟩
 rw[AL (vB he)]
 rfl
def AM(n:Nat):l5:=[[],[],[]]++(List.range n).map fun k=>e0 (k+1)
theorem Ka(n:Nat):AM (n+1)=AM n++[e0 (n+1)]:=by
 unfold AM
 rw[List.range_succ,nu,qw]
 rfl
theorem AN(n:Nat):(AM n).length=n+3:=by
 unfold AM
 rw[eG,cO,List.length_range]
 show 3+n=_
 omega
inductive vt(C CS CW CB:Addr)(vs:List V)(H:Hp)(Q:VK)(E:XK):Prop
 | mk (l c w x:Addr) (U W:Addr→Prop) (_:vs=[.ref l,.ref w,.ref x]) (_:sZ C CS CW CB H l c w x U W [[]] [] [[]] [] [] [] 0 []) (_ :
 ∀ (U' W':Addr→Prop) (H':Hp) (n:Nat) (aH:lR) (lines:l6),2≤n→n≤4→aH.length≤120→lines.length=n+2→sZ C CS CW CB H' l c w x U' W' (AM n) (e0 n) (AM n) (e0 n) lines aH 2 []→IU l U W U' W' H H'→Q (.bl true) H'):vt C CS CW CB vs H Q E
theorem jT:aG ["_law_src_here","_law_world_here","_law_house","_law_good","_law_k"] ["_law_src_here","_law_world_here","_law_house"] (az pL):=⟨rfl,rfl,rfl,by decide +kernel,rfl,by decide +kernel,by decide +kernel⟩
set_option maxHeartbeats 4000000 in
theorem DT{f C CS CW CB XS XM XT XO XP f1 f2 f3 fN fT fG fK fM fO fP fF:Addr}{fd g1 g2 g3 gN gT gG gK gM gO gP gF:FuncData}(F:iD K "_law_begin" "_law_begin" pL f fd)(X:yJ K mg C CS CW CB XS XM XT XO XP)(A1:Hw K mg CS)(A2:Km K mg)(A3:UC K mg C)(A5:Ro K mg CW CB)(aP:aQ K C "enter" "Library.enter" bS I0 f1 g1)(gZ:aQ K C "pour" "Library.pour" iV M5 f2 g2)(gf:aQ K C "fresh" "Library.fresh" ig ja f3 g3)(aW:ay K mg "_law_next" iM wO fN gN)(mK:ay K mg "_law_text" kj Kv fT gT)(jF:ay K mg "_law_sign" ki Jc fG gG)(cE:ay K mg "_law_keep" jm AW fK gK)(bP:ay K mg "_law_same" iN wL fM gM)(b8:ay K mg "_law_whole" eS Cz fO gO)(rF:ay K mg "_law_pour" mz AX fP gP)(pZ:ay K mg "_law_fresh" mZ Gf fF gF):aB P w K mg base bV 9 f fd AX (vt C CS CW CB):=by
 have HD:aB P w K mg base bV 5 _ _ AX (xU C CS CW CB):=FT rF.F X A1 A2 A5 aP gZ aW mK jF cE bP b8
 have FW:aB P w K mg base bV 8 _ _ Gf (vq C CS CW CB):=DS pZ.F X A1 A2 A3 gf cE bP b8
 obtain⟨⟨⟨T,_,_,_,_,_⟩,_,_,_,_,_,_,_,_,_⟩,_,_,_,_,_,_,_,_⟩:=X
 have bM:aB P w K mg base bV 1 _ _ wO sJ:=kG aW.F T
 refine F.ok jT (fun vs H Q E h=>?_) (fun cdv A outer s H vs Q E hr h=>?_)
 ·obtain⟨l,c,w,x,U,W,rfl,_⟩:=h
  rfl
 obtain⟨l,c,w,x,U,W,rfl,St,k⟩:=h
 have hu:=lY hr
 refine⟨_,(ak (aU (i:=3) jT.nd rfl (Or.inl rfl) pH)
   (ak (gQ PassesOwn.never rfl (mj rfl T.nQ (aa aA ah)) (aY (i:=4) jT.nd rfl (Or.inl rfl))
   (ao (aU (i:=3) jT.nd rfl (Or.inl rfl) (su (aL rF HD hr (aa (pv 0) (aa (pv 1) (aa (pv 2) ah)))) (uM (pv 3))))))
   (ak (gQ PassesOwn.never rfl (mj rfl T.nQ (aa (bz eZ aA (aL aW bM hr (aa (pv 0) (aa aA ah)))) ah)) (aY (i:=4) jT.nd rfl (Or.inl rfl))
   (ao (aU (i:=3) jT.nd rfl (Or.inl rfl) (su (aL pZ FW hr (aa (pv 1) (aa (pv 2) ah))) (uM (pv 3))))))
   (ao (aR (pv 3)))))),?_⟩
 have f0:IU l U W U W H H:=⟨fun a z=>z.elim .inl fun y=>.inr (.inl y),fun a ob e _ _ _=>e,fun _ _ e=>e⟩
 refine⟨2,rfl,by decide,by decide,?_⟩
 refine n6 (lo:=0) (n:=(2:Int).toNat) (fun j σ H1=>∃ (u4:Option V) (U1 W1:Addr→Prop) (aH:lR) (lines:l6),σ=[some (.ref l),some (.ref w),some (.ref x),some (.bl true),u4]∧sZ C CS CW CB H1 l c w x U1 W1 (List.replicate (j+1) []) [] (List.replicate (j+1) []) [] lines aH j []∧aH.length≤60*j∧lines.length=j∧IU l U W U1 W1 H H1) ⟨none,U,W,[],[],rfl,St,iC _,rfl,f0⟩ ?_ ?_
 ·rintro j σ H1 hj ⟨u4,U1,W1,aH,lines,rfl,Kn,li,ll,f1⟩
  have hj2:j<2:=hj
  refine⟨_,rfl,_,rfl,_,rfl,l,c,w,x,U1,W1,_,_,_,_,lines,aH,j,[],rfl,Kn,(by rw[yy];omega),(by rw[yy];omega),(by show 0≤50;decide),by omega,by omega,by omega,fun U2 H2 h cs Rx hcs hl2 Px f2=>?_⟩
  rw[← List.replicate_succ']at Px
  have g:∃ (u4:Option V) (U3 W3:Addr→Prop) (UZ:lR) (iB:l6),[some (.ref l),some (.ref w),some (.ref x),some (.bl true),some (V.int (0+(j:Int)))]=[some (.ref l),some (.ref w),some (.ref x),some (V.bl true),u4]∧sZ C CS CW CB H2 l c w x U3 W3 (List.replicate (j+1+1) []) [] (List.replicate (j+1+1) []) [] iB UZ (j+1) []∧UZ.length≤60*(j+1)∧iB.length=j+1∧IU l U W U3 W3 H H2:=⟨_,U2,W1,_,Rx,rfl,Px,(by rw[eG,tV];omega),by omega,f1.trans (by obtain⟨ls,hl⟩:=Kn.src.lst;exact⟨_,hl⟩) f2⟩
  refine⟨true,rfl,?_⟩
  rw[if_pos rfl]
  exact⟨_,rfl,g⟩
 rintro σ H1 ⟨u4,U1,W1,aH,lines,rfl,Kn,li,ll,f1⟩
 refine⟨_,rfl,l,c,3,rfl,Kn.src,by decide,by decide,fun v H2 v0 v1 S2 k2=>⟨_,_,rfl,rfl,2+v,rfl,by omega,by omega,?_⟩⟩
 have Px:=Kn.mv (cW k2) S2
 have f2:IU l U W U1 W1 H H2:=f1.trans (by obtain⟨ls,hl⟩:=Kn.src.lst;exact⟨_,hl⟩) ⟨fun a z=>z.elim .inl fun y=>.inr (.inl y),fun a ob e n _ _=>(cW k2) _ _ e n,fun a xs e=>by
  obtain⟨ls,hl⟩:=Kn.src.lst
  exact (cW k2) _ _ e (cT e hl (by intro z;cases z))⟩
 clear f1
 refine n6 (lo:=0) (n:=(2+v).toNat) (fun j σ H3=>∃ (u4:Option V) (U3 W3:Addr→Prop) (lines:l6),σ=[some (.ref l),some (.ref w),some (.ref x),some (.bl true),u4]∧sZ C CS CW CB H3 l c w x U3 W3 (AM j) (e0 j) (AM j) (e0 j) lines aH 2 []∧lines.length=j+2∧IU l U W U3 W3 H H3) ⟨u4,U1,W1,lines,rfl,Px,ll,f2⟩ ?_ ?_
 ·rintro j σ H3 hj ⟨u4,U3,W3,lines,rfl,MY,ll,f3⟩
  have hj2:j<4:=by omega
  refine⟨_,rfl,_,rfl,l,c,w,x,U3,W3,_,_,_,_,lines,aH,2,[],rfl,MY,(by rw[AN];omega),(by rw[AN];omega),(by rw[yy];omega),rfl,by omega,⟨_,by rw[IV];exact MF (by omega)⟩,fun U4 W4 H4 Ry hl4 Oz f4=>?_⟩
  rw[IV,← Ka]at Oz
  have g:∃ (u4:Option V) (U5 W5:Addr→Prop) (iB:l6),[some (.ref l),some (.ref w),some (.ref x),some (.bl true),some (V.int (0+(j:Int)))]=[some (.ref l),some (.ref w),some (.ref x),some (V.bl true),u4]∧sZ C CS CW CB H4 l c w x U5 W5 (AM (j+1)) (e0 (j+1)) (AM (j+1)) (e0 (j+1)) iB aH 2 []∧iB.length=j+1+2∧IU l U W U5 W5 H H4:=⟨_,U4,W4,Ry,rfl,Oz,by omega,f3.trans (by obtain⟨ls,hl⟩:=MY.src.lst;exact⟨_,hl⟩) f4⟩
  refine⟨true,rfl,?_⟩
  rw[if_pos rfl]
  exact⟨_,rfl,g⟩
 rintro σ H3 ⟨u4,U3,W3,lines,rfl,MY,ll,f3⟩
 exact⟨_,rfl,k U3 W3 H3 (2+v).toNat aH lines (by omega) (by omega) (by have:(2:Int).toNat=2:=rfl;omega) ll MY f3⟩
theorem qu:aG ["_law_numbers","_law_row","_law_number"] ["_law_numbers"] (az lE):=⟨rfl,rfl,rfl,by decide +kernel,rfl,by decide +kernel,by decide +kernel⟩
theorem Br{f:Addr}{fd:FuncData}(F:iD K "_law_row_of" "_law_row_of" lE f fd)(T:pG mg):aB P w K mg base bV 1 f fd M8 CQ:=by
 refine F.ok qu (fun vs H Q E h=>?_) (fun cdv A outer s H vs Q E hr h=>?_)
 ·obtain⟨r,row,rfl,_⟩:=h
  rfl
 obtain⟨r,ns,rfl,hr1,hlen,k⟩:=h
 refine⟨_,(ak (aU (i:=1) qu.nd rfl (Or.inl rfl) (bJ ah))
   (ak (gQ PassesOwn.never rfl (cU (pv 0)) (aY (i:=2) qu.nd rfl (Or.inl rfl))
   (ao (cC (PW.pt (wQ (bR Bu (aV aX rfl T.ic lT (aa (pv 1) ah)) aA (bZ _)) (vI (bR kU (bq dm (bq bf (pv 1) (kT iJ aA) (fun _ _=>rfl)) aA (fun _ _=>rfl)) (pv 2) (bZ _)))))
   (ao (qg (eK (aa (bq dm (bq bf (pv 1) (kT iJ aA) (fun _ _=>rfl)) aA (fun _ _=>rfl)) (aa (bz eZ (pv 2) aA) ah))) (qP (pv 1) (kT iJ aA) set_list)))
   (ao (bw (je qd r9 sf cA (pv 1) (aa (eK (aa (pv 2) (aa (bz eZ (pv 2) aA) ah))) ah)))))))
   (ao (aR (pv 1))))),?_⟩
 refine⟨(by show 0≤sizeLine;decide),fun q hq=>?_⟩
 have s0:aF H (upd H q (.lst [])):=aj hq _
 refine⟨_,rfl,r,rfl,⟨_,bF.of (s0 _ _ hr1)⟩,ie (K:=K) (a:=r) (xs:=ns.map V.int) (fun i σ H2=>∃ (bs:List Addr) (u:Option V),σ=[some (.ref r),some (.ref q),u]∧H2 q=some (.lst (bs.map V.ref))∧bu H2 bs ((ns.take i).foldl (fun t n=>grow t n (n+1)) [])∧aF H H2)
  ⟨[],none,rfl,af,.nil,s0⟩ (fun i σ H2 _ ⟨_,_,_,_,_,s⟩=>bF.of (s _ _ hr1)) ?_ ?_⟩
 ·rintro i x σ H2 hi ⟨bs,u,rfl,hq2,hb,s⟩
  rw[kM]at hi
  obtain⟨m,em,rfl⟩:=Option.map_eq_some_iff.mp hi
  have step:=foldl_take_succ (fun t n=>grow t n (n+1)) ns [] i m em
  have bl:bs.length<sizeLine:=by
   have z:=hb.len
   have z2:=zJ (ns.take i) []
   rw[kK]at z2
   exact aM (by simp only[oj]at z2;omega)
  refine⟨_,rfl,q,_,rfl,.inl (bF.of hq2),_,_,rfl,rfl,_,rfl,?_⟩
  rcases sj ((ns.take i).foldl (fun t n=>grow t n (n+1)) []) with hn|⟨rw0,q0,hn⟩
  ·rw[hn]at hb step
   have O8:bs=[]:=List.eq_nil_of_length_eq_zero hb.len
   subst O8
   refine iL (iL ?_)
   refine⟨_,rfl,.inl ⟨rfl,_,bF.of hq2⟩,_,rfl,_,rfl,_,_,rfl,rfl,(by show 2≤sizeLine;decide),fun t ht=>⟨q,_,_,rfl,rfl,aj ht _ _ _ hq2,(by show 0<sizeLine;decide),?_⟩⟩
   obtain⟨g1,g2,g3⟩:=grown (st:=m) (en:=m+1) hq s hq2 hb ht
   refine⟨[]++[t],_,rfl,g1,?_,g3⟩
   rw[step,oE]
   exact g2
  ·rw[qv]at hn
   rw[hn]at hb step
   obtain⟨cs,a0,rfl,hc,ha0⟩:=hb.split
   have IA:H2 q=some (.lst (cs.map V.ref++[.ref a0])):=by rw[hq2,nu];rfl
   refine dQ (fun _=>?_) (fun c=>absurd (decide_eq_true (by rw[cO,eG,vA];omega)) c)
   refine⟨_,rfl,_,rfl,q,_,_,_,rfl,rfl,bF.of IA,fH _ _,a0,_,_,_,rfl,rfl,jc.of ha0,Tg,_,rfl,rfl,_,rfl,dQ (fun c2=>?_) (fun c2=>?_)⟩
   ·have e2:q0.2=m:=V.int.inj (of_decide_eq_true c2)
    refine⟨_,rfl,_,rfl,q,_,_,_,rfl,rfl,bF.of IA,fH _ _,a0,_,_,_,rfl,rfl,jc.of ha0,Tf,_,rfl,_,_,rfl,rfl,(by show 2≤sizeLine;decide),fun t ht=>?_⟩
    refine⟨_,rfl,_,rfl,q,_,_,cs.length,rfl,rfl,aj ht _ _ _ IA,Lz cs a0,?_⟩
    obtain⟨g1,g2,g3⟩:=turned (st:=q0.1) (en:=m+1) hq s IA hc ht
    refine⟨cs++[t],_,rfl,g1,?_,g3⟩
    rw[step,oF _ e2]
    exact g2
   ·have e2:¬ q0.2=m:=fun z=>c2 (decide_eq_true (congrArg V.int z))
    refine⟨_,rfl,.inl ⟨rfl,_,bF.of hq2⟩,_,rfl,_,rfl,_,_,rfl,rfl,(by show 2≤sizeLine;decide),fun t ht=>⟨q,_,_,rfl,rfl,aj ht _ _ _ hq2,(by rw[cO];exact bl),?_⟩⟩
    obtain⟨g1,g2,g3⟩:=grown (st:=m) (en:=m+1) hq s hq2 hb ht
    refine⟨cs++[a0]++[t],_,rfl,g1,?_,g3⟩
    rw[step,oG _ e2]
    exact g2
 ·rintro σ H2 ⟨bs,u,rfl,hq2,hb,s⟩
  refine⟨_,rfl,k q H2 ⟨bs,hq2,?_⟩ s hq⟩
  rw[cO,kO]at hb
  exact hb
inductive DU(vs:List V)(H:Hp)(Q:VK)(E:XK):Prop
 | mk (e:Addr) (es:List Int) (_:vs=[.ref e]) (_:H e=some (.lst (es.map V.int))) (_:es.length≤100000) (_ :
 ∀ (o:Addr) (H':Hp),br H' (.ref o) (itemsOf es)→aF H H'→H o=none→Q (.ref o) H'):DU vs H Q E
theorem nH:aG ["_law_entries","_law_items","_law_entry"] ["_law_entries"] (az jo):=⟨rfl,rfl,rfl,by decide +kernel,rfl,by decide +kernel,by decide +kernel⟩
theorem yN{f:Addr}{fd:FuncData}(F:iD K "_law_items_of" "_law_items_of" jo f fd)(T:pG mg):aB P w K mg base bV 1 f fd M9 DU:=by
 refine F.ok nH (fun vs H Q E h=>?_) (fun cdv A outer s H vs Q E hr h=>?_)
 ·obtain⟨r,row,rfl,_⟩:=h
  rfl
 obtain⟨e,es,rfl,he,hlen,k⟩:=h
 refine⟨_,(ak (aU (i:=1) nH.nd rfl (Or.inl rfl) (bJ ah))
   (ak (gQ PassesOwn.never rfl (cU (pv 0)) (aY (i:=2) nH.nd rfl (Or.inl rfl))
   (ao (cC (bR Et (pv 2) aA (bZ _))
   (ao (bw (je qd r9 sf cA (pv 1) (aa (eK (aa bO (aa (bz gR (kT iJ aA) (pv 2)) ah))) ah))))
   (ao (cC (PW.pt (wQ (bR Bu (aV aX rfl T.ic lT (aa (pv 1) ah)) aA (bZ _)) (wQ (bR kU (bq dm (bq bf (pv 1) (kT iJ aA) (fun _ _=>rfl)) aA (fun _ _=>rfl)) bO (bZ _)) (vI (bR kU (bq dm (bq bf (pv 1) (kT iJ aA) (fun _ _=>rfl)) aA (fun _ _=>rfl)) (pv 2) (bZ _))))))
   (ao (qg (eK (aa bO (aa (bq dm (bq bf (pv 1) (kT iJ aA) (fun _ _=>rfl)) aA (fun _ _=>rfl)) (aa (bz eZ (pv 2) aA) ah)))) (qP (pv 1) (kT iJ aA) set_list)))
   (ao (bw (je qd r9 sf cA (pv 1) (aa (eK (aa bO (aa (pv 2) (aa (bz eZ (pv 2) aA) ah)))) ah)))))))))
   (ao (aR (pv 1))))),?_⟩
 refine⟨(by show 0≤sizeLine;decide),fun q hq=>?_⟩
 have s0:aF H (upd H q (.lst [])):=aj hq _
 refine⟨_,rfl,e,rfl,⟨_,bF.of (s0 _ _ he)⟩,ie (K:=K) (a:=e) (xs:=es.map V.int) (fun i σ H2=>∃ (vs:List V) (u:Option V),σ=[some (.ref e),some (.ref q),u]∧H2 q=some (.lst vs)∧bK (cy H2) vs ((es.take i).foldl aO [])∧aF H H2)
  ⟨[],none,rfl,af,.nil,s0⟩ (fun i σ H2 _ ⟨_,_,_,_,_,s⟩=>bF.of (s _ _ he)) ?_ ?_⟩
 ·rintro i x σ H2 hi ⟨vs,u,rfl,hq2,hb,s⟩
  rw[kM]at hi
  obtain⟨x,ex,rfl⟩:=Option.map_eq_some_iff.mp hi
  have step:(es.take (i+1)).foldl aO []=aO ((es.take i).foldl aO []) x:=by rw[take_snoc ex,List.foldl_append];rfl
  have bl:vs.length<sizeLine:=by
   have z:=hb.len
   have z2:=qC (es.take i) []
   rw[kK,oj]at z2
   exact aM (by omega)
  refine⟨_,rfl,_,_,rfl,rfl,_,rfl,dQ (fun c=>?_) (fun c=>?_)⟩
  ·have c':x<0:=of_decide_eq_true c
   rw[aO,if_pos c']at step
   refine⟨_,rfl,.inl ⟨rfl,_,bF.of hq2⟩,_,rfl,_,rfl,_,_,rfl,rfl,(by show 2≤sizeLine;decide),fun t ht=>⟨q,_,_,rfl,rfl,aj ht _ _ _ hq2,bl,?_⟩⟩
   refine⟨vs++[.ref t],_,rfl,af,?_,ck hq (s.trans (aj ht _)) (aJ q _ _)⟩
   rw[step]
   exact bK.new (it:=.win (-1-x)) hq2 hb ht _
  ·have c':¬ x<0:=fun z=>c (decide_eq_true z)
   rw[aO,if_neg c']at step
   rcases sj ((es.take i).foldl aO []) with hn|⟨t0,l0,hn⟩
   ·rw[hn]at hb step
    have hvs:vs=[]:=List.eq_nil_of_length_eq_zero hb.len
    subst hvs
    refine⟨_,rfl,q,_,rfl,.inl (bF.of hq2),_,_,rfl,rfl,_,rfl,iL (iL ?_)⟩
    refine⟨_,rfl,.inl ⟨rfl,_,bF.of hq2⟩,_,rfl,_,rfl,_,_,rfl,rfl,(by show 3≤sizeLine;decide),fun t ht=>⟨q,_,_,rfl,rfl,aj ht _ _ _ hq2,bl,?_⟩⟩
    refine⟨[]++[.ref t],_,rfl,af,?_,ck hq (s.trans (aj ht _)) (aJ q _ _)⟩
    rw[step]
    exact bK.new (it:=.aH x (x+1)) hq2 hb ht _
   ·rw[qv]at hn
    rw[hn,vE,List.dropLast_concat]at step
    rw[hn]at hb
    obtain⟨us,v0,rfl,hb0,a0,rfl,ha0⟩:=hb.split
    refine⟨_,rfl,q,_,rfl,.inl (bF.of hq2),_,_,rfl,rfl,_,rfl,dQ (fun _=>?_) (fun z=>absurd (decide_eq_true (by simp)) z)⟩
    cases l0 with
    | win n =>
     refine⟨_,rfl,_,rfl,q,_,_,_,rfl,rfl,bF.of hq2,fH _ _,a0,_,_,_,rfl,rfl,jc.of ha0,rfl,rfl,_,rfl,dQ (fun z=>absurd z (by decide)) (fun _=>iL ?_)⟩
     refine⟨_,rfl,.inl ⟨rfl,_,bF.of hq2⟩,_,rfl,_,rfl,_,_,rfl,rfl,(by show 3≤sizeLine;decide),fun t ht=>⟨q,_,_,rfl,rfl,aj ht _ _ _ hq2,bl,?_⟩⟩
     refine⟨_,_,rfl,af,?_,ck hq (s.trans (aj ht _)) (aJ q _ _)⟩
     rw[step]
     exact bK.new (it:=.aH x (x+1)) hq2 hb ht _
    | aH p1 p2 =>
     refine⟨_,rfl,_,rfl,q,_,_,_,rfl,rfl,bF.of hq2,fH _ _,a0,_,_,_,rfl,rfl,jc.of ha0,rfl,rfl,_,rfl,dQ (fun _=>?_) (fun z=>absurd (by decide) z)⟩
     refine⟨_,rfl,_,rfl,q,_,_,_,rfl,rfl,bF.of hq2,fH _ _,a0,_,_,_,rfl,rfl,jc.of ha0,rfl,_,rfl,rfl,_,rfl,dQ (fun c2=>?_) (fun c2=>?_)⟩
     ·have e2:p2=x:=V.int.inj (of_decide_eq_true c2)
      refine⟨_,rfl,_,rfl,q,_,_,_,rfl,rfl,bF.of hq2,fH _ _,a0,_,_,_,rfl,rfl,jc.of ha0,rfl,_,rfl,_,_,rfl,rfl,(by show 3≤sizeLine;decide),fun t ht=>?_⟩
      refine⟨_,rfl,_,rfl,q,_,_,us.length,rfl,rfl,aj ht _ _ _ hq2,(by rw[eG];exact zG _),?_⟩
      rw[zH]
      refine⟨_,_,rfl,af,?_,ck hq (s.trans (aj ht _)) (aJ q _ _)⟩
      rw[step]
      show bK _ _ (if p2=x then t0++[Item.aH p1 (x+1)] else _)
      rw[if_pos e2]
      exact bK.new (it:=.aH p1 (x+1)) hq2 hb0 ht _
     ·have e2:¬ p2=x:=fun z=>c2 (decide_eq_true (congrArg V.int z))
      refine⟨_,rfl,.inl ⟨rfl,_,bF.of hq2⟩,_,rfl,_,rfl,_,_,rfl,rfl,(by show 3≤sizeLine;decide),fun t ht=>⟨q,_,_,rfl,rfl,aj ht _ _ _ hq2,bl,?_⟩⟩
      refine⟨_,_,rfl,af,?_,ck hq (s.trans (aj ht _)) (aJ q _ _)⟩
      rw[step]
      show bK _ _ (if p2=x then _ else t0++[Item.aH p1 p2]++[Item.aH x (x+1)])
      rw[if_neg e2]
      exact bK.new (it:=.aH x (x+1)) hq2 hb ht _
 ·rintro σ H2 ⟨vs,u,rfl,hq2,hb,s⟩
  rw[cO,kO]at hb
  exact⟨_,rfl,k q H2 ⟨q,vs,rfl,hq2,hb⟩ s hq⟩
theorem nY:aG ["_law_row","_law_numbers","_law_start","_law_stop"] ["_law_row"] (az pM):=⟨rfl,rfl,rfl,by decide +kernel,rfl,by decide +kernel,by decide +kernel⟩
theorem DV{f:Addr}{fd:FuncData}(F:iD K "_law_spell" "_law_spell" pM f fd)(T:pG mg):aB P w K mg base bV 1 f fd ["_law_row"] (CP 1000000):=by
 refine F.ok nY (fun vs H Q E h=>?_) (fun cdv A outer s H vs Q E hr h=>?_)
 ·obtain⟨r,row,rfl,_⟩:=h
  rfl
 obtain⟨r,row,rfl,⟨as,hr1,hp⟩,hbd,hlen,hrl,k⟩:=h
 refine⟨_,(ak (aU (i:=1) nY.nd rfl (Or.inl rfl) (bJ ah))
   (ak (gQ PassesOwn.never rfl (cU (pv 0)) (qf (n:=2) rfl (bQ (aY (i:=2) nY.nd rfl (Or.inl rfl)) (bQ (aY (i:=3) nY.nd rfl (Or.inl rfl)) j3)))
   (ao (bw (je qd PySem.F.slot_list_extend PySem.F.type_list_extend BD (pv 1) (aa (eV (uD rfl) rfl T.lG vD (aa (eV EE rfl T.nQ PyProof.Rows.boot_range (aa (pv 2) (aa (pv 3) ah))) ah)) ah)))))
   (ao (aR (pv 1))))),?_⟩
 refine⟨(by show 0≤sizeLine;decide),fun q hq=>?_⟩
 have s0:aF H (upd H q (.lst [])):=aj hq _
 refine⟨_,rfl,r,rfl,⟨_,bF.of (s0 _ _ hr1)⟩,ie (K:=K) (a:=r) (xs:=as.map V.ref) (fun i σ H2=>∃ (u v:Option V),σ=[some (.ref r),some (.ref q),u,v]∧H2 q=some (.lst ((bx (row.take i)).map V.int))∧aF H H2)
  ⟨none,none,rfl,af,s0⟩ (fun i σ H2 _ ⟨_,_,_,_,s⟩=>bF.of (s _ _ hr1)) ?_ ?_⟩
 ·rintro i x σ H2 hi ⟨u,v,rfl,hq2,s⟩
  rw[kM]at hi
  obtain⟨a,ea,rfl⟩:=Option.map_eq_some_iff.mp hi
  obtain⟨⟨st,en⟩,ep,ha⟩:=hp.get ea
  obtain⟨b1,b2,b3⟩:=hbd _ (vB ep)
  simp only at b1 b2 b3
  have step:=GL ep
  have lz:(bx (row.take i)).length+(en-st).toNat≤1000000:=by
   have z:=Ba row (i+1)
   rw[step,eG,span,jq]at z
   exact lV z hlen
  refine⟨a,_,rfl,jc.of (s _ _ ha),rfl,_,_,rfl,_,_,rfl,rfl,?_⟩
  refine⟨_,rfl,.inl ⟨rfl,_,bF.of hq2⟩,_,rfl,_,rfl,_,_,rfl,fun p hp=>⟨p,_,_,rfl,af,⟨by omega,by omega,by omega,by omega⟩,jI (aM (by omega)),fun m hm=>?_⟩⟩
  have s1:aF H2 (upd H2 p (.Ef st en)):=aj hp _
  have s2:=s1.trans (aj hm (.lst (BO st (en-st).toNat)))
  refine⟨q,m,_,_,rfl,rfl,s2 _ _ hq2,af,?_,?_⟩
  ·rw[cO,zI,cO,jq]
   exact jI (aM (by omega))
  ·refine⟨_,_,rfl,?_,ck hq (s.trans s2) (aJ q _ _)⟩
   rw[af,step,nu,zI]
   rfl
 ·rintro σ H2 ⟨u,v,rfl,hq2,s⟩
  refine⟨_,rfl,k q H2 ?_ s hq⟩
  rw[cO,hp.len,kO]at hq2
  exact hq2
theorem FY{es:List Int}(h:∀ e∈es,0≤e):jU es=[]:=by
 unfold jU
 rw[List.filterMap_eq_nil_iff]
 intro e he
 rw[if_neg (by have:=h e he;omega)]
theorem FZ(sh:Int→List Int):∀ {es:List Int},(∀ e∈es,0≤e)→cM sh es=es
 | [],_=>rfl
 | e::r,h=>by
  rw[iQ,pV sh (h e (rS ..)),FZ sh fun y hy=>h y (rX _ hy)]
  rfl
theorem Pz(sh:Int→List Int)(p:Int):∀ (es:List Int) (f:Int),(∀ e∈es,0≤e)→aE sh p f es=es.take (p-f).toNat
 | [],_,_=>by simp[aE]
 | a::r,f,h=>by
  rw[aE,Pz sh p r _ fun y hy=>h y (rX _ hy),pV sh (h a (rS ..))]
  show (if f+1≤p then [a] else if p≤f then [] else _)++r.take (p-(f+1)).toNat=_
  by_cases c:f+1≤p
  ·rw[if_pos c,show (p-f).toNat=(p-(f+1)).toNat+1 by omega]
   rfl
  ·rw[if_neg c,if_pos (by omega),show (p-f).toNat=0 by omega,show (p-(f+1)).toNat=0 by omega]
   rfl
theorem PB(sh:Int→List Int)(p:Int):∀ (es:List Int) (f:Int),(∀ e∈es,0≤e)→bE sh p f es=es.drop (p-f).toNat
 | [],_,_=>by simp[bE]
 | a::r,f,h=>by
  rw[bE,PB sh p r _ fun y hy=>h y (rX _ hy),pV sh (h a (rS ..))]
  show (if f+1≤p then [] else if p≤f then [a] else _)++r.drop (p-(f+1)).toNat=_
  by_cases c:f+1≤p
  ·rw[if_pos c,show (p-f).toNat=(p-(f+1)).toNat+1 by omega]
   rfl
  ·rw[if_neg c,if_pos (by omega),show (p-f).toNat=0 by omega,show (p-(f+1)).toNat=0 by omega]
   rfl
theorem IW(f:Int→Int):∀ {es:List Int},(∀ e∈es,0≤e)→G6 f es=(es.length:Int)
 | [],_=>rfl
 | e::r,h=>by
  have ih:=IW f (es:=r) fun y hy=>h y (rX _ hy)
  have he:=h e (rS ..)
  unfold G6 at ih ⊢
  rw[lU,List.sum_cons,ih,if_neg (by omega),ny]
  omega
def AO(n:Nat)(rows:eF):Prop:=∀ es∈rows,es.length≤200∧∀ e∈es,0≤e∧e<(n:Nat)
def own(rows:eF)(x:Int):List Int:=(rows[x.toNat]?).getD []
theorem AO.QM{n:Nat}{rows:eF}(h:AO n rows){x y:Int}:¬ Cb rows x y:=fun ⟨_,es,he,hy⟩=>by
 rw[FY fun e z=>((h es (vB he)).2 e z).1]at hy
 cases hy
theorem AO.sound{n:Nat}{rows:eF}(h:AO n rows):Sound rows:=fun es he y hy=>by
 rw[FY fun e z=>((h es he).2 e z).1]at hy
 cases hy
theorem AO.rkd{n:Nat}{rows:eF}(h:AO n rows):Io rows:=⟨fun _=>0,fun _=>Nat.zero_le _,fun _ _ z=>absurd z h.QM⟩
theorem vv{rows:eF}{x:Int}{es:List Int}(h:rows[x.toNat]?=some es):own rows x=es:=by
 unfold own
 rw[h]
 rfl
theorem AO.own{n:Nat}{rows:eF}(h:AO n rows)(x:Int):(own rows x).length≤200∧∀ e∈own rows x,0≤e∧e<(n:Nat):=by
 unfold jd.own
 cases e:rows[x.toNat]? with
 | none=>exact⟨Nat.zero_le _,fun _ z=>nomatch z⟩
 | some es=>exact h es (vB e)
theorem AO.seen{n:Nat}{rows:eF}(h:AO n rows):Seen rows (jd.own rows):=by
 refine⟨fun es he=>by have:=(h es he).1;omega,h.sound,h.rkd,fun x es _ he=>?_,fun x _ _=>by have:=(h.own x).1;omega⟩
 rw[vv he,FZ _ fun e z=>((h es (vB he)).2 e z).1]
theorem AO.bears{n:Nat}{rows:eF}(h:AO n rows)(l:rows.length≤100):uI rows fun x=>((jd.own rows x).length:Int):=by
 refine⟨l,fun es he=>by have:=(h es he).1;omega,h.sound,h.rkd,fun x es _ he=>?_,fun x _ _=>by have:=(h.own x).1;omega⟩
 rw[vv he,IW _ fun e z=>((h es (vB he)).2 e z).1]
theorem MG{rows:eF}{s:Nat}{es x:List Int}(h:x∈jb rows s es):x=es∨x∈rows:=by
 unfold jb at h
 rcases List.mem_append.mp h with h|h
 ·rcases List.mem_append.mp h with h|h
  ·exact .inr (List.mem_of_mem_take h)
  ·exact .inl (List.mem_singleton.mp h)
 ·exact .inr (List.mem_of_mem_drop h)
theorem wG{rows:eF}{s:Nat}(es:List Int)(h:s<rows.length):jb rows s es=rows.set s es:=by
 unfold jb
 rw[List.set_eq_take_append_cons_drop,if_pos h,qw]
 rfl
theorem F0{k:Nat}:∀ {row:Row},(∀ p∈row,p.2≤p.1+(k:Nat))→(bx row).length≤k*row.length
 | [],_=>Nat.zero_le _
 | p::r,h=>by
  have ih:=F0 (row:=r) fun q hq=>h q (rX _ hq)
  have hp:=h p (rS ..)
  have e:bx (p::r)=span p++bx r:=by unfold bx;rw[l9]
  rw[e,eG,ny,Nat.mul_add,Nat.mul_one]
  have:(span p).length≤k:=by unfold span;rw[jq];omega
  omega
theorem MH{n:Nat}{row:Row}(h:∀ p∈row,0≤p.1∧p.1<p.2∧p.2≤(n:Nat)){e:Int}(he:e∈bx row):0≤e∧e<(n:Nat):=by
 unfold bx at he
 obtain⟨p,hp,hm⟩:=List.mem_flatMap.mp he
 have b:=h p hp
 have m:=Iq.mp hm
 omega
theorem Cv{sh:Int→List Int}{p:Int}{es new:List Int}(h:∀ e∈es,0≤e):qp sh p es new=es.take p.toNat++new++es.drop p.toNat:=by
 unfold qp
 split
 ·rename_i e
  rw[e,nA,List.take_append_drop]
 ·rw[Pz sh p es 0 h,PB sh p es 0 h,Int.sub_zero]
inductive DW(vs:List V)(H:Hp)(Q:VK)(E:XK):Prop
 | mk (r e:Addr) (s:Nat) (xs:List V) (_:vs=[.ref r,.int (s:Nat),.ref e]) (_:H r=some (.lst xs)) (_:s<xs.length) (_:xs.length≤1000) (_:∀ (q:Addr) (H':Hp),H' q=some (.lst (xs.set s (.ref e)))→aF H H'→H q=none→Q (.ref q) H'):DW vs H Q E
theorem yq:aG ["_law_rows","_law_sheet","_law_entries","_law_found"] ["_law_rows","_law_sheet","_law_entries"] (az oB):=⟨rfl,rfl,rfl,by decide +kernel,rfl,by decide +kernel,by decide +kernel⟩
theorem OB{n:Nat}{i:Nat}(h1:i<n):HS n ((i:Nat):Int)=some i:=by
 unfold HS
 rw[if_pos (by omega),Int.toNat_natCast,if_pos (by omega)]
theorem yr{f:Addr}{fd:FuncData}(F:iD K "_law_swap" "_law_swap" oB f fd)(T:pG mg):aB P w K mg base bV 1 f fd Kw DW:=by
 refine F.ok yq (fun vs H Q E h=>?_) (fun cdv A outer s0 H vs Q E hr h=>?_)
 ·obtain⟨r,e,s,xs,rfl,_⟩:=h
  rfl
 obtain⟨r,e,s,xs,rfl,hr1,hs,lx,k⟩:=h
 refine⟨_,(ak (aU (i:=3) yq.nd rfl (Or.inl rfl) (eV iK rfl T.lG vD (aa (pv 0) ah)))
   (ak (qg (pv 2) (qP (pv 3) (pv 1) set_list))
   (ao (aR (pv 3))))),?_⟩
 refine⟨_,rfl,r,_,rfl,.inl (bF.of hr1),fun q hq=>?_⟩
 refine⟨_,rfl,_,rfl,_,rfl,q,_,_,s,rfl,rfl,af,OB hs,_,rfl,k q _ af (ck hq (aj hq _) (aJ q _ _)) hq⟩
theorem Wo.swap{W:Addr→Prop}{H:Hp}{w ik rw ps vl q e:Addr}{aH:lR}{pq:l5}{rq:eF}{xs:List V}{s:Nat}{es:List Int}(wu:Gd W H w ik rw ps vl aH pq rq)(hx:H rw=some (.lst xs))(hq:H q=some (.lst (xs.set s (.ref e))))(he:H e=some (.lst (es.map V.int)))(nq:¬ W q)(ne:¬ W e):Gd (fun a=>W a∨a=e∨a=q) H w ik rw ps vl aH pq rq∧MA (fun a=>W a∨a=e∨a=q) ik ps H q (rq.set s es):=by
 have Sf:Gd (fun a=>W a∨a=e∨a=q) H w ik rw ps vl aH pq rq:=sZ.Py wu (fun a z=>.inl z) (by
  rintro a (z|z|z)
  ·exact wu.al a z
  ·rw[z];exact⟨_,he⟩
  ·rw[z];exact⟨_,hq⟩)
 obtain⟨_,_,_,vs,hvs,al⟩:=id Sf.hr
 rw[hx]at hvs
 cases hvs
 have ne':∀ {a b:Addr},W a→¬ W b→b≠a:=fun wa nb z=>nb (by rw[z];exact wa)
 refine⟨Sf,.inr (.inr rfl),ne' wu.wi nq,ne' wu.wp nq,_,hq,?_⟩
 have key:∀ {vs:List V} {rs:eF} (s:Nat),bK (Pu (fun a=>W a∨a=e∨a=q) ik ps H) vs rs→bK (Pu (fun a=>W a∨a=e∨a=q) ik ps H) (vs.set s (.ref e)) (rs.set s es):=by
  intro vs rs s z
  induction z generalizing s with
  | nil=>exact .nil
  | cons o t ih =>
   cases s with
   | zero=>exact .cons ⟨e,rfl,.inr (.inl rfl),ne' wu.wi ne,ne' wu.wp ne,he⟩ t
   | succ n=>exact .cons o (ih n)
 exact key s al
theorem dR.fru{U U':Addr→Prop}{H H':Hp}{l c:Addr}(S:dR H l c)(fr:MV U U' H H')(nl:¬ U l)(nc:¬ U c):dR H' l c:=by
 obtain⟨n,ns,i,d,r,e1,e2,h3⟩:=S
 exact⟨n,ns,i,d,r,fr.2.1 _ _ e1 nl,fr.2.1 _ _ e2 nc,h3⟩
theorem sZ.Rz{C CS CW CB:Addr}{H H':Hp}{l c w x:Addr}{U U' W:Addr→Prop}{pe Sb:l5}{rows rows':eF}{pq:l5}{rq:eF}{lines iB:l6}{aH:lR}{nW UY:Nat}{bW PD:Row}(St:sZ C CS CW CB H l c w x U W pe rows pq rq lines aH nW bW)(L':zc C CS CW CB U' H' x Sb iB aH UY PD)(hl:Sb.getLast?=some rows')(fr:MV U U' H H'):sZ C CS CW CB H' l c w x U' W Sb rows' pq rq iB aH UY PD∧IU l U W U' W H H':=by
 refine⟨⟨St.src.fru fr (fun z=>(St.du l z).2.1 rfl) (fun z=>(St.du c z).2.2 rfl),L',hl,St.wo.fr (fun a ob e z=>fr.2.1 _ _ e (fun y=>(St.du a y).1 z)) fr.2.2,fun a z=>?_,St.dw⟩,fun a z=>z.elim (fun z=>(fr.1 a z).elim .inl fun y=>.inr (.inr y)) (fun z=>.inr (.inl z)),fun a ob e _ u _=>fr.2.1 a ob e u,fr.2.2⟩
 rcases fr.1 a z with y|y
 ·exact St.du a y
 ·have n:=St.src.ne y
  refine⟨fun z=>?_,n.1.symm,n.2.symm⟩
  obtain⟨ob,e⟩:=St.wo.al z
  rw[y]at e;cases e
theorem sZ.kept{C CS CW CB:Addr}{H H':Hp}{l c w x:Addr}{U W W':Addr→Prop}{pe:l5}{rows:eF}{pq pq':l5}{rq rq':eF}{lines:l6}{aH:lR}{nW:Nat}{bW:Row}(St:sZ C CS CW CB H l c w x U W pe rows pq rq lines aH nW bW)(wo:Wo W' H' w aH pq' rq')(dU:∀ a,U a→¬ W' a)(dW:∀ a,W' a→a≠l∧a≠c)(fr:∀ a ob,H a=some ob→¬ W' a→H' a=some ob)(tp:∀ a xs,H a=some (.tup xs)→H' a=some (.tup xs)):sZ C CS CW CB H' l c w x U W' pe rows pq' rq' lines aH nW bW:=by
 refine⟨?_,St.IT.fr (fun a ob e z=>fr _ _ e (dU a z)) tp,St.lst,wo,fun a z=>⟨dU a z,(St.du a z).2⟩,dW⟩
 obtain⟨n,ns,i,d,r,e1,e2,h3⟩:=St.src
 exact⟨n,ns,i,d,r,fr _ _ e1 (fun z=>(dW l z).1 rfl),fr _ _ e2 (fun z=>(dW c z).2 rfl),h3⟩
theorem sZ.new{C CS CW CB:Addr}{H:Hp}{l c w x a:Addr}{U W:Addr→Prop}{pe:l5}{rows:eF}{pq:l5}{rq:eF}{lines:l6}{aH:lR}{nW:Nat}{bW:Row}(St:sZ C CS CW CB H l c w x U W pe rows pq rq lines aH nW bW)(h:H a=none):¬ U a∧¬ W a∧a≠l∧a≠c:=by
 have n:=St.src.ne h
 refine⟨fun z=>?_,fun z=>?_,n.1.symm,n.2.symm⟩
 ·obtain⟨ob,e⟩:=St.IT.al z
  rw[h]at e;cases e
 ·obtain⟨ob,e⟩:=St.wo.al z
  rw[h]at e;cases e
theorem sZ.swap{C CS CW CB:Addr}{H:Hp}{l c w x q e:Addr}{U W:Addr→Prop}{pe:l5}{rows:eF}{pq:l5}{rq:eF}{lines:l6}{aH:lR}{nW:Nat}{bW:Row}{ik rw ps vl:Addr}{xs:List V}{s:Nat}{es:List Int}(St:sZ C CS CW CB H l c w x U W pe rows pq rq lines aH nW bW)(wu:Gd W H w ik rw ps vl aH pq rq)(hx:H rw=some (.lst xs))(hq:H q=some (.lst (xs.set s (.ref e))))(he:H e=some (.lst (es.map V.int)))(nq:¬ U q∧¬ W q∧q≠l∧q≠c)(ne:¬ U e∧¬ W e∧e≠l∧e≠c) :
  ∃ W':Addr→Prop,Wo W' H w aH pq rq∧(∀ ik ps,(∃ rw vl,H w=some (.dK (vC ik rw ps vl)))→MA W' ik ps H q (rq.set s es))∧∀ H',Wo W' H' w aH (pq++[rq.set s es]) (rq.set s es)→(∀ a ob,H a=some ob→¬ W' a→H' a=some ob)→(∀ a xs,H a=some (.tup xs)→H' a=some (.tup xs))→sZ C CS CW CB H' l c w x U W' pe rows (pq++[rq.set s es]) (rq.set s es) lines aH nW bW:=by
 obtain⟨Sf,rv⟩:=Wo.swap wu hx hq he nq.2.1 ne.2.1
 refine⟨fun a=>W a∨a=e∨a=q,⟨ik,rw,ps,vl,Sf⟩,fun ik' ps' ⟨rw',vl',ee⟩=>?_,fun H' wo fr tp=>St.kept wo (fun a z y=>?_) (fun a y=>?_) fr tp⟩
 ·rw[wu.hw]at ee
  simp only[Option.some.injEq,HO.dK.injEq,vC,List.cons.injEq,Prod.mk.injEq,V.ref.injEq,true_and,and_true]at ee
  obtain⟨rfl,rfl,rfl,rfl⟩:=ee
  exact rv
 ·rcases y with y|y|y
  ·exact (St.du a z).1 y
  ·exact ne.1 (by rw[← y];exact z)
  ·exact nq.1 (by rw[← y];exact z)
 ·rcases y with y|y|y
  ·exact St.dw a y
  ·rw[y];exact ne.2.2
  ·rw[y];exact nq.2.2
inductive rG(C CS CW CB:Addr)(vs:List V)(H:Hp)(Q:VK)(E:XK):Prop
 | mk (U W:Addr→Prop) (x w:Addr) (pe:l5) (lines:l6) (aH:lR) (nW:Nat) (rows:eF) (pq:l5) (_:vs=[.ref w,.ref x]) (_:zc C CS CW CB U H x pe lines aH nW []) (_:pe.getLast?=some rows) (_:rows.length≤50) (_:pe.length≤900) (_:Wo W H w aH pq rows) (_:AO aH.length rows) (_:∀ H',aF H H'→Q (.bl true) H'):rG C CS CW CB vs H Q E
theorem mL:aG ["_law_world_here","_law_house","_law_sheet","_law_numbers"] ["_law_world_here","_law_house"] (az j5):=⟨rfl,rfl,rfl,by decide +kernel,rfl,by decide +kernel,by decide +kernel⟩
set_option maxHeartbeats 4000000 in
theorem xV{f C CS CW CB XS XM XT XO XP fS fZ f1 f2 f3 fM fO fr fi:Addr}{fd g1 g2 g3 gM gO gr gi:FuncData}(F:iD K "_law_all_right" "_law_all_right" j5 f fd)(X:yJ K mg C CS CW CB XS XM XT XO XP)(A1:Hw K mg CS)(A4:R0 K mg fS fZ)(bC:aQ K C "shown" "Library.shown" dN wI f1 g1)(lP:aQ K C "row" "Library.row" lD wI f2 g2)(kr:aQ K CS "row" "Shelf.row" mw wI f3 g3)(bP:ay K mg "_law_same" iN wL fM gM)(b8:ay K mg "_law_whole" eS Cz fO gO)(nZ:ay K mg "_law_row_of" lE M8 fr gr)(lQ:ay K mg "_law_items_of" jo M9 fi gi):aB P w K mg base bV 6 f fd Gf (rG C CS CW CB):=by
 obtain⟨LM,_,_,_,_,_,_,_,_⟩:=X
 have jE:aB P w K mg base (oJ P w) 5 _ _ wI (sV C CS XS):=mH bC.F LM A1 A4
 have DX:aB P w K mg base (oJ P w) 4 _ _ wI (Hy C CS XS):=AI lP.F LM A1 kr
 obtain⟨⟨T,_,_,_,_,_⟩,⟨fi,aK⟩,nw,ns,Ga,nk,nd,FE,dB,G⟩:=LM
 have jy:aB P w K mg base bV 4 _ _ wL (uR 3):=pR T b8 bP 3
 have DY:aB P w K mg base bV 1 _ _ M8 CQ:=Br nZ.F T
 have AQ:aB P w K mg base bV 1 _ _ M9 DU:=yN lQ.F T
 refine F.ok mL (fun vs H Q E h=>?_) (fun cdv A outer s0 H vs Q E hr h=>?_)
 ·obtain⟨U,W,x,w,pe,lines,aH,nW,rows,pq,rfl,_⟩:=h
  rfl
 obtain⟨U,W,x,w,pe,lines,aH,nW,rows,pq,rfl,LB,hl,l1,l2,wo,nn,k⟩:=h
 have hu:=lY hr
 refine⟨_,(ak (gQ PassesOwn.never rfl (mj rfl T.nQ (aa (aV aX rfl T.ic lT (aa (dX hu (pv 0) bO (fun _ _=>rfl)) ah)) ah)) (aY (i:=2) mL.nd rfl (Or.inl rfl))
   (ak (aU (i:=3) mL.nd rfl (Or.inl rfl) (bq bf (dX hu (pv 0) bO (fun _ _=>rfl)) (pv 2) (fun _ _=>rfl)))
   (ak (cC (mh (nB (aL bP jy hr (aa (cI (pv 1) aK.cl bC.mt jE (hr.mono (by decide)) bC.b .nil zM (aa (pv 2) ah)) (aa (aL nZ DY hr (aa (pv 3) ah)) ah)))))
   (ao (aR pH))
   bL)
   (ao (cC (mh (nB (aL bP jy hr (aa (cI (pv 1) aK.cl lP.mt DX (hr.mono (by decide)) lP.b .nil zM (aa (pv 2) ah)) (aa (aL lQ AQ hr (aa (pv 3) ah)) ah)))))
   (ao (aR pH))
   bL)))))
   (ao (aR pH))),?_⟩
 obtain⟨ik,rw',ps,vl,wu⟩:=id wo
 have zr:∀ {H1:Hp},aF H H1→_:=fun {H1} s=>mC.k (k:=kR) (s _ _ wu.hw)
 rw[show cj (vC ik rw' ps vl) kR=some (.ref rw') by kernel_rfl]at zr
 obtain⟨_,_,_,xs,hxs,al⟩:=id wu.hr
 have lv:=bK.len al
 refine⟨_,rfl,w,_,rfl,zr (aF.refl _),rw',_,rfl,.inl (bF.of hxs),_,rfl,by omega,by omega,?_⟩
 refine n6 (lo:=0) (n:=_) (fun j σ H1=>∃ u v:Option V,σ=[some (.ref w),some (.ref x),u,v]∧aF H H1) ⟨none,none,rfl,aF.refl _⟩ ?_ ?_
 ·rintro j σ H1 hj ⟨u,v,rfl,s1⟩
  have hj':j<rows.length:=by omega
  obtain⟨es,e1⟩:∃ es,rows[j]?=some es:=⟨_,qM hj'⟩
  obtain⟨y,ey,b,rfl,_,_,_,hb⟩:=al.get' e1
  have jt:(0+(j:Int)).toNat=j:=by omega
  have eo:own rows (0+(j:Int))=es:=vv (by rw[jt];exact e1)
  have Sg:=(nn es (vB e1)).1
  refine⟨_,rfl,w,_,rfl,zr s1,_,rfl,rw',_,_,_,rfl,rfl,bF.of (s1 _ _ hxs),(by rw[show (0+(j:Int))=((j:Nat):Int) by omega];exact eL ey),?_⟩
  obtain⟨S,SW,d,wl,sh,bl,kn,du,bk,dS,st,op,dw,sg,ow,pw,db,tb,ops,LU⟩:=id (LB.same s1)
  have fj:qW (0+(j:Int)):=⟨by omega,by omega⟩
  have ij:Aq rows.length (0+(j:Int)):=⟨by omega,by omega⟩
  refine⟨_,rfl,x,d,_,rfl,LU.L.hx,rfl,_,rfl,S,x,d,wl,sh,bl,kn,du,bk,dS,st,op,pe,ops,lines,rows,0+(j:Int),rfl,LU.L,hl,l1,l2,fj,fun z=>absurd ij z,fun _=>⟨own rows,nn.seen,fun o H2 ho s2 fo=>?_⟩⟩
  rw[eo]at ho
  have s12:=s1.trans s2
  refine⟨_,rfl,b,es,rfl,s12 _ _ hb,by omega,fun r H3 G2 s3 f3=>⟨_,_,rfl,bX.eqv (ho.same s3) G2 0,fun H4 s4=>⟨true,rfl,iL ?_⟩⟩⟩
  have IP:=s12.trans (s3.trans s4)
  have LU4:=LU.same (s2.trans (s3.trans s4))
  refine⟨_,rfl,x,d,_,rfl,LU4.L.hx,rfl,_,rfl,S,x,d,wl,sh,bl,kn,du,bk,dS,st,op,pe,ops,lines,rows,0+(j:Int),rfl,LU4.L,hl,l1,l2,fj,fun z=>absurd ij z,fun _ es' FJ q H5 hq s5 fq=>?_⟩
  rw[jt,e1]at FJ
  cases FJ
  have Hr:=IP.trans s5
  exact⟨_,rfl,b,es,rfl,Hr _ _ hb,by omega,fun o6 H6 ho6 s6 f6=>⟨_,_,rfl,br.eqv 0 (hq.same s6) ho6,fun H7 s7=>⟨true,rfl,iL ⟨_,_,rfl,Hr.trans (s6.trans s7)⟩⟩⟩⟩
 ·rintro σ H1 ⟨u,v,rfl,s1⟩
  exact k H1 s1
theorem PF(sh:Int→List Int){a b:Int}(ab:a≤b):∀ (es:List Int) (f:Int),(∀ e∈es,0≤e)→kE sh a b f es=es.take (a-f).toNat++es.drop (b-f).toNat
 | [],_,_=>by simp[kE]
 | e::r,f,h=>by
  rw[kE,PF sh ab r _ fun y hy=>h y (rX _ hy)]
  unfold VS
  rw[pV sh (h e (rS ..))]
  show (if f+1≤a∨b≤f then [e] else if a≤f∧f+1≤b then [] else _)++(r.take (a-(f+1)).toNat++r.drop (b-(f+1)).toNat)=_
  by_cases c:f+1≤a
  ·rw[if_pos (.inl c),show (a-f).toNat=(a-(f+1)).toNat+1 by omega,show (b-f).toNat=(b-(f+1)).toNat+1 by omega]
   rfl
  by_cases d:b≤f
  ·rw[if_pos (.inr d),show (a-f).toNat=0 by omega,show (b-f).toNat=0 by omega,show (a-(f+1)).toNat=0 by omega,show (b-(f+1)).toNat=0 by omega]
   rfl
  ·rw[if_neg (fun z=>z.elim c d),if_pos ⟨by omega,by omega⟩,show (a-f).toNat=0 by omega,show (a-(f+1)).toNat=0 by omega,show (b-f).toNat=(b-(f+1)).toNat+1 by omega]
   rfl
theorem Kc{sh:Int→List Int}{a b:Int}{es:List Int}(ab:a≤b)(h:∀ e∈es,0≤e):uZ sh a b es=es.take a.toNat++es.drop b.toNat:=by
 unfold uZ
 split
 ·rename_i e
  rw[e,List.take_append_drop]
 ·rw[PF sh ab es 0 h,Int.sub_zero,Int.sub_zero]
def aeY:TS:=fun D σ H=>∃ (r e:Addr) (t a b:Int) (s0 s1 s2 s5 s6 s9 Eg:Option V) (xs:List V) (es:List Int),σ=[s0,s1,s2,some (.ref r),some (.int t),s5,s6,some (.int a),some (.int b),s9,Eg]∧H r=some (.lst xs)∧wK xs t=some (.ref e)∧H e=some (.lst (es.map V.int))∧es.length≤200∧a≤b∧∀ b':Int,a≤b'→b'≤b→es.length+(b'-a)≤200→D.nx [s0,s1,s2,some (.ref r),some (.int t),s5,s6,some (.int a),some (.int b'),s9,Eg] H
inductive vz(C CS CW CB:Addr)(vs:List V)(H:Hp)(Q:VK)(E:XK):Prop
 | mk (l c w x:Addr) (U W:Addr→Prop) (pe:l5) (rows:eF) (lines:l6) (aH:lR) (nW:Nat) (_:vs=[.ref l,.ref w,.ref x]) (_:sZ C CS CW CB H l c w x U W pe rows pe rows lines aH nW []) (_:1≤rows.length) (_:rows.length≤40) (_:pe.length≤800) (_:lines.length≤800) (_:aH.length≤50000) (_:AO aH.length rows)
  (_:∀ (U' W':Addr→Prop) (t:Addr) (src:Int) (rows':eF) (iB:l6) (H':Hp),H' t=some (.tup [.bl true,.int src])→0≤src→src<rows.length→rows'.length=rows.length→iB.length=lines.length+1→sZ C CS CW CB H' l c w x U' W' (pe++[rows']) rows' (pe++[rows']) rows' iB aH nW []→AO aH.length rows'→Q (.ref t) H'):vz C CS CW CB vs H Q E
theorem dM:aG ["_law_src_here","_law_world_here","_law_house","_law_rows","_law_target","_law_source","_law_place","_law_start","_law_stop","_law_told","_law_quoted"] ["_law_src_here","_law_world_here","_law_house"] (az pN):=⟨rfl,rfl,rfl,by decide +kernel,rfl,by decide +kernel,by decide +kernel⟩
theorem AO.put{n:Nat}{rows:eF}{s:Nat}{es:List Int}(h:AO n rows)(l:es.length≤200)(g:∀ e∈es,0≤e∧e<(n:Nat)):AO n (jb rows s es):=fun y hy=>by
 rcases MG hy with rfl|hy
 ·exact⟨l,g⟩
 ·exact h y hy
set_option maxHeartbeats 4000000 in
theorem DZ{f C CS CW CB XS XM XT XO XP fS fZ f1 f2 f3 f4 fp fN fK fW:Addr}{fd g1 g2 g3 g4 gp gN gK gW:FuncData}(F:iD K "_law_quote" "_law_quote" pN f fd)(X:yJ K mg C CS CW CB XS XM XT XO XP)(A1:Hw K mg CS)(A2:Km K mg)(A4:R0 K mg fS fZ)(A6:UD K mg)(aP:aQ K C "enter" "Library.enter" bS I0 f1 g1)(aT:aQ K C "change" "Library.change" cJ Kq f2 g2)(bC:aQ K C "shown" "Library.shown" dN wI f3 g3)(Cu:ay K mg "part" BF mS fp gp)(jH:aQ K C "quote" "Library.quote" jk M6 f4 g4)(aW:ay K mg "_law_next" iM wO fN gN)(cE:ay K mg "_law_keep" jm AW fK gK)(ku:ay K mg "_law_swap" oB Kw fW gW):aB P w K mg base bV 7 f fd AX (vz C CS CW CB):=by
 have AR:aB P w K mg base (oJ P w) 6 _ _ M6 (xR C CS CW CB XS XP):=xS jH.F X A1 A2 A4 A6 aP aT bC Cu
 obtain⟨⟨⟨T,_,_,_,_,_⟩,⟨fi,aK⟩,_,_,_,_,_,_,_,_⟩,_,_,_,_,_,_,_,_⟩:=X
 have bM:aB P w K mg base bV 1 _ _ wO sJ:=kG aW.F T
 have jG:aB P w K mg base bV 1 _ _ AW xT:=pY cE.F
 have rH:aB P w K mg base bV 1 _ _ Kw DW:=yr ku.F T
 refine F.ok dM (fun vs H Q E h=>?_) (fun cdv A outer s H vs Q E hr h=>?_)
 ·obtain⟨l,c,w,x,U,W,pe,rows,lines,aH,nW,rfl,_⟩:=h
  rfl
 obtain⟨l,c,w,x,U,W,pe,rows,lines,aH,nW,rfl,St,b0,b1,b2,b3,b4,nn,k⟩:=h
 have hu:=lY hr
 refine⟨_,(ak (aU (i:=3) dM.nd rfl (Or.inl rfl) (dX hu (pv 1) bO (fun _ _=>rfl)))
   (ak (aU (i:=4) dM.nd rfl (Or.inl rfl) (aL aW bM hr (aa (pv 0) (aa (aV aX rfl T.ic lT (aa (pv 3) ah)) ah))))
   (ak (aU (i:=5) dM.nd rfl (Or.inl rfl) (aL aW bM hr (aa (pv 0) (aa (aV aX rfl T.ic lT (aa (pv 3) ah)) ah))))
   (ak (aU (i:=6) dM.nd rfl (Or.inl rfl) (aL aW bM hr (aa (pv 0) (aa (bz eZ (aV aX rfl T.ic lT (aa (bq bf (pv 3) (pv 4) (fun _ _=>rfl)) ah)) aA) ah))))
   (ak (aU (i:=7) dM.nd rfl (Or.inl rfl) (aL aW bM hr (aa (pv 0) (aa (bz eZ (aV aX rfl T.ic lT (aa (bq bf (pv 3) (pv 5) (fun _ _=>rfl)) ah)) aA) ah))))
   (ak (aU (i:=8) dM.nd rfl (Or.inl rfl) (bz eZ (pv 7) (aL aW bM hr (aa (pv 0) (aa (bz eZ (bz gR (aV aX rfl T.ic lT (aa (bq bf (pv 3) (pv 5) (fun _ _=>rfl)) ah)) (pv 7)) aA) ah)))))
   (ak (zF (t':=aeY) (cC (bR Bu (bz gR (bz eZ (aV aX rfl T.ic lT (aa (bq bf (pv 3) (pv 4) (fun _ _=>rfl)) ah)) (pv 8)) (pv 7)) aA (bZ _))
   (ao (aU (i:=8) dM.nd rfl (Or.inl rfl) (pv 7)))
   bL) ?b6)
   (ak (aU (i:=9) dM.nd rfl (Or.inl rfl) (cI (pv 2) aK.cl jH.mt AR (hr.mono (by decide)) jH.b .nil zM (aa (pv 4) (aa (pv 6) (aa (pv 5) (aa (pv 7) (aa (pv 8) ah)))))))
   (ak (aU (i:=10) dM.nd rfl (Or.inl rfl) (kX pJ (bq bf (pv 3) (pv 5) (fun _ _=>rfl)) (mO (pv 7)) (mO (pv 8))))
   (ak (bw (aL cE jG hr (aa (pv 1) (aa (aL ku rH hr (aa (pv 3) (aa (pv 4) (aa (bz kZ (bz kZ (kX pJ (bq bf (pv 3) (pv 4) (fun _ _=>rfl)) pI (mO (pv 6))) (pv 10)) (kX pJ (bq bf (pv 3) (pv 4) (fun _ _=>rfl)) (mO (pv 6)) pI)) ah)))) ah))))
   (ao (aR (eK (aa (Kz (Gi (pv 9))) (aa (pv 5) ah))))))))))))))),?_⟩
 case b6 =>
  rintro D σ H ⟨r,e,t,a,b,s0,s1,s2,s5,s6,s9,Eg,xs,es,rfl,hr1,et,he,le,ab,k⟩
  refine⟨_,rfl,_,rfl,r,_,_,_,rfl,rfl,bF.of hr1,et,e,_,rfl,.inl (bF.of he),_,rfl,_,_,rfl,rfl,_,rfl,_,_,rfl,rfl,_,_,rfl,rfl,_,rfl,?_⟩
  rw[cO]
  refine dQ (fun _=>⟨_,rfl,k a (Int.le_refl _) ab (by omega)⟩) (fun z=>k b ab (Int.le_refl _) ?_)
  have:=of_decide_eq_false (Bool.eq_false_iff.mpr z)
  omega
 obtain⟨ik,rw',ps,vl,wu⟩:=id St.wo
 have zr:=mC.k (k:=kR) wu.hw
 rw[show cj (vC ik rw' ps vl) kR=some (.ref rw') by kernel_rfl]at zr
 obtain⟨MD,_,_,xs,hxs,al⟩:=id wu.hr
 have lv:=bK.len al
 have row:∀ t:Int,0≤t→t<rows.length→∃ (b:Addr) (es:List Int),rows[t.toNat]?=some es∧wK xs t=some (.ref b)∧W b∧H b=some (.lst (es.map V.int)):=by
  intro t t0 t1
  have tl:t.toNat<rows.length:=by omega
  obtain⟨y,ey,b,rfl,wb,_,_,hb⟩:=al.get' (qM tl)
  refine⟨b,_,qM tl,?_,wb,hb⟩
  have z:=eL ey
  rw[show ((t.toNat:Nat):Int)=t by omega]at z
  exact z
 refine⟨_,rfl,w,_,rfl,zr,?_⟩
 refine⟨_,rfl,_,rfl,rw',_,rfl,.inl (bF.of hxs),l,c,_,rfl,St.src,by omega,by omega,fun t H1 t0 t1 S1 k1=>?_⟩
 have Kn:=St.mv (cW k1) S1
 have kw:∀ {a:Addr} {ob:HO} {H1:Hp},(∀ a,a≠l→H1 a=H a)→W a→H a=some ob→H1 a=some ob:=fun {a ob H1} k wa e=>(k a (St.dw a wa).1).trans e
 refine⟨_,rfl,_,rfl,rw',_,rfl,.inl (bF.of (kw k1 MD hxs)),l,c,_,rfl,S1,by omega,by omega,fun s H2 s0 s1 S2 k2=>?_⟩
 have Px:=Kn.mv (cW k2) S2
 have Ox:∀ a,a≠l→H2 a=H a:=fun a n=>(k2 a n).trans (k1 a n)
 obtain⟨bt,et,et1,QV,et3,et4⟩:=row t t0 (by omega)
 obtain⟨bs,es,es1,es2,es3,es4⟩:=row s s0 (by omega)
 have let':=nn et (vB et1)
 have Sg:=nn es (vB es1)
 refine⟨_,rfl,_,rfl,_,rfl,rw',_,_,_,rfl,rfl,bF.of (kw Ox MD hxs),QV,bt,_,rfl,.inl (bF.of (kw Ox et3 et4)),_,_,rfl,rfl,?_⟩
 rw[cO]
 refine⟨l,c,_,rfl,S2,by omega,by omega,fun p H3 p0 p1 S3 k3=>?_⟩
 have MY:=Px.mv (cW k3) S3
 have k13:∀ a,a≠l→H3 a=H a:=fun a n=>(k3 a n).trans (Ox a n)
 refine⟨_,rfl,_,rfl,_,rfl,rw',_,_,_,rfl,rfl,bF.of (kw k13 MD hxs),es2,bs,_,rfl,.inl (bF.of (kw k13 es3 es4)),_,_,rfl,rfl,?_⟩
 rw[cO]
 refine⟨l,c,_,rfl,S3,by omega,by omega,fun a H4 a0 a1 S4 k4=>?_⟩
 have Oz:=MY.mv (cW k4) S4
 have k14:∀ a,a≠l→H4 a=H a:=fun a n=>(k4 a n).trans (k13 a n)
 refine⟨_,rfl,_,rfl,_,rfl,_,rfl,rw',_,_,_,rfl,rfl,bF.of (kw k14 MD hxs),es2,bs,_,rfl,.inl (bF.of (kw k14 es3 es4)),_,rfl,_,_,rfl,rfl,_,_,rfl,rfl,?_⟩
 rw[cO]
 refine⟨l,c,_,rfl,S4,by omega,by omega,fun v H5 v0 v1 S5 k5=>⟨_,_,rfl,rfl,?_⟩⟩
 have UM:=Oz.mv (cW k5) S5
 have Ol:∀ a,a≠l→H5 a=H a:=fun a n=>(k5 a n).trans (k14 a n)
 refine⟨rw',bt,t,a,a+v,_,_,_,_,_,_,_,xs,et,rfl,kw Ol MD hxs,QV,kw Ol et3 et4,by omega,by omega,fun b ab bb lb=>?_⟩
 have eot:own rows t=et:=vv et1
 have Wl:own rows s=es:=vv es1
 have i3:Eh a b (own rows s).length:=by rw[Wl];exact⟨a0,ab,by omega⟩
 have ip:0≤p∧p≤(own rows t).length:=by rw[eot];exact⟨p0,by omega⟩
 have ln2:((es.take b.toNat).drop a.toNat).length=(b-a).toNat:=by
  rw[List.length_drop,kK]
  omega
 have RA:qp (own rows) p et (((own rows s).take b.toNat).drop a.toNat)=et.take p.toNat++(es.take b.toNat).drop a.toNat++et.drop p.toNat:=by
  rw[Cv fun e z=>(let'.2 e z).1,Wl]
 obtain⟨nw,hnw⟩:∃ nw,nw=et.take p.toNat++(es.take b.toNat).drop a.toNat++et.drop p.toNat:=⟨_,rfl⟩
 have OC:AO aH.length (jb rows t.toNat nw):=by
  refine nn.put ?_ fun e he=>?_
  ·rw[hnw,eG,eG,ln2,kK,List.length_drop]
   omega
  ·rw[hnw]at he
   rcases List.mem_append.mp he with he|he
   ·rcases List.mem_append.mp he with he|he
    ·exact let'.2 e (List.mem_of_mem_take he)
    ·exact Sg.2 e (List.mem_of_mem_take (List.mem_of_mem_drop he))
   ·exact let'.2 e (List.mem_of_mem_drop he)
 have tl:t.toNat<rows.length:=by omega
 have lpr:(jb rows t.toNat nw).length=rows.length:=by rw[sU (by omega),if_neg (by omega)]
 obtain⟨S',Pn,d',QZ,UP,UQ,UR,US,UT,UU,st',op',Wh,Wi,Wj,Wk,db',tb',ops',LU⟩:=id UM.IT
 refine⟨_,rfl,x,d',_,rfl,LU.L.hx,rfl,_,rfl,_,rfl,_,rfl,_,rfl,_,rfl,U,x,pe,lines,aH,nW,[],t,p,s,a,b,rows,rfl,UM.IT,St.lst,by omega,by omega,by omega,⟨by omega,by omega⟩,⟨by omega,by omega⟩,⟨by omega,by omega⟩,⟨by omega,by omega⟩,⟨by omega,by omega⟩,fun z=>absurd ⟨t0,by omega⟩ z,fun _=>⟨fun z=>absurd ⟨s0,by omega⟩ z,fun _=>⟨own rows,nn.seen,fun z=>absurd i3 z,fun _=>⟨fun z=>absurd ip z,fun _ et' eet=>?_⟩⟩⟩⟩
 rw[et1]at eet
 cases eet
 rw[RA,← hnw]
 refine⟨⟨_,OC.bears (by omega)⟩,fun U' H6 L6 F6=>?_⟩
 obtain⟨AV,_⟩:=UM.Rz L6 (rows':=jb rows t.toNat nw) (by simp) F6
 have kW:∀ {a:Addr} {ob:HO},W a→H a=some ob→H6 a=some ob:=fun {a ob} wa e=>F6.2.1 _ _ (kw Ol wa e) fun y=>(St.du a y).1 wa
 have OD:=kW MD hxs
 refine⟨_,rfl,_,rfl,rw',_,_,_,rfl,rfl,bF.of OD,es2,_,rfl,_,rfl,_,rfl,_,rfl,bs,_,rfl,bF.of (kW es3 es4),fun q7 hq7=>?_⟩
 have f7:=AV.new hq7
 have s7:=aj hq7 (.lst (jV (es.map V.int) (some a) (some b)))
 have h7:(upd H6 q7 (.lst (jV (es.map V.int) (some a) (some b)))) q7=some (.lst (((es.take b.toNat).drop a.toNat).map V.int)):=by rw[af,Mu _ a0 (by omega),List.map_drop,List.map_take]
 generalize upd H6 q7 (.lst (jV (es.map V.int) (some a) (some b)))=H7 at s7 h7
 have Si:=AV.same s7
 have U0:=s7 _ _ OD
 have U6:=s7 _ _ (kW et3 et4)
 have l8:(et.map V.int).length≤200:=by rw[cO];omega
 have ln7:(((es.take b.toNat).drop a.toNat).map V.int).length≤200:=by rw[cO,ln2];omega
 refine⟨_,rfl,_,rfl,_,rfl,_,rfl,_,rfl,rw',_,_,_,rfl,rfl,bF.of U0,QV,_,rfl,_,rfl,bt,_,rfl,bF.of U6,fun q8 hq8=>?_⟩
 have s8:=aj hq8 (.lst (jV (et.map V.int) none (some p)))
 have h8:(upd H7 q8 (.lst (jV (et.map V.int) none (some p)))) q8=some (.lst ((et.take p.toNat).map V.int)):=by rw[af,vg _ p0,List.map_take]
 generalize upd H7 q8 (.lst (jV (et.map V.int) none (some p)))=H8 at s8 h8
 have lt8:((et.take p.toNat).map V.int).length≤200:=by rw[cO,kK];omega
 refine⟨_,rfl,q8,q7,_,_,rfl,rfl,h8,s8 _ _ h7,jI (aM (by omega)),fun q9 hq9=>?_⟩
 have s9:=aj hq9 (.lst ((et.take p.toNat).map V.int++((es.take b.toNat).drop a.toNat).map V.int))
 have h9:(upd H8 q9 (.lst ((et.take p.toNat).map V.int++((es.take b.toNat).drop a.toNat).map V.int))) q9=some (.lst ((et.take p.toNat).map V.int++((es.take b.toNat).drop a.toNat).map V.int)):=af
 generalize upd H8 q9 (.lst ((et.take p.toNat).map V.int++((es.take b.toNat).drop a.toNat).map V.int))=H9 at s9 h9
 have s79:=s8.trans s9
 refine⟨_,rfl,_,rfl,rw',_,_,_,rfl,rfl,bF.of (s79 _ _ U0),QV,_,rfl,_,rfl,bt,_,rfl,bF.of (s79 _ _ U6),fun uz ae9=>?_⟩
 have Eg:=aj ae9 (.lst (jV (et.map V.int) (some p) none))
 have U7:(upd H9 uz (.lst (jV (et.map V.int) (some p) none))) uz=some (.lst ((et.drop p.toNat).map V.int)):=by rw[af,xD _ p0,List.map_drop]
 generalize upd H9 uz (.lst (jV (et.map V.int) (some p) none))=BS at Eg U7
 have lt10:((et.drop p.toNat).map V.int).length≤200:=by rw[cO,List.length_drop];omega
 refine⟨q9,uz,_,_,rfl,rfl,Eg _ _ h9,U7,jI (aM (by rw[eG];omega)),fun NC U9=>?_⟩
 have qz:=aj U9 (.lst ((et.take p.toNat).map V.int++((es.take b.toNat).drop a.toNat).map V.int++(et.drop p.toNat).map V.int))
 have h11:(upd BS NC (.lst ((et.take p.toNat).map V.int++((es.take b.toNat).drop a.toNat).map V.int++(et.drop p.toNat).map V.int))) NC=some (.lst (nw.map V.int)):=by rw[af,hnw,nu,nu]
 generalize upd BS NC (.lst ((et.take p.toNat).map V.int++((es.take b.toNat).drop a.toNat).map V.int++(et.drop p.toNat).map V.int))=Lw at qz h11
 have Va:aF H6 BS:=s7.trans (s79.trans Eg)
 have MJ:=Va.trans qz
 have NJ:=AV.new (aS Va U9)
 have tt:((t.toNat:Nat):Int)=t:=by omega
 refine⟨rw',NC,t.toNat,xs,by rw[tt];rfl,MJ _ _ OD,by omega,by omega,fun VB Ih h12 s12 Vz=>?_⟩
 have Ea:=AV.same (MJ.trans s12)
 have Lx:=AV.new (aS MJ Vz)
 have afa:Gd W Ih w ik rw' ps vl aH pe rows:=by
  obtain⟨ik',rw2,ps',vl',z⟩:=id Ea.wo
  have e:=(MJ.trans s12) _ _ (kW wu.ww wu.hw)
  rw[z.hw]at e
  simp only[Option.some.injEq,HO.dK.injEq,vC,List.cons.injEq,Prod.mk.injEq,V.ref.injEq,true_and,and_true]at e
  obtain⟨rfl,rfl,rfl,rfl⟩:=e
  exact z
 obtain⟨W',Vb,rv,fin⟩:=Ea.swap afa ((MJ.trans s12) _ _ OD) h12 (s12 _ _ h11) Lx NJ
 refine⟨W',w,VB,aH,pe,rows,rows.set t.toNat nw,rfl,Vb,by omega,rv,fun Wm afb afc afd=>?_⟩
 have Vc:=fin Wm afb afc afd
 rw[← wG nw tl]at Vc
 refine⟨_,rfl,_,rfl,(by show 2≤sizeLine;decide),fun t' ht'=>k U' W' t' s _ _ _ (by rw[af,decide_eq_true rfl]) s0 (by omega) lpr (by rw[eG];rfl) (Vc.same (aj ht' _)) OC⟩
inductive I36(C CS CW CB l c x w:Addr)(n j:Nat)(aH:lR)(H:Hp):Prop
 | mk (U W:Addr→Prop) (pe:l5) (rows:eF) (lines:l6) (_:sZ C CS CW CB H l c w x U W pe rows pe rows lines aH 2 []) (_:rows.length=n) (_:pe.length≤10+j) (_:lines.length≤10+j) (_:AO aH.length rows):I36 C CS CW CB l c x w n j aH H
theorem rQ:aG ["_law_script","_law_src_here","_law_house","_law_world_here","_law_sheet","_law_row","_law_k","_law_good","_law_source","_law_numbers","_law_start","_law_stop"] ["_law_script"] (az NB):=⟨rfl,rfl,rfl,by decide +kernel,rfl,by decide +kernel,by decide +kernel⟩
set_option maxHeartbeats 4000000 in
theorem RB{C:Addr}{f x0 x1 x2 x3 x4 x5 x6 x7 x8 x9 Pp x11 x12 x13 x14 x15 x16 x17 x18 x19 x20 x21 x22 x23 x24 x25 x26 x27 x28 x29 x30 x31 x32 x33 x34 x35 x36 x37 x38 x39 x40 x41 x42 x43 x44 x45 x46 x47 x48 x49 x50 x51 x52 x53 x54 x55 x56 x57 x58 x59 x60 x61 x62 x63 x64 x65 x66 x67 x68 x69 x70 x71 x72 x73 x74 x75 x76 x77 x78 x79 x80 x81 x82:Addr}{fd y0 y1 y2 y3 y4 y5 y6 y7 y8 y9 y10 y11 y12 y13 y14 y15 y16 y17 y18 y19 y20 y21 y22 y23 y24 y25 y26 y27 y28 y29 y30 y31 y32 y33 y34 y35 y36 y37 y38 y39 y40 y41 y42 y43 y44 y45 y46 y47 y48 y49 y50 y51 y52 y53 y54 y55 y56 y57 y58 y59 y60 y61 y62 y63 y64 y65 y66 y67 y68 y69 y70 y71 y72 y73 y74 y75 y76 y77 y78 y79 y80 y81 y82:FuncData}{b9:Addr}{ef:Addr}{gU:Addr}{um:Addr}{ya:Addr}{aI:Addr}(F:iD K "law" "law" NB f fd)(T:pG mg)(G:Wd mg)(Z:ExcAt K mg C){m5:Addr}{n8:Addr}{n9:Addr}{qy:Addr}(dP:C4 K mg "NoSheet" m5)(cQ:C4 K mg "NoMoment" n8)(mJ:C4 K mg "OutOfInk" n9)(dB:C4 K mg "TooMany" qy)(Cw:ay K mg "_law_src" tE Na x0 y0)
  (aW:ay K mg "_law_next" iM wO x1 y1)
  (b8:ay K mg "_law_whole" eS Cz x2 y2)
  (bP:ay K mg "_law_same" iN wL x3 y3)
  (fL:ay K mg "plain" lu eY x4 y4)
  (iY:ay K mg "size" ssize eY x5 y5)
  (bY:ay K mg "check_places" eT mS x6 y6)
  (gx:ay K mg "pieces" mP mS x7 y7)
  (Cu:ay K mg "part" BF mS x8 y8)
  (HE:ay K mg "addresses" uO eY x9 y9)
  (yO:ay K mg "first_reaching" nC ["holes","start"] Pp y10)
  (OE:ay K mg "within" CN ["holes","address"] x11 y11)
  (j8:aQ K gU "__init__" "Blots.__init__" iS ja x12 y12)
  (Eb:aQ K gU "hides" "Blots.hides" qS RI x13 y13)
  (cu:ay K mg "windows" dZ nv x14 y14)
  (jz:ay K mg "below" ly lS x15 y15)
  (jP:ay K mg "way_between" iO Ja x16 y16)
  (IM:ay K mg "ring" BG wN x17 y17)
  (jQ:ay K mg "item_weight" iP Jb x18 y18)
  (lK:ay K mg "weights_below" fy lS x19 y19)
  (cB:ay K mg "item_row" eX wM x20 y20)
  (cY:ay K mg "views_below" dJ lS x21 y21)
  (Az:ay K mg "shown" zA wN x22 y22)
  (jA:ay K mg "goes_on" lA Ei x23 y23)
  (cL:ay K mg "plain_items" gu nv x24 y24)
  (gY:ay K mg "inked" qT eY x25 y25)
  (oZ:ay K mg "dealt" qU CA x26 y26)
  (rm:ay K mg "put_among" mq Kr x27 y27)
  (kq:ay K mg "put_items" oq Ku x28 y28)
  (tS:ay K mg "parted" tF Ks x29 y29)
  (rE:ay K mg "cut_items" ou M7 x30 y30)
  (jB:ay K mg "ink_words" jf eY x31 y31)
  (pX:ay K mg "shown_deed" kB ["deed"] x32 y32)
  (iU:ay K mg "changed" oz Ge x33 y33)
  (j7:aQ K b9 "__init__" "Shelf.__init__" iT ja x34 y34)
  (bU:aQ K b9 "now" "Shelf.now" gS ja x35 y35)
  (cP:aQ K b9 "many" "Shelf.many" iF ja x36 y36)
  (ng:aQ K b9 "step" "Shelf.step" kC Sj x37 y37)
  (aN:aQ K b9 "check_sheet" "Shelf.check_sheet" dD wI x38 y38)
  (cH:aQ K b9 "check_moment" "Shelf.check_moment" cG Kp x39 y39)
  (iA:aQ K b9 "rows_then" "Shelf.rows_then" dF Kp x40 y40)
  (bI:aQ K b9 "rows" "Shelf.rows" mX ja x41 y41)
  (kr:aQ K b9 "row" "Shelf.row" mw wI x42 y42)
  (lN:aQ K um "__init__" "Ties.__init__" jg ja x43 y43)
  (lO:aQ K ya "__init__" "Dues.__init__" jh ja x44 y44)
  (lM:aQ K ef "__init__" "Well.__init__" ji ja x45 y45)
  (cD:aQ K ef "size" "Well.size" kg ja x46 y46)
  (pC:aQ K ef "pour" "Well.pour" oA M5 x47 y47)
  (ud:aQ K ef "check_address" "Well.check_address" jW RI x48 y48)
  (HF:aQ K ef "sign" "Well.sign" uP RI x49 y49)
  (ni:aQ K ef "holds" "Well.holds" kF OI x50 y50)
  (nX:ay K mg "check_weave" lC wN x51 y51)
  (qb:aQ K aI "__init__" "Library.__init__" iX ja x52 y52)
  (aP:aQ K aI "enter" "Library.enter" bS I0 x53 y53)
  (aT:aQ K aI "change" "Library.change" cJ Kq x54 y54)
  (j0:aQ K aI "many" "Library.many" jX ja x55 y55)
  (OF:aQ K aI "now" "Library.now" vM ja x56 y56)
  (jD:aQ K aI "begin" "Library.begin" jj Vm x57 y57)
  (gf:aQ K aI "fresh" "Library.fresh" ig ja x58 y58)
  (iR:aQ K aI "ink" "Library.ink" jK ja x59 y59)
  (eE:aQ K aI "check_held" "Library.check_held" d8 OI x60 y60)
  (gZ:aQ K aI "pour" "Library.pour" iV M5 x61 y61)
  (rJ:aQ K aI "put" "Library.put" nO PN x62 y62)
  (bC:aQ K aI "shown" "Library.shown" dN wI x63 y63)
  (Ko:aQ K aI "veiled" "Library.veiled" rL ["self","row","veil"] x64 y64)
  (M1:aQ K aI "text" "Library.text" uh wI x65 y65)
  (M3:aQ K aI "size" "Library.size" ug wI x66 y66)
  (rK:aQ K aI "cut" "Library.cut" nP PR x67 y67)
  (jH:aQ K aI "quote" "Library.quote" jk M6 x68 y68)
  (lP:aQ K aI "row" "Library.row" lD wI x69 y69)
  (jF:ay K mg "_law_sign" ki Jc x70 y70)
  (mK:ay K mg "_law_text" kj Kv x71 y71)
  (qc:ay K mg "_law_world" mY [] x72 y72)
  (cE:ay K mg "_law_keep" jm AW x73 y73)
  (rF:ay K mg "_law_pour" mz AX x74 y74)
  (pZ:ay K mg "_law_fresh" mZ Gf x75 y75)
  (yt:ay K mg "_law_begin" pL AX x76 y76)
  (nZ:ay K mg "_law_row_of" lE M8 x77 y77)
  (lQ:ay K mg "_law_items_of" jo M9 x78 y78)
  (yu:ay K mg "_law_spell" pM ["_law_row"] x79 y79)
  (ku:ay K mg "_law_swap" oB Kw x80 y80)
  (nI:ay K mg "_law_all_right" j5 Gf x81 y81)
  (yv:ay K mg "_law_quote" pN AX x82 y82) (bH:ClsAt K mg "Shelf" b9 x34) (OG:bh K b9 "states") (Kd:bh K b9 "openings") (iH:ClsAt K mg "Well" ef x45) (MK:bh K ef "signs") (IX:bh K ef "owners") (Cy:bh K ef "pourings") (qt:ClsAt K mg "Blots" gU x12) (IY:bh K gU "stains") (FL:ClsAt K mg "Ties" um x43) (RC:bh K um "given") (RD:bh K um "pairs") (FN:ClsAt K mg "Dues" ya x44) (Vd:bh K ya "sums") (aK:ClsAt K mg "Library" aI x52) (Ve:bh K aI "well") (RE:bh K aI "shelf") (RG:bh K aI "blots") (RH:bh K aI "knots") (Vf:bh K aI "dues") (Vg:bh K aI "book"):aB P w K mg base bV 14 f fd Na (Ez K):=by
 have Ke:aB P w K mg base bV 1 _ _ Na (Lm K):=G1 Cw.F T
 have bM:aB P w K mg base bV 1 _ _ wO sJ:=kG aW.F T
 have LM:Bj K mg aI b9 m5 n8 qy:=⟨⟨T,⟨_,bH⟩,OG,Kd,dP,cQ⟩,⟨_,aK⟩,Ve,RE,RG,RH,Vf,Vg,dB,G⟩
 have X:yJ K mg aI b9 ef gU m5 n8 qy n9 C:=⟨LM,⟨_,iH⟩,MK,IX,Cy,⟨_,qt⟩,IY,mJ,Z⟩
 have A1:Hw K mg b9:=⟨⟨_,_,cP⟩,⟨_,_,bU⟩,⟨_,_,aN⟩,⟨_,_,cH⟩,⟨_,_,iA⟩,⟨_,_,bI⟩,⟨_,_,ng⟩⟩
 have A2:Km K mg:=⟨⟨_,_,cu⟩,⟨_,_,jz⟩,⟨_,_,jQ⟩,⟨_,_,lK⟩,⟨_,_,jP⟩,⟨_,_,IM⟩,⟨_,_,nX⟩,⟨_,_,iU⟩,⟨_,_,jB⟩,⟨_,_,pX⟩⟩
 have A3:UC K mg aI:=⟨⟨_,_,aP⟩,⟨_,_,aT⟩,⟨_,_,j0⟩,⟨_,_,jD⟩⟩
 have A4:R0 K mg _ _:=⟨⟨_,_,cu⟩,⟨_,_,jz⟩,⟨_,_,cB⟩,⟨_,_,fL⟩,⟨_,_,cY⟩,⟨_,Az⟩,⟨_,iY⟩⟩
 have A5:Ro K mg ef gU:=⟨⟨_,_,cD⟩,⟨_,_,pC⟩,⟨_,_,ud⟩,⟨_,_,HF⟩,⟨_,_,ni⟩,⟨_,_,Eb⟩,⟨_,_,yO⟩,⟨_,_,OE⟩,⟨_,_,HE⟩⟩
 have A6:UD K mg:=⟨⟨_,_,cu⟩,⟨_,_,jz⟩,⟨_,_,cB⟩,⟨_,_,fL⟩,⟨_,_,cY⟩,⟨_,_,iY⟩,⟨_,_,bY⟩,⟨_,_,jA⟩,⟨_,_,cL⟩,⟨_,_,oZ⟩,⟨_,_,gx⟩,⟨_,_,gY⟩,⟨_,_,rm⟩,⟨_,_,kq⟩⟩
 have wH:aB P w K mg base bV 3 _ _ ja (xQ aI b9 ef gU):=uc qb.F LM bH j7 iH lM MK IX Cy qt j8 IY FL lN RC RD FN lO Vd
 have Ec:aB P w K mg base (oJ P w) 6 _ _ PN (DL aI b9 ef gU m5 n9 C):=AD rJ.F X A1 A2 A4 A5 A6 aP aT bC iR eE
 have Ed:aB P w K mg base (oJ P w) 6 _ _ PR (DM aI b9 ef gU m5 C):=AH rK.F X A1 A2 A6 aP aT rE tS
 have F1:aB P w K mg base bV 1 _ _ [] IS:=DQ qc.F
 have jG:aB P w K mg base bV 1 _ _ AW xT:=pY cE.F
 have rH:aB P w K mg base bV 1 _ _ Kw DW:=yr ku.F T
 have F2:aB P w K mg base bV 9 _ _ AX (vt aI b9 ef gU):=DT yt.F X A1 A2 A3 A5 aP gZ gf aW mK jF cE bP b8 rF pZ
 have F3:aB P w K mg base bV 1 _ _ ["_law_row"] (CP 1000000):=DV yu.F T
 have rR:aB P w K mg base bV 6 _ _ Gf (rG aI b9 ef gU):=xV nI.F X A1 A4 bC lP kr bP b8 nZ lQ
 have F4:aB P w K mg base bV 7 _ _ AX (vz aI b9 ef gU):=DZ yv.F X A1 A2 A4 A6 aP aT bC Cu jH aW cE ku
 refine F.ok rQ (fun vs H Q E h=>?_) (fun cdv A outer s H vs Q E hr h=>?_)
 ·obtain⟨a,ns,rfl,_⟩:=h
  rfl
 obtain⟨a,ns,rfl,hS,h63,k⟩:=h
 have hu:=lY hr
 refine⟨_,(ak (aU (i:=1) rQ.nd rfl (Or.inl rfl) (aL Cw Ke hr (aa (pv 0) ah)))
   (ak (aU (i:=2) rQ.nd rfl (Or.inl rfl) (qx aK.RQ wH (hr.mono (by decide)) rfl aK.m qb.b .nil dz))
   (ak (aU (i:=3) rQ.nd rfl (Or.inl rfl) (KS F1 (hr.mono (by decide)) rfl qc.m qc.F.kp qc.b .nil dz))
   (ak (cC (mh (nB (aL yt F2 hr (aa (pv 1) (aa (pv 3) (aa (pv 2) ah))))))
   (ao (aR pH))
   bL)
   (ak (gQ PassesOwn.never rfl (mj rfl T.nQ (aa (aV aX rfl T.ic lT (aa (dX hu (pv 3) bO (fun _ _=>rfl)) ah)) ah)) (aY (i:=4) rQ.nd rfl (Or.inl rfl))
   (ak (aU (i:=5) rQ.nd rfl (Or.inl rfl) (bJ (aa (eK (aa aA (aa (aV (Bv rfl) rfl T.O7 PyProof.Rows.boot_min (aa aA (aa (aV aX rfl T.ic lT (aa (dX hu (pv 3) bO (fun _ _=>rfl)) ah)) ah))) ah))) ah)))
   (ao (cC (bR Bu (bq dm (bq bf (pv 5) aA (fun _ _=>rfl)) aA (fun _ _=>rfl)) aA (bZ _))
   (ak (bw (cI (pv 2) aK.cl rJ.mt Ec (hr.mono (by decide)) rJ.b .nil zM (aa (pv 4) (aa aA (aa (eV iK rfl T.lG vD (aa (pv 5) ah)) ah)))))
   (ao (bw (aL cE jG hr (aa (pv 3) (aa (aL ku rH hr (aa (dX hu (pv 3) bO (fun _ _=>rfl)) (aa (pv 4) (aa (aL yu F3 hr (aa (pv 5) ah)) ah)))) ah))))))
   bL))))
   (ak (gQ PassesOwn.never rfl (mj rfl T.nQ (aa (aL aW bM hr (aa (pv 1) (aa aA ah))) ah)) (aY (i:=6) rQ.nd rfl (Or.inl rfl))
   (ak (qg (aL yv F4 hr (aa (pv 1) (aa (pv 3) (aa (pv 2) ah)))) (qf (n:=2) rfl (bQ (aY (i:=7) rQ.nd rfl (Or.inl rfl)) (bQ (aY (i:=8) rQ.nd rfl (Or.inl rfl)) j3))))
   (ak (cC (PW.pt (KA (mh (mU (pv 7) (fun _=>rfl))) (Gj (mh (nB (aL nI rR hr (aa (pv 3) (aa (pv 2) ah))))))))
   (ao (aR pH))
   bL)
   (ak (aU (i:=9) rQ.nd rfl (Or.inl rfl) (bq bf (dX hu (pv 3) bO (fun _ _=>rfl)) (pv 8) (fun _ _=>rfl)))
   (ak (aU (i:=10) rQ.nd rfl (Or.inl rfl) (aL aW bM hr (aa (pv 1) (aa (bz eZ (aV aX rfl T.ic lT (aa (pv 9) ah)) aA) ah))))
   (ak (aU (i:=11) rQ.nd rfl (Or.inl rfl) (bz eZ (pv 10) (aL aW bM hr (aa (pv 1) (aa (bz eZ (bz gR (aV aX rfl T.ic lT (aa (pv 9) ah)) (pv 10)) aA) ah)))))
   (ak (bw (cI (pv 2) aK.cl rK.mt Ed (hr.mono (by decide)) rK.b .nil zM (aa (pv 8) (aa (pv 10) (aa (pv 11) ah)))))
   (ak (bw (aL cE jG hr (aa (pv 3) (aa (aL ku rH hr (aa (dX hu (pv 3) bO (fun _ _=>rfl)) (aa (pv 8) (aa (bz kZ (kX pJ (pv 9) pI (mO (pv 10))) (kX pJ (pv 9) (mO (pv 11)) pI)) ah)))) ah))))
   (ao (cC (mh (nB (aL nI rR hr (aa (pv 3) (aa (pv 2) ah)))))
   (ao (aR pH))
   bL))))))))))
   (ao (aR pH)))))))),?_⟩
 refine⟨_,rfl,a,ns,rfl,hS,fun l c H1 S1 s1 _ _=>?_⟩
 intro x dx fx fdx _
 refine⟨x,dx,rfl,af,fun U H2 L2 fU k2=>⟨rfl,?_⟩⟩
 have s2:=oh fx fdx k2
 have S2:=S1.same s2
 have fU':∀ a,U a→H1 a=none:=fun a z=>by
  rcases fU a z with y|y
  ·rw[y];exact fx
  ·exact qK y
 refine⟨rfl,fun W w H3 wo3 fW s3=>?_⟩
 have MY:sZ aI b9 ef gU H3 l c w x U W [[]] [] [[]] [] [] [] 0 []:=by
  refine⟨S2.same s3,L2.same s3,rfl,wo3,fun a z=>⟨fun y=>?_,?_⟩,fun a z=>?_⟩
  ·obtain⟨ob,e⟩:=L2.al z
   rw[fW a y]at e;cases e
  ·have n:=S1.ne (fU' a z)
   exact⟨n.1.symm,n.2.symm⟩
  ·have n:=S2.ne (fW a z)
   exact⟨n.1.symm,n.2.symm⟩
 refine⟨_,rfl,_,rfl,_,rfl,l,c,w,x,U,W,rfl,MY,fun U' W' H4 n aH lines n2 n4 li ll Oz fr4=>⟨true,rfl,iL ?_⟩⟩
 obtain⟨ik,rw',ps,vl,wu⟩:=id Oz.wo
 have zr:=mC.k (k:=kR) wu.hw
 rw[show cj (vC ik rw' ps vl) kR=some (.ref rw') by kernel_rfl]at zr
 obtain⟨_,_,_,vs,hvs,al⟩:=id wu.hr
 have lv:=bK.len al
 rw[yy]at lv
 refine⟨_,rfl,w,_,rfl,zr,rw',_,rfl,.inl (bF.of hvs),_,rfl,by omega,by omega,?_⟩
 rw[lv]
 refine n6 (lo:=0) (n:=((n:Nat):Int).toNat) (fun j σ H5=>∃ (u4 u5:Option V) (U W:Addr→Prop) (pe:l5) (rows:eF) (lines:l6),σ=[some (.ref a),some (.ref l),some (.ref x),some (.ref w),u4,u5,none,none,none,none,none,none]∧sZ aI b9 ef gU H5 l c w x U W pe rows pe rows lines aH 2 []∧rows.length=n∧pe.length≤7+j∧lines.length≤7+j∧AO aH.length rows∧∀ i,j≤i→i<n→rows[i]?=some []) ?_ ?_ ?_
 ·refine⟨none,none,U',W',_,_,lines,rfl,Oz,yy ..,by rw[AN];omega,by omega,fun es he=>?_,fun i _ hi=>?_⟩
  ·rw[AL he]
   exact⟨Nat.zero_le _,fun _ z=>nomatch z⟩
  ·rw[List.getElem?_replicate,if_pos hi]
 ·rintro j σ H5 hj ⟨u4,u5,U,W,pe,rows,lines,rfl,St,ln,lp,ll5,nn,em⟩
  have jn:j<n:=by omega
  obtain⟨ik,rw',ps,vl,wu⟩:=id St.wo
  have zi:=mC.k (k:=kI) wu.hw
  rw[show cj (vC ik rw' ps vl) kI=some (.ref ik) by kernel_rfl]at zi
  obtain⟨as,hik,pa⟩:=id wu.hi
  have la:=Paired.length pa
  refine⟨_,rfl,w,_,rfl,zi,ik,_,rfl,.inl (bF.of hik),_,_,rfl,?_⟩
  rw[show (as.map V.ref).length=aH.length by rw[cO,la]]
  obtain⟨m,em0,m40,mi⟩:∃ m:Nat,(if (aH.length:Int)<40 then (aH.length:Int) else 40)=m∧m≤40∧m≤aH.length:=by
   split
   ·exact⟨aH.length,rfl,by omega,by omega⟩
   ·exact⟨40,rfl,by omega,by omega⟩
  refine⟨(by show 2≤sizeLine;decide),fun tp htp=>⟨(by show 1≤sizeLine;decide),fun r hr1=>?_⟩⟩
  rw[em0]at hr1 ⊢
  have s6:=aj htp (.tup [.int 0,.int m])
  have t6:(upd H5 tp (.tup [.int 0,.int m])) tp=some (.tup [.int 0,.int m]):=af
  generalize upd H5 tp (.tup [.int 0,.int m])=H6 at s6 t6 hr1
  have s7:=aj hr1 (.lst [.ref tp])
  have r7:(upd H6 r (.lst [.ref tp])) r=some (.lst [.ref tp]):=af
  show vJ _ _ _ (upd H6 r (.lst [.ref tp])) _
  generalize upd H6 r (.lst [.ref tp])=H7 at s7 r7
  have s57:=s6.trans s7
  have Si:=St.same s57
  have t7:=s7 _ _ t6
  refine⟨_,rfl,r,_,_,_,rfl,rfl,bF.of r7,rfl,tp,_,_,_,rfl,rfl,jc.of t7,rfl,_,_,rfl,rfl,_,rfl,dQ (fun m0=>?_) (fun _=>?_)⟩
  ·have m0:=of_decide_eq_true m0
   have es1:=em j (iC _) jn
   have hj0:(0+(j:Int)).toNat=j:=by omega
   have eo:own rows (0+(j:Int))=[]:=vv (by rw[hj0];exact es1)
   obtain⟨S',Pn,d',QZ,UP,UQ,UR,US,UT,UU,st',op',Wh,Wi,Wj,Wk,db',tb',ops',LU⟩:=id Si.IT
   refine⟨_,rfl,x,d',_,rfl,LU.L.hx,rfl,_,rfl,_,rfl,r,_,rfl,.inl (bF.of r7),fun r2 hr2=>?_⟩
   have s8:=aj hr2 (.lst [.ref tp])
   have r8:(upd H7 r2 (.lst [.ref tp])) r2=some (.lst [.ref tp]):=af
   generalize upd H7 r2 (.lst [.ref tp])=H8 at s8 r8
   have PK:=Si.same s8
   have s58:=s57.trans s8
   have afe:bX H8 r2 [(0,(m:Int))]:=⟨[tp],r8,.cons (s8 _ _ t7) .nil⟩
   have ajh:bX H8 r [(0,(m:Int))]:=⟨[tp],s8 _ _ r7,.cons (s8 _ _ t7) .nil⟩
   have sp0:∀ e∈bx [(0,(m:Int))],0≤e∧e<(aH.length:Nat):=fun e he=>MH (row:=[(0,(m:Int))]) (fun p hp=>by rw[List.mem_singleton.mp hp];exact⟨Int.le_refl _,by show (0:Int)<m;omega,by show (m:Int)≤_;omega⟩) he
   have ls0:(bx [(0,(m:Int))]).length≤40:=by
    have:=F0 (k:=40) (row:=[(0,(m:Int))]) fun p hp=>by rw[List.mem_singleton.mp hp];show (m:Int)≤0+40;omega
    exact this
   obtain⟨nw,hnw⟩:∃ nw,nw=bx [(0,(m:Int))]:=⟨_,rfl⟩
   have RA:qp (own rows) 0 [] (dH (dO (bT [(0,(m:Int))])))=nw:=by
    rw[Cv (es:=[]) (fun e z=>by cases z),sP,pP _ fun q hq=>by rw[List.mem_singleton.mp hq];show (0:Int)≤m;omega,hnw]
    simp
   have OC:AO aH.length (jb rows j nw):=nn.put (by rw[hnw];omega) (by rw[hnw];exact sp0)
   have jl:j<rows.length:=by omega
   have lpr:(jb rows j nw).length=rows.length:=by rw[sU (by omega),if_neg (by omega)]
   refine⟨U,x,r2,pe,lines,aH,2,[],[(0,(m:Int))],0+(j:Int),0,rows,rfl,PK.IT,afe,⟨(by show 1≤29;decide),fun q hq=>?_⟩,by omega,St.lst,by omega,by omega,by omega,⟨by omega,by omega⟩,⟨by omega,by omega⟩,fun z=>absurd ⟨by omega,by omega⟩ z,fun _=>⟨own rows,nn.seen,fun z=>absurd ⟨Int.le_refl _,by omega⟩ z,fun _=>⟨fun hb=>?_,fun _ es' FJ=>?_⟩⟩⟩
   ·rw[List.mem_singleton.mp hq]
    exact⟨⟨Int.le_refl _,(by show (0:Int)<10^60;decide)⟩,⟨by show (0:Int)≤m;omega,by show (m:Int)<_;omega⟩⟩
   ·have:qq aH.length [(0,(m:Int))]=true:=List.all_eq_true.mpr fun q hq=>by
     rw[List.mem_singleton.mp hq]
     unfold MU
     simp only[Bool.and_eq_true,decide_eq_true_eq]
     omega
    rw[this]at hb
    cases hb
   rw[hj0,es1]at FJ
   cases FJ
   rw[RA,hj0]
   refine⟨⟨_,OC.bears (by omega)⟩,fun U' H9 L9 M0=>?_⟩
   obtain⟨M4,_⟩:=PK.Rz L9 (rows':=jb rows j nw) (by simp) M0
   have nr:=St.new (aS s6 hr1)
   have ntp:=St.new htp
   have kW:∀ {a:Addr} {ob:HO},W a→H5 a=some ob→H9 a=some ob:=fun {a ob} wa e=>M0.2.1 _ _ (s58 _ _ e) fun y=>(St.du a y).1 wa
   have zr:=mC.k (k:=kR) (kW wu.ww wu.hw)
   rw[show cj (vC ik rw' ps vl) kR=some (.ref rw') by kernel_rfl]at zr
   obtain⟨MD,_,_,xs,hxs,al⟩:=id wu.hr
   have lv:=bK.len al
   have Vh:=kW MD hxs
   have Vi:bX H9 r [(0,(m:Int))]:=⟨[tp],M0.2.1 _ _ (s8 _ _ r7) nr.1,.cons (M0.2.2 _ _ (s8 _ _ t7)) .nil⟩
   refine⟨_,rfl,_,rfl,w,_,rfl,zr,_,rfl,_,rfl,r,_,rfl,Vi,fun q hq=>by rw[List.mem_singleton.mp hq];exact⟨Int.le_refl _,by show (0:Int)≤m;omega,by show (m:Int)<_;omega⟩,by omega,(by show 1≤1000000;decide),fun uz BS U7 Eg Vx=>?_⟩
   rw[← hnw]at U7
   have n10:=M4.new Vx
   refine⟨rw',uz,j,xs,by rw[show (0+(j:Int))=((j:Nat):Int) by omega];rfl,Eg _ _ Vh,by omega,by omega,fun NC Lw h11 qz Vy=>?_⟩
   have OH:=Eg.trans qz
   have ML:=M4.same OH
   have NJ:=M4.new (aS Eg Vy)
   have afg:Gd W Lw w ik rw' ps vl aH pe rows:=wu.fr (fun a ob e z=>OH _ _ (kW z e)) (fun a xs e=>OH _ _ (M0.2.2 _ _ (s58 _ _ e)))
   obtain⟨W',Vb,rv,fin⟩:=ML.swap afg (OH _ _ Vh) h11 (qz _ _ U7) NJ n10
   refine⟨W',w,NC,aH,pe,rows,rows.set j nw,rfl,Vb,by omega,rv,fun Ih afh MM afi=>?_⟩
   have Ea:=fin Ih afh MM afi
   rw[← wG nw jl]at Ea
   refine⟨some (.int (0+(j:Int))),some (.ref r),U',W',_,_,_,rfl,Ea,by omega,?_,?_,OC,fun i hi hn=>?_⟩
   ·rw[eG];simp only[ny,oj];omega
   ·rw[eG];simp only[ny,oj];omega
   ·rw[wG nw jl,List.getElem?_set_ne (by omega)]
    exact em i (by omega) hn
  ·exact⟨some (.int (0+(j:Int))),some (.ref r),U,W,pe,rows,lines,rfl,Si,ln,by omega,by omega,nn,fun i hi hn=>em i (by omega) hn⟩
 rintro σ H5 ⟨u4,u5,U,W,pe,rows,lines,rfl,St,ln,lp,ll5,nn,em⟩
 refine⟨_,rfl,l,c,7,rfl,St.src,by decide,by decide,fun v H6 v0 v1 S6 k6=>?_⟩
 have AV:=St.mv (cW k6) S6
 refine⟨v,rfl,by omega,by omega,n6 (lo:=0) (n:=v.toNat) (fun j σ H7=>∃ (u4 u5 u6 u7 u8 u9 u10 u11:Option V),σ=[some (.ref a),some (.ref l),some (.ref x),some (.ref w),u4,u5,u6,u7,u8,u9,u10,u11]∧I36 aI b9 ef gU l c x w n (5+2*j) aH H7) ?_ ?_ ?_⟩
 ·exact⟨u4,u5,none,none,none,none,none,none,rfl,U,W,pe,rows,lines,AV,ln,by omega,by omega,nn⟩
 ·rintro j σ H7 hj ⟨u4,u5,u6,u7,u8,u9,u10,u11,rfl,I7⟩
  obtain⟨U,W,pe,rows,lines,Si,ln,lp,ll7,nn⟩:=I7
  refine⟨_,rfl,_,rfl,_,rfl,l,c,w,x,U,W,pe,rows,lines,aH,2,rfl,Si,by omega,by omega,by omega,by omega,by omega,nn,fun U8 W8 t8 src nj MN H8 ht8 sr0 sr1 lr8 ll8 PK Wn=>?_⟩
  refine⟨t8,_,rfl,jc.of ht8,rfl,_,_,rfl,_,_,rfl,rfl,?_⟩
  have lq8:(pe++[nj]).length=pe.length+1:=by rw[eG];rfl
  refine⟨_,rfl,true,rfl,iL ⟨_,rfl,_,rfl,U8,W8,x,w,_,MN,aH,2,nj,_,rfl,PK.IT,PK.lst,by omega,by omega,PK.wo,Wn,fun H9 s9=>⟨true,rfl,iL ?_⟩⟩⟩
  have M4:=PK.same s9
  obtain⟨ik,rw',ps,vl,wu⟩:=id M4.wo
  have zr:=mC.k (k:=kR) wu.hw
  rw[show cj (vC ik rw' ps vl) kR=some (.ref rw') by kernel_rfl]at zr
  obtain⟨MD,_,_,xs,hxs,al⟩:=id wu.hr
  have lv:=bK.len al
  obtain⟨sn,rfl⟩:∃ sn:Nat,src=sn:=⟨src.toNat,by omega⟩
  have sl:sn<nj.length:=by omega
  obtain⟨es,es1⟩:∃ es,nj[sn]?=some es:=⟨_,qM sl⟩
  obtain⟨y,ey,bs,rfl,wb,_,_,O8⟩:=al.get' es1
  have Sg:=Wn es (vB es1)
  refine⟨_,rfl,w,_,rfl,zr,_,rfl,rw',_,_,_,rfl,rfl,bF.of hxs,eL ey,?_⟩
  refine⟨_,rfl,_,rfl,bs,_,rfl,.inl (bF.of O8),_,_,rfl,rfl,?_⟩
  rw[cO]
  refine⟨l,c,_,rfl,M4.src,by omega,by omega,fun a' BS a0 a1 S10 MX=>?_⟩
  have afl:=M4.mv (cW MX) S10
  have kw:∀ {a:Addr} {ob:HO} {H1:Hp},(∀ a,a≠l→H1 a=H9 a)→W8 a→H9 a=some ob→H1 a=some ob:=fun {a ob H1} k wa e=>(k a (M4.dw a wa).1).trans e
  refine⟨_,rfl,_,rfl,_,rfl,bs,_,rfl,.inl (bF.of (kw MX wb O8)),_,rfl,_,_,rfl,rfl,_,_,rfl,rfl,?_⟩
  rw[cO]
  refine⟨l,c,_,rfl,S10,by omega,by omega,fun v' Lw v0' v1' S11 k11=>⟨_,_,rfl,rfl,?_⟩⟩
  have ML:=afl.mv (cW k11) S11
  have Vj:∀ a,a≠l→Lw a=H9 a:=fun a n=>(k11 a n).trans (MX a n)
  show Sy _ _ _ [_,_,_,_,_,_,_,_,_,_,_,some (V.int (a'+v'))] Lw
  obtain⟨b,hb⟩:∃ b,b=a'+v':=⟨_,rfl⟩
  rw[← hb]
  have b0:a'≤b:=by omega
  have b1:b≤es.length:=by omega
  have Wl:own nj ((sn:Nat):Int)=es:=vv (by rw[Int.toNat_natCast];exact es1)
  have i3:Eh a' b (own nj ((sn:Nat):Int)).length:=by rw[Wl];exact⟨a0,b0,b1⟩
  obtain⟨nw,hnw⟩:∃ nw,nw=es.take a'.toNat++es.drop b.toNat:=⟨_,rfl⟩
  have lnw:nw.length≤200:=by
   rw[hnw,eG,kK,List.length_drop]
   omega
  have OC:AO aH.length (jb nj sn nw):=Wn.put lnw fun e he=>by
   rw[hnw]at he
   rcases List.mem_append.mp he with he|he
   ·exact Sg.2 e (List.mem_of_mem_take he)
   ·exact Sg.2 e (List.mem_of_mem_drop he)
  have lpr:(jb nj sn nw).length=nj.length:=by rw[sU (by omega),if_neg (by omega)]
  obtain⟨S',Pn,d',QZ,UP,UQ,UR,US,UT,UU,st',op',Wh,Wi,Wj,Wk,db',tb',ops',LU⟩:=id ML.IT
  refine⟨_,rfl,x,d',_,rfl,LU.L.hx,rfl,_,rfl,_,rfl,_,rfl,U8,x,_,MN,aH,2,[],((sn:Nat):Int),a',b,nj,rfl,ML.IT,PK.lst,by omega,by omega,by omega,⟨by omega,by omega⟩,⟨by omega,by omega⟩,⟨by omega,by omega⟩,fun z=>absurd ⟨by omega,by omega⟩ z,fun _=>⟨own nj,Wn.seen,fun z=>absurd i3 z,fun _ es' FJ=>?_⟩⟩
  rw[Int.toNat_natCast,es1]at FJ
  cases FJ
  rw[Kc b0 (fun e z=>(Sg.2 e z).1),← hnw,Int.toNat_natCast]
  refine⟨⟨_,OC.bears (by omega)⟩,fun U12 Ih L12 MM=>?_⟩
  obtain⟨Ea,_⟩:=ML.Rz L12 (rows':=jb nj sn nw) (by simp) MM
  have kW:∀ {a:Addr} {ob:HO},W8 a→H9 a=some ob→Ih a=some ob:=fun {a ob} wa e=>MM.2.1 _ _ (kw Vj wa e) fun y=>(M4.du a y).1 wa
  have PL:=kW MD hxs
  have Vk:=mC.k (k:=kR) (kW wu.ww wu.hw)
  rw[show cj (vC ik rw' ps vl) kR=some (.ref rw') by kernel_rfl]at Vk
  refine⟨_,rfl,_,rfl,w,_,rfl,Vk,_,rfl,_,rfl,_,rfl,_,rfl,bs,_,rfl,bF.of (kW wb O8),fun Qu afm=>?_⟩
  have EZ:=aj afm (.lst (jV (es.map V.int) none (some a')))
  have h13:(upd Ih Qu (.lst (jV (es.map V.int) none (some a')))) Qu=some (.lst ((es.take a'.toNat).map V.int)):=by rw[af,vg _ a0,List.map_take]
  generalize upd Ih Qu (.lst (jV (es.map V.int) none (some a')))=Wm at EZ h13
  refine⟨_,rfl,_,rfl,_,rfl,bs,_,rfl,bF.of (EZ _ _ (kW wb O8)),fun Qv afn=>?_⟩
  have IP:=aj afn (.lst (jV (es.map V.int) (some b) none))
  have h14:(upd Wm Qv (.lst (jV (es.map V.int) (some b) none))) Qv=some (.lst ((es.drop b.toNat).map V.int)):=by rw[af,xD _ (by omega),List.map_drop]
  generalize upd Wm Qv (.lst (jV (es.map V.int) (some b) none))=H14 at IP h14
  refine⟨Qu,Qv,_,_,rfl,rfl,IP _ _ h13,h14,jI (aM (by rw[cO,cO,kK,List.length_drop];omega)),fun Qw Vl=>?_⟩
  have Hr:=aj Vl (.lst ((es.take a'.toNat).map V.int++(es.drop b.toNat).map V.int))
  have RN:(upd H14 Qw (.lst ((es.take a'.toNat).map V.int++(es.drop b.toNat).map V.int))) Qw=some (.lst (nw.map V.int)):=by rw[af,hnw,nu]
  generalize upd H14 Qw (.lst ((es.take a'.toNat).map V.int++(es.drop b.toNat).map V.int))=H15 at Hr RN
  have PM:=EZ.trans IP
  have MO:=PM.trans Hr
  have n15:=Ea.new (aS PM Vl)
  refine⟨rw',Qw,sn,xs,rfl,MO _ _ PL,by omega,by omega,fun VC H16 h16 Po VA=>?_⟩
  have IZ:=MO.trans Po
  have n16:=Ea.new (aS MO VA)
  have afo:Gd W8 H16 w ik rw' ps vl aH _ nj:=wu.fr (fun a ob e z=>IZ _ _ (kW z e)) (fun a xs e=>IZ _ _ (MM.2.2 _ _ (by
   obtain⟨ls,hl9⟩:=M4.src.lst
   exact (Vj a (cT e hl9 (by intro z;cases z))).trans e)))
  obtain⟨W',Vb,rv,fin⟩:=(Ea.same IZ).swap afo (IZ _ _ PL) h16 (Po _ _ RN) n16 n15
  refine⟨W',w,VC,aH,_,nj,nj.set sn nw,rfl,Vb,by omega,rv,fun H17 afp afq afr=>?_⟩
  have MP:=fin H17 afp afq afr
  rw[← wG nw sl]at MP
  have apE:(pe++[nj]++[jb nj sn nw]).length=pe.length+2:=by rw[eG,lq8];rfl
  refine⟨_,rfl,_,rfl,U12,W',x,w,_,_,aH,2,_,_,rfl,MP.IT,MP.lst,by omega,by omega,MP.wo,OC,fun H18 s18=>⟨true,rfl,iL ?_⟩⟩
  exact⟨_,_,_,_,_,_,_,_,rfl,U12,W',_,_,_,MP.same s18,by omega,by omega,by rw[eG];simp only[ny,oj];omega,OC⟩
 ·rintro σ H7 ⟨u4,u5,u6,u7,u8,u9,u10,u11,rfl,I7⟩
  exact k H7
end
end jd
namespace jd
open PySem L2 cZ jM zQ N1
set_option maxHeartbeats 4000000 in
theorem all_mk:OW:=by
 intro l w K h mg fa f0 f1 f2 f3 f4 f5 f6 f7 f8 f9 Vx Vy Vz f13 f14 f15 VA f17 f18 f19 f20 f21 WZ f23 f24 f25 f26 f27 f28 f29 f30 f31 f32 f33 f34 f35 f36 f37 f38 f39 f40 f41 f42 f43 f44 f45 f46 f47 f48 f49 f50 f51 f52 f53 f54 f55 f56 f57 f58 f59 f60 f61 f62 f63 f64 f65 f66 f67 f68 f69 f70 f71 f72 f73 f74 f75 f76 f77 f78 f79 f80 f81 f82 f83 b9 ef gU um ya aI C0 m5 n8 n9 qy uo uq EA X G hfa HY ur rM Ld yb vN sE HZ uu Le yc yd Lf zB BH uv sF sG sH ux uy q0 q1 q2 q3 q4 q5 q6 q7 q8 q9 uz NC VB Qu Qv Qw VC q17 q18 q19 q20 q21 q22 q23 q24 q25 q26 q27 q28 q29 q30 q31 q32 q33 q34 q35 q36 q37 q38 q39 q40 q41 q42 q43 q44 q45 q46 q47 q48 q49 q50 q51 q52 q53 q54 q55 q56 q57 q58 q59 q60 q61 q62 q63 q64 q65 q66 q67 q68 q69 q70 q71 q72 q73 q74 q75 q76 q77 q78 q79 q80 q81 q82 q83 z0 z1 z2 z3 z4 z5 z6 z7 z8 z9 z10 z11 z12 e0 EB BI BJ EC uA uB ED vO uC
 obtain⟨al,ll,cl,kl⟩:=q83
 have e:=hfa.symm.trans (PySem.W.mg_of X G al)
 cases e
 have F:=GA (st:=NB) ll cl kl
 obtain⟨_,D0⟩:=q0.d (ps:=["_law_script"]) X G (fun _ _ _ _ _ _=>xu fun _=>rfl)
 obtain⟨_,D1⟩:=q1.d (ps:=["_law_src_here","_law_base"]) X G (fun _ _ _ _ _ _=>tY fun _ _=>rfl)
 obtain⟨_,D2⟩:=q2.d (ps:=["_law_found"]) X G (fun _ _ _ _ _ _=>xu fun _=>rfl)
 obtain⟨_,D3⟩:=q3.d (ps:=["_law_found","_law_due"]) X G (fun _ _ _ _ _ _=>tY fun _ _=>rfl)
 obtain⟨_,D4⟩:=q4.d (ps:=["row"]) X G (fun _ _ _ _ _ _=>xu fun _=>rfl)
 obtain⟨_,D5⟩:=q5.d (ps:=["row"]) X G (fun _ _ _ _ _ _=>xu fun _=>rfl)
 obtain⟨_,D6⟩:=q6.d (ps:=["row","start","stop"]) X G (fun _ _ _ _ _ _=>Ir fun _ _ _=>rfl)
 obtain⟨_,D7⟩:=q7.d (ps:=["row","start","stop"]) X G (fun _ _ _ _ _ _=>Ir fun _ _ _=>rfl)
 obtain⟨_,D8⟩:=q8.d (ps:=["row","start","stop"]) X G (fun _ _ _ _ _ _=>Ir fun _ _ _=>rfl)
 obtain⟨_,D9⟩:=q9.d (ps:=["row"]) X G (fun _ _ _ _ _ _=>xu fun _=>rfl)
 obtain⟨_,D10⟩:=uz.d (ps:=["holes","start"]) X G (fun _ _ _ _ _ _=>tY fun _ _=>rfl)
 obtain⟨_,D11⟩:=NC.d (ps:=["holes","address"]) X G (fun _ _ _ _ _ _=>tY fun _ _=>rfl)
 obtain⟨_,D12⟩:=VB.d (ps:=["self"]) (fun _ _ _ _ _ _=>xu fun _=>rfl)
 obtain⟨_,D13⟩:=Qu.d (ps:=["self","address"]) (fun _ _ _ _ _ _=>tY fun _ _=>rfl)
 obtain⟨_,D14⟩:=Qv.d (ps:=["items"]) X G (fun _ _ _ _ _ _=>xu fun _=>rfl)
 obtain⟨_,D15⟩:=Qw.d (ps:=["rows","sheets"]) X G (fun _ _ _ _ _ _=>tY fun _ _=>rfl)
 obtain⟨_,D16⟩:=VC.d (ps:=["rows","start","goal"]) X G (fun _ _ _ _ _ _=>Ir fun _ _ _=>rfl)
 obtain⟨_,D17⟩:=q17.d (ps:=["rows","sheet"]) X G (fun _ _ _ _ _ _=>tY fun _ _=>rfl)
 obtain⟨_,D18⟩:=q18.d (ps:=["item","weights"]) X G (fun _ _ _ _ _ _=>tY fun _ _=>rfl)
 obtain⟨_,D19⟩:=q19.d (ps:=["rows","sheets"]) X G (fun _ _ _ _ _ _=>tY fun _ _=>rfl)
 obtain⟨_,D20⟩:=q20.d (ps:=["item","views"]) X G (fun _ _ _ _ _ _=>tY fun _ _=>rfl)
 obtain⟨_,D21⟩:=q21.d (ps:=["rows","sheets"]) X G (fun _ _ _ _ _ _=>tY fun _ _=>rfl)
 obtain⟨_,D22⟩:=q22.d (ps:=["rows","sheet"]) X G (fun _ _ _ _ _ _=>tY fun _ _=>rfl)
 obtain⟨_,D23⟩:=q23.d (ps:=["one","other"]) X G (fun _ _ _ _ _ _=>tY fun _ _=>rfl)
 obtain⟨_,D24⟩:=q24.d (ps:=["items"]) X G (fun _ _ _ _ _ _=>xu fun _=>rfl)
 obtain⟨_,D25⟩:=q25.d (ps:=["row"]) X G (fun _ _ _ _ _ _=>xu fun _=>rfl)
 obtain⟨_,D26⟩:=q26.d (ps:=["items","views"]) X G (fun _ _ _ _ _ _=>tY fun _ _=>rfl)
 obtain⟨_,D27⟩:=q27.d (ps:=["items","views","place","others"]) X G (fun _ _ _ _ _ _=>QO fun _ _ _ _=>rfl)
 obtain⟨_,D28⟩:=q28.d (ps:=["rows","sheet","place","items"]) X G (fun _ _ _ _ _ _=>QO fun _ _ _ _=>rfl)
 obtain⟨_,D29⟩:=q29.d (ps:=["items","views","start","stop"]) X G (fun _ _ _ _ _ _=>QO fun _ _ _ _=>rfl)
 obtain⟨_,D30⟩:=q30.d (ps:=["rows","sheet","start","stop"]) X G (fun _ _ _ _ _ _=>QO fun _ _ _ _=>rfl)
 obtain⟨_,D31⟩:=q31.d (ps:=["row"]) X G (fun _ _ _ _ _ _=>xu fun _=>rfl)
 obtain⟨_,D32⟩:=q32.d (ps:=["deed"]) X G (fun _ _ _ _ _ _=>xu fun _=>rfl)
 obtain⟨_,D33⟩:=q33.d (ps:=["state","sheet","items"]) X G (fun _ _ _ _ _ _=>Ir fun _ _ _=>rfl)
 obtain⟨_,D34⟩:=q34.d (ps:=["self"]) (fun _ _ _ _ _ _=>xu fun _=>rfl)
 obtain⟨_,D35⟩:=q35.d (ps:=["self"]) (fun _ _ _ _ _ _=>xu fun _=>rfl)
 obtain⟨_,D36⟩:=q36.d (ps:=["self"]) (fun _ _ _ _ _ _=>xu fun _=>rfl)
 obtain⟨_,D37⟩:=q37.d (ps:=["self","changes"]) (fun _ _ _ _ _ _=>tY fun _ _=>rfl)
 obtain⟨_,D38⟩:=q38.d (ps:=["self","sheet"]) (fun _ _ _ _ _ _=>tY fun _ _=>rfl)
 obtain⟨_,D39⟩:=q39.d (ps:=["self","moment"]) (fun _ _ _ _ _ _=>tY fun _ _=>rfl)
 obtain⟨_,D40⟩:=q40.d (ps:=["self","moment"]) (fun _ _ _ _ _ _=>tY fun _ _=>rfl)
 obtain⟨_,D41⟩:=q41.d (ps:=["self"]) (fun _ _ _ _ _ _=>xu fun _=>rfl)
 obtain⟨_,D42⟩:=q42.d (ps:=["self","sheet"]) (fun _ _ _ _ _ _=>tY fun _ _=>rfl)
 obtain⟨_,D43⟩:=q43.d (ps:=["self"]) (fun _ _ _ _ _ _=>xu fun _=>rfl)
 obtain⟨_,D44⟩:=q44.d (ps:=["self"]) (fun _ _ _ _ _ _=>xu fun _=>rfl)
 obtain⟨_,D45⟩:=q45.d (ps:=["self"]) (fun _ _ _ _ _ _=>xu fun _=>rfl)
 obtain⟨_,D46⟩:=q46.d (ps:=["self"]) (fun _ _ _ _ _ _=>xu fun _=>rfl)
 obtain⟨_,D47⟩:=q47.d (ps:=["self","hand","text"]) (fun _ _ _ _ _ _=>Ir fun _ _ _=>rfl)
 obtain⟨_,D48⟩:=q48.d (ps:=["self","address"]) (fun _ _ _ _ _ _=>tY fun _ _=>rfl)
 obtain⟨_,D49⟩:=q49.d (ps:=["self","address"]) (fun _ _ _ _ _ _=>tY fun _ _=>rfl)
 obtain⟨_,D50⟩:=q50.d (ps:=["self","row"]) (fun _ _ _ _ _ _=>tY fun _ _=>rfl)
 obtain⟨_,D51⟩:=q51.d (ps:=["rows","sheet"]) X G (fun _ _ _ _ _ _=>tY fun _ _=>rfl)
 obtain⟨_,D52⟩:=q52.d (ps:=["self"]) (fun _ _ _ _ _ _=>xu fun _=>rfl)
 obtain⟨_,D53⟩:=q53.d (ps:=["self","deed","changes"]) (fun _ _ _ _ _ _=>Ir fun _ _ _=>rfl)
 obtain⟨_,D54⟩:=q54.d (ps:=["self","deed","sheet","items"]) (fun _ _ _ _ _ _=>QO fun _ _ _ _=>rfl)
 obtain⟨_,D55⟩:=q55.d (ps:=["self"]) (fun _ _ _ _ _ _=>xu fun _=>rfl)
 obtain⟨_,D56⟩:=q56.d (ps:=["self"]) (fun _ _ _ _ _ _=>xu fun _=>rfl)
 obtain⟨_,D57⟩:=q57.d (ps:=["self","deed","items"]) (fun _ _ _ _ _ _=>Ir fun _ _ _=>rfl)
 obtain⟨_,D58⟩:=q58.d (ps:=["self"]) (fun _ _ _ _ _ _=>xu fun _=>rfl)
 obtain⟨_,D59⟩:=q59.d (ps:=["self"]) (fun _ _ _ _ _ _=>xu fun _=>rfl)
 obtain⟨_,D60⟩:=q60.d (ps:=["self","row"]) (fun _ _ _ _ _ _=>tY fun _ _=>rfl)
 obtain⟨_,D61⟩:=q61.d (ps:=["self","hand","text"]) (fun _ _ _ _ _ _=>Ir fun _ _ _=>rfl)
 obtain⟨_,D62⟩:=q62.d (ps:=["self","sheet","place","row"]) (fun _ _ _ _ _ _=>QO fun _ _ _ _=>rfl)
 obtain⟨_,D63⟩:=q63.d (ps:=["self","sheet"]) (fun _ _ _ _ _ _=>tY fun _ _=>rfl)
 obtain⟨_,D64⟩:=q64.d (ps:=["self","row","veil"]) (fun _ _ _ _ _ _=>Ir fun _ _ _=>rfl)
 obtain⟨_,D65⟩:=q65.d (ps:=["self","sheet"]) (fun _ _ _ _ _ _=>tY fun _ _=>rfl)
 obtain⟨_,D66⟩:=q66.d (ps:=["self","sheet"]) (fun _ _ _ _ _ _=>tY fun _ _=>rfl)
 obtain⟨_,D67⟩:=q67.d (ps:=["self","sheet","start","stop"]) (fun _ _ _ _ _ _=>QO fun _ _ _ _=>rfl)
 obtain⟨_,D68⟩:=q68.d (ps:=["self","target","place","source","start","stop"]) (fun _ _ _ _ _ _=>us6 fun _ _ _ _ _ _=>rfl)
 obtain⟨_,D69⟩:=q69.d (ps:=["self","sheet"]) (fun _ _ _ _ _ _=>tY fun _ _=>rfl)
 obtain⟨_,D70⟩:=q70.d (ps:=["_law_src_here","_law_few"]) X G (fun _ _ _ _ _ _=>tY fun _ _=>rfl)
 obtain⟨_,D71⟩:=q71.d (ps:=["_law_src_here","_law_many"]) X G (fun _ _ _ _ _ _=>tY fun _ _=>rfl)
 obtain⟨_,D72⟩:=q72.d (ps:=[]) X G (fun _ _ _ _ _ _=>us0 rfl)
 obtain⟨_,D73⟩:=q73.d (ps:=["_law_world_here","_law_rows"]) X G (fun _ _ _ _ _ _=>tY fun _ _=>rfl)
 obtain⟨_,D74⟩:=q74.d (ps:=["_law_src_here","_law_world_here","_law_house"]) X G (fun _ _ _ _ _ _=>Ir fun _ _ _=>rfl)
 obtain⟨_,D75⟩:=q75.d (ps:=["_law_world_here","_law_house"]) X G (fun _ _ _ _ _ _=>tY fun _ _=>rfl)
 obtain⟨_,D76⟩:=q76.d (ps:=["_law_src_here","_law_world_here","_law_house"]) X G (fun _ _ _ _ _ _=>Ir fun _ _ _=>rfl)
 obtain⟨_,D77⟩:=q77.d (ps:=["_law_numbers"]) X G (fun _ _ _ _ _ _=>xu fun _=>rfl)
 obtain⟨_,D78⟩:=q78.d (ps:=["_law_entries"]) X G (fun _ _ _ _ _ _=>xu fun _=>rfl)
 obtain⟨_,D79⟩:=q79.d (ps:=["_law_row"]) X G (fun _ _ _ _ _ _=>xu fun _=>rfl)
 obtain⟨_,D80⟩:=q80.d (ps:=["_law_rows","_law_sheet","_law_entries"]) X G (fun _ _ _ _ _ _=>Ir fun _ _ _=>rfl)
 obtain⟨_,D81⟩:=q81.d (ps:=["_law_world_here","_law_house"]) X G (fun _ _ _ _ _ _=>tY fun _ _=>rfl)
 obtain⟨_,D82⟩:=q82.d (ps:=["_law_src_here","_law_world_here","_law_house"]) X G (fun _ _ _ _ _ _=>Ir fun _ _ _=>rfl)
 have T:pG mg:=⟨PySem.W.mg_none_of X G z0,PySem.W.mg_none_of X G z1,PySem.W.mg_none_of X G z2,PySem.W.mg_none_of X G z3,PySem.W.mg_none_of X G z4,PySem.W.mg_none_of X G z5,PySem.W.mg_none_of X G z6,PySem.W.mg_none_of X G z7,PySem.W.mg_none_of X G z8,PySem.W.mg_none_of X G z9,PySem.W.mg_none_of X G z10,PySem.W.mg_none_of X G z11,PySem.W.mg_none_of X G z12,fun f e=>(D5.m).symm.trans e ▸ PySem.W.mg_of X G vO,fun f e=>(D22.m).symm.trans e ▸ PySem.W.mg_of X G uC⟩
 have Gb:Wd mg:=⟨⟨_,PySem.W.mg_of X G uA⟩,⟨_,PySem.W.mg_of X G uB⟩,⟨_,PySem.W.mg_of X G ED⟩⟩
 obtain⟨ea,eb,ec⟩:=e0
 have Z:ExcAt K mg C0:=⟨PySem.W.mg_of X G ea,eb,ec⟩
 exact⟨_,fun s v=>.of_eq rfl,fun base _ _=>RB F T Gb Z (EB.d X G) (BI.d X G) (BJ.d X G) (EC.d X G) D0 D1 D2 D3 D4 D5 D6 D7 D8 D9 D10 D11 D12 D13 D14 D15 D16 D17 D18 D19 D20 D21 D22 D23 D24 D25 D26 D27 D28 D29 D30 D31 D32 D33 D34 D35 D36 D37 D38 D39 D40 D41 D42 D43 D44 D45 D46 D47 D48 D49 D50 D51 D52 D53 D54 D55 D56 D57 D58 D59 D60 D61 D62 D63 D64 D65 D66 D67 D68 D69 D70 D71 D72 D73 D74 D75 D76 D77 D78 D79 D80 D81 D82 (HY.d X G D34.mt) ur rM (Ld.d X G D45.mt) yb vN sE (HZ.d X G D12.mt) uu (Le.d X G D43.mt) yc yd (Lf.d X G D44.mt) zB (BH.d X G D52.mt) uv sF sG sH ux uy⟩
end jd
theorem PySem.Challenge.cw_inkroot_k36_quotes_stand_holds : PySem.Challenge.rw_inkroot_k36_quotes_stand.Holds :=
 InkHd.hd2 jd.all_mk
