import PyProof.Rows.All
import Wide.All
import OpenK.AllK
import Wide.FinOn
import Lean
import PyProof.EqAt
import PyProof.EqKinds
import PyProof.TupleCall
import PySem.Challenge.RW_inkroot_k23_all_moments_kept
set_option Elab.async false
set_option linter.all false
set_option maxRecDepth 100000
/-! THE HAND LAYER, for ints, bools, texts, own classes, LISTS and tuples (index, slices, in, append, pop ..), calls, loops. Paste it whole ahead of your own text; what your proof does not reach may be deleted. -/
namespace L2
open PySem PySem.Spec PyProof.Rows

/-- a key: an int or a str -/
abbrev Key := Sum Int Str
def keyIs : Key → Value → Bool
  | .inl k, v => Value.isInt k v
  | .inr x, v => Value.isStrOf x v
def keyH (w : World) : Key → Int
  | .inl k => hashInt k
  | .inr x => hashStr w x
theorem keyIs_shape : ∀ {k : Key} {v : Value}, keyIs k v = true → (∃ i t, k = Sum.inl i ∧ v = Value.int i t) ∨ (∃ x t, k = Sum.inr x ∧ v = Value.str x t)
  | .inl i, v, h => by
    obtain ⟨t, e⟩ := Value.isInt_shape (k := i) (v := v) h
    exact .inl ⟨i, t, rfl, e⟩
  | .inr x, v, h => by
    obtain ⟨t, e⟩ := Value.isStrOf_shape (x := x) (v := v) h
    exact .inr ⟨x, t, rfl, e⟩
theorem key_ll (a b : Int) : decide ((Sum.inl a : Key) = Sum.inl b) = (a == b) := by
  by_cases e : a = b
  · subst e; simp
  · have h : ¬ (Sum.inl a : Key) = Sum.inl b := fun q => e (Sum.inl.inj q)
    rw [decide_eq_false h]
    exact (beq_eq_false_iff_ne.mpr e).symm
theorem key_rr (a b : Str) : decide ((Sum.inr a : Key) = Sum.inr b) = decide (a = b) := by
  by_cases e : a = b
  · subst e; simp
  · have h : ¬ (Sum.inr a : Key) = Sum.inr b := fun q => e (Sum.inr.inj q)
    rw [decide_eq_false h, decide_eq_false e]
theorem key_lr (a : Int) (b : Str) : decide ((Sum.inl a : Key) = Sum.inr b) = false := decide_eq_false (fun q => nomatch q)
theorem key_rl (a : Str) (b : Int) : decide ((Sum.inr a : Key) = Sum.inl b) = false := decide_eq_false (fun q => nomatch q)

def mixKind (prog : Program) (w : World) : PySem.KeyKind prog w Key where
  is := keyIs
  hash := keyH w
  inj := fun v a b ha hb => by
    rcases keyIs_shape ha with ⟨i, t, rfl, rfl⟩ | ⟨x, t, rfl, rfl⟩
    · rcases keyIs_shape hb with ⟨j, u, rfl, e⟩ | ⟨y, u, rfl, e⟩
      · injection e with e1 _; rw [e1]
      · exact nomatch e
    · rcases keyIs_shape hb with ⟨j, u, rfl, e⟩ | ⟨y, u, rfl, e⟩
      · exact nomatch e
      · injection e with e1 _; rw [e1]
  byValue := fun k v h => by
    rcases keyIs_shape h with ⟨i, t, rfl, rfl⟩ | ⟨x, t, rfl, rfl⟩ <;> rfl
  pyHash := fun hv h => by
    rcases keyIs_shape hv with ⟨i, t, rfl, rfl⟩ | ⟨x, t, rfl, rfl⟩
    · exact wpAny_pyHash_int h
    · exact wpAny_pyHash_str h
  eqBool := fun hu hv h => by
    rcases keyIs_shape hu with ⟨i, t, rfl, rfl⟩ | ⟨x, t, rfl, rfl⟩
    · rcases keyIs_shape hv with ⟨j, u, rfl, rfl⟩ | ⟨y, u, rfl, rfl⟩
      · rw [key_ll] at h; exact wpAny_eqBool_int h
      · rw [key_lr] at h; exact SeqAt.EqAt.int_str i t y u _ _ _ _ h
    · rcases keyIs_shape hv with ⟨j, u, rfl, rfl⟩ | ⟨y, u, rfl, rfl⟩
      · rw [key_rl] at h; exact SeqAt.EqAt.str_int x t j u _ _ _ _ h
      · rw [key_rr] at h; exact wpAny_eqBool_str h
  «strs» := fun k x t v h => by
    rcases keyIs_shape h with ⟨i, u, rfl, e⟩ | ⟨y, u, rfl, e⟩
    · exact nomatch e
    · injection e with e1 _
      subst e1
      cases v <;> rfl

end L2

namespace L2
open PySem PySem.Spec PyProof.Rows

/-- a value, without the heap -/
inductive V where
  | non | bl (b : Bool) | int (i : Int) | str (x : Str) | byt (b : Array UInt8) | flt (b : UInt64) | ref (a : Addr) | ty (n : String)
  deriving DecidableEq

def RelV : V → Value → Prop
  | .non, u => u = Value.none
  | .bl b, u => u = Value.bool b
  | .int i, u => ∃ t, u = Value.int i t
  | .str x, u => ∃ t, u = Value.str x t
  | .byt b, u => ∃ t, u = Value.bytes b t
  | .flt b, u => ∃ t, u = Value.float b t
  | .ref a, u => u = Value.ref a
  | .ty n, u => u = Value.type n

abbrev Vals : List V → List Value → Prop := Paired RelV
theorem Vals.length {xs : List V} {us : List Value} (r : Vals xs us) : xs.length = us.length := Paired.length r
theorem Vals.get : ∀ {xs : List V} {us : List Value} {i : Nat} {x : V}, Vals xs us → xs[i]? = some x → ∃ u, us[i]? = some u ∧ RelV x u
  | _, _, _, _, .nil, e => by simp at e
  | _, _, 0, _, .cons r _, e => by simp at e; subst e; exact ⟨_, rfl, r⟩
  | _, _, i + 1, x, .cons _ t, e => by
    obtain ⟨u, h1, h2⟩ := Vals.get (i := i) (x := x) t (by simpa using e)
    exact ⟨u, by simpa using h1, h2⟩
theorem Vals.set {x : V} {u : Value} (r : RelV x u) : ∀ {xs : List V} {us : List Value} (i : Nat), Vals xs us → Vals (xs.set i x) (us.set i u)
  | _, _, _, .nil => .nil
  | _, _, 0, .cons _ t => .cons r t
  | _, _, i + 1, .cons q t => .cons q (Vals.set r i t)
theorem Vals.append : ∀ {xs ys : List V} {us ws : List Value}, Vals xs us → Vals ys ws → Vals (xs ++ ys) (us ++ ws)
  | _, _, _, _, .nil, s => s
  | _, _, _, _, .cons r t, s => .cons r (Vals.append t s)
theorem Vals.take : ∀ {xs : List V} {us : List Value} (n : Nat), Vals xs us → Vals (xs.take n) (us.take n)
  | _, _, 0, _ => .nil
  | _, _, _ + 1, .nil => .nil
  | _, _, n + 1, .cons r t => .cons r (Vals.take n t)
theorem Vals.drop : ∀ {xs : List V} {us : List Value} (n : Nat), Vals xs us → Vals (xs.drop n) (us.drop n)
  | _, _, 0, r => r
  | _, _, _ + 1, .nil => .nil
  | _, _, n + 1, .cons _ t => Vals.drop n t
theorem Vals.none_of : ∀ {xs : List V} {us : List Value} {i : Nat}, Vals xs us → xs[i]? = none → us[i]? = none := fun {xs us i} r e => by
  have h1 := r.length
  have h2 : xs.length ≤ i := List.getElem?_eq_none_iff.mp e
  exact List.getElem?_eq_none_iff.mpr (by omega)

def RelO : Option V → Option Value → Prop
  | some v, some u => RelV v u
  | none, none => True
  | _, _ => False
def KV {κ : Type} : List (κ × V) → List (κ × Value) → Prop := Paired fun (p : κ × V) (q : κ × Value) => p.1 = q.1 ∧ RelV p.2 q.2

/-- a key of a dict (00_mix): an int or a text -/
def kV : Key → V
  | .inl i => .int i
  | .inr x => .str x

/-- what stands at a tracked address -/
inductive HO where
  /-- a list -/
  | lst (xs : List V)
  /-- a tuple (never changes) -/
  | tup (xs : List V)
  /-- a dict whose keys are ints and texts; one whose keys are tuples of ints and texts (the empty one is both) -/
  | dK (kvs : List (Key × V)) | dT (kvs : List (List Key × V))
  /-- a set of ints: its members, its size -/
  | set (S : Int → Bool) (n : Nat)
  /-- an instance of the class at C, its dict at dx, its attributes -/
  | ins (C dx : Addr) (fs : List (Str × V))
  /-- the dict of the instance at x -/
  | own (x : Addr)
  /-- the dict of an exception -/
  | xd (fs : List (Str × V))
  /-- a bound method, f of x -/
  | met (f x : Addr)
  /-- a range object lo, lo + 1, .. below hi -/
  | rng (lo hi : Int)
  /-- a thing that is known to the object (the script; a dict while a loop walks it): read, never written while it is so -/
  | frz (o : Obj) (u : HO)
  /-- a code object's table -/
  | tbl (ps : Array Value)
  /-- any other thing, by what is true of its one object (a def of one's own: SetO a S n := HO.ext fun h => ..) -/
  | ext (φ : Heap → Prop)

abbrev Hp := Addr → Option HO
def upd (H : Hp) (a : Addr) (o : HO) : Hp := fun b => if b = a then some o else H b
theorem upd_same {H : Hp} {a : Addr} {o : HO} : upd H a o a = some o := by unfold upd; rw [if_pos rfl]
theorem upd_ne {H : Hp} {a b : Addr} {o : HO} (h : b ≠ a) : upd H a o b = H b := by unfold upd; rw [if_neg h]
/-- two objects of different content stand apart -/
theorem ne_of {H : Hp} {a b : Addr} {o u : HO} (h : H a = some o) (h' : H b = some u) (d : o ≠ u) : a ≠ b := by
  intro e; subst e; rw [h] at h'; exact d (Option.some.inj h')
theorem ne_of_none {H : Hp} {a b : Addr} {o : HO} (h : H a = some o) (h' : H b = none) : a ≠ b := by
  intro e; subst e; rw [h] at h'; cases h'

section
variable (P : Program) (w : World)
def ObjOk (H : Hp) (h : Heap) (a : Addr) : HO → Prop
  | .lst xs => xs.length ≤ sizeLine ∧ ∃ (its : List Value) (n : Nat), Vals xs its ∧ h.get? a = some { cls := .type "list", data := .seq its.toArray n }
  | .tup xs => xs.length ≤ sizeLine ∧ ∃ its : List Value, Vals xs its ∧ IsTup h a its.toArray
  | .dK kvs => kvs.length ≤ sizeLine ∧ (a == sysModules) = false ∧ ∃ vs, KV kvs vs ∧ h.DictOf (mixKind P w) a vs
  | .dT kvs => kvs.length ≤ sizeLine ∧ (a == sysModules) = false ∧ ∃ xs : List (List Key × Addr × Value),
      Paired (fun (p : List Key × V) (q : List Key × Addr × Value) => p.1 = q.1 ∧ H q.2.1 = some (.tup (p.1.map kV)) ∧ RelV p.2 q.2.2) kvs xs ∧
      ∃ o es ep, h.get? a = some o ∧ o.ExactDict ∧ o.data = .dict es ep ∧ es.toList = xs.map (entryOfKey (tupleKind (mixKind P w))) ∧ (xs.map (·.1)).Nodup
  | .set S n => h.SetOf (intKind P w) a S n
  | .ins C dx fs => H dx = some (.own a) ∧ fs.length ≤ 1000 ∧ dx ≠ a ∧ h.get? a = some (PySem.W.instObj C dx) ∧
      ∃ mA, h.Ns1 dx mA ∧ (∀ f, RelO (fs.lookup f) (mA f)) ∧ PySem.Within mA (fs.map (·.1))
  | .own _ => ∃ o, h.get? a = some o
  | .xd fs => ∃ mA, h.Ns1 a mA ∧ ∀ f, RelO (fs.lookup f) (mA f)
  | .rng lo hi => ∃ t u v, h.get? a = some { cls := .type "range", data := .fields #[.int lo t, .int hi u, .int 1 v] }
  | .frz o u => h.get? a = some o ∧ ObjOk H h a u
  | .tbl ps => h.get? a = some { cls := .none, data := .fields ps }
  | .met f x => h.get? a = some (PySem.W.methodObj (.ref f) (.ref x))
  | .ext φ => φ h ∧ (∃ o, h.get? a = some o) ∧ ∀ h1 h2 : Heap, φ h1 → (∀ o, h1.get? a = some o → h2.get? a = some o) → φ h2
/-- the abstract heap is held -/
def HOk (H : Hp) (h : Heap) : Prop := ∀ a o, H a = some o → ObjOk P w H h a o
end

section
variable {P : Program} {w : World} {H H' : Hp} {h h' : Heap} {a : Addr} {o : HO}
theorem ObjOk.lt (x : ObjOk P w H h a o) : a < h.objs.size := by
  cases o with
  | lst xs => obtain ⟨_, _, _, _, e⟩ := x; exact Heap.lt_size e
  | tup xs => obtain ⟨_, _, _, p⟩ := x; exact p.lt
  | dK kvs => obtain ⟨_, _, _, _, o, _, _, e, _⟩ := x; exact Heap.lt_size e
  | dT kvs => obtain ⟨_, _, _, _, o, _, _, e, _⟩ := x; exact Heap.lt_size e
  | set S n => obtain ⟨o, _, _, _, e, _⟩ := x; exact Heap.lt_size e
  | ins C dx fs => obtain ⟨_, _, _, e, _⟩ := x; exact Heap.lt_size e
  | own y => obtain ⟨_, e⟩ := x; exact Heap.lt_size e
  | xd fs => obtain ⟨_, ⟨_, _, _, e, _⟩, _⟩ := x; exact Heap.lt_size e
  | rng lo hi => obtain ⟨_, _, _, e⟩ := x; exact Heap.lt_size e
  | frz ob u => obtain ⟨e, _⟩ := x; exact Heap.lt_size e
  | tbl ps => exact Heap.lt_size (show h.get? a = some _ from x)
  | met f y => exact Heap.lt_size (show h.get? a = some _ from x)
  | ext φ => obtain ⟨_, ⟨_, e⟩, _⟩ := x; exact Heap.lt_size e
theorem Paired.mapP {α β : Type} {F G : α → β → Prop} : ∀ {l₁ : List α} {l₂ : List β}, Paired F l₁ l₂ → (∀ a b, F a b → G a b) → Paired G l₁ l₂
  | _, _, .nil, _ => .nil
  | _, _, .cons r t, f => .cons (f _ _ r) (Paired.mapP t f)
/-- what an object's description leans on: its own object, its own dict, the tuples -/
theorem ObjOk.stay (x : ObjOk P w H h a o) (k : ∀ b u, (b = a ∨ H b = some (.own a)) → h.get? b = some u → h'.get? b = some u)
    (ho : ∀ b, H b = some (.own a) → H' b = some (.own a)) (ht : ∀ b xs, H b = some (.tup xs) → H' b = some (.tup xs)) : ObjOk P w H' h' a o := by
  induction o with
  | lst xs => obtain ⟨z, its, n, r, e⟩ := x; exact ⟨z, its, n, r, k _ _ (.inl rfl) e⟩
  | tup xs => obtain ⟨z, its, r, ob, e, c⟩ := x; exact ⟨z, its, r, ob, k _ _ (.inl rfl) e, c⟩
  | dK kvs => obtain ⟨z, y, vs, r, ob, es, ep, e, c⟩ := x; exact ⟨z, y, vs, r, ob, es, ep, k _ _ (.inl rfl) e, c⟩
  | dT kvs =>
    obtain ⟨z, y, xs, r, ob, es, ep, e, c⟩ := x
    exact ⟨z, y, xs, Paired.mapP r fun p q z => ⟨z.1, ht _ _ z.2.1, z.2.2⟩, ob, es, ep, k _ _ (.inl rfl) e, c⟩
  | set S n => obtain ⟨ob, es, ep, t, e, c⟩ := x; exact ⟨ob, es, ep, t, k _ _ (.inl rfl) e, c⟩
  | ins C dx fs =>
    obtain ⟨d, z, ne, e, mA, ⟨od, es, ep, e2, c⟩, r⟩ := x
    exact ⟨ho _ d, z, ne, k _ _ (.inl rfl) e, mA, ⟨od, es, ep, k _ _ (.inr d) e2, c⟩, r⟩
  | own y => obtain ⟨ob, e⟩ := x; exact ⟨ob, k _ _ (.inl rfl) e⟩
  | xd fs => obtain ⟨mA, ⟨od, es, ep, e, c⟩, r⟩ := x; exact ⟨mA, ⟨od, es, ep, k _ _ (.inl rfl) e, c⟩, r⟩
  | rng lo hi => obtain ⟨t, u, v, e⟩ := x; exact ⟨t, u, v, k _ _ (.inl rfl) e⟩
  | frz ob u ih => obtain ⟨e, q⟩ := x; exact ⟨k _ _ (.inl rfl) e, ih q⟩
  | tbl ps =>
    have e : h.get? a = some { cls := .none, data := .fields ps } := x
    show h'.get? a = some { cls := .none, data := .fields ps }
    exact k a _ (.inl rfl) e
  | met f y =>
    have e : h.get? a = some (PySem.W.methodObj (.ref f) (.ref y)) := x
    show h'.get? a = some (PySem.W.methodObj (.ref f) (.ref y))
    exact k a _ (.inl rfl) e
  | ext φ => obtain ⟨p, ⟨o, e⟩, st⟩ := x; exact ⟨st _ _ p fun o q => k _ _ (.inl rfl) q, ⟨o, k _ _ (.inl rfl) e⟩, st⟩
theorem HOk.lt (x : HOk P w H h) (e : H a = some o) : a < h.objs.size := (x a o e).lt
theorem HOk.fresh (x : HOk P w H h) (e : h.objs.size ≤ a) : H a = none := by
  cases q : H a with
  | none => rfl
  | some u => exact absurd (Nat.lt_of_lt_of_le (x.lt q) e) (Nat.lt_irrefl _)
/-- every object of the heap is kept -/
theorem HOk.kept (x : HOk P w H h) (k : ∀ b u, h.get? b = some u → h'.get? b = some u) : HOk P w H h' := fun a o e =>
  (x a o e).stay (fun b u _ q => k b u q) (fun _ q => q) fun _ _ q => q
/-- a new object is laid and tracked -/
theorem HOk.laid (x : HOk P w H h) (k : ∀ b u, h.get? b = some u → h'.get? b = some u) (hp : h.objs.size ≤ a) (new : ObjOk P w (upd H a o) h' a o) : HOk P w (upd H a o) h' := fun b u e => by
  have hn := x.fresh hp
  by_cases hb : b = a
  · subst hb; rw [upd_same] at e; cases e; exact new
  · rw [upd_ne hb] at e
    exact (x b u e).stay (fun c v _ q => k c v q) (fun c q => by rw [upd_ne (ne_of_none q hn)]; exact q) fun c xs q => by rw [upd_ne (ne_of_none q hn)]; exact q
end

/-- what may be read as u: it is u, or a known u -/
def Rd (H : Hp) (a : Addr) (u : HO) : Prop := H a = some u ∨ ∃ o, H a = some (.frz o u)
theorem Rd.of {H : Hp} {a : Addr} {u : HO} (h : H a = some u) : Rd H a u := .inl h
theorem Rd.ok {P : Program} {w : World} {H : Hp} {h : Heap} {a : Addr} {u : HO} (r : Rd H a u) (x : HOk P w H h) : ObjOk P w H h a u := by
  rcases r with r | ⟨o, r⟩
  · exact x a u r
  · obtain ⟨_, q⟩ := x a _ r
    exact q
/-- what may be written -/
def Mut : Option HO → Prop
  | some (.lst _) => True
  | some (.dK _) => True
  | some (.dT _) => True
  | some (.set _ _) => True
  | some (.ins _ _ _) => True
  | some (.ext _) => True
  | _ => False
section
variable {P : Program} {w : World} {H : Hp} {h h' : Heap} {x e : Addr} {o' : HO}
/-- the object at e is changed: x itself, or the dict of the instance x -/
theorem HOk.write (ok : HOk P w H h) (mu : Mut (H x)) (he : e = x ∨ H e = some (.own x)) (k : ∀ b u, b ≠ e → h.get? b = some u → h'.get? b = some u) (heo : ∃ u, h'.get? e = some u)
    (new : ObjOk P w (upd H x o') h' x o') : HOk P w (upd H x o') h' := fun b u q => by
  have nown : ∀ c y, H c = some (.own y) → c ≠ x := fun c y r z => by subst z; rw [r] at mu; exact mu
  have ntup : ∀ c xs, H c = some (.tup xs) → c ≠ x := fun c xs r z => by subst z; rw [r] at mu; exact mu
  by_cases hb : b = x
  · subst hb; rw [upd_same] at q; cases q; exact new
  · rw [upd_ne hb] at q
    by_cases hbe : b = e
    · have q' : H b = some (.own x) := by
        rcases he with z | z
        · exact absurd (hbe.trans z) hb
        · rw [hbe]; exact z
      rw [q] at q'; cases q'
      obtain ⟨v, hv⟩ := heo
      exact ⟨v, by rw [hbe]; exact hv⟩
    · refine (ok b u q).stay (fun c v hc r => k c v ?_ r) (fun c r => by rw [upd_ne (nown c b r)]; exact r) fun c xs r => by rw [upd_ne (ntup c xs r)]; exact r
      rcases hc with rfl | hc
      · exact hbe
      · rintro rfl
        rcases he with z | z
        · exact nown c b hc z
        · rw [hc] at z; cases z; exact hb rfl
end

/-! ### kept unless tracked; of the frames at fs (the callers') the slots may change (an exception that passes writes there); of the records at ex (iterators) nothing is said -/
structure Un (fs ex : List Addr) (H H' : Hp) (h h' : Heap) : Prop where
  keep : ∀ b o, h.get? b = some o → H b = none → b ∉ fs → b ∉ ex → h'.get? b = some o
  slot : ∀ b o, h.get? b = some o → H b = none → b ∈ fs → b ∉ ex → ∃ sl, h'.get? b = some { o with slots := sl }
  free : ∀ b o, h.get? b = some o → H b = none → b ∉ ex → H' b = none
  there : ∀ b o, h.get? b = some o → b ∉ ex → ∃ o', h'.get? b = some o'
  tups : ∀ b xs, H b = some (.tup xs) → H' b = some (.tup xs)
  frzs : ∀ b o u, H b = some (.frz o u) → H' b = some (.frz o u)
  tbls : ∀ b ps, H b = some (.tbl ps) → ∃ more, H' b = some (.tbl (ps ++ more))
section
variable {fs fs' ex ex' : List Addr} {H H1 H2 : Hp} {h h1 h2 h' : Heap} {a x e : Addr} {o : HO}
theorem Un.any (u : Un fs ex H H1 h h1) {b : Addr} {ob : Obj} (q : h.get? b = some ob) (n : H b = none) (hx : b ∉ ex) : ∃ sl, h1.get? b = some { ob with slots := sl } := by
  by_cases hb : b ∈ fs
  · exact u.slot b ob q n hb hx
  · exact ⟨ob.slots, u.keep b ob q n hb hx⟩
theorem Un.trans (a : Un fs ex H H1 h h1) (b : Un fs ex H1 H2 h1 h2) : Un fs ex H H2 h h2 where
  keep := fun c ob q n hc hx => b.keep c ob (a.keep c ob q n hc hx) (a.free c ob q n hx) hc hx
  slot := fun c ob q n hc hx => by
    obtain ⟨sl, e1⟩ := a.slot c ob q n hc hx
    obtain ⟨sl', e2⟩ := b.slot c _ e1 (a.free c ob q n hx) hc hx
    exact ⟨sl', e2⟩
  free := fun c ob q n hx => by
    obtain ⟨o', e1⟩ := a.there c ob q hx
    exact b.free c o' e1 (a.free c ob q n hx) hx
  there := fun c ob q hx => by
    obtain ⟨o', e1⟩ := a.there c ob q hx
    exact b.there c o' e1 hx
  tups := fun c xs q => b.tups c xs (a.tups c xs q)
  frzs := fun c ob xs q => b.frzs c ob xs (a.frzs c ob xs q)
  tbls := fun c ps q => by
    obtain ⟨m1, e1⟩ := a.tbls c ps q
    obtain ⟨m2, e2⟩ := b.tbls c _ e1
    exact ⟨m1 ++ m2, by rw [e2, Array.append_assoc]⟩
theorem Un.kept (k : ∀ b u, h.get? b = some u → h'.get? b = some u) : Un fs ex H H h h' :=
  ⟨fun b ob q _ _ _ => k b ob q, fun b ob q _ _ _ => ⟨ob.slots, k b ob q⟩, fun _ _ _ n _ => n, fun b ob q _ => ⟨ob, k b ob q⟩, fun _ _ q => q, fun _ _ _ q => q, fun _ ps q => ⟨#[], by rw [q]; simp⟩⟩
theorem Un.refl : Un fs ex H H h h := Un.kept fun _ _ q => q
theorem Un.laid (k : ∀ b u, h.get? b = some u → h'.get? b = some u) (hp : h.objs.size ≤ a) (hn : H a = none) : Un fs ex H (upd H a o) h h' where
  keep := fun b u q _ _ _ => k b u q
  slot := fun b u q _ _ _ => ⟨u.slots, k b u q⟩
  free := fun b u q n _ => by rw [upd_ne (Nat.ne_of_lt (Nat.lt_of_lt_of_le (Heap.lt_size q) hp))]; exact n
  there := fun b u q _ => ⟨u, k b u q⟩
  tups := fun b xs q => by rw [upd_ne (ne_of_none q hn)]; exact q
  frzs := fun b u xs q => by rw [upd_ne (ne_of_none q hn)]; exact q
  tbls := fun b ps q => ⟨#[], by rw [upd_ne (ne_of_none q hn), q]; simp⟩
theorem Un.write (mu : Mut (H x)) (he : e = x ∨ H e = some (.own x)) (k : ∀ b u, b ≠ e → h.get? b = some u → h'.get? b = some u) (heo : ∃ u, h'.get? e = some u) : Un fs ex H (upd H x o) h h' := by
  have hx : ∀ b, H b = none → b ≠ x := fun b n z => by subst z; rw [n] at mu; exact mu
  have hb : ∀ b, H b = none → b ≠ e := fun b n z => by
    subst z
    rcases he with r | r
    · exact hx b n r
    · rw [n] at r; cases r
  have hm : ∀ b u, H b = some u → ¬ Mut (some u) → b ≠ x := fun b u q nm z => by subst z; rw [q] at mu; exact nm mu
  refine ⟨fun b u q n _ _ => k b u (hb b n) q, fun b u q n _ _ => ⟨u.slots, k b u (hb b n) q⟩, fun b u q n _ => by rw [upd_ne (hx b n)]; exact n, fun b u q _ => ?_,
    fun b xs q => by rw [upd_ne (hm b _ q fun z => z)]; exact q, fun b u xs q => by rw [upd_ne (hm b _ q fun z => z)]; exact q, fun b ps q => ⟨#[], by rw [upd_ne (hm b _ q fun z => z), q]; simp⟩⟩
  by_cases hbe : b = e
  · subst hbe; exact heo
  · exact ⟨u, k b u hbe q⟩
theorem Un.mono (u : Un fs ex H H1 h h1) (hs : ∀ b ∈ fs, b ∈ fs') (hx : ∀ b ∈ ex, b ∈ ex') : Un fs' ex' H H1 h h1 :=
  ⟨fun b ob q n hb he => u.keep b ob q n (fun z => hb (hs b z)) fun z => he (hx b z), fun _ _ q n _ he => u.any q n fun z => he (hx _ z), fun b ob q n he => u.free b ob q n fun z => he (hx b z), fun b ob q he => u.there b ob q fun z => he (hx b z), u.tups, u.frzs, u.tbls⟩
end

/-! ### the heap without what is tracked -/
def trk (h : Heap) (H : Hp) : List Addr := (List.range h.objs.size).filter fun a => (H a).isSome
def hidT (h : Heap) (H : Hp) : Heap := PySem.W.hideAll h (trk h H)
theorem hidT_size (h : Heap) (H : Hp) : (hidT h H).objs.size = h.objs.size := PySem.W.hideAll_size _ _
theorem hidT_get {h : Heap} {H : Hp} {b : Addr} {o : Obj} (e : h.get? b = some o) (n : H b = none) : (hidT h H).get? b = some o :=
  PySem.W.hideAll_get _ e fun hm => by
    have q : (H b).isSome = true := (List.mem_filter.mp hm).2
    rw [n] at q; simp at q
theorem of_hidT {h : Heap} {H : Hp} {b : Addr} {o : Obj} (e : (hidT h H).get? b = some o) : h.get? b = some o ∧ H b = none := by
  have e' : h.get? b = some o := PySem.W.of_hideAll (trk h H) e
  refine ⟨e', ?_⟩
  cases q : H b with
  | none => rfl
  | some x =>
    have hm : b ∈ trk h H := List.mem_filter.mpr ⟨List.mem_range.mpr (Heap.lt_size e'), by simp [q]⟩
    have z : (hidT h H).get? b = none := PySem.W.hideAll_none (trk h H) hm
    rw [z] at e; cases e

/-! ### OpenK's ledger, filled with every new object but one -/
def allNews (g h : Heap) (L : Addr) : List (Addr × Obj) := (List.range h.objs.size).filterMap fun a => if a = L ∨ (g.get? a).isSome = true then none else (h.get? a).map fun o => (a, o)
def rest (g h : Heap) (L d : Addr) : List (Addr × Obj) := (allNews g h L).filter fun p => decide (p.1 ≠ d)
end L2

namespace L2
open PySem PySem.Spec PyProof.Rows

/-- the module's facts, over the base: the heap at the law's entry without what is tracked there -/
structure Mod (K : PySem.W.Frag) (mg : Str → Option Value) (base : Heap) : Prop where
  kin : K.In base
  glob : base.Ns mainGlobals mg
  blt : ∃ mb, base.Ns builtinsNs mb ∧ ∀ x : Str, x ≠ "__name__" → mb x = bootBuiltins x
  nolimit : base.NoLimit

/-- the context: a def's body (or a comprehension's block) running. base: fixed through the whole law; s₀, H₀: the entry; outer: the frames whose slots others may change (a def's callers); stack: all frames that run;
   ex: iterators that were made ahead of the entry and are walked here (a comprehension's); fn: the names whose cells were made at the entry (a def: all; a comprehension's block: its own); calm: not within an except suite; pn: pins that every state bears; xe: what is wanted of an exception that leaves the code -/
structure Cx where
  prog : Program
  w : World
  K : PySem.W.Frag
  mg : Str → Option Value
  base : Heap
  A : Around
  N : List Str
  s₀ : Shared
  H₀ : Hp
  env : Env
  outer : List Env
  stack : List Env
  ex : List Addr
  fn : Str → Bool
  calm : Bool
  pn : List (Addr × Obj)
  xe : Value → Shared → Prop
/-- the callers' frames -/
def frs (l : List Env) : List Addr := l.filterMap (·.frame)
abbrev Cx.fs (X : Cx) : List Addr := frs X.outer

def Vis (sc : Scope) (x : Str) : Prop := sc.names.lookup x = some .local ∨ sc.names.lookup x = some .cell ∨ sc.names.lookup x = some .free
def Loc (sc : Scope) (x : Str) : Prop := sc.names.lookup x = some .local ∨ sc.names.lookup x = some .cell
def Look (env : Env) (h : Heap) (m : Str → Option Value) (x : Str) (u : Value) : Prop :=
  (env.kindOf x = some .local ∧ m x = some u) ∨ ((env.kindOf x = some .cell ∨ env.kindOf x = some .free) ∧ ∃ c, env.cells.lookup x = some c ∧ h.IsCell c (some u))

structure Cx.Ok (X : Cx) : Prop where
  mod : Mod X.K X.mg X.base
  kind : X.env.scope.kind = .function
  glob : X.env.globals = mainGlobals
  blt : X.env.builtins = builtinsNs
  above : X.s₀.heap.objs.size ≤ X.env.locals
  inj : ∀ x y c, X.env.cells.lookup x = some c → X.env.cells.lookup y = some c → x = y
  has : ∀ x, (X.env.kindOf x = some .cell ∨ X.env.kindOf x = some .free) → ∃ c, X.env.cells.lookup x = some c
  cab : ∀ x c, X.fn x = true → X.env.cells.lookup x = some c → X.s₀.heap.objs.size ≤ c
  hd : X.calm = true → X.A.handled = none
  frames : X.A.frames = some X.stack
  stk : X.stack = X.outer ∨ (X.stack = X.env :: X.outer ∧ X.env.frame = some X.env.locals)
  exf : ∀ b ∈ X.ex, b ≠ X.env.locals ∧ ∀ x c, X.env.cells.lookup x = some c → c ≠ b
  bs : ∀ b o, X.base.get? b = some o → X.s₀.heap.get? b = some o ∧ X.H₀ b = none
  bsz : X.base.objs.size ≤ X.s₀.heap.objs.size
  noex : ∀ b o, X.base.get? b = some o → b ∉ X.ex
  exfs : ∀ b ∈ X.ex, b ∉ X.fs
  funs : X.s₀.heap.FunFrames X.base X.outer
  frf : ∀ b ∈ X.fs, X.H₀ b = none

structure Inv (X : Cx) (pins : List (Addr × Obj)) (σ : List (Option V)) (H : Hp) (s : Shared) : Prop where
  ok : X.Ok
  os : s.os = X.s₀.os
  bare : AllBare s.gens
  base : Un X.fs X.ex X.H₀ H X.s₀.heap s.heap
  loc : ∃ m, s.heap.Ns X.env.locals m ∧ ∀ (i : Nat) (x : Str) (v : V), X.N[i]? = some x → σ[i]? = some (some v) → Vis X.env.scope x → ∃ u, RelV v u ∧ Look X.env s.heap m x u
  cell : ∀ x c, X.env.cells.lookup x = some c → ∃ v, s.heap.IsCell c v
  free : H X.env.locals = none
  freeC : ∀ x c, X.env.cells.lookup x = some c → H c = none
  pin : ∀ p ∈ X.pn ++ pins, s.heap.get? p.1 = some p.2 ∧ H p.1 = none ∧ p.1 ≠ X.env.locals ∧ p.1 ∉ X.fs ∧ ∀ v, p.2.data ≠ .cell v
  hok : HOk X.prog X.w H s.heap
  len : σ.length = X.N.length

section
variable {X : Cx} {pins : List (Addr × Obj)} {σ : List (Option V)} {H H' : Hp} {s : Shared} {h' : Heap}

theorem Cx.Ok.nofr (ok : X.Ok) {b : Addr} {o : Obj} (e : X.base.get? b = some o) : b ∉ X.fs := fun hb => by
  have := (ok.funs.mem hb).1
  rw [e] at this; cases this
theorem Inv.bs (I : Inv X pins σ H s) : ∀ b o, X.base.get? b = some o → s.heap.get? b = some o ∧ H b = none := fun b o e =>
  ⟨I.base.keep b o (I.ok.bs b o e).1 (I.ok.bs b o e).2 (I.ok.nofr e) (I.ok.noex b o e), I.base.free b o (I.ok.bs b o e).1 (I.ok.bs b o e).2 (I.ok.noex b o e)⟩
theorem Inv.bk (I : Inv X pins σ H s) : ∀ b o, X.base.get? b = some o → s.heap.get? b = some o := fun b o e => (I.bs b o e).1
theorem Inv.mod (I : Inv X pins σ H s) : Mod X.K X.mg X.base := I.ok.mod
theorem Inv.kIn (I : Inv X pins σ H s) : X.K.In s.heap := I.ok.mod.kin.keeps I.bk
theorem Inv.nolimit (I : Inv X pins σ H s) : s.heap.NoLimit := I.ok.mod.nolimit.keeps I.bk
/-- the frame over the base: for OpenK's rules (K.In X.base is I.mod.kin) -/
theorem Inv.fr (I : Inv X pins σ H s) : ∃ m, Fr X.base X.env.locals s.heap m :=
  let ⟨m, hn, _⟩ := I.loc
  ⟨m, hn, I.bk, Nat.le_trans I.ok.bsz I.ok.above⟩
theorem Inv.lt (I : Inv X pins σ H s) : X.env.locals < s.heap.objs.size := let ⟨_, hn, _⟩ := I.loc; hn.lt
theorem Inv.sz (I : Inv X pins σ H s) : X.s₀.heap.objs.size ≤ s.heap.objs.size := Nat.le_trans I.ok.above (Nat.le_of_lt I.lt)
theorem Inv.nofs (I : Inv X pins σ H s) {a : Addr} (h : s.heap.objs.size ≤ a) : a ∉ X.fs := fun hb => by
  obtain ⟨_, o, ho, _⟩ := I.ok.funs.mem hb
  exact absurd (Nat.lt_of_lt_of_le (Heap.lt_size ho) (Nat.le_trans I.sz h)) (Nat.lt_irrefl _)
theorem Inv.cne (I : Inv X pins σ H s) : ∀ x c, X.env.cells.lookup x = some c → c ≠ X.env.locals := fun x c e z => by
  obtain ⟨v, o, ho, hd⟩ := I.cell x c e
  obtain ⟨m, ⟨o', es, ep, ho', hd', _⟩, _⟩ := I.loc
  rw [z, ho'] at ho; cases ho; rw [hd'] at hd; cases hd
theorem Inv.funs (I : Inv X pins σ H s) : s.heap.FunFrames X.base X.outer := by
  have all : ∀ (l : List Env), (∀ b ∈ frs l, b ∈ X.fs) → X.s₀.heap.FunFrames X.base l → s.heap.FunFrames X.base l := by
    intro l
    induction l with
    | nil => intro _ _; trivial
    | cons env r ih =>
      intro hs hl
      obtain ⟨hk, ⟨L, o, hf, hn, ho, hd⟩, hr⟩ := hl
      have hL : L ∈ X.fs := hs L (by unfold frs; rw [List.filterMap_cons, hf]; exact List.mem_cons_self)
      obtain ⟨sl, e⟩ := I.base.slot L o ho (I.ok.frf L hL) hL fun z => I.ok.exfs L z hL
      exact ⟨hk, ⟨L, _, hf, hn, e, hd⟩, ih (fun b hb => hs b (by unfold frs; rw [List.filterMap_cons, hf]; exact List.mem_cons_of_mem _ hb)) hr⟩
  exact all X.outer (fun _ hb => hb) I.ok.funs

/-- the frames that run, for a call -/
theorem Inv.stack (I : Inv X pins σ H s) : s.heap.FunFrames X.base X.stack := by
  rcases I.ok.stk with e | ⟨e, hf⟩
  · rw [e]; exact I.funs
  · rw [e]
    obtain ⟨m, hn, _⟩ := I.loc
    refine .cons (by rw [I.ok.kind]; decide) hf hn ?_ I.funs
    exact Heap.get?_none_of_le (Nat.le_trans I.ok.bsz I.ok.above)
theorem Inv.stkSub (I : Inv X pins σ H s) : ∀ b ∈ frs X.stack, b ∈ X.env.locals :: X.fs := fun b hb => by
  rcases I.ok.stk with e | ⟨e, hf⟩
  · rw [e] at hb; exact List.mem_cons_of_mem _ hb
  · rw [e] at hb
    unfold frs at hb
    rw [List.filterMap_cons, hf] at hb
    exact hb
theorem Inv.stkFree (I : Inv X pins σ H s) : ∀ b ∈ frs X.stack, H b = none := fun b hb => by
  rcases List.mem_cons.mp (I.stkSub b hb) with e | hb
  · rw [e]; exact I.free
  · obtain ⟨_, o, ho, _⟩ := I.ok.funs.mem hb
    exact I.base.free b o ho (I.ok.frf b hb) fun z => I.ok.exfs b z hb

/-- THE STEP: the untracked objects but the frame and the records at ch are kept (the callers' frames up to slots), the frame's map is kept, the new abstract heap is held -/
theorem Inv.step {g' : Array GenState} {t' : Nat} {d' : Drawn} {ch : List Addr} (I : Inv X pins σ H s)
    (hch : ∀ b ∈ ch, (b ∈ X.ex ∨ X.s₀.heap.objs.size ≤ b) ∧ b ≠ X.env.locals ∧ (∀ x c, X.env.cells.lookup x = some c → c ≠ b) ∧ ∀ p ∈ X.pn ++ pins, p.1 ≠ b)
    (keep : ∀ b o, b ≠ X.env.locals → b ∉ X.fs → b ∉ ch → s.heap.get? b = some o → H b = none → h'.get? b = some o)
    (slot : ∀ b o, b ≠ X.env.locals → b ∈ X.fs → b ∉ ch → s.heap.get? b = some o → H b = none → ∃ sl, h'.get? b = some { o with slots := sl }) (free : ∀ b o, b ∉ ch → s.heap.get? b = some o → H b = none → H' b = none)
    (there : ∀ b o, b ∉ ch → s.heap.get? b = some o → ∃ o', h'.get? b = some o')
    (tups : ∀ b xs, H b = some (.tup xs) → H' b = some (.tup xs)) (frzs : ∀ b o u, H b = some (.frz o u) → H' b = some (.frz o u)) (tbls : ∀ b ps, H b = some (.tbl ps) → ∃ more, H' b = some (.tbl (ps ++ more)))
    (ns : ∀ m, s.heap.Ns X.env.locals m → h'.Ns X.env.locals m) (hok : HOk X.prog X.w H' h') (hg : AllBare g') :
    Inv X pins σ H' { s with heap := h', gens := g', drawn := d', toks := t' } := by
  have neL : ∀ b o, X.s₀.heap.get? b = some o → b ≠ X.env.locals := fun b o e => Nat.ne_of_lt (Nat.lt_of_lt_of_le (Heap.lt_size e) I.ok.above)
  have neC : ∀ b o, X.s₀.heap.get? b = some o → b ∉ X.ex → b ∉ ch := fun b o e hx hb => by
    rcases (hch b hb).1 with z | z
    · exact hx z
    · exact absurd (Nat.lt_of_lt_of_le (Heap.lt_size e) z) (Nat.lt_irrefl _)
  have cellK : ∀ x c, X.env.cells.lookup x = some c → ∀ v, s.heap.IsCell c v → h'.IsCell c v := fun x c e v ⟨o, ho, hd⟩ => by
    have nch : c ∉ ch := fun z => (hch c z).2.2.1 x c e rfl
    by_cases hc : c ∈ X.fs
    · obtain ⟨sl, q⟩ := slot c o (I.cne x c e) hc nch ho (I.freeC x c e)
      exact ⟨_, q, hd⟩
    · exact ⟨o, keep c o (I.cne x c e) hc nch ho (I.freeC x c e), hd⟩
  refine ⟨I.ok, I.os, hg, ⟨fun b o e n hb hx => ?_, fun b o e n hb hx => ?_, fun b o e n hx => ?_, fun b o e hx => ?_, fun b xs e => tups b xs (I.base.tups b xs e), fun b o xs e => frzs b o xs (I.base.frzs b o xs e), fun b ps e => ?_⟩, ?_, fun x c e => ?_, ?_, fun x c e => ?_, fun p hp => ?_, hok, I.len⟩
  · exact keep b o (neL b o e) hb (neC b o e hx) (I.base.keep b o e n hb hx) (I.base.free b o e n hx)
  · obtain ⟨sl, e1⟩ := I.base.slot b o e n hb hx
    obtain ⟨sl', e2⟩ := slot b _ (neL b o e) hb (neC b o e hx) e1 (I.base.free b o e n hx)
    exact ⟨sl', e2⟩
  · obtain ⟨o', e1⟩ := I.base.there b o e hx
    exact free b o' (neC b o e hx) e1 (I.base.free b o e n hx)
  · obtain ⟨o', e1⟩ := I.base.there b o e hx
    exact there b o' (neC b o e hx) e1
  · obtain ⟨m1, e1⟩ := I.base.tbls b ps e
    obtain ⟨m2, e2⟩ := tbls b _ e1
    exact ⟨m1 ++ m2, by rw [e2, Array.append_assoc]⟩
  · obtain ⟨m, hn, hl⟩ := I.loc
    refine ⟨m, ns m hn, fun i x v e1 e2 e3 => ?_⟩
    obtain ⟨u, r, l⟩ := hl i x v e1 e2 e3
    refine ⟨u, r, ?_⟩
    rcases l with l | ⟨k, c, e, z⟩
    · exact .inl l
    · exact .inr ⟨k, c, e, cellK x c e _ z⟩
  · obtain ⟨v, z⟩ := I.cell x c e
    exact ⟨v, cellK x c e v z⟩
  · obtain ⟨m, ⟨o, _, _, ho, _⟩, _⟩ := I.loc
    exact free _ o (fun z => (hch _ z).2.1 rfl) ho I.free
  · obtain ⟨v, o, ho, hd⟩ := I.cell x c e
    exact free c o (fun z => (hch c z).2.2.1 x c e rfl) ho (I.freeC x c e)
  · obtain ⟨e, n, ne, nf, d⟩ := I.pin p hp
    have nch : p.1 ∉ ch := fun z => (hch p.1 z).2.2.2 p hp rfl
    exact ⟨keep p.1 p.2 ne nf nch e n, free p.1 p.2 nch e n, ne, nf, d⟩
/-- .. where the frame's own object is kept too -/
theorem Inv.un {t' : Nat} (I : Inv X pins σ H s) (u : Un X.fs [] H H' s.heap h') (hok : HOk X.prog X.w H' h') : Inv X pins σ H' { s with heap := h', toks := t' } := by
  obtain ⟨m, ⟨o, es, ep, ho, r⟩, _⟩ := id I.loc
  obtain ⟨sl, hL⟩ := u.any ho I.free (by simp)
  exact I.step (g' := s.gens) (d' := s.drawn) (ch := []) (fun _ z => nomatch z) (fun b o _ hb _ e n => u.keep b o e n hb (by simp)) (fun b o _ hb _ e n => u.slot b o e n hb (by simp)) (fun b o _ e n => u.free b o e n (by simp)) (fun b o _ e => u.there b o e (by simp)) u.tups u.frzs u.tbls (fun m' hm => by
    obtain ⟨o', es', ep', ho', r'⟩ := hm
    rw [ho] at ho'; cases ho'
    exact ⟨_, es', ep', hL, r'⟩) hok I.bare
/-- behind a call (or a comprehension's block): the slots of this frame may have changed too, the records at ch may have turned -/
theorem Inv.call {g' : Array GenState} {t' : Nat} {d' : Drawn} {ch : List Addr} (I : Inv X pins σ H s) (u : Un (frs X.stack) ch H H' s.heap h') (hok : HOk X.prog X.w H' h') (hg : AllBare g')
    (hch : ∀ b ∈ ch, (b ∈ X.ex ∨ X.s₀.heap.objs.size ≤ b) ∧ b ≠ X.env.locals ∧ (∀ x c, X.env.cells.lookup x = some c → c ≠ b) ∧ ∀ p ∈ X.pn ++ pins, p.1 ≠ b) :
    Inv X pins σ H' { s with heap := h', gens := g', drawn := d', toks := t' } := by
  obtain ⟨m, ⟨o, es, ep, ho, r⟩, _⟩ := id I.loc
  obtain ⟨sl, hL⟩ := u.any ho I.free fun z => (hch _ z).2.1 rfl
  exact I.step (ch := ch) hch (fun b o hL hb hc e n => u.keep b o e n (fun z => (List.mem_cons.mp (I.stkSub b z)).elim hL hb) hc) (fun b o _ _ hc e n => u.any e n hc) (fun b o hc e n => u.free b o e n hc) (fun b o hc e => u.there b o e hc) u.tups u.frzs u.tbls (fun m' hm => by
    obtain ⟨o', es', ep', ho', r'⟩ := hm
    rw [ho] at ho'; cases ho'
    exact ⟨_, es', ep', hL, r'⟩) hok hg
/-- an untracked record of ours (an iterator) has turned -/
theorem Inv.turned {t' : Nat} {it : Addr} (I : Inv X pins σ H s) (k : ∀ b o, b ≠ it → s.heap.get? b = some o → h'.get? b = some o) (hn : H it = none) (hL : it ≠ X.env.locals)
    (h1 : it ∈ X.ex ∨ X.s₀.heap.objs.size ≤ it) (h2 : ∀ x c, X.env.cells.lookup x = some c → c ≠ it) (h3 : ∀ p ∈ X.pn ++ pins, p.1 ≠ it) : Inv X pins σ H { s with heap := h', toks := t' } := by
  have nit : ∀ b u, H b = some u → b ≠ it := fun b u e z => by rw [z, hn] at e; cases e
  refine I.step (g' := s.gens) (d' := s.drawn) (ch := [it]) (fun b hb => ?_) (fun b o _ _ hc e _ => k b o (fun z => hc (by simp [z])) e) (fun b o _ _ hc e _ => ⟨o.slots, k b o (fun z => hc (by simp [z])) e⟩) (fun _ _ _ _ n => n)
    (fun b o hc e => ⟨o, k b o (fun z => hc (by simp [z])) e⟩) (fun _ _ e => e) (fun _ _ _ e => e) (fun b ps e => ⟨#[], by rw [e]; simp⟩) (fun m hm => ?_) (fun b u e => ?_) I.bare
  · have e : b = it := by simpa using hb
    subst e
    exact ⟨h1, hL, h2, h3⟩
  · obtain ⟨o, es, ep, ho, r⟩ := hm
    exact ⟨o, es, ep, k _ o (Ne.symm hL) ho, r⟩
  · refine (I.hok b u e).stay (fun c v hc q => k c v ?_ q) (fun _ q => q) fun _ _ q => q
    rcases hc with z | z
    · rw [z]; exact nit b u e
    · exact nit c _ z
theorem Inv.tok (I : Inv X pins σ H s) (t : Nat) : Inv X pins σ H { s with toks := t } := I.un (h' := s.heap) (t' := t) Un.refl I.hok
/-- all objects kept -/
theorem Inv.kept {t' : Nat} (I : Inv X pins σ H s) (k : ∀ b u, s.heap.get? b = some u → h'.get? b = some u) : Inv X pins σ H { s with heap := h', toks := t' } := I.un (Un.kept k) (I.hok.kept k)
/-- a new object laid and tracked -/
theorem Inv.laid {a : Addr} {o : HO} {t' : Nat} (I : Inv X pins σ H s) (k : ∀ b u, s.heap.get? b = some u → h'.get? b = some u) (hp : s.heap.objs.size ≤ a) (new : ObjOk X.prog X.w (upd H a o) h' a o) :
    Inv X pins σ (upd H a o) { s with heap := h', toks := t' } := I.un (Un.laid k hp (I.hok.fresh hp)) (I.hok.laid k hp new)
/-- an object written -/
theorem Inv.write {x e : Addr} {o : HO} {t' : Nat} (I : Inv X pins σ H s) (mu : Mut (H x)) (he : e = x ∨ H e = some (.own x)) (k : ∀ b u, b ≠ e → s.heap.get? b = some u → h'.get? b = some u) (heo : ∃ u, h'.get? e = some u)
    (new : ObjOk X.prog X.w (upd H x o) h' x o) : Inv X pins σ (upd H x o) { s with heap := h', toks := t' } := I.un (Un.write mu he k heo) (I.hok.write mu he k heo new)
theorem Inv.pins_of {pins' : List (Addr × Obj)} (I : Inv X pins σ H s) (h : ∀ p ∈ pins', s.heap.get? p.1 = some p.2 ∧ H p.1 = none ∧ p.1 ≠ X.env.locals ∧ p.1 ∉ X.fs ∧ ∀ v, p.2.data ≠ .cell v) : Inv X pins' σ H s :=
  ⟨I.ok, I.os, I.bare, I.base, I.loc, I.cell, I.free, I.freeC, fun p hp => (List.mem_append.mp hp).elim (fun z => I.pin p (List.mem_append_left _ z)) (h p), I.hok, I.len⟩

theorem nodup_ix {N : List Str} (hN : N.Nodup) {i j : Nat} {x : Str} (a : N[i]? = some x) (b : N[j]? = some x) : i = j := by
  obtain ⟨h1, e1⟩ := List.getElem?_eq_some_iff.mp a
  obtain ⟨h2, e2⟩ := List.getElem?_eq_some_iff.mp b
  exact (List.getElem_inj hN).mp (e1.trans e2.symm)

/-- a name is stored; what changed -/
theorem store_ok2 {M : Model} {A : Around} {E : Value → Shared → Prop} {i : Nat} {x : Str} {v : V} {u : Value} {Q : Unit → Shared → Prop} (I : Inv X pins σ H s) (hN : X.N.Nodup) (hi : X.N[i]? = some x) (hx : Loc X.env.scope x) (r : RelV v u)
    (h : ∀ s', Inv X pins (σ.set i (some v)) H s' → (∃ a, Heap.SameBut a s.heap s'.heap ∧ (a = X.env.locals ∨ X.env.cells.lookup x = some a)) → Q () s') (hf : X.fn x = true ∨ X.env.scope.names.lookup x = some .local := by first | exact .inl rfl | exact .inr rfl | assumption) : wpAny M A (storeName X.env x u) Q E s := by
  obtain ⟨m, hn, hl⟩ := id I.loc
  have hcls : (X.env.scope.kind == .class || (X.env.scope.kind == .module && X.env.locals != X.env.globals)) = false := by rw [I.ok.kind]; rfl
  have hiσ : i < σ.length := by rw [I.len]; exact (List.getElem?_eq_some_iff.mp hi).1
  have cne := I.cne
  have tracked : ∀ {a : Addr} {h' : Heap}, (∃ o, s.heap.get? a = some o ∧ H a = none) → Heap.SameBut a s.heap h' → HOk X.prog X.w H h' := fun {a h'} ha hs b ob e => by
    obtain ⟨_, _, hfree⟩ := ha
    refine (I.hok b ob e).stay (fun c w' hc q => (hs.2 c ?_).trans q) (fun _ q => q) fun _ _ q => q
    rintro rfl
    rcases hc with rfl | hc
    · rw [hfree] at e; cases e
    · rw [hfree] at hc; cases hc
  rcases hx with hk | hk
  · refine wpAny_storeName_local hk hn (fun h' hn' hs => ?_) hcls
    obtain ⟨oL, _, _, hoL, _⟩ := id hn
    refine h _ ⟨I.ok, I.os, I.bare, ⟨fun b o e n hb hx => ?_, fun b o e n hb hx => ?_, I.base.free, fun b o e hx => ?_, I.base.tups, I.base.frzs, I.base.tbls⟩, ⟨_, hn', fun j y v' e1 e2 e3 => ?_⟩, fun y c e => ?_, I.free, I.freeC, fun p hp => ?_, tracked ⟨oL, hoL, I.free⟩ hs, by simpa using I.len⟩ ⟨_, hs, .inl rfl⟩
    · exact (hs.2 b (Nat.ne_of_lt (Nat.lt_of_lt_of_le (Heap.lt_size e) I.ok.above))).trans (I.base.keep b o e n hb hx)
    · obtain ⟨sl, e1⟩ := I.base.slot b o e n hb hx
      exact ⟨sl, (hs.2 b (Nat.ne_of_lt (Nat.lt_of_lt_of_le (Heap.lt_size e) I.ok.above))).trans e1⟩
    · obtain ⟨o', e1⟩ := I.base.there b o e hx
      exact ⟨o', (hs.2 b (Nat.ne_of_lt (Nat.lt_of_lt_of_le (Heap.lt_size e) I.ok.above))).trans e1⟩
    · by_cases hj : j = i
      · subst hj
        rw [hi] at e1; cases e1
        rw [List.getElem?_set_self hiσ] at e2
        cases e2
        exact ⟨u, r, .inl ⟨hk, by simp⟩⟩
      · rw [List.getElem?_set_ne (Ne.symm hj)] at e2
        obtain ⟨u', r', q⟩ := hl j y v' e1 e2 e3
        refine ⟨u', r', ?_⟩
        rcases q with ⟨k, e⟩ | ⟨k, c, e, z⟩
        · refine .inl ⟨k, ?_⟩
          have : y ≠ x := fun e => hj (nodup_ix hN e1 (e ▸ hi))
          simp [this, e]
        · exact .inr ⟨k, c, e, z.sameBut hs (cne y c e)⟩
    · obtain ⟨w', z⟩ := I.cell y c e
      exact ⟨w', z.sameBut hs (cne y c e)⟩
    · obtain ⟨e, n, ne, nf, d⟩ := I.pin p hp
      exact ⟨(hs.2 p.1 ne).trans e, n, ne, nf, d⟩
  · have hfn : X.fn x = true := by
      rcases hf with z | z
      · exact z
      · rw [z] at hk; cases hk
    obtain ⟨c, hc⟩ := I.ok.has x (.inl hk)
    obtain ⟨w', z⟩ := I.cell x c hc
    refine wpAny_storeName_cell I.ok.kind hk hc z (fun h' hc' hs => ?_)
    obtain ⟨oc, hoc, hocd⟩ := id z
    refine h { s with heap := h' } ⟨I.ok, I.os, I.bare, ⟨fun b o e n hb hx => ?_, fun b o e n hb hx => ?_, I.base.free, fun b o e hx => ?_, I.base.tups, I.base.frzs, I.base.tbls⟩, ⟨m, hn.sameBut hs (Ne.symm (cne x c hc)), fun j y v' e1 e2 e3 => ?_⟩, fun y c' e => ?_, I.free, I.freeC, fun p hp => ?_, tracked ⟨oc, hoc, I.freeC x c hc⟩ hs, by simpa using I.len⟩ ⟨c, hs, .inr hc⟩
    · exact (hs.2 b (Nat.ne_of_lt (Nat.lt_of_lt_of_le (Heap.lt_size e) (I.ok.cab x c hfn hc)))).trans (I.base.keep b o e n hb hx)
    · obtain ⟨sl, e1⟩ := I.base.slot b o e n hb hx
      exact ⟨sl, (hs.2 b (Nat.ne_of_lt (Nat.lt_of_lt_of_le (Heap.lt_size e) (I.ok.cab x c hfn hc)))).trans e1⟩
    · obtain ⟨o', e1⟩ := I.base.there b o e hx
      exact ⟨o', (hs.2 b (Nat.ne_of_lt (Nat.lt_of_lt_of_le (Heap.lt_size e) (I.ok.cab x c hfn hc)))).trans e1⟩
    · by_cases hj : j = i
      · subst hj
        rw [hi] at e1; cases e1
        rw [List.getElem?_set_self hiσ] at e2
        cases e2
        exact ⟨u, r, .inr ⟨.inl hk, c, hc, hc'⟩⟩
      · rw [List.getElem?_set_ne (Ne.symm hj)] at e2
        obtain ⟨u', r', q⟩ := hl j y v' e1 e2 e3
        refine ⟨u', r', ?_⟩
        rcases q with q | ⟨k, c', e, z'⟩
        · exact .inl q
        · refine .inr ⟨k, c', e, z'.sameBut hs ?_⟩
          rintro rfl
          exact hj (nodup_ix hN e1 (I.ok.inj _ _ _ e hc ▸ hi))
    · by_cases hcc : c' = c
      · subst hcc; exact ⟨_, hc'⟩
      · obtain ⟨w2, z2⟩ := I.cell y c' e
        exact ⟨w2, z2.sameBut hs hcc⟩
    · obtain ⟨e, n, ne, nf, d⟩ := I.pin p hp
      refine ⟨(hs.2 p.1 ?_).trans e, n, ne, nf, d⟩
      intro q
      rw [q, hoc] at e
      have q' : oc = p.2 := Option.some.inj e
      exact d w' (by rw [← q']; exact hocd)
theorem store_ok {M : Model} {A : Around} {E : Value → Shared → Prop} {i : Nat} {x : Str} {v : V} {u : Value} {Q : Unit → Shared → Prop} (I : Inv X pins σ H s) (hN : X.N.Nodup) (hi : X.N[i]? = some x) (hx : Loc X.env.scope x) (r : RelV v u)
    (h : ∀ s', Inv X pins (σ.set i (some v)) H s' → Q () s') (hf : X.fn x = true ∨ X.env.scope.names.lookup x = some .local := by first | exact .inl rfl | exact .inr rfl | assumption) : wpAny M A (storeName X.env x u) Q E s :=
  store_ok2 I hN hi hx r (fun s' I' _ => h s' I') hf
/-- behind a call or a block, the state as it is -/
theorem Inv.call' {s' : Shared} {ch : List Addr} (I : Inv X pins σ H s) (ho : s'.os = s.os) (u : Un (frs X.stack) ch H H' s.heap s'.heap) (hok : HOk X.prog X.w H' s'.heap) (hg : AllBare s'.gens)
    (hch : ∀ b ∈ ch, (b ∈ X.ex ∨ X.s₀.heap.objs.size ≤ b) ∧ b ≠ X.env.locals ∧ (∀ x c, X.env.cells.lookup x = some c → c ≠ b) ∧ ∀ p ∈ X.pn ++ pins, p.1 ≠ b) : Inv X pins σ H' s' := by
  obtain ⟨h', g', d', t', o'⟩ := s'
  have e : o' = s.os := ho
  subst e
  exact I.call (g' := g') (t' := t') (d' := d') u hok hg hch
end

/-! ### the judgements -/
/-- an exception: its class, its own dict's address (where it has one), the abstract heap behind it -/
abbrev XK := Value → Option Addr → Hp → Prop
abbrev St := List (Option V)
abbrev VK := V → Hp → Prop
/-- an expression's reading; a test's; an argument list's -/
abbrev TE := St → Hp → VK → Prop
abbrev TT := St → Hp → (Bool → Hp → Prop) → Prop
abbrev TA := St → Hp → (List V → Hp → Prop) → Prop
/-- what is wanted behind a statement -/
structure Ends where
  nx : St → Hp → Prop
  rt : VK
  bk : St → Hp → Prop := fun _ _ => False
  ct : St → Hp → Prop := fun _ _ => False
abbrev TS := Ends → St → Hp → Prop

def EP (X : Cx) (pins : List (Addr × Obj)) (σ : St) (Q : VK) (u : Value) (s' : Shared) : Prop := ∃ v H', Inv X pins σ H' s' ∧ RelV v u ∧ Q v H'
def TP (X : Cx) (pins : List (Addr × Obj)) (σ : St) (Q : Bool → Hp → Prop) (b : Bool) (s' : Shared) : Prop := ∃ H', Inv X pins σ H' s' ∧ Q b H'
def AP (X : Cx) (pins : List (Addr × Obj)) (σ : St) (Q : List V → Hp → Prop) (us : List Value) (s' : Shared) : Prop := ∃ vs H', Inv X pins σ H' s' ∧ Vals vs us ∧ Q vs H'
def SP (X : Cx) (pins : List (Addr × Obj)) (D : Ends) (f : Flow) (s' : Shared) : Prop :=
  match f with
  | .next => ∃ σ' H', Inv X pins σ' H' s' ∧ D.nx σ' H'
  | .brk => ∃ σ' H', Inv X pins σ' H' s' ∧ D.bk σ' H'
  | .cont => ∃ σ' H', Inv X pins σ' H' s' ∧ D.ct σ' H'
  | .ret u => ∃ v σ' H', Inv X pins σ' H' s' ∧ RelV v u ∧ D.rt v H'

def PE (X : Cx) (e : Expr) (t : TE) : Prop :=
  ∀ (pins : List (Addr × Obj)) (s : Shared) (σ : St) (H : Hp) (Q : VK), Inv X pins σ H s → t σ H Q → wpAny (model X.prog X.w) X.A (eval e X.env) (EP X pins σ Q) X.xe s
def PT (X : Cx) (e : Expr) (t : TT) : Prop :=
  ∀ (pins : List (Addr × Obj)) (s : Shared) (σ : St) (H : Hp) (Q : Bool → Hp → Prop), Inv X pins σ H s → t σ H Q → wpAny (model X.prog X.w) X.A (isTrue e X.env (eval e X.env)) (TP X pins σ Q) X.xe s
/-- a test whatever its 'whole' is (and, or) -/
def PW (X : Cx) (e : Expr) (t : TT) : Prop :=
  ∀ (whole : Sem Value) (pins : List (Addr × Obj)) (s : Shared) (σ : St) (H : Hp) (Q : Bool → Hp → Prop), Inv X pins σ H s → t σ H Q → wpAny (model X.prog X.w) X.A (isTrue e X.env whole) (TP X pins σ Q) X.xe s
theorem PW.pt {X : Cx} {e : Expr} {t : TT} (h : PW X e t) : PT X e t := h _
/-- an argument list (no star), from the left -/
def PA (X : Cx) (es : List Expr) (t : TA) : Prop :=
  ∀ (pos : Pos) (pins : List (Addr × Obj)) (s : Shared) (σ : St) (H : Hp) (Q : List V → Hp → Prop), Inv X pins σ H s → t σ H Q → wpAny (model X.prog X.w) X.A (spliced (backTo pos (starEach es X.env))) (AP X pins σ Q) X.xe s
def PS (X : Cx) (st : Stmt) (t : TS) : Prop :=
  ∀ (pins : List (Addr × Obj)) (s : Shared) (σ : St) (H : Hp) (D : Ends), Inv X pins σ H s → t D σ H → wpAny (model X.prog X.w) X.A (exec st X.env) (SP X pins D) X.xe s
def PSs (X : Cx) (st : List Stmt) (t : TS) : Prop :=
  ∀ (pins : List (Addr × Obj)) (s : Shared) (σ : St) (H : Hp) (D : Ends), Inv X pins σ H s → t D σ H → wpAny (model X.prog X.w) X.A (execs st X.env) (SP X pins D) X.xe s
/-- weaken the end -/
theorem thn {α : Type} {t : Sem α} {Q Q' : α → Shared → Prop} {M : Model} {A : Around} {E : Value → Shared → Prop} {s : Shared} (h : wpAny M A t Q E s) (hQ : ∀ a s, Q a s → Q' a s) : wpAny M A t Q' E s := wpAny_mono h hQ fun _ _ x => x
end L2

namespace L2
open PySem PySem.Spec PyProof.Rows
section
variable {X : Cx}

/-! ### names and constants -/
def tVar (i : Nat) : TE := fun σ H Q => ∃ v, σ[i]? = some (some v) ∧ Q v H
def tC (v : V) : TE := fun _ H Q => Q v H
theorem pe_var {i : Nat} {x : Str} {pos : Pos} (hN : X.N[i]? = some x) (hv : Vis X.env.scope x) (hd : (x == ("__debug__" : Str)) = false := by decide) (hcd : (x == ("__classdict__" : Str)) = false := by decide) : PE X (.Name x pos) (tVar i) := by
  intro pins s σ H Q I h
  obtain ⟨v, e, h⟩ := h
  obtain ⟨m, hn, hl⟩ := I.loc
  obtain ⟨u, r, l⟩ := hl i x v hN e hv
  have fin : EP X pins σ Q u s := ⟨v, H, I, r, h⟩
  rcases l with ⟨hk, hm⟩ | ⟨hk, c, hc, hcell⟩
  · exact wpAny_Name (wpAny_loadName_local I.ok.kind hk hn hm fin) hd
  · rcases hk with hk | hk
    · exact wpAny_Name (wpAny_loadName_cell I.ok.kind hk hc hcell fin) hd
    · exact wpAny_Name (wpAny_loadName_free I.ok.kind hk hc hcell fin hcd) hd
theorem pe_int {i j pos} : PE X (.Constant (.int i) j pos) (tC (.int i)) := fun _ _ _ H _ I h => wpAny_Constant_int ⟨.int i, H, I.tok _, ⟨_, rfl⟩, h⟩
theorem pe_bl {b j pos} : PE X (.Constant (.bool b) j pos) (tC (.bl b)) := fun _ _ _ H _ I h => Constant_bool ⟨.bl b, H, I, rfl, h⟩
theorem pe_non {j pos} : PE X (.Constant .none j pos) (tC .non) := fun _ _ _ H _ I h => Constant_none ⟨.non, H, I, rfl, h⟩
theorem pe_str {x j pos} : PE X (.Constant (.str x) j pos) (tC (.str x)) := fun _ _ _ H _ I h => Calls.Constant_str ⟨.str x, H, I.tok _, ⟨_, rfl⟩, h⟩

/-- a global name of the def -/
def Gl (X : Cx) (x : Str) : Prop := X.env.kindOf x = some .globalImplicit
theorem ld_glob {E : Value → Shared → Prop} {pins : List (Addr × Obj)} {s : Shared} {σ : St} {H : Hp} {x : Str} {u : Value} {pos : Pos} {Q : Value → Shared → Prop} (I : Inv X pins σ H s) (hg : Gl X x) (hm : X.mg x = some u) (h : Q u s)
    (hd : (x == ("__debug__" : Str)) = false := by decide) : wpAny (model X.prog X.w) X.A (eval (.Name x pos) X.env) Q E s :=
  Calls.Name_function_global I.ok.kind hg (Calls.loadGlobal_global (by rw [I.ok.glob]; exact I.mod.glob.keeps I.bk) hm h) hd
theorem ld_blt {E : Value → Shared → Prop} {pins : List (Addr × Obj)} {s : Shared} {σ : St} {H : Hp} {x : Str} {u : Value} {pos : Pos} {Q : Value → Shared → Prop} (I : Inv X pins σ H s) (hg : Gl X x) (hm : X.mg x = none) (hv : bootBuiltins x = some u) (h : Q u s)
    (hn : x ≠ "__name__" := by decide) (hd : (x == ("__debug__" : Str)) = false := by decide) : wpAny (model X.prog X.w) X.A (eval (.Name x pos) X.env) Q E s := by
  obtain ⟨mb, h1, h2⟩ := I.mod.blt
  exact Calls.Name_function_global I.ok.kind hg (Calls.loadGlobal_builtin (by rw [I.ok.glob]; exact I.mod.glob.keeps I.bk) hm (by rw [I.ok.blt]; exact h1.keeps I.bk) ((h2 x hn).trans hv) h) hd
theorem pe_bltn {x : Str} {v : V} {u : Value} {pos : Pos} (hg : Gl X x) (hm : X.mg x = none) (hv : bootBuiltins x = some u) (r : RelV v u) (hn : x ≠ "__name__" := by decide) (hd : (x == ("__debug__" : Str)) = false := by decide) : PE X (.Name x pos) (tC v) :=
  fun _ _ _ H _ I h => ld_blt I hg hm hv ⟨v, H, I, r, h⟩ hn hd

/-! ### arithmetic -/
variable {a b : Expr} {ta tb : TE} {pos : Pos}
/-! ### comparisons -/
def PC (X : Cx) (op : CmpOp) (a b : Expr) (t : TE) : Prop :=
  ∀ (pins : List (Addr × Obj)) (s : Shared) (σ : St) (H : Hp) (Q : VK), Inv X pins σ H s → t σ H Q →
    wpAny (model X.prog X.w) X.A (eval a X.env) (fun v s₁ => wpAny (model X.prog X.w) X.A (eval b X.env) (fun u s₂ => wpAny (model X.prog X.w) X.A (compareOp op v u) (EP X pins σ Q) X.xe s₂) X.xe s₁) X.xe s
theorem nobehind (b : Expr) {op : CmpOp} (h : op ≠ .In) (h2 : op ≠ .NotIn) : behindInMarks op b = false := by
  have e1 : (op == CmpOp.In) = false := by cases op <;> first | rfl | exact absurd rfl h
  have e2 : (op == CmpOp.NotIn) = false := by cases op <;> first | rfl | exact absurd rfl h2
  cases b <;> simp [behindInMarks, e1, e2]
/-- is None -/
def tIsN (ta : TE) : TE := fun σ H Q => ta σ H fun x H1 => Q (.bl (decide (x = .non))) H1
def tNotN (ta : TE) : TE := fun σ H Q => ta σ H fun x H1 => Q (.bl (!decide (x = .non))) H1
theorem RelV.none_iff {x : V} {v : Value} (r : RelV x v) : (v == Value.none) = decide (x = .non) := by
  cases x with
  | non => cases r; rfl
  | bl _ => cases r; rfl
  | int _ => obtain ⟨t, rfl⟩ := r; rfl
  | str _ => obtain ⟨t, rfl⟩ := r; rfl
  | byt _ => obtain ⟨t, rfl⟩ := r; rfl
  | flt _ => obtain ⟨t, rfl⟩ := r; rfl
  | ref _ => cases r; rfl
  | ty _ => cases r; rfl
theorem pc_isN {j pos'} (ha : PE X a ta) : PC X .Is a (.Constant .none j pos') (tIsN ta) := by
  intro pins s σ H Q I h
  refine thn (ha pins s σ H _ I h) fun v s1 ⟨x, H1, I1, r1, q1⟩ => ?_
  exact Constant_none (is_none_gen ⟨.bl _, H1, I1, by rw [r1.none_iff]; rfl, q1⟩)
theorem pc_notN {j pos'} (ha : PE X a ta) : PC X .IsNot a (.Constant .none j pos') (tNotN ta) := by
  intro pins s σ H Q I h
  refine thn (ha pins s σ H _ I h) fun v s1 ⟨x, H1, I1, r1, q1⟩ => ?_
  exact Constant_none (isnot_none_gen ⟨.bl _, H1, I1, by rw [r1.none_iff]; rfl, q1⟩)
/-- a comparison as a value, as a test -/
def tB (t : TE) : TT := fun σ H Q => t σ H fun x H1 => ∃ c, x = .bl c ∧ Q c H1
theorem pe_cmp {op : CmpOp} {t : TE} (h : PC X op a b t) (h1 : behindInMarks op b = false := by first | exact nobehind _ (by decide) (by decide) | rfl) : PE X (.Compare a [op] [b] pos) t := fun pins s σ H Q I hw => wpAny_Compare1 (h pins s σ H Q I hw) h1
theorem pt_cmp {op : CmpOp} {t : TE} (h : PC X op a b t) (h1 : behindInMarks op b = false := by first | exact nobehind _ (by decide) (by decide) | rfl) : PT X (.Compare a [op] [b] pos) (tB t) := by
  intro pins s σ H Q I hw
  refine wpAny_isTrue_Compare1 (thn (h pins s σ H _ I hw) fun v s1 h1 => thn h1 fun u s2 h2 => thn h2 fun c s3 ⟨x, H1, I1, r1, q1⟩ => ?_) h1
  obtain ⟨d, rfl, q⟩ := q1
  cases r1
  exact wpAny_truthy_bool ⟨H1, I1, q⟩
/-- an expression whose value is a bool, as a test -/
theorem pt_val {e : Expr} {t : TE} (h : PE X e t) (he : ∀ whole, isTrue e X.env whole = (do let v ← whole; standAt e.pos; holding [v] (truthy v)) := by intro _; rfl) : PT X e (tB t) := by
  intro pins s σ H Q I hw
  refine isTrue_plain (thn (h pins s σ H _ I hw) fun v s1 ⟨x, H1, I1, r1, q1⟩ => ?_) (he _)
  obtain ⟨d, rfl, q⟩ := q1
  cases r1
  exact wpAny_truthy_bool ⟨H1, I1, q⟩

/-! ### and, or, not -/
variable {tA tB' : TT} {rest : List Expr}
def tAnd (t u : TT) : TT := fun σ H Q => t σ H fun c H1 => if c = true then u σ H1 Q else Q false H1
def tOr (t u : TT) : TT := fun σ H Q => t σ H fun c H1 => if c = true then Q true H1 else u σ H1 Q
def tNot (t : TT) : TT := fun σ H Q => t σ H fun c H1 => Q (!c) H1
theorem pw_and1 (ha : PT X a tA) : PW X (.BoolOp .And [a] pos) tA := by
  intro wh pins s σ H Q I h
  refine isTrue_and (thn (ha pins s σ H Q I h) fun c s1 e => ?_)
  cases c with
  | true => exact isTrue_and_nil e
  | false => exact e
theorem pw_or1 (ha : PT X a tA) : PW X (.BoolOp .Or [a] pos) tA := by
  intro wh pins s σ H Q I h
  refine isTrue_or (thn (ha pins s σ H Q I h) fun c s1 e => ?_)
  cases c with
  | false => exact isTrue_or_nil e
  | true => exact e
theorem pw_and (ha : PT X a tA) (hb : PW X (.BoolOp .And (b :: rest) pos) tB') : PW X (.BoolOp .And (a :: b :: rest) pos) (tAnd tA tB') := by
  intro wh pins s σ H Q I h
  refine isTrue_and (thn (ha pins s σ H _ I h) fun c s1 ⟨H1, I1, q1⟩ => ?_)
  cases c with
  | true => exact hb wh pins s1 σ H1 Q I1 q1
  | false => exact ⟨H1, I1, q1⟩
theorem pw_or (ha : PT X a tA) (hb : PW X (.BoolOp .Or (b :: rest) pos) tB') : PW X (.BoolOp .Or (a :: b :: rest) pos) (tOr tA tB') := by
  intro wh pins s σ H Q I h
  refine isTrue_or (thn (ha pins s σ H _ I h) fun c s1 ⟨H1, I1, q1⟩ => ?_)
  cases c with
  | true => exact ⟨H1, I1, q1⟩
  | false => exact hb wh pins s1 σ H1 Q I1 q1
theorem pt_not (ha : PT X a tA) : PT X (.UnaryOp .Not a pos) (tNot tA) := by
  intro pins s σ H Q I h
  exact isTrue_not (ha pins s σ H (fun c H1 => Q (!c) H1) I h)
/-- .. as values (bools) -/
def tAndV (ta tb : TE) : TE := fun σ H Q => ta σ H fun x H1 => ∃ c, x = .bl c ∧ if c = true then tb σ H1 Q else Q (.bl false) H1
def tNotV (ta : TE) : TE := fun σ H Q => ta σ H fun x H1 => ∃ c, x = .bl c ∧ Q (.bl (!c)) H1
theorem pe_one {op} {t : TE} (h : PE X a t) : PE X (.BoolOp op [a] pos) t := fun pins s σ H Q I hw => BoolOp_one (h pins s σ H Q I hw)
theorem pe_and (ha : PE X a ta) (hb : PE X (.BoolOp .And (b :: rest) pos) tb) : PE X (.BoolOp .And (a :: b :: rest) pos) (tAndV ta tb) := by
  intro pins s σ H Q I h
  refine BoolOp_and (thn (ha pins s σ H _ I h) fun v s1 ⟨x, H1, I1, r1, q1⟩ => ?_)
  obtain ⟨c, rfl, q1⟩ := q1
  cases r1
  refine wpAny_truthy_bool ?_
  cases c with
  | true => exact hb pins s1 σ H1 Q I1 q1
  | false => exact ⟨.bl false, H1, I1, rfl, q1⟩
theorem pe_not (ha : PE X a ta) : PE X (.UnaryOp .Not a pos) (tNotV ta) := by
  intro pins s σ H Q I h
  refine UnaryOp_ (thn (ha pins s σ H _ I h) fun v s1 ⟨x, H1, I1, r1, q1⟩ => ?_)
  obtain ⟨c, rfl, q1⟩ := q1
  cases r1
  exact not_of (wpAny_truthy_bool ⟨.bl (!c), H1, I1, rfl, q1⟩)
end
end L2

namespace L2
open PySem PySem.Spec PyProof.Rows

/-! ### a list, a tuple that is read: tracked, frozen, or an object of the module -/
def SqL (K : PySem.W.Frag) (H : Hp) (a : Addr) (xs : List V) : Prop :=
  Rd H a (.lst xs) ∨
    ∃ (o : Obj) (its : Array Value) (n : Nat), K.lookup a = some o ∧ o.cls = .type "list" ∧ o.dict = none ∧ o.data = .seq its n ∧ its.size ≤ sizeLine ∧ Vals xs its.toList
def SqT (K : PySem.W.Frag) (H : Hp) (a : Addr) (xs : List V) : Prop :=
  Rd H a (.tup xs) ∨
    ∃ (o : Obj) (its : Array Value) (n : Nat), K.lookup a = some o ∧ o.cls = .type "tuple" ∧ o.data = .seq its n ∧ its.size ≤ sizeLine ∧ Vals xs its.toList
def absV : Value → Option V
  | .none => some .non
  | .bool b => some (.bl b)
  | .int i _ => some (.int i)
  | .str x _ => some (.str x)
  | .bytes b _ => some (.byt b)
  | .float b _ => some (.flt b)
  | .ref a => some (.ref a)
  | .type n => some (.ty n)
  | _ => none
theorem RelV.abs {x : V} {u : Value} (r : RelV x u) : absV u = some x := by
  cases x with
  | non => cases r; rfl
  | bl _ => cases r; rfl
  | int _ => obtain ⟨t, rfl⟩ := r; rfl
  | str _ => obtain ⟨t, rfl⟩ := r; rfl
  | byt _ => obtain ⟨t, rfl⟩ := r; rfl
  | flt _ => obtain ⟨t, rfl⟩ := r; rfl
  | ref _ => cases r; rfl
  | ty _ => cases r; rfl
theorem RelV.inj {x y : V} {u : Value} (r : RelV x u) (q : RelV y u) : x = y := Option.some.inj (r.abs.symm.trans q.abs)
theorem Vals.inj : ∀ {xs ys : List V} {us : List Value}, Vals xs us → Vals ys us → xs = ys
  | _, _, _, .nil, .nil => rfl
  | _, _, _, .cons r t, .cons r' t' => by rw [r.inj r', Vals.inj t t']
section
variable {X : Cx} {pins : List (Addr × Obj)} {σ : St} {H : Hp} {s : Shared} {a : Addr} {xs ys : List V}
theorem SqL.of {K : PySem.W.Frag} (h : H a = some (.lst xs)) : SqL K H a xs := .inl (.inl h)
theorem SqT.of {K : PySem.W.Frag} (h : H a = some (.tup xs)) : SqT K H a xs := .inl (.inl h)
theorem Inv.list (I : Inv X pins σ H s) (h : SqL X.K H a xs) : ∃ its : List Value, Vals xs its ∧ PlainL s.heap a its.toArray ∧ xs.length ≤ sizeLine := by
  rcases h with h | ⟨o, its, n, hk, hc, hd, hs, hz, r⟩
  · obtain ⟨z, its, n, r, e⟩ := h.ok I.hok
    exact ⟨its, r, ⟨_, n, e, rfl, rfl, rfl⟩, z⟩
  · refine ⟨its.toList, r, ⟨o, n, I.kIn a o hk, hc, hd, by simpa using hs⟩, ?_⟩
    have e := r.length
    simp only [Array.length_toList] at e
    omega
theorem Inv.tuple (I : Inv X pins σ H s) (h : SqT X.K H a xs) : ∃ its : List Value, Vals xs its ∧ IsTup s.heap a its.toArray ∧ xs.length ≤ sizeLine := by
  rcases h with h | ⟨o, its, n, hk, hc, hs, hz, r⟩
  · obtain ⟨z, its, r, p⟩ := h.ok I.hok
    exact ⟨its, r, p, z⟩
  · refine ⟨its.toList, r, ⟨o, I.kIn a o hk, hc, n, by simpa using hs⟩, ?_⟩
    have e := r.length
    simp only [Array.length_toList] at e
    omega
theorem Inv.list_inj (I : Inv X pins σ H s) (h : SqL X.K H a xs) (h' : SqL X.K H a ys) : xs = ys := by
  obtain ⟨its, r, ⟨o, n, e, _, _, d⟩, _⟩ := I.list h
  obtain ⟨its', r', ⟨o', n', e', _, _, d'⟩, _⟩ := I.list h'
  rw [e] at e'; cases e'
  rw [d] at d'
  injection d' with d1 _
  have : its = its' := by simpa using congrArg Array.toList d1
  subst this
  exact r.inj r'
theorem Inv.tuple_inj (I : Inv X pins σ H s) (h : SqT X.K H a xs) (h' : SqT X.K H a ys) : xs = ys := by
  obtain ⟨its, r, ⟨o, e, _, n, d⟩, _⟩ := I.tuple h
  obtain ⟨its', r', ⟨o', e', _, n', d'⟩, _⟩ := I.tuple h'
  rw [e] at e'; cases e'
  rw [d] at d'
  injection d' with d1 _
  have : its = its' := by simpa using congrArg Array.toList d1
  subst this
  exact r.inj r'
end

/-! ### another wish about exceptions -/
abbrev Cx.wish (X : Cx) (E : Value → Shared → Prop) : Cx := { X with xe := E }
/-- no exception leaves -/
abbrev Cx.nox (X : Cx) : Cx := X.wish fun _ _ => False
theorem Cx.Ok.wish {X : Cx} (ok : X.Ok) (E : Value → Shared → Prop) : (X.wish E).Ok :=
  ⟨ok.mod, ok.kind, ok.glob, ok.blt, ok.above, ok.inj, ok.has, ok.cab, ok.hd, ok.frames, ok.stk, ok.exf, ok.bs, ok.bsz, ok.noex, ok.exfs, ok.funs, ok.frf⟩
theorem Cx.Ok.unwish {X : Cx} {E : Value → Shared → Prop} (ok : (X.wish E).Ok) : X.Ok :=
  ⟨ok.mod, ok.kind, ok.glob, ok.blt, ok.above, ok.inj, ok.has, ok.cab, ok.hd, ok.frames, ok.stk, ok.exf, ok.bs, ok.bsz, ok.noex, ok.exfs, ok.funs, ok.frf⟩
section
variable {X : Cx} {pins : List (Addr × Obj)} {σ : St} {H : Hp} {s : Shared} {E : Value → Shared → Prop}
theorem Inv.wish (I : Inv X pins σ H s) (E : Value → Shared → Prop) : Inv (X.wish E) pins σ H s := ⟨I.ok.wish E, I.os, I.bare, I.base, I.loc, I.cell, I.free, I.freeC, I.pin, I.hok, I.len⟩
theorem Inv.unwish (I : Inv (X.wish E) pins σ H s) : Inv X pins σ H s := ⟨I.ok.unwish, I.os, I.bare, I.base, I.loc, I.cell, I.free, I.freeC, I.pin, I.hok, I.len⟩
theorem SP.unwish {D : Ends} {f : Flow} {s' : Shared} (h : SP (X.wish E) pins D f s') : SP X pins D f s' := by
  cases f with
  | next => obtain ⟨σ', H', I, q⟩ := h; exact ⟨σ', H', I.unwish, q⟩
  | brk => obtain ⟨σ', H', I, q⟩ := h; exact ⟨σ', H', I.unwish, q⟩
  | cont => obtain ⟨σ', H', I, q⟩ := h; exact ⟨σ', H', I.unwish, q⟩
  | ret u => obtain ⟨v, σ', H', I, r, q⟩ := h; exact ⟨v, σ', H', I.unwish, r, q⟩
theorem PE.nox {e : Expr} {t : TE} (h : PE X.nox e t) : PE X e t := fun pins s σ H Q I hw =>
  wpAny_mono (h pins s σ H Q (I.wish _) hw) (fun _ _ ⟨v, H', I', r, q⟩ => ⟨v, H', I'.unwish, r, q⟩) fun _ _ z => False.elim z
theorem PT.nox {e : Expr} {t : TT} (h : PT X.nox e t) : PT X e t := fun pins s σ H Q I hw =>
  wpAny_mono (h pins s σ H Q (I.wish _) hw) (fun _ _ ⟨H', I', q⟩ => ⟨H', I'.unwish, q⟩) fun _ _ z => False.elim z
theorem PSs.nox {st : List Stmt} {t : TS} (h : PSs X.nox st t) : PSs X st t := fun pins s σ H D I hw =>
  wpAny_mono (h pins s σ H D (I.wish _) hw) (fun _ _ q => q.unwish) fun _ _ z => False.elim z
end

/-! ### blocks and small statements -/
section
variable {X : Cx} {st : Stmt} {rest : List Stmt} {t u : TS} {e : Expr} {te : TE} {pos : Pos}
def tNext : TS := fun D σ H => D.nx σ H
def tSeq (t u : TS) : TS := fun D σ H => t { D with nx := u D } σ H
theorem pss_nil : PSs X [] tNext := fun _ _ σ H _ I h => wpAny_execs_nil ⟨σ, H, I, h⟩
theorem pss_cons (h1 : PS X st t) (h2 : PSs X rest u) : PSs X (st :: rest) (tSeq t u) := by
  intro pins s σ H D I h
  refine wpAny_execs_cons (thn (h1 pins s σ H { D with nx := u D } I h) fun f s1 q => ?_)
  cases f with
  | next =>
    obtain ⟨σ', H', I', q⟩ := q
    exact h2 pins s1 σ' H' D I' q
  | ret v => exact q
  | brk => exact q
  | cont => exact q
theorem pss_one (h1 : PS X st t) : PSs X [st] t := by
  intro pins s σ H D I h
  refine wpAny_execs_cons (thn (h1 pins s σ H D I h) fun f s1 q => ?_)
  cases f with
  | next => exact wpAny_execs_nil q
  | ret v => exact q
  | brk => exact q
  | cont => exact q
/-- in a def's body nothing is shown -/
theorem Inv.quiet {pins : List (Addr × Obj)} {σ : St} {H : Hp} {s : Shared} (I : Inv X pins σ H s) : interactive X.env = false := by simp [interactive, I.ok.kind]
/-- an expression whose value is dropped -/
def tDrop (te : TE) : TS := fun D σ H => te σ H fun _ H1 => D.nx σ H1
theorem ps_expr (he : PE X e te) (hs : swapsWith e none pos.line X.env = pure false := by rfl) : PS X (.Expr e pos) (tDrop te) := by
  intro pins s σ H D I h
  exact wpAny_Expr_any (thn (he pins s σ H _ I h) fun v s1 ⟨x, H1, I1, r1, q1⟩ => ⟨σ, H1, I1, q1⟩) I.quiet hs
def tRet (te : TE) : TS := fun D σ H => te σ H D.rt
theorem ps_ret (he : PE X e te) : PS X (.Return (some e) pos) (tRet te) := by
  intro pins s σ H D I h
  exact wpAny_Return_some (thn (he pins s σ H _ I h) fun v s1 ⟨x, H1, I1, r1, q1⟩ => ⟨x, σ, H1, I1, r1, q1⟩)
def tIfS (c : TT) (t u : TS) : TS := fun D σ H => c σ H fun b H1 => if b = true then t D σ H1 else u D σ H1
theorem ps_if {c : Expr} {a b : List Stmt} {tc : TT} (hc : PT X c tc) (ha : PSs X a t) (hb : PSs X b u) : PS X (.If c a b pos) (tIfS tc t u) := by
  intro pins s σ H D I h
  refine wpAny_If (thn (hc pins s σ H _ I h) fun d s1 ⟨H1, I1, q1⟩ => ?_)
  cases d with
  | true => exact ha pins s1 σ H1 D I1 q1
  | false => exact hb pins s1 σ H1 D I1 q1
/-- code that the proof never comes to -/
def tNever : TS := fun _ _ _ => False
theorem ps_never : PS X st tNever := fun _ _ _ _ _ _ h => h.elim
end

/-! ### targets -/
abbrev TG := V → St → Hp → (St → Hp → Prop) → Prop
abbrev TGs := List V → St → Hp → (St → Hp → Prop) → Prop
def PG (X : Cx) (target : Expr) (t : TG) : Prop :=
  ∀ (pins : List (Addr × Obj)) (s : Shared) (σ : St) (H : Hp) (v : V) (u : Value) (Q : St → Hp → Prop), Inv X pins σ H s → RelV v u → t v σ H Q →
    wpAny (model X.prog X.w) X.A (assign target X.env u) (fun _ s' => ∃ σ' H', Inv X pins σ' H' s' ∧ Q σ' H') X.xe s
/-- several targets, one after another -/
def PGs (X : Cx) (ts : List Expr) (t : TGs) : Prop :=
  ∀ (pins : List (Addr × Obj)) (s : Shared) (σ : St) (H : Hp) (vs : List V) (us : List Value) (Q : St → Hp → Prop), Inv X pins σ H s → Vals vs us → t vs σ H Q →
    wpAny (model X.prog X.w) X.A (assignInOrder ((assignEach ts X.env).map (·.2)) us) (fun _ s' => ∃ σ' H', Inv X pins σ' H' s' ∧ Q σ' H') X.xe s
/-- o[i] = v, by values -/
abbrev TSet := V → V → V → Hp → (Hp → Prop) → Prop
def PSet (X : Cx) (t : TSet) : Prop :=
  ∀ (pins : List (Addr × Obj)) (s : Shared) (σ : St) (H : Hp) (o i v : V) (ov iv u : Value) (Q : Hp → Prop), Inv X pins σ H s → RelV o ov → RelV i iv → RelV v u → t o i v H Q →
    wpAny (model X.prog X.w) X.A (setItem ov iv u) (fun _ s' => ∃ H', Inv X pins σ H' s' ∧ Q H') X.xe s
/-- a op= b, by values -/
abbrev TIp := V → V → Hp → VK → Prop
def PIp (X : Cx) (op : Operator) (t : TIp) : Prop :=
  ∀ (pins : List (Addr × Obj)) (s : Shared) (σ : St) (H : Hp) (x y : V) (v u : Value) (Q : VK), Inv X pins σ H s → RelV x v → RelV y u → t x y H Q →
    wpAny (model X.prog X.w) X.A (inplaceOp op v u) (EP X pins σ Q) X.xe s
section
variable {X : Cx} {pos : Pos}
def gName (i : Nat) : TG := fun v σ H Q => Q (σ.set i (some v)) H
theorem pg_name {i : Nat} {x : Str} (hN : X.N.Nodup) (hi : X.N[i]? = some x) (hx : Loc X.env.scope x) (hf : X.fn x = true ∨ X.env.scope.names.lookup x = some .local := by first | exact .inl rfl | exact .inr rfl | assumption) : PG X (.Name x pos) (gName i) := by
  intro pins s σ H v u Q I r h
  exact wpAny_assign_Name (store_ok I hN hi hx r (fun s' I' => ⟨_, H, I', h⟩) hf)
def gNil : TGs := fun vs σ H Q => vs = [] ∧ Q σ H
def gCons (t : TG) (u : TGs) : TGs := fun vs σ H Q => ∃ v r, vs = v :: r ∧ t v σ H fun σ' H' => u r σ' H' Q
theorem pgs_nil : PGs X [] gNil := by
  intro pins s σ H vs us Q I r h
  obtain ⟨e, h⟩ := h
  subst e
  cases r
  exact assignInOrder_nil ⟨σ, H, I, h⟩
theorem pgs_cons {e : Expr} {es : List Expr} {t : TG} {u : TGs} (h1 : PG X e t) (h2 : PGs X es u)
    (hs : (assignEach (e :: es) X.env).map (·.2) = assign e X.env :: (assignEach es X.env).map (·.2) := by rfl) : PGs X (e :: es) (gCons t u) := by
  intro pins s σ H vs us Q I r h
  obtain ⟨v, vr, e1, h⟩ := h
  subst e1
  cases r with
  | cons r rr =>
    rw [hs]
    refine assignInOrder_cons (thn (h1 pins s σ H _ _ _ I r h) fun _ s1 ⟨σ1, H1, I1, q1⟩ => ?_)
    exact h2 pins s1 σ1 H1 _ _ Q I1 rr q1
/-- (a, b, ..) = a tuple of that length -/
def gTup (K : PySem.W.Frag) (n : Nat) (t : TGs) : TG := fun v σ H Q => ∃ a xs, v = .ref a ∧ SqT K H a xs ∧ xs.length = n ∧ t xs σ H Q
theorem pg_tup {es : List Expr} {k : Nat} {t : TGs} {n : Nat} (hc : X.calm = true) (h : PGs X es t)
    (hn : (assignEach es X.env).length = n := by rfl) (hst : (assignEach es X.env).findIdx? (·.1) = none := by rfl) : PG X (.Tuple es k pos) (gTup X.K n t) := by
  intro pins s σ H v u Q I r hw
  obtain ⟨a, xs, e1, hq, hl, hw⟩ := hw
  subst e1
  cases r
  obtain ⟨its, rv, ht, hz⟩ := I.tuple hq
  refine assign_Tuple_tuple (I.ok.hd hc) ht (by simp [hn, ← hl, rv.length]) hst fun h' hx => ?_
  have I1 : Inv X pins σ H { s with heap := h' } := I.kept (t' := s.toks) fun b o e => hx b o (Nat.ne_of_lt (Heap.lt_size e)) e
  exact h pins _ σ H xs _ Q I1 (by simpa using rv) hw
/-- o[i] = .. -/
def gSub (to ti : TE) (t : TSet) : TG := fun v σ H Q => to σ H fun o H1 => ti σ H1 fun i H2 => t o i v H2 fun H3 => Q σ H3
theorem pg_sub {o i : Expr} {to ti : TE} {t : TSet} (ho : PE X o to) (hi : PE X i ti) (hs : PSet X t)
    (ha : ∀ v, assign (.Subscript o i pos) X.env v = (do
      let ov ← holding [v] (eval o X.env)
      let iv ← holding [v, ov] (eval i X.env)
      standAt pos
      holding [v, ov, iv] (setItem ov iv v)
      release [v, ov, iv] []) := by intro _; rfl) : PG X (.Subscript o i pos) (gSub to ti t) := by
  intro pins s σ H v u Q I r h
  rw [ha]
  refine wpAny_bind (wpAny_holding (thn (ho pins s σ H _ I h) fun ov s1 ⟨x, H1, I1, r1, q1⟩ => ?_))
  refine wpAny_bind (wpAny_holding (thn (hi pins s1 σ H1 _ I1 q1) fun iv s2 ⟨y, H2, I2, r2, q2⟩ => ?_))
  refine wpAny_bind (wpAny_standAt (wpAny_bind (wpAny_holding (thn (hs pins s2 σ H2 x y v ov iv u _ I2 r1 r2 r q2) fun _ s3 ⟨H3, I3, q3⟩ => ?_))))
  exact wpAny_release ⟨σ, H3, I3, q3⟩
/-- target = value -/
def tAsg (te : TE) (g : TG) : TS := fun D σ H => te σ H fun x H1 => g x σ H1 D.nx
theorem ps_asg {tg e : Expr} {te : TE} {g : TG} (he : PE X e te) (hg : PG X tg g) (hs : swapsWithSole [tg] e pos.line X.env = pure false := by rfl) (hw : swappedStores [tg] e X.env = pure none := by rfl)
    (h1 : (assignEach [tg] X.env).map (·.2) = [assign tg X.env] := by rfl) : PS X (.Assign [tg] e pos) (tAsg te g) := by
  intro pins s σ H D I h
  refine wpAny_Assign_stores (thn (he pins s σ H _ I h) fun v s1 ⟨x, H1, I1, r1, q1⟩ => ?_) hs hw
  rw [h1]
  exact thn (hg pins s1 σ H1 x v _ I1 r1 q1) fun _ s2 q => q
/-- name = value -/
theorem ps_set {i : Nat} {x : Str} {e : Expr} {te : TE} {pos' : Pos} (hN : X.N.Nodup) (hi : X.N[i]? = some x) (hx : Loc X.env.scope x) (he : PE X e te) (hs : swapsWith e (some (.Name x pos')) pos.line X.env = pure false := by rfl) (hf : X.fn x = true ∨ X.env.scope.names.lookup x = some .local := by first | exact .inl rfl | exact .inr rfl | assumption) :
    PS X (.Assign [.Name x pos'] e pos) (tAsg te (gName i)) := by
  intro pins s σ H D I h
  refine wpAny_Assign_Name (thn (he pins s σ H _ I h) fun v s1 ⟨y, H1, I1, r1, q1⟩ => ?_) hs
  exact store_ok I1 hN hi hx r1 (fun s2 I2 => ⟨_, H1, I2, q1⟩) hf
end

/-! ### while -/
section
variable {X : Cx} {pos : Pos}
end

/-! ### what a loop or a comprehension walks -/
/-- at turn i: it yields x (the heap may grow), or it stops -/
structure It where
  go : Nat → Hp → Prop
  yld : Nat → Hp → V → Hp → Prop
  stop : Nat → Hp → Prop
/-- the iterator's own objects may turn: they are not the frame's, not pinned, younger than the entry (or a comprehension's own) -/
def FpOk (X : Cx) (pins : List (Addr × Obj)) (H : Hp) (b : Addr) : Prop :=
  H b = none ∧ b ≠ X.env.locals ∧ b ∉ X.fs ∧ (b ∈ X.ex ∨ X.s₀.heap.objs.size ≤ b) ∧ (∀ x c, X.env.cells.lookup x = some c → c ≠ b) ∧ ∀ p ∈ X.pn ++ pins, p.1 ≠ b
theorem Inv.fpOk {X : Cx} {pins : List (Addr × Obj)} {σ : St} {H H' : Hp} {s : Shared} {b : Addr} (I : Inv X pins σ H s) (hb : s.heap.objs.size ≤ b) (hn : H' b = none) : FpOk X pins H' b := by
  refine ⟨hn, Nat.ne_of_gt (Nat.lt_of_lt_of_le I.lt hb), I.nofs hb, .inr (Nat.le_trans I.sz hb), fun x c e z => ?_, fun p hp z => ?_⟩
  · obtain ⟨v, q⟩ := I.cell x c e
    exact absurd (Nat.lt_of_lt_of_le q.lt (by rw [z]; exact hb)) (Nat.lt_irrefl _)
  · exact absurd (Nat.lt_of_lt_of_le (Heap.lt_size (I.pin p hp).1) (by rw [z]; exact hb)) (Nat.lt_irrefl _)
structure Turn (P : Program) (w : World) (K : PySem.W.Frag) (tg : Expr) (J : It) (fp : List Addr) (it : Addr) (tn : Nat → Heap → Prop) : Prop where
  mem : it ∈ fp
  obj : ∀ i h, tn i h → ∀ b ∈ fp, ∃ o, h.get? b = some o ∧ ∀ v, o.data ≠ .cell v
  keep : ∀ i h h', tn i h → (∀ b ∈ fp, ∀ o, h.get? b = some o → h'.get? b = some o) → tn i h'
  item : ∀ (X : Cx), X.prog = P → X.w = w → X.K = K → X.calm = true → ∀ (i : Nat) (pins : List (Addr × Obj)) (s : Shared) (σ : St) (H : Hp) (E : Value → Shared → Prop), Inv X pins σ H s → (∀ b ∈ fp, FpOk X pins H b) → tn i s.heap → J.go i H →
    wpAny (model P w) X.A (pyNext (.ref it)) (fun r s1 => ∃ u, r = some u ∧
      wpAny (model P w) X.A (letOwnedTupleGo tg (.ref it) u) (fun _ s2 => ∃ x H', Inv X pins σ H' s2 ∧ RelV x u ∧ J.yld i H x H' ∧ tn (i + 1) s2.heap ∧ ∀ b ∈ fp, H' b = none) E s1) E s
  done : ∀ (X : Cx), X.prog = P → X.w = w → X.K = K → X.calm = true → ∀ (i : Nat) (pins : List (Addr × Obj)) (s : Shared) (σ : St) (H : Hp) (E : Value → Shared → Prop), Inv X pins σ H s → (∀ b ∈ fp, FpOk X pins H b) → tn i s.heap → J.stop i H →
    wpAny (model P w) X.A (pyNext (.ref it)) (fun r s1 => r = none ∧ Inv X pins σ H s1) E s
  self : ∀ (A : Around) (i : Nat) (s : Shared) (Q : Value → Shared → Prop) (E : Value → Shared → Prop), tn i s.heap → Q (.ref it) s → wpAny (model P w) A (pyIter (.ref it)) Q E s
abbrev TI := St → Hp → (It → Hp → Prop) → Prop
/-- an iterator has come -/
def PIE (X : Cx) (pins : List (Addr × Obj)) (σ : St) (tg : Expr) (R : It → Hp → Prop) (itv : Value) (s2 : Shared) : Prop :=
  ∃ (it : Addr) (fp : List Addr) (tn : Nat → Heap → Prop) (J : It) (H' : Hp), itv = .ref it ∧ Inv X pins σ H' s2 ∧ Turn X.prog X.w X.K tg J fp it tn ∧ tn 0 s2.heap ∧ (∀ b ∈ fp, FpOk X pins H' b) ∧ R J H'
def PI (X : Cx) (tg iter : Expr) (wi : TI) : Prop :=
  ∀ (pins : List (Addr × Obj)) (s : Shared) (σ : St) (H : Hp) (R : It → Hp → Prop), Inv X pins σ H s → wi σ H R →
    wpAny (model X.prog X.w) X.A (eval iter X.env) (fun v s1 => wpAny (model X.prog X.w) X.A (pyIter v) (PIE X pins σ tg R) X.xe s1) X.xe s

/-- the step ahead of the store is nothing for an iterator that keeps no tuple -/
theorem go_of {M : Model} {A : Around} {E : Value → Shared → Prop} {s : Shared} {tg : Expr} {it : Addr} {u : Value} {o : Obj} {n : String} {vs : Array Value} {Q : Unit → Shared → Prop} (ho : s.heap.get? it = some o) (hc : o.cls = .type n) (hd : o.data = .fields vs)
    (hn : ["enumerate", "zip", "dict_itemiterator", "dict_reverseitemiterator", "odict_iterator", "itertools.zip_longest", "itertools.pairwise"].contains n = false) (hQ : Q () s) : wpAny M A (letOwnedTupleGo tg (.ref it) u) Q E s := by
  unfold letOwnedTupleGo
  cases tg <;> first
    | exact wpAny_pure hQ
    | (cases u <;> first
        | exact wpAny_pure hQ
        | (refine wpAny_bind (wpAny_load ho ?_)
           rw [hc, hd]
           show wpAny M A (if (["enumerate", "zip", "dict_itemiterator", "dict_reverseitemiterator", "odict_iterator", "itertools.zip_longest", "itertools.pairwise"].contains n && vs[0]? == some (rawInt _)) = true then _ else _) Q E s
           rw [if_neg (by intro h; rw [hn, Bool.false_and] at h; cases h)]
           exact wpAny_pure hQ))

/-- the list at a, as it stands at each turn (a loop may append to it) -/
def Itl (K : PySem.W.Frag) (a : Addr) : It :=
  ⟨fun i H => ∃ xs x, SqL K H a xs ∧ xs[i]? = some x, fun i H x H' => H' = H ∧ ∀ xs, SqL K H a xs → xs[i]? = some x, fun i H => ∃ xs, SqL K H a xs ∧ xs.length ≤ i⟩
/-- lo, lo + 1, .. (n of them) -/
def Itr (lo : Int) (n : Nat) : It := ⟨fun i _ => i < n, fun i H x H' => H' = H ∧ x = .int (lo + i), fun i _ => n ≤ i⟩
theorem turn_list {P : Program} {w : World} {K : PySem.W.Frag} {tg : Expr} (a it : Addr) : Turn P w K tg (Itl K a) [it] it (fun i h => h.IsListIter it a i) where
  mem := by simp
  obj := fun i h st b hb => by
    have e : b = it := by simpa using hb
    subst e
    obtain ⟨o, e, c, d⟩ := st
    exact ⟨o, e, fun v z => by rw [d] at z; cases z⟩
  keep := fun i h h' st k => st.at fun o e => k it (by simp) o e
  item := by
    intro X hP hw hK hc i pins s σ H E I hf st hg
    subst hP hw hK
    obtain ⟨xs, x, hq, hx⟩ := hg
    obtain ⟨its, rv, p, hz⟩ := I.list hq
    obtain ⟨u, hu, ru⟩ := rv.get hx
    obtain ⟨f0, f1, f2, f3, f4, f5⟩ := hf it (by simp)
    refine wpAny_pyNext_list_item st p.isList (x := u) (by simpa using hu) fun h' st' sb => ?_
    have I1 : Inv X pins σ H { s with heap := h' } := I.turned (t' := s.toks) (fun b o hb e => (sb.2 b hb).trans e) f0 f1 f3 f4 f5
    obtain ⟨o, e, c, d⟩ := id st'
    exact ⟨u, rfl, go_of (s := { s with heap := h' }) e c d (by decide) ⟨x, H, I1, ru, ⟨rfl, fun ys hy => by rw [I.list_inj hy hq]; exact hx⟩, st', fun b hb => (hf b hb).1⟩⟩
  done := by
    intro X hP hw hK hc i pins s σ H E I hf st hg
    subst hP hw hK
    obtain ⟨xs, hq, hx⟩ := hg
    obtain ⟨its, rv, p, hz⟩ := I.list hq
    obtain ⟨f0, f1, f2, f3, f4, f5⟩ := hf it (by simp)
    have hl := rv.length
    exact wpAny_pyNext_list_end (I.ok.hd hc) st p.isList (by simp; omega) fun h' eb => ⟨rfl, I.turned (t' := s.toks) (fun b o hb e => eb b o hb e) f0 f1 f3 f4 f5⟩
  self := fun _ _ _ _ _ st h => wpAny_pyIter_listiter st h
theorem turn_range {P : Program} {w : World} {K : PySem.W.Frag} {tg : Expr} (it : Addr) (lo : Int) (n : Nat) : Turn P w K tg (Itr lo n) [it] it (fun i h => IsRangeIter h it (lo + (i : Nat) * 1) ((n : Int) - (i : Nat)) 1) where
  mem := by simp
  obj := fun i h st b hb => by
    have e : b = it := by simpa using hb
    subst e
    exact ⟨_, st, fun v z => by
      have z' : Data.fields _ = Data.cell v := z
      cases z'⟩
  keep := fun i h h' st k => k it (by simp) _ st
  item := by
    intro X hP hw hK hc i pins s σ H E I hf st hg
    subst hP hw hK
    obtain ⟨f0, f1, f2, f3, f4, f5⟩ := hf it (by simp)
    have W := Walks.range (prog := X.prog) (w := X.w) (I.ok.hd hc) it lo 1 n
    refine W.item i s _ _ hg st fun v h' tk hv st' kk => ?_
    obtain ⟨t, rfl⟩ := hv
    have I1 : Inv X pins σ H { s with heap := h', toks := tk } := I.turned (fun b o hb e => kk b o (by simpa using hb) e) f0 f1 f3 f4 f5
    refine ⟨_, rfl, go_of (s := { s with heap := h', toks := tk }) (n := "range_iterator") st' rfl rfl (by decide) ⟨.int (lo + i), H, I1, ⟨t, ?_⟩, ⟨rfl, rfl⟩, st', fun b hb => (hf b hb).1⟩⟩
    rw [Int.mul_one]
  done := by
    intro X hP hw hK hc i pins s σ H E I hf st hg
    subst hP hw hK
    obtain ⟨f0, f1, f2, f3, f4, f5⟩ := hf it (by simp)
    exact wpAny_pyNext_range_end (I.ok.hd hc) st (by have : n ≤ i := hg; omega) fun h' eb => ⟨rfl, I.turned (t' := s.toks) (fun b o hb e => eb b o hb e) f0 f1 f3 f4 f5⟩
  self := fun _ _ _ _ _ st h => wpAny_pyIter_rangeiter st h
end L2

namespace L2
open PySem PySem.Spec PyProof.Rows
section
variable {X : Cx} {tg : Expr}
def iList (K : PySem.W.Frag) (tl : TE) : TI := fun σ H R => tl σ H fun x H1 => ∃ a, x = .ref a ∧ (∃ xs, SqL K H1 a xs) ∧ R (Itl K a) H1
theorem pi_list {l : Expr} {tl : TE} (hl : PE X l tl) : PI X tg l (iList X.K tl) := by
  intro pins s σ H R I h
  refine thn (hl pins s σ H _ I h) fun v s1 ⟨x, H1, I1, r1, q1⟩ => ?_
  obtain ⟨a, e, ⟨xs, hq⟩, q⟩ := q1
  subst e
  cases r1
  obtain ⟨its, rv, p, hz⟩ := I1.list hq
  refine wpAny_pyIter_list p.isList ?_
  refine ⟨s1.heap.objs.size, [s1.heap.objs.size], _, _, H1, rfl, I1.kept (t' := s1.toks) fun b o e => Heap.get?_push_of_some _ e, turn_list a _, ⟨_, Heap.get?_push_size _ rfl, rfl, rfl⟩, fun b hb => ?_, q⟩
  have e : b = s1.heap.objs.size := by simpa using hb
  subst e
  exact I1.fpOk (Nat.le_refl _) (I1.hok.fresh (Nat.le_refl _))
/-- a range object just made, walked -/
theorem range_it {pins : List (Addr × Obj)} {σ : St} {H : Hp} {s : Shared} {R : It → Hp → Prop} {E : Value → Shared → Prop} {lo hi : Int} {t u v : Tok} {tk : Nat} (I : Inv X pins σ H s) (h1 : -(2 ^ 62) ≤ lo) (h2 : lo < 2 ^ 62) (h3 : -(2 ^ 62) ≤ hi) (h4 : hi < 2 ^ 62)
    (q : R (Itr lo (hi - lo).toNat) H) : wpAny (model X.prog X.w) X.A (pyIter (.ref s.heap.objs.size)) (PIE X pins σ tg R) E { s with heap := s.heap.push { cls := .type "range", data := .fields #[.int lo t, .int hi u, .int 1 v] }, toks := tk } := by
  refine wpAny_pyIter_range (IsRange.new ..) (small_one h1 h2 h3 h4) ?_
  have I1 : Inv X pins σ H { s with heap := s.heap.push { cls := .type "range", data := .fields #[.int lo t, .int hi u, .int 1 v] }, toks := tk } := I.kept fun b o e => Heap.get?_push_of_some _ e
  refine ⟨(s.heap.push { cls := .type "range", data := .fields #[.int lo t, .int hi u, .int 1 v] }).objs.size, [(s.heap.push { cls := .type "range", data := .fields #[.int lo t, .int hi u, .int 1 v] }).objs.size], _, _, H, rfl,
    I1.kept (t' := tk) fun b o e => Heap.get?_push_of_some _ e, turn_range _ lo (hi - lo).toNat, ?_, fun b hb => ?_, q⟩
  · have e1 : lo + ((0 : Nat) : Int) * 1 = lo := by simp
    have e2 : (((hi - lo).toNat : Nat) : Int) - ((0 : Nat) : Int) = Builtin.Range.rangeSize lo hi 1 := by rw [rangeSize_one]; split <;> omega
    show IsRangeIter _ _ (lo + ((0 : Nat) : Int) * 1) ((((hi - lo).toNat : Nat) : Int) - ((0 : Nat) : Int)) 1
    rw [e1, e2]
    exact Heap.get?_push_size _ rfl
  · have e : b = (s.heap.push { cls := .type "range", data := .fields #[.int lo t, .int hi u, .int 1 v] }).objs.size := by simpa using hb
    subst e
    exact I1.fpOk (Nat.le_refl _) (I1.hok.fresh (Nat.le_refl _))
def iRng1 (ta : TA) : TI := fun σ H R => ta σ H fun vs H1 => ∃ j : Int, vs = [.int j] ∧ -(2 ^ 62) ≤ j ∧ j < 2 ^ 62 ∧ R (Itr 0 j.toNat) H1
theorem pi_range1 {a : Expr} {ta : TA} {p pos : Pos} (hg : Gl X "range") (hm : X.mg "range" = none) (ha : PA X [a] ta) (hs : starEach [a] X.env = [(false, eval a X.env)] := by rfl) : PI X tg (.Call (.Name "range" p) [a] [] pos) (iRng1 ta) := by
  intro pins s σ H R I h
  refine Call_ (ld_blt I hg hm boot_range (PyProof.Rows.callWith_type1 (thn (ha pos pins s σ H _ I h) fun us s1 ⟨vs, H1, I1, r1, q1⟩ => ?_) hs rfl))
  obtain ⟨j, e, q1, q2, q⟩ := q1
  subst e
  cases r1 with
  | cons r rr =>
    cases rr
    obtain ⟨t, rfl⟩ := r
    exact call_range_1 (range_it I1 (by omega) (by omega) q1 q2 (by simpa using q))
/-! ### for -/
/-- W: the invariant by the turn and a measure; N: what the body is to reach -/
def tFor (wi : TI) (g : TG) (tb : TS) : TS := fun D σ H => wi σ H fun J H1 => ∃ W : Nat → Nat → St → Hp → Prop, (∃ m, W 0 m σ H1) ∧ ∀ i m σ H, W i m σ H →
  (J.stop i H ∧ D.nx σ H) ∨ (J.go i H ∧ ∃ N : St → Hp → Prop, (∀ σ' H', N σ' H' → ∃ m', m' < m ∧ W (i + 1) m' σ' H') ∧ ∀ x H', J.yld i H x H' → g x σ H' fun σ2 H2 => tb { D with nx := N, ct := N, bk := D.nx } σ2 H2)
/-- the records at fp as they stand -/
def pinsAt (fp : List Addr) (h : Heap) : List (Addr × Obj) := fp.filterMap fun b => (h.get? b).map fun o => (b, o)
theorem mem_pinsAt {fp : List Addr} {h : Heap} {b : Addr} {o : Obj} (hb : b ∈ fp) (e : h.get? b = some o) : (b, o) ∈ pinsAt fp h := List.mem_filterMap.mpr ⟨b, hb, by rw [e]; rfl⟩
theorem of_pinsAt {fp : List Addr} {h : Heap} {p : Addr × Obj} (hp : p ∈ pinsAt fp h) : p.1 ∈ fp ∧ h.get? p.1 = some p.2 := by
  obtain ⟨b, hb, e⟩ := List.mem_filterMap.mp hp
  cases q : h.get? b with
  | none => rw [q] at e; cases e
  | some o =>
    rw [q] at e
    have e' : (b, o) = p := Option.some.inj e
    subst e'
    exact ⟨hb, q⟩
theorem Inv.pinned {pins : List (Addr × Obj)} {σ : St} {H : Hp} {s : Shared} {fp : List Addr} (I : Inv X pins σ H s) (hf : ∀ b ∈ fp, FpOk X pins H b) (ho : ∀ b ∈ fp, ∃ o, s.heap.get? b = some o ∧ ∀ v, o.data ≠ .cell v) : Inv X (pins ++ pinsAt fp s.heap) σ H s :=
  I.pins_of fun p hp => (List.mem_append.mp hp).elim (fun z => I.pin p (List.mem_append_right _ z)) fun z => by
    obtain ⟨hb, e⟩ := of_pinsAt z
    obtain ⟨f0, f1, f2, _⟩ := hf p.1 hb
    obtain ⟨o, e', d⟩ := ho p.1 hb
    rw [e] at e'; cases e'
    exact ⟨e, f0, f1, f2, d⟩
theorem Inv.unpinned {pins pl : List (Addr × Obj)} {σ : St} {H : Hp} {s : Shared} (I : Inv X (pins ++ pl) σ H s) : Inv X pins σ H s := I.pins_of fun p hp => I.pin p (List.mem_append_right _ (List.mem_append_left _ hp))
theorem ps_for {iter : Expr} {body : List Stmt} {wi : TI} {g : TG} {tb : TS} {pos : Pos} (hp : PassesOwn (model X.prog X.w) X.A X.env X.xe) (hc : X.calm = true) (hi : PI X tg iter wi) (hg : PG X tg g) (hb : PSs X body tb)
    (hs : ∀ x, foldedSetIterable iter X.env x = pure x := by intro _; rfl) : PS X (.For tg iter body [] pos) (tFor wi g tb) := by
  intro pins s σ H D I h
  refine wpAny_For (thn (hi pins s σ H _ I h) fun v s1 h1 => thn h1 fun itv s2 h2 => ?_) hs
  obtain ⟨it, fp, tn, J, H2, e, I2, T, st2, f2, W, ⟨m0, w0⟩, turn⟩ := h2
  subst e
  -- what stays true of the iterator's objects through the loop
  have stat : ∀ {H' : Hp}, (∀ b ∈ fp, H' b = none) → ∀ b ∈ fp, FpOk X pins H' b := fun hn b hb => ⟨hn b hb, (f2 b hb).2⟩
  refine codeAny_forLoop_any (fun n s' => ∃ i σ' H', Inv X pins σ' H' s' ∧ tn i s'.heap ∧ (∀ b ∈ fp, H' b = none) ∧ W i n σ' H') ?_ m0 ⟨0, σ, H2, I2, st2, fun b hb => (f2 b hb).1, w0⟩
  rintro n s3 ⟨i, σ3, H3, I3, st3, fr3, w3⟩
  rcases turn i n σ3 H3 w3 with ⟨stop, qn⟩ | ⟨go, N, hN, step⟩
  · refine wpAny_passesOwn hp (thn (T.done X rfl rfl rfl hc i pins s3 σ3 H3 X.xe I3 (stat fr3) st3 stop) fun r s4 ⟨hr, I4⟩ => ?_)
    subst hr
    exact wpAny_execs_nil ⟨σ3, H3, I4, qn⟩
  · refine wpAny_passesOwn hp (thn (T.item X rfl rfl rfl hc i pins s3 σ3 H3 X.xe I3 (stat fr3) st3 go) fun r s4 ⟨u, hr, h4⟩ => ?_)
    subst hr
    refine wpAny_passesOwn hp (thn h4 fun _ s5 ⟨x, H5, I5, r5, y5, st5, fr5⟩ => ?_)
    have I5' := I5.pinned (stat fr5) (T.obj _ _ st5)
    refine wpAny_passesOwn hp (thn (hg _ s5 σ3 H5 x u _ I5' r5 (step x H5 y5)) fun _ s6 ⟨σ6, H6, I6, q6⟩ => ?_)
    refine wpAny_passesOwn hp (thn (hb _ s6 σ6 H6 _ I6 q6) fun f s7 q7 => ?_)
    have again : ∀ {σ7 : St} {H7 : Hp}, Inv X (pins ++ pinsAt fp s5.heap) σ7 H7 s7 → N σ7 H7 → ∃ m, m < n ∧ ∃ i σ' H', Inv X pins σ' H' s7 ∧ tn i s7.heap ∧ (∀ b ∈ fp, H' b = none) ∧ W i m σ' H' := fun {σ7 H7} I7 n7 => by
      obtain ⟨m', hm, w7⟩ := hN σ7 H7 n7
      refine ⟨m', hm, i + 1, σ7, H7, I7.unpinned, T.keep _ _ _ st5 fun b hb o e => (I7.pin (b, o) (List.mem_append_right _ (List.mem_append_right _ (mem_pinsAt hb e)))).1, fun b hb => ?_, w7⟩
      obtain ⟨o, e, d⟩ := T.obj _ _ st5 b hb
      exact (I7.pin (b, o) (List.mem_append_right _ (List.mem_append_right _ (mem_pinsAt hb e)))).2.1
    cases f with
    | next => obtain ⟨σ7, H7, I7, n7⟩ := q7; exact again I7 n7
    | cont => obtain ⟨σ7, H7, I7, n7⟩ := q7; exact again I7 n7
    | brk => obtain ⟨σ7, H7, I7, q7⟩ := q7; exact ⟨σ7, H7, I7.unpinned, q7⟩
    | ret v => obtain ⟨x7, σ7, H7, I7, r7, q7⟩ := q7; exact ⟨x7, σ7, H7, I7.unpinned, r7, q7⟩
end

/-! ### the forms one uses -/
/-- over a list that the body leaves as it is -/
theorem for_list {K : PySem.W.Frag} {a : Addr} {xs : List V} {g : TG} {tb : TS} {D : Ends} {σ : St} {H : Hp} (Pv : Nat → St → Hp → Prop) (h0 : Pv 0 σ H) (hl : ∀ i σ H, i ≤ xs.length → Pv i σ H → SqL K H a xs)
    (hs : ∀ i x σ H, xs[i]? = some x → Pv i σ H → g x σ H fun σ2 H2 => tb { D with nx := Pv (i + 1), ct := Pv (i + 1), bk := D.nx } σ2 H2) (hd : ∀ σ H, Pv xs.length σ H → D.nx σ H) :
    ∃ W : Nat → Nat → St → Hp → Prop, (∃ m, W 0 m σ H) ∧ ∀ i m σ H, W i m σ H →
      ((Itl K a).stop i H ∧ D.nx σ H) ∨ ((Itl K a).go i H ∧ ∃ N : St → Hp → Prop, (∀ σ' H', N σ' H' → ∃ m', m' < m ∧ W (i + 1) m' σ' H') ∧ ∀ x H', (Itl K a).yld i H x H' → g x σ H' fun σ2 H2 => tb { D with nx := N, ct := N, bk := D.nx } σ2 H2) := by
  refine ⟨fun i m σ H => m = xs.length - i ∧ i ≤ xs.length ∧ Pv i σ H, ⟨xs.length, by simp, Nat.zero_le _, h0⟩, ?_⟩
  rintro i m σ H ⟨rfl, hi, p⟩
  have q := hl i σ H hi p
  by_cases hlt : i < xs.length
  · refine .inr ⟨⟨xs, xs[i], q, by simp [hlt]⟩, Pv (i + 1), fun σ' H' p' => ⟨xs.length - (i + 1), by omega, rfl, hlt, p'⟩, fun x H' y => ?_⟩
    obtain ⟨e, y⟩ := y
    subst e
    exact hs i x σ _ (y xs q) p
  · have e : i = xs.length := by omega
    subst e
    exact .inl ⟨⟨xs, q, Nat.le_refl _⟩, hd σ H p⟩
theorem for_range {lo : Int} {n : Nat} {g : TG} {tb : TS} {D : Ends} {σ : St} {H : Hp} (Pv : Nat → St → Hp → Prop) (h0 : Pv 0 σ H)
    (hs : ∀ i σ H, i < n → Pv i σ H → g (.int (lo + i)) σ H fun σ2 H2 => tb { D with nx := Pv (i + 1), ct := Pv (i + 1), bk := D.nx } σ2 H2) (hd : ∀ σ H, Pv n σ H → D.nx σ H) :
    ∃ W : Nat → Nat → St → Hp → Prop, (∃ m, W 0 m σ H) ∧ ∀ i m σ H, W i m σ H →
      ((Itr lo n).stop i H ∧ D.nx σ H) ∨ ((Itr lo n).go i H ∧ ∃ N : St → Hp → Prop, (∀ σ' H', N σ' H' → ∃ m', m' < m ∧ W (i + 1) m' σ' H') ∧ ∀ x H', (Itr lo n).yld i H x H' → g x σ H' fun σ2 H2 => tb { D with nx := N, ct := N, bk := D.nx } σ2 H2) := by
  refine ⟨fun i m σ H => m = n - i ∧ i ≤ n ∧ Pv i σ H, ⟨n, by simp, Nat.zero_le _, h0⟩, ?_⟩
  rintro i m σ H ⟨rfl, hi, p⟩
  by_cases hlt : i < n
  · refine .inr ⟨hlt, Pv (i + 1), fun σ' H' p' => ⟨n - (i + 1), by omega, rfl, hlt, p'⟩, fun x H' y => ?_⟩
    obtain ⟨e, y⟩ := y
    subst e y
    exact hs i σ _ hlt p
  · have e : i = n := by omega
    subst e
    exact .inl ⟨Nat.le_refl _, hd σ H p⟩
end L2

namespace L2
open PySem PySem.Spec PyProof.Rows

abbrev R2 := V → V → Hp → VK → Prop
/-- a two-place operation on values: f is binaryOp op, inplaceOp op or compareOp op -/
def OpR (X : Cx) (f : Value → Value → Sem Value) (r : R2) : Prop :=
  ∀ (pins : List (Addr × Obj)) (s : Shared) (σ : St) (H : Hp) (x y : V) (v u : Value) (Q : VK), Inv X pins σ H s → RelV x v → RelV y u → r x y H Q →
    wpAny (model X.prog X.w) X.A (f v u) (EP X pins σ Q) X.xe s
/-- a one-place operation -/
def UnR (X : Cx) (f : Value → Sem Value) (r : V → Hp → VK → Prop) : Prop :=
  ∀ (pins : List (Addr × Obj)) (s : Shared) (σ : St) (H : Hp) (x : V) (v : Value) (Q : VK), Inv X pins σ H s → RelV x v → r x H Q →
    wpAny (model X.prog X.w) X.A (f v) (EP X pins σ Q) X.xe s
/-- a call of a value that is known (a builtin, a type) with values -/
def CallR (X : Cx) (f : Value) (r : List V → Hp → VK → Prop) : Prop :=
  ∀ (pins : List (Addr × Obj)) (s : Shared) (σ : St) (H : Hp) (xs : List V) (us : List Value) (Q : VK), Inv X pins σ H s → Vals xs us → r xs H Q →
    wpAny (model X.prog X.w) X.A (call f us) (EP X pins σ Q) X.xe s
def tOp (r : R2) (ta tb : TE) : TE := fun σ H Q => ta σ H fun x H1 => tb σ H1 fun y H2 => r x y H2 Q
def tUn (r : V → Hp → VK → Prop) (ta : TE) : TE := fun σ H Q => ta σ H fun x H1 => r x H1 Q
/-- ints in, under C, and a value out -/
def rI (C : Int → Int → Prop) (g : Int → Int → V) : R2 := fun x y H Q => ∃ i j, x = .int i ∧ y = .int j ∧ C i j ∧ Q (g i j) H
def rI0 (g : Int → Int → V) : R2 := fun x y H Q => ∃ i j, x = .int i ∧ y = .int j ∧ Q (g i j) H
def rU (g : Int → V) : V → Hp → VK → Prop := fun x H Q => ∃ i, x = .int i ∧ Q (g i) H

section
variable {X : Cx} {a b c : Expr} {ta tb tc : TE} {pos : Pos}

theorem binT (ha : PE X a ta) (hb : PE X b tb) {pins : List (Addr × Obj)} {s : Shared} {σ : St} {H : Hp} {R : V → V → Hp → Prop} (I : Inv X pins σ H s)
    (h : ta σ H fun x H1 => tb σ H1 fun y H2 => R x y H2) {Q : Value → Shared → Prop} {f : Value → Value → Sem Value}
    (hf : ∀ v u s2 x y H2, Inv X pins σ H2 s2 → RelV x v → RelV y u → R x y H2 → wpAny (model X.prog X.w) X.A (f v u) Q X.xe s2) :
    wpAny (model X.prog X.w) X.A (eval a X.env) (fun v s₁ => wpAny (model X.prog X.w) X.A (eval b X.env) (fun u s₂ => wpAny (model X.prog X.w) X.A (f v u) Q X.xe s₂) X.xe s₁) X.xe s := by
  refine thn (ha pins s σ H _ I h) fun v s1 ⟨x, H1, I1, r1, q1⟩ => ?_
  refine thn (hb pins s1 σ H1 _ I1 q1) fun u s2 ⟨y, H2, I2, r2, q2⟩ => ?_
  exact hf v u s2 x y H2 I2 r1 r2 q2

theorem pe_op {op : Operator} {r : R2} (ho : OpR X (binaryOp op) r) (ha : PE X a ta) (hb : PE X b tb) : PE X (.BinOp a op b pos) (tOp r ta tb) := by
  intro pins s σ H Q I h
  exact wpAny_BinOp (binT ha hb I h fun v u s2 x y H2 I2 rx ry q => ho pins s2 σ H2 x y v u Q I2 rx ry q)
theorem pe_un {op : UnaryOp} {r : V → Hp → VK → Prop} (ho : UnR X (unaryOp op) r) (ha : PE X a ta) : PE X (.UnaryOp op a pos) (tUn r ta) := by
  intro pins s σ H Q I h
  exact UnaryOp_ (thn (ha pins s σ H _ I h) fun v s1 ⟨x, H1, I1, r1, q1⟩ => ho pins s1 σ H1 x v Q I1 r1 q1)
/-! ### ints -/
theorem opI {f : Value → Value → Sem Value} {C : Int → Int → Prop} {g : Int → Int → Int}
    (rule : ∀ (i j : Int) (t u : Tok) (s : Shared) (Q : Value → Shared → Prop) (E : Value → Shared → Prop), C i j → Q (.int (g i j) s.toks) { s with toks := s.toks + 1 } → wpAny (model X.prog X.w) X.A (f (.int i t) (.int j u)) Q E s) :
    OpR X f (rI C fun i j => .int (g i j)) := by
  intro pins s σ H x y v u Q I rx ry h
  obtain ⟨i, j, rfl, rfl, hc, q⟩ := h
  obtain ⟨t, rfl⟩ := rx
  obtain ⟨t', rfl⟩ := ry
  exact rule i j t t' s _ _ hc ⟨.int (g i j), H, I.tok _, ⟨_, rfl⟩, q⟩
theorem opI0 {f : Value → Value → Sem Value} {g : Int → Int → Int}
    (rule : ∀ (i j : Int) (t u : Tok) (s : Shared) (Q : Value → Shared → Prop) (E : Value → Shared → Prop), Q (.int (g i j) s.toks) { s with toks := s.toks + 1 } → wpAny (model X.prog X.w) X.A (f (.int i t) (.int j u)) Q E s) :
    OpR X f (rI0 fun i j => .int (g i j)) := by
  intro pins s σ H x y v u Q I rx ry h
  obtain ⟨i, j, rfl, rfl, q⟩ := h
  obtain ⟨t, rfl⟩ := rx
  obtain ⟨t', rfl⟩ := ry
  exact rule i j t t' s _ _ ⟨.int (g i j), H, I.tok _, ⟨_, rfl⟩, q⟩
theorem opB0 {f : Value → Value → Sem Value} {g : Int → Int → Bool}
    (rule : ∀ (i j : Int) (t u : Tok) (s : Shared) (Q : Value → Shared → Prop) (E : Value → Shared → Prop), Q (.bool (g i j)) s → wpAny (model X.prog X.w) X.A (f (.int i t) (.int j u)) Q E s) :
    OpR X f (rI0 fun i j => .bl (g i j)) := by
  intro pins s σ H x y v u Q I rx ry h
  obtain ⟨i, j, rfl, rfl, q⟩ := h
  obtain ⟨t, rfl⟩ := rx
  obtain ⟨t', rfl⟩ := ry
  exact rule i j t t' s _ _ ⟨.bl (g i j), H, I, rfl, q⟩

def CPow (i j : Int) : Prop := 0 ≤ j ∧ j ≤ 1000000 ∧ i.natAbs < 2 ^ 64
def CMul (i j : Int) : Prop := (-(2 ^ 64) < i ∧ i < 2 ^ 64) ∨ (-(2 ^ 64) < j ∧ j < 2 ^ 64)
theorem CMul.ok {i j : Int} (h : CMul i j) : IntMulOk i j := by
  rcases h with ⟨h1, h2⟩ | ⟨h1, h2⟩
  · exact .of_left (intBits_le_64 h1 h2)
  · exact .of_right (intBits_le_64 h1 h2)
theorem op_add : OpR X (binaryOp .Add) (rI0 fun i j => .int (i + j)) := opI0 fun _ _ _ _ _ _ _ q => add_int q
theorem op_sub : OpR X (binaryOp .Sub) (rI0 fun i j => .int (i - j)) := opI0 fun _ _ _ _ _ _ _ q => sub_int q
theorem op_mul : OpR X (binaryOp .Mult) (rI CMul fun i j => .int (i * j)) := opI fun _ _ _ _ _ _ _ hc q => mul_int q hc.ok
/-- % by a positive divisor of any size -/
theorem op_mod : OpR X (binaryOp .Mod) (rI (fun _ j => 0 < j) fun i j => .int (i % j)) := opI fun i j _ _ _ _ _ hc q => by
  have h1 : (0 : Int) < j := hc
  exact mod_int' (by omega) (by rw [Int.fmod_eq_emod_of_nonneg i (by omega)]; exact q)
theorem op_pow : OpR X (binaryOp .Pow) (rI CPow fun i j => .int (i ^ j.toNat)) := opI fun _ _ _ _ _ _ _ hc q => pow_int_small hc.1 hc.2.1 hc.2.2 q
theorem unI {f : Value → Sem Value} {g : Int → Int}
    (rule : ∀ (i : Int) (t : Tok) (s : Shared) (Q : Value → Shared → Prop) (E : Value → Shared → Prop), Q (.int (g i) s.toks) { s with toks := s.toks + 1 } → wpAny (model X.prog X.w) X.A (f (.int i t)) Q E s) :
    UnR X f (rU fun i => .int (g i)) := by
  intro pins s σ H x v Q I rx h
  obtain ⟨i, rfl, q⟩ := h
  obtain ⟨t, rfl⟩ := rx
  exact rule i t s _ _ ⟨.int (g i), H, I.tok _, ⟨_, rfl⟩, q⟩
theorem un_neg : UnR X (unaryOp .USub) (rU fun i => .int (-i)) := unI fun _ _ _ _ _ q => neg_int q
/-! ### bools among ints: n += (a < b) -/
end

/-! ### comparisons -/
/-- the scalars that == tells apart as data does -/
def scal : V → V → Bool
  | .non, .non => true | .non, .int _ => true | .int _, .non => true | .non, .bl _ => true | .bl _, .non => true | .non, .str _ => true | .str _, .non => true
  | .int _, .int _ => true | .bl _, .bl _ => true | .str _, .str _ => true | .byt _, .byt _ => true
  | .int _, .str _ => true | .str _, .int _ => true | .bl _, .str _ => true | .str _, .bl _ => true
  | _, _ => false
def rEq : R2 := fun x y H Q => scal x y = true ∧ Q (.bl (decide (x = y))) H
def rNe : R2 := fun x y H Q => scal x y = true ∧ Q (.bl (!decide (x = y))) H

theorem dec_int {i j : Int} : decide (V.int i = V.int j) = (i == j) := by
  rw [Bool.eq_iff_iff]
  simp
theorem dec_bl {i j : Bool} : decide (V.bl i = V.bl j) = (i == j) := by
  rw [Bool.eq_iff_iff]
  simp
theorem dec_str {i j : Str} : decide (V.str i = V.str j) = (i == j) := by
  rw [Bool.eq_iff_iff]
  simp
theorem dec_byt {i j : Array UInt8} : decide (V.byt i = V.byt j) = (i.toList == j.toList) := by
  rw [Bool.eq_iff_iff]
  cases i
  cases j
  simp

section
variable {X : Cx} {a b c : Expr} {ta tb tc : TE} {pos : Pos}
theorem fin_bl {pins : List (Addr × Obj)} {σ : St} {H : Hp} {s : Shared} {Q : VK} {k k' : Bool} (I : Inv X pins σ H s) (q : Q (.bl k) H) (e : k = k') : EP X pins σ Q (.bool k') s := by
  subst e
  exact ⟨.bl k, H, I, rfl, q⟩
theorem op_eq : OpR X (compareOp .Eq) rEq := by
  intro pins s σ H x y v u Q I rx ry h
  obtain ⟨hs, q⟩ := h
  cases x with
  | non =>
    cases rx
    cases y with
    | non => cases ry; exact PySem.EqNone.eq_none_none (fin_bl I q (by simp))
    | bl j => cases ry; exact PySem.EqNone.eq_none_bool (fin_bl I q (by simp))
    | int j => obtain ⟨t', rfl⟩ := ry; exact PySem.EqNone.eq_none_int (fin_bl I q (by simp))
    | str j => obtain ⟨t', rfl⟩ := ry; exact PySem.EqNone.eq_none_str (fin_bl I q (by simp))
    | _ => exact absurd (show false = true from hs) Bool.false_ne_true
  | bl i =>
    cases rx
    cases y with
    | non => cases ry; exact PySem.EqNone.eq_bool_none (fin_bl I q (by simp))
    | bl j => cases ry; exact eq_bool (fin_bl I q dec_bl)
    | str j => obtain ⟨t', rfl⟩ := ry; exact PySem.EqMixed.eq_bool_str (fin_bl I q (by simp))
    | _ => exact absurd (show false = true from hs) Bool.false_ne_true
  | int i =>
    obtain ⟨t, rfl⟩ := rx
    cases y with
    | non => cases ry; exact PySem.EqNone.eq_int_none (fin_bl I q (by simp))
    | int j => obtain ⟨t', rfl⟩ := ry; exact eq_int (fin_bl I q dec_int)
    | str j => obtain ⟨t', rfl⟩ := ry; exact PySem.EqMixed.eq_int_str (fin_bl I q (by simp))
    | _ => exact absurd (show false = true from hs) Bool.false_ne_true
  | str i =>
    obtain ⟨t, rfl⟩ := rx
    cases y with
    | non => cases ry; exact PySem.EqNone.eq_str_none (fin_bl I q (by simp))
    | bl j => cases ry; exact PySem.EqMixed.eq_str_bool (fin_bl I q (by simp))
    | int j => obtain ⟨t', rfl⟩ := ry; exact PySem.EqMixed.eq_str_int (fin_bl I q (by simp))
    | str j => obtain ⟨t', rfl⟩ := ry; exact eq_str (fin_bl I q dec_str)
    | _ => exact absurd (show false = true from hs) Bool.false_ne_true
  | byt i =>
    obtain ⟨t, rfl⟩ := rx
    cases y with
    | byt j => obtain ⟨t', rfl⟩ := ry; exact PySem.W.eq_bytes (fin_bl I q dec_byt)
    | _ => exact absurd (show false = true from hs) Bool.false_ne_true
  | _ => cases y <;> exact absurd (show false = true from hs) Bool.false_ne_true
theorem op_ne : OpR X (compareOp .NotEq) rNe := by
  intro pins s σ H x y v u Q I rx ry h
  obtain ⟨hs, q⟩ := h
  cases x with
  | non =>
    cases rx
    cases y with
    | non => cases ry; exact PySem.EqNone.ne_none_none (fin_bl I q (by simp))
    | bl j => cases ry; exact PySem.EqNone.ne_none_bool (fin_bl I q (by simp))
    | int j => obtain ⟨t', rfl⟩ := ry; exact PySem.EqNone.ne_none_int (fin_bl I q (by simp))
    | str j => obtain ⟨t', rfl⟩ := ry; exact PySem.EqNone.ne_none_str (fin_bl I q (by simp))
    | _ => exact absurd (show false = true from hs) Bool.false_ne_true
  | bl i =>
    cases rx
    cases y with
    | non => cases ry; exact PySem.EqNone.ne_bool_none (fin_bl I q (by simp))
    | bl j => cases ry; exact ne_bool (fin_bl I q (congrArg not dec_bl))
    | str j => obtain ⟨t', rfl⟩ := ry; exact PySem.EqMixed.ne_bool_str (fin_bl I q (by simp))
    | _ => exact absurd (show false = true from hs) Bool.false_ne_true
  | int i =>
    obtain ⟨t, rfl⟩ := rx
    cases y with
    | non => cases ry; exact PySem.EqNone.ne_int_none (fin_bl I q (by simp))
    | int j => obtain ⟨t', rfl⟩ := ry; exact ne_int (fin_bl I q (congrArg not dec_int))
    | str j => obtain ⟨t', rfl⟩ := ry; exact PySem.EqMixed.ne_int_str (fin_bl I q (by simp))
    | _ => exact absurd (show false = true from hs) Bool.false_ne_true
  | str i =>
    obtain ⟨t, rfl⟩ := rx
    cases y with
    | non => cases ry; exact PySem.EqNone.ne_str_none (fin_bl I q (by simp))
    | bl j => cases ry; exact PySem.EqMixed.ne_str_bool (fin_bl I q (by simp))
    | int j => obtain ⟨t', rfl⟩ := ry; exact PySem.EqMixed.ne_str_int (fin_bl I q (by simp))
    | str j => obtain ⟨t', rfl⟩ := ry; exact ne_str (fin_bl I q (congrArg not dec_str))
    | _ => exact absurd (show false = true from hs) Bool.false_ne_true
  | byt i =>
    obtain ⟨t, rfl⟩ := rx
    cases y with
    | byt j => obtain ⟨t', rfl⟩ := ry; exact PySem.W.ne_bytes (fin_bl I q (congrArg not dec_byt))
    | _ => exact absurd (show false = true from hs) Bool.false_ne_true
  | _ => cases y <;> exact absurd (show false = true from hs) Bool.false_ne_true

theorem op_lt : OpR X (compareOp .Lt) (rI0 fun i j => .bl (decide (i < j))) := opB0 fun _ _ _ _ _ _ _ q => lt_int q
theorem op_le : OpR X (compareOp .LtE) (rI0 fun i j => .bl (decide (i ≤ j))) := opB0 fun _ _ _ _ _ _ _ q => le_int q
theorem op_gt : OpR X (compareOp .Gt) (rI0 fun i j => .bl (decide (j < i))) := opB0 fun _ _ _ _ _ _ _ q => gt_int q
theorem op_ge : OpR X (compareOp .GtE) (rI0 fun i j => .bl (decide (j ≤ i))) := opB0 fun _ _ _ _ _ _ _ q => ge_int q
/-- two rules for one operation: by cases -/
theorem OpR.or {f : Value → Value → Sem Value} {r r' : R2} (h : OpR X f r) (h' : OpR X f r') : OpR X f (fun x y H Q => r x y H Q ∨ r' x y H Q) := by
  intro pins s σ H x y v u Q I rx ry q
  rcases q with q | q
  · exact h pins s σ H x y v u Q I rx ry q
  · exact h' pins s σ H x y v u Q I rx ry q

theorem nomark (b : Expr) {op : CmpOp} (h : op ≠ .In := by decide) (h2 : op ≠ .NotIn := by decide) : behindInMarks op b = false := by
  have e1 : (op == CmpOp.In) = false := by cases op <;> first | rfl | exact absurd rfl h
  have e2 : (op == CmpOp.NotIn) = false := by cases op <;> first | rfl | exact absurd rfl h2
  cases b <;> simp [behindInMarks, e1, e2]
/-- a comparison as a value; hm: nomark b, or (for in, not in) by with_unfolding_all rfl -/
theorem pe_cmpR {op : CmpOp} {r : R2} (ho : OpR X (compareOp op) r) (ha : PE X a ta) (hb : PE X b tb) (hm : behindInMarks op b = false) : PE X (.Compare a [op] [b] pos) (tOp r ta tb) := by
  intro pins s σ H Q I h
  exact wpAny_Compare1 (binT ha hb I h fun v u s2 x y H2 I2 rx ry q => ho pins s2 σ H2 x y v u Q I2 rx ry q) hm
/-- a reading of a value as a test -/
def tTest (t : TE) : TT := fun σ H Q => t σ H fun x H' => ∃ k, x = .bl k ∧ Q k H'
theorem pt_cmpR {op : CmpOp} {r : R2} (ho : OpR X (compareOp op) r) (ha : PE X a ta) (hb : PE X b tb) (hm : behindInMarks op b = false) : PT X (.Compare a [op] [b] pos) (tTest (tOp r ta tb)) := by
  intro pins s σ H Q I h
  refine wpAny_isTrue_Compare1 (thn (ha pins s σ H _ I h) fun v s1 ⟨x, H1, I1, r1, q1⟩ => thn (hb pins s1 σ H1 _ I1 q1) fun u s2 ⟨y, H2, I2, r2, q2⟩ =>
    thn (ho pins s2 σ H2 x y v u _ I2 r1 r2 q2) fun c s3 ⟨z, H3, I3, r3, k, e, q3⟩ => ?_) hm
  subst e
  cases r3
  exact wpAny_truthy_bool ⟨H3, I3, q3⟩
/-- a op1 b op2 c -/
def tChain (r r' : R2) (ta tb tc : TE) : TE := fun σ H Q => ta σ H fun x H1 => tb σ H1 fun y H2 => r x y H2 fun z H3 => ∃ k, z = .bl k ∧
  (if k = true then tc σ H3 fun w' H4 => r' y w' H4 Q else Q (.bl false) H3)
theorem pt_chain {op op' : CmpOp} {r r' : R2} (ho : OpR X (compareOp op) r) (ho' : OpR X (compareOp op') r') (ha : PE X a ta) (hb : PE X b tb) (hc : PE X c tc)
    (hm : lastMarks [op, op'] [b, c] = false := by with_unfolding_all rfl) : PT X (.Compare a [op, op'] [b, c] pos) (tTest (tChain r r' ta tb tc)) := by
  intro pins s σ H Q I h
  refine isTrue_chain (thn (ha pins s σ H _ I h) fun v s1 ⟨x, H1, I1, r1, q1⟩ => test_link (thn (hb pins s1 σ H1 _ I1 q1) fun u s2 ⟨y, H2, I2, r2, q2⟩ =>
    thn (ho pins s2 σ H2 x y v u _ I2 r1 r2 q2) fun d s3 ⟨z, H3, I3, r3, k, e, q3⟩ => ?_)) hm
  subst e
  cases r3
  refine wpAny_truthy_bool ?_
  cases k with
  | false =>
    obtain ⟨k', e', q'⟩ := q3
    cases e'
    exact ite_ff ⟨H3, I3, q'⟩
  | true =>
    refine ite_tt (test_last (thn (hc pins s3 σ H3 _ I3 q3) fun w' s4 ⟨z', H4, I4, r4, q4⟩ => thn (ho' pins s4 σ H4 y z' u w' _ I4 r2 r4 q4) fun d' s5 ⟨z2, H5, I5, r5, k2, e2, q5⟩ => ?_))
    subst e2
    cases r5
    exact wpAny_truthy_bool ⟨H5, I5, q5⟩

/-! ### truth -/
theorem line63 : (sizeLine : Nat) < 2 ^ 63 := by rw [sizeLine_eq]; decide
/-! ### strs and bytes -/
/-! ### scalar builtins, by CallR -/
theorem vals1 {x : V} {us : List Value} (r : Vals [x] us) : ∃ u, us = [u] ∧ RelV x u := by
  cases r with
  | cons r1 r2 => cases r2; exact ⟨_, rfl, r1⟩
end
end L2

namespace L2
open PySem PySem.Spec PyProof.Rows

/-! ### an instance, its attributes a map -/
structure ObjM (h : Heap) (x dx C : Addr) (mA : Str → Option Value) : Prop where
  obj : h.get? x = some (PySem.W.instObj C dx)
  ns : h.Ns1 dx mA
  ne : dx ≠ x

theorem lookIn_ns {h : Heap} {dx : Addr} {mA : Str → Option Value} (n : h.Ns1 dx mA) : ∃ od, h.get? dx = some od ∧ ∀ name, PySem.W.lookIn name od = some (mA name) := by
  obtain ⟨o, es, ep, ho, hd, hk, _, hm⟩ := n
  refine ⟨o, ho, fun name => ?_⟩
  have e := hm name
  unfold nsFind findBy at e
  rw [← Array.find?_toList] at e
  unfold PySem.W.lookIn
  rw [hd]
  dsimp only
  split
  · rename_i y q
    rw [q] at e
    exact congrArg some e
  · rename_i q
    rw [q] at e
    have a : es.toList.any (·.refKey) = false := by
      rw [List.any_eq_false]
      intro y hy
      obtain ⟨z, t, hkey⟩ := hk y (Array.mem_toList_iff.mp hy)
      simp [DictEntry.refKey, hkey]
    have a' : ¬ es.toList.any (·.refKey) = true := by rw [a]; exact Bool.false_ne_true
    rw [if_neg a']
    exact congrArg some e

theorem ObjM.look {h : Heap} {x dx C : Addr} {mA : Str → Option Value} (I : ObjM h x dx C mA) : ∃ od, PySem.W.InstAt h x (PySem.W.instObj C dx) C (some od) ∧ ∀ name, PySem.W.lookIn name od = some (mA name) :=
  let ⟨od, ho, hl⟩ := lookIn_ns I.ns
  ⟨od, ⟨I.obj, rfl, rfl, ho⟩, hl⟩

section
variable {prog : Program} {w : World} {A : Around} {E : Value → Shared → Prop} {s : Shared} {K : PySem.W.Frag} {x dx C f : Addr} {mA : Str → Option Value} {name : Str} {v : Value}

theorem get_map {expr : Bool} {Q : Value → Shared → Prop} (X : K.In s.heap) (I : ObjM s.heap x dx C mA) (hg : PySem.W.plainGet K C name = true) (hh : PySem.W.hasDictIn K C = true)
    (ha : PySem.W.findIn K (.ref C) name = some none) (hv : mA name = some v) (hv' : PySem.W.handedIn v = true) (h : Q v { s with toks := s.toks + 1 }) :
    wpAny (model prog w) A (getAttr (.ref x) name expr) Q E s := by
  obtain ⟨od, J, hl⟩ := I.look
  exact PySem.W.get_value X J (PySem.W.plainGet_of hg).1 (PySem.W.findObj_own hh ha rfl (by rw [hl, hv])) hv' h

theorem get_meth {pl : Sem Bool} {Q : Value × List Value → Shared → Prop} (X : K.In s.heap) (I : ObjM s.heap x dx C mA) (hg : PySem.W.plainGet K C name = true)
    (hf : PySem.W.findIn K (.ref C) name = some (some (.ref f))) (ht : PySem.W.isFn K (.ref f) = true) (hv : mA name = none) (h : Q (.ref f, [.ref x]) s) :
    wpAny (model prog w) A (getMethod (.ref x) name pl) Q E s := by
  obtain ⟨od, J, hl⟩ := I.look
  exact PySem.W.method_fn X J (PySem.W.plainGet_of hg).1 (PySem.W.plainGet_of hg).2 hf (beq_iff_eq.mp ht) (by show (PySem.W.lookIn name od).map (·.isSome) = some false; rw [hl, hv]; rfl) h

theorem set_map {ns : List Str} {Q : Unit → Shared → Prop} (X : K.In s.heap) (I : ObjM s.heap x dx C mA)
    (hs : PySem.W.findIn K (.ref C) "__setattr__" = some (some (.builtin "object.__setattr__"))) (hp : PySem.W.plainOver K C = true) (ht : PySem.W.takerIn K C name = some none) (hh : PySem.W.hasDictIn K C = true)
    (hw : PySem.Within mA ns) (hsz : ns.length ≤ sizeLine)
    (h : ∀ h', ObjM h' x dx C (fun y => if y = name then some v else mA y) → Heap.SameBut dx s.heap h' → Q () { s with heap := h', toks := s.toks + 2 }) :
    wpAny (model prog w) A (setAttr (.ref x) name v) Q E s := by
  obtain ⟨od, J, hl⟩ := I.look
  refine PySem.W.set_plain X J hs (PySem.W.osa_open (s := { s with toks := s.toks + 1 }) (r := none) X J hp ht fun b => ?_)
  obtain ⟨cd, hc, hd'⟩ := PySem.W.any_some hh
  have hx : s.heap.get? x = some ⟨.ref C, some dx, .plain, #[]⟩ := I.obj
  refine wpAny_bind (wpAny_pure (wpAny_bind (wpAny_bind (wpAny_loadPart hx (wpAny_bind (PySem.W.Looks.here (s := { s with toks := s.toks + 1 }) (PySem.W.looks_clsIn X hc) ?_))))))
  rw [hd']
  refine wpAny_pure (a := some dx) (wpAny_bind (wpAny_pure (wpAny_bind ?_)))
  refine wpAny_nsSet1 (s := { s with toks := s.toks + 1 }) I.ns fun h' hn2 hs2 => ?_
  obtain ⟨oD, esD, epD, hoD, hdD, hcD⟩ := hn2.count (PySem.Within.cons name v hw)
  refine wpAny_bind (wpAny_lookBehind hoD (by rw [hdD]; exact pastItsLine_dict (Nat.le_trans hcD (by rw [List.length_cons]; omega))) ?_)
  exact wpAny_pure (h _ ⟨(hs2.2 _ (Ne.symm I.ne)).trans I.obj, hn2, I.ne⟩ hs2)

/-- C(..): the dict at the heap's end, the instance behind it; then its __init__ -/
theorem make_map {R : Result → Shared → Prop} {vs : List Value} {kw : List (Str × Value)} (X : K.In s.heap) (hm : PySem.W.makesIn K C = true)
    (hi : PySem.W.findIn K (.ref C) "__init__" = some (some (.ref f))) (hf : PySem.W.typeIn K (.ref f) = some (.type "function"))
    (h : codeAny (model prog w) (A.under (.builtin "type.__call__" ⟨.ref C :: vs, kw⟩)) (.call (.ref f) ⟨.ref (s.heap.objs.size + 1) :: vs, kw⟩) (PySem.W.InitBack (s.heap.objs.size + 1) R)
      { s with heap := (s.heap.push PySem.W.emptyDict).push (PySem.W.instObj C s.heap.objs.size) }) :
    codeAny (model prog w) A (.call (.ref C) ⟨vs, kw⟩) R s := by
  obtain ⟨hh, g, d, t, os⟩ := s
  exact PySem.W.make_core (PySem.W.makes_of X hm) (PySem.W.looks_findIn X hi) (fun self => PySem.W.bind_fn X self hf) (.inl rfl) h
end

/-! ### the attributes as a list of pairs -/
def putF (f : Str) (v : V) : List (Str × V) → List (Str × V)
  | [] => [(f, v)]
  | (g, x) :: r => if g = f then (g, v) :: r else (g, x) :: putF f v r
theorem lookup_putF (f g : Str) (v : V) : ∀ fs : List (Str × V), (putF f v fs).lookup g = if g = f then some v else fs.lookup g
  | [] => by
    show List.lookup g [(f, v)] = _
    by_cases h : g = f
    · have hb : (g == f) = true := beq_iff_eq.mpr h
      simp only [List.lookup, hb, if_pos h]
    · have hb : (g == f) = false := beq_eq_false_iff_ne.mpr h
      simp only [List.lookup, hb, if_neg h]
  | (k, x) :: r => by
    have ih := lookup_putF f g v r
    rw [show putF f v ((k, x) :: r) = (if k = f then (k, v) :: r else (k, x) :: putF f v r) from rfl]
    by_cases hk : k = f
    · rw [if_pos hk]
      by_cases h : g = k
      · have hb : (g == k) = true := beq_iff_eq.mpr h
        simp only [List.lookup, hb, if_pos (h.trans hk)]
      · have hb : (g == k) = false := beq_eq_false_iff_ne.mpr h
        simp only [List.lookup, hb, if_neg (fun e : g = f => h (e.trans hk.symm))]
    · rw [if_neg hk]
      by_cases h : g = k
      · have hb : (g == k) = true := beq_iff_eq.mpr h
        simp only [List.lookup, hb, if_neg (fun e : g = f => hk (h.symm.trans e))]
      · have hb : (g == k) = false := beq_eq_false_iff_ne.mpr h
        simp only [List.lookup, hb]
        exact ih
theorem keys_putF (f : Str) (v : V) : ∀ fs : List (Str × V), f ∈ (putF f v fs).map (·.1) ∧ ∀ g, g ∈ fs.map (·.1) → g ∈ (putF f v fs).map (·.1)
  | [] => ⟨by simp [putF], fun g h => by simp at h⟩
  | (k, x) :: r => by
    obtain ⟨i1, i2⟩ := keys_putF f v r
    rw [show putF f v ((k, x) :: r) = (if k = f then (k, v) :: r else (k, x) :: putF f v r) from rfl]
    by_cases hk : k = f
    · rw [if_pos hk]
      subst hk
      exact ⟨by simp, fun g h => by simpa using h⟩
    · rw [if_neg hk]
      refine ⟨?_, fun g h => ?_⟩
      · rw [List.map_cons]
        exact List.mem_cons_of_mem _ i1
      · rw [List.map_cons] at h ⊢
        rcases List.mem_cons.mp h with e | e
        · exact List.mem_cons.mpr (.inl e)
        · exact List.mem_cons_of_mem _ (i2 g e)
theorem length_putF (f : Str) (v : V) : ∀ fs : List (Str × V), (putF f v fs).length ≤ fs.length + 1
  | [] => by simp [putF]
  | (k, x) :: r => by
    have ih := length_putF f v r
    rw [show putF f v ((k, x) :: r) = (if k = f then (k, v) :: r else (k, x) :: putF f v r) from rfl]
    by_cases hk : k = f
    · rw [if_pos hk, List.length_cons, List.length_cons]; omega
    · rw [if_neg hk, List.length_cons, List.length_cons]; omega

theorem RelO.some_of {v : V} {o : Option Value} (r : RelO (some v) o) : ∃ u, o = some u ∧ RelV v u := by
  cases o with
  | none => exact (show False from r).elim
  | some u => exact ⟨u, rfl, r⟩
theorem RelO.none_of {o : Option Value} (r : RelO none o) : o = none := by
  cases o with
  | none => rfl
  | some u => exact (show False from r).elim
theorem handed_of {v : V} {u : Value} (r : RelV v u) : PySem.W.handedIn u = true := by
  cases v with
  | non => cases (show u = Value.none from r); rfl
  | bl b => cases (show u = Value.bool b from r); rfl
  | int i => obtain ⟨t, e⟩ := (show ∃ t, u = Value.int i t from r); cases e; rfl
  | str x => obtain ⟨t, e⟩ := (show ∃ t, u = Value.str x t from r); cases e; rfl
  | byt b => obtain ⟨t, e⟩ := (show ∃ t, u = Value.bytes b t from r); cases e; rfl
  | flt b => obtain ⟨t, e⟩ := (show ∃ t, u = Value.float b t from r); cases e; rfl
  | ref a => cases (show u = Value.ref a from r); rfl
  | ty n => cases (show u = Value.type n from r); rfl

section
variable {P : Program} {w : World} {H H' : Hp} {h h' : Heap} {a C dx : Addr} {fs fs' : List (Str × V)}
theorem ins_get (hok : HOk P w H h) (e : H a = some (.ins C dx fs)) : ∃ mA, ObjM h a dx C mA ∧ (∀ f, RelO (fs.lookup f) (mA f)) ∧ PySem.Within mA (fs.map (·.1)) ∧ fs.length ≤ 1000 ∧ H dx = some (.own a) := by
  obtain ⟨d, z, ne, ob, mA, n, r, q⟩ := (show ObjOk P w H h a (.ins C dx fs) from hok a _ e)
  exact ⟨mA, ⟨ob, n, ne⟩, r, q, z, d⟩
end

/-! ### what of the text a class must have -/
structure Cls (K : PySem.W.Frag) (C : Addr) : Prop where
  pg : PySem.W.plainGet K C Str.empty = true
  hd : PySem.W.hasDictIn K C = true
  po : PySem.W.plainOver K C = true
  sa : PySem.W.findIn K (.ref C) "__setattr__" = some (some (.builtin "object.__setattr__"))
theorem Cls.get {K : PySem.W.Frag} {C : Addr} (c : Cls K C) (f : Str) : PySem.W.plainGet K C f = true := c.pg
/-- no class of it has the name -/
def NoAttr (K : PySem.W.Frag) (C : Addr) (f : Str) : Prop := PySem.W.findIn K (.ref C) f = some none
theorem NoAttr.taker {K : PySem.W.Frag} {C : Addr} {f : Str} (n : NoAttr K C f) : PySem.W.takerIn K C f = some none := by
  unfold PySem.W.takerIn
  rw [show PySem.W.findIn K (.ref C) f = some none from n]
  rfl
/-- a constant of the class -/
structure Con (K : PySem.W.Frag) (C : Addr) (f : Str) (v : V) (u : Value) : Prop where
  at_ : PySem.W.findIn K (.ref C) f = some (some u)
  rel : RelV v u
  get : PySem.W.specialIn K u "__get__" = some none
  cp : PySem.W.copiedNames.contains f = false
/-- a method: a plain def of the class or of one above it -/
structure Meth (K : PySem.W.Frag) (C : Addr) (m : Str) (f : Addr) : Prop where
  at_ : PySem.W.findIn K (.ref C) m = some (some (.ref f))
  fn : PySem.W.isFn K (.ref f) = true
  kp : PySem.W.keepIn K (.ref f) = true

section
variable {X : Cx} {pins : List (Addr × Obj)} {σ : St} {H : Hp} {s : Shared} {a C dx : Addr} {fs : List (Str × V)} {f : Str} {v : V} {A : Around} {E : Value → Shared → Prop}

theorem getattr_ok {b : Bool} {Q : Value → Shared → Prop} (I : Inv X pins σ H s) (e : H a = some (.ins C dx fs)) (c : Cls X.K C) (n : NoAttr X.K C f) (l : fs.lookup f = some v)
    (h : ∀ u s', Inv X pins σ H s' → RelV v u → Q u s') : wpAny (model X.prog X.w) A (getAttr (.ref a) f b) Q E s := by
  obtain ⟨mA, O, r, _, _, _⟩ := ins_get I.hok e
  obtain ⟨u, hu, ru⟩ := RelO.some_of (v := v) (o := mA f) (by rw [← l]; exact r f)
  exact get_map I.kIn O (c.get f) c.hd n hu (handed_of ru) (h u _ (I.tok _) ru)

theorem getmeth_ok {m : Str} {g : Addr} {pl : Sem Bool} {Q : Value × List Value → Shared → Prop} (I : Inv X pins σ H s) (e : H a = some (.ins C dx fs)) (c : Cls X.K C) (k : Meth X.K C m g) (l : fs.lookup m = none)
    (h : Q (.ref g, [.ref a]) s) : wpAny (model X.prog X.w) A (getMethod (.ref a) m pl) Q E s := by
  obtain ⟨mA, O, r, _, _, _⟩ := ins_get I.hok e
  have hn : mA m = none := RelO.none_of (by rw [← l]; exact r m)
  exact get_meth I.kIn O (c.get m) k.at_ k.fn hn h

theorem setattr_ok {y : V} {u : Value} {Q : Unit → Shared → Prop} (I : Inv X pins σ H s) (e : H a = some (.ins C dx fs)) (c : Cls X.K C) (n : NoAttr X.K C f) (hl : fs.length < 1000) (ry : RelV y u)
    (h : ∀ s', Inv X pins σ (upd H a (.ins C dx (putF f y fs))) s' → Q () s') : wpAny (model X.prog X.w) A (setAttr (.ref a) f u) Q E s := by
  obtain ⟨mA, O, r, wi, _, ho⟩ := ins_get I.hok e
  have hz : (fs.map (·.1)).length ≤ sizeLine := by rw [List.length_map, sizeLine_eq]; omega
  refine set_map I.kIn O c.sa c.po n.taker c.hd wi hz fun h' O' sb => h _ ?_
  have hd : ∃ o, h'.get? dx = some o := let ⟨o, _, _, e', _⟩ := O'.ns; ⟨o, e'⟩
  refine I.write (x := a) (e := dx) (by rw [e]; exact True.intro) (.inr ho) (fun b q hb z => (sb.2 b hb).trans z) hd ?_
  refine ⟨by rw [upd_ne O.ne]; exact ho, ?_, O.ne, O'.obj, _, O'.ns, fun g => ?_, fun g hg => ?_⟩
  · have := length_putF f y fs; omega
  · show RelO ((putF f y fs).lookup g) (if g = f then some u else mA g)
    rw [lookup_putF]
    by_cases q : g = f
    · rw [if_pos q, if_pos q]; exact ry
    · rw [if_neg q, if_neg q]; exact r g
  · by_cases q : g = f
    · rw [q]; exact (keys_putF f y fs).1
    · refine (keys_putF f y fs).2 g (wi g fun z => hg ?_)
      show (if g = f then some u else mA g) = none
      rw [if_neg q]; exact z

/-- a new instance, tracked, without attributes -/
theorem Inv.made (I : Inv X pins σ H s) : Inv X pins σ (upd (upd H s.heap.objs.size (.own (s.heap.objs.size + 1))) (s.heap.objs.size + 1) (.ins C s.heap.objs.size []))
    { s with heap := (s.heap.push PySem.W.emptyDict).push (PySem.W.instObj C s.heap.objs.size) } := by
  have e1 : (s.heap.push PySem.W.emptyDict).get? s.heap.objs.size = some PySem.W.emptyDict := Heap.get?_push_size s.heap rfl
  have e2 : ((s.heap.push PySem.W.emptyDict).push (PySem.W.instObj C s.heap.objs.size)).get? (s.heap.objs.size + 1) = some (PySem.W.instObj C s.heap.objs.size) := by
    have := Heap.get?_push_size (s.heap.push PySem.W.emptyDict) (o := PySem.W.instObj C s.heap.objs.size) rfl
    rwa [Heap.size_push] at this
  have e3 : (s.heap.push PySem.W.emptyDict).Ns s.heap.objs.size (fun _ => none) := ⟨PySem.W.emptyDict, #[], _, e1, rfl, (fun e he => absurd he (by simp)), fun _ => rfl⟩
  have I1 := I.laid (a := s.heap.objs.size) (o := .own (s.heap.objs.size + 1)) (h' := s.heap.push PySem.W.emptyDict) (t' := s.toks) (fun b u q => Heap.get?_push_of_some _ q) (Nat.le_refl _) ⟨_, e1⟩
  refine I1.laid (a := s.heap.objs.size + 1) (o := .ins C s.heap.objs.size []) (t' := s.toks) (fun b u q => Heap.get?_push_of_some _ q) (Nat.le_of_eq (Heap.size_push _ _)) ?_
  have ne : s.heap.objs.size ≠ s.heap.objs.size + 1 := Nat.ne_of_lt (Nat.lt_succ_self _)
  refine ⟨by rw [upd_ne ne, upd_same], Nat.zero_le _, ne, e2, fun _ => none, (Heap.Ns1.of_empty e3).at fun o q => Heap.get?_push_of_some _ q, fun _ => True.intro, fun y hy => absurd rfl hy⟩

/-- e.f where nothing but the object is asked: through attributeBase (super) and the last hold -/
theorem attr_of {prog : Program} {w : World} {env : Env} {e : Expr} {f : Str} {pos : Pos} {s : Shared} {Q : Value → Shared → Prop} (hb : attributeBase e f env (eval e env) = eval e env)
    (h : wpAny (model prog w) A (eval e env) (fun o s₁ => wpAny (model prog w) A (getAttr o f true) Q E s₁) E s) : wpAny (model prog w) A (eval (.Attribute e f pos) env) Q E s :=
  Attribute_any_ h (by rw [arm_eval_Attribute, hb])
end

/-! ### readings and rules -/
/-- e.f, an attribute of the instance -/
def tFld (K : PySem.W.Frag) (ta : TE) (f : Str) : TE := fun σ H Q => ta σ H fun x H1 => ∃ a C dx fs v, x = .ref a ∧ H1 a = some (.ins C dx fs) ∧ Cls K C ∧ NoAttr K C f ∧ fs.lookup f = some v ∧ Q v H1
/-- e.f = value -/
def sFld (K : PySem.W.Frag) (ta tv : TE) (f : Str) : TS := fun D σ H => tv σ H fun y H1 => ta σ H1 fun x H2 => ∃ a C dx fs, x = .ref a ∧ H2 a = some (.ins C dx fs) ∧ Cls K C ∧ NoAttr K C f ∧ fs.length < 1000 ∧
  D.nx σ (upd H2 a (.ins C dx (putF f y fs)))
/-- an augmented operator on two values -/
def InOp (X : Cx) (op : Operator) (rd : V → V → Hp → VK → Prop) : Prop :=
  ∀ (pins : List (Addr × Obj)) (s : Shared) (σ : St) (H : Hp) (x y : V) (u v : Value) (Q : VK), Inv X pins σ H s → RelV x u → RelV y v → rd x y H Q → wpAny (model X.prog X.w) X.A (inplaceOp op u v) (EP X pins σ Q) X.xe s
/-- e.f op= value -/
def sFldAug (K : PySem.W.Frag) (ta tv : TE) (rd : V → V → Hp → VK → Prop) (f : Str) : TS := fun D σ H => ta σ H fun x H1 => ∃ a C dx fs v, x = .ref a ∧ H1 a = some (.ins C dx fs) ∧ Cls K C ∧ NoAttr K C f ∧ fs.lookup f = some v ∧
  tv σ H1 fun y H2 => rd v y H2 fun z H3 => ∃ dx' fs', H3 a = some (.ins C dx' fs') ∧ fs'.length < 1000 ∧ D.nx σ (upd H3 a (.ins C dx' (putF f z fs')))

section
variable {X : Cx} {o e value : Expr} {f : Str} {pos pos' tpos : Pos} {ta tv : TE}
theorem pe_fld (he : PE X e ta) (hb : attributeBase e f X.env (eval e X.env) = eval e X.env) : PE X (.Attribute e f pos) (tFld X.K ta f) := by
  intro pins s σ H Q I h
  refine attr_of hb (thn (he pins s σ H _ I h) fun u s1 ⟨x, H1, I1, rx, a, C, dx, fs, v, ex, ea, c, n, l, q⟩ => ?_)
  subst ex
  obtain rfl : u = Value.ref a := rx
  exact getattr_ok I1 ea c n l fun u' s2 I2 ru => ⟨v, H1, I2, ru, q⟩
theorem ps_fld (ha : PE X o ta) (hv : PE X value tv) (hs : swapsWith value (some (.Attribute o f pos')) pos.line X.env = pure false) : PS X (.Assign [.Attribute o f pos'] value pos) (sFld X.K ta tv f) := by
  intro pins s σ H D I h
  refine plainObj_wpAny_Assign_Attribute (thn (hv pins s σ H _ I h) fun u s1 ⟨y, H1, I1, ry, q⟩ => thn (ha pins s1 σ H1 _ I1 q) fun ov s2 ⟨x, H2, I2, rx, a, C, dx, fs, ex, ea, c, n, l, q2⟩ => ?_) hs
  subst ex
  obtain rfl : ov = Value.ref a := rx
  exact setattr_ok I2 ea c n l ry fun s3 I3 => ⟨σ, _, I3, q2⟩
theorem ps_fldaug {op : Operator} {rd : V → V → Hp → VK → Prop} (ha : PE X o ta) (hv : PE X value tv) (hop : InOp X op rd) : PS X (.AugAssign (.Attribute o f tpos) op value pos) (sFldAug X.K ta tv rd f) := by
  intro pins s σ H D I h
  refine wpAny_AugAssign_AttributeAny (thn (ha pins s σ H _ I h) fun ov s1 ⟨x, H1, I1, rx, a, C, dx, fs, v, ex, ea, c, n, l, q⟩ => ?_)
  subst ex
  obtain rfl : ov = Value.ref a := rx
  refine getattr_ok I1 ea c n l fun u s2 I2 ru => thn (hv pins s2 σ H1 _ I2 q) fun w3 s3 ⟨y, H2, I3, ry, q3⟩ => thn (hop pins s3 σ H2 v y u w3 _ I3 ru ry q3) fun w4 s4 ⟨z, H3, I4, rz, dx', fs', ea', l', q4⟩ => ?_
  exact setattr_ok I4 ea' c n l' rz fun s5 I5 => ⟨σ, _, I5, q4⟩
end

/-! ### isinstance -/
section
variable {X : Cx} {pins : List (Addr × Obj)} {σ : St} {H : Hp} {s : Shared} {A : Around} {E : Value → Shared → Prop} {Q : Value → Shared → Prop} {c : Value} {b : Bool}
/-- the type of a value, as the fragment's deciders take it; for an instance its class -/
inductive TyOf (K : PySem.W.Frag) (H : Hp) : V → Value → Prop where
  | non : TyOf K H .non (.type "NoneType")
  | bl (x : Bool) : TyOf K H (.bl x) (.type "bool")
  | int (i : Int) : TyOf K H (.int i) (.type "int")
  | str (x : Str) : TyOf K H (.str x) (.type "str")
  | flt (x : UInt64) : TyOf K H (.flt x) (.type "float")
  | lst {a : Addr} {xs : List V} (e : H a = some (.lst xs)) : TyOf K H (.ref a) (.type "list")
  | frz {a : Addr} {o : Obj} {xs : List V} (e : H a = some (.frz o (.lst xs))) : TyOf K H (.ref a) (.type "list")
  | tup {a : Addr} {xs : List V} (e : H a = some (.tup xs)) : TyOf K H (.ref a) (.type "tuple")
  | dK {a : Addr} {kvs : List (Key × V)} (e : H a = some (.dK kvs)) : TyOf K H (.ref a) (.type "dict")
  | dT {a : Addr} {kvs : List (List Key × V)} (e : H a = some (.dT kvs)) : TyOf K H (.ref a) (.type "dict")
  | ins {a C dx : Addr} {fs : List (Str × V)} (e : H a = some (.ins C dx fs)) (cl : Cls K C) (ha : PySem.W.findIn K (.ref C) "__class__" = some (some (.builtin "object.__class__")))
      (hn : PySem.W.specialIn K (.builtin "object.__class__") "__get__" = some (some (.builtin "getset_descriptor.__get__"))) (htk : PySem.W.takesIn K (.builtin "object.__class__") = some true)
      (hm : PySem.W.mroIn K C (.type "object") = some true) : TyOf K H (.ref a) (.ref C)
/-- isinstance(x, c) for one class c, a built-in or an own one: kitOne's answer -/
theorem isinst_ok {x : V} {u t : Value} (I : Inv X pins σ H s) (rx : RelV x u) (ty : TyOf X.K H x t) (e : PySem.W.kitOne X.K t c = some b) (h : ∀ tk, Q (.bool b) { s with toks := tk }) :
    wpAny (model X.prog X.w) A (call (.builtin "isinstance") [u, c]) Q E s := by
  cases ty with
  | non => cases (show u = Value.none from rx); exact PySem.W.kia_one PySem.W.kitx_none I.kIn True.intro e (fun z => nomatch z) h
  | bl y => cases (show u = Value.bool y from rx); exact PySem.W.kia_one PySem.W.kitx_bool I.kIn True.intro e (fun z => nomatch z) h
  | int i => obtain ⟨t, q⟩ := (show ∃ t, u = Value.int i t from rx); cases q; exact PySem.W.kia_one PySem.W.kitx_int I.kIn True.intro e (fun z => nomatch z) h
  | str y => obtain ⟨t, q⟩ := (show ∃ t, u = Value.str y t from rx); cases q; exact PySem.W.kia_one PySem.W.kitx_str I.kIn True.intro e (fun z => nomatch z) h
  | flt y => obtain ⟨t, q⟩ := (show ∃ t, u = Value.float y t from rx); cases q; exact PySem.W.kia_one PySem.W.kitx_float I.kIn True.intro e (fun z => nomatch z) h
  | @lst a xs ea =>
    cases (show u = Value.ref a from rx)
    obtain ⟨_, _, n, _, h1⟩ := (show ObjOk X.prog X.w H s.heap a (.lst xs) from I.hok a _ ea)
    exact PySem.W.kia_one PySem.W.kitx_list I.kIn ⟨_, h1, rfl⟩ e (fun z => nomatch z) h
  | @frz a ob xs ea =>
    cases (show u = Value.ref a from rx)
    obtain ⟨_, _, _, n, _, h1⟩ := (show ObjOk X.prog X.w H s.heap a (.frz ob (.lst xs)) from I.hok a _ ea)
    exact PySem.W.kia_one PySem.W.kitx_list I.kIn ⟨_, h1, rfl⟩ e (fun z => nomatch z) h
  | @tup a xs ea =>
    cases (show u = Value.ref a from rx)
    obtain ⟨_, _, _, p⟩ := (show ObjOk X.prog X.w H s.heap a (.tup xs) from I.hok a _ ea)
    obtain ⟨o, h1, h2, _⟩ := p
    exact PySem.W.kia_one PySem.W.kitx_tuple I.kIn ⟨o, h1, h2⟩ e (fun z => nomatch z) h
  | @dK a kvs ea =>
    cases (show u = Value.ref a from rx)
    obtain ⟨_, _, vs, _, p⟩ := (show ObjOk X.prog X.w H s.heap a (.dK kvs) from I.hok a _ ea)
    obtain ⟨o, es, ep, h1, h2, _⟩ := p
    exact PySem.W.kia_one PySem.W.kitx_dict I.kIn ⟨o, h1, h2.1⟩ e (fun z => nomatch z) h
  | @dT a kvs ea =>
    cases (show u = Value.ref a from rx)
    obtain ⟨_, _, xs, _, o, es, ep, h1, h2, _⟩ := (show ObjOk X.prog X.w H s.heap a (.dT kvs) from I.hok a _ ea)
    exact PySem.W.kia_one PySem.W.kitx_dict I.kIn ⟨o, h1, h2.1⟩ e (fun z => nomatch z) h
  | @ins a C dx fs ea cl ha hn htk hm =>
    cases (show u = Value.ref a from rx)
    obtain ⟨mA, O, _⟩ := ins_get I.hok ea
    obtain ⟨od, J, _⟩ := O.look
    exact PySem.W.kia_one (PySem.W.kitx_own (cl.get _) cl.hd ha hn htk hm) I.kIn J e (fun z => nomatch z) h
end
end L2

namespace L2
open PySem PySem.Spec PyProof.Rows

/-! ### room -/
structure Room (k : Nat) (A : Around) : Prop where
  hd : A.handled = none
  dp : A.depth + 3 * k + 5 < recursionLimit
  un : A.units + 16 * k + 200 < cLine
theorem Room.mono {j k : Nat} {A : Around} (r : Room k A) (h : j ≤ k) : Room j A := ⟨r.hd, by have := r.dp; omega, by have := r.un; omega⟩
theorem Room.deeper {k : Nat} {A : Around} (r : Room (k + 1) A) (env : Env) : Room k (A.deeper env) :=
  ⟨r.hd, by have := r.dp; show A.depth + 1 + 3 * k + 5 < _; omega, by have := r.un; show A.units + 3 + 16 * k + 200 < _; omega⟩
theorem Room.in1 {k : Nat} {A : Around} (r : Room (k + 1) A) : Room k A.in1 :=
  ⟨r.hd, by have := r.dp; show A.depth + 3 * k + 5 < _; omega, by have := r.un; show A.units + 1 + 16 * k + 200 < _; omega⟩
theorem make_depth {A : Around} {C : Addr} {us : List Value} {kw : List (Str × Value)} : (A.under (.builtin "type.__call__" ⟨.ref C :: us, kw⟩)).depth = A.depth + 1 := by
  first | rfl | simp [Around.under, Code.weight, Code.isCreation, Code.isGuard, Code.isCaller, Code.frames, Code.isFrame, guardIds]
theorem make_units {A : Around} {C : Addr} {us : List Value} {kw : List (Str × Value)} : (A.under (.builtin "type.__call__" ⟨.ref C :: us, kw⟩)).units = A.units + 1 := by
  first | rfl | simp [Around.under, Code.cUnits, Code.frames, Code.isFrame]
theorem Room.make {k : Nat} {A : Around} (r : Room (k + 1) A) (C : Addr) (us : List Value) (kw : List (Str × Value)) : Room k (A.under (.builtin "type.__call__" ⟨.ref C :: us, kw⟩)) :=
  ⟨r.hd, by have := r.dp; rw [make_depth]; omega, by have := r.un; rw [make_units]; omega⟩
theorem Room.depth {k : Nat} {A : Around} (r : Room k A) : A.depth < recursionLimit := by have := r.dp; omega
theorem Room.units {k : Nat} {A : Around} (r : Room k A) : A.units + 64 < cLine := by have := r.un; omega
/-! ### argument lists and displays -/
def tNil : TA := fun _ H Q => Q [] H
def tCons (ta : TE) (tr : TA) : TA := fun σ H Q => ta σ H fun x H1 => tr σ H1 fun xs H2 => Q (x :: xs) H2
section
variable {X : Cx} {e : Expr} {es : List Expr} {te : TE} {t : TA} {pos : Pos}
theorem pa_nil : PA X [] tNil := fun _ _ _ _ H Q I h => Calls.spliced_nil ⟨[], H, I, .nil, h⟩
theorem pa_cons (ha : PE X e te) (hr : PA X es t) (hs : starEach (e :: es) X.env = (false, eval e X.env) :: starEach es X.env := by rfl) : PA X (e :: es) (tCons te t) := by
  intro pos pins s σ H Q I h
  rw [hs]
  show wpAny _ _ (spliced ((false, eval e X.env) :: backTo pos (starEach es X.env))) _ _ s
  refine Calls.spliced_cons (thn (ha pins s σ H _ I h) fun u s1 ⟨x, H1, I1, r1, q1⟩ => ?_)
  exact thn (hr pos pins s1 σ H1 _ I1 q1) fun us s2 ⟨xs, H2, I2, r2, q2⟩ => ⟨x :: xs, H2, I2, .cons r1 r2, q2⟩

/-- a tuple, a list of written items -/
def tTup (t : TA) : TE := fun σ H Q => t σ H fun xs H1 => xs.length ≤ sizeLine ∧ ∀ p, H1 p = none → Q (.ref p) (upd H1 p (.tup xs))
def tLst (t : TA) : TE := fun σ H Q => t σ H fun xs H1 => xs.length ≤ sizeLine ∧ ∀ p, H1 p = none → Q (.ref p) (upd H1 p (.lst xs))
theorem pe_tup {x1} (h : PA X es t) : PE X (.Tuple es x1 pos) (tTup t) := by
  intro pins s σ H Q I hq
  refine wpAny_Tuple_spliced (thn (h pos pins s σ H _ I hq) fun us s1 ⟨xs, H1, I1, r, z, q⟩ => ⟨by rw [← r.length]; exact z, ?_⟩)
  have hf : H1 s1.heap.objs.size = none := I1.hok.fresh (Nat.le_refl _)
  refine ⟨.ref s1.heap.objs.size, upd H1 s1.heap.objs.size (.tup xs), I1.laid (t' := s1.toks) (fun b u e => Heap.get?_push_of_some _ e) (Nat.le_refl _) ?_, rfl, q _ hf⟩
  exact ⟨z, us, r, ⟨_, Heap.get?_push_size _ rfl, rfl, _, rfl⟩⟩
theorem pe_lst (h : PA X es t) : PE X (.List es pos) (tLst t) := by
  intro pins s σ H Q I hq
  refine wpAny_List_spliced (thn (h pos pins s σ H _ I hq) fun us s1 ⟨xs, H1, I1, r, z, q⟩ => ⟨by rw [← r.length]; exact z, ?_⟩)
  have hf : H1 s1.heap.objs.size = none := I1.hok.fresh (Nat.le_refl _)
  refine ⟨.ref s1.heap.objs.size, upd H1 s1.heap.objs.size (.lst xs), I1.laid (t' := s1.toks) (fun b u e => Heap.get?_push_of_some _ e) (Nat.le_refl _) ?_, rfl, q _ hf⟩
  exact ⟨z, us, 0, r, Heap.get?_push_size _ rfl⟩
end

/-! ### what a def promises -/
/-- a def's promise: the bound arguments in the parameters' order, the heap, the wanted end, the wanted exception -/
abbrev Sp := List V → Hp → VK → XK → Prop
/-- how an exception lies behind a call (file 08 gives it): the callers' frames, abstract heap and state ahead of the call, the wish, the exception, the state -/
abbrev CXT := List Env → Hp → Shared → XK → Value → Shared → Prop

/-- the state at a call -/
structure Env0 (P : Program) (w : World) (K : PySem.W.Frag) (mg : Str → Option Value) (base : Heap) (A : Around) (outer : List Env) (s : Shared) (H : Hp) : Prop where
  frames : A.frames = some outer
  mod : Mod K mg base
  bs : ∀ b o, base.get? b = some o → s.heap.get? b = some o ∧ H b = none
  bsz : base.objs.size ≤ s.heap.objs.size
  funs : s.heap.FunFrames base outer
  frf : ∀ b ∈ frs outer, H b = none
  hok : HOk P w H s.heap
  bare : AllBare s.gens
/-- a call's end -/
def CE (outer : List Env) (P : Program) (w : World) (H : Hp) (s : Shared) (Q : VK) (u : Value) (s' : Shared) : Prop :=
  ∃ v H', s'.os = s.os ∧ AllBare s'.gens ∧ Un (frs outer) [] H H' s.heap s'.heap ∧ HOk P w H' s'.heap ∧ RelV v u ∧ Q v H'
def CR (CX : CXT) (outer : List Env) (P : Program) (w : World) (H : Hp) (s : Shared) (Q : VK) (E : XK) (r : Result) (s' : Shared) : Prop :=
  match r with
  | .ok (.ret u) => CE outer P w H s Q u s'
  | .ok _ => False
  | .error e => CX outer H s E e s'
structure FnOk (P : Program) (w : World) (K : PySem.W.Frag) (mg : Str → Option Value) (base : Heap) (CX : CXT) (k : Nat) (f : Addr) (fd : FuncData) (ps : List Str) (sp : Sp) : Prop where
  len : ∀ vs H Q E, sp vs H Q E → vs.length = ps.length
  run : ∀ (A : Around) (outer : List Env) (s : Shared) (H : Hp) (args : Args) (us : List Value) (vs : List V) (Q : VK) (E : XK), Room k A → Env0 P w K mg base A outer s H → BindsTo s fd args (ps.zip us) → Vals vs us → sp vs H Q E →
    codeAny (model P w) A (.call (.ref f) args) (CR CX outer P w H s Q E) s
theorem FnOk.mono {P : Program} {w : World} {K : PySem.W.Frag} {mg : Str → Option Value} {base : Heap} {CX : CXT} {j k : Nat} {f : Addr} {fd : FuncData} {ps : List Str} {sp : Sp} (F : FnOk P w K mg base CX j f fd ps sp) (h : j ≤ k) :
    FnOk P w K mg base CX k f fd ps sp := ⟨F.len, fun A outer s H args us vs Q E hr => F.run A outer s H args us vs Q E (hr.mono h)⟩
/-- a weaker promise -/
theorem FnOk.imp {P : Program} {w : World} {K : PySem.W.Frag} {mg : Str → Option Value} {base : Heap} {CX : CXT} {k : Nat} {f : Addr} {fd : FuncData} {ps : List Str} {sp sp' : Sp} (F : FnOk P w K mg base CX k f fd ps sp)
    (h : ∀ vs H Q E, sp' vs H Q E → sp vs H Q E) : FnOk P w K mg base CX k f fd ps sp' :=
  ⟨fun vs H Q E q => F.len vs H Q E (h _ _ _ _ q), fun A outer s H args us vs Q E hr he hb hv hs => F.run A outer s H args us vs Q E hr he hb hv (h _ _ _ _ hs)⟩

theorem Env0.make {P : Program} {w : World} {K : PySem.W.Frag} {mg : Str → Option Value} {base : Heap} {A : Around} {outer : List Env} {s : Shared} {H : Hp} (e : Env0 P w K mg base A outer s H) (C : Addr) (us : List Value) (kw : List (Str × Value)) :
    Env0 P w K mg base (A.under (.builtin "type.__call__" ⟨.ref C :: us, kw⟩)) outer s H := ⟨by first | exact e.frames | (simpa [Around.under, Code.envs, Code.isFrame, pushEnvs] using e.frames), e.mod, e.bs, e.bsz, e.funs, e.frf, e.hok, e.bare⟩
theorem Env0.in1 {P : Program} {w : World} {K : PySem.W.Frag} {mg : Str → Option Value} {base : Heap} {A : Around} {outer : List Env} {s : Shared} {H : Hp} (e : Env0 P w K mg base A outer s H) :
    Env0 P w K mg base A.in1 outer s H := ⟨e.frames, e.mod, e.bs, e.bsz, e.funs, e.frf, e.hok, e.bare⟩

section
variable {X : Cx} {pins : List (Addr × Obj)} {σ : St} {H : Hp} {s s' : Shared}
/-- from a body: what a callee wants -/
theorem Inv.env0 (I : Inv X pins σ H s) : Env0 X.prog X.w X.K X.mg X.base X.A X.stack s H :=
  ⟨I.ok.frames, I.ok.mod, I.bs, Nat.le_trans I.ok.bsz I.sz, I.stack, I.stkFree, I.hok, I.bare⟩
/-- behind a call -/
theorem Inv.after {Q : VK} {u : Value} (I : Inv X pins σ H s) (h : CE X.stack X.prog X.w H s Q u s') : EP X pins σ Q u s' := by
  obtain ⟨v, H', os, bare, un, hok, r, q⟩ := h
  obtain ⟨hh, g, d, t, os'⟩ := s'
  obtain rfl : os' = s.os := os
  exact ⟨v, H', I.call (h' := hh) (g' := g) (d' := d) (t' := t) (ch := []) un hok bare (fun b z => absurd z (by simp)), r, q⟩
end

/-! ### calls -/
/-- f(..): the written arguments, then the defaults dvs; E: what is wanted of an exception -/
def tCall (sp : Sp) (dvs : List V) (E : XK) (t : TA) : TE := fun σ H Q => t σ H fun vs H1 => sp (vs ++ dvs) H1 Q E
/-- o.m(..) of an instance of the class at C -/
def tMeth (C : Addr) (m : Str) (sp : Sp) (dvs : List V) (E : XK) (ta : TE) (t : TA) : TE := fun σ H Q => ta σ H fun x H1 => ∃ a dx fs, x = .ref a ∧ H1 a = some (.ins C dx fs) ∧ fs.lookup m = none ∧
  t σ H1 fun vs H2 => sp (x :: (vs ++ dvs)) H2 Q E
/-- C(..): a new instance and its dict, then __init__ -/
def tMake (C : Addr) (sp : Sp) (dvs : List V) (E : XK) (t : TA) : TE := fun σ H Q => t σ H fun vs H1 => ∀ x dx, H1 x = none → H1 dx = none → dx ≠ x →
  sp (.ref x :: (vs ++ dvs)) (upd (upd H1 dx (.own x)) x (.ins C dx [])) (fun v H2 => v = .non ∧ Q (.ref x) H2) E

/-- how the parameters are bound: us the positional arguments, kw the keywords' values by name, ds the defaults that fill up -/
def Binds (K : PySem.W.Frag) (fd : FuncData) (ps : List Str) (ds : List Value) : Prop :=
  ∀ (s : Shared) (us : List Value), K.In s.heap → (us ++ ds).length = ps.length → BindsTo s fd ⟨us, []⟩ (ps.zip (us ++ ds))
/-- every parameter is given -/
theorem Binds.all {K : PySem.W.Frag} {fd : FuncData} {ps : List Str} (h : ∀ us : List Value, us.length = ps.length → bindArgs fd ⟨us, []⟩ = pure (ps.zip us)) : Binds K fd ps [] := fun s us _ hl => by
  rw [List.append_nil] at hl ⊢
  exact .of_eq (h us hl)

/-- an exception of a callee reaches what this body wants of exceptions -/
def Passes (CX : CXT) (X : Cx) (E : XK) : Prop := ∀ (pins : List (Addr × Obj)) (σ : St) (H : Hp) (s : Shared) (e : Value) (s' : Shared), Inv X pins σ H s → CX X.stack H s E e s' → X.xe e s'

section
variable {X : Cx} {CX : CXT} {k : Nat} {f C : Addr} {fd : FuncData} {ps : List Str} {sp : Sp} {dvs : List V} {ds : List Value} {E : XK} {x m : Str} {p pos apos : Pos} {e o : Expr} {es : List Expr} {ta : TE} {t : TA}

/-- the callee runs -/
theorem run_fn {pins : List (Addr × Obj)} {σ : St} {H : Hp} {s : Shared} {Q : VK} {us : List Value} {vs : List V} (F : FnOk X.prog X.w X.K X.mg X.base CX k f fd ps sp) (hr : Room k X.A) (hb : Binds X.K fd ps ds) (hd : Vals dvs ds) (hx : Passes CX X E)
    (I : Inv X pins σ H s) (r : Vals vs us) (h : sp (vs ++ dvs) H Q E) : wpAny (model X.prog X.w) X.A (call (.ref f) us) (EP X pins σ Q) X.xe s := by
  have r2 : Vals (vs ++ dvs) (us ++ ds) := r.append hd
  have hl : (us ++ ds).length = ps.length := by rw [← r2.length]; exact F.len _ _ _ _ h
  refine wpAny_call (codeAny_mono (F.run X.A X.stack s H ⟨us, []⟩ (us ++ ds) (vs ++ dvs) Q E hr I.env0 (hb s us I.kIn hl) r2 h) fun r s' hq => ?_)
  cases r with
  | error e => exact hx pins σ H s e s' I hq
  | ok fl =>
    cases fl with
    | ret u => exact I.after hq
    | next => exact False.elim hq
    | brk => exact False.elim hq
    | cont => exact False.elim hq

theorem pe_call (F : FnOk X.prog X.w X.K X.mg X.base CX k f fd ps sp) (hr : Room k X.A) (hg : Gl X x) (hm : X.mg x = some (.ref f)) (hk : PySem.W.keepIn X.K (.ref f) = true) (hb : Binds X.K fd ps ds) (hd : Vals dvs ds) (hx : Passes CX X E)
    (ha : PA X (e :: es) t) (hdb : (x == ("__debug__" : Str)) = false := by decide) (he : starEach (e :: es) X.env = (false, eval e X.env) :: starEach es X.env := by rfl) (hpl : (backTo pos (starEach es X.env)).any (·.1) = false := by rfl) :
    PE X (.Call (.Name x p) (e :: es) [] pos) (tCall sp dvs E t) := by
  intro pins s σ H Q I h
  refine wpAny_Call_Name_kw (ld_glob I hg hm ?_ hdb)
  refine PySem.W.callWith_K (h₀ := X.base) I.ok.mod.kin hk (thn (ha pos pins s σ H _ I h) fun us s1 ⟨vs, H1, I1, r, q⟩ => ⟨I1.kIn, ?_⟩) he hpl
  exact run_fn F hr hb hd hx I1 r q
/-- o.m(e, ..) -/
theorem pe_meth {pl : Sem Bool} (he : PE X o ta) (c : Cls X.K C) (hm : Meth X.K C m f) (F : FnOk X.prog X.w X.K X.mg X.base CX k f fd ps sp) (hr : Room k X.A) (hb : Binds X.K fd ps ds) (hd : Vals dvs ds) (hx : Passes CX X E) (ha : PA X (e :: es) t)
    (hst : starEach (e :: es) X.env = (false, eval e X.env) :: starEach es X.env := by rfl) (hpl : (backTo pos (starEach es X.env)).any (·.1) = false := by rfl)
    (ht : eval (.Call (.Attribute o m apos) (e :: es) [] pos) X.env = (do
      let ov ← eval o X.env
      standAt apos.atName
      let (f, first) ← holding [ov] (getMethod ov m pl)
      callWith pos f first (backTo pos (starEach (e :: es) X.env)) (backToKw pos (keywordEach [] X.env))) := by rfl) :
    PE X (.Call (.Attribute o m apos) (e :: es) [] pos) (tMeth C m sp dvs E ta t) := by
  intro pins s σ H Q I h
  refine PySem.W.methodCall_KW (pl := pl) (thn (he pins s σ H _ I h) fun u s1 ⟨x, H1, I1, rx, a, dx, fs, ex, ea, l, q⟩ => ?_) ht
  subst ex
  obtain rfl : u = Value.ref a := rx
  refine getmeth_ok I1 ea c hm l ?_
  refine PySem.W.callWith_K (first := [.ref a]) (h₀ := X.base) I.ok.mod.kin hm.kp (thn (ha pos pins s1 σ H1 _ I1 q) fun us s2 ⟨vs, H2, I2, r, q2⟩ => ⟨I2.kIn, ?_⟩) hst hpl
  exact run_fn (us := .ref a :: us) (vs := .ref a :: vs) F hr hb hd hx I2 (.cons rfl r) q2
/-- o.m() -/
theorem pe_meth0 {pl : Sem Bool} (he : PE X o ta) (c : Cls X.K C) (hm : Meth X.K C m f) (F : FnOk X.prog X.w X.K X.mg X.base CX k f fd ps sp) (hr : Room k X.A) (hb : Binds X.K fd ps ds) (hd : Vals dvs ds) (hx : Passes CX X E)
    (ht : eval (.Call (.Attribute o m apos) [] [] pos) X.env = (do
      let ov ← eval o X.env
      standAt apos.atName
      let (f, first) ← holding [ov] (getMethod ov m pl)
      callWith pos f first (backTo pos (starEach [] X.env)) (backToKw pos (keywordEach [] X.env))) := by rfl) :
    PE X (.Call (.Attribute o m apos) [] [] pos) (tMeth C m sp dvs E ta tNil) := by
  intro pins s σ H Q I h
  refine PySem.W.methodCall_KW (pl := pl) (thn (he pins s σ H _ I h) fun u s1 ⟨x, H1, I1, rx, a, dx, fs, ex, ea, l, q⟩ => ?_) ht
  subst ex
  obtain rfl : u = Value.ref a := rx
  refine getmeth_ok I1 ea c hm l ?_
  exact PySem.W.callWith_K0 (first := [.ref a]) I1.kIn hm.kp (run_fn (us := [.ref a]) (vs := [.ref a]) F hr hb hd hx I1 (.cons rfl .nil) q)

/-- what a class must have to be made -/
structure Mk (K : PySem.W.Frag) (C f : Addr) : Prop where
  makes : PySem.W.makesIn K C = true
  init : PySem.W.findIn K (.ref C) "__init__" = some (some (.ref f))
  fn : PySem.W.isFn K (.ref f) = true
  kp : PySem.W.keepIn K (.ref C) = true

theorem run_make {pins : List (Addr × Obj)} {σ : St} {H : Hp} {s : Shared} {Q : VK} {us : List Value} {vs : List V} (M : Mk X.K C f) (F : FnOk X.prog X.w X.K X.mg X.base CX k f fd ps sp) (hr : Room (k + 1) X.A) (hb : Binds X.K fd ps ds) (hd : Vals dvs ds)
    (hx : Passes CX X E) (I : Inv X pins σ H s) (r : Vals vs us)
    (h : ∀ x dx, H x = none → H dx = none → dx ≠ x → sp (.ref x :: (vs ++ dvs)) (upd (upd H dx (.own x)) x (.ins C dx [])) (fun v H2 => v = .non ∧ Q (.ref x) H2) E) :
    wpAny (model X.prog X.w) X.A (call (.ref C) us) (EP X pins σ Q) X.xe s := by
  have hq := h (s.heap.objs.size + 1) s.heap.objs.size (I.hok.fresh (Nat.le_succ _)) (I.hok.fresh (Nat.le_refl _)) (Nat.ne_of_lt (Nat.lt_succ_self _))
  have I2 := Inv.made (C := C) I
  have r2 : Vals (V.ref (s.heap.objs.size + 1) :: (vs ++ dvs)) (Value.ref (s.heap.objs.size + 1) :: (us ++ ds)) := .cons rfl (r.append hd)
  have hl : (Value.ref (s.heap.objs.size + 1) :: us ++ ds).length = ps.length := by
    have e := r2.length
    rw [F.len _ _ _ _ hq] at e
    exact e.symm
  refine wpAny_call (make_map (f := f) I.kIn M.makes M.init (beq_iff_eq.mp M.fn) (codeAny_mono (F.run _ X.stack _ _ ⟨Value.ref (s.heap.objs.size + 1) :: us, []⟩ (Value.ref (s.heap.objs.size + 1) :: (us ++ ds)) _ _ E (hr.make C us [])
    (I2.env0.make C us []) (hb _ (Value.ref (s.heap.objs.size + 1) :: us) I2.kIn hl) r2 hq) fun r s' hq' => ?_))
  cases r with
  | error e => exact hx pins σ _ _ e s' I2 hq'
  | ok fl =>
    cases fl with
    | ret u =>
      obtain ⟨v, H', I3, rv, ev, q3⟩ := I2.after hq'
      subst ev
      exact ⟨rv, ⟨V.ref (s.heap.objs.size + 1), H', I3, rfl, q3⟩⟩
    | next => exact False.elim hq'
    | brk => exact False.elim hq'
    | cont => exact False.elim hq'
theorem pe_make0 (M : Mk X.K C f) (F : FnOk X.prog X.w X.K X.mg X.base CX k f fd ps sp) (hr : Room (k + 1) X.A) (hg : Gl X x) (hm : X.mg x = some (.ref C)) (hb : Binds X.K fd ps ds) (hd : Vals dvs ds) (hx : Passes CX X E)
    (hdb : (x == ("__debug__" : Str)) = false := by decide) : PE X (.Call (.Name x p) [] [] pos) (tMake C sp dvs E tNil) := by
  intro pins s σ H Q I h
  refine wpAny_Call_Name_kw (ld_glob I hg hm ?_ hdb)
  exact PySem.W.callWith_K0 I.kIn M.kp (run_make (us := []) M F hr hb hd hx I .nil h)
end

/-! ### keywords -/
section
variable {X : Cx} {CX : CXT} {k : Nat} {f C : Addr} {fd : FuncData} {ps ks : List Str} {sp : Sp} {E : XK} {x m : Str} {p pos apos kpos : Pos} {e o : Expr} {es : List Expr} {kws : List Keyword} {te ta : TE} {t tk : TA} {nm : Option Str}
/-- how a call with keywords binds: g puts the positional values us and the keywords' values ws (names ks) in the parameters' order, defaults among them -/
structure KBinds (K : PySem.W.Frag) (fd : FuncData) (ps ks : List Str) (g : List Value → List Value → List Value) (gV : List V → List V → List V) : Prop where
  to : ∀ (s : Shared) (us ws : List Value), K.In s.heap → (g us ws).length = ps.length → BindsTo s fd ⟨us, ks.zip ws⟩ (ps.zip (g us ws))
  rel : ∀ {vs : List V} {us : List Value} {zs : List V} {ws : List Value}, Vals vs us → Vals zs ws → Vals (gV vs zs) (g us ws)
variable {g : List Value → List Value → List Value} {gV : List V → List V → List V}
end

/-! ### a def's body keeps its promise -/
/-- names: the parameters first -/
structure FnScope (N P : List Str) (sc : Scope) : Prop where
  kind : sc.kind = .function
  co : sc.isCoroutine = false
  gen : sc.isGenerator = false
  nd : N.Nodup
  pre : N.take P.length = P
  par : ∀ x ∈ P, sc.names.lookup x = some .local ∨ sc.names.lookup x = some .cell
  nofree : ∀ y ∈ sc.names, y.2 ≠ .free

theorem bindL_out {kindOf : Str → Option NameKind} {x : Str} : ∀ {binds : List (Str × Value)} {m : Str → Option Value}, (∀ v, (x, v) ∉ binds) → bindL kindOf binds m x = m x
  | [], _, _ => rfl
  | (n, v) :: r, m, h => by
    unfold bindL
    rw [bindL_out fun w hw => h w (List.mem_cons_of_mem _ hw)]
    split
    · have : x ≠ n := by rintro rfl; exact h v List.mem_cons_self
      simp [this]
    · rfl
theorem bindC_out {kindOf : Str → Option NameKind} {x : Str} : ∀ {binds : List (Str × Value)} {m : Str → Option Value}, (∀ v, (x, v) ∉ binds) → bindC kindOf binds m x = m x
  | [], _, _ => rfl
  | (n, v) :: r, m, h => by
    unfold bindC
    rw [bindC_out fun w hw => h w (List.mem_cons_of_mem _ hw)]
    split
    · rfl
    · have : x ≠ n := by rintro rfl; exact h v List.mem_cons_self
      simp [this]
theorem bindL_get {kindOf : Str → Option NameKind} {x : Str} {v : Value} : ∀ {P : List Str} {vs : List Value} {i : Nat} {m : Str → Option Value}, P.Nodup → P[i]? = some x → vs[i]? = some v → kindOf x = some .local →
    bindL kindOf (P.zip vs) m x = some v
  | [], _, _, _, _, h, _, _ => by simp at h
  | _ :: _, [], _, _, _, _, h, _ => by simp at h
  | p :: P, w :: vs, 0, m, nd, h1, h2, hk => by
    simp at h1 h2; subst h1; subst h2
    show bindL kindOf ((p, w) :: P.zip vs) m p = _
    unfold bindL
    rw [bindL_out fun v hv => (List.nodup_cons.mp nd).1 (List.of_mem_zip hv).1, if_pos hk]
    simp
  | p :: P, w :: vs, i + 1, m, nd, h1, h2, hk => by
    show bindL kindOf ((p, w) :: P.zip vs) m x = _
    unfold bindL
    exact bindL_get (i := i) (List.nodup_cons.mp nd).2 (by simpa using h1) (by simpa using h2) hk
theorem bindC_get {kindOf : Str → Option NameKind} {x : Str} {v : Value} : ∀ {P : List Str} {vs : List Value} {i : Nat} {m : Str → Option Value}, P.Nodup → P[i]? = some x → vs[i]? = some v → kindOf x ≠ some .local →
    bindC kindOf (P.zip vs) m x = some v
  | [], _, _, _, _, h, _, _ => by simp at h
  | _ :: _, [], _, _, _, _, h, _ => by simp at h
  | p :: P, w :: vs, 0, m, nd, h1, h2, hk => by
    simp at h1 h2; subst h1; subst h2
    show bindC kindOf ((p, w) :: P.zip vs) m p = _
    unfold bindC
    rw [bindC_out fun v hv => (List.nodup_cons.mp nd).1 (List.of_mem_zip hv).1, if_neg hk]
    simp
  | p :: P, w :: vs, i + 1, m, nd, h1, h2, hk => by
    show bindC kindOf ((p, w) :: P.zip vs) m x = _
    unfold bindC
    exact bindC_get (i := i) (List.nodup_cons.mp nd).2 (by simpa using h1) (by simpa using h2) hk

/-- the names' values at the entry -/
def start (N : List Str) (vs : List V) : St := vs.map some ++ List.replicate (N.length - vs.length) none

/-- the context of a def's body, at its entry; an exception leaves the frame, then lies as CX says -/
def cxOf (CX : CXT) (P : Program) (w : World) (K : PySem.W.Frag) (mg : Str → Option Value) (base : Heap) (N : List Str) (qual : Str) (scope : Scope) (f : Addr) (cd : Value) (A : Around) (outer : List Env) (s : Shared) (H : Hp) (E : XK) : Cx where
  prog := P
  w := w
  K := K
  mg := mg
  base := base
  A := A.deeper (envOfC qual scope s.heap.objs.size f cd)
  N := N
  s₀ := s
  H₀ := H
  env := envOfC qual scope s.heap.objs.size f cd
  outer := outer
  stack := envOfC qual scope s.heap.objs.size f cd :: outer
  ex := []
  calm := true
  fn := fun _ => true
  pn := []
  xe := fun e s' => wpAny (model P w) (A.deeper (envOfC qual scope s.heap.objs.size f cd)) (leaving (envOfC qual scope s.heap.objs.size f cd) e) (fun _ s'' => CX outer H s E e s'') (fun e' s'' => CX outer H s E e' s'') s'

theorem cell_has {sc : Scope} {n : Nat} {x : Str} (h : sc.names.lookup x = some .cell) : ∃ c, (cellsFrom n sc.names []).lookup x = some c := by
  have q := PySem.W.cellsFrom_some sc.names n [] (.inl h)
  exact Option.isSome_iff_exists.mp q

theorem inv_start {CX : CXT} {P : Program} {w : World} {K : PySem.W.Frag} {mg : Str → Option Value} {base : Heap} {N ps : List Str} {qual : Str} {scope : Scope} {f : Addr} {cd : Value} {A : Around} {outer : List Env} {s s1 : Shared} {H : Hp} {E : XK} {us : List Value} {vs : List V}
    (S : FnScope N ps scope) (hd : A.handled = none) (e0 : Env0 P w K mg base A outer s H) (hl : vs.length = ps.length) (r : Vals vs us)
    (x : InCallC s s.heap.objs.size (bindL (envOfC qual scope s.heap.objs.size f cd).kindOf (ps.zip us) fun _ => none) (cellsFrom (s.heap.objs.size + 1) scope.names []) (bindC (envOfC qual scope s.heap.objs.size f cd).kindOf (ps.zip us) fun _ => none) s1) :
    Inv (cxOf CX P w K mg base N qual scope f cd A outer s H E) [] (start N vs) H s1 := by
  have hpl : ps.length ≤ N.length := by have := congrArg List.length S.pre; rw [List.length_take] at this; omega
  obtain ⟨h1, tk, rfl, hk⟩ := x.done
  have noA : ∀ b : Addr, b ∉ (cxOf CX P w K mg base N qual scope f cd A outer s H E).ex := fun b z => absurd (show b ∈ ([] : List Addr) from z) (by simp)
  refine ⟨⟨e0.mod, S.kind, rfl, rfl, Nat.le_refl _, fun y z c h1 h2 => ?_, fun y hy => ?_, fun y c _ h => ?_, fun _ => hd, Around.frames_deeper e0.frames, .inr ⟨rfl, rfl⟩, fun b z => absurd z (noA b), e0.bs, e0.bsz, fun b _ _ => noA b, fun b z => absurd z (noA b), e0.funs, e0.frf⟩,
    rfl, e0.bare, Un.kept hk, ⟨_, x.toInCall.ns, fun i y v h1 h2 h3 => ?_⟩, fun y c h => ⟨_, x.cell y c h⟩, e0.hok.fresh (Nat.le_refl _), fun y c h => ?_, fun p hp => absurd (show p ∈ ([] : List (Addr × Obj)) from hp) (by simp), e0.hok.kept hk, ?_⟩
  · exact name_of_addr x.apart (PySem.mem_of_lookup h1) (PySem.mem_of_lookup h2)
  · have hy : scope.names.lookup y = some .cell ∨ scope.names.lookup y = some .free := hy
    rcases hy with hy | hy
    · exact cell_has hy
    · exact absurd rfl (S.nofree _ (PySem.mem_of_lookup hy))
  · exact Nat.le_of_lt (x.above y c (PySem.mem_of_lookup h))
  · have hi : i < vs.length := by
      unfold start at h2
      by_cases hi : i < vs.length
      · exact hi
      · rw [List.getElem?_append_right (by simpa using hi)] at h2
        rw [List.getElem?_replicate] at h2
        split at h2 <;> cases h2
    have ha : vs[i]? = some v := by
      unfold start at h2
      rw [List.getElem?_append_left (by simpa using hi), List.getElem?_map] at h2
      cases e : vs[i]? with
      | none => rw [e] at h2; cases h2
      | some a => rw [e] at h2; cases h2; rfl
    obtain ⟨u, hu, rv⟩ := r.get ha
    have hp : ps[i]? = some y := by
      rw [← S.pre, List.getElem?_take_of_lt (by omega)]; exact h1
    have ndP : ps.Nodup := by rw [← S.pre]; exact S.nd.sublist (List.take_sublist _ _)
    refine ⟨u, rv, ?_⟩
    rcases S.par y (List.mem_of_getElem? hp) with k | k
    · exact .inl ⟨k, bindL_get ndP hp hu k⟩
    · obtain ⟨c, e⟩ := cell_has (n := s.heap.objs.size + 1) k
      refine .inr ⟨.inl k, c, e, ?_⟩
      have q := x.cell y c e
      rw [bindC_get ndP hp hu (by show scope.names.lookup y ≠ _; rw [k]; decide)] at q
      exact q
  · exact e0.hok.fresh (Nat.le_of_lt (x.above y c (PySem.mem_of_lookup h)))
  · unfold start
    show _ = N.length
    rw [List.length_append, List.length_map, List.length_replicate]
    omega

/-- THE RULE: a def (or a method) of the text, by its body. The body's reading t is chosen for each entry; it is run at the parameters' values -/
theorem fn_of {CX : CXT} {P : Program} {w : World} {K : PySem.W.Frag} {mg : Str → Option Value} {base : Heap} {k : Nat} {f : Addr} {name qual : Str} {params : Arguments} {body : List Stmt} {scope : Scope} {dV kV doc pm cdv ct oc : Value} {an od : Option Addr}
    {osl : Array (Option Value)} {N ps : List Str} {sp : Sp} (lk : K.lookup f = some ⟨oc, od, .func (PySem.W.fnOf name qual params body scope dV kV doc pm an cdv ct), osl⟩) (hcd : PySem.W.codeIn K cdv qual = true) (S : FnScope N ps scope)
    (len : ∀ vs H Q E, sp vs H Q E → vs.length = ps.length)
    (hbody : ∀ (A : Around) (outer : List Env) (s : Shared) (H : Hp) (vs : List V) (Q : VK) (E : XK), Room k (A.deeper (envOfC qual scope s.heap.objs.size f cdv)) → sp vs H Q E →
      ∃ t, PSs (cxOf CX P w K mg base N qual scope f cdv A outer s H E) body t ∧ t { nx := fun _ H' => Q .non H', rt := Q } (start N vs) H) :
    FnOk P w K mg base CX (k + 1) f (PySem.W.fnOf name qual params body scope dV kV doc pm an cdv ct) ps sp := by
  refine ⟨len, fun A outer s H args us vs Q E hr e0 hb r hsp => ?_⟩
  have hl := len _ _ _ _ hsp
  have KX : K.In s.heap := e0.mod.kin.keeps fun b o e => (e0.bs b o e).1
  have lim : s.heap.NoLimit := e0.mod.nolimit.keeps fun b o e => (e0.bs b o e).1
  have hkind : ∀ y ∈ ps.zip us, scope.names.lookup y.1 = some .local ∨ (scope.names.lookup y.1 = some .cell ∧ ((cellsFrom (s.heap.objs.size + 1) scope.names []).lookup y.1).isSome = true) := fun ⟨n, v⟩ hy => by
    rcases S.par n (List.of_mem_zip hy).1 with q | q
    · exact .inl q
    · exact .inr ⟨q, PySem.W.cellsFrom_some _ _ _ (.inl q)⟩
  refine codeAny_call_function hr.depth (KX _ _ lk) rfl S.co S.gen rfl (PySem.W.codeRec_of KX hcd) (hb _ _ _ _ ?_)
  refine wpAny_newFunctionEnv_cells S.kind hkind fun env he s1 x => ?_
  subst he
  refine ⟨lim.keeps x.toInCall.keep, codeAny_func ?_⟩
  obtain ⟨t, ht, hq⟩ := hbody A outer s H vs Q E (hr.deeper _) hsp
  have I : Inv (cxOf CX P w K mg base N qual scope f cdv A outer s H E) [] (start N vs) H s1 := inv_start S hr.hd e0 hl r x
  refine wpAny_mono (ht [] s1 (start N vs) H _ I hq) (fun fl s' hs => ?_) fun e s' hs => hs
  have fin : ∀ {σ' : St} {H' : Hp} {v : V} {u : Value}, Inv (cxOf CX P w K mg base N qual scope f cdv A outer s H E) [] σ' H' s' → RelV v u → Q v H' → CE outer P w H s Q u s' :=
    fun {σ' H' v u} J rv q => ⟨v, H', J.os, J.bare, J.base, J.hok, rv, q⟩
  cases fl with
  | ret u =>
    obtain ⟨v, σ', H', J, rv, q⟩ := hs
    exact fin J rv q
  | next =>
    obtain ⟨σ', H', J, q⟩ := hs
    exact fin (v := V.non) (u := Value.none) J rfl q
  | brk =>
    obtain ⟨_, _, _, q⟩ := hs
    exact False.elim q
  | cont =>
    obtain ⟨_, _, _, q⟩ := hs
    exact False.elim q
end L2

namespace L2
open PySem PySem.Spec PyProof.Rows
section
variable {X : Cx} {x : Str} {p pos : Pos} {e : Expr} {es : List Expr} {t : TA} {id T : String} {r : List V → Hp → VK → Prop}

def tCB (r : List V → Hp → VK → Prop) (t : TA) : TE := fun σ H Q => t σ H fun vs H1 => r vs H1 Q
/-- f(e, ..), f a built-in function -/
theorem pe_callB (hc : CallR X (.builtin id) r) (hg : Gl X x) (hm : X.mg x = none) (hv : bootBuiltins x = some (.builtin id)) (ha : PA X (e :: es) t) (hn : x ≠ "__name__" := by decide) (hdb : (x == ("__debug__" : Str)) = false := by decide)
    (he : starEach (e :: es) X.env = (false, eval e X.env) :: starEach es X.env := by rfl) (hpl : (backTo pos (starEach es X.env)).any (·.1) = false := by rfl) : PE X (.Call (.Name x p) (e :: es) [] pos) (tCB r t) := by
  intro pins s σ H Q I h
  refine wpAny_Call_Name_kw (ld_blt I hg hm hv ?_ hn hdb)
  exact PyProof.Rows.callWith_builtin1 (thn (ha pos pins s σ H _ I h) fun us s1 ⟨vs, H1, I1, r1, q1⟩ => hc pins s1 σ H1 vs us Q I1 r1 q1) he hpl
/-- T(e, ..), T a built-in type -/
theorem pe_callTy (hc : CallR X (.type T) r) (hg : Gl X x) (hm : X.mg x = none) (hv : bootBuiltins x = some (.type T)) (ha : PA X (e :: es) t) (hn : x ≠ "__name__" := by decide) (hdb : (x == ("__debug__" : Str)) = false := by decide)
    (he : starEach (e :: es) X.env = (false, eval e X.env) :: starEach es X.env := by rfl) (hpl : (backTo pos (starEach es X.env)).any (·.1) = false := by rfl) : PE X (.Call (.Name x p) (e :: es) [] pos) (tCB r t) := by
  intro pins s σ H Q I h
  refine wpAny_Call_Name_kw (ld_blt I hg hm hv ?_ hn hdb)
  exact PyProof.Rows.callWith_type1 (thn (ha pos pins s σ H _ I h) fun us s1 ⟨vs, H1, I1, r1, q1⟩ => hc pins s1 σ H1 vs us Q I1 r1 q1) he hpl
end
end L2

namespace HT
open PySem PyProof.Rows

section
open PySem.SeqAt
open PySem.AutoSeq1 (wpAny_loadPart')
open PySem.MeetsSeq PySem.MeetsSeq2 PySem.MeetsSeq3

end

section
variable {prog : Program} {w : World} {A : Around} {E : Value → Shared → Prop} {s : Shared}

/-! ### t[a:b], not the whole -/
/-- a slice's bound as a place among n (d where it is left out) -/
def sIx (n d : Nat) : Option Int → Nat
  | none => d
  | some v => if v < 0 then (v + (n : Int)).toNat else min v.toNat n
end
end HT

namespace L2
open PySem PySem.Spec PyProof.Rows

/-! ### the parts of a slice -/
abbrev TO := St → Hp → (Option Int → Hp → Prop) → Prop
/-- a slice's part (left out, or an int) -/
def PO (X : Cx) (e : Option Expr) (t : TO) : Prop :=
  ∀ (pins : List (Addr × Obj)) (s : Shared) (σ : St) (H : Hp) (Q : Option Int → Hp → Prop), Inv X pins σ H s → t σ H Q →
    wpAny (model X.prog X.w) X.A (evalPart e X.env) (fun u s' => ∃ o H', Inv X pins σ H' s' ∧ IsPart u o ∧ Q o H') X.xe s
def tNoPart : TO := fun _ H Q => Q none H
def tPart (t : TE) : TO := fun σ H Q => t σ H fun x H1 => ∃ i, x = .int i ∧ Q (some i) H1

section
variable {X : Cx} {e : Expr} {te : TE} {lo hi : Option Expr} {tl th : TO} {pos p2 : Pos}

theorem po_none : PO X none tNoPart := by
  intro pins s σ H Q I h
  rw [evalPart_none]
  exact wpAny_pure ⟨none, H, I, .none, h⟩
theorem po_some (h : PE X e te) : PO X (some e) (tPart te) := by
  intro pins s σ H Q I hw
  rw [evalPart_some]
  refine thn (h pins s σ H _ I hw) fun u s1 ⟨x, H1, I1, r1, q1⟩ => ?_
  obtain ⟨i, rfl, q⟩ := q1
  obtain ⟨t, rfl⟩ := r1
  exact ⟨some i, H1, I1, .int i t, q⟩

/-- what a slice of a value is, by values: the slice object stands at sl -/
def SlR (X : Cx) (r : V → Option Int → Option Int → Hp → VK → Prop) : Prop :=
  ∀ (pins : List (Addr × Obj)) (s : Shared) (σ : St) (H : Hp) (x : V) (v vl vu : Value) (lo hi : Option Int) (sl : Addr) (Q : VK), Inv X pins σ H s → RelV x v → s.heap.IsSliceOf sl vl vu .none → IsPart vl lo → IsPart vu hi → r x lo hi H Q →
    ∃ T id, typeLookup (.type T) "__getitem__" = pure (some (.builtin id)) ∧ s.TypeIs v T ∧ wpAny (model X.prog X.w) X.A (getItem v (.ref sl)) (EP X pins σ Q) X.xe s
theorem SlR.or {r r' : V → Option Int → Option Int → Hp → VK → Prop} (h : SlR X r) (h' : SlR X r') : SlR X (fun x lo hi H Q => r x lo hi H Q ∨ r' x lo hi H Q) := by
  intro pins s σ H x v vl vu lo hi sl Q I rx hs pl pu q
  rcases q with q | q
  · exact h pins s σ H x v vl vu lo hi sl Q I rx hs pl pu q
  · exact h' pins s σ H x v vl vu lo hi sl Q I rx hs pl pu q
def tSl (r : V → Option Int → Option Int → Hp → VK → Prop) (te : TE) (tl th : TO) : TE := fun σ H Q => te σ H fun x H1 => tl σ H1 fun l H2 => th σ H2 fun u H3 => r x l u H3 Q
/-- a[lo:hi], any a -/
theorem pe_slice {r : V → Option Int → Option Int → Hp → VK → Prop} (hr : SlR X r) (he : PE X e te) (hl : PO X lo tl) (hu : PO X hi th) : PE X (.Subscript e (.Slice lo hi none p2) pos) (tSl r te tl th) := by
  intro pins s σ H Q I h
  refine Subscript_ (thn (he pins s σ H _ I h) fun v s1 ⟨x, H1, I1, r1, q1⟩ => ?_)
  refine wpAny_Slice (thn (hl pins s1 σ H1 _ I1 q1) fun vl s2 ⟨l, H2, I2, pl, q2⟩ => thn (hu pins s2 σ H2 _ I2 q2) fun vu s3 ⟨u, H3, I3, pu, q3⟩ => ?_)
  rw [evalPart_none]
  refine wpAny_pure ?_
  have I4 : Inv X pins σ H3 { s3 with heap := s3.heap.push { cls := .type "slice", data := .fields #[vl, vu, .none] } } := I3.kept (t' := s3.toks) fun b ob q => Heap.get?_push_of_some _ q
  obtain ⟨T, id, hT, ht, hg⟩ := hr pins { s3 with heap := s3.heap.push { cls := .type "slice", data := .fields #[vl, vu, .none] } } σ H3 x v vl vu l u s3.heap.objs.size Q I4 r1 (Heap.IsSliceOf.new ..) pl pu q3
  show wpAny (model X.prog X.w) X.A (subscriptTail e (.Slice lo hi none p2) v (.ref s3.heap.objs.size)) (EP X pins σ Q) X.xe { s3 with heap := s3.heap.push { cls := .type "slice", data := .fields #[vl, vu, .none] } }
  exact tail_any (ops := [.ref s3.heap.objs.size, v]) ht hT hg (by with_unfolding_all rfl)

/-- the items of xs[lo:hi] -/
def cutV (xs : List V) (lo hi : Option Int) : List V := (xs.drop (HT.sIx xs.length 0 lo)).take (HT.sIx xs.length xs.length hi - HT.sIx xs.length 0 lo)
theorem cutV_length (xs : List V) (lo hi : Option Int) : (cutV xs lo hi).length ≤ xs.length := by
  unfold cutV
  rw [List.length_take, List.length_drop]
  omega
/-! ### t < u, t + u -/
end
end L2

namespace L2
open PySem PySem.Spec PyProof.Rows

/-! ### places -/
/-- the place that an index of any sign means -/
def ixN (n : Nat) (i : Int) : Option Nat := if 0 ≤ i then (if i < n then some i.toNat else none) else if -(n : Int) ≤ i then some (i + n).toNat else none
def atI {α : Type} (xs : List α) (i : Int) : Option α := (ixN xs.length i).bind fun j => xs[j]?
theorem ixN_seq {n : Nat} {i : Int} {j : Nat} (h : ixN n i = some j) : seqIndex? i n = some j ∧ j < n ∧ -(n : Int) ≤ i ∧ i < n := by
  unfold ixN at h
  by_cases h0 : 0 ≤ i
  · rw [if_pos h0] at h
    by_cases h1 : i < n
    · rw [if_pos h1] at h
      have e : i.toNat = j := Option.some.inj h
      exact ⟨by rw [seqIndex_of h0 h1, e], by omega, by omega, h1⟩
    · rw [if_neg h1] at h; cases h
  · rw [if_neg h0] at h
    by_cases h1 : -(n : Int) ≤ i
    · rw [if_pos h1] at h
      have e : (i + n).toNat = j := Option.some.inj h
      exact ⟨by rw [seqIndex_neg (by omega) h1, e], by omega, h1, by omega⟩
    · rw [if_neg h1] at h; cases h
theorem atI_get {α : Type} {xs : List α} {i : Int} {v : α} (h : atI xs i = some v) : ∃ j, seqIndex? i xs.length = some j ∧ xs[j]? = some v ∧ j < xs.length ∧ -(xs.length : Int) ≤ i ∧ i < xs.length := by
  unfold atI at h
  cases e : ixN xs.length i with
  | none => rw [e] at h; cases h
  | some j =>
    rw [e] at h
    obtain ⟨h1, h2, h3, h4⟩ := ixN_seq e
    exact ⟨j, h1, h, h2, h3, h4⟩
theorem atI_nat {α : Type} {xs : List α} {j : Nat} {v : α} (h : xs[j]? = some v) : atI xs (j : Int) = some v := by
  have hj : j < xs.length := (List.getElem?_eq_some_iff.mp h).1
  have e : ixN xs.length (j : Int) = some j := by
    unfold ixN
    rw [if_pos (by omega), if_pos (by omega)]; simp
  unfold atI; rw [e]; exact h
theorem atI_last {α : Type} (xs : List α) (v : α) : atI (xs ++ [v]) (-1) = some v := by
  have hl : (xs ++ [v]).length = xs.length + 1 := by simp
  have e : ixN (xs ++ [v]).length (-1) = some xs.length := by
    unfold ixN
    rw [hl, if_neg (by decide), if_pos (by omega)]
    congr 1
    omega
  unfold atI
  rw [e]
  show (xs ++ [v])[xs.length]? = some v
  simp

/-! ### what may be subscripted -/
/-- what stands as an index of a plain subscript -/
def PlainIx (b : Expr) : Prop := ∀ o i, subscripted b false o i = operate [o, i] (getItem o i)
/-- a subscript by values -/
def IxR (X : Cx) (r : R2) : Prop :=
  ∀ (value slice : Expr) (pins : List (Addr × Obj)) (s : Shared) (σ : St) (H : Hp) (x y : V) (v u : Value) (Q : VK), Inv X pins σ H s → RelV x v → RelV y u → r x y H Q →
    subscripted slice false v u = operate [v, u] (getItem v u) → wpAny (model X.prog X.w) X.A (subscriptTail value slice v u) (EP X pins σ Q) X.xe s
/-- a call of a builtin's method by values: the receiver, the arguments -/
def MtR (X : Cx) (id : String) (r : V → List V → Hp → VK → Prop) : Prop :=
  ∀ (pins : List (Addr × Obj)) (s : Shared) (σ : St) (H : Hp) (x : V) (xs : List V) (v : Value) (us : List Value) (Q : VK), Inv X pins σ H s → RelV x v → Vals xs us → r x xs H Q →
    wpAny (model X.prog X.w) X.A (call (.builtin id) (v :: us)) (EP X pins σ Q) X.xe s
section
variable {X : Cx} {a b : Expr} {ta tb : TE} {pos : Pos}
theorem IxR.or {r r' : R2} (h : IxR X r) (h' : IxR X r') : IxR X (fun x y H Q => r x y H Q ∨ r' x y H Q) := by
  intro value slice pins s σ H x y v u Q I rx ry q hs
  rcases q with q | q
  · exact h value slice pins s σ H x y v u Q I rx ry q hs
  · exact h' value slice pins s σ H x y v u Q I rx ry q hs
theorem MtR.or {id : String} {r r' : V → List V → Hp → VK → Prop} (h : MtR X id r) (h' : MtR X id r') : MtR X id (fun x xs H Q => r x xs H Q ∨ r' x xs H Q) := by
  intro pins s σ H x xs v us Q I rx rs q
  rcases q with q | q
  · exact h pins s σ H x xs v us Q I rx rs q
  · exact h' pins s σ H x xs v us Q I rx rs q
/-- a[b] -/
theorem pe_ix {r : R2} (hr : IxR X r) (ha : PE X a ta) (hb : PE X b tb) (hs : PlainIx b) : PE X (.Subscript a b pos) (tOp r ta tb) := by
  intro pins s σ H Q I h
  exact Subscript_ (binT ha hb I h fun v u s2 x y H2 I2 rx ry q => hr a b pins s2 σ H2 x y v u Q I2 rx ry q (hs _ _))

def rIxL (K : PySem.W.Frag) : R2 := fun x y H Q => ∃ p xs i v, x = .ref p ∧ y = .int i ∧ SqL K H p xs ∧ atI xs i = some v ∧ Q v H
def rIxT (K : PySem.W.Frag) : R2 := fun x y H Q => ∃ p xs i v, x = .ref p ∧ y = .int i ∧ SqT K H p xs ∧ atI xs i = some v ∧ Q v H
theorem ix_list : IxR X (rIxL X.K) := by
  intro value slice pins s σ H x y v u Q I rx ry h hs
  obtain ⟨p, xs, i, z, rfl, rfl, hq, he, q⟩ := h
  cases rx
  obtain ⟨t, rfl⟩ := ry
  obtain ⟨its, r, pl, hz⟩ := I.list hq
  obtain ⟨j, h1, h2, h3, h4, h5⟩ := atI_get he
  obtain ⟨w, ew, rw'⟩ := r.get h2
  have hl := r.length
  have hn := line63
  have fin : EP X pins σ Q w s := ⟨z, H, I, rw', q⟩
  by_cases h0 : 0 ≤ i
  · have hj : i.toNat = j := by
      rw [seqIndex_of h0 h5] at h1
      exact Option.some.inj h1
    exact item_listR pl.isList h0 (by omega) (by rw [hj]; simpa using ew) fin hs
  · have hj : (i + (its.toArray.size : Int)).toNat = j := by
      rw [seqIndex_neg (by omega) h4] at h1
      rw [List.size_toArray, ← hl]
      exact Option.some.inj h1
    exact subscriptTail_builtinR (x := w) pl.isList.typeIs slot_list_getitem.lookup
      (wpAny_getItem_list_neg (Q := fun r s' => r = w ∧ EP X pins σ Q r s') pl.isList (by omega) (by rw [List.size_toArray] <;> omega) (by omega) (by rw [hj]; simpa using ew) ⟨rfl, fin⟩) hs
theorem ix_tup : IxR X (rIxT X.K) := by
  intro value slice pins s σ H x y v u Q I rx ry h hs
  obtain ⟨p, xs, i, z, rfl, rfl, hq, he, q⟩ := h
  cases rx
  obtain ⟨t, rfl⟩ := ry
  obtain ⟨its, r, pl, hz⟩ := I.tuple hq
  obtain ⟨j, h1, h2, h3, h4, h5⟩ := atI_get he
  obtain ⟨w, ew, rw'⟩ := r.get h2
  have hl := r.length
  have hn := line63
  have fin : EP X pins σ Q w s := ⟨z, H, I, rw', q⟩
  exact subscriptTail_builtinR (x := w) pl.typeIs slot_tuple_getitem.lookup
    (getItem_tuple (j := j) (Q := fun r s' => r = w ∧ EP X pins σ Q r s') pl (by omega) (by omega) (by rw [List.size_toArray, ← hl]; exact h1) (by simpa using ew) ⟨rfl, fin⟩) hs
/-! ### xs[i] = v, any sign -/
/-- the list's object behind a store -/
theorem mapSeq_set (its : List Value) (n j : Nat) (u : Value) : Obj.mapSeq (·.setIfInBounds j u) { cls := .type "list", data := .seq its.toArray n } = { cls := .type "list", data := .seq (its.set j u).toArray n } := by
  simp [Obj.mapSeq]
theorem Inv.lst {pins : List (Addr × Obj)} {σ : St} {H : Hp} {s : Shared} {p : Addr} {xs : List V} (I : Inv X pins σ H s) (h : H p = some (.lst xs)) :
    ∃ (its : List Value) (n : Nat), Vals xs its ∧ s.heap.get? p = some { cls := .type "list", data := .seq its.toArray n } ∧ xs.length ≤ sizeLine := by
  obtain ⟨z, its, n, r, e⟩ := I.hok p _ h
  exact ⟨its, n, r, e, z⟩
/-- the list at p is written by an update of its object -/
theorem Inv.lstUpd {pins : List (Addr × Obj)} {σ : St} {H : Hp} {s : Shared} {p : Addr} {xs ys : List V} {its its' : List Value} {n n' : Nat} {f : Obj → Obj} (I : Inv X pins σ H s) (h : H p = some (.lst xs))
    (ho : s.heap.get? p = some { cls := .type "list", data := .seq its.toArray n }) (hf : f { cls := .type "list", data := .seq its.toArray n } = { cls := .type "list", data := .seq its'.toArray n' }) (r : Vals ys its') (hz : ys.length ≤ sizeLine) (t : Nat) :
    Inv X pins σ (upd H p (.lst ys)) { s with heap := s.heap.update p f, toks := t } := by
  have e : (s.heap.update p f).get? p = some { cls := .type "list", data := .seq its'.toArray n' } := by
    rw [Heap.get?_update_self f ho (by rw [hf] <;> rfl), hf]
  refine I.write (x := p) (e := p) (by rw [h]; trivial) (.inl rfl) (fun b u hb q => (Heap.get?_update_other _ _ (Ne.symm hb)).trans q) ⟨_, e⟩ ?_
  exact ⟨hz, its', n', r, e⟩
def rSetL : V → V → V → Hp → (Hp → Prop) → Prop := fun o i v H Q => ∃ p xs k j, o = .ref p ∧ i = .int k ∧ H p = some (.lst xs) ∧ ixN xs.length k = some j ∧ Q (upd H p (.lst (xs.set j v)))
theorem set_list : PSet X rSetL := by
  intro pins s σ H o i v ov iv u Q I ro ri rv h
  obtain ⟨p, xs, k, j, rfl, rfl, hp, hj, q⟩ := h
  cases ro
  obtain ⟨t, rfl⟩ := ri
  obtain ⟨its, n, r, ho, hz⟩ := I.lst hp
  obtain ⟨h1, h2, h3, h4⟩ := ixN_seq hj
  have hl := r.length
  have hn := line63
  have I' : Inv X pins σ (upd H p (.lst (xs.set j v))) { s with heap := s.heap.update p (Obj.mapSeq (·.setIfInBounds j u)) } :=
    I.lstUpd hp ho (mapSeq_set its n j u) (r.set rv j) (by rw [List.length_set]; exact hz) s.toks
  by_cases h0 : 0 ≤ k
  · have hk : k.toNat = j := by
      rw [seqIndex_of h0 h4] at h1
      exact Option.some.inj h1
    exact PySem.W.ki_setAt ho h0 (by omega) (by rw [List.size_toArray, ← hl]; exact h4) (by rw [hk]; exact ⟨_, I', q⟩)
  · have hk : (k + (its.toArray.size : Int)).toNat = j := by
      rw [seqIndex_neg (by omega) h3] at h1
      rw [List.size_toArray, ← hl]
      exact Option.some.inj h1
    exact PySem.W.ki_setBack ho (by omega) (by rw [List.size_toArray, ← hl]; exact h3) (by omega) (by rw [hk]; exact ⟨_, I', q⟩)

/-! ### slices -/
theorem slice_bounds (lo hi : Option Int) (n : Nat) : (sliceBounds lo hi none n).1 = ((HT.sIx n 0 lo : Nat) : Int) ∧ (sliceBounds lo hi none n).2.1 = ((HT.sIx n n hi : Nat) : Int) ∧ (sliceBounds lo hi none n).2.2 = 1 := by
  refine ⟨?_, ?_, rfl⟩
  · cases lo with
    | none => simp [sliceBounds, HT.sIx]
    | some i =>
      simp only [sliceBounds, HT.sIx, Option.getD_none, show (1 : Int) > 0 by decide, if_true]
      by_cases h : i < 0
      · simp only [h, if_true] <;> omega
      · simp only [h, if_false] <;> omega
  · cases hi with
    | none => simp [sliceBounds, HT.sIx]
    | some i =>
      simp only [sliceBounds, HT.sIx, Option.getD_none, show (1 : Int) > 0 by decide, if_true]
      by_cases h : i < 0
      · simp only [h, if_true] <;> omega
      · simp only [h, if_false] <;> omega
theorem slicePick_cut (its : List Value) (lo hi : Option Int) : slicePick its.toArray lo hi none = ((its.drop (HT.sIx its.length 0 lo)).take (HT.sIx its.length its.length hi - HT.sIx its.length 0 lo)).toArray := by
  obtain ⟨h1, h2, h3⟩ := slice_bounds lo hi its.toArray.size
  unfold slicePick
  rw [h1, h2, h3]
  simp only [sliceRange_one, pick_run, List.size_toArray] <;> rfl
/-- xs[lo:hi] of a list: a new list -/
def rSlL (K : PySem.W.Frag) : V → Option Int → Option Int → Hp → VK → Prop := fun x lo hi H Q => ∃ a xs, x = .ref a ∧ SqL K H a xs ∧ ∀ p, H p = none → Q (.ref p) (upd H p (.lst (cutV xs lo hi)))
theorem sl_list : SlR X (rSlL X.K) := by
  intro pins s σ H x v vl vu lo hi sl Q I rx hs pl pu h
  obtain ⟨a, xs, rfl, hx, q⟩ := h
  cases rx
  obtain ⟨its, r, ht, hz⟩ := I.list hx
  have hlen := r.length
  refine ⟨"list", _, slot_list_getitem.lookup, ht.isList.typeIs, ?_⟩
  refine wpAny_getItem_list_slice ht.isList hs pl pu .none (by simp) ?_ (by rw [List.size_toArray] <;> omega)
  rw [slicePick_cut, ← hlen]
  refine ⟨.ref s.heap.objs.size, _, I.laid (t' := s.toks) (o := .lst (cutV xs lo hi)) (fun b ob q => Heap.get?_push_of_some _ q) (Nat.le_refl _) ?_, rfl, q _ (I.hok.fresh (Nat.le_refl _))⟩
  exact ⟨Nat.le_trans (cutV_length xs lo hi) hz, _, 0, (r.drop (HT.sIx xs.length 0 lo)).take (HT.sIx xs.length xs.length hi - HT.sIx xs.length 0 lo), Heap.get?_push_size _ rfl⟩

/-! ### in, not in: flat items -/
/-! ### len, list(x), tuple(x) of any list or tuple that is read -/
theorem call_len_seq : CallR X (.builtin "len") (fun xs H Q => ∃ p ys, xs = [.ref p] ∧ (SqL X.K H p ys ∨ SqT X.K H p ys) ∧ Q (.int ys.length) H) := by
  intro pins s σ H xs us Q I r h
  obtain ⟨p, ys, rfl, hq, q⟩ := h
  obtain ⟨u, rfl, rx⟩ := vals1 r
  cases rx
  have hn := line63
  rcases hq with hq | hq
  · obtain ⟨its, r', pl, hz⟩ := I.list hq
    have hlen := r'.length
    exact Calls.call_len_list pl.isList (by simp only [List.size_toArray] <;> omega) ⟨.int ys.length, H, I.tok _, ⟨s.toks + 1, by rw [List.size_toArray, hlen]⟩, q⟩
  · obtain ⟨its, r', pl, hz⟩ := I.tuple hq
    have hlen := r'.length
    exact len_tuple pl (by simp only [List.size_toArray] <;> omega) ⟨.int ys.length, H, I.tok _, ⟨s.toks + 1, by rw [List.size_toArray, hlen]⟩, q⟩
theorem CallR.or {f : Value} {r r' : List V → Hp → VK → Prop} (h : CallR X f r) (h' : CallR X f r') : CallR X f (fun xs H Q => r xs H Q ∨ r' xs H Q) := by
  intro pins s σ H xs us Q I rs q
  rcases q with q | q
  · exact h pins s σ H xs us Q I rs q
  · exact h' pins s σ H xs us Q I rs q
theorem call_list_of : CallR X (.type "list") (fun xs H Q => ∃ p ys, xs = [.ref p] ∧ (SqL X.K H p ys ∨ SqT X.K H p ys) ∧ ∀ l, H l = none → Q (.ref l) (upd H l (.lst ys))) := by
  intro pins s σ H xs us Q I r h
  obtain ⟨p, ys, rfl, hq, q⟩ := h
  obtain ⟨u, rfl, rx⟩ := vals1 r
  cases rx
  have fin : ∀ (its : List Value), Vals ys its → ys.length ≤ sizeLine → ∀ (h' : Heap) (c' : Nat), (∀ b o', s.heap.get? b = some o' → h'.get? b = some o') →
      h'.get? s.heap.objs.size = some { cls := .type "list", dict := none, data := .seq its.toArray c', slots := #[] } → EP X pins σ Q (.ref s.heap.objs.size) { s with heap := h' } := fun its r' hz h' c' kp e =>
    ⟨.ref s.heap.objs.size, _, I.laid (t' := s.toks) kp (Nat.le_refl _) (show ObjOk X.prog X.w _ h' _ (.lst ys) from ⟨hz, its, c', r', e⟩), rfl, q _ (I.hok.fresh (Nat.le_refl _))⟩
  rcases hq with hq | hq
  · obtain ⟨its, r', pl, hz⟩ := I.list hq
    have hlen := r'.length
    obtain ⟨o, ho, hc, n, hd⟩ := pl.isList
    exact call_list_seq p (.inl rfl) ho hc hd (fun h' c' kp e => fin its r' hz h' c' kp e) (by simp only [List.size_toArray] <;> omega)
  · obtain ⟨its, r', pl, hz⟩ := I.tuple hq
    have hlen := r'.length
    obtain ⟨o, ho, hc, n, hd⟩ := pl
    exact call_list_seq p (.inr rfl) ho hc hd (fun h' c' kp e => fin its r' hz h' c' kp e) (by simp only [List.size_toArray] <;> omega)
/-! ### the call of a builtin's method: o.m(..) -/
/-- the value is of that builtin type -/
def tyV (K : PySem.W.Frag) (T : String) (x : V) (H : Hp) : Prop := match x with
  | .str _ => T = "str"
  | .int _ => T = "int"
  | .ref p => (T = "list" ∧ ∃ xs, SqL K H p xs) ∨ (T = "tuple" ∧ ∃ o, K.lookup p = some o ∧ o.cls = .type "tuple" ∧ o.dict = none) ∨
      (T = "dict" ∧ ((∃ kvs, H p = some (.dK kvs)) ∨ ∃ kvs, H p = some (.dT kvs))) ∨ (T = "set" ∧ ∃ S n, H p = some (.set S n))
  | _ => False
theorem tyV_is {pins : List (Addr × Obj)} {σ : St} {H : Hp} {s : Shared} {T : String} {x : V} {v : Value} (I : Inv X pins σ H s) (r : RelV x v) (ty : tyV X.K T x H) :
    s.TypeIs v T ∧ ∀ a, v = .ref a → ∃ ob, s.heap.get? a = some ob ∧ ob.dict = none := by
  cases x with
  | str z =>
    obtain ⟨t, rfl⟩ := r
    cases (show T = "str" from ty)
    exact ⟨typeIs_str s z t, fun _ e => nomatch e⟩
  | int i =>
    obtain ⟨t, rfl⟩ := r
    cases (show T = "int" from ty)
    exact ⟨typeIs_int s i t, fun _ e => nomatch e⟩
  | ref p =>
    cases r
    rcases ty with ⟨rfl, xs, hq⟩ | ⟨rfl, o, hk, hc, hd⟩ | ⟨rfl, hk⟩ | ⟨rfl, S, n, hk⟩
    · obtain ⟨its, _, pl, _⟩ := I.list hq
      refine ⟨pl.isList.typeIs, fun a e => ?_⟩
      cases e
      obtain ⟨o, n, e, c, hd, _⟩ := pl
      exact ⟨o, e, hd⟩
    · refine ⟨⟨o, I.kIn p o hk, hc⟩, fun a e => ?_⟩
      cases e
      exact ⟨o, I.kIn _ o hk, hd⟩
    · have z : ∃ o, s.heap.get? p = some o ∧ o.ExactDict := by
        rcases hk with ⟨kvs, hk⟩ | ⟨kvs, hk⟩
        · obtain ⟨_, _, _, _, o, _, _, e, ex, _⟩ := I.hok p _ hk
          exact ⟨o, e, ex⟩
        · obtain ⟨_, _, _, _, o, _, _, e, ex, _⟩ := I.hok p _ hk
          exact ⟨o, e, ex⟩
      obtain ⟨o, e, ex⟩ := z
      refine ⟨⟨o, e, ex.1⟩, fun a e2 => ?_⟩
      cases e2
      exact ⟨o, e, ex.2.1⟩
    · obtain ⟨o, _, _, _, e, ex, _⟩ := I.hok p _ hk
      refine ⟨⟨o, e, ex.1⟩, fun a e2 => ?_⟩
      cases e2
      exact ⟨o, e, ex.2.1⟩
  | _ => exact False.elim ty
def tBM (K : PySem.W.Frag) (T : String) (r : V → List V → Hp → VK → Prop) (to : TE) (t : TA) : TE := fun σ H Q => to σ H fun x H1 => tyV K T x H1 ∧ t σ H1 fun xs H2 => r x xs H2 Q
variable {o e : Expr} {es : List Expr} {to : TE} {t : TA} {name : Str} {apos cpos : Pos} {T id : String} {r : V → List V → Hp → VK → Prop}
theorem pe_bm (pa : PlainAttrs T) (slot : Slot T name id) (hty : typeOf (.builtin id) = pure (.type "method_descriptor")) (hm : MtR X id r) (ho : PE X o to) (ha : PA X (e :: es) t)
    (hbase : attributeBase o name X.env (eval o X.env) = eval o X.env := by rfl)
    (hfew : ((backTo cpos (starEach (e :: es) X.env)).all (fun x => !x.1) && (backToKw cpos (keywordEach [] X.env)).all (fun x => x.1.isSome)
      && decide ((e :: es).length + ([] : List Keyword).length + (if ([] : List Keyword).isEmpty then 0 else 1) < 30)) = true := by rfl)
    (hline : (apos.endLine == cpos.line) = true := by rfl) (hs : starEach (e :: es) X.env = (false, eval e X.env) :: starEach es X.env := by rfl) (hplain : (backTo cpos (starEach es X.env)).any (·.1) = false := by rfl) :
    PE X (.Call (.Attribute o name apos) (e :: es) [] cpos) (tBM X.K T r to t) := by
  intro pins s σ H Q I h
  refine wpAny_Call_method_late hbase hfew hline rfl (thn (ho pins s σ H _ I h) fun v s1 ⟨x, H1, I1, r1, ty, q1⟩ => ?_)
  obtain ⟨h1, h2⟩ := tyV_is I1 r1 ty
  refine ⟨T, id, pa, slot, hty, h1, h2, ?_⟩
  have hA := ha cpos pins s1 σ H1 _ I1 q1
  rw [hs] at hA ⊢
  refine Calls.callWith_builtin (by show (false || (backTo cpos (starEach es X.env)).any (·.1)) = false; rw [hplain] <;> rfl) (Calls.evalArgs_plain ?_)
  exact thn hA fun us s2 ⟨vs, H2, I2, r2, q2⟩ => hm pins s2 σ H2 x vs v us Q I2 r1 r2 q2
/- xs.append(e), list.index on a module's tuple .. are MtR facts of 06m -/
end
end L2

namespace L2
open PySem PySem.Spec PyProof.Rows

def MtM (X : Cx) (id : String) (r : V → List V → Hp → VK → Prop) : Prop :=
  ∀ (pins : List (Addr × Obj)) (s : Shared) (σ : St) (H : Hp) (x : V) (xs : List V) (v : Value) (us : List Value) (Q : VK), Inv X pins σ H s → RelV x v → Vals xs us → r x xs H Q →
    wpAny (model X.prog X.w) X.A (call (.builtin id) (v :: us)) (EP X pins σ Q) X.xe s

/-! ### lists of values -/
theorem Vals.one : ∀ {x : V} {us : List Value}, Vals [x] us → ∃ u, us = [u] ∧ RelV x u
  | _, _, .cons r .nil => ⟨_, rfl, r⟩
theorem Vals.two : ∀ {x y : V} {us : List Value}, Vals [x, y] us → ∃ u v, us = [u, v] ∧ RelV x u ∧ RelV y v
  | _, _, _, .cons r (.cons q .nil) => ⟨_, _, rfl, r, q⟩
theorem Vals.zero : ∀ {us : List Value}, Vals [] us → us = []
  | _, .nil => rfl
theorem Vals.dropLast {xs : List V} {us : List Value} (h : Vals xs us) : Vals xs.dropLast us.dropLast := by
  induction h with
  | nil => exact .nil
  | cons r t ih =>
    cases t with
    | nil => exact .nil
    | cons q t' => exact .cons r ih
theorem Vals.rep {xs : List V} {us : List Value} (h : Vals xs us) : ∀ k : Nat, Vals (List.replicate k xs).flatten (List.replicate k us).flatten
  | 0 => .nil
  | k + 1 => by
    rw [List.replicate_succ, List.replicate_succ, List.flatten_cons, List.flatten_cons]
    exact Vals.append h (Vals.rep h k)
theorem foldl_rep (its : List Value) : ∀ (k : Nat) (acc : List Value),
    List.foldl (fun x1 x2 => x1 ++ x2) acc.toArray (List.replicate k its.toArray) = (acc ++ (List.replicate k its).flatten).toArray
  | 0, acc => by simp
  | k + 1, acc => by
    have e : acc.toArray ++ its.toArray = (acc ++ its).toArray := by simp
    have e2 : (acc ++ its) ++ (List.replicate k its).flatten = acc ++ (List.replicate (k + 1) its).flatten := by
      rw [List.replicate_succ, List.flatten_cons, List.append_assoc]
    rw [← e2, ← foldl_rep its k (acc ++ its), ← e, List.replicate_succ, List.foldl_cons]

section
variable {X : Cx} {pins : List (Addr × Obj)} {σ : St} {H : Hp} {s : Shared} {l b : Addr} {xs ys zs : List V}

/-! ### the two steps: a tracked list is rewritten, a new list is laid -/
theorem Inv.lset {its its' : List Value} {n : Nat} {f : Array Value → Array Value} {t' : Nat} (I : Inv X pins σ H s) (hH : H l = some (.lst xs))
    (e : s.heap.get? l = some { cls := .type "list", data := .seq its.toArray n }) (hf : f its.toArray = its'.toArray) (hv : Vals ys its') (hz : ys.length ≤ sizeLine) :
    Inv X pins σ (upd H l (.lst ys)) { s with heap := s.heap.update l (Obj.mapSeq f), toks := t' } := by
  have q := PySem.IsL.update e f
  rw [hf] at q
  refine I.write (x := l) (e := l) (by rw [hH]; exact trivial) (.inl rfl) (fun b' u hb hu => (Heap.get?_update_other s.heap (Obj.mapSeq f) (Ne.symm hb)).trans hu) ⟨_, q⟩ ?_
  exact ⟨hz, its', _, hv, q⟩
theorem Inv.lnew {its : List Value} {t' : Nat} (I : Inv X pins σ H s) (hv : Vals ys its) (hz : ys.length ≤ sizeLine) :
    Inv X pins σ (upd H s.heap.objs.size (.lst ys)) { s with heap := s.heap.push { cls := .type "list", data := .seq its.toArray }, toks := t' } :=
  I.laid (fun _ _ q => Heap.get?_push_of_some _ q) (Nat.le_refl _) ⟨hz, its, 0, hv, Heap.get?_push_size _ rfl⟩
theorem Inv.fresh (I : Inv X pins σ H s) : H s.heap.objs.size = none := I.hok.fresh (Nat.le_refl _)
theorem Inv.lstM (I : Inv X pins σ H s) (hH : H l = some (.lst xs)) : xs.length ≤ sizeLine ∧ ∃ (its : List Value) (n : Nat), Vals xs its ∧ xs.length = its.length ∧ s.heap.get? l = some { cls := .type "list", data := .seq its.toArray n } := by
  obtain ⟨z, its, n, r, e⟩ := I.hok l _ hH
  exact ⟨z, its, n, r, r.length, e⟩

theorem notLongL {n : Nat} (h : n ≤ sizeLine) : Builtin.List.listTooLong n = false := by
  unfold Builtin.List.listTooLong
  exact decide_eq_false (by omega)
end

section
variable {X : Cx}

/-! ### methods -/
def rAppend : V → List V → Hp → VK → Prop := fun x vs H Q => ∃ l xs y, x = .ref l ∧ vs = [y] ∧ H l = some (.lst xs) ∧ xs.length < sizeLine ∧ Q .non (upd H l (.lst (xs ++ [y])))
theorem mt_append : MtM X "list.append" rAppend := by
  intro pins s σ H x vs v us Q I rx rv h
  obtain ⟨l, xs, y, rfl, rfl, hH, hz, q⟩ := h
  cases rx
  obtain ⟨u, rfl, ru⟩ := rv.one
  obtain ⟨z, its, n, r, hl, e⟩ := I.lstM hH
  refine call_meets F.slot_list_append ⟨_, e, rfl⟩ F.entry_list_append (F.args_list_append_2 _ _) (PySem.list_append l its.toArray n u (by rw [List.size_toArray]; omega)) ⟨e, ?_⟩
  refine ⟨.non, _, I.lset (its' := its ++ [u]) hH e (by simp) (r.append (.cons ru .nil)) ?_, rfl, q⟩
  rw [List.length_append, List.length_singleton]
  omega

/-! ### list + list, list += list, list * int -/
def rCat : R2 := fun x y H Q => ∃ l b xs zs, x = .ref l ∧ y = .ref b ∧ H l = some (.lst xs) ∧ H b = some (.lst zs) ∧ xs.length + zs.length ≤ sizeLine ∧ ∀ p, H p = none → Q (.ref p) (upd H p (.lst (xs ++ zs)))
theorem op_cat : OpR X (binaryOp .Add) rCat := by
  intro pins s σ H x y v u Q I rx ry h
  obtain ⟨l, b, xs, zs, rfl, rfl, hH, hB, hz, q⟩ := h
  cases rx
  cases ry
  obtain ⟨z, its, n, r, hl, e⟩ := I.lstM hH
  obtain ⟨z2, its2, n2, r2, hl2, e2⟩ := I.lstM hB
  refine PySem.P.add_list e e2 ?_ (by rw [List.size_toArray, List.size_toArray]; omega)
  have ea : its.toArray ++ its2.toArray = (its ++ its2).toArray := by simp
  rw [ea]
  exact ⟨.ref _, _, I.lnew (t' := s.toks) (r.append r2) (by rw [List.length_append]; omega), rfl, q _ I.fresh⟩
/-- a list times an int (a negative one is nothing) -/
def rRep : R2 := fun x y H Q => ∃ l k xs, x = .ref l ∧ y = .int k ∧ H l = some (.lst xs) ∧ -(2 ^ 63) ≤ k ∧ k < 2 ^ 63 ∧ xs.length * k.toNat ≤ sizeLine ∧
  ∀ p, H p = none → Q (.ref p) (upd H p (.lst (List.replicate k.toNat xs).flatten))
theorem len_rep {α : Type} (xs : List α) (k : Nat) : (List.replicate k xs).flatten.length = k * xs.length := by
  induction k with
  | zero => simp
  | succ k ih => rw [List.replicate_succ, List.flatten_cons, List.length_append, ih, Nat.succ_mul, Nat.add_comm]
theorem op_rep : OpR X (binaryOp .Mult) rRep := by
  intro pins s σ H x y v u Q I rx ry h
  obtain ⟨l, k, xs, rfl, rfl, hH, h1, h2, hz, q⟩ := h
  cases rx
  obtain ⟨t, rfl⟩ := ry
  obtain ⟨z, its, n, r, hl, e⟩ := I.lstM hH
  have hlen : its.toArray.size * k.toNat ≤ sizeLine := by rw [List.size_toArray, ← hl]; exact hz
  have hcap : ¬ its.toArray.size * k.toNat > (2 ^ 63 - 1) / 8 := by
    have : (sizeLine : Nat) ≤ (2 ^ 63 - 1) / 8 := by decide
    omega
  have hfit : ¬ (!Builtin.List.listFitsIndex k) = true := by
    rw [fitsIndex_both h1 h2]
    exact Bool.false_ne_true
  have hlong : ¬ Builtin.List.listTooLong (its.toArray.size * k.toNat) = true := by
    rw [notLongL hlen]
    exact Bool.false_ne_true
  have hnew : List.foldl (fun x1 x2 => x1 ++ x2) #[] (List.replicate (if its.toArray.isEmpty = true then 0 else k.toNat) its.toArray) = (List.replicate k.toNat its).flatten.toArray := by
    have f0 : ∀ m : Nat, List.foldl (fun x1 x2 => x1 ++ x2) #[] (List.replicate m its.toArray) = (List.replicate m its).flatten.toArray := fun m => by
      have := foldl_rep its m []
      rw [List.nil_append] at this
      exact this
    rw [f0]
    cases its with
    | nil => simp
    | cons a r' => rw [if_neg (by simp)]
  refine wpAny_binaryOp_repeat_ref (T := "list") (U := "int") (by decide) ⟨_, e, rfl⟩ (fun s' => typeIs_int s' k t) noFill_list_mul F.fills_int_mul F.slot_int_rmul repeat_list F.slot_int_index.lookup
    (call_meets F.slot_int_rmul (typeIs_int s k t) F.entry_int_rmul (F.args_int_rmul_2 _ _) (int___rmul___int_list k t l its.toArray n)
      ⟨e, rfl, ⟨_, e, rfl⟩, call_meets F.slot_list_mul ⟨_, e, rfl⟩ F.entry_list_mul (F.args_list_mul_2 _ _) (AutoListH.list___mul___list_int_3 l its.toArray n k t hfit hcap hlong) ⟨e, ?_⟩⟩)
  rw [hnew]
  exact ⟨.ref _, _, I.lnew (t' := s.toks) (r.rep k.toNat) (by rw [len_rep, Nat.mul_comm]; exact hz), rfl, q _ I.fresh⟩

/-! ### del xs[i] -/
end

/-! ### xs[a:b] = ys -/
section
variable {prog : Program} {w : World} {A : Around} {E : Value → Shared → Prop} {s : Shared}
end

section
variable {X : Cx}
end
end L2

namespace Att
open PySem PySem.W PySem.Calls PyProof.Rows

/-! ### the script -/
theorem ints_of_wellAll {P : Params} {h : Heap} : ∀ (ns : List Int) (vs : List Value), WellAll P h vs (ns.map WData.int) → IntsAre vs ns := by
  intro ns
  induction ns with
  | nil =>
    intro vs w
    rw [List.map_nil] at w
    cases w
    exact .nil
  | cons n ns ih =>
    intro vs w
    rw [List.map_cons] at w
    cases w with
    | cons a b =>
      cases a
      exact .cons _ _ (ih _ b)

theorem script_of {l : OpenLaw} {n : Nat} (hn : l.most = some n) {P : Params} {h : Heap} {args : List WData} {vals : List Value}
    (hpre : l.row.toRowW.claim.pre args = true) (hwl : WellAll P h vals args) :
    ∃ a vs ns, vals = [Value.ref a] ∧ args = [WData.list (ns.map WData.int)] ∧ h.get? a = some { cls := .type "list", data := .seq vs.toArray } ∧ IntsAre vs ns ∧ ns.length ≤ n := by
  have hsh : WShape.hasAll [] args [.list .int] = true := (pre_splitW hpre).1
  have hc : l.pre.holds [] { args := args } = true := (pre_splitW hpre).2
  obtain ⟨d, r, rfl, h1, h2⟩ := hasAllW_cons hsh
  obtain rfl := hasAllW_nil h2
  obtain ⟨xs, rfl, h3⟩ := hasW_list h1
  obtain ⟨ns, rfl⟩ := items_int h3
  have hlen : ns.length ≤ n := by
    unfold OpenLaw.pre at hc
    have h4 : (WTm.not (.lt (.lit (.int (n : Int))) (.len (.arg 0)))).holds [] { args := [.list (ns.map .int)] } = true := by
      have h4 := (holds_andW hc).1
      rw [hn] at h4
      exact h4
    have h5 := condW_of h4 (w_not (w_lt w_lit (w_len_list (w_arg rfl))))
    rw [List.length_map] at h5
    refine Nat.le_of_not_lt fun q => ?_
    have q' : (n : Int) < ((ns.length : Nat) : Int) := by omega
    first
      | (rw [decide_eq_true q'] at h5; exact absurd h5 (by decide))
      | (simp at h5; omega)
  cases hwl with
  | cons w1 w2 =>
    cases w2
    cases w1 with
    | list ho hall => exact ⟨_, _, ns, rfl, rfl, ho, ints_of_wellAll ns _ hall, hlen⟩

theorem post_true (l : OpenLaw) (args : List WData) : l.row.toRowW.claim.post args (.bool true) args = true :=
  postW_of (r := l.row.toRowW) (X := (true == true))
    (show WShape.has [] (.bool true) .bool = true by first | rfl | decide | simp [WShape.has, WShape.arms, WShape.armsAll])
    (show (WTm.eq .res (.lit (.bool true))).value [] { args := args, res := some (.bool true), after := args } = some (.bool (true == true)) from w_eq_bool (w_res rfl) w_lit) rfl

/-! ### the attachment: holds_open's last premise (the goal 'hc' behind k_head) from a wpAny of the law's body -/
/-- the same from a codeAny of the CALL (for a layer whose function contracts speak of calls) -/
theorem attach_call {l : OpenLaw} {n : Nat} {q : Program} {loose : List Str} {XP : (Str → Option Value) → Heap → Prop} {YP : World → Heap → Prop} {d : DefRec}
    (hn : l.most = some n) (hdf : d.params.defaults = [])
    (call : ∀ (w : World) (s₀ s₁ : Shared) (mg mb : Str → Option Value) (fa : Addr) (o : Obj) (pm cd doc : Value) (a : Addr) (vs : List Value) (ns : List Int),
      Ground q loose [] XP w s₀ mg mb s₁.heap → YP w s₁.heap →
      s₁.heap.get? fa = some o → o.data = .func (docDef d.name d.params d.body d.scope pm cd doc) → s₁.heap.CodeRec cd d.name → mg d.name = some (.ref fa) →
      s₁.heap.get? a = some { cls := .type "list", data := .seq vs.toArray } → IntsAre vs ns → ns.length ≤ n → s₁.gens = #[] →
      codeAny (model l.prog w) callerA (.call (.ref fa) ⟨[.ref a], []⟩) (fun r s' => r = .ok (.ret (.bool true)) ∧ OldK s₁.heap s'.heap ∧ s'.os = s₁.os ∧ AllBare s'.gens) s₁) :
    WalkO q loose XP YP l.row.toRowW d [] (fun f vs => PySem.call f vs) := by
  intro w s₀ s₁ mg mb G Y fa o pm cd doc dV kV ho hd hcd hD hmg hg args vals as hpre hlay hrd hwl hlo
  obtain rfl : dV = .none := Dflts.none hD hdf
  obtain rfl : kV = .none := Dflts.noKw hD
  obtain ⟨a, vs, ns, rfl, rfl, hobj, hints, hlen⟩ := script_of hn hpre hwl
  refine enter_call (codeAny_mono (call w s₀ s₁ mg mb fa o pm cd doc a vs ns G Y ho (fd_plain hd) hcd hmg hobj hints hlen hg) fun r s' hq => ?_)
  obtain ⟨rfl, h2, h3, h4⟩ := hq
  exact ⟨.inl ⟨.bool true, .bool true, [], rfl, fun _ => rfl, .bool true, post_true l _, fun _ => ⟨List.Pairwise.nil, fun _ hm => (nomatch hm)⟩⟩, h2, h3, h4⟩

/-! ### rules over ANY heap (no ledger) from facts about the written part K: the library's own take a ledger (News) for what they write -/
section
variable {prog : Program} {w : World} {A : Around} {E : Value → Shared → Prop} {s : Shared} {K : Frag}

/-! the whole heap as the ledger: makes every rule that writes through a ledger a rule over any heap -/
def ledger (h : Heap) (L d : Addr) : List (Addr × Obj) := (List.range h.objs.size).filterMap fun a => if a = L ∨ a = d then none else (h.get? a).map fun o => (a, o)
end
end Att

namespace L2
open PySem PySem.Spec PyProof.Rows

theorem vals_ints : ∀ {vs : List Value} {ns : List Int}, IntsAre vs ns → Vals (ns.map V.int) vs
  | _, _, .nil => .nil
  | _, _, .cons n t h => .cons ⟨t, rfl⟩ (vals_ints h)

/-- nothing is tracked but the script, known to the object (or it is an object of the module) -/
def Only (H : Hp) : Prop := ∀ b, H b = none ∨ ∃ o xs, H b = some (.frz o (.lst xs))

/-- THE HEAD: the law's promise, at the heap behind the top. F, the promise of the law's def, may use that base is part of the heap (so K.In base, base.Ns mainGlobals mg stand in Mod) -/
theorem law_call {P : Program} {w : World} {K : PySem.W.Frag} {mg mb : Str → Option Value} {CX : CXT} {k : Nat} {fa a : Addr} {fd : FuncData} {x : Str} {sp : Sp} {s₁ : Shared} {vs : List Value} {ns : List Int}
    (KX : K.In s₁.heap) (hns : s₁.heap.Ns mainGlobals mg) (hb : s₁.heap.Ns builtinsNs mb) (hbb : ∀ x : Str, x ≠ "__name__" → mb x = bootBuiltins x) (hlim : s₁.heap.NoLimit) (hg : s₁.gens = #[])
    (ha : s₁.heap.get? a = some { cls := .type "list", data := .seq vs.toArray }) (hi : IntsAre vs ns) (hl : ns.length ≤ sizeLine) (hr : Room k callerA)
    (F : ∀ base : Heap, K.In base → base.Ns mainGlobals mg → FnOk P w K mg base CX k fa fd [x] sp) (hbind : ∀ (s : Shared) (u : Value), BindsTo s fd ⟨[u], []⟩ [(x, u)])
    (hsp : ∀ H : Hp, Only H → SqL K H a (ns.map V.int) → sp [.ref a] H (fun v _ => v = .bl true) fun _ _ _ => False)
    (hCX : ∀ H e s', CX [] H s₁ (fun _ _ _ => False) e s' → False) :
    codeAny (model P w) callerA (.call (.ref fa) ⟨[.ref a], []⟩) (fun r s' => r = .ok (.ret (.bool true)) ∧ OldK s₁.heap s'.heap ∧ s'.os = s₁.os ∧ AllBare s'.gens) s₁ := by
  have rv := vals_ints hi
  have lenV := hi.length
  -- from an abstract heap in which nothing but the script may be tracked
  have core : ∀ H : Hp, Only H → SqL K H a (ns.map V.int) → HOk P w H s₁.heap → (∀ b, H b ≠ none → b = a) → (H a ≠ none → K.lookup a = none) →
      codeAny (model P w) callerA (.call (.ref fa) ⟨[.ref a], []⟩) (fun r s' => r = .ok (.ret (.bool true)) ∧ OldK s₁.heap s'.heap ∧ s'.os = s₁.os ∧ AllBare s'.gens) s₁ := by
    intro H hO hS hok hA hK
    have base_of : ∀ {b : Addr} {o : Obj}, s₁.heap.get? b = some o → H b = none → (hidT s₁.heap H).get? b = some o := fun e n => hidT_get e n
    have noA : ∀ {b : Addr} {o : Obj} {es : Array DictEntry} {ep : Nat}, s₁.heap.get? b = some o → o.data = .dict es ep → H b = none := fun {b o es ep} e d => by
      cases q : H b with
      | none => rfl
      | some u =>
        have e' : b = a := hA b (by rw [q]; simp)
        subst e'
        rw [ha] at e; cases e
        have d' : Data.seq vs.toArray _ = Data.dict es ep := d
        cases d'
    have nsK : ∀ {b : Addr} {m : Str → Option Value}, s₁.heap.Ns b m → (hidT s₁.heap H).Ns b m := fun {b m} ⟨o, es, ep, e, d, r⟩ => ⟨o, es, ep, base_of e (noA e d), d, r⟩
    have hKb : K.In (hidT s₁.heap H) := fun b o e => base_of (KX b o e) (by
      cases q : H b with
      | none => rfl
      | some u =>
        have e' : b = a := hA b (by rw [q]; simp)
        subst e'
        rw [hK (by rw [q]; simp)] at e; cases e)
    have hM : Mod K mg (hidT s₁.heap H) := ⟨hKb, nsK hns, ⟨mb, nsK hb, hbb⟩, let ⟨mc, h1, h2⟩ := hlim; ⟨mc, nsK h1, h2⟩⟩
    have e0 : Env0 P w K mg (hidT s₁.heap H) callerA [] s₁ H := ⟨rfl, hM, fun b o e => of_hidT e, Nat.le_of_eq (hidT_size _ _), trivial, fun b hb => absurd (show b ∈ ([] : List Addr) from hb) (by simp), hok, .of_eq hg⟩
    refine codeAny_mono ((F _ hKb (nsK hns)).run callerA [] s₁ H ⟨[.ref a], []⟩ [.ref a] [.ref a] _ _ hr e0 (hbind s₁ (.ref a)) (.cons rfl .nil) (hsp H hO hS)) fun r s' h => ?_
    cases r with
    | error e => exact (hCX H e s' h).elim
    | ok fl =>
      cases fl with
      | next => exact False.elim h
      | brk => exact False.elim h
      | cont => exact False.elim h
      | ret u =>
        obtain ⟨v, H', os, bare, un, hok', r', q⟩ := h
        have q' : v = .bl true := q
        subst q'
        obtain rfl : u = Value.bool true := r'
        refine ⟨rfl, OldK.of_keep fun b o e => ?_, os, bare⟩
        cases q : H b with
        | none => exact un.keep b o e q (by intro z; exact absurd (show b ∈ ([] : List Addr) from z) (by simp)) (by simp)
        | some u =>
          rcases hO b with z | ⟨ob, xs, z⟩
          · rw [q] at z; cases z
          · have z2 := un.frzs b ob _ z
            obtain ⟨e1, _⟩ := hok b _ z
            obtain ⟨e2, _⟩ := hok' b _ z2
            rw [e] at e1; cases e1
            exact e2
  cases hk : K.lookup a with
  | some o =>
    -- the script is one of the module's own objects
    have e := KX a o hk
    rw [ha] at e
    cases e
    refine core (fun _ => none) (fun _ => .inl rfl) (.inr ⟨_, vs.toArray, _, hk, rfl, rfl, rfl, by rw [List.size_toArray, lenV]; exact hl, by simpa using rv⟩) (fun b u z => by have z' : (none : Option HO) = some u := z; cases z') (fun b z => absurd rfl z) fun z => absurd rfl z
  | none =>
    refine core (fun b => if b = a then some (.frz { cls := .type "list", data := .seq vs.toArray } (.lst (ns.map V.int))) else none) (fun b => ?_) (.inl (.inr ⟨{ cls := .type "list", data := .seq vs.toArray }, if_pos rfl⟩)) (fun b u z => ?_) (fun b z => ?_) fun _ => hk
    · by_cases hb : b = a
      · exact .inr ⟨_, _, if_pos hb⟩
      · exact .inl (if_neg hb)
    · by_cases hb : b = a
      · have z' := (if_pos hb).symm.trans z
        cases z'
        subst hb
        exact ⟨ha, by rw [List.length_map]; exact hl, vs, _, rv, ha⟩
      · have z' := (if_neg hb).symm.trans z
        cases z'
    · by_cases hb : b = a
      · exact hb
      · exact absurd (if_neg hb) z
end L2

namespace L2
open PySem PySem.Spec PyProof.Rows

abbrev KOf {K : PySem.W.Frag} {h : Heap} (_ : K.In h) : PySem.W.Frag := K

/-- the goal that k_head leaves (case hc), from the law's promise. F gives the function object fd (K's own) once, then the promise over every base -/
theorem walk_of {l : PySem.W.OpenLaw} {n k : Nat} {q : Program} {loose : List Str} {XP : (Str → Option Value) → Heap → Prop} {YP : World → Heap → Prop} {d : DefRec} {K : Params → PySem.W.Frag} {CX : World → CXT} {sp : World → Sp} {x : Str}
    (hn : l.most = some n) (hn2 : n ≤ sizeLine) (hdf : d.params.defaults = []) (hr : Room k callerA)
    (hY : ∀ (w : World) (h : Heap), YP w h → (K w.params).In h)
    (F : ∀ (w : World) (mg : Str → Option Value) (fa : Addr) (h : Heap), (K w.params).In h → h.Ns mainGlobals mg → mg d.name = some (.ref fa) →
      ∃ fd : FuncData, (∀ (s : Shared) (u : Value), BindsTo s fd ⟨[u], []⟩ [(x, u)]) ∧
        ∀ base : Heap, (K w.params).In base → base.Ns mainGlobals mg → FnOk l.prog w (K w.params) mg base (CX w) k fa fd [x] (sp w))
    (hsp : ∀ (w : World) (H : Hp) (a : Addr) (ns : List Int), ns.length ≤ n → Only H → SqL (K w.params) H a (ns.map V.int) → sp w [.ref a] H (fun v _ => v = .bl true) fun _ _ _ => False)
    (hCX : ∀ (w : World) (H : Hp) (s : Shared) (e : Value) (s' : Shared), CX w [] H s (fun _ _ _ => False) e s' → False) :
    PySem.W.WalkO q loose XP YP l.row.toRowW d [] (fun f vs => PySem.call f vs) := by
  refine Att.attach_call hn hdf fun w s₀ s₁ mg mb fa o pm cd doc a vs ns G Y ho hd hcd hmg hobj hints hlen hg => ?_
  have KX := hY w _ Y
  obtain ⟨fd, hb, hF⟩ := F w mg fa _ KX G.T.g hmg
  exact law_call KX G.T.g G.T.b G.T.builtins G.T.nolimit hg hobj hints (Nat.le_trans hlen hn2) hr hF hb (fun H hO hS => hsp w H a ns hlen hO hS) fun H e s' => hCX w H s₁ e s'
end L2

/- THE LAST THEOREM (shape; LID, My.* are yours):
   My.Adr: a structure of the addresses that your layer names (classes, functions); My.Txt K t: a structure (Prop) of the equations over K;
   My.txt_mk : {K} {implicit addresses ..} (e1 : nsIn K mainGlobals "law" = some (some (.ref f))) (e2 : K.lookup f = some ⟨oc, od, .func (fnOf "law" "law" params body scope dV kV doc pm an cdv ct), sl⟩) (e3 : codeIn K cdv "law" = true) .. : ∃ t, My.Txt K t

set_option maxRecDepth 100000 in
set_option maxHeartbeats 0 in
theorem PySem.Challenge.cw_LID_holds : PySem.Challenge.rw_LID.Holds := by
  w_on; o_law; k_head; (case hw => w_witness2)
  k_fill
  refine L2.walk_of (l := PySem.Challenge.rw_LID) (n := 63) (k := 40) (x := "script") (CX := fun w => ..) (sp := fun _ => My.sp_law) rfl (by decide) rfl ⟨rfl, by decide, by decide⟩ (fun w h Y => PySem.W.kIn_of Y) ?F ?S ?C
  case F =>
    intro w mg fa h KX G hmg
    have T : ∃ t, My.Txt (L2.KOf KX) t := by
      dsimp only [L2.KOf]                          -- K must stand as «<heap const> w.params» for k_is
      refine' My.txt_mk ?e1 ?e2 ?e3 ..
      (case e1 => PySem.W.k_is)                    -- in the order: a name -> its address -> its object -> its parts
      (case e2 => PySem.W.k_is)
      ..
    obtain ⟨t, T⟩ := T
    have e0 := hmg.symm.trans (PySem.W.mg_of KX G T.law)
    cases e0                                       -- fa is the law's own address
    exact ⟨_, fun s u => .of_eq rfl, fun base kb nb => My.law_fn T kb nb⟩     -- if «.of_eq rfl» comes too early: refine' ⟨_, ?b, fun base kb nb => My.law_fn T kb nb⟩; exact fun s u => .of_eq rfl
  case S => exact fun w H a ns hl hO hS => ..
  case C => exact ..
(the tactic k_is has no namespace: write k_is) -/

/-! SHORT WORDS over the layer: a def of the text, its body, what a loop and a test want. -/
namespace L2
open PySem PySem.Spec PyProof.Rows

/-! ### the text by places -/
def defArgs (s : Stmt) : Arguments := match s with
  | .FunctionDef _ a _ _ _ _ _ _ _ _ => a
  | _ => { posonlyargs := [], args := [], vararg := none, kwonlyargs := [], kw_defaults := [], kwarg := none, defaults := [] }
def defBody (s : Stmt) : List Stmt := match s with
  | .FunctionDef _ _ b _ _ _ _ _ _ _ => b
  | _ => []
def defScope (s : Stmt) : Scope := match s with
  | .FunctionDef _ _ _ _ _ _ sc _ _ _ => sc
  | _ => { kind := .function, names := [], isGenerator := false, isCoroutine := false }

/-! ### no exception leaves a def -/
abbrev CX0 : CXT := fun _ _ _ _ _ _ => False
abbrev E0 : XK := fun _ _ _ => False
theorem pass0 {X : Cx} : Passes CX0 X E0 := fun _ _ _ _ _ _ _ h => h.elim

/-! ### a def (or method) of the text as it stands behind the top -/
structure Fun (K : PySem.W.Frag) (x qual : Str) (st : Stmt) (f : Addr) (fd : FuncData) : Prop where
  ex : ∃ (oc : Value) (od : Option Addr) (kV doc pm : Value) (an : Option Addr) (cdv ct : Value) (osl : Array (Option Value)),
    fd = PySem.W.fnOf x qual (defArgs st) (defBody st) (defScope st) .none kV doc pm an cdv ct ∧ K.lookup f = some ⟨oc, od, .func fd, osl⟩ ∧ PySem.W.codeIn K cdv qual = true
  kp : PySem.W.keepIn K (.ref f) = true
section
variable {P : Program} {w : World} {K : PySem.W.Frag} {mg : Str → Option Value} {base : Heap}
/-- THE RULE for a def: its body as a term of rules, and the reading of that term -/
theorem Fun.ok {x qual : Str} {st : Stmt} {f : Addr} {fd : FuncData} {N ps : List Str} {k : Nat} {sp : Sp} (F : Fun K x qual st f fd) (S : FnScope N ps (defScope st)) (len : ∀ vs H Q E, sp vs H Q E → vs.length = ps.length)
    (hbody : ∀ (cdv : Value) (A : Around) (outer : List Env) (s : Shared) (H : Hp) (vs : List V) (Q : VK) (E : XK), Room k (A.deeper (envOfC qual (defScope st) s.heap.objs.size f cdv)) → sp vs H Q E →
      ∃ t, PSs (cxOf CX0 P w K mg base N qual (defScope st) f cdv A outer s H E).nox (defBody st) t ∧ t { nx := fun _ H' => Q .non H', rt := Q } (start N vs) H) : FnOk P w K mg base CX0 (k + 1) f fd ps sp := by
  obtain ⟨oc, od, kV, doc, pm, an, cdv, ct, osl, rfl, lk, hcd⟩ := F.ex
  refine fn_of lk hcd S len fun A outer s H vs Q E hr hsp => ?_
  obtain ⟨t, h, q⟩ := hbody cdv A outer s H vs Q E hr hsp
  exact ⟨t, h.nox, q⟩
/-- how its arguments bind (no defaults): h is «fun _ _ _ _ _ _ us hl => match us, hl with | [_, _], _ => rfl», one _ a parameter -/
theorem Fun.binds {x qual : Str} {st : Stmt} {f : Addr} {fd : FuncData} {ps : List Str} (F : Fun K x qual st f fd)
    (h : ∀ (kV doc pm : Value) (an : Option Addr) (cdv ct : Value) (us : List Value), us.length = ps.length → bindArgs (PySem.W.fnOf x qual (defArgs st) (defBody st) (defScope st) .none kV doc pm an cdv ct) ⟨us, []⟩ = pure (ps.zip us)) : Binds K fd ps [] := by
  obtain ⟨oc, od, kV, doc, pm, an, cdv, ct, osl, rfl, lk, hcd⟩ := F.ex
  exact .all (h kV doc pm an cdv ct)
theorem fun_mk {x qual : Str} {st : Stmt} {f : Addr} {oc : Value} {od an : Option Addr} {osl : Array (Option Value)} {kV doc pm cdv ct : Value} (l : K.lookup f = some ⟨oc, od, .func (PySem.W.fnOf x qual (defArgs st) (defBody st) (defScope st) .none kV doc pm an cdv ct), osl⟩)
    (c : PySem.W.codeIn K cdv qual = true) (k : PySem.W.keepIn K (.ref f) = true) : Fun K x qual st f (PySem.W.fnOf x qual (defArgs st) (defBody st) (defScope st) .none kV doc pm an cdv ct) := ⟨⟨oc, od, kV, doc, pm, an, cdv, ct, osl, rfl, l, c⟩, k⟩
end
/-! ### expressions in short: the name that stands in the i-th slot -/
section
variable {X : Cx}
theorem pv (i : Nat) {x : Str} {pos : Pos} (hN : X.N[i]? = some x := by rfl) (hv : Vis X.env.scope x := by first | exact Or.inl rfl | exact Or.inr (Or.inl rfl) | exact Or.inr (Or.inr rfl)) (hd : (x == ("__debug__" : Str)) = false := by decide)
    (hcd : (x == ("__classdict__" : Str)) = false := by decide) : PE X (.Name x pos) (tVar i) := pe_var hN hv hd hcd
end

/-! ### tests -/
theorem iteF {A B : Prop} (h : B) : if false = true then A else B := by
  rw [if_neg Bool.false_ne_true]
  exact h
theorem iteT {A B : Prop} (h : A) : if true = true then A else B := by
  rw [if_pos rfl]
  exact h
theorem ite2 {c A B : Prop} [Decidable c] (h1 : c → A) (h2 : ¬ c → B) : if c then A else B := by
  by_cases h : c
  · rw [if_pos h]
    exact h1 h
  · rw [if_neg h]
    exact h2 h
theorem iteNS {c A B : Prop} [Decidable c] (hc : c) (h : B) : if (!decide c) = true then A else B := by
  rw [decide_eq_true hc]
  exact iteF h

/-! ### heaps -/
/-- all that was tracked is as it was -/
def Same (H H' : Hp) : Prop := ∀ b o, H b = some o → H' b = some o
theorem Same.refl (H : Hp) : Same H H := fun _ _ h => h
theorem Same.trans {H H1 H2 : Hp} (a : Same H H1) (b : Same H1 H2) : Same H H2 := fun c o h => b c o (a c o h)
theorem Same.free {H H' : Hp} (e : Same H H') {l : Addr} (h : H' l = Option.none) : H l = Option.none := by
  cases q : H l with
  | none => rfl
  | some o =>
    rw [e l o q] at h
    cases h
theorem Same.seq {K : PySem.W.Frag} {H H' : Hp} {a : Addr} {xs : List V} (e : Same H H') (h : SqL K H a xs) : SqL K H' a xs := by
  rcases h with (h | ⟨o, h⟩) | h
  · exact .inl (.inl (e _ _ h))
  · exact .inl (.inr ⟨o, e _ _ h⟩)
  · exact .inr h

end L2

namespace InkX
open PySem PySem.Spec PyProof.Rows L2

/-! ### isinstance, as a call by values -/
section
variable {X : Cx}
theorem call_isinst : CallR X (.builtin "isinstance") (fun xs H Q => ∃ x T t b, xs = [x, .ty T] ∧ TyOf X.K H x t ∧ PySem.W.kitOne X.K t (.type T) = some b ∧ Q (.bl b) H) := by
  intro pins s σ H xs us Q I r h
  obtain ⟨x, T, t, b, rfl, ty, e, q⟩ := h
  obtain ⟨u, v, rfl, rx, rv⟩ := r.two
  cases (show v = Value.type T from rv)
  exact isinst_ok I rx ty e fun tk => ⟨.bl b, H, I.tok tk, rfl, q⟩
/-- a built-in type as a value -/
theorem pe_ty {x : Str} {T : String} {pos : Pos} (hg : Gl X x) (hm : X.mg x = none) (hv : bootBuiltins x = some (.type T)) (hn : x ≠ "__name__" := by decide) (hd : (x == ("__debug__" : Str)) = false := by decide) : PE X (.Name x pos) (tC (.ty T)) :=
  pe_bltn hg hm hv rfl hn hd
end

/-! ### several untracked records of ours have turned -/
theorem turnedN {X : Cx} {pins : List (Addr × Obj)} {σ : L2.St} {H : Hp} {s : Shared} {h' : Heap} {t' : Nat} {ch : List Addr} (I : Inv X pins σ H s) (k : ∀ b o, b ∉ ch → s.heap.get? b = some o → h'.get? b = some o)
    (hf : ∀ b ∈ ch, FpOk X pins H b) : Inv X pins σ H { s with heap := h', toks := t' } := by
  have nit : ∀ b u, H b = some u → b ∉ ch := fun b u e z => by rw [(hf b z).1] at e; cases e
  refine I.step (g' := s.gens) (d' := s.drawn) (ch := ch) (fun b hb => ?_) (fun b o _ _ hc e _ => k b o hc e) (fun b o _ _ hc e _ => ⟨o.slots, k b o hc e⟩) (fun _ _ _ _ n => n)
    (fun b o hc e => ⟨o, k b o hc e⟩) (fun _ _ e => e) (fun _ _ _ e => e) (fun b ps e => ⟨#[], by rw [e]; simp⟩) (fun m hm => ?_) (fun b u e => ?_) I.bare
  · obtain ⟨_, f1, _, f3, f4, f5⟩ := hf b hb
    exact ⟨f3, f1, f4, f5⟩
  · obtain ⟨o, es, ep, ho, r⟩ := hm
    exact ⟨o, es, ep, k _ o (fun z => (hf _ z).2.1 rfl) ho, r⟩
  · refine (I.hok b u e).stay (fun c v hc q => k c v ?_ q) (fun _ q => q) fun _ _ q => q
    rcases hc with z | z
    · rw [z]; exact nit b u e
    · exact nit c _ z
/-- .. and a tuple that stands there untracked is taken up -/
theorem adopt {X : Cx} {pins : List (Addr × Obj)} {σ : L2.St} {H : Hp} {s : Shared} {h' : Heap} {t' : Nat} {ch : List Addr} {p : Addr} {xs : List V} {us : List Value} (I : Inv X pins σ H s) (k : ∀ b o, b ∉ ch → s.heap.get? b = some o → h'.get? b = some o)
    (hf : ∀ b ∈ ch, FpOk X pins H b) (hp : s.heap.objs.size ≤ p) (hz : xs.length ≤ sizeLine) (rv : Vals xs us) (ht : IsTup h' p us.toArray) : Inv X pins σ (upd H p (.tup xs)) { s with heap := h', toks := t' } := by
  have hn : H p = none := I.hok.fresh hp
  have nit : ∀ b u, H b = some u → b ∉ ch := fun b u e z => by rw [(hf b z).1] at e; cases e
  have nep : ∀ b o, s.heap.get? b = some o → b ≠ p := fun b o e z => by subst z; exact absurd (Nat.lt_of_lt_of_le (Heap.lt_size e) hp) (Nat.lt_irrefl _)
  refine I.step (g' := s.gens) (d' := s.drawn) (ch := ch) (fun b hb => ?_) (fun b o _ _ hc e _ => k b o hc e) (fun b o _ _ hc e _ => ⟨o.slots, k b o hc e⟩) (fun b o _ e n => by rw [upd_ne (nep b o e)]; exact n)
    (fun b o hc e => ⟨o, k b o hc e⟩) (fun b ys e => by rw [upd_ne (ne_of_none e hn)]; exact e) (fun b _ _ e => by rw [upd_ne (ne_of_none e hn)]; exact e) (fun b ps e => ⟨#[], by rw [upd_ne (ne_of_none e hn), e]; simp⟩) (fun m hm => ?_) (fun b u e => ?_) I.bare
  · obtain ⟨_, f1, _, f3, f4, f5⟩ := hf b hb
    exact ⟨f3, f1, f4, f5⟩
  · obtain ⟨o, es, ep, ho, r⟩ := hm
    exact ⟨o, es, ep, k _ o (fun z => (hf _ z).2.1 rfl) ho, r⟩
  · by_cases hb : b = p
    · subst hb
      rw [upd_same] at e
      cases e
      exact ⟨hz, us, rv, ht⟩
    · rw [upd_ne hb] at e
      refine (I.hok b u e).stay (fun c v hc q => k c v ?_ q) (fun c q => by rw [upd_ne (ne_of_none q hn)]; exact q) fun c ys q => by rw [upd_ne (ne_of_none q hn)]; exact q
      rcases hc with z | z
      · rw [z]; exact nit b u e
      · exact nit c _ z

/-! ### zip of two lists, or of two tuples -/
/-- k: a list (true) or a tuple (false) -/
def ItA (k : Bool) (h : Heap) (i a : Addr) (n : Nat) : Prop := match k with
  | true => h.IsListIter i a n
  | false => h.IsTupleIter i a n
def SqA (k : Bool) (h : Heap) (a : Addr) (xs : Array Value) : Prop := match k with
  | true => h.IsList a xs
  | false => h.IsTuple a xs
theorem ItA.at {k : Bool} {h h' : Heap} {i a : Addr} {n : Nat} (x : ItA k h i a n) (e : ∀ o, h.get? i = some o → h'.get? i = some o) : ItA k h' i a n := by
  cases k
  · obtain ⟨o, ho, r⟩ := x; exact ⟨o, e o ho, r⟩
  · obtain ⟨o, ho, r⟩ := x; exact ⟨o, e o ho, r⟩
theorem SqA.at {k : Bool} {h h' : Heap} {a : Addr} {xs : Array Value} (x : SqA k h a xs) (e : ∀ o, h.get? a = some o → h'.get? a = some o) : SqA k h' a xs := by
  cases k
  · obtain ⟨o, ho, r⟩ := x; exact ⟨o, e o ho, r⟩
  · obtain ⟨o, ho, r⟩ := x; exact ⟨o, e o ho, r⟩
theorem ItA.obj {k : Bool} {h : Heap} {i a : Addr} {n : Nat} (x : ItA k h i a n) : ∃ o, h.get? i = some o ∧ ∀ v, o.data ≠ .cell v := by
  cases k
  · obtain ⟨o, ho, _, d⟩ := x; exact ⟨o, ho, fun v z => by rw [d] at z; cases z⟩
  · obtain ⟨o, ho, _, d⟩ := x; exact ⟨o, ho, fun v z => by rw [d] at z; cases z⟩
section
variable {prog : Program} {w : World} {A : Around} {E : Value → Shared → Prop} {s : Shared}
theorem drawT_item {it t : Addr} {i : Nat} {items : Array Value} {x : Value} {Q : Value → Shared → Prop} (hit : s.heap.IsTupleIter it t i) (ht : s.heap.IsTuple t items) (hx : items[i]? = some x)
    (hQ : ∀ h', h'.IsTupleIter it t (i + 1) → Heap.SameBut it s.heap h' → Q x { s with heap := h' }) : wpAny (model prog w) A (Builtin.SmallTypes.nextOf (.ref it)) Q E s := by
  obtain ⟨o, ho, hc, hd⟩ := id hit
  obtain ⟨ol, hol, _, nl, hdl⟩ := ht
  unfold Builtin.SmallTypes.nextOf
  refine wpAny_bind (wpAny_callSpecial?_slot (name := Str.ofString "__next__") hit.typeIs F.slot_tuple_iterator_next (wpAny_call_entry F.slot_tuple_iterator_next hit.typeIs F.entry_tuple_iterator_next ?_ (F.args_tuple_iterator_next_1 _)))
  show wpAny _ _ (field (.ref it) 0 >>= _) _ _ s
  refine wpAny_bind (wpAny_field ho hd (x := .ref t) rfl ?_)
  show wpAny _ _ (if (Value.ref t == Value.none) = true then _ else _) _ _ s
  rw [if_neg (show ¬ ((Value.ref t == Value.none) = true) from Bool.false_ne_true)]
  show wpAny _ _ (field (.ref it) 1 >>= _) _ _ s
  refine wpAny_bind (wpAny_field ho hd (x := .int i 0) rfl ?_)
  show wpAny _ _ (seqItems? (.ref t) >>= _) _ _ s
  refine wpAny_bind (wpAny_seqItems hol hdl ?_)
  simp only [Int.toNat_natCast, hx]
  refine wpAny_bind (wpAny_setField ho hd (by simp) (wpAny_pure ⟨x, rfl, wpAny_pure (hQ _ ?_ (Heap.SameBut.update ..))⟩))
  refine ⟨_, Heap.get?_update_self _ ho (Obj.isFreed_of_fields (Obj.data_mapFields hd _)), (Obj.cls_mapFields ..).trans hc, ?_⟩
  rw [Obj.data_mapFields hd]; simp [rawInt]
theorem drawT_end {it t : Addr} {i : Nat} {items : Array Value} {Q : Value → Shared → Prop} (hh : A.handled = none) (hit : s.heap.IsTupleIter it t i) (ht : s.heap.IsTuple t items) (hx : items[i]? = none)
    (hE : ∀ h' e, Heap.ExtBut it s.heap h' → (∃ o, h'.get? e = some o ∧ o.cls = .type "StopIteration") → E (.ref e) { s with heap := h' }) : wpAny (model prog w) A (Builtin.SmallTypes.nextOf (.ref it)) Q E s := by
  obtain ⟨o, ho, hc, hd⟩ := id hit
  obtain ⟨ol, hol, _, nl, hdl⟩ := ht
  unfold Builtin.SmallTypes.nextOf
  refine wpAny_bind (wpAny_callSpecial?_slot (name := Str.ofString "__next__") hit.typeIs F.slot_tuple_iterator_next (wpAny_call_entry F.slot_tuple_iterator_next hit.typeIs F.entry_tuple_iterator_next ?_ (F.args_tuple_iterator_next_1 _)))
  show wpAny _ _ (field (.ref it) 0 >>= _) _ _ s
  refine wpAny_bind (wpAny_field ho hd (x := .ref t) rfl ?_)
  show wpAny _ _ (if (Value.ref t == Value.none) = true then _ else _) _ _ s
  rw [if_neg (show ¬ ((Value.ref t == Value.none) = true) from Bool.false_ne_true)]
  show wpAny _ _ (field (.ref it) 1 >>= _) _ _ s
  refine wpAny_bind (wpAny_field ho hd (x := .int i 0) rfl ?_)
  show wpAny _ _ (seqItems? (.ref t) >>= _) _ _ s
  refine wpAny_bind (wpAny_seqItems hol hdl ?_)
  simp only [Int.toNat_natCast, hx]
  refine wpAny_bind (wpAny_rule (wpAny_bind (wpAny_setField ho hd (by simp) ?_)))
  show wpAny _ _ (newExc (.type "StopIteration") [] >>= _) _ _ _
  refine wpAny_bind ?_
  simp only [newExc, newTuple]
  refine wpAny_bind (wpAny_newObj_type ?_ (by size_fits))
  refine wpAny_bind (m := firstArgMember _ _) (wpAny_of_eq (a := Value.none) (by first | rfl | (simp only [firstArgMember]; rfl)) ?_)
  refine wpAny_newObj_type ?_ (by size_fits)
  simp only [raiseNew]
  refine wpAny_bind (wpAny_handled ?_)
  first | rw [show A.in1.handled = none from hh] | rw [hh]
  refine wpAny_bind (wpAny_pure (wpAny_throw ?_))
  exact hE _ _ (((Heap.SameBut.update ..).extBut.push _).push _) ⟨_, Heap.get?_push_size _ rfl, rfl⟩
theorem drawA_item {k : Bool} {it t : Addr} {i : Nat} {items : Array Value} {x : Value} {Q : Value → Shared → Prop} (hit : ItA k s.heap it t i) (ht : SqA k s.heap t items) (hx : items[i]? = some x)
    (hQ : ∀ h', ItA k h' it t (i + 1) → Heap.SameBut it s.heap h' → Q x { s with heap := h' }) : wpAny (model prog w) A (Builtin.SmallTypes.nextOf (.ref it)) Q E s := by
  cases k
  · exact drawT_item hit ht hx hQ
  · exact wpAny_nextOf_list_item hit ht hx hQ
theorem drawA_end {k : Bool} {it t : Addr} {i : Nat} {items : Array Value} {Q : Value → Shared → Prop} (hh : A.handled = none) (hit : ItA k s.heap it t i) (ht : SqA k s.heap t items) (hx : items[i]? = none)
    (hE : ∀ h' e, Heap.ExtBut it s.heap h' → (∃ o, h'.get? e = some o ∧ o.cls = .type "StopIteration") → E (.ref e) { s with heap := h' }) : wpAny (model prog w) A (Builtin.SmallTypes.nextOf (.ref it)) Q E s := by
  cases k
  · exact drawT_end hh hit ht hx hE
  · exact wpAny_nextOf_list_end hh hit ht hx hE
abbrev itObj (k : Bool) (l : Addr) : Obj := { cls := .type (if k then "list_iterator" else "tuple_iterator"), data := .fields #[.ref l, .int 0 0] }
theorem iterA {k : Bool} {l : Addr} {xs : Array Value} {Q : Value → Shared → Prop} (h : SqA k s.heap l xs) (hQ : Q (.ref s.heap.objs.size) { s with heap := s.heap.push (itObj k l) }) : wpAny (model prog w) A (pyIter (.ref l)) Q E s := by
  cases k
  · exact wpAny_pyIter_tuple h hQ
  · exact wpAny_pyIter_list h hQ

/-- the zip's own records -/
structure ZipSt (k : Bool) (h : Heap) (z TI TO i1 i2 l1 l2 : Addr) (n : Nat) : Prop where
  z : IsZip h z TI TO .none
  ti : IsPair h TI (.ref i1) (.ref i2)
  to : ∃ a b, IsPair h TO a b
  i1 : ItA k h i1 l1 n
  i2 : ItA k h i2 l2 n
theorem zipA_item {k : Bool} {z TI TO i1 i2 l1 l2 : Addr} {n : Nat} {xs ys : Array Value} {x y : Value} {Q : Value → Shared → Prop} (D : ZipApart z TI TO i1 i2 l1 l2) (st : ZipSt k s.heap z TI TO i1 i2 l1 l2 n)
    (hl1 : SqA k s.heap l1 xs) (hl2 : SqA k s.heap l2 ys) (hx : xs[n]? = some x) (hy : ys[n]? = some y)
    (hQ : ∀ h', IsZip h' z TI TO (rawInt s.heap.objs.size) → IsPair h' TO x y → ItA k h' i1 l1 (n + 1) → ItA k h' i2 l2 (n + 1) → IsPair h' s.heap.objs.size x y →
      (∀ c o, c ≠ z → c ≠ TO → c ≠ i1 → c ≠ i2 → s.heap.get? c = some o → h'.get? c = some o) → Q (.ref s.heap.objs.size) { s with heap := h' }) :
    wpAny (model prog w) A (Builtin.«zip.__next__» ⟨[.ref z], []⟩) (fun fin s' => ∃ v, fin = .done (.ret v) ∧ Q v s') E s := by
  obtain ⟨hz, hTI, ⟨a, b, hTO⟩, h1, h2⟩ := st
  show wpAny _ _ (field (.ref z) 2 >>= _) _ _ _
  refine wpAny_bind (wpAny_field hz rfl (x := .bool false) rfl ?_)
  show wpAny _ _ (field (.ref z) 3 >>= _) _ _ _
  refine wpAny_bind (wpAny_field hz rfl (x := .ref TI) rfl (wpAny_bind (wpAny_seqItems hTI rfl ?_)))
  show wpAny _ _ (Builtin.SmallTypes.ownedTupleIsFree (.ref z) >>= _) _ _ _
  refine wpAny_bind ?_
  unfold Builtin.SmallTypes.ownedTupleIsFree
  refine wpAny_bind (wpAny_field hz rfl (x := .none) rfl (wpAny_pure ?_))
  simp only [if_true]
  refine wpAny_bind (wpAny_rule (wpAny_bind (wpAny_field hz rfl (x := .ref TO) rfl (wpAny_bind (wpAny_setField_rec hz (by simp) fun g1 z1 c1 => ?_)))))
  replace z1 : IsZip g1 z TI TO .ellipsis := z1
  refine wpAny_bind ?_
  simp only [List.zipIdx_cons, List.zipIdx_nil, List.forIn_cons, List.forIn_nil]
  refine wpAny_bind (wpAny_bind (wpAny_onRaise ?_))
  show wpAny _ _ (Builtin.SmallTypes.nextOf (.ref i1) >>= _) _ _ _
  refine wpAny_bind (drawA_item (h1.at fun o e => c1.extBut _ _ D.i1z e) (hl1.at fun o e => c1.extBut _ _ D.l1z e) hx fun g2 h12 c2 => wpAny_pure ?_)
  have o2 : IsPair g2 TO a b := c2.extBut _ _ D.TOi1 (c1.extBut _ _ D.TOz hTO)
  refine wpAny_bind (wpAny_seqItems o2 rfl (wpAny_bind (wpAny_updateSeq_pair o2 fun g3 o3 c3 => ?_)))
  replace o3 : IsPair g3 TO x b := o3
  refine wpAny_bind (wpAny_letGo (wpAny_pure (wpAny_bind (wpAny_bind (wpAny_onRaise ?_)))))
  show wpAny _ _ (Builtin.SmallTypes.nextOf (.ref i2) >>= _) _ _ _
  refine wpAny_bind (drawA_item (((h2.at fun o e => c1.extBut _ _ D.i2z e).at fun o e => c2.extBut _ _ D.i12.symm e).at fun o e => c3.extBut _ _ D.TOi2.symm e)
    (((hl2.at fun o e => c1.extBut _ _ D.l2z e).at fun o e => c2.extBut _ _ D.l2i1 e).at fun o e => c3.extBut _ _ D.l2TO e) hy fun g4 h24 c4 => wpAny_pure ?_)
  have o4 : IsPair g4 TO x b := c4.extBut _ _ D.TOi2 o3
  refine wpAny_bind (wpAny_seqItems o4 rfl (wpAny_bind (wpAny_updateSeq_pair o4 fun g5 o5 c5 => ?_)))
  replace o5 : IsPair g5 TO x y := o5
  refine wpAny_bind (wpAny_letGo (wpAny_pure (wpAny_pure (wpAny_bind (wpAny_seqItems o5 rfl (wpAny_bind (wpAny_newTuple ?_)))))))
  have sz : g5.objs.size = s.heap.objs.size := by rw [c5.1, c4.1, c3.1, c2.1, c1.1]
  have z5 : IsZip g5 z TI TO .ellipsis := c5.extBut _ _ D.TOz.symm (c4.extBut _ _ D.i2z.symm (c3.extBut _ _ D.TOz.symm (c2.extBut _ _ D.i1z.symm z1)))
  have k5 : ∀ c o, c ≠ z → c ≠ TO → c ≠ i1 → c ≠ i2 → s.heap.get? c = some o → g5.get? c = some o := fun c o n1 n2 n3 n4 e => c5.extBut _ _ n2 (c4.extBut _ _ n4 (c3.extBut _ _ n2 (c2.extBut _ _ n3 (c1.extBut _ _ n1 e))))
  have h15 : ItA k g5 i1 l1 (n + 1) := ((h12.at fun o e => c3.extBut _ _ D.TOi1.symm e).at fun o e => c4.extBut _ _ D.i12 e).at fun o e => c5.extBut _ _ D.TOi1.symm e
  have h25 : ItA k g5 i2 l2 (n + 1) := h24.at fun o e => c5.extBut _ _ D.TOi2.symm e
  have zlt : z < g5.objs.size := Heap.lt_size z5
  show wpAny _ _ (Builtin.SmallTypes.ownedTupleHandOut (.ref z) (.ref g5.objs.size) >>= _) _ _ _
  refine wpAny_bind ?_
  unfold Builtin.SmallTypes.ownedTupleHandOut
  have z6 : IsZip (g5.push { cls := .type "tuple", data := .seq #[x, y] }) z TI TO .ellipsis := Heap.get?_push_of_some _ z5
  refine wpAny_bind (wpAny_setField_rec z6 (by simp) fun g7 z7 c7 => ?_)
  replace z7 : IsZip g7 z TI TO (rawInt g5.objs.size) := z7
  refine wpAny_setField_rec z7 (by simp) fun g8 z8 c8 => ?_
  replace z8 : IsZip g8 z TI TO (rawInt g5.objs.size) := z8
  have up : ∀ c o, c ≠ z → g5.get? c = some o → g8.get? c = some o := fun c o n1 e => c8.extBut _ _ n1 (c7.extBut _ _ n1 (Heap.get?_push_of_some _ e))
  have t8 : IsPair g8 g5.objs.size x y := c8.extBut _ _ (Nat.ne_of_gt zlt) (c7.extBut _ _ (Nat.ne_of_gt zlt) (Heap.get?_push_size _ rfl))
  rw [sz] at z8 t8
  refine wpAny_pure ⟨_, rfl, ?_⟩
  show Q (.ref g5.objs.size) _
  rw [sz]
  exact hQ g8 z8 (up _ _ D.TOz o5) (h15.at fun o e => up _ o D.i1z e) (h25.at fun o e => up _ o D.i2z e) t8 fun c o n1 n2 n3 n4 e => up c o n1 (k5 c o n1 n2 n3 n4 e)
theorem zipA_end {k : Bool} {z TI TO i1 i2 l1 l2 : Addr} {n : Nat} {xs ys : Array Value} {Q : Fin → Shared → Prop} (hh : A.handled = none) (D : ZipApart z TI TO i1 i2 l1 l2) (st : ZipSt k s.heap z TI TO i1 i2 l1 l2 n)
    (hl1 : SqA k s.heap l1 xs) (hl2 : SqA k s.heap l2 ys) (hend : xs[n]? = none ∨ ys[n]? = none)
    (hE : ∀ h' e, (∀ c o, c ≠ z → c ≠ TO → c ≠ i1 → c ≠ i2 → s.heap.get? c = some o → h'.get? c = some o) → (∃ o, h'.get? e = some o ∧ o.cls = .type "StopIteration") → E (.ref e) { s with heap := h' }) :
    wpAny (model prog w) A (Builtin.«zip.__next__» ⟨[.ref z], []⟩) Q E s := by
  obtain ⟨hz, hTI, ⟨a, b, hTO⟩, h1, h2⟩ := st
  show wpAny _ _ (field (.ref z) 2 >>= _) _ _ _
  refine wpAny_bind (wpAny_field hz rfl (x := .bool false) rfl ?_)
  show wpAny _ _ (field (.ref z) 3 >>= _) _ _ _
  refine wpAny_bind (wpAny_field hz rfl (x := .ref TI) rfl (wpAny_bind (wpAny_seqItems hTI rfl ?_)))
  show wpAny _ _ (Builtin.SmallTypes.ownedTupleIsFree (.ref z) >>= _) _ _ _
  refine wpAny_bind ?_
  unfold Builtin.SmallTypes.ownedTupleIsFree
  refine wpAny_bind (wpAny_field hz rfl (x := .none) rfl (wpAny_pure ?_))
  simp only [if_true]
  refine wpAny_bind (wpAny_rule (wpAny_bind (wpAny_field hz rfl (x := .ref TO) rfl (wpAny_bind (wpAny_setField_rec hz (by simp) fun g1 z1 c1 => ?_)))))
  replace z1 : IsZip g1 z TI TO .ellipsis := z1
  refine wpAny_bind ?_
  simp only [List.zipIdx_cons, List.zipIdx_nil, List.forIn_cons, List.forIn_nil]
  refine wpAny_bind (wpAny_bind (wpAny_onRaise ?_))
  show wpAny _ _ (Builtin.SmallTypes.nextOf (.ref i1) >>= _) _ _ _
  cases hx : xs[n]? with
  | none =>
    refine wpAny_bind (drawA_end hh (h1.at fun o e => c1.extBut _ _ D.i1z e) (hl1.at fun o e => c1.extBut _ _ D.l1z e) hx fun g2 e c2 he => ?_)
    obtain ⟨oe, hoe, hce⟩ := he
    have z2 : IsZip g2 z TI TO .ellipsis := c2 _ _ D.i1z.symm z1
    have hez : e ≠ z := fun x => by subst x; rw [z2] at hoe; cases hoe; simp at hce
    exact wpAny_setField_rec z2 (by simp) fun g3 _ c3 => hE g3 e (fun c o n1 _ n3 _ x => c3.extBut _ _ n1 (c2 _ _ n3 (c1.extBut _ _ n1 x))) ⟨oe, c3.extBut _ _ hez hoe, hce⟩
  | some x =>
    have hy : ys[n]? = none := by rcases hend with h | h; (rw [hx] at h; cases h); exact h
    refine wpAny_bind (drawA_item (h1.at fun o e => c1.extBut _ _ D.i1z e) (hl1.at fun o e => c1.extBut _ _ D.l1z e) hx fun g2 h12 c2 => wpAny_pure ?_)
    have o2 : IsPair g2 TO a b := c2.extBut _ _ D.TOi1 (c1.extBut _ _ D.TOz hTO)
    refine wpAny_bind (wpAny_seqItems o2 rfl (wpAny_bind (wpAny_updateSeq_pair o2 fun g3 o3 c3 => ?_)))
    refine wpAny_bind (wpAny_letGo (wpAny_pure (wpAny_bind (wpAny_bind (wpAny_onRaise ?_)))))
    show wpAny _ _ (Builtin.SmallTypes.nextOf (.ref i2) >>= _) _ _ _
    refine wpAny_bind (drawA_end hh (((h2.at fun o e => c1.extBut _ _ D.i2z e).at fun o e => c2.extBut _ _ D.i12.symm e).at fun o e => c3.extBut _ _ D.TOi2.symm e)
      (((hl2.at fun o e => c1.extBut _ _ D.l2z e).at fun o e => c2.extBut _ _ D.l2i1 e).at fun o e => c3.extBut _ _ D.l2TO e) hy fun g4 e c4 he => ?_)
    obtain ⟨oe, hoe, hce⟩ := he
    have z4 : IsZip g4 z TI TO .ellipsis := c4 _ _ D.i2z.symm (c3.extBut _ _ D.TOz.symm (c2.extBut _ _ D.i1z.symm z1))
    have hez : e ≠ z := fun x => by subst x; rw [z4] at hoe; cases hoe; simp at hce
    exact wpAny_setField_rec z4 (by simp) fun g5 _ c5 => hE g5 e (fun c o n1 n2 n3 n4 x => c5.extBut _ _ n1 (c4 _ _ n4 (c3.extBut _ _ n2 (c2.extBut _ _ n3 (c1.extBut _ _ n1 x))))) ⟨oe, c5.extBut _ _ hez hoe, hce⟩
theorem nextA_item {k : Bool} {z TI TO i1 i2 l1 l2 : Addr} {n : Nat} {xs ys : Array Value} {x y : Value} {Q : Option Value → Shared → Prop} (D : ZipApart z TI TO i1 i2 l1 l2) (st : ZipSt k s.heap z TI TO i1 i2 l1 l2 n)
    (hl1 : SqA k s.heap l1 xs) (hl2 : SqA k s.heap l2 ys) (hx : xs[n]? = some x) (hy : ys[n]? = some y)
    (hQ : ∀ h', IsZip h' z TI TO (rawInt s.heap.objs.size) → IsPair h' TO x y → ItA k h' i1 l1 (n + 1) → ItA k h' i2 l2 (n + 1) → IsPair h' s.heap.objs.size x y →
      (∀ c o, c ≠ z → c ≠ TO → c ≠ i1 → c ≠ i2 → s.heap.get? c = some o → h'.get? c = some o) → Q (some (.ref s.heap.objs.size)) { s with heap := h' }) : wpAny (model prog w) A (pyNext (.ref z)) Q E s := by
  have hT : s.TypeIs (.ref z) "zip" := ⟨_, st.z, rfl⟩
  unfold pyNext
  exact wpAny_bind (wpAny_attempt (wpAny_callSpecial?_slot (name := Str.ofString "__next__") hT F.slot_zip_next (wpAny_call_entry F.slot_zip_next hT F.entry_zip_next
    (zipA_item D st hl1 hl2 hx hy fun h' a1 a2 a3 a4 a5 a7 => wpAny_pure (hQ h' a1 a2 a3 a4 a5 a7)) (F.args_zip_next_1 _))))
theorem nextA_end {k : Bool} {z TI TO i1 i2 l1 l2 : Addr} {n : Nat} {xs ys : Array Value} {Q : Option Value → Shared → Prop} (hh : A.handled = none) (D : ZipApart z TI TO i1 i2 l1 l2) (st : ZipSt k s.heap z TI TO i1 i2 l1 l2 n)
    (hl1 : SqA k s.heap l1 xs) (hl2 : SqA k s.heap l2 ys) (hend : xs[n]? = none ∨ ys[n]? = none)
    (hQ : ∀ h', (∀ c o, c ≠ z → c ≠ TO → c ≠ i1 → c ≠ i2 → s.heap.get? c = some o → h'.get? c = some o) → Q none { s with heap := h' }) : wpAny (model prog w) A (pyNext (.ref z)) Q E s := by
  have hT : s.TypeIs (.ref z) "zip" := ⟨_, st.z, rfl⟩
  unfold pyNext
  refine wpAny_bind (wpAny_attempt (wpAny_callSpecial?_slot (name := Str.ofString "__next__") hT F.slot_zip_next (wpAny_call_entry F.slot_zip_next hT F.entry_zip_next
    (zipA_end hh D st hl1 hl2 hend fun h' e hk he => ?_) (F.args_zip_next_1 _))))
  obtain ⟨o, ho, hc⟩ := he
  exact wpAny_bind (wpAny_isInstance (T := "StopIteration") (b := true) ⟨o, ho, hc⟩ isSubtype_stop (wpAny_pure (hQ _ hk)))
end
abbrev zH1 (k : Bool) (h : Heap) (l1 : Addr) : Heap := h.push (itObj k l1)
abbrev zH2 (k : Bool) (h : Heap) (l1 l2 : Addr) : Heap := (zH1 k h l1).push (itObj k l2)
abbrev zH3 (k : Bool) (h : Heap) (l1 l2 : Addr) : Heap := (zH2 k h l1 l2).push { cls := .type "tuple", data := .seq #[.ref h.objs.size, .ref (zH1 k h l1).objs.size] }
abbrev zH4 (k : Bool) (h : Heap) (l1 l2 : Addr) : Heap := (zH3 k h l1 l2).push { cls := .type "tuple", data := .seq #[.none, .none] }
abbrev zH5 (k : Bool) (h : Heap) (l1 l2 : Addr) : Heap := (zH4 k h l1 l2).push { cls := .type "zip", data := .fields #[.none, .bool false, .bool false, .ref (zH2 k h l1 l2).objs.size, .ref (zH3 k h l1 l2).objs.size] }
theorem meets_zipA (k : Bool) (l1 l2 : Addr) (xs ys : Array Value) :
    Meets (Builtin.«zip.__new__» ⟨[.type "zip", .ref l1, .ref l2], []⟩) (fun _ R s => SqA k s.heap l1 xs ∧ SqA k s.heap l2 ys ∧ R (.ok (.ret (.ref (zH4 k s.heap l1 l2).objs.size))) { s with heap := zH5 k s.heap l1 l2 }) :=
  .of_wp fun prog w A R s h => by
    obtain ⟨hp, g, d, tk, os⟩ := s; obtain ⟨hl1, hl2, h⟩ := h
    have hsub := sub_zip
    have hL1 : SqA k (Shared.heap ⟨hp, g, d, tk, os⟩) l1 xs := hl1
    have hL2 : SqA k (Shared.heap ⟨hp.push (itObj k l1), g, d, tk, os⟩) l2 ys := hl2.at fun o e => Heap.get?_push_of_some _ e
    wp_walk using iterA hL1, iterA hL2
    exact ⟨_, rfl, h⟩
section
variable {prog : Program} {w : World} {A : Around} {E : Value → Shared → Prop} {s : Shared}
theorem call_zipA {k : Bool} {l1 l2 : Addr} {xs ys : Array Value} {Q : Value → Shared → Prop} (hl1 : SqA k s.heap l1 xs) (hl2 : SqA k s.heap l2 ys)
    (h : ∀ h', ZipSt k h' (s.heap.objs.size + 4) (s.heap.objs.size + 2) (s.heap.objs.size + 3) s.heap.objs.size (s.heap.objs.size + 1) l1 l2 0 → (∀ c o, s.heap.get? c = some o → h'.get? c = some o) → Q (.ref (s.heap.objs.size + 4)) { s with heap := h' }) :
    wpAny (model prog w) A (call (.type "zip") [.ref l1, .ref l2]) Q E s := by
  refine callType_new F.called_zip (by decide) (F.typeCall_zip_2 _ _) (F.newCall_zip_2 _ _) (fun obj => F.args_object_init_3 obj _ _) F.entry_zip_new (meets_zipA k l1 l2 xs ys) ⟨hl1, hl2, ?_⟩
  have z1 : (zH1 k s.heap l1).objs.size = s.heap.objs.size + 1 := Heap.size_push ..
  have z2 : (zH2 k s.heap l1 l2).objs.size = s.heap.objs.size + 2 := by rw [Heap.size_push, z1]
  have z3 : (zH3 k s.heap l1 l2).objs.size = s.heap.objs.size + 3 := by rw [Heap.size_push, z2]
  have z4 : (zH4 k s.heap l1 l2).objs.size = s.heap.objs.size + 4 := by rw [Heap.size_push, z3]
  have g5 : (zH5 k s.heap l1 l2).get? (zH4 k s.heap l1 l2).objs.size = some _ := Heap.get?_push_size _ rfl
  have g4 : (zH5 k s.heap l1 l2).get? (zH3 k s.heap l1 l2).objs.size = some _ := Heap.get?_push_of_some _ (Heap.get?_push_size _ rfl)
  have g3 : (zH5 k s.heap l1 l2).get? (zH2 k s.heap l1 l2).objs.size = some _ := Heap.get?_push_of_some _ (Heap.get?_push_of_some _ (Heap.get?_push_size _ rfl))
  have g2 : (zH5 k s.heap l1 l2).get? (zH1 k s.heap l1).objs.size = some (itObj k l2) := Heap.get?_push_of_some _ (Heap.get?_push_of_some _ (Heap.get?_push_of_some _ (Heap.get?_push_size _ rfl)))
  have g1 : (zH5 k s.heap l1 l2).get? s.heap.objs.size = some (itObj k l1) := Heap.get?_push_of_some _ (Heap.get?_push_of_some _ (Heap.get?_push_of_some _ (Heap.get?_push_of_some _ (Heap.get?_push_size _ rfl))))
  show _ ∧ _
  rw [z2, z3, z4] at g5
  rw [z1, z2] at g3
  rw [z3] at g4
  rw [z1] at g2
  rw [z4]
  refine ⟨⟨_, g5, rfl⟩, h _ ⟨g5, g3, ⟨_, _, g4⟩, ?_, ?_⟩ fun c o x => Heap.get?_push_of_some _ (Heap.get?_push_of_some _ (Heap.get?_push_of_some _ (Heap.get?_push_of_some _ (Heap.get?_push_of_some _ x))))⟩
  · cases k
    · exact ⟨_, g1, rfl, rfl⟩
    · exact ⟨_, g1, rfl, rfl⟩
  · cases k
    · exact ⟨_, g2, rfl, rfl⟩
    · exact ⟨_, g2, rfl, rfl⟩
end
/-- a list or a tuple that is read -/
def SqB (K : PySem.W.Frag) (k : Bool) (H : Hp) (a : Addr) (xs : List V) : Prop := match k with
  | true => SqL K H a xs
  | false => SqT K H a xs
theorem sqB_at {X : Cx} {pins : List (Addr × Obj)} {σ : L2.St} {H : Hp} {s : Shared} {k : Bool} {a : Addr} {xs : List V} (I : Inv X pins σ H s) (h : SqB X.K k H a xs) : ∃ its : List Value, Vals xs its ∧ SqA k s.heap a its.toArray ∧ xs.length ≤ sizeLine := by
  cases k
  · obtain ⟨its, r, p, z⟩ := I.tuple h
    exact ⟨its, r, p, z⟩
  · obtain ⟨its, r, p, z⟩ := I.list h
    exact ⟨its, r, p.isList, z⟩
theorem sqB_inj {X : Cx} {pins : List (Addr × Obj)} {σ : L2.St} {H : Hp} {s : Shared} {k : Bool} {a : Addr} {xs ys : List V} (I : Inv X pins σ H s) (h : SqB X.K k H a xs) (h' : SqB X.K k H a ys) : xs = ys := by
  cases k
  · exact I.tuple_inj h h'
  · exact I.list_inj h h'
theorem sqA_lt {k : Bool} {h : Heap} {a : Addr} {xs : Array Value} (x : SqA k h a xs) : a < h.objs.size := by
  cases k
  · obtain ⟨o, ho, _⟩ := x; exact Heap.lt_size ho
  · obtain ⟨o, ho, _⟩ := x; exact Heap.lt_size ho
def Itz (K : PySem.W.Frag) (k : Bool) (a1 a2 : Addr) : It :=
  ⟨fun i H => ∃ xs ys x y, SqB K k H a1 xs ∧ SqB K k H a2 ys ∧ xs[i]? = some x ∧ ys[i]? = some y,
   fun i H v H' => ∃ p x y, H p = none ∧ v = .ref p ∧ H' = upd H p (.tup [x, y]) ∧ (∀ xs, SqB K k H a1 xs → xs[i]? = some x) ∧ ∀ ys, SqB K k H a2 ys → ys[i]? = some y,
   fun i H => ∃ xs ys, SqB K k H a1 xs ∧ SqB K k H a2 ys ∧ (xs.length ≤ i ∨ ys.length ≤ i)⟩
theorem turn_zip {P : Program} {w : World} {K : PySem.W.Frag} {elts : List Expr} {x1 : Nat} {tpos : Pos} {k : Bool} {z TI TO i1 i2 l1 l2 : Addr} (D : ZipApart z TI TO i1 i2 l1 l2) :
    Turn P w K (.Tuple elts x1 tpos) (Itz K k l1 l2) [z, TI, TO, i1, i2] z (fun i h => ZipSt k h z TI TO i1 i2 l1 l2 i) where
  mem := by simp
  obj := fun i h st b hb => by
    obtain ⟨hz, hTI, ⟨a, c, hTO⟩, h1, h2⟩ := st
    simp only [List.mem_cons, List.not_mem_nil, or_false] at hb
    rcases hb with rfl | rfl | rfl | rfl | rfl
    · exact ⟨_, hz, fun v e => by cases e⟩
    · exact ⟨_, hTI, fun v e => by cases e⟩
    · exact ⟨_, hTO, fun v e => by cases e⟩
    · exact h1.obj
    · exact h2.obj
  keep := fun i h h' st kk => by
    obtain ⟨hz, hTI, ⟨a, c, hTO⟩, h1, h2⟩ := st
    exact ⟨kk z (by simp) _ hz, kk TI (by simp) _ hTI, ⟨a, c, kk TO (by simp) _ hTO⟩, h1.at fun o e => kk i1 (by simp) o e, h2.at fun o e => kk i2 (by simp) o e⟩
  item := by
    intro X hP hw hK hc i pins s σ H E I hf st hg
    subst hP hw hK
    obtain ⟨xs, ys, x, y, q1, q2, e1, e2⟩ := hg
    obtain ⟨us, r1, p1, _⟩ := sqB_at I q1
    obtain ⟨vs, r2, p2, _⟩ := sqB_at I q2
    obtain ⟨u, eu, ru⟩ := r1.get e1
    obtain ⟨v, ev, rv⟩ := r2.get e2
    refine nextA_item (x := u) (y := v) D st p1 p2 (by simpa using eu) (by simpa using ev) fun h' g1 g2 g3 g4 g5 g7 => ?_
    refine ⟨_, rfl, wpAny_letOwnedTupleGo_zip g1 fun h2 hz2 c2 => ?_⟩
    have ne : ∀ {b o}, s.heap.get? b = some o → s.heap.objs.size ≠ b := fun e => Nat.ne_of_gt (Heap.lt_size e)
    have k2 : ∀ b o, b ∉ [z, TI, TO, i1, i2] → s.heap.get? b = some o → h2.get? b = some o := fun b o hb e => by
      simp only [List.mem_cons, List.not_mem_nil, or_false, not_or] at hb
      exact c2.extBut _ _ hb.1 (g7 b o hb.1 hb.2.2.1 hb.2.2.2.1 hb.2.2.2.2 e)
    have I2 : Inv X pins σ (upd H s.heap.objs.size (.tup [x, y])) { s with heap := h2, toks := s.toks } :=
      adopt I k2 hf (Nat.le_refl _) (by show 2 ≤ sizeLine; decide) (.cons ru (.cons rv .nil)) ⟨_, c2.extBut _ _ (ne st.z) g5, rfl, _, rfl⟩
    refine ⟨.ref s.heap.objs.size, _, I2, rfl, ⟨_, x, y, I.hok.fresh (Nat.le_refl _), rfl, rfl, fun xs' q => ?_, fun ys' q => ?_⟩, ?_, fun b hb => ?_⟩
    · rw [sqB_inj I q q1]; exact e1
    · rw [sqB_inj I q q2]; exact e2
    · exact ⟨hz2, c2.extBut _ _ D.TIz (g7 _ _ D.TIz D.TITO D.TIi1 D.TIi2 st.ti), ⟨u, v, c2.extBut _ _ D.TOz g2⟩, g3.at fun o e => c2.extBut _ _ D.i1z e, g4.at fun o e => c2.extBut _ _ D.i2z e⟩
    · have hlt : ∃ o, s.heap.get? b = some o := by
        obtain ⟨hz, hTI, ⟨a, c, hTO⟩, h1, h2⟩ := st
        simp only [List.mem_cons, List.not_mem_nil, or_false] at hb
        rcases hb with rfl | rfl | rfl | rfl | rfl
        · exact ⟨_, hz⟩
        · exact ⟨_, hTI⟩
        · exact ⟨_, hTO⟩
        · exact h1.obj.imp fun _ e => e.1
        · exact h2.obj.imp fun _ e => e.1
      obtain ⟨o, e⟩ := hlt
      rw [upd_ne (ne e).symm]
      exact (hf b hb).1
  done := by
    intro X hP hw hK hc i pins s σ H E I hf st hg
    subst hP hw hK
    obtain ⟨xs, ys, q1, q2, e⟩ := hg
    obtain ⟨us, r1, p1, _⟩ := sqB_at I q1
    obtain ⟨vs, r2, p2, _⟩ := sqB_at I q2
    have l1 := r1.length
    have l2 := r2.length
    refine nextA_end (I.ok.hd hc) D st p1 p2 (e.imp (fun e => by simp; omega) (fun e => by simp; omega)) fun h' kk => ⟨rfl, turnedN (t' := s.toks) (ch := [z, TI, TO, i1, i2]) I (fun b o hb e => ?_) hf⟩
    simp only [List.mem_cons, List.not_mem_nil, or_false, not_or] at hb
    exact kk b o hb.1 hb.2.2.1 hb.2.2.2.1 hb.2.2.2.2 e
  self := fun _ _ _ _ _ st h => wpAny_pyIter_zip st.z h
def iZip (K : PySem.W.Frag) (ta : TA) : TI := fun σ H R => ta σ H fun vs H1 => ∃ k a1 a2 xs ys, vs = [.ref a1, .ref a2] ∧ SqB K k H1 a1 xs ∧ SqB K k H1 a2 ys ∧ R (Itz K k a1 a2) H1
theorem pi_zip {X : Cx} {elts : List Expr} {x1 : Nat} {tpos : Pos} {a b : Expr} {ta : TA} {p pos : Pos} (hg : Gl X "zip") (hm : X.mg "zip" = none) (ha : PA X [a, b] ta)
    (hs : starEach [a, b] X.env = [(false, eval a X.env), (false, eval b X.env)] := by rfl) (hs2 : starEach [b] X.env = [(false, eval b X.env)] := by rfl) : PI X (.Tuple elts x1 tpos) (.Call (.Name "zip" p) [a, b] [] pos) (iZip X.K ta) := by
  intro pins s σ H R I h
  refine Call_ (ld_blt I hg hm boot_zip (PyProof.Rows.callWith_type1 (thn (ha pos pins s σ H _ I h) fun us s1 ⟨vs, H1, I1, r1, q1⟩ => ?_) (by rw [hs, hs2]) (by rw [hs2]; rfl)))
  obtain ⟨k, a1, a2, xs, ys, e, q1, q2, q⟩ := q1
  subst e
  obtain ⟨u1, u2, rfl, e1, e2⟩ := r1.two
  cases (show u1 = Value.ref a1 from e1)
  cases (show u2 = Value.ref a2 from e2)
  obtain ⟨us, rr1, p1, _⟩ := sqB_at I1 q1
  obtain ⟨ws, rr2, p2, _⟩ := sqB_at I1 q2
  have b1 := sqA_lt p1
  have b2 := sqA_lt p2
  refine call_zipA p1 p2 fun h' st kk => wpAny_pyIter_zip st.z ?_
  have I2 : Inv X pins σ H1 { s1 with heap := h', toks := s1.toks } := I1.kept kk
  refine ⟨_, _, _, _, H1, rfl, I2, turn_zip (zipApart_new b1 b2), st, fun b hb => ?_, q⟩
  have hb' : s1.heap.objs.size ≤ b := by
    simp only [List.mem_cons, List.not_mem_nil, or_false] at hb
    rcases hb with rfl | rfl | rfl | rfl | rfl
    · exact Nat.le_add_right _ _
    · exact Nat.le_add_right _ _
    · exact Nat.le_add_right _ _
    · exact Nat.le_refl _
    · exact Nat.le_add_right _ _
  exact I1.fpOk hb' (I1.hok.fresh hb')
theorem for_zip {K : PySem.W.Frag} {k : Bool} {a1 a2 : Addr} {xs ys : List V} {g : TG} {tb : TS} {D : Ends} {σ : L2.St} {H : Hp} (Pv : Nat → L2.St → Hp → Prop) (hn : xs.length = ys.length) (h0 : Pv 0 σ H)
    (hl : ∀ i σ H, i ≤ xs.length → Pv i σ H → SqB K k H a1 xs ∧ SqB K k H a2 ys)
    (hs : ∀ i x y p σ H, xs[i]? = some x → ys[i]? = some y → H p = none → Pv i σ H → g (.ref p) σ (upd H p (.tup [x, y])) fun σ2 H2 => tb { D with nx := Pv (i + 1), ct := Pv (i + 1), bk := D.nx } σ2 H2) (hd : ∀ σ H, Pv xs.length σ H → D.nx σ H) :
    ∃ W : Nat → Nat → L2.St → Hp → Prop, (∃ m, W 0 m σ H) ∧ ∀ i m σ H, W i m σ H →
      ((Itz K k a1 a2).stop i H ∧ D.nx σ H) ∨ ((Itz K k a1 a2).go i H ∧ ∃ N : L2.St → Hp → Prop, (∀ σ' H', N σ' H' → ∃ m', m' < m ∧ W (i + 1) m' σ' H') ∧ ∀ x H', (Itz K k a1 a2).yld i H x H' → g x σ H' fun σ2 H2 => tb { D with nx := N, ct := N, bk := D.nx } σ2 H2) := by
  refine ⟨fun i m σ H => m = xs.length - i ∧ i ≤ xs.length ∧ Pv i σ H, ⟨xs.length, by simp, Nat.zero_le _, h0⟩, ?_⟩
  rintro i m σ H ⟨rfl, hi, p⟩
  obtain ⟨q1, q2⟩ := hl i σ H hi p
  by_cases hlt : i < xs.length
  · have hlt2 : i < ys.length := by omega
    refine .inr ⟨⟨xs, ys, xs[i], ys[i], q1, q2, by simp [hlt], by simp [hlt2]⟩, Pv (i + 1), fun σ' H' p' => ⟨xs.length - (i + 1), by omega, rfl, hlt, p'⟩, fun x H' y => ?_⟩
    obtain ⟨a, x', y', hn', rfl, rfl, e1, e2⟩ := y
    exact hs i x' y' a σ _ (e1 xs q1) (e2 ys q2) hn' p
  · have e : i = xs.length := by omega
    subst e
    exact .inl ⟨⟨xs, ys, q1, q2, .inl (Nat.le_refl _)⟩, hd σ H p⟩

/-! ### range(a, b) as a thing, list(range(a, b)) -/
section
variable {X : Cx}
end

/-! ### // by any divisor of some size; sum of a list of ints -/
section
variable {X : Cx}
theorem log2_big {j : Int} (h0 : 0 < j) (h1 : j < 10 ^ 70) : j.natAbs.log2 < 9000 := by
  have h : j.natAbs < 2 ^ 9000 := Nat.lt_trans (show j.natAbs < 10 ^ 70 by omega) (by decide +kernel)
  exact (Nat.log2_lt (by omega)).mpr h
theorem op_fdivB : OpR X (binaryOp .FloorDiv) (rI (fun _ j => 0 < j ∧ j < 10 ^ 70) fun i j => .int (i / j)) := opI fun i j _ _ _ _ _ hc q => by
  have h1 : (0 : Int) < j := hc.1
  exact floordiv_int (by omega) (by rw [Int.fdiv_eq_ediv_of_nonneg i (by omega)]; exact q) (.inl (PyProof.noPylong_of_log2 (log2_big hc.1 hc.2)))
end

/-! ### two lists of the very same values compared -/
def idV : V → Bool
  | .int _ | .bl _ | .str _ | .non | .ref _ => true
  | _ => false
theorem eqAt_id {A : Around} {s : Shared} {x : V} {u v : Value} (hx : idV x = true) (ru : RelV x u) (rv : RelV x v) : SeqAt.EqAt A s u v true := by
  cases x with
  | int i => obtain ⟨t, rfl⟩ := ru; obtain ⟨t', rfl⟩ := rv; simpa using SeqAt.EqAt.int_int (A := A) (s := s) i t i t'
  | bl b => cases (show u = Value.bool b from ru); cases (show v = Value.bool b from rv); exact SeqAt.EqAt.same _
  | str b => obtain ⟨t, rfl⟩ := ru; obtain ⟨t', rfl⟩ := rv; simpa using SeqAt.EqAt.str_str (A := A) (s := s) b t b t'
  | non => cases (show u = Value.none from ru); cases (show v = Value.none from rv); exact SeqAt.EqAt.same _
  | ref a => cases (show u = Value.ref a from ru); cases (show v = Value.ref a from rv); exact SeqAt.EqAt.same _
  | _ => cases hx
section
variable {X : Cx}
end
end InkX

namespace Ink
/-- rows: pairs of ints -/
abbrev Row := List (Int × Int)
/-- the last pair grown, or one more -/
def grow (t : Row) (s e : Int) : Row :=
  match t.getLast? with
  | some p => if p.2 = s then t.dropLast ++ [(p.1, e)] else t ++ [(s, e)]
  | none => t ++ [(s, e)]
/-- s, s+1, .., n of them -/
def run (s : Int) : Nat → List Int
  | 0 => []
  | n + 1 => s :: run (s + 1) n
end Ink

namespace Ink
/-! ### sizes and places -/
def tot (r : Row) : Int := (r.map fun p => p.2 - p.1).sum
theorem take_snoc {α : Type} {l : List α} {i : Nat} {x : α} (h : l[i]? = some x) : l.take (i + 1) = l.take i ++ [x] := by rw [List.take_add_one, h]; rfl
end Ink
namespace Ink
end Ink
namespace Ink
end Ink

namespace Ink
open PySem L2 InkX

/-! ### a def of the text, called by its promise -/
structure DefAt (K : PySem.W.Frag) (mg : Str → Option Value) (x : Str) (st : Stmt) (ps : List Str) (a : Addr) (d : FuncData) : Prop where
  F : Fun K x x st a d
  b : Binds K d ps []
  m : mg x = some (.ref a)
section
variable {X : Cx}
theorem pe_def {x : Str} {st : Stmt} {ps : List Str} {f : Addr} {fd : FuncData} {j k : Nat} {sp : Sp} {e : Expr} {es : List Expr} {t : TA} {p pos : Pos} (d : DefAt X.K X.mg x st ps f fd) (G : FnOk X.prog X.w X.K X.mg X.base CX0 k f fd ps sp) (hr : Room j X.A)
    (ha : PA X (e :: es) t) (hjk : k ≤ j := by first | decide | omega) (hg : Gl X x := by rfl) (hdb : (x == ("__debug__" : Str)) = false := by decide) (he : starEach (e :: es) X.env = (false, eval e X.env) :: starEach es X.env := by rfl)
    (hpl : (backTo pos (starEach es X.env)).any (·.1) = false := by rfl) : PE X (.Call (.Name x p) (e :: es) [] pos) (tCall sp [] E0 t) :=
  pe_call G (hr.mono hjk) hg d.m d.F.kp d.b .nil pass0 ha hdb he hpl
theorem ps_imp {st : Stmt} {t t' : TS} (h : PS X st t) (hi : ∀ D σ H, t' D σ H → t D σ H) : PS X st t' := fun pins s σ H D I q => h pins s σ H D I (hi D σ H q)
end

/-! ### heaps -/
/-- all but what stands at l is as it was -/
def Keep (l : Addr) (H H' : Hp) : Prop := ∀ a o, H a = some o → a ≠ l → H' a = some o
theorem Same.keep {l : Addr} {H H' : Hp} (s : Same H H') : Keep l H H' := fun a o e _ => s a o e
theorem Keep.refl (l : Addr) (H : Hp) : Keep l H H := fun _ _ e _ => e
theorem Keep.trans {l : Addr} {H H1 H2 : Hp} (a : Keep l H H1) (b : Keep l H1 H2) : Keep l H H2 := fun c o e n => b c o (a c o e n) n
theorem keep_upd (l : Addr) (H : Hp) (o : HO) : Keep l H (upd H l o) := fun a u e n => by rw [upd_ne n]; exact e
theorem keep_of {l : Addr} {H H1 H2 : Hp} (h : H l = none) (a : Same H H1) (b : Keep l H1 H2) : Same H H2 := fun c o e => b c o (a c o e) (ne_of_none e h)
theorem same_new {H : Hp} {p : Addr} (h : H p = none) (o : HO) : Same H (upd H p o) := fun b u q => by rw [upd_ne (ne_of_none q h)]; exact q
theorem free_keep {l a : Addr} {H H' : Hp} (k : Keep l H H') (n : a ≠ l) (h : H' a = none) : H a = none := by
  cases q : H a with
  | none => rfl
  | some o => rw [k a o q n] at h; cases h
/-! ### the reader of a script: a list of the cells, a place, a rest, a mix -/
def SrcOk (H : Hp) (l c : Addr) : Prop := c ≠ l ∧ ∃ (ns : List Int) (i d r : Int), H l = some (.lst [.ref c, .int i, .int d, .int r]) ∧ H c = some (.lst (ns.map V.int)) ∧ 0 ≤ i ∧ 0 ≤ r ∧ r < 2147483647
theorem SrcOk.same {H H' : Hp} {l c : Addr} (s : SrcOk H l c) (k : Same H H') : SrcOk H' l c := by
  obtain ⟨n, ns, i, d, r, h1, h2, h3⟩ := s
  exact ⟨n, ns, i, d, r, k _ _ h1, k _ _ h2, h3⟩
theorem SrcOk.keep {H H' : Hp} {l c m : Addr} (s : SrcOk H l c) (k : Keep m H H') (h1 : l ≠ m) (h2 : c ≠ m) : SrcOk H' l c := by
  obtain ⟨n, ns, i, d, r, e1, e2, h3⟩ := s
  exact ⟨n, ns, i, d, r, k _ _ e1 h1, k _ _ e2 h2, h3⟩
theorem SrcOk.ne {H : Hp} {l c a : Addr} (s : SrcOk H l c) (h : H a = none) : l ≠ a ∧ c ≠ a := by
  obtain ⟨n, ns, i, d, r, e1, e2, h3⟩ := s
  exact ⟨ne_of_none e1 h, ne_of_none e2 h⟩
theorem SrcOk.has {H : Hp} {l c : Addr} (s : SrcOk H l c) : (∃ o, H l = some o) ∧ ∃ o, H c = some o := by
  obtain ⟨n, ns, i, d, r, e1, e2, h3⟩ := s
  exact ⟨⟨_, e1⟩, ⟨_, e2⟩⟩
theorem at40 {a b c d : V} : atI [a, b, c, d] 0 = some a := rfl
theorem at41 {a b c d : V} : atI [a, b, c, d] 1 = some b := rfl
theorem at42 {a b c d : V} : atI [a, b, c, d] 2 = some c := rfl
theorem at43 {a b c d : V} : atI [a, b, c, d] 3 = some d := rfl
theorem at20 {a b : V} : atI [a, b] 0 = some a := rfl
theorem at21 {a b : V} : atI [a, b] 1 = some b := rfl
/-- the promise of the reader's step: any number below the base -/
def spNext : Sp := fun vs H Q _ => ∃ (l c : Addr) (b : Int), vs = [.ref l, .int b] ∧ SrcOk H l c ∧ 0 < b ∧ b < 10 ^ 70 ∧
  ∀ (v : Int) (H' : Hp), 0 ≤ v → v < b → SrcOk H' l c → (∀ a, a ≠ l → H' a = H a) → Q (.int v) H'
def spSrc (K : PySem.W.Frag) : Sp := fun vs H Q _ => ∃ (a : Addr) (ns : List Int), vs = [.ref a] ∧ SqL K H a (ns.map V.int) ∧
  ∀ (l c : Addr) (H' : Hp), SrcOk H' l c → Same H H' → H l = none → H c = none → Q (.ref l) H'

/-! ### the same things, to a depth -/
def flat : V → Bool
  | .int _ | .bl _ | .str _ | .non => true
  | _ => false
def AtS (k : Bool) (H : Hp) (a : Addr) (xs : List V) : Prop := match k with
  | true => H a = some (.lst xs)
  | false => H a = some (.tup xs)
theorem AtS.same {k : Bool} {H H' : Hp} {a : Addr} {xs : List V} (h : AtS k H a xs) (s : Same H H') : AtS k H' a xs := by
  cases k
  · exact s _ _ h
  · exact s _ _ h
theorem AtS.sq {K : PySem.W.Frag} {k : Bool} {H : Hp} {a : Addr} {xs : List V} (h : AtS k H a xs) : SqB K k H a xs := by
  cases k
  · exact SqT.of h
  · exact SqL.of h
def Eqv (H : Hp) : Nat → V → V → Prop
  | 0, _, _ => False
  | n + 1, x, y => (flat x = true ∧ x = y) ∨ ∃ (k : Bool) (a b : Addr) (xs ys : List V), x = .ref a ∧ y = .ref b ∧ AtS k H a xs ∧ AtS k H b ys ∧ xs.length = ys.length ∧
      ∀ (i : Nat) (u v : V), xs[i]? = some u → ys[i]? = some v → Eqv H n u v
theorem Eqv.same {H H' : Hp} (s : Same H H') : ∀ {n : Nat} {x y : V}, Eqv H n x y → Eqv H' n x y
  | 0, _, _, h => h
  | n + 1, x, y, h => by
    rcases h with h | ⟨k, a, b, xs, ys, e1, e2, h1, h2, hl, hi⟩
    · exact .inl h
    · exact .inr ⟨k, a, b, xs, ys, e1, e2, h1.same s, h2.same s, hl, fun i u v eu ev => Eqv.same s (hi i u v eu ev)⟩
theorem Eqv.int {H : Hp} {n : Nat} (i : Int) : Eqv H (n + 1) (.int i) (.int i) := .inl ⟨rfl, rfl⟩
def spSame (n : Nat) : Sp := fun vs H Q _ => ∃ x y, vs = [x, y] ∧ Eqv H n x y ∧ ∀ H', Same H H' → Q (.bl true) H'
def spWhole : Sp := fun vs H Q _ => ∃ i : Int, vs = [.int i] ∧ Q (.bl true) H
section
variable (K : PySem.W.Frag)
theorem k_bb : PySem.W.kitOne K (.type "bool") (.type "bool") = some true := by rfl
theorem k_ib : PySem.W.kitOne K (.type "int") (.type "bool") = some false := by kernel_rfl
theorem k_ii : PySem.W.kitOne K (.type "int") (.type "int") = some true := by rfl
theorem k_sb : PySem.W.kitOne K (.type "str") (.type "bool") = some false := by kernel_rfl
theorem k_si : PySem.W.kitOne K (.type "str") (.type "int") = some false := by kernel_rfl
theorem k_ss : PySem.W.kitOne K (.type "str") (.type "str") = some true := by rfl
theorem k_lb : PySem.W.kitOne K (.type "list") (.type "bool") = some false := by kernel_rfl
theorem k_li : PySem.W.kitOne K (.type "list") (.type "int") = some false := by kernel_rfl
theorem k_ls : PySem.W.kitOne K (.type "list") (.type "str") = some false := by kernel_rfl
theorem k_ll : PySem.W.kitOne K (.type "list") (.type "list") = some true := by rfl
theorem k_lt : PySem.W.kitOne K (.type "list") (.type "tuple") = some false := by kernel_rfl
theorem k_tb : PySem.W.kitOne K (.type "tuple") (.type "bool") = some false := by kernel_rfl
theorem k_ti : PySem.W.kitOne K (.type "tuple") (.type "int") = some false := by kernel_rfl
theorem k_ts : PySem.W.kitOne K (.type "tuple") (.type "str") = some false := by kernel_rfl
theorem k_tl : PySem.W.kitOne K (.type "tuple") (.type "list") = some false := by kernel_rfl
theorem k_tt : PySem.W.kitOne K (.type "tuple") (.type "tuple") = some true := by rfl
end
def tyS (k : Bool) : Value := .type (if k then "list" else "tuple")
theorem AtS.ty {K : PySem.W.Frag} {k : Bool} {H : Hp} {a : Addr} {xs : List V} (h : AtS k H a xs) : TyOf K H (.ref a) (tyS k) := by
  cases k
  · exact TyOf.tup h
  · exact TyOf.lst h
theorem k_qb (K : PySem.W.Frag) (k : Bool) : PySem.W.kitOne K (tyS k) (.type "bool") = some false := by cases k; exact k_tb K; exact k_lb K
theorem k_qi (K : PySem.W.Frag) (k : Bool) : PySem.W.kitOne K (tyS k) (.type "int") = some false := by cases k; exact k_ti K; exact k_li K
theorem k_qs (K : PySem.W.Frag) (k : Bool) : PySem.W.kitOne K (tyS k) (.type "str") = some false := by cases k; exact k_ts K; exact k_ls K
theorem k_ql (K : PySem.W.Frag) (k : Bool) : PySem.W.kitOne K (tyS k) (.type "list") = some k := by cases k; exact k_tl K; exact k_ll K
theorem k_qt (K : PySem.W.Frag) (k : Bool) : PySem.W.kitOne K (tyS k) (.type "tuple") = some (!k) := by cases k; exact k_tt K; exact k_lt K

/-! ### rows: lists of pairs -/
def PairAt (H : Hp) (a : Addr) (p : Int × Int) : Prop := H a = some (.tup [.int p.1, .int p.2])
abbrev PairsAt (H : Hp) : List Addr → Row → Prop := Paired (PairAt H)
def RowAt (H : Hp) (r : Addr) (row : Row) : Prop := ∃ as : List Addr, H r = some (.lst (as.map V.ref)) ∧ PairsAt H as row
theorem PairsAt.tups {H H' : Hp} {as : List Addr} {row : Row} (h : PairsAt H as row) (t : ∀ a xs, H a = some (.tup xs) → H' a = some (.tup xs)) : PairsAt H' as row := Paired.mapP h fun a p e => t a _ e
theorem PairsAt.same {H H' : Hp} {as : List Addr} {row : Row} (h : PairsAt H as row) (s : Same H H') : PairsAt H' as row := h.tups fun a xs e => s a _ e
theorem RowAt.same {H H' : Hp} {r : Addr} {row : Row} (h : RowAt H r row) (s : Same H H') : RowAt H' r row := by
  obtain ⟨as, h1, h2⟩ := h
  exact ⟨as, s _ _ h1, h2.same s⟩
/-- what stands at l is no tuple -/
theorem PairsAt.keep {H H' : Hp} {as : List Addr} {row : Row} {l : Addr} {xs : List V} (h : PairsAt H as row) (hl : H l = some (.lst xs)) (s : Keep l H H') : PairsAt H' as row :=
  h.tups fun a ys e => s a _ e (ne_of e hl (by intro z; cases z))
theorem RowAt.keep {H H' : Hp} {r : Addr} {row : Row} {l : Addr} {xs : List V} (h : RowAt H r row) (hl : H l = some (.lst xs)) (n : r ≠ l) (s : Keep l H H') : RowAt H' r row := by
  obtain ⟨as, h1, h2⟩ := h
  exact ⟨as, s _ _ h1 n, h2.keep hl s⟩
theorem PairsAt.get {H : Hp} : ∀ {as : List Addr} {row : Row} {i : Nat} {a : Addr}, PairsAt H as row → as[i]? = some a → ∃ p, row[i]? = some p ∧ PairAt H a p
  | _, _, _, _, .nil, e => by simp at e
  | _, _, 0, _, .cons r _, e => by simp at e; subst e; exact ⟨_, rfl, r⟩
  | _, _, i + 1, a, .cons _ t, e => by
    obtain ⟨p, h1, h2⟩ := PairsAt.get (i := i) (a := a) t (by simpa using e)
    exact ⟨p, by simpa using h1, h2⟩
theorem PairsAt.snoc {H : Hp} : ∀ {as : List Addr} {row : Row} {a : Addr} {p : Int × Int}, PairsAt H as row → PairAt H a p → PairsAt H (as ++ [a]) (row ++ [p])
  | _, _, _, _, .nil, e => .cons e .nil
  | _, _, _, _, .cons r t, e => .cons r (PairsAt.snoc t e)
theorem PairsAt.split {H : Hp} : ∀ {as : List Addr} {row : Row} {p : Int × Int}, PairsAt H as (row ++ [p]) → ∃ bs a, as = bs ++ [a] ∧ PairsAt H bs row ∧ PairAt H a p
  | as, [], p, h => by
    cases h with
    | cons r t => cases t; exact ⟨[], _, rfl, .nil, r⟩
  | as, q :: row, p, h => by
    cases h with
    | cons r t =>
      obtain ⟨bs, a, rfl, h1, h2⟩ := PairsAt.split (row := row) (p := p) t
      exact ⟨_ :: bs, a, rfl, .cons r h1, h2⟩
theorem PairsAt.len {H : Hp} {as : List Addr} {row : Row} (h : PairsAt H as row) : as.length = row.length := Paired.length h
theorem RowAt.eqv {H : Hp} {r q : Addr} {row : Row} (h : RowAt H r row) (g : RowAt H q row) (n : Nat) : Eqv H (n + 3) (.ref r) (.ref q) := by
  obtain ⟨as, h1, h2⟩ := h
  obtain ⟨bs, g1, g2⟩ := g
  refine .inr ⟨true, r, q, _, _, rfl, rfl, h1, g1, by rw [List.length_map, List.length_map, h2.len, g2.len], fun i u v eu ev => ?_⟩
  rw [List.getElem?_map] at eu ev
  obtain ⟨a, ea, rfl⟩ := Option.map_eq_some_iff.mp eu
  obtain ⟨b, eb, rfl⟩ := Option.map_eq_some_iff.mp ev
  obtain ⟨p, e1, k1⟩ := h2.get ea
  obtain ⟨p', e2, k2⟩ := g2.get eb
  rw [e1] at e2
  cases e2
  refine .inr ⟨false, a, b, _, _, rfl, rfl, k1, k2, rfl, fun j u v eu ev => ?_⟩
  rw [eu] at ev
  cases ev
  match j, eu with
  | 0, eu => cases eu; exact Eqv.int _
  | 1, eu => cases eu; exact Eqv.int _
theorem atI_neg1 {α : Type} (xs : List α) (v : α) : atI (xs ++ [v]) (-1) = some v := atI_last xs v
theorem ixN_neg1 (n : Nat) : ixN (n + 1) (-1) = some n := by
  unfold ixN
  rw [if_neg (by decide), if_pos (by omega)]
  congr 1
  omega
theorem set_last {α : Type} (xs : List α) (a b : α) : (xs ++ [a]).set xs.length b = xs ++ [b] := by
  simp
def spLaw (K : PySem.W.Frag) : Sp := fun vs H Q _ => ∃ (a : Addr) (ns : List Int), vs = [.ref a] ∧ SqL K H a (ns.map V.int) ∧ ns.length ≤ 63 ∧ ∀ H', Q (.bl true) H'
theorem million {n : Nat} (h : n ≤ 1000001) : n < sizeLine := Nat.lt_of_le_of_lt h (by decide)
end Ink

namespace Ink
open PySem L2 InkX
/-! ### defs that all laws share -/
def nextT1 : TS := fun D σ H => ∃ (l c : Addr) (b : Int), σ = [some (.ref l), some (.int b), none, none] ∧ SrcOk H l c ∧
  ∀ (cell : Option V) (H' : Hp), SrcOk H' l c → (∀ a, a ≠ l → H' a = H a) → D.nx [some (.ref l), some (.int b), cell, none] H'
def nextT2 : TS := fun D σ H => ∃ (l c : Addr) (b : Int), σ = [some (.ref l), some (.int b), some (.int 7), none] ∧ SrcOk H l c ∧
  ∀ (cell : Int) (H' : Hp), SrcOk H' l c → (∀ a, a ≠ l → H' a = H a) → D.nx [some (.ref l), some (.int b), some (.int cell), none] H'
theorem at_ints {ns : List Int} {i : Int} (h0 : 0 ≤ i) (h1 : i < (ns.length : Int)) : ∃ v : Int, atI (ns.map V.int) i = some (.int v) := by
  have hk : i.toNat < ns.length := by omega
  refine ⟨ns[i.toNat], ?_⟩
  have q : atI (ns.map V.int) ((i.toNat : Nat) : Int) = some (.int ns[i.toNat]) := atI_nat (by rw [List.getElem?_map, List.getElem?_eq_getElem hk] <;> rfl)
  have ei : ((i.toNat : Nat) : Int) = i := by omega
  rw [ei] at q
  exact q
theorem cut_ints (ns : List Int) (lo hi : Option Int) : ∃ ms : List Int, cutV (ns.map V.int) lo hi = ms.map V.int := by
  unfold cutV
  refine ⟨(ns.drop (HT.sIx (ns.map V.int).length 0 lo)).take (HT.sIx (ns.map V.int).length (ns.map V.int).length hi - HT.sIx (ns.map V.int).length 0 lo), ?_⟩
  rw [List.map_take, List.map_drop]
theorem tt {p : Prop} [Decidable p] {Q : V → Hp → Prop} {H : Hp} (hp : p) (h : Q (.bl true) H) : Q (.bl (decide p)) H := by
  rw [decide_eq_true hp]
  exact h
theorem AtS.or {K : PySem.W.Frag} {k : Bool} {H : Hp} {a : Addr} {xs : List V} (h : AtS k H a xs) : SqL K H a xs ∨ SqT K H a xs := by
  cases k
  · exact .inr (SqT.of h)
  · exact .inl (SqL.of h)
end Ink

namespace Ink
open PySem L2 InkX
theorem SrcOk.lst {H : Hp} {l c : Addr} (s : SrcOk H l c) : ∃ xs, H l = some (.lst xs) := by
  obtain ⟨n, ns, i, d, r, e1, _⟩ := s
  exact ⟨_, e1⟩
end Ink

namespace InkX
open PySem PySem.Spec PyProof.Rows L2
/-! ### a list made by one clause: [elt for tg in iter if ..]; its own names are local, it names none of the def's -/
structure CompScope (scope : Scope) : Prop where
  kind : scope.kind = .function
  free : ∀ x ∈ scope.names, x.2 ≠ .free
  cell : ∀ x ∈ scope.names, x.2 ≠ .cell
  names : ∀ x ∈ scope.names, x.2 = .local → scope.names.lookup x.1 = some .local
section
variable {prog : Program} {w : World} {A : Around} {R : Result → Shared → Prop} {s : Shared}
/-- the tests of a clause -/
def testsOf (ifs : List Expr) (env : Env) : Sem Bool := forIn ifs true fun c r => if r = true then do let ok ← isTrue c env (eval c env); pure (ForInStep.yield ok) else pure (ForInStep.yield r)
theorem compLoopG {elt target iter : Expr} {ifs : List Expr} {scope : Scope} {pos : Pos} {it acc : Value} {env : Env} (I : Nat → Shared → Prop)
    (turn : ∀ n s, I n s → wpAny (model prog w) A (pyNext it) (fun r s₁ => match r with
      | none => R (.ok .next) s₁
      | some v => wpAny (model prog w) A (letOwnedTupleGo target it v) (fun _ s₂ => wpAny (model prog w) A (assign target env v) (fun _ s₃ =>
          wpAny (model prog w) A (testsOf ifs env) (fun ok s₄ =>
            if ok = true then wpAny (model prog w) A (eval elt env) (fun x s₅ => wpAny (model prog w) A (call (.builtin "list.append") [acc, x]) (fun _ s₆ => ∃ m, m < n ∧ I m s₆) (fun _ _ => False) s₅) (fun _ _ => False) s₄
            else ∃ m, m < n ∧ I m s₄) (fun _ _ => False) s₃) (fun _ _ => False) s₂) (fun _ _ => False) s₁) (fun _ _ => False) s)
    (n : Nat) (h : I n s) : codeAny (model prog w) A (.compLoop (.ListComp elt [⟨target, iter, ifs, 0⟩] scope pos) 0 it acc env) R s := by
  refine codeAny_loop rfl I (fun n s hI => ?_) n h
  show wpAny _ A ((compTurn (.ListComp elt [⟨target, iter, ifs, 0⟩] scope pos) 0 it acc env).onRaise (fun x => do noteFrame x env; theTreesLotGoes x)) _ _ s
  refine wpAny_noted ?_
  rw [compTurn_list]
  refine wpAny_bind (wpAny_standAt (wpAny_bind (wpAny_mono (turn n s hI) (fun r s₁ h₁ => ?_) fun _ _ h' => h'.elim)))
  cases r with
  | none => exact wpAny_pure h₁
  | some v =>
    refine wpAny_bind (wpAny_mono h₁ (fun _ s₂ h₂ => wpAny_bind (wpAny_mono h₂ (fun _ s₃ h₃ => wpAny_bind (wpAny_mono h₃ (fun ok s₄ h₄ => ?_) fun _ _ h' => h'.elim)) fun _ _ h' => h'.elim)) fun _ _ h' => h'.elim)
    cases ok with
    | false => exact wpAny_pure ⟨rfl, h₄⟩
    | true => exact wpAny_bind (wpAny_bind (wpAny_mono h₄ (fun x s₅ h₅ => wpAny_bind (wpAny_mono h₅ (fun _ s₆ h₆ => wpAny_pure (wpAny_pure ⟨rfl, h₆⟩)) fun _ _ h' => h'.elim)) fun _ _ h' => h'.elim))
end
section
variable {X : Cx} {N : List Str} {scope : Scope}
def PTs (X : Cx) (ifs : List Expr) (t : TT) : Prop :=
  ∀ (pins : List (Addr × Obj)) (s : Shared) (σ : L2.St) (H : Hp) (Q : Bool → Hp → Prop), Inv X pins σ H s → t σ H Q → wpAny (model X.prog X.w) X.A (testsOf ifs X.env) (TP X pins σ Q) X.xe s
def tYes : TT := fun _ H Q => Q true H
theorem pts_nil : PTs X [] tYes := fun pins s σ H Q I h => wpAny_tests_nil ⟨H, I, h⟩
theorem pts_one {c : Expr} {t : TT} (h : PT X c t) : PTs X [c] t := fun pins s σ H Q I q => wpAny_tests_one (h pins s σ H Q I q)

end
end InkX
namespace InkX
open PySem PySem.Spec PyProof.Rows L2
/-! ### ranges of any bounds -/
theorem turn_long {P : Program} {w : World} {K : PySem.W.Frag} {tg : Expr} (it : Addr) (lo : Int) (n : Nat) : Turn P w K tg (Itr lo n) [it] it (fun i h => IsLongIter h it (lo + (i : Nat) * 1) ((n : Int) - (i : Nat)) 1) where
  mem := by simp
  obj := fun i h st b hb => by
    have e : b = it := by simpa using hb
    subst e
    exact ⟨_, st, fun v z => by
      have z' : Data.fields _ = Data.cell v := z
      cases z'⟩
  keep := fun i h h' st k => k it (by simp) _ st
  item := by
    intro X hP hw hK hc i pins s σ H E I hf st hg
    subst hP hw hK
    obtain ⟨f0, f1, f2, f3, f4, f5⟩ := hf it (by simp)
    have W := Walks.longrange (prog := X.prog) (w := X.w) (I.ok.hd hc) it lo 1 n
    refine W.item i s _ _ hg st fun v h' tk hv st' kk => ?_
    obtain ⟨t, rfl⟩ := hv
    have I1 : Inv X pins σ H { s with heap := h', toks := tk } := I.turned (fun b o hb e => kk b o (by simpa using hb) e) f0 f1 f3 f4 f5
    refine ⟨_, rfl, go_of (s := { s with heap := h', toks := tk }) (n := "longrange_iterator") st' rfl rfl (by decide) ⟨.int (lo + i), H, I1, ⟨t, ?_⟩, ⟨rfl, rfl⟩, st', fun b hb => (hf b hb).1⟩⟩
    rw [Int.mul_one]
  done := by
    intro X hP hw hK hc i pins s σ H E I hf st hg
    subst hP hw hK
    obtain ⟨f0, f1, f2, f3, f4, f5⟩ := hf it (by simp)
    exact wpAny_pyNext_long_end (I.ok.hd hc) st (by have : n ≤ i := hg; omega) fun h' eb => ⟨rfl, I.turned (t' := s.toks) (fun b o hb e => eb b o hb e) f0 f1 f3 f4 f5⟩
  self := fun _ _ _ _ _ st h => wpAny_pyIter_longiter st h
section
variable {X : Cx} {tg : Expr}
theorem range_itL {pins : List (Addr × Obj)} {σ : L2.St} {H : Hp} {s : Shared} {R : It → Hp → Prop} {E : Value → Shared → Prop} {lo hi : Int} {t u v : Tok} {tk : Nat} (I : Inv X pins σ H s)
    (q : R (Itr lo (hi - lo).toNat) H) : wpAny (model X.prog X.w) X.A (pyIter (.ref s.heap.objs.size)) (PIE X pins σ tg R) E { s with heap := s.heap.push { cls := .type "range", data := .fields #[.int lo t, .int hi u, .int 1 v] }, toks := tk } := by
  have I1 : Inv X pins σ H { s with heap := s.heap.push { cls := .type "range", data := .fields #[.int lo t, .int hi u, .int 1 v] }, toks := tk } := I.kept fun b o e => Heap.get?_push_of_some _ e
  have e1 : lo + ((0 : Nat) : Int) * 1 = lo := by simp
  have e2 : (((hi - lo).toNat : Nat) : Int) - ((0 : Nat) : Int) = Builtin.Range.rangeSize lo hi 1 := by rw [rangeSize_one]; split <;> omega
  have fp : ∀ b ∈ [(s.heap.push { cls := .type "range", data := .fields #[.int lo t, .int hi u, .int 1 v] }).objs.size], FpOk X pins H b := fun b hb => by
    have e : b = (s.heap.push { cls := .type "range", data := .fields #[.int lo t, .int hi u, .int 1 v] }).objs.size := by simpa using hb
    subst e
    exact I1.fpOk (Nat.le_refl _) (I1.hok.fresh (Nat.le_refl _))
  cases hb : Builtin.Range.small lo hi 1 with
  | true =>
    refine wpAny_pyIter_range (IsRange.new ..) hb ?_
    refine ⟨_, [(s.heap.push { cls := .type "range", data := .fields #[.int lo t, .int hi u, .int 1 v] }).objs.size], _, _, H, rfl, I1.kept (t' := tk) fun b o e => Heap.get?_push_of_some _ e, turn_range _ lo (hi - lo).toNat, ?_, fp, q⟩
    show IsRangeIter _ _ (lo + ((0 : Nat) : Int) * 1) ((((hi - lo).toNat : Nat) : Int) - ((0 : Nat) : Int)) 1
    rw [e1, e2]
    exact Heap.get?_push_size _ rfl
  | false =>
    refine wpAny_pyIter_longrange (IsRange.new ..) hb ?_
    refine ⟨_, [(s.heap.push { cls := .type "range", data := .fields #[.int lo t, .int hi u, .int 1 v] }).objs.size], _, _, H, rfl, I1.kept (t' := tk) fun b o e => Heap.get?_push_of_some _ e, turn_long _ lo (hi - lo).toNat, ?_, fp, q⟩
    show IsLongIter _ _ (lo + ((0 : Nat) : Int) * 1) ((((hi - lo).toNat : Nat) : Int) - ((0 : Nat) : Int)) 1
    rw [e1, e2]
    exact Heap.get?_push_size _ rfl
def iRngL (ta : TA) : TI := fun σ H R => ta σ H fun vs H1 => ∃ i j : Int, vs = [.int i, .int j] ∧ R (Itr i (j - i).toNat) H1
theorem pi_rangeL {a b : Expr} {ta : TA} {p pos : Pos} (hg : Gl X "range") (hm : X.mg "range" = none) (ha : PA X [a, b] ta) (hs : starEach [a, b] X.env = [(false, eval a X.env), (false, eval b X.env)] := by rfl) (hs2 : starEach [b] X.env = [(false, eval b X.env)] := by rfl) :
    PI X tg (.Call (.Name "range" p) [a, b] [] pos) (iRngL ta) := by
  intro pins s σ H R I h
  refine Call_ (ld_blt I hg hm boot_range (PyProof.Rows.callWith_type1 (thn (ha pos pins s σ H _ I h) fun us s1 ⟨vs, H1, I1, r1, q1⟩ => ?_) (by rw [hs, hs2]) (by rw [hs2]; rfl)))
  obtain ⟨i, j, e, q⟩ := q1
  subst e
  obtain ⟨u1, u2, rfl, ⟨t, rfl⟩, ⟨t', rfl⟩⟩ := r1.two
  exact call_range_2 (range_itL I1 q)
end
end InkX

namespace InkX
open PySem PySem.Spec PyProof.Rows L2
/-! ### two clauses: [elt for tg in iter for tg2 in iter2 if ..] -/
section
variable {prog : Program} {w : World} {A : Around} {R : Result → Shared → Prop} {s : Shared}
end
section
variable {X : Cx} {N : List Str} {scope : Scope}
end

/-! ### rules that name the written part, within a block -/
section
variable {X : Cx} {N : List Str} {scope : Scope} {C : Addr} {s₀ : Shared} {H₀ : Hp} {ex : List Addr} {pn : List (Addr × Obj)}
end
end InkX

namespace Ink
open PySem L2 InkX
/-- one pair more at the end of a list that is ours alone -/
theorem grown {H0 H2 : Hp} {q t : Addr} {bs : List Addr} {row : Row} {st en : Int} (hq0 : H0 q = none) (s : Same H0 H2) (hq2 : H2 q = some (.lst (bs.map V.ref))) (hb : PairsAt H2 bs row) (ht : H2 t = none) :
    (upd (upd H2 t (.tup [.int st, .int en])) q (.lst (bs.map V.ref ++ [.ref t]))) q = some (.lst ((bs ++ [t]).map V.ref)) ∧
    PairsAt (upd (upd H2 t (.tup [.int st, .int en])) q (.lst (bs.map V.ref ++ [.ref t]))) (bs ++ [t]) (row ++ [(st, en)]) ∧ Same H0 (upd (upd H2 t (.tup [.int st, .int en])) q (.lst (bs.map V.ref ++ [.ref t]))) := by
  have ntq : q ≠ t := ne_of_none hq2 ht
  have s1 : Same H2 (upd H2 t (.tup [.int st, .int en])) := same_new ht _
  refine ⟨by rw [upd_same, List.map_append]; rfl, ?_, keep_of hq0 (s.trans s1) (keep_upd q _ _)⟩
  refine PairsAt.snoc ((hb.same s1).keep (s1 _ _ hq2) (keep_upd q _ _)) ?_
  show upd _ q _ t = _
  rw [upd_ne ntq.symm, upd_same]
/-- the last pair changed -/
theorem turned {H0 H2 : Hp} {q t a : Addr} {bs : List Addr} {row : Row} {st en : Int} (hq0 : H0 q = none) (s : Same H0 H2) (hq2 : H2 q = some (.lst (bs.map V.ref ++ [.ref a]))) (hb : PairsAt H2 bs row) (ht : H2 t = none) :
    (upd (upd H2 t (.tup [.int st, .int en])) q (.lst ((bs.map V.ref ++ [V.ref a]).set bs.length (V.ref t)))) q = some (.lst ((bs ++ [t]).map V.ref)) ∧
    PairsAt (upd (upd H2 t (.tup [.int st, .int en])) q (.lst ((bs.map V.ref ++ [V.ref a]).set bs.length (V.ref t)))) (bs ++ [t]) (row ++ [(st, en)]) ∧ Same H0 (upd (upd H2 t (.tup [.int st, .int en])) q (.lst ((bs.map V.ref ++ [V.ref a]).set bs.length (V.ref t)))) := by
  have ntq : q ≠ t := ne_of_none hq2 ht
  have s1 : Same H2 (upd H2 t (.tup [.int st, .int en])) := same_new ht _
  have e : (bs.map V.ref ++ [V.ref a]).set bs.length (V.ref t) = (bs ++ [t]).map V.ref := by
    have z := set_last (bs.map V.ref) (V.ref a) (V.ref t)
    rw [List.length_map] at z
    rw [z, List.map_append]; rfl
  rw [e]
  refine ⟨upd_same, ?_, keep_of hq0 (s.trans s1) (keep_upd q _ _)⟩
  refine PairsAt.snoc ((hb.same s1).keep (s1 _ _ hq2) (keep_upd q _ _)) ?_
  show upd _ q _ t = _
  rw [upd_ne ntq.symm, upd_same]
end Ink

namespace Ink
open PySem PySem.Spec PyProof.Rows L2 InkX
/-! ### rows compared, whatever they tell -/
def Ends (ns : List Int) (row : Row) : Prop := 0 < ns.length → ∃ (r0 : Row) (p0 : Int × Int), row = r0 ++ [p0] ∧ p0.1 < p0.2
end Ink

namespace InkE
open PySem PySem.Spec PyProof.Rows PySem.W L2

/-! ### an exception in the air -/
section
variable {P : Program} {w : World} {H H' : Hp} {h h0 g : Heap} {a T : Addr} {C a0 : Value} {o : HO}
theorem objHere (x : ObjOk P w H h a o) : ∃ u, h.get? a = some u := by
  cases o with
  | lst xs => obtain ⟨_, _, _, _, e⟩ := x; exact ⟨_, e⟩
  | tup xs => obtain ⟨_, _, _, _, e, _⟩ := x; exact ⟨_, e⟩
  | dK kvs => obtain ⟨_, _, _, _, _, _, _, e, _⟩ := x; exact ⟨_, e⟩
  | dT kvs => obtain ⟨_, _, _, _, _, _, _, e, _⟩ := x; exact ⟨_, e⟩
  | set S n => obtain ⟨_, _, _, _, e, _⟩ := x; exact ⟨_, e⟩
  | ins C dx fs => obtain ⟨_, _, _, e, _⟩ := x; exact ⟨_, e⟩
  | own y => exact x
  | xd fs => obtain ⟨_, ⟨_, _, _, e, _⟩, _⟩ := x; exact ⟨_, e⟩
  | rng lo hi => obtain ⟨_, _, _, e⟩ := x; exact ⟨_, e⟩
  | frz ob u => exact ⟨_, x.1⟩
  | tbl ps => exact ⟨_, x⟩
  | met f y => exact ⟨_, x⟩
  | ext φ => exact x.2.1
theorem hokNone (x : HOk P w H h) {b : Addr} (e : h.get? b = none) : H b = none := by
  cases q : H b with
  | none => rfl
  | some u =>
    obtain ⟨z, hz⟩ := objHere (x b u q)
    rw [e] at hz
    cases hz
theorem hide_none {l : List Addr} {b : Addr} (e : (hideAll h l).get? b = none) : b ∈ l ∨ h.get? b = none := by
  by_cases hb : b ∈ l
  · exact .inl hb
  · right
    cases q : h.get? b with
    | none => rfl
    | some u => rw [hideAll_get l q hb] at e; cases e

/-- the object at a of class C (first field a0), its record at T; neither lay in h0, neither is tracked -/
def Fly (h0 : Heap) (H : Hp) (h : Heap) (a T : Addr) (C a0 : Value) : Prop :=
  (∃ oe vs oT ts, h.get? a = some oe ∧ (oe.cls = C ∧ vs[0]? = some a0) ∧ oe.data = .fields vs ∧ vs[1]? = some (.ref T) ∧ T ≠ a ∧ h.get? T = some oT ∧ oT.data = .fields ts ∧ ts[3]? = some .none) ∧ (H a = none ∧ H T = none) ∧ h0.get? a = none ∧ h0.get? T = none

theorem fly_land {fs hd : List Addr} {l' : List Env} (u : Un fs [] H H' h0 h) (hok : HOk P w H' h) (h1 : ∀ b o, h0.get? b = some o → b ∉ fs → b ∉ hd) (h2 : ∀ b ∈ hd, H' b = none)
    (h3 : ∀ b ∈ fs, ∃ o, h.get? b = some o ∧ ∀ vs, o.data ≠ .fields vs) (h4 : ∀ b ∈ hd, h0.get? b = none ∨ ∃ o, h.get? b = some o ∧ ∀ vs, o.data ≠ .fields vs)
    (ha : h0.get? a = none) (ha' : H' a = none) (f : Heap.FlyingW (hideAll h hd) l' a C a0 g) (k : h.UpToSlots g) :
    Un fs [] H H' h0 g ∧ HOk P w H' g ∧ ∃ T, Fly h0 H' g a T C a0 := by
  have nil : ∀ b : Addr, b ∉ ([] : List Addr) := fun b => List.not_mem_nil
  have kp : ∀ b o, h.get? b = some o → b ∉ hd → g.get? b = some o := fun b o e n => f.1 b o (hideAll_get hd e n)
  refine ⟨⟨fun b o e n hb _ => kp b o (u.keep b o e n hb (nil b)) (h1 b o e hb), fun b o e n hb _ => ?_, fun b o e n _ => u.free b o e n (nil b), fun b o e _ => ?_, u.tups, u.frzs, u.tbls⟩, fun b o e => ?_, ?_⟩
  · obtain ⟨sl, e1⟩ := u.slot b o e n hb (nil b)
    obtain ⟨o', e2, nf⟩ := h3 b hb
    obtain ⟨sl', e3⟩ := k b o' e2 nf
    rw [e1] at e2
    cases e2
    exact ⟨sl', e3⟩
  · by_cases hb : b ∈ fs
    · obtain ⟨o', e2, nf⟩ := h3 b hb
      obtain ⟨sl', e3⟩ := k b o' e2 nf
      exact ⟨_, e3⟩
    · obtain ⟨o', e1⟩ := u.there b o e (nil b)
      exact ⟨o', kp b o' e1 (h1 b o e hb)⟩
  · refine (hok b o e).stay (fun c v hc q => kp c v q fun hm => ?_) (fun _ q => q) fun _ _ q => q
    have hn := h2 c hm
    rcases hc with rfl | hc
    · rw [e] at hn; cases hn
    · rw [hc] at hn; cases hn
  · obtain ⟨_, _, _, oe, vs, T, oT, ts, e1, e2, e3, e4, e5, e6, e7, e8, e9⟩ := f
    refine ⟨T, ⟨oe, vs, oT, ts, e1, e2, e3, e4, e6, e7, e8, e9⟩, ⟨ha', ?_⟩, ha, ?_⟩
    · rcases hide_none e5 with hm | hn
      · exact h2 T hm
      · exact hokNone hok hn
    · rcases hide_none e5 with hm | hn
      · rcases h4 T hm with z | ⟨o, eo, nf⟩
        · exact z
        · obtain ⟨sl, eg⟩ := k T o eo nf
          rw [e7] at eg
          cases eg
          exact absurd e8 (nf ts)
      · cases q : h0.get? T with
        | none => rfl
        | some o =>
          obtain ⟨o', eo⟩ := u.there T o q (nil T)
          rw [hn] at eo
          cases eo
theorem fly_ground {base : Heap} {l : List Env} (F : Fly h0 H h a T C a0) (S : h.FunFrames base l) : Heap.FlyingW (hideAll h (a :: T :: frs l)) l a C a0 h := by
  obtain ⟨⟨oe, vs, oT, ts, e1, e2, e3, e4, e5, e6, e7, e8⟩, _, _⟩ := F
  refine ⟨fun b o e => of_hideAll _ e, hideAll_none _ (List.mem_cons_self), funFrames_hide S fun env he b hb => ?_, oe, vs, T, oT, ts, e1, e2, e3, e4, ?_, e5, e6, e7, e8⟩
  · exact List.mem_cons_of_mem _ (List.mem_cons_of_mem _ (List.mem_filterMap.mpr ⟨env, he, hb⟩))
  · exact hideAll_none _ (List.mem_cons_of_mem _ List.mem_cons_self)
end

/-- behind a call that an exception left -/
def CX1 (P : Program) (w : World) : CXT := fun outer H s E e s' => ∃ a T C a0 H', e = .ref a ∧ (s'.os = s.os ∧ AllBare s'.gens) ∧ Un (frs outer) [] H H' s.heap s'.heap ∧ HOk P w H' s'.heap ∧ Fly s.heap H' s'.heap a T C a0 ∧ E C none H'

section
variable {X : Cx} {pins : List (Addr × Obj)} {σ : L2.St} {H H1 : Hp} {s s' : Shared} {a T : Addr} {C a0 : Value}
theorem frs_is (hst : X.stack = X.env :: X.outer) (hf : X.env.frame = some X.env.locals) : frs X.stack = X.env.locals :: X.fs := by
  rw [hst]
  unfold frs
  rw [List.filterMap_cons, hf]
  rfl
/-- what is hidden behind the frames and the two records -/
theorem hid_frame (I : Inv X pins σ H s) : ∀ b ∈ frs X.stack, ∃ o, s.heap.get? b = some o ∧ ∀ vs, o.data ≠ .fields vs := fun b hb => (I.stack.mem hb).2
/-- a call's exception, at the caller: the state goes on as h says -/
theorem fly_here {l' : List Env} {g : Heap} (I : Inv X pins σ H s) (os : s'.os = s.os) (bare : AllBare s'.gens) (u : Un (frs X.stack) [] H H1 s.heap s'.heap) (hok : HOk X.prog X.w H1 s'.heap) (F : Fly s.heap H1 s'.heap a T C a0)
    (f : Heap.FlyingW (hideAll s'.heap (a :: T :: frs X.stack)) l' a C a0 g) (k : s'.heap.UpToSlots g) : Inv X pins σ H1 { s' with heap := g } := by
  have I1 : Inv X pins σ H1 s' := I.call' (ch := []) os u hok bare (fun b z => absurd z (by simp))
  obtain ⟨_, ⟨na, nT⟩, sa, sT⟩ := id F
  have p1 : ∀ b o, s.heap.get? b = some o → b ∉ frs X.stack → b ∉ a :: T :: frs X.stack := fun b o e hb hm => by
    rcases List.mem_cons.mp hm with rfl | hm
    · rw [sa] at e; cases e
    rcases List.mem_cons.mp hm with rfl | hm
    · rw [sT] at e; cases e
    · exact hb hm
  have p2 : ∀ b ∈ a :: T :: frs X.stack, H1 b = none := fun b hm => by
    rcases List.mem_cons.mp hm with rfl | hm
    · exact na
    rcases List.mem_cons.mp hm with rfl | hm
    · exact nT
    · exact I1.stkFree b hm
  have p4 : ∀ b ∈ a :: T :: frs X.stack, s.heap.get? b = none ∨ ∃ o, s'.heap.get? b = some o ∧ ∀ vs, o.data ≠ .fields vs := fun b hm => by
    rcases List.mem_cons.mp hm with rfl | hm
    · exact .inl sa
    rcases List.mem_cons.mp hm with rfl | hm
    · exact .inl sT
    · exact .inr (hid_frame I1 b hm)
  obtain ⟨u', hok', _⟩ := fly_land (hd := a :: T :: frs X.stack) u hok p1 p2 (hid_frame I1) p4 sa na f k
  exact I.call' (s' := { s' with heap := g }) (ch := []) os u' hok' bare (fun b z => absurd z (by simp))
end

/-! ### through a def's frame -/
section
variable {P : Program} {w : World} {K : PySem.W.Frag} {mg : Str → Option Value} {base : Heap} {N : List Str} {qual : Str} {scope : Scope} {f : Addr} {cd : Value} {A : Around} {outer : List Env} {s : Shared} {H : Hp} {E : XK}
abbrev cx1 (P : Program) (w : World) (K : PySem.W.Frag) (mg : Str → Option Value) (base : Heap) (N : List Str) (qual : Str) (scope : Scope) (f : Addr) (cd : Value) (A : Around) (outer : List Env) (s : Shared) (H : Hp) (E : XK) : Cx :=
  cxOf (CX1 P w) P w K mg base N qual scope f cd A outer s H E
theorem passX : Passes (CX1 P w) (cx1 P w K mg base N qual scope f cd A outer s H E) E := by
  intro pins σ H1 s1 e s' I h
  obtain ⟨a, T, C, a0, H', rfl, ⟨os, bare⟩, u, hok, F, q⟩ := h
  have I1 : Inv (cx1 P w K mg base N qual scope f cd A outer s H E) pins σ H' s' := I.call' (ch := []) os u hok bare (fun b z => absurd z (by simp))
  obtain ⟨_, ⟨na, nT⟩, sa, sT⟩ := id F
  have old : ∀ b, s1.heap.get? b = none → s.heap.get? b = none := fun b e => by
    cases z : s.heap.get? b with
    | none => rfl
    | some o =>
      obtain ⟨o', e'⟩ := I.base.there b o z (fun m => absurd (show b ∈ ([] : List Addr) from m) (by simp))
      rw [e] at e'
      cases e'
  refine wpAny_leaves_onW (base := hideAll s'.heap (a :: T :: frs (cx1 P w K mg base N qual scope f cd A outer s H E).stack)) I.ok.frames rfl (fly_ground F I1.stack) fun g fl k => ?_
  have p1 : ∀ b o, s.heap.get? b = some o → b ∉ frs outer → b ∉ a :: T :: frs (cx1 P w K mg base N qual scope f cd A outer s H E).stack := fun b o e hb hm => by
    rcases List.mem_cons.mp hm with rfl | hm
    · rw [old b sa] at e; cases e
    rcases List.mem_cons.mp hm with rfl | hm
    · rw [old b sT] at e; cases e
    · rw [frs_is rfl rfl] at hm
      rcases List.mem_cons.mp hm with rfl | hm
      · exact absurd (Heap.lt_size e) (Nat.not_lt.mpr I.ok.above)
      · exact hb hm
  have p2 : ∀ b ∈ a :: T :: frs (cx1 P w K mg base N qual scope f cd A outer s H E).stack, H' b = none := fun b hm => by
    rcases List.mem_cons.mp hm with rfl | hm
    · exact na
    rcases List.mem_cons.mp hm with rfl | hm
    · exact nT
    · exact I1.stkFree b hm
  have p4 : ∀ b ∈ a :: T :: frs (cx1 P w K mg base N qual scope f cd A outer s H E).stack, s.heap.get? b = none ∨ ∃ o, s'.heap.get? b = some o ∧ ∀ vs, o.data ≠ .fields vs := fun b hm => by
    rcases List.mem_cons.mp hm with rfl | hm
    · exact .inl (old b sa)
    rcases List.mem_cons.mp hm with rfl | hm
    · exact .inl (old b sT)
    · exact .inr (hid_frame I1 b hm)
  obtain ⟨u', hok', T', F'⟩ := fly_land (h0 := s.heap) (fs := frs outer) (hd := a :: T :: frs (cx1 P w K mg base N qual scope f cd A outer s H E).stack) I1.base hok p1 p2 (fun b hb => (I1.funs.mem hb).2) p4 (old a sa) na fl k
  exact ⟨a, T', C, a0, H', rfl, ⟨I1.os, bare⟩, u', hok', F', q⟩

/-- an exception that is raised in this body -/
def Raises (X : Cx) (E : XK) : Prop := ∀ (pins : List (Addr × Obj)) (σ : L2.St) (H : Hp) (s : Shared) (h' : Heap) (e : Addr) (C : Value) (args : List Value), Inv X pins σ H s → Heap.MadeExcOf s.heap h' e C args → E C none H → X.xe (.ref e) { s with heap := h' }
theorem raiseX : Raises (cx1 P w K mg base N qual scope f cd A outer s H E) E := by
  intro pins σ H1 s1 h' e C args I M q
  have old : ∀ b, s1.heap.get? b = none → s.heap.get? b = none := fun b e => by
    cases z : s.heap.get? b with
    | none => rfl
    | some o =>
      obtain ⟨o', e'⟩ := I.base.there b o z (fun m => absurd (show b ∈ ([] : List Addr) from m) (by simp))
      rw [e] at e'
      cases e'
  refine wpAny_leaves_madeW (base := hideAll s1.heap (frs (cx1 P w K mg base N qual scope f cd A outer s H E).stack)) (h := s1.heap) I.ok.frames rfl (fun b o e => of_hideAll _ e) (funFrames_hide I.stack fun env he b hb => List.mem_filterMap.mpr ⟨env, he, hb⟩) M fun g t fl _ _ k => ?_
  have k1 : s1.heap.UpToSlots g := (Heap.UpToSlots.of_keeps M.keeps).trans k
  have p1 : ∀ b o, s.heap.get? b = some o → b ∉ frs outer → b ∉ frs (cx1 P w K mg base N qual scope f cd A outer s H E).stack := fun b o e hb hm => by
    rw [frs_is rfl rfl] at hm
    rcases List.mem_cons.mp hm with rfl | hm
    · exact absurd (Heap.lt_size e) (Nat.not_lt.mpr I.ok.above)
    · exact hb hm
  obtain ⟨u', hok', T', F'⟩ := fly_land (h0 := s.heap) (fs := frs outer) (hd := frs (cx1 P w K mg base N qual scope f cd A outer s H E).stack) I.base I.hok p1 (fun b hm => I.stkFree b hm) (fun b hb => (I.funs.mem hb).2) (fun b hm => .inr (hid_frame I b hm)) (old e M.new) (hokNone I.hok M.new) fl k1
  exact ⟨e, T', C, .ref t, H1, rfl, ⟨I.os, I.bare⟩, u', hok', F', q⟩

/-- a def whose exceptions go on -/
theorem okX {x qual : Str} {st : Stmt} {f : Addr} {fd : FuncData} {N ps : List Str} {k : Nat} {sp : Sp} (F : Fun K x qual st f fd) (S : FnScope N ps (defScope st)) (len : ∀ vs H Q E, sp vs H Q E → vs.length = ps.length)
    (hbody : ∀ (cdv : Value) (A : Around) (outer : List Env) (s : Shared) (H : Hp) (vs : List V) (Q : VK) (E : XK), Room k (A.deeper (envOfC qual (defScope st) s.heap.objs.size f cdv)) → sp vs H Q E →
      ∃ t, PSs (cx1 P w K mg base N qual (defScope st) f cdv A outer s H E) (defBody st) t ∧ t { nx := fun _ H' => Q .non H', rt := Q } (start N vs) H) : FnOk P w K mg base (CX1 P w) (k + 1) f fd ps sp := by
  obtain ⟨oc, od, kV, doc, pm, an, cdv, ct, osl, rfl, lk, hcd⟩ := F.ex
  exact fn_of lk hcd S len fun A outer s H vs Q E hr hsp => hbody cdv A outer s H vs Q E hr hsp
end

/-! ### raise -/
section
variable {X : Cx}
theorem exc_obj {K : Frag} {h : Heap} {C : Addr} {bmB : List Value} {newId : String} {x : Str} {mg : Str → Option Value} (I : K.In h) (m : mg x = some (.ref C)) (q : excIn K C bmB newId = true) : OwnCls x C bmB newId mg h := by
  refine ⟨m, ?_⟩
  unfold excIn at q
  split at q
  case h_2 => cases q
  rename_i dd cd sl ho
  split at q
  case h_2 => cases q
  rename_i c1 bm k0 k1 k2 k3 n k5 hm hs
  simp only [Bool.and_eq_true, beq_iff_eq, Bool.not_eq_true'] at q
  obtain ⟨⟨⟨⟨⟨e1, e2⟩, hdel⟩, ht⟩, hno⟩, hni⟩ := q
  cases e1
  cases e2
  cases cd with
  | mk nm bs mro ns qn hd sn sub ab col del =>
    cases hm
    cases hdel
    cases sl with
    | mk l =>
      have hs' : l = [k0, k1, k2, k3, some (.builtin newId), k5] := hs
      subst hs'
      exact ⟨bm, ns, nm, qn, bs, hd, sn, sub, ab, col, dd, k0, k1, k2, k3, k5, _, I _ _ ho, .of_isNs (isNs_of_in I hno), nsMap_none_of_in I hno hni, tail_of_in I ht⟩

def tRaise (C : Addr) (E : XK) (t : TA) : TS := fun _ σ H => t σ H fun vs H1 => vs.length ≤ sizeLine ∧ E (.ref C) none H1
theorem ps_raise {E : XK} {x : Str} {C : Addr} {bmB : List Value} {newId initId B : String} {e : Expr} {es : List Expr} {t : TA} {np cpos pos : Pos} (FB : ExcBaseFacts B newId initId bmB) (hx : excIn X.K C bmB newId = true) (hm : X.mg x = some (.ref C)) (hc : X.calm = true) (hr : Raises X E)
    (ha : PA X (e :: es) t) (hg : Gl X x := by rfl) (hdb : (x == ("__debug__" : Str)) = false := by decide) (he : starEach (e :: es) X.env = (false, eval e X.env) :: starEach es X.env := by rfl) (hpl : (backTo cpos (starEach es X.env)).any (·.1) = false := by rfl) :
    PS X (.Raise (some (.Call (.Name x np) (e :: es) [] cpos)) none pos) (tRaise C E t) := by
  intro pins s σ H D I h
  obtain ⟨tl, Nd, c1, c2, c3, c4, c5, c6, c7, c8, c9, d0, d1, d2, d3, d5, mN, hC, hN, hni, T⟩ := (exc_obj I.mod.kin hm hx).obj
  refine wpAny_Raise_call_subT (nm := c1) (q := c2) (N := Nd) (bs := c3) (hdct := c4) (sn := c5) (sub := c6) (ab := c7) (col := c8) (dd := c9) (k0 := d0) (k1 := d1) (k2 := d2) (k3 := d3) (k5 := d5) FB (T.hasType FB.hasBase) (I.ok.hd hc) (by rw [he]; show (false || (backTo cpos (starEach es X.env)).any (·.1)) = false; rw [hpl]; rfl) hni (ld_glob I hg hm ⟨rfl, ?_⟩ hdb)
  rw [he]
  have hw := ha cpos pins s σ H _ I h
  rw [he] at hw
  refine Calls.evalArgs_plain (thn hw fun us s1 ⟨vs, H1, I1, r, q1, q2⟩ => ?_)
  exact ⟨rfl, by rw [← r.length]; exact q1, I1.bk _ _ hC, hN.keeps I1.bk, T.keeps I1.bk, fun h' e M => hr pins σ H1 s1 h' e _ _ I1 M q2⟩
end

/-! ### a def that may raise, called -/
section
variable {X : Cx} {x : Str} {st : Stmt} {ps : List Str} {f : Addr} {fd : FuncData} {j k : Nat} {sp : Sp} {e : Expr} {es : List Expr} {t : TA} {p pos : Pos} {E : XK}
end

/-! ### try: one statement with one call, one clause -/
abbrev cxH (X : Cx) (a : Addr) : Cx := { X with A := X.A.mark (some (.ref a)), calm := false, xe := fun _ _ => False }
section
variable {X : Cx} {pins : List (Addr × Obj)} {σ : L2.St} {H : Hp} {s : Shared} {a : Addr}
theorem okH (ok : X.Ok) (a : Addr) : (cxH X a).Ok :=
  { mod := ok.mod, kind := ok.kind, glob := ok.glob, blt := ok.blt, above := ok.above, inj := ok.inj, has := ok.has, cab := ok.cab, hd := fun z => (Bool.false_ne_true z).elim, frames := ok.frames, stk := ok.stk, exf := ok.exf, bs := ok.bs, bsz := ok.bsz, noex := ok.noex, exfs := ok.exfs, funs := ok.funs, frf := ok.frf }
theorem inH (I : Inv X pins σ H s) (a : Addr) : Inv (cxH X a) pins σ H s := { ok := okH I.ok a, os := I.os, bare := I.bare, base := I.base, loc := I.loc, cell := I.cell, free := I.free, freeC := I.freeC, pin := I.pin, hok := I.hok, len := I.len }
theorem outH (ok : X.Ok) (I : Inv (cxH X a) pins σ H s) : Inv X pins σ H s := { ok := ok, os := I.os, bare := I.bare, base := I.base, loc := I.loc, cell := I.cell, free := I.free, freeC := I.freeC, pin := I.pin, hok := I.hok, len := I.len }
theorem spH (ok : X.Ok) {D : Ends} {f : Flow} {s' : Shared} (h : SP (cxH X a) pins D f s') : SP X pins D f s' := by
  cases f with
  | next => obtain ⟨σ', H', I, q⟩ := h; exact ⟨σ', H', outH ok I, q⟩
  | brk => obtain ⟨σ', H', I, q⟩ := h; exact ⟨σ', H', outH ok I, q⟩
  | cont => obtain ⟨σ', H', I, q⟩ := h; exact ⟨σ', H', outH ok I, q⟩
  | ret u => obtain ⟨v, σ', H', I, r, q⟩ := h; exact ⟨v, σ', H', outH ok I, r, q⟩

/-- the clause takes it -/
theorem clause {y : Str} {C Cy : Addr} {b0 : Stmt} {suite : List Stmt} {tb : TS} {np hpos : Pos} {D : Ends} {e : Value} {s' : Shared} (hst : X.stack = X.env :: X.outer) (hf : X.env.frame = some X.env.locals) (hmy : X.mg y = some (.ref Cy)) (hx : exmOne X.K (.ref C) (.ref Cy) = some true)
    (hb : ∀ a, PSs (cxH X a) (b0 :: suite) tb) (hg : Gl X y) (hdb : (y == ("__debug__" : Str)) = false) (I : Inv X pins σ H s) (h : CX1 X.prog X.w X.stack H s (fun c _ H2 => c = .ref C ∧ tb D σ H2) e s') :
    wpAny (model X.prog X.w) X.A (noteFrame e X.env) (fun _ s₂ => wpAny (model X.prog X.w) X.A (setFlight e none) (fun _ s₃ => wpAny (model X.prog X.w) X.A (handleBy e X.env [.ExceptHandler (some (.Name y np)) none (b0 :: suite) hpos]) (SP X pins D) X.xe s₃) X.xe s₂) X.xe s' := by
  obtain ⟨a, T, c, a0, H2, rfl, ⟨os, bare⟩, u, hok, F, rfl, q⟩ := h
  have I1 : Inv X pins σ H2 s' := I.call' (ch := []) os u hok bare (fun b z => absurd z (by simp))
  have G0 := fly_ground F I1.stack
  have G0' : Heap.FlyingW (hideAll s'.heap (a :: T :: frs X.stack)) (X.env :: X.outer) a (.ref C) a0 s'.heap := by
    have z := G0
    rw [hst] at z
    rw [hst]
    exact z
  refine wpAny_looks_onW (I.ok.frames.trans (by rw [hst])) hf G0' fun h4 held k4 => wpAny_landsW held fun h5 fl5 k5 => ?_
  have I5 : Inv X pins σ H2 { s' with heap := h5 } := fly_here I os bare u hok F fl5 (k4.trans k5)
  obtain ⟨ob, hob, hcl⟩ := fl5.there
  have LT : Looks (model X.prog X.w) h5 (typeOf (.ref a)) (.ref C) := hcl ▸ (Looks.ld hob).andThen .now
  refine wpAny_handleBy_cons (codeAny_handlers_test (ld_glob (X := cxH X a) (inH I5 a) hg hmy ?_ hdb)) (by intro z; cases z)
  refine (exm_one (M := model X.prog X.w) I5.kIn LT hx).here ?_
  refine codeAny_handlers_suite (lands_againW fl5 fun h6 fl6 k6 => ?_)
  have I6 : Inv X pins σ H2 { s' with heap := h6 } := fly_here I os bare u hok F fl6 ((k4.trans k5).trans k6)
  exact wpAny_mono (hb a pins _ σ H2 D (inH I6 a) q) (fun fl s2 z => spH I6.ok z) fun _ _ z => False.elim z

variable {x y : Str} {st : Stmt} {ps : List Str} {f : Addr} {fd : FuncData} {j k : Nat} {sp : Sp} {e : Expr} {es : List Expr} {t : TA} {p pos pos1 pos2 pos3 np hpos : Pos} {C Cy : Addr} {b0 : Stmt} {suite : List Stmt} {tb : TS}
end
end InkE

namespace InkE
open PySem PySem.Spec PyProof.Rows L2
/-! ### a text with fields: some text -/
section
variable {X : Cx}
abbrev TJ := L2.St → Hp → (Hp → Prop) → Prop
def PJ (X : Cx) (es : List Expr) (m : Nat) (t : TJ) : Prop := ∀ (pins : List (Addr × Obj)) (s : Shared) (σ : L2.St) (H : Hp) (out : Str) (Q : Hp → Prop), L2.Inv X pins σ H s → t σ H Q → out.length + m ≤ 1000000 →
  wpAny (model X.prog X.w) X.A (joinParts out (evalEach es X.env)) (fun u s' => ∃ x tk H', u = .str x tk ∧ L2.Inv X pins σ H' s' ∧ Q H') X.xe s
theorem pj_nil : PJ X [] 0 (fun _ H Q => Q H) := fun pins s σ H out Q I h hl =>
  joinParts_nil ⟨out, _, H, rfl, I.tok _, h⟩ (Nat.le_of_lt (Nat.lt_of_le_of_lt hl (by decide)))
theorem fit_out {out y : Str} {m n : Nat} (h : out.length + (n + m) ≤ 1000000) (hy : y.length ≤ n) : (out ++ y).length ≤ sizeLine ∧ (out ++ y).length + m ≤ 1000000 := by
  rw [PySem.strLen_append]
  refine ⟨Nat.le_of_lt (Nat.lt_of_le_of_lt (show out.length + y.length ≤ 1000000 by omega) (by decide)), by omega⟩
theorem pj_str {x : Str} {j : Nat} {pos : Pos} {es : List Expr} {m : Nat} {t : TJ} (h : PJ X es m t) : PJ X (.Constant (.str x) j pos :: es) (x.length + m) t := by
  intro pins s σ H out Q I q hl
  refine joinParts_consE (joinParts_cons (Calls.Constant_str ?_))
  have z := fit_out (y := x) hl (Nat.le_refl _)
  exact ⟨z.1, h pins _ σ H _ Q (I.tok _) q z.2⟩
theorem pj_int {e : Expr} {te : TE} {pos : Pos} {es : List Expr} {m : Nat} {t : TJ} (he : PE X e te) (h : PJ X es m t) : PJ X (.FormattedValue e (-1) none pos :: es) (1921 + m) (fun σ H Q => te σ H fun v H1 => ∃ i : Int, v = .int i ∧ i.natAbs.log2 < 1920 ∧ t σ H1 Q) := by
  intro pins s σ H out Q I q hl
  refine joinParts_consE (joinParts_cons (FormattedValue_plain (thn (he pins s σ H _ I q) fun v s1 ⟨x, H1, I1, r1, i, e1, hi, q1⟩ => ?_)))
  subst e1
  obtain ⟨tk, rfl⟩ := r1
  refine formatField_int_small hi ?_
  have z := fit_out (y := Str.ofString (toString i)) hl (int_text_len_1921 hi)
  exact ⟨z.1, h pins _ σ H1 _ Q (I1.tok _) q1 z.2⟩
theorem pe_fstr {v1 v2 : Expr} {rest : List Expr} {pos : Pos} {m : Nat} {t : TJ} (h : PJ X (v1 :: v2 :: rest) m t) (hm : m ≤ 1000000 := by decide +kernel) : PE X (.JoinedStr (v1 :: v2 :: rest) pos) (fun σ H Q => t σ H fun H1 => ∀ x, Q (.str x) H1) := by
  intro pins s σ H Q I q
  refine JoinedStr_many (thn (h pins s σ H Str.empty _ I q (by show 0 + m ≤ _; omega)) fun u s1 ⟨x, tk, H1, e, I1, q1⟩ => ?_)
  subst e
  exact ⟨.str x, H1, I1, ⟨_, rfl⟩, q1 x⟩

/-! ### a op b op c op d -/
end
end InkE
namespace Ink
open PySem L2 InkX InkE
theorem free_same {H H' : Hp} {a : Addr} (s : Same H H') (h : H' a = none) : H a = none := by
  cases q : H a with
  | none => rfl
  | some o => rw [s a o q] at h; cases h
/-! ### parts of a row -/
def Fit (i : Int) : Prop := -(10 ^ 60) < i ∧ i < 10 ^ 60
theorem Fit.log {i : Int} (h : Fit i) : i.natAbs.log2 < 1920 := by
  have h1 : i.natAbs < 2 ^ 1920 := by
    have : i.natAbs < 10 ^ 60 := by
      obtain ⟨a, b⟩ := h
      have e : ((10 : Int) ^ 60) = (((10 : Nat) ^ 60 : Nat) : Int) := by norm_cast
      rw [e] at a b
      omega
    exact Nat.lt_of_lt_of_le this (by decide +kernel)
  by_cases h0 : i.natAbs = 0
  · rw [h0]
    decide
  · exact (Nat.log2_lt h0).mpr h1
/-- one stretch's part -/
def pc1 (a b h : Int) (p : Int × Int) : Row := if max (a - h) 0 < min (b - h) (p.2 - p.1) then [(p.1 + max (a - h) 0, p.1 + min (b - h) (p.2 - p.1))] else []
def pcs (a b : Int) : Int → Row → Row
  | _, [] => []
  | h, p :: r => pc1 a b h p ++ pcs a b (h + (p.2 - p.1)) r
/-- the classes of refusals -/
structure ExcAt (K : PySem.W.Frag) (mg : Str → Option Value) (C : Addr) : Prop where
  m : mg "OutOfPlace" = some (.ref C)
  x : PySem.W.excIn K C [.type "ValueError", .type "Exception", .type "BaseException", .type "object"] "ValueError.__new__" = true
  h : PySem.W.exmOne K (.ref C) (.ref C) = some true
structure ExcAt2 (K : PySem.W.Frag) (mg : Str → Option Value) (C D : Addr) : Prop where
  m : mg "InkError" = some (.ref D)
  h : PySem.W.exmOne K (.ref C) (.ref D) = some true
end Ink

namespace Ink
open PySem L2 InkX InkE
theorem passF {P : Program} {w : World} {X : Cx} : Passes (CX1 P w) X (fun _ _ _ => False) := fun _ _ _ _ _ _ _ h => by
  obtain ⟨_, _, _, _, _, _, _, _, _, _, z⟩ := h
  exact z.elim
end Ink

namespace Ink
open PySem L2 InkX InkE
end Ink

namespace Ink
open PySem PySem.Spec PyProof.Rows L2 InkX InkE
/-! ### pairs of lists of the very same values compared -/
/-! ### rows joined, put in, cut out -/
theorem PairsAt.append {H : Hp} : ∀ {as bs : List Addr} {r q : Row}, PairsAt H as r → PairsAt H bs q → PairsAt H (as ++ bs) (r ++ q)
  | _, _, _, _, .nil, t => t
  | _, _, _, _, .cons e r, t => .cons e (PairsAt.append r t)
def putF (p : Int) (row other : Row) : Row := pcs 0 p 0 row ++ other ++ pcs p (tot row) 0 row
end Ink

namespace L2
open PySem PySem.Spec PyProof.Rows

/-! ### lists of pairs as tables -/
section
variable {κ : Type} [DecidableEq κ]
def valV (kvs : List (κ × V)) (k : κ) : Option V := (kvs.find? fun kv => decide (kv.1 = k)).map (·.2)
/-- in its place, or at the end -/
def putK (kvs : List (κ × V)) (k : κ) (v : V) : List (κ × V) :=
  if (kvs.any fun kv => decide (kv.1 = k)) = true then kvs.map (fun kv => if kv.1 = k then (kv.1, v) else kv) else kvs ++ [(k, v)]
def dropK (kvs : List (κ × V)) (k : κ) : List (κ × V) := kvs.filter fun kv => decide (kv.1 ≠ k)

theorem valV_pos {p : κ × V} {r : List (κ × V)} {k : κ} (e : p.1 = k) : valV (p :: r) k = some p.2 := by simp [valV, List.find?_cons, e]
theorem valV_neg {p : κ × V} {r : List (κ × V)} {k : κ} (e : ¬ p.1 = k) : valV (p :: r) k = valV r k := by simp [valV, List.find?_cons, e]
theorem valV_any (k : κ) : ∀ kvs : List (κ × V), (kvs.any fun kv => decide (kv.1 = k)) = (valV kvs k).isSome
  | [] => rfl
  | p :: r => by
    rw [List.any_cons]
    by_cases e : p.1 = k
    · simp only [valV_pos e, decide_eq_true e, Bool.true_or, Option.isSome_some]
    · rw [valV_neg e, decide_eq_false e, Bool.false_or]; exact valV_any k r
theorem RelO.isSome_eq {o : Option V} {u : Option Value} (r : RelO o u) : o.isSome = u.isSome := by
  cases o with
  | none => cases u with
    | none => rfl
    | some _ => exact (show False from r).elim
  | some _ => cases u with
    | none => exact (show False from r).elim
    | some _ => rfl
theorem RelO.getD {o : Option V} {u : Option Value} {d : V} {d' : Value} (r : RelO o u) (rd : RelV d d') : RelV (o.getD d) (u.getD d') := by
  cases o with
  | none => cases u with
    | none => exact rd
    | some _ => exact (show False from r).elim
  | some _ => cases u with
    | none => exact (show False from r).elim
    | some _ => exact r

/-- raw tables of the same keys -/
theorem KV.val {kvs : List (κ × V)} {vs : List (κ × Value)} (r : KV kvs vs) (k : κ) : RelO (valV kvs k) (valueAt vs k) := by
  unfold KV at r
  induction r with
  | nil => exact True.intro
  | @cons p q ps qs h t ih =>
    obtain ⟨h1, h2⟩ := h
    by_cases e : p.1 = k
    · have e' : q.1 = k := h1.symm.trans e
      have b : valueAt (q :: qs) k = some q.2 := by simp [valueAt, List.find?_cons, e']
      rw [valV_pos e, b]; exact h2
    · have e' : ¬ q.1 = k := fun z => e (h1.trans z)
      have b : valueAt (q :: qs) k = valueAt qs k := by simp [valueAt, List.find?_cons, e']
      rw [valV_neg e, b]; exact ih
theorem KV.any {kvs : List (κ × V)} {vs : List (κ × Value)} (r : KV kvs vs) (k : κ) : (kvs.any fun kv => decide (kv.1 = k)) = vs.any fun kv => decide (kv.1 = k) := by
  unfold KV at r
  induction r with
  | nil => rfl
  | cons h t ih => rw [List.any_cons, List.any_cons, ih, h.1]
theorem KV.repl {kvs : List (κ × V)} {vs : List (κ × Value)} (r : KV kvs vs) (k : κ) {y : V} {u : Value} (ry : RelV y u) :
    KV (kvs.map fun kv => if kv.1 = k then (kv.1, y) else kv) (vs.map fun kv => if kv.1 = k then (kv.1, u) else kv) := by
  unfold KV at r ⊢
  induction r with
  | nil => exact .nil
  | @cons p q ps qs h t ih =>
    rw [List.map_cons, List.map_cons]
    refine .cons ?_ ih
    obtain ⟨h1, h2⟩ := h
    by_cases e : p.1 = k
    · rw [if_pos e, if_pos (h1.symm.trans e)]; exact ⟨h1, ry⟩
    · rw [if_neg e, if_neg (fun z => e (h1.trans z))]; exact ⟨h1, h2⟩
theorem KV.put {kvs : List (κ × V)} {vs : List (κ × Value)} (r : KV kvs vs) (k : κ) {y : V} {u : Value} (ry : RelV y u) : KV (putK kvs k y) (stored vs k u) := by
  unfold putK stored
  rw [r.any k]
  by_cases e : (vs.any fun kv => decide (kv.1 = k)) = true
  · rw [if_pos e, if_pos e]; exact r.repl k ry
  · rw [if_neg e, if_neg e]; exact Paired.snoc r ⟨rfl, ry⟩
theorem KV.drop {kvs : List (κ × V)} {vs : List (κ × Value)} (r : KV kvs vs) (k : κ) : KV (dropK kvs k) (without vs k) := by
  unfold KV at r ⊢
  unfold dropK without
  induction r with
  | nil => exact .nil
  | @cons p q ps qs h t ih =>
    obtain ⟨h1, h2⟩ := h
    rw [List.filter_cons, List.filter_cons]
    by_cases e : p.1 = k
    · have a : ¬ decide (p.1 ≠ k) = true := by simp [e]
      have b : ¬ decide (q.1 ≠ k) = true := by simp [h1.symm.trans e]
      rw [if_neg a, if_neg b]; exact ih
    · have e' : ¬ q.1 = k := fun z => e (h1.trans z)
      have a : decide (p.1 ≠ k) = true := by simp [e]
      have b : decide (q.1 ≠ k) = true := by simp [e']
      rw [if_pos a, if_pos b]; exact .cons ⟨h1, h2⟩ ih
theorem KV.keys {kvs : List (κ × V)} {vs : List (κ × Value)} (r : KV kvs vs) : kvs.map (·.1) = vs.map (·.1) := by
  unfold KV at r
  induction r with
  | nil => rfl
  | cons h t ih => rw [List.map_cons, List.map_cons, ih, h.1]
theorem KV.length {kvs : List (κ × V)} {vs : List (κ × Value)} (r : KV kvs vs) : kvs.length = vs.length := Paired.length r
end


/-! ### a tracked dict, its keys ints and texts or tuples of these -/
/-- raw entries of a dict with tuple keys -/
abbrev KT (H : Hp) : List (List Key × V) → List (List Key × Addr × Value) → Prop := Paired fun p q => p.1 = q.1 ∧ H q.2.1 = some (.tup (p.1.map kV)) ∧ RelV p.2 q.2.2
theorem KT.val {H : Hp} {kvs : List (List Key × V)} {xs : List (List Key × Addr × Value)} (r : KT H kvs xs) (k : List Key) : RelO (valV kvs k) ((atKey xs k).map (·.2)) := by
  induction r with
  | nil => exact True.intro
  | @cons p q ps qs h t ih =>
    obtain ⟨h1, _, h2⟩ := h
    by_cases e : p.1 = k
    · have e' : q.1 = k := h1.symm.trans e
      have b : atKey (q :: qs) k = some q.2 := by simp [atKey, List.find?_cons, e']
      rw [valV_pos e, b]; exact h2
    · have e' : ¬ q.1 = k := fun z => e (h1.trans z)
      have b : atKey (q :: qs) k = atKey qs k := by simp [atKey, List.find?_cons, e']
      rw [valV_neg e, b]; exact ih
theorem KT.repl {H : Hp} {kvs : List (List Key × V)} {xs : List (List Key × Addr × Value)} (r : KT H kvs xs) (k : List Key) {y : V} {u : Value} (ry : RelV y u) :
    KT H (kvs.map fun kv => if kv.1 = k then (kv.1, y) else kv) (xs.map (putAt k u)) := by
  induction r with
  | nil => exact .nil
  | @cons p q ps qs h t ih =>
    rw [List.map_cons, List.map_cons]
    refine .cons ?_ ih
    obtain ⟨h1, h2, h3⟩ := h
    unfold putAt
    by_cases e : p.1 = k
    · rw [if_pos e, if_pos (h1.symm.trans e)]; exact ⟨h1, h2, ry⟩
    · rw [if_neg e, if_neg (fun z => e (h1.trans z))]; exact ⟨h1, h2, h3⟩
theorem KT.put {H : Hp} {kvs : List (List Key × V)} {xs : List (List Key × Addr × Value)} (r : KT H kvs xs) (k : List Key) {b : Addr} {y : V} {u : Value} (hb : H b = some (.tup (k.map kV))) (ry : RelV y u) :
    KT H (putK kvs k y) (storedH xs k b u) := by
  have e : (kvs.any fun kv => decide (kv.1 = k)) = (atKey xs k).isSome := by
    rw [valV_any, (r.val k).isSome_eq, Option.isSome_map]
  unfold putK storedH
  rw [e]
  by_cases q : (atKey xs k).isSome = true
  · rw [if_pos q, if_pos q]; exact r.repl k ry
  · rw [if_neg q, if_neg q]; exact Paired.snoc r ⟨rfl, hb, ry⟩
theorem KT.keeps {H H' : Hp} {kvs : List (List Key × V)} {xs : List (List Key × Addr × Value)} (r : KT H kvs xs) (ht : ∀ b ys, H b = some (.tup ys) → H' b = some (.tup ys)) : KT H' kvs xs :=
  Paired.mapP r fun _ _ z => ⟨z.1, ht _ _ z.2.1, z.2.2⟩

section
variable {P : Program} {w : World} {H : Hp} {h : Heap} {a : Addr}
end

/-- what the dict at a holds at the key y -/
def DGet (H : Hp) (a : Addr) (y : V) (r : Option V) : Prop :=
  (∃ kvs k, Rd H a (.dK kvs) ∧ y = kV k ∧ r = valV kvs k) ∨ ∃ kvs k b, Rd H a (.dT kvs) ∧ y = .ref b ∧ H b = some (.tup (k.map kV)) ∧ r = valV kvs k
/-- the heap behind a[y] = v -/
def DPut (H : Hp) (a : Addr) (y v : V) (H' : Hp) : Prop :=
  (∃ kvs k, H a = some (.dK kvs) ∧ y = kV k ∧ kvs.length < sizeLine ∧ H' = upd H a (.dK (putK kvs k v))) ∨
  ∃ kvs k b, H a = some (.dT kvs) ∧ y = .ref b ∧ H b = some (.tup (k.map kV)) ∧ kvs.length < sizeLine ∧ H' = upd H a (.dT (putK kvs k v))
theorem DGet.k {H : Hp} {a : Addr} {kvs : List (Key × V)} {k : Key} (e : H a = some (.dK kvs)) : DGet H a (kV k) (valV kvs k) := .inl ⟨kvs, k, .inl e, rfl, rfl⟩
theorem DGet.t {H : Hp} {a b : Addr} {kvs : List (List Key × V)} {k : List Key} (e : H a = some (.dT kvs)) (eb : H b = some (.tup (k.map kV))) : DGet H a (.ref b) (valV kvs k) := .inr ⟨kvs, k, b, .inl e, rfl, eb, rfl⟩
theorem DPut.k {H : Hp} {a : Addr} {kvs : List (Key × V)} {k : Key} {v : V} (e : H a = some (.dK kvs)) (hl : kvs.length < sizeLine) : DPut H a (kV k) v (upd H a (.dK (putK kvs k v))) := .inl ⟨kvs, k, e, rfl, hl, rfl⟩
theorem DPut.t {H : Hp} {a b : Addr} {kvs : List (List Key × V)} {k : List Key} {v : V} (e : H a = some (.dT kvs)) (eb : H b = some (.tup (k.map kV))) (hl : kvs.length < sizeLine) :
    DPut H a (.ref b) v (upd H a (.dT (putK kvs k v))) := .inr ⟨kvs, k, b, e, rfl, eb, hl, rfl⟩


section
variable {X : Cx} {pins : List (Addr × Obj)} {σ : St} {H : Hp} {s : Shared} {a : Addr} {y v : V} {u r : Value} {o : Option V} {A : Around} {E : Value → Shared → Prop}

end

section
variable {X : Cx} {pins : List (Addr × Obj)} {σ : St} {H : Hp} {s : Shared} {a : Addr} {kvs : List (Key × V)} {k : Key} {u : Value} {A : Around} {E : Value → Shared → Prop}
end


/-! ### readings and rules -/
section
variable {X : Cx} {o i e value : Expr} {pos pos' tpos : Pos} {td ty tv : TE}
end


/-! ### displays -/
section
variable {X : Cx} {pos : Pos}
end

/-! ### methods -/
/-- a method call o.m(e) of a built-in, with one argument: what must be seen of the text -/
structure M1 (X : Cx) (o : Expr) (m : Str) (apos : Pos) (e : Expr) (cpos : Pos) : Prop where
  base : attributeBase o m X.env (eval o X.env) = eval o X.env
  few : ((backTo cpos (starEach [e] X.env)).all (fun x => !x.1) && (backToKw cpos (keywordEach [] X.env)).all (fun x => x.1.isSome)
    && decide (([e] : List Expr).length + ([] : List Keyword).length + (if ([] : List Keyword).isEmpty then 0 else 1) < 30)) = true
  line : (apos.endLine == cpos.line) = true
  trees : backTo cpos (starEach [e] X.env) = [(false, eval e X.env)]
structure M2 (X : Cx) (o : Expr) (m : Str) (apos : Pos) (e f : Expr) (cpos : Pos) : Prop where
  base : attributeBase o m X.env (eval o X.env) = eval o X.env
  few : ((backTo cpos (starEach [e, f] X.env)).all (fun x => !x.1) && (backToKw cpos (keywordEach [] X.env)).all (fun x => x.1.isSome)
    && decide (([e, f] : List Expr).length + ([] : List Keyword).length + (if ([] : List Keyword).isEmpty then 0 else 1) < 30)) = true
  line : (apos.endLine == cpos.line) = true
  trees : backTo cpos (starEach [e, f] X.env) = [(false, eval e X.env), (false, eval f X.env)]

section
variable {X : Cx} {pins : List (Addr × Obj)} {σ : St} {H : Hp} {s : Shared} {a : Addr} {y d : V} {u r : Value} {o : Option V} {A : Around} {E : Value → Shared → Prop}
end

section
variable {X : Cx} {o e f : Expr} {apos cpos : Pos} {td ty tx : TE}
end

/-! ### dict(d): a copy -/
section
variable {X : Cx} {pins : List (Addr × Obj)} {σ : St} {H : Hp} {s : Shared} {a : Addr} {kvs : List (Key × V)} {A : Around} {E : Value → Shared → Prop}
end


section
variable {X : Cx} {pins : List (Addr × Obj)} {σ : St} {H : Hp} {s : Shared} {a : Addr} {y : V} {u : Value} {A : Around} {E : Value → Shared → Prop}
end
end L2


namespace InkX
open PySem PySem.Spec PyProof.Rows L2
/-! ### a list made by one clause whose tests and item may name the def's captured names; kept, or stored under a plain name -/
def cxF (X : Cx) (N : List Str) (scope : Scope) (cl : List (Str × Addr)) (C : Addr) (s₀ : Shared) (H₀ : Hp) (ex : List Addr) (pn : List (Addr × Obj)) : Cx where
  prog := X.prog
  w := X.w
  K := X.K
  mg := X.mg
  base := X.base
  A := X.A
  N := N
  s₀ := s₀
  H₀ := H₀
  env := compEnvC scope cl C X.env
  outer := X.stack
  stack := X.stack
  ex := ex
  fn := fun _ => false
  calm := X.calm
  pn := pn
  xe := fun _ _ => False
structure CompF (X : Cx) (N : List Str) (scope : Scope) (cl : List (Str × Addr)) (jx : List (Option Nat)) : Prop where
  kind : scope.kind = .function
  cell : ∀ x ∈ scope.names, x.2 ≠ .cell
  names : ∀ x ∈ scope.names, x.2 = .local → scope.names.lookup x.1 = some .local
  clos : closureFor scope X.env = pure cl
  sub : ∀ x c, cl.lookup x = some c → X.env.cells.lookup x = some c
  has : ∀ x, ((relabel scope X.env).names.lookup x = some .cell ∨ (relabel scope X.env).names.lookup x = some .free) → ∃ c, cl.lookup x = some c
  len : jx.length = N.length
  free : ∀ (i j : Nat) (x : Str), jx[i]? = some (some j) → N[i]? = some x → X.N[j]? = some x ∧ X.env.scope.names.lookup x = some .cell ∧ (relabel scope X.env).names.lookup x = some .cell
def startF (jx : List (Option Nat)) (σ : L2.St) : L2.St := jx.map fun o => o.bind fun j => (σ[j]?).join
section
variable {X : Cx} {N : List Str} {scope : Scope} {cl : List (Str × Addr)} {jx : List (Option Nat)}
theorem comp_startF {pins : List (Addr × Obj)} {σ : L2.St} {H : Hp} {s : Shared} {fp : List Addr} {h₁ : Heap} {t : Nat} (cs : CompF X N scope cl jx) (I : Inv X pins σ H s) (hf : ∀ b ∈ fp, FpOk X pins H b) (hlt : ∀ b ∈ fp, b < s.heap.objs.size)
    (hns : h₁.Ns s.heap.objs.size fun _ => none) (hk : ∀ b o, s.heap.get? b = some o → h₁.get? b = some o) :
    Inv (cxF X N scope cl s.heap.objs.size s H fp (X.pn ++ pins)) [] (startF jx σ) H { s with heap := h₁, toks := t } := by
  have sub : ∀ {x c}, (cxF X N scope cl s.heap.objs.size s H fp (X.pn ++ pins)).env.cells.lookup x = some c → X.env.cells.lookup x = some c := fun {x c} e => cs.sub x c e
  refine ⟨⟨I.ok.mod, cs.kind, I.ok.glob, I.ok.blt, Nat.le_refl _, fun x y c e e' => I.ok.inj x y c (sub e) (sub e'), fun x hx => cs.has x hx, fun x c z _ => (by cases z), I.ok.hd, I.ok.frames, .inl rfl, fun b hb => ⟨Nat.ne_of_lt (hlt b hb), fun x c e => (hf b hb).2.2.2.2.1 x c (sub e)⟩, I.bs, Nat.le_trans I.ok.bsz I.sz, fun b o e hb => ?_, fun b hb z => ?_, I.stack, I.stkFree⟩,
    rfl, I.bare, Un.kept hk, ⟨_, hns, fun i x v e1 e2 _ => ?_⟩, fun x c e => ?_, I.hok.fresh (Nat.le_refl _), fun x c e => I.freeC x c (sub e), fun p hp => ?_, I.hok.kept hk, by unfold startF; rw [List.length_map]; exact cs.len⟩
  · rcases (hf b hb).2.2.2.1 with z | z
    · exact I.ok.noex b o e z
    · exact absurd (Nat.lt_of_lt_of_le (Heap.lt_size (I.ok.bs b o e).1) z) (Nat.lt_irrefl _)
  · rcases List.mem_cons.mp (I.stkSub b z) with e | e
    · exact (hf b hb).2.1 e
    · exact (hf b hb).2.2.1 e
  · unfold startF at e2
    rw [List.getElem?_map] at e2
    cases ej : jx[i]? with
    | none => rw [ej] at e2; cases e2
    | some o =>
      rw [ej] at e2
      cases o with
      | none => cases e2
      | some j =>
        have e3 : σ[j]? = some (some v) := by
          have z : ((σ[j]?).join) = some v := Option.some.inj e2
          cases hs : σ[j]? with
          | none => rw [hs] at z; cases z
          | some q => rw [hs] at z; exact congrArg some z
        obtain ⟨f1, f2, f3⟩ := cs.free i j x ej e1
        obtain ⟨m, hn, hl⟩ := I.loc
        obtain ⟨u, ru, look⟩ := hl j x v f1 e3 (.inr (.inl f2))
        refine ⟨u, ru, ?_⟩
        rcases look with ⟨k, _⟩ | ⟨_, c, hc, o, ho, hd⟩
        · have k' : X.env.scope.names.lookup x = some .local := k
          rw [f2] at k'
          cases k'
        · obtain ⟨c', hc'⟩ := cs.has x (.inl f3)
          have z := cs.sub x c' hc'
          rw [hc] at z
          cases z
          exact .inr ⟨.inl f3, c, hc', o, hk _ _ ho, hd⟩
  · obtain ⟨v, o, ho, hd⟩ := I.cell x c (sub e)
    exact ⟨v, o, hk _ _ ho, hd⟩
  · have hp' : p ∈ X.pn ++ pins := by
      have z : p ∈ (X.pn ++ pins) ++ [] := hp
      simpa using z
    obtain ⟨e, n, nl, nf, d⟩ := I.pin p hp'
    refine ⟨hk _ _ e, n, Nat.ne_of_lt (Heap.lt_size e), fun z => ?_, d⟩
    rcases List.mem_cons.mp (I.stkSub p.1 z) with e | e
    · exact nl e
    · exact nf e
theorem comp_midF {pins : List (Addr × Obj)} {σ σ' : L2.St} {H H' : Hp} {s s' : Shared} {fp : List Addr} (I : Inv X pins σ H s) (hf : ∀ b ∈ fp, FpOk X pins H b) (J : Inv (cxF X N scope cl s.heap.objs.size s H fp (X.pn ++ pins)) [] σ' H' s') : Inv X pins σ H' s' :=
  I.call' (ch := fp) J.os J.base J.hok J.bare fun b hb => ⟨(hf b hb).2.2.2.1, (hf b hb).2.1, (hf b hb).2.2.2.2.1, (hf b hb).2.2.2.2.2⟩
theorem comp_outF {pins : List (Addr × Obj)} {σ σ2 : L2.St} {H H' : Hp} {s s' : Shared} {h' : Heap} (I : Inv X pins σ H s) (I4 : Inv X pins σ2 H' s') (hfree : H' s.heap.objs.size = none) (hs : Heap.SameBut s.heap.objs.size s'.heap h') : Inv X pins σ2 H' { s' with heap := h' } := by
  refine I4.turned (t' := s'.toks) (it := s.heap.objs.size) (fun b o hb e => hs.extBut _ _ hb e) hfree (Nat.ne_of_gt I.lt) (.inr I.sz) (fun x c e z => ?_) fun p hp z => ?_
  · obtain ⟨v, o, ho, _⟩ := I.cell x c e
    exact absurd (Heap.lt_size ho) (by rw [z]; exact Nat.lt_irrefl _)
  · exact absurd (Heap.lt_size (I.pin p hp).1) (by rw [z]; exact Nat.lt_irrefl _)
def tTurnsF (J : It) (acc : Addr) (g : TG) (tt : TT) (te : TE) (σ0 : L2.St) (H : Hp) (Q : VK) : Prop :=
  ∃ W : Nat → Nat → L2.St → Hp → Prop, (∃ m, W 0 m σ0 H) ∧ ∀ i m σ H, W i m σ H →
    (J.stop i H ∧ Q (.ref acc) H) ∨ (J.go i H ∧ ∃ Nx : L2.St → Hp → Prop, (∀ σ' H', Nx σ' H' → ∃ m', m' < m ∧ W (i + 1) m' σ' H') ∧ ∀ x H', J.yld i H x H' → g x σ H' fun σ2 H2 => tt σ2 H2 fun b H3 =>
      if b = true then te σ2 H3 fun v H4 => ∃ xs, H4 acc = some (.lst xs) ∧ xs.length < sizeLine ∧ Nx σ2 (upd H4 acc (.lst (xs ++ [v]))) else Nx σ2 H3)
def tCompF (jx : List (Option Nat)) (wi : TI) (g : TG) (tt : TT) (te : TE) : TE := fun σ H Q => wi σ H fun J H1 => ∀ acc, H1 acc = none → tTurnsF J acc g tt te (startF jx σ) (upd H1 acc (.lst [])) Q
theorem comp_core {elt tg iter : Expr} {ifs : List Expr} {pos pos' : Pos} {wi : TI} {g : TG} {tt : TT} {te : TE} (cs : CompF X N scope cl jx) (hc : X.calm = true) (hi : PI X tg iter wi)
    (hg : ∀ C s₀ H₀ ex pn, PG (cxF X N scope cl C s₀ H₀ ex pn) tg g) (ht : ∀ C s₀ H₀ ex pn, PTs (cxF X N scope cl C s₀ H₀ ex pn) ifs tt) (he : ∀ C s₀ H₀ ex pn, PE (cxF X N scope cl C s₀ H₀ ex pn) elt te)
    (hs : ∀ x, foldedSetIterable iter X.env x = pure x) {use : Option (Value → Sem Unit)} {Q' : Value → Shared → Prop} {Q : VK} {pins : List (Addr × Obj)} {s : Shared} {σ : L2.St} {H : Hp} (I : Inv X pins σ H s) (h : tCompF jx wi g tt te σ H Q)
    (fin : ∀ (s3 : Shared) (H3 : Hp) (fp : List Addr) (acc : Addr) (σ6 : L2.St) (H6 : Hp) (s7 : Shared), Inv X pins σ H3 s3 → (∀ b ∈ fp, FpOk X pins H3 b) → Inv (cxF X N scope cl s3.heap.objs.size s3 H3 fp (X.pn ++ pins)) [] σ6 H6 s7 → Q (.ref acc) H6 →
      compPost (model X.prog X.w) X.A X.xe use Q' (.ref acc) s3.heap.objs.size (.ok .next) s7) :
    wpAny (model X.prog X.w) X.A (comprehension (.ListComp elt [⟨tg, iter, ifs, 0⟩] scope pos) scope X.env pos' (newList []) false (eval iter X.env) use) Q' X.xe s := by
  refine wpAny_comprehension_free (use := use) rfl hs cs.clos cs.kind cs.names (thn (hi pins s σ H _ I h) fun v s1 h1 => thn h1 fun itv s2 h2 => ?_)
  obtain ⟨it, fp, tn, J, H2, e, I2, T, st2, f2, q⟩ := h2
  subst e
  refine wpAny_newObj_type (hd := by size_fits) ?_
  have hacc : H2 s2.heap.objs.size = none := I2.hok.fresh (Nat.le_refl _)
  have I3 : Inv X pins σ (upd H2 s2.heap.objs.size (.lst [])) { s2 with heap := s2.heap.push { cls := .type "list", data := .seq ([] : List Value).toArray }, toks := s2.toks } := I2.lnew (ys := []) .nil (Nat.zero_le _)
  have ftn : ∀ b ∈ fp, b < s2.heap.objs.size := fun b hb => by
    obtain ⟨o, ho, _⟩ := T.obj _ _ st2 b hb
    exact Heap.lt_size ho
  have f3 : ∀ b ∈ fp, FpOk X pins (upd H2 s2.heap.objs.size (.lst [])) b := fun b hb => ⟨by rw [upd_ne (Nat.ne_of_lt (ftn b hb))]; exact (f2 b hb).1, (f2 b hb).2⟩
  have k3 : ∀ b o, s2.heap.get? b = some o → (s2.heap.push { cls := .type "list", data := .seq ([] : List Value).toArray }).get? b = some o := fun b o e => Heap.get?_push_of_some _ e
  have q3 := q _ hacc
  generalize hs3 : ({ s2 with heap := s2.heap.push { cls := .type "list", data := .seq ([] : List Value).toArray }, toks := s2.toks } : Shared) = s3 at I3
  generalize hH3 : upd H2 s2.heap.objs.size (.lst []) = H3 at I3 f3 q3
  have hh3 : s3.heap = s2.heap.push { cls := .type "list", data := .seq ([] : List Value).toArray } := by rw [← hs3]
  have ft3 : ∀ b ∈ fp, b < s3.heap.objs.size := fun b hb => by rw [hh3, Heap.size_push]; exact Nat.lt_succ_of_lt (ftn b hb)
  have st3 : tn 0 s3.heap := T.keep _ _ _ st2 fun b _ o e => by rw [hh3]; exact k3 b o e
  show wpAny _ _ _ _ _ s3
  refine wpAny_newFunctionEnv cs.cell (fun y hy => by simp at hy) (fun h₁ hns hsb => ?_) cs.kind
  have kh : ∀ b o, s3.heap.get? b = some o → h₁.get? b = some o := fun b o e => hsb.extBut _ _ (Nat.ne_of_lt (Heap.lt_size e)) (Heap.get?_push_of_some _ e)
  have J0 : Inv (cxF X N scope cl s3.heap.objs.size s3 H3 fp (X.pn ++ pins)) [] (startF jx σ) H3 { s3 with heap := h₁, toks := s3.toks + ([] : List (Str × Value)).length } := comp_startF cs I3 f3 ft3 hns kh
  have st4 : tn 0 h₁ := T.keep _ _ _ st3 fun b _ o e => kh b o e
  obtain ⟨W, ⟨m0, w0⟩, turn⟩ := q3
  have stat : ∀ {H' : Hp}, (∀ b ∈ fp, H' b = none) → ∀ b ∈ fp, FpOk (cxF X N scope cl s3.heap.objs.size s3 H3 fp (X.pn ++ pins)) [] H' b := fun hn b hb => by
    refine ⟨hn b hb, Nat.ne_of_lt (ft3 b hb), fun z => ?_, .inl hb, fun x c e => (f3 b hb).2.2.2.2.1 x c (cs.sub x c e), fun p hp => ?_⟩
    · rcases List.mem_cons.mp (I3.stkSub b z) with e | e
      · exact (f3 b hb).2.1 e
      · exact (f3 b hb).2.2.1 e
    · have hp' : p ∈ X.pn ++ pins := by
        have z : p ∈ (X.pn ++ pins) ++ [] := hp
        simpa using z
      exact (f3 b hb).2.2.2.2.2 p hp'
  have loop : ∀ s5 : Shared, s5 = { s3 with heap := h₁, toks := s3.toks + ([] : List (Str × Value)).length } → codeAny (model X.prog X.w) X.A (.compLoop (.ListComp elt [⟨tg, iter, ifs, 0⟩] scope pos) 0 (.ref it) (.ref s2.heap.objs.size) (cxF X N scope cl s3.heap.objs.size s3 H3 fp (X.pn ++ pins)).env)
      (compPost (model X.prog X.w) X.A X.xe use Q' (.ref s2.heap.objs.size) s3.heap.objs.size) s5 := by
    rintro s5 rfl
    refine compLoopG (fun n s' => ∃ i σ' H', Inv (cxF X N scope cl s3.heap.objs.size s3 H3 fp (X.pn ++ pins)) [] σ' H' s' ∧ tn i s'.heap ∧ (∀ b ∈ fp, H' b = none) ∧ W i n σ' H') ?_ m0 ⟨0, _, H3, J0, st4, fun b hb => (f3 b hb).1, w0⟩
    rintro n s6 ⟨i, σ6, H6, I6, st6, fr6, w6⟩
    rcases turn i n σ6 H6 w6 with ⟨stop, qn⟩ | ⟨go, Nx, hN, step⟩
    · refine thn (T.done (cxF X N scope cl s3.heap.objs.size s3 H3 fp (X.pn ++ pins)) rfl rfl rfl hc i [] s6 σ6 H6 _ I6 (stat fr6) st6 stop) fun r s7 ⟨hr, I7⟩ => ?_
      subst hr
      exact fin s3 H3 fp _ σ6 H6 s7 I3 f3 I7 qn
    · refine thn (T.item (cxF X N scope cl s3.heap.objs.size s3 H3 fp (X.pn ++ pins)) rfl rfl rfl hc i [] s6 σ6 H6 _ I6 (stat fr6) st6 go) fun r s7 ⟨u, hr, h7⟩ => ?_
      subst hr
      refine thn h7 fun _ s8 ⟨x, H8, I8, r8, y8, st8, fr8⟩ => ?_
      have I8' := I8.pinned (stat fr8) (T.obj _ _ st8)
      refine thn (hg _ _ _ _ _ _ s8 σ6 H8 x u _ I8' r8 (step x H8 y8)) fun _ s9 ⟨σ9, H9, I9, q9⟩ => ?_
      refine thn (ht _ _ _ _ _ _ s9 σ9 H9 _ I9 q9) fun ok s10 ⟨H10, I10, q10⟩ => ?_
      have again : ∀ {σ7 : L2.St} {H7 : Hp} {s11 : Shared}, Inv (cxF X N scope cl s3.heap.objs.size s3 H3 fp (X.pn ++ pins)) ([] ++ pinsAt fp s8.heap) σ7 H7 s11 → Nx σ7 H7 → ∃ m, m < n ∧ ∃ i σ' H', Inv (cxF X N scope cl s3.heap.objs.size s3 H3 fp (X.pn ++ pins)) [] σ' H' s11 ∧ tn i s11.heap ∧ (∀ b ∈ fp, H' b = none) ∧ W i m σ' H' := fun {σ7 H7 s11} I7 n7 => by
        obtain ⟨m', hm, w7⟩ := hN σ7 H7 n7
        refine ⟨m', hm, i + 1, σ7, H7, I7.unpinned, T.keep _ _ _ st8 fun b hb o e => (I7.pin (b, o) (List.mem_append_right _ (List.mem_append_right _ (mem_pinsAt hb e)))).1, fun b hb => ?_, w7⟩
        obtain ⟨o, e, d⟩ := T.obj _ _ st8 b hb
        exact (I7.pin (b, o) (List.mem_append_right _ (List.mem_append_right _ (mem_pinsAt hb e)))).2.1
      cases ok with
      | false =>
        rw [if_neg Bool.false_ne_true] at q10
        exact again I10 q10
      | true =>
        rw [if_pos rfl] at q10
        refine thn (he _ _ _ _ _ _ s10 σ9 H10 _ I10 q10) fun v s11 ⟨y, H11, I11, r11, xs, hx, hz, n11⟩ => ?_
        refine thn (mt_append _ s11 σ9 H11 (.ref s2.heap.objs.size) [y] (.ref s2.heap.objs.size) [v] (fun _ H' => Nx σ9 H') I11 rfl (.cons r11 .nil) ⟨_, xs, y, rfl, rfl, hx, hz, n11⟩) fun _ s12 ⟨_, H12, I12, _, n12⟩ => ?_
        exact again I12 n12
  exact codeAny_compStart_list (loop _ rfl) (T.self _ _ _ _ _ st4 (loop _ rfl))
theorem pe_compF {elt tg iter : Expr} {ifs : List Expr} {pos : Pos} {wi : TI} {g : TG} {tt : TT} {te : TE} (cs : CompF X N scope cl jx) (hc : X.calm = true) (hi : PI X tg iter wi)
    (hg : ∀ C s₀ H₀ ex pn, PG (cxF X N scope cl C s₀ H₀ ex pn) tg g) (ht : ∀ C s₀ H₀ ex pn, PTs (cxF X N scope cl C s₀ H₀ ex pn) ifs tt) (he : ∀ C s₀ H₀ ex pn, PE (cxF X N scope cl C s₀ H₀ ex pn) elt te)
    (hs : ∀ x, foldedSetIterable iter X.env x = pure x := by intro _; rfl) : PE X (.ListComp elt [⟨tg, iter, ifs, 0⟩] scope pos) (tCompF jx wi g tt te) := by
  intro pins s σ H Q I h
  rw [eval_ListComp]
  refine comp_core (use := none) cs hc hi hg ht he hs I h fun s3 H3 fp acc σ6 H6 s7 I3 f3 I7 qn => ?_
  obtain ⟨m, hm, _⟩ := I7.loc
  exact ⟨m, hm, fun h' hsb => ⟨.ref acc, H6, comp_outF I3 (comp_midF I3 f3 I7) I7.free hsb, rfl, qn⟩⟩
theorem ps_setF {elt tg iter : Expr} {ifs : List Expr} {pos pos' pos2 : Pos} {wi : TI} {g : TG} {tt : TT} {te : TE} {i : Nat} {x : Str} (cs : CompF X N scope cl jx) (hc : X.calm = true) (hN : X.N.Nodup) (hix : X.N[i]? = some x) (hx : X.env.scope.names.lookup x = some .local) (hi : PI X tg iter wi)
    (hg : ∀ C s₀ H₀ ex pn, PG (cxF X N scope cl C s₀ H₀ ex pn) tg g) (ht : ∀ C s₀ H₀ ex pn, PTs (cxF X N scope cl C s₀ H₀ ex pn) ifs tt) (he : ∀ C s₀ H₀ ex pn, PE (cxF X N scope cl C s₀ H₀ ex pn) elt te)
    (hsw : swapsWith (.ListComp elt [⟨tg, iter, ifs, 0⟩] scope pos) (some (.Name x pos')) pos2.line X.env = pure true := by rfl)
    (hs : ∀ x, foldedSetIterable iter X.env x = pure x := by intro _; rfl) : PS X (.Assign [.Name x pos'] (.ListComp elt [⟨tg, iter, ifs, 0⟩] scope pos) pos2) (tAsg (tCompF jx wi g tt te) (gName i)) := by
  intro pins s σ H D I h
  rw [exec_Assign_Name_used _ _ _ _ hsw]
  refine wpAny_bind (wpAny_standAt (wpAny_bind ?_))
  show wpAny _ X.A (do let _ ← comprehension (.ListComp elt [⟨tg, iter, ifs, 0⟩] scope pos) scope X.env _ (newList []) false (eval iter X.env) (some (assign (.Name x pos') X.env))) _ _ s
  have h' : tCompF jx wi g tt te σ H (fun v H' => gName i v σ H' D.nx) := h
  refine wpAny_bind (thn (comp_core (use := some (assign (.Name x pos') X.env)) (Q' := fun _ s' => ∃ σ' H', Inv X pins σ' H' s' ∧ D.nx σ' H') cs hc hi hg ht he hs I h' fun s3 H3 fp acc σ6 H6 s7 I3 f3 I7 qn => ?_) fun _ s' q => ?_)
  · have I4 := comp_midF I3 f3 I7
    obtain ⟨m, hm, _⟩ := I7.loc
    refine wpAny_assign_Name (store_ok2 I4 hN hix (.inl hx) (v := .ref acc) rfl (fun s8 I8 ⟨a, hsb, ha⟩ => ?_) (.inr hx))
    have na : s3.heap.objs.size ≠ a := by
      rcases ha with rfl | ha
      · exact Nat.ne_of_gt I3.lt
      · intro z
        obtain ⟨v, o, ho, _⟩ := I3.cell x a ha
        exact absurd (Heap.lt_size ho) (by rw [z]; exact Nat.lt_irrefl _)
    refine ⟨m, hm.at' fun o e => hsb.extBut _ o na e, fun h' hs' => ⟨_, H6, comp_outF I3 I8 I7.free hs', qn⟩⟩
  · exact wpAny_pure (wpAny_pure q)
/-- no captured names -/
theorem CompF.none (cs : CompScope scope) (N : List Str) : CompF X N scope [] (N.map fun _ => none) where
  kind := cs.kind
  cell := cs.cell
  names := cs.names
  clos := closureFor_none cs.free
  sub := fun x c e => by cases e
  has := fun x hx => by
    have e : relabel scope X.env = scope := by
      unfold relabel
      have z : (scope.names.map fun (n, k) => if (k == NameKind.free && X.env.scope.kind == .function && X.env.kindOf n == some .cell) then (n, NameKind.cell) else (n, k)) = scope.names := by
        have z2 : (scope.names.map fun (n, k) => if (k == NameKind.free && X.env.scope.kind == .function && X.env.kindOf n == some .cell) then (n, NameKind.cell) else (n, k)) = scope.names.map id := List.map_congr_left fun p hp => by
          obtain ⟨n, k⟩ := p
          have q : (k == NameKind.free) = false := by
            have q := cs.free _ hp
            cases k <;> first | rfl | exact absurd rfl q
          simp [q]
        rw [z2, List.map_id]
      rw [z]
    rw [e] at hx
    rcases hx with z | z
    · exact absurd rfl (cs.cell _ (PySem.mem_of_lookup z))
    · exact absurd rfl (cs.free _ (PySem.mem_of_lookup z))
  len := by rw [List.length_map]
  free := fun i j x e _ => by
    rw [List.getElem?_map] at e
    cases h : N[i]? with
    | none => rw [h] at e; cases e
    | some y => rw [h] at e; cases e
theorem compF_list {K : PySem.W.Frag} {a acc : Addr} {xs : List V} {g : TG} {tt : TT} {te : TE} {σ0 : L2.St} {H : Hp} {Q : VK} (Pv : Nat → L2.St → Hp → Prop) (h0 : Pv 0 σ0 H) (hl : ∀ i σ H, i ≤ xs.length → Pv i σ H → SqL K H a xs)
    (hs : ∀ i x σ H, xs[i]? = some x → Pv i σ H → g x σ H fun σ2 H2 => tt σ2 H2 fun b H3 => if b = true then te σ2 H3 fun v H4 => ∃ ys, H4 acc = some (.lst ys) ∧ ys.length < sizeLine ∧ Pv (i + 1) σ2 (upd H4 acc (.lst (ys ++ [v]))) else Pv (i + 1) σ2 H3)
    (hd : ∀ σ H, Pv xs.length σ H → Q (.ref acc) H) : tTurnsF (Itl K a) acc g tt te σ0 H Q := by
  refine ⟨fun i m σ H => m = xs.length - i ∧ i ≤ xs.length ∧ Pv i σ H, ⟨xs.length, by simp, Nat.zero_le _, h0⟩, ?_⟩
  rintro i m σ H ⟨rfl, hi, p⟩
  have q := hl i σ H hi p
  by_cases hlt : i < xs.length
  · refine .inr ⟨⟨xs, xs[i], q, by simp [hlt]⟩, Pv (i + 1), fun σ' H' p' => ⟨xs.length - (i + 1), by omega, rfl, hlt, p'⟩, fun x H' y => ?_⟩
    obtain ⟨e, y⟩ := y
    subst e
    exact hs i x σ _ (y xs q) p
  · have e : i = xs.length := by omega
    subst e
    exact .inl ⟨⟨xs, q, Nat.le_refl _⟩, hd σ H p⟩
theorem compF_range {lo : Int} {k : Nat} {acc : Addr} {g : TG} {tt : TT} {te : TE} {σ0 : L2.St} {H : Hp} {Q : VK} (Pv : Nat → L2.St → Hp → Prop) (h0 : Pv 0 σ0 H)
    (hs : ∀ i σ H, i < k → Pv i σ H → g (.int (lo + i)) σ H fun σ2 H2 => tt σ2 H2 fun b H3 => if b = true then te σ2 H3 fun v H4 => ∃ ys, H4 acc = some (.lst ys) ∧ ys.length < sizeLine ∧ Pv (i + 1) σ2 (upd H4 acc (.lst (ys ++ [v]))) else Pv (i + 1) σ2 H3)
    (hd : ∀ σ H, Pv k σ H → Q (.ref acc) H) : tTurnsF (Itr lo k) acc g tt te σ0 H Q := by
  refine ⟨fun i m σ H => m = k - i ∧ i ≤ k ∧ Pv i σ H, ⟨k, by simp, Nat.zero_le _, h0⟩, ?_⟩
  rintro i m σ H ⟨rfl, hi, p⟩
  by_cases hlt : i < k
  · refine .inr ⟨hlt, Pv (i + 1), fun σ' H' p' => ⟨k - (i + 1), by omega, rfl, hlt, p'⟩, fun x H' y => ?_⟩
    obtain ⟨e, y⟩ := y
    subst e y
    exact hs i σ _ hlt p
  · have e : i = k := by omega
    subst e
    exact .inl ⟨Nat.le_refl _, hd σ H p⟩
end
section
variable {X : Cx} {N : List Str} {scope : Scope} {cl : List (Str × Addr)} {C : Addr} {s₀ : Shared} {H₀ : Hp} {ex : List Addr} {pn : List (Addr × Obj)}
theorem pgF_tup {es : List Expr} {k : Nat} {t : TGs} {n : Nat} {pos : Pos} (hc : X.calm = true) (h : PGs (cxF X N scope cl C s₀ H₀ ex pn) es t)
    (hn : (assignEach es (cxF X N scope cl C s₀ H₀ ex pn).env).length = n := by rfl) (hst : (assignEach es (cxF X N scope cl C s₀ H₀ ex pn).env).findIdx? (·.1) = none := by rfl) : PG (cxF X N scope cl C s₀ H₀ ex pn) (.Tuple es k pos) (gTup X.K n t) := pg_tup (X := cxF X N scope cl C s₀ H₀ ex pn) hc h hn hst
theorem ixF_list : IxR (cxF X N scope cl C s₀ H₀ ex pn) (rIxL X.K) := ix_list
end
theorem closureFor_cells {scope : Scope} {env : Env} (h : ∀ p ∈ scope.names, p.2 = .free → ∃ c, env.cells.lookup p.1 = some c) :
    ∃ cl, closureFor scope env = pure cl ∧ (∀ x c, cl.lookup x = some c → env.cells.lookup x = some c) ∧ (∀ p ∈ scope.names, p.2 = .free → ∃ c, cl.lookup p.1 = some c) := by
  unfold closureFor
  have key : ∀ (l : List (Str × NameKind)) (cs : List (Str × Addr)), (∀ p ∈ l, p.2 = .free → ∃ c, env.cells.lookup p.1 = some c) → (∀ x c, cs.lookup x = some c → env.cells.lookup x = some c) →
      ∃ cl, (forIn l cs (fun p r => if (p.2 == NameKind.free) = true then do let c ← cellOf env p.1; pure (ForInStep.yield ((p.1, c) :: r)) else pure (ForInStep.yield r)) : Sem (List (Str × Addr))) = pure cl ∧ (∀ x c, cl.lookup x = some c → env.cells.lookup x = some c) ∧ (∀ p ∈ l, p.2 = .free → ∃ c, cl.lookup p.1 = some c) ∧ (∀ x c, cs.lookup x = some c → ∃ c, cl.lookup x = some c) := by
    intro l
    induction l with
    | nil => intro cs _ hcs; exact ⟨cs, rfl, hcs, (fun p hp => by cases hp), fun x c e => ⟨c, e⟩⟩
    | cons p l ih =>
      intro cs hl hcs
      rw [List.forIn_cons]
      by_cases hp : p.2 = .free
      · obtain ⟨c, hc⟩ := hl p List.mem_cons_self hp
        have e1 : (p.2 == NameKind.free) = true := by rw [hp]; rfl
        have e2 : cellOf env p.1 = pure c := by
          unfold cellOf
          rw [hc]
        rw [if_pos e1, e2]
        simp only [pure_bind]
        obtain ⟨cl, h1, h2, h3, h4⟩ := ih ((p.1, c) :: cs) (fun q hq => hl q (List.mem_cons_of_mem _ hq)) (fun x d e => by
          rw [List.lookup_cons] at e
          cases hx : x == p.1 with
          | true =>
            rw [hx] at e
            cases e
            rw [eq_of_beq hx]
            exact hc
          | false =>
            rw [hx] at e
            exact hcs x d e)
        refine ⟨cl, h1, h2, fun q hq hf => ?_, fun x d e => ?_⟩
        · rcases List.mem_cons.mp hq with rfl | hq
          · exact h4 q.1 c (by rw [List.lookup_cons]; simp)
          · exact h3 q hq hf
        · cases hx : x == p.1 with
          | true => exact h4 x c (by rw [List.lookup_cons, hx])
          | false => exact h4 x d (by rw [List.lookup_cons, hx]; exact e)
      · have e1 : ¬ (p.2 == NameKind.free) = true := fun z => hp (eq_of_beq z)
        rw [if_neg e1]
        simp only [pure_bind]
        obtain ⟨cl, h1, h2, h3, h4⟩ := ih cs (fun q hq => hl q (List.mem_cons_of_mem _ hq)) hcs
        refine ⟨cl, h1, h2, fun q hq hf => ?_, h4⟩
        rcases List.mem_cons.mp hq with rfl | hq
        · exact absurd hf hp
        · exact h3 q hq hf
  obtain ⟨cl, h1, h2, h3, _⟩ := key scope.names [] h (fun x c e => by cases e)
  refine ⟨cl, ?_, h2, h3⟩
  rw [← h1]
  simp only [bind_pure]

/-! ### the closure found by the context itself -/
theorem lookup_relabel {env : Env} : ∀ {names : List (Str × NameKind)} {x : Str} {k : NameKind}, names.lookup x = some k →
    (names.map fun (n, k) => if (k == NameKind.free && env.scope.kind == .function && env.kindOf n == some .cell) then (n, NameKind.cell) else (n, k)).lookup x = some (if (k == NameKind.free && env.scope.kind == .function && env.kindOf x == some .cell) then NameKind.cell else k)
  | [], _, _, h => by cases h
  | (n, k') :: r, x, k, h => by
    rw [List.map_cons]
    by_cases hx : (x == n) = true
    · have e : x = n := eq_of_beq hx
      subst e
      rw [List.lookup_cons, hx] at h
      cases h
      by_cases hc : (k' == NameKind.free && env.scope.kind == .function && env.kindOf x == some .cell) = true
      · show List.lookup x ((if (k' == NameKind.free && env.scope.kind == .function && env.kindOf x == some .cell) = true then (x, NameKind.cell) else (x, k')) :: _) = _
        rw [if_pos hc, if_pos hc, List.lookup_cons, hx]
      · show List.lookup x ((if (k' == NameKind.free && env.scope.kind == .function && env.kindOf x == some .cell) = true then (x, NameKind.cell) else (x, k')) :: _) = _
        rw [if_neg hc, if_neg hc, List.lookup_cons, hx]
    · have hf : (x == n) = false := by simpa using hx
      rw [List.lookup_cons, hf] at h
      have ih := lookup_relabel (env := env) h
      show List.lookup x ((if (k' == NameKind.free && env.scope.kind == .function && env.kindOf n == some .cell) = true then (n, NameKind.cell) else (n, k')) :: _) = _
      by_cases hc : (k' == NameKind.free && env.scope.kind == .function && env.kindOf n == some .cell) = true
      · rw [if_pos hc, List.lookup_cons, hf]; exact ih
      · rw [if_neg hc, List.lookup_cons, hf]; exact ih
theorem lookup_relabel_none {env : Env} : ∀ {names : List (Str × NameKind)} {x : Str}, names.lookup x = none →
    (names.map fun (n, k) => if (k == NameKind.free && env.scope.kind == .function && env.kindOf n == some .cell) then (n, NameKind.cell) else (n, k)).lookup x = none
  | [], _, _ => rfl
  | (n, k') :: r, x, h => by
    rw [List.map_cons]
    have hf : (x == n) = false := by
      cases hx : x == n with
      | false => rfl
      | true => rw [List.lookup_cons, hx] at h; cases h
    rw [List.lookup_cons, hf] at h
    have ih := lookup_relabel_none (env := env) h
    show List.lookup x ((if (k' == NameKind.free && env.scope.kind == .function && env.kindOf n == some .cell) = true then (n, NameKind.cell) else (n, k')) :: _) = _
    by_cases hc : (k' == NameKind.free && env.scope.kind == .function && env.kindOf n == some .cell) = true
    · rw [if_pos hc, List.lookup_cons, hf]; exact ih
    · rw [if_neg hc, List.lookup_cons, hf]; exact ih
structure CompG (X : Cx) (N : List Str) (scope : Scope) (jx : List (Option Nat)) : Prop where
  kind : scope.kind = .function
  cell : ∀ x ∈ scope.names, x.2 ≠ .cell
  names : ∀ x ∈ scope.names, x.2 = .local → scope.names.lookup x.1 = some .local
  xk : X.env.scope.kind = .function
  fr : ∀ x ∈ scope.names, x.2 = .free → X.env.scope.names.lookup x.1 = some .cell
  len : jx.length = N.length
  free : ∀ (i j : Nat) (x : Str), jx[i]? = some (some j) → N[i]? = some x → X.N[j]? = some x ∧ scope.names.lookup x = some .free
def freeOk (NX N : List Str) (scope : Scope) (jx : List (Option Nat)) : Bool := (jx.zip N).all fun p => match p.1 with
  | none => true
  | some j => decide (NX[j]? = some p.2) && decide (scope.names.lookup p.2 = some .free)
theorem compG {X : Cx} {N NX : List Str} {scope sc : Scope} {jx : List (Option Nat)} (e1 : X.env.scope = sc) (e2 : X.N = NX) (k : scope.kind = .function) (h1 : ∀ x ∈ scope.names, x.2 ≠ .cell) (h2 : ∀ x ∈ scope.names, x.2 = .local → scope.names.lookup x.1 = some .local)
    (h3 : sc.kind = .function) (h4 : ∀ x ∈ scope.names, x.2 = .free → sc.names.lookup x.1 = some .cell) (h5 : jx.length = N.length) (h6 : freeOk NX N scope jx = true) : CompG X N scope jx := by
  refine ⟨k, h1, h2, by rw [e1]; exact h3, by rw [e1]; exact h4, h5, fun i j x a b => ?_⟩
  rw [e2]
  unfold freeOk at h6
  rw [List.all_eq_true] at h6
  have z := h6 (some j, x) (List.mem_of_getElem? (i := i) (by rw [List.getElem?_zip_eq_some]; exact ⟨a, b⟩))
  simp only [Bool.and_eq_true, decide_eq_true_eq] at z
  exact z
section
variable {X : Cx} {N : List Str} {scope : Scope} {jx : List (Option Nat)}
theorem CompG.toF {pins : List (Addr × Obj)} {σ : L2.St} {H : Hp} {s : Shared} (cg : CompG X N scope jx) (I : Inv X pins σ H s) : ∃ cl, CompF X N scope cl jx := by
  obtain ⟨cl, h1, h2, h3⟩ := closureFor_cells (scope := scope) (env := X.env) fun p hp hf => I.ok.has p.1 (.inl (cg.fr p hp hf))
  have rel : ∀ x, scope.names.lookup x = some .free → (relabel scope X.env).names.lookup x = some .cell := fun x hx => by
    have z := lookup_relabel (env := X.env) hx
    have c : (NameKind.free == NameKind.free && X.env.scope.kind == .function && X.env.kindOf x == some .cell) = true := by
      have q : X.env.kindOf x = some .cell := cg.fr (x, .free) (PySem.mem_of_lookup hx) rfl
      rw [cg.xk, q]
      rfl
    rw [if_pos c] at z
    exact z
  refine ⟨cl, cg.kind, cg.cell, cg.names, h1, h2, fun x hx => ?_, cg.len, fun i j x a b => ?_⟩
  · cases e : scope.names.lookup x with
    | none =>
      have z : (relabel scope X.env).names.lookup x = none := lookup_relabel_none (env := X.env) e
      rw [z] at hx
      rcases hx with q | q <;> cases q
    | some k =>
      by_cases hk : k = .free
      · subst hk
        exact h3 (x, .free) (PySem.mem_of_lookup e) rfl
      · have z : (relabel scope X.env).names.lookup x = some (if (k == NameKind.free && X.env.scope.kind == .function && X.env.kindOf x == some .cell) then NameKind.cell else k) := lookup_relabel (env := X.env) e
        have c : (k == NameKind.free) = false := by
          cases q : k == NameKind.free with
          | false => rfl
          | true => exact absurd (eq_of_beq q) hk
        rw [c] at z
        simp only [Bool.false_and, Bool.false_eq_true, if_false] at z
        rw [z] at hx
        rcases hx with q | q
        · cases q
          exact absurd rfl (cg.cell (x, .cell) (PySem.mem_of_lookup e))
        · cases q
          exact absurd rfl hk
  · obtain ⟨f1, f2⟩ := cg.free i j x a b
    exact ⟨f1, cg.fr (x, .free) (PySem.mem_of_lookup f2) rfl, rel x f2⟩
theorem pe_compG {elt tg iter : Expr} {ifs : List Expr} {pos : Pos} {wi : TI} {g : TG} {tt : TT} {te : TE} (cg : CompG X N scope jx) (hc : X.calm = true) (hi : PI X tg iter wi)
    (hg : ∀ cl C s₀ H₀ ex pn, PG (cxF X N scope cl C s₀ H₀ ex pn) tg g) (ht : ∀ cl C s₀ H₀ ex pn, PTs (cxF X N scope cl C s₀ H₀ ex pn) ifs tt) (he : ∀ cl C s₀ H₀ ex pn, PE (cxF X N scope cl C s₀ H₀ ex pn) elt te)
    (hs : ∀ x, foldedSetIterable iter X.env x = pure x := by intro _; rfl) : PE X (.ListComp elt [⟨tg, iter, ifs, 0⟩] scope pos) (tCompF jx wi g tt te) := by
  intro pins s σ H Q I h
  obtain ⟨cl, cs⟩ := cg.toF I
  exact pe_compF cs hc hi (hg cl) (ht cl) (he cl) hs pins s σ H Q I h
theorem ps_setG {elt tg iter : Expr} {ifs : List Expr} {pos pos' pos2 : Pos} {wi : TI} {g : TG} {tt : TT} {te : TE} {i : Nat} {x : Str} (cg : CompG X N scope jx) (hc : X.calm = true) (hN : X.N.Nodup) (hix : X.N[i]? = some x) (hx : X.env.scope.names.lookup x = some .local) (hi : PI X tg iter wi)
    (hg : ∀ cl C s₀ H₀ ex pn, PG (cxF X N scope cl C s₀ H₀ ex pn) tg g) (ht : ∀ cl C s₀ H₀ ex pn, PTs (cxF X N scope cl C s₀ H₀ ex pn) ifs tt) (he : ∀ cl C s₀ H₀ ex pn, PE (cxF X N scope cl C s₀ H₀ ex pn) elt te)
    (hsw : swapsWith (.ListComp elt [⟨tg, iter, ifs, 0⟩] scope pos) (some (.Name x pos')) pos2.line X.env = pure true := by rfl)
    (hs : ∀ x, foldedSetIterable iter X.env x = pure x := by intro _; rfl) : PS X (.Assign [.Name x pos'] (.ListComp elt [⟨tg, iter, ifs, 0⟩] scope pos) pos2) (tAsg (tCompF jx wi g tt te) (gName i)) := by
  intro pins s σ H D I h
  obtain ⟨cl, cs⟩ := cg.toF I
  exact ps_setF cs hc hN hix hx hi (hg cl) (ht cl) (he cl) hsw hs pins s σ H D I h
end
end InkX

namespace InkX
open PySem PySem.Spec PyProof.Rows L2
/-! ### two clauses, with captured names -/
section
variable {X : Cx} {N : List Str} {scope : Scope} {cl : List (Str × Addr)} {jx : List (Option Nat)}
end
end InkX

namespace InkX
open PySem PySem.Spec PyProof.Rows L2
open AutoSeq1 (wpAny_loadPart')
section
variable {prog : Program} {w : World} {A : Around} {E : Value → Shared → Prop} {s : Shared} {κ : Type} [DecidableEq κ] {knd : KeyKind prog w κ}
end
end InkX

namespace InkF
open PySem PySem.Spec PyProof.Rows L2 InkX Ink
section
variable {X : Cx}
/-! ### list.insert -/
/-! ### deep equality -/
theorem rcAt_E {pins : List (Addr × Obj)} {σ : L2.St} {H : Hp} {s : Shared} {A : Around} (I : Inv X pins σ H s) {k : Bool} {a b : Addr} {xs ys : List V} (hu : A.units < cLine) (h1 : AtS k H a xs) (h2 : AtS k H b ys) (hl : xs.length = ys.length)
    (ih : ∀ (i : Nat) (x y : V) (u v : Value), xs[i]? = some x → ys[i]? = some y → RelV x u → RelV y v → SeqAt.EqAt A.in1 s u v true) : SeqAt.RcAt A s (.ref a) (.ref b) true := by
  have step : ∀ (us vs : List Value), Vals xs us → Vals ys vs → ∀ j (g1 : j < us.toArray.size) (g2 : j < vs.toArray.size), SeqAt.EqAt A.in1 s us.toArray[j] vs.toArray[j] ((fun _ => true) j) := by
    intro us vs r1 r2 j g1 g2
    have l1 := r1.length
    have l2 := r2.length
    have hj : j < xs.length := by simpa [l1] using g1
    have hj2 : j < ys.length := by omega
    have ej : xs[j]? = some xs[j] := by simp [hj]
    have ej2 : ys[j]? = some ys[j] := by simp [hj2]
    obtain ⟨u', eu, ru'⟩ := r1.get ej
    obtain ⟨v', ev, rv'⟩ := r2.get ej2
    have hu' : us.toArray[j] = u' := by
      have : us[j]? = some us.toArray[j] := by simp
      rw [this] at eu; exact Option.some.inj eu
    have hv' : vs.toArray[j] = v' := by
      have : vs[j]? = some vs.toArray[j] := by simp
      rw [this] at ev; exact Option.some.inj ev
    rw [hu', hv']
    exact ih j _ _ _ _ ej ej2 ru' rv'
  cases k with
  | true =>
    obtain ⟨us, r1, p1, _⟩ := I.list (SqL.of (K := X.K) h1)
    obtain ⟨vs, r2, p2, _⟩ := I.list (SqL.of (K := X.K) h2)
    have l1 := r1.length
    have l2 := r2.length
    have key := SeqAt.RcAt.lists (A := A) (s := s) p1.isList p2.isList (by simp; omega) hu (step us vs r1 r2)
    have e : (List.range us.toArray.size).all (fun _ => true) = true := by simp
    rw [e] at key
    exact key
  | false =>
    obtain ⟨us, r1, p1, _⟩ := I.tuple (SqT.of (K := X.K) h1)
    obtain ⟨vs, r2, p2, _⟩ := I.tuple (SqT.of (K := X.K) h2)
    have l1 := r1.length
    have l2 := r2.length
    have key := SeqAt.RcAt.tuples (A := A) (s := s) (e := fun _ => true) p1 p2 hu (step us vs r1 r2)
    have e : ((List.range (min us.toArray.size vs.toArray.size)).all (fun _ => true) && us.toArray.size == vs.toArray.size) = true := by simp; omega
    rw [e] at key
    exact key
theorem eqAt_E {pins : List (Addr × Obj)} {σ : L2.St} {H : Hp} {s : Shared} (I : Inv X pins σ H s) : ∀ (n : Nat) (A : Around) (x y : V) (u v : Value), A.units + n < cLine → Eqv H n x y → RelV x u → RelV y v → SeqAt.EqAt A s u v true := by
  intro n
  induction n with
  | zero => intro A x y u v _ h; exact h.elim
  | succ n ih =>
    intro A x y u v hu h ru rv
    rcases h with ⟨fx, rfl⟩ | ⟨k, a, b, xs, ys, rfl, rfl, h1, h2, hl, hi⟩
    · refine eqAt_id ?_ ru rv
      cases x <;> first | rfl | exact fx
    · cases (show u = Value.ref a from ru)
      cases (show v = Value.ref b from rv)
      by_cases hab : a = b
      · subst hab
        exact SeqAt.EqAt.same _
      exact SeqAt.EqAt.of_refs hab (rcAt_E I (by omega) h1 h2 hl fun i x y u v ex ey ru rv => ih A.in1 x y u v (by show A.units + 1 + n < cLine; omega) (hi i x y ex ey) ru rv)
def rNeE (n : Nat) : R2 := fun x y H Q => ∃ (a b : Addr) (xs ys : List V), x = .ref a ∧ y = .ref b ∧ H a = some (.lst xs) ∧ H b = some (.lst ys) ∧ Eqv H n x y ∧ Q (.bl false) H
theorem op_neE (n : Nat) (hu : X.A.units + n < cLine) : OpR X (compareOp .NotEq) (rNeE n) := by
  intro pins s σ H x y v u Q I rx ry h
  obtain ⟨a, b, xs, ys, rfl, rfl, ha, hb, h, q⟩ := h
  cases (show v = Value.ref a from rx)
  cases (show u = Value.ref b from ry)
  cases n with
  | zero => exact h.elim
  | succ n =>
    rcases h with ⟨fx, _⟩ | ⟨k, a', b', xs', ys', e1, e2, h1, h2, hl, hi⟩
    · cases fx
    · cases e1
      cases e2
      cases k with
      | false =>
        have h1' : H a = some (.tup xs') := h1
        rw [ha] at h1'
        cases h1'
      | true =>
        have h1' : H a = some (.lst xs') := h1
        have h2' : H b = some (.lst ys') := h2
        obtain ⟨us, r1, p1, _⟩ := I.list (SqL.of (K := X.K) h1')
        obtain ⟨vs, r2, p2, _⟩ := I.list (SqL.of (K := X.K) h2')
        have l1 := r1.length
        have l2 := r2.length
        refine SeqAt.RcNeAt.lists (e := fun _ => true) p1.isList p2.isList (by simp; omega) (by omega) (fun j g1 g2 => ?_) _ _ _ _ ?_
        · have hj : j < xs'.length := by simpa [l1] using g1
          have hj2 : j < ys'.length := by omega
          have ej : xs'[j]? = some xs'[j] := by simp [hj]
          have ej2 : ys'[j]? = some ys'[j] := by simp [hj2]
          obtain ⟨u', eu, ru'⟩ := r1.get ej
          obtain ⟨v', ev, rv'⟩ := r2.get ej2
          have hu' : us.toArray[j] = u' := by
            have : us[j]? = some us.toArray[j] := by simp
            rw [this] at eu; exact Option.some.inj eu
          have hv' : vs.toArray[j] = v' := by
            have : vs[j]? = some vs.toArray[j] := by simp
            rw [this] at ev; exact Option.some.inj ev
          rw [hu', hv']
          exact eqAt_E I n X.A.in1 _ _ _ _ (by show X.A.units + 1 + n < cLine; omega) (hi j _ _ ej ej2) ru' rv'
        · have e : (List.range us.toArray.size).all (fun _ => true) = true := by simp
          rw [e]
          exact ⟨.bl (!true), H, I, rfl, q⟩
end
end InkF

namespace Ink
open PySem PySem.Spec PyProof.Rows L2 InkX InkE InkF
/-! ### two lists side by side -/
inductive All2 {α β : Type} (R : α → β → Prop) : List α → List β → Prop
  | nil : All2 R [] []
  | cons {a : α} {b : β} {as : List α} {bs : List β} : R a b → All2 R as bs → All2 R (a :: as) (b :: bs)
section
variable {α β : Type} {R R' : α → β → Prop} {as : List α} {bs : List β} {a : α} {b : β}
theorem All2.len : ∀ {as : List α} {bs : List β}, All2 R as bs → as.length = bs.length
  | _, _, .nil => rfl
  | _, _, .cons _ t => by rw [List.length_cons, List.length_cons, t.len]
theorem All2.get : ∀ {as : List α} {bs : List β} {i : Nat}, All2 R as bs → as[i]? = some a → ∃ b, bs[i]? = some b ∧ R a b
  | _, _, _, .nil, h => by simp at h
  | _, _, 0, .cons r _, h => by simp at h; subst h; exact ⟨_, rfl, r⟩
  | _, _, i + 1, .cons _ t, h => by simp at h; simpa using t.get h
theorem All2.get' : ∀ {as : List α} {bs : List β} {i : Nat}, All2 R as bs → bs[i]? = some b → ∃ a, as[i]? = some a ∧ R a b
  | _, _, _, .nil, h => by simp at h
  | _, _, 0, .cons r _, h => by simp at h; subst h; exact ⟨_, rfl, r⟩
  | _, _, i + 1, .cons _ t, h => by simp at h; simpa using t.get' h
theorem All2.snoc : ∀ {as : List α} {bs : List β}, All2 R as bs → R a b → All2 R (as ++ [a]) (bs ++ [b])
  | _, _, .nil, h => .cons h .nil
  | _, _, .cons r t, h => .cons r (t.snoc h)
theorem All2.mono : ∀ {as : List α} {bs : List β}, (∀ a b, R a b → R' a b) → All2 R as bs → All2 R' as bs
  | _, _, _, .nil => .nil
  | _, _, h, .cons r t => .cons (h _ _ r) (t.mono h)
theorem All2.set : ∀ {as : List α} {bs : List β} (i : Nat), All2 R as bs → R a b → All2 R (as.set i a) (bs.set i b)
  | _, _, _, .nil, _ => .nil
  | _, _, 0, .cons _ t, h => .cons h t
  | _, _, i + 1, .cons r t, h => .cons r (t.set i h)
theorem All2.split : ∀ {as : List α} {bs : List β}, All2 R as (bs ++ [b]) → ∃ as' a, as = as' ++ [a] ∧ All2 R as' bs ∧ R a b
  | _, [], .cons r .nil => ⟨[], _, rfl, .nil, r⟩
  | _, c :: bs, .cons r t => by
    obtain ⟨as', a, rfl, t', r'⟩ := t.split
    exact ⟨_ :: as', a, rfl, .cons r t', r'⟩
end
/-! ### items -/
inductive Item where
  | win (n : Int)
  | ink (a b : Int)
def itemVs : Item → List V
  | .win n => [.str "win", .int n]
  | .ink a b => [.str "ink", .int a, .int b]
def ItemAt (H : Hp) (v : V) (it : Item) : Prop := ∃ a, v = .ref a ∧ H a = some (.tup (itemVs it))
theorem ItemAt.same {H H' : Hp} {v : V} {it : Item} (s : Same H H') : ItemAt H v it → ItemAt H' v it := fun ⟨a, e, h⟩ => ⟨a, e, s _ _ h⟩
theorem ItemAt.keep {H H' : Hp} {v : V} {it : Item} {q : Addr} {xs : List V} (hq : H q = some (.lst xs)) (k : Keep q H H') : ItemAt H v it → ItemAt H' v it := fun ⟨a, e, h⟩ => ⟨a, e, k a _ h (by
  intro z
  rw [z, hq] at h
  cases h)⟩
def ItemsAt (H : Hp) (v : V) (its : List Item) : Prop := ∃ a vs, v = .ref a ∧ H a = some (.lst vs) ∧ All2 (ItemAt H) vs its
theorem ItemsAt.same {H H' : Hp} {v : V} {its : List Item} (s : Same H H') : ItemsAt H v its → ItemsAt H' v its := fun ⟨a, vs, e, h, t⟩ => ⟨a, vs, e, s _ _ h, t.mono fun _ _ => ItemAt.same s⟩
def SheetsAt (H : Hp) (r : Addr) (rows : List (List Item)) : Prop := ∃ vs, H r = some (.lst vs) ∧ All2 (ItemsAt H) vs rows
theorem SheetsAt.same {H H' : Hp} {r : Addr} {rows : List (List Item)} (s : Same H H') : SheetsAt H r rows → SheetsAt H' r rows := fun ⟨vs, h, t⟩ => ⟨vs, s _ _ h, t.mono fun _ _ => ItemsAt.same s⟩
theorem ItemAt.eqv {H : Hp} {x y : V} {it : Item} (n : Nat) (h1 : ItemAt H x it) (h2 : ItemAt H y it) : Eqv H (n + 2) x y := by
  obtain ⟨a, rfl, e1⟩ := h1
  obtain ⟨b, rfl, e2⟩ := h2
  refine .inr ⟨false, a, b, _, _, rfl, rfl, e1, e2, rfl, fun i u v eu ev => ?_⟩
  rw [eu] at ev
  cases ev
  cases it with
  | win n =>
    match i, eu with
    | 0, e => cases e; exact .inl ⟨rfl, rfl⟩
    | 1, e => cases e; exact .inl ⟨rfl, rfl⟩
    | k + 2, e => simp [itemVs] at e
  | ink p q =>
    match i, eu with
    | 0, e => cases e; exact .inl ⟨rfl, rfl⟩
    | 1, e => cases e; exact .inl ⟨rfl, rfl⟩
    | 2, e => cases e; exact .inl ⟨rfl, rfl⟩
    | k + 3, e => simp [itemVs] at e
theorem ItemsAt.eqv {H : Hp} {x y : V} {its : List Item} (n : Nat) (h1 : ItemsAt H x its) (h2 : ItemsAt H y its) : Eqv H (n + 3) x y := by
  obtain ⟨a, vs, rfl, e1, t1⟩ := h1
  obtain ⟨b, us, rfl, e2, t2⟩ := h2
  refine .inr ⟨true, a, b, _, _, rfl, rfl, e1, e2, by rw [t1.len, t2.len], fun i u v eu ev => ?_⟩
  obtain ⟨z, ez, r1⟩ := t1.get eu
  obtain ⟨z', ez', r2⟩ := t2.get ev
  rw [ez] at ez'
  cases ez'
  exact r1.eqv n r2
theorem SheetsAt.eqv {H : Hp} {x y : Addr} {rows : List (List Item)} (n : Nat) (h1 : SheetsAt H x rows) (h2 : SheetsAt H y rows) : Eqv H (n + 4) (.ref x) (.ref y) := by
  obtain ⟨vs, e1, t1⟩ := h1
  obtain ⟨us, e2, t2⟩ := h2
  refine .inr ⟨true, x, y, _, _, rfl, rfl, e1, e2, by rw [t1.len, t2.len], fun i u v eu ev => ?_⟩
  obtain ⟨z, ez, r1⟩ := t1.get eu
  obtain ⟨z', ez', r2⟩ := t2.get ev
  rw [ez] at ez'
  cases ez'
  exact r1.eqv n r2
def itemsStep (t : List Item) (e : Int) : List Item :=
  if e < 0 then t ++ [.win (-1 - e)] else
  match t.getLast? with
  | some (.ink a b) => if b = e then t.dropLast ++ [.ink a (e + 1)] else t ++ [.ink e (e + 1)]
  | _ => t ++ [.ink e (e + 1)]
def itemsOf (es : List Int) : List Item := es.foldl itemsStep []
theorem items_len (es : List Int) : ∀ t : List Item, (es.foldl itemsStep t).length ≤ t.length + es.length := by
  induction es with
  | nil => intro t; simp
  | cons e es ih =>
    intro t
    rw [List.foldl_cons]
    have z := ih (itemsStep t e)
    have z2 : (itemsStep t e).length ≤ t.length + 1 := by
      unfold itemsStep
      split
      · simp
      · split
        · split
          · rw [List.length_append, List.length_dropLast, List.length_singleton]; omega
          · simp
        · simp
    rw [List.length_cons]
    omega
/-! ### the windows of rows of entries, and where they lead -/
inductive Reach (E : Int → Int → Prop) (s : Int) : Int → Prop
  | one {y : Int} : E s y → Reach E s y
  | step {y z : Int} : Reach E s y → E y z → Reach E s z
/-- a walk: from its first sheet on, window by window -/
def Walk (E : Int → Int → Prop) (s : Int) (w : List Int) : Prop := w[0]? = some s ∧ ∀ (i : Nat) (x y : Int), w[i]? = some x → w[i + 1]? = some y → E x y
theorem Walk.one (E : Int → Int → Prop) (s : Int) : Walk E s [s] := ⟨rfl, fun i x y _ h => by simp at h⟩
theorem Walk.snoc {E : Int → Int → Prop} {s e y : Int} {w : List Int} (h : Walk E s w) (hl : w.getLast? = some e) (he : E e y) : Walk E s (w ++ [y]) := by
  obtain ⟨h0, h1⟩ := h
  have hw : w ≠ [] := by intro z; rw [z] at hl; cases hl
  have hpos : 0 < w.length := by cases w with | nil => exact absurd rfl hw | cons _ _ => simp
  refine ⟨by rw [List.getElem?_append_left hpos]; exact h0, fun i x z hx hz => ?_⟩
  by_cases c : i + 1 < w.length
  · rw [List.getElem?_append_left c] at hz
    rw [List.getElem?_append_left (by omega)] at hx
    exact h1 i x z hx hz
  · have c2 : i + 1 = w.length := by
      have : i + 1 < (w ++ [y]).length := by
        rcases Nat.lt_or_ge (i + 1) (w ++ [y]).length with q | q
        · exact q
        · rw [List.getElem?_eq_none q] at hz; cases hz
      rw [List.length_append, List.length_singleton] at this
      omega
    rw [c2, List.getElem?_append_right (Nat.le_refl _), Nat.sub_self] at hz
    rw [List.getElem?_append_left (by omega)] at hx
    rw [List.getLast?_eq_getElem?] at hl
    have : i = w.length - 1 := by omega
    rw [this, hl] at hx
    cases hx
    cases hz
    exact he
theorem Walk.reach {E : Int → Int → Prop} {s : Int} {w : List Int} (h : Walk E s w) : ∀ (i : Nat) (y : Int), w[i + 1]? = some y → Reach E s y := by
  intro i
  induction i with
  | zero => intro y hy; exact .one (h.2 0 s y h.1 hy)
  | succ i ih =>
    intro y hy
    have : ∃ x, w[i + 1]? = some x := by
      rcases Nat.lt_or_ge (i + 1) w.length with q | q
      · exact ⟨w[i + 1], List.getElem?_eq_getElem q⟩
      · rw [List.getElem?_eq_none (by omega)] at hy; cases hy
    obtain ⟨x, hx⟩ := this
    exact .step (ih x hx) (h.2 _ _ _ hx hy)
/-! ### counting what is not seen -/
/-! ### entries -/
def EntsAt (av : Addr → Prop) (H : Hp) (v : V) (es : List Int) : Prop := ∃ a, v = .ref a ∧ ¬ av a ∧ H a = some (.lst (es.map V.int))
def RowsAt (av : Addr → Prop) (H : Hp) (r : Addr) (rows : List (List Int)) : Prop := ∃ vs, H r = some (.lst vs) ∧ All2 (EntsAt av H) vs rows
theorem EntsAt.keep {av : Addr → Prop} {H H' : Hp} {v : V} {es : List Int} (k : ∀ a o, ¬ av a → H a = some o → H' a = some o) : EntsAt av H v es → EntsAt av H' v es := fun ⟨a, e, n, h⟩ => ⟨a, e, n, k a _ n h⟩
theorem RowsAt.same {av : Addr → Prop} {H H' : Hp} {r : Addr} {rows : List (List Int)} (s : Same H H') : RowsAt av H r rows → RowsAt av H' r rows := fun ⟨vs, h, t⟩ => ⟨vs, s _ _ h, t.mono fun _ _ => EntsAt.keep fun a o _ e => s a o e⟩
theorem RowsAt.get {av : Addr → Prop} {H : Hp} {r : Addr} {rows : List (List Int)} {i : Nat} {es : List Int} (h : RowsAt av H r rows) (e : rows[i]? = some es) : ∃ vs a, H r = some (.lst vs) ∧ vs[i]? = some (.ref a) ∧ H a = some (.lst (es.map V.int)) ∧ vs.length = rows.length := by
  obtain ⟨vs, hr, t⟩ := h
  obtain ⟨v, ev, a, rfl, _, ha⟩ := t.get' e
  exact ⟨vs, a, hr, ev, ha, t.len⟩
theorem EntsAt.at {av : Addr → Prop} {H : Hp} {v : V} {es : List Int} {q : Addr} (o : HO) (hq : av q) : EntsAt av H v es → EntsAt av (upd H q o) v es := EntsAt.keep fun a u n e => by
  rw [upd_ne (fun z => n (by rw [z]; exact hq))]
  exact e
theorem EntsAt.new {av : Addr → Prop} {H : Hp} {v : V} {es : List Int} {p : Addr} (o : HO) (hp : H p = none) : EntsAt av H v es → EntsAt av (upd H p o) v es := EntsAt.keep fun a u _ e => same_new hp o a u e
theorem EntsAt.same {av : Addr → Prop} {H H' : Hp} {v : V} {es : List Int} (s : Same H H') : EntsAt av H v es → EntsAt av H' v es := EntsAt.keep fun a u _ e => s a u e
def seen (kvs : List (Key × V)) (x : Int) : Prop := (valV kvs (Sum.inl x)).isSome = true
theorem All2.new {H2 : Hp} {q t : Addr} {vs : List V} {its : List Item} {it : Item} {ys : List V} (hq2 : H2 q = some (.lst ys)) (hb : All2 (ItemAt H2) vs its) (ht : H2 t = none) (zs : List V) :
    All2 (ItemAt (upd (upd H2 t (.tup (itemVs it))) q (.lst zs))) (vs ++ [.ref t]) (its ++ [it]) := by
  have ntq : q ≠ t := ne_of_none hq2 ht
  have s1 : Same H2 (upd H2 t (.tup (itemVs it))) := same_new ht _
  refine All2.snoc (hb.mono fun v i h => (h.same s1).keep (s1 _ _ hq2) (keep_upd q _ _)) ⟨t, rfl, ?_⟩
  rw [upd_ne ntq.symm, upd_same]
end Ink

namespace InkP
open PySem PySem.Spec PyProof.Rows L2 InkX
section
variable {M : Model} {A : Around} {E : Value → Shared → Prop} {s : Shared}
theorem inplace_list {a b : Value} {Q : Value → Shared → Prop} (ha : s.TypeIs a "list") (hb : s.TypeIs b "list") (hc : wpAny M A (call (.builtin "list.__iadd__") [a, b]) Q E s) : wpAny M A (inplaceOp .Add a b) Q E s := by
  unfold inplaceOp
  refine wpAny_holding ?_
  have hq : isSeqSlot (some (.builtin "list.__iadd__")) = true := by decide +kernel
  have hfi : fillsInplaceSlot (.type "list") "add" (Operator.Add == .Add) = pure false := by
    unfold fillsInplaceSlot
    show (typeLookup (.type "list") (dunderI "add") >>= fun fi => pure (fi.isSome && !isSeqSlot fi)) = pure false
    rw [PySem.F.slot_list_iadd.lookup, pure_bind, hq]; rfl
  have hsi : seqSlot? (.type "list") (dunderI "add") = pure (some (.builtin "list.__iadd__")) := PySem.seqSlot_of PySem.F.slot_list_iadd.lookup hq
  refine wpAny_bind (wpAny_typeOf ha (wpAny_bind (wpAny_of_eq hfi ?_)))
  show wpAny M A (if false = true then _ else _) Q E s
  rw [if_neg Bool.false_ne_true]
  refine wpAny_bind (binaryOp1_none (nm := "add") ha hb PySem.noFill_list_add ?_)
  refine wpAny_bind (wpAny_of_eq hsi ?_)
  exact wpAny_bind (wpAny_rule hc)
end
section
variable {X : Cx}
/-- xs += zs, in place -/
def rIadd : V → V → Hp → VK → Prop := fun x y H Q => ∃ l b xs zs, x = .ref l ∧ y = .ref b ∧ H l = some (.lst xs) ∧ H b = some (.lst zs) ∧ xs.length + zs.length ≤ sizeLine ∧ Q (.ref l) (upd H l (.lst (xs ++ zs)))
theorem ip_cat : PIp X .Add rIadd := by
  intro pins s σ H x y v u Q I rx ry h
  obtain ⟨l, b, xs, zs, rfl, rfl, hH, hB, hz, q⟩ := h
  cases rx
  cases ry
  obtain ⟨z, its, n, r, hl, e⟩ := I.lstM hH
  obtain ⟨z2, its2, n2, r2, hl2, e2⟩ := I.lstM hB
  have hsz : its.toArray.size + its2.toArray.size ≤ sizeLine := by rw [List.size_toArray, List.size_toArray]; omega
  have hlong : ¬ (!its.toArray.isEmpty && Builtin.List.listTooLong (its.toArray.size + its2.toArray.size)) = true := by
    rw [notLongL hsz, Bool.and_false]
    exact Bool.false_ne_true
  refine inplace_list ⟨_, e, rfl⟩ ⟨_, e2, rfl⟩ ?_
  refine call_meets PySem.F.slot_list_iadd ⟨_, e, rfl⟩ PySem.F.entry_list_iadd (PySem.F.args_list_iadd_2 _ _)
    (AutoSeq1.list___iadd___list_list_0 l its.toArray n b its2.toArray n2 hlong (by rw [List.size_toArray]; omega) (by omega)) ⟨e, e2, ?_⟩
  refine ⟨.ref l, _, I.lset (its' := its ++ its2) hH e (by simp) (r.append r2) ?_, rfl, q⟩
  rw [List.length_append]
  omega
section
variable {N : List Str} {scope : Scope} {cl : List (Str × Addr)} {C : Addr} {s₀ : Shared} {H₀ : Hp} {ex : List Addr} {pn : List (Addr × Obj)}
theorem callF_list : CallR (cxF X N scope cl C s₀ H₀ ex pn) (.type "list") (fun xs H Q => ∃ p ys, xs = [.ref p] ∧ (SqL X.K H p ys ∨ SqT X.K H p ys) ∧ ∀ l, H l = none → Q (.ref l) (upd H l (.lst ys))) := call_list_of
theorem callF_len : CallR (cxF X N scope cl C s₀ H₀ ex pn) (.builtin "len") (fun xs H Q => ∃ p ys, xs = [.ref p] ∧ (SqL X.K H p ys ∨ SqT X.K H p ys) ∧ Q (.int ys.length) H) := call_len_seq
end
theorem in_cat : InOp X .Add rIadd := fun pins s σ H x y u v Q I rx ry h => ip_cat pins s σ H x y u v Q I rx ry h
end
end InkP

namespace Ink
open PySem PySem.Spec PyProof.Rows L2 InkX InkE InkF
end Ink

namespace InkS
open PySem PySem.Spec PyProof.Rows L2 InkX
/-! ### sorted, of a list of pairs of ints: fewer than 64 of them -/
/-- the order of pairs -/
def Le (p q : Int × Int) : Prop := p.1 < q.1 ∨ (p.1 = q.1 ∧ p.2 ≤ q.2)
instance (p q : Int × Int) : Decidable (Le p q) := by unfold Le; infer_instance
def less (p q : Int × Int) : Bool := decide (¬ Le q p)
/-- what a pair in the heap is -/
def PairIn (h : Heap) (v : Value) (p : Int × Int) : Prop := ∃ a t u, v = .ref a ∧ IsTup h a #[.int p.1 t, .int p.2 u]
/-! the array that is sorted, seen by its keys -/
section
variable {prog : Program} {w : World} {A : Around} {E : Value → Shared → Prop} {s : Shared} {z : Array Keyed} {key : Value → Int × Int}
def kp (key : Value → Int × Int) (xs : Array Keyed) (i : Nat) : Int × Int := (xs[i]?.map fun r => key r.1).getD (0, 0)
theorem kp_of {xs ys : Array Keyed} {i j : Nat} (h : xs[i]? = ys[j]?) : kp key xs i = kp key ys j := by unfold kp; rw [h]
def Up (key : Value → Int × Int) (xs : Array Keyed) (n : Nat) : Prop := ∀ i j, i ≤ j → j < n → Le (kp key xs i) (kp key xs j)
def Dn (key : Value → Int × Int) (xs : Array Keyed) (n : Nat) : Prop := ∀ i j, i ≤ j → j < n → Le (kp key xs j) (kp key xs i)
theorem Le.rfl' (p : Int × Int) : Le p p := .inr ⟨rfl, Int.le_refl _⟩
theorem Le.tr {p q r : Int × Int} (h : Le p q) (g : Le q r) : Le p r := by unfold Le at *; omega
theorem Le.anti {p q : Int × Int} (h : Le p q) (g : Le q p) : p = q := by
  unfold Le at *
  exact Prod.ext (by omega) (by omega)
theorem Le.of_not {p q : Int × Int} (h : ¬ Le p q) : Le q p := by unfold Le at *; omega
theorem less_t {p q : Int × Int} (h : less p q = true) : ¬ Le q p := of_decide_eq_true h
theorem less_f {p q : Int × Int} (h : less p q = false) : Le q p := by
  unfold less at h
  exact Classical.byContradiction fun c => by rw [decide_eq_true c] at h; cases h
/-- what stays as the sort goes on -/
structure Bas (z : Array Keyed) (st : SortSt) : Prop where
  pm : (arrOf st).Perm z
  kd : kindOf st = tuples' true
  fl : failedOf st = none
  pd : pendingOf st = #[]
theorem Bas.sz {st : SortSt} (b : Bas z st) : (arrOf st).size = z.size := b.pm.size_eq
theorem Bas.put {st : SortSt} (b : Bas z st) {xs : Array Keyed} (h : xs.Perm (arrOf st)) : Bas z (setArr st xs) := ⟨h.trans b.pm, b.kd, b.fl, b.pd⟩
/-- two keys of the array may be compared -/
def Can (prog : Program) (w : World) (A : Around) (s : Shared) (key : Value → Int × Int) (z : Array Keyed) : Prop :=
  ∀ r ∈ z.toList, ∀ o ∈ z.toList, ∀ (E : Value → Shared → Prop) (Q : Bool → Shared → Prop), Q (less (key r.1) (key o.1)) s → wpAny (model prog w) A (keyLt' (tuples' true) r.1 o.1) Q E s
theorem Bas.get {st : SortSt} (b : Bas z st) {i : Nat} (hi : i < z.size) : ∃ r ∈ z.toList, (arrOf st)[i]? = some r ∧ kp key (arrOf st) i = key r.1 := by
  have hi2 : i < (arrOf st).size := by rw [b.sz]; exact hi
  refine ⟨(arrOf st)[i], (Array.perm_iff_toList_perm.mp b.pm).mem_iff.mp (by simp), getElem?_pos _ i hi2, ?_⟩
  unfold kp
  rw [getElem?_pos _ i hi2]
  rfl
theorem cmp {st : SortSt} {i j : Nat} {Q : Option Bool → SortSt → Prop} (C : Can prog w A s key z) (b : Bas z st) (hi : i < z.size) (hj : j < z.size)
    (h : Q (some (less (kp key (arrOf st) i) (kp key (arrOf st) j))) st) : wpS (model prog w) A E s (ltAt' i j) Q st := by
  obtain ⟨r, hr, e1, k1⟩ := b.get (key := key) hi
  obtain ⟨o, ho, e2, k2⟩ := b.get (key := key) hj
  rw [k1, k2] at h
  rw [ltAt'_eq]
  refine wpS_bind (wpS_get ?_)
  show wpS _ _ _ _ (do let u ← elem' (arrOf st) i; let v ← elem' (arrOf st) j; lt' u v) Q st
  rw [elem'_eq, elem'_eq, e1, e2]
  refine wpS_bind (wpS_pure (wpS_bind (wpS_pure ?_)))
  rw [lt'_eq]
  refine wpS_bind (wpS_get ?_)
  rw [b.kd]
  refine wpS_bind (wpS_lift (wpAny_attempt (C r hr o ho _ _ ?_)))
  exact ⟨rfl, wpS_pure h⟩
theorem kp_turn {xs : Array Keyed} {i j : Nat} (hj : j ≤ xs.size) (k : Nat) : kp key (mirror xs i j ((j - i) / 2)) k = if i ≤ k ∧ k < j then kp key xs (i + j - 1 - k) else kp key xs k := by
  have e := getElem?_mirror_all (i := i) hj k
  split at e
  · rename_i c; rw [if_pos c]; exact kp_of e
  · rename_i c; rw [if_neg c]; exact kp_of e
/-- alike keys turned about stay alike -/
theorem kp_alike {xs : Array Keyed} {i j : Nat} (hj : j ≤ xs.size) (g : ∀ k, i ≤ k → k < j → kp key xs k = kp key xs (j - 1)) (k : Nat) : kp key (mirror xs i j ((j - i) / 2)) k = kp key xs k := by
  rw [kp_turn hj]
  by_cases c : i ≤ k ∧ k < j
  · rw [if_pos c, g _ (by omega) (by omega), g k c.1 c.2]
  · rw [if_neg c]
theorem Up.more {xs : Array Keyed} {n : Nat} (h : Up key xs n) (g : n = 0 ∨ Le (kp key xs (n - 1)) (kp key xs n)) : Up key xs (n + 1) := by
  intro i j ij hj
  by_cases c : j < n
  · exact h i j ij c
  · have e : j = n := by omega
    subst e
    by_cases d : i = j
    · subst d; exact Le.rfl' _
    · exact (h i (j - 1) (by omega) (by omega)).tr (g.resolve_left (by omega))
theorem Dn.more {xs : Array Keyed} {n : Nat} (h : Dn key xs n) (g : n = 0 ∨ Le (kp key xs n) (kp key xs (n - 1))) : Dn key xs (n + 1) := by
  intro i j ij hj
  by_cases c : j < n
  · exact h i j ij c
  · have e : j = n := by omega
    subst e
    by_cases d : i = j
    · subst d; exact Le.rfl' _
    · exact (g.resolve_left (by omega)).tr (h i (j - 1) (by omega) (by omega))
theorem Dn.eqv {xs ys : Array Keyed} {n : Nat} (h : Dn key xs n) (g : ∀ k, kp key ys k = kp key xs k) : Dn key ys n := fun i j ij hj => by rw [g, g]; exact h i j ij hj
theorem Up.one (xs : Array Keyed) : Up key xs 1 := fun i j ij hj => by
  have : i = j := by omega
  subst this
  exact Le.rfl' _
theorem rising {st : SortSt} {a n : Nat} {Q : AscSt → SortSt → Prop} (C : Can prog w A s key z) (hn : n ≤ z.size) (ha : 1 ≤ a) (an : a ≤ n) (b : Bas z st) (u : Up key (arrOf st) a)
    (h : ∀ m, a ≤ m → m ≤ n → Up key (arrOf st) m → (m = n ∨ ¬ Le (kp key (arrOf st) (m - 1)) (kp key (arrOf st) m)) → Q (none, m) st) : wpS (model prog w) A E s (ascLoop a n) Q st := by
  unfold ascLoop
  refine wpS_forRange (I := fun x c t => t = st ∧ c = (none, x) ∧ Up key (arrOf st) x) ?turn ?out ⟨rfl, rfl, u⟩
  case out =>
    rintro c t ⟨rfl, rfl, u'⟩
    have e : max a n = n := by omega
    rw [e] at u' ⊢
    exact h n an (Nat.le_refl _) u' (.inl rfl)
  case turn =>
    rintro x c t ax xn ⟨rfl, rfl, u'⟩
    dsimp only
    refine wpS_bind (cmp C b (by omega) (by omega) ?_)
    cases e : less (kp key (arrOf t) x) (kp key (arrOf t) (x - 1)) with
    | true =>
      simp only [if_true]
      exact wpS_pure (h x ax (by omega) u' (.inr (less_t e)))
    | false =>
      simp only [Bool.false_eq_true, if_false]
      exact wpS_pure ⟨rfl, rfl, u'.more (.inr (less_f e))⟩
theorem turned {st : SortSt} {m n : Nat} {Q : Option Nat → SortSt → Prop} (C : Can prog w A s key z) (hn : n ≤ z.size) (h1 : 1 ≤ m) (mn : m ≤ n) (b : Bas z st) (d : Dn key (arrOf st) m)
    (h : ∀ k t, Bas z t → 1 ≤ k → k ≤ n → Up key (arrOf t) k → Q (some k) t) : wpS (model prog w) A E s (tail3 m n) Q st := by
  unfold tail3
  have hs : m ≤ (arrOf st).size := by rw [b.sz]; omega
  refine wpS_bind (wpS_reverse ?_)
  have b' := b.put (mirror_perm (arrOf st) 0 m ((m - 0) / 2))
  refine wpS_bind (rising C hn h1 mn b' (fun i j ij hj => ?_) fun k k1 k2 u _ => wpS_pure (h k _ b' (by omega) k2 u))
  show Le (kp key (mirror (arrOf st) 0 m ((m - 0) / 2)) i) (kp key (mirror (arrOf st) 0 m ((m - 0) / 2)) j)
  rw [kp_turn hs, kp_turn hs, if_pos ⟨by omega, by omega⟩, if_pos ⟨by omega, by omega⟩]
  exact d _ _ (by omega) (by omega)
/-- the last e + 1 keys below m are alike -/
def Tail (key : Value → Int × Int) (xs : Array Keyed) (m e : Nat) : Prop := e + 1 ≤ m ∧ ∀ k, m - (e + 1) ≤ k → k < m → kp key xs k = kp key xs (m - 1)
theorem Tail.none {xs : Array Keyed} {m : Nat} (h : 1 ≤ m) : Tail key xs m 0 := ⟨h, fun k a b => by congr 1; omega⟩
theorem falling {st : SortSt} {m n : Nat} {Q : DescSt → SortSt → Prop} (C : Can prog w A s key z) (hn : n ≤ z.size) (h1 : 1 ≤ m) (mn : m ≤ n) (b : Bas z st) (d : Dn key (arrOf st) m)
    (h : ∀ k e t, Bas z t → m ≤ k → k ≤ n → Dn key (arrOf t) k → Tail key (arrOf t) k e → Q (none, k, e) t) : wpS (model prog w) A E s (descLoop m n) Q st := by
  unfold descLoop
  refine wpS_forRange (I := fun x c t => ∃ e, c = (none, x, e) ∧ Bas z t ∧ Dn key (arrOf t) x ∧ Tail key (arrOf t) x e) ?turn ?out ⟨0, rfl, b, d, .none h1⟩
  case out =>
    rintro c t ⟨e, rfl, b', d', g⟩
    have q : max m n = n := by omega
    rw [q] at d' g ⊢
    exact h n e t b' mn (Nat.le_refl _) d' g
  case turn =>
    rintro x c t mx xn ⟨e, rfl, b', d', g⟩
    dsimp only
    have hs : x ≤ (arrOf t).size := by rw [b'.sz]; omega
    refine wpS_bind (cmp C b' (by omega) (by omega) ?_)
    cases q : less (kp key (arrOf t) x) (kp key (arrOf t) (x - 1)) with
    | true =>
      simp only [if_true]
      have d2 : Dn key (arrOf t) (x + 1) := d'.more (.inr (Le.of_not (less_t q)))
      by_cases c : e > 0
      · rw [if_pos c]
        exact wpS_bind (wpS_reverse (wpS_pure ⟨0, rfl, b'.put (mirror_perm _ _ _ _), d2.eqv (kp_alike hs g.2), .none (by omega)⟩))
      · rw [if_neg c]
        exact wpS_pure ⟨0, rfl, b', d2, .none (by omega)⟩
    | false =>
      simp only [Bool.false_eq_true, if_false]
      refine wpS_bind (cmp C b' (by omega) (by omega) ?_)
      cases q2 : less (kp key (arrOf t) (x - 1)) (kp key (arrOf t) x) with
      | true =>
        simp only [if_true]
        exact wpS_pure (h x e t b' mx (by omega) d' g)
      | false =>
        simp only [Bool.false_eq_true, if_false]
        have al : kp key (arrOf t) x = kp key (arrOf t) (x - 1) := Le.anti (less_f q2) (less_f q)
        refine wpS_pure ⟨e + 1, rfl, b', d'.more (.inr (less_f q2)), by have := g.1; omega, fun k a c => ?_⟩
        show kp key (arrOf t) k = kp key (arrOf t) x
        by_cases f : k = x
        · rw [f]
        · rw [al]; exact g.2 k (by omega) (by omega)
theorem down_part {st : SortSt} {m n : Nat} {Q : Option Nat → SortSt → Prop} (C : Can prog w A s key z) (hn : n ≤ z.size) (mn : m + 1 ≤ n) (b : Bas z st) (d : Dn key (arrOf st) (m + 1))
    (h : ∀ k t, Bas z t → 1 ≤ k → k ≤ n → Up key (arrOf t) k → Q (some k) t) : wpS (model prog w) A E s (descPart m n) Q st := by
  unfold descPart
  refine wpS_bind (wpS_lift (wpAny_rule ⟨rfl, ?_⟩))
  refine wpS_bind (falling C hn (by omega) mn b d fun k e t b' mk kn d' g => ?_)
  dsimp only
  have hs : k ≤ (arrOf t).size := by rw [b'.sz]; omega
  by_cases c : e > 0
  · rw [if_pos c]
    exact wpS_bind (wpS_reverse (turned C hn (by omega) kn (b'.put (mirror_perm _ _ _ _)) (d'.eqv (kp_alike hs g.2)) h))
  · rw [if_neg c]
    exact turned C hn (by omega) kn b' d' h
theorem first_run {st : SortSt} {n : Nat} {Q : Option Nat → SortSt → Prop} (C : Can prog w A s key z) (hn : n ≤ z.size) (h1 : 1 ≤ n) (b : Bas z st)
    (h : ∀ k t, Bas z t → 1 ≤ k → k ≤ n → Up key (arrOf t) k → Q (some k) t) : wpS (model prog w) A E s (countRun' 0 n) Q st := by
  rw [countRun0_eq]
  refine wpS_bind (rising C hn (Nat.le_refl 1) h1 b (Up.one _) fun m m1 mn u g => ?_)
  dsimp only
  by_cases c : m = n
  · rw [if_pos (by simpa using c)]
    exact wpS_pure (h m st b m1 mn u)
  · rw [if_neg (by simpa using c)]
    have g' := g.resolve_left c
    by_cases c2 : m > 1
    · rw [if_pos c2]
      refine wpS_bind (cmp C b (by omega) (by omega) ?_)
      cases q : less (kp key (arrOf st) 0) (kp key (arrOf st) (m - 1)) with
      | true =>
        simp only [if_true]
        exact wpS_pure (h m st b m1 mn u)
      | false =>
        simp only [Bool.false_eq_true, if_false]
        have hs : m ≤ (arrOf st).size := by rw [b.sz]; omega
        have al : ∀ k, 0 ≤ k → k < m → kp key (arrOf st) k = kp key (arrOf st) (m - 1) := fun k _ km => Le.anti (u k (m - 1) (by omega) (by omega)) ((less_f q).tr (u 0 k (by omega) km))
        have d : Dn key (arrOf st) m := fun i j ij hj => by rw [al i (by omega) (by omega), al j (by omega) hj]; exact Le.rfl' _
        exact wpS_bind (wpS_reverse (down_part C hn (by omega) (b.put (mirror_perm _ _ _ _)) ((d.more (.inr (Le.of_not g'))).eqv (kp_alike hs al)) h))
    · rw [if_neg c2]
      have e : m = 1 := by omega
      subst e
      exact down_part C hn (by omega) b (Dn.more (fun i j ij hj => by
        have : i = j := by omega
        subst this
        exact Le.rfl' _) (.inr (Le.of_not g'))) h
theorem kp_sink {xs : Array Keyed} {k d : Nat} (hk : k < xs.size) (hd : d ≤ k) (i : Nat) : kp key (bubble xs k d) i = if i = k - d then kp key xs k else if k - d < i ∧ i ≤ k then kp key xs (i - 1) else kp key xs i := by
  have e := getElem?_bubble hk d hd i
  split at e
  · rename_i c; rw [if_pos c]; exact kp_of e
  · rename_i c
    rw [if_neg c]
    split at e
    · rename_i c2; rw [if_pos c2]; exact kp_of e
    · rename_i c2; rw [if_neg c2]; exact kp_of e
/-- where the key of k belongs among the keys ahead of it -/
def Gap (key : Value → Int × Int) (xs : Array Keyed) (k l r : Nat) : Prop := l ≤ r ∧ r ≤ k ∧ (∀ i, i < l → Le (kp key xs i) (kp key xs k)) ∧ ∀ i, r ≤ i → i < k → ¬ Le (kp key xs i) (kp key xs k)
theorem Gap.sunk {xs : Array Keyed} {k l : Nat} (hk : k < xs.size) (u : Up key xs k) (g : Gap key xs k l l) : Up key (bubble xs k (k - l)) (k + 1) := by
  obtain ⟨_, lk, lo, hi⟩ := g
  intro i j ij hj
  rw [kp_sink hk (by omega), kp_sink hk (by omega), show k - (k - l) = l by omega]
  by_cases ci : i = l
  · rw [if_pos ci]
    by_cases cj : j = l
    · rw [if_pos cj]; exact Le.rfl' _
    · rw [if_neg cj, if_pos ⟨by omega, by omega⟩]
      exact Le.of_not (hi _ (by omega) (by omega))
  · rw [if_neg ci]
    by_cases ci2 : l < i ∧ i ≤ k
    · rw [if_pos ci2, if_neg (by omega), if_pos ⟨by omega, by omega⟩]
      exact u _ _ (by omega) (by omega)
    · rw [if_neg ci2]
      by_cases cj : j = l
      · rw [if_pos cj]; exact lo i (by omega)
      · rw [if_neg cj]
        by_cases cj2 : l < j ∧ j ≤ k
        · rw [if_pos cj2]; exact u _ _ (by omega) (by omega)
        · rw [if_neg cj2]; exact u _ _ ij (by omega)
theorem placed {st : SortSt} {n a : Nat} {Q : Bool → SortSt → Prop} (C : Can prog w A s key z) (hn : n ≤ z.size) (an : a ≤ n) (b : Bas z st) (u : Up key (arrOf st) a)
    (h : ∀ t, Bas z t → Up key (arrOf t) n → Q true t) : wpS (model prog w) A E s (binarySort' 0 n a) Q st := by
  rw [binarySort'_eq]
  simp only [Nat.zero_add]
  refine wpS_bind (wpS_mono (wpS_forRange (I := fun k c t => c = (none, ()) ∧ Bas z t ∧ Up key (arrOf t) (min k n)) (Q := fun c t => c = (none, ()) ∧ Bas z t ∧ Up key (arrOf t) n) ?turn ?out ?ini) ?aft)
  case aft =>
    rintro c t ⟨rfl, b', u'⟩
    exact wpS_pure (h t b' u')
  case ini =>
    refine ⟨rfl, b, fun i j ij hj => ?_⟩
    by_cases c : a = 0
    · have : i = j := by omega
      subst this
      exact Le.rfl' _
    · exact u i j ij (by omega)
  case out =>
    rintro c t ⟨e, b', u'⟩
    have q : min (max (max a 1) n) n = n := by omega
    rw [q] at u'
    exact ⟨e, b', u'⟩
  case turn =>
    rintro k c t ak kn ⟨rfl, b', u'⟩
    have q : min k n = k := by omega
    rw [q] at u'
    refine wpS_bind (wpS_mono (wpS_forRange (I := fun x c t' => t' = t ∧ ∃ l r, c = (none, l, r) ∧ Gap key (arrOf t) k l r ∧ r - l ≤ k - x) (Q := fun c t' => t' = t ∧ ∃ l, ∃ r : Nat, c = (none, l, r) ∧ Gap key (arrOf t) k l l) ?turn2 ?out2 ⟨rfl, 0, k, rfl, ⟨by omega, by omega, fun i hi => by omega, fun i h1 h2 => by omega⟩, by omega⟩) ?aft2)
    case out2 =>
      rintro c t' ⟨rfl, l, r, rfl, g, f⟩
      have e : r = l := by have := g.1; omega
      subst e
      exact ⟨rfl, r, r, rfl, g⟩
    case turn2 =>
      rintro x c t' _ xk ⟨rfl, l, r, rfl, g, f⟩
      dsimp only
      have g1 := g.1
      have g2 := g.2.1
      by_cases c : l ≥ r
      · rw [if_pos c]
        have e : r = l := by omega
        subst e
        exact wpS_pure ⟨rfl, r, r, rfl, g⟩
      · rw [if_neg c]
        refine wpS_bind (cmp C b' (by omega) (by omega) ?_)
        cases e : less (kp key (arrOf t') k) (kp key (arrOf t') ((l + r) / 2)) with
        | true =>
          simp only [if_true]
          refine wpS_pure ⟨rfl, l, (l + r) / 2, rfl, ⟨by omega, by omega, g.2.2.1, fun i h1 h2 h3 => ?_⟩, by omega⟩
          exact less_t e ((u' ((l + r) / 2) i h1 h2).tr h3)
        | false =>
          simp only [Bool.false_eq_true, if_false]
          refine wpS_pure ⟨rfl, (l + r) / 2 + 1, r, rfl, ⟨by omega, by omega, fun i hi => ?_, g.2.2.2⟩, by omega⟩
          exact (u' i ((l + r) / 2) (by omega) (by omega)).tr (less_f e)
    case aft2 =>
      rintro c t' ⟨rfl, l, r, rfl, g⟩
      show wpS _ _ _ _ (do moveDown' k l; pure (ForInStep.yield (none, ()))) _ _
      rw [moveDown'_eq]
      refine wpS_bind (wpS_modify (wpS_pure ⟨rfl, b'.put (bubble_perm _ _ _), ?_⟩))
      rw [show min (k + 1) n = k + 1 by omega]
      exact g.sunk (by rw [b'.sz]; omega) u'
/-- all is one run -/
def Fin1 (key : Value → Int × Int) (z : Array Keyed) (st : SortSt) : Prop := (arrOf st).Perm z ∧ failedOf st = none ∧ pendingOf st = #[(0, z.size, 0)] ∧ Up key (arrOf st) z.size
theorem Bas.fin {st : SortSt} (b : Bas z st) (u : Up key (arrOf st) z.size) : Fin1 key z (setPending st ((pendingOf st).push (0, z.size, 0))) := by
  refine ⟨b.pm, b.fl, ?_, u⟩
  show (pendingOf st).push _ = _
  rw [b.pd]
  rfl
theorem runs {st : SortSt} {Q : Unit → SortSt → Prop} (C : Can prog w A s key z) (b : Bas z st) (h2 : 2 ≤ z.size) (h64 : z.size < 64)
    (h : ∀ t, (arrOf t).Perm z → failedOf t = none → Up key (arrOf t) z.size → Q () t) : wpS (model prog w) A E s sortRuns' Q st := by
  rw [sortRuns'_eq]
  refine wpS_bind (wpS_get ?_)
  dsimp only
  have mr : minRun' z.size z.size 0 = z.size := by
    cases e : z.size with
    | zero => omega
    | succ f => rw [minRun'_succ, if_pos (by omega)]
  simp only [b.sz, mr]
  refine wpS_bind (wpS_mono (wpS_forRange (I := fun x c t => (x = 0 ∧ c = (none, 0) ∧ Bas z t) ∨ (1 ≤ x ∧ c = (none, z.size) ∧ Fin1 key z t)) (Q := fun c t => c = (none, z.size) ∧ Fin1 key z t) ?turn ?out (.inl ⟨rfl, rfl, b⟩)) ?aft)
  case out =>
    rintro c t (⟨x0, _, _⟩ | ⟨_, e, f⟩)
    · omega
    · exact ⟨e, f⟩
  case turn =>
    rintro x c t _ xn (⟨rfl, rfl, b'⟩ | ⟨x1, rfl, f⟩)
    · dsimp only
      rw [if_neg (by omega)]
      simp only [Nat.sub_zero, Nat.min_self, Nat.zero_add]
      refine wpS_bind (first_run C (Nat.le_refl _) (by omega) b' fun m t2 b2 m1 mn u2 => ?_)
      dsimp only
      have last : ∀ t3 : SortSt, Bas z t3 → Up key (arrOf t3) z.size → (pendingOf t3).back? = none ∧ Fin1 key z (setPending t3 ((pendingOf t3).push (0, z.size, 0))) := fun t3 b3 u3 => ⟨by rw [b3.pd]; rfl, b3.fin u3⟩
      by_cases c : m < z.size
      · rw [if_pos c]
        refine wpS_bind (wpS_lift (wpAny_rule ⟨rfl, ?_⟩))
        refine wpS_bind (placed C (Nat.le_refl _) mn b2 u2 fun t3 b3 u3 => ?_)
        simp only [Bool.not_true, Bool.false_eq_true, if_false]
        refine wpS_bind (wpS_get ?_)
        rw [(last t3 b3 u3).1]
        dsimp only
        exact wpS_bind (wpS_modify (wpS_pure (.inr ⟨by omega, rfl, (last t3 b3 u3).2⟩)))
      · rw [if_neg c]
        have e : m = z.size := by omega
        subst e
        refine wpS_bind (wpS_get ?_)
        rw [(last t2 b2 u2).1]
        dsimp only
        exact wpS_bind (wpS_modify (wpS_pure (.inr ⟨by omega, rfl, (last t2 b2 u2).2⟩)))
    · dsimp only
      rw [if_pos (Nat.le_refl _)]
      exact wpS_pure ⟨rfl, f⟩
  case aft =>
    rintro c t ⟨rfl, f⟩
    dsimp only
    refine wpS_bind (wpS_mono (wpS_forRange (I := fun _ c t' => t' = t ∧ c = (none, ())) (Q := fun c t' => t' = t ∧ c = (none, ())) ?_ (fun _ _ e => e) ⟨rfl, rfl⟩) ?_)
    · rintro x c t' _ _ ⟨rfl, rfl⟩
      refine wpS_bind (wpS_get ?_)
      rw [if_pos (by rw [f.2.2.1]; exact Nat.le_refl 1)]
      exact wpS_pure ⟨rfl, rfl⟩
    · rintro c t' ⟨rfl, rfl⟩
      exact wpS_pure (h _ f.1 f.2.1 f.2.2.2)
/-! list.sort and sorted -/
/-- values side by side with pairs -/
abbrev Prs (h : Heap) : List Value → List (Int × Int) → Prop := Paired (PairIn h)
theorem PairIn.inj {h : Heap} {v : Value} {p q : Int × Int} (a : PairIn h v p) (b : PairIn h v q) : p = q := by
  obtain ⟨x, t1, t2, rfl, o, h1, _, n, h3⟩ := a
  obtain ⟨y, u1, u2, e, o', g1, _, m, g3⟩ := b
  cases e
  rw [h1] at g1
  cases g1
  rw [h3] at g3
  injection g3 with g4 _
  have g5 := congrArg Array.toList g4
  injection g5 with g6 g7
  injection g7 with g8 _
  injection g6 with g9 _
  injection g8 with g10 _
  exact Prod.ext g9 g10
theorem PairIn.keep {h h' : Heap} {v : Value} {p : Int × Int} (a : PairIn h v p) (k : ∀ b o, o.cls = .type "tuple" → h.get? b = some o → h'.get? b = some o) : PairIn h' v p := by
  obtain ⟨x, t1, t2, e, o, h1, h2, r⟩ := a
  exact ⟨x, t1, t2, e, o, k x o h2 h1, h2, r⟩
theorem Prs.mem {h : Heap} : ∀ {vs : List Value} {ps : List (Int × Int)} {v : Value}, Prs h vs ps → v ∈ vs → ∃ p, PairIn h v p
  | _, _, _, .nil, m => by cases m
  | _, _, _, .cons a r, m => by
    rcases List.mem_cons.mp m with e | e
    · exact ⟨_, by rw [e]; exact a⟩
    · exact Prs.mem r e
end
end InkS

namespace Ink
open PySem PySem.Spec PyProof.Rows L2 InkX InkE InkF InkS
/-! ### sorted of a row, as a call -/
end Ink

namespace Ink
open PySem PySem.Spec PyProof.Rows L2 InkX InkE InkF InkS
/-! ### rows as sets of addresses -/
def In (r : Row) (x : Int) : Prop := ∃ p ∈ r, p.1 ≤ x ∧ x < p.2
def Ok (r : Row) : Prop := ∀ p ∈ r, p.1 ≤ p.2
/-- rising, with gaps between -/
def Ris (r : Row) : Prop := r.Pairwise (fun p q => p.2 < q.1) ∧ ∀ p ∈ r, p.1 < p.2
theorem Ris.ok {r : Row} (h : Ris r) : Ok r := fun p hp => Int.le_of_lt (h.2 p hp)
/-! spread -/
end Ink

namespace Ink
open PySem PySem.Spec PyProof.Rows L2 InkX InkE InkF InkS
/-! ### how many addresses two rows have -/
/-! ### a stretch without holes -/
def lo (b : Int) : Int → Row → Row
  | l, [] => [(l, b)]
  | l, p :: r => if p.1 < b then (l, if p.1 > l then p.1 else l) :: lo b (if b < p.2 then b else p.2) r else [(l, b)]
/-- the first hole that stops behind x -/
def Fst (holes : Row) (x : Int) (n : Nat) : Prop := n ≤ holes.length ∧ (∀ i p, holes[i]? = some p → i < n → p.2 ≤ x) ∧ ∀ i p, holes[i]? = some p → n ≤ i → x < p.2
theorem Fst.drop {holes : Row} {x : Int} {n : Nat} (h : Fst holes x n) : (∀ p ∈ holes.drop n, x < p.2) ∧ ∀ y, x ≤ y → (In holes y ↔ In (holes.drop n) y) := by
  refine ⟨fun p hp => ?_, fun y hy => ⟨fun z => ?_, fun z => ?_⟩⟩
  · obtain ⟨i, hi⟩ := List.getElem?_of_mem hp
    rw [List.getElem?_drop] at hi
    exact h.2.2 _ p hi (by omega)
  · obtain ⟨p, hp, a, b⟩ := z
    obtain ⟨i, hi⟩ := List.getElem?_of_mem hp
    by_cases c : i < n
    · have := h.2.1 i p hi c
      omega
    · refine ⟨p, List.mem_of_getElem? (i := i - n) ?_, a, b⟩
      rw [List.getElem?_drop, show n + (i - n) = i by omega]
      exact hi
  · obtain ⟨p, hp, q⟩ := z
    exact ⟨p, List.mem_of_mem_drop hp, q⟩
theorem Ris.drop {r : Row} (h : Ris r) (n : Nat) : Ris (r.drop n) := ⟨h.1.drop, fun p hp => h.2 p (List.mem_of_mem_drop hp)⟩
end Ink

namespace Ink
open PySem PySem.Spec PyProof.Rows L2 InkX InkE InkF InkP
/-! ### the program's classes -/
structure MetAt (K : PySem.W.Frag) (C : Addr) (m qual : Str) (st : Stmt) (ps : List Str) (a : Addr) (d : FuncData) : Prop where
  F : Fun K m qual st a d
  b : Binds K d ps []
  mt : Meth K C m a
structure ClsAt (K : PySem.W.Frag) (mg : Str → Option Value) (x : Str) (C fi : Addr) : Prop where
  cl : Cls K C
  m : mg x = some (.ref C)
  mak : Mk K C fi
theorem RowAt.obj {H H' : Hp} {r x C d : Addr} {row : Row} {fs : List (Str × V)} (h : RowAt H r row) (hx : H x = some (.ins C d fs)) (s : Keep x H H') : RowAt H' r row := by
  obtain ⟨as, h1, h2⟩ := h
  exact ⟨as, s _ _ h1 (ne_of h1 hx (by intro z; cases z)), h2.tups fun a ys e => s a _ e (ne_of e hx (by intro z; cases z))⟩
structure ExcN (K : PySem.W.Frag) (mg : Str → Option Value) (x : Str) (C : Addr) : Prop where
  m : mg x = some (.ref C)
  x : PySem.W.excIn K C [.type "ValueError", .type "Exception", .type "BaseException", .type "object"] "ValueError.__new__" = true
  h : PySem.W.exmOne K (.ref C) (.ref C) = some true
end Ink

namespace InkX
open PySem PySem.Spec PyProof.Rows L2
/-! ### a dict that is walked: its record is known while it is so -/
section
variable {X : Cx} {pins : List (Addr × Obj)} {σ : L2.St} {H : Hp} {s : Shared} {a : Addr} {o : Obj} {kvs : List (Key × V)}
end
section
variable {X : Cx} {tg : Expr}
end
/-! ### sorted of ints -/
/-! ### d.values(), and its sum -/
section
variable {X : Cx} {N : List Str} {scope : Scope} {cl : List (Str × Addr)} {C : Addr} {s₀ : Shared} {H₀ : Hp} {ex : List Addr} {pn : List (Addr × Obj)} {e : Expr} {ta : TE} {f : Str} {pos : Pos}
end
end InkX

namespace InkX
open PySem PySem.Spec PyProof.Rows L2 Ink InkF
/-! ### a list walked with its places -/
/-! ### d.setdefault(k, x) -/
/-! ### tuples that are equal, asked by != -/
end InkX

namespace InkX
open PySem PySem.Spec PyProof.Rows L2
/-! ### tuples of ints, asked by <= -/
section
open PySem.SeqAt
open PySem.AutoSeq1 (wpAny_loadPart')
open PySem.MeetsSeq PySem.MeetsSeq2 PySem.MeetsSeq3
end
end InkX

namespace InkX
open PySem PySem.Spec PyProof.Rows L2 Ink InkF
/-! ### a tuple of ints that is in a list of such -/
end InkX

namespace InkE
open PySem PySem.Spec PyProof.Rows PySem.W L2
/-! ### a method that may raise, called where its exception is met -/
section
variable {X : Cx} {o : Expr} {m : Str} {ps : List Str} {f C : Addr} {fd : FuncData} {k : Nat} {sp : Sp} {e : Expr} {es : List Expr} {ta : TE} {t : TA} {apos pos : Pos} {E : XK} {pl : Sem Bool}
theorem meth_met {pins : List (Addr × Obj)} {σ : L2.St} {H : Hp} {s : Shared} {Q : VK} {E' : Value → Shared → Prop} (ho : PE X.nox o ta) (c : Cls X.K C) (hm : Meth X.K C m f) (hb : Binds X.K fd ps []) (G : FnOk X.prog X.w X.K X.mg X.base (CX1 X.prog X.w) k f fd ps sp) (hr : Room k X.A) (ha : PA X.nox (e :: es) t) (I : Inv X pins σ H s)
    (h : ta σ H fun x H1 => ∃ a dx fs, x = .ref a ∧ H1 a = some (.ins C dx fs) ∧ fs.lookup m = none ∧ t σ H1 fun vs H2 => sp (x :: vs) H2 Q E) (hE : ∀ H1 s1 e s', Inv X pins σ H1 s1 → CX1 X.prog X.w X.stack H1 s1 E e s' → E' e s')
    (he : starEach (e :: es) X.env = (false, eval e X.env) :: starEach es X.env) (hpl : (backTo pos (starEach es X.env)).any (·.1) = false)
    (ht : eval (.Call (.Attribute o m apos) (e :: es) [] pos) X.env = (do
      let ov ← eval o X.env
      standAt apos.atName
      let (f, first) ← holding [ov] (getMethod ov m pl)
      callWith pos f first (backTo pos (starEach (e :: es) X.env)) (backToKw pos (keywordEach [] X.env)))) : wpAny (model X.prog X.w) X.A (eval (.Call (.Attribute o m apos) (e :: es) [] pos) X.env) (EP X pins σ Q) E' s := by
  refine PySem.W.methodCall_KW (pl := pl) (wpAny_mono (ho pins s σ H _ (I.wish _) h) (fun u s1 ⟨x, H1, I1, rx, a, dx, fs, ex, ea, l, q⟩ => ?_) fun _ _ z => False.elim z) ht
  subst ex
  obtain rfl : u = Value.ref a := rx
  have I1 := I1.unwish
  refine getmeth_ok I1 ea c hm l ?_
  refine PySem.W.callWith_K (first := [.ref a]) (h₀ := X.base) I.ok.mod.kin hm.kp (wpAny_mono (ha pos pins s1 σ H1 _ (I1.wish _) q) (fun us s2 ⟨vs, H2, I2, r, q2⟩ => ⟨I2.unwish.kIn, ?_⟩) fun _ _ z => False.elim z) he hpl
  have I2 := I2.unwish
  have r2 : Vals (.ref a :: vs) (Value.ref a :: us) := .cons rfl r
  have hl : ((Value.ref a :: us) ++ []).length = ps.length := by rw [List.append_nil, ← r2.length]; exact G.len _ _ _ _ q2
  have B := hb s2 (.ref a :: us) I2.kIn hl
  rw [List.append_nil] at B
  refine wpAny_call (codeAny_mono (G.run X.A X.stack s2 H2 ⟨.ref a :: us, []⟩ (.ref a :: us) (.ref a :: vs) Q E hr I2.env0 B r2 q2) fun r s' hq => ?_)
  cases r with
  | error e => exact hE H2 s2 e s' I2 hq
  | ok fl =>
    cases fl with
    | ret u => exact I2.after hq
    | next => exact False.elim hq
    | brk => exact False.elim hq
    | cont => exact False.elim hq
end
section
variable {X : Cx} {pins : List (Addr × Obj)} {σ : L2.St} {H : Hp} {s : Shared} {a : Addr}
/-- one of two clauses takes it -/
theorem clause2 {y z : Str} {C1 C2 Cy Cz : Addr} {b0 c0 : Stmt} {suite suite2 : List Stmt} {tb tc : TS} {np nq hpos hqos : Pos} {D : Ends} {e : Value} {s' : Shared} (hst : X.stack = X.env :: X.outer) (hf : X.env.frame = some X.env.locals) (hmy : X.mg y = some (.ref Cy)) (hmz : X.mg z = some (.ref Cz))
    (hx : exmOne X.K (.ref C1) (.ref Cy) = some true) (hn : exmOne X.K (.ref C2) (.ref Cy) = some false) (hx2 : exmOne X.K (.ref C2) (.ref Cz) = some true)
    (hb : ∀ a, PSs (cxH X a) (b0 :: suite) tb) (hc : ∀ a, PSs (cxH X a) (c0 :: suite2) tc) (hg : Gl X y) (hdb : (y == ("__debug__" : Str)) = false) (hgz : Gl X z) (hdz : (z == ("__debug__" : Str)) = false) (I : Inv X pins σ H s) (h : CX1 X.prog X.w X.stack H s (fun c _ H2 => (c = .ref C1 ∧ tb D σ H2) ∨ (c = .ref C2 ∧ tc D σ H2)) e s') :
    wpAny (model X.prog X.w) X.A (noteFrame e X.env) (fun _ s₂ => wpAny (model X.prog X.w) X.A (setFlight e none) (fun _ s₃ => wpAny (model X.prog X.w) X.A (handleBy e X.env [.ExceptHandler (some (.Name y np)) none (b0 :: suite) hpos, .ExceptHandler (some (.Name z nq)) none (c0 :: suite2) hqos]) (SP X pins D) X.xe s₃) X.xe s₂) X.xe s' := by
  obtain ⟨a, T, c, a0, H2, rfl, ⟨os, bare⟩, u, hok, F, q⟩ := h
  have I1 : Inv X pins σ H2 s' := I.call' (ch := []) os u hok bare (fun b z => absurd z (by simp))
  have G0 := fly_ground F I1.stack
  have G0' : Heap.FlyingW (hideAll s'.heap (a :: T :: frs X.stack)) (X.env :: X.outer) a c a0 s'.heap := by
    have z := G0
    rw [hst] at z
    rw [hst]
    exact z
  refine wpAny_looks_onW (I.ok.frames.trans (by rw [hst])) hf G0' fun h4 held k4 => wpAny_landsW held fun h5 fl5 k5 => ?_
  have I5 : Inv X pins σ H2 { s' with heap := h5 } := fly_here I os bare u hok F fl5 (k4.trans k5)
  obtain ⟨ob, hob, hcl⟩ := fl5.there
  have LT : Looks (model X.prog X.w) h5 (typeOf (.ref a)) c := hcl ▸ (Looks.ld hob).andThen .now
  rcases q with ⟨rfl, q⟩ | ⟨rfl, q⟩
  · refine wpAny_handleBy_cons (codeAny_handlers_test (ld_glob (X := cxH X a) (inH I5 a) hg hmy ?_ hdb)) (by intro z; cases z)
    refine (exm_one (M := model X.prog X.w) I5.kIn LT hx).here ?_
    refine codeAny_handlers_suite (lands_againW fl5 fun h6 fl6 k6 => ?_)
    have I6 : Inv X pins σ H2 { s' with heap := h6 } := fly_here I os bare u hok F fl6 ((k4.trans k5).trans k6)
    exact wpAny_mono (hb a pins _ σ H2 D (inH I6 a) q) (fun fl s2 z => spH I6.ok z) fun _ _ z => False.elim z
  · refine wpAny_handleBy_cons (codeAny_handlers_test (ld_glob (X := cxH X a) (inH I5 a) hg hmy ?_ hdb)) (by intro z; cases z)
    refine (exm_one (M := model X.prog X.w) I5.kIn LT hn).here ?_
    refine wpAny_handleBy_cons (codeAny_handlers_test (ld_glob (X := cxH X a) (inH I5 a) hgz hmz ?_ hdz)) (by intro z; cases z)
    refine (exm_one (M := model X.prog X.w) I5.kIn LT hx2).here ?_
    refine codeAny_handlers_suite (lands_againW fl5 fun h6 fl6 k6 => ?_)
    have I6 : Inv X pins σ H2 { s' with heap := h6 } := fly_here I os bare u hok F fl6 ((k4.trans k5).trans k6)
    exact wpAny_mono (hc a pins _ σ H2 D (inH I6 a) q) (fun fl s2 z => spH I6.ok z) fun _ _ z => False.elim z
def tTryM (i : Nat) (B : Addr) (m : Str) (sp : Sp) (ta : TE) (t : TA) (C : Addr) (tb : TS) : TS := fun D σ H => ta σ H fun x H1 => ∃ a dx fs, x = .ref a ∧ H1 a = some (.ins B dx fs) ∧ fs.lookup m = none ∧ t σ H1 fun vs H2 => sp (x :: vs) H2 (fun v H3 => D.nx (σ.set i (some v)) H3) (fun c _ H3 => c = .ref C ∧ tb D σ H3)
def tTryM2 (i : Nat) (B : Addr) (m : Str) (sp : Sp) (ta : TE) (t : TA) (C1 C2 : Addr) (tb tc : TS) : TS := fun D σ H => ta σ H fun x H1 => ∃ a dx fs, x = .ref a ∧ H1 a = some (.ins B dx fs) ∧ fs.lookup m = none ∧ t σ H1 fun vs H2 => sp (x :: vs) H2 (fun v H3 => D.nx (σ.set i (some v)) H3) (fun c _ H3 => (c = .ref C1 ∧ tb D σ H3) ∨ (c = .ref C2 ∧ tc D σ H3))
variable {o : Expr} {m y y2 : Str} {ps : List Str} {f B : Addr} {fd : FuncData} {k : Nat} {sp : Sp} {e : Expr} {es : List Expr} {ta : TE} {t : TA} {apos pos pos1 pos2 pos3 np hpos nq hqos : Pos} {C C1 C2 Cy Cz : Addr} {b0 c0 : Stmt} {suite suite2 : List Stmt} {tb tc : TS} {pl : Sem Bool}
theorem ps_tryM {i : Nat} {z : Str} (hN : X.N.Nodup) (hi : X.N[i]? = some z) (hz : Loc X.env.scope z) (ho : PE X.nox o ta) (c : Cls X.K B) (hm : Meth X.K B m f) (hbd : Binds X.K fd ps []) (G : FnOk X.prog X.w X.K X.mg X.base (CX1 X.prog X.w) k f fd ps sp) (hr : Room k X.A) (ha : PA X.nox (e :: es) t) (hmy : X.mg y = some (.ref Cy)) (hx : exmOne X.K (.ref C) (.ref Cy) = some true)
    (hb : ∀ a, PSs (cxH X a) (b0 :: suite) tb) (hst : X.stack = X.env :: X.outer := by rfl) (hf : X.env.frame = some X.env.locals := by rfl) (hgy : Gl X y := by rfl) (hdy : (y == ("__debug__" : Str)) = false := by decide)
    (he : starEach (e :: es) X.env = (false, eval e X.env) :: starEach es X.env := by rfl) (hpl : (backTo pos (starEach es X.env)).any (·.1) = false := by rfl)
    (ht : eval (.Call (.Attribute o m apos) (e :: es) [] pos) X.env = (do
      let ov ← eval o X.env
      standAt apos.atName
      let (f, first) ← holding [ov] (getMethod ov m pl)
      callWith pos f first (backTo pos (starEach (e :: es) X.env)) (backToKw pos (keywordEach [] X.env))) := by rfl)
    (hs : swapsWith (.Call (.Attribute o m apos) (e :: es) [] pos) (some (.Name z pos3)) pos1.line X.env = pure false := by rfl) (hfn : X.fn z = true ∨ X.env.scope.names.lookup z = some .local := by first | exact .inl rfl | exact .inr rfl) :
    PS X (.Try [.Assign [.Name z pos3] (.Call (.Attribute o m apos) (e :: es) [] pos) pos1] [.ExceptHandler (some (.Name y np)) none (b0 :: suite) hpos] [] [] pos2) (tTryM i B m sp ta t C tb) := by
  intro pins s σ H D I h
  refine wpAny_Try_except (wpAny_execs_cons (wpAny_Assign_Name (thn (meth_met (pl := pl) ho c hm hbd G hr ha I h (fun H1 s1 e s' I1 z => ?_) he hpl ht) fun v s1 ⟨y, H1, I1, r1, q1⟩ => ?_) hs))
  · exact clause hst hf hmy hx hb hgy hdy I1 z
  · exact store_ok I1 hN hi hz r1 (fun s2 I2 => wpAny_execs_nil (wpAny_execs_nil ⟨_, H1, I2, q1⟩)) hfn
theorem ps_tryM2 {i : Nat} {z : Str} (hN : X.N.Nodup) (hi : X.N[i]? = some z) (hz : Loc X.env.scope z) (ho : PE X.nox o ta) (c : Cls X.K B) (hm : Meth X.K B m f) (hbd : Binds X.K fd ps []) (G : FnOk X.prog X.w X.K X.mg X.base (CX1 X.prog X.w) k f fd ps sp) (hr : Room k X.A) (ha : PA X.nox (e :: es) t) (hmy : X.mg y = some (.ref Cy)) (hmz : X.mg y2 = some (.ref Cz))
    (hx : exmOne X.K (.ref C1) (.ref Cy) = some true) (hn : exmOne X.K (.ref C2) (.ref Cy) = some false) (hx2 : exmOne X.K (.ref C2) (.ref Cz) = some true)
    (hb : ∀ a, PSs (cxH X a) (b0 :: suite) tb) (hc : ∀ a, PSs (cxH X a) (c0 :: suite2) tc) (hst : X.stack = X.env :: X.outer := by rfl) (hf : X.env.frame = some X.env.locals := by rfl) (hgy : Gl X y := by rfl) (hdy : (y == ("__debug__" : Str)) = false := by decide) (hgz : Gl X y2 := by rfl) (hdz : (y2 == ("__debug__" : Str)) = false := by decide)
    (he : starEach (e :: es) X.env = (false, eval e X.env) :: starEach es X.env := by rfl) (hpl : (backTo pos (starEach es X.env)).any (·.1) = false := by rfl)
    (ht : eval (.Call (.Attribute o m apos) (e :: es) [] pos) X.env = (do
      let ov ← eval o X.env
      standAt apos.atName
      let (f, first) ← holding [ov] (getMethod ov m pl)
      callWith pos f first (backTo pos (starEach (e :: es) X.env)) (backToKw pos (keywordEach [] X.env))) := by rfl)
    (hs : swapsWith (.Call (.Attribute o m apos) (e :: es) [] pos) (some (.Name z pos3)) pos1.line X.env = pure false := by rfl) (hfn : X.fn z = true ∨ X.env.scope.names.lookup z = some .local := by first | exact .inl rfl | exact .inr rfl) :
    PS X (.Try [.Assign [.Name z pos3] (.Call (.Attribute o m apos) (e :: es) [] pos) pos1] [.ExceptHandler (some (.Name y np)) none (b0 :: suite) hpos, .ExceptHandler (some (.Name y2 nq)) none (c0 :: suite2) hqos] [] [] pos2) (tTryM2 i B m sp ta t C1 C2 tb tc) := by
  intro pins s σ H D I h
  refine wpAny_Try_except (wpAny_execs_cons (wpAny_Assign_Name (thn (meth_met (pl := pl) ho c hm hbd G hr ha I h (fun H1 s1 e s' I1 z => ?_) he hpl ht) fun v s1 ⟨y, H1, I1, r1, q1⟩ => ?_) hs))
  · exact clause2 hst hf hmy hmz hx hn hx2 hb hc hgy hdy hgz hdz I1 z
  · exact store_ok I1 hN hi hz r1 (fun s2 I2 => wpAny_execs_nil (wpAny_execs_nil ⟨_, H1, I2, q1⟩)) hfn
end
end InkE

namespace InkX
open PySem PySem.Spec PyProof.Rows L2 InkE
/-! ### texts and their signs -/
section
variable {X : Cx}
end
/-! ### a text walked -/
end InkX

namespace InkX
open PySem PySem.Spec PyProof.Rows L2 InkE Ink
/-! ### texts put together; a list turned about -/
section
variable {X : Cx}
end
end InkX

set_option Elab.async false
set_option linter.all false
set_option maxRecDepth 100000
namespace Ink
open PySem L2 InkX InkE InkF InkP
def top (i : Nat) : Stmt := PySem.Challenge.pw_inkroot_k23_all_moments_kept.main.body.getD i (.Pass ⟨0, 0, 0, 0⟩)
def clsBody : Stmt → List Stmt
  | .ClassDef (body := b) .. => b
  | _ => []
def mtop (i j : Nat) : Stmt := (clsBody (top i)).getD j (.Pass ⟨0, 0, 0, 0⟩)
structure Nms (mg : Str → Option Value) : Prop where
  n_len : mg "len" = none
  n_list : mg "list" = none
  n_tuple : mg "tuple" = none
  n_int : mg "int" = none
  n_bool : mg "bool" = none
  n_str : mg "str" = none
  n_range : mg "range" = none
  n_zip : mg "zip" = none
  n_isinstance : mg "isinstance" = none
section
variable {P : Program} {w : World} {K : PySem.W.Frag} {mg : Str → Option Value} {base : Heap}

abbrev s_law_src : Stmt := top 8
theorem sc_law_src : FnScope ["_law_script"] ["_law_script"] (defScope s_law_src) := ⟨rfl, rfl, rfl, by decide +kernel, rfl, by decide +kernel, by decide +kernel⟩
theorem ok_law_src {f : Addr} {fd : FuncData} (F : Fun K "_law_src" "_law_src" s_law_src f fd) (T : Nms mg) : FnOk P w K mg base CX0 1 f fd ["_law_script"] (spSrc K) := by
  refine F.ok sc_law_src (fun vs H Q E h => ?_) (fun cdv A outer s H vs Q E hr h => ?_)
  · obtain ⟨a, ns, rfl, _⟩ := h
    rfl
  obtain ⟨a, ns, rfl, hS, k⟩ := h
  refine ⟨_, (pss_one (ps_ret (pe_lst (pa_cons (pe_callTy call_list_of rfl T.n_list PyProof.Rows.boot_list (pa_cons (pe_slice sl_list (pv 0) po_none (po_some pe_int)) pa_nil)) (pa_cons pe_int (pa_cons pe_int (pa_cons pe_int pa_nil))))))), ?_⟩
  refine ⟨_, rfl, _, rfl, a, _, rfl, hS, fun p hp => ?_⟩
  refine ⟨p, _, rfl, .inl (SqL.of upd_same), fun c hc => ?_⟩
  refine ⟨(by show 4 ≤ sizeLine; decide), fun l hl => ?_⟩
  obtain ⟨ms, em⟩ := cut_ints ns none (some 63)
  have ncl : c ≠ l := ne_of_none (H := upd (upd H p _) c _) upd_same hl
  have s1 : Same H (upd H p (.lst (cutV (ns.map V.int) none (some 63)))) := same_new hp _
  have s2 := s1.trans (same_new hc (.lst (cutV (ns.map V.int) none (some 63))))
  refine k l c _ ⟨ncl, ms, 0, 0, 1, upd_same, ?_, by decide, by decide, by decide⟩ (s2.trans (same_new hl _)) (s2.free hl) (s1.free hc)
  rw [upd_ne ncl, upd_same, em]

abbrev s_law_next : Stmt := top 9
theorem sc_law_next : FnScope ["_law_src_here", "_law_base", "_law_cell", "_law_digit"] ["_law_src_here", "_law_base"] (defScope s_law_next) := ⟨rfl, rfl, rfl, by decide +kernel, rfl, by decide +kernel, by decide +kernel⟩
theorem ok_law_next {f : Addr} {fd : FuncData} (F : Fun K "_law_next" "_law_next" s_law_next f fd) (T : Nms mg) : FnOk P w K mg base CX0 1 f fd ["_law_src_here", "_law_base"] spNext := by
  refine F.ok sc_law_next (fun vs H Q E h => ?_) (fun cdv A outer s H vs Q E hr h => ?_)
  · obtain ⟨l, c, b, rfl, _⟩ := h
    rfl
  obtain ⟨l, c, b, rfl, S, hb0, hb1, k⟩ := h
  refine ⟨_, (pss_cons (ps_imp (t' := nextT1) (ps_if (pt_cmpR op_le (pe_ix ix_list (pv 0) pe_int (fun _ _ => rfl)) pe_int (nomark _))
      (pss_cons (ps_set (i := 2) sc_law_next.nd rfl (Or.inl rfl) pe_int)
      (pss_cons (ps_imp (t' := nextT2) (ps_if (pt_cmpR op_lt (pe_ix ix_list (pv 0) pe_int (fun _ _ => rfl)) (pe_callB call_len_seq rfl T.n_len PySem.boot_len (pa_cons (pe_ix ix_list (pv 0) pe_int (fun _ _ => rfl)) pa_nil)) (nomark _))
      (pss_cons (ps_set (i := 2) sc_law_next.nd rfl (Or.inl rfl) (pe_ix ix_list (pe_ix ix_list (pv 0) pe_int (fun _ _ => rfl)) (pe_ix ix_list (pv 0) pe_int (fun _ _ => rfl)) (fun _ _ => rfl)))
      (pss_one (ps_asg (pe_op op_add (pe_ix ix_list (pv 0) pe_int (fun _ _ => rfl)) pe_int) (pg_sub (pv 0) pe_int set_list))))
      pss_nil) ?b2)
      (pss_cons (ps_asg (pe_op op_mod (pe_op op_add (pe_op op_add (pe_op op_mul (pe_ix ix_list (pv 0) pe_int (fun _ _ => rfl)) pe_int) (pe_op op_mod (pv 2) pe_int)) pe_int) pe_int) (pg_sub (pv 0) pe_int set_list))
      (pss_one (ps_if (pt_cmpR op_ge (pv 2) (pe_op op_pow pe_int pe_int) (nomark _))
      (pss_one (ps_asg (pv 2) (pg_sub (pv 0) pe_int set_list)))
      pss_nil)))))
      pss_nil) ?b1)
      (pss_cons (ps_if (pt_cmpR op_gt (pe_ix ix_list (pv 0) pe_int (fun _ _ => rfl)) pe_int (nomark _))
      (pss_cons (ps_set (i := 3) sc_law_next.nd rfl (Or.inl rfl) (pe_op op_mod (pe_ix ix_list (pv 0) pe_int (fun _ _ => rfl)) (pv 1)))
      (pss_cons (ps_asg (pe_op op_fdivB (pe_ix ix_list (pv 0) pe_int (fun _ _ => rfl)) (pv 1)) (pg_sub (pv 0) pe_int set_list))
      (pss_one (ps_ret (pv 3)))))
      pss_nil)
      (pss_one (ps_ret (pe_op op_mod (pe_op op_fdivB (pe_op op_mod (pe_op op_mul (pe_ix ix_list (pv 0) pe_int (fun _ _ => rfl)) pe_int) pe_int) pe_int) (pv 1)))))), ?_⟩
  case b2 =>
    rintro D σ H ⟨l, c, b, rfl, ⟨ncl, ns, i, d, r, hl, hc, hi, hr0, hr1⟩, k⟩
    refine ⟨_, rfl, l, _, _, _, rfl, rfl, SqL.of hl, at41, _, rfl, l, _, _, _, rfl, rfl, SqL.of hl, at40, c, _, rfl, .inl (SqL.of hc), _, _, rfl, rfl, _, rfl, ?_⟩
    refine ite2 (fun c2 => ?_) (fun c2 => ?_)
    · have c3 : i < (ns.length : Int) := by
        have z := of_decide_eq_true c2
        rwa [List.length_map] at z
      obtain ⟨v, hv⟩ := at_ints hi c3
      refine ⟨_, rfl, l, _, _, _, rfl, rfl, SqL.of hl, at40, _, rfl, l, _, _, _, rfl, rfl, SqL.of hl, at41, c, _, _, _, rfl, rfl, SqL.of hc, hv, ?_⟩
      refine ⟨_, rfl, l, _, _, _, rfl, rfl, SqL.of hl, at41, _, _, rfl, rfl, _, rfl, l, _, _, 1, rfl, rfl, hl, rfl, ?_⟩
      exact k v _ ⟨ncl, ns, i + 1, d, r, upd_same, by rw [upd_ne ncl]; exact hc, by omega, hr0, hr1⟩ fun a ha => upd_ne ha
    · exact k 7 H ⟨ncl, ns, i, d, r, hl, hc, hi, hr0, hr1⟩ fun a _ => rfl
  case b1 =>
    rintro D σ H ⟨l, c, b, rfl, S, k⟩
    obtain ⟨ncl, ns, i, d, r, hl, hc, hi, hr0, hr1⟩ := id S
    refine ⟨_, rfl, l, _, _, _, rfl, rfl, SqL.of hl, at42, _, _, rfl, rfl, _, rfl, ?_⟩
    refine ite2 (fun c1 => ?_) (fun c1 => ?_)
    · refine ⟨l, c, b, rfl, S, fun cell H1 S1 k1 => ?_⟩
      obtain ⟨_, ns1, i1, d1, r1, hl1, hc1, hi1, hr2, hr3⟩ := id S1
      refine ⟨_, rfl, l, _, _, _, rfl, rfl, SqL.of hl1, at43, _, _, rfl, rfl, .inl ⟨by omega, by omega⟩, _, rfl, _, _, rfl, rfl, (by show (0 : Int) < 998244353; decide), _, _, rfl, rfl, _, _, rfl, rfl, _, _, rfl, rfl, (by show (0 : Int) < 2147483647; decide), _, rfl, l, _, _, 3, rfl, rfl, hl1, rfl, ?_⟩
      refine ⟨_, rfl, _, _, rfl, rfl, ⟨by decide, by decide, by decide⟩, _, _, rfl, rfl, _, rfl, ?_⟩
      have b0 : 0 ≤ (r1 * 48271 + cell % 998244353 + 1) % 2147483647 := Int.emod_nonneg _ (by decide)
      have b1 : (r1 * 48271 + cell % 998244353 + 1) % 2147483647 < 2147483647 := Int.emod_lt_of_pos _ (by decide)
      refine ite2 (fun c2 => ?_) (fun c2 => ?_)
      · refine ⟨_, rfl, _, rfl, l, _, _, 2, rfl, rfl, upd_same, rfl, ?_⟩
        refine k _ _ ⟨ncl, ns1, i1, cell, _, upd_same, ?_, hi1, b0, b1⟩ fun a ha => ?_
        · rw [upd_ne ncl, upd_ne ncl]; exact hc1
        · rw [upd_ne ha, upd_ne ha]; exact k1 a ha
      · refine k _ _ ⟨ncl, ns1, i1, d1, _, upd_same, ?_, hi1, b0, b1⟩ fun a ha => ?_
        · rw [upd_ne ncl]; exact hc1
        · rw [upd_ne ha]; exact k1 a ha
    · exact k none H S fun a _ => rfl
  refine ⟨l, c, b, rfl, S, fun cell H1 S1 k1 => ?_⟩
  obtain ⟨ncl, ns, i, d, r, hl, hc, hi, hr0, hr1⟩ := S1
  refine ⟨_, rfl, l, _, _, _, rfl, rfl, SqL.of hl, at42, _, _, rfl, rfl, _, rfl, ?_⟩
  refine ite2 (fun c1 => ?_) (fun c1 => ?_)
  · refine ⟨_, rfl, l, _, _, _, rfl, rfl, SqL.of hl, at42, _, rfl, _, _, rfl, rfl, hb0, ?_⟩
    refine ⟨_, rfl, l, _, _, _, rfl, rfl, SqL.of hl, at42, _, rfl, _, _, rfl, rfl, ⟨hb0, hb1⟩, _, rfl, l, _, _, 2, rfl, rfl, hl, rfl, ?_⟩
    refine ⟨_, rfl, ?_⟩
    refine k (d % b) _ (Int.emod_nonneg _ (by omega)) (Int.emod_lt_of_pos _ hb0) ⟨ncl, ns, i, d / b, r, upd_same, ?_, hi, hr0, hr1⟩ fun a ha => ?_
    · rw [upd_ne ncl]; exact hc
    · rw [upd_ne ha]; exact k1 a ha
  · refine ⟨_, rfl, l, _, _, _, rfl, rfl, SqL.of hl, at43, _, _, rfl, rfl, .inl ⟨by omega, by omega⟩, _, _, rfl, rfl, (by show (0 : Int) < 2147483399; decide), _, _, rfl, rfl, ⟨by decide, by decide⟩, _, rfl, _, _, rfl, rfl, hb0, ?_⟩
    exact k _ _ (Int.emod_nonneg _ (by omega)) (Int.emod_lt_of_pos _ hb0) ⟨ncl, ns, i, d, r, hl, hc, hi, hr0, hr1⟩ k1

abbrev s_law_whole : Stmt := top 10
abbrev s_law_same : Stmt := top 11
theorem sc_law_whole : FnScope ["_law_found"] ["_law_found"] (defScope s_law_whole) := ⟨rfl, rfl, rfl, by decide +kernel, rfl, by decide +kernel, by decide +kernel⟩
theorem sc_law_same : FnScope ["_law_found", "_law_due_here", "_law_one", "_law_other"] ["_law_found", "_law_due_here"] (defScope s_law_same) := ⟨rfl, rfl, rfl, by decide +kernel, rfl, by decide +kernel, by decide +kernel⟩
theorem ok_law_whole {f : Addr} {fd : FuncData} (F : Fun K "_law_whole" "_law_whole" s_law_whole f fd) (T : Nms mg) : FnOk P w K mg base CX0 1 f fd ["_law_found"] spWhole := by
  refine F.ok sc_law_whole (fun vs H Q E h => ?_) (fun cdv A outer s H vs Q E hr h => ?_)
  · obtain ⟨i, rfl, _⟩ := h
    rfl
  obtain ⟨i, rfl, k⟩ := h
  refine ⟨_, (pss_one (ps_ret (pe_and (pe_callB call_isinst rfl T.n_isinstance PyProof.Rows.boot_isinstance (pa_cons (pv 0) (pa_cons (pe_ty rfl T.n_int PyProof.Rows.boot_int) pa_nil))) (pe_one (pe_not (pe_callB call_isinst rfl T.n_isinstance PyProof.Rows.boot_isinstance (pa_cons (pv 0) (pa_cons (pe_ty rfl T.n_bool PyProof.Rows.boot_bool) pa_nil)))))))), ?_⟩
  exact ⟨_, rfl, _, _, _, _, rfl, TyOf.int i, k_ii K, _, rfl, iteT ⟨_, rfl, _, _, _, _, rfl, TyOf.int i, k_ib K, _, rfl, k⟩⟩
theorem step_law_same {f fW : Addr} {fd fdW : FuncData} {n : Nat} (T : Nms mg) (d_law_whole : DefAt K mg "_law_whole" s_law_whole ["_law_found"] fW fdW) (g_law_whole : FnOk P w K mg base CX0 1 fW fdW ["_law_found"] spWhole)
    (d_law_same : DefAt K mg "_law_same" s_law_same ["_law_found", "_law_due_here"] f fd) (g_law_same : FnOk P w K mg base CX0 (n + 1) f fd ["_law_found", "_law_due_here"] (spSame n)) : FnOk P w K mg base CX0 (n + 2) f fd ["_law_found", "_law_due_here"] (spSame (n + 1)) := by
  refine d_law_same.F.ok sc_law_same (fun vs H Q E h => ?_) (fun cdv A outer s H vs Q E hr h => ?_)
  · obtain ⟨x, y, rfl, _⟩ := h
    rfl
  obtain ⟨x, y, rfl, h, k⟩ := h
  refine ⟨_, (pss_cons (ps_if (pt_cmp (pc_isN (pv 1)))
      (pss_one (ps_ret (pe_cmp (pc_isN (pv 0)))))
      pss_nil)
      (pss_cons (ps_if (pt_val (pe_callB call_isinst rfl T.n_isinstance PyProof.Rows.boot_isinstance (pa_cons (pv 1) (pa_cons (pe_ty rfl T.n_bool PyProof.Rows.boot_bool) pa_nil))))
      (pss_one (ps_ret (pe_and (pe_callB call_isinst rfl T.n_isinstance PyProof.Rows.boot_isinstance (pa_cons (pv 0) (pa_cons (pe_ty rfl T.n_bool PyProof.Rows.boot_bool) pa_nil))) (pe_one (pe_cmpR op_eq (pv 0) (pv 1) (nomark _))))))
      pss_nil)
      (pss_cons (ps_if (pt_val (pe_callB call_isinst rfl T.n_isinstance PyProof.Rows.boot_isinstance (pa_cons (pv 1) (pa_cons (pe_ty rfl T.n_int PyProof.Rows.boot_int) pa_nil))))
      (pss_one (ps_ret (pe_and (pe_def d_law_whole g_law_whole hr (pa_cons (pv 0) pa_nil)) (pe_one (pe_cmpR op_eq (pv 0) (pv 1) (nomark _))))))
      pss_nil)
      (pss_cons (ps_if (pt_val (pe_callB call_isinst rfl T.n_isinstance PyProof.Rows.boot_isinstance (pa_cons (pv 1) (pa_cons (pe_ty rfl T.n_str PyProof.Rows.boot_str) pa_nil))))
      (pss_one (ps_ret (pe_and (pe_callB call_isinst rfl T.n_isinstance PyProof.Rows.boot_isinstance (pa_cons (pv 0) (pa_cons (pe_ty rfl T.n_str PyProof.Rows.boot_str) pa_nil))) (pe_one (pe_cmpR op_eq (pv 0) (pv 1) (nomark _))))))
      pss_nil)
      (pss_cons (ps_if (PW.pt (pw_or (pt_cmpR op_ne (pe_callB call_isinst rfl T.n_isinstance PyProof.Rows.boot_isinstance (pa_cons (pv 1) (pa_cons (pe_ty rfl T.n_list PyProof.Rows.boot_list) pa_nil))) (pe_callB call_isinst rfl T.n_isinstance PyProof.Rows.boot_isinstance (pa_cons (pv 0) (pa_cons (pe_ty rfl T.n_list PyProof.Rows.boot_list) pa_nil))) (nomark _)) (pw_or1 (pt_cmpR op_ne (pe_callB call_isinst rfl T.n_isinstance PyProof.Rows.boot_isinstance (pa_cons (pv 1) (pa_cons (pe_ty rfl T.n_tuple PyProof.Rows.boot_tuple) pa_nil))) (pe_callB call_isinst rfl T.n_isinstance PyProof.Rows.boot_isinstance (pa_cons (pv 0) (pa_cons (pe_ty rfl T.n_tuple PyProof.Rows.boot_tuple) pa_nil))) (nomark _)))))
      (pss_one (ps_ret pe_bl))
      pss_nil)
      (pss_cons (ps_if (pt_cmpR op_ne (pe_callB call_len_seq rfl T.n_len PySem.boot_len (pa_cons (pv 0) pa_nil)) (pe_callB call_len_seq rfl T.n_len PySem.boot_len (pa_cons (pv 1) pa_nil)) (nomark _))
      (pss_one (ps_ret pe_bl))
      pss_nil)
      (pss_cons (ps_for PassesOwn.never rfl (pi_zip rfl T.n_zip (pa_cons (pv 0) (pa_cons (pv 1) pa_nil))) (pg_tup (n := 2) rfl (pgs_cons (pg_name (i := 2) sc_law_same.nd rfl (Or.inl rfl)) (pgs_cons (pg_name (i := 3) sc_law_same.nd rfl (Or.inl rfl)) pgs_nil)))
      (pss_one (ps_if (pt_not (pt_val (pe_def d_law_same g_law_same hr (pa_cons (pv 2) (pa_cons (pv 3) pa_nil)))))
      (pss_one (ps_ret pe_bl))
      pss_nil)))
      (pss_one (ps_ret pe_bl))))))))), ?_⟩
  have kk := k H (Same.refl H)
  rcases h with ⟨hf, rfl⟩ | ⟨kd, a, b, xs, ys, rfl, rfl, h1, h2, hl, hi⟩
  · cases x with
    | non =>
      refine ⟨_, rfl, _, rfl, ite2 (fun _ => ?_) (fun c => absurd (decide_eq_true rfl) c)⟩
      exact ⟨_, rfl, tt rfl kk⟩
    | bl v =>
      refine ⟨_, rfl, _, rfl, ite2 (fun c => absurd (of_decide_eq_true c) (fun z => nomatch z)) (fun _ => ?_)⟩
      refine ⟨_, rfl, _, _, _, _, rfl, TyOf.bl v, k_bb K, _, rfl, iteT ?_⟩
      exact ⟨_, rfl, _, _, _, _, rfl, TyOf.bl v, k_bb K, _, rfl, iteT ⟨_, rfl, _, rfl, rfl, tt rfl kk⟩⟩
    | int i =>
      refine ⟨_, rfl, _, rfl, ite2 (fun c => absurd (of_decide_eq_true c) (fun z => nomatch z)) (fun _ => ?_)⟩
      refine ⟨_, rfl, _, _, _, _, rfl, TyOf.int i, k_ib K, _, rfl, iteF ?_⟩
      refine ⟨_, rfl, _, _, _, _, rfl, TyOf.int i, k_ii K, _, rfl, iteT ?_⟩
      exact ⟨_, rfl, i, rfl, _, rfl, iteT ⟨_, rfl, _, rfl, rfl, tt rfl kk⟩⟩
    | str v =>
      refine ⟨_, rfl, _, rfl, ite2 (fun c => absurd (of_decide_eq_true c) (fun z => nomatch z)) (fun _ => ?_)⟩
      refine ⟨_, rfl, _, _, _, _, rfl, TyOf.str v, k_sb K, _, rfl, iteF ?_⟩
      refine ⟨_, rfl, _, _, _, _, rfl, TyOf.str v, k_si K, _, rfl, iteF ?_⟩
      refine ⟨_, rfl, _, _, _, _, rfl, TyOf.str v, k_ss K, _, rfl, iteT ?_⟩
      exact ⟨_, rfl, _, _, _, _, rfl, TyOf.str v, k_ss K, _, rfl, iteT ⟨_, rfl, _, rfl, rfl, tt rfl kk⟩⟩
    | _ => cases hf
  · refine ⟨_, rfl, _, rfl, ite2 (fun c => absurd (of_decide_eq_true c) (fun z => nomatch z)) (fun _ => ?_)⟩
    refine ⟨_, rfl, _, _, _, _, rfl, h2.ty, k_qb K kd, _, rfl, iteF ?_⟩
    refine ⟨_, rfl, _, _, _, _, rfl, h2.ty, k_qi K kd, _, rfl, iteF ?_⟩
    refine ⟨_, rfl, _, _, _, _, rfl, h2.ty, k_qs K kd, _, rfl, iteF ?_⟩
    refine ⟨_, rfl, _, _, _, _, rfl, h2.ty, k_ql K kd, _, rfl, _, _, _, _, rfl, h1.ty, k_ql K kd, rfl, _, rfl, iteNS rfl ?_⟩
    refine ⟨_, rfl, _, _, _, _, rfl, h2.ty, k_qt K kd, _, rfl, _, _, _, _, rfl, h1.ty, k_qt K kd, rfl, _, rfl, iteNS rfl ?_⟩
    refine ⟨_, rfl, a, _, rfl, h1.or, _, rfl, b, _, rfl, h2.or, rfl, _, rfl, iteNS (by rw [hl]) ?_⟩
    refine ⟨_, rfl, _, rfl, kd, a, b, xs, ys, rfl, h1.sq, h2.sq, for_zip (fun i σ H2 => ∃ u v, σ = [some (.ref a), some (.ref b), u, v] ∧ Same H H2) hl ⟨none, none, rfl, Same.refl H⟩ (fun i σ H2 _ ⟨_, _, _, s⟩ => ⟨(h1.same s).sq, (h2.same s).sq⟩) ?_ ?_⟩
    · rintro i u v p σ H2 eu ev hp ⟨_, _, rfl, s⟩
      refine ⟨p, _, rfl, SqT.of upd_same, rfl, u, [v], rfl, v, [], rfl, rfl, ?_⟩
      have s2 := s.trans (same_new hp (.tup [u, v]))
      refine ⟨_, rfl, _, rfl, u, v, rfl, Eqv.same s2 (hi i u v eu ev), fun H4 s4 => ⟨_, rfl, iteF ?_⟩⟩
      exact ⟨_, _, rfl, s2.trans s4⟩
    · rintro σ H2 ⟨_, _, rfl, s⟩
      exact k H2 s
theorem ok_law_same {f fW : Addr} {fd fdW : FuncData} (T : Nms mg) (d_law_whole : DefAt K mg "_law_whole" s_law_whole ["_law_found"] fW fdW) (d_law_same : DefAt K mg "_law_same" s_law_same ["_law_found", "_law_due_here"] f fd) : ∀ n : Nat, FnOk P w K mg base CX0 (n + 1) f fd ["_law_found", "_law_due_here"] (spSame n)
  | 0 => by
    have no : ∀ vs H Q E, ¬ spSame 0 vs H Q E := fun vs H Q E h => by
      obtain ⟨x, y, _, h, _⟩ := h
      exact h
    exact ⟨fun vs H Q E h => absurd h (no vs H Q E), fun A outer s H args us vs Q E _ _ _ _ h => absurd h (no vs H Q E)⟩
  | n + 1 => step_law_same T d_law_whole (ok_law_whole d_law_whole.F T) d_law_same (ok_law_same T d_law_whole d_law_same n)

def spItems : Sp := fun vs H Q _ => ∃ (e : Addr) (es : List Int), vs = [.ref e] ∧ H e = some (.lst (es.map V.int)) ∧ es.length ≤ 100000 ∧
  ∀ (o : Addr) (H' : Hp), ItemsAt H' (.ref o) (itemsOf es) → Same H H' → H o = none → Q (.ref o) H'
abbrev s_law_items_of : Stmt := top 12
theorem sc_law_items_of : FnScope ["_law_entries", "_law_items", "_law_entry"] ["_law_entries"] (defScope s_law_items_of) := ⟨rfl, rfl, rfl, by decide +kernel, rfl, by decide +kernel, by decide +kernel⟩
theorem ok_law_items_of {f : Addr} {fd : FuncData} (F : Fun K "_law_items_of" "_law_items_of" s_law_items_of f fd) (T : Nms mg) : FnOk P w K mg base CX0 1 f fd ["_law_entries"] spItems := by
  refine F.ok sc_law_items_of (fun vs H Q E h => ?_) (fun cdv A outer s H vs Q E hr h => ?_)
  · obtain ⟨r, row, rfl, _⟩ := h
    rfl
  obtain ⟨e, es, rfl, he, hlen, k⟩ := h
  refine ⟨_, (pss_cons (ps_set (i := 1) sc_law_items_of.nd rfl (Or.inl rfl) (pe_lst pa_nil))
      (pss_cons (ps_for PassesOwn.never rfl (pi_list (pv 0)) (pg_name (i := 2) sc_law_items_of.nd rfl (Or.inl rfl))
      (pss_one (ps_if (pt_cmpR op_lt (pv 2) pe_int (nomark _))
      (pss_one (ps_expr (pe_bm PySem.F.plainAttrs_list PySem.F.slot_list_append PySem.F.type_list_append mt_append (pv 1) (pa_cons (pe_tup (pa_cons pe_str (pa_cons (pe_op op_sub (pe_un un_neg pe_int) (pv 2)) pa_nil))) pa_nil))))
      (pss_one (ps_if (PW.pt (pw_and (pt_cmpR op_gt (pe_callB call_len_seq rfl T.n_len PySem.boot_len (pa_cons (pv 1) pa_nil)) pe_int (nomark _)) (pw_and (pt_cmpR op_eq (pe_ix ix_tup (pe_ix ix_list (pv 1) (pe_un un_neg pe_int) (fun _ _ => rfl)) pe_int (fun _ _ => rfl)) pe_str (nomark _)) (pw_and1 (pt_cmpR op_eq (pe_ix ix_tup (pe_ix ix_list (pv 1) (pe_un un_neg pe_int) (fun _ _ => rfl)) pe_int (fun _ _ => rfl)) (pv 2) (nomark _))))))
      (pss_one (ps_asg (pe_tup (pa_cons pe_str (pa_cons (pe_ix ix_tup (pe_ix ix_list (pv 1) (pe_un un_neg pe_int) (fun _ _ => rfl)) pe_int (fun _ _ => rfl)) (pa_cons (pe_op op_add (pv 2) pe_int) pa_nil)))) (pg_sub (pv 1) (pe_un un_neg pe_int) set_list)))
      (pss_one (ps_expr (pe_bm PySem.F.plainAttrs_list PySem.F.slot_list_append PySem.F.type_list_append mt_append (pv 1) (pa_cons (pe_tup (pa_cons pe_str (pa_cons (pv 2) (pa_cons (pe_op op_add (pv 2) pe_int) pa_nil)))) pa_nil)))))))))
      (pss_one (ps_ret (pv 1))))), ?_⟩
  refine ⟨(by show 0 ≤ sizeLine; decide), fun q hq => ?_⟩
  have s0 : Same H (upd H q (.lst [])) := same_new hq _
  refine ⟨_, rfl, e, rfl, ⟨_, SqL.of (s0 _ _ he)⟩, for_list (K := K) (a := e) (xs := es.map V.int) (fun i σ H2 => ∃ (vs : List V) (u : Option V), σ = [some (.ref e), some (.ref q), u] ∧ H2 q = some (.lst vs) ∧ All2 (ItemAt H2) vs ((es.take i).foldl itemsStep []) ∧ Same H H2)
    ⟨[], none, rfl, upd_same, .nil, s0⟩ (fun i σ H2 _ ⟨_, _, _, _, _, s⟩ => SqL.of (s _ _ he)) ?_ ?_⟩
  · rintro i x σ H2 hi ⟨vs, u, rfl, hq2, hb, s⟩
    rw [List.getElem?_map] at hi
    obtain ⟨x, ex, rfl⟩ := Option.map_eq_some_iff.mp hi
    have step : (es.take (i + 1)).foldl itemsStep [] = itemsStep ((es.take i).foldl itemsStep []) x := by rw [take_snoc ex, List.foldl_append]; rfl
    have bl : vs.length < sizeLine := by
      have z := hb.len
      have z2 := items_len (es.take i) []
      rw [List.length_take, List.length_nil] at z2
      exact million (by omega)
    refine ⟨_, rfl, _, _, rfl, rfl, _, rfl, ite2 (fun c => ?_) (fun c => ?_)⟩
    · have c' : x < 0 := of_decide_eq_true c
      rw [itemsStep, if_pos c'] at step
      refine ⟨_, rfl, .inl ⟨rfl, _, SqL.of hq2⟩, _, rfl, _, rfl, _, _, rfl, rfl, (by show 2 ≤ sizeLine; decide), fun t ht => ⟨q, _, _, rfl, rfl, same_new ht _ _ _ hq2, bl, ?_⟩⟩
      refine ⟨vs ++ [.ref t], _, rfl, upd_same, ?_, keep_of hq (s.trans (same_new ht _)) (keep_upd q _ _)⟩
      rw [step]
      exact All2.new (it := .win (-1 - x)) hq2 hb ht _
    · have c' : ¬ x < 0 := fun z => c (decide_eq_true z)
      rw [itemsStep, if_neg c'] at step
      rcases List.eq_nil_or_concat ((es.take i).foldl itemsStep []) with hn | ⟨t0, l0, hn⟩
      · rw [hn] at hb step
        have hvs : vs = [] := List.eq_nil_of_length_eq_zero hb.len
        subst hvs
        refine ⟨_, rfl, q, _, rfl, .inl (SqL.of hq2), _, _, rfl, rfl, _, rfl, iteF (iteF ?_)⟩
        refine ⟨_, rfl, .inl ⟨rfl, _, SqL.of hq2⟩, _, rfl, _, rfl, _, _, rfl, rfl, (by show 3 ≤ sizeLine; decide), fun t ht => ⟨q, _, _, rfl, rfl, same_new ht _ _ _ hq2, bl, ?_⟩⟩
        refine ⟨[] ++ [.ref t], _, rfl, upd_same, ?_, keep_of hq (s.trans (same_new ht _)) (keep_upd q _ _)⟩
        rw [step]
        exact All2.new (it := .ink x (x + 1)) hq2 hb ht _
      · rw [List.concat_eq_append] at hn
        rw [hn, List.getLast?_concat, List.dropLast_concat] at step
        rw [hn] at hb
        obtain ⟨us, v0, rfl, hb0, a0, rfl, ha0⟩ := hb.split
        refine ⟨_, rfl, q, _, rfl, .inl (SqL.of hq2), _, _, rfl, rfl, _, rfl, ite2 (fun _ => ?_) (fun z => absurd (decide_eq_true (by simp)) z)⟩
        cases l0 with
        | win n =>
          refine ⟨_, rfl, _, rfl, q, _, _, _, rfl, rfl, SqL.of hq2, atI_neg1 _ _, a0, _, _, _, rfl, rfl, SqT.of ha0, rfl, rfl, _, rfl, ite2 (fun z => absurd z (by decide)) (fun _ => iteF ?_)⟩
          refine ⟨_, rfl, .inl ⟨rfl, _, SqL.of hq2⟩, _, rfl, _, rfl, _, _, rfl, rfl, (by show 3 ≤ sizeLine; decide), fun t ht => ⟨q, _, _, rfl, rfl, same_new ht _ _ _ hq2, bl, ?_⟩⟩
          refine ⟨_, _, rfl, upd_same, ?_, keep_of hq (s.trans (same_new ht _)) (keep_upd q _ _)⟩
          rw [step]
          exact All2.new (it := .ink x (x + 1)) hq2 hb ht _
        | ink p1 p2 =>
          refine ⟨_, rfl, _, rfl, q, _, _, _, rfl, rfl, SqL.of hq2, atI_neg1 _ _, a0, _, _, _, rfl, rfl, SqT.of ha0, rfl, rfl, _, rfl, ite2 (fun _ => ?_) (fun z => absurd (by decide) z)⟩
          refine ⟨_, rfl, _, rfl, q, _, _, _, rfl, rfl, SqL.of hq2, atI_neg1 _ _, a0, _, _, _, rfl, rfl, SqT.of ha0, rfl, _, rfl, rfl, _, rfl, ite2 (fun c2 => ?_) (fun c2 => ?_)⟩
          · have e2 : p2 = x := V.int.inj (of_decide_eq_true c2)
            refine ⟨_, rfl, _, rfl, q, _, _, _, rfl, rfl, SqL.of hq2, atI_neg1 _ _, a0, _, _, _, rfl, rfl, SqT.of ha0, rfl, _, rfl, _, _, rfl, rfl, (by show 3 ≤ sizeLine; decide), fun t ht => ?_⟩
            refine ⟨_, rfl, _, rfl, q, _, _, us.length, rfl, rfl, same_new ht _ _ _ hq2, (by rw [List.length_append]; exact ixN_neg1 _), ?_⟩
            rw [set_last]
            refine ⟨_, _, rfl, upd_same, ?_, keep_of hq (s.trans (same_new ht _)) (keep_upd q _ _)⟩
            rw [step]
            show All2 _ _ (if p2 = x then t0 ++ [Item.ink p1 (x + 1)] else _)
            rw [if_pos e2]
            exact All2.new (it := .ink p1 (x + 1)) hq2 hb0 ht _
          · have e2 : ¬ p2 = x := fun z => c2 (decide_eq_true (congrArg V.int z))
            refine ⟨_, rfl, .inl ⟨rfl, _, SqL.of hq2⟩, _, rfl, _, rfl, _, _, rfl, rfl, (by show 3 ≤ sizeLine; decide), fun t ht => ⟨q, _, _, rfl, rfl, same_new ht _ _ _ hq2, bl, ?_⟩⟩
            refine ⟨_, _, rfl, upd_same, ?_, keep_of hq (s.trans (same_new ht _)) (keep_upd q _ _)⟩
            rw [step]
            show All2 _ _ (if p2 = x then _ else t0 ++ [Item.ink p1 p2] ++ [Item.ink x (x + 1)])
            rw [if_neg e2]
            exact All2.new (it := .ink x (x + 1)) hq2 hb ht _
  · rintro σ H2 ⟨vs, u, rfl, hq2, hb, s⟩
    rw [List.length_map, List.take_length] at hb
    exact ⟨_, rfl, k q H2 ⟨q, vs, rfl, hq2, hb⟩ s hq⟩

/-! the shelf: what stands at each moment -/
structure RwAt (S : Addr → Prop) (H : Hp) (st op r : Addr) (its : List Item) : Prop where
  own : S r
  ne : r ≠ st ∧ r ≠ op
  at' : ItemsAt H (.ref r) its
def StAt (S : Addr → Prop) (H : Hp) (st op a : Addr) (rows : List (List Item)) : Prop := S a ∧ a ≠ st ∧ a ≠ op ∧ ∃ rs : List Addr, H a = some (.lst (rs.map V.ref)) ∧ All2 (RwAt S H st op) rs rows
abbrev Past := List (List (List Item))
structure Opn (past : Past) (ops : List Int) : Prop where
  some' : ∃ last, past.getLast? = some last ∧ ops.length = last.length
  fit : ∀ (s : Nat) (o : Int), ops[s]? = some o → 0 ≤ o ∧ o < past.length ∧ ∀ (m : Nat) (rows : List (List Item)), past[m]? = some rows → (o ≤ m ↔ s < rows.length)
  less : ∀ (m : Nat) (rows : List (List Item)), past[m]? = some rows → rows.length ≤ ops.length
structure Sh (C : Addr) (S : Addr → Prop) (H : Hp) (x d st op : Addr) (past : Past) (ops : List Int) : Prop where
  sx : S x
  ss : S st
  so : S op
  al : ∀ a, S a → ∃ ob, H a = some ob
  hx : H x = some (.ins C d [("states", .ref st), ("openings", .ref op)])
  hs : ∃ as : List Addr, H st = some (.lst (as.map V.ref)) ∧ All2 (StAt S H st op) as past
  ho : H op = some (.lst (ops.map V.int))
  ne : st ≠ op
  opn : Opn past ops
theorem ItemsAt.fr {H H' : Hp} {r : Addr} {its : List Item} (h : ItemsAt H (.ref r) its) (k : ∀ xs, H r = some (.lst xs) → H' r = some (.lst xs)) (t : ∀ a xs, H a = some (.tup xs) → H' a = some (.tup xs)) : ItemsAt H' (.ref r) its := by
  obtain ⟨a, vs, e, h1, h2⟩ := h
  cases e
  exact ⟨r, vs, rfl, k _ h1, h2.mono fun v it ⟨b, e, hb⟩ => ⟨b, e, t _ _ hb⟩⟩
theorem StAt.fr {S S' : Addr → Prop} {H H' : Hp} {st op a : Addr} {rows : List (List Item)} (h : StAt S H st op a rows) (sub : ∀ a, S a → S' a) (k : ∀ a ob, H a = some ob → S a → a ≠ st → a ≠ op → H' a = some ob) (t : ∀ a xs, H a = some (.tup xs) → H' a = some (.tup xs)) : StAt S' H' st op a rows := by
  obtain ⟨sa, n1, n2, rs, hr, al⟩ := h
  exact ⟨sub _ sa, n1, n2, rs, k _ _ hr sa n1 n2, al.mono fun r its q => ⟨sub _ q.own, q.ne, q.at'.fr (fun xs e => k _ _ e q.own q.ne.1 q.ne.2) t⟩⟩
theorem Sh.fr {C : Addr} {S : Addr → Prop} {H H' : Hp} {x d st op : Addr} {past : Past} {ops : List Int} (h : Sh C S H x d st op past ops) (k : ∀ a ob, H a = some ob → S a → H' a = some ob) (t : ∀ a xs, H a = some (.tup xs) → H' a = some (.tup xs)) : Sh C S H' x d st op past ops := by
  obtain ⟨sx, ss, so, al, hx, ⟨as, hs, a2⟩, ho, ne, opn⟩ := h
  refine ⟨sx, ss, so, fun a z => ?_, k _ _ hx sx, ⟨as, k _ _ hs ss, a2.mono fun a rows q => q.fr (fun _ z => z) (fun a ob e z _ _ => k _ _ e z) t⟩, k _ _ ho so, ne, opn⟩
  obtain ⟨ob, e⟩ := al a z
  exact ⟨ob, k _ _ e z⟩
theorem Sh.same {C : Addr} {S : Addr → Prop} {H H' : Hp} {x d st op : Addr} {past : Past} {ops : List Int} (h : Sh C S H x d st op past ops) (k : Same H H') : Sh C S H' x d st op past ops := h.fr (fun a ob e _ => k a ob e) (fun a xs e => k _ _ e)
theorem Sh.keep {C : Addr} {S : Addr → Prop} {H H' : Hp} {x d st op l : Addr} {past : Past} {ops : List Int} {ls : List V} (h : Sh C S H x d st op past ops) (hl : H l = some (.lst ls)) (nl : ¬ S l) (k : Keep l H H') : Sh C S H' x d st op past ops :=
  h.fr (fun a ob e z => k a ob e (fun q => nl (by rw [← q]; exact z))) (fun a xs e => k _ _ e (ne_of e hl (by intro z; cases z)))
theorem refs_inj : ∀ {as bs : List Addr}, as.map V.ref = bs.map V.ref → as = bs
  | [], [], _ => rfl
  | [], _ :: _, h => by cases h
  | _ :: _, [], h => by cases h
  | a :: as, b :: bs, h => by
    rw [List.map_cons, List.map_cons] at h
    injection h with h1 h2
    cases h1
    rw [refs_inj h2]
theorem Sh.last {C : Addr} {S : Addr → Prop} {H : Hp} {x d st op : Addr} {past : Past} {ops : List Int} (h : Sh C S H x d st op past ops) {as : List Addr} (ha : H st = some (.lst (as.map V.ref))) : ∃ as' a, as = as' ++ [a] ∧ ∀ last, past.getLast? = some last → StAt S H st op a last := by
  obtain ⟨bs, hb, a2⟩ := h.hs
  have e : as = bs := by
    rw [ha] at hb
    have := HO.lst.inj (Option.some.inj hb)
    exact refs_inj this
  subst e
  obtain ⟨last, hl, _⟩ := h.opn.some'
  obtain ⟨p', rfl⟩ : ∃ p', past = p' ++ [last] := by
    rcases List.eq_nil_or_concat past with rfl | ⟨p', l, rfl⟩
    · cases hl
    · rw [List.concat_eq_append, List.getLast?_concat] at hl
      cases hl
      exact ⟨p', List.concat_eq_append⟩
  obtain ⟨as', a, rfl, _, r⟩ := a2.split
  refine ⟨as', a, rfl, fun l e => ?_⟩
  rw [hl] at e
  cases e
  exact r
theorem cut_frontS (xs : List V) {p : Int} (h : 0 ≤ p) : cutV xs none (some p) = xs.take p.toNat := by
  unfold cutV
  have e1 : HT.sIx xs.length 0 none = 0 := rfl
  have e2 : HT.sIx xs.length xs.length (some p) = min p.toNat xs.length := by
    show (if p < 0 then (p + (xs.length : Int)).toNat else min p.toNat xs.length) = _
    rw [if_neg (by omega)]
  rw [e1, e2, List.drop_zero, Nat.sub_zero]
  rcases Nat.le_total p.toNat xs.length with z | z
  · rw [Nat.min_eq_left z]
  · rw [Nat.min_eq_right z, List.take_of_length_le (Nat.le_refl _), List.take_of_length_le z]
theorem cut_backS (xs : List V) {p : Int} (h : 0 ≤ p) : cutV xs (some p) none = xs.drop p.toNat := by
  unfold cutV
  have e1 : HT.sIx xs.length xs.length none = xs.length := rfl
  have e2 : HT.sIx xs.length 0 (some p) = min p.toNat xs.length := by
    show (if p < 0 then (p + (xs.length : Int)).toNat else min p.toNat xs.length) = _
    rw [if_neg (by omega)]
  rw [e1, e2]
  rcases Nat.le_total p.toNat xs.length with z | z
  · rw [Nat.min_eq_left z, List.take_of_length_le (by rw [List.length_drop]; omega)]
  · rw [Nat.min_eq_right z, List.drop_of_length_le (Nat.le_refl _), List.drop_of_length_le z]
    simp
def spChanged : Sp := fun vs H Q _ => ∃ (a r : Addr) (rs : List V) (s : Nat), vs = [.ref a, .int (s : Nat), .ref r] ∧ H a = some (.lst rs) ∧ s ≤ rs.length ∧ rs.length ≤ 1000 ∧ ∀ (p : Addr) (H' : Hp), H' p = some (.lst (rs.take s ++ [.ref r] ++ rs.drop (s + 1))) → Same H H' → H p = none → Q (.ref p) H'
def spSInit (C : Addr) : Sp := fun vs H Q _ => ∃ x d : Addr, vs = [.ref x] ∧ H x = some (.ins C d []) ∧ ∀ (st op z : Addr) (H' : Hp), Sh C (fun a => a = x ∨ a = st ∨ a = op ∨ a = z) H' x d st op [[]] [] → Keep x H H' → H st = none → H op = none → H z = none → Q .non H'
def spNow (C : Addr) : Sp := fun vs H Q _ => ∃ (x d st op : Addr) (as : List V), vs = [.ref x] ∧ H x = some (.ins C d [("states", .ref st), ("openings", .ref op)]) ∧ H st = some (.lst as) ∧ Q (.int ((as.length : Nat) - 1)) H
def spMany (C : Addr) : Sp := fun vs H Q _ => ∃ (S : Addr → Prop) (x d st op : Addr) (past : Past) (ops : List Int), vs = [.ref x] ∧ Sh C S H x d st op past ops ∧ Q (.int (ops.length : Nat)) H
abbrev schanged : Stmt := top 5
abbrev sShelf___init__ : Stmt := mtop 6 0
abbrev sShelf_now : Stmt := mtop 6 3
abbrev sShelf_many : Stmt := mtop 6 2
theorem scchanged : FnScope ["state", "sheet", "items"] ["state", "sheet", "items"] (defScope schanged) := ⟨rfl, rfl, rfl, by decide +kernel, rfl, by decide +kernel, by decide +kernel⟩
theorem scShelf___init__ : FnScope ["self"] ["self"] (defScope sShelf___init__) := ⟨rfl, rfl, rfl, by decide +kernel, rfl, by decide +kernel, by decide +kernel⟩
theorem scShelf_now : FnScope ["self"] ["self"] (defScope sShelf_now) := ⟨rfl, rfl, rfl, by decide +kernel, rfl, by decide +kernel, by decide +kernel⟩
theorem scShelf_many : FnScope ["self"] ["self"] (defScope sShelf_many) := ⟨rfl, rfl, rfl, by decide +kernel, rfl, by decide +kernel, by decide +kernel⟩
theorem ok_changed {f : Addr} {fd : FuncData} (F : Fun K "changed" "changed" schanged f fd) (T : Nms mg) : FnOk P w K mg base CX0 1 f fd ["state", "sheet", "items"] spChanged := by
  refine F.ok scchanged (fun vs H Q E h => ?_) (fun cdv A outer s H vs Q E hr h => ?_)
  · obtain ⟨a, r, rs, s, rfl, _⟩ := h
    rfl
  obtain ⟨a, r, rs, s, rfl, ha, sl, l1, k⟩ := h
  refine ⟨_, (pss_cons (ps_if (pt_not (pt_chain op_le op_le pe_int (pv 1) (pe_callB call_len_seq rfl T.n_len PySem.boot_len (pa_cons (pv 0) pa_nil))))
      (pss_one ps_never)
      pss_nil)
      (pss_one (ps_ret (pe_op op_cat (pe_op op_cat (pe_slice sl_list (pv 0) po_none (po_some (pv 1))) (pe_lst (pa_cons (pv 2) pa_nil))) (pe_slice sl_list (pv 0) (po_some (pe_op op_add (pv 1) pe_int)) po_none))))), ?_⟩
  refine ⟨_, rfl, _, _, rfl, rfl, _, rfl, ite2 (fun c0 => ?_) (fun c0 => absurd (decide_eq_true (by omega)) c0)⟩
  refine ⟨_, rfl, a, _, rfl, .inl (SqL.of ha), _, _, rfl, rfl, _, rfl, ?_⟩
  rw [decide_eq_true (show ((s : Nat) : Int) ≤ ((rs.length : Nat) : Int) by omega)]
  refine iteF ?_
  refine ⟨_, rfl, _, rfl, _, rfl, a, _, rfl, SqL.of ha, fun p1 hp1 => ?_⟩
  rw [cut_frontS _ (by omega), Int.toNat_natCast]
  have s1 : Same H (upd H p1 (.lst (rs.take s))) := same_new hp1 _
  have h1 : (upd H p1 (.lst (rs.take s))) p1 = some (.lst (rs.take s)) := upd_same
  generalize upd H p1 (.lst (rs.take s)) = H1 at s1 h1
  refine ⟨_, rfl, (by show 1 ≤ sizeLine; decide), fun p2 hp2 => ?_⟩
  have s2 : Same H1 (upd H1 p2 (.lst [.ref r])) := same_new hp2 _
  have h2 : (upd H1 p2 (.lst [.ref r])) p2 = some (.lst [.ref r]) := upd_same
  generalize upd H1 p2 (.lst [.ref r]) = H2 at s2 h2
  refine ⟨p1, p2, _, _, rfl, rfl, s2 _ _ h1, h2, (by rw [List.length_take]; exact Nat.le_of_lt (million (by simp only [List.length_singleton]; omega))), fun p3 hp3 => ?_⟩
  have s3 : Same H2 (upd H2 p3 (.lst (rs.take s ++ [.ref r]))) := same_new hp3 _
  have h3 : (upd H2 p3 (.lst (rs.take s ++ [.ref r]))) p3 = some (.lst (rs.take s ++ [.ref r])) := upd_same
  generalize upd H2 p3 (.lst (rs.take s ++ [.ref r])) = H3 at s3 h3
  have s03 := s1.trans (s2.trans s3)
  refine ⟨_, rfl, _, rfl, _, _, rfl, rfl, _, rfl, a, _, rfl, SqL.of (s03 _ _ ha), fun p4 hp4 => ?_⟩
  rw [cut_backS _ (by omega), show (((s : Nat) : Int) + 1).toNat = s + 1 by omega]
  have s4 : Same H3 (upd H3 p4 (.lst (rs.drop (s + 1)))) := same_new hp4 _
  have h4 : (upd H3 p4 (.lst (rs.drop (s + 1)))) p4 = some (.lst (rs.drop (s + 1))) := upd_same
  generalize upd H3 p4 (.lst (rs.drop (s + 1))) = H4 at s4 h4
  refine ⟨p3, p4, _, _, rfl, rfl, s4 _ _ h3, h4, (by rw [List.length_append, List.length_take, List.length_drop]; exact Nat.le_of_lt (million (by simp only [List.length_singleton]; omega))), fun p5 hp5 => ?_⟩
  have s04 := s03.trans s4
  exact k p5 _ upd_same (s04.trans (same_new hp5 _)) (free_same s04 hp5)
theorem ok_Shelf___init__ {f C : Addr} {fd : FuncData} (F : Fun K "__init__" "Shelf.__init__" sShelf___init__ f fd) (cl : Cls K C) (n1 : NoAttr K C "states") (n2 : NoAttr K C "openings") : FnOk P w K mg base CX0 1 f fd ["self"] (spSInit C) := by
  refine F.ok scShelf___init__ (fun vs H Q E h => ?_) (fun cdv A outer s H vs Q E hr h => ?_)
  · obtain ⟨x, d, rfl, _⟩ := h
    rfl
  obtain ⟨x, d, rfl, hx, k⟩ := h
  refine ⟨_, (pss_cons (ps_fld (pv 0) (pe_lst (pa_cons (pe_lst pa_nil) pa_nil)) rfl)
      (pss_one (ps_fld (pv 0) (pe_lst pa_nil) rfl))), ?_⟩
  refine ⟨(by show 0 ≤ sizeLine; decide), fun z hz => ?_⟩
  have a0 : Same H (upd H z (.lst [])) := same_new hz _
  have z0 : (upd H z (.lst [])) z = some (.lst []) := upd_same
  generalize upd H z (.lst []) = H0 at a0 z0
  refine ⟨(by show 1 ≤ sizeLine; decide), fun st hst => ?_⟩
  have a1 : Same H0 (upd H0 st (.lst [.ref z])) := same_new hst _
  have b1 : (upd H0 st (.lst [.ref z])) st = some (.lst [.ref z]) := upd_same
  generalize upd H0 st (.lst [.ref z]) = H1 at a1 b1
  have a01 := a0.trans a1
  refine ⟨_, rfl, x, C, d, _, rfl, a01 _ _ hx, cl, n1, by decide, ?_⟩
  have k2 : Keep x H1 (upd H1 x (.ins C d (L2.putF "states" (.ref st) []))) := keep_upd x _ _
  have h2 : (upd H1 x (.ins C d (L2.putF "states" (.ref st) []))) x = some (.ins C d [("states", .ref st)]) := upd_same
  generalize upd H1 x (.ins C d (L2.putF "states" (.ref st) [])) = H2 at k2 h2
  have nsx : st ≠ x := (ne_of_none (a0 _ _ hx) hst).symm
  have nzx : z ≠ x := (ne_of_none hx hz).symm
  have nzs : z ≠ st := ne_of_none z0 hst
  have b2 := k2 _ _ b1 nsx
  have z2 := k2 _ _ (a1 _ _ z0) nzx
  refine ⟨(by show 0 ≤ sizeLine; decide), fun op hop => ?_⟩
  have nox : op ≠ x := (ne_of_none h2 hop).symm
  have nso : st ≠ op := ne_of_none b2 hop
  have nzo : z ≠ op := ne_of_none z2 hop
  refine ⟨_, rfl, x, C, d, _, rfl, same_new hop _ _ _ h2, cl, n2, (by show 1 < 1000; decide), ?_⟩
  have k5 : Keep x H (upd (upd H2 op (.lst [])) x (.ins C d (L2.putF "openings" (.ref op) [("states", .ref st)]))) := fun a ob e n => by
    rw [upd_ne n]
    exact same_new hop _ _ _ (k2 _ _ (a01 _ _ e) n)
  have z5 : (upd (upd H2 op (.lst [])) x (.ins C d (L2.putF "openings" (.ref op) [("states", .ref st)]))) z = some (.lst []) := by rw [upd_ne nzx]; exact same_new hop _ _ _ z2
  have s5 : (upd (upd H2 op (.lst [])) x (.ins C d (L2.putF "openings" (.ref op) [("states", .ref st)]))) st = some (.lst [.ref z]) := by rw [upd_ne nsx]; exact same_new hop _ _ _ b2
  have o5 : (upd (upd H2 op (.lst [])) x (.ins C d (L2.putF "openings" (.ref op) [("states", .ref st)]))) op = some (.lst []) := by rw [upd_ne nox]; exact upd_same
  have x5 : (upd (upd H2 op (.lst [])) x (.ins C d (L2.putF "openings" (.ref op) [("states", .ref st)]))) x = some (.ins C d [("states", .ref st), ("openings", .ref op)]) := upd_same
  generalize upd (upd H2 op (.lst [])) x (.ins C d (L2.putF "openings" (.ref op) [("states", .ref st)])) = H5 at k5 z5 s5 o5 x5
  refine k st op z _ ⟨.inl rfl, .inr (.inl rfl), .inr (.inr (.inl rfl)), fun a w => ?_, x5, ⟨[z], s5, .cons ⟨.inr (.inr (.inr rfl)), nzs, nzo, [], z5, .nil⟩ .nil⟩, o5, nso, ⟨⟨[], rfl, rfl⟩, fun s o e => (by cases s <;> cases e), fun m rows e => ?_⟩⟩ k5 (free_same a0 hst) ?_ hz
  · rcases w with rfl | rfl | rfl | rfl
    · exact ⟨_, x5⟩
    · exact ⟨_, s5⟩
    · exact ⟨_, o5⟩
    · exact ⟨_, z5⟩
  · match m, e with
    | 0, e => cases e; exact Nat.le_refl _
    | m + 1, e => cases e
  · exact free_same a01 (free_keep k2 nox hop)
theorem ok_Shelf_now {f C : Addr} {fd : FuncData} (F : Fun K "now" "Shelf.now" sShelf_now f fd) (T : Nms mg) (cl : Cls K C) (n1 : NoAttr K C "states") : FnOk P w K mg base CX0 1 f fd ["self"] (spNow C) := by
  refine F.ok scShelf_now (fun vs H Q E h => ?_) (fun cdv A outer s H vs Q E hr h => ?_)
  · obtain ⟨x, d, st, op, as, rfl, _⟩ := h
    rfl
  obtain ⟨x, d, st, op, as, rfl, hx, hs, k⟩ := h
  refine ⟨_, (pss_one (ps_ret (pe_op op_sub (pe_callB call_len_seq rfl T.n_len PySem.boot_len (pa_cons (pe_fld (pv 0) rfl) pa_nil)) pe_int))), ?_⟩
  exact ⟨_, rfl, x, C, d, _, .ref st, rfl, hx, cl, n1, rfl, st, _, rfl, .inl (SqL.of hs), _, _, rfl, rfl, k⟩
theorem ok_Shelf_many {f C : Addr} {fd : FuncData} (F : Fun K "many" "Shelf.many" sShelf_many f fd) (T : Nms mg) (cl : Cls K C) (n1 : NoAttr K C "states") : FnOk P w K mg base CX0 1 f fd ["self"] (spMany C) := by
  refine F.ok scShelf_many (fun vs H Q E h => ?_) (fun cdv A outer s H vs Q E hr h => ?_)
  · obtain ⟨S, x, d, st, op, past, ops, rfl, _⟩ := h
    rfl
  obtain ⟨S, x, d, st, op, past, ops, rfl, W, k⟩ := h
  obtain ⟨as, hs, a2⟩ := W.hs
  obtain ⟨last, hl, ol⟩ := W.opn.some'
  refine ⟨_, (pss_one (ps_ret (pe_callB call_len_seq rfl T.n_len PySem.boot_len (pa_cons (pe_ix ix_list (pe_fld (pv 0) rfl) (pe_un un_neg pe_int) (fun _ _ => rfl)) pa_nil)))), ?_⟩
  obtain ⟨as', a, rfl, r⟩ := W.last hs
  refine ⟨_, rfl, x, C, d, _, .ref st, rfl, W.hx, cl, n1, rfl, _, rfl, st, _, _, .ref a, rfl, rfl, SqL.of hs, (by rw [List.map_append]; exact atI_neg1 _ _), ?_⟩
  obtain ⟨_, _, _, rs, ha, al⟩ := r last hl
  refine ⟨a, _, rfl, .inl (SqL.of ha), ?_⟩
  rw [List.length_map, al.len, ← ol]
  exact k




def ap1 (rows : List (List Item)) (ch : Nat × List Item) : List (List Item) := rows.take ch.1 ++ [ch.2] ++ rows.drop (ch.1 + 1)
def apCh (rows : List (List Item)) (chs : List (Nat × List Item)) : List (List Item) := chs.foldl ap1 rows
def okCh (rows : List (List Item)) (chs : List (Nat × List Item)) : Prop := ∀ (i : Nat) (ch : Nat × List Item), chs[i]? = some ch → ch.1 ≤ (apCh rows (chs.take i)).length
theorem ap1_len {rows : List (List Item)} {ch : Nat × List Item} (h : ch.1 ≤ rows.length) : rows.length ≤ (ap1 rows ch).length ∧ (ap1 rows ch).length ≤ rows.length + 1 := by
  unfold ap1
  rw [List.length_append, List.length_append, List.length_take, List.length_drop]
  simp only [List.length_singleton]
  omega
theorem apCh_succ {rows : List (List Item)} {chs : List (Nat × List Item)} {i : Nat} {ch : Nat × List Item} (h : chs[i]? = some ch) : apCh rows (chs.take (i + 1)) = ap1 (apCh rows (chs.take i)) ch := by
  unfold apCh
  rw [take_snoc h, List.foldl_append]
  rfl
theorem apCh_len {rows : List (List Item)} {chs : List (Nat × List Item)} (ok : okCh rows chs) : ∀ i, i ≤ chs.length → rows.length ≤ (apCh rows (chs.take i)).length ∧ (apCh rows (chs.take i)).length ≤ rows.length + i
  | 0, _ => ⟨Nat.le_refl _, Nat.le_refl _⟩
  | i + 1, h => by
    have e : chs[i]? = some chs[i] := List.getElem?_eq_getElem (by omega)
    have a := apCh_len ok i (by omega)
    have b := ap1_len (ok i _ e)
    rw [apCh_succ e]
    omega
theorem Opn.step {past : Past} {ops : List Int} {last rows : List (List Item)} (h : Opn past ops) (hl : past.getLast? = some last) (le : last.length ≤ rows.length) : Opn (past ++ [rows]) (ops ++ List.replicate (rows.length - last.length) ((past.length : Nat) : Int)) := by
  obtain ⟨⟨l', hl', ol⟩, fit, less⟩ := h
  rw [hl] at hl'
  cases hl'
  have get : ∀ (m : Nat) (r : List (List Item)), (past ++ [rows])[m]? = some r → past[m]? = some r ∧ m < past.length ∨ m = past.length ∧ r = rows := fun m r e => by
    by_cases c : m < past.length
    · rw [List.getElem?_append_left c] at e
      exact .inl ⟨e, c⟩
    · rw [List.getElem?_append_right (by omega)] at e
      match hm : m - past.length, e with
      | 0, e => cases e; exact .inr ⟨by omega, rfl⟩
      | k + 1, e => cases e
  refine ⟨⟨rows, List.getLast?_concat, by rw [List.length_append, List.length_replicate]; omega⟩, fun s o e => ?_, fun m r e => ?_⟩
  · by_cases c : s < ops.length
    · rw [List.getElem?_append_left c] at e
      obtain ⟨f0, f1, f2⟩ := fit s o e
      refine ⟨f0, by rw [List.length_append]; simp only [List.length_singleton]; omega, fun m r em => ?_⟩
      rcases get m r em with ⟨q, _⟩ | ⟨rfl, rfl⟩
      · exact f2 m r q
      · constructor
        · intro _; omega
        · intro _; omega
    · rw [List.getElem?_append_right (by omega), List.getElem?_replicate] at e
      split at e
      · cases e
        refine ⟨by omega, by rw [List.length_append]; simp only [List.length_singleton]; omega, fun m r em => ?_⟩
        rcases get m r em with ⟨q, lt⟩ | ⟨rfl, rfl⟩
        · have := less m r q
          constructor
          · intro z; omega
          · intro z; omega
        · constructor
          · intro _; omega
          · intro _; omega
      · cases e
  · rw [List.length_append, List.length_replicate]
    rcases get m r e with ⟨q, _⟩ | ⟨rfl, rfl⟩
    · have := less m r q
      omega
    · omega
theorem All2.app {α β : Type} {R : α → β → Prop} : ∀ {as as' : List α} {bs bs' : List β}, All2 R as bs → All2 R as' bs' → All2 R (as ++ as') (bs ++ bs')
  | _, _, _, _, .nil, t => t
  | _, _, _, _, .cons e r, t => .cons e (r.app t)
theorem All2.take {α β : Type} {R : α → β → Prop} : ∀ {as : List α} {bs : List β} (n : Nat), All2 R as bs → All2 R (as.take n) (bs.take n)
  | _, _, 0, _ => by rw [List.take_zero, List.take_zero]; exact .nil
  | _, _, n + 1, .nil => .nil
  | _, _, n + 1, .cons e r => .cons e (r.take n)
theorem All2.drop {α β : Type} {R : α → β → Prop} : ∀ {as : List α} {bs : List β} (n : Nat), All2 R as bs → All2 R (as.drop n) (bs.drop n)
  | _, _, 0, h => h
  | _, _, n + 1, .nil => .nil
  | _, _, n + 1, .cons _ r => r.drop n
theorem rep_oneS (v : V) : ∀ n : Nat, (List.replicate n [v]).flatten = List.replicate n v
  | 0 => rfl
  | n + 1 => by rw [List.replicate_succ, List.flatten_cons, rep_oneS v n, List.replicate_succ]; rfl
theorem upd_idS {H : Hp} {a : Addr} {ob : HO} (h : H a = some ob) : upd H a ob = H := by
  funext b
  by_cases e : b = a
  · rw [e, upd_same, h]
  · rw [upd_ne e]
/-- the changes handed in: tuples of a number and a list of items -/
def ChAt (H : Hp) (a : Addr) (ch : Nat × List Item) : Prop := ∃ r : Addr, H a = some (.tup [.int (ch.1 : Nat), .ref r]) ∧ ItemsAt H (.ref r) ch.2
theorem ChAt.same {H H' : Hp} {a : Addr} {ch : Nat × List Item} (s : Same H H') : ChAt H a ch → ChAt H' a ch := fun ⟨r, h1, h2⟩ => ⟨r, s _ _ h1, h2.same s⟩
def spShStep (C : Addr) : Sp := fun vs H Q _ => ∃ (S : Addr → Prop) (x d st op c : Addr) (past : Past) (ops : List Int) (cs : List Addr) (chs : List (Nat × List Item)) (last : List (List Item)), vs = [.ref x, .ref c] ∧ Sh C S H x d st op past ops ∧ H c = some (.lst (cs.map V.ref)) ∧ All2 (ChAt H) cs chs ∧ past.getLast? = some last ∧ okCh last chs ∧ chs.length ≤ 200 ∧ last.length ≤ 500 ∧ past.length ≤ 1000 ∧
  ∀ (S' : Addr → Prop) (H' : Hp), Sh C S' H' x d st op (past ++ [apCh last chs]) (ops ++ List.replicate ((apCh last chs).length - last.length) ((past.length : Nat) : Int)) → (∀ a, S' a → S a ∨ H a = none) → (∀ a ob, H a = some ob → ¬ S a → H' a = some ob) → (∀ a xs, H a = some (.tup xs) → H' a = some (.tup xs)) → Q .non H'
abbrev sShelf_step : Stmt := mtop 6 1
theorem scShelf_step : FnScope ["self", "changes", "state", "ahead", "sheet", "items"] ["self", "changes"] (defScope sShelf_step) := ⟨rfl, rfl, rfl, by decide +kernel, rfl, by decide +kernel, by decide +kernel⟩
theorem ok_Shelf_step {f C fi fN fC : Addr} {fd gN gC : FuncData} (F : Fun K "step" "Shelf.step" sShelf_step f fd) (T : Nms mg) (cShelf : ClsAt K mg "Shelf" C fi) (n1 : NoAttr K C "states") (n2 : NoAttr K C "openings") (dchanged : DefAt K mg "changed" schanged ["state", "sheet", "items"] fC gC) (dShelf_now : MetAt K C "now" "Shelf.now" sShelf_now ["self"] fN gN) : FnOk P w K mg base CX0 2 f fd ["self", "changes"] (spShStep C) := by
  have gchanged : FnOk P w K mg base CX0 1 _ _ ["state", "sheet", "items"] spChanged := ok_changed dchanged.F T
  have gShelf_now : FnOk P w K mg base CX0 1 _ _ ["self"] (spNow C) := ok_Shelf_now dShelf_now.F T cShelf.cl n1
  refine F.ok scShelf_step (fun vs H Q E h => ?_) (fun cdv A outer s H vs Q E hr h => ?_)
  · obtain ⟨S, x, d, st, op, c, past, ops, cs, chs, last, rfl, _⟩ := h
    rfl
  obtain ⟨S, x, d, st, op, c, past, ops, cs, chs, last, rfl, W, hc, a2, hl, okc, lc, ll, lp, k⟩ := h
  refine ⟨_, (pss_cons (ps_set (i := 2) scShelf_step.nd rfl (Or.inl rfl) (pe_ix ix_list (pe_fld (pv 0) rfl) (pe_un un_neg pe_int) (fun _ _ => rfl)))
      (pss_cons (ps_set (i := 3) scShelf_step.nd rfl (Or.inl rfl) (pe_callB call_len_seq rfl T.n_len PySem.boot_len (pa_cons (pv 2) pa_nil)))
      (pss_cons (ps_for PassesOwn.never rfl (pi_list (pv 1)) (pg_tup (n := 2) rfl (pgs_cons (pg_name (i := 4) scShelf_step.nd rfl (Or.inl rfl)) (pgs_cons (pg_name (i := 5) scShelf_step.nd rfl (Or.inl rfl)) pgs_nil)))
      (pss_one (ps_set (i := 2) scShelf_step.nd rfl (Or.inl rfl) (pe_def dchanged gchanged hr (pa_cons (pv 2) (pa_cons (pv 4) (pa_cons (pe_callTy call_list_of rfl T.n_list PyProof.Rows.boot_list (pa_cons (pv 5) pa_nil)) pa_nil)))))))
      (pss_cons (ps_expr (pe_bm PySem.F.plainAttrs_list PySem.F.slot_list_append PySem.F.type_list_append mt_append (pe_fld (pv 0) rfl) (pa_cons (pv 2) pa_nil)))
      (pss_one (ps_fldaug (pv 0) (pe_op op_rep (pe_lst (pa_cons (pe_meth0 (pv 0) cShelf.cl dShelf_now.mt gShelf_now (hr.mono (by decide)) dShelf_now.b .nil pass0) pa_nil)) (pe_op op_sub (pe_callB call_len_seq rfl T.n_len PySem.boot_len (pa_cons (pv 2) pa_nil)) (pv 3))) in_cat)))))), ?_⟩
  obtain ⟨as, hs, al⟩ := id W.hs
  obtain ⟨as', a, ea, r⟩ := W.last hs
  obtain ⟨Sa, na1, na2, rs, ha, ar⟩ := r last hl
  have lal := al.len
  refine ⟨_, rfl, x, C, d, _, .ref st, rfl, W.hx, cShelf.cl, n1, rfl, _, rfl, st, _, _, .ref a, rfl, rfl, SqL.of hs, (by rw [ea, List.map_append]; exact atI_neg1 _ _), ?_⟩
  refine ⟨_, rfl, a, _, rfl, .inl (SqL.of ha), ?_⟩
  rw [List.length_map, ar.len]
  have hst : ∀ q, H q = none → q ≠ st ∧ q ≠ op := fun q hq => ⟨fun z => (by rw [z, hs] at hq; cases hq), fun z => (by rw [z, W.ho] at hq; cases hq)⟩
  refine ⟨_, rfl, c, rfl, ⟨_, SqL.of hc⟩, for_list (K := K) (a := c) (xs := cs.map V.ref) (fun i σ H1 => ∃ (u4 u5 : Option V) (S1 : Addr → Prop) (ai : Addr), σ = [some (.ref x), some (.ref c), some (.ref ai), some (.int (last.length : Nat)), u4, u5] ∧ Same H H1 ∧ (∀ q, S q → S1 q) ∧ (∀ q, S1 q → S q ∨ H q = none) ∧ (∀ q, S1 q → ∃ ob, H1 q = some ob) ∧ StAt S1 H1 st op ai (apCh last (chs.take i))) ⟨none, none, S, a, rfl, Same.refl _, fun _ z => z, fun _ z => .inl z, W.al, r last hl⟩ (fun i σ H1 _ ⟨_, _, _, _, _, s, _⟩ => SqL.of (s _ _ hc)) ?_ ?_⟩
  · rintro i y σ H1 hi ⟨u4, u5, S1, ai, rfl, s1, up, sub, al1, sa1⟩
    rw [List.getElem?_map] at hi
    obtain ⟨t, et, rfl⟩ := Option.map_eq_some_iff.mp hi
    obtain ⟨ch, ech, q⟩ := a2.get et
    have il := (List.getElem?_eq_some_iff.mp ech).1
    obtain ⟨ri, ht, hri⟩ := q.same s1
    obtain ⟨b, vs, eb, hb, itb⟩ := id hri
    cases eb
    obtain ⟨Sai, nai1, nai2, rsi, hai, ari⟩ := id sa1
    refine ⟨t, _, rfl, SqT.of ht, rfl, _, _, rfl, _, _, rfl, rfl, ?_⟩
    refine ⟨_, rfl, _, rfl, _, rfl, ri, _, rfl, .inl (SqL.of hb), fun z hz => ?_⟩
    have s2 : Same H1 (upd H1 z (.lst vs)) := same_new hz _
    have z2 : (upd H1 z (.lst vs)) z = some (.lst vs) := upd_same
    generalize upd H1 z (.lst vs) = H2 at s2 z2
    have lens := apCh_len okc i (by omega)
    have okch := okc i ch ech
    have lri := ari.len
    refine ⟨ai, z, _, ch.1, rfl, s2 _ _ hai, by rw [List.length_map, lri]; exact okch, by rw [List.length_map, lri]; omega, fun p H3 hp3 s3 fp => ?_⟩
    have s23 := s2.trans s3
    have fz : H z = none := free_same s1 hz
    have fp' : H p = none := free_same (s1.trans s2) fp
    refine ⟨_, _, fun q => S1 q ∨ q = z ∨ q = p, p, rfl, s1.trans s23, fun q z => .inl (up q z), fun q w => ?_, fun q w => ?_, .inr (.inr rfl), (hst p fp').1, (hst p fp').2, rsi.take ch.1 ++ [z] ++ rsi.drop (ch.1 + 1), ?_, ?_⟩
    · rcases w with w | rfl | rfl
      · exact sub q w
      · exact .inr fz
      · exact .inr fp'
    · rcases w with w | rfl | rfl
      · obtain ⟨ob, e⟩ := al1 q w
        exact ⟨ob, s23 _ _ e⟩
      · exact ⟨_, s3 _ _ z2⟩
      · exact ⟨_, hp3⟩
    · rw [hp3]
      simp only [List.map_append, List.map_take, List.map_drop, List.map_cons, List.map_nil]
    · rw [apCh_succ ech]
      have mv : All2 (RwAt (fun q => S1 q ∨ q = z ∨ q = p) H3 st op) rsi (apCh last (chs.take i)) := ari.mono fun r its q => ⟨.inl q.own, q.ne, q.at'.same s23⟩
      refine ((mv.take ch.1).app (.cons ⟨.inr (.inl rfl), hst z fz, ⟨z, vs, rfl, s3 _ _ z2, itb.mono fun v it q => q.same s23⟩⟩ .nil)).app (mv.drop (ch.1 + 1))
  · rintro σ H1 ⟨u4, u5, S1, ai, rfl, s1, up, sub, al1, sa1⟩
    have lcs : (cs.map V.ref).length = chs.length := by rw [List.length_map, a2.len]
    rw [lcs, List.take_length] at sa1
    have lens := apCh_len okc chs.length (Nat.le_refl _)
    rw [List.take_length] at lens
    obtain ⟨Sai, nai1, nai2, rsi, hai, ari⟩ := id sa1
    have lri := ari.len
    have W1 := W.same s1
    have hs1 := s1 _ _ hs
    refine ⟨_, rfl, x, C, d, _, .ref st, rfl, W1.hx, cShelf.cl, n1, rfl, .inl ⟨rfl, _, SqL.of hs1⟩, _, rfl, st, _, _, rfl, rfl, hs1, (by rw [List.length_map]; exact million (by omega)), ?_⟩
    rw [show as.map V.ref ++ [.ref ai] = (as ++ [ai]).map V.ref by rw [List.map_append]; rfl]
    have k2 : Keep st H1 (upd H1 st (.lst ((as ++ [ai]).map V.ref))) := keep_upd st _ _
    have st2 : (upd H1 st (.lst ((as ++ [ai]).map V.ref))) st = some (.lst ((as ++ [ai]).map V.ref)) := upd_same
    generalize upd H1 st (.lst ((as ++ [ai]).map V.ref)) = H2 at k2 st2
    have nxs : x ≠ st := ne_of W1.hx hs1 (by intro z; cases z)
    have nxo : x ≠ op := ne_of W1.hx W1.ho (by intro z; cases z)
    have x2 := k2 _ _ W1.hx nxs
    have o2 := k2 _ _ W1.ho W.ne.symm
    have ai2 := k2 _ _ hai nai1
    have lmn : (((as ++ [ai]).map V.ref).length : Int) - 1 = ((past.length : Nat) : Int) := by
      rw [List.length_map, List.length_append, lal]
      simp only [List.length_singleton]
      omega
    refine ⟨_, rfl, x, C, d, _, .ref op, rfl, x2, cShelf.cl, n2, rfl, _, rfl, x, d, _, rfl, x2, rfl, x, d, st, op, _, rfl, x2, st2, ?_⟩
    rw [lmn]
    refine ⟨(by show 1 ≤ sizeLine; decide), fun t2 ht2 => ?_⟩
    have s3 : Same H2 (upd H2 t2 (.lst [.int (past.length : Nat)])) := same_new ht2 _
    have b3 : (upd H2 t2 (.lst [.int (past.length : Nat)])) t2 = some (.lst [.int (past.length : Nat)]) := upd_same
    generalize upd H2 t2 (.lst [.int (past.length : Nat)]) = H3 at s3 b3
    refine ⟨_, rfl, ai, _, rfl, .inl (SqL.of (s3 _ _ ai2)), _, rfl, _, _, rfl, rfl, ?_⟩
    rw [List.length_map, lri]
    have ek : (((apCh last chs).length : Nat) : Int) - ((last.length : Nat) : Int) = (((apCh last chs).length - last.length : Nat) : Int) := by omega
    show rRep _ (V.int ((((apCh last chs).length : Nat) : Int) - ((last.length : Nat) : Int))) _ _
    rw [ek]
    refine ⟨t2, _, _, rfl, rfl, b3, by omega, by omega, (by simp only [List.length_singleton]; exact Nat.le_of_lt (million (by omega))), fun t3 ht3 => ?_⟩
    rw [Int.toNat_natCast, rep_oneS]
    generalize hk : (apCh last chs).length - last.length = kk
    have s4 : Same H3 (upd H3 t3 (.lst (List.replicate kk (V.int (past.length : Nat))))) := same_new ht3 _
    have b4 : (upd H3 t3 (.lst (List.replicate kk (V.int (past.length : Nat))))) t3 = some (.lst (List.replicate kk (V.int (past.length : Nat)))) := upd_same
    generalize upd H3 t3 (.lst (List.replicate kk (V.int (past.length : Nat)))) = H4 at s4 b4
    have s24 := s3.trans s4
    have lo : ops.length ≤ 700 := by
      obtain ⟨l', hl', ol⟩ := W.opn.some'
      rw [hl] at hl'
      cases hl'
      omega
    refine ⟨op, t3, _, _, rfl, rfl, s24 _ _ o2, b4, (by rw [List.length_map, List.length_replicate]; exact Nat.le_of_lt (million (by omega))), ?_⟩
    rw [show ops.map V.int ++ List.replicate kk (V.int (past.length : Nat)) = (ops ++ List.replicate kk ((past.length : Nat) : Int)).map V.int by rw [List.map_append, List.map_replicate]]
    have k5 : Keep op H4 (upd H4 op (.lst ((ops ++ List.replicate kk ((past.length : Nat) : Int)).map V.int))) := keep_upd op _ _
    have o5 : (upd H4 op (.lst ((ops ++ List.replicate kk ((past.length : Nat) : Int)).map V.int))) op = some (.lst ((ops ++ List.replicate kk ((past.length : Nat) : Int)).map V.int)) := upd_same
    generalize upd H4 op (.lst ((ops ++ List.replicate kk ((past.length : Nat) : Int)).map V.int)) = H5 at k5 o5
    have x5 := k5 _ _ (s24 _ _ x2) nxo
    refine ⟨d, _, x5, (by show 2 < 1000; decide), ?_⟩
    have e5 : upd H5 x (.ins C d (L2.putF "openings" (.ref op) ([("states", .ref st), ("openings", .ref op)] : List (Str × V)))) = H5 := upd_idS x5
    rw [e5]
    have k15 : ∀ q ob, H1 q = some ob → q ≠ st → q ≠ op → H5 q = some ob := fun q ob e m1 m2 => k5 _ _ (s24 _ _ (k2 _ _ e m1)) m2
    have t15 : ∀ q xs, H1 q = some (.tup xs) → H5 q = some (.tup xs) := fun q xs e => k15 _ _ e (ne_of e hs1 (by intro z; cases z)) (ne_of e W1.ho (by intro z; cases z))
    have st5 := k5 _ _ (s24 _ _ st2) W.ne
    refine k S1 H5 ⟨up _ W.sx, up _ W.ss, up _ W.so, fun q w => ?_, x5, ⟨as ++ [ai], st5, ?_⟩, by rw [hk]; exact o5, W.ne, W.opn.step hl lens.1⟩ sub (fun q ob e n => ?_) (fun q xs e => t15 _ _ (s1 _ _ e))
    · by_cases z1 : q = st
      · rw [z1]; exact ⟨_, st5⟩
      by_cases z2 : q = op
      · rw [z2]; exact ⟨_, o5⟩
      obtain ⟨ob, e⟩ := al1 q w
      exact ⟨ob, k15 _ _ e z1 z2⟩
    · refine (All2.mono (fun a rows q => ?_) al).app (.cons (sa1.fr (fun _ z => z) (fun q ob e _ m1 m2 => k15 _ _ e m1 m2) t15) .nil)
      exact q.fr up (fun q ob e _ m1 m2 => k15 _ _ (s1 _ _ e) m1 m2) (fun q xs e => t15 _ _ (s1 _ _ e))
    · exact k15 _ _ (s1 _ _ e) (fun z => n (by rw [z]; exact W.ss)) (fun z => n (by rw [z]; exact W.so))

def InN (n : Nat) (a : Int) : Prop := 0 ≤ a ∧ a < (n : Nat)
theorem InN.get {n : Nat} {a : Int} (h : InN n a) : ∃ j : Nat, a = j ∧ j < n := by
  obtain ⟨h0, h1⟩ := h
  exact ⟨a.toNat, by omega, by omega⟩
def ShOk (past : Past) (ops : List Int) : Prop := past.length ≤ 1000 ∧ ops.length ≤ 1000
def spCheckS (C XS : Addr) : Sp := fun vs H Q E => ∃ (S : Addr → Prop) (x d st op : Addr) (past : Past) (ops : List Int) (s : Int), vs = [.ref x, .int s] ∧ Sh C S H x d st op past ops ∧ ShOk past ops ∧ Fit s ∧ (InN ops.length s → Q .non H) ∧ (¬ InN ops.length s → E (.ref XS) none H)
def spCheckM (C XM : Addr) : Sp := fun vs H Q E => ∃ (S : Addr → Prop) (x d st op : Addr) (past : Past) (ops : List Int) (m : Int), vs = [.ref x, .int m] ∧ Sh C S H x d st op past ops ∧ ShOk past ops ∧ Fit m ∧ (InN past.length m → Q .non H) ∧ (¬ InN past.length m → E (.ref XM) none H)
def spThen (C XS XM : Addr) : Sp := fun vs H Q E => ∃ (S : Addr → Prop) (x d st op : Addr) (past : Past) (ops : List Int) (s m : Int), vs = [.ref x, .int s, .int m] ∧ Sh C S H x d st op past ops ∧ ShOk past ops ∧ Fit s ∧ Fit m ∧ (¬ InN ops.length s → E (.ref XS) none H) ∧ (InN ops.length s → ¬ InN past.length m → E (.ref XM) none H) ∧
  ∀ (si mi : Nat) (rows : List (List Item)), s = si → m = mi → si < ops.length → past[mi]? = some rows → (rows.length ≤ si → E (.ref XS) none H) ∧ (si < rows.length → Q .non H)
def Told (H : Hp) (its : List Item) (Q : V → Hp → Prop) : Prop := ∀ (q : Addr) (H' : Hp), ItemsAt H' (.ref q) its → Same H H' → H q = none → Q (.ref q) H'
def spRow (C XS : Addr) : Sp := fun vs H Q E => ∃ (S : Addr → Prop) (x d st op : Addr) (past : Past) (ops : List Int) (s : Int), vs = [.ref x, .int s] ∧ Sh C S H x d st op past ops ∧ ShOk past ops ∧ Fit s ∧ (∀ (si : Nat) (last : List (List Item)) (its : List Item), s = si → past.getLast? = some last → last[si]? = some its → Told H its Q) ∧ (¬ InN ops.length s → E (.ref XS) none H)
def spRowThen (C XS XM : Addr) : Sp := fun vs H Q E => ∃ (S : Addr → Prop) (x d st op : Addr) (past : Past) (ops : List Int) (s m : Int), vs = [.ref x, .int s, .int m] ∧ Sh C S H x d st op past ops ∧ ShOk past ops ∧ Fit s ∧ Fit m ∧ (¬ InN ops.length s → E (.ref XS) none H) ∧ (InN ops.length s → ¬ InN past.length m → E (.ref XM) none H) ∧
  ∀ (si mi : Nat) (rows : List (List Item)), s = si → m = mi → si < ops.length → past[mi]? = some rows → (rows.length ≤ si → E (.ref XS) none H) ∧ (∀ its, rows[si]? = some its → Told H its Q)
/-- rows told: a new list of new lists -/
def FrSh (H H' : Hp) (q : Addr) (rows : List (List Item)) : Prop := H q = none ∧ ∃ rs : List Addr, H' q = some (.lst (rs.map V.ref)) ∧ All2 (fun r its => H r = none ∧ r ≠ q ∧ ItemsAt H' (.ref r) its) rs rows
def spRowsThen (C XM : Addr) : Sp := fun vs H Q E => ∃ (S : Addr → Prop) (x d st op : Addr) (past : Past) (ops : List Int) (m : Int), vs = [.ref x, .int m] ∧ Sh C S H x d st op past ops ∧ ShOk past ops ∧ Fit m ∧ (∀ (mi : Nat) (rows : List (List Item)), m = mi → past[mi]? = some rows → ∀ (q : Addr) (H' : Hp), FrSh H H' q rows → Same H H' → Q (.ref q) H') ∧ (¬ InN past.length m → E (.ref XM) none H)
def spRows (C : Addr) : Sp := fun vs H Q _ => ∃ (S : Addr → Prop) (x d st op : Addr) (past : Past) (ops : List Int), vs = [.ref x] ∧ Sh C S H x d st op past ops ∧ ShOk past ops ∧ (∀ (rows : List (List Item)), past.getLast? = some rows → ∀ (q : Addr) (H' : Hp), FrSh H H' q rows → Same H H' → Q (.ref q) H')
def spOpened (C XS : Addr) : Sp := fun vs H Q E => ∃ (S : Addr → Prop) (x d st op : Addr) (past : Past) (ops : List Int) (s : Int), vs = [.ref x, .int s] ∧ Sh C S H x d st op past ops ∧ ShOk past ops ∧ Fit s ∧ (∀ (si : Nat) (o : Int), s = si → ops[si]? = some o → Q (.int o) H) ∧ (¬ InN ops.length s → E (.ref XS) none H)
abbrev sShelf_check_sheet : Stmt := mtop 6 4
abbrev sShelf_check_moment : Stmt := mtop 6 5
abbrev sShelf_check_then : Stmt := mtop 6 6
abbrev sShelf_row : Stmt := mtop 6 7
abbrev sShelf_row_then : Stmt := mtop 6 8
abbrev sShelf_rows_then : Stmt := mtop 6 10
abbrev sShelf_rows : Stmt := mtop 6 9
abbrev sShelf_opened : Stmt := mtop 6 11
theorem scShelf_check_sheet : FnScope ["self", "sheet"] ["self", "sheet"] (defScope sShelf_check_sheet) := ⟨rfl, rfl, rfl, by decide +kernel, rfl, by decide +kernel, by decide +kernel⟩
theorem scShelf_check_moment : FnScope ["self", "moment"] ["self", "moment"] (defScope sShelf_check_moment) := ⟨rfl, rfl, rfl, by decide +kernel, rfl, by decide +kernel, by decide +kernel⟩
theorem scShelf_check_then : FnScope ["self", "sheet", "moment"] ["self", "sheet", "moment"] (defScope sShelf_check_then) := ⟨rfl, rfl, rfl, by decide +kernel, rfl, by decide +kernel, by decide +kernel⟩
theorem scShelf_row : FnScope ["self", "sheet"] ["self", "sheet"] (defScope sShelf_row) := ⟨rfl, rfl, rfl, by decide +kernel, rfl, by decide +kernel, by decide +kernel⟩
theorem scShelf_row_then : FnScope ["self", "sheet", "moment"] ["self", "sheet", "moment"] (defScope sShelf_row_then) := ⟨rfl, rfl, rfl, by decide +kernel, rfl, by decide +kernel, by decide +kernel⟩
theorem scShelf_rows_then : FnScope ["self", "moment"] ["self", "moment"] (defScope sShelf_rows_then) := ⟨rfl, rfl, rfl, by decide +kernel, rfl, by decide +kernel, by decide +kernel⟩
theorem scShelf_rows : FnScope ["self"] ["self"] (defScope sShelf_rows) := ⟨rfl, rfl, rfl, by decide +kernel, rfl, by decide +kernel, by decide +kernel⟩
theorem scShelf_opened : FnScope ["self", "sheet"] ["self", "sheet"] (defScope sShelf_opened) := ⟨rfl, rfl, rfl, by decide +kernel, rfl, by decide +kernel, by decide +kernel⟩
/-- the class and its methods -/
structure ShM (K : PySem.W.Frag) (mg : Str → Option Value) (C XS XM : Addr) : Prop where
  T : Nms mg
  c : ∃ fi, ClsAt K mg "Shelf" C fi
  n1 : NoAttr K C "states"
  n2 : NoAttr K C "openings"
  zs : ExcN K mg "NoSheet" XS
  zm : ExcN K mg "NoMoment" XM
theorem ok_Shelf_check_sheet {f C XS XM fM : Addr} {fd gM : FuncData} (F : Fun K "check_sheet" "Shelf.check_sheet" sShelf_check_sheet f fd) (M : ShM K mg C XS XM) (dShelf_many : MetAt K C "many" "Shelf.many" sShelf_many ["self"] fM gM) : FnOk P w K mg base (CX1 P w) 2 f fd ["self", "sheet"] (spCheckS C XS) := by
  obtain ⟨T, ⟨fi, cShelf⟩, n1, n2, ZNoSheet, ZNoMoment⟩ := M
  have gShelf_many : FnOk P w K mg base CX0 1 _ _ ["self"] (spMany C) := ok_Shelf_many dShelf_many.F T cShelf.cl n1
  refine okX F scShelf_check_sheet (fun vs H Q E h => ?_) (fun cdv A outer s H vs Q E hr h => ?_)
  · obtain ⟨S, x, d, st, op, past, ops, a, rfl, _⟩ := h
    rfl
  obtain ⟨S, x, d, st, op, past, ops, a, rfl, W, ok, fa, k1, k2⟩ := h
  refine ⟨_, (pss_one (ps_if (pt_not (pt_chain op_le op_lt pe_int (pv 1) (pe_meth0 (pv 0) cShelf.cl dShelf_many.mt gShelf_many (hr.mono (by decide)) dShelf_many.b .nil pass0)))
      (pss_one (ps_raise PySem.F.excBase_ValueError ZNoSheet.x ZNoSheet.m rfl raiseX (pa_cons (pe_fstr (pj_str (pj_int (pv 1) (pj_str (pj_int (pe_meth0 (pv 0) cShelf.cl dShelf_many.mt gShelf_many (hr.mono (by decide)) dShelf_many.b .nil pass0) pj_nil))))) pa_nil)))
      pss_nil)), ?_⟩
  have fl : Fit ((ops.length : Nat) : Int) := ⟨by have := ok.2; omega, by have := ok.2; omega⟩
  refine ⟨_, rfl, _, _, rfl, rfl, _, rfl, ite2 (fun c0 => ?_) (fun c0 => ⟨_, rfl, iteT ⟨_, rfl, a, rfl, fa.log, _, rfl, x, d, _, rfl, W.hx, rfl, S, x, d, st, op, past, ops, rfl, W, _, rfl, fl.log, fun y => ⟨(by show 1 ≤ sizeLine; decide), k2 fun iw => c0 (decide_eq_true iw.1)⟩⟩⟩)⟩
  refine ⟨_, rfl, x, d, _, rfl, W.hx, rfl, S, x, d, st, op, past, ops, rfl, W, _, _, rfl, rfl, _, rfl, ?_⟩
  by_cases iw : InN ops.length a
  · rw [decide_eq_true iw.2]
    exact iteF (k1 iw)
  · rw [decide_eq_false (fun z => iw ⟨of_decide_eq_true c0, z⟩)]
    exact iteT ⟨_, rfl, a, rfl, fa.log, _, rfl, x, d, _, rfl, W.hx, rfl, S, x, d, st, op, past, ops, rfl, W, _, rfl, fl.log, fun y => ⟨(by show 1 ≤ sizeLine; decide), k2 iw⟩⟩
theorem ok_Shelf_check_moment {f C XS XM fN : Addr} {fd gN : FuncData} (F : Fun K "check_moment" "Shelf.check_moment" sShelf_check_moment f fd) (M : ShM K mg C XS XM) (dShelf_now : MetAt K C "now" "Shelf.now" sShelf_now ["self"] fN gN) : FnOk P w K mg base (CX1 P w) 2 f fd ["self", "moment"] (spCheckM C XM) := by
  obtain ⟨T, ⟨fi, cShelf⟩, n1, n2, ZNoSheet, ZNoMoment⟩ := M
  have gShelf_now : FnOk P w K mg base CX0 1 _ _ ["self"] (spNow C) := ok_Shelf_now dShelf_now.F T cShelf.cl n1
  refine okX F scShelf_check_moment (fun vs H Q E h => ?_) (fun cdv A outer s H vs Q E hr h => ?_)
  · obtain ⟨S, x, d, st, op, past, ops, a, rfl, _⟩ := h
    rfl
  obtain ⟨S, x, d, st, op, past, ops, a, rfl, W, ok, fa, k1, k2⟩ := h
  obtain ⟨as, hs, al⟩ := W.hs
  have la : (as.map V.ref).length = past.length := by rw [List.length_map, al.len]
  refine ⟨_, (pss_one (ps_if (pt_not (pt_chain op_le op_le pe_int (pv 1) (pe_meth0 (pv 0) cShelf.cl dShelf_now.mt gShelf_now (hr.mono (by decide)) dShelf_now.b .nil pass0)))
      (pss_one (ps_raise PySem.F.excBase_ValueError ZNoMoment.x ZNoMoment.m rfl raiseX (pa_cons (pe_fstr (pj_str (pj_int (pv 1) (pj_str (pj_int (pe_meth0 (pv 0) cShelf.cl dShelf_now.mt gShelf_now (hr.mono (by decide)) dShelf_now.b .nil pass0) pj_nil))))) pa_nil)))
      pss_nil)), ?_⟩
  have fl : Fit (((as.map V.ref).length : Int) - 1) := ⟨by rw [la]; have := ok.1; omega, by rw [la]; have := ok.1; omega⟩
  refine ⟨_, rfl, _, _, rfl, rfl, _, rfl, ite2 (fun c0 => ?_) (fun c0 => ⟨_, rfl, iteT ⟨_, rfl, a, rfl, fa.log, _, rfl, x, d, _, rfl, W.hx, rfl, x, d, st, op, _, rfl, W.hx, hs, _, rfl, fl.log, fun y => ⟨(by show 1 ≤ sizeLine; decide), k2 fun iw => c0 (decide_eq_true iw.1)⟩⟩⟩)⟩
  refine ⟨_, rfl, x, d, _, rfl, W.hx, rfl, x, d, st, op, _, rfl, W.hx, hs, _, _, rfl, rfl, _, rfl, ?_⟩
  by_cases iw : InN past.length a
  · rw [decide_eq_true (show a ≤ ((as.map V.ref).length : Int) - 1 by rw [la]; have := iw.2; omega)]
    exact iteF (k1 iw)
  · rw [decide_eq_false (show ¬ a ≤ ((as.map V.ref).length : Int) - 1 by rw [la]; exact fun z => iw ⟨of_decide_eq_true c0, by omega⟩)]
    exact iteT ⟨_, rfl, a, rfl, fa.log, _, rfl, x, d, _, rfl, W.hx, rfl, x, d, st, op, _, rfl, W.hx, hs, _, rfl, fl.log, fun y => ⟨(by show 1 ≤ sizeLine; decide), k2 iw⟩⟩
theorem ok_Shelf_check_then {f C XS XM fM fN fs fm : Addr} {fd gM gN gs gm : FuncData} (F : Fun K "check_then" "Shelf.check_then" sShelf_check_then f fd) (M : ShM K mg C XS XM) (dShelf_many : MetAt K C "many" "Shelf.many" sShelf_many ["self"] fM gM) (dShelf_now : MetAt K C "now" "Shelf.now" sShelf_now ["self"] fN gN) (dShelf_check_sheet : MetAt K C "check_sheet" "Shelf.check_sheet" sShelf_check_sheet ["self", "sheet"] fs gs) (dShelf_check_moment : MetAt K C "check_moment" "Shelf.check_moment" sShelf_check_moment ["self", "moment"] fm gm) : FnOk P w K mg base (CX1 P w) 3 f fd ["self", "sheet", "moment"] (spThen C XS XM) := by
  have gShelf_check_sheet : FnOk P w K mg base (CX1 P w) 2 _ _ ["self", "sheet"] (spCheckS C XS) := ok_Shelf_check_sheet dShelf_check_sheet.F M dShelf_many
  have gShelf_check_moment : FnOk P w K mg base (CX1 P w) 2 _ _ ["self", "moment"] (spCheckM C XM) := ok_Shelf_check_moment dShelf_check_moment.F M dShelf_now
  obtain ⟨T, ⟨fi, cShelf⟩, n1, n2, ZNoSheet, ZNoMoment⟩ := M
  refine okX F scShelf_check_then (fun vs H Q E h => ?_) (fun cdv A outer s H vs Q E hr h => ?_)
  · obtain ⟨S, x, d, st, op, past, ops, a, m, rfl, _⟩ := h
    rfl
  obtain ⟨S, x, d, st, op, past, ops, a, m, rfl, W, ok, fa, fm, k1, k2, k3⟩ := h
  refine ⟨_, (pss_cons (ps_expr (pe_meth (pv 0) cShelf.cl dShelf_check_sheet.mt gShelf_check_sheet (hr.mono (by decide)) dShelf_check_sheet.b .nil passX (pa_cons (pv 1) pa_nil)))
      (pss_cons (ps_expr (pe_meth (pv 0) cShelf.cl dShelf_check_moment.mt gShelf_check_moment (hr.mono (by decide)) dShelf_check_moment.b .nil passX (pa_cons (pv 2) pa_nil)))
      (pss_one (ps_if (pt_cmpR op_lt (pv 2) (pe_ix ix_list (pe_fld (pv 0) rfl) (pv 1) (fun _ _ => rfl)) (nomark _))
      (pss_one (ps_raise PySem.F.excBase_ValueError ZNoSheet.x ZNoSheet.m rfl raiseX (pa_cons (pe_fstr (pj_str (pj_int (pv 1) (pj_str (pj_int (pv 2) pj_nil))))) pa_nil)))
      pss_nil)))), ?_⟩
  refine ⟨_, rfl, x, d, _, rfl, W.hx, rfl, _, rfl, S, x, d, st, op, past, ops, a, rfl, W, ok, fa, fun ia => ?_, k1⟩
  refine ⟨_, rfl, x, d, _, rfl, W.hx, rfl, _, rfl, S, x, d, st, op, past, ops, m, rfl, W, ok, fm, fun im => ?_, fun nm => k2 ia nm⟩
  obtain ⟨j, rfl, jl⟩ := ia.get
  obtain ⟨i, rfl, il⟩ := im.get
  have eo : ops[j]? = some ops[j] := List.getElem?_eq_getElem jl
  have er : past[i]? = some past[i] := List.getElem?_eq_getElem il
  obtain ⟨_, _, fit⟩ := W.opn.fit j _ eo
  have iff := fit i _ er
  obtain ⟨k4, k5⟩ := k3 j i _ rfl rfl jl er
  refine ⟨_, rfl, _, rfl, x, C, d, _, .ref op, rfl, W.hx, cShelf.cl, n2, rfl, _, rfl, op, _, _, _, rfl, rfl, SqL.of W.ho, atI_nat (by rw [List.getElem?_map, eo]; rfl), _, _, rfl, rfl, _, rfl, ite2 (fun c0 => ?_) (fun c0 => ?_)⟩
  · have c1 : ((i : Nat) : Int) < ops[j] := of_decide_eq_true c0
    exact ⟨_, rfl, _, rfl, fa.log, _, rfl, _, rfl, fm.log, fun y => ⟨(by show 1 ≤ sizeLine; decide), k4 (by omega)⟩⟩
  · have c1 : ¬ ((i : Nat) : Int) < ops[j] := fun z => c0 (decide_eq_true z)
    exact k5 (by omega)
/-- the row of a sheet at a moment -/
theorem Sh.at' {C : Addr} {S : Addr → Prop} {H : Hp} {x d st op : Addr} {past : Past} {ops : List Int} (h : Sh C S H x d st op past ops) {as : List Addr} (ha : H st = some (.lst (as.map V.ref))) {i : Nat} {rows : List (List Item)} (e : past[i]? = some rows) : ∃ a, as[i]? = some a ∧ StAt S H st op a rows := by
  obtain ⟨bs, hb, a2⟩ := h.hs
  have e' : as = bs := by
    rw [ha] at hb
    exact refs_inj (HO.lst.inj (Option.some.inj hb))
  subst e'
  exact a2.get' e
theorem Sh.lastE {C : Addr} {S : Addr → Prop} {H : Hp} {x d st op : Addr} {past : Past} {ops : List Int} (h : Sh C S H x d st op past ops) : ∃ last, past.getLast? = some last ∧ past[past.length - 1]? = some last ∧ ops.length = last.length := by
  obtain ⟨last, hl, ol⟩ := h.opn.some'
  refine ⟨last, hl, ?_, ol⟩
  rw [List.getLast?_eq_getElem?] at hl
  exact hl
theorem ok_Shelf_row {f C XS XM fM fs : Addr} {fd gM gs : FuncData} (F : Fun K "row" "Shelf.row" sShelf_row f fd) (M : ShM K mg C XS XM) (dShelf_many : MetAt K C "many" "Shelf.many" sShelf_many ["self"] fM gM) (dShelf_check_sheet : MetAt K C "check_sheet" "Shelf.check_sheet" sShelf_check_sheet ["self", "sheet"] fs gs) : FnOk P w K mg base (CX1 P w) 3 f fd ["self", "sheet"] (spRow C XS) := by
  have gShelf_check_sheet : FnOk P w K mg base (CX1 P w) 2 _ _ ["self", "sheet"] (spCheckS C XS) := ok_Shelf_check_sheet dShelf_check_sheet.F M dShelf_many
  obtain ⟨T, ⟨fi, cShelf⟩, n1, n2, ZNoSheet, ZNoMoment⟩ := M
  refine okX F scShelf_row (fun vs H Q E h => ?_) (fun cdv A outer s H vs Q E hr h => ?_)
  · obtain ⟨S, x, d, st, op, past, ops, a, rfl, _⟩ := h
    rfl
  obtain ⟨S, x, d, st, op, past, ops, a, rfl, W, ok, fa, k1, k2⟩ := h
  refine ⟨_, (pss_cons (ps_expr (pe_meth (pv 0) cShelf.cl dShelf_check_sheet.mt gShelf_check_sheet (hr.mono (by decide)) dShelf_check_sheet.b .nil passX (pa_cons (pv 1) pa_nil)))
      (pss_one (ps_ret (pe_callTy call_list_of rfl T.n_list PyProof.Rows.boot_list (pa_cons (pe_ix ix_list (pe_ix ix_list (pe_fld (pv 0) rfl) (pe_un un_neg pe_int) (fun _ _ => rfl)) (pv 1) (fun _ _ => rfl)) pa_nil))))), ?_⟩
  refine ⟨_, rfl, x, d, _, rfl, W.hx, rfl, _, rfl, S, x, d, st, op, past, ops, a, rfl, W, ok, fa, fun ia => ?_, k2⟩
  obtain ⟨j, rfl, jl⟩ := ia.get
  obtain ⟨as, hs, al⟩ := id W.hs
  obtain ⟨as', b, ea, r⟩ := W.last hs
  obtain ⟨last, hl, _, ol⟩ := W.lastE
  obtain ⟨_, _, _, rs, hb, ar⟩ := r last hl
  have el : last[j]? = some last[j] := List.getElem?_eq_getElem (by omega)
  obtain ⟨ri, eri, rw'⟩ := ar.get' el
  obtain ⟨c, vs, ec, hc, it⟩ := rw'.at'
  cases ec
  refine ⟨_, rfl, x, C, d, _, .ref st, rfl, W.hx, cShelf.cl, n1, rfl, _, rfl, st, _, _, .ref b, rfl, rfl, SqL.of hs, (by rw [ea, List.map_append]; exact atI_neg1 _ _), _, rfl, b, _, _, .ref ri, rfl, rfl, SqL.of hb, atI_nat (by rw [List.getElem?_map, eri]; rfl), ri, _, rfl, .inl (SqL.of hc), fun q hq => ?_⟩
  exact k1 j last _ rfl hl el q _ ⟨q, vs, rfl, upd_same, it.mono fun v i z => z.same (same_new hq _)⟩ (same_new hq _) hq
theorem ok_Shelf_row_then {f C XS XM fM fN fs fm ft : Addr} {fd gM gN gs gm gt : FuncData} (F : Fun K "row_then" "Shelf.row_then" sShelf_row_then f fd) (M : ShM K mg C XS XM) (dShelf_many : MetAt K C "many" "Shelf.many" sShelf_many ["self"] fM gM) (dShelf_now : MetAt K C "now" "Shelf.now" sShelf_now ["self"] fN gN) (dShelf_check_sheet : MetAt K C "check_sheet" "Shelf.check_sheet" sShelf_check_sheet ["self", "sheet"] fs gs) (dShelf_check_moment : MetAt K C "check_moment" "Shelf.check_moment" sShelf_check_moment ["self", "moment"] fm gm) (dShelf_check_then : MetAt K C "check_then" "Shelf.check_then" sShelf_check_then ["self", "sheet", "moment"] ft gt) : FnOk P w K mg base (CX1 P w) 4 f fd ["self", "sheet", "moment"] (spRowThen C XS XM) := by
  have gShelf_check_then : FnOk P w K mg base (CX1 P w) 3 _ _ ["self", "sheet", "moment"] (spThen C XS XM) := ok_Shelf_check_then dShelf_check_then.F M dShelf_many dShelf_now dShelf_check_sheet dShelf_check_moment
  obtain ⟨T, ⟨fi, cShelf⟩, n1, n2, ZNoSheet, ZNoMoment⟩ := M
  refine okX F scShelf_row_then (fun vs H Q E h => ?_) (fun cdv A outer s H vs Q E hr h => ?_)
  · obtain ⟨S, x, d, st, op, past, ops, a, m, rfl, _⟩ := h
    rfl
  obtain ⟨S, x, d, st, op, past, ops, a, m, rfl, W, ok, fa, fm, k1, k2, k3⟩ := h
  obtain ⟨as, hs, al⟩ := id W.hs
  refine ⟨_, (pss_cons (ps_expr (pe_meth (pv 0) cShelf.cl dShelf_check_then.mt gShelf_check_then (hr.mono (by decide)) dShelf_check_then.b .nil passX (pa_cons (pv 1) (pa_cons (pv 2) pa_nil))))
      (pss_one (ps_ret (pe_callTy call_list_of rfl T.n_list PyProof.Rows.boot_list (pa_cons (pe_ix ix_list (pe_ix ix_list (pe_fld (pv 0) rfl) (pv 2) (fun _ _ => rfl)) (pv 1) (fun _ _ => rfl)) pa_nil))))), ?_⟩
  refine ⟨_, rfl, x, d, _, rfl, W.hx, rfl, _, rfl, _, rfl, S, x, d, st, op, past, ops, a, m, rfl, W, ok, fa, fm, k1, k2, fun j i rows ej ei jl er => ⟨(k3 j i rows ej ei jl er).1, fun jr => ?_⟩⟩
  subst ej ei
  obtain ⟨b, eb, _, _, _, rs, hb, ar⟩ := W.at' hs er
  have el : rows[j]? = some rows[j] := List.getElem?_eq_getElem jr
  obtain ⟨ri, eri, rw'⟩ := ar.get' el
  obtain ⟨c, vs, ec, hc, it⟩ := rw'.at'
  cases ec
  refine ⟨_, rfl, x, C, d, _, .ref st, rfl, W.hx, cShelf.cl, n1, rfl, _, rfl, st, _, _, .ref b, rfl, rfl, SqL.of hs, atI_nat (by rw [List.getElem?_map, eb]; rfl), _, rfl, b, _, _, .ref ri, rfl, rfl, SqL.of hb, atI_nat (by rw [List.getElem?_map, eri]; rfl), ri, _, rfl, .inl (SqL.of hc), fun q hq => ?_⟩
  exact (k3 j i rows rfl rfl jl er).2 _ el q _ ⟨q, vs, rfl, upd_same, it.mono fun v i z => z.same (same_new hq _)⟩ (same_new hq _) hq
theorem ok_Shelf_opened {f C XS XM fM fs : Addr} {fd gM gs : FuncData} (F : Fun K "opened" "Shelf.opened" sShelf_opened f fd) (M : ShM K mg C XS XM) (dShelf_many : MetAt K C "many" "Shelf.many" sShelf_many ["self"] fM gM) (dShelf_check_sheet : MetAt K C "check_sheet" "Shelf.check_sheet" sShelf_check_sheet ["self", "sheet"] fs gs) : FnOk P w K mg base (CX1 P w) 3 f fd ["self", "sheet"] (spOpened C XS) := by
  have gShelf_check_sheet : FnOk P w K mg base (CX1 P w) 2 _ _ ["self", "sheet"] (spCheckS C XS) := ok_Shelf_check_sheet dShelf_check_sheet.F M dShelf_many
  obtain ⟨T, ⟨fi, cShelf⟩, n1, n2, ZNoSheet, ZNoMoment⟩ := M
  refine okX F scShelf_opened (fun vs H Q E h => ?_) (fun cdv A outer s H vs Q E hr h => ?_)
  · obtain ⟨S, x, d, st, op, past, ops, a, rfl, _⟩ := h
    rfl
  obtain ⟨S, x, d, st, op, past, ops, a, rfl, W, ok, fa, k1, k2⟩ := h
  refine ⟨_, (pss_cons (ps_expr (pe_meth (pv 0) cShelf.cl dShelf_check_sheet.mt gShelf_check_sheet (hr.mono (by decide)) dShelf_check_sheet.b .nil passX (pa_cons (pv 1) pa_nil)))
      (pss_one (ps_ret (pe_ix ix_list (pe_fld (pv 0) rfl) (pv 1) (fun _ _ => rfl))))), ?_⟩
  refine ⟨_, rfl, x, d, _, rfl, W.hx, rfl, _, rfl, S, x, d, st, op, past, ops, a, rfl, W, ok, fa, fun ia => ?_, k2⟩
  obtain ⟨j, rfl, jl⟩ := ia.get
  have eo : ops[j]? = some ops[j] := List.getElem?_eq_getElem jl
  exact ⟨_, rfl, x, C, d, _, .ref op, rfl, W.hx, cShelf.cl, n2, rfl, _, rfl, op, _, _, _, rfl, rfl, SqL.of W.ho, atI_nat (by rw [List.getElem?_map, eo]; rfl), k1 j _ rfl eo⟩
theorem ok_Shelf_rows_then {f C XS XM fN fm : Addr} {fd gN gm : FuncData} (F : Fun K "rows_then" "Shelf.rows_then" sShelf_rows_then f fd) (M : ShM K mg C XS XM) (dShelf_now : MetAt K C "now" "Shelf.now" sShelf_now ["self"] fN gN) (dShelf_check_moment : MetAt K C "check_moment" "Shelf.check_moment" sShelf_check_moment ["self", "moment"] fm gm) : FnOk P w K mg base (CX1 P w) 3 f fd ["self", "moment"] (spRowsThen C XM) := by
  have gShelf_check_moment : FnOk P w K mg base (CX1 P w) 2 _ _ ["self", "moment"] (spCheckM C XM) := ok_Shelf_check_moment dShelf_check_moment.F M dShelf_now
  obtain ⟨T, ⟨fi, cShelf⟩, n1, n2, ZNoSheet, ZNoMoment⟩ := M
  refine okX F scShelf_rows_then (fun vs H Q E h => ?_) (fun cdv A outer s H vs Q E hr h => ?_)
  · obtain ⟨S, x, d, st, op, past, ops, m, rfl, _⟩ := h
    rfl
  obtain ⟨S, x, d, st, op, past, ops, m, rfl, W, ok, fm, k1, k2⟩ := h
  obtain ⟨as, hs, al⟩ := id W.hs
  refine ⟨_, (pss_cons (ps_expr (pe_meth (pv 0) cShelf.cl dShelf_check_moment.mt gShelf_check_moment (hr.mono (by decide)) dShelf_check_moment.b .nil passX (pa_cons (pv 1) pa_nil)))
      (pss_one (ps_ret (pe_compG (N := ["items"]) (compG (sc := defScope sShelf_rows_then) (NX := ["self", "moment"]) (jx := [none]) rfl rfl rfl (by decide +kernel) (by decide +kernel) rfl (by decide +kernel) rfl (by decide +kernel)) rfl (pi_list (pe_ix ix_list (pe_fld (pv 0) rfl) (pv 1) (fun _ _ => rfl))) (fun _ _ _ _ _ _ => (pg_name (i := 0) (show List.Nodup (["items"] : List Str) by decide +kernel) rfl (Or.inl rfl))) (fun _ _ _ _ _ _ => pts_nil) (fun _ _ _ _ _ _ => (pe_callTy callF_list rfl T.n_list PyProof.Rows.boot_list (pa_cons (pv 0) pa_nil))))))), ?_⟩
  refine ⟨_, rfl, x, d, _, rfl, W.hx, rfl, _, rfl, S, x, d, st, op, past, ops, m, rfl, W, ok, fm, fun im => ?_, k2⟩
  obtain ⟨i, rfl, il⟩ := im.get
  have er : past[i]? = some past[i] := List.getElem?_eq_getElem il
  generalize past[i] = rows at er
  obtain ⟨b, eb, _, _, _, rs, hb, ar⟩ := W.at' hs er
  have lr := ar.len
  have lo := W.opn.less i rows er
  have ok2 := ok.2
  refine ⟨_, rfl, x, C, d, _, .ref st, rfl, W.hx, cShelf.cl, n1, rfl, _, rfl, st, _, _, .ref b, rfl, rfl, SqL.of hs, atI_nat (by rw [List.getElem?_map, eb]; rfl), ?_⟩
  refine ⟨b, rfl, ⟨_, SqL.of hb⟩, fun acc hacc => compF_list (K := K) (a := b) (xs := rs.map V.ref) (fun j σ H1 => ∃ (u : Option V) (qs : List Addr), σ = [u] ∧ H1 acc = some (.lst (qs.map V.ref)) ∧ Same H H1 ∧ All2 (fun r its => H r = none ∧ r ≠ acc ∧ ItemsAt H1 (.ref r) its) qs (rows.take j)) ⟨none, [], rfl, upd_same, same_new hacc _, by rw [List.take_zero]; exact .nil⟩ (fun j σ H1 _ ⟨_, _, _, _, s, _⟩ => SqL.of (s _ _ hb)) ?_ ?_⟩
  · rintro j y σ H1 hj ⟨u, qs, rfl, ha, s1, aq⟩
    rw [List.getElem?_map] at hj
    obtain ⟨ri, eri, rfl⟩ := Option.map_eq_some_iff.mp hj
    obtain ⟨its, eits, rw'⟩ := ar.get eri
    obtain ⟨c, vs, ec, hc, it⟩ := rw'.at'
    cases ec
    refine ⟨_, rfl, ri, _, rfl, .inl (SqL.of (s1 _ _ hc)), fun z hz => ⟨_, same_new hz _ _ _ ha, ?_, _, qs ++ [z], rfl, ?_, ?_, ?_⟩⟩
    · have := aq.len
      rw [List.length_take] at this
      rw [List.length_map]
      exact million (by omega)
    · rw [upd_same, List.map_append]
      rfl
    · intro q ob e
      rw [upd_ne (ne_of_none e hacc)]
      exact same_new hz _ _ _ (s1 _ _ e)
    · have nza : z ≠ acc := (ne_of_none ha hz).symm
      have fr : ∀ q ob, H1 q = some ob → q ≠ acc → (upd (upd H1 z (.lst vs)) acc (.lst (qs.map V.ref ++ [.ref z]))) q = some ob := fun q ob e n => by
        rw [upd_ne n]
        exact same_new hz _ _ _ e
      have tu : ∀ q xs, H1 q = some (.tup xs) → (upd (upd H1 z (.lst vs)) acc (.lst (qs.map V.ref ++ [.ref z]))) q = some (.tup xs) := fun q xs e => fr _ _ e (ne_of e ha (by intro w; cases w))
      rw [take_snoc eits]
      refine All2.snoc (aq.mono fun r its ⟨h1, h2, h3⟩ => ⟨h1, h2, h3.fr (fun xs e => fr _ _ e h2) tu⟩) ⟨free_same s1 hz, nza, z, vs, rfl, ?_, it.mono fun v i ⟨q, e, hq⟩ => ⟨q, e, tu _ _ (s1 _ _ hq)⟩⟩
      rw [upd_ne nza]
      exact upd_same
  · rintro σ H1 ⟨u, qs, rfl, ha, s1, aq⟩
    rw [List.length_map, lr, List.take_length] at aq
    exact k1 i rows rfl er acc H1 ⟨hacc, qs, ha, aq⟩ s1
theorem ok_Shelf_rows {f C XS XM fN fm fr : Addr} {fd gN gm gr : FuncData} (F : Fun K "rows" "Shelf.rows" sShelf_rows f fd) (M : ShM K mg C XS XM) (dShelf_now : MetAt K C "now" "Shelf.now" sShelf_now ["self"] fN gN) (dShelf_check_moment : MetAt K C "check_moment" "Shelf.check_moment" sShelf_check_moment ["self", "moment"] fm gm) (dShelf_rows_then : MetAt K C "rows_then" "Shelf.rows_then" sShelf_rows_then ["self", "moment"] fr gr) : FnOk P w K mg base CX0 4 f fd ["self"] (spRows C) := by
  have gShelf_rows_then : FnOk P w K mg base (CX1 P w) 3 _ _ ["self", "moment"] (spRowsThen C XM) := ok_Shelf_rows_then dShelf_rows_then.F M dShelf_now dShelf_check_moment
  obtain ⟨T, ⟨fi, cShelf⟩, n1, n2, ZNoSheet, ZNoMoment⟩ := M
  have gShelf_now : FnOk P w K mg base CX0 1 _ _ ["self"] (spNow C) := ok_Shelf_now dShelf_now.F T cShelf.cl n1
  refine F.ok scShelf_rows (fun vs H Q E h => ?_) (fun cdv A outer s H vs Q E hr h => ?_)
  · obtain ⟨S, x, d, st, op, past, ops, rfl, _⟩ := h
    rfl
  obtain ⟨S, x, d, st, op, past, ops, rfl, W, ok, k⟩ := h
  obtain ⟨as, hs, al⟩ := id W.hs
  obtain ⟨last, hl, hl2, _⟩ := W.lastE
  have lp : past.length - 1 < past.length := (List.getElem?_eq_some_iff.mp hl2).1
  have ok1 := ok.1
  have la : (((as.map V.ref).length : Nat) : Int) - 1 = ((past.length - 1 : Nat) : Int) := by rw [List.length_map, al.len]; omega
  refine ⟨_, (pss_one (ps_ret (pe_meth (pv 0) cShelf.cl dShelf_rows_then.mt gShelf_rows_then (hr.mono (by decide)) dShelf_rows_then.b .nil passF (pa_cons (pe_meth0 (pv 0) cShelf.cl dShelf_now.mt gShelf_now (hr.mono (by decide)) dShelf_now.b .nil pass0) pa_nil)))), ?_⟩
  refine ⟨_, rfl, x, d, _, rfl, W.hx, rfl, _, rfl, x, d, _, rfl, W.hx, rfl, x, d, st, op, _, rfl, W.hx, hs, ?_⟩
  rw [la]
  refine ⟨S, x, d, st, op, past, ops, _, rfl, W, ok, ⟨by omega, by omega⟩, fun mi rows em er q H1 fs s1 => ?_, fun nm => absurd ⟨by omega, by omega⟩ nm⟩
  have : mi = past.length - 1 := by omega
  subst this
  rw [hl2] at er
  cases er
  exact k last hl q H1 fs s1








/-! what the law asks the shelf, refusals told by name -/
def tupV (q : Addr) (n : String) (v : V) (H : Hp) : Prop := H q = some (.tup [.str (Str.ofString n), v])
def spRowOr (C : Addr) : Sp := fun vs H Q _ => ∃ (S : Addr → Prop) (x d st op : Addr) (past : Past) (ops : List Int) (s : Int), vs = [.ref x, .int s] ∧ Sh C S H x d st op past ops ∧ ShOk past ops ∧ Fit s ∧ (∀ (si : Nat) (last : List (List Item)) (its : List Item), s = si → past.getLast? = some last → last[si]? = some its → ∀ (q p : Addr) (H' : Hp), tupV p "" (.ref q) H' → ItemsAt H' (.ref q) its → Same H H' → H q = none → Q (.ref p) H') ∧ (¬ InN ops.length s → ∀ (p : Addr) (H' : Hp), tupV p "sheet" .non H' → Same H H' → Q (.ref p) H')
def spRowThenOr (C : Addr) : Sp := fun vs H Q _ => ∃ (S : Addr → Prop) (x d st op : Addr) (past : Past) (ops : List Int) (s m : Int), vs = [.ref x, .int s, .int m] ∧ Sh C S H x d st op past ops ∧ ShOk past ops ∧ Fit s ∧ Fit m ∧ (¬ InN ops.length s → ∀ (p : Addr) (H' : Hp), tupV p "sheet" .non H' → Same H H' → Q (.ref p) H') ∧ (InN ops.length s → ¬ InN past.length m → ∀ (p : Addr) (H' : Hp), tupV p "moment" .non H' → Same H H' → Q (.ref p) H') ∧
  ∀ (si mi : Nat) (rows : List (List Item)), s = si → m = mi → si < ops.length → past[mi]? = some rows → (rows.length ≤ si → ∀ (p : Addr) (H' : Hp), tupV p "sheet" .non H' → Same H H' → Q (.ref p) H') ∧ (∀ its, rows[si]? = some its → ∀ (q p : Addr) (H' : Hp), tupV p "" (.ref q) H' → ItemsAt H' (.ref q) its → Same H H' → H q = none → Q (.ref p) H')
def spRowsThenOr (C : Addr) : Sp := fun vs H Q _ => ∃ (S : Addr → Prop) (x d st op : Addr) (past : Past) (ops : List Int) (m : Int), vs = [.ref x, .int m] ∧ Sh C S H x d st op past ops ∧ ShOk past ops ∧ Fit m ∧ (∀ (mi : Nat) (rows : List (List Item)), m = mi → past[mi]? = some rows → ∀ (q p : Addr) (H1 H' : Hp), FrSh H H1 q rows → Same H H1 → Same H1 H' → tupV p "" (.ref q) H' → Q (.ref p) H') ∧ (¬ InN past.length m → ∀ (p : Addr) (H' : Hp), tupV p "moment" .non H' → Same H H' → Q (.ref p) H')
def spOpenedOr (C : Addr) : Sp := fun vs H Q _ => ∃ (S : Addr → Prop) (x d st op : Addr) (past : Past) (ops : List Int) (s : Int), vs = [.ref x, .int s] ∧ Sh C S H x d st op past ops ∧ ShOk past ops ∧ Fit s ∧ (∀ (si : Nat) (o : Int), s = si → ops[si]? = some o → ∀ (p : Addr) (H' : Hp), tupV p "" (.int o) H' → Same H H' → Q (.ref p) H') ∧ (¬ InN ops.length s → ∀ (p : Addr) (H' : Hp), tupV p "sheet" .non H' → Same H H' → Q (.ref p) H')
abbrev s_law_row_then_or : Stmt := top 15
abbrev s_law_row_or : Stmt := top 16
abbrev s_law_opened_or : Stmt := top 17
abbrev s_law_rows_then_or : Stmt := top 18
theorem sc_law_row_then_or : FnScope ["_law_shelf", "_law_sheet", "_law_moment", "_law_told", "_law_name"] ["_law_shelf", "_law_sheet", "_law_moment"] (defScope s_law_row_then_or) := ⟨rfl, rfl, rfl, by decide +kernel, rfl, by decide +kernel, by decide +kernel⟩
theorem sc_law_row_or : FnScope ["_law_shelf", "_law_sheet", "_law_told", "_law_name"] ["_law_shelf", "_law_sheet"] (defScope s_law_row_or) := ⟨rfl, rfl, rfl, by decide +kernel, rfl, by decide +kernel, by decide +kernel⟩
theorem sc_law_opened_or : FnScope ["_law_shelf", "_law_sheet", "_law_told", "_law_name"] ["_law_shelf", "_law_sheet"] (defScope s_law_opened_or) := ⟨rfl, rfl, rfl, by decide +kernel, rfl, by decide +kernel, by decide +kernel⟩
theorem sc_law_rows_then_or : FnScope ["_law_shelf", "_law_moment", "_law_told", "_law_name"] ["_law_shelf", "_law_moment"] (defScope s_law_rows_then_or) := ⟨rfl, rfl, rfl, by decide +kernel, rfl, by decide +kernel, by decide +kernel⟩
theorem ok_law_row_or {f C XS XM fr : Addr} {fd gr : FuncData} (F : Fun K "_law_row_or" "_law_row_or" s_law_row_or f fd) (M : ShM K mg C XS XM) (dShelf_row : MetAt K C "row" "Shelf.row" sShelf_row ["self", "sheet"] fr gr) (gShelf_row : FnOk P w K mg base (CX1 P w) 3 fr gr ["self", "sheet"] (spRow C XS)) : FnOk P w K mg base CX0 4 f fd ["_law_shelf", "_law_sheet"] (spRowOr C) := by
  obtain ⟨T, ⟨fi, cShelf⟩, n1, n2, ZNoSheet, ZNoMoment⟩ := M
  refine F.ok sc_law_row_or (fun vs H Q E h => ?_) (fun cdv A outer s H vs Q E hr h => ?_)
  · obtain ⟨S, x, d, st, op, past, ops, a, rfl, _⟩ := h
    rfl
  obtain ⟨S, x, d, st, op, past, ops, a, rfl, W, ok, fa, k1, k2⟩ := h
  refine ⟨_, (pss_cons (ps_set (i := 2) sc_law_row_or.nd rfl (Or.inl rfl) pe_non)
      (pss_cons (ps_set (i := 3) sc_law_row_or.nd rfl (Or.inl rfl) pe_str)
      (pss_cons (ps_tryM (i := 2) sc_law_row_or.nd rfl (Or.inl rfl) (pv 0) cShelf.cl dShelf_row.mt dShelf_row.b gShelf_row (hr.mono (by decide)) (pa_cons (pv 1) pa_nil) ZNoSheet.m ZNoSheet.h
      (fun _ => (pss_one (ps_set (i := 3) sc_law_row_or.nd rfl (Or.inl rfl) pe_str))))
      (pss_one (ps_ret (pe_tup (pa_cons (pv 3) (pa_cons (pv 2) pa_nil)))))))), ?_⟩
  refine ⟨_, rfl, x, d, _, rfl, W.hx, rfl, _, rfl, S, x, d, st, op, past, ops, a, rfl, W, ok, fa, fun si last its e1 e2 e3 q H1 i1 s1 f1 => ?_, fun nl => ⟨rfl, ?_⟩⟩
  · refine ⟨_, rfl, _, rfl, (by show 2 ≤ sizeLine; decide), fun p hp => ?_⟩
    exact k1 si last its e1 e2 e3 q p _ upd_same (i1.same (same_new hp _)) (s1.trans (same_new hp _)) f1
  · refine ⟨_, rfl, _, rfl, (by show 2 ≤ sizeLine; decide), fun p hp => ?_⟩
    exact k2 nl p _ upd_same (same_new hp _)
theorem ok_law_opened_or {f C XS XM fr : Addr} {fd gr : FuncData} (F : Fun K "_law_opened_or" "_law_opened_or" s_law_opened_or f fd) (M : ShM K mg C XS XM) (dShelf_opened : MetAt K C "opened" "Shelf.opened" sShelf_opened ["self", "sheet"] fr gr) (gShelf_opened : FnOk P w K mg base (CX1 P w) 3 fr gr ["self", "sheet"] (spOpened C XS)) : FnOk P w K mg base CX0 4 f fd ["_law_shelf", "_law_sheet"] (spOpenedOr C) := by
  obtain ⟨T, ⟨fi, cShelf⟩, n1, n2, ZNoSheet, ZNoMoment⟩ := M
  refine F.ok sc_law_opened_or (fun vs H Q E h => ?_) (fun cdv A outer s H vs Q E hr h => ?_)
  · obtain ⟨S, x, d, st, op, past, ops, a, rfl, _⟩ := h
    rfl
  obtain ⟨S, x, d, st, op, past, ops, a, rfl, W, ok, fa, k1, k2⟩ := h
  refine ⟨_, (pss_cons (ps_set (i := 2) sc_law_opened_or.nd rfl (Or.inl rfl) pe_non)
      (pss_cons (ps_set (i := 3) sc_law_opened_or.nd rfl (Or.inl rfl) pe_str)
      (pss_cons (ps_tryM (i := 2) sc_law_opened_or.nd rfl (Or.inl rfl) (pv 0) cShelf.cl dShelf_opened.mt dShelf_opened.b gShelf_opened (hr.mono (by decide)) (pa_cons (pv 1) pa_nil) ZNoSheet.m ZNoSheet.h
      (fun _ => (pss_one (ps_set (i := 3) sc_law_opened_or.nd rfl (Or.inl rfl) pe_str))))
      (pss_one (ps_ret (pe_tup (pa_cons (pv 3) (pa_cons (pv 2) pa_nil)))))))), ?_⟩
  refine ⟨_, rfl, x, d, _, rfl, W.hx, rfl, _, rfl, S, x, d, st, op, past, ops, a, rfl, W, ok, fa, fun si o e1 e2 => ?_, fun nl => ⟨rfl, ?_⟩⟩
  · refine ⟨_, rfl, _, rfl, (by show 2 ≤ sizeLine; decide), fun p hp => ?_⟩
    exact k1 si o e1 e2 p _ upd_same (same_new hp _)
  · refine ⟨_, rfl, _, rfl, (by show 2 ≤ sizeLine; decide), fun p hp => ?_⟩
    exact k2 nl p _ upd_same (same_new hp _)
theorem ok_law_rows_then_or {f C XS XM fr : Addr} {fd gr : FuncData} (F : Fun K "_law_rows_then_or" "_law_rows_then_or" s_law_rows_then_or f fd) (M : ShM K mg C XS XM) (dShelf_rows_then : MetAt K C "rows_then" "Shelf.rows_then" sShelf_rows_then ["self", "moment"] fr gr) (gShelf_rows_then : FnOk P w K mg base (CX1 P w) 3 fr gr ["self", "moment"] (spRowsThen C XM)) : FnOk P w K mg base CX0 4 f fd ["_law_shelf", "_law_moment"] (spRowsThenOr C) := by
  obtain ⟨T, ⟨fi, cShelf⟩, n1, n2, ZNoSheet, ZNoMoment⟩ := M
  refine F.ok sc_law_rows_then_or (fun vs H Q E h => ?_) (fun cdv A outer s H vs Q E hr h => ?_)
  · obtain ⟨S, x, d, st, op, past, ops, a, rfl, _⟩ := h
    rfl
  obtain ⟨S, x, d, st, op, past, ops, a, rfl, W, ok, fa, k1, k2⟩ := h
  refine ⟨_, (pss_cons (ps_set (i := 2) sc_law_rows_then_or.nd rfl (Or.inl rfl) pe_non)
      (pss_cons (ps_set (i := 3) sc_law_rows_then_or.nd rfl (Or.inl rfl) pe_str)
      (pss_cons (ps_tryM (i := 2) sc_law_rows_then_or.nd rfl (Or.inl rfl) (pv 0) cShelf.cl dShelf_rows_then.mt dShelf_rows_then.b gShelf_rows_then (hr.mono (by decide)) (pa_cons (pv 1) pa_nil) ZNoMoment.m ZNoMoment.h
      (fun _ => (pss_one (ps_set (i := 3) sc_law_rows_then_or.nd rfl (Or.inl rfl) pe_str))))
      (pss_one (ps_ret (pe_tup (pa_cons (pv 3) (pa_cons (pv 2) pa_nil)))))))), ?_⟩
  refine ⟨_, rfl, x, d, _, rfl, W.hx, rfl, _, rfl, S, x, d, st, op, past, ops, a, rfl, W, ok, fa, fun mi rows e1 e2 q H1 fs s1 => ?_, fun nl => ⟨rfl, ?_⟩⟩
  · refine ⟨_, rfl, _, rfl, (by show 2 ≤ sizeLine; decide), fun p hp => ?_⟩
    exact k1 mi rows e1 e2 q p H1 _ fs s1 (same_new hp _) upd_same
  · refine ⟨_, rfl, _, rfl, (by show 2 ≤ sizeLine; decide), fun p hp => ?_⟩
    exact k2 nl p _ upd_same (same_new hp _)
theorem ok_law_row_then_or {f C XS XM fr : Addr} {fd gr : FuncData} (F : Fun K "_law_row_then_or" "_law_row_then_or" s_law_row_then_or f fd) (M : ShM K mg C XS XM) (Zn : PySem.W.exmOne K (.ref XM) (.ref XS) = some false) (dShelf_row_then : MetAt K C "row_then" "Shelf.row_then" sShelf_row_then ["self", "sheet", "moment"] fr gr) (gShelf_row_then : FnOk P w K mg base (CX1 P w) 4 fr gr ["self", "sheet", "moment"] (spRowThen C XS XM)) : FnOk P w K mg base CX0 5 f fd ["_law_shelf", "_law_sheet", "_law_moment"] (spRowThenOr C) := by
  obtain ⟨T, ⟨fi, cShelf⟩, n1, n2, ZNoSheet, ZNoMoment⟩ := M
  refine F.ok sc_law_row_then_or (fun vs H Q E h => ?_) (fun cdv A outer s H vs Q E hr h => ?_)
  · obtain ⟨S, x, d, st, op, past, ops, a, m, rfl, _⟩ := h
    rfl
  obtain ⟨S, x, d, st, op, past, ops, a, m, rfl, W, ok, fa, fm, k1, k2, k3⟩ := h
  refine ⟨_, (pss_cons (ps_set (i := 3) sc_law_row_then_or.nd rfl (Or.inl rfl) pe_non)
      (pss_cons (ps_set (i := 4) sc_law_row_then_or.nd rfl (Or.inl rfl) pe_str)
      (pss_cons (ps_tryM2 (i := 3) sc_law_row_then_or.nd rfl (Or.inl rfl) (pv 0) cShelf.cl dShelf_row_then.mt dShelf_row_then.b gShelf_row_then (hr.mono (by decide)) (pa_cons (pv 1) (pa_cons (pv 2) pa_nil)) ZNoSheet.m ZNoMoment.m ZNoSheet.h Zn ZNoMoment.h
      (fun _ => (pss_one (ps_set (i := 4) sc_law_row_then_or.nd rfl (Or.inl rfl) pe_str)))
      (fun _ => (pss_one (ps_set (i := 4) sc_law_row_then_or.nd rfl (Or.inl rfl) pe_str))))
      (pss_one (ps_ret (pe_tup (pa_cons (pv 4) (pa_cons (pv 3) pa_nil)))))))), ?_⟩
  refine ⟨_, rfl, x, d, _, rfl, W.hx, rfl, _, rfl, _, rfl, S, x, d, st, op, past, ops, a, m, rfl, W, ok, fa, fm, fun nl => ?_, fun ia nm => ?_, fun si mi rows e1 e2 sl er => ⟨fun rl => ?_, fun its ei q H1 i1 s1 f1 => ?_⟩⟩
  · exact .inl ⟨rfl, _, rfl, _, rfl, (by show 2 ≤ sizeLine; decide), fun p hp => k1 nl p _ upd_same (same_new hp _)⟩
  · exact .inr ⟨rfl, _, rfl, _, rfl, (by show 2 ≤ sizeLine; decide), fun p hp => k2 ia nm p _ upd_same (same_new hp _)⟩
  · exact .inl ⟨rfl, _, rfl, _, rfl, (by show 2 ≤ sizeLine; decide), fun p hp => (k3 si mi rows e1 e2 sl er).1 rl p _ upd_same (same_new hp _)⟩
  · refine ⟨_, rfl, _, rfl, (by show 2 ≤ sizeLine; decide), fun p hp => ?_⟩
    exact (k3 si mi rows e1 e2 sl er).2 its ei q p _ upd_same (i1.same (same_new hp _)) (s1.trans (same_new hp _)) f1




/-! the law's own past: moments, sheets, entries -/
abbrev Ent := List (List (List Int))
def LnAt (G : Addr → Prop) (H : Hp) (g r : Addr) (es : List Int) : Prop := G r ∧ r ≠ g ∧ H r = some (.lst (es.map V.int)) ∧ es.length ≤ 10
def RwsAt (G : Addr → Prop) (H : Hp) (g a : Addr) (rows : List (List Int)) : Prop := G a ∧ a ≠ g ∧ ∃ rs : List Addr, H a = some (.lst (rs.map V.ref)) ∧ All2 (LnAt G H g) rs rows
structure PaAt (G : Addr → Prop) (H : Hp) (g : Addr) (P : Ent) : Prop where
  own : G g
  al : ∀ a, G a → ∃ ob, H a = some ob
  at' : ∃ as : List Addr, H g = some (.lst (as.map V.ref)) ∧ All2 (RwsAt G H g) as P
theorem RwsAt.fr {G G' : Addr → Prop} {H H' : Hp} {g a : Addr} {rows : List (List Int)} (h : RwsAt G H g a rows) (up : ∀ q, G q → G' q) (k : ∀ q ob, H q = some ob → G q → q ≠ g → H' q = some ob) : RwsAt G' H' g a rows := by
  obtain ⟨ga, n, rs, hr, al⟩ := h
  exact ⟨up _ ga, n, rs, k _ _ hr ga n, al.mono fun r es ⟨h1, h2, h3, h4⟩ => ⟨up _ h1, h2, k _ _ h3 h1 h2, h4⟩⟩
theorem PaAt.fr {G : Addr → Prop} {H H' : Hp} {g : Addr} {P : Ent} (h : PaAt G H g P) (k : ∀ q ob, H q = some ob → G q → H' q = some ob) : PaAt G H' g P := by
  obtain ⟨own, al, as, hg, a2⟩ := h
  refine ⟨own, fun a z => ?_, as, k _ _ hg own, a2.mono fun a rows q => q.fr (fun _ z => z) (fun q ob e z _ => k _ _ e z)⟩
  obtain ⟨ob, e⟩ := al a z
  exact ⟨ob, k _ _ e z⟩
theorem PaAt.same {G : Addr → Prop} {H H' : Hp} {g : Addr} {P : Ent} (h : PaAt G H g P) (k : Same H H') : PaAt G H' g P := h.fr fun q ob e _ => k _ _ e
def itm (P : Ent) : Past := P.map fun rows => rows.map itemsOf
def spLine : Sp := fun vs H Q _ => ∃ (l c : Addr) (m : Nat), vs = [.ref l, .int (m : Nat)] ∧ SrcOk H l c ∧ m ≤ 1000 ∧ ∀ (q : Addr) (es : List Int) (H' : Hp), H' q = some (.lst (es.map V.int)) → es.length ≤ 10 → SrcOk H' l c → Keep l H H' → H q = none → q ≠ l → q ≠ c → Q (.ref q) H'
abbrev s_law_line_by : Stmt := top 13
theorem sc_law_line_by : FnScope ["_law_src_here", "_law_many", "_law_line", "_law_k"] ["_law_src_here", "_law_many"] (defScope s_law_line_by) := ⟨rfl, rfl, rfl, by decide +kernel, rfl, by decide +kernel, by decide +kernel⟩
def lnT : TS := fun D σ H => ∃ (s4 : Option V) (l c q : Addr) (m : Nat) (es : List Int), σ = [some (.ref l), some (.int (m : Nat)), some (.ref q), s4] ∧ SrcOk H l c ∧ m ≤ 1000 ∧ H q = some (.lst (es.map V.int)) ∧ q ≠ l ∧ q ≠ c ∧ es.length ≤ 20 ∧ ∀ (y : Int) (H' : Hp), SrcOk H' l c → H' q = some (.lst ((es ++ [y]).map V.int)) → (∀ a ob, H a = some ob → a ≠ l → a ≠ q → H' a = some ob) → D.nx [some (.ref l), some (.int (m : Nat)), some (.ref q), s4] H'
theorem at2_pickL {a b v : Int} (h0 : 0 ≤ v) (h1 : v < 2) : ∃ x, atI [V.int a, V.int b] v = some (.int x) ∧ (x = a ∨ x = b) := by
  have : v = 0 ∨ v = 1 := by omega
  rcases this with rfl | rfl
  · exact ⟨a, rfl, .inl rfl⟩
  · exact ⟨b, rfl, .inr rfl⟩
theorem ok_law_line_by {f fN : Addr} {fd fdN : FuncData} (F : Fun K "_law_line_by" "_law_line_by" s_law_line_by f fd) (T : Nms mg) (d_law_next : DefAt K mg "_law_next" s_law_next ["_law_src_here", "_law_base"] fN fdN) : FnOk P w K mg base CX0 2 f fd ["_law_src_here", "_law_many"] spLine := by
  have g_law_next : FnOk P w K mg base CX0 1 fN fdN ["_law_src_here", "_law_base"] spNext := ok_law_next d_law_next.F T
  refine F.ok sc_law_line_by (fun vs H Q E h => ?_) (fun cdv A outer s H vs Q E hr h => ?_)
  · obtain ⟨l, c, m, rfl, _⟩ := h
    rfl
  obtain ⟨l, c, m, rfl, S, hm, k⟩ := h
  refine ⟨_, (pss_cons (ps_set (i := 2) sc_law_line_by.nd rfl (Or.inl rfl) (pe_lst pa_nil))
      (pss_cons (ps_for PassesOwn.never rfl (pi_range1 rfl T.n_range (pa_cons (pe_def d_law_next g_law_next hr (pa_cons (pv 0) (pa_cons pe_int pa_nil))) pa_nil)) (pg_name (i := 3) sc_law_line_by.nd rfl (Or.inl rfl))
      (pss_one (ps_imp (t' := lnT) (ps_if (PW.pt (pw_and (pt_cmpR op_gt (pv 1) pe_int (nomark _)) (pw_and1 (pt_cmpR op_eq (pe_def d_law_next g_law_next hr (pa_cons (pv 0) (pa_cons pe_int pa_nil))) pe_int (nomark _)))))
      (pss_one (ps_expr (pe_bm PySem.F.plainAttrs_list PySem.F.slot_list_append PySem.F.type_list_append mt_append (pv 2) (pa_cons (pe_op op_sub (pe_un un_neg pe_int) (pe_def d_law_next g_law_next hr (pa_cons (pv 0) (pa_cons (pv 1) pa_nil)))) pa_nil))))
      (pss_one (ps_imp (t' := lnT) (ps_if (PW.pt (pw_and (pt_cmpR op_gt (pe_callB call_len_seq rfl T.n_len PySem.boot_len (pa_cons (pv 2) pa_nil)) pe_int (nomark _)) (pw_and (pt_cmpR op_ge (pe_ix ix_list (pv 2) (pe_un un_neg pe_int) (fun _ _ => rfl)) pe_int (nomark _)) (pw_and1 (pt_cmpR op_eq (pe_def d_law_next g_law_next hr (pa_cons (pv 0) (pa_cons pe_int pa_nil))) pe_int (nomark _))))))
      (pss_one (ps_expr (pe_bm PySem.F.plainAttrs_list PySem.F.slot_list_append PySem.F.type_list_append mt_append (pv 2) (pa_cons (pe_op op_add (pe_ix ix_list (pv 2) (pe_un un_neg pe_int) (fun _ _ => rfl)) pe_int) pa_nil))))
      (pss_one (ps_imp (t' := lnT) (ps_expr (pe_bm PySem.F.plainAttrs_list PySem.F.slot_list_append PySem.F.type_list_append mt_append (pv 2) (pa_cons (pe_def d_law_next g_law_next hr (pa_cons (pv 0) (pa_cons (pe_ix ix_list (pe_lst (pa_cons pe_int (pa_cons (pe_op op_pow pe_int pe_int) pa_nil))) (pe_def d_law_next g_law_next hr (pa_cons (pv 0) (pa_cons pe_int pa_nil))) (fun _ _ => rfl)) pa_nil))) pa_nil))) ?b3))) ?b2))) ?b1)))
      (pss_one (ps_ret (pv 2))))), ?_⟩
  case b1 =>
    rintro D σ H ⟨s4, l, c, q, m, es, rfl, S, hm, hq, nql, nqc, le, k⟩
    have els : ∀ H1, SrcOk H1 l c → (∀ a, a ≠ l → H1 a = H a) → lnT D [some (.ref l), some (.int (m : Nat)), some (.ref q), s4] H1 := fun H1 S1 k1 => ⟨s4, l, c, q, m, es, rfl, S1, hm, (k1 q nql).trans hq, nql, nqc, le, fun y H' S' h' fr => k y H' S' h' (fun a ob e n1 n2 => fr a ob ((k1 a n1).trans e) n1 n2)⟩
    have fin : ∀ H1, SrcOk H1 l c → (∀ a ob, H a = some ob → a ≠ l → H1 a = some ob) → H1 q = some (.lst (es.map V.int)) → ∀ y : Int, ∃ (b : Addr) (xs : List V) (v : V), V.ref q = .ref b ∧ [V.int y] = [v] ∧ H1 b = some (.lst xs) ∧ xs.length < sizeLine ∧ D.nx [some (.ref l), some (.int (m : Nat)), some (.ref q), s4] (upd H1 b (.lst (xs ++ [v]))) := fun H1 S1 k1 h1 y => by
      refine ⟨q, _, _, rfl, rfl, h1, (by rw [List.length_map]; exact million (by omega)), k y _ (S1.keep (keep_upd q _ _) nql.symm nqc.symm) (by rw [upd_same, List.map_append]; rfl) fun a ob e n1 n2 => ?_⟩
      rw [upd_ne n2]
      exact k1 _ _ e n1
    refine ⟨_, rfl, _, _, rfl, rfl, _, rfl, ite2 (fun c1 => ?_) (fun _ => els H S (fun _ _ => rfl))⟩
    have m0 : (0 : Int) < (m : Nat) := of_decide_eq_true c1
    refine ⟨_, rfl, l, c, 4, rfl, S, by decide, by decide, fun v H1 _ _ S1 k1 => ⟨rfl, _, rfl, ite2 (fun _ => ?_) (fun _ => els H1 S1 k1)⟩⟩
    refine ⟨_, rfl, .inl ⟨rfl, _, SqL.of ((k1 q nql).trans hq)⟩, _, rfl, _, rfl, _, rfl, l, c, _, rfl, S1, m0, Int.lt_of_le_of_lt (show ((m : Nat) : Int) ≤ 1000 by omega) (by decide), fun u H2 _ _ S2 k2 => ⟨_, _, rfl, rfl, ?_⟩⟩
    exact fin H2 S2 (fun a ob e n => (k2 a n).trans ((k1 a n).trans e)) ((k2 q nql).trans ((k1 q nql).trans hq)) _
  case b2 =>
    rintro D σ H ⟨s4, l, c, q, m, es, rfl, S, hm, hq, nql, nqc, le, k⟩
    have els : ∀ H1, SrcOk H1 l c → (∀ a, a ≠ l → H1 a = H a) → lnT D [some (.ref l), some (.int (m : Nat)), some (.ref q), s4] H1 := fun H1 S1 k1 => ⟨s4, l, c, q, m, es, rfl, S1, hm, (k1 q nql).trans hq, nql, nqc, le, fun y H' S' h' fr => k y H' S' h' (fun a ob e n1 n2 => fr a ob ((k1 a n1).trans e) n1 n2)⟩
    have fin : ∀ H1, SrcOk H1 l c → (∀ a ob, H a = some ob → a ≠ l → H1 a = some ob) → H1 q = some (.lst (es.map V.int)) → ∀ y : Int, ∃ (b : Addr) (xs : List V) (v : V), V.ref q = .ref b ∧ [V.int y] = [v] ∧ H1 b = some (.lst xs) ∧ xs.length < sizeLine ∧ D.nx [some (.ref l), some (.int (m : Nat)), some (.ref q), s4] (upd H1 b (.lst (xs ++ [v]))) := fun H1 S1 k1 h1 y => by
      refine ⟨q, _, _, rfl, rfl, h1, (by rw [List.length_map]; exact million (by omega)), k y _ (S1.keep (keep_upd q _ _) nql.symm nqc.symm) (by rw [upd_same, List.map_append]; rfl) fun a ob e n1 n2 => ?_⟩
      rw [upd_ne n2]
      exact k1 _ _ e n1
    refine ⟨_, rfl, q, _, rfl, .inl (SqL.of hq), _, _, rfl, rfl, _, rfl, ite2 (fun c1 => ?_) (fun _ => els H S (fun _ _ => rfl))⟩
    have l0 : (0 : Int) < ((es.map V.int).length : Nat) := of_decide_eq_true c1
    obtain ⟨es', z, rfl⟩ : ∃ es' z, es = es' ++ [z] := by
      rcases List.eq_nil_or_concat es with rfl | ⟨es', z, rfl⟩
      · simp at l0
      · exact ⟨es', z, List.concat_eq_append⟩
    have hat : atI ((es' ++ [z]).map V.int) (-1) = some (.int z) := by rw [List.map_append]; exact atI_neg1 _ _
    refine ⟨_, rfl, _, rfl, q, _, _, .int z, rfl, rfl, SqL.of hq, hat, _, _, rfl, rfl, _, rfl, ite2 (fun c2 => ?_) (fun _ => els H S (fun _ _ => rfl))⟩
    refine ⟨_, rfl, l, c, 2, rfl, S, by decide, by decide, fun v H1 _ _ S1 k1 => ⟨rfl, _, rfl, ite2 (fun _ => ?_) (fun _ => els H1 S1 k1)⟩⟩
    have hq1 := (k1 q nql).trans hq
    refine ⟨_, rfl, .inl ⟨rfl, _, SqL.of hq1⟩, _, rfl, _, rfl, q, _, _, .int z, rfl, rfl, SqL.of hq1, hat, _, _, rfl, rfl, ?_⟩
    exact fin H1 S1 (fun a ob e n => (k1 a n).trans e) hq1 _
  case b3 =>
    rintro D σ H ⟨s4, l, c, q, m, es, rfl, S, hm, hq, nql, nqc, le, k⟩
    have els : ∀ H1, SrcOk H1 l c → (∀ a, a ≠ l → H1 a = H a) → lnT D [some (.ref l), some (.int (m : Nat)), some (.ref q), s4] H1 := fun H1 S1 k1 => ⟨s4, l, c, q, m, es, rfl, S1, hm, (k1 q nql).trans hq, nql, nqc, le, fun y H' S' h' fr => k y H' S' h' (fun a ob e n1 n2 => fr a ob ((k1 a n1).trans e) n1 n2)⟩
    have fin : ∀ H1, SrcOk H1 l c → (∀ a ob, H a = some ob → a ≠ l → H1 a = some ob) → H1 q = some (.lst (es.map V.int)) → ∀ y : Int, ∃ (b : Addr) (xs : List V) (v : V), V.ref q = .ref b ∧ [V.int y] = [v] ∧ H1 b = some (.lst xs) ∧ xs.length < sizeLine ∧ D.nx [some (.ref l), some (.int (m : Nat)), some (.ref q), s4] (upd H1 b (.lst (xs ++ [v]))) := fun H1 S1 k1 h1 y => by
      refine ⟨q, _, _, rfl, rfl, h1, (by rw [List.length_map]; exact million (by omega)), k y _ (S1.keep (keep_upd q _ _) nql.symm nqc.symm) (by rw [upd_same, List.map_append]; rfl) fun a ob e n1 n2 => ?_⟩
      rw [upd_ne n2]
      exact k1 _ _ e n1
    refine ⟨_, rfl, .inl ⟨rfl, _, SqL.of hq⟩, _, rfl, _, _, rfl, rfl, ⟨by decide, by decide, by decide⟩, (by show 2 ≤ sizeLine; decide), fun z hz => ?_⟩
    have s1 : Same H (upd H z (.lst [.int 12, .int (10 ^ (30 : Int).toNat)])) := same_new hz _
    have z1 : (upd H z (.lst [.int 12, .int (10 ^ (30 : Int).toNat)])) z = some (.lst [.int 12, .int (10 ^ (30 : Int).toNat)]) := upd_same
    generalize upd H z (.lst [.int 12, .int (10 ^ (30 : Int).toNat)]) = H1 at s1 z1
    have nzl : z ≠ l := (S.ne hz).1.symm
    refine ⟨_, rfl, l, c, 2, rfl, S.same s1, by decide, by decide, fun w H2 w0 w1 S2 k2 => ?_⟩
    obtain ⟨y, hy, hor⟩ := at2_pickL (a := 12) (b := 10 ^ (30 : Int).toNat) w0 w1
    refine ⟨z, _, _, _, rfl, rfl, SqL.of ((k2 z nzl).trans z1), hy, l, c, y, rfl, S2, ?_, ?_, fun u H3 _ _ S3 k3 => ?_⟩
    · rcases hor with rfl | rfl <;> decide
    · rcases hor with rfl | rfl <;> decide
    · exact fin H3 S3 (fun a ob e n => (k3 a n).trans ((k2 a n).trans (s1 _ _ e))) ((k3 q nql).trans ((k2 q nql).trans (s1 _ _ hq))) _
  refine ⟨(by show 0 ≤ sizeLine; decide), fun q hq => ?_⟩
  have s1 : Same H (upd H q (.lst [])) := same_new hq _
  have q1 : (upd H q (.lst [])) q = some (.lst []) := upd_same
  generalize upd H q (.lst []) = H1 at s1 q1
  have nql : q ≠ l := (S.ne hq).1.symm
  have nqc : q ≠ c := (S.ne hq).2.symm
  refine ⟨_, rfl, l, c, 5, rfl, S.same s1, by decide, by decide, fun n H2 n0 n1 S2 k2 => ⟨n, rfl, by omega, by omega, ?_⟩⟩
  refine for_range (lo := 0) (n := n.toNat) (fun i σ H3 => ∃ (u : Option V) (es : List Int), σ = [some (.ref l), some (.int (m : Nat)), some (.ref q), u] ∧ SrcOk H3 l c ∧ H3 q = some (.lst (es.map V.int)) ∧ es.length ≤ i ∧ Keep l H H3) ⟨none, [], rfl, S2, (k2 q nql).trans q1, Nat.le_refl _, fun b ob e m => (k2 b m).trans (s1 _ _ e)⟩ ?_ ?_
  · rintro i σ H3 hi ⟨u, es, rfl, S3, q3, le, K3⟩
    refine ⟨_, l, c, q, m, es, rfl, S3, hm, q3, nql, nqc, by omega, fun y H4 S4 q4 fr => ⟨_, es ++ [y], rfl, S4, q4, by rw [List.length_append]; simp only [List.length_singleton]; omega, fun b ob e m => fr _ _ (K3 _ _ e m) m (ne_of_none e hq)⟩⟩
  · rintro σ H3 ⟨u, es, rfl, S3, q3, le, K3⟩
    exact ⟨_, rfl, k q es H3 q3 (by omega) S3 K3 hq nql nqc⟩

def spDue : Sp := fun vs H Q _ => ∃ (G : Addr → Prop) (g : Addr) (P : Ent) (s m : Int) (last : List (List Int)), vs = [.ref g, .int s, .int m] ∧ PaAt G H g P ∧ P.getLast? = some last ∧ (¬ InN last.length s → ∀ (p : Addr) (H' : Hp), tupV p "sheet" .non H' → Same H H' → Q (.ref p) H') ∧ (InN last.length s → ¬ InN P.length m → ∀ (p : Addr) (H' : Hp), tupV p "moment" .non H' → Same H H' → Q (.ref p) H') ∧
  ∀ (si mi : Nat) (rows : List (List Int)), s = si → m = mi → si < last.length → P[mi]? = some rows → (rows.length ≤ si → ∀ (p : Addr) (H' : Hp), tupV p "sheet" .non H' → Same H H' → Q (.ref p) H') ∧ (∀ es, rows[si]? = some es → ∀ (q p : Addr) (H' : Hp), tupV p "" (.ref q) H' → ItemsAt H' (.ref q) (itemsOf es) → Same H H' → H q = none → Q (.ref p) H')
abbrev s_law_due : Stmt := top 19
theorem sc_law_due : FnScope ["_law_past", "_law_sheet", "_law_moment"] ["_law_past", "_law_sheet", "_law_moment"] (defScope s_law_due) := ⟨rfl, rfl, rfl, by decide +kernel, rfl, by decide +kernel, by decide +kernel⟩
theorem PaAt.last {G : Addr → Prop} {H : Hp} {g : Addr} {P : Ent} {last : List (List Int)} (h : PaAt G H g P) (hl : P.getLast? = some last) : ∃ as a, H g = some (.lst (as ++ [V.ref a])) ∧ RwsAt G H g a last := by
  obtain ⟨as, hg, a2⟩ := h.at'
  obtain ⟨p', rfl⟩ : ∃ p', P = p' ++ [last] := by
    rcases List.eq_nil_or_concat P with rfl | ⟨p', l, rfl⟩
    · cases hl
    · rw [List.concat_eq_append, List.getLast?_concat] at hl
      cases hl
      exact ⟨p', List.concat_eq_append⟩
  obtain ⟨as', a, rfl, _, r⟩ := a2.split
  exact ⟨as'.map V.ref, a, by rw [hg, List.map_append]; rfl, r⟩
theorem ok_law_due {f fI : Addr} {fd fdI : FuncData} (F : Fun K "_law_due" "_law_due" s_law_due f fd) (T : Nms mg) (d_law_items_of : DefAt K mg "_law_items_of" s_law_items_of ["_law_entries"] fI fdI) : FnOk P w K mg base CX0 2 f fd ["_law_past", "_law_sheet", "_law_moment"] spDue := by
  have g_law_items_of : FnOk P w K mg base CX0 1 fI fdI ["_law_entries"] spItems := ok_law_items_of d_law_items_of.F T
  refine F.ok sc_law_due (fun vs H Q E h => ?_) (fun cdv A outer s H vs Q E hr h => ?_)
  · obtain ⟨G, g, P, s, m, last, rfl, _⟩ := h
    rfl
  obtain ⟨G, g, P, s, m, last, rfl, pa, hl, k1, k2, k3⟩ := h
  refine ⟨_, (pss_cons (ps_if (PW.pt (pw_or (pt_cmpR op_lt (pv 1) pe_int (nomark _)) (pw_or1 (pt_cmpR op_ge (pv 1) (pe_callB call_len_seq rfl T.n_len PySem.boot_len (pa_cons (pe_ix ix_list (pv 0) (pe_un un_neg pe_int) (fun _ _ => rfl)) pa_nil)) (nomark _)))))
      (pss_one (ps_ret (pe_tup (pa_cons pe_str (pa_cons pe_non pa_nil)))))
      pss_nil)
      (pss_cons (ps_if (PW.pt (pw_or (pt_cmpR op_lt (pv 2) pe_int (nomark _)) (pw_or1 (pt_cmpR op_ge (pv 2) (pe_callB call_len_seq rfl T.n_len PySem.boot_len (pa_cons (pv 0) pa_nil)) (nomark _)))))
      (pss_one (ps_ret (pe_tup (pa_cons pe_str (pa_cons pe_non pa_nil)))))
      pss_nil)
      (pss_cons (ps_if (pt_cmpR op_ge (pv 1) (pe_callB call_len_seq rfl T.n_len PySem.boot_len (pa_cons (pe_ix ix_list (pv 0) (pv 2) (fun _ _ => rfl)) pa_nil)) (nomark _))
      (pss_one (ps_ret (pe_tup (pa_cons pe_str (pa_cons pe_non pa_nil)))))
      pss_nil)
      (pss_one (ps_ret (pe_tup (pa_cons pe_str (pa_cons (pe_def d_law_items_of g_law_items_of hr (pa_cons (pe_ix ix_list (pe_ix ix_list (pv 0) (pv 2) (fun _ _ => rfl)) (pv 1) (fun _ _ => rfl)) pa_nil)) pa_nil)))))))), ?_⟩
  obtain ⟨as, a, hg, ⟨Ga, na, rs, ha, ar⟩⟩ := pa.last hl
  have la : (rs.map V.ref).length = last.length := by rw [List.length_map, ar.len]
  obtain ⟨bs, hb, b2⟩ := id pa.at'
  have lb : (bs.map V.ref).length = P.length := by rw [List.length_map, b2.len]
  have hat : atI (as ++ [V.ref a]) (-1) = some (.ref a) := atI_neg1 _ _
  refine ⟨_, rfl, _, _, rfl, rfl, _, rfl, ite2 (fun c1 => ?_) (fun c1 => ?_)⟩
  · have : s < 0 := of_decide_eq_true c1
    exact ⟨(by show 2 ≤ sizeLine; decide), fun p hp => k1 (fun z => by have := z.1; omega) p _ upd_same (same_new hp _)⟩
  have s0 : ¬ s < 0 := fun z => c1 (decide_eq_true z)
  refine ⟨_, rfl, _, rfl, _, rfl, g, _, _, .ref a, rfl, rfl, SqL.of hg, hat, a, _, rfl, .inl (SqL.of ha), _, _, rfl, rfl, _, rfl, ite2 (fun c2 => ?_) (fun c2 => ?_)⟩
  · have z2 : (((rs.map V.ref).length : Nat) : Int) ≤ s := of_decide_eq_true c2
    rw [la] at z2
    exact ⟨(by show 2 ≤ sizeLine; decide), fun p hp => k1 (fun z => by have := z.2; omega) p _ upd_same (same_new hp _)⟩
  have s1 : ¬ (((rs.map V.ref).length : Nat) : Int) ≤ s := fun z => c2 (decide_eq_true z)
  rw [la] at s1
  have is : InN last.length s := ⟨by omega, by omega⟩
  refine ⟨_, rfl, _, _, rfl, rfl, _, rfl, ite2 (fun c3 => ?_) (fun c3 => ?_)⟩
  · have : m < 0 := of_decide_eq_true c3
    exact ⟨(by show 2 ≤ sizeLine; decide), fun p hp => k2 is (fun z => by have := z.1; omega) p _ upd_same (same_new hp _)⟩
  have m0 : ¬ m < 0 := fun z => c3 (decide_eq_true z)
  refine ⟨_, rfl, _, rfl, g, _, rfl, .inl (SqL.of hb), _, _, rfl, rfl, _, rfl, ite2 (fun c4 => ?_) (fun c4 => ?_)⟩
  · have z2 : (((bs.map V.ref).length : Nat) : Int) ≤ m := of_decide_eq_true c4
    rw [lb] at z2
    exact ⟨(by show 2 ≤ sizeLine; decide), fun p hp => k2 is (fun z => by have := z.2; omega) p _ upd_same (same_new hp _)⟩
  have m1 : ¬ (((bs.map V.ref).length : Nat) : Int) ≤ m := fun z => c4 (decide_eq_true z)
  rw [lb] at m1
  obtain ⟨si, rfl⟩ : ∃ si : Nat, s = si := ⟨s.toNat, by omega⟩
  obtain ⟨mi, rfl⟩ : ∃ mi : Nat, m = mi := ⟨m.toNat, by omega⟩
  have er : P[mi]? = some P[mi] := List.getElem?_eq_getElem (by omega)
  generalize P[mi] = rows at er
  obtain ⟨k4, k5⟩ := k3 si mi rows rfl rfl (by omega) er
  obtain ⟨b, eb, _, _, qs, hqs, aq⟩ := b2.get' er
  have lq : (qs.map V.ref).length = rows.length := by rw [List.length_map, aq.len]
  have hatb : atI (bs.map V.ref) ((mi : Nat) : Int) = some (.ref b) := atI_nat (by rw [List.getElem?_map, eb]; rfl)
  refine ⟨_, rfl, _, rfl, _, rfl, g, _, _, .ref b, rfl, rfl, SqL.of hb, hatb, b, _, rfl, .inl (SqL.of hqs), _, _, rfl, rfl, _, rfl, ite2 (fun c5 => ?_) (fun c5 => ?_)⟩
  · have z2 : (((qs.map V.ref).length : Nat) : Int) ≤ ((si : Nat) : Int) := of_decide_eq_true c5
    rw [lq] at z2
    exact ⟨(by show 2 ≤ sizeLine; decide), fun p hp => k4 (by omega) p _ upd_same (same_new hp _)⟩
  have s2 : ¬ (((qs.map V.ref).length : Nat) : Int) ≤ ((si : Nat) : Int) := fun z => c5 (decide_eq_true z)
  rw [lq] at s2
  have el : rows[si]? = some rows[si] := List.getElem?_eq_getElem (by omega)
  generalize rows[si] = es at el
  obtain ⟨r, er', _, _, hr', lr'⟩ := aq.get' el
  refine ⟨_, rfl, _, rfl, g, _, _, .ref b, rfl, rfl, SqL.of hb, hatb, _, rfl, b, _, _, .ref r, rfl, rfl, SqL.of hqs, atI_nat (by rw [List.getElem?_map, er']; rfl), r, es, rfl, hr', by omega, fun q H1 i1 s1 f1 => ?_⟩
  refine ⟨(by show 2 ≤ sizeLine; decide), fun p hp => ?_⟩
  exact k5 es el q p _ upd_same (i1.same (same_new hp _)) (s1.trans (same_new hp _)) f1

/-! how changes go together -/
theorem ap1_set {X : List (List Item)} {s : Nat} (its : List Item) (h : s < X.length) : ap1 X (s, its) = X.set s its := by
  unfold ap1
  rw [List.set_eq_take_append_cons_drop, if_pos h, List.append_assoc]
  rfl
theorem ap1_end (X : List (List Item)) (its : List Item) : ap1 X (X.length, its) = X ++ [its] := by
  unfold ap1
  rw [List.take_length, List.drop_of_length_le (Nat.le_succ _), List.append_nil]
theorem ap1_comm {X : List (List Item)} {c0 c : Nat × List Item} (h0 : c0.1 < X.length) (h : c.1 ≤ X.length) (n : c.1 ≠ c0.1) : ap1 (ap1 X c0) c = ap1 (ap1 X c) c0 := by
  obtain ⟨s0, i0⟩ := c0
  obtain ⟨s, i⟩ := c
  simp only at h0 h n
  rw [ap1_set i0 h0]
  by_cases e : s < X.length
  · rw [ap1_set i (by rw [List.length_set]; exact e), ap1_set i e, ap1_set i0 (by rw [List.length_set]; exact h0)]
    exact List.set_comm _ _ (fun z => n z.symm)
  · have : s = X.length := by omega
    subst this
    have e1 : ap1 (X.set s0 i0) (X.length, i) = X.set s0 i0 ++ [i] := by
      have := ap1_end (X.set s0 i0) i
      rw [List.length_set] at this
      exact this
    rw [e1, ap1_end, ap1_set i0 (by rw [List.length_append]; omega), List.set_append_left _ _ h0]
theorem apCh_cons (X : List (List Item)) (c : Nat × List Item) (r : List (Nat × List Item)) : apCh X (c :: r) = apCh (ap1 X c) r := rfl
theorem apCh_snoc (X : List (List Item)) (r : List (Nat × List Item)) (c : Nat × List Item) : apCh X (r ++ [c]) = ap1 (apCh X r) c := by
  unfold apCh
  rw [List.foldl_append]
  rfl
theorem okCh_tail {X : List (List Item)} {c : Nat × List Item} {r : List (Nat × List Item)} (h : okCh X (c :: r)) : c.1 ≤ X.length ∧ okCh (ap1 X c) r := by
  refine ⟨h 0 c rfl, fun i ch e => ?_⟩
  have := h (i + 1) ch (by rw [List.getElem?_cons_succ]; exact e)
  rw [List.take_succ_cons, apCh_cons] at this
  exact this
theorem okCh_cons {X : List (List Item)} {c : Nat × List Item} {r : List (Nat × List Item)} (h : c.1 ≤ X.length) (k : okCh (ap1 X c) r) : okCh X (c :: r) := by
  intro i ch e
  match i, e with
  | 0, e => cases e; exact h
  | i + 1, e =>
    rw [List.getElem?_cons_succ] at e
    rw [List.take_succ_cons, apCh_cons]
    exact k i ch e
theorem okCh_snoc {X : List (List Item)} {r : List (Nat × List Item)} {c : Nat × List Item} (h : okCh X r) (k : c.1 ≤ (apCh X r).length) : okCh X (r ++ [c]) := by
  intro i ch e
  by_cases l : i < r.length
  · rw [List.getElem?_append_left l] at e
    rw [List.take_append_of_le_length (Nat.le_of_lt l)]
    exact h i ch e
  · rw [List.getElem?_append_right (by omega)] at e
    match hm : i - r.length, e with
    | 0, e =>
      cases e
      have : i = r.length := by omega
      rw [this, List.take_append_of_le_length (Nat.le_refl _), List.take_length]
      exact k
    | j + 1, e => cases e
theorem ch_rot : ∀ {r : List (Nat × List Item)} {X : List (List Item)} {c0 : Nat × List Item}, c0.1 < X.length → okCh X (c0 :: r) → (∀ c ∈ r, c.1 ≠ c0.1) → apCh X (r ++ [c0]) = apCh X (c0 :: r) ∧ okCh X (r ++ [c0])
  | [], X, c0, h0, ok, _ => ⟨rfl, ok⟩
  | c :: r, X, c0, h0, ok, nd => by
    obtain ⟨a0, ok1⟩ := okCh_tail ok
    obtain ⟨a1, ok2⟩ := okCh_tail ok1
    have nc := nd c (by simp)
    have l1 : (ap1 X c0).length = X.length := by rw [show ap1 X c0 = X.set c0.1 c0.2 from ap1_set c0.2 h0, List.length_set]
    rw [l1] at a1
    have cm := ap1_comm h0 a1 nc
    have lc := ap1_len a1
    have ok3 : okCh (ap1 X c) (c0 :: r) := okCh_cons (by omega) (by rw [← cm]; exact ok2)
    obtain ⟨e, ok4⟩ := ch_rot (by omega) ok3 (fun c' hc => nd c' (by simp [hc]))
    refine ⟨?_, okCh_cons a1 ok4⟩
    rw [List.cons_append, apCh_cons, e, apCh_cons, apCh_cons, apCh_cons, cm]
structure Mx (last rows : List (List Int)) (chs : List (Nat × List Item)) (b : Nat) : Prop where
  eq : rows.map itemsOf = apCh (last.map itemsOf) chs
  ok : okCh (last.map itemsOf) chs
  lt : ∀ ch ∈ chs, ch.1 < b
  nd : (chs.map Prod.fst).Nodup
theorem Mx.snoc {last rows rows' : List (List Int)} {chs : List (Nat × List Item)} {b s : Nat} {es : List Int} (h : Mx last rows chs b) (bs : b ≤ s) (sl : s ≤ rows.length) (e : rows'.map itemsOf = ap1 (rows.map itemsOf) (s, itemsOf es)) : Mx last rows' (chs ++ [(s, itemsOf es)]) (s + 1) := by
  obtain ⟨eq, ok, lt, nd⟩ := h
  refine ⟨by rw [e, eq, apCh_snoc], okCh_snoc ok (by rw [← eq, List.length_map]; exact sl), fun ch hc => ?_, ?_⟩
  · rcases List.mem_append.mp hc with z | z
    · have := lt ch z
      omega
    · rw [List.mem_singleton.mp z]
      exact Nat.lt_succ_self _
  · rw [List.map_append, List.nodup_append]
    refine ⟨nd, by simp, fun x hx y hy z => ?_⟩
    obtain ⟨ch, hc, rfl⟩ := List.mem_map.mp hx
    have := lt ch hc
    have : y = s := by simpa using hy
    omega
theorem Mx.mono {last rows : List (List Int)} {chs : List (Nat × List Item)} {b b' : Nat} (h : Mx last rows chs b) (le : b ≤ b') : Mx last rows chs b' := ⟨h.eq, h.ok, fun ch hc => Nat.lt_of_lt_of_le (h.lt ch hc) le, h.nd⟩
theorem Mx.set {last rows : List (List Int)} {chs : List (Nat × List Item)} {s : Nat} (es : List Int) (h : Mx last rows chs s) (sl : s < rows.length) : Mx last (rows.set s es) (chs ++ [(s, itemsOf es)]) (s + 1) := by
  refine h.snoc (Nat.le_refl _) (Nat.le_of_lt sl) ?_
  rw [ap1_set _ (by rw [List.length_map]; exact sl), List.map_set]
theorem Mx.push {last rows : List (List Int)} {chs : List (Nat × List Item)} (es : List Int) (h : Mx last rows chs rows.length) : Mx last (rows ++ [es]) (chs ++ [(rows.length, itemsOf es)]) (rows.length + 1) := by
  refine h.snoc (Nat.le_refl _) (Nat.le_refl _) ?_
  have := ap1_end (rows.map itemsOf) (itemsOf es)
  rw [List.length_map] at this
  rw [this, List.map_append]
  rfl
theorem Mx.rot {last rows : List (List Int)} {c0 : Nat × List Item} {r : List (Nat × List Item)} {b : Nat} (h : Mx last rows (c0 :: r) b) (lt : c0.1 < last.length) : rows.map itemsOf = apCh (last.map itemsOf) (r ++ [c0]) ∧ okCh (last.map itemsOf) (r ++ [c0]) := by
  have nd := h.nd
  rw [List.map_cons, List.nodup_cons] at nd
  obtain ⟨e, ok⟩ := ch_rot (by rw [List.length_map]; exact lt) h.ok fun c hc z => nd.1 (List.mem_map.mpr ⟨c, hc, z⟩)
  exact ⟨by rw [h.eq, e], ok⟩

def CA (H0 H : Hp) (r h t : Addr) (ch : Nat × List Item) : Prop := ∃ ri : Addr, H t = some (.tup [.int (ch.1 : Nat), .ref ri]) ∧ ItemsAt H (.ref ri) ch.2 ∧ ri ≠ r ∧ ri ≠ h ∧ H0 ri = none ∧ ch.2.length ≤ 20
def LN (H0 H : Hp) (r h q : Addr) (es : List Int) : Prop := H0 q = none ∧ q ≠ r ∧ q ≠ h ∧ H q = some (.lst (es.map V.int)) ∧ es.length ≤ 10
theorem itemsStep_le (t : List Item) (e : Int) : (itemsStep t e).length ≤ t.length + 1 := by
  unfold itemsStep
  split
  · rw [List.length_append]; exact Nat.le_refl _
  · split
    · split
      · rw [List.length_append, List.length_dropLast]
        simp only [List.length_singleton]
        omega
      · rw [List.length_append]; exact Nat.le_refl _
    · rw [List.length_append]; exact Nat.le_refl _
theorem itemsFold_le : ∀ (es : List Int) (t : List Item), (es.foldl itemsStep t).length ≤ t.length + es.length
  | [], t => Nat.le_refl _
  | e :: es, t => by
    have a := itemsFold_le es (itemsStep t e)
    have b := itemsStep_le t e
    rw [List.foldl_cons, List.length_cons]
    omega
theorem itemsOf_le (es : List Int) : (itemsOf es).length ≤ es.length := by
  have := itemsFold_le es []
  simp only [List.length_nil, Nat.zero_add] at this
  exact this
structure Bd (H0 H : Hp) (l c r h : Addr) (ls ts : List Addr) (rows : List (List Int)) (chs : List (Nat × List Item)) : Prop where
  src : SrcOk H l c
  kp : Keep l H0 H
  hr : H r = some (.lst (ls.map V.ref))
  hh : H h = some (.lst (ts.map V.ref))
  ln : All2 (LN H0 H r h) ls rows
  ca : All2 (CA H0 H r h) ts chs
  fr : H0 r = none
  fh : H0 h = none
  ne : r ≠ h
  hl : (∃ ob, H0 l = some ob) ∧ ∃ ob, H0 c = some ob
section
variable {H0 H H' : Hp} {l c r h : Addr} {ls ts ls' ts' : List Addr} {rows rows' : List (List Int)} {chs chs' : List (Nat × List Item)}
theorem CA.fr {t : Addr} {ch : Nat × List Item} (q : CA H0 H r h t ch) (k : ∀ a ob, H a = some ob → H0 a = none → a ≠ r → a ≠ h → H' a = some ob) (tu : ∀ a xs, H a = some (.tup xs) → H' a = some (.tup xs)) : CA H0 H' r h t ch := by
  obtain ⟨ri, h1, h2, n1, n2, f, le⟩ := q
  exact ⟨ri, tu _ _ h1, h2.fr (fun xs e => k _ _ e f n1 n2) tu, n1, n2, f, le⟩
theorem LN.fr {q : Addr} {es : List Int} (z : LN H0 H r h q es) (k : ∀ a ob, H a = some ob → H0 a = none → a ≠ r → a ≠ h → H' a = some ob) : LN H0 H' r h q es := by
  obtain ⟨f, n1, n2, e, le⟩ := z
  exact ⟨f, n1, n2, k _ _ e f n1 n2, le⟩
theorem Bd.nel (B : Bd H0 H l c r h ls ts rows chs) {a : Addr} (f : H0 a = none) : a ≠ l ∧ a ≠ c := by
  obtain ⟨⟨o1, e1⟩, o2, e2⟩ := B.hl
  exact ⟨fun z => (by rw [z, e1] at f; cases f), fun z => (by rw [z, e2] at f; cases f)⟩
theorem Bd.mv (B : Bd H0 H l c r h ls ts rows chs) (k : Keep l H H') (s : SrcOk H' l c) : Bd H0 H' l c r h ls ts rows chs := by
  obtain ⟨lv, hlv⟩ := B.src.lst
  have tu : ∀ a xs, H a = some (.tup xs) → H' a = some (.tup xs) := fun a xs e => k _ _ e (ne_of e hlv (by intro z; cases z))
  have kk : ∀ a ob, H a = some ob → H0 a = none → a ≠ r → a ≠ h → H' a = some ob := fun a ob e f _ _ => k _ _ e (B.nel f).1
  exact ⟨s, fun a ob e n => k _ _ (B.kp _ _ e n) n, k _ _ B.hr (B.nel B.fr).1, k _ _ B.hh (B.nel B.fh).1, B.ln.mono fun q es z => z.fr kk, B.ca.mono fun t ch z => z.fr kk tu, B.fr, B.fh, B.ne, B.hl⟩
theorem Bd.same (B : Bd H0 H l c r h ls ts rows chs) (k : Same H H') : Bd H0 H' l c r h ls ts rows chs := B.mv (fun a ob e _ => k _ _ e) (B.src.same k)
theorem Bd.rws (B : Bd H0 H l c r h ls ts rows chs) (k : Keep r H H') (hr' : H' r = some (.lst (ls'.map V.ref))) (ln' : All2 (LN H0 H' r h) ls' rows') : Bd H0 H' l c r h ls' ts rows' chs := by
  have tu : ∀ a xs, H a = some (.tup xs) → H' a = some (.tup xs) := fun a xs e => k _ _ e (ne_of e B.hr (by intro z; cases z))
  exact ⟨B.src.keep k (B.nel B.fr).1.symm (B.nel B.fr).2.symm, fun a ob e n => k _ _ (B.kp _ _ e n) (ne_of_none e B.fr), hr', k _ _ B.hh B.ne.symm, ln', B.ca.mono fun t ch z => z.fr (fun a ob e _ n _ => k _ _ e n) tu, B.fr, B.fh, B.ne, B.hl⟩
theorem Bd.chg (B : Bd H0 H l c r h ls ts rows chs) (k : Keep h H H') (hh' : H' h = some (.lst (ts'.map V.ref))) (ca' : All2 (CA H0 H' r h) ts' chs') : Bd H0 H' l c r h ls ts' rows chs' :=
  ⟨B.src.keep k (B.nel B.fh).1.symm (B.nel B.fh).2.symm, fun a ob e n => k _ _ (B.kp _ _ e n) (ne_of_none e B.fh), k _ _ B.hr B.ne, hh', B.ln.mono fun q es z => z.fr (fun a ob e _ _ n => k _ _ e n), ca', B.fr, B.fh, B.ne, B.hl⟩
/-- one change more, behind all -/
theorem Bd.more (B : Bd H0 H l c r h ls ts rows chs) {t ri : Addr} {s : Nat} {its : List Item} (ht : H t = some (.tup [.int (s : Nat), .ref ri])) (hi : ItemsAt H (.ref ri) its) (n1 : ri ≠ r) (n2 : ri ≠ h) (f : H0 ri = none) (le : its.length ≤ 20) : Bd H0 (upd H h (.lst (ts.map V.ref ++ [.ref t]))) l c r h ls (ts ++ [t]) rows (chs ++ [(s, its)]) := by
  have k : Keep h H (upd H h (.lst (ts.map V.ref ++ [.ref t]))) := keep_upd h _ _
  have tu : ∀ a xs, H a = some (.tup xs) → (upd H h (.lst (ts.map V.ref ++ [.ref t]))) a = some (.tup xs) := fun a xs e => k _ _ e (ne_of e B.hh (by intro z; cases z))
  have kk : ∀ a ob, H a = some ob → H0 a = none → a ≠ r → a ≠ h → (upd H h (.lst (ts.map V.ref ++ [.ref t]))) a = some ob := fun a ob e _ _ n => k _ _ e n
  exact B.chg k (by rw [upd_same, List.map_append]; rfl) ((B.ca.mono fun t ch z => z.fr kk tu).snoc (CA.fr ⟨ri, ht, hi, n1, n2, f, le⟩ kk tu))
end
theorem all2_mem {α β : Type} {R R' : α → β → Prop} : ∀ {as : List α} {bs : List β}, All2 R as bs → (∀ a b, a ∈ as → R a b → R' a b) → All2 R' as bs
  | _, _, .nil, _ => .nil
  | _, _, .cons e r, h => .cons (h _ _ (List.mem_cons_self ..) e) (all2_mem r fun a b m => h a b (List.mem_cons_of_mem _ m))
structure Wk (C : Addr) (H : Hp) (l c x d st op g : Addr) (S G : Addr → Prop) (P : Ent) (ops : List Int) : Prop where
  src : SrcOk H l c
  sh : Sh C S H x d st op (itm P) ops
  pa : PaAt G H g P
  dj : ∀ a, S a → ¬ G a
  nl : ¬ S l ∧ ¬ S c ∧ ¬ G l ∧ ¬ G c
  ln : P.length ≤ 100 ∧ ops.length ≤ 200
def spLStep (C : Addr) : Sp := fun vs H Q _ => ∃ (S G : Addr → Prop) (l c x d st op g : Addr) (P : Ent) (ops : List Int), vs = [.ref l, .ref x, .ref g] ∧ Wk C H l c x d st op g S G P ops ∧ P.length ≤ 50 ∧ ops.length ≤ 100 ∧
  ∀ (S' G' : Addr → Prop) (rows : List (List Int)) (ops' : List Int) (H' : Hp), Wk C H' l c x d st op g S' G' (P ++ [rows]) ops' → ops'.length ≤ ops.length + 2 → (∀ a, S' a → S a ∨ H a = none) → (∀ a, G' a → G a ∨ H a = none) → (∀ a ob, H a = some ob → ¬ S a → a ≠ l → a ≠ g → H' a = some ob) → (∀ a xs, H a = some (.tup xs) → H' a = some (.tup xs)) → Q (.bl true) H'
abbrev s_law_step : Stmt := top 14
theorem sc_law_step : FnScope ["_law_src_here", "_law_shelf", "_law_past", "_law_rows", "_law_changes", "_law_sheet", "_law_k", "_law_handed", "_law_told", "_law_items"] ["_law_src_here", "_law_shelf", "_law_past"] (defScope s_law_step) := ⟨rfl, rfl, rfl, by decide +kernel, rfl, by decide +kernel, by decide +kernel⟩
def stT : TS := fun D σ H => ∃ (s1 s3 s5 s6 : Option V) (l c g a0 h : Addr) (ts : List Addr) (chs : List (Nat × List Item)) (as rs : List V), σ = [some (.ref l), s1, some (.ref g), s3, some (.ref h), s5, s6, none, none, none] ∧ SrcOk H l c ∧ H h = some (.lst (ts.map V.ref)) ∧ h ≠ l ∧ H g = some (.lst (as ++ [.ref a0])) ∧ g ≠ l ∧ H a0 = some (.lst rs) ∧ a0 ≠ l ∧ All2 (fun t (ch : Nat × List Item) => ∃ ri : Addr, H t = some (.tup [.int (ch.1 : Nat), .ref ri])) ts chs ∧ ts.length ≤ 1000 ∧
  ∀ (H' : Hp) (h' : Addr) (ts' : List Addr) (chs' : List (Nat × List Item)), SrcOk H' l c → Keep l H H' → H' h' = some (.lst (ts'.map V.ref)) → (h' = h ∨ H h' = none) → ((ts' = ts ∧ chs' = chs) ∨ ∃ t0 rest c0 r, ts = t0 :: rest ∧ ts' = rest ++ [t0] ∧ chs = c0 :: r ∧ chs' = r ++ [c0] ∧ c0.1 < rs.length) → D.nx [some (.ref l), s1, some (.ref g), s3, some (.ref h'), s5, s6, none, none, none] H'
/-- the handed changes: tuples with lists that are new -/
def HD (H6 H : Hp) (acc t : Addr) (ch : Nat × List Item) : Prop := ∃ ri : Addr, H t = some (.tup [.int (ch.1 : Nat), .ref ri]) ∧ ItemsAt H (.ref ri) ch.2 ∧ H6 ri = none ∧ ri ≠ acc ∧ ch.2.length ≤ 20
set_option maxHeartbeats 4000000 in
theorem ok_law_step {f C XS XM : Addr} {fd : FuncData} (F : Fun K "_law_step" "_law_step" s_law_step f fd) (M : ShM K mg C XS XM) {fN fL fI fC fW fS : Addr} {gN gL gI gC gW gS : FuncData} (d_law_next : DefAt K mg "_law_next" s_law_next ["_law_src_here", "_law_base"] fN gN) (d_law_line_by : DefAt K mg "_law_line_by" s_law_line_by ["_law_src_here", "_law_many"] fL gL) (d_law_items_of : DefAt K mg "_law_items_of" s_law_items_of ["_law_entries"] fI gI) (dchanged : DefAt K mg "changed" schanged ["state", "sheet", "items"] fC gC) (dShelf_now : MetAt K C "now" "Shelf.now" sShelf_now ["self"] fW gW) (dShelf_step : MetAt K C "step" "Shelf.step" sShelf_step ["self", "changes"] fS gS) : FnOk P w K mg base CX0 7 f fd ["_law_src_here", "_law_shelf", "_law_past"] (spLStep C) := by
  obtain ⟨T, ⟨fi, cShelf⟩, n1, n2, ZNoSheet, ZNoMoment⟩ := M
  have g_law_next : FnOk P w K mg base CX0 1 _ _ ["_law_src_here", "_law_base"] spNext := ok_law_next d_law_next.F T
  have g_law_line_by : FnOk P w K mg base CX0 2 _ _ ["_law_src_here", "_law_many"] spLine := ok_law_line_by d_law_line_by.F T d_law_next
  have g_law_items_of : FnOk P w K mg base CX0 1 _ _ ["_law_entries"] spItems := ok_law_items_of d_law_items_of.F T
  have gShelf_step : FnOk P w K mg base CX0 2 _ _ ["self", "changes"] (spShStep C) := ok_Shelf_step dShelf_step.F T cShelf n1 n2 dchanged dShelf_now
  refine F.ok sc_law_step (fun vs H Q E h => ?_) (fun cdv A outer s H vs Q E hr h => ?_)
  · obtain ⟨S, G, l, c, x, d, st, op, g, P, ops, rfl, _⟩ := h
    rfl
  obtain ⟨S, G, l, c, x, d, st, op, g, P, ops, rfl, W, lp, lo, k⟩ := h
  have hu5 : (A.deeper (PyProof.Rows.envOfC "_law_step" (defScope s_law_step) s.heap.objs.size f cdv)).units + 5 < cLine := by have z := hr.units; omega
  refine ⟨_, (pss_cons (ps_setG (N := ["_law_row"]) (i := 3) (compG (sc := defScope s_law_step) (NX := ["_law_src_here", "_law_shelf", "_law_past", "_law_rows", "_law_changes", "_law_sheet", "_law_k", "_law_handed", "_law_told", "_law_items"]) (jx := [none]) rfl rfl rfl (by decide +kernel) (by decide +kernel) rfl (by decide +kernel) rfl (by decide +kernel)) rfl sc_law_step.nd rfl rfl (pi_list (pe_ix ix_list (pv 2) (pe_un un_neg pe_int) (fun _ _ => rfl))) (fun _ _ _ _ _ _ => (pg_name (i := 0) (show List.Nodup (["_law_row"] : List Str) by decide +kernel) rfl (Or.inl rfl))) (fun _ _ _ _ _ _ => pts_nil) (fun _ _ _ _ _ _ => (pe_callTy callF_list rfl T.n_list PyProof.Rows.boot_list (pa_cons (pv 0) pa_nil))))
      (pss_cons (ps_set (i := 4) sc_law_step.nd rfl (Or.inl rfl) (pe_lst pa_nil))
      (pss_cons (ps_for PassesOwn.never rfl (pi_range1 rfl T.n_range (pa_cons (pe_callB call_len_seq rfl T.n_len PySem.boot_len (pa_cons (pv 3) pa_nil)) pa_nil)) (pg_name (i := 5) sc_law_step.nd rfl (Or.inl rfl))
      (pss_one (ps_if (pt_cmpR op_eq (pe_def d_law_next g_law_next hr (pa_cons (pv 0) (pa_cons pe_int pa_nil))) pe_int (nomark _))
      (pss_cons (ps_asg (pe_def d_law_line_by g_law_line_by hr (pa_cons (pv 0) (pa_cons (pe_callB call_len_seq rfl T.n_len PySem.boot_len (pa_cons (pv 3) pa_nil)) pa_nil))) (pg_sub (pv 3) (pv 5) set_list))
      (pss_one (ps_expr (pe_bm PySem.F.plainAttrs_list PySem.F.slot_list_append PySem.F.type_list_append mt_append (pv 4) (pa_cons (pe_tup (pa_cons (pv 5) (pa_cons (pe_def d_law_items_of g_law_items_of hr (pa_cons (pe_ix ix_list (pv 3) (pv 5) (fun _ _ => rfl)) pa_nil)) pa_nil))) pa_nil)))))
      pss_nil)))
      (pss_cons (ps_for PassesOwn.never rfl (pi_range1 rfl T.n_range (pa_cons (pe_def d_law_next g_law_next hr (pa_cons (pv 0) (pa_cons pe_int pa_nil))) pa_nil)) (pg_name (i := 6) sc_law_step.nd rfl (Or.inl rfl))
      (pss_cons (ps_expr (pe_bm PySem.F.plainAttrs_list PySem.F.slot_list_append PySem.F.type_list_append mt_append (pv 3) (pa_cons (pe_def d_law_line_by g_law_line_by hr (pa_cons (pv 0) (pa_cons (pe_callB call_len_seq rfl T.n_len PySem.boot_len (pa_cons (pv 3) pa_nil)) pa_nil))) pa_nil)))
      (pss_one (ps_expr (pe_bm PySem.F.plainAttrs_list PySem.F.slot_list_append PySem.F.type_list_append mt_append (pv 4) (pa_cons (pe_tup (pa_cons (pe_op op_sub (pe_callB call_len_seq rfl T.n_len PySem.boot_len (pa_cons (pv 3) pa_nil)) pe_int) (pa_cons (pe_def d_law_items_of g_law_items_of hr (pa_cons (pe_ix ix_list (pv 3) (pe_un un_neg pe_int) (fun _ _ => rfl)) pa_nil)) pa_nil))) pa_nil))))))
      (pss_cons (ps_imp (t' := stT) (ps_if (PW.pt (pw_and (pt_cmpR op_eq (pe_def d_law_next g_law_next hr (pa_cons (pv 0) (pa_cons pe_int pa_nil))) pe_int (nomark _)) (pw_and (pt_cmpR op_gt (pe_callB call_len_seq rfl T.n_len PySem.boot_len (pa_cons (pv 4) pa_nil)) pe_int (nomark _)) (pw_and1 (pt_cmpR op_lt (pe_ix ix_tup (pe_ix ix_list (pv 4) pe_int (fun _ _ => rfl)) pe_int (fun _ _ => rfl)) (pe_callB call_len_seq rfl T.n_len PySem.boot_len (pa_cons (pe_ix ix_list (pv 2) (pe_un un_neg pe_int) (fun _ _ => rfl)) pa_nil)) (nomark _))))))
      (pss_one (ps_set (i := 4) sc_law_step.nd rfl (Or.inl rfl) (pe_op op_cat (pe_slice sl_list (pv 4) (po_some pe_int) po_none) (pe_slice sl_list (pv 4) po_none (po_some pe_int)))))
      pss_nil) ?b4)
      (pss_cons (ps_setG (N := ["_law_sheet", "_law_items"]) (i := 7) (compG (sc := defScope s_law_step) (NX := ["_law_src_here", "_law_shelf", "_law_past", "_law_rows", "_law_changes", "_law_sheet", "_law_k", "_law_handed", "_law_told", "_law_items"]) (jx := [none, none]) rfl rfl rfl (by decide +kernel) (by decide +kernel) rfl (by decide +kernel) rfl (by decide +kernel)) rfl sc_law_step.nd rfl rfl (pi_list (pv 4)) (fun _ _ _ _ _ _ => (pgF_tup (n := 2) rfl (pgs_cons (pg_name (i := 0) (show List.Nodup (["_law_sheet", "_law_items"] : List Str) by decide +kernel) rfl (Or.inl rfl)) (pgs_cons (pg_name (i := 1) (show List.Nodup (["_law_sheet", "_law_items"] : List Str) by decide +kernel) rfl (Or.inl rfl)) pgs_nil)))) (fun _ _ _ _ _ _ => pts_nil) (fun _ _ _ _ _ _ => (pe_tup (pa_cons (pv 0) (pa_cons (pe_callTy callF_list rfl T.n_list PyProof.Rows.boot_list (pa_cons (pv 1) pa_nil)) pa_nil)))))
      (pss_cons (ps_set (i := 8) sc_law_step.nd rfl (Or.inl rfl) (pe_meth (pv 1) cShelf.cl dShelf_step.mt gShelf_step (hr.mono (by decide)) dShelf_step.b .nil pass0 (pa_cons (pv 7) pa_nil)))
      (pss_cons (ps_if (pt_cmpR (op_neE 5 hu5) (pv 7) (pv 4) (nomark _))
      (pss_one (ps_ret pe_bl))
      pss_nil)
      (pss_cons (ps_for PassesOwn.never rfl (pi_list (pv 7)) (pg_tup (n := 2) rfl (pgs_cons (pg_name (i := 5) sc_law_step.nd rfl (Or.inl rfl)) (pgs_cons (pg_name (i := 9) sc_law_step.nd rfl (Or.inl rfl)) pgs_nil)))
      (pss_one (ps_expr (pe_bm PySem.F.plainAttrs_list PySem.F.slot_list_append PySem.F.type_list_append mt_append (pv 9) (pa_cons (pe_tup (pa_cons pe_str (pa_cons pe_int (pa_cons pe_int pa_nil)))) pa_nil)))))
      (pss_cons (ps_expr (pe_bm PySem.F.plainAttrs_list PySem.F.slot_list_append PySem.F.type_list_append mt_append (pv 7) (pa_cons (pe_tup (pa_cons pe_int (pa_cons (pe_lst pa_nil) pa_nil))) pa_nil)))
      (pss_cons (ps_expr (pe_bm PySem.F.plainAttrs_list PySem.F.slot_list_append PySem.F.type_list_append mt_append (pv 2) (pa_cons (pv 3) pa_nil)))
      (pss_one (ps_ret (pe_cmp (pc_isN (pv 8)))))))))))))))), ?_⟩
  case b4 =>
    rintro D σ H ⟨s1, s3, s5, s6, l, c, g, a0, h, ts, chs, as, rs, rfl, S, hh, nhl, hg, ngl, ha, nal, a2, lt, k⟩
    have kA : ∀ H1, SrcOk H1 l c → (∀ a, a ≠ l → H1 a = H a) → D.nx [some (.ref l), s1, some (.ref g), s3, some (.ref h), s5, s6, none, none, none] H1 := fun H1 S1 k1 => k H1 h ts chs S1 (fun b ob e n => (k1 b n).trans e) ((k1 h nhl).trans hh) (.inl rfl) (.inl ⟨rfl, rfl⟩)
    refine ⟨_, rfl, l, c, 2, rfl, S, by decide, by decide, fun v H1 _ _ S1 k1 => ⟨rfl, _, rfl, ite2 (fun _ => ?_) (fun _ => kA H1 S1 k1)⟩⟩
    have h1 := (k1 h nhl).trans hh
    have g1 := (k1 g ngl).trans hg
    have a1 := (k1 a0 nal).trans ha
    refine ⟨_, rfl, h, _, rfl, .inl (SqL.of h1), _, _, rfl, rfl, _, rfl, ite2 (fun c2 => ?_) (fun _ => kA H1 S1 k1)⟩
    have l1 : (1 : Int) < ((ts.map V.ref).length : Nat) := of_decide_eq_true c2
    match ts, chs, a2 with
    | [], _, _ => simp at l1
    | t0 :: rest, c0 :: r, .cons ⟨ri, ht0⟩ _ =>
      obtain ⟨lv, hlv⟩ := S.lst
      have ht1 : H1 t0 = some (.tup [.int (c0.1 : Nat), .ref ri]) := (k1 t0 (ne_of ht0 hlv (by intro z; cases z))).trans ht0
      have hat : atI (as ++ [V.ref a0]) (-1) = some (.ref a0) := atI_neg1 _ _
      refine ⟨_, rfl, h, _, _, .ref t0, rfl, rfl, SqL.of h1, atI_nat (j := 0) rfl, t0, _, _, .int (c0.1 : Nat), rfl, rfl, SqT.of ht1, at20, _, rfl, _, rfl, g, _, _, .ref a0, rfl, rfl, SqL.of g1, hat, a0, _, rfl, .inl (SqL.of a1), _, _, rfl, rfl, _, rfl, ite2 (fun c3 => ?_) (fun _ => kA H1 S1 k1)⟩
      have c3' : ((c0.1 : Nat) : Int) < ((rs.length : Nat) : Int) := of_decide_eq_true c3
      refine ⟨_, rfl, _, rfl, h, _, rfl, SqL.of h1, fun p1 hp1 => ?_⟩
      rw [cut_backS _ (by decide)]
      have s2 : Same H1 (upd H1 p1 (.lst (rest.map V.ref))) := same_new hp1 _
      have p2 : (upd H1 p1 (.lst (rest.map V.ref))) p1 = some (.lst (rest.map V.ref)) := upd_same
      show tSl _ _ _ _ _ (upd H1 p1 (.lst (rest.map V.ref))) _
      generalize upd H1 p1 (.lst (rest.map V.ref)) = H2 at s2 p2
      refine ⟨_, rfl, _, rfl, h, _, rfl, SqL.of (s2 _ _ h1), fun p3 hp3 => ?_⟩
      rw [cut_frontS _ (by decide)]
      have s3' : Same H2 (upd H2 p3 (.lst [.ref t0])) := same_new hp3 _
      have p4 : (upd H2 p3 (.lst [.ref t0])) p3 = some (.lst [.ref t0]) := upd_same
      show rCat _ _ (upd H2 p3 (.lst [.ref t0])) _
      generalize upd H2 p3 (.lst [.ref t0]) = H3 at s3' p4
      refine ⟨p1, p3, _, _, rfl, rfl, s3' _ _ p2, p4, (by rw [List.length_map]; simp only [List.length_cons, List.length_nil] at lt ⊢; exact Nat.le_of_lt (million (by omega))), fun p5 hp5 => ?_⟩
      have f5 : H p5 = none := by
        have z1 : H1 p5 = none := free_same s2 (free_same s3' hp5)
        have z2 : p5 ≠ l := fun z => by
          obtain ⟨lv1, hlv1⟩ := S1.lst
          rw [z, hlv1] at z1; cases z1
        rw [← k1 p5 z2]
        exact z1
      have s14 := s2.trans (s3'.trans (same_new hp5 (.lst (rest.map V.ref ++ [.ref t0]))))
      exact k _ p5 (rest ++ [t0]) (r ++ [c0]) (S1.same s14) (fun b ob e n => s14 _ _ ((k1 b n).trans e)) (by rw [upd_same, List.map_append]; rfl) (.inr f5) (.inr ⟨t0, rest, c0, r, rfl, rfl, rfl, rfl, by omega⟩)
  obtain ⟨last', hl', _, ol⟩ := W.sh.lastE
  obtain ⟨last, hl, rfl⟩ : ∃ last, P.getLast? = some last ∧ last' = last.map itemsOf := by
    unfold itm at hl'
    rw [List.getLast?_map] at hl'
    obtain ⟨z, e, rfl⟩ := Option.map_eq_some_iff.mp hl'
    exact ⟨z, e, rfl⟩
  rw [List.length_map] at ol
  obtain ⟨as, a, hg, ⟨Ga, na, rs, ha, ar⟩⟩ := W.pa.last hl
  have hat : atI (as ++ [V.ref a]) (-1) = some (.ref a) := atI_neg1 _ _
  have lr := ar.len
  have hl0 := W.src.has
  -- the rows, copied
  refine ⟨_, rfl, _, rfl, g, _, _, .ref a, rfl, rfl, SqL.of hg, hat, a, rfl, ⟨_, SqL.of ha⟩, fun r hr0 => compF_list (K := K) (a := a) (xs := rs.map V.ref) (fun j σ H1 => ∃ (u : Option V) (qs : List Addr), σ = [u] ∧ H1 r = some (.lst (qs.map V.ref)) ∧ Same H H1 ∧ All2 (fun q es => H q = none ∧ q ≠ r ∧ H1 q = some (.lst (es.map V.int)) ∧ es.length ≤ 10) qs (last.take j)) ⟨none, [], rfl, upd_same, same_new hr0 _, by rw [List.take_zero]; exact .nil⟩ (fun j σ H1 _ ⟨_, _, _, _, s, _⟩ => SqL.of (s _ _ ha)) ?_ ?_⟩
  · rintro j y σ H1 hj ⟨u, qs, rfl, hr1, s1, aq⟩
    rw [List.getElem?_map] at hj
    obtain ⟨ri, eri, rfl⟩ := Option.map_eq_some_iff.mp hj
    obtain ⟨es, ees, _, _, hc, le⟩ := ar.get eri
    refine ⟨_, rfl, ri, _, rfl, .inl (SqL.of (s1 _ _ hc)), fun z hz => ⟨_, same_new hz _ _ _ hr1, ?_, _, qs ++ [z], rfl, ?_, ?_, ?_⟩⟩
    · have := aq.len
      rw [List.length_take] at this
      rw [List.length_map]
      exact million (by omega)
    · rw [upd_same, List.map_append]
      rfl
    · intro q ob e
      rw [upd_ne (ne_of_none e hr0)]
      exact same_new hz _ _ _ (s1 _ _ e)
    · have nza : z ≠ r := (ne_of_none hr1 hz).symm
      rw [take_snoc ees]
      exact All2.snoc (aq.mono fun q es ⟨h1, h2, h3, h4⟩ => ⟨h1, h2, (by rw [upd_ne h2]; exact same_new hz _ _ _ h3), h4⟩) ⟨free_same s1 hz, nza, (by rw [upd_ne nza]; exact upd_same), le⟩
  rintro σ H1 ⟨u, qs, rfl, hr1, s1, aq⟩
  rw [List.length_map, lr, List.take_length] at aq
  -- the changes, none yet
  refine ⟨(by show 0 ≤ sizeLine; decide), fun h hh0 => ?_⟩
  have s2 : Same H1 (upd H1 h (.lst [])) := same_new hh0 _
  have h2 : (upd H1 h (.lst [])) h = some (.lst []) := upd_same
  generalize upd H1 h (.lst []) = H2 at s2 h2
  have s02 := s1.trans s2
  have B2 : Bd H H2 l c r h qs [] last [] := ⟨W.src.same s02, fun b ob e _ => s02 _ _ e, s2 _ _ hr1, h2, aq.mono fun q es ⟨h1, h2', h3, h4⟩ => ⟨h1, h2', ne_of_none h3 hh0, s2 _ _ h3, h4⟩, .nil, hr0, free_same s1 hh0, ne_of_none hr1 hh0, hl0⟩
  have lq := aq.len
  have M0 : Mx last last [] 0 := ⟨rfl, fun i ch e => (by cases i <;> cases e), fun ch hc => (by cases hc), List.nodup_nil⟩
  refine ⟨_, rfl, r, _, rfl, .inl (SqL.of B2.hr), _, rfl, by rw [List.length_map]; omega, by rw [List.length_map]; omega, for_range (lo := 0) (n := (((qs.map V.ref).length : Nat) : Int).toNat) (fun i σ H3 => ∃ (u5 : Option V) (ls ts : List Addr) (rows : List (List Int)) (chs : List (Nat × List Item)), σ = [some (.ref l), some (.ref x), some (.ref g), some (.ref r), some (.ref h), u5, none, none, none, none] ∧ Bd H H3 l c r h ls ts rows chs ∧ Mx last rows chs i ∧ rows.length = last.length ∧ chs.length ≤ i) ⟨none, qs, [], last, [], rfl, B2, M0, rfl, Nat.le_refl _⟩ ?_ ?_⟩
  · rintro i σ H3 hi ⟨u5, ls, ts, rows, chs, rfl, B3, M3, lrows, lchs⟩
    have il : i < last.length := by rw [List.length_map] at hi; omega
    have lls := B3.ln.len
    refine ⟨_, rfl, l, c, 3, rfl, B3.src, by decide, by decide, fun v H4 _ _ S4 k4 => ⟨rfl, _, rfl, ite2 (fun _ => ?_) (fun _ => ?_)⟩⟩
    case _ =>
      have B4 := B3.mv (fun b ob e n => (k4 b n).trans e) S4
      refine ⟨_, rfl, _, rfl, r, _, rfl, .inl (SqL.of B4.hr), l, c, _, rfl, B4.src, by rw [List.length_map]; omega, fun q es H5 hq le S5 K5 fq nql nqc => ?_⟩
      have B5 := B4.mv K5 S5
      have f0 : ∀ b, H4 b = none → H b = none := fun b hb => by
        cases e : H b with
        | none => rfl
        | some ob =>
          by_cases z : b = l
          · obtain ⟨lv, hlv⟩ := S4.lst
            rw [z, hlv] at hb; cases hb
          · rw [B4.kp _ _ e z] at hb; cases hb
      have hj : ixN (ls.map V.ref).length ((0 : Int) + (i : Nat)) = some i := by
        unfold ixN
        rw [if_pos (by omega), if_pos (by rw [List.length_map]; omega)]
        simp
      refine ⟨_, rfl, _, rfl, r, _, _, i, rfl, rfl, B5.hr, hj, ?_⟩
      have k6 : Keep r H5 (upd H5 r (.lst ((ls.map V.ref).set i (.ref q)))) := keep_upd r _ _
      have r6 : (upd H5 r (.lst ((ls.map V.ref).set i (.ref q)))) r = some (.lst ((ls.set i q).map V.ref)) := by rw [upd_same, List.map_set]
      generalize upd H5 r (.lst ((ls.map V.ref).set i (.ref q))) = H6 at k6 r6
      have nqr : q ≠ r := (ne_of_none B4.hr fq).symm
      have nqh : q ≠ h := (ne_of_none B4.hh fq).symm
      have q6 := k6 _ _ hq nqr
      have B6 := B5.rws k6 r6 ((B5.ln.mono fun q es z => z.fr (fun a ob e _ n _ => k6 _ _ e n)).set i (⟨f0 q fq, nqr, nqh, q6, le⟩ : LN H H6 r h q es))
      have hat6 : atI ((ls.set i q).map V.ref) ((0 : Int) + (i : Nat)) = some (.ref q) := by
        rw [Int.zero_add]
        exact atI_nat (by rw [List.getElem?_map, List.getElem?_set_self (by omega)]; rfl)
      refine ⟨_, rfl, .inl ⟨rfl, _, SqL.of B6.hh⟩, _, rfl, _, rfl, _, rfl, r, _, _, .ref q, rfl, rfl, SqL.of B6.hr, hat6, q, es, rfl, q6, by omega, fun o H7 io s7 fo => ⟨(by show 2 ≤ sizeLine; decide), fun t ht => ?_⟩⟩
      have B7 := B6.same s7
      have s8 : Same H7 (upd H7 t (.tup [.int ((0 : Int) + (i : Nat)), .ref o])) := same_new ht _
      have t8 : (upd H7 t (.tup [.int ((0 : Int) + (i : Nat)), .ref o])) t = some (.tup [.int ((0 : Int) + (i : Nat)), .ref o]) := upd_same
      generalize upd H7 t (.tup [.int ((0 : Int) + (i : Nat)), .ref o]) = H8 at s8 t8
      rw [Int.zero_add] at t8
      have B8 := B7.same s8
      have lts := B8.ca.len
      have f6 : ∀ b, H6 b = none → H b = none := fun b hb => by
        cases e : H b with
        | none => rfl
        | some ob =>
          by_cases z : b = l
          · obtain ⟨lv, hlv⟩ := B6.src.lst
            rw [z, hlv] at hb; cases hb
          · rw [B6.kp _ _ e z] at hb; cases hb
      refine ⟨h, _, _, rfl, rfl, B8.hh, (by rw [List.length_map]; exact million (by omega)), _, ls.set i q, ts ++ [t], rows.set i es, chs ++ [(i, itemsOf es)], rfl, ?_, M3.set es (by omega), by rw [List.length_set]; exact lrows, by rw [List.length_append]; simp only [List.length_singleton]; omega⟩
      exact B8.more t8 (io.same s8) (ne_of_none B6.hr fo).symm (ne_of_none B6.hh fo).symm (f6 o fo) (Nat.le_trans (itemsOf_le es) (by omega))
    case _ =>
      exact ⟨_, ls, ts, rows, chs, rfl, B3.mv (fun b ob e n => (k4 b n).trans e) S4, M3.mono (Nat.le_succ _), lrows, by omega⟩
  rintro σ H3 ⟨u5, ls, ts, rows, chs, rfl, B3, M3, lrows, lchs⟩
  rw [List.length_map, lq, Int.toNat_natCast] at M3 lchs
  have M3' : Mx last rows chs rows.length := by rw [lrows]; exact M3
  have free : ∀ {H' : Hp} {ls ts : List Addr} {rows : List (List Int)} {chs : List (Nat × List Item)}, Bd H H' l c r h ls ts rows chs → ∀ b, H' b = none → H b = none := fun {H' ls ts rows chs} B b hb => by
    cases e : H b with
    | none => rfl
    | some ob =>
      by_cases z : b = l
      · obtain ⟨lv, hlv⟩ := B.src.lst
        rw [z, hlv] at hb; cases hb
      · rw [B.kp _ _ e z] at hb; cases hb
  refine ⟨_, rfl, l, c, 3, rfl, B3.src, by decide, by decide, fun n H4 n0 n1' S4 k4 => ⟨n, rfl, by omega, by omega, ?_⟩⟩
  have B4 := B3.mv (fun b ob e n => (k4 b n).trans e) S4
  refine for_range (lo := 0) (n := n.toNat) (fun i σ H5 => ∃ (u5 u6 : Option V) (ls ts : List Addr) (rows : List (List Int)) (chs : List (Nat × List Item)), σ = [some (.ref l), some (.ref x), some (.ref g), some (.ref r), some (.ref h), u5, u6, none, none, none] ∧ Bd H H5 l c r h ls ts rows chs ∧ Mx last rows chs rows.length ∧ rows.length = last.length + i ∧ chs.length ≤ last.length + i) ⟨_, none, ls, ts, rows, chs, rfl, B4, M3', lrows, by omega⟩ ?_ ?_
  · rintro i σ H5 hi ⟨u5, u6, ls, ts, rows, chs, rfl, B5, M5, lrows, lchs⟩
    have lls := B5.ln.len
    refine ⟨_, rfl, .inl ⟨rfl, _, SqL.of B5.hr⟩, _, rfl, _, rfl, r, _, rfl, .inl (SqL.of B5.hr), l, c, _, rfl, B5.src, by rw [List.length_map]; omega, fun q es H6 hq le S6 K6 fq nql nqc => ?_⟩
    have B6 := B5.mv K6 S6
    refine ⟨r, _, _, rfl, rfl, B6.hr, (by rw [List.length_map]; exact million (by omega)), ?_⟩
    have k7 : Keep r H6 (upd H6 r (.lst (ls.map V.ref ++ [.ref q]))) := keep_upd r _ _
    have r7 : (upd H6 r (.lst (ls.map V.ref ++ [.ref q]))) r = some (.lst ((ls ++ [q]).map V.ref)) := by rw [upd_same, List.map_append]; rfl
    generalize upd H6 r (.lst (ls.map V.ref ++ [.ref q])) = H7 at k7 r7
    have nqr : q ≠ r := (ne_of_none B5.hr fq).symm
    have nqh : q ≠ h := (ne_of_none B5.hh fq).symm
    have q7 := k7 _ _ hq nqr
    have B7 := B6.rws k7 r7 ((B6.ln.mono fun q es z => z.fr (fun a ob e _ n _ => k7 _ _ e n)).snoc (⟨free B5 q fq, nqr, nqh, q7, le⟩ : LN H H7 r h q es))
    have hat7 : atI ((ls ++ [q]).map V.ref) (-1) = some (.ref q) := by rw [List.map_append]; exact atI_neg1 _ _
    refine ⟨_, rfl, .inl ⟨rfl, _, SqL.of B7.hh⟩, _, rfl, r, _, rfl, .inl (SqL.of B7.hr), _, _, rfl, rfl, _, rfl, _, rfl, r, _, _, .ref q, rfl, rfl, SqL.of B7.hr, hat7, q, es, rfl, q7, by omega, fun o H8 io s8 fo => ⟨(by show 2 ≤ sizeLine; decide), fun t ht => ?_⟩⟩
    have en : (((((ls ++ [q]).map V.ref).length : Nat) : Int) - 1) = ((rows.length : Nat) : Int) := by rw [List.length_map, List.length_append, lls]; simp only [List.length_singleton]; omega
    have en' : (fun i j : Int => V.int (i - j)) (((ls ++ [q]).map V.ref).length : Nat) 1 = V.int (rows.length : Nat) := by show V.int _ = _; rw [en]
    rw [en']
    have B8 := B7.same s8
    have s9 : Same H8 (upd H8 t (.tup [.int (rows.length : Nat), .ref o])) := same_new ht _
    have t9 : (upd H8 t (.tup [.int (rows.length : Nat), .ref o])) t = some (.tup [.int (rows.length : Nat), .ref o]) := upd_same
    generalize upd H8 t (.tup [.int (rows.length : Nat), .ref o]) = H9 at s9 t9
    have B9 := B8.same s9
    have lts := B9.ca.len
    refine ⟨h, _, _, rfl, rfl, B9.hh, (by rw [List.length_map]; exact million (by omega)), _, _, ls ++ [q], ts ++ [t], rows ++ [es], chs ++ [(rows.length, itemsOf es)], rfl, B9.more t9 (io.same s9) (ne_of_none B7.hr fo).symm (ne_of_none B7.hh fo).symm (free B7 o fo) (Nat.le_trans (itemsOf_le es) (by omega)), ?_, by rw [List.length_append]; simp only [List.length_singleton]; omega, by rw [List.length_append]; simp only [List.length_singleton]; omega⟩
    have := M5.push es
    rw [show rows.length + 1 = (rows ++ [es]).length by rw [List.length_append]; rfl] at this
    exact this
  clear B3 M3 M3' lrows lchs B4 k4 S4
  rintro σ H5 ⟨u5, u6, ls, ts, rows, chs, rfl, B5, M5, lrows, lchs⟩
  have ngl : g ≠ l := fun z => W.nl.2.2.1 (by rw [← z]; exact W.pa.own)
  have nal : a ≠ l := fun z => W.nl.2.2.1 (by rw [← z]; exact Ga)
  have lts := B5.ca.len
  have g5 := B5.kp _ _ hg ngl
  have a5 := B5.kp _ _ ha nal
  refine ⟨_, _, _, _, l, c, g, a, h, ts, chs, _, _, rfl, B5.src, B5.hh, (B5.nel B5.fh).1, g5, ngl, a5, nal, B5.ca.mono (fun t ch ⟨ri, e, _⟩ => ⟨ri, e⟩), by omega, fun H6 h' ts' chs' S6 K6 hh6 fh' alt => ?_⟩
  have B6 := B5.mv K6 S6
  rw [List.length_map, lr] at alt
  obtain ⟨ca6, eq6, ok6, lc6⟩ : All2 (CA H H6 r h) ts' chs' ∧ rows.map itemsOf = apCh (last.map itemsOf) chs' ∧ okCh (last.map itemsOf) chs' ∧ chs'.length = chs.length := by
    rcases alt with ⟨rfl, rfl⟩ | ⟨t0, rest, c0, rr, rfl, rfl, rfl, rfl, lt⟩
    · exact ⟨B6.ca, M5.eq, M5.ok, rfl⟩
    · have z := B6.ca
      cases z with
      | cons z1 z2 =>
        obtain ⟨m1, m2⟩ := M5.rot lt
        exact ⟨z2.snoc z1, m1, m2, by simp⟩
  clear alt
  have lts6 := ca6.len
  -- the changes, handed as copies
  refine ⟨_, rfl, h', rfl, ⟨_, SqL.of hh6⟩, fun hd hhd => compF_list (K := K) (a := h') (xs := ts'.map V.ref) (fun j σ H7 => ∃ (u w : Option V) (ds : List Addr), σ = [u, w] ∧ H7 hd = some (.lst (ds.map V.ref)) ∧ Same H6 H7 ∧ All2 (HD H6 H7 hd) ds (chs'.take j)) ⟨none, none, [], rfl, upd_same, same_new hhd _, by rw [List.take_zero]; exact .nil⟩ (fun j σ H7 _ ⟨_, _, _, _, _, s, _⟩ => SqL.of (s _ _ hh6)) ?_ ?_⟩
  · rintro j y σ H7 hj ⟨u, w, ds, rfl, hd7, s7, aq⟩
    rw [List.getElem?_map] at hj
    obtain ⟨t, et, rfl⟩ := Option.map_eq_some_iff.mp hj
    obtain ⟨ch, ech, ri, ht, hi, _, _, _, lch⟩ := ca6.get et
    obtain ⟨b, vs, eb, hb, itb⟩ := hi
    cases eb
    refine ⟨t, _, rfl, SqT.of (s7 _ _ ht), rfl, _, _, rfl, _, _, rfl, rfl, ?_⟩
    refine ⟨_, rfl, _, rfl, ri, _, rfl, .inl (SqL.of (s7 _ _ hb)), fun z hz => ⟨(by show 2 ≤ sizeLine; decide), fun t2 ht2 => ?_⟩⟩
    have s8 : Same H7 (upd H7 z (.lst vs)) := same_new hz _
    have z8 : (upd H7 z (.lst vs)) z = some (.lst vs) := upd_same
    generalize upd H7 z (.lst vs) = H8 at s8 z8 ht2
    have s9 : Same H8 (upd H8 t2 (.tup [.int (ch.1 : Nat), .ref z])) := same_new ht2 _
    have t9 : (upd H8 t2 (.tup [.int (ch.1 : Nat), .ref z])) t2 = some (.tup [.int (ch.1 : Nat), .ref z]) := upd_same
    generalize upd H8 t2 (.tup [.int (ch.1 : Nat), .ref z]) = H9 at s9 t9
    have s79 := s8.trans s9
    have ld := aq.len
    rw [List.length_take] at ld
    have nzd : z ≠ hd := (ne_of_none hd7 hz).symm
    have fr : ∀ q ob, H9 q = some ob → q ≠ hd → (upd H9 hd (.lst (ds.map V.ref ++ [.ref t2]))) q = some ob := fun q ob e n => by rw [upd_ne n]; exact e
    have tu : ∀ q xs, H9 q = some (.tup xs) → (upd H9 hd (.lst (ds.map V.ref ++ [.ref t2]))) q = some (.tup xs) := fun q xs e => fr _ _ e (ne_of e (s79 _ _ hd7) (by intro w; cases w))
    refine ⟨_, s79 _ _ hd7, (by rw [List.length_map]; exact million (by omega)), _, _, ds ++ [t2], rfl, by rw [upd_same, List.map_append]; rfl, fun q ob e => ?_, ?_⟩
    · exact fr _ _ (s79 _ _ (s7 _ _ e)) (ne_of_none e hhd)
    · rw [take_snoc ech]
      refine All2.snoc (aq.mono fun t ch ⟨ri, h1, h2, h3, h4, h5⟩ => ⟨ri, tu _ _ (s79 _ _ h1), (h2.same s79).fr (fun xs e => fr _ _ e h4) tu, h3, h4, h5⟩) ⟨z, tu _ _ t9, ⟨z, vs, rfl, fr _ _ (s9 _ _ z8) nzd, itb.mono fun v it ⟨q, e, hq⟩ => ⟨q, e, tu _ _ (s79 _ _ (s7 _ _ hq))⟩⟩, free_same s7 hz, nzd, lch⟩
  rintro σ H7 ⟨u, w', ds, rfl, hd7, s7, aq⟩
  rw [List.length_map, lts6, List.take_length] at aq
  have B7 := B6.same s7
  obtain ⟨lv, hlv⟩ := W.src.lst
  have sh7 := W.sh.keep hlv W.nl.1 B7.kp
  -- the step
  have lens := apCh_len ok6 chs'.length (Nat.le_refl _)
  rw [List.take_length, List.length_map] at lens
  refine ⟨_, rfl, x, d, _, rfl, sh7.hx, rfl, _, rfl, S, x, d, st, op, hd, itm P, ops, ds, chs', last.map itemsOf, rfl, sh7, hd7, aq.mono (fun t ch ⟨ri, h1, h2, _⟩ => ⟨ri, h1, h2⟩), hl', ok6, by omega, by rw [List.length_map]; omega, by unfold itm; rw [List.length_map]; omega, fun S' H8 sh8 sub8 fr8 tu8 => ?_⟩
  have nS : ∀ b, H b = none → ¬ S b := fun b hb z => by
    obtain ⟨ob, e⟩ := W.sh.al b z
    rw [e] at hb; cases hb
  have f6 : ∀ b, H6 b = none → H b = none := free B6
  have fhd : H hd = none := f6 hd hhd
  have fh0 : H h' = none := by
    rcases fh' with rfl | z
    · exact B5.fh
    · exact free B5 _ z
  have hd8 := fr8 _ _ hd7 (nS hd fhd)
  have hh8 := fr8 _ _ (s7 _ _ hh6) (nS h' fh0)
  have hd2 : All2 (HD H6 H8 hd) ds chs' := aq.mono fun t ch ⟨ri, h1, h2, h3, h4, h5⟩ => ⟨ri, tu8 _ _ h1, h2.fr (fun xs e => fr8 _ _ e (nS _ (f6 _ h3))) tu8, h3, h4, h5⟩
  have ca8 : All2 (CA H H8 r h) ts' chs' := ca6.mono fun t ch ⟨ri, h1, h2, n1, n2, f, le⟩ => ⟨ri, tu8 _ _ (s7 _ _ h1), (h2.same s7).fr (fun xs e => fr8 _ _ e (nS _ f)) tu8, n1, n2, f, le⟩
  have ev : Eqv H8 5 (.ref hd) (.ref h') := by
    refine .inr ⟨true, hd, h', _, _, rfl, rfl, hd8, hh8, by rw [List.length_map, List.length_map, hd2.len, ca8.len], fun i u v eu ev => ?_⟩
    rw [List.getElem?_map] at eu ev
    obtain ⟨t, et, rfl⟩ := Option.map_eq_some_iff.mp eu
    obtain ⟨t', et', rfl⟩ := Option.map_eq_some_iff.mp ev
    obtain ⟨ch, ech, ri, h1, h2, _⟩ := hd2.get et
    obtain ⟨ch', ech', ri', h1', h2', _⟩ := ca8.get et'
    rw [ech] at ech'
    cases ech'
    refine .inr ⟨false, t, t', _, _, rfl, rfl, h1, h1', rfl, fun k u v e1 e2 => ?_⟩
    match k, e1, e2 with
    | 0, e1, e2 => cases e1; cases e2; exact Eqv.int _
    | 1, e1, e2 => cases e1; cases e2; exact h2.eqv 0 h2'
    | k + 2, e1, _ => cases e1
  refine ⟨_, rfl, _, rfl, hd, h', _, _, rfl, rfl, hd8, hh8, ev, _, rfl, iteF ?_⟩
  -- the handed lists are changed
  let Dd : Addr → Prop := fun q => H6 q = none ∧ (∃ vs, H7 q = some (.lst vs)) ∧ q ≠ hd
  have ntD : ∀ q xs, H8 q = some (.tup xs) → ¬ Dd q := fun q xs e ⟨z1, ⟨vs, z2⟩, _⟩ => by
    rw [fr8 _ _ z2 (nS _ (f6 _ z1))] at e
    cases e
  refine ⟨_, rfl, hd, rfl, ⟨_, SqL.of hd8⟩, for_list (K := K) (a := hd) (xs := ds.map V.ref) (fun i σ H9 => ∃ (u5 u9 : Option V), σ = [some (.ref l), some (.ref x), some (.ref g), some (.ref r), some (.ref h'), u5, u6, some (.ref hd), some .non, u9] ∧ (∀ q ob, H8 q = some ob → ¬ Dd q → H9 q = some ob) ∧ (∀ t ∈ ds, ∃ (s : Int) (ri : Addr) (vs : List V), H9 t = some (.tup [.int s, .ref ri]) ∧ Dd ri ∧ H9 ri = some (.lst vs) ∧ vs.length ≤ 20 + i)) ⟨_, none, rfl, fun _ _ e _ => e, fun t ht => ?_⟩ (fun i σ H9 _ ⟨_, _, _, k9, _⟩ => SqL.of (k9 _ _ hd8 (fun z => z.2.2 rfl))) ?_ ?_⟩
  · obtain ⟨i, hi⟩ := List.getElem?_of_mem ht
    obtain ⟨ch, ech, ri, h1, h2, h3, h4, h5⟩ := hd2.get hi
    obtain ⟨b, vs, eb, hb, itb⟩ := h2
    cases eb
    obtain ⟨ch', ech', ri', h1', h2', _⟩ := aq.get hi
    obtain ⟨b', vs', eb', hb', _⟩ := h2'
    cases eb'
    have er : ri' = ri := by
      have z := tu8 _ _ h1'
      rw [h1] at z
      have z2 := HO.tup.inj (Option.some.inj z)
      injection z2 with z3 z4
      injection z4 with z5 z6
      cases z5
      rfl
    subst er
    exact ⟨_, ri', vs, h1, ⟨h3, ⟨vs', hb'⟩, h4⟩, hb, by rw [itb.len]; omega⟩
  · rintro i y σ H9 hi ⟨u5, u9, rfl, k9, a9⟩
    rw [List.getElem?_map] at hi
    obtain ⟨t, et, rfl⟩ := Option.map_eq_some_iff.mp hi
    have il := (List.getElem?_eq_some_iff.mp et).1
    have lds := hd2.len
    obtain ⟨s', ri, vs, ht, dri, hri, lvs⟩ := a9 t (List.mem_of_getElem? et)
    refine ⟨t, _, rfl, SqT.of ht, rfl, _, _, rfl, _, _, rfl, rfl, ?_⟩
    refine ⟨_, rfl, .inl ⟨rfl, _, SqL.of hri⟩, (by show 3 ≤ sizeLine; decide), fun z hz => ⟨ri, _, _, rfl, rfl, same_new hz _ _ _ hri, million (by omega), _, _, rfl, fun q ob e n => ?_, fun t' ht' => ?_⟩⟩
    · rw [upd_ne (fun w => n (by rw [w]; exact dri))]
      exact same_new hz _ _ _ (k9 _ _ e n)
    · obtain ⟨s2, ri2, vs2, h1, h2, h3, h4⟩ := a9 t' ht'
      by_cases e : ri2 = ri
      · subst e
        rw [hri] at h3
        cases h3
        exact ⟨s2, ri2, _, (by rw [upd_ne (ne_of h1 hri (by intro w; cases w))]; exact same_new hz _ _ _ h1), h2, upd_same, by rw [List.length_append]; simp only [List.length_singleton]; omega⟩
      · exact ⟨s2, ri2, vs2, (by rw [upd_ne (ne_of h1 hri (by intro w; cases w))]; exact same_new hz _ _ _ h1), h2, (by rw [upd_ne e]; exact same_new hz _ _ _ h3), by omega⟩
  rintro σ H9 ⟨u5', u9, rfl, k9, a9⟩
  have hd9 := k9 _ _ hd8 (fun z => z.2.2 rfl)
  have lds := hd2.len
  refine ⟨_, rfl, .inl ⟨rfl, _, SqL.of hd9⟩, (by show 0 ≤ sizeLine; decide), fun z hz => ⟨(by show 2 ≤ sizeLine; decide), fun t ht => ?_⟩⟩
  have s10 : Same H9 (upd (upd H9 z (.lst [])) t (.tup [.int 0, .ref z])) := (same_new hz _).trans (same_new ht _)
  generalize upd (upd H9 z (.lst [])) t (.tup [.int 0, .ref z]) = H10 at s10
  refine ⟨hd, _, _, rfl, rfl, s10 _ _ hd9, (by rw [List.length_map]; exact million (by omega)), ?_⟩
  have k11 : Keep hd H10 (upd H10 hd (.lst (ds.map V.ref ++ [.ref t]))) := keep_upd hd _ _
  generalize upd H10 hd (.lst (ds.map V.ref ++ [.ref t])) = H11 at k11
  have k8 : ∀ q ob, H8 q = some ob → ¬ Dd q → q ≠ hd → H11 q = some ob := fun q ob e n m => k11 _ _ (s10 _ _ (k9 _ _ e n)) m
  -- whatever stood at H6 and is not the shelf's
  have k6 : ∀ q ob, H6 q = some ob → ¬ S q → H11 q = some ob := fun q ob e n => k8 _ _ (fr8 _ _ (s7 _ _ e) n) (fun z => by rw [z.1] at e; cases e) (ne_of_none e hhd)
  have g6 := B6.kp _ _ hg ngl
  have nSg : ¬ S g := fun z => W.dj g z W.pa.own
  have g11 := k6 _ _ g6 nSg
  obtain ⟨as0, hg0, pa2⟩ := id W.pa.at'
  have eas : as ++ [V.ref a] = as0.map V.ref := by
    rw [hg] at hg0
    exact HO.lst.inj (Option.some.inj hg0)
  rw [eas] at g11
  have la0 := pa2.len
  refine ⟨_, rfl, .inl ⟨rfl, _, SqL.of g11⟩, _, rfl, g, _, _, rfl, rfl, g11, (by rw [List.length_map]; exact million (by omega)), ?_⟩
  have k12 : Keep g H11 (upd H11 g (.lst (as0.map V.ref ++ [.ref r]))) := keep_upd g _ _
  have g12 : (upd H11 g (.lst (as0.map V.ref ++ [.ref r]))) g = some (.lst ((as0 ++ [r]).map V.ref)) := by rw [upd_same, List.map_append]; rfl
  generalize upd H11 g (.lst (as0.map V.ref ++ [.ref r])) = H12 at k12 g12
  have k612 : ∀ q ob, H6 q = some ob → ¬ S q → q ≠ g → H12 q = some ob := fun q ob e n m => k12 _ _ (k6 _ _ e n) m
  have k812 : ∀ q ob, H8 q = some ob → ¬ Dd q → q ≠ hd → q ≠ g → H12 q = some ob := fun q ob e n m m2 => k12 _ _ (k8 _ _ e n m) m2
  have g8 : ∃ xs, H8 g = some (.lst xs) := ⟨_, fr8 _ _ (s7 _ _ g6) nSg⟩
  have t812 : ∀ q xs, H8 q = some (.tup xs) → H12 q = some (.tup xs) := fun q xs e => by
    obtain ⟨gs, hgs⟩ := g8
    exact k812 _ _ e (ntD _ _ e) (ne_of e hd8 (by intro w; cases w)) (ne_of e hgs (by intro w; cases w))
  have tH : ∀ q xs, H q = some (.tup xs) → H6 q = some (.tup xs) := fun q xs e => B6.kp _ _ e (ne_of e hlv (by intro w; cases w))
  have al7 : ∀ q ob, H q = some ob → ∃ ob', H7 q = some ob' := fun q ob e => by
    by_cases z : q = l
    · obtain ⟨l7, hl7⟩ := B7.src.lst
      rw [z]; exact ⟨_, hl7⟩
    · exact ⟨_, B7.kp _ _ e z⟩
  have ngr : r ≠ g := (ne_of_none hg B6.fr).symm
  let G' : Addr → Prop := fun q => G q ∨ q = r ∨ q ∈ ls
  have lnG : ∀ q, q ∈ ls → H q = none ∧ ∃ ob, H6 q = some ob := fun q hq => by
    obtain ⟨i, hi⟩ := List.getElem?_of_mem hq
    obtain ⟨es, _, f, _, _, e, _⟩ := B6.ln.get hi
    exact ⟨f, _, e⟩
  have kG : ∀ q ob, H q = some ob → G q → q ≠ g → H12 q = some ob := fun q ob e z m => k612 _ _ (B6.kp _ _ e (fun w => W.nl.2.2.1 (by rw [← w]; exact z))) (fun w => W.dj q w z) m
  have S6' := B6.src
  have S12 : SrcOk H12 l c := by
    obtain ⟨n', ns', i', d', r', e1, e2, h3⟩ := S6'
    exact ⟨n', ns', i', d', r', k612 _ _ e1 W.nl.1 ngl.symm, k612 _ _ e2 W.nl.2.1 (fun w => W.nl.2.2.2 (by rw [w]; exact W.pa.own)), h3⟩
  have nS' : ∀ q, ¬ S q → (∃ ob, H7 q = some ob) → ¬ S' q := fun q n ⟨ob, e⟩ z => by
    rcases sub8 q z with w | w
    · exact n w
    · rw [e] at w; cases w
  have sh12 : Sh C S' H12 x d st op (itm (P ++ [rows])) (ops ++ List.replicate ((apCh (last.map itemsOf) chs').length - (last.map itemsOf).length) (((itm P).length : Nat) : Int)) := by
    have e : itm (P ++ [rows]) = itm P ++ [apCh (last.map itemsOf) chs'] := by
      unfold itm
      rw [List.map_append, ← eq6]
      rfl
    rw [e]
    refine sh8.fr (fun q ob e z => k812 _ _ e (fun w => ?_) (fun w => ?_) (fun w => ?_)) t812
    · obtain ⟨z1, ⟨vs, z2⟩, _⟩ := w
      exact nS' q (nS _ (f6 _ z1)) ⟨_, z2⟩ z
    · exact nS' q (by rw [w]; exact nS _ fhd) (by rw [w]; exact ⟨_, hd7⟩) z
    · exact nS' q (by rw [w]; exact nSg) (by rw [w]; exact ⟨_, s7 _ _ g6⟩) z
  have le8 : (rows.map itemsOf).length = (apCh (last.map itemsOf) chs').length := by rw [eq6]
  rw [List.length_map] at le8
  refine ⟨_, rfl, k S' G' rows _ H12 ⟨S12, sh12, ⟨.inl W.pa.own, fun q z => ?_, as0 ++ [r], g12, ?_⟩, fun q z w => ?_, ⟨nS' l W.nl.1 (al7 _ _ hlv), ?_, fun z => ?_, fun z => ?_⟩, ?_, ?_⟩ ?_ (fun q z => ?_) (fun q z => ?_) (fun q ob e n m m2 => ?_) (fun q xs e => ?_)⟩
  · rcases z with z | rfl | z
    · by_cases w : q = g
      · rw [w]; exact ⟨_, g12⟩
      · obtain ⟨ob, e⟩ := W.pa.al q z
        exact ⟨ob, kG _ _ e z w⟩
    · exact ⟨_, k612 _ _ B6.hr (nS _ B6.fr) ngr⟩
    · obtain ⟨f, ob, e⟩ := lnG q z
      exact ⟨ob, k612 _ _ e (nS _ f) (ne_of_none hg f).symm⟩
  · refine All2.app (pa2.mono fun b rows z => z.fr (fun _ w => .inl w) (fun q ob e w m => kG _ _ e w m)) (.cons ⟨.inr (.inl rfl), ngr, ls, k612 _ _ B6.hr (nS _ B6.fr) ngr, ?_⟩ .nil)
    refine all2_mem B6.ln fun q es hq ⟨f, _, _, e, le⟩ => ⟨.inr (.inr hq), (ne_of_none hg f).symm, k612 _ _ e (nS _ f) (ne_of_none hg f).symm, le⟩
  · rcases w with w | rfl | w
    · obtain ⟨ob, e⟩ := W.pa.al q w
      exact nS' q (fun y => W.dj q y w) (al7 _ _ e) z
    · exact nS' q (nS _ B6.fr) ⟨_, B7.hr⟩ z
    · obtain ⟨f, ob, e⟩ := lnG q w
      exact nS' q (nS _ f) ⟨_, s7 _ _ e⟩ z
  · obtain ⟨obc, hc0⟩ := W.src.has.2
    exact nS' c W.nl.2.1 (al7 _ _ hc0)
  · rcases z with z | z | z
    · exact W.nl.2.2.1 z
    · exact (B6.nel B6.fr).1 z.symm
    · exact (B6.nel (lnG l z).1).1 rfl
  · rcases z with z | z | z
    · exact W.nl.2.2.2 z
    · exact (B6.nel B6.fr).2 z.symm
    · exact (B6.nel (lnG c z).1).2 rfl
  · rw [List.length_append]
    simp only [List.length_singleton]
    omega
  · rw [List.length_append, List.length_replicate, ← le8, List.length_map]
    omega
  · rw [List.length_append, List.length_replicate, ← le8, List.length_map]
    omega
  · rcases sub8 q z with w | w
    · exact .inl w
    · refine .inr ?_
      cases e : H q with
      | none => rfl
      | some ob =>
        obtain ⟨ob', e'⟩ := al7 _ _ e
        rw [e'] at w; cases w
  · rcases z with z | rfl | z
    · exact .inl z
    · exact .inr B6.fr
    · exact .inr (lnG q z).1
  · exact k612 _ _ (B6.kp _ _ e m) n m2
  · exact t812 _ _ (tu8 _ _ (s7 _ _ (tH _ _ e)))

theorem tupV_eqv {H : Hp} {p p' : Addr} {n : String} {v v' : V} (h : tupV p n v H) (h' : tupV p' n v' H) (e : Eqv H 4 v v') : Eqv H 5 (.ref p) (.ref p') := by
  refine .inr ⟨false, p, p', _, _, rfl, rfl, h, h', rfl, fun k u w e1 e2 => ?_⟩
  match k, e1, e2 with
  | 0, e1, e2 => cases e1; cases e2; exact .inl ⟨rfl, rfl⟩
  | 1, e1, e2 => cases e1; cases e2; exact e
  | k + 2, e1, _ => cases e1
theorem tupV.same {H H' : Hp} {p : Addr} {n : String} {v : V} (h : tupV p n v H) (s : Same H H') : tupV p n v H' := s _ _ h
theorem itm_get {P : Ent} {i : Nat} {rows : List (List Item)} (h : (itm P)[i]? = some rows) : ∃ es, P[i]? = some es ∧ rows = es.map itemsOf := by
  unfold itm at h
  rw [List.getElem?_map] at h
  obtain ⟨z, e, rfl⟩ := Option.map_eq_some_iff.mp h
  exact ⟨z, e, rfl⟩
theorem itm_last {P : Ent} {last : List (List Item)} (h : (itm P).getLast? = some last) : ∃ es, P.getLast? = some es ∧ last = es.map itemsOf := by
  unfold itm at h
  rw [List.getLast?_map] at h
  obtain ⟨z, e, rfl⟩ := Option.map_eq_some_iff.mp h
  exact ⟨z, e, rfl⟩
def spMR (C : Addr) : Sp := fun vs H Q _ => ∃ (S G : Addr → Prop) (x d st op g : Addr) (P : Ent) (ops : List Int), vs = [.ref x, .ref g] ∧ Sh C S H x d st op (itm P) ops ∧ PaAt G H g P ∧ P.length ≤ 100 ∧ ops.length ≤ 200 ∧ ∀ H', Same H H' → Q (.bl true) H'
abbrev s_law_moments_right : Stmt := top 20
theorem sc_law_moments_right : FnScope ["_law_shelf", "_law_past", "_law_moment", "_law_sheet", "_law_told", "_law_due_here"] ["_law_shelf", "_law_past"] (defScope s_law_moments_right) := ⟨rfl, rfl, rfl, by decide +kernel, rfl, by decide +kernel, by decide +kernel⟩
theorem PaAt.small {G : Addr → Prop} {H : Hp} {g : Addr} {P : Ent} (h : PaAt G H g P) {mi si : Nat} {rows : List (List Int)} {es : List Int} (er : P[mi]? = some rows) (ee : rows[si]? = some es) : es.length ≤ 10 := by
  obtain ⟨bs, _, b2⟩ := h.at'
  obtain ⟨b, _, _, _, qs, _, aq⟩ := b2.get' er
  obtain ⟨r, _, _, _, _, le⟩ := aq.get' ee
  exact le
theorem all2_ref {H : Hp} {R : Addr → List Item → Prop} : ∀ {rs : List Addr} {rows : List (List Item)}, All2 R rs rows → (∀ r its, R r its → ItemsAt H (.ref r) its) → All2 (ItemsAt H) (rs.map V.ref) rows
  | _, _, .nil, _ => .nil
  | _, _, .cons e r, h => .cons (h _ _ e) (all2_ref r h)
def mrT2 : TS := fun D σ H => ∃ (s0 s3 s4 : Option V) (g p0 : Addr) (m : Int) (G : Addr → Prop) (P : Ent), σ = [s0, some (.ref g), some (.int m), s3, s4, some (.ref p0)] ∧ PaAt G H g P ∧ (∀ rows ∈ P, rows.length ≤ 1000) ∧ (∀ (mi : Nat) (rows : List (List Int)), m = mi → P[mi]? = some rows → ∀ (p q : Addr) (H' : Hp), tupV p "" (.ref q) H' → SheetsAt H' q (rows.map itemsOf) → Same H H' → D.nx [s0, some (.ref g), some (.int m), s3, s4, some (.ref p)] H') ∧ (¬ InN P.length m → D.nx [s0, some (.ref g), some (.int m), s3, s4, some (.ref p0)] H)
def mrT5 : TS := fun D σ H => ∃ (s0 s1 s2 s3 s5 : Option V) (p : Addr) (nm : String) (v : V), σ = [s0, s1, s2, s3, some (.ref p), s5] ∧ tupV p nm v H ∧ ((v = .non ∧ D.nx [s0, s1, s2, s3, some (.ref p), s5] H) ∨ ∃ (q : Addr) (rs : List Addr), v = .ref q ∧ H q = some (.lst (rs.map V.ref)) ∧ (∀ r ∈ rs, ∃ vs, H r = some (.lst vs) ∧ vs.length ≤ 10000) ∧ ∀ H', (∀ a ob, H a = some ob → a ∉ rs → H' a = some ob) → D.nx [s0, s1, s2, s3, some (.ref p), s5] H')
set_option maxHeartbeats 4000000 in
theorem ok_law_moments_right {f C XS XM : Addr} {fd : FuncData} (F : Fun K "_law_moments_right" "_law_moments_right" s_law_moments_right f fd) (T : Nms mg) {fW fM fI fD fR fT : Addr} {gW gM gI gD gR gT : FuncData} (d_law_whole : DefAt K mg "_law_whole" s_law_whole ["_law_found"] fW gW) (d_law_same : DefAt K mg "_law_same" s_law_same ["_law_found", "_law_due_here"] fM gM) (d_law_items_of : DefAt K mg "_law_items_of" s_law_items_of ["_law_entries"] fI gI) (d_law_due : DefAt K mg "_law_due" s_law_due ["_law_past", "_law_sheet", "_law_moment"] fD gD) (d_law_row_then_or : DefAt K mg "_law_row_then_or" s_law_row_then_or ["_law_shelf", "_law_sheet", "_law_moment"] fR gR) (g_law_row_then_or : FnOk P w K mg base CX0 5 fR gR ["_law_shelf", "_law_sheet", "_law_moment"] (spRowThenOr C)) (d_law_rows_then_or : DefAt K mg "_law_rows_then_or" s_law_rows_then_or ["_law_shelf", "_law_moment"] fT gT) (g_law_rows_then_or : FnOk P w K mg base CX0 4 fT gT ["_law_shelf", "_law_moment"] (spRowsThenOr C)) : FnOk P w K mg base CX0 7 f fd ["_law_shelf", "_law_past"] (spMR C) := by
  have g_law_same : FnOk P w K mg base CX0 6 _ _ ["_law_found", "_law_due_here"] (spSame 5) := ok_law_same T d_law_whole d_law_same 5
  have g_law_items_of : FnOk P w K mg base CX0 1 _ _ ["_law_entries"] spItems := ok_law_items_of d_law_items_of.F T
  have g_law_due : FnOk P w K mg base CX0 2 _ _ ["_law_past", "_law_sheet", "_law_moment"] spDue := ok_law_due d_law_due.F T d_law_items_of
  refine F.ok sc_law_moments_right (fun vs H Q E h => ?_) (fun cdv A outer s H vs Q E hr h => ?_)
  · obtain ⟨S, G, x, d, st, op, g, P, ops, rfl, _⟩ := h
    rfl
  obtain ⟨S, G, x, d, st, op, g, P, ops, rfl, W, pa, lp, lo, k⟩ := h
  refine ⟨_, (pss_cons (ps_for PassesOwn.never rfl (pi_rangeL rfl T.n_range (pa_cons (pe_un un_neg pe_int) (pa_cons (pe_op op_add (pe_callB call_len_seq rfl T.n_len PySem.boot_len (pa_cons (pv 1) pa_nil)) pe_int) pa_nil))) (pg_name (i := 2) sc_law_moments_right.nd rfl (Or.inl rfl))
      (pss_cons (ps_for PassesOwn.never rfl (pi_rangeL rfl T.n_range (pa_cons (pe_un un_neg pe_int) (pa_cons (pe_op op_add (pe_callB call_len_seq rfl T.n_len PySem.boot_len (pa_cons (pe_ix ix_list (pv 1) (pe_un un_neg pe_int) (fun _ _ => rfl)) pa_nil)) pe_int) pa_nil))) (pg_name (i := 3) sc_law_moments_right.nd rfl (Or.inl rfl))
      (pss_cons (ps_set (i := 4) sc_law_moments_right.nd rfl (Or.inl rfl) (pe_def d_law_row_then_or g_law_row_then_or hr (pa_cons (pv 0) (pa_cons (pv 3) (pa_cons (pv 2) pa_nil)))))
      (pss_cons (ps_if (pt_not (pt_val (pe_def d_law_same g_law_same hr (pa_cons (pv 4) (pa_cons (pe_def d_law_due g_law_due hr (pa_cons (pv 1) (pa_cons (pv 3) (pa_cons (pv 2) pa_nil)))) pa_nil)))))
      (pss_one (ps_ret pe_bl))
      pss_nil)
      (pss_one (ps_if (pt_cmp (pc_notN (pe_ix ix_tup (pv 4) pe_int (fun _ _ => rfl))))
      (pss_one (ps_expr (pe_bm PySem.F.plainAttrs_list PySem.F.slot_list_append PySem.F.type_list_append mt_append (pe_ix ix_tup (pv 4) pe_int (fun _ _ => rfl)) (pa_cons (pe_tup (pa_cons pe_str (pa_cons pe_int pa_nil))) pa_nil))))
      pss_nil)))))
      (pss_cons (ps_set (i := 5) sc_law_moments_right.nd rfl (Or.inl rfl) (pe_tup (pa_cons pe_str (pa_cons pe_non pa_nil))))
      (pss_cons (ps_imp (t' := mrT2) (ps_if (PW.pt (pw_and (pt_cmpR op_le pe_int (pv 2) (nomark _)) (pw_and1 (pt_cmpR op_lt (pv 2) (pe_callB call_len_seq rfl T.n_len PySem.boot_len (pa_cons (pv 1) pa_nil)) (nomark _)))))
      (pss_one (ps_set (i := 5) sc_law_moments_right.nd rfl (Or.inl rfl) (pe_tup (pa_cons pe_str (pa_cons (pe_compG (N := ["_law_row"]) (compG (sc := defScope s_law_moments_right) (NX := ["_law_shelf", "_law_past", "_law_moment", "_law_sheet", "_law_told", "_law_due_here"]) (jx := [none]) rfl rfl rfl (by decide +kernel) (by decide +kernel) rfl (by decide +kernel) rfl (by decide +kernel)) rfl (pi_list (pe_ix ix_list (pv 1) (pv 2) (fun _ _ => rfl))) (fun _ _ _ _ _ _ => (pg_name (i := 0) (show List.Nodup (["_law_row"] : List Str) by decide +kernel) rfl (Or.inl rfl))) (fun _ _ _ _ _ _ => pts_nil) (fun _ _ _ _ _ _ => (pe_def d_law_items_of g_law_items_of hr (pa_cons (pv 0) pa_nil)))) pa_nil)))))
      pss_nil) ?b2)
      (pss_cons (ps_set (i := 4) sc_law_moments_right.nd rfl (Or.inl rfl) (pe_def d_law_rows_then_or g_law_rows_then_or hr (pa_cons (pv 0) (pa_cons (pv 2) pa_nil))))
      (pss_cons (ps_if (pt_not (pt_val (pe_def d_law_same g_law_same hr (pa_cons (pv 4) (pa_cons (pv 5) pa_nil)))))
      (pss_one (ps_ret pe_bl))
      pss_nil)
      (pss_one (ps_imp (t' := mrT5) (ps_if (PW.pt (pw_and (pt_cmp (pc_notN (pe_ix ix_tup (pv 4) pe_int (fun _ _ => rfl)))) (pw_and1 (pt_cmpR op_gt (pe_callB call_len_seq rfl T.n_len PySem.boot_len (pa_cons (pe_ix ix_tup (pv 4) pe_int (fun _ _ => rfl)) pa_nil)) pe_int (nomark _)))))
      (pss_one (ps_expr (pe_bm PySem.F.plainAttrs_list PySem.F.slot_list_append PySem.F.type_list_append mt_append (pe_ix ix_list (pe_ix ix_tup (pv 4) pe_int (fun _ _ => rfl)) pe_int (fun _ _ => rfl)) (pa_cons (pe_tup (pa_cons pe_str (pa_cons pe_int pa_nil))) pa_nil))))
      pss_nil) ?b5))))))))
      (pss_one (ps_ret pe_bl))), ?_⟩
  case b2 =>
    rintro D σ H ⟨s0, s3, s4, g, p0, m, G, P, rfl, pa, lrw, k1, k2⟩
    obtain ⟨bs, hb, b2⟩ := id pa.at'
    have lb := b2.len
    refine ⟨_, rfl, _, _, rfl, rfl, _, rfl, ite2 (fun c1 => ?_) (fun c1 => k2 fun z => c1 (decide_eq_true z.1))⟩
    refine ⟨_, rfl, _, rfl, g, _, rfl, .inl (SqL.of hb), _, _, rfl, rfl, _, rfl, ite2 (fun c2 => ?_) (fun c2 => k2 fun z => c2 (decide_eq_true (by rw [List.length_map, lb]; exact z.2)))⟩
    have m0 : 0 ≤ m := of_decide_eq_true c1
    have m1 : m < ((bs.map V.ref).length : Nat) := of_decide_eq_true c2
    rw [List.length_map, lb] at m1
    obtain ⟨mi, rfl⟩ : ∃ mi : Nat, m = mi := ⟨m.toNat, by omega⟩
    have er : P[mi]? = some P[mi] := List.getElem?_eq_getElem (by omega)
    generalize P[mi] = rows at er
    obtain ⟨b, eb, _, _, qs, hqs, aq⟩ := b2.get' er
    have lq := aq.len
    have lrows := lrw rows (List.mem_of_getElem? er)
    refine ⟨_, rfl, _, rfl, g, _, _, .ref b, rfl, rfl, SqL.of hb, atI_nat (by rw [List.getElem?_map, eb]; rfl), b, rfl, ⟨_, SqL.of hqs⟩, fun acc hacc => compF_list (K := K) (a := b) (xs := qs.map V.ref) (fun j σ H1 => ∃ (u : Option V) (vs : List V), σ = [u] ∧ H1 acc = some (.lst vs) ∧ Same H H1 ∧ (∀ v ∈ vs, v ≠ .ref acc) ∧ All2 (ItemsAt H1) vs ((rows.take j).map itemsOf)) ⟨none, [], rfl, upd_same, same_new hacc _, fun v hv => (by cases hv), by rw [List.take_zero]; exact .nil⟩ (fun j σ H1 _ ⟨_, _, _, _, s, _⟩ => SqL.of (s _ _ hqs)) ?_ ?_⟩
    · rintro j y σ H1 hj ⟨u, vs, rfl, ha, s1, nv, av⟩
      rw [List.getElem?_map] at hj
      obtain ⟨ri, eri, rfl⟩ := Option.map_eq_some_iff.mp hj
      obtain ⟨es, ees, _, _, hc, le⟩ := aq.get eri
      have lav := av.len
      rw [List.length_map, List.length_take] at lav
      refine ⟨_, rfl, ri, es, rfl, s1 _ _ hc, by omega, fun o H2 io s2 fo => ⟨_, s2 _ _ ha, million (by omega), _, vs ++ [.ref o], rfl, upd_same, fun q ob e => ?_, fun v hv => ?_, ?_⟩⟩
      · rw [upd_ne (ne_of_none e hacc)]
        exact s2 _ _ (s1 _ _ e)
      · rcases List.mem_append.mp hv with z | z
        · exact nv v z
        · rw [List.mem_singleton.mp z]
          intro w
          cases w
          rw [ha] at fo; cases fo
      · have fr : ∀ q ob, H2 q = some ob → q ≠ acc → (upd H2 acc (.lst (vs ++ [.ref o]))) q = some ob := fun q ob e n => by rw [upd_ne n]; exact e
        have tu : ∀ q xs, H2 q = some (.tup xs) → (upd H2 acc (.lst (vs ++ [.ref o]))) q = some (.tup xs) := fun q xs e => fr _ _ e (ne_of e (s2 _ _ ha) (by intro w; cases w))
        have noa : o ≠ acc := (ne_of_none ha fo).symm
        rw [take_snoc ees, List.map_append]
        refine All2.snoc (all2_mem av fun v its hv z => ?_) (io.fr (fun xs e => fr _ _ e noa) tu)
        obtain ⟨q, ws, rfl, hq, it⟩ := z
        exact ItemsAt.fr (H := H2) ⟨q, ws, rfl, s2 _ _ hq, it.mono fun _ _ w => w.same s2⟩ (fun xs e => fr _ _ e (fun w => nv _ hv (by rw [w]))) tu
    · rintro σ H1 ⟨u, vs, rfl, ha, s1, nv, av⟩
      rw [List.length_map, lq, List.take_length] at av
      refine ⟨(by show 2 ≤ sizeLine; decide), fun p hp => ?_⟩
      have s2 : Same H1 (upd H1 p (.tup [.str (Str.ofString ""), .ref acc])) := same_new hp _
      exact k1 mi rows rfl er p acc _ upd_same ⟨vs, s2 _ _ ha, av.mono fun v its z => z.same s2⟩ (s1.trans s2)
  case b5 =>
    rintro D σ H ⟨s0, s1, s2, s3, s5, p, nm, v, rfl, tp, alt⟩
    rcases alt with ⟨rfl, k⟩ | ⟨q, rs, rfl, hq, hrs, k⟩
    · exact ⟨_, rfl, p, _, _, .non, rfl, rfl, SqT.of tp, at21, _, rfl, iteF k⟩
    · refine ⟨_, rfl, p, _, _, .ref q, rfl, rfl, SqT.of tp, at21, _, rfl, iteT ?_⟩
      refine ⟨_, rfl, p, _, _, .ref q, rfl, rfl, SqT.of tp, at21, q, _, rfl, .inl (SqL.of hq), _, _, rfl, rfl, _, rfl, ite2 (fun c1 => ?_) (fun _ => k H fun _ _ e _ => e)⟩
      have l0 : (0 : Int) < ((rs.map V.ref).length : Nat) := of_decide_eq_true c1
      cases rs with
      | nil => simp at l0
      | cons r rest =>
        obtain ⟨vs, hr, lv⟩ := hrs r (by simp)
        refine ⟨_, rfl, p, _, _, .ref q, rfl, rfl, SqT.of tp, at21, q, _, _, .ref r, rfl, rfl, SqL.of hq, atI_nat (j := 0) rfl, .inl ⟨rfl, _, SqL.of hr⟩, (by show 2 ≤ sizeLine; decide), fun t ht => ⟨r, _, _, rfl, rfl, same_new ht _ _ _ hr, million (by omega), k _ fun a ob e n => ?_⟩⟩
        rw [upd_ne (fun w => n (by rw [w]; simp))]
        exact same_new ht _ _ _ e
  have ok : ShOk (itm P) ops := ⟨by unfold itm; rw [List.length_map]; omega, by omega⟩
  have lip : (itm P).length = P.length := by unfold itm; rw [List.length_map]
  obtain ⟨last', hl', _, ol⟩ := W.lastE
  obtain ⟨last, hl, rfl⟩ := itm_last hl'
  rw [List.length_map] at ol
  obtain ⟨as, a, hg, ⟨Ga, na, rs, ha, ar⟩⟩ := pa.last hl
  have lr := ar.len
  obtain ⟨bs, hb, b2⟩ := id pa.at'
  have lb := b2.len
  have hat : atI (as ++ [V.ref a]) (-1) = some (.ref a) := atI_neg1 _ _
  refine ⟨_, rfl, _, rfl, g, _, rfl, .inl (SqL.of hb), _, _, rfl, rfl, _, _, rfl, ?_⟩
  refine for_range (lo := -1) (fun i σ H1 => ∃ (u2 u3 u4 u5 : Option V), σ = [some (.ref x), some (.ref g), u2, u3, u4, u5] ∧ Same H H1) ⟨none, none, none, none, rfl, Same.refl _⟩ ?_ ?_
  case _ =>
    rintro i σ H1 hi ⟨u2, u3, u4, u5, rfl, s1⟩
    rw [List.length_map, lb] at hi
    obtain ⟨m, hm⟩ : ∃ m : Int, m = -1 + (i : Nat) := ⟨_, rfl⟩
    rw [← hm]
    have fm : Fit m := ⟨by omega, by omega⟩
    refine ⟨_, rfl, _, rfl, _, rfl, g, _, _, .ref a, rfl, rfl, SqL.of (s1 _ _ hg), hat, a, _, rfl, .inl (SqL.of (s1 _ _ ha)), _, _, rfl, rfl, _, _, rfl, ?_⟩
    refine for_range (lo := -1) (fun j σ H2 => ∃ (u3 u4 : Option V), σ = [some (.ref x), some (.ref g), some (.int m), u3, u4, u5] ∧ Same H H2) ⟨_, _, rfl, s1⟩ ?_ ?_
    case _ =>
      rintro j σ H2 hj ⟨u3, u4, rfl, s2⟩
      rw [List.length_map, lr] at hj
      obtain ⟨s', hs'⟩ : ∃ s' : Int, s' = -1 + (j : Nat) := ⟨_, rfl⟩
      rw [← hs']
      have fs : Fit s' := ⟨by omega, by omega⟩
      refine ⟨_, rfl, _, rfl, _, rfl, S, x, d, st, op, itm P, ops, s', m, rfl, W.same s2, ok, fs, fm, fun ns p H3 t3 s3 => ?_, fun is nm p H3 t3 s3 => ?_, fun si mi rows' e1 e2 sl er' => ⟨fun rl p H3 t3 s3 => ?_, fun its ei q p H3 t3 i3 s3 f3 => ?_⟩⟩
      · rw [ol] at ns
        refine ⟨_, rfl, _, rfl, _, rfl, _, rfl, G, g, P, s', m, last, rfl, pa.same (s2.trans s3), hl, fun _ p' H4 t4 s4 => ?_, fun z => absurd z ns, fun si mi rows e1 e2 sl => absurd ⟨by omega, by omega⟩ ns⟩
        refine ⟨_, _, rfl, tupV_eqv (t3.same s4) t4 (.inl ⟨rfl, rfl⟩), fun H5 s5 => ⟨_, rfl, iteF ⟨_, rfl, p, _, _, .non, rfl, rfl, SqT.of ((t3.same s4).same s5), at21, _, rfl, iteF ⟨_, _, rfl, s2.trans (s3.trans (s4.trans s5))⟩⟩⟩⟩
      · rw [ol] at is
        rw [lip] at nm
        refine ⟨_, rfl, _, rfl, _, rfl, _, rfl, G, g, P, s', m, last, rfl, pa.same (s2.trans s3), hl, fun z => absurd is z, fun _ _ p' H4 t4 s4 => ?_, fun si mi rows e1 e2 sl er => absurd ⟨by omega, by have := (List.getElem?_eq_some_iff.mp er).1; omega⟩ nm⟩
        refine ⟨_, _, rfl, tupV_eqv (t3.same s4) t4 (.inl ⟨rfl, rfl⟩), fun H5 s5 => ⟨_, rfl, iteF ⟨_, rfl, p, _, _, .non, rfl, rfl, SqT.of ((t3.same s4).same s5), at21, _, rfl, iteF ⟨_, _, rfl, s2.trans (s3.trans (s4.trans s5))⟩⟩⟩⟩
      · obtain ⟨rows, er, rfl⟩ := itm_get er'
        rw [List.length_map] at rl
        have ml := (List.getElem?_eq_some_iff.mp er).1
        refine ⟨_, rfl, _, rfl, _, rfl, _, rfl, G, g, P, s', m, last, rfl, pa.same (s2.trans s3), hl, fun z => absurd ⟨by omega, by omega⟩ z, fun _ z => absurd ⟨by omega, by omega⟩ z, fun si2 mi2 rows2 e3 e4 sl2 er2 => ⟨fun _ p' H4 t4 s4 => ?_, fun es ee => ?_⟩⟩
        · refine ⟨_, _, rfl, tupV_eqv (t3.same s4) t4 (.inl ⟨rfl, rfl⟩), fun H5 s5 => ⟨_, rfl, iteF ⟨_, rfl, p, _, _, .non, rfl, rfl, SqT.of ((t3.same s4).same s5), at21, _, rfl, iteF ⟨_, _, rfl, s2.trans (s3.trans (s4.trans s5))⟩⟩⟩⟩
        · have q1 : mi2 = mi := by omega
          have q2 : si2 = si := by omega
          subst q1 q2
          rw [er] at er2
          cases er2
          have := (List.getElem?_eq_some_iff.mp ee).1
          omega
      · obtain ⟨rows, er, rfl⟩ := itm_get er'
        rw [List.getElem?_map] at ei
        obtain ⟨es, ee, rfl⟩ := Option.map_eq_some_iff.mp ei
        have ml := (List.getElem?_eq_some_iff.mp er).1
        have sml := pa.small er ee
        refine ⟨_, rfl, _, rfl, _, rfl, _, rfl, G, g, P, s', m, last, rfl, pa.same (s2.trans s3), hl, fun z => absurd ⟨by omega, by omega⟩ z, fun _ z => absurd ⟨by omega, by omega⟩ z, fun si2 mi2 rows2 e3 e4 sl2 er2 => ?_⟩
        have q1 : mi2 = mi := by omega
        have q2 : si2 = si := by omega
        subst q1 q2
        rw [er] at er2
        cases er2
        refine ⟨fun rl => absurd (List.getElem?_eq_some_iff.mp ee).1 (by omega), fun es2 ee2 q' p' H4 t4 i4 s4 f4 => ?_⟩
        rw [ee] at ee2
        cases ee2
        refine ⟨_, _, rfl, tupV_eqv (t3.same s4) t4 ((i3.same s4).eqv 1 i4), fun H5 s5 => ⟨_, rfl, iteF ?_⟩⟩
        have t5 := (t3.same s4).same s5
        obtain ⟨q0, vs, eq0, hq5, it5⟩ := (i3.same s4).same s5
        cases eq0
        have lvs := it5.len
        have := itemsOf_le es
        refine ⟨_, rfl, p, _, _, .ref q, rfl, rfl, SqT.of t5, at21, _, rfl, iteT ⟨_, rfl, p, _, _, .ref q, rfl, rfl, SqT.of t5, at21, .inl ⟨rfl, _, SqL.of hq5⟩, (by show 2 ≤ sizeLine; decide), fun t ht => ⟨q, _, _, rfl, rfl, same_new ht _ _ _ hq5, million (by omega), _, _, rfl, fun b ob e => ?_⟩⟩⟩
        rw [upd_ne (ne_of_none (s2 _ _ e) f3)]
        exact same_new ht _ _ _ (s5 _ _ (s4 _ _ (s3 _ _ (s2 _ _ e))))
    rintro σ H2 ⟨u3, u4, rfl, s2⟩
    refine ⟨(by show 2 ≤ sizeLine; decide), fun p0 hp0 => ?_⟩
    have s3 : Same H2 (upd H2 p0 (.tup [.str (Str.ofString "moment"), .non])) := same_new hp0 _
    have t3 : tupV p0 "moment" .non (upd H2 p0 (.tup [.str (Str.ofString "moment"), .non])) := upd_same
    generalize upd H2 p0 (.tup [.str (Str.ofString "moment"), .non]) = H3 at s3 t3
    have s03 := s2.trans s3
    have lrw : ∀ rows ∈ P, rows.length ≤ 1000 := fun rows hr => by
      obtain ⟨k', hk⟩ := List.getElem?_of_mem hr
      have := W.opn.less k' (rows.map itemsOf) (by unfold itm; rw [List.getElem?_map, hk]; rfl)
      rw [List.length_map] at this
      omega
    refine ⟨_, _, _, g, p0, m, G, P, rfl, pa.same s03, lrw, fun mi rows em er p q H4 t4 sh4 s4 => ?_, fun nm => ?_⟩
    · have ml := (List.getElem?_eq_some_iff.mp er).1
      refine ⟨_, rfl, _, rfl, S, x, d, st, op, itm P, ops, m, rfl, W.same (s03.trans s4), ok, fm, fun mi' rows' em' er' q2 p2 H5 H6 fs s5 s56 t6 => ?_, fun nm => absurd ⟨by omega, by rw [lip]; omega⟩ nm⟩
      have q1 : mi' = mi := by omega
      subst q1
      obtain ⟨rows2, er2, rfl⟩ := itm_get er'
      rw [er] at er2
      cases er2
      obtain ⟨fq2, rs2, hq2, ar2⟩ := fs
      have s46 := s5.trans s56
      have sh6 : SheetsAt H6 q2 (rows.map itemsOf) := ⟨rs2.map V.ref, s56 _ _ hq2, all2_ref ar2 fun r its z => z.2.2.same s56⟩
      refine ⟨_, rfl, _, rfl, _, _, rfl, tupV_eqv t6 (t4.same s46) (sh6.eqv 0 (sh4.same s46)), fun H7 s7 => ⟨_, rfl, iteF ?_⟩⟩
      refine ⟨_, _, _, _, _, p2, "", .ref q2, rfl, t6.same s7, .inr ⟨q2, rs2, rfl, s7 _ _ (s56 _ _ hq2), fun r hr => ?_, fun H8 fr8 => ⟨_, _, _, _, rfl, fun b ob e => ?_⟩⟩⟩
      · obtain ⟨k', hk⟩ := List.getElem?_of_mem hr
        obtain ⟨its, eits, _, _, hi⟩ := ar2.get hk
        rw [List.getElem?_map] at eits
        obtain ⟨es, ee, rfl⟩ := Option.map_eq_some_iff.mp eits
        obtain ⟨b, vs, eb, hb', it⟩ := hi
        cases eb
        have := pa.small er ee
        have := itemsOf_le es
        have := it.len
        exact ⟨vs, s7 _ _ (s56 _ _ hb'), by omega⟩
      · refine fr8 _ _ (s7 _ _ (s46 _ _ (s4 _ _ (s03 _ _ e)))) fun hr => ?_
        obtain ⟨k', hk⟩ := List.getElem?_of_mem hr
        obtain ⟨its, eits, f, _⟩ := ar2.get hk
        rw [s4 _ _ (s03 _ _ e)] at f
        cases f
    · refine ⟨_, rfl, _, rfl, S, x, d, st, op, itm P, ops, m, rfl, W.same s03, ok, fm, fun mi' rows' em' er' => ?_, fun _ p2 H4 t4 s4 => ?_⟩
      · have := (List.getElem?_eq_some_iff.mp er').1
        rw [lip] at this
        exact absurd ⟨by omega, by omega⟩ nm
      · refine ⟨_, rfl, _, rfl, _, _, rfl, tupV_eqv t4 (t3.same s4) (.inl ⟨rfl, rfl⟩), fun H5 s5 => ⟨_, rfl, iteF ?_⟩⟩
        exact ⟨_, _, _, _, _, p2, "moment", .non, rfl, t4.same s5, .inl ⟨rfl, _, _, _, _, rfl, s03.trans (s4.trans s5)⟩⟩
  rintro σ H1 ⟨u2, u3, u4, u5, rfl, s1⟩
  exact k H1 s1

def nrT : TS := fun D σ H => ∃ (s0 s6 s7 s8 : Option V) (g t p0 p1 : Addr) (s : Int) (ms : List Int) (G : Addr → Prop) (P : Ent) (last : List (List Int)), σ = [s0, some (.ref g), some (.int s), some (.ref t), some (.ref p0), some (.ref p1), s6, s7, s8] ∧ PaAt G H g P ∧ P.getLast? = some last ∧ H t = some (.lst (ms.map V.int)) ∧ (ms = [] → D.nx [s0, some (.ref g), some (.int s), some (.ref t), some (.ref p0), some (.ref p1), s6, s7, s8] H) ∧ (∀ o r, ms = o :: r → ∃ (si : Nat) (es : List Int), s = si ∧ last[si]? = some es ∧ ∀ (p p' q : Addr) (H' : Hp), tupV p "" (.ref q) H' → ItemsAt H' (.ref q) (itemsOf es) → tupV p' "" (.int o) H' → Same H H' → D.nx [s0, some (.ref g), some (.int s), some (.ref t), some (.ref p), some (.ref p'), s6, s7, s8] H')
def spNR (C : Addr) : Sp := spMR C
abbrev s_law_now_right : Stmt := top 21
theorem sc_law_now_right : FnScope ["_law_shelf", "_law_past", "_law_sheet", "_law_there", "_law_due_here", "_law_came", "_law_told", "_law_rows", "_law_row"] ["_law_shelf", "_law_past"] (defScope s_law_now_right) := ⟨rfl, rfl, rfl, by decide +kernel, rfl, by decide +kernel, by decide +kernel⟩
set_option maxHeartbeats 4000000 in
theorem ok_law_now_right {f C XS XM : Addr} {fd : FuncData} (F : Fun K "_law_now_right" "_law_now_right" s_law_now_right f fd) (M : ShM K mg C XS XM) {fW fM fI fR fO fA fN fH : Addr} {gW gM gI gR gO gA gN gH : FuncData} (d_law_whole : DefAt K mg "_law_whole" s_law_whole ["_law_found"] fW gW) (d_law_same : DefAt K mg "_law_same" s_law_same ["_law_found", "_law_due_here"] fM gM) (d_law_items_of : DefAt K mg "_law_items_of" s_law_items_of ["_law_entries"] fI gI) (d_law_row_or : DefAt K mg "_law_row_or" s_law_row_or ["_law_shelf", "_law_sheet"] fR gR) (g_law_row_or : FnOk P w K mg base CX0 4 fR gR ["_law_shelf", "_law_sheet"] (spRowOr C)) (d_law_opened_or : DefAt K mg "_law_opened_or" s_law_opened_or ["_law_shelf", "_law_sheet"] fO gO) (g_law_opened_or : FnOk P w K mg base CX0 4 fO gO ["_law_shelf", "_law_sheet"] (spOpenedOr C)) (dShelf_rows : MetAt K C "rows" "Shelf.rows" sShelf_rows ["self"] fA gA) (gShelf_rows : FnOk P w K mg base CX0 4 fA gA ["self"] (spRows C)) (dShelf_now : MetAt K C "now" "Shelf.now" sShelf_now ["self"] fN gN) (dShelf_many : MetAt K C "many" "Shelf.many" sShelf_many ["self"] fH gH) : FnOk P w K mg base CX0 7 f fd ["_law_shelf", "_law_past"] (spNR C) := by
  obtain ⟨T, ⟨fi, cShelf⟩, n1, n2, ZNoSheet, ZNoMoment⟩ := M
  have g_law_same : FnOk P w K mg base CX0 6 _ _ ["_law_found", "_law_due_here"] (spSame 5) := ok_law_same T d_law_whole d_law_same 5
  have g_law_items_of : FnOk P w K mg base CX0 1 _ _ ["_law_entries"] spItems := ok_law_items_of d_law_items_of.F T
  have gShelf_now : FnOk P w K mg base CX0 1 _ _ ["self"] (spNow C) := ok_Shelf_now dShelf_now.F T cShelf.cl n1
  have gShelf_many : FnOk P w K mg base CX0 1 _ _ ["self"] (spMany C) := ok_Shelf_many dShelf_many.F T cShelf.cl n1
  refine F.ok sc_law_now_right (fun vs H Q E h => ?_) (fun cdv A outer s H vs Q E hr h => ?_)
  · obtain ⟨S, G, x, d, st, op, g, P, ops, rfl, _⟩ := h
    rfl
  obtain ⟨S, G, x, d, st, op, g, P, ops, rfl, W, pa, lp, lo, k⟩ := h
  refine ⟨_, (pss_cons (ps_for PassesOwn.never rfl (pi_rangeL rfl T.n_range (pa_cons (pe_un un_neg pe_int) (pa_cons (pe_op op_add (pe_callB call_len_seq rfl T.n_len PySem.boot_len (pa_cons (pe_ix ix_list (pv 1) (pe_un un_neg pe_int) (fun _ _ => rfl)) pa_nil)) pe_int) pa_nil))) (pg_name (i := 2) sc_law_now_right.nd rfl (Or.inr rfl))
      (pss_cons (ps_setG (N := ["_law_moment", "_law_past", "_law_sheet"]) (i := 3) (compG (sc := defScope s_law_now_right) (NX := ["_law_shelf", "_law_past", "_law_sheet", "_law_there", "_law_due_here", "_law_came", "_law_told", "_law_rows", "_law_row"]) (jx := [none, some 1, some 2]) rfl rfl rfl (by decide +kernel) (by decide +kernel) rfl (by decide +kernel) rfl (by decide +kernel)) rfl sc_law_now_right.nd rfl rfl (pi_range1 rfl T.n_range (pa_cons (pe_callB call_len_seq rfl T.n_len PySem.boot_len (pa_cons (pv 1) pa_nil)) pa_nil)) (fun _ _ _ _ _ _ => (pg_name (i := 0) (show List.Nodup (["_law_moment", "_law_past", "_law_sheet"] : List Str) by decide +kernel) rfl (Or.inl rfl))) (fun _ _ _ _ _ _ => pts_one (PW.pt (pw_and (pt_cmpR op_le pe_int (pv 2) (nomark _)) (pw_and1 (pt_cmpR op_lt (pv 2) (pe_callB callF_len rfl T.n_len PySem.boot_len (pa_cons (pe_ix ixF_list (pv 1) (pv 0) (fun _ _ => rfl)) pa_nil)) (nomark _)))))) (fun _ _ _ _ _ _ => (pv 0)))
      (pss_cons (ps_set (i := 4) sc_law_now_right.nd rfl (Or.inl rfl) (pe_tup (pa_cons pe_str (pa_cons pe_non pa_nil))))
      (pss_cons (ps_set (i := 5) sc_law_now_right.nd rfl (Or.inl rfl) (pe_tup (pa_cons pe_str (pa_cons pe_non pa_nil))))
      (pss_cons (ps_imp (t' := nrT) (ps_if (pt_cmpR op_gt (pe_callB call_len_seq rfl T.n_len PySem.boot_len (pa_cons (pv 3) pa_nil)) pe_int (nomark _))
      (pss_cons (ps_set (i := 4) sc_law_now_right.nd rfl (Or.inl rfl) (pe_tup (pa_cons pe_str (pa_cons (pe_def d_law_items_of g_law_items_of hr (pa_cons (pe_ix ix_list (pe_ix ix_list (pv 1) (pe_un un_neg pe_int) (fun _ _ => rfl)) (pv 2) (fun _ _ => rfl)) pa_nil)) pa_nil))))
      (pss_one (ps_set (i := 5) sc_law_now_right.nd rfl (Or.inl rfl) (pe_tup (pa_cons pe_str (pa_cons (pe_ix ix_list (pv 3) pe_int (fun _ _ => rfl)) pa_nil))))))
      pss_nil) ?b1)
      (pss_cons (ps_set (i := 6) sc_law_now_right.nd rfl (Or.inl rfl) (pe_def d_law_row_or g_law_row_or hr (pa_cons (pv 0) (pa_cons (pv 2) pa_nil))))
      (pss_cons (ps_if (PW.pt (pw_or (pt_not (pt_val (pe_def d_law_same g_law_same hr (pa_cons (pv 6) (pa_cons (pv 4) pa_nil))))) (pw_or1 (pt_not (pt_val (pe_def d_law_same g_law_same hr (pa_cons (pe_def d_law_opened_or g_law_opened_or hr (pa_cons (pv 0) (pa_cons (pv 2) pa_nil))) (pa_cons (pv 5) pa_nil))))))))
      (pss_one (ps_ret pe_bl))
      pss_nil)
      (pss_one (ps_if (pt_cmp (pc_notN (pe_ix ix_tup (pv 6) pe_int (fun _ _ => rfl))))
      (pss_one (ps_expr (pe_bm PySem.F.plainAttrs_list PySem.F.slot_list_append PySem.F.type_list_append mt_append (pe_ix ix_tup (pv 6) pe_int (fun _ _ => rfl)) (pa_cons (pe_tup (pa_cons pe_str (pa_cons pe_int pa_nil))) pa_nil))))
      pss_nil)))))))))
      (pss_cons (ps_setG (N := ["_law_row"]) (i := 7) (compG (sc := defScope s_law_now_right) (NX := ["_law_shelf", "_law_past", "_law_sheet", "_law_there", "_law_due_here", "_law_came", "_law_told", "_law_rows", "_law_row"]) (jx := [none]) rfl rfl rfl (by decide +kernel) (by decide +kernel) rfl (by decide +kernel) rfl (by decide +kernel)) rfl sc_law_now_right.nd rfl rfl (pi_list (pe_ix ix_list (pv 1) (pe_un un_neg pe_int) (fun _ _ => rfl))) (fun _ _ _ _ _ _ => (pg_name (i := 0) (show List.Nodup (["_law_row"] : List Str) by decide +kernel) rfl (Or.inl rfl))) (fun _ _ _ _ _ _ => pts_nil) (fun _ _ _ _ _ _ => (pe_def d_law_items_of g_law_items_of hr (pa_cons (pv 0) pa_nil))))
      (pss_cons (ps_set (i := 6) sc_law_now_right.nd rfl (Or.inl rfl) (pe_meth0 (pv 0) cShelf.cl dShelf_rows.mt gShelf_rows (hr.mono (by decide)) dShelf_rows.b .nil pass0))
      (pss_cons (ps_if (PW.pt (pw_or (pt_not (pt_val (pe_def d_law_same g_law_same hr (pa_cons (pv 6) (pa_cons (pv 7) pa_nil))))) (pw_or1 (pt_not (pt_val (pe_def d_law_same g_law_same hr (pa_cons (pe_meth0 (pv 0) cShelf.cl dShelf_many.mt gShelf_many (hr.mono (by decide)) dShelf_many.b .nil pass0) (pa_cons (pe_callB call_len_seq rfl T.n_len PySem.boot_len (pa_cons (pv 7) pa_nil)) pa_nil))))))))
      (pss_one (ps_ret pe_bl))
      pss_nil)
      (pss_cons (ps_for PassesOwn.never rfl (pi_list (pv 6)) (pg_name (i := 8) sc_law_now_right.nd rfl (Or.inl rfl))
      (pss_one (ps_expr (pe_bm PySem.F.plainAttrs_list PySem.F.slot_list_append PySem.F.type_list_append mt_append (pv 8) (pa_cons (pe_tup (pa_cons pe_str (pa_cons pe_int pa_nil))) pa_nil)))))
      (pss_cons (ps_expr (pe_bm PySem.F.plainAttrs_list PySem.F.slot_list_append PySem.F.type_list_append mt_append (pv 6) (pa_cons (pe_lst pa_nil) pa_nil)))
      (pss_cons (ps_if (pt_not (pt_val (pe_def d_law_same g_law_same hr (pa_cons (pe_meth0 (pv 0) cShelf.cl dShelf_rows.mt gShelf_rows (hr.mono (by decide)) dShelf_rows.b .nil pass0) (pa_cons (pv 7) pa_nil)))))
      (pss_one (ps_ret pe_bl))
      pss_nil)
      (pss_one (ps_ret (pe_def d_law_same g_law_same hr (pa_cons (pe_meth0 (pv 0) cShelf.cl dShelf_now.mt gShelf_now (hr.mono (by decide)) dShelf_now.b .nil pass0) (pa_cons (pe_op op_sub (pe_callB call_len_seq rfl T.n_len PySem.boot_len (pa_cons (pv 1) pa_nil)) pe_int) pa_nil)))))))))))), ?_⟩
  case b1 =>
    rintro D σ H ⟨s0, s6, s7, s8, g, t, p0, p1, s, ms, G, P, last, rfl, pa, hl, ht, k1, k2⟩
    refine ⟨_, rfl, t, _, rfl, .inl (SqL.of ht), _, _, rfl, rfl, _, rfl, ite2 (fun c1 => ?_) (fun c1 => ?_)⟩
    · have l0 : (0 : Int) < ((ms.map V.int).length : Nat) := of_decide_eq_true c1
      cases ms with
      | nil => simp at l0
      | cons o r =>
        obtain ⟨si, es, rfl, ee, k⟩ := k2 o r rfl
        obtain ⟨as, a, hg, ⟨Ga, na, rs, ha, ar⟩⟩ := pa.last hl
        obtain ⟨ri, eri, _, _, hri, le⟩ := ar.get' ee
        refine ⟨_, rfl, _, rfl, g, _, _, .ref a, rfl, rfl, SqL.of hg, atI_neg1 _ _, _, rfl, a, _, _, .ref ri, rfl, rfl, SqL.of ha, atI_nat (by rw [List.getElem?_map, eri]; rfl), ri, es, rfl, hri, by omega, fun q H1 i1 s1 f1 => ⟨(by show 2 ≤ sizeLine; decide), fun p hp => ?_⟩⟩
        have s2 : Same H1 (upd H1 p (.tup [.str (Str.ofString ""), .ref q])) := same_new hp _
        have t2 : tupV p "" (.ref q) (upd H1 p (.tup [.str (Str.ofString ""), .ref q])) := upd_same
        generalize upd H1 p (.tup [.str (Str.ofString ""), .ref q]) = H2 at s2 t2
        have s02 := s1.trans s2
        refine ⟨_, rfl, t, _, _, .int o, rfl, rfl, SqL.of (s02 _ _ ht), atI_nat (j := 0) rfl, (by show 2 ≤ sizeLine; decide), fun p' hp' => ?_⟩
        exact k p p' q _ (t2.same (same_new hp' _)) ((i1.same s2).same (same_new hp' _)) upd_same (s02.trans (same_new hp' _))
    · cases ms with
      | nil => exact k1 rfl
      | cons o r => exact absurd (decide_eq_true (by simp only [List.map_cons, List.length_cons]; omega)) c1
  have ok : ShOk (itm P) ops := ⟨by unfold itm; rw [List.length_map]; omega, by omega⟩
  have lip : (itm P).length = P.length := by unfold itm; rw [List.length_map]
  obtain ⟨last', hl', _, ol⟩ := W.lastE
  obtain ⟨last, hl, rfl⟩ := itm_last hl'
  rw [List.length_map] at ol
  obtain ⟨as, a, hg, ⟨Ga, na, rs, ha, ar⟩⟩ := pa.last hl
  have lr := ar.len
  obtain ⟨bs, hb, b2⟩ := id pa.at'
  have lb := b2.len
  have hat : atI (as ++ [V.ref a]) (-1) = some (.ref a) := atI_neg1 _ _
  refine ⟨_, rfl, _, rfl, _, rfl, g, _, _, .ref a, rfl, rfl, SqL.of hg, hat, a, _, rfl, .inl (SqL.of ha), _, _, rfl, rfl, _, _, rfl, ?_⟩
  refine for_range (lo := -1) (fun i σ H1 => ∃ (u2 u3 u4 u5 u6 : Option V), σ = [some (.ref x), some (.ref g), u2, u3, u4, u5, u6, none, none] ∧ Same H H1) ⟨none, none, none, none, none, rfl, Same.refl _⟩ ?_ ?_
  case _ =>
    rintro i σ H1 hi ⟨u2, u3, u4, u5, u6, rfl, s1⟩
    rw [List.length_map, lr] at hi
    obtain ⟨s', hs'⟩ : ∃ s' : Int, s' = -1 + (i : Nat) := ⟨_, rfl⟩
    rw [← hs']
    have fs : Fit s' := ⟨by omega, by omega⟩
    have hb1 := s1 _ _ hb
    refine ⟨_, rfl, g, _, rfl, .inl (SqL.of hb1), _, rfl, by rw [List.length_map]; omega, by rw [List.length_map]; omega, fun t ht0 => compF_range (lo := 0) (k := (((bs.map V.ref).length : Nat) : Int).toNat) (fun j σ H2 => ∃ (u : Option V) (ms : List Int), σ = [u, some (.ref g), some (.int s')] ∧ H2 t = some (.lst (ms.map V.int)) ∧ ms.length ≤ j ∧ (¬ InN ops.length s' → ms = []) ∧ (∀ (si : Nat) (o : Int), s' = si → ops[si]? = some o → ((j : Int) ≤ o → ms = []) ∧ (o < (j : Int) → ∃ r, ms = o :: r)) ∧ Same H1 H2) ⟨none, [], rfl, upd_same, Nat.le_refl _, fun _ => rfl, fun si o _ eo => ⟨fun _ => rfl, fun z => absurd (W.opn.fit si o eo).1 (by omega)⟩, same_new ht0 _⟩ ?_ ?_⟩
    · rintro j σ H2 hj ⟨u, ms, rfl, hm, lm, kn, ko, s2⟩
      rw [List.length_map, lb, Int.toNat_natCast] at hj
      have er : P[j]? = some P[j] := List.getElem?_eq_getElem hj
      generalize P[j] = rows at er
      obtain ⟨b, eb, _, _, qs, hqs, aq⟩ := b2.get' er
      have lq := aq.len
      have ei : (itm P)[j]? = some (rows.map itemsOf) := by unfold itm; rw [List.getElem?_map, er]; rfl
      have less := W.opn.less j _ ei
      rw [List.length_map] at less
      have no : ¬ (0 ≤ s' ∧ s' < (rows.length : Nat)) → ∃ (u : Option V) (ms : List Int), [some (V.int ((0 : Int) + (j : Nat))), some (.ref g), some (.int s')] = [u, some (.ref g), some (.int s')] ∧ H2 t = some (.lst (ms.map V.int)) ∧ ms.length ≤ j + 1 ∧ (¬ InN ops.length s' → ms = []) ∧ (∀ (si : Nat) (o : Int), s' = si → ops[si]? = some o → (((j + 1 : Nat) : Int) ≤ o → ms = []) ∧ (o < ((j + 1 : Nat) : Int) → ∃ r, ms = o :: r)) ∧ Same H1 H2 := fun nz => by
        refine ⟨_, ms, rfl, hm, by omega, kn, fun si o es eo => ?_, s2⟩
        obtain ⟨k1, k2⟩ := ko si o es eo
        have iff := (W.opn.fit si o eo).2.2 j _ ei
        rw [List.length_map] at iff
        exact ⟨fun z => k1 (by omega), fun z => k2 (by omega)⟩
      refine ⟨_, rfl, _, _, rfl, rfl, _, rfl, ite2 (fun c1 => ?_) (fun c1 => no fun z => c1 (decide_eq_true z.1))⟩
      have h0 : 0 ≤ s' := of_decide_eq_true c1
      refine ⟨_, rfl, _, rfl, _, rfl, g, _, _, .ref b, rfl, rfl, SqL.of (s2 _ _ hb1), (by rw [Int.zero_add]; exact atI_nat (by rw [List.getElem?_map, eb]; rfl)), b, _, rfl, .inl (SqL.of (s2 _ _ (s1 _ _ hqs))), _, _, rfl, rfl, _, rfl, ite2 (fun c2 => ?_) (fun c2 => no fun z => c2 (decide_eq_true (by rw [List.length_map, lq]; exact z.2)))⟩
      have h1 : s' < ((qs.map V.ref).length : Nat) := of_decide_eq_true c2
      rw [List.length_map, lq] at h1
      refine ⟨_, rfl, _, hm, (by rw [List.length_map]; exact million (by omega)), _, ms ++ [((j : Nat) : Int)], rfl, by rw [upd_same, List.map_append, Int.zero_add]; rfl, by rw [List.length_append]; simp only [List.length_singleton]; omega, fun nI => absurd ⟨h0, by omega⟩ nI, fun si o es eo => ?_, fun q ob e => ?_⟩
      · obtain ⟨k1, k2⟩ := ko si o es eo
        have iff := (W.opn.fit si o eo).2.2 j _ ei
        rw [List.length_map] at iff
        have oj : o ≤ (j : Nat) := iff.mpr (by omega)
        refine ⟨fun z => by omega, fun z => ?_⟩
        by_cases c : o = (j : Nat)
        · rw [k1 (by omega), ← c]
          exact ⟨[], rfl⟩
        · obtain ⟨r, e⟩ := k2 (by omega)
          rw [e]
          exact ⟨r ++ [((j : Nat) : Int)], rfl⟩
      · rw [upd_ne (ne_of_none e ht0)]
        exact s2 _ _ e
    · rintro σ H2 ⟨u, ms, rfl, hm, lm, kn, ko, s2⟩
      rw [List.length_map, lb, Int.toNat_natCast] at ko
      refine ⟨(by show 2 ≤ sizeLine; decide), fun p0 hp0 => ?_⟩
      have s3 : Same H2 (upd H2 p0 (.tup [.str (Str.ofString "sheet"), .non])) := same_new hp0 _
      have t3 : tupV p0 "sheet" .non (upd H2 p0 (.tup [.str (Str.ofString "sheet"), .non])) := upd_same
      generalize upd H2 p0 (.tup [.str (Str.ofString "sheet"), .non]) = H3 at s3 t3
      refine ⟨(by show 2 ≤ sizeLine; decide), fun p1 hp1 => ?_⟩
      have s4 : Same H3 (upd H3 p1 (.tup [.str (Str.ofString "sheet"), .non])) := same_new hp1 _
      have t4 : tupV p1 "sheet" .non (upd H3 p1 (.tup [.str (Str.ofString "sheet"), .non])) := upd_same
      generalize upd H3 p1 (.tup [.str (Str.ofString "sheet"), .non]) = H4 at s4 t4
      have s14 := s2.trans (s3.trans s4)
      have s04 := s1.trans s14
      have split : InN ops.length s' → ∃ (si : Nat) (es : List Int) (o : Int), s' = si ∧ last[si]? = some es ∧ ops[si]? = some o ∧ ∃ r, ms = o :: r := fun is => by
        obtain ⟨si, e1, sl⟩ := is.get
        have eo : ops[si]? = some ops[si] := List.getElem?_eq_getElem sl
        have f := W.opn.fit si _ eo
        rw [lip] at f
        exact ⟨si, last[si]'(by omega), ops[si], e1, List.getElem?_eq_getElem (by omega), eo, (ko si _ e1 eo).2 (by omega)⟩
      refine ⟨_, _, _, _, g, t, p0, p1, s', ms, G, P, last, rfl, pa.same s04, hl, s3.trans s4 _ _ hm, fun em => ?_, fun o r em => ?_⟩
      · have nI : ¬ InN ops.length s' := fun is => by
          obtain ⟨_, _, _, _, _, _, r, e⟩ := split is
          rw [em] at e; cases e
        refine ⟨_, rfl, _, rfl, S, x, d, st, op, itm P, ops, s', rfl, W.same s04, ok, fs, fun si last' its e1 e2 e3 => ?_, fun _ p H5 t5 s5 => ?_⟩
        · rw [hl'] at e2
          cases e2
          have := (List.getElem?_eq_some_iff.mp e3).1
          rw [List.length_map] at this
          exact absurd ⟨by omega, by omega⟩ nI
        · refine ⟨_, rfl, _, rfl, _, _, rfl, tupV_eqv t5 ((t3.same s4).same s5) (.inl ⟨rfl, rfl⟩), fun H6 s6 => ⟨_, rfl, iteF ?_⟩⟩
          have s56 := s5.trans s6
          refine ⟨_, rfl, _, rfl, S, x, d, st, op, itm P, ops, s', rfl, W.same (s04.trans s56), ok, fs, fun si o e1 e2 => absurd ⟨by omega, by have := (List.getElem?_eq_some_iff.mp e2).1; omega⟩ nI, fun _ p' H7 t7 s7 => ?_⟩
          refine ⟨_, rfl, _, _, rfl, tupV_eqv t7 ((t4.same s56).same s7) (.inl ⟨rfl, rfl⟩), fun H8 s8 => ⟨_, rfl, iteF ?_⟩⟩
          have s68 := s6.trans (s7.trans s8)
          exact ⟨_, rfl, p, _, _, .non, rfl, rfl, SqT.of (t5.same s68), at21, _, rfl, iteF ⟨_, _, _, _, _, rfl, s04.trans (s5.trans s68)⟩⟩
      · have is : InN ops.length s' := by
          by_cases z : InN ops.length s'
          · exact z
          · rw [kn z] at em; cases em
        obtain ⟨si, es, o', e1, ees, eo, r', em'⟩ := split is
        rw [em] at em'
        cases em'
        refine ⟨si, es, e1, ees, fun p p' q H5 t5 i5 t5' s5 => ?_⟩
        have s05 := s04.trans s5
        refine ⟨_, rfl, _, rfl, S, x, d, st, op, itm P, ops, s', rfl, W.same s05, ok, fs, fun si2 last' its e2 e3 e4 q2 p2 H6 t6 i6 s6 f6 => ?_, fun nI => absurd is nI⟩
        rw [hl'] at e3
        cases e3
        have q1 : si2 = si := by omega
        subst q1
        rw [List.getElem?_map, ees] at e4
        cases e4
        refine ⟨_, rfl, _, rfl, _, _, rfl, tupV_eqv t6 (t5.same s6) (i6.eqv 1 (i5.same s6)), fun H7 s7 => ⟨_, rfl, iteF ?_⟩⟩
        have s67 := s6.trans s7
        refine ⟨_, rfl, _, rfl, S, x, d, st, op, itm P, ops, s', rfl, W.same (s05.trans s67), ok, fs, fun si3 o3 e5 e6 p3 H8 t8 s8 => ?_, fun nI => absurd is nI⟩
        have q1 : si3 = si2 := by omega
        subst q1
        rw [eo] at e6
        cases e6
        refine ⟨_, rfl, _, _, rfl, tupV_eqv t8 ((t5'.same s67).same s8) (.inl ⟨rfl, rfl⟩), fun H9 s9 => ⟨_, rfl, iteF ?_⟩⟩
        have s79 := s7.trans (s8.trans s9)
        have t9 := t6.same s79
        obtain ⟨q0, vs, eq0, hq9, it9⟩ := i6.same s79
        cases eq0
        have lvs := it9.len
        have := itemsOf_le es
        have sml : es.length ≤ 10 := by
          obtain ⟨_, _, _, _, _, le⟩ := ar.get' ees
          exact le
        refine ⟨_, rfl, p2, _, _, .ref q2, rfl, rfl, SqT.of t9, at21, _, rfl, iteT ⟨_, rfl, p2, _, _, .ref q2, rfl, rfl, SqT.of t9, at21, .inl ⟨rfl, _, SqL.of hq9⟩, (by show 2 ≤ sizeLine; decide), fun z hz => ⟨q2, _, _, rfl, rfl, same_new hz _ _ _ hq9, million (by omega), _, _, _, _, _, rfl, fun b ob e => ?_⟩⟩⟩
        rw [upd_ne (ne_of_none (s05 _ _ e) f6)]
        exact same_new hz _ _ _ (s79 _ _ (s6 _ _ (s05 _ _ e)))
  rintro σ H1 ⟨u2, u3, u4, u5, u6, rfl, s1⟩
  have lll : last.length ≤ 200 := by omega
  refine ⟨_, rfl, _, rfl, g, _, _, .ref a, rfl, rfl, SqL.of (s1 _ _ hg), hat, a, rfl, ⟨_, SqL.of (s1 _ _ ha)⟩, fun acc hacc => compF_list (K := K) (a := a) (xs := rs.map V.ref) (fun j σ H2 => ∃ (u : Option V) (vs : List V), σ = [u] ∧ H2 acc = some (.lst vs) ∧ Same H1 H2 ∧ (∀ v ∈ vs, v ≠ .ref acc) ∧ All2 (ItemsAt H2) vs ((last.take j).map itemsOf)) ⟨none, [], rfl, upd_same, same_new hacc _, fun v hv => (by cases hv), by rw [List.take_zero]; exact .nil⟩ (fun j σ H2 _ ⟨_, _, _, _, s, _⟩ => SqL.of (s _ _ (s1 _ _ ha))) ?_ ?_⟩
  · rintro j y σ H2 hj ⟨u, vs, rfl, hac, s2, nv, av⟩
    rw [List.getElem?_map] at hj
    obtain ⟨ri, eri, rfl⟩ := Option.map_eq_some_iff.mp hj
    obtain ⟨es, ees, _, _, hc, le⟩ := ar.get eri
    have lav := av.len
    rw [List.length_map, List.length_take] at lav
    refine ⟨_, rfl, ri, es, rfl, s2 _ _ (s1 _ _ hc), by omega, fun o H3 io s3 fo => ⟨_, s3 _ _ hac, million (by omega), _, vs ++ [.ref o], rfl, upd_same, fun q ob e => ?_, fun v hv => ?_, ?_⟩⟩
    · rw [upd_ne (ne_of_none e hacc)]
      exact s3 _ _ (s2 _ _ e)
    · rcases List.mem_append.mp hv with z | z
      · exact nv v z
      · rw [List.mem_singleton.mp z]
        intro w
        cases w
        rw [hac] at fo; cases fo
    · have fr : ∀ q ob, H3 q = some ob → q ≠ acc → (upd H3 acc (.lst (vs ++ [.ref o]))) q = some ob := fun q ob e n => by rw [upd_ne n]; exact e
      have tu : ∀ q xs, H3 q = some (.tup xs) → (upd H3 acc (.lst (vs ++ [.ref o]))) q = some (.tup xs) := fun q xs e => fr _ _ e (ne_of e (s3 _ _ hac) (by intro w; cases w))
      have noa : o ≠ acc := (ne_of_none hac fo).symm
      rw [take_snoc ees, List.map_append]
      refine All2.snoc (all2_mem av fun v its hv z => ?_) (io.fr (fun xs e => fr _ _ e noa) tu)
      obtain ⟨q, ws, rfl, hq, it⟩ := z
      exact ItemsAt.fr (H := H3) ⟨q, ws, rfl, s3 _ _ hq, it.mono fun _ _ w => w.same s3⟩ (fun xs e => fr _ _ e (fun w => nv _ hv (by rw [w]))) tu
  rintro σ H2 ⟨u, vs, rfl, hac, s2, nv, av⟩
  rw [List.length_map, lr, List.take_length] at av
  have s02 := s1.trans s2
  have sh2 : SheetsAt H2 acc (last.map itemsOf) := ⟨vs, hac, av⟩
  have W2 := W.same s02
  refine ⟨_, rfl, x, d, _, rfl, W2.hx, rfl, S, x, d, st, op, itm P, ops, rfl, W2, ok, fun rows' el q H3 fs s3 => ?_⟩
  rw [hl'] at el
  cases el
  obtain ⟨fq, rs3, hq3, ar3⟩ := fs
  have sh3 : SheetsAt H3 q (last.map itemsOf) := ⟨rs3.map V.ref, hq3, all2_ref ar3 fun r its z => z.2.2⟩
  refine ⟨_, rfl, _, rfl, _, _, rfl, sh3.eqv 1 (sh2.same s3), fun H4 s4 => ⟨_, rfl, iteF ?_⟩⟩
  have s34 := s3.trans s4
  have W4 := W.same (s02.trans s34)
  have lvs : vs.length = ops.length := by rw [av.len, List.length_map]; omega
  refine ⟨_, rfl, x, d, _, rfl, W4.hx, rfl, S, x, d, st, op, itm P, ops, rfl, W4, _, rfl, acc, _, rfl, .inl (SqL.of (s34 _ _ hac)), _, _, rfl, .inl ⟨rfl, by rw [lvs]⟩, fun H5 s5 => ⟨_, rfl, iteF ?_⟩⟩
  have s35 := s4.trans s5
  have hq5 := s35 _ _ hq3
  have l3 := ar3.len
  rw [List.length_map] at l3
  have nq : q ∉ rs3 := fun hr => by
    obtain ⟨k', hk⟩ := List.getElem?_of_mem hr
    obtain ⟨its, _, _, n, _⟩ := ar3.get hk
    exact n rfl
  refine ⟨_, rfl, q, rfl, ⟨_, SqL.of hq5⟩, for_list (K := K) (a := q) (xs := rs3.map V.ref) (fun i σ H6 => ∃ (u2 u3 u4 u5 u8 : Option V), σ = [some (.ref x), some (.ref g), u2, u3, u4, u5, some (.ref q), some (.ref acc), u8] ∧ (∀ b ob, H5 b = some ob → b ∉ rs3 → H6 b = some ob) ∧ ∀ r ∈ rs3, ∃ vs, H6 r = some (.lst vs) ∧ vs.length ≤ 20 + i) ⟨_, _, _, _, none, rfl, fun _ _ e _ => e, fun r hr => ?_⟩ (fun i σ H6 _ ⟨_, _, _, _, _, _, k6, _⟩ => SqL.of (k6 _ _ hq5 nq)) ?_ ?_⟩
  · obtain ⟨k', hk⟩ := List.getElem?_of_mem hr
    obtain ⟨its, eits, _, _, hi⟩ := ar3.get hk
    rw [List.getElem?_map] at eits
    obtain ⟨es, ee, rfl⟩ := Option.map_eq_some_iff.mp eits
    obtain ⟨b, ws, eb, hb', it⟩ := hi
    cases eb
    obtain ⟨_, _, _, _, _, le⟩ := ar.get' ee
    have := itemsOf_le es
    have := it.len
    exact ⟨ws, s35 _ _ hb', by omega⟩
  · rintro i y σ H6 hi ⟨u2, u3, u4, u5, u8, rfl, k6, a6⟩
    rw [List.getElem?_map] at hi
    obtain ⟨r, er, rfl⟩ := Option.map_eq_some_iff.mp hi
    have il := (List.getElem?_eq_some_iff.mp er).1
    obtain ⟨ws, hr6, lw⟩ := a6 r (List.mem_of_getElem? er)
    refine ⟨_, rfl, .inl ⟨rfl, _, SqL.of hr6⟩, (by show 2 ≤ sizeLine; decide), fun z hz => ⟨r, _, _, rfl, rfl, same_new hz _ _ _ hr6, million (by omega), _, _, _, _, _, rfl, fun b ob e n => ?_, fun r' hr' => ?_⟩⟩
    · rw [upd_ne (fun w => n (by rw [w]; exact List.mem_of_getElem? er))]
      exact same_new hz _ _ _ (k6 _ _ e n)
    · obtain ⟨ws', h', lw'⟩ := a6 r' hr'
      by_cases c : r' = r
      · subst c
        rw [hr6] at h'
        cases h'
        exact ⟨_, upd_same, by rw [List.length_append]; simp only [List.length_singleton]; omega⟩
      · exact ⟨ws', (by rw [upd_ne c]; exact same_new hz _ _ _ h'), by omega⟩
  rintro σ H6 ⟨u2', u3', u4', u5', u8, rfl, k6, a6⟩
  have hq6 := k6 _ _ hq5 nq
  refine ⟨_, rfl, .inl ⟨rfl, _, SqL.of hq6⟩, (by show 0 ≤ sizeLine; decide), fun z hz => ⟨q, _, _, rfl, rfl, same_new hz _ _ _ hq6, (by rw [List.length_map]; exact million (by omega)), ?_⟩⟩
  have k7 : Keep q H6 (upd (upd H6 z (.lst [])) q (.lst (rs3.map V.ref ++ [.ref z]))) := fun b ob e n => by
    rw [upd_ne n]
    exact same_new hz _ _ _ e
  generalize upd (upd H6 z (.lst [])) q (.lst (rs3.map V.ref ++ [.ref z])) = H7 at k7
  have s27 : Same H2 H7 := fun b ob e => by
    refine k7 _ _ (k6 _ _ (s5 _ _ (s34 _ _ e)) fun hr => ?_) (ne_of_none e fq)
    obtain ⟨k', hk⟩ := List.getElem?_of_mem hr
    obtain ⟨its, _, f, _⟩ := ar3.get hk
    rw [e] at f; cases f
  have W7 := W.same (s02.trans s27)
  refine ⟨_, rfl, x, d, _, rfl, W7.hx, rfl, S, x, d, st, op, itm P, ops, rfl, W7, ok, fun rows' el q2 H8 fs s8 => ?_⟩
  rw [hl'] at el
  cases el
  obtain ⟨fq2, rs8, hq8, ar8⟩ := fs
  have sh8 : SheetsAt H8 q2 (last.map itemsOf) := ⟨rs8.map V.ref, hq8, all2_ref ar8 fun r its z => z.2.2⟩
  refine ⟨_, rfl, _, _, rfl, sh8.eqv 1 (sh2.same (s27.trans s8)), fun H9 s9 => ⟨_, rfl, iteF ?_⟩⟩
  have s09 := s02.trans (s27.trans (s8.trans s9))
  have W9 := W.same s09
  obtain ⟨as9, hs9, a9⟩ := W9.hs
  have l9 := a9.len
  refine ⟨_, rfl, x, d, _, rfl, W9.hx, rfl, x, d, st, op, _, rfl, W9.hx, hs9, _, rfl, g, _, rfl, .inl (SqL.of (s09 _ _ hb)), _, _, rfl, rfl, _, _, rfl, .inl ⟨rfl, by rw [List.length_map, List.length_map, l9, lb, lip]⟩, fun H10 s10 => k H10 (s09.trans s10)⟩

section
variable {C : Addr} {H H' : Hp} {l c : Addr} {x d st op g : Addr} {S G : Addr → Prop} {P : Ent} {ops : List Int}
theorem Wk.fr (h : Wk C H l c x d st op g S G P ops) (s : SrcOk H' l c) (k : ∀ q ob, H q = some ob → S q ∨ G q → H' q = some ob) (t : ∀ q xs, H q = some (.tup xs) → H' q = some (.tup xs)) : Wk C H' l c x d st op g S G P ops :=
  ⟨s, h.sh.fr (fun q ob e z => k _ _ e (.inl z)) t, h.pa.fr fun q ob e z => k _ _ e (.inr z), h.dj, h.nl, h.ln⟩
end
structure Wd (C : Addr) (H : Hp) (l c x0 d0 t0 o0 g0 x1 d1 t1 o1 g1 : Addr) (S0 G0 S1 G1 : Addr → Prop) (P0 P1 : Ent) (p0 p1 : List Int) : Prop where
  a : Wk C H l c x0 d0 t0 o0 g0 S0 G0 P0 p0
  b : Wk C H l c x1 d1 t1 o1 g1 S1 G1 P1 p1
  dj : ∀ q, (S0 q ∨ G0 q) → ¬ (S1 q ∨ G1 q)
section
variable {C : Addr} {H H' : Hp} {l c x0 d0 t0 o0 g0 x1 d1 t1 o1 g1 : Addr} {S0 G0 S1 G1 S' G' : Addr → Prop} {P0 P1 P' : Ent} {p0 p1 p' : List Int}
theorem Wd.swap (h : Wd C H l c x0 d0 t0 o0 g0 x1 d1 t1 o1 g1 S0 G0 S1 G1 P0 P1 p0 p1) : Wd C H l c x1 d1 t1 o1 g1 x0 d0 t0 o0 g0 S1 G1 S0 G0 P1 P0 p1 p0 := ⟨h.b, h.a, fun q z w => h.dj q w z⟩
theorem Wd.mv (h : Wd C H l c x0 d0 t0 o0 g0 x1 d1 t1 o1 g1 S0 G0 S1 G1 P0 P1 p0 p1) (k : Keep l H H') (s : SrcOk H' l c) : Wd C H' l c x0 d0 t0 o0 g0 x1 d1 t1 o1 g1 S0 G0 S1 G1 P0 P1 p0 p1 := by
  obtain ⟨ls, hl⟩ := h.a.src.lst
  have t : ∀ q xs, H q = some (.tup xs) → H' q = some (.tup xs) := fun q xs e => k _ _ e (ne_of e hl (by intro z; cases z))
  refine ⟨h.a.fr s (fun q ob e z => k _ _ e fun w => ?_) t, h.b.fr s (fun q ob e z => k _ _ e fun w => ?_) t, h.dj⟩
  · rcases z with z | z
    · exact h.a.nl.1 (by rw [← w]; exact z)
    · exact h.a.nl.2.2.1 (by rw [← w]; exact z)
  · rcases z with z | z
    · exact h.b.nl.1 (by rw [← w]; exact z)
    · exact h.b.nl.2.2.1 (by rw [← w]; exact z)
theorem Wd.step (h : Wd C H l c x0 d0 t0 o0 g0 x1 d1 t1 o1 g1 S0 G0 S1 G1 P0 P1 p0 p1) (w : Wk C H' l c x0 d0 t0 o0 g0 S' G' P' p') (u1 : ∀ q, S' q → S0 q ∨ H q = none) (u2 : ∀ q, G' q → G0 q ∨ H q = none) (fr : ∀ q ob, H q = some ob → ¬ S0 q → q ≠ l → q ≠ g0 → H' q = some ob) (tu : ∀ q xs, H q = some (.tup xs) → H' q = some (.tup xs)) : Wd C H' l c x0 d0 t0 o0 g0 x1 d1 t1 o1 g1 S' G' S1 G1 P' P1 p' p1 := by
  refine ⟨w, h.b.fr w.src (fun q ob e z => fr _ _ e (fun y => h.dj q (.inl y) z) (fun y => ?_) (fun y => h.dj q (.inr (by rw [y]; exact h.a.pa.own)) z)) tu, fun q z y => ?_⟩
  · rcases z with z | z
    · exact h.b.nl.1 (by rw [← y]; exact z)
    · exact h.b.nl.2.2.1 (by rw [← y]; exact z)
  · have al : ∃ ob, H q = some ob := by
      rcases y with y | y
      · exact h.b.sh.al q y
      · exact h.b.pa.al q y
    obtain ⟨ob, e⟩ := al
    rcases z with z | z
    · rcases u1 q z with v | v
      · exact h.dj q (.inl v) y
      · rw [e] at v; cases v
    · rcases u2 q z with v | v
      · exact h.dj q (.inr v) y
      · rw [e] at v; cases v
end
def k23T (C : Addr) : TS := fun D σ H => ∃ (s0 s6 : Option V) (l c x0 d0 t0 o0 g0 x1 d1 t1 o1 g1 : Addr) (S0 G0 S1 G1 : Addr → Prop) (P0 P1 : Ent) (p0 p1 : List Int), σ = [s0, some (.ref l), some (.ref x0), some (.ref g0), some (.ref x1), some (.ref g1), s6] ∧ Wd C H l c x0 d0 t0 o0 g0 x1 d1 t1 o1 g1 S0 G0 S1 G1 P0 P1 p0 p1 ∧ P1.length ≤ 40 ∧ p1.length ≤ 90 ∧
  ∀ (H' : Hp) (S1' G1' : Addr → Prop) (P1' : Ent) (p1' : List Int), Wd C H' l c x0 d0 t0 o0 g0 x1 d1 t1 o1 g1 S0 G0 S1' G1' P0 P1' p0 p1' → P1'.length ≤ P1.length + 1 → p1'.length ≤ p1.length + 2 → D.nx [s0, some (.ref l), some (.ref x0), some (.ref g0), some (.ref x1), some (.ref g1), s6] H'
abbrev slaw : Stmt := top 22
theorem sclaw : FnScope ["_law_script", "_law_src_here", "_law_shelf", "_law_past", "_law_other", "_law_seen", "_law_k"] ["_law_script"] (defScope slaw) := ⟨rfl, rfl, rfl, by decide +kernel, rfl, by decide +kernel, by decide +kernel⟩
set_option maxHeartbeats 4000000 in
theorem ok_law {f x0 x1 x2 x3 x4 x5 x6 x7 x8 x9 x10 x11 x12 x13 x14 x15 x16 x17 x18 x19 x20 x21 x22 x23 x24 x25 x26 : Addr} {fd y0 y1 y2 y3 y4 y5 y6 y7 y8 y9 y10 y11 y12 y13 y14 y15 y16 y17 y18 y19 y20 y21 y22 y23 y24 y25 y26 : FuncData} {CShelf : Addr} (F : Fun K "law" "law" slaw f fd) (T : Nms mg) {XNoSheet : Addr} {XNoMoment : Addr} (ZNoSheet : ExcN K mg "NoSheet" XNoSheet) (ZNoMoment : ExcN K mg "NoMoment" XNoMoment) (Zn : PySem.W.exmOne K (.ref XNoMoment) (.ref XNoSheet) = some false) (d_law_src : DefAt K mg "_law_src" s_law_src ["_law_script"] x0 y0)
    (d_law_next : DefAt K mg "_law_next" s_law_next ["_law_src_here", "_law_base"] x1 y1)
    (d_law_whole : DefAt K mg "_law_whole" s_law_whole ["_law_found"] x2 y2)
    (d_law_same : DefAt K mg "_law_same" s_law_same ["_law_found", "_law_due_here"] x3 y3)
    (d_law_items_of : DefAt K mg "_law_items_of" s_law_items_of ["_law_entries"] x4 y4)
    (dchanged : DefAt K mg "changed" schanged ["state", "sheet", "items"] x5 y5)
    (dShelf___init__ : MetAt K CShelf "__init__" "Shelf.__init__" sShelf___init__ ["self"] x6 y6)
    (dShelf_now : MetAt K CShelf "now" "Shelf.now" sShelf_now ["self"] x7 y7)
    (dShelf_many : MetAt K CShelf "many" "Shelf.many" sShelf_many ["self"] x8 y8)
    (dShelf_step : MetAt K CShelf "step" "Shelf.step" sShelf_step ["self", "changes"] x9 y9)
    (dShelf_check_sheet : MetAt K CShelf "check_sheet" "Shelf.check_sheet" sShelf_check_sheet ["self", "sheet"] x10 y10)
    (dShelf_check_moment : MetAt K CShelf "check_moment" "Shelf.check_moment" sShelf_check_moment ["self", "moment"] x11 y11)
    (dShelf_check_then : MetAt K CShelf "check_then" "Shelf.check_then" sShelf_check_then ["self", "sheet", "moment"] x12 y12)
    (dShelf_row : MetAt K CShelf "row" "Shelf.row" sShelf_row ["self", "sheet"] x13 y13)
    (dShelf_row_then : MetAt K CShelf "row_then" "Shelf.row_then" sShelf_row_then ["self", "sheet", "moment"] x14 y14)
    (dShelf_rows_then : MetAt K CShelf "rows_then" "Shelf.rows_then" sShelf_rows_then ["self", "moment"] x15 y15)
    (dShelf_rows : MetAt K CShelf "rows" "Shelf.rows" sShelf_rows ["self"] x16 y16)
    (dShelf_opened : MetAt K CShelf "opened" "Shelf.opened" sShelf_opened ["self", "sheet"] x17 y17)
    (d_law_row_then_or : DefAt K mg "_law_row_then_or" s_law_row_then_or ["_law_shelf", "_law_sheet", "_law_moment"] x18 y18)
    (d_law_row_or : DefAt K mg "_law_row_or" s_law_row_or ["_law_shelf", "_law_sheet"] x19 y19)
    (d_law_opened_or : DefAt K mg "_law_opened_or" s_law_opened_or ["_law_shelf", "_law_sheet"] x20 y20)
    (d_law_rows_then_or : DefAt K mg "_law_rows_then_or" s_law_rows_then_or ["_law_shelf", "_law_moment"] x21 y21)
    (d_law_line_by : DefAt K mg "_law_line_by" s_law_line_by ["_law_src_here", "_law_many"] x22 y22)
    (d_law_due : DefAt K mg "_law_due" s_law_due ["_law_past", "_law_sheet", "_law_moment"] x23 y23)
    (d_law_step : DefAt K mg "_law_step" s_law_step ["_law_src_here", "_law_shelf", "_law_past"] x24 y24)
    (d_law_moments_right : DefAt K mg "_law_moments_right" s_law_moments_right ["_law_shelf", "_law_past"] x25 y25)
    (d_law_now_right : DefAt K mg "_law_now_right" s_law_now_right ["_law_shelf", "_law_past"] x26 y26) (cShelf : ClsAt K mg "Shelf" CShelf x6) (nstates : NoAttr K CShelf "states") (nopenings : NoAttr K CShelf "openings") : FnOk P w K mg base CX0 9 f fd ["_law_script"] (spLaw K) := by
  have M : ShM K mg CShelf XNoSheet XNoMoment := ⟨T, ⟨_, cShelf⟩, nstates, nopenings, ZNoSheet, ZNoMoment⟩
  have g_law_src : FnOk P w K mg base CX0 1 _ _ ["_law_script"] (spSrc K) := ok_law_src d_law_src.F T
  have g_law_next : FnOk P w K mg base CX0 1 _ _ ["_law_src_here", "_law_base"] spNext := ok_law_next d_law_next.F T
  have gShelf___init__ : FnOk P w K mg base CX0 1 _ _ ["self"] (spSInit CShelf) := ok_Shelf___init__ dShelf___init__.F cShelf.cl nstates nopenings
  have g_law_step : FnOk P w K mg base CX0 7 _ _ ["_law_src_here", "_law_shelf", "_law_past"] (spLStep CShelf) := ok_law_step d_law_step.F M d_law_next d_law_line_by d_law_items_of dchanged dShelf_now dShelf_step
  have gShelf_row : FnOk P w K mg base (CX1 P w) 3 _ _ ["self", "sheet"] (spRow CShelf XNoSheet) := ok_Shelf_row dShelf_row.F M dShelf_many dShelf_check_sheet
  have gShelf_row_then : FnOk P w K mg base (CX1 P w) 4 _ _ ["self", "sheet", "moment"] (spRowThen CShelf XNoSheet XNoMoment) := ok_Shelf_row_then dShelf_row_then.F M dShelf_many dShelf_now dShelf_check_sheet dShelf_check_moment dShelf_check_then
  have gShelf_opened : FnOk P w K mg base (CX1 P w) 3 _ _ ["self", "sheet"] (spOpened CShelf XNoSheet) := ok_Shelf_opened dShelf_opened.F M dShelf_many dShelf_check_sheet
  have gShelf_rows_then : FnOk P w K mg base (CX1 P w) 3 _ _ ["self", "moment"] (spRowsThen CShelf XNoMoment) := ok_Shelf_rows_then dShelf_rows_then.F M dShelf_now dShelf_check_moment
  have gShelf_rows : FnOk P w K mg base CX0 4 _ _ ["self"] (spRows CShelf) := ok_Shelf_rows dShelf_rows.F M dShelf_now dShelf_check_moment dShelf_rows_then
  have g_law_row_then_or : FnOk P w K mg base CX0 5 _ _ ["_law_shelf", "_law_sheet", "_law_moment"] (spRowThenOr CShelf) := ok_law_row_then_or d_law_row_then_or.F M Zn dShelf_row_then gShelf_row_then
  have g_law_row_or : FnOk P w K mg base CX0 4 _ _ ["_law_shelf", "_law_sheet"] (spRowOr CShelf) := ok_law_row_or d_law_row_or.F M dShelf_row gShelf_row
  have g_law_opened_or : FnOk P w K mg base CX0 4 _ _ ["_law_shelf", "_law_sheet"] (spOpenedOr CShelf) := ok_law_opened_or d_law_opened_or.F M dShelf_opened gShelf_opened
  have g_law_rows_then_or : FnOk P w K mg base CX0 4 _ _ ["_law_shelf", "_law_moment"] (spRowsThenOr CShelf) := ok_law_rows_then_or d_law_rows_then_or.F M dShelf_rows_then gShelf_rows_then
  have g_law_moments_right : FnOk P w K mg base CX0 7 _ _ ["_law_shelf", "_law_past"] (spMR CShelf) := ok_law_moments_right (XS := XNoSheet) (XM := XNoMoment) d_law_moments_right.F T d_law_whole d_law_same d_law_items_of d_law_due d_law_row_then_or g_law_row_then_or d_law_rows_then_or g_law_rows_then_or
  have g_law_now_right : FnOk P w K mg base CX0 7 _ _ ["_law_shelf", "_law_past"] (spNR CShelf) := ok_law_now_right d_law_now_right.F M d_law_whole d_law_same d_law_items_of d_law_row_or g_law_row_or d_law_opened_or g_law_opened_or dShelf_rows gShelf_rows dShelf_now dShelf_many
  refine F.ok sclaw (fun vs H Q E h => ?_) (fun cdv A outer s H vs Q E hr h => ?_)
  · obtain ⟨a, ns, rfl, _⟩ := h
    rfl
  obtain ⟨a, ns, rfl, hS, h63, k⟩ := h
  refine ⟨_, (pss_cons (ps_set (i := 1) sclaw.nd rfl (Or.inl rfl) (pe_def d_law_src g_law_src hr (pa_cons (pv 0) pa_nil)))
      (pss_cons (ps_set (i := 2) sclaw.nd rfl (Or.inl rfl) (pe_make0 cShelf.mak gShelf___init__ (hr.mono (by decide)) rfl cShelf.m dShelf___init__.b .nil pass0))
      (pss_cons (ps_set (i := 3) sclaw.nd rfl (Or.inl rfl) (pe_lst (pa_cons (pe_lst pa_nil) pa_nil)))
      (pss_cons (ps_set (i := 4) sclaw.nd rfl (Or.inl rfl) (pe_make0 cShelf.mak gShelf___init__ (hr.mono (by decide)) rfl cShelf.m dShelf___init__.b .nil pass0))
      (pss_cons (ps_set (i := 5) sclaw.nd rfl (Or.inl rfl) (pe_lst (pa_cons (pe_lst pa_nil) pa_nil)))
      (pss_cons (ps_for PassesOwn.never rfl (pi_range1 rfl T.n_range (pa_cons (pe_def d_law_next g_law_next hr (pa_cons (pv 1) (pa_cons pe_int pa_nil))) pa_nil)) (pg_name (i := 6) sclaw.nd rfl (Or.inl rfl))
      (pss_cons (ps_if (pt_not (pt_val (pe_def d_law_step g_law_step hr (pa_cons (pv 1) (pa_cons (pv 2) (pa_cons (pv 3) pa_nil))))))
      (pss_one (ps_ret pe_bl))
      pss_nil)
      (pss_cons (ps_imp (t' := k23T CShelf) (ps_if (PW.pt (pw_and (pt_cmpR op_eq (pe_def d_law_next g_law_next hr (pa_cons (pv 1) (pa_cons pe_int pa_nil))) pe_int (nomark _)) (pw_and1 (pt_not (pt_val (pe_def d_law_step g_law_step hr (pa_cons (pv 1) (pa_cons (pv 4) (pa_cons (pv 5) pa_nil)))))))))
      (pss_one (ps_ret pe_bl))
      pss_nil) ?b1)
      (pss_one (ps_if (pt_not (pt_val (pe_def d_law_now_right g_law_now_right hr (pa_cons (pv 2) (pa_cons (pv 3) pa_nil)))))
      (pss_one (ps_ret pe_bl))
      pss_nil)))))
      (pss_one (ps_ret (pe_and (pe_def d_law_moments_right g_law_moments_right hr (pa_cons (pv 2) (pa_cons (pv 3) pa_nil))) (pe_and (pe_def d_law_now_right g_law_now_right hr (pa_cons (pv 4) (pa_cons (pv 5) pa_nil))) (pe_one (pe_def d_law_now_right g_law_now_right hr (pa_cons (pv 2) (pa_cons (pv 3) pa_nil)))))))))))))), ?_⟩
  case b1 =>
    rintro D σ H ⟨s0, s6, l, c, x0, d0, t0, o0, g0, x1, d1, t1, o1, g1, S0, G0, S1, G1, P0, P1, p0, p1, rfl, W, l1, l2, k⟩
    refine ⟨_, rfl, l, c, 6, rfl, W.a.src, by decide, by decide, fun v H1 _ _ S1' k1 => ⟨rfl, _, rfl, ite2 (fun _ => ?_) (fun _ => k H1 S1 G1 P1 p1 (W.mv (fun b ob e n => (k1 b n).trans e) S1') (Nat.le_succ _) (by omega))⟩⟩
    have W1 := W.mv (fun b ob e n => (k1 b n).trans e) S1'
    refine ⟨_, rfl, _, rfl, _, rfl, S1, G1, l, c, x1, d1, t1, o1, g1, P1, p1, rfl, W1.b, by omega, by omega, fun S' G' rows ops' H2 w2 lo u1 u2 fr tu => ⟨_, rfl, iteF ?_⟩⟩
    exact k H2 S' G' _ ops' (W1.swap.step w2 u1 u2 fr tu).swap (by rw [List.length_append]; exact Nat.le_refl _) lo
  refine ⟨_, rfl, a, ns, rfl, hS, fun l c H1 S1 s1 _ _ => ?_⟩
  have mk : ∀ (Ha Hb Hc : Hp) (x d st op z y g : Addr), (∃ ob, Ha l = some ob) → (∃ ob, Ha c = some ob) → Ha x = none → Ha st = none → Ha op = none → Ha z = none → Sh CShelf (fun q => q = x ∨ q = st ∨ q = op ∨ q = z) Hb x d st op [[]] [] → Same Ha Hb → Hb y = none → Same Hb Hc → Hc y = some (.lst []) → Hc g = some (.lst [.ref y]) → Hb g = none → y ≠ g → SrcOk Hc l c → Wk CShelf Hc l c x d st op g (fun q => q = x ∨ q = st ∨ q = op ∨ q = z) (fun q => q = g ∨ q = y) [[]] [] := by
    intro Ha Hb Hc x d st op z y g ⟨ol, hl⟩ ⟨oc, hc⟩ fx fs fo fz sh sab fy sbc hy hg fg nyg src
    have nin : ∀ q ob, Ha q = some ob → ¬ (q = x ∨ q = st ∨ q = op ∨ q = z) := fun q ob e w => by
      rcases w with rfl | rfl | rfl | rfl
      · rw [e] at fx; cases fx
      · rw [e] at fs; cases fs
      · rw [e] at fo; cases fo
      · rw [e] at fz; cases fz
    refine ⟨src, sh.same sbc, ⟨.inl rfl, fun q w => ?_, [y], hg, .cons ⟨.inr rfl, nyg, [], hy, .nil⟩ .nil⟩, fun q w v => ?_, ⟨nin _ _ hl, nin _ _ hc, fun w => ?_, fun w => ?_⟩, by decide, by decide⟩
    · rcases w with rfl | rfl
      · exact ⟨_, hg⟩
      · exact ⟨_, hy⟩
    · obtain ⟨ob, e⟩ := sh.al q w
      rcases v with rfl | rfl
      · rw [e] at fg; cases fg
      · rw [e] at fy; cases fy
    · rcases w with w | w
      · rw [← w, sab _ _ hl] at fg; cases fg
      · rw [← w, sab _ _ hl] at fy; cases fy
    · rcases w with w | w
      · rw [← w, sab _ _ hc] at fg; cases fg
      · rw [← w, sab _ _ hc] at fy; cases fy
  obtain ⟨hl1, hc1⟩ := S1.has
  -- the first shelf and its past
  intro x0 d0 hx0 hd0 e0
  refine ⟨x0, d0, rfl, upd_same, fun t0 o0 z0 H2 b0 k0 ft0 fo0 fz0 => ⟨rfl, ?_⟩⟩
  have sa : Same H1 (upd (upd H1 d0 (.own x0)) x0 (.ins CShelf d0 [])) := (same_new hd0 _).trans (same_new (by rw [upd_ne e0.symm]; exact hx0) _)
  have s2 : Same H1 H2 := keep_of hx0 sa k0
  refine ⟨(by show 0 ≤ sizeLine; decide), fun y0 hy0 => ?_⟩
  have s3 : Same H2 (upd H2 y0 (.lst [])) := same_new hy0 _
  have y3 : (upd H2 y0 (.lst [])) y0 = some (.lst []) := upd_same
  generalize upd H2 y0 (.lst []) = H3 at s3 y3
  refine ⟨(by show 1 ≤ sizeLine; decide), fun g0 hg0 => ?_⟩
  have s4 : Same H3 (upd H3 g0 (.lst [.ref y0])) := same_new hg0 _
  have g4 : (upd H3 g0 (.lst [.ref y0])) g0 = some (.lst [.ref y0]) := upd_same
  generalize upd H3 g0 (.lst [.ref y0]) = H4 at s4 g4
  have s24 := s3.trans s4
  have s14 := s2.trans s24
  have S4 := S1.same s14
  have W4 := mk H1 H2 H4 x0 d0 t0 o0 z0 y0 g0 hl1 hc1 hx0 (free_same sa ft0) (free_same sa fo0) (free_same sa fz0) b0 s2 hy0 s24 (s4 _ _ y3) g4 (free_same s3 hg0) (ne_of_none y3 hg0) S4
  -- the second
  obtain ⟨hl4, hc4⟩ := S4.has
  intro x1 d1 hx1 hd1 e1
  refine ⟨x1, d1, rfl, upd_same, fun t1 o1 z1 H5 b1 k1 ft1 fo1 fz1 => ⟨rfl, ?_⟩⟩
  have sb : Same H4 (upd (upd H4 d1 (.own x1)) x1 (.ins CShelf d1 [])) := (same_new hd1 _).trans (same_new (by rw [upd_ne e1.symm]; exact hx1) _)
  have s5 : Same H4 H5 := keep_of hx1 sb k1
  refine ⟨(by show 0 ≤ sizeLine; decide), fun y1 hy1 => ?_⟩
  have s6 : Same H5 (upd H5 y1 (.lst [])) := same_new hy1 _
  have y6 : (upd H5 y1 (.lst [])) y1 = some (.lst []) := upd_same
  generalize upd H5 y1 (.lst []) = H6 at s6 y6
  refine ⟨(by show 1 ≤ sizeLine; decide), fun g1 hg1 => ?_⟩
  have s7 : Same H6 (upd H6 g1 (.lst [.ref y1])) := same_new hg1 _
  have g7 : (upd H6 g1 (.lst [.ref y1])) g1 = some (.lst [.ref y1]) := upd_same
  generalize upd H6 g1 (.lst [.ref y1]) = H7 at s7 g7
  have s57 := s6.trans s7
  have s47 := s5.trans s57
  have S7 := S4.same s47
  have W7 := mk H4 H5 H7 x1 d1 t1 o1 z1 y1 g1 hl4 hc4 hx1 (free_same sb ft1) (free_same sb fo1) (free_same sb fz1) b1 s5 hy1 s57 (s7 _ _ y6) g7 (free_same s6 hg1) (ne_of_none y6 hg1) S7
  have D7 : Wd CShelf H7 l c x0 d0 t0 o0 g0 x1 d1 t1 o1 g1 (fun q => q = x0 ∨ q = t0 ∨ q = o0 ∨ q = z0) (fun q => q = g0 ∨ q = y0) (fun q => q = x1 ∨ q = t1 ∨ q = o1 ∨ q = z1) (fun q => q = g1 ∨ q = y1) [[]] [[]] [] [] := by
    refine ⟨W4.fr S7 (fun q ob e _ => s47 _ _ e) (fun q xs e => s47 _ _ e), W7, fun q z w => ?_⟩
    have al : ∃ ob, H4 q = some ob := by
      rcases z with z | z
      · exact W4.sh.al q z
      · exact W4.pa.al q z
    obtain ⟨ob, e⟩ := al
    have e5 := s5 _ _ e
    rcases w with (rfl | rfl | rfl | rfl) | (rfl | rfl)
    · rw [e] at hx1; cases hx1
    · have := free_same sb ft1
      rw [e] at this; cases this
    · have := free_same sb fo1
      rw [e] at this; cases this
    · have := free_same sb fz1
      rw [e] at this; cases this
    · have := free_same s6 hg1
      rw [e5] at this; cases this
    · rw [e5] at hy1; cases hy1
  refine ⟨_, rfl, l, c, 9, rfl, D7.a.src, by decide, by decide, fun n H8 n0 n1 S8 k8 => ⟨n, rfl, by omega, by omega, ?_⟩⟩
  have D8 := D7.mv (fun b ob e n => (k8 b n).trans e) S8
  refine for_range (lo := 0) (n := n.toNat) (fun i σ H2 => ∃ (u6 : Option V) (S0 G0 S1 G1 : Addr → Prop) (P0 P1 : Ent) (p0 p1 : List Int), σ = [some (.ref a), some (.ref l), some (.ref x0), some (.ref g0), some (.ref x1), some (.ref g1), u6] ∧ Wd CShelf H2 l c x0 d0 t0 o0 g0 x1 d1 t1 o1 g1 S0 G0 S1 G1 P0 P1 p0 p1 ∧ P0.length ≤ i + 1 ∧ P1.length ≤ i + 1 ∧ p0.length ≤ 2 * i ∧ p1.length ≤ 2 * i) ⟨none, _, _, _, _, _, _, _, _, rfl, D8, Nat.le_refl _, Nat.le_refl _, Nat.le_refl _, Nat.le_refl _⟩ ?_ ?_
  · rintro i σ H9 hi ⟨u6, S0, G0, S1', G1, P0, P1, p0, p1, rfl, W, l0, l1, m0, m1⟩
    refine ⟨_, rfl, _, rfl, _, rfl, S0, G0, l, c, x0, d0, t0, o0, g0, P0, p0, rfl, W.a, by omega, by omega, fun S' G' rows ops' H10 w2 lo u1 u2 fr tu => ⟨_, rfl, iteF ?_⟩⟩
    have W10 := W.step w2 u1 u2 fr tu
    refine ⟨_, _, l, c, x0, d0, t0, o0, g0, x1, d1, t1, o1, g1, S', G', S1', G1, _, P1, _, p1, rfl, W10, by omega, by omega, fun H11 S2 G2 P2 p2 W11 q1 q2 => ?_⟩
    have lP : (P0 ++ [rows]).length ≤ i + 1 + 1 := by rw [List.length_append]; simp only [List.length_singleton]; omega
    refine ⟨_, rfl, _, rfl, S', G', x0, d0, t0, o0, g0, _, _, rfl, W11.a.sh, W11.a.pa, W11.a.ln.1, W11.a.ln.2, fun H12 s12 => ⟨_, rfl, iteF ?_⟩⟩
    exact ⟨_, S', G', S2, G2, _, P2, _, p2, rfl, W11.mv (fun b ob e _ => s12 _ _ e) (W11.a.src.same s12), lP, by omega, by omega, by omega⟩
  · rintro σ H9 ⟨u6, S0, G0, S1', G1, P0, P1, p0, p1, rfl, W, l0, l1, m0, m1⟩
    refine ⟨_, rfl, _, rfl, S0, G0, x0, d0, t0, o0, g0, _, _, rfl, W.a.sh, W.a.pa, W.a.ln.1, W.a.ln.2, fun H10 s10 => ⟨_, rfl, iteT ?_⟩⟩
    refine ⟨_, rfl, _, rfl, S1', G1, x1, d1, t1, o1, g1, _, _, rfl, W.b.sh.same s10, W.b.pa.same s10, W.b.ln.1, W.b.ln.2, fun H11 s11 => ⟨_, rfl, iteT ?_⟩⟩
    have s911 := s10.trans s11
    exact ⟨_, rfl, _, rfl, S0, G0, x0, d0, t0, o0, g0, _, _, rfl, W.a.sh.same s911, W.a.pa.same s911, W.a.ln.1, W.a.ln.2, fun H12 _ => k H12⟩
end

end Ink
namespace Ink
open PySem L2 InkX InkE InkF InkP
theorem all_mk {l : PySem.W.OpenLaw} {w : World} {K : PySem.W.Frag} {h : Heap} {mg : Str → Option Value} {fa : Addr} (X : K.In h) (G : h.Ns mainGlobals mg) (hfa : mg "law" = some (.ref fa))
    {f0 f1 f2 f3 f4 f5 f6 f7 f8 f9 f10 f11 f12 f13 f14 f15 f16 f17 f18 f19 f20 f21 f22 f23 f24 f25 f26 f27 : Addr} {od0 an0 od1 an1 od2 an2 od3 an3 od4 an4 od5 an5 od6 an6 od7 an7 od8 an8 od9 an9 od10 an10 od11 an11 od12 an12 od13 an13 od14 an14 od15 an15 od16 an16 od17 an17 od18 an18 od19 an19 od20 an20 od21 an21 od22 an22 od23 an23 od24 an24 od25 an25 od26 an26 od27 an27 : Option Addr} {sl0 sl1 sl2 sl3 sl4 sl5 sl6 sl7 sl8 sl9 sl10 sl11 sl12 sl13 sl14 sl15 sl16 sl17 sl18 sl19 sl20 sl21 sl22 sl23 sl24 sl25 sl26 sl27 : Array (Option Value)} {oc0 kV0 dc0 pm0 cd0 ct0 oc1 kV1 dc1 pm1 cd1 ct1 oc2 kV2 dc2 pm2 cd2 ct2 oc3 kV3 dc3 pm3 cd3 ct3 oc4 kV4 dc4 pm4 cd4 ct4 oc5 kV5 dc5 pm5 cd5 ct5 oc6 kV6 dc6 pm6 cd6 ct6 oc7 kV7 dc7 pm7 cd7 ct7 oc8 kV8 dc8 pm8 cd8 ct8 oc9 kV9 dc9 pm9 cd9 ct9 oc10 kV10 dc10 pm10 cd10 ct10 oc11 kV11 dc11 pm11 cd11 ct11 oc12 kV12 dc12 pm12 cd12 ct12 oc13 kV13 dc13 pm13 cd13 ct13 oc14 kV14 dc14 pm14 cd14 ct14 oc15 kV15 dc15 pm15 cd15 ct15 oc16 kV16 dc16 pm16 cd16 ct16 oc17 kV17 dc17 pm17 cd17 ct17 oc18 kV18 dc18 pm18 cd18 ct18 oc19 kV19 dc19 pm19 cd19 ct19 oc20 kV20 dc20 pm20 cd20 ct20 oc21 kV21 dc21 pm21 cd21 ct21 oc22 kV22 dc22 pm22 cd22 ct22 oc23 kV23 dc23 pm23 cd23 ct23 oc24 kV24 dc24 pm24 cd24 ct24 oc25 kV25 dc25 pm25 cd25 ct25 oc26 kV26 dc26 pm26 cd26 ct26 oc27 kV27 dc27 pm27 cd27 ct27 : Value} {CShelf : Addr} {XNoSheet : Addr} {XNoMoment : Addr}
    (aCShelf : PySem.W.nsIn K mainGlobals "Shelf" = some (some (.ref CShelf))) (pgShelf : PySem.W.plainGet K CShelf Str.empty = true) (hdShelf : PySem.W.hasDictIn K CShelf = true) (poShelf : PySem.W.plainOver K CShelf = true) (saShelf : PySem.W.findIn K (.ref CShelf) "__setattr__" = some (some (.builtin "object.__setattr__"))) (mkShelf : PySem.W.makesIn K CShelf = true) (kcShelf : PySem.W.keepIn K (.ref CShelf) = true) (noShelfstates : PySem.W.findIn K (.ref CShelf) "states" = some none) (noShelfopenings : PySem.W.findIn K (.ref CShelf) "openings" = some none)
    (a0 : PySem.W.nsIn K mainGlobals "_law_src" = some (some (.ref f0))) (l0 : K.lookup f0 = some ⟨oc0, od0, .func (PySem.W.fnOf "_law_src" "_law_src" (defArgs s_law_src) (defBody s_law_src) (defScope s_law_src) .none kV0 dc0 pm0 an0 cd0 ct0), sl0⟩) (c0 : PySem.W.codeIn K cd0 "_law_src" = true) (k0 : PySem.W.keepIn K (.ref f0) = true)
    (a1 : PySem.W.nsIn K mainGlobals "_law_next" = some (some (.ref f1))) (l1 : K.lookup f1 = some ⟨oc1, od1, .func (PySem.W.fnOf "_law_next" "_law_next" (defArgs s_law_next) (defBody s_law_next) (defScope s_law_next) .none kV1 dc1 pm1 an1 cd1 ct1), sl1⟩) (c1 : PySem.W.codeIn K cd1 "_law_next" = true) (k1 : PySem.W.keepIn K (.ref f1) = true)
    (a2 : PySem.W.nsIn K mainGlobals "_law_whole" = some (some (.ref f2))) (l2 : K.lookup f2 = some ⟨oc2, od2, .func (PySem.W.fnOf "_law_whole" "_law_whole" (defArgs s_law_whole) (defBody s_law_whole) (defScope s_law_whole) .none kV2 dc2 pm2 an2 cd2 ct2), sl2⟩) (c2 : PySem.W.codeIn K cd2 "_law_whole" = true) (k2 : PySem.W.keepIn K (.ref f2) = true)
    (a3 : PySem.W.nsIn K mainGlobals "_law_same" = some (some (.ref f3))) (l3 : K.lookup f3 = some ⟨oc3, od3, .func (PySem.W.fnOf "_law_same" "_law_same" (defArgs s_law_same) (defBody s_law_same) (defScope s_law_same) .none kV3 dc3 pm3 an3 cd3 ct3), sl3⟩) (c3 : PySem.W.codeIn K cd3 "_law_same" = true) (k3 : PySem.W.keepIn K (.ref f3) = true)
    (a4 : PySem.W.nsIn K mainGlobals "_law_items_of" = some (some (.ref f4))) (l4 : K.lookup f4 = some ⟨oc4, od4, .func (PySem.W.fnOf "_law_items_of" "_law_items_of" (defArgs s_law_items_of) (defBody s_law_items_of) (defScope s_law_items_of) .none kV4 dc4 pm4 an4 cd4 ct4), sl4⟩) (c4 : PySem.W.codeIn K cd4 "_law_items_of" = true) (k4 : PySem.W.keepIn K (.ref f4) = true)
    (a5 : PySem.W.nsIn K mainGlobals "changed" = some (some (.ref f5))) (l5 : K.lookup f5 = some ⟨oc5, od5, .func (PySem.W.fnOf "changed" "changed" (defArgs schanged) (defBody schanged) (defScope schanged) .none kV5 dc5 pm5 an5 cd5 ct5), sl5⟩) (c5 : PySem.W.codeIn K cd5 "changed" = true) (k5 : PySem.W.keepIn K (.ref f5) = true)
    (a6 : PySem.W.findIn K (.ref CShelf) "__init__" = some (some (.ref f6))) (i6 : PySem.W.isFn K (.ref f6) = true) (l6 : K.lookup f6 = some ⟨oc6, od6, .func (PySem.W.fnOf "__init__" "Shelf.__init__" (defArgs sShelf___init__) (defBody sShelf___init__) (defScope sShelf___init__) .none kV6 dc6 pm6 an6 cd6 ct6), sl6⟩) (c6 : PySem.W.codeIn K cd6 "Shelf.__init__" = true) (k6 : PySem.W.keepIn K (.ref f6) = true)
    (a7 : PySem.W.findIn K (.ref CShelf) "now" = some (some (.ref f7))) (i7 : PySem.W.isFn K (.ref f7) = true) (l7 : K.lookup f7 = some ⟨oc7, od7, .func (PySem.W.fnOf "now" "Shelf.now" (defArgs sShelf_now) (defBody sShelf_now) (defScope sShelf_now) .none kV7 dc7 pm7 an7 cd7 ct7), sl7⟩) (c7 : PySem.W.codeIn K cd7 "Shelf.now" = true) (k7 : PySem.W.keepIn K (.ref f7) = true)
    (a8 : PySem.W.findIn K (.ref CShelf) "many" = some (some (.ref f8))) (i8 : PySem.W.isFn K (.ref f8) = true) (l8 : K.lookup f8 = some ⟨oc8, od8, .func (PySem.W.fnOf "many" "Shelf.many" (defArgs sShelf_many) (defBody sShelf_many) (defScope sShelf_many) .none kV8 dc8 pm8 an8 cd8 ct8), sl8⟩) (c8 : PySem.W.codeIn K cd8 "Shelf.many" = true) (k8 : PySem.W.keepIn K (.ref f8) = true)
    (a9 : PySem.W.findIn K (.ref CShelf) "step" = some (some (.ref f9))) (i9 : PySem.W.isFn K (.ref f9) = true) (l9 : K.lookup f9 = some ⟨oc9, od9, .func (PySem.W.fnOf "step" "Shelf.step" (defArgs sShelf_step) (defBody sShelf_step) (defScope sShelf_step) .none kV9 dc9 pm9 an9 cd9 ct9), sl9⟩) (c9 : PySem.W.codeIn K cd9 "Shelf.step" = true) (k9 : PySem.W.keepIn K (.ref f9) = true)
    (a10 : PySem.W.findIn K (.ref CShelf) "check_sheet" = some (some (.ref f10))) (i10 : PySem.W.isFn K (.ref f10) = true) (l10 : K.lookup f10 = some ⟨oc10, od10, .func (PySem.W.fnOf "check_sheet" "Shelf.check_sheet" (defArgs sShelf_check_sheet) (defBody sShelf_check_sheet) (defScope sShelf_check_sheet) .none kV10 dc10 pm10 an10 cd10 ct10), sl10⟩) (c10 : PySem.W.codeIn K cd10 "Shelf.check_sheet" = true) (k10 : PySem.W.keepIn K (.ref f10) = true)
    (a11 : PySem.W.findIn K (.ref CShelf) "check_moment" = some (some (.ref f11))) (i11 : PySem.W.isFn K (.ref f11) = true) (l11 : K.lookup f11 = some ⟨oc11, od11, .func (PySem.W.fnOf "check_moment" "Shelf.check_moment" (defArgs sShelf_check_moment) (defBody sShelf_check_moment) (defScope sShelf_check_moment) .none kV11 dc11 pm11 an11 cd11 ct11), sl11⟩) (c11 : PySem.W.codeIn K cd11 "Shelf.check_moment" = true) (k11 : PySem.W.keepIn K (.ref f11) = true)
    (a12 : PySem.W.findIn K (.ref CShelf) "check_then" = some (some (.ref f12))) (i12 : PySem.W.isFn K (.ref f12) = true) (l12 : K.lookup f12 = some ⟨oc12, od12, .func (PySem.W.fnOf "check_then" "Shelf.check_then" (defArgs sShelf_check_then) (defBody sShelf_check_then) (defScope sShelf_check_then) .none kV12 dc12 pm12 an12 cd12 ct12), sl12⟩) (c12 : PySem.W.codeIn K cd12 "Shelf.check_then" = true) (k12 : PySem.W.keepIn K (.ref f12) = true)
    (a13 : PySem.W.findIn K (.ref CShelf) "row" = some (some (.ref f13))) (i13 : PySem.W.isFn K (.ref f13) = true) (l13 : K.lookup f13 = some ⟨oc13, od13, .func (PySem.W.fnOf "row" "Shelf.row" (defArgs sShelf_row) (defBody sShelf_row) (defScope sShelf_row) .none kV13 dc13 pm13 an13 cd13 ct13), sl13⟩) (c13 : PySem.W.codeIn K cd13 "Shelf.row" = true) (k13 : PySem.W.keepIn K (.ref f13) = true)
    (a14 : PySem.W.findIn K (.ref CShelf) "row_then" = some (some (.ref f14))) (i14 : PySem.W.isFn K (.ref f14) = true) (l14 : K.lookup f14 = some ⟨oc14, od14, .func (PySem.W.fnOf "row_then" "Shelf.row_then" (defArgs sShelf_row_then) (defBody sShelf_row_then) (defScope sShelf_row_then) .none kV14 dc14 pm14 an14 cd14 ct14), sl14⟩) (c14 : PySem.W.codeIn K cd14 "Shelf.row_then" = true) (k14 : PySem.W.keepIn K (.ref f14) = true)
    (a15 : PySem.W.findIn K (.ref CShelf) "rows_then" = some (some (.ref f15))) (i15 : PySem.W.isFn K (.ref f15) = true) (l15 : K.lookup f15 = some ⟨oc15, od15, .func (PySem.W.fnOf "rows_then" "Shelf.rows_then" (defArgs sShelf_rows_then) (defBody sShelf_rows_then) (defScope sShelf_rows_then) .none kV15 dc15 pm15 an15 cd15 ct15), sl15⟩) (c15 : PySem.W.codeIn K cd15 "Shelf.rows_then" = true) (k15 : PySem.W.keepIn K (.ref f15) = true)
    (a16 : PySem.W.findIn K (.ref CShelf) "rows" = some (some (.ref f16))) (i16 : PySem.W.isFn K (.ref f16) = true) (l16 : K.lookup f16 = some ⟨oc16, od16, .func (PySem.W.fnOf "rows" "Shelf.rows" (defArgs sShelf_rows) (defBody sShelf_rows) (defScope sShelf_rows) .none kV16 dc16 pm16 an16 cd16 ct16), sl16⟩) (c16 : PySem.W.codeIn K cd16 "Shelf.rows" = true) (k16 : PySem.W.keepIn K (.ref f16) = true)
    (a17 : PySem.W.findIn K (.ref CShelf) "opened" = some (some (.ref f17))) (i17 : PySem.W.isFn K (.ref f17) = true) (l17 : K.lookup f17 = some ⟨oc17, od17, .func (PySem.W.fnOf "opened" "Shelf.opened" (defArgs sShelf_opened) (defBody sShelf_opened) (defScope sShelf_opened) .none kV17 dc17 pm17 an17 cd17 ct17), sl17⟩) (c17 : PySem.W.codeIn K cd17 "Shelf.opened" = true) (k17 : PySem.W.keepIn K (.ref f17) = true)
    (a18 : PySem.W.nsIn K mainGlobals "_law_row_then_or" = some (some (.ref f18))) (l18 : K.lookup f18 = some ⟨oc18, od18, .func (PySem.W.fnOf "_law_row_then_or" "_law_row_then_or" (defArgs s_law_row_then_or) (defBody s_law_row_then_or) (defScope s_law_row_then_or) .none kV18 dc18 pm18 an18 cd18 ct18), sl18⟩) (c18 : PySem.W.codeIn K cd18 "_law_row_then_or" = true) (k18 : PySem.W.keepIn K (.ref f18) = true)
    (a19 : PySem.W.nsIn K mainGlobals "_law_row_or" = some (some (.ref f19))) (l19 : K.lookup f19 = some ⟨oc19, od19, .func (PySem.W.fnOf "_law_row_or" "_law_row_or" (defArgs s_law_row_or) (defBody s_law_row_or) (defScope s_law_row_or) .none kV19 dc19 pm19 an19 cd19 ct19), sl19⟩) (c19 : PySem.W.codeIn K cd19 "_law_row_or" = true) (k19 : PySem.W.keepIn K (.ref f19) = true)
    (a20 : PySem.W.nsIn K mainGlobals "_law_opened_or" = some (some (.ref f20))) (l20 : K.lookup f20 = some ⟨oc20, od20, .func (PySem.W.fnOf "_law_opened_or" "_law_opened_or" (defArgs s_law_opened_or) (defBody s_law_opened_or) (defScope s_law_opened_or) .none kV20 dc20 pm20 an20 cd20 ct20), sl20⟩) (c20 : PySem.W.codeIn K cd20 "_law_opened_or" = true) (k20 : PySem.W.keepIn K (.ref f20) = true)
    (a21 : PySem.W.nsIn K mainGlobals "_law_rows_then_or" = some (some (.ref f21))) (l21 : K.lookup f21 = some ⟨oc21, od21, .func (PySem.W.fnOf "_law_rows_then_or" "_law_rows_then_or" (defArgs s_law_rows_then_or) (defBody s_law_rows_then_or) (defScope s_law_rows_then_or) .none kV21 dc21 pm21 an21 cd21 ct21), sl21⟩) (c21 : PySem.W.codeIn K cd21 "_law_rows_then_or" = true) (k21 : PySem.W.keepIn K (.ref f21) = true)
    (a22 : PySem.W.nsIn K mainGlobals "_law_line_by" = some (some (.ref f22))) (l22 : K.lookup f22 = some ⟨oc22, od22, .func (PySem.W.fnOf "_law_line_by" "_law_line_by" (defArgs s_law_line_by) (defBody s_law_line_by) (defScope s_law_line_by) .none kV22 dc22 pm22 an22 cd22 ct22), sl22⟩) (c22 : PySem.W.codeIn K cd22 "_law_line_by" = true) (k22 : PySem.W.keepIn K (.ref f22) = true)
    (a23 : PySem.W.nsIn K mainGlobals "_law_due" = some (some (.ref f23))) (l23 : K.lookup f23 = some ⟨oc23, od23, .func (PySem.W.fnOf "_law_due" "_law_due" (defArgs s_law_due) (defBody s_law_due) (defScope s_law_due) .none kV23 dc23 pm23 an23 cd23 ct23), sl23⟩) (c23 : PySem.W.codeIn K cd23 "_law_due" = true) (k23 : PySem.W.keepIn K (.ref f23) = true)
    (a24 : PySem.W.nsIn K mainGlobals "_law_step" = some (some (.ref f24))) (l24 : K.lookup f24 = some ⟨oc24, od24, .func (PySem.W.fnOf "_law_step" "_law_step" (defArgs s_law_step) (defBody s_law_step) (defScope s_law_step) .none kV24 dc24 pm24 an24 cd24 ct24), sl24⟩) (c24 : PySem.W.codeIn K cd24 "_law_step" = true) (k24 : PySem.W.keepIn K (.ref f24) = true)
    (a25 : PySem.W.nsIn K mainGlobals "_law_moments_right" = some (some (.ref f25))) (l25 : K.lookup f25 = some ⟨oc25, od25, .func (PySem.W.fnOf "_law_moments_right" "_law_moments_right" (defArgs s_law_moments_right) (defBody s_law_moments_right) (defScope s_law_moments_right) .none kV25 dc25 pm25 an25 cd25 ct25), sl25⟩) (c25 : PySem.W.codeIn K cd25 "_law_moments_right" = true) (k25 : PySem.W.keepIn K (.ref f25) = true)
    (a26 : PySem.W.nsIn K mainGlobals "_law_now_right" = some (some (.ref f26))) (l26 : K.lookup f26 = some ⟨oc26, od26, .func (PySem.W.fnOf "_law_now_right" "_law_now_right" (defArgs s_law_now_right) (defBody s_law_now_right) (defScope s_law_now_right) .none kV26 dc26 pm26 an26 cd26 ct26), sl26⟩) (c26 : PySem.W.codeIn K cd26 "_law_now_right" = true) (k26 : PySem.W.keepIn K (.ref f26) = true)
    (a27 : PySem.W.nsIn K mainGlobals "law" = some (some (.ref f27))) (l27 : K.lookup f27 = some ⟨oc27, od27, .func (PySem.W.fnOf "law" "law" (defArgs slaw) (defBody slaw) (defScope slaw) .none kV27 dc27 pm27 an27 cd27 ct27), sl27⟩) (c27 : PySem.W.codeIn K cd27 "law" = true) (k27 : PySem.W.keepIn K (.ref f27) = true)
    (z0 : PySem.W.nsIn K mainGlobals "len" = some none)
    (z1 : PySem.W.nsIn K mainGlobals "list" = some none)
    (z2 : PySem.W.nsIn K mainGlobals "tuple" = some none)
    (z3 : PySem.W.nsIn K mainGlobals "int" = some none)
    (z4 : PySem.W.nsIn K mainGlobals "bool" = some none)
    (z5 : PySem.W.nsIn K mainGlobals "str" = some none)
    (z6 : PySem.W.nsIn K mainGlobals "range" = some none)
    (z7 : PySem.W.nsIn K mainGlobals "zip" = some none)
    (z8 : PySem.W.nsIn K mainGlobals "isinstance" = some none)
    (xmNoSheet : PySem.W.nsIn K mainGlobals "NoSheet" = some (some (.ref XNoSheet))) (xxNoSheet : PySem.W.excIn K XNoSheet [.type "ValueError", .type "Exception", .type "BaseException", .type "object"] "ValueError.__new__" = true) (xhNoSheet : PySem.W.exmOne K (.ref XNoSheet) (.ref XNoSheet) = some true)
    (xmNoMoment : PySem.W.nsIn K mainGlobals "NoMoment" = some (some (.ref XNoMoment))) (xxNoMoment : PySem.W.excIn K XNoMoment [.type "ValueError", .type "Exception", .type "BaseException", .type "object"] "ValueError.__new__" = true) (xhNoMoment : PySem.W.exmOne K (.ref XNoMoment) (.ref XNoMoment) = some true)
    (xn0 : PySem.W.exmOne K (.ref XNoMoment) (.ref XNoSheet) = some false) :
    ∃ fd : FuncData, (∀ (s : Shared) (v : Value), BindsTo s fd ⟨[v], []⟩ [("_law_script", v)]) ∧ ∀ base : Heap, K.In base → base.Ns mainGlobals mg → FnOk l.prog w K mg base CX0 9 fa fd ["_law_script"] (spLaw K) := by
  have e := hfa.symm.trans (PySem.W.mg_of X G a27)
  cases e
  have T : Nms mg := ⟨PySem.W.mg_none_of X G z0, PySem.W.mg_none_of X G z1, PySem.W.mg_none_of X G z2, PySem.W.mg_none_of X G z3, PySem.W.mg_none_of X G z4, PySem.W.mg_none_of X G z5, PySem.W.mg_none_of X G z6, PySem.W.mg_none_of X G z7, PySem.W.mg_none_of X G z8⟩
  have ZNoSheet : ExcN K mg "NoSheet" XNoSheet := ⟨PySem.W.mg_of X G xmNoSheet, xxNoSheet, xhNoSheet⟩
  have ZNoMoment : ExcN K mg "NoMoment" XNoMoment := ⟨PySem.W.mg_of X G xmNoMoment, xxNoMoment, xhNoMoment⟩
  have F0 := fun_mk (st := s_law_src) l0 c0 k0
  have D0 : DefAt K mg "_law_src" s_law_src ["_law_script"] f0 _ := ⟨F0, F0.binds (ps := ["_law_script"]) (fun _ _ _ _ _ _ us hl => match us, hl with | [_], _ => rfl), PySem.W.mg_of X G a0⟩
  have F1 := fun_mk (st := s_law_next) l1 c1 k1
  have D1 : DefAt K mg "_law_next" s_law_next ["_law_src_here", "_law_base"] f1 _ := ⟨F1, F1.binds (ps := ["_law_src_here", "_law_base"]) (fun _ _ _ _ _ _ us hl => match us, hl with | [_, _], _ => rfl), PySem.W.mg_of X G a1⟩
  have F2 := fun_mk (st := s_law_whole) l2 c2 k2
  have D2 : DefAt K mg "_law_whole" s_law_whole ["_law_found"] f2 _ := ⟨F2, F2.binds (ps := ["_law_found"]) (fun _ _ _ _ _ _ us hl => match us, hl with | [_], _ => rfl), PySem.W.mg_of X G a2⟩
  have F3 := fun_mk (st := s_law_same) l3 c3 k3
  have D3 : DefAt K mg "_law_same" s_law_same ["_law_found", "_law_due_here"] f3 _ := ⟨F3, F3.binds (ps := ["_law_found", "_law_due_here"]) (fun _ _ _ _ _ _ us hl => match us, hl with | [_, _], _ => rfl), PySem.W.mg_of X G a3⟩
  have F4 := fun_mk (st := s_law_items_of) l4 c4 k4
  have D4 : DefAt K mg "_law_items_of" s_law_items_of ["_law_entries"] f4 _ := ⟨F4, F4.binds (ps := ["_law_entries"]) (fun _ _ _ _ _ _ us hl => match us, hl with | [_], _ => rfl), PySem.W.mg_of X G a4⟩
  have F5 := fun_mk (st := schanged) l5 c5 k5
  have D5 : DefAt K mg "changed" schanged ["state", "sheet", "items"] f5 _ := ⟨F5, F5.binds (ps := ["state", "sheet", "items"]) (fun _ _ _ _ _ _ us hl => match us, hl with | [_, _, _], _ => rfl), PySem.W.mg_of X G a5⟩
  have F6 := fun_mk (st := sShelf___init__) l6 c6 k6
  have D6 : MetAt K CShelf "__init__" "Shelf.__init__" sShelf___init__ ["self"] f6 _ := ⟨F6, F6.binds (ps := ["self"]) (fun _ _ _ _ _ _ us hl => match us, hl with | [_], _ => rfl), ⟨a6, i6, k6⟩⟩
  have F7 := fun_mk (st := sShelf_now) l7 c7 k7
  have D7 : MetAt K CShelf "now" "Shelf.now" sShelf_now ["self"] f7 _ := ⟨F7, F7.binds (ps := ["self"]) (fun _ _ _ _ _ _ us hl => match us, hl with | [_], _ => rfl), ⟨a7, i7, k7⟩⟩
  have F8 := fun_mk (st := sShelf_many) l8 c8 k8
  have D8 : MetAt K CShelf "many" "Shelf.many" sShelf_many ["self"] f8 _ := ⟨F8, F8.binds (ps := ["self"]) (fun _ _ _ _ _ _ us hl => match us, hl with | [_], _ => rfl), ⟨a8, i8, k8⟩⟩
  have F9 := fun_mk (st := sShelf_step) l9 c9 k9
  have D9 : MetAt K CShelf "step" "Shelf.step" sShelf_step ["self", "changes"] f9 _ := ⟨F9, F9.binds (ps := ["self", "changes"]) (fun _ _ _ _ _ _ us hl => match us, hl with | [_, _], _ => rfl), ⟨a9, i9, k9⟩⟩
  have F10 := fun_mk (st := sShelf_check_sheet) l10 c10 k10
  have D10 : MetAt K CShelf "check_sheet" "Shelf.check_sheet" sShelf_check_sheet ["self", "sheet"] f10 _ := ⟨F10, F10.binds (ps := ["self", "sheet"]) (fun _ _ _ _ _ _ us hl => match us, hl with | [_, _], _ => rfl), ⟨a10, i10, k10⟩⟩
  have F11 := fun_mk (st := sShelf_check_moment) l11 c11 k11
  have D11 : MetAt K CShelf "check_moment" "Shelf.check_moment" sShelf_check_moment ["self", "moment"] f11 _ := ⟨F11, F11.binds (ps := ["self", "moment"]) (fun _ _ _ _ _ _ us hl => match us, hl with | [_, _], _ => rfl), ⟨a11, i11, k11⟩⟩
  have F12 := fun_mk (st := sShelf_check_then) l12 c12 k12
  have D12 : MetAt K CShelf "check_then" "Shelf.check_then" sShelf_check_then ["self", "sheet", "moment"] f12 _ := ⟨F12, F12.binds (ps := ["self", "sheet", "moment"]) (fun _ _ _ _ _ _ us hl => match us, hl with | [_, _, _], _ => rfl), ⟨a12, i12, k12⟩⟩
  have F13 := fun_mk (st := sShelf_row) l13 c13 k13
  have D13 : MetAt K CShelf "row" "Shelf.row" sShelf_row ["self", "sheet"] f13 _ := ⟨F13, F13.binds (ps := ["self", "sheet"]) (fun _ _ _ _ _ _ us hl => match us, hl with | [_, _], _ => rfl), ⟨a13, i13, k13⟩⟩
  have F14 := fun_mk (st := sShelf_row_then) l14 c14 k14
  have D14 : MetAt K CShelf "row_then" "Shelf.row_then" sShelf_row_then ["self", "sheet", "moment"] f14 _ := ⟨F14, F14.binds (ps := ["self", "sheet", "moment"]) (fun _ _ _ _ _ _ us hl => match us, hl with | [_, _, _], _ => rfl), ⟨a14, i14, k14⟩⟩
  have F15 := fun_mk (st := sShelf_rows_then) l15 c15 k15
  have D15 : MetAt K CShelf "rows_then" "Shelf.rows_then" sShelf_rows_then ["self", "moment"] f15 _ := ⟨F15, F15.binds (ps := ["self", "moment"]) (fun _ _ _ _ _ _ us hl => match us, hl with | [_, _], _ => rfl), ⟨a15, i15, k15⟩⟩
  have F16 := fun_mk (st := sShelf_rows) l16 c16 k16
  have D16 : MetAt K CShelf "rows" "Shelf.rows" sShelf_rows ["self"] f16 _ := ⟨F16, F16.binds (ps := ["self"]) (fun _ _ _ _ _ _ us hl => match us, hl with | [_], _ => rfl), ⟨a16, i16, k16⟩⟩
  have F17 := fun_mk (st := sShelf_opened) l17 c17 k17
  have D17 : MetAt K CShelf "opened" "Shelf.opened" sShelf_opened ["self", "sheet"] f17 _ := ⟨F17, F17.binds (ps := ["self", "sheet"]) (fun _ _ _ _ _ _ us hl => match us, hl with | [_, _], _ => rfl), ⟨a17, i17, k17⟩⟩
  have F18 := fun_mk (st := s_law_row_then_or) l18 c18 k18
  have D18 : DefAt K mg "_law_row_then_or" s_law_row_then_or ["_law_shelf", "_law_sheet", "_law_moment"] f18 _ := ⟨F18, F18.binds (ps := ["_law_shelf", "_law_sheet", "_law_moment"]) (fun _ _ _ _ _ _ us hl => match us, hl with | [_, _, _], _ => rfl), PySem.W.mg_of X G a18⟩
  have F19 := fun_mk (st := s_law_row_or) l19 c19 k19
  have D19 : DefAt K mg "_law_row_or" s_law_row_or ["_law_shelf", "_law_sheet"] f19 _ := ⟨F19, F19.binds (ps := ["_law_shelf", "_law_sheet"]) (fun _ _ _ _ _ _ us hl => match us, hl with | [_, _], _ => rfl), PySem.W.mg_of X G a19⟩
  have F20 := fun_mk (st := s_law_opened_or) l20 c20 k20
  have D20 : DefAt K mg "_law_opened_or" s_law_opened_or ["_law_shelf", "_law_sheet"] f20 _ := ⟨F20, F20.binds (ps := ["_law_shelf", "_law_sheet"]) (fun _ _ _ _ _ _ us hl => match us, hl with | [_, _], _ => rfl), PySem.W.mg_of X G a20⟩
  have F21 := fun_mk (st := s_law_rows_then_or) l21 c21 k21
  have D21 : DefAt K mg "_law_rows_then_or" s_law_rows_then_or ["_law_shelf", "_law_moment"] f21 _ := ⟨F21, F21.binds (ps := ["_law_shelf", "_law_moment"]) (fun _ _ _ _ _ _ us hl => match us, hl with | [_, _], _ => rfl), PySem.W.mg_of X G a21⟩
  have F22 := fun_mk (st := s_law_line_by) l22 c22 k22
  have D22 : DefAt K mg "_law_line_by" s_law_line_by ["_law_src_here", "_law_many"] f22 _ := ⟨F22, F22.binds (ps := ["_law_src_here", "_law_many"]) (fun _ _ _ _ _ _ us hl => match us, hl with | [_, _], _ => rfl), PySem.W.mg_of X G a22⟩
  have F23 := fun_mk (st := s_law_due) l23 c23 k23
  have D23 : DefAt K mg "_law_due" s_law_due ["_law_past", "_law_sheet", "_law_moment"] f23 _ := ⟨F23, F23.binds (ps := ["_law_past", "_law_sheet", "_law_moment"]) (fun _ _ _ _ _ _ us hl => match us, hl with | [_, _, _], _ => rfl), PySem.W.mg_of X G a23⟩
  have F24 := fun_mk (st := s_law_step) l24 c24 k24
  have D24 : DefAt K mg "_law_step" s_law_step ["_law_src_here", "_law_shelf", "_law_past"] f24 _ := ⟨F24, F24.binds (ps := ["_law_src_here", "_law_shelf", "_law_past"]) (fun _ _ _ _ _ _ us hl => match us, hl with | [_, _, _], _ => rfl), PySem.W.mg_of X G a24⟩
  have F25 := fun_mk (st := s_law_moments_right) l25 c25 k25
  have D25 : DefAt K mg "_law_moments_right" s_law_moments_right ["_law_shelf", "_law_past"] f25 _ := ⟨F25, F25.binds (ps := ["_law_shelf", "_law_past"]) (fun _ _ _ _ _ _ us hl => match us, hl with | [_, _], _ => rfl), PySem.W.mg_of X G a25⟩
  have F26 := fun_mk (st := s_law_now_right) l26 c26 k26
  have D26 : DefAt K mg "_law_now_right" s_law_now_right ["_law_shelf", "_law_past"] f26 _ := ⟨F26, F26.binds (ps := ["_law_shelf", "_law_past"]) (fun _ _ _ _ _ _ us hl => match us, hl with | [_, _], _ => rfl), PySem.W.mg_of X G a26⟩
  have F27 := fun_mk (st := slaw) l27 c27 k27
  have CLShelf : ClsAt K mg "Shelf" CShelf f6 := ⟨⟨pgShelf, hdShelf, poShelf, saShelf⟩, PySem.W.mg_of X G aCShelf, ⟨mkShelf, a6, i6, kcShelf⟩⟩
  exact ⟨PySem.W.fnOf "law" "law" (defArgs slaw) (defBody slaw) (defScope slaw) .none kV27 dc27 pm27 an27 cd27 ct27, fun s v => .of_eq rfl, fun base _ _ => ok_law F27 T ZNoSheet ZNoMoment xn0 D0 D1 D2 D3 D4 D5 D6 D7 D8 D9 D10 D11 D12 D13 D14 D15 D16 D17 D18 D19 D20 D21 D22 D23 D24 D25 D26 CLShelf noShelfstates noShelfopenings⟩
theorem walk {l : PySem.W.OpenLaw} {q : Program} {loose : List Str} {XP : (Str → Option Value) → Heap → Prop} {YP : World → Heap → Prop} {d : DefRec} {K : Params → PySem.W.Frag} (hn : l.most = some 63) (hdf : d.params.defaults = [])
    (hY : ∀ (w : World) (h : Heap), YP w h → (K w.params).In h)
    (F : ∀ (w : World) (mg : Str → Option Value) (fa : Addr) (h : Heap), (K w.params).In h → h.Ns mainGlobals mg → mg d.name = some (.ref fa) →
      ∃ fd : FuncData, (∀ (s : Shared) (u : Value), BindsTo s fd ⟨[u], []⟩ [("_law_script", u)]) ∧ ∀ base : Heap, (K w.params).In base → base.Ns mainGlobals mg → FnOk l.prog w (K w.params) mg base CX0 9 fa fd ["_law_script"] (spLaw (K w.params))) :
    PySem.W.WalkO q loose XP YP l.row.toRowW d [] (fun f vs => PySem.call f vs) :=
  L2.walk_of (n := 63) (k := 9) (x := "_law_script") (CX := fun _ => CX0) (sp := fun w => spLaw (K w.params)) hn (by decide) hdf ⟨rfl, by decide, by decide⟩ hY F (fun _ _ a ns hl _ hS => ⟨a, ns, rfl, hS, hl, fun _ => rfl⟩) fun _ _ _ _ _ z => z
end Ink
open PySem PySem.W PyProof.Rows
set_option maxRecDepth 100000 in
set_option maxHeartbeats 0 in
theorem PySem.Challenge.cw_inkroot_k23_all_moments_kept_holds : PySem.Challenge.rw_inkroot_k23_all_moments_kept.Holds := by
  w_on; o_law; k_head; (case hw => w_witness2)
  k_fill
  refine Ink.walk (l := PySem.Challenge.rw_inkroot_k23_all_moments_kept) rfl rfl (fun w h Y => PySem.W.kIn_of Y) ?F
  case F =>
    intro w mg fa h KX G hmg
    refine' Ink.all_mk KX G hmg ?aCShelf ?pgShelf ?hdShelf ?poShelf ?saShelf ?mkShelf ?kcShelf ?noShelfstates ?noShelfopenings ?a0 ?l0 ?c0 ?k0 ?a1 ?l1 ?c1 ?k1 ?a2 ?l2 ?c2 ?k2 ?a3 ?l3 ?c3 ?k3 ?a4 ?l4 ?c4 ?k4 ?a5 ?l5 ?c5 ?k5 ?a6 ?i6 ?l6 ?c6 ?k6 ?a7 ?i7 ?l7 ?c7 ?k7 ?a8 ?i8 ?l8 ?c8 ?k8 ?a9 ?i9 ?l9 ?c9 ?k9 ?a10 ?i10 ?l10 ?c10 ?k10 ?a11 ?i11 ?l11 ?c11 ?k11 ?a12 ?i12 ?l12 ?c12 ?k12 ?a13 ?i13 ?l13 ?c13 ?k13 ?a14 ?i14 ?l14 ?c14 ?k14 ?a15 ?i15 ?l15 ?c15 ?k15 ?a16 ?i16 ?l16 ?c16 ?k16 ?a17 ?i17 ?l17 ?c17 ?k17 ?a18 ?l18 ?c18 ?k18 ?a19 ?l19 ?c19 ?k19 ?a20 ?l20 ?c20 ?k20 ?a21 ?l21 ?c21 ?k21 ?a22 ?l22 ?c22 ?k22 ?a23 ?l23 ?c23 ?k23 ?a24 ?l24 ?c24 ?k24 ?a25 ?l25 ?c25 ?k25 ?a26 ?l26 ?c26 ?k26 ?a27 ?l27 ?c27 ?k27 ?z0 ?z1 ?z2 ?z3 ?z4 ?z5 ?z6 ?z7 ?z8 ?xmNoSheet ?xxNoSheet ?xhNoSheet ?xmNoMoment ?xxNoMoment ?xhNoMoment ?xn0
    (case aCShelf => k_is)
    (case pgShelf => k_is)
    (case hdShelf => k_is)
    (case poShelf => k_is)
    (case saShelf => k_is)
    (case mkShelf => k_is)
    (case kcShelf => k_is)
    (case noShelfstates => k_is)
    (case noShelfopenings => k_is)
    (case a0 => k_is)
    (case l0 => k_is)
    (case c0 => k_is)
    (case k0 => k_is)
    (case a1 => k_is)
    (case l1 => k_is)
    (case c1 => k_is)
    (case k1 => k_is)
    (case a2 => k_is)
    (case l2 => k_is)
    (case c2 => k_is)
    (case k2 => k_is)
    (case a3 => k_is)
    (case l3 => k_is)
    (case c3 => k_is)
    (case k3 => k_is)
    (case a4 => k_is)
    (case l4 => k_is)
    (case c4 => k_is)
    (case k4 => k_is)
    (case a5 => k_is)
    (case l5 => k_is)
    (case c5 => k_is)
    (case k5 => k_is)
    (case a6 => k_is)
    (case i6 => k_is)
    (case l6 => k_is)
    (case c6 => k_is)
    (case k6 => k_is)
    (case a7 => k_is)
    (case i7 => k_is)
    (case l7 => k_is)
    (case c7 => k_is)
    (case k7 => k_is)
    (case a8 => k_is)
    (case i8 => k_is)
    (case l8 => k_is)
    (case c8 => k_is)
    (case k8 => k_is)
    (case a9 => k_is)
    (case i9 => k_is)
    (case l9 => k_is)
    (case c9 => k_is)
    (case k9 => k_is)
    (case a10 => k_is)
    (case i10 => k_is)
    (case l10 => k_is)
    (case c10 => k_is)
    (case k10 => k_is)
    (case a11 => k_is)
    (case i11 => k_is)
    (case l11 => k_is)
    (case c11 => k_is)
    (case k11 => k_is)
    (case a12 => k_is)
    (case i12 => k_is)
    (case l12 => k_is)
    (case c12 => k_is)
    (case k12 => k_is)
    (case a13 => k_is)
    (case i13 => k_is)
    (case l13 => k_is)
    (case c13 => k_is)
    (case k13 => k_is)
    (case a14 => k_is)
    (case i14 => k_is)
    (case l14 => k_is)
    (case c14 => k_is)
    (case k14 => k_is)
    (case a15 => k_is)
    (case i15 => k_is)
    (case l15 => k_is)
    (case c15 => k_is)
    (case k15 => k_is)
    (case a16 => k_is)
    (case i16 => k_is)
    (case l16 => k_is)
    (case c16 => k_is)
    (case k16 => k_is)
    (case a17 => k_is)
    (case i17 => k_is)
    (case l17 => k_is)
    (case c17 => k_is)
    (case k17 => k_is)
    (case a18 => k_is)
    (case l18 => k_is)
    (case c18 => k_is)
    (case k18 => k_is)
    (case a19 => k_is)
    (case l19 => k_is)
    (case c19 => k_is)
    (case k19 => k_is)
    (case a20 => k_is)
    (case l20 => k_is)
    (case c20 => k_is)
    (case k20 => k_is)
    (case a21 => k_is)
    (case l21 => k_is)
    (case c21 => k_is)
    (case k21 => k_is)
    (case a22 => k_is)
    (case l22 => k_is)
    (case c22 => k_is)
    (case k22 => k_is)
    (case a23 => k_is)
    (case l23 => k_is)
    (case c23 => k_is)
    (case k23 => k_is)
    (case a24 => k_is)
    (case l24 => k_is)
    (case c24 => k_is)
    (case k24 => k_is)
    (case a25 => k_is)
    (case l25 => k_is)
    (case c25 => k_is)
    (case k25 => k_is)
    (case a26 => k_is)
    (case l26 => k_is)
    (case c26 => k_is)
    (case k26 => k_is)
    (case a27 => k_is)
    (case l27 => k_is)
    (case c27 => k_is)
    (case k27 => k_is)
    (case z0 => k_is)
    (case z1 => k_is)
    (case z2 => k_is)
    (case z3 => k_is)
    (case z4 => k_is)
    (case z5 => k_is)
    (case z6 => k_is)
    (case z7 => k_is)
    (case z8 => k_is)
    (case xmNoSheet => k_is)
    (case xxNoSheet => k_exc)
    (case xhNoSheet => kts_exm)
    (case xmNoMoment => k_is)
    (case xxNoMoment => k_exc)
    (case xhNoMoment => kts_exm)
    (case xn0 => kts_exm)
