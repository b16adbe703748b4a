import PyProof.Rows.All
import Wide.All
import OpenK.AllK
import Wide.FinOn
import Lean
import PyProof.EqAt
import PyProof.EqKinds
import PyProof.TupleCall
import PySem.Challenge.RW_inkroot_k46_forty_sheets
set_option Elab.async false
set_option linter.all false
set_option maxRecDepth 100000
/-! THE HAND LAYER, for ints, bools, texts, own classes, LISTS and tuples (index, slices, in, append, pop ..), calls, loops. Paste it whole ahead of your own text; what your proof does not reach may be deleted. -/
namespace L2
open PySem PySem.Spec PyProof.Rows

/-- a key: an int or a str -/
abbrev Key := Sum Int Str
def keyIs : Key → Value → Bool
  | .inl k, v => Value.isInt k v
  | .inr x, v => Value.isStrOf x v
def keyH (w : World) : Key → Int
  | .inl k => hashInt k
  | .inr x => hashStr w x
theorem keyIs_shape : ∀ {k : Key} {v : Value}, keyIs k v = true → (∃ i t, k = Sum.inl i ∧ v = Value.int i t) ∨ (∃ x t, k = Sum.inr x ∧ v = Value.str x t)
  | .inl i, v, h => by
    obtain ⟨t, e⟩ := Value.isInt_shape (k := i) (v := v) h
    exact .inl ⟨i, t, rfl, e⟩
  | .inr x, v, h => by
    obtain ⟨t, e⟩ := Value.isStrOf_shape (x := x) (v := v) h
    exact .inr ⟨x, t, rfl, e⟩
theorem keyIs_int (i : Int) (t : Tok) : keyIs (.inl i) (.int i t) = true := by simp [keyIs, Value.isInt]
theorem keyIs_str (x : Str) (t : Tok) : keyIs (.inr x) (.str x t) = true := by simp [keyIs, Value.isStrOf]
theorem key_ll (a b : Int) : decide ((Sum.inl a : Key) = Sum.inl b) = (a == b) := by
  by_cases e : a = b
  · subst e; simp
  · have h : ¬ (Sum.inl a : Key) = Sum.inl b := fun q => e (Sum.inl.inj q)
    rw [decide_eq_false h]
    exact (beq_eq_false_iff_ne.mpr e).symm
theorem key_rr (a b : Str) : decide ((Sum.inr a : Key) = Sum.inr b) = decide (a = b) := by
  by_cases e : a = b
  · subst e; simp
  · have h : ¬ (Sum.inr a : Key) = Sum.inr b := fun q => e (Sum.inr.inj q)
    rw [decide_eq_false h, decide_eq_false e]
theorem key_lr (a : Int) (b : Str) : decide ((Sum.inl a : Key) = Sum.inr b) = false := decide_eq_false (fun q => nomatch q)
theorem key_rl (a : Str) (b : Int) : decide ((Sum.inr a : Key) = Sum.inl b) = false := decide_eq_false (fun q => nomatch q)

def mixKind (prog : Program) (w : World) : PySem.KeyKind prog w Key where
  is := keyIs
  hash := keyH w
  inj := fun v a b ha hb => by
    rcases keyIs_shape ha with ⟨i, t, rfl, rfl⟩ | ⟨x, t, rfl, rfl⟩
    · rcases keyIs_shape hb with ⟨j, u, rfl, e⟩ | ⟨y, u, rfl, e⟩
      · injection e with e1 _; rw [e1]
      · exact nomatch e
    · rcases keyIs_shape hb with ⟨j, u, rfl, e⟩ | ⟨y, u, rfl, e⟩
      · exact nomatch e
      · injection e with e1 _; rw [e1]
  byValue := fun k v h => by
    rcases keyIs_shape h with ⟨i, t, rfl, rfl⟩ | ⟨x, t, rfl, rfl⟩ <;> rfl
  pyHash := fun hv h => by
    rcases keyIs_shape hv with ⟨i, t, rfl, rfl⟩ | ⟨x, t, rfl, rfl⟩
    · exact wpAny_pyHash_int h
    · exact wpAny_pyHash_str h
  eqBool := fun hu hv h => by
    rcases keyIs_shape hu with ⟨i, t, rfl, rfl⟩ | ⟨x, t, rfl, rfl⟩
    · rcases keyIs_shape hv with ⟨j, u, rfl, rfl⟩ | ⟨y, u, rfl, rfl⟩
      · rw [key_ll] at h; exact wpAny_eqBool_int h
      · rw [key_lr] at h; exact SeqAt.EqAt.int_str i t y u _ _ _ _ h
    · rcases keyIs_shape hv with ⟨j, u, rfl, rfl⟩ | ⟨y, u, rfl, rfl⟩
      · rw [key_rl] at h; exact SeqAt.EqAt.str_int x t j u _ _ _ _ h
      · rw [key_rr] at h; exact wpAny_eqBool_str h
  «strs» := fun k x t v h => by
    rcases keyIs_shape h with ⟨i, u, rfl, e⟩ | ⟨y, u, rfl, e⟩
    · exact nomatch e
    · injection e with e1 _
      subst e1
      cases v <;> rfl

theorem mixKind_int (prog : Program) (w : World) (i : Int) (t : Tok) : (mixKind prog w).is (.inl i) (.int i t) = true := keyIs_int i t
theorem mixKind_str (prog : Program) (w : World) (x : Str) (t : Tok) : (mixKind prog w).is (.inr x) (.str x t) = true := keyIs_str x t
end L2

namespace L2
open PySem PySem.Spec PyProof.Rows

/-- a value, without the heap -/
inductive V where
  | non | bl (b : Bool) | int (i : Int) | str (x : Str) | byt (b : Array UInt8) | flt (b : UInt64) | ref (a : Addr) | ty (n : String)
  deriving DecidableEq

def RelV : V → Value → Prop
  | .non, u => u = Value.none
  | .bl b, u => u = Value.bool b
  | .int i, u => ∃ t, u = Value.int i t
  | .str x, u => ∃ t, u = Value.str x t
  | .byt b, u => ∃ t, u = Value.bytes b t
  | .flt b, u => ∃ t, u = Value.float b t
  | .ref a, u => u = Value.ref a
  | .ty n, u => u = Value.type n

abbrev Vals : List V → List Value → Prop := Paired RelV
theorem Vals.length {xs : List V} {us : List Value} (r : Vals xs us) : xs.length = us.length := Paired.length r
theorem Vals.get : ∀ {xs : List V} {us : List Value} {i : Nat} {x : V}, Vals xs us → xs[i]? = some x → ∃ u, us[i]? = some u ∧ RelV x u
  | _, _, _, _, .nil, e => by simp at e
  | _, _, 0, _, .cons r _, e => by simp at e; subst e; exact ⟨_, rfl, r⟩
  | _, _, i + 1, x, .cons _ t, e => by
    obtain ⟨u, h1, h2⟩ := Vals.get (i := i) (x := x) t (by simpa using e)
    exact ⟨u, by simpa using h1, h2⟩
theorem Vals.set {x : V} {u : Value} (r : RelV x u) : ∀ {xs : List V} {us : List Value} (i : Nat), Vals xs us → Vals (xs.set i x) (us.set i u)
  | _, _, _, .nil => .nil
  | _, _, 0, .cons _ t => .cons r t
  | _, _, i + 1, .cons q t => .cons q (Vals.set r i t)
theorem Vals.append : ∀ {xs ys : List V} {us ws : List Value}, Vals xs us → Vals ys ws → Vals (xs ++ ys) (us ++ ws)
  | _, _, _, _, .nil, s => s
  | _, _, _, _, .cons r t, s => .cons r (Vals.append t s)
theorem Vals.take : ∀ {xs : List V} {us : List Value} (n : Nat), Vals xs us → Vals (xs.take n) (us.take n)
  | _, _, 0, _ => .nil
  | _, _, _ + 1, .nil => .nil
  | _, _, n + 1, .cons r t => .cons r (Vals.take n t)
theorem Vals.drop : ∀ {xs : List V} {us : List Value} (n : Nat), Vals xs us → Vals (xs.drop n) (us.drop n)
  | _, _, 0, r => r
  | _, _, _ + 1, .nil => .nil
  | _, _, n + 1, .cons _ t => Vals.drop n t
theorem Vals.none_of : ∀ {xs : List V} {us : List Value} {i : Nat}, Vals xs us → xs[i]? = none → us[i]? = none := fun {xs us i} r e => by
  have h1 := r.length
  have h2 : xs.length ≤ i := List.getElem?_eq_none_iff.mp e
  exact List.getElem?_eq_none_iff.mpr (by omega)

def RelO : Option V → Option Value → Prop
  | some v, some u => RelV v u
  | none, none => True
  | _, _ => False
def KV {κ : Type} : List (κ × V) → List (κ × Value) → Prop := Paired fun (p : κ × V) (q : κ × Value) => p.1 = q.1 ∧ RelV p.2 q.2

/-- a key of a dict (00_mix): an int or a text -/
def kV : Key → V
  | .inl i => .int i
  | .inr x => .str x

/-- what stands at a tracked address -/
inductive HO where
  /-- a list -/
  | lst (xs : List V)
  /-- a tuple (never changes) -/
  | tup (xs : List V)
  /-- a dict whose keys are ints and texts; one whose keys are tuples of ints and texts (the empty one is both) -/
  | dK (kvs : List (Key × V)) | dT (kvs : List (List Key × V))
  /-- a set of ints: its members, its size -/
  | set (S : Int → Bool) (n : Nat)
  /-- an instance of the class at C, its dict at dx, its attributes -/
  | ins (C dx : Addr) (fs : List (Str × V))
  /-- the dict of the instance at x -/
  | own (x : Addr)
  /-- the dict of an exception -/
  | xd (fs : List (Str × V))
  /-- a bound method, f of x -/
  | met (f x : Addr)
  /-- a range object lo, lo + 1, .. below hi -/
  | rng (lo hi : Int)
  /-- a thing that is known to the object (the script; a dict while a loop walks it): read, never written while it is so -/
  | frz (o : Obj) (u : HO)
  /-- a code object's table -/
  | tbl (ps : Array Value)
  /-- any other thing, by what is true of its one object (a def of one's own: SetO a S n := HO.ext fun h => ..) -/
  | ext (φ : Heap → Prop)

abbrev Hp := Addr → Option HO
def upd (H : Hp) (a : Addr) (o : HO) : Hp := fun b => if b = a then some o else H b
theorem upd_same {H : Hp} {a : Addr} {o : HO} : upd H a o a = some o := by unfold upd; rw [if_pos rfl]
theorem upd_ne {H : Hp} {a b : Addr} {o : HO} (h : b ≠ a) : upd H a o b = H b := by unfold upd; rw [if_neg h]
/-- two objects of different content stand apart -/
theorem ne_of {H : Hp} {a b : Addr} {o u : HO} (h : H a = some o) (h' : H b = some u) (d : o ≠ u) : a ≠ b := by
  intro e; subst e; rw [h] at h'; exact d (Option.some.inj h')
theorem ne_of_none {H : Hp} {a b : Addr} {o : HO} (h : H a = some o) (h' : H b = none) : a ≠ b := by
  intro e; subst e; rw [h] at h'; cases h'

section
variable (P : Program) (w : World)
def ObjOk (H : Hp) (h : Heap) (a : Addr) : HO → Prop
  | .lst xs => xs.length ≤ sizeLine ∧ ∃ (its : List Value) (n : Nat), Vals xs its ∧ h.get? a = some { cls := .type "list", data := .seq its.toArray n }
  | .tup xs => xs.length ≤ sizeLine ∧ ∃ its : List Value, Vals xs its ∧ IsTup h a its.toArray
  | .dK kvs => kvs.length ≤ sizeLine ∧ (a == sysModules) = false ∧ ∃ vs, KV kvs vs ∧ h.DictOf (mixKind P w) a vs
  | .dT kvs => kvs.length ≤ sizeLine ∧ (a == sysModules) = false ∧ ∃ xs : List (List Key × Addr × Value),
      Paired (fun (p : List Key × V) (q : List Key × Addr × Value) => p.1 = q.1 ∧ H q.2.1 = some (.tup (p.1.map kV)) ∧ RelV p.2 q.2.2) kvs xs ∧
      ∃ o es ep, h.get? a = some o ∧ o.ExactDict ∧ o.data = .dict es ep ∧ es.toList = xs.map (entryOfKey (tupleKind (mixKind P w))) ∧ (xs.map (·.1)).Nodup
  | .set S n => h.SetOf (intKind P w) a S n
  | .ins C dx fs => H dx = some (.own a) ∧ fs.length ≤ 1000 ∧ dx ≠ a ∧ h.get? a = some (PySem.W.instObj C dx) ∧
      ∃ mA, h.Ns1 dx mA ∧ (∀ f, RelO (fs.lookup f) (mA f)) ∧ PySem.Within mA (fs.map (·.1))
  | .own _ => ∃ o, h.get? a = some o
  | .xd fs => ∃ mA, h.Ns1 a mA ∧ ∀ f, RelO (fs.lookup f) (mA f)
  | .rng lo hi => ∃ t u v, h.get? a = some { cls := .type "range", data := .fields #[.int lo t, .int hi u, .int 1 v] }
  | .frz o u => h.get? a = some o ∧ ObjOk H h a u
  | .tbl ps => h.get? a = some { cls := .none, data := .fields ps }
  | .met f x => h.get? a = some (PySem.W.methodObj (.ref f) (.ref x))
  | .ext φ => φ h ∧ (∃ o, h.get? a = some o) ∧ ∀ h1 h2 : Heap, φ h1 → (∀ o, h1.get? a = some o → h2.get? a = some o) → φ h2
/-- the abstract heap is held -/
def HOk (H : Hp) (h : Heap) : Prop := ∀ a o, H a = some o → ObjOk P w H h a o
end

section
variable {P : Program} {w : World} {H H' : Hp} {h h' : Heap} {a : Addr} {o : HO}
theorem ObjOk.lt (x : ObjOk P w H h a o) : a < h.objs.size := by
  cases o with
  | lst xs => obtain ⟨_, _, _, _, e⟩ := x; exact Heap.lt_size e
  | tup xs => obtain ⟨_, _, _, p⟩ := x; exact p.lt
  | dK kvs => obtain ⟨_, _, _, _, o, _, _, e, _⟩ := x; exact Heap.lt_size e
  | dT kvs => obtain ⟨_, _, _, _, o, _, _, e, _⟩ := x; exact Heap.lt_size e
  | set S n => obtain ⟨o, _, _, _, e, _⟩ := x; exact Heap.lt_size e
  | ins C dx fs => obtain ⟨_, _, _, e, _⟩ := x; exact Heap.lt_size e
  | own y => obtain ⟨_, e⟩ := x; exact Heap.lt_size e
  | xd fs => obtain ⟨_, ⟨_, _, _, e, _⟩, _⟩ := x; exact Heap.lt_size e
  | rng lo hi => obtain ⟨_, _, _, e⟩ := x; exact Heap.lt_size e
  | frz ob u => obtain ⟨e, _⟩ := x; exact Heap.lt_size e
  | tbl ps => exact Heap.lt_size (show h.get? a = some _ from x)
  | met f y => exact Heap.lt_size (show h.get? a = some _ from x)
  | ext φ => obtain ⟨_, ⟨_, e⟩, _⟩ := x; exact Heap.lt_size e
theorem Paired.mapP {α β : Type} {F G : α → β → Prop} : ∀ {l₁ : List α} {l₂ : List β}, Paired F l₁ l₂ → (∀ a b, F a b → G a b) → Paired G l₁ l₂
  | _, _, .nil, _ => .nil
  | _, _, .cons r t, f => .cons (f _ _ r) (Paired.mapP t f)
/-- what an object's description leans on: its own object, its own dict, the tuples -/
theorem ObjOk.stay (x : ObjOk P w H h a o) (k : ∀ b u, (b = a ∨ H b = some (.own a)) → h.get? b = some u → h'.get? b = some u)
    (ho : ∀ b, H b = some (.own a) → H' b = some (.own a)) (ht : ∀ b xs, H b = some (.tup xs) → H' b = some (.tup xs)) : ObjOk P w H' h' a o := by
  induction o with
  | lst xs => obtain ⟨z, its, n, r, e⟩ := x; exact ⟨z, its, n, r, k _ _ (.inl rfl) e⟩
  | tup xs => obtain ⟨z, its, r, ob, e, c⟩ := x; exact ⟨z, its, r, ob, k _ _ (.inl rfl) e, c⟩
  | dK kvs => obtain ⟨z, y, vs, r, ob, es, ep, e, c⟩ := x; exact ⟨z, y, vs, r, ob, es, ep, k _ _ (.inl rfl) e, c⟩
  | dT kvs =>
    obtain ⟨z, y, xs, r, ob, es, ep, e, c⟩ := x
    exact ⟨z, y, xs, Paired.mapP r fun p q z => ⟨z.1, ht _ _ z.2.1, z.2.2⟩, ob, es, ep, k _ _ (.inl rfl) e, c⟩
  | set S n => obtain ⟨ob, es, ep, t, e, c⟩ := x; exact ⟨ob, es, ep, t, k _ _ (.inl rfl) e, c⟩
  | ins C dx fs =>
    obtain ⟨d, z, ne, e, mA, ⟨od, es, ep, e2, c⟩, r⟩ := x
    exact ⟨ho _ d, z, ne, k _ _ (.inl rfl) e, mA, ⟨od, es, ep, k _ _ (.inr d) e2, c⟩, r⟩
  | own y => obtain ⟨ob, e⟩ := x; exact ⟨ob, k _ _ (.inl rfl) e⟩
  | xd fs => obtain ⟨mA, ⟨od, es, ep, e, c⟩, r⟩ := x; exact ⟨mA, ⟨od, es, ep, k _ _ (.inl rfl) e, c⟩, r⟩
  | rng lo hi => obtain ⟨t, u, v, e⟩ := x; exact ⟨t, u, v, k _ _ (.inl rfl) e⟩
  | frz ob u ih => obtain ⟨e, q⟩ := x; exact ⟨k _ _ (.inl rfl) e, ih q⟩
  | tbl ps =>
    have e : h.get? a = some { cls := .none, data := .fields ps } := x
    show h'.get? a = some { cls := .none, data := .fields ps }
    exact k a _ (.inl rfl) e
  | met f y =>
    have e : h.get? a = some (PySem.W.methodObj (.ref f) (.ref y)) := x
    show h'.get? a = some (PySem.W.methodObj (.ref f) (.ref y))
    exact k a _ (.inl rfl) e
  | ext φ => obtain ⟨p, ⟨o, e⟩, st⟩ := x; exact ⟨st _ _ p fun o q => k _ _ (.inl rfl) q, ⟨o, k _ _ (.inl rfl) e⟩, st⟩
theorem HOk.lt (x : HOk P w H h) (e : H a = some o) : a < h.objs.size := (x a o e).lt
theorem HOk.fresh (x : HOk P w H h) (e : h.objs.size ≤ a) : H a = none := by
  cases q : H a with
  | none => rfl
  | some u => exact absurd (Nat.lt_of_lt_of_le (x.lt q) e) (Nat.lt_irrefl _)
/-- every object of the heap is kept -/
theorem HOk.kept (x : HOk P w H h) (k : ∀ b u, h.get? b = some u → h'.get? b = some u) : HOk P w H h' := fun a o e =>
  (x a o e).stay (fun b u _ q => k b u q) (fun _ q => q) fun _ _ q => q
/-- a new object is laid and tracked -/
theorem HOk.laid (x : HOk P w H h) (k : ∀ b u, h.get? b = some u → h'.get? b = some u) (hp : h.objs.size ≤ a) (new : ObjOk P w (upd H a o) h' a o) : HOk P w (upd H a o) h' := fun b u e => by
  have hn := x.fresh hp
  by_cases hb : b = a
  · subst hb; rw [upd_same] at e; cases e; exact new
  · rw [upd_ne hb] at e
    exact (x b u e).stay (fun c v _ q => k c v q) (fun c q => by rw [upd_ne (ne_of_none q hn)]; exact q) fun c xs q => by rw [upd_ne (ne_of_none q hn)]; exact q
end

/-- what may be read as u: it is u, or a known u -/
def Rd (H : Hp) (a : Addr) (u : HO) : Prop := H a = some u ∨ ∃ o, H a = some (.frz o u)
theorem Rd.of {H : Hp} {a : Addr} {u : HO} (h : H a = some u) : Rd H a u := .inl h
theorem Rd.ok {P : Program} {w : World} {H : Hp} {h : Heap} {a : Addr} {u : HO} (r : Rd H a u) (x : HOk P w H h) : ObjOk P w H h a u := by
  rcases r with r | ⟨o, r⟩
  · exact x a u r
  · obtain ⟨_, q⟩ := x a _ r
    exact q
/-- what may be written -/
def Mut : Option HO → Prop
  | some (.lst _) => True
  | some (.dK _) => True
  | some (.dT _) => True
  | some (.set _ _) => True
  | some (.ins _ _ _) => True
  | some (.ext _) => True
  | _ => False
section
variable {P : Program} {w : World} {H : Hp} {h h' : Heap} {x e : Addr} {o' : HO}
/-- the object at e is changed: x itself, or the dict of the instance x -/
theorem HOk.write (ok : HOk P w H h) (mu : Mut (H x)) (he : e = x ∨ H e = some (.own x)) (k : ∀ b u, b ≠ e → h.get? b = some u → h'.get? b = some u) (heo : ∃ u, h'.get? e = some u)
    (new : ObjOk P w (upd H x o') h' x o') : HOk P w (upd H x o') h' := fun b u q => by
  have nown : ∀ c y, H c = some (.own y) → c ≠ x := fun c y r z => by subst z; rw [r] at mu; exact mu
  have ntup : ∀ c xs, H c = some (.tup xs) → c ≠ x := fun c xs r z => by subst z; rw [r] at mu; exact mu
  by_cases hb : b = x
  · subst hb; rw [upd_same] at q; cases q; exact new
  · rw [upd_ne hb] at q
    by_cases hbe : b = e
    · have q' : H b = some (.own x) := by
        rcases he with z | z
        · exact absurd (hbe.trans z) hb
        · rw [hbe]; exact z
      rw [q] at q'; cases q'
      obtain ⟨v, hv⟩ := heo
      exact ⟨v, by rw [hbe]; exact hv⟩
    · refine (ok b u q).stay (fun c v hc r => k c v ?_ r) (fun c r => by rw [upd_ne (nown c b r)]; exact r) fun c xs r => by rw [upd_ne (ntup c xs r)]; exact r
      rcases hc with rfl | hc
      · exact hbe
      · rintro rfl
        rcases he with z | z
        · exact nown c b hc z
        · rw [hc] at z; cases z; exact hb rfl
end

/-! ### kept unless tracked; of the frames at fs (the callers') the slots may change (an exception that passes writes there); of the records at ex (iterators) nothing is said -/
structure Un (fs ex : List Addr) (H H' : Hp) (h h' : Heap) : Prop where
  keep : ∀ b o, h.get? b = some o → H b = none → b ∉ fs → b ∉ ex → h'.get? b = some o
  slot : ∀ b o, h.get? b = some o → H b = none → b ∈ fs → b ∉ ex → ∃ sl, h'.get? b = some { o with slots := sl }
  free : ∀ b o, h.get? b = some o → H b = none → b ∉ ex → H' b = none
  there : ∀ b o, h.get? b = some o → b ∉ ex → ∃ o', h'.get? b = some o'
  tups : ∀ b xs, H b = some (.tup xs) → H' b = some (.tup xs)
  frzs : ∀ b o u, H b = some (.frz o u) → H' b = some (.frz o u)
  tbls : ∀ b ps, H b = some (.tbl ps) → ∃ more, H' b = some (.tbl (ps ++ more))
section
variable {fs fs' ex ex' : List Addr} {H H1 H2 : Hp} {h h1 h2 h' : Heap} {a x e : Addr} {o : HO}
theorem Un.any (u : Un fs ex H H1 h h1) {b : Addr} {ob : Obj} (q : h.get? b = some ob) (n : H b = none) (hx : b ∉ ex) : ∃ sl, h1.get? b = some { ob with slots := sl } := by
  by_cases hb : b ∈ fs
  · exact u.slot b ob q n hb hx
  · exact ⟨ob.slots, u.keep b ob q n hb hx⟩
theorem Un.trans (a : Un fs ex H H1 h h1) (b : Un fs ex H1 H2 h1 h2) : Un fs ex H H2 h h2 where
  keep := fun c ob q n hc hx => b.keep c ob (a.keep c ob q n hc hx) (a.free c ob q n hx) hc hx
  slot := fun c ob q n hc hx => by
    obtain ⟨sl, e1⟩ := a.slot c ob q n hc hx
    obtain ⟨sl', e2⟩ := b.slot c _ e1 (a.free c ob q n hx) hc hx
    exact ⟨sl', e2⟩
  free := fun c ob q n hx => by
    obtain ⟨o', e1⟩ := a.there c ob q hx
    exact b.free c o' e1 (a.free c ob q n hx) hx
  there := fun c ob q hx => by
    obtain ⟨o', e1⟩ := a.there c ob q hx
    exact b.there c o' e1 hx
  tups := fun c xs q => b.tups c xs (a.tups c xs q)
  frzs := fun c ob xs q => b.frzs c ob xs (a.frzs c ob xs q)
  tbls := fun c ps q => by
    obtain ⟨m1, e1⟩ := a.tbls c ps q
    obtain ⟨m2, e2⟩ := b.tbls c _ e1
    exact ⟨m1 ++ m2, by rw [e2, Array.append_assoc]⟩
theorem Un.kept (k : ∀ b u, h.get? b = some u → h'.get? b = some u) : Un fs ex H H h h' :=
  ⟨fun b ob q _ _ _ => k b ob q, fun b ob q _ _ _ => ⟨ob.slots, k b ob q⟩, fun _ _ _ n _ => n, fun b ob q _ => ⟨ob, k b ob q⟩, fun _ _ q => q, fun _ _ _ q => q, fun _ ps q => ⟨#[], by rw [q]; simp⟩⟩
theorem Un.refl : Un fs ex H H h h := Un.kept fun _ _ q => q
theorem Un.laid (k : ∀ b u, h.get? b = some u → h'.get? b = some u) (hp : h.objs.size ≤ a) (hn : H a = none) : Un fs ex H (upd H a o) h h' where
  keep := fun b u q _ _ _ => k b u q
  slot := fun b u q _ _ _ => ⟨u.slots, k b u q⟩
  free := fun b u q n _ => by rw [upd_ne (Nat.ne_of_lt (Nat.lt_of_lt_of_le (Heap.lt_size q) hp))]; exact n
  there := fun b u q _ => ⟨u, k b u q⟩
  tups := fun b xs q => by rw [upd_ne (ne_of_none q hn)]; exact q
  frzs := fun b u xs q => by rw [upd_ne (ne_of_none q hn)]; exact q
  tbls := fun b ps q => ⟨#[], by rw [upd_ne (ne_of_none q hn), q]; simp⟩
theorem Un.write (mu : Mut (H x)) (he : e = x ∨ H e = some (.own x)) (k : ∀ b u, b ≠ e → h.get? b = some u → h'.get? b = some u) (heo : ∃ u, h'.get? e = some u) : Un fs ex H (upd H x o) h h' := by
  have hx : ∀ b, H b = none → b ≠ x := fun b n z => by subst z; rw [n] at mu; exact mu
  have hb : ∀ b, H b = none → b ≠ e := fun b n z => by
    subst z
    rcases he with r | r
    · exact hx b n r
    · rw [n] at r; cases r
  have hm : ∀ b u, H b = some u → ¬ Mut (some u) → b ≠ x := fun b u q nm z => by subst z; rw [q] at mu; exact nm mu
  refine ⟨fun b u q n _ _ => k b u (hb b n) q, fun b u q n _ _ => ⟨u.slots, k b u (hb b n) q⟩, fun b u q n _ => by rw [upd_ne (hx b n)]; exact n, fun b u q _ => ?_,
    fun b xs q => by rw [upd_ne (hm b _ q fun z => z)]; exact q, fun b u xs q => by rw [upd_ne (hm b _ q fun z => z)]; exact q, fun b ps q => ⟨#[], by rw [upd_ne (hm b _ q fun z => z), q]; simp⟩⟩
  by_cases hbe : b = e
  · subst hbe; exact heo
  · exact ⟨u, k b u hbe q⟩
theorem Un.mono (u : Un fs ex H H1 h h1) (hs : ∀ b ∈ fs, b ∈ fs') (hx : ∀ b ∈ ex, b ∈ ex') : Un fs' ex' H H1 h h1 :=
  ⟨fun b ob q n hb he => u.keep b ob q n (fun z => hb (hs b z)) fun z => he (hx b z), fun _ _ q n _ he => u.any q n fun z => he (hx _ z), fun b ob q n he => u.free b ob q n fun z => he (hx b z), fun b ob q he => u.there b ob q fun z => he (hx b z), u.tups, u.frzs, u.tbls⟩
end

/-! ### the heap without what is tracked -/
def trk (h : Heap) (H : Hp) : List Addr := (List.range h.objs.size).filter fun a => (H a).isSome
def hidT (h : Heap) (H : Hp) : Heap := PySem.W.hideAll h (trk h H)
theorem hidT_size (h : Heap) (H : Hp) : (hidT h H).objs.size = h.objs.size := PySem.W.hideAll_size _ _
theorem hidT_get {h : Heap} {H : Hp} {b : Addr} {o : Obj} (e : h.get? b = some o) (n : H b = none) : (hidT h H).get? b = some o :=
  PySem.W.hideAll_get _ e fun hm => by
    have q : (H b).isSome = true := (List.mem_filter.mp hm).2
    rw [n] at q; simp at q
theorem of_hidT {h : Heap} {H : Hp} {b : Addr} {o : Obj} (e : (hidT h H).get? b = some o) : h.get? b = some o ∧ H b = none := by
  have e' : h.get? b = some o := PySem.W.of_hideAll (trk h H) e
  refine ⟨e', ?_⟩
  cases q : H b with
  | none => rfl
  | some x =>
    have hm : b ∈ trk h H := List.mem_filter.mpr ⟨List.mem_range.mpr (Heap.lt_size e'), by simp [q]⟩
    have z : (hidT h H).get? b = none := PySem.W.hideAll_none (trk h H) hm
    rw [z] at e; cases e

/-! ### OpenK's ledger, filled with every new object but one -/
def allNews (g h : Heap) (L : Addr) : List (Addr × Obj) := (List.range h.objs.size).filterMap fun a => if a = L ∨ (g.get? a).isSome = true then none else (h.get? a).map fun o => (a, o)
def rest (g h : Heap) (L d : Addr) : List (Addr × Obj) := (allNews g h L).filter fun p => decide (p.1 ≠ d)
end L2

namespace L2
open PySem PySem.Spec PyProof.Rows

/-- the module's facts, over the base: the heap at the law's entry without what is tracked there -/
structure Mod (K : PySem.W.Frag) (mg : Str → Option Value) (base : Heap) : Prop where
  kin : K.In base
  glob : base.Ns mainGlobals mg
  blt : ∃ mb, base.Ns builtinsNs mb ∧ ∀ x : Str, x ≠ "__name__" → mb x = bootBuiltins x
  nolimit : base.NoLimit

/-- the context: a def's body (or a comprehension's block) running. base: fixed through the whole law; s₀, H₀: the entry; outer: the frames whose slots others may change (a def's callers); stack: all frames that run;
   ex: iterators that were made ahead of the entry and are walked here (a comprehension's); fn: the names whose cells were made at the entry (a def: all; a comprehension's block: its own); calm: not within an except suite; pn: pins that every state bears; xe: what is wanted of an exception that leaves the code -/
structure Cx where
  prog : Program
  w : World
  K : PySem.W.Frag
  mg : Str → Option Value
  base : Heap
  A : Around
  N : List Str
  s₀ : Shared
  H₀ : Hp
  env : Env
  outer : List Env
  stack : List Env
  ex : List Addr
  fn : Str → Bool
  calm : Bool
  pn : List (Addr × Obj)
  xe : Value → Shared → Prop
/-- the callers' frames -/
def frs (l : List Env) : List Addr := l.filterMap (·.frame)
abbrev Cx.fs (X : Cx) : List Addr := frs X.outer

def Vis (sc : Scope) (x : Str) : Prop := sc.names.lookup x = some .local ∨ sc.names.lookup x = some .cell ∨ sc.names.lookup x = some .free
def Loc (sc : Scope) (x : Str) : Prop := sc.names.lookup x = some .local ∨ sc.names.lookup x = some .cell
def Look (env : Env) (h : Heap) (m : Str → Option Value) (x : Str) (u : Value) : Prop :=
  (env.kindOf x = some .local ∧ m x = some u) ∨ ((env.kindOf x = some .cell ∨ env.kindOf x = some .free) ∧ ∃ c, env.cells.lookup x = some c ∧ h.IsCell c (some u))

structure Cx.Ok (X : Cx) : Prop where
  mod : Mod X.K X.mg X.base
  kind : X.env.scope.kind = .function
  glob : X.env.globals = mainGlobals
  blt : X.env.builtins = builtinsNs
  above : X.s₀.heap.objs.size ≤ X.env.locals
  inj : ∀ x y c, X.env.cells.lookup x = some c → X.env.cells.lookup y = some c → x = y
  has : ∀ x, (X.env.kindOf x = some .cell ∨ X.env.kindOf x = some .free) → ∃ c, X.env.cells.lookup x = some c
  cab : ∀ x c, X.fn x = true → X.env.cells.lookup x = some c → X.s₀.heap.objs.size ≤ c
  hd : X.calm = true → X.A.handled = none
  frames : X.A.frames = some X.stack
  stk : X.stack = X.outer ∨ (X.stack = X.env :: X.outer ∧ X.env.frame = some X.env.locals)
  exf : ∀ b ∈ X.ex, b ≠ X.env.locals ∧ ∀ x c, X.env.cells.lookup x = some c → c ≠ b
  bs : ∀ b o, X.base.get? b = some o → X.s₀.heap.get? b = some o ∧ X.H₀ b = none
  bsz : X.base.objs.size ≤ X.s₀.heap.objs.size
  noex : ∀ b o, X.base.get? b = some o → b ∉ X.ex
  exfs : ∀ b ∈ X.ex, b ∉ X.fs
  funs : X.s₀.heap.FunFrames X.base X.outer
  frf : ∀ b ∈ X.fs, X.H₀ b = none

structure Inv (X : Cx) (pins : List (Addr × Obj)) (σ : List (Option V)) (H : Hp) (s : Shared) : Prop where
  ok : X.Ok
  os : s.os = X.s₀.os
  bare : AllBare s.gens
  base : Un X.fs X.ex X.H₀ H X.s₀.heap s.heap
  loc : ∃ m, s.heap.Ns X.env.locals m ∧ ∀ (i : Nat) (x : Str) (v : V), X.N[i]? = some x → σ[i]? = some (some v) → Vis X.env.scope x → ∃ u, RelV v u ∧ Look X.env s.heap m x u
  cell : ∀ x c, X.env.cells.lookup x = some c → ∃ v, s.heap.IsCell c v
  free : H X.env.locals = none
  freeC : ∀ x c, X.env.cells.lookup x = some c → H c = none
  pin : ∀ p ∈ X.pn ++ pins, s.heap.get? p.1 = some p.2 ∧ H p.1 = none ∧ p.1 ≠ X.env.locals ∧ p.1 ∉ X.fs ∧ ∀ v, p.2.data ≠ .cell v
  hok : HOk X.prog X.w H s.heap
  len : σ.length = X.N.length

section
variable {X : Cx} {pins : List (Addr × Obj)} {σ : List (Option V)} {H H' : Hp} {s : Shared} {h' : Heap}

theorem Cx.Ok.nofr (ok : X.Ok) {b : Addr} {o : Obj} (e : X.base.get? b = some o) : b ∉ X.fs := fun hb => by
  have := (ok.funs.mem hb).1
  rw [e] at this; cases this
theorem Inv.bs (I : Inv X pins σ H s) : ∀ b o, X.base.get? b = some o → s.heap.get? b = some o ∧ H b = none := fun b o e =>
  ⟨I.base.keep b o (I.ok.bs b o e).1 (I.ok.bs b o e).2 (I.ok.nofr e) (I.ok.noex b o e), I.base.free b o (I.ok.bs b o e).1 (I.ok.bs b o e).2 (I.ok.noex b o e)⟩
theorem Inv.bk (I : Inv X pins σ H s) : ∀ b o, X.base.get? b = some o → s.heap.get? b = some o := fun b o e => (I.bs b o e).1
theorem Inv.mod (I : Inv X pins σ H s) : Mod X.K X.mg X.base := I.ok.mod
theorem Inv.kIn (I : Inv X pins σ H s) : X.K.In s.heap := I.ok.mod.kin.keeps I.bk
theorem Inv.nolimit (I : Inv X pins σ H s) : s.heap.NoLimit := I.ok.mod.nolimit.keeps I.bk
/-- the frame over the base: for OpenK's rules (K.In X.base is I.mod.kin) -/
theorem Inv.fr (I : Inv X pins σ H s) : ∃ m, Fr X.base X.env.locals s.heap m :=
  let ⟨m, hn, _⟩ := I.loc
  ⟨m, hn, I.bk, Nat.le_trans I.ok.bsz I.ok.above⟩
theorem Inv.lt (I : Inv X pins σ H s) : X.env.locals < s.heap.objs.size := let ⟨_, hn, _⟩ := I.loc; hn.lt
theorem Inv.sz (I : Inv X pins σ H s) : X.s₀.heap.objs.size ≤ s.heap.objs.size := Nat.le_trans I.ok.above (Nat.le_of_lt I.lt)
theorem Inv.nofs (I : Inv X pins σ H s) {a : Addr} (h : s.heap.objs.size ≤ a) : a ∉ X.fs := fun hb => by
  obtain ⟨_, o, ho, _⟩ := I.ok.funs.mem hb
  exact absurd (Nat.lt_of_lt_of_le (Heap.lt_size ho) (Nat.le_trans I.sz h)) (Nat.lt_irrefl _)
theorem Inv.cne (I : Inv X pins σ H s) : ∀ x c, X.env.cells.lookup x = some c → c ≠ X.env.locals := fun x c e z => by
  obtain ⟨v, o, ho, hd⟩ := I.cell x c e
  obtain ⟨m, ⟨o', es, ep, ho', hd', _⟩, _⟩ := I.loc
  rw [z, ho'] at ho; cases ho; rw [hd'] at hd; cases hd
theorem Inv.funs (I : Inv X pins σ H s) : s.heap.FunFrames X.base X.outer := by
  have all : ∀ (l : List Env), (∀ b ∈ frs l, b ∈ X.fs) → X.s₀.heap.FunFrames X.base l → s.heap.FunFrames X.base l := by
    intro l
    induction l with
    | nil => intro _ _; trivial
    | cons env r ih =>
      intro hs hl
      obtain ⟨hk, ⟨L, o, hf, hn, ho, hd⟩, hr⟩ := hl
      have hL : L ∈ X.fs := hs L (by unfold frs; rw [List.filterMap_cons, hf]; exact List.mem_cons_self)
      obtain ⟨sl, e⟩ := I.base.slot L o ho (I.ok.frf L hL) hL fun z => I.ok.exfs L z hL
      exact ⟨hk, ⟨L, _, hf, hn, e, hd⟩, ih (fun b hb => hs b (by unfold frs; rw [List.filterMap_cons, hf]; exact List.mem_cons_of_mem _ hb)) hr⟩
  exact all X.outer (fun _ hb => hb) I.ok.funs

/-- the frames that run, for a call -/
theorem Inv.stack (I : Inv X pins σ H s) : s.heap.FunFrames X.base X.stack := by
  rcases I.ok.stk with e | ⟨e, hf⟩
  · rw [e]; exact I.funs
  · rw [e]
    obtain ⟨m, hn, _⟩ := I.loc
    refine .cons (by rw [I.ok.kind]; decide) hf hn ?_ I.funs
    exact Heap.get?_none_of_le (Nat.le_trans I.ok.bsz I.ok.above)
theorem Inv.stkSub (I : Inv X pins σ H s) : ∀ b ∈ frs X.stack, b ∈ X.env.locals :: X.fs := fun b hb => by
  rcases I.ok.stk with e | ⟨e, hf⟩
  · rw [e] at hb; exact List.mem_cons_of_mem _ hb
  · rw [e] at hb
    unfold frs at hb
    rw [List.filterMap_cons, hf] at hb
    exact hb
theorem Inv.stkFree (I : Inv X pins σ H s) : ∀ b ∈ frs X.stack, H b = none := fun b hb => by
  rcases List.mem_cons.mp (I.stkSub b hb) with e | hb
  · rw [e]; exact I.free
  · obtain ⟨_, o, ho, _⟩ := I.ok.funs.mem hb
    exact I.base.free b o ho (I.ok.frf b hb) fun z => I.ok.exfs b z hb

/-- THE STEP: the untracked objects but the frame and the records at ch are kept (the callers' frames up to slots), the frame's map is kept, the new abstract heap is held -/
theorem Inv.step {g' : Array GenState} {t' : Nat} {d' : Drawn} {ch : List Addr} (I : Inv X pins σ H s)
    (hch : ∀ b ∈ ch, (b ∈ X.ex ∨ X.s₀.heap.objs.size ≤ b) ∧ b ≠ X.env.locals ∧ (∀ x c, X.env.cells.lookup x = some c → c ≠ b) ∧ ∀ p ∈ X.pn ++ pins, p.1 ≠ b)
    (keep : ∀ b o, b ≠ X.env.locals → b ∉ X.fs → b ∉ ch → s.heap.get? b = some o → H b = none → h'.get? b = some o)
    (slot : ∀ b o, b ≠ X.env.locals → b ∈ X.fs → b ∉ ch → s.heap.get? b = some o → H b = none → ∃ sl, h'.get? b = some { o with slots := sl }) (free : ∀ b o, b ∉ ch → s.heap.get? b = some o → H b = none → H' b = none)
    (there : ∀ b o, b ∉ ch → s.heap.get? b = some o → ∃ o', h'.get? b = some o')
    (tups : ∀ b xs, H b = some (.tup xs) → H' b = some (.tup xs)) (frzs : ∀ b o u, H b = some (.frz o u) → H' b = some (.frz o u)) (tbls : ∀ b ps, H b = some (.tbl ps) → ∃ more, H' b = some (.tbl (ps ++ more)))
    (ns : ∀ m, s.heap.Ns X.env.locals m → h'.Ns X.env.locals m) (hok : HOk X.prog X.w H' h') (hg : AllBare g') :
    Inv X pins σ H' { s with heap := h', gens := g', drawn := d', toks := t' } := by
  have neL : ∀ b o, X.s₀.heap.get? b = some o → b ≠ X.env.locals := fun b o e => Nat.ne_of_lt (Nat.lt_of_lt_of_le (Heap.lt_size e) I.ok.above)
  have neC : ∀ b o, X.s₀.heap.get? b = some o → b ∉ X.ex → b ∉ ch := fun b o e hx hb => by
    rcases (hch b hb).1 with z | z
    · exact hx z
    · exact absurd (Nat.lt_of_lt_of_le (Heap.lt_size e) z) (Nat.lt_irrefl _)
  have cellK : ∀ x c, X.env.cells.lookup x = some c → ∀ v, s.heap.IsCell c v → h'.IsCell c v := fun x c e v ⟨o, ho, hd⟩ => by
    have nch : c ∉ ch := fun z => (hch c z).2.2.1 x c e rfl
    by_cases hc : c ∈ X.fs
    · obtain ⟨sl, q⟩ := slot c o (I.cne x c e) hc nch ho (I.freeC x c e)
      exact ⟨_, q, hd⟩
    · exact ⟨o, keep c o (I.cne x c e) hc nch ho (I.freeC x c e), hd⟩
  refine ⟨I.ok, I.os, hg, ⟨fun b o e n hb hx => ?_, fun b o e n hb hx => ?_, fun b o e n hx => ?_, fun b o e hx => ?_, fun b xs e => tups b xs (I.base.tups b xs e), fun b o xs e => frzs b o xs (I.base.frzs b o xs e), fun b ps e => ?_⟩, ?_, fun x c e => ?_, ?_, fun x c e => ?_, fun p hp => ?_, hok, I.len⟩
  · exact keep b o (neL b o e) hb (neC b o e hx) (I.base.keep b o e n hb hx) (I.base.free b o e n hx)
  · obtain ⟨sl, e1⟩ := I.base.slot b o e n hb hx
    obtain ⟨sl', e2⟩ := slot b _ (neL b o e) hb (neC b o e hx) e1 (I.base.free b o e n hx)
    exact ⟨sl', e2⟩
  · obtain ⟨o', e1⟩ := I.base.there b o e hx
    exact free b o' (neC b o e hx) e1 (I.base.free b o e n hx)
  · obtain ⟨o', e1⟩ := I.base.there b o e hx
    exact there b o' (neC b o e hx) e1
  · obtain ⟨m1, e1⟩ := I.base.tbls b ps e
    obtain ⟨m2, e2⟩ := tbls b _ e1
    exact ⟨m1 ++ m2, by rw [e2, Array.append_assoc]⟩
  · obtain ⟨m, hn, hl⟩ := I.loc
    refine ⟨m, ns m hn, fun i x v e1 e2 e3 => ?_⟩
    obtain ⟨u, r, l⟩ := hl i x v e1 e2 e3
    refine ⟨u, r, ?_⟩
    rcases l with l | ⟨k, c, e, z⟩
    · exact .inl l
    · exact .inr ⟨k, c, e, cellK x c e _ z⟩
  · obtain ⟨v, z⟩ := I.cell x c e
    exact ⟨v, cellK x c e v z⟩
  · obtain ⟨m, ⟨o, _, _, ho, _⟩, _⟩ := I.loc
    exact free _ o (fun z => (hch _ z).2.1 rfl) ho I.free
  · obtain ⟨v, o, ho, hd⟩ := I.cell x c e
    exact free c o (fun z => (hch c z).2.2.1 x c e rfl) ho (I.freeC x c e)
  · obtain ⟨e, n, ne, nf, d⟩ := I.pin p hp
    have nch : p.1 ∉ ch := fun z => (hch p.1 z).2.2.2 p hp rfl
    exact ⟨keep p.1 p.2 ne nf nch e n, free p.1 p.2 nch e n, ne, nf, d⟩
/-- .. where the frame's own object is kept too -/
theorem Inv.un {t' : Nat} (I : Inv X pins σ H s) (u : Un X.fs [] H H' s.heap h') (hok : HOk X.prog X.w H' h') : Inv X pins σ H' { s with heap := h', toks := t' } := by
  obtain ⟨m, ⟨o, es, ep, ho, r⟩, _⟩ := id I.loc
  obtain ⟨sl, hL⟩ := u.any ho I.free (by simp)
  exact I.step (g' := s.gens) (d' := s.drawn) (ch := []) (fun _ z => nomatch z) (fun b o _ hb _ e n => u.keep b o e n hb (by simp)) (fun b o _ hb _ e n => u.slot b o e n hb (by simp)) (fun b o _ e n => u.free b o e n (by simp)) (fun b o _ e => u.there b o e (by simp)) u.tups u.frzs u.tbls (fun m' hm => by
    obtain ⟨o', es', ep', ho', r'⟩ := hm
    rw [ho] at ho'; cases ho'
    exact ⟨_, es', ep', hL, r'⟩) hok I.bare
/-- behind a call (or a comprehension's block): the slots of this frame may have changed too, the records at ch may have turned -/
theorem Inv.call {g' : Array GenState} {t' : Nat} {d' : Drawn} {ch : List Addr} (I : Inv X pins σ H s) (u : Un (frs X.stack) ch H H' s.heap h') (hok : HOk X.prog X.w H' h') (hg : AllBare g')
    (hch : ∀ b ∈ ch, (b ∈ X.ex ∨ X.s₀.heap.objs.size ≤ b) ∧ b ≠ X.env.locals ∧ (∀ x c, X.env.cells.lookup x = some c → c ≠ b) ∧ ∀ p ∈ X.pn ++ pins, p.1 ≠ b) :
    Inv X pins σ H' { s with heap := h', gens := g', drawn := d', toks := t' } := by
  obtain ⟨m, ⟨o, es, ep, ho, r⟩, _⟩ := id I.loc
  obtain ⟨sl, hL⟩ := u.any ho I.free fun z => (hch _ z).2.1 rfl
  exact I.step (ch := ch) hch (fun b o hL hb hc e n => u.keep b o e n (fun z => (List.mem_cons.mp (I.stkSub b z)).elim hL hb) hc) (fun b o _ _ hc e n => u.any e n hc) (fun b o hc e n => u.free b o e n hc) (fun b o hc e => u.there b o e hc) u.tups u.frzs u.tbls (fun m' hm => by
    obtain ⟨o', es', ep', ho', r'⟩ := hm
    rw [ho] at ho'; cases ho'
    exact ⟨_, es', ep', hL, r'⟩) hok hg
/-- an untracked record of ours (an iterator) has turned -/
theorem Inv.turned {t' : Nat} {it : Addr} (I : Inv X pins σ H s) (k : ∀ b o, b ≠ it → s.heap.get? b = some o → h'.get? b = some o) (hn : H it = none) (hL : it ≠ X.env.locals)
    (h1 : it ∈ X.ex ∨ X.s₀.heap.objs.size ≤ it) (h2 : ∀ x c, X.env.cells.lookup x = some c → c ≠ it) (h3 : ∀ p ∈ X.pn ++ pins, p.1 ≠ it) : Inv X pins σ H { s with heap := h', toks := t' } := by
  have nit : ∀ b u, H b = some u → b ≠ it := fun b u e z => by rw [z, hn] at e; cases e
  refine I.step (g' := s.gens) (d' := s.drawn) (ch := [it]) (fun b hb => ?_) (fun b o _ _ hc e _ => k b o (fun z => hc (by simp [z])) e) (fun b o _ _ hc e _ => ⟨o.slots, k b o (fun z => hc (by simp [z])) e⟩) (fun _ _ _ _ n => n)
    (fun b o hc e => ⟨o, k b o (fun z => hc (by simp [z])) e⟩) (fun _ _ e => e) (fun _ _ _ e => e) (fun b ps e => ⟨#[], by rw [e]; simp⟩) (fun m hm => ?_) (fun b u e => ?_) I.bare
  · have e : b = it := by simpa using hb
    subst e
    exact ⟨h1, hL, h2, h3⟩
  · obtain ⟨o, es, ep, ho, r⟩ := hm
    exact ⟨o, es, ep, k _ o (Ne.symm hL) ho, r⟩
  · refine (I.hok b u e).stay (fun c v hc q => k c v ?_ q) (fun _ q => q) fun _ _ q => q
    rcases hc with z | z
    · rw [z]; exact nit b u e
    · exact nit c _ z
theorem Inv.tok (I : Inv X pins σ H s) (t : Nat) : Inv X pins σ H { s with toks := t } := I.un (h' := s.heap) (t' := t) Un.refl I.hok
/-- all objects kept -/
theorem Inv.kept {t' : Nat} (I : Inv X pins σ H s) (k : ∀ b u, s.heap.get? b = some u → h'.get? b = some u) : Inv X pins σ H { s with heap := h', toks := t' } := I.un (Un.kept k) (I.hok.kept k)
/-- a new object laid and tracked -/
theorem Inv.laid {a : Addr} {o : HO} {t' : Nat} (I : Inv X pins σ H s) (k : ∀ b u, s.heap.get? b = some u → h'.get? b = some u) (hp : s.heap.objs.size ≤ a) (new : ObjOk X.prog X.w (upd H a o) h' a o) :
    Inv X pins σ (upd H a o) { s with heap := h', toks := t' } := I.un (Un.laid k hp (I.hok.fresh hp)) (I.hok.laid k hp new)
/-- an object written -/
theorem Inv.write {x e : Addr} {o : HO} {t' : Nat} (I : Inv X pins σ H s) (mu : Mut (H x)) (he : e = x ∨ H e = some (.own x)) (k : ∀ b u, b ≠ e → s.heap.get? b = some u → h'.get? b = some u) (heo : ∃ u, h'.get? e = some u)
    (new : ObjOk X.prog X.w (upd H x o) h' x o) : Inv X pins σ (upd H x o) { s with heap := h', toks := t' } := I.un (Un.write mu he k heo) (I.hok.write mu he k heo new)
theorem Inv.pins_of {pins' : List (Addr × Obj)} (I : Inv X pins σ H s) (h : ∀ p ∈ pins', s.heap.get? p.1 = some p.2 ∧ H p.1 = none ∧ p.1 ≠ X.env.locals ∧ p.1 ∉ X.fs ∧ ∀ v, p.2.data ≠ .cell v) : Inv X pins' σ H s :=
  ⟨I.ok, I.os, I.bare, I.base, I.loc, I.cell, I.free, I.freeC, fun p hp => (List.mem_append.mp hp).elim (fun z => I.pin p (List.mem_append_left _ z)) (h p), I.hok, I.len⟩

theorem nodup_ix {N : List Str} (hN : N.Nodup) {i j : Nat} {x : Str} (a : N[i]? = some x) (b : N[j]? = some x) : i = j := by
  obtain ⟨h1, e1⟩ := List.getElem?_eq_some_iff.mp a
  obtain ⟨h2, e2⟩ := List.getElem?_eq_some_iff.mp b
  exact (List.getElem_inj hN).mp (e1.trans e2.symm)

/-- a name is stored; what changed -/
theorem store_ok2 {M : Model} {A : Around} {E : Value → Shared → Prop} {i : Nat} {x : Str} {v : V} {u : Value} {Q : Unit → Shared → Prop} (I : Inv X pins σ H s) (hN : X.N.Nodup) (hi : X.N[i]? = some x) (hx : Loc X.env.scope x) (r : RelV v u)
    (h : ∀ s', Inv X pins (σ.set i (some v)) H s' → (∃ a, Heap.SameBut a s.heap s'.heap ∧ (a = X.env.locals ∨ X.env.cells.lookup x = some a)) → Q () s') (hf : X.fn x = true ∨ X.env.scope.names.lookup x = some .local := by first | exact .inl rfl | exact .inr rfl | assumption) : wpAny M A (storeName X.env x u) Q E s := by
  obtain ⟨m, hn, hl⟩ := id I.loc
  have hcls : (X.env.scope.kind == .class || (X.env.scope.kind == .module && X.env.locals != X.env.globals)) = false := by rw [I.ok.kind]; rfl
  have hiσ : i < σ.length := by rw [I.len]; exact (List.getElem?_eq_some_iff.mp hi).1
  have cne := I.cne
  have tracked : ∀ {a : Addr} {h' : Heap}, (∃ o, s.heap.get? a = some o ∧ H a = none) → Heap.SameBut a s.heap h' → HOk X.prog X.w H h' := fun {a h'} ha hs b ob e => by
    obtain ⟨_, _, hfree⟩ := ha
    refine (I.hok b ob e).stay (fun c w' hc q => (hs.2 c ?_).trans q) (fun _ q => q) fun _ _ q => q
    rintro rfl
    rcases hc with rfl | hc
    · rw [hfree] at e; cases e
    · rw [hfree] at hc; cases hc
  rcases hx with hk | hk
  · refine wpAny_storeName_local hk hn (fun h' hn' hs => ?_) hcls
    obtain ⟨oL, _, _, hoL, _⟩ := id hn
    refine h _ ⟨I.ok, I.os, I.bare, ⟨fun b o e n hb hx => ?_, fun b o e n hb hx => ?_, I.base.free, fun b o e hx => ?_, I.base.tups, I.base.frzs, I.base.tbls⟩, ⟨_, hn', fun j y v' e1 e2 e3 => ?_⟩, fun y c e => ?_, I.free, I.freeC, fun p hp => ?_, tracked ⟨oL, hoL, I.free⟩ hs, by simpa using I.len⟩ ⟨_, hs, .inl rfl⟩
    · exact (hs.2 b (Nat.ne_of_lt (Nat.lt_of_lt_of_le (Heap.lt_size e) I.ok.above))).trans (I.base.keep b o e n hb hx)
    · obtain ⟨sl, e1⟩ := I.base.slot b o e n hb hx
      exact ⟨sl, (hs.2 b (Nat.ne_of_lt (Nat.lt_of_lt_of_le (Heap.lt_size e) I.ok.above))).trans e1⟩
    · obtain ⟨o', e1⟩ := I.base.there b o e hx
      exact ⟨o', (hs.2 b (Nat.ne_of_lt (Nat.lt_of_lt_of_le (Heap.lt_size e) I.ok.above))).trans e1⟩
    · by_cases hj : j = i
      · subst hj
        rw [hi] at e1; cases e1
        rw [List.getElem?_set_self hiσ] at e2
        cases e2
        exact ⟨u, r, .inl ⟨hk, by simp⟩⟩
      · rw [List.getElem?_set_ne (Ne.symm hj)] at e2
        obtain ⟨u', r', q⟩ := hl j y v' e1 e2 e3
        refine ⟨u', r', ?_⟩
        rcases q with ⟨k, e⟩ | ⟨k, c, e, z⟩
        · refine .inl ⟨k, ?_⟩
          have : y ≠ x := fun e => hj (nodup_ix hN e1 (e ▸ hi))
          simp [this, e]
        · exact .inr ⟨k, c, e, z.sameBut hs (cne y c e)⟩
    · obtain ⟨w', z⟩ := I.cell y c e
      exact ⟨w', z.sameBut hs (cne y c e)⟩
    · obtain ⟨e, n, ne, nf, d⟩ := I.pin p hp
      exact ⟨(hs.2 p.1 ne).trans e, n, ne, nf, d⟩
  · have hfn : X.fn x = true := by
      rcases hf with z | z
      · exact z
      · rw [z] at hk; cases hk
    obtain ⟨c, hc⟩ := I.ok.has x (.inl hk)
    obtain ⟨w', z⟩ := I.cell x c hc
    refine wpAny_storeName_cell I.ok.kind hk hc z (fun h' hc' hs => ?_)
    obtain ⟨oc, hoc, hocd⟩ := id z
    refine h { s with heap := h' } ⟨I.ok, I.os, I.bare, ⟨fun b o e n hb hx => ?_, fun b o e n hb hx => ?_, I.base.free, fun b o e hx => ?_, I.base.tups, I.base.frzs, I.base.tbls⟩, ⟨m, hn.sameBut hs (Ne.symm (cne x c hc)), fun j y v' e1 e2 e3 => ?_⟩, fun y c' e => ?_, I.free, I.freeC, fun p hp => ?_, tracked ⟨oc, hoc, I.freeC x c hc⟩ hs, by simpa using I.len⟩ ⟨c, hs, .inr hc⟩
    · exact (hs.2 b (Nat.ne_of_lt (Nat.lt_of_lt_of_le (Heap.lt_size e) (I.ok.cab x c hfn hc)))).trans (I.base.keep b o e n hb hx)
    · obtain ⟨sl, e1⟩ := I.base.slot b o e n hb hx
      exact ⟨sl, (hs.2 b (Nat.ne_of_lt (Nat.lt_of_lt_of_le (Heap.lt_size e) (I.ok.cab x c hfn hc)))).trans e1⟩
    · obtain ⟨o', e1⟩ := I.base.there b o e hx
      exact ⟨o', (hs.2 b (Nat.ne_of_lt (Nat.lt_of_lt_of_le (Heap.lt_size e) (I.ok.cab x c hfn hc)))).trans e1⟩
    · by_cases hj : j = i
      · subst hj
        rw [hi] at e1; cases e1
        rw [List.getElem?_set_self hiσ] at e2
        cases e2
        exact ⟨u, r, .inr ⟨.inl hk, c, hc, hc'⟩⟩
      · rw [List.getElem?_set_ne (Ne.symm hj)] at e2
        obtain ⟨u', r', q⟩ := hl j y v' e1 e2 e3
        refine ⟨u', r', ?_⟩
        rcases q with q | ⟨k, c', e, z'⟩
        · exact .inl q
        · refine .inr ⟨k, c', e, z'.sameBut hs ?_⟩
          rintro rfl
          exact hj (nodup_ix hN e1 (I.ok.inj _ _ _ e hc ▸ hi))
    · by_cases hcc : c' = c
      · subst hcc; exact ⟨_, hc'⟩
      · obtain ⟨w2, z2⟩ := I.cell y c' e
        exact ⟨w2, z2.sameBut hs hcc⟩
    · obtain ⟨e, n, ne, nf, d⟩ := I.pin p hp
      refine ⟨(hs.2 p.1 ?_).trans e, n, ne, nf, d⟩
      intro q
      rw [q, hoc] at e
      have q' : oc = p.2 := Option.some.inj e
      exact d w' (by rw [← q']; exact hocd)
theorem store_ok {M : Model} {A : Around} {E : Value → Shared → Prop} {i : Nat} {x : Str} {v : V} {u : Value} {Q : Unit → Shared → Prop} (I : Inv X pins σ H s) (hN : X.N.Nodup) (hi : X.N[i]? = some x) (hx : Loc X.env.scope x) (r : RelV v u)
    (h : ∀ s', Inv X pins (σ.set i (some v)) H s' → Q () s') (hf : X.fn x = true ∨ X.env.scope.names.lookup x = some .local := by first | exact .inl rfl | exact .inr rfl | assumption) : wpAny M A (storeName X.env x u) Q E s :=
  store_ok2 I hN hi hx r (fun s' I' _ => h s' I') hf
/-- behind a call or a block, the state as it is -/
theorem Inv.call' {s' : Shared} {ch : List Addr} (I : Inv X pins σ H s) (ho : s'.os = s.os) (u : Un (frs X.stack) ch H H' s.heap s'.heap) (hok : HOk X.prog X.w H' s'.heap) (hg : AllBare s'.gens)
    (hch : ∀ b ∈ ch, (b ∈ X.ex ∨ X.s₀.heap.objs.size ≤ b) ∧ b ≠ X.env.locals ∧ (∀ x c, X.env.cells.lookup x = some c → c ≠ b) ∧ ∀ p ∈ X.pn ++ pins, p.1 ≠ b) : Inv X pins σ H' s' := by
  obtain ⟨h', g', d', t', o'⟩ := s'
  have e : o' = s.os := ho
  subst e
  exact I.call (g' := g') (t' := t') (d' := d') u hok hg hch
end

/-! ### the judgements -/
/-- an exception: its class, its own dict's address (where it has one), the abstract heap behind it -/
abbrev XK := Value → Option Addr → Hp → Prop
abbrev St := List (Option V)
abbrev VK := V → Hp → Prop
/-- an expression's reading; a test's; an argument list's -/
abbrev TE := St → Hp → VK → Prop
abbrev TT := St → Hp → (Bool → Hp → Prop) → Prop
abbrev TA := St → Hp → (List V → Hp → Prop) → Prop
/-- what is wanted behind a statement -/
structure Ends where
  nx : St → Hp → Prop
  rt : VK
  bk : St → Hp → Prop := fun _ _ => False
  ct : St → Hp → Prop := fun _ _ => False
abbrev TS := Ends → St → Hp → Prop

def EP (X : Cx) (pins : List (Addr × Obj)) (σ : St) (Q : VK) (u : Value) (s' : Shared) : Prop := ∃ v H', Inv X pins σ H' s' ∧ RelV v u ∧ Q v H'
def TP (X : Cx) (pins : List (Addr × Obj)) (σ : St) (Q : Bool → Hp → Prop) (b : Bool) (s' : Shared) : Prop := ∃ H', Inv X pins σ H' s' ∧ Q b H'
def AP (X : Cx) (pins : List (Addr × Obj)) (σ : St) (Q : List V → Hp → Prop) (us : List Value) (s' : Shared) : Prop := ∃ vs H', Inv X pins σ H' s' ∧ Vals vs us ∧ Q vs H'
def SP (X : Cx) (pins : List (Addr × Obj)) (D : Ends) (f : Flow) (s' : Shared) : Prop :=
  match f with
  | .next => ∃ σ' H', Inv X pins σ' H' s' ∧ D.nx σ' H'
  | .brk => ∃ σ' H', Inv X pins σ' H' s' ∧ D.bk σ' H'
  | .cont => ∃ σ' H', Inv X pins σ' H' s' ∧ D.ct σ' H'
  | .ret u => ∃ v σ' H', Inv X pins σ' H' s' ∧ RelV v u ∧ D.rt v H'

def PE (X : Cx) (e : Expr) (t : TE) : Prop :=
  ∀ (pins : List (Addr × Obj)) (s : Shared) (σ : St) (H : Hp) (Q : VK), Inv X pins σ H s → t σ H Q → wpAny (model X.prog X.w) X.A (eval e X.env) (EP X pins σ Q) X.xe s
def PT (X : Cx) (e : Expr) (t : TT) : Prop :=
  ∀ (pins : List (Addr × Obj)) (s : Shared) (σ : St) (H : Hp) (Q : Bool → Hp → Prop), Inv X pins σ H s → t σ H Q → wpAny (model X.prog X.w) X.A (isTrue e X.env (eval e X.env)) (TP X pins σ Q) X.xe s
/-- a test whatever its 'whole' is (and, or) -/
def PW (X : Cx) (e : Expr) (t : TT) : Prop :=
  ∀ (whole : Sem Value) (pins : List (Addr × Obj)) (s : Shared) (σ : St) (H : Hp) (Q : Bool → Hp → Prop), Inv X pins σ H s → t σ H Q → wpAny (model X.prog X.w) X.A (isTrue e X.env whole) (TP X pins σ Q) X.xe s
theorem PW.pt {X : Cx} {e : Expr} {t : TT} (h : PW X e t) : PT X e t := h _
/-- an argument list (no star), from the left -/
def PA (X : Cx) (es : List Expr) (t : TA) : Prop :=
  ∀ (pos : Pos) (pins : List (Addr × Obj)) (s : Shared) (σ : St) (H : Hp) (Q : List V → Hp → Prop), Inv X pins σ H s → t σ H Q → wpAny (model X.prog X.w) X.A (spliced (backTo pos (starEach es X.env))) (AP X pins σ Q) X.xe s
def PS (X : Cx) (st : Stmt) (t : TS) : Prop :=
  ∀ (pins : List (Addr × Obj)) (s : Shared) (σ : St) (H : Hp) (D : Ends), Inv X pins σ H s → t D σ H → wpAny (model X.prog X.w) X.A (exec st X.env) (SP X pins D) X.xe s
def PSs (X : Cx) (st : List Stmt) (t : TS) : Prop :=
  ∀ (pins : List (Addr × Obj)) (s : Shared) (σ : St) (H : Hp) (D : Ends), Inv X pins σ H s → t D σ H → wpAny (model X.prog X.w) X.A (execs st X.env) (SP X pins D) X.xe s
/-- weaken the end -/
theorem thn {α : Type} {t : Sem α} {Q Q' : α → Shared → Prop} {M : Model} {A : Around} {E : Value → Shared → Prop} {s : Shared} (h : wpAny M A t Q E s) (hQ : ∀ a s, Q a s → Q' a s) : wpAny M A t Q' E s := wpAny_mono h hQ fun _ _ x => x
end L2

namespace L2
open PySem PySem.Spec PyProof.Rows
section
variable {X : Cx}

/-! ### names and constants -/
def tVar (i : Nat) : TE := fun σ H Q => ∃ v, σ[i]? = some (some v) ∧ Q v H
def tC (v : V) : TE := fun _ H Q => Q v H
theorem pe_var {i : Nat} {x : Str} {pos : Pos} (hN : X.N[i]? = some x) (hv : Vis X.env.scope x) (hd : (x == ("__debug__" : Str)) = false := by decide) (hcd : (x == ("__classdict__" : Str)) = false := by decide) : PE X (.Name x pos) (tVar i) := by
  intro pins s σ H Q I h
  obtain ⟨v, e, h⟩ := h
  obtain ⟨m, hn, hl⟩ := I.loc
  obtain ⟨u, r, l⟩ := hl i x v hN e hv
  have fin : EP X pins σ Q u s := ⟨v, H, I, r, h⟩
  rcases l with ⟨hk, hm⟩ | ⟨hk, c, hc, hcell⟩
  · exact wpAny_Name (wpAny_loadName_local I.ok.kind hk hn hm fin) hd
  · rcases hk with hk | hk
    · exact wpAny_Name (wpAny_loadName_cell I.ok.kind hk hc hcell fin) hd
    · exact wpAny_Name (wpAny_loadName_free I.ok.kind hk hc hcell fin hcd) hd
theorem pe_int {i j pos} : PE X (.Constant (.int i) j pos) (tC (.int i)) := fun _ _ _ H _ I h => wpAny_Constant_int ⟨.int i, H, I.tok _, ⟨_, rfl⟩, h⟩
theorem pe_bl {b j pos} : PE X (.Constant (.bool b) j pos) (tC (.bl b)) := fun _ _ _ H _ I h => Constant_bool ⟨.bl b, H, I, rfl, h⟩
theorem pe_non {j pos} : PE X (.Constant .none j pos) (tC .non) := fun _ _ _ H _ I h => Constant_none ⟨.non, H, I, rfl, h⟩
theorem pe_str {x j pos} : PE X (.Constant (.str x) j pos) (tC (.str x)) := fun _ _ _ H _ I h => Calls.Constant_str ⟨.str x, H, I.tok _, ⟨_, rfl⟩, h⟩

/-- a global name of the def -/
def Gl (X : Cx) (x : Str) : Prop := X.env.kindOf x = some .globalImplicit
theorem ld_glob {E : Value → Shared → Prop} {pins : List (Addr × Obj)} {s : Shared} {σ : St} {H : Hp} {x : Str} {u : Value} {pos : Pos} {Q : Value → Shared → Prop} (I : Inv X pins σ H s) (hg : Gl X x) (hm : X.mg x = some u) (h : Q u s)
    (hd : (x == ("__debug__" : Str)) = false := by decide) : wpAny (model X.prog X.w) X.A (eval (.Name x pos) X.env) Q E s :=
  Calls.Name_function_global I.ok.kind hg (Calls.loadGlobal_global (by rw [I.ok.glob]; exact I.mod.glob.keeps I.bk) hm h) hd
theorem ld_blt {E : Value → Shared → Prop} {pins : List (Addr × Obj)} {s : Shared} {σ : St} {H : Hp} {x : Str} {u : Value} {pos : Pos} {Q : Value → Shared → Prop} (I : Inv X pins σ H s) (hg : Gl X x) (hm : X.mg x = none) (hv : bootBuiltins x = some u) (h : Q u s)
    (hn : x ≠ "__name__" := by decide) (hd : (x == ("__debug__" : Str)) = false := by decide) : wpAny (model X.prog X.w) X.A (eval (.Name x pos) X.env) Q E s := by
  obtain ⟨mb, h1, h2⟩ := I.mod.blt
  exact Calls.Name_function_global I.ok.kind hg (Calls.loadGlobal_builtin (by rw [I.ok.glob]; exact I.mod.glob.keeps I.bk) hm (by rw [I.ok.blt]; exact h1.keeps I.bk) ((h2 x hn).trans hv) h) hd
/-- a module's constant, a class, a function, as a value -/
theorem pe_glob {x : Str} {v : V} {u : Value} {pos : Pos} (hg : Gl X x) (hm : X.mg x = some u) (r : RelV v u) (hd : (x == ("__debug__" : Str)) = false := by decide) : PE X (.Name x pos) (tC v) :=
  fun _ _ _ H _ I h => ld_glob I hg hm ⟨v, H, I, r, h⟩ hd
theorem pe_bltn {x : Str} {v : V} {u : Value} {pos : Pos} (hg : Gl X x) (hm : X.mg x = none) (hv : bootBuiltins x = some u) (r : RelV v u) (hn : x ≠ "__name__" := by decide) (hd : (x == ("__debug__" : Str)) = false := by decide) : PE X (.Name x pos) (tC v) :=
  fun _ _ _ H _ I h => ld_blt I hg hm hv ⟨v, H, I, r, h⟩ hn hd

/-! ### arithmetic -/
variable {a b : Expr} {ta tb : TE} {pos : Pos}
/-! ### comparisons -/
def PC (X : Cx) (op : CmpOp) (a b : Expr) (t : TE) : Prop :=
  ∀ (pins : List (Addr × Obj)) (s : Shared) (σ : St) (H : Hp) (Q : VK), Inv X pins σ H s → t σ H Q →
    wpAny (model X.prog X.w) X.A (eval a X.env) (fun v s₁ => wpAny (model X.prog X.w) X.A (eval b X.env) (fun u s₂ => wpAny (model X.prog X.w) X.A (compareOp op v u) (EP X pins σ Q) X.xe s₂) X.xe s₁) X.xe s
theorem nobehind (b : Expr) {op : CmpOp} (h : op ≠ .In) (h2 : op ≠ .NotIn) : behindInMarks op b = false := by
  have e1 : (op == CmpOp.In) = false := by cases op <;> first | rfl | exact absurd rfl h
  have e2 : (op == CmpOp.NotIn) = false := by cases op <;> first | rfl | exact absurd rfl h2
  cases b <;> simp [behindInMarks, e1, e2]
/-- is None -/
def tIsN (ta : TE) : TE := fun σ H Q => ta σ H fun x H1 => Q (.bl (decide (x = .non))) H1
def tNotN (ta : TE) : TE := fun σ H Q => ta σ H fun x H1 => Q (.bl (!decide (x = .non))) H1
theorem RelV.none_iff {x : V} {v : Value} (r : RelV x v) : (v == Value.none) = decide (x = .non) := by
  cases x with
  | non => cases r; rfl
  | bl _ => cases r; rfl
  | int _ => obtain ⟨t, rfl⟩ := r; rfl
  | str _ => obtain ⟨t, rfl⟩ := r; rfl
  | byt _ => obtain ⟨t, rfl⟩ := r; rfl
  | flt _ => obtain ⟨t, rfl⟩ := r; rfl
  | ref _ => cases r; rfl
  | ty _ => cases r; rfl
theorem pc_isN {j pos'} (ha : PE X a ta) : PC X .Is a (.Constant .none j pos') (tIsN ta) := by
  intro pins s σ H Q I h
  refine thn (ha pins s σ H _ I h) fun v s1 ⟨x, H1, I1, r1, q1⟩ => ?_
  exact Constant_none (is_none_gen ⟨.bl _, H1, I1, by rw [r1.none_iff]; rfl, q1⟩)
theorem pc_notN {j pos'} (ha : PE X a ta) : PC X .IsNot a (.Constant .none j pos') (tNotN ta) := by
  intro pins s σ H Q I h
  refine thn (ha pins s σ H _ I h) fun v s1 ⟨x, H1, I1, r1, q1⟩ => ?_
  exact Constant_none (isnot_none_gen ⟨.bl _, H1, I1, by rw [r1.none_iff]; rfl, q1⟩)
/-- a comparison as a value, as a test -/
def tB (t : TE) : TT := fun σ H Q => t σ H fun x H1 => ∃ c, x = .bl c ∧ Q c H1
theorem pe_cmp {op : CmpOp} {t : TE} (h : PC X op a b t) (h1 : behindInMarks op b = false := by first | exact nobehind _ (by decide) (by decide) | rfl) : PE X (.Compare a [op] [b] pos) t := fun pins s σ H Q I hw => wpAny_Compare1 (h pins s σ H Q I hw) h1
theorem pt_cmp {op : CmpOp} {t : TE} (h : PC X op a b t) (h1 : behindInMarks op b = false := by first | exact nobehind _ (by decide) (by decide) | rfl) : PT X (.Compare a [op] [b] pos) (tB t) := by
  intro pins s σ H Q I hw
  refine wpAny_isTrue_Compare1 (thn (h pins s σ H _ I hw) fun v s1 h1 => thn h1 fun u s2 h2 => thn h2 fun c s3 ⟨x, H1, I1, r1, q1⟩ => ?_) h1
  obtain ⟨d, rfl, q⟩ := q1
  cases r1
  exact wpAny_truthy_bool ⟨H1, I1, q⟩
/-- an expression whose value is a bool, as a test -/
theorem pt_val {e : Expr} {t : TE} (h : PE X e t) (he : ∀ whole, isTrue e X.env whole = (do let v ← whole; standAt e.pos; holding [v] (truthy v)) := by intro _; rfl) : PT X e (tB t) := by
  intro pins s σ H Q I hw
  refine isTrue_plain (thn (h pins s σ H _ I hw) fun v s1 ⟨x, H1, I1, r1, q1⟩ => ?_) (he _)
  obtain ⟨d, rfl, q⟩ := q1
  cases r1
  exact wpAny_truthy_bool ⟨H1, I1, q⟩

/-! ### and, or, not -/
variable {tA tB' : TT} {rest : List Expr}
def tAnd (t u : TT) : TT := fun σ H Q => t σ H fun c H1 => if c = true then u σ H1 Q else Q false H1
def tOr (t u : TT) : TT := fun σ H Q => t σ H fun c H1 => if c = true then Q true H1 else u σ H1 Q
def tNot (t : TT) : TT := fun σ H Q => t σ H fun c H1 => Q (!c) H1
theorem pw_and1 (ha : PT X a tA) : PW X (.BoolOp .And [a] pos) tA := by
  intro wh pins s σ H Q I h
  refine isTrue_and (thn (ha pins s σ H Q I h) fun c s1 e => ?_)
  cases c with
  | true => exact isTrue_and_nil e
  | false => exact e
theorem pw_or1 (ha : PT X a tA) : PW X (.BoolOp .Or [a] pos) tA := by
  intro wh pins s σ H Q I h
  refine isTrue_or (thn (ha pins s σ H Q I h) fun c s1 e => ?_)
  cases c with
  | false => exact isTrue_or_nil e
  | true => exact e
theorem pw_and (ha : PT X a tA) (hb : PW X (.BoolOp .And (b :: rest) pos) tB') : PW X (.BoolOp .And (a :: b :: rest) pos) (tAnd tA tB') := by
  intro wh pins s σ H Q I h
  refine isTrue_and (thn (ha pins s σ H _ I h) fun c s1 ⟨H1, I1, q1⟩ => ?_)
  cases c with
  | true => exact hb wh pins s1 σ H1 Q I1 q1
  | false => exact ⟨H1, I1, q1⟩
theorem pw_or (ha : PT X a tA) (hb : PW X (.BoolOp .Or (b :: rest) pos) tB') : PW X (.BoolOp .Or (a :: b :: rest) pos) (tOr tA tB') := by
  intro wh pins s σ H Q I h
  refine isTrue_or (thn (ha pins s σ H _ I h) fun c s1 ⟨H1, I1, q1⟩ => ?_)
  cases c with
  | true => exact ⟨H1, I1, q1⟩
  | false => exact hb wh pins s1 σ H1 Q I1 q1
theorem pt_not (ha : PT X a tA) : PT X (.UnaryOp .Not a pos) (tNot tA) := by
  intro pins s σ H Q I h
  exact isTrue_not (ha pins s σ H (fun c H1 => Q (!c) H1) I h)
/-- .. as values (bools) -/
def tAndV (ta tb : TE) : TE := fun σ H Q => ta σ H fun x H1 => ∃ c, x = .bl c ∧ if c = true then tb σ H1 Q else Q (.bl false) H1
def tNotV (ta : TE) : TE := fun σ H Q => ta σ H fun x H1 => ∃ c, x = .bl c ∧ Q (.bl (!c)) H1
theorem pe_one {op} {t : TE} (h : PE X a t) : PE X (.BoolOp op [a] pos) t := fun pins s σ H Q I hw => BoolOp_one (h pins s σ H Q I hw)
theorem pe_and (ha : PE X a ta) (hb : PE X (.BoolOp .And (b :: rest) pos) tb) : PE X (.BoolOp .And (a :: b :: rest) pos) (tAndV ta tb) := by
  intro pins s σ H Q I h
  refine BoolOp_and (thn (ha pins s σ H _ I h) fun v s1 ⟨x, H1, I1, r1, q1⟩ => ?_)
  obtain ⟨c, rfl, q1⟩ := q1
  cases r1
  refine wpAny_truthy_bool ?_
  cases c with
  | true => exact hb pins s1 σ H1 Q I1 q1
  | false => exact ⟨.bl false, H1, I1, rfl, q1⟩
theorem pe_not (ha : PE X a ta) : PE X (.UnaryOp .Not a pos) (tNotV ta) := by
  intro pins s σ H Q I h
  refine UnaryOp_ (thn (ha pins s σ H _ I h) fun v s1 ⟨x, H1, I1, r1, q1⟩ => ?_)
  obtain ⟨c, rfl, q1⟩ := q1
  cases r1
  exact not_of (wpAny_truthy_bool ⟨.bl (!c), H1, I1, rfl, q1⟩)
/-- a if t else b -/
def tIf (t : TT) (ta tb : TE) : TE := fun σ H Q => t σ H fun c H1 => if c = true then ta σ H1 Q else tb σ H1 Q
theorem pe_ifExp {c : Expr} (hc : PT X c tA) (ha : PE X a ta) (hb : PE X b tb) : PE X (.IfExp c a b pos) (tIf tA ta tb) := by
  intro pins s σ H Q I h
  refine wpAny_IfExp (thn (hc pins s σ H _ I h) fun d s1 ⟨H1, I1, q1⟩ => ?_)
  cases d with
  | true => exact ha pins s1 σ H1 Q I1 q1
  | false => exact hb pins s1 σ H1 Q I1 q1
end
end L2

namespace L2
open PySem PySem.Spec PyProof.Rows

/-! ### a list, a tuple that is read: tracked, frozen, or an object of the module -/
def SqL (K : PySem.W.Frag) (H : Hp) (a : Addr) (xs : List V) : Prop :=
  Rd H a (.lst xs) ∨
    ∃ (o : Obj) (its : Array Value) (n : Nat), K.lookup a = some o ∧ o.cls = .type "list" ∧ o.dict = none ∧ o.data = .seq its n ∧ its.size ≤ sizeLine ∧ Vals xs its.toList
def SqT (K : PySem.W.Frag) (H : Hp) (a : Addr) (xs : List V) : Prop :=
  Rd H a (.tup xs) ∨
    ∃ (o : Obj) (its : Array Value) (n : Nat), K.lookup a = some o ∧ o.cls = .type "tuple" ∧ o.data = .seq its n ∧ its.size ≤ sizeLine ∧ Vals xs its.toList
def absV : Value → Option V
  | .none => some .non
  | .bool b => some (.bl b)
  | .int i _ => some (.int i)
  | .str x _ => some (.str x)
  | .bytes b _ => some (.byt b)
  | .float b _ => some (.flt b)
  | .ref a => some (.ref a)
  | .type n => some (.ty n)
  | _ => none
theorem RelV.abs {x : V} {u : Value} (r : RelV x u) : absV u = some x := by
  cases x with
  | non => cases r; rfl
  | bl _ => cases r; rfl
  | int _ => obtain ⟨t, rfl⟩ := r; rfl
  | str _ => obtain ⟨t, rfl⟩ := r; rfl
  | byt _ => obtain ⟨t, rfl⟩ := r; rfl
  | flt _ => obtain ⟨t, rfl⟩ := r; rfl
  | ref _ => cases r; rfl
  | ty _ => cases r; rfl
theorem RelV.inj {x y : V} {u : Value} (r : RelV x u) (q : RelV y u) : x = y := Option.some.inj (r.abs.symm.trans q.abs)
theorem Vals.inj : ∀ {xs ys : List V} {us : List Value}, Vals xs us → Vals ys us → xs = ys
  | _, _, _, .nil, .nil => rfl
  | _, _, _, .cons r t, .cons r' t' => by rw [r.inj r', Vals.inj t t']
section
variable {X : Cx} {pins : List (Addr × Obj)} {σ : St} {H : Hp} {s : Shared} {a : Addr} {xs ys : List V}
theorem SqL.of {K : PySem.W.Frag} (h : H a = some (.lst xs)) : SqL K H a xs := .inl (.inl h)
theorem SqT.of {K : PySem.W.Frag} (h : H a = some (.tup xs)) : SqT K H a xs := .inl (.inl h)
theorem Inv.list (I : Inv X pins σ H s) (h : SqL X.K H a xs) : ∃ its : List Value, Vals xs its ∧ PlainL s.heap a its.toArray ∧ xs.length ≤ sizeLine := by
  rcases h with h | ⟨o, its, n, hk, hc, hd, hs, hz, r⟩
  · obtain ⟨z, its, n, r, e⟩ := h.ok I.hok
    exact ⟨its, r, ⟨_, n, e, rfl, rfl, rfl⟩, z⟩
  · refine ⟨its.toList, r, ⟨o, n, I.kIn a o hk, hc, hd, by simpa using hs⟩, ?_⟩
    have e := r.length
    simp only [Array.length_toList] at e
    omega
theorem Inv.tuple (I : Inv X pins σ H s) (h : SqT X.K H a xs) : ∃ its : List Value, Vals xs its ∧ IsTup s.heap a its.toArray ∧ xs.length ≤ sizeLine := by
  rcases h with h | ⟨o, its, n, hk, hc, hs, hz, r⟩
  · obtain ⟨z, its, r, p⟩ := h.ok I.hok
    exact ⟨its, r, p, z⟩
  · refine ⟨its.toList, r, ⟨o, I.kIn a o hk, hc, n, by simpa using hs⟩, ?_⟩
    have e := r.length
    simp only [Array.length_toList] at e
    omega
theorem Inv.list_inj (I : Inv X pins σ H s) (h : SqL X.K H a xs) (h' : SqL X.K H a ys) : xs = ys := by
  obtain ⟨its, r, ⟨o, n, e, _, _, d⟩, _⟩ := I.list h
  obtain ⟨its', r', ⟨o', n', e', _, _, d'⟩, _⟩ := I.list h'
  rw [e] at e'; cases e'
  rw [d] at d'
  injection d' with d1 _
  have : its = its' := by simpa using congrArg Array.toList d1
  subst this
  exact r.inj r'
theorem Inv.tuple_inj (I : Inv X pins σ H s) (h : SqT X.K H a xs) (h' : SqT X.K H a ys) : xs = ys := by
  obtain ⟨its, r, ⟨o, e, _, n, d⟩, _⟩ := I.tuple h
  obtain ⟨its', r', ⟨o', e', _, n', d'⟩, _⟩ := I.tuple h'
  rw [e] at e'; cases e'
  rw [d] at d'
  injection d' with d1 _
  have : its = its' := by simpa using congrArg Array.toList d1
  subst this
  exact r.inj r'
end

/-! ### another wish about exceptions -/
abbrev Cx.wish (X : Cx) (E : Value → Shared → Prop) : Cx := { X with xe := E }
/-- no exception leaves -/
abbrev Cx.nox (X : Cx) : Cx := X.wish fun _ _ => False
theorem Cx.Ok.wish {X : Cx} (ok : X.Ok) (E : Value → Shared → Prop) : (X.wish E).Ok :=
  ⟨ok.mod, ok.kind, ok.glob, ok.blt, ok.above, ok.inj, ok.has, ok.cab, ok.hd, ok.frames, ok.stk, ok.exf, ok.bs, ok.bsz, ok.noex, ok.exfs, ok.funs, ok.frf⟩
theorem Cx.Ok.unwish {X : Cx} {E : Value → Shared → Prop} (ok : (X.wish E).Ok) : X.Ok :=
  ⟨ok.mod, ok.kind, ok.glob, ok.blt, ok.above, ok.inj, ok.has, ok.cab, ok.hd, ok.frames, ok.stk, ok.exf, ok.bs, ok.bsz, ok.noex, ok.exfs, ok.funs, ok.frf⟩
section
variable {X : Cx} {pins : List (Addr × Obj)} {σ : St} {H : Hp} {s : Shared} {E : Value → Shared → Prop}
theorem Inv.wish (I : Inv X pins σ H s) (E : Value → Shared → Prop) : Inv (X.wish E) pins σ H s := ⟨I.ok.wish E, I.os, I.bare, I.base, I.loc, I.cell, I.free, I.freeC, I.pin, I.hok, I.len⟩
theorem Inv.unwish (I : Inv (X.wish E) pins σ H s) : Inv X pins σ H s := ⟨I.ok.unwish, I.os, I.bare, I.base, I.loc, I.cell, I.free, I.freeC, I.pin, I.hok, I.len⟩
theorem SP.unwish {D : Ends} {f : Flow} {s' : Shared} (h : SP (X.wish E) pins D f s') : SP X pins D f s' := by
  cases f with
  | next => obtain ⟨σ', H', I, q⟩ := h; exact ⟨σ', H', I.unwish, q⟩
  | brk => obtain ⟨σ', H', I, q⟩ := h; exact ⟨σ', H', I.unwish, q⟩
  | cont => obtain ⟨σ', H', I, q⟩ := h; exact ⟨σ', H', I.unwish, q⟩
  | ret u => obtain ⟨v, σ', H', I, r, q⟩ := h; exact ⟨v, σ', H', I.unwish, r, q⟩
theorem PE.nox {e : Expr} {t : TE} (h : PE X.nox e t) : PE X e t := fun pins s σ H Q I hw =>
  wpAny_mono (h pins s σ H Q (I.wish _) hw) (fun _ _ ⟨v, H', I', r, q⟩ => ⟨v, H', I'.unwish, r, q⟩) fun _ _ z => False.elim z
theorem PT.nox {e : Expr} {t : TT} (h : PT X.nox e t) : PT X e t := fun pins s σ H Q I hw =>
  wpAny_mono (h pins s σ H Q (I.wish _) hw) (fun _ _ ⟨H', I', q⟩ => ⟨H', I'.unwish, q⟩) fun _ _ z => False.elim z
theorem PSs.nox {st : List Stmt} {t : TS} (h : PSs X.nox st t) : PSs X st t := fun pins s σ H D I hw =>
  wpAny_mono (h pins s σ H D (I.wish _) hw) (fun _ _ q => q.unwish) fun _ _ z => False.elim z
end

/-! ### blocks and small statements -/
section
variable {X : Cx} {st : Stmt} {rest : List Stmt} {t u : TS} {e : Expr} {te : TE} {pos : Pos}
def tNext : TS := fun D σ H => D.nx σ H
def tSeq (t u : TS) : TS := fun D σ H => t { D with nx := u D } σ H
theorem pss_nil : PSs X [] tNext := fun _ _ σ H _ I h => wpAny_execs_nil ⟨σ, H, I, h⟩
theorem pss_cons (h1 : PS X st t) (h2 : PSs X rest u) : PSs X (st :: rest) (tSeq t u) := by
  intro pins s σ H D I h
  refine wpAny_execs_cons (thn (h1 pins s σ H { D with nx := u D } I h) fun f s1 q => ?_)
  cases f with
  | next =>
    obtain ⟨σ', H', I', q⟩ := q
    exact h2 pins s1 σ' H' D I' q
  | ret v => exact q
  | brk => exact q
  | cont => exact q
theorem pss_one (h1 : PS X st t) : PSs X [st] t := by
  intro pins s σ H D I h
  refine wpAny_execs_cons (thn (h1 pins s σ H D I h) fun f s1 q => ?_)
  cases f with
  | next => exact wpAny_execs_nil q
  | ret v => exact q
  | brk => exact q
  | cont => exact q
def tCont : TS := fun D σ H => D.ct σ H
theorem ps_continue : PS X (.Continue pos) tCont := fun _ _ σ H _ I h => wpAny_Continue ⟨σ, H, I, h⟩
/-- in a def's body nothing is shown -/
theorem Inv.quiet {pins : List (Addr × Obj)} {σ : St} {H : Hp} {s : Shared} (I : Inv X pins σ H s) : interactive X.env = false := by simp [interactive, I.ok.kind]
/-- an expression whose value is dropped -/
def tDrop (te : TE) : TS := fun D σ H => te σ H fun _ H1 => D.nx σ H1
theorem ps_expr (he : PE X e te) (hs : swapsWith e none pos.line X.env = pure false := by rfl) : PS X (.Expr e pos) (tDrop te) := by
  intro pins s σ H D I h
  exact wpAny_Expr_any (thn (he pins s σ H _ I h) fun v s1 ⟨x, H1, I1, r1, q1⟩ => ⟨σ, H1, I1, q1⟩) I.quiet hs
def tRet (te : TE) : TS := fun D σ H => te σ H D.rt
theorem ps_ret (he : PE X e te) : PS X (.Return (some e) pos) (tRet te) := by
  intro pins s σ H D I h
  exact wpAny_Return_some (thn (he pins s σ H _ I h) fun v s1 ⟨x, H1, I1, r1, q1⟩ => ⟨x, σ, H1, I1, r1, q1⟩)
def tIfS (c : TT) (t u : TS) : TS := fun D σ H => c σ H fun b H1 => if b = true then t D σ H1 else u D σ H1
theorem ps_if {c : Expr} {a b : List Stmt} {tc : TT} (hc : PT X c tc) (ha : PSs X a t) (hb : PSs X b u) : PS X (.If c a b pos) (tIfS tc t u) := by
  intro pins s σ H D I h
  refine wpAny_If (thn (hc pins s σ H _ I h) fun d s1 ⟨H1, I1, q1⟩ => ?_)
  cases d with
  | true => exact ha pins s1 σ H1 D I1 q1
  | false => exact hb pins s1 σ H1 D I1 q1
/-- code that the proof never comes to -/
def tNever : TS := fun _ _ _ => False
theorem ps_never : PS X st tNever := fun _ _ _ _ _ _ h => h.elim
end

/-! ### targets -/
abbrev TG := V → St → Hp → (St → Hp → Prop) → Prop
abbrev TGs := List V → St → Hp → (St → Hp → Prop) → Prop
def PG (X : Cx) (target : Expr) (t : TG) : Prop :=
  ∀ (pins : List (Addr × Obj)) (s : Shared) (σ : St) (H : Hp) (v : V) (u : Value) (Q : St → Hp → Prop), Inv X pins σ H s → RelV v u → t v σ H Q →
    wpAny (model X.prog X.w) X.A (assign target X.env u) (fun _ s' => ∃ σ' H', Inv X pins σ' H' s' ∧ Q σ' H') X.xe s
/-- several targets, one after another -/
def PGs (X : Cx) (ts : List Expr) (t : TGs) : Prop :=
  ∀ (pins : List (Addr × Obj)) (s : Shared) (σ : St) (H : Hp) (vs : List V) (us : List Value) (Q : St → Hp → Prop), Inv X pins σ H s → Vals vs us → t vs σ H Q →
    wpAny (model X.prog X.w) X.A (assignInOrder ((assignEach ts X.env).map (·.2)) us) (fun _ s' => ∃ σ' H', Inv X pins σ' H' s' ∧ Q σ' H') X.xe s
/-- o[i] = v, by values -/
abbrev TSet := V → V → V → Hp → (Hp → Prop) → Prop
def PSet (X : Cx) (t : TSet) : Prop :=
  ∀ (pins : List (Addr × Obj)) (s : Shared) (σ : St) (H : Hp) (o i v : V) (ov iv u : Value) (Q : Hp → Prop), Inv X pins σ H s → RelV o ov → RelV i iv → RelV v u → t o i v H Q →
    wpAny (model X.prog X.w) X.A (setItem ov iv u) (fun _ s' => ∃ H', Inv X pins σ H' s' ∧ Q H') X.xe s
/-- a op= b, by values -/
abbrev TIp := V → V → Hp → VK → Prop
def PIp (X : Cx) (op : Operator) (t : TIp) : Prop :=
  ∀ (pins : List (Addr × Obj)) (s : Shared) (σ : St) (H : Hp) (x y : V) (v u : Value) (Q : VK), Inv X pins σ H s → RelV x v → RelV y u → t x y H Q →
    wpAny (model X.prog X.w) X.A (inplaceOp op v u) (EP X pins σ Q) X.xe s
section
variable {X : Cx} {pos : Pos}
def gName (i : Nat) : TG := fun v σ H Q => Q (σ.set i (some v)) H
theorem pg_name {i : Nat} {x : Str} (hN : X.N.Nodup) (hi : X.N[i]? = some x) (hx : Loc X.env.scope x) (hf : X.fn x = true ∨ X.env.scope.names.lookup x = some .local := by first | exact .inl rfl | exact .inr rfl | assumption) : PG X (.Name x pos) (gName i) := by
  intro pins s σ H v u Q I r h
  exact wpAny_assign_Name (store_ok I hN hi hx r (fun s' I' => ⟨_, H, I', h⟩) hf)
def gNil : TGs := fun vs σ H Q => vs = [] ∧ Q σ H
def gCons (t : TG) (u : TGs) : TGs := fun vs σ H Q => ∃ v r, vs = v :: r ∧ t v σ H fun σ' H' => u r σ' H' Q
theorem pgs_nil : PGs X [] gNil := by
  intro pins s σ H vs us Q I r h
  obtain ⟨e, h⟩ := h
  subst e
  cases r
  exact assignInOrder_nil ⟨σ, H, I, h⟩
theorem pgs_cons {e : Expr} {es : List Expr} {t : TG} {u : TGs} (h1 : PG X e t) (h2 : PGs X es u)
    (hs : (assignEach (e :: es) X.env).map (·.2) = assign e X.env :: (assignEach es X.env).map (·.2) := by rfl) : PGs X (e :: es) (gCons t u) := by
  intro pins s σ H vs us Q I r h
  obtain ⟨v, vr, e1, h⟩ := h
  subst e1
  cases r with
  | cons r rr =>
    rw [hs]
    refine assignInOrder_cons (thn (h1 pins s σ H _ _ _ I r h) fun _ s1 ⟨σ1, H1, I1, q1⟩ => ?_)
    exact h2 pins s1 σ1 H1 _ _ Q I1 rr q1
/-- (a, b, ..) = a tuple of that length -/
def gTup (K : PySem.W.Frag) (n : Nat) (t : TGs) : TG := fun v σ H Q => ∃ a xs, v = .ref a ∧ SqT K H a xs ∧ xs.length = n ∧ t xs σ H Q
theorem pg_tup {es : List Expr} {k : Nat} {t : TGs} {n : Nat} (hc : X.calm = true) (h : PGs X es t)
    (hn : (assignEach es X.env).length = n := by rfl) (hst : (assignEach es X.env).findIdx? (·.1) = none := by rfl) : PG X (.Tuple es k pos) (gTup X.K n t) := by
  intro pins s σ H v u Q I r hw
  obtain ⟨a, xs, e1, hq, hl, hw⟩ := hw
  subst e1
  cases r
  obtain ⟨its, rv, ht, hz⟩ := I.tuple hq
  refine assign_Tuple_tuple (I.ok.hd hc) ht (by simp [hn, ← hl, rv.length]) hst fun h' hx => ?_
  have I1 : Inv X pins σ H { s with heap := h' } := I.kept (t' := s.toks) fun b o e => hx b o (Nat.ne_of_lt (Heap.lt_size e)) e
  exact h pins _ σ H xs _ Q I1 (by simpa using rv) hw
/-- o[i] = .. -/
def gSub (to ti : TE) (t : TSet) : TG := fun v σ H Q => to σ H fun o H1 => ti σ H1 fun i H2 => t o i v H2 fun H3 => Q σ H3
theorem pg_sub {o i : Expr} {to ti : TE} {t : TSet} (ho : PE X o to) (hi : PE X i ti) (hs : PSet X t)
    (ha : ∀ v, assign (.Subscript o i pos) X.env v = (do
      let ov ← holding [v] (eval o X.env)
      let iv ← holding [v, ov] (eval i X.env)
      standAt pos
      holding [v, ov, iv] (setItem ov iv v)
      release [v, ov, iv] []) := by intro _; rfl) : PG X (.Subscript o i pos) (gSub to ti t) := by
  intro pins s σ H v u Q I r h
  rw [ha]
  refine wpAny_bind (wpAny_holding (thn (ho pins s σ H _ I h) fun ov s1 ⟨x, H1, I1, r1, q1⟩ => ?_))
  refine wpAny_bind (wpAny_holding (thn (hi pins s1 σ H1 _ I1 q1) fun iv s2 ⟨y, H2, I2, r2, q2⟩ => ?_))
  refine wpAny_bind (wpAny_standAt (wpAny_bind (wpAny_holding (thn (hs pins s2 σ H2 x y v ov iv u _ I2 r1 r2 r q2) fun _ s3 ⟨H3, I3, q3⟩ => ?_))))
  exact wpAny_release ⟨σ, H3, I3, q3⟩
/-- target = value -/
def tAsg (te : TE) (g : TG) : TS := fun D σ H => te σ H fun x H1 => g x σ H1 D.nx
theorem ps_asg {tg e : Expr} {te : TE} {g : TG} (he : PE X e te) (hg : PG X tg g) (hs : swapsWithSole [tg] e pos.line X.env = pure false := by rfl) (hw : swappedStores [tg] e X.env = pure none := by rfl)
    (h1 : (assignEach [tg] X.env).map (·.2) = [assign tg X.env] := by rfl) : PS X (.Assign [tg] e pos) (tAsg te g) := by
  intro pins s σ H D I h
  refine wpAny_Assign_stores (thn (he pins s σ H _ I h) fun v s1 ⟨x, H1, I1, r1, q1⟩ => ?_) hs hw
  rw [h1]
  exact thn (hg pins s1 σ H1 x v _ I1 r1 q1) fun _ s2 q => q
/-- name = value -/
theorem ps_set {i : Nat} {x : Str} {e : Expr} {te : TE} {pos' : Pos} (hN : X.N.Nodup) (hi : X.N[i]? = some x) (hx : Loc X.env.scope x) (he : PE X e te) (hs : swapsWith e (some (.Name x pos')) pos.line X.env = pure false := by rfl) (hf : X.fn x = true ∨ X.env.scope.names.lookup x = some .local := by first | exact .inl rfl | exact .inr rfl | assumption) :
    PS X (.Assign [.Name x pos'] e pos) (tAsg te (gName i)) := by
  intro pins s σ H D I h
  refine wpAny_Assign_Name (thn (he pins s σ H _ I h) fun v s1 ⟨y, H1, I1, r1, q1⟩ => ?_) hs
  exact store_ok I1 hN hi hx r1 (fun s2 I2 => ⟨_, H1, I2, q1⟩) hf
/-- name op= e -/
def tAug (i : Nat) (te : TE) (ti : TIp) : TS := fun D σ H => ∃ x, σ[i]? = some (some x) ∧ te σ H fun y H1 => ti x y H1 fun z H2 => D.nx (σ.set i (some z)) H2
theorem ps_aug {i : Nat} {x : Str} {e : Expr} {te : TE} {op : Operator} {ti : TIp} {pos' : Pos} (hN : X.N.Nodup) (hi : X.N[i]? = some x) (hx : Loc X.env.scope x) (he : PE X e te) (ho : PIp X op ti) (hf : X.fn x = true ∨ X.env.scope.names.lookup x = some .local := by first | exact .inl rfl | exact .inr rfl | assumption) :
    PS X (.AugAssign (.Name x pos') op e pos) (tAug i te ti) := by
  intro pins s σ H D I h
  obtain ⟨v, e1, h⟩ := h
  obtain ⟨m, hn, hl⟩ := I.loc
  have vis : Vis X.env.scope x := by rcases hx with k | k; exact .inl k; exact .inr (.inl k)
  obtain ⟨u, r, l⟩ := hl i x v hi e1 vis
  refine wpAny_AugAssign_Name ?_
  have go : wpAny (model X.prog X.w) X.A (eval e X.env) (fun w s₂ => wpAny (model X.prog X.w) X.A (inplaceOp op u w) (fun r s₃ => wpAny (model X.prog X.w) X.A (storeName X.env x r) (fun _ => SP X pins D .next) X.xe s₃) X.xe s₂) X.xe s := by
    refine thn (he pins s σ H _ I h) fun w s1 ⟨y, H1, I1, r1, q1⟩ => ?_
    refine thn (ho pins s1 σ H1 v y u w _ I1 r r1 q1) fun z s2 ⟨zv, H2, I2, r2, q2⟩ => ?_
    exact store_ok I2 hN hi hx r2 (fun s3 I3 => ⟨_, H2, I3, q2⟩) hf
  rcases l with ⟨hk, hm⟩ | ⟨hk, c, hc, hcell⟩
  · exact wpAny_loadName_local I.ok.kind hk hn hm go
  · rcases hk with hk | hk
    · exact wpAny_loadName_cell I.ok.kind hk hc hcell go
    · rcases hx with k | k
      · have : X.env.scope.names.lookup x = some .free := hk
        rw [k] at this; cases this
      · have : X.env.scope.names.lookup x = some .free := hk
        rw [k] at this; cases this
end

/-! ### while -/
section
variable {X : Cx} {pos : Pos}
/-- the invariant W with its measure -/
def tWhile (c : TT) (tb : TS) : TS := fun D σ H => ∃ W : Nat → St → Hp → Prop, (∃ m, W m σ H) ∧ ∀ m σ H, W m σ H →
  c σ H fun b H1 => if b = true then ∃ N : St → Hp → Prop, (∀ σ' H', N σ' H' → ∃ m', m' < m ∧ W m' σ' H') ∧ tb { D with nx := N, ct := N, bk := D.nx } σ H1 else D.nx σ H1
theorem ps_while {c : Expr} {body : List Stmt} {tc : TT} {tb : TS} (hp : PassesOwn (model X.prog X.w) X.A X.env X.xe) (hc : PT X c tc) (hb : PSs X body tb) : PS X (.While c body [] pos) (tWhile tc tb) := by
  intro pins s σ H D I h
  obtain ⟨W, ⟨m0, w0⟩, turn⟩ := h
  refine wpAny_While (codeAny_whileLoop (fun n s' => ∃ σ' H', Inv X pins σ' H' s' ∧ W n σ' H') ?_ m0 ⟨σ, H, I, w0⟩)
  rintro n s1 ⟨σ1, H1, I1, w1⟩
  refine wpAny_passesOwn hp (thn (hc pins s1 σ1 H1 _ I1 (turn n σ1 H1 w1)) fun b s2 ⟨H2, I2, q2⟩ => ?_)
  cases b with
  | true =>
    obtain ⟨N, hN, q2⟩ := q2
    rw [if_pos rfl]
    refine wpAny_passesOwn hp (thn (hb pins s2 σ1 H2 _ I2 q2) fun f s3 q3 => ?_)
    cases f with
    | next =>
      obtain ⟨σ3, H3, I3, n3⟩ := q3
      obtain ⟨m', hm, w3⟩ := hN σ3 H3 n3
      exact ⟨m', hm, σ3, H3, I3, w3⟩
    | cont =>
      obtain ⟨σ3, H3, I3, n3⟩ := q3
      obtain ⟨m', hm, w3⟩ := hN σ3 H3 n3
      exact ⟨m', hm, σ3, H3, I3, w3⟩
    | brk => exact q3
    | ret v => exact q3
  | false =>
    rw [if_neg Bool.false_ne_true]
    exact wpAny_execs_nil ⟨σ1, H2, I2, q2⟩
end

/-! ### what a loop or a comprehension walks -/
/-- at turn i: it yields x (the heap may grow), or it stops -/
structure It where
  go : Nat → Hp → Prop
  yld : Nat → Hp → V → Hp → Prop
  stop : Nat → Hp → Prop
/-- the iterator's own objects may turn: they are not the frame's, not pinned, younger than the entry (or a comprehension's own) -/
def FpOk (X : Cx) (pins : List (Addr × Obj)) (H : Hp) (b : Addr) : Prop :=
  H b = none ∧ b ≠ X.env.locals ∧ b ∉ X.fs ∧ (b ∈ X.ex ∨ X.s₀.heap.objs.size ≤ b) ∧ (∀ x c, X.env.cells.lookup x = some c → c ≠ b) ∧ ∀ p ∈ X.pn ++ pins, p.1 ≠ b
theorem Inv.fpOk {X : Cx} {pins : List (Addr × Obj)} {σ : St} {H H' : Hp} {s : Shared} {b : Addr} (I : Inv X pins σ H s) (hb : s.heap.objs.size ≤ b) (hn : H' b = none) : FpOk X pins H' b := by
  refine ⟨hn, Nat.ne_of_gt (Nat.lt_of_lt_of_le I.lt hb), I.nofs hb, .inr (Nat.le_trans I.sz hb), fun x c e z => ?_, fun p hp z => ?_⟩
  · obtain ⟨v, q⟩ := I.cell x c e
    exact absurd (Nat.lt_of_lt_of_le q.lt (by rw [z]; exact hb)) (Nat.lt_irrefl _)
  · exact absurd (Nat.lt_of_lt_of_le (Heap.lt_size (I.pin p hp).1) (by rw [z]; exact hb)) (Nat.lt_irrefl _)
structure Turn (P : Program) (w : World) (K : PySem.W.Frag) (tg : Expr) (J : It) (fp : List Addr) (it : Addr) (tn : Nat → Heap → Prop) : Prop where
  mem : it ∈ fp
  obj : ∀ i h, tn i h → ∀ b ∈ fp, ∃ o, h.get? b = some o ∧ ∀ v, o.data ≠ .cell v
  keep : ∀ i h h', tn i h → (∀ b ∈ fp, ∀ o, h.get? b = some o → h'.get? b = some o) → tn i h'
  item : ∀ (X : Cx), X.prog = P → X.w = w → X.K = K → X.calm = true → ∀ (i : Nat) (pins : List (Addr × Obj)) (s : Shared) (σ : St) (H : Hp) (E : Value → Shared → Prop), Inv X pins σ H s → (∀ b ∈ fp, FpOk X pins H b) → tn i s.heap → J.go i H →
    wpAny (model P w) X.A (pyNext (.ref it)) (fun r s1 => ∃ u, r = some u ∧
      wpAny (model P w) X.A (letOwnedTupleGo tg (.ref it) u) (fun _ s2 => ∃ x H', Inv X pins σ H' s2 ∧ RelV x u ∧ J.yld i H x H' ∧ tn (i + 1) s2.heap ∧ ∀ b ∈ fp, H' b = none) E s1) E s
  done : ∀ (X : Cx), X.prog = P → X.w = w → X.K = K → X.calm = true → ∀ (i : Nat) (pins : List (Addr × Obj)) (s : Shared) (σ : St) (H : Hp) (E : Value → Shared → Prop), Inv X pins σ H s → (∀ b ∈ fp, FpOk X pins H b) → tn i s.heap → J.stop i H →
    wpAny (model P w) X.A (pyNext (.ref it)) (fun r s1 => r = none ∧ Inv X pins σ H s1) E s
  self : ∀ (A : Around) (i : Nat) (s : Shared) (Q : Value → Shared → Prop) (E : Value → Shared → Prop), tn i s.heap → Q (.ref it) s → wpAny (model P w) A (pyIter (.ref it)) Q E s
abbrev TI := St → Hp → (It → Hp → Prop) → Prop
/-- an iterator has come -/
def PIE (X : Cx) (pins : List (Addr × Obj)) (σ : St) (tg : Expr) (R : It → Hp → Prop) (itv : Value) (s2 : Shared) : Prop :=
  ∃ (it : Addr) (fp : List Addr) (tn : Nat → Heap → Prop) (J : It) (H' : Hp), itv = .ref it ∧ Inv X pins σ H' s2 ∧ Turn X.prog X.w X.K tg J fp it tn ∧ tn 0 s2.heap ∧ (∀ b ∈ fp, FpOk X pins H' b) ∧ R J H'
def PI (X : Cx) (tg iter : Expr) (wi : TI) : Prop :=
  ∀ (pins : List (Addr × Obj)) (s : Shared) (σ : St) (H : Hp) (R : It → Hp → Prop), Inv X pins σ H s → wi σ H R →
    wpAny (model X.prog X.w) X.A (eval iter X.env) (fun v s1 => wpAny (model X.prog X.w) X.A (pyIter v) (PIE X pins σ tg R) X.xe s1) X.xe s

/-- the step ahead of the store is nothing for an iterator that keeps no tuple -/
theorem go_of {M : Model} {A : Around} {E : Value → Shared → Prop} {s : Shared} {tg : Expr} {it : Addr} {u : Value} {o : Obj} {n : String} {vs : Array Value} {Q : Unit → Shared → Prop} (ho : s.heap.get? it = some o) (hc : o.cls = .type n) (hd : o.data = .fields vs)
    (hn : ["enumerate", "zip", "dict_itemiterator", "dict_reverseitemiterator", "odict_iterator", "itertools.zip_longest", "itertools.pairwise"].contains n = false) (hQ : Q () s) : wpAny M A (letOwnedTupleGo tg (.ref it) u) Q E s := by
  unfold letOwnedTupleGo
  cases tg <;> first
    | exact wpAny_pure hQ
    | (cases u <;> first
        | exact wpAny_pure hQ
        | (refine wpAny_bind (wpAny_load ho ?_)
           rw [hc, hd]
           show wpAny M A (if (["enumerate", "zip", "dict_itemiterator", "dict_reverseitemiterator", "odict_iterator", "itertools.zip_longest", "itertools.pairwise"].contains n && vs[0]? == some (rawInt _)) = true then _ else _) Q E s
           rw [if_neg (by intro h; rw [hn, Bool.false_and] at h; cases h)]
           exact wpAny_pure hQ))

/-- the list at a, as it stands at each turn (a loop may append to it) -/
def Itl (K : PySem.W.Frag) (a : Addr) : It :=
  ⟨fun i H => ∃ xs x, SqL K H a xs ∧ xs[i]? = some x, fun i H x H' => H' = H ∧ ∀ xs, SqL K H a xs → xs[i]? = some x, fun i H => ∃ xs, SqL K H a xs ∧ xs.length ≤ i⟩
def Itt (K : PySem.W.Frag) (a : Addr) : It :=
  ⟨fun i H => ∃ xs x, SqT K H a xs ∧ xs[i]? = some x, fun i H x H' => H' = H ∧ ∀ xs, SqT K H a xs → xs[i]? = some x, fun i H => ∃ xs, SqT K H a xs ∧ xs.length ≤ i⟩
/-- lo, lo + 1, .. (n of them) -/
def Itr (lo : Int) (n : Nat) : It := ⟨fun i _ => i < n, fun i H x H' => H' = H ∧ x = .int (lo + i), fun i _ => n ≤ i⟩
theorem turn_list {P : Program} {w : World} {K : PySem.W.Frag} {tg : Expr} (a it : Addr) : Turn P w K tg (Itl K a) [it] it (fun i h => h.IsListIter it a i) where
  mem := by simp
  obj := fun i h st b hb => by
    have e : b = it := by simpa using hb
    subst e
    obtain ⟨o, e, c, d⟩ := st
    exact ⟨o, e, fun v z => by rw [d] at z; cases z⟩
  keep := fun i h h' st k => st.at fun o e => k it (by simp) o e
  item := by
    intro X hP hw hK hc i pins s σ H E I hf st hg
    subst hP hw hK
    obtain ⟨xs, x, hq, hx⟩ := hg
    obtain ⟨its, rv, p, hz⟩ := I.list hq
    obtain ⟨u, hu, ru⟩ := rv.get hx
    obtain ⟨f0, f1, f2, f3, f4, f5⟩ := hf it (by simp)
    refine wpAny_pyNext_list_item st p.isList (x := u) (by simpa using hu) fun h' st' sb => ?_
    have I1 : Inv X pins σ H { s with heap := h' } := I.turned (t' := s.toks) (fun b o hb e => (sb.2 b hb).trans e) f0 f1 f3 f4 f5
    obtain ⟨o, e, c, d⟩ := id st'
    exact ⟨u, rfl, go_of (s := { s with heap := h' }) e c d (by decide) ⟨x, H, I1, ru, ⟨rfl, fun ys hy => by rw [I.list_inj hy hq]; exact hx⟩, st', fun b hb => (hf b hb).1⟩⟩
  done := by
    intro X hP hw hK hc i pins s σ H E I hf st hg
    subst hP hw hK
    obtain ⟨xs, hq, hx⟩ := hg
    obtain ⟨its, rv, p, hz⟩ := I.list hq
    obtain ⟨f0, f1, f2, f3, f4, f5⟩ := hf it (by simp)
    have hl := rv.length
    exact wpAny_pyNext_list_end (I.ok.hd hc) st p.isList (by simp; omega) fun h' eb => ⟨rfl, I.turned (t' := s.toks) (fun b o hb e => eb b o hb e) f0 f1 f3 f4 f5⟩
  self := fun _ _ _ _ _ st h => wpAny_pyIter_listiter st h
theorem turn_tuple {P : Program} {w : World} {K : PySem.W.Frag} {tg : Expr} (a it : Addr) : Turn P w K tg (Itt K a) [it] it (fun i h => h.IsTupleIter it a i) where
  mem := by simp
  obj := fun i h st b hb => by
    have e : b = it := by simpa using hb
    subst e
    obtain ⟨o, e, c, d⟩ := st
    exact ⟨o, e, fun v z => by rw [d] at z; cases z⟩
  keep := fun i h h' st k => st.at fun o e => k it (by simp) o e
  item := by
    intro X hP hw hK hc i pins s σ H E I hf st hg
    subst hP hw hK
    obtain ⟨xs, x, hq, hx⟩ := hg
    obtain ⟨its, rv, p, hz⟩ := I.tuple hq
    obtain ⟨u, hu, ru⟩ := rv.get hx
    obtain ⟨f0, f1, f2, f3, f4, f5⟩ := hf it (by simp)
    refine wpAny_pyNext_tuple_item st (show s.heap.IsTuple a its.toArray from p) (x := u) (by simpa using hu) fun h' st' sb => ?_
    have I1 : Inv X pins σ H { s with heap := h' } := I.turned (t' := s.toks) (fun b o hb e => (sb.2 b hb).trans e) f0 f1 f3 f4 f5
    obtain ⟨o, e, c, d⟩ := id st'
    exact ⟨u, rfl, go_of (s := { s with heap := h' }) e c d (by decide) ⟨x, H, I1, ru, ⟨rfl, fun ys hy => by rw [I.tuple_inj hy hq]; exact hx⟩, st', fun b hb => (hf b hb).1⟩⟩
  done := by
    intro X hP hw hK hc i pins s σ H E I hf st hg
    subst hP hw hK
    obtain ⟨xs, hq, hx⟩ := hg
    obtain ⟨its, rv, p, hz⟩ := I.tuple hq
    obtain ⟨f0, f1, f2, f3, f4, f5⟩ := hf it (by simp)
    have hl := rv.length
    exact wpAny_pyNext_tuple_end (I.ok.hd hc) st (show s.heap.IsTuple a its.toArray from p) (by simp; omega) fun h' eb => ⟨rfl, I.turned (t' := s.toks) (fun b o hb e => eb b o hb e) f0 f1 f3 f4 f5⟩
  self := fun _ _ _ _ _ st h => wpAny_pyIter_tupleiter st h
theorem turn_range {P : Program} {w : World} {K : PySem.W.Frag} {tg : Expr} (it : Addr) (lo : Int) (n : Nat) : Turn P w K tg (Itr lo n) [it] it (fun i h => IsRangeIter h it (lo + (i : Nat) * 1) ((n : Int) - (i : Nat)) 1) where
  mem := by simp
  obj := fun i h st b hb => by
    have e : b = it := by simpa using hb
    subst e
    exact ⟨_, st, fun v z => by
      have z' : Data.fields _ = Data.cell v := z
      cases z'⟩
  keep := fun i h h' st k => k it (by simp) _ st
  item := by
    intro X hP hw hK hc i pins s σ H E I hf st hg
    subst hP hw hK
    obtain ⟨f0, f1, f2, f3, f4, f5⟩ := hf it (by simp)
    have W := Walks.range (prog := X.prog) (w := X.w) (I.ok.hd hc) it lo 1 n
    refine W.item i s _ _ hg st fun v h' tk hv st' kk => ?_
    obtain ⟨t, rfl⟩ := hv
    have I1 : Inv X pins σ H { s with heap := h', toks := tk } := I.turned (fun b o hb e => kk b o (by simpa using hb) e) f0 f1 f3 f4 f5
    refine ⟨_, rfl, go_of (s := { s with heap := h', toks := tk }) (n := "range_iterator") st' rfl rfl (by decide) ⟨.int (lo + i), H, I1, ⟨t, ?_⟩, ⟨rfl, rfl⟩, st', fun b hb => (hf b hb).1⟩⟩
    rw [Int.mul_one]
  done := by
    intro X hP hw hK hc i pins s σ H E I hf st hg
    subst hP hw hK
    obtain ⟨f0, f1, f2, f3, f4, f5⟩ := hf it (by simp)
    exact wpAny_pyNext_range_end (I.ok.hd hc) st (by have : n ≤ i := hg; omega) fun h' eb => ⟨rfl, I.turned (t' := s.toks) (fun b o hb e => eb b o hb e) f0 f1 f3 f4 f5⟩
  self := fun _ _ _ _ _ st h => wpAny_pyIter_rangeiter st h
end L2

namespace L2
open PySem PySem.Spec PyProof.Rows
section
variable {X : Cx} {tg : Expr}
def iList (K : PySem.W.Frag) (tl : TE) : TI := fun σ H R => tl σ H fun x H1 => ∃ a, x = .ref a ∧ (∃ xs, SqL K H1 a xs) ∧ R (Itl K a) H1
def iTup (K : PySem.W.Frag) (tl : TE) : TI := fun σ H R => tl σ H fun x H1 => ∃ a, x = .ref a ∧ (∃ xs, SqT K H1 a xs) ∧ R (Itt K a) H1
theorem pi_list {l : Expr} {tl : TE} (hl : PE X l tl) : PI X tg l (iList X.K tl) := by
  intro pins s σ H R I h
  refine thn (hl pins s σ H _ I h) fun v s1 ⟨x, H1, I1, r1, q1⟩ => ?_
  obtain ⟨a, e, ⟨xs, hq⟩, q⟩ := q1
  subst e
  cases r1
  obtain ⟨its, rv, p, hz⟩ := I1.list hq
  refine wpAny_pyIter_list p.isList ?_
  refine ⟨s1.heap.objs.size, [s1.heap.objs.size], _, _, H1, rfl, I1.kept (t' := s1.toks) fun b o e => Heap.get?_push_of_some _ e, turn_list a _, ⟨_, Heap.get?_push_size _ rfl, rfl, rfl⟩, fun b hb => ?_, q⟩
  have e : b = s1.heap.objs.size := by simpa using hb
  subst e
  exact I1.fpOk (Nat.le_refl _) (I1.hok.fresh (Nat.le_refl _))
theorem pi_tup {l : Expr} {tl : TE} (hl : PE X l tl) : PI X tg l (iTup X.K tl) := by
  intro pins s σ H R I h
  refine thn (hl pins s σ H _ I h) fun v s1 ⟨x, H1, I1, r1, q1⟩ => ?_
  obtain ⟨a, e, ⟨xs, hq⟩, q⟩ := q1
  subst e
  cases r1
  obtain ⟨its, rv, p, hz⟩ := I1.tuple hq
  refine wpAny_pyIter_tuple (show s1.heap.IsTuple a its.toArray from p) ?_
  refine ⟨s1.heap.objs.size, [s1.heap.objs.size], _, _, H1, rfl, I1.kept (t' := s1.toks) fun b o e => Heap.get?_push_of_some _ e, turn_tuple a _, ⟨_, Heap.get?_push_size _ rfl, rfl, rfl⟩, fun b hb => ?_, q⟩
  have e : b = s1.heap.objs.size := by simpa using hb
  subst e
  exact I1.fpOk (Nat.le_refl _) (I1.hok.fresh (Nat.le_refl _))
/-- a range object just made, walked -/
theorem range_it {pins : List (Addr × Obj)} {σ : St} {H : Hp} {s : Shared} {R : It → Hp → Prop} {E : Value → Shared → Prop} {lo hi : Int} {t u v : Tok} {tk : Nat} (I : Inv X pins σ H s) (h1 : -(2 ^ 62) ≤ lo) (h2 : lo < 2 ^ 62) (h3 : -(2 ^ 62) ≤ hi) (h4 : hi < 2 ^ 62)
    (q : R (Itr lo (hi - lo).toNat) H) : wpAny (model X.prog X.w) X.A (pyIter (.ref s.heap.objs.size)) (PIE X pins σ tg R) E { s with heap := s.heap.push { cls := .type "range", data := .fields #[.int lo t, .int hi u, .int 1 v] }, toks := tk } := by
  refine wpAny_pyIter_range (IsRange.new ..) (small_one h1 h2 h3 h4) ?_
  have I1 : Inv X pins σ H { s with heap := s.heap.push { cls := .type "range", data := .fields #[.int lo t, .int hi u, .int 1 v] }, toks := tk } := I.kept fun b o e => Heap.get?_push_of_some _ e
  refine ⟨(s.heap.push { cls := .type "range", data := .fields #[.int lo t, .int hi u, .int 1 v] }).objs.size, [(s.heap.push { cls := .type "range", data := .fields #[.int lo t, .int hi u, .int 1 v] }).objs.size], _, _, H, rfl,
    I1.kept (t' := tk) fun b o e => Heap.get?_push_of_some _ e, turn_range _ lo (hi - lo).toNat, ?_, fun b hb => ?_, q⟩
  · have e1 : lo + ((0 : Nat) : Int) * 1 = lo := by simp
    have e2 : (((hi - lo).toNat : Nat) : Int) - ((0 : Nat) : Int) = Builtin.Range.rangeSize lo hi 1 := by rw [rangeSize_one]; split <;> omega
    show IsRangeIter _ _ (lo + ((0 : Nat) : Int) * 1) ((((hi - lo).toNat : Nat) : Int) - ((0 : Nat) : Int)) 1
    rw [e1, e2]
    exact Heap.get?_push_size _ rfl
  · have e : b = (s.heap.push { cls := .type "range", data := .fields #[.int lo t, .int hi u, .int 1 v] }).objs.size := by simpa using hb
    subst e
    exact I1.fpOk (Nat.le_refl _) (I1.hok.fresh (Nat.le_refl _))
def iRng1 (ta : TA) : TI := fun σ H R => ta σ H fun vs H1 => ∃ j : Int, vs = [.int j] ∧ -(2 ^ 62) ≤ j ∧ j < 2 ^ 62 ∧ R (Itr 0 j.toNat) H1
theorem pi_range1 {a : Expr} {ta : TA} {p pos : Pos} (hg : Gl X "range") (hm : X.mg "range" = none) (ha : PA X [a] ta) (hs : starEach [a] X.env = [(false, eval a X.env)] := by rfl) : PI X tg (.Call (.Name "range" p) [a] [] pos) (iRng1 ta) := by
  intro pins s σ H R I h
  refine Call_ (ld_blt I hg hm boot_range (PyProof.Rows.callWith_type1 (thn (ha pos pins s σ H _ I h) fun us s1 ⟨vs, H1, I1, r1, q1⟩ => ?_) hs rfl))
  obtain ⟨j, e, q1, q2, q⟩ := q1
  subst e
  cases r1 with
  | cons r rr =>
    cases rr
    obtain ⟨t, rfl⟩ := r
    exact call_range_1 (range_it I1 (by omega) (by omega) q1 q2 (by simpa using q))
/-! ### for -/
/-- W: the invariant by the turn and a measure; N: what the body is to reach -/
def tFor (wi : TI) (g : TG) (tb : TS) : TS := fun D σ H => wi σ H fun J H1 => ∃ W : Nat → Nat → St → Hp → Prop, (∃ m, W 0 m σ H1) ∧ ∀ i m σ H, W i m σ H →
  (J.stop i H ∧ D.nx σ H) ∨ (J.go i H ∧ ∃ N : St → Hp → Prop, (∀ σ' H', N σ' H' → ∃ m', m' < m ∧ W (i + 1) m' σ' H') ∧ ∀ x H', J.yld i H x H' → g x σ H' fun σ2 H2 => tb { D with nx := N, ct := N, bk := D.nx } σ2 H2)
/-- the records at fp as they stand -/
def pinsAt (fp : List Addr) (h : Heap) : List (Addr × Obj) := fp.filterMap fun b => (h.get? b).map fun o => (b, o)
theorem mem_pinsAt {fp : List Addr} {h : Heap} {b : Addr} {o : Obj} (hb : b ∈ fp) (e : h.get? b = some o) : (b, o) ∈ pinsAt fp h := List.mem_filterMap.mpr ⟨b, hb, by rw [e]; rfl⟩
theorem of_pinsAt {fp : List Addr} {h : Heap} {p : Addr × Obj} (hp : p ∈ pinsAt fp h) : p.1 ∈ fp ∧ h.get? p.1 = some p.2 := by
  obtain ⟨b, hb, e⟩ := List.mem_filterMap.mp hp
  cases q : h.get? b with
  | none => rw [q] at e; cases e
  | some o =>
    rw [q] at e
    have e' : (b, o) = p := Option.some.inj e
    subst e'
    exact ⟨hb, q⟩
theorem Inv.pinned {pins : List (Addr × Obj)} {σ : St} {H : Hp} {s : Shared} {fp : List Addr} (I : Inv X pins σ H s) (hf : ∀ b ∈ fp, FpOk X pins H b) (ho : ∀ b ∈ fp, ∃ o, s.heap.get? b = some o ∧ ∀ v, o.data ≠ .cell v) : Inv X (pins ++ pinsAt fp s.heap) σ H s :=
  I.pins_of fun p hp => (List.mem_append.mp hp).elim (fun z => I.pin p (List.mem_append_right _ z)) fun z => by
    obtain ⟨hb, e⟩ := of_pinsAt z
    obtain ⟨f0, f1, f2, _⟩ := hf p.1 hb
    obtain ⟨o, e', d⟩ := ho p.1 hb
    rw [e] at e'; cases e'
    exact ⟨e, f0, f1, f2, d⟩
theorem Inv.unpinned {pins pl : List (Addr × Obj)} {σ : St} {H : Hp} {s : Shared} (I : Inv X (pins ++ pl) σ H s) : Inv X pins σ H s := I.pins_of fun p hp => I.pin p (List.mem_append_right _ (List.mem_append_left _ hp))
theorem ps_for {iter : Expr} {body : List Stmt} {wi : TI} {g : TG} {tb : TS} {pos : Pos} (hp : PassesOwn (model X.prog X.w) X.A X.env X.xe) (hc : X.calm = true) (hi : PI X tg iter wi) (hg : PG X tg g) (hb : PSs X body tb)
    (hs : ∀ x, foldedSetIterable iter X.env x = pure x := by intro _; rfl) : PS X (.For tg iter body [] pos) (tFor wi g tb) := by
  intro pins s σ H D I h
  refine wpAny_For (thn (hi pins s σ H _ I h) fun v s1 h1 => thn h1 fun itv s2 h2 => ?_) hs
  obtain ⟨it, fp, tn, J, H2, e, I2, T, st2, f2, W, ⟨m0, w0⟩, turn⟩ := h2
  subst e
  -- what stays true of the iterator's objects through the loop
  have stat : ∀ {H' : Hp}, (∀ b ∈ fp, H' b = none) → ∀ b ∈ fp, FpOk X pins H' b := fun hn b hb => ⟨hn b hb, (f2 b hb).2⟩
  refine codeAny_forLoop_any (fun n s' => ∃ i σ' H', Inv X pins σ' H' s' ∧ tn i s'.heap ∧ (∀ b ∈ fp, H' b = none) ∧ W i n σ' H') ?_ m0 ⟨0, σ, H2, I2, st2, fun b hb => (f2 b hb).1, w0⟩
  rintro n s3 ⟨i, σ3, H3, I3, st3, fr3, w3⟩
  rcases turn i n σ3 H3 w3 with ⟨stop, qn⟩ | ⟨go, N, hN, step⟩
  · refine wpAny_passesOwn hp (thn (T.done X rfl rfl rfl hc i pins s3 σ3 H3 X.xe I3 (stat fr3) st3 stop) fun r s4 ⟨hr, I4⟩ => ?_)
    subst hr
    exact wpAny_execs_nil ⟨σ3, H3, I4, qn⟩
  · refine wpAny_passesOwn hp (thn (T.item X rfl rfl rfl hc i pins s3 σ3 H3 X.xe I3 (stat fr3) st3 go) fun r s4 ⟨u, hr, h4⟩ => ?_)
    subst hr
    refine wpAny_passesOwn hp (thn h4 fun _ s5 ⟨x, H5, I5, r5, y5, st5, fr5⟩ => ?_)
    have I5' := I5.pinned (stat fr5) (T.obj _ _ st5)
    refine wpAny_passesOwn hp (thn (hg _ s5 σ3 H5 x u _ I5' r5 (step x H5 y5)) fun _ s6 ⟨σ6, H6, I6, q6⟩ => ?_)
    refine wpAny_passesOwn hp (thn (hb _ s6 σ6 H6 _ I6 q6) fun f s7 q7 => ?_)
    have again : ∀ {σ7 : St} {H7 : Hp}, Inv X (pins ++ pinsAt fp s5.heap) σ7 H7 s7 → N σ7 H7 → ∃ m, m < n ∧ ∃ i σ' H', Inv X pins σ' H' s7 ∧ tn i s7.heap ∧ (∀ b ∈ fp, H' b = none) ∧ W i m σ' H' := fun {σ7 H7} I7 n7 => by
      obtain ⟨m', hm, w7⟩ := hN σ7 H7 n7
      refine ⟨m', hm, i + 1, σ7, H7, I7.unpinned, T.keep _ _ _ st5 fun b hb o e => (I7.pin (b, o) (List.mem_append_right _ (List.mem_append_right _ (mem_pinsAt hb e)))).1, fun b hb => ?_, w7⟩
      obtain ⟨o, e, d⟩ := T.obj _ _ st5 b hb
      exact (I7.pin (b, o) (List.mem_append_right _ (List.mem_append_right _ (mem_pinsAt hb e)))).2.1
    cases f with
    | next => obtain ⟨σ7, H7, I7, n7⟩ := q7; exact again I7 n7
    | cont => obtain ⟨σ7, H7, I7, n7⟩ := q7; exact again I7 n7
    | brk => obtain ⟨σ7, H7, I7, q7⟩ := q7; exact ⟨σ7, H7, I7.unpinned, q7⟩
    | ret v => obtain ⟨x7, σ7, H7, I7, r7, q7⟩ := q7; exact ⟨x7, σ7, H7, I7.unpinned, r7, q7⟩
end

/-! ### the forms one uses -/
/-- over a list that the body leaves as it is -/
theorem for_list {K : PySem.W.Frag} {a : Addr} {xs : List V} {g : TG} {tb : TS} {D : Ends} {σ : St} {H : Hp} (Pv : Nat → St → Hp → Prop) (h0 : Pv 0 σ H) (hl : ∀ i σ H, i ≤ xs.length → Pv i σ H → SqL K H a xs)
    (hs : ∀ i x σ H, xs[i]? = some x → Pv i σ H → g x σ H fun σ2 H2 => tb { D with nx := Pv (i + 1), ct := Pv (i + 1), bk := D.nx } σ2 H2) (hd : ∀ σ H, Pv xs.length σ H → D.nx σ H) :
    ∃ W : Nat → Nat → St → Hp → Prop, (∃ m, W 0 m σ H) ∧ ∀ i m σ H, W i m σ H →
      ((Itl K a).stop i H ∧ D.nx σ H) ∨ ((Itl K a).go i H ∧ ∃ N : St → Hp → Prop, (∀ σ' H', N σ' H' → ∃ m', m' < m ∧ W (i + 1) m' σ' H') ∧ ∀ x H', (Itl K a).yld i H x H' → g x σ H' fun σ2 H2 => tb { D with nx := N, ct := N, bk := D.nx } σ2 H2) := by
  refine ⟨fun i m σ H => m = xs.length - i ∧ i ≤ xs.length ∧ Pv i σ H, ⟨xs.length, by simp, Nat.zero_le _, h0⟩, ?_⟩
  rintro i m σ H ⟨rfl, hi, p⟩
  have q := hl i σ H hi p
  by_cases hlt : i < xs.length
  · refine .inr ⟨⟨xs, xs[i], q, by simp [hlt]⟩, Pv (i + 1), fun σ' H' p' => ⟨xs.length - (i + 1), by omega, rfl, hlt, p'⟩, fun x H' y => ?_⟩
    obtain ⟨e, y⟩ := y
    subst e
    exact hs i x σ _ (y xs q) p
  · have e : i = xs.length := by omega
    subst e
    exact .inl ⟨⟨xs, q, Nat.le_refl _⟩, hd σ H p⟩
theorem for_tup {K : PySem.W.Frag} {a : Addr} {xs : List V} {g : TG} {tb : TS} {D : Ends} {σ : St} {H : Hp} (Pv : Nat → St → Hp → Prop) (h0 : Pv 0 σ H) (hl : ∀ i σ H, i ≤ xs.length → Pv i σ H → SqT K H a xs)
    (hs : ∀ i x σ H, xs[i]? = some x → Pv i σ H → g x σ H fun σ2 H2 => tb { D with nx := Pv (i + 1), ct := Pv (i + 1), bk := D.nx } σ2 H2) (hd : ∀ σ H, Pv xs.length σ H → D.nx σ H) :
    ∃ W : Nat → Nat → St → Hp → Prop, (∃ m, W 0 m σ H) ∧ ∀ i m σ H, W i m σ H →
      ((Itt K a).stop i H ∧ D.nx σ H) ∨ ((Itt K a).go i H ∧ ∃ N : St → Hp → Prop, (∀ σ' H', N σ' H' → ∃ m', m' < m ∧ W (i + 1) m' σ' H') ∧ ∀ x H', (Itt K a).yld i H x H' → g x σ H' fun σ2 H2 => tb { D with nx := N, ct := N, bk := D.nx } σ2 H2) := by
  refine ⟨fun i m σ H => m = xs.length - i ∧ i ≤ xs.length ∧ Pv i σ H, ⟨xs.length, by simp, Nat.zero_le _, h0⟩, ?_⟩
  rintro i m σ H ⟨rfl, hi, p⟩
  have q := hl i σ H hi p
  by_cases hlt : i < xs.length
  · refine .inr ⟨⟨xs, xs[i], q, by simp [hlt]⟩, Pv (i + 1), fun σ' H' p' => ⟨xs.length - (i + 1), by omega, rfl, hlt, p'⟩, fun x H' y => ?_⟩
    obtain ⟨e, y⟩ := y
    subst e
    exact hs i x σ _ (y xs q) p
  · have e : i = xs.length := by omega
    subst e
    exact .inl ⟨⟨xs, q, Nat.le_refl _⟩, hd σ H p⟩
theorem for_range {lo : Int} {n : Nat} {g : TG} {tb : TS} {D : Ends} {σ : St} {H : Hp} (Pv : Nat → St → Hp → Prop) (h0 : Pv 0 σ H)
    (hs : ∀ i σ H, i < n → Pv i σ H → g (.int (lo + i)) σ H fun σ2 H2 => tb { D with nx := Pv (i + 1), ct := Pv (i + 1), bk := D.nx } σ2 H2) (hd : ∀ σ H, Pv n σ H → D.nx σ H) :
    ∃ W : Nat → Nat → St → Hp → Prop, (∃ m, W 0 m σ H) ∧ ∀ i m σ H, W i m σ H →
      ((Itr lo n).stop i H ∧ D.nx σ H) ∨ ((Itr lo n).go i H ∧ ∃ N : St → Hp → Prop, (∀ σ' H', N σ' H' → ∃ m', m' < m ∧ W (i + 1) m' σ' H') ∧ ∀ x H', (Itr lo n).yld i H x H' → g x σ H' fun σ2 H2 => tb { D with nx := N, ct := N, bk := D.nx } σ2 H2) := by
  refine ⟨fun i m σ H => m = n - i ∧ i ≤ n ∧ Pv i σ H, ⟨n, by simp, Nat.zero_le _, h0⟩, ?_⟩
  rintro i m σ H ⟨rfl, hi, p⟩
  by_cases hlt : i < n
  · refine .inr ⟨hlt, Pv (i + 1), fun σ' H' p' => ⟨n - (i + 1), by omega, rfl, hlt, p'⟩, fun x H' y => ?_⟩
    obtain ⟨e, y⟩ := y
    subst e y
    exact hs i σ _ hlt p
  · have e : i = n := by omega
    subst e
    exact .inl ⟨Nat.le_refl _, hd σ H p⟩
end L2

namespace L2
open PySem PySem.Spec PyProof.Rows

abbrev R2 := V → V → Hp → VK → Prop
/-- a two-place operation on values: f is binaryOp op, inplaceOp op or compareOp op -/
def OpR (X : Cx) (f : Value → Value → Sem Value) (r : R2) : Prop :=
  ∀ (pins : List (Addr × Obj)) (s : Shared) (σ : St) (H : Hp) (x y : V) (v u : Value) (Q : VK), Inv X pins σ H s → RelV x v → RelV y u → r x y H Q →
    wpAny (model X.prog X.w) X.A (f v u) (EP X pins σ Q) X.xe s
/-- a one-place operation -/
def UnR (X : Cx) (f : Value → Sem Value) (r : V → Hp → VK → Prop) : Prop :=
  ∀ (pins : List (Addr × Obj)) (s : Shared) (σ : St) (H : Hp) (x : V) (v : Value) (Q : VK), Inv X pins σ H s → RelV x v → r x H Q →
    wpAny (model X.prog X.w) X.A (f v) (EP X pins σ Q) X.xe s
/-- a call of a value that is known (a builtin, a type) with values -/
def CallR (X : Cx) (f : Value) (r : List V → Hp → VK → Prop) : Prop :=
  ∀ (pins : List (Addr × Obj)) (s : Shared) (σ : St) (H : Hp) (xs : List V) (us : List Value) (Q : VK), Inv X pins σ H s → Vals xs us → r xs H Q →
    wpAny (model X.prog X.w) X.A (call f us) (EP X pins σ Q) X.xe s
/-- a value's truth -/
def TruR (X : Cx) (r : V → Hp → (Bool → Hp → Prop) → Prop) : Prop :=
  ∀ (pins : List (Addr × Obj)) (s : Shared) (σ : St) (H : Hp) (x : V) (v : Value) (Q : Bool → Hp → Prop), Inv X pins σ H s → RelV x v → r x H Q →
    wpAny (model X.prog X.w) X.A (truthy v) (TP X pins σ Q) X.xe s

def tOp (r : R2) (ta tb : TE) : TE := fun σ H Q => ta σ H fun x H1 => tb σ H1 fun y H2 => r x y H2 Q
def tUn (r : V → Hp → VK → Prop) (ta : TE) : TE := fun σ H Q => ta σ H fun x H1 => r x H1 Q
/-- ints in, under C, and a value out -/
def rI (C : Int → Int → Prop) (g : Int → Int → V) : R2 := fun x y H Q => ∃ i j, x = .int i ∧ y = .int j ∧ C i j ∧ Q (g i j) H
def rI0 (g : Int → Int → V) : R2 := fun x y H Q => ∃ i j, x = .int i ∧ y = .int j ∧ Q (g i j) H
def rU (g : Int → V) : V → Hp → VK → Prop := fun x H Q => ∃ i, x = .int i ∧ Q (g i) H

section
variable {X : Cx} {a b c : Expr} {ta tb tc : TE} {pos : Pos}

theorem binT (ha : PE X a ta) (hb : PE X b tb) {pins : List (Addr × Obj)} {s : Shared} {σ : St} {H : Hp} {R : V → V → Hp → Prop} (I : Inv X pins σ H s)
    (h : ta σ H fun x H1 => tb σ H1 fun y H2 => R x y H2) {Q : Value → Shared → Prop} {f : Value → Value → Sem Value}
    (hf : ∀ v u s2 x y H2, Inv X pins σ H2 s2 → RelV x v → RelV y u → R x y H2 → wpAny (model X.prog X.w) X.A (f v u) Q X.xe s2) :
    wpAny (model X.prog X.w) X.A (eval a X.env) (fun v s₁ => wpAny (model X.prog X.w) X.A (eval b X.env) (fun u s₂ => wpAny (model X.prog X.w) X.A (f v u) Q X.xe s₂) X.xe s₁) X.xe s := by
  refine thn (ha pins s σ H _ I h) fun v s1 ⟨x, H1, I1, r1, q1⟩ => ?_
  refine thn (hb pins s1 σ H1 _ I1 q1) fun u s2 ⟨y, H2, I2, r2, q2⟩ => ?_
  exact hf v u s2 x y H2 I2 r1 r2 q2

theorem pe_op {op : Operator} {r : R2} (ho : OpR X (binaryOp op) r) (ha : PE X a ta) (hb : PE X b tb) : PE X (.BinOp a op b pos) (tOp r ta tb) := by
  intro pins s σ H Q I h
  exact wpAny_BinOp (binT ha hb I h fun v u s2 x y H2 I2 rx ry q => ho pins s2 σ H2 x y v u Q I2 rx ry q)
theorem pe_un {op : UnaryOp} {r : V → Hp → VK → Prop} (ho : UnR X (unaryOp op) r) (ha : PE X a ta) : PE X (.UnaryOp op a pos) (tUn r ta) := by
  intro pins s σ H Q I h
  exact UnaryOp_ (thn (ha pins s σ H _ I h) fun v s1 ⟨x, H1, I1, r1, q1⟩ => ho pins s1 σ H1 x v Q I1 r1 q1)
/-! ### ints -/
theorem opI {f : Value → Value → Sem Value} {C : Int → Int → Prop} {g : Int → Int → Int}
    (rule : ∀ (i j : Int) (t u : Tok) (s : Shared) (Q : Value → Shared → Prop) (E : Value → Shared → Prop), C i j → Q (.int (g i j) s.toks) { s with toks := s.toks + 1 } → wpAny (model X.prog X.w) X.A (f (.int i t) (.int j u)) Q E s) :
    OpR X f (rI C fun i j => .int (g i j)) := by
  intro pins s σ H x y v u Q I rx ry h
  obtain ⟨i, j, rfl, rfl, hc, q⟩ := h
  obtain ⟨t, rfl⟩ := rx
  obtain ⟨t', rfl⟩ := ry
  exact rule i j t t' s _ _ hc ⟨.int (g i j), H, I.tok _, ⟨_, rfl⟩, q⟩
theorem opI0 {f : Value → Value → Sem Value} {g : Int → Int → Int}
    (rule : ∀ (i j : Int) (t u : Tok) (s : Shared) (Q : Value → Shared → Prop) (E : Value → Shared → Prop), Q (.int (g i j) s.toks) { s with toks := s.toks + 1 } → wpAny (model X.prog X.w) X.A (f (.int i t) (.int j u)) Q E s) :
    OpR X f (rI0 fun i j => .int (g i j)) := by
  intro pins s σ H x y v u Q I rx ry h
  obtain ⟨i, j, rfl, rfl, q⟩ := h
  obtain ⟨t, rfl⟩ := rx
  obtain ⟨t', rfl⟩ := ry
  exact rule i j t t' s _ _ ⟨.int (g i j), H, I.tok _, ⟨_, rfl⟩, q⟩
theorem opB0 {f : Value → Value → Sem Value} {g : Int → Int → Bool}
    (rule : ∀ (i j : Int) (t u : Tok) (s : Shared) (Q : Value → Shared → Prop) (E : Value → Shared → Prop), Q (.bool (g i j)) s → wpAny (model X.prog X.w) X.A (f (.int i t) (.int j u)) Q E s) :
    OpR X f (rI0 fun i j => .bl (g i j)) := by
  intro pins s σ H x y v u Q I rx ry h
  obtain ⟨i, j, rfl, rfl, q⟩ := h
  obtain ⟨t, rfl⟩ := rx
  obtain ⟨t', rfl⟩ := ry
  exact rule i j t t' s _ _ ⟨.bl (g i j), H, I, rfl, q⟩

def CPow (i j : Int) : Prop := 0 ≤ j ∧ j ≤ 1000000 ∧ i.natAbs < 2 ^ 64
def CMul (i j : Int) : Prop := (-(2 ^ 64) < i ∧ i < 2 ^ 64) ∨ (-(2 ^ 64) < j ∧ j < 2 ^ 64)
theorem CMul.ok {i j : Int} (h : CMul i j) : IntMulOk i j := by
  rcases h with ⟨h1, h2⟩ | ⟨h1, h2⟩
  · exact .of_left (intBits_le_64 h1 h2)
  · exact .of_right (intBits_le_64 h1 h2)
theorem op_add : OpR X (binaryOp .Add) (rI0 fun i j => .int (i + j)) := opI0 fun _ _ _ _ _ _ _ q => add_int q
theorem op_sub : OpR X (binaryOp .Sub) (rI0 fun i j => .int (i - j)) := opI0 fun _ _ _ _ _ _ _ q => sub_int q
theorem op_mul : OpR X (binaryOp .Mult) (rI CMul fun i j => .int (i * j)) := opI fun _ _ _ _ _ _ _ hc q => mul_int q hc.ok
/-- % by a positive divisor of any size -/
theorem op_mod : OpR X (binaryOp .Mod) (rI (fun _ j => 0 < j) fun i j => .int (i % j)) := opI fun i j _ _ _ _ _ hc q => by
  have h1 : (0 : Int) < j := hc
  exact mod_int' (by omega) (by rw [Int.fmod_eq_emod_of_nonneg i (by omega)]; exact q)
theorem op_pow : OpR X (binaryOp .Pow) (rI CPow fun i j => .int (i ^ j.toNat)) := opI fun _ _ _ _ _ _ _ hc q => pow_int_small hc.1 hc.2.1 hc.2.2 q
theorem unI {f : Value → Sem Value} {g : Int → Int}
    (rule : ∀ (i : Int) (t : Tok) (s : Shared) (Q : Value → Shared → Prop) (E : Value → Shared → Prop), Q (.int (g i) s.toks) { s with toks := s.toks + 1 } → wpAny (model X.prog X.w) X.A (f (.int i t)) Q E s) :
    UnR X f (rU fun i => .int (g i)) := by
  intro pins s σ H x v Q I rx h
  obtain ⟨i, rfl, q⟩ := h
  obtain ⟨t, rfl⟩ := rx
  exact rule i t s _ _ ⟨.int (g i), H, I.tok _, ⟨_, rfl⟩, q⟩
theorem un_neg : UnR X (unaryOp .USub) (rU fun i => .int (-i)) := unI fun _ _ _ _ _ q => neg_int q
/-! ### bools among ints: n += (a < b) -/
end

/-! ### comparisons -/
/-- the scalars that == tells apart as data does -/
def scal : V → V → Bool
  | .non, .non => true | .non, .int _ => true | .int _, .non => true | .non, .bl _ => true | .bl _, .non => true | .non, .str _ => true | .str _, .non => true
  | .int _, .int _ => true | .bl _, .bl _ => true | .str _, .str _ => true | .byt _, .byt _ => true
  | .int _, .str _ => true | .str _, .int _ => true | .bl _, .str _ => true | .str _, .bl _ => true
  | _, _ => false
def rEq : R2 := fun x y H Q => scal x y = true ∧ Q (.bl (decide (x = y))) H
def rNe : R2 := fun x y H Q => scal x y = true ∧ Q (.bl (!decide (x = y))) H

theorem dec_int {i j : Int} : decide (V.int i = V.int j) = (i == j) := by
  rw [Bool.eq_iff_iff]
  simp
theorem dec_bl {i j : Bool} : decide (V.bl i = V.bl j) = (i == j) := by
  rw [Bool.eq_iff_iff]
  simp
theorem dec_str {i j : Str} : decide (V.str i = V.str j) = (i == j) := by
  rw [Bool.eq_iff_iff]
  simp
theorem dec_byt {i j : Array UInt8} : decide (V.byt i = V.byt j) = (i.toList == j.toList) := by
  rw [Bool.eq_iff_iff]
  cases i
  cases j
  simp

section
variable {X : Cx} {a b c : Expr} {ta tb tc : TE} {pos : Pos}
theorem fin_bl {pins : List (Addr × Obj)} {σ : St} {H : Hp} {s : Shared} {Q : VK} {k k' : Bool} (I : Inv X pins σ H s) (q : Q (.bl k) H) (e : k = k') : EP X pins σ Q (.bool k') s := by
  subst e
  exact ⟨.bl k, H, I, rfl, q⟩
theorem op_eq : OpR X (compareOp .Eq) rEq := by
  intro pins s σ H x y v u Q I rx ry h
  obtain ⟨hs, q⟩ := h
  cases x with
  | non =>
    cases rx
    cases y with
    | non => cases ry; exact PySem.EqNone.eq_none_none (fin_bl I q (by simp))
    | bl j => cases ry; exact PySem.EqNone.eq_none_bool (fin_bl I q (by simp))
    | int j => obtain ⟨t', rfl⟩ := ry; exact PySem.EqNone.eq_none_int (fin_bl I q (by simp))
    | str j => obtain ⟨t', rfl⟩ := ry; exact PySem.EqNone.eq_none_str (fin_bl I q (by simp))
    | _ => exact absurd (show false = true from hs) Bool.false_ne_true
  | bl i =>
    cases rx
    cases y with
    | non => cases ry; exact PySem.EqNone.eq_bool_none (fin_bl I q (by simp))
    | bl j => cases ry; exact eq_bool (fin_bl I q dec_bl)
    | str j => obtain ⟨t', rfl⟩ := ry; exact PySem.EqMixed.eq_bool_str (fin_bl I q (by simp))
    | _ => exact absurd (show false = true from hs) Bool.false_ne_true
  | int i =>
    obtain ⟨t, rfl⟩ := rx
    cases y with
    | non => cases ry; exact PySem.EqNone.eq_int_none (fin_bl I q (by simp))
    | int j => obtain ⟨t', rfl⟩ := ry; exact eq_int (fin_bl I q dec_int)
    | str j => obtain ⟨t', rfl⟩ := ry; exact PySem.EqMixed.eq_int_str (fin_bl I q (by simp))
    | _ => exact absurd (show false = true from hs) Bool.false_ne_true
  | str i =>
    obtain ⟨t, rfl⟩ := rx
    cases y with
    | non => cases ry; exact PySem.EqNone.eq_str_none (fin_bl I q (by simp))
    | bl j => cases ry; exact PySem.EqMixed.eq_str_bool (fin_bl I q (by simp))
    | int j => obtain ⟨t', rfl⟩ := ry; exact PySem.EqMixed.eq_str_int (fin_bl I q (by simp))
    | str j => obtain ⟨t', rfl⟩ := ry; exact eq_str (fin_bl I q dec_str)
    | _ => exact absurd (show false = true from hs) Bool.false_ne_true
  | byt i =>
    obtain ⟨t, rfl⟩ := rx
    cases y with
    | byt j => obtain ⟨t', rfl⟩ := ry; exact PySem.W.eq_bytes (fin_bl I q dec_byt)
    | _ => exact absurd (show false = true from hs) Bool.false_ne_true
  | _ => cases y <;> exact absurd (show false = true from hs) Bool.false_ne_true
theorem op_ne : OpR X (compareOp .NotEq) rNe := by
  intro pins s σ H x y v u Q I rx ry h
  obtain ⟨hs, q⟩ := h
  cases x with
  | non =>
    cases rx
    cases y with
    | non => cases ry; exact PySem.EqNone.ne_none_none (fin_bl I q (by simp))
    | bl j => cases ry; exact PySem.EqNone.ne_none_bool (fin_bl I q (by simp))
    | int j => obtain ⟨t', rfl⟩ := ry; exact PySem.EqNone.ne_none_int (fin_bl I q (by simp))
    | str j => obtain ⟨t', rfl⟩ := ry; exact PySem.EqNone.ne_none_str (fin_bl I q (by simp))
    | _ => exact absurd (show false = true from hs) Bool.false_ne_true
  | bl i =>
    cases rx
    cases y with
    | non => cases ry; exact PySem.EqNone.ne_bool_none (fin_bl I q (by simp))
    | bl j => cases ry; exact ne_bool (fin_bl I q (congrArg not dec_bl))
    | str j => obtain ⟨t', rfl⟩ := ry; exact PySem.EqMixed.ne_bool_str (fin_bl I q (by simp))
    | _ => exact absurd (show false = true from hs) Bool.false_ne_true
  | int i =>
    obtain ⟨t, rfl⟩ := rx
    cases y with
    | non => cases ry; exact PySem.EqNone.ne_int_none (fin_bl I q (by simp))
    | int j => obtain ⟨t', rfl⟩ := ry; exact ne_int (fin_bl I q (congrArg not dec_int))
    | str j => obtain ⟨t', rfl⟩ := ry; exact PySem.EqMixed.ne_int_str (fin_bl I q (by simp))
    | _ => exact absurd (show false = true from hs) Bool.false_ne_true
  | str i =>
    obtain ⟨t, rfl⟩ := rx
    cases y with
    | non => cases ry; exact PySem.EqNone.ne_str_none (fin_bl I q (by simp))
    | bl j => cases ry; exact PySem.EqMixed.ne_str_bool (fin_bl I q (by simp))
    | int j => obtain ⟨t', rfl⟩ := ry; exact PySem.EqMixed.ne_str_int (fin_bl I q (by simp))
    | str j => obtain ⟨t', rfl⟩ := ry; exact ne_str (fin_bl I q (congrArg not dec_str))
    | _ => exact absurd (show false = true from hs) Bool.false_ne_true
  | byt i =>
    obtain ⟨t, rfl⟩ := rx
    cases y with
    | byt j => obtain ⟨t', rfl⟩ := ry; exact PySem.W.ne_bytes (fin_bl I q (congrArg not dec_byt))
    | _ => exact absurd (show false = true from hs) Bool.false_ne_true
  | _ => cases y <;> exact absurd (show false = true from hs) Bool.false_ne_true

theorem op_lt : OpR X (compareOp .Lt) (rI0 fun i j => .bl (decide (i < j))) := opB0 fun _ _ _ _ _ _ _ q => lt_int q
theorem op_le : OpR X (compareOp .LtE) (rI0 fun i j => .bl (decide (i ≤ j))) := opB0 fun _ _ _ _ _ _ _ q => le_int q
theorem op_gt : OpR X (compareOp .Gt) (rI0 fun i j => .bl (decide (j < i))) := opB0 fun _ _ _ _ _ _ _ q => gt_int q
theorem op_ge : OpR X (compareOp .GtE) (rI0 fun i j => .bl (decide (j ≤ i))) := opB0 fun _ _ _ _ _ _ _ q => ge_int q
/-- two rules for one operation: by cases -/
theorem OpR.or {f : Value → Value → Sem Value} {r r' : R2} (h : OpR X f r) (h' : OpR X f r') : OpR X f (fun x y H Q => r x y H Q ∨ r' x y H Q) := by
  intro pins s σ H x y v u Q I rx ry q
  rcases q with q | q
  · exact h pins s σ H x y v u Q I rx ry q
  · exact h' pins s σ H x y v u Q I rx ry q

theorem nomark (b : Expr) {op : CmpOp} (h : op ≠ .In := by decide) (h2 : op ≠ .NotIn := by decide) : behindInMarks op b = false := by
  have e1 : (op == CmpOp.In) = false := by cases op <;> first | rfl | exact absurd rfl h
  have e2 : (op == CmpOp.NotIn) = false := by cases op <;> first | rfl | exact absurd rfl h2
  cases b <;> simp [behindInMarks, e1, e2]
/-- a comparison as a value; hm: nomark b, or (for in, not in) by with_unfolding_all rfl -/
theorem pe_cmpR {op : CmpOp} {r : R2} (ho : OpR X (compareOp op) r) (ha : PE X a ta) (hb : PE X b tb) (hm : behindInMarks op b = false) : PE X (.Compare a [op] [b] pos) (tOp r ta tb) := by
  intro pins s σ H Q I h
  exact wpAny_Compare1 (binT ha hb I h fun v u s2 x y H2 I2 rx ry q => ho pins s2 σ H2 x y v u Q I2 rx ry q) hm
/-- a reading of a value as a test -/
def tTest (t : TE) : TT := fun σ H Q => t σ H fun x H' => ∃ k, x = .bl k ∧ Q k H'
theorem pt_cmpR {op : CmpOp} {r : R2} (ho : OpR X (compareOp op) r) (ha : PE X a ta) (hb : PE X b tb) (hm : behindInMarks op b = false) : PT X (.Compare a [op] [b] pos) (tTest (tOp r ta tb)) := by
  intro pins s σ H Q I h
  refine wpAny_isTrue_Compare1 (thn (ha pins s σ H _ I h) fun v s1 ⟨x, H1, I1, r1, q1⟩ => thn (hb pins s1 σ H1 _ I1 q1) fun u s2 ⟨y, H2, I2, r2, q2⟩ =>
    thn (ho pins s2 σ H2 x y v u _ I2 r1 r2 q2) fun c s3 ⟨z, H3, I3, r3, k, e, q3⟩ => ?_) hm
  subst e
  cases r3
  exact wpAny_truthy_bool ⟨H3, I3, q3⟩
/-- a op1 b op2 c -/
def tChain (r r' : R2) (ta tb tc : TE) : TE := fun σ H Q => ta σ H fun x H1 => tb σ H1 fun y H2 => r x y H2 fun z H3 => ∃ k, z = .bl k ∧
  (if k = true then tc σ H3 fun w' H4 => r' y w' H4 Q else Q (.bl false) H3)
theorem pt_chain {op op' : CmpOp} {r r' : R2} (ho : OpR X (compareOp op) r) (ho' : OpR X (compareOp op') r') (ha : PE X a ta) (hb : PE X b tb) (hc : PE X c tc)
    (hm : lastMarks [op, op'] [b, c] = false := by with_unfolding_all rfl) : PT X (.Compare a [op, op'] [b, c] pos) (tTest (tChain r r' ta tb tc)) := by
  intro pins s σ H Q I h
  refine isTrue_chain (thn (ha pins s σ H _ I h) fun v s1 ⟨x, H1, I1, r1, q1⟩ => test_link (thn (hb pins s1 σ H1 _ I1 q1) fun u s2 ⟨y, H2, I2, r2, q2⟩ =>
    thn (ho pins s2 σ H2 x y v u _ I2 r1 r2 q2) fun d s3 ⟨z, H3, I3, r3, k, e, q3⟩ => ?_)) hm
  subst e
  cases r3
  refine wpAny_truthy_bool ?_
  cases k with
  | false =>
    obtain ⟨k', e', q'⟩ := q3
    cases e'
    exact ite_ff ⟨H3, I3, q'⟩
  | true =>
    refine ite_tt (test_last (thn (hc pins s3 σ H3 _ I3 q3) fun w' s4 ⟨z', H4, I4, r4, q4⟩ => thn (ho' pins s4 σ H4 y z' u w' _ I4 r2 r4 q4) fun d' s5 ⟨z2, H5, I5, r5, k2, e2, q5⟩ => ?_))
    subst e2
    cases r5
    exact wpAny_truthy_bool ⟨H5, I5, q5⟩

/-! ### truth -/
/-- a value's truth by the abstract heap -/
def TruV (K : PySem.W.Frag) (x : V) (H : Hp) (k : Bool) : Prop :=
  match x with
  | .non => k = false
  | .bl b => k = b
  | .int i => k = (i != 0)
  | .str y => y.length ≤ sizeLine ∧ k = ((y.length : Int) != 0)
  | .byt y => y.size ≤ sizeLine ∧ k = ((y.size : Int) != 0)
  | .ref p => (∃ xs, SqL K H p xs ∧ k = !xs.isEmpty) ∨ (∃ xs, SqT K H p xs ∧ k = !xs.isEmpty) ∨ ∃ kvs, H p = some (.dK kvs) ∧ k = !kvs.isEmpty
  | _ => False
theorem isEmpty_kv {κ : Type} {kvs : List (κ × V)} {vs : List (κ × Value)} (r : KV kvs vs) : (!vs.isEmpty) = !kvs.isEmpty := by
  cases r <;> rfl
theorem isEmpty_of {xs : List V} {its : List Value} (r : Vals xs its) : (!its.toArray.isEmpty) = !xs.isEmpty := by
  cases r <;> simp
theorem line63 : (sizeLine : Nat) < 2 ^ 63 := by rw [sizeLine_eq]; decide
theorem tru_ok : TruR X (fun x H Q => ∃ k, TruV X.K x H k ∧ Q k H) := by
  intro pins s σ H x v Q I rx h
  obtain ⟨k, e, q⟩ := h
  have hl := line63
  have hs : sizeLine = 16777216 := sizeLine_eq
  cases x with
  | non =>
    cases rx
    have e' : k = false := e
    subst e'
    exact truthy_none ⟨H, I, q⟩
  | bl b =>
    cases rx
    have e' : k = b := e
    subst e'
    exact wpAny_truthy_bool ⟨H, I, q⟩
  | int i =>
    obtain ⟨t, rfl⟩ := rx
    have e' : k = (i != 0) := e
    subst e'
    exact PySem.P.truthy_int ⟨H, I, q⟩
  | str y =>
    obtain ⟨t, rfl⟩ := rx
    obtain ⟨hy, e'⟩ : y.length ≤ sizeLine ∧ k = ((y.length : Int) != 0) := e
    subst e'
    exact PySem.P.truthy_str (by omega) ⟨H, I.tok _, q⟩
  | byt y =>
    obtain ⟨t, rfl⟩ := rx
    obtain ⟨hy, e'⟩ : y.size ≤ sizeLine ∧ k = ((y.size : Int) != 0) := e
    subst e'
    exact PySem.W.truthy_bytes (by omega) ⟨H, I.tok _, q⟩
  | ref p =>
    cases rx
    have e' : (∃ xs, SqL X.K H p xs ∧ k = !xs.isEmpty) ∨ (∃ xs, SqT X.K H p xs ∧ k = !xs.isEmpty) ∨ ∃ kvs, H p = some (.dK kvs) ∧ k = !kvs.isEmpty := e
    rcases e' with ⟨xs, hx, e'⟩ | ⟨xs, hx, e'⟩ | ⟨kvs, hx, e'⟩
    · subst e'
      obtain ⟨its, r, pl, hz⟩ := I.list hx
      have hlen := r.length
      exact wpAny_truthy_list pl.isList (by simp only [List.size_toArray]; omega) ⟨H, I.tok _, by rw [isEmpty_of r]; exact q⟩
    · subst e'
      obtain ⟨its, r, pl, hz⟩ := I.tuple hx
      have hlen := r.length
      exact truthy_tuple pl (by simp only [List.size_toArray]; omega) ⟨H, I.tok _, by rw [isEmpty_of r]; exact q⟩
    · subst e'
      obtain ⟨hz, hS, vs, r, m⟩ : kvs.length ≤ sizeLine ∧ (p == sysModules) = false ∧ ∃ vs, KV kvs vs ∧ s.heap.DictOf (mixKind X.prog X.w) p vs := I.hok p _ hx
      have hlen : kvs.length = vs.length := Paired.length r
      exact wpAny_truthy_dict hS m (by omega) ⟨H, I.tok _, by rw [isEmpty_kv r]; exact q⟩
  | _ => exact (show False from e).elim
/-- any expression whose test is its value's truth (a name, a call, a subscript, a field ..: he by fun _ => rfl) -/
theorem pt_truth (ha : PE X a ta) (he : ∀ whole, isTrue a X.env whole = (do let v ← whole; standAt a.pos; holding [v] (truthy v))) :
    PT X a (fun σ H Q => ta σ H fun x H' => ∃ k, TruV X.K x H' k ∧ Q k H') := by
  intro pins s σ H Q I h
  exact isTrue_plain (thn (ha pins s σ H _ I h) fun v s1 ⟨x, H1, I1, r1, q1⟩ => tru_ok pins s1 σ H1 x v Q I1 r1 q1) (he _)

/-! ### strs and bytes -/
/-! ### scalar builtins, by CallR -/
theorem vals1 {x : V} {us : List Value} (r : Vals [x] us) : ∃ u, us = [u] ∧ RelV x u := by
  cases r with
  | cons r1 r2 => cases r2; exact ⟨_, rfl, r1⟩
end
end L2

namespace L2
open PySem PySem.Spec PyProof.Rows

/-! ### an instance, its attributes a map -/
structure ObjM (h : Heap) (x dx C : Addr) (mA : Str → Option Value) : Prop where
  obj : h.get? x = some (PySem.W.instObj C dx)
  ns : h.Ns1 dx mA
  ne : dx ≠ x

theorem lookIn_ns {h : Heap} {dx : Addr} {mA : Str → Option Value} (n : h.Ns1 dx mA) : ∃ od, h.get? dx = some od ∧ ∀ name, PySem.W.lookIn name od = some (mA name) := by
  obtain ⟨o, es, ep, ho, hd, hk, _, hm⟩ := n
  refine ⟨o, ho, fun name => ?_⟩
  have e := hm name
  unfold nsFind findBy at e
  rw [← Array.find?_toList] at e
  unfold PySem.W.lookIn
  rw [hd]
  dsimp only
  split
  · rename_i y q
    rw [q] at e
    exact congrArg some e
  · rename_i q
    rw [q] at e
    have a : es.toList.any (·.refKey) = false := by
      rw [List.any_eq_false]
      intro y hy
      obtain ⟨z, t, hkey⟩ := hk y (Array.mem_toList_iff.mp hy)
      simp [DictEntry.refKey, hkey]
    have a' : ¬ es.toList.any (·.refKey) = true := by rw [a]; exact Bool.false_ne_true
    rw [if_neg a']
    exact congrArg some e

theorem ObjM.look {h : Heap} {x dx C : Addr} {mA : Str → Option Value} (I : ObjM h x dx C mA) : ∃ od, PySem.W.InstAt h x (PySem.W.instObj C dx) C (some od) ∧ ∀ name, PySem.W.lookIn name od = some (mA name) :=
  let ⟨od, ho, hl⟩ := lookIn_ns I.ns
  ⟨od, ⟨I.obj, rfl, rfl, ho⟩, hl⟩

section
variable {prog : Program} {w : World} {A : Around} {E : Value → Shared → Prop} {s : Shared} {K : PySem.W.Frag} {x dx C f : Addr} {mA : Str → Option Value} {name : Str} {v : Value}

theorem get_map {expr : Bool} {Q : Value → Shared → Prop} (X : K.In s.heap) (I : ObjM s.heap x dx C mA) (hg : PySem.W.plainGet K C name = true) (hh : PySem.W.hasDictIn K C = true)
    (ha : PySem.W.findIn K (.ref C) name = some none) (hv : mA name = some v) (hv' : PySem.W.handedIn v = true) (h : Q v { s with toks := s.toks + 1 }) :
    wpAny (model prog w) A (getAttr (.ref x) name expr) Q E s := by
  obtain ⟨od, J, hl⟩ := I.look
  exact PySem.W.get_value X J (PySem.W.plainGet_of hg).1 (PySem.W.findObj_own hh ha rfl (by rw [hl, hv])) hv' h

theorem get_meth {pl : Sem Bool} {Q : Value × List Value → Shared → Prop} (X : K.In s.heap) (I : ObjM s.heap x dx C mA) (hg : PySem.W.plainGet K C name = true)
    (hf : PySem.W.findIn K (.ref C) name = some (some (.ref f))) (ht : PySem.W.isFn K (.ref f) = true) (hv : mA name = none) (h : Q (.ref f, [.ref x]) s) :
    wpAny (model prog w) A (getMethod (.ref x) name pl) Q E s := by
  obtain ⟨od, J, hl⟩ := I.look
  exact PySem.W.method_fn X J (PySem.W.plainGet_of hg).1 (PySem.W.plainGet_of hg).2 hf (beq_iff_eq.mp ht) (by show (PySem.W.lookIn name od).map (·.isSome) = some false; rw [hl, hv]; rfl) h

theorem set_map {ns : List Str} {Q : Unit → Shared → Prop} (X : K.In s.heap) (I : ObjM s.heap x dx C mA)
    (hs : PySem.W.findIn K (.ref C) "__setattr__" = some (some (.builtin "object.__setattr__"))) (hp : PySem.W.plainOver K C = true) (ht : PySem.W.takerIn K C name = some none) (hh : PySem.W.hasDictIn K C = true)
    (hw : PySem.Within mA ns) (hsz : ns.length ≤ sizeLine)
    (h : ∀ h', ObjM h' x dx C (fun y => if y = name then some v else mA y) → Heap.SameBut dx s.heap h' → Q () { s with heap := h', toks := s.toks + 2 }) :
    wpAny (model prog w) A (setAttr (.ref x) name v) Q E s := by
  obtain ⟨od, J, hl⟩ := I.look
  refine PySem.W.set_plain X J hs (PySem.W.osa_open (s := { s with toks := s.toks + 1 }) (r := none) X J hp ht fun b => ?_)
  obtain ⟨cd, hc, hd'⟩ := PySem.W.any_some hh
  have hx : s.heap.get? x = some ⟨.ref C, some dx, .plain, #[]⟩ := I.obj
  refine wpAny_bind (wpAny_pure (wpAny_bind (wpAny_bind (wpAny_loadPart hx (wpAny_bind (PySem.W.Looks.here (s := { s with toks := s.toks + 1 }) (PySem.W.looks_clsIn X hc) ?_))))))
  rw [hd']
  refine wpAny_pure (a := some dx) (wpAny_bind (wpAny_pure (wpAny_bind ?_)))
  refine wpAny_nsSet1 (s := { s with toks := s.toks + 1 }) I.ns fun h' hn2 hs2 => ?_
  obtain ⟨oD, esD, epD, hoD, hdD, hcD⟩ := hn2.count (PySem.Within.cons name v hw)
  refine wpAny_bind (wpAny_lookBehind hoD (by rw [hdD]; exact pastItsLine_dict (Nat.le_trans hcD (by rw [List.length_cons]; omega))) ?_)
  exact wpAny_pure (h _ ⟨(hs2.2 _ (Ne.symm I.ne)).trans I.obj, hn2, I.ne⟩ hs2)

/-- C(..): the dict at the heap's end, the instance behind it; then its __init__ -/
theorem make_map {R : Result → Shared → Prop} {vs : List Value} {kw : List (Str × Value)} (X : K.In s.heap) (hm : PySem.W.makesIn K C = true)
    (hi : PySem.W.findIn K (.ref C) "__init__" = some (some (.ref f))) (hf : PySem.W.typeIn K (.ref f) = some (.type "function"))
    (h : codeAny (model prog w) (A.under (.builtin "type.__call__" ⟨.ref C :: vs, kw⟩)) (.call (.ref f) ⟨.ref (s.heap.objs.size + 1) :: vs, kw⟩) (PySem.W.InitBack (s.heap.objs.size + 1) R)
      { s with heap := (s.heap.push PySem.W.emptyDict).push (PySem.W.instObj C s.heap.objs.size) }) :
    codeAny (model prog w) A (.call (.ref C) ⟨vs, kw⟩) R s := by
  obtain ⟨hh, g, d, t, os⟩ := s
  exact PySem.W.make_core (PySem.W.makes_of X hm) (PySem.W.looks_findIn X hi) (fun self => PySem.W.bind_fn X self hf) (.inl rfl) h
end

/-! ### the attributes as a list of pairs -/
def putF (f : Str) (v : V) : List (Str × V) → List (Str × V)
  | [] => [(f, v)]
  | (g, x) :: r => if g = f then (g, v) :: r else (g, x) :: putF f v r
theorem lookup_putF (f g : Str) (v : V) : ∀ fs : List (Str × V), (putF f v fs).lookup g = if g = f then some v else fs.lookup g
  | [] => by
    show List.lookup g [(f, v)] = _
    by_cases h : g = f
    · have hb : (g == f) = true := beq_iff_eq.mpr h
      simp only [List.lookup, hb, if_pos h]
    · have hb : (g == f) = false := beq_eq_false_iff_ne.mpr h
      simp only [List.lookup, hb, if_neg h]
  | (k, x) :: r => by
    have ih := lookup_putF f g v r
    rw [show putF f v ((k, x) :: r) = (if k = f then (k, v) :: r else (k, x) :: putF f v r) from rfl]
    by_cases hk : k = f
    · rw [if_pos hk]
      by_cases h : g = k
      · have hb : (g == k) = true := beq_iff_eq.mpr h
        simp only [List.lookup, hb, if_pos (h.trans hk)]
      · have hb : (g == k) = false := beq_eq_false_iff_ne.mpr h
        simp only [List.lookup, hb, if_neg (fun e : g = f => h (e.trans hk.symm))]
    · rw [if_neg hk]
      by_cases h : g = k
      · have hb : (g == k) = true := beq_iff_eq.mpr h
        simp only [List.lookup, hb, if_neg (fun e : g = f => hk (h.symm.trans e))]
      · have hb : (g == k) = false := beq_eq_false_iff_ne.mpr h
        simp only [List.lookup, hb]
        exact ih
theorem keys_putF (f : Str) (v : V) : ∀ fs : List (Str × V), f ∈ (putF f v fs).map (·.1) ∧ ∀ g, g ∈ fs.map (·.1) → g ∈ (putF f v fs).map (·.1)
  | [] => ⟨by simp [putF], fun g h => by simp at h⟩
  | (k, x) :: r => by
    obtain ⟨i1, i2⟩ := keys_putF f v r
    rw [show putF f v ((k, x) :: r) = (if k = f then (k, v) :: r else (k, x) :: putF f v r) from rfl]
    by_cases hk : k = f
    · rw [if_pos hk]
      subst hk
      exact ⟨by simp, fun g h => by simpa using h⟩
    · rw [if_neg hk]
      refine ⟨?_, fun g h => ?_⟩
      · rw [List.map_cons]
        exact List.mem_cons_of_mem _ i1
      · rw [List.map_cons] at h ⊢
        rcases List.mem_cons.mp h with e | e
        · exact List.mem_cons.mpr (.inl e)
        · exact List.mem_cons_of_mem _ (i2 g e)
theorem length_putF (f : Str) (v : V) : ∀ fs : List (Str × V), (putF f v fs).length ≤ fs.length + 1
  | [] => by simp [putF]
  | (k, x) :: r => by
    have ih := length_putF f v r
    rw [show putF f v ((k, x) :: r) = (if k = f then (k, v) :: r else (k, x) :: putF f v r) from rfl]
    by_cases hk : k = f
    · rw [if_pos hk, List.length_cons, List.length_cons]; omega
    · rw [if_neg hk, List.length_cons, List.length_cons]; omega

theorem RelO.some_of {v : V} {o : Option Value} (r : RelO (some v) o) : ∃ u, o = some u ∧ RelV v u := by
  cases o with
  | none => exact (show False from r).elim
  | some u => exact ⟨u, rfl, r⟩
theorem RelO.none_of {o : Option Value} (r : RelO none o) : o = none := by
  cases o with
  | none => rfl
  | some u => exact (show False from r).elim
theorem handed_of {v : V} {u : Value} (r : RelV v u) : PySem.W.handedIn u = true := by
  cases v with
  | non => cases (show u = Value.none from r); rfl
  | bl b => cases (show u = Value.bool b from r); rfl
  | int i => obtain ⟨t, e⟩ := (show ∃ t, u = Value.int i t from r); cases e; rfl
  | str x => obtain ⟨t, e⟩ := (show ∃ t, u = Value.str x t from r); cases e; rfl
  | byt b => obtain ⟨t, e⟩ := (show ∃ t, u = Value.bytes b t from r); cases e; rfl
  | flt b => obtain ⟨t, e⟩ := (show ∃ t, u = Value.float b t from r); cases e; rfl
  | ref a => cases (show u = Value.ref a from r); rfl
  | ty n => cases (show u = Value.type n from r); rfl

section
variable {P : Program} {w : World} {H H' : Hp} {h h' : Heap} {a C dx : Addr} {fs fs' : List (Str × V)}
theorem ins_get (hok : HOk P w H h) (e : H a = some (.ins C dx fs)) : ∃ mA, ObjM h a dx C mA ∧ (∀ f, RelO (fs.lookup f) (mA f)) ∧ PySem.Within mA (fs.map (·.1)) ∧ fs.length ≤ 1000 ∧ H dx = some (.own a) := by
  obtain ⟨d, z, ne, ob, mA, n, r, q⟩ := (show ObjOk P w H h a (.ins C dx fs) from hok a _ e)
  exact ⟨mA, ⟨ob, n, ne⟩, r, q, z, d⟩
end

/-! ### what of the text a class must have -/
structure Cls (K : PySem.W.Frag) (C : Addr) : Prop where
  pg : PySem.W.plainGet K C Str.empty = true
  hd : PySem.W.hasDictIn K C = true
  po : PySem.W.plainOver K C = true
  sa : PySem.W.findIn K (.ref C) "__setattr__" = some (some (.builtin "object.__setattr__"))
theorem Cls.get {K : PySem.W.Frag} {C : Addr} (c : Cls K C) (f : Str) : PySem.W.plainGet K C f = true := c.pg
/-- no class of it has the name -/
def NoAttr (K : PySem.W.Frag) (C : Addr) (f : Str) : Prop := PySem.W.findIn K (.ref C) f = some none
theorem NoAttr.taker {K : PySem.W.Frag} {C : Addr} {f : Str} (n : NoAttr K C f) : PySem.W.takerIn K C f = some none := by
  unfold PySem.W.takerIn
  rw [show PySem.W.findIn K (.ref C) f = some none from n]
  rfl
/-- a constant of the class -/
structure Con (K : PySem.W.Frag) (C : Addr) (f : Str) (v : V) (u : Value) : Prop where
  at_ : PySem.W.findIn K (.ref C) f = some (some u)
  rel : RelV v u
  get : PySem.W.specialIn K u "__get__" = some none
  cp : PySem.W.copiedNames.contains f = false
/-- a method: a plain def of the class or of one above it -/
structure Meth (K : PySem.W.Frag) (C : Addr) (m : Str) (f : Addr) : Prop where
  at_ : PySem.W.findIn K (.ref C) m = some (some (.ref f))
  fn : PySem.W.isFn K (.ref f) = true
  kp : PySem.W.keepIn K (.ref f) = true

section
variable {X : Cx} {pins : List (Addr × Obj)} {σ : St} {H : Hp} {s : Shared} {a C dx : Addr} {fs : List (Str × V)} {f : Str} {v : V} {A : Around} {E : Value → Shared → Prop}

theorem getattr_ok {b : Bool} {Q : Value → Shared → Prop} (I : Inv X pins σ H s) (e : H a = some (.ins C dx fs)) (c : Cls X.K C) (n : NoAttr X.K C f) (l : fs.lookup f = some v)
    (h : ∀ u s', Inv X pins σ H s' → RelV v u → Q u s') : wpAny (model X.prog X.w) A (getAttr (.ref a) f b) Q E s := by
  obtain ⟨mA, O, r, _, _, _⟩ := ins_get I.hok e
  obtain ⟨u, hu, ru⟩ := RelO.some_of (v := v) (o := mA f) (by rw [← l]; exact r f)
  exact get_map I.kIn O (c.get f) c.hd n hu (handed_of ru) (h u _ (I.tok _) ru)

theorem getmeth_ok {m : Str} {g : Addr} {pl : Sem Bool} {Q : Value × List Value → Shared → Prop} (I : Inv X pins σ H s) (e : H a = some (.ins C dx fs)) (c : Cls X.K C) (k : Meth X.K C m g) (l : fs.lookup m = none)
    (h : Q (.ref g, [.ref a]) s) : wpAny (model X.prog X.w) A (getMethod (.ref a) m pl) Q E s := by
  obtain ⟨mA, O, r, _, _, _⟩ := ins_get I.hok e
  have hn : mA m = none := RelO.none_of (by rw [← l]; exact r m)
  exact get_meth I.kIn O (c.get m) k.at_ k.fn hn h

theorem setattr_ok {y : V} {u : Value} {Q : Unit → Shared → Prop} (I : Inv X pins σ H s) (e : H a = some (.ins C dx fs)) (c : Cls X.K C) (n : NoAttr X.K C f) (hl : fs.length < 1000) (ry : RelV y u)
    (h : ∀ s', Inv X pins σ (upd H a (.ins C dx (putF f y fs))) s' → Q () s') : wpAny (model X.prog X.w) A (setAttr (.ref a) f u) Q E s := by
  obtain ⟨mA, O, r, wi, _, ho⟩ := ins_get I.hok e
  have hz : (fs.map (·.1)).length ≤ sizeLine := by rw [List.length_map, sizeLine_eq]; omega
  refine set_map I.kIn O c.sa c.po n.taker c.hd wi hz fun h' O' sb => h _ ?_
  have hd : ∃ o, h'.get? dx = some o := let ⟨o, _, _, e', _⟩ := O'.ns; ⟨o, e'⟩
  refine I.write (x := a) (e := dx) (by rw [e]; exact True.intro) (.inr ho) (fun b q hb z => (sb.2 b hb).trans z) hd ?_
  refine ⟨by rw [upd_ne O.ne]; exact ho, ?_, O.ne, O'.obj, _, O'.ns, fun g => ?_, fun g hg => ?_⟩
  · have := length_putF f y fs; omega
  · show RelO ((putF f y fs).lookup g) (if g = f then some u else mA g)
    rw [lookup_putF]
    by_cases q : g = f
    · rw [if_pos q, if_pos q]; exact ry
    · rw [if_neg q, if_neg q]; exact r g
  · by_cases q : g = f
    · rw [q]; exact (keys_putF f y fs).1
    · refine (keys_putF f y fs).2 g (wi g fun z => hg ?_)
      show (if g = f then some u else mA g) = none
      rw [if_neg q]; exact z

/-- a new instance, tracked, without attributes -/
theorem Inv.made (I : Inv X pins σ H s) : Inv X pins σ (upd (upd H s.heap.objs.size (.own (s.heap.objs.size + 1))) (s.heap.objs.size + 1) (.ins C s.heap.objs.size []))
    { s with heap := (s.heap.push PySem.W.emptyDict).push (PySem.W.instObj C s.heap.objs.size) } := by
  have e1 : (s.heap.push PySem.W.emptyDict).get? s.heap.objs.size = some PySem.W.emptyDict := Heap.get?_push_size s.heap rfl
  have e2 : ((s.heap.push PySem.W.emptyDict).push (PySem.W.instObj C s.heap.objs.size)).get? (s.heap.objs.size + 1) = some (PySem.W.instObj C s.heap.objs.size) := by
    have := Heap.get?_push_size (s.heap.push PySem.W.emptyDict) (o := PySem.W.instObj C s.heap.objs.size) rfl
    rwa [Heap.size_push] at this
  have e3 : (s.heap.push PySem.W.emptyDict).Ns s.heap.objs.size (fun _ => none) := ⟨PySem.W.emptyDict, #[], _, e1, rfl, (fun e he => absurd he (by simp)), fun _ => rfl⟩
  have I1 := I.laid (a := s.heap.objs.size) (o := .own (s.heap.objs.size + 1)) (h' := s.heap.push PySem.W.emptyDict) (t' := s.toks) (fun b u q => Heap.get?_push_of_some _ q) (Nat.le_refl _) ⟨_, e1⟩
  refine I1.laid (a := s.heap.objs.size + 1) (o := .ins C s.heap.objs.size []) (t' := s.toks) (fun b u q => Heap.get?_push_of_some _ q) (Nat.le_of_eq (Heap.size_push _ _)) ?_
  have ne : s.heap.objs.size ≠ s.heap.objs.size + 1 := Nat.ne_of_lt (Nat.lt_succ_self _)
  refine ⟨by rw [upd_ne ne, upd_same], Nat.zero_le _, ne, e2, fun _ => none, (Heap.Ns1.of_empty e3).at fun o q => Heap.get?_push_of_some _ q, fun _ => True.intro, fun y hy => absurd rfl hy⟩

/-- e.f where nothing but the object is asked: through attributeBase (super) and the last hold -/
theorem attr_of {prog : Program} {w : World} {env : Env} {e : Expr} {f : Str} {pos : Pos} {s : Shared} {Q : Value → Shared → Prop} (hb : attributeBase e f env (eval e env) = eval e env)
    (h : wpAny (model prog w) A (eval e env) (fun o s₁ => wpAny (model prog w) A (getAttr o f true) Q E s₁) E s) : wpAny (model prog w) A (eval (.Attribute e f pos) env) Q E s :=
  Attribute_any_ h (by rw [arm_eval_Attribute, hb])
end

/-! ### readings and rules -/
/-- e.f, an attribute of the instance -/
def tFld (K : PySem.W.Frag) (ta : TE) (f : Str) : TE := fun σ H Q => ta σ H fun x H1 => ∃ a C dx fs v, x = .ref a ∧ H1 a = some (.ins C dx fs) ∧ Cls K C ∧ NoAttr K C f ∧ fs.lookup f = some v ∧ Q v H1
/-- e.f = value -/
def sFld (K : PySem.W.Frag) (ta tv : TE) (f : Str) : TS := fun D σ H => tv σ H fun y H1 => ta σ H1 fun x H2 => ∃ a C dx fs, x = .ref a ∧ H2 a = some (.ins C dx fs) ∧ Cls K C ∧ NoAttr K C f ∧ fs.length < 1000 ∧
  D.nx σ (upd H2 a (.ins C dx (putF f y fs)))
/-- an augmented operator on two values -/
def InOp (X : Cx) (op : Operator) (rd : V → V → Hp → VK → Prop) : Prop :=
  ∀ (pins : List (Addr × Obj)) (s : Shared) (σ : St) (H : Hp) (x y : V) (u v : Value) (Q : VK), Inv X pins σ H s → RelV x u → RelV y v → rd x y H Q → wpAny (model X.prog X.w) X.A (inplaceOp op u v) (EP X pins σ Q) X.xe s
/-- e.f op= value -/
def sFldAug (K : PySem.W.Frag) (ta tv : TE) (rd : V → V → Hp → VK → Prop) (f : Str) : TS := fun D σ H => ta σ H fun x H1 => ∃ a C dx fs v, x = .ref a ∧ H1 a = some (.ins C dx fs) ∧ Cls K C ∧ NoAttr K C f ∧ fs.lookup f = some v ∧
  tv σ H1 fun y H2 => rd v y H2 fun z H3 => ∃ dx' fs', H3 a = some (.ins C dx' fs') ∧ fs'.length < 1000 ∧ D.nx σ (upd H3 a (.ins C dx' (putF f z fs')))

section
variable {X : Cx} {o e value : Expr} {f : Str} {pos pos' tpos : Pos} {ta tv : TE}
theorem pe_fld (he : PE X e ta) (hb : attributeBase e f X.env (eval e X.env) = eval e X.env) : PE X (.Attribute e f pos) (tFld X.K ta f) := by
  intro pins s σ H Q I h
  refine attr_of hb (thn (he pins s σ H _ I h) fun u s1 ⟨x, H1, I1, rx, a, C, dx, fs, v, ex, ea, c, n, l, q⟩ => ?_)
  subst ex
  obtain rfl : u = Value.ref a := rx
  exact getattr_ok I1 ea c n l fun u' s2 I2 ru => ⟨v, H1, I2, ru, q⟩
theorem ps_fld (ha : PE X o ta) (hv : PE X value tv) (hs : swapsWith value (some (.Attribute o f pos')) pos.line X.env = pure false) : PS X (.Assign [.Attribute o f pos'] value pos) (sFld X.K ta tv f) := by
  intro pins s σ H D I h
  refine plainObj_wpAny_Assign_Attribute (thn (hv pins s σ H _ I h) fun u s1 ⟨y, H1, I1, ry, q⟩ => thn (ha pins s1 σ H1 _ I1 q) fun ov s2 ⟨x, H2, I2, rx, a, C, dx, fs, ex, ea, c, n, l, q2⟩ => ?_) hs
  subst ex
  obtain rfl : ov = Value.ref a := rx
  exact setattr_ok I2 ea c n l ry fun s3 I3 => ⟨σ, _, I3, q2⟩
theorem ps_fldaug {op : Operator} {rd : V → V → Hp → VK → Prop} (ha : PE X o ta) (hv : PE X value tv) (hop : InOp X op rd) : PS X (.AugAssign (.Attribute o f tpos) op value pos) (sFldAug X.K ta tv rd f) := by
  intro pins s σ H D I h
  refine wpAny_AugAssign_AttributeAny (thn (ha pins s σ H _ I h) fun ov s1 ⟨x, H1, I1, rx, a, C, dx, fs, v, ex, ea, c, n, l, q⟩ => ?_)
  subst ex
  obtain rfl : ov = Value.ref a := rx
  refine getattr_ok I1 ea c n l fun u s2 I2 ru => thn (hv pins s2 σ H1 _ I2 q) fun w3 s3 ⟨y, H2, I3, ry, q3⟩ => thn (hop pins s3 σ H2 v y u w3 _ I3 ru ry q3) fun w4 s4 ⟨z, H3, I4, rz, dx', fs', ea', l', q4⟩ => ?_
  exact setattr_ok I4 ea' c n l' rz fun s5 I5 => ⟨σ, _, I5, q4⟩
end

/-! ### isinstance -/
section
variable {X : Cx} {pins : List (Addr × Obj)} {σ : St} {H : Hp} {s : Shared} {A : Around} {E : Value → Shared → Prop} {Q : Value → Shared → Prop} {c : Value} {b : Bool}
/-- the type of a value, as the fragment's deciders take it; for an instance its class -/
inductive TyOf (K : PySem.W.Frag) (H : Hp) : V → Value → Prop where
  | non : TyOf K H .non (.type "NoneType")
  | bl (x : Bool) : TyOf K H (.bl x) (.type "bool")
  | int (i : Int) : TyOf K H (.int i) (.type "int")
  | str (x : Str) : TyOf K H (.str x) (.type "str")
  | flt (x : UInt64) : TyOf K H (.flt x) (.type "float")
  | lst {a : Addr} {xs : List V} (e : H a = some (.lst xs)) : TyOf K H (.ref a) (.type "list")
  | frz {a : Addr} {o : Obj} {xs : List V} (e : H a = some (.frz o (.lst xs))) : TyOf K H (.ref a) (.type "list")
  | tup {a : Addr} {xs : List V} (e : H a = some (.tup xs)) : TyOf K H (.ref a) (.type "tuple")
  | dK {a : Addr} {kvs : List (Key × V)} (e : H a = some (.dK kvs)) : TyOf K H (.ref a) (.type "dict")
  | dT {a : Addr} {kvs : List (List Key × V)} (e : H a = some (.dT kvs)) : TyOf K H (.ref a) (.type "dict")
  | ins {a C dx : Addr} {fs : List (Str × V)} (e : H a = some (.ins C dx fs)) (cl : Cls K C) (ha : PySem.W.findIn K (.ref C) "__class__" = some (some (.builtin "object.__class__")))
      (hn : PySem.W.specialIn K (.builtin "object.__class__") "__get__" = some (some (.builtin "getset_descriptor.__get__"))) (htk : PySem.W.takesIn K (.builtin "object.__class__") = some true)
      (hm : PySem.W.mroIn K C (.type "object") = some true) : TyOf K H (.ref a) (.ref C)
/-- isinstance(x, c) for one class c, a built-in or an own one: kitOne's answer -/
theorem isinst_ok {x : V} {u t : Value} (I : Inv X pins σ H s) (rx : RelV x u) (ty : TyOf X.K H x t) (e : PySem.W.kitOne X.K t c = some b) (h : ∀ tk, Q (.bool b) { s with toks := tk }) :
    wpAny (model X.prog X.w) A (call (.builtin "isinstance") [u, c]) Q E s := by
  cases ty with
  | non => cases (show u = Value.none from rx); exact PySem.W.kia_one PySem.W.kitx_none I.kIn True.intro e (fun z => nomatch z) h
  | bl y => cases (show u = Value.bool y from rx); exact PySem.W.kia_one PySem.W.kitx_bool I.kIn True.intro e (fun z => nomatch z) h
  | int i => obtain ⟨t, q⟩ := (show ∃ t, u = Value.int i t from rx); cases q; exact PySem.W.kia_one PySem.W.kitx_int I.kIn True.intro e (fun z => nomatch z) h
  | str y => obtain ⟨t, q⟩ := (show ∃ t, u = Value.str y t from rx); cases q; exact PySem.W.kia_one PySem.W.kitx_str I.kIn True.intro e (fun z => nomatch z) h
  | flt y => obtain ⟨t, q⟩ := (show ∃ t, u = Value.float y t from rx); cases q; exact PySem.W.kia_one PySem.W.kitx_float I.kIn True.intro e (fun z => nomatch z) h
  | @lst a xs ea =>
    cases (show u = Value.ref a from rx)
    obtain ⟨_, _, n, _, h1⟩ := (show ObjOk X.prog X.w H s.heap a (.lst xs) from I.hok a _ ea)
    exact PySem.W.kia_one PySem.W.kitx_list I.kIn ⟨_, h1, rfl⟩ e (fun z => nomatch z) h
  | @frz a ob xs ea =>
    cases (show u = Value.ref a from rx)
    obtain ⟨_, _, _, n, _, h1⟩ := (show ObjOk X.prog X.w H s.heap a (.frz ob (.lst xs)) from I.hok a _ ea)
    exact PySem.W.kia_one PySem.W.kitx_list I.kIn ⟨_, h1, rfl⟩ e (fun z => nomatch z) h
  | @tup a xs ea =>
    cases (show u = Value.ref a from rx)
    obtain ⟨_, _, _, p⟩ := (show ObjOk X.prog X.w H s.heap a (.tup xs) from I.hok a _ ea)
    obtain ⟨o, h1, h2, _⟩ := p
    exact PySem.W.kia_one PySem.W.kitx_tuple I.kIn ⟨o, h1, h2⟩ e (fun z => nomatch z) h
  | @dK a kvs ea =>
    cases (show u = Value.ref a from rx)
    obtain ⟨_, _, vs, _, p⟩ := (show ObjOk X.prog X.w H s.heap a (.dK kvs) from I.hok a _ ea)
    obtain ⟨o, es, ep, h1, h2, _⟩ := p
    exact PySem.W.kia_one PySem.W.kitx_dict I.kIn ⟨o, h1, h2.1⟩ e (fun z => nomatch z) h
  | @dT a kvs ea =>
    cases (show u = Value.ref a from rx)
    obtain ⟨_, _, xs, _, o, es, ep, h1, h2, _⟩ := (show ObjOk X.prog X.w H s.heap a (.dT kvs) from I.hok a _ ea)
    exact PySem.W.kia_one PySem.W.kitx_dict I.kIn ⟨o, h1, h2.1⟩ e (fun z => nomatch z) h
  | @ins a C dx fs ea cl ha hn htk hm =>
    cases (show u = Value.ref a from rx)
    obtain ⟨mA, O, _⟩ := ins_get I.hok ea
    obtain ⟨od, J, _⟩ := O.look
    exact PySem.W.kia_one (PySem.W.kitx_own (cl.get _) cl.hd ha hn htk hm) I.kIn J e (fun z => nomatch z) h
end
end L2

namespace L2
open PySem PySem.Spec PyProof.Rows

/-! ### room -/
structure Room (k : Nat) (A : Around) : Prop where
  hd : A.handled = none
  dp : A.depth + 3 * k + 5 < recursionLimit
  un : A.units + 16 * k + 200 < cLine
theorem Room.mono {j k : Nat} {A : Around} (r : Room k A) (h : j ≤ k) : Room j A := ⟨r.hd, by have := r.dp; omega, by have := r.un; omega⟩
theorem Room.deeper {k : Nat} {A : Around} (r : Room (k + 1) A) (env : Env) : Room k (A.deeper env) :=
  ⟨r.hd, by have := r.dp; show A.depth + 1 + 3 * k + 5 < _; omega, by have := r.un; show A.units + 3 + 16 * k + 200 < _; omega⟩
theorem Room.in1 {k : Nat} {A : Around} (r : Room (k + 1) A) : Room k A.in1 :=
  ⟨r.hd, by have := r.dp; show A.depth + 3 * k + 5 < _; omega, by have := r.un; show A.units + 1 + 16 * k + 200 < _; omega⟩
theorem make_depth {A : Around} {C : Addr} {us : List Value} {kw : List (Str × Value)} : (A.under (.builtin "type.__call__" ⟨.ref C :: us, kw⟩)).depth = A.depth + 1 := by
  first | rfl | simp [Around.under, Code.weight, Code.isCreation, Code.isGuard, Code.isCaller, Code.frames, Code.isFrame, guardIds]
theorem make_units {A : Around} {C : Addr} {us : List Value} {kw : List (Str × Value)} : (A.under (.builtin "type.__call__" ⟨.ref C :: us, kw⟩)).units = A.units + 1 := by
  first | rfl | simp [Around.under, Code.cUnits, Code.frames, Code.isFrame]
theorem Room.make {k : Nat} {A : Around} (r : Room (k + 1) A) (C : Addr) (us : List Value) (kw : List (Str × Value)) : Room k (A.under (.builtin "type.__call__" ⟨.ref C :: us, kw⟩)) :=
  ⟨r.hd, by have := r.dp; rw [make_depth]; omega, by have := r.un; rw [make_units]; omega⟩
theorem Room.depth {k : Nat} {A : Around} (r : Room k A) : A.depth < recursionLimit := by have := r.dp; omega
theorem Room.units {k : Nat} {A : Around} (r : Room k A) : A.units + 64 < cLine := by have := r.un; omega
/-! ### argument lists and displays -/
def tNil : TA := fun _ H Q => Q [] H
def tCons (ta : TE) (tr : TA) : TA := fun σ H Q => ta σ H fun x H1 => tr σ H1 fun xs H2 => Q (x :: xs) H2
section
variable {X : Cx} {e : Expr} {es : List Expr} {te : TE} {t : TA} {pos : Pos}
theorem pa_nil : PA X [] tNil := fun _ _ _ _ H Q I h => Calls.spliced_nil ⟨[], H, I, .nil, h⟩
theorem pa_cons (ha : PE X e te) (hr : PA X es t) (hs : starEach (e :: es) X.env = (false, eval e X.env) :: starEach es X.env := by rfl) : PA X (e :: es) (tCons te t) := by
  intro pos pins s σ H Q I h
  rw [hs]
  show wpAny _ _ (spliced ((false, eval e X.env) :: backTo pos (starEach es X.env))) _ _ s
  refine Calls.spliced_cons (thn (ha pins s σ H _ I h) fun u s1 ⟨x, H1, I1, r1, q1⟩ => ?_)
  exact thn (hr pos pins s1 σ H1 _ I1 q1) fun us s2 ⟨xs, H2, I2, r2, q2⟩ => ⟨x :: xs, H2, I2, .cons r1 r2, q2⟩

/-- a tuple, a list of written items -/
def tTup (t : TA) : TE := fun σ H Q => t σ H fun xs H1 => xs.length ≤ sizeLine ∧ ∀ p, H1 p = none → Q (.ref p) (upd H1 p (.tup xs))
def tLst (t : TA) : TE := fun σ H Q => t σ H fun xs H1 => xs.length ≤ sizeLine ∧ ∀ p, H1 p = none → Q (.ref p) (upd H1 p (.lst xs))
theorem pe_tup {x1} (h : PA X es t) : PE X (.Tuple es x1 pos) (tTup t) := by
  intro pins s σ H Q I hq
  refine wpAny_Tuple_spliced (thn (h pos pins s σ H _ I hq) fun us s1 ⟨xs, H1, I1, r, z, q⟩ => ⟨by rw [← r.length]; exact z, ?_⟩)
  have hf : H1 s1.heap.objs.size = none := I1.hok.fresh (Nat.le_refl _)
  refine ⟨.ref s1.heap.objs.size, upd H1 s1.heap.objs.size (.tup xs), I1.laid (t' := s1.toks) (fun b u e => Heap.get?_push_of_some _ e) (Nat.le_refl _) ?_, rfl, q _ hf⟩
  exact ⟨z, us, r, ⟨_, Heap.get?_push_size _ rfl, rfl, _, rfl⟩⟩
theorem pe_lst (h : PA X es t) : PE X (.List es pos) (tLst t) := by
  intro pins s σ H Q I hq
  refine wpAny_List_spliced (thn (h pos pins s σ H _ I hq) fun us s1 ⟨xs, H1, I1, r, z, q⟩ => ⟨by rw [← r.length]; exact z, ?_⟩)
  have hf : H1 s1.heap.objs.size = none := I1.hok.fresh (Nat.le_refl _)
  refine ⟨.ref s1.heap.objs.size, upd H1 s1.heap.objs.size (.lst xs), I1.laid (t' := s1.toks) (fun b u e => Heap.get?_push_of_some _ e) (Nat.le_refl _) ?_, rfl, q _ hf⟩
  exact ⟨z, us, 0, r, Heap.get?_push_size _ rfl⟩
end

/-! ### what a def promises -/
/-- a def's promise: the bound arguments in the parameters' order, the heap, the wanted end, the wanted exception -/
abbrev Sp := List V → Hp → VK → XK → Prop
/-- how an exception lies behind a call (file 08 gives it): the callers' frames, abstract heap and state ahead of the call, the wish, the exception, the state -/
abbrev CXT := List Env → Hp → Shared → XK → Value → Shared → Prop

/-- the state at a call -/
structure Env0 (P : Program) (w : World) (K : PySem.W.Frag) (mg : Str → Option Value) (base : Heap) (A : Around) (outer : List Env) (s : Shared) (H : Hp) : Prop where
  frames : A.frames = some outer
  mod : Mod K mg base
  bs : ∀ b o, base.get? b = some o → s.heap.get? b = some o ∧ H b = none
  bsz : base.objs.size ≤ s.heap.objs.size
  funs : s.heap.FunFrames base outer
  frf : ∀ b ∈ frs outer, H b = none
  hok : HOk P w H s.heap
  bare : AllBare s.gens
/-- a call's end -/
def CE (outer : List Env) (P : Program) (w : World) (H : Hp) (s : Shared) (Q : VK) (u : Value) (s' : Shared) : Prop :=
  ∃ v H', s'.os = s.os ∧ AllBare s'.gens ∧ Un (frs outer) [] H H' s.heap s'.heap ∧ HOk P w H' s'.heap ∧ RelV v u ∧ Q v H'
def CR (CX : CXT) (outer : List Env) (P : Program) (w : World) (H : Hp) (s : Shared) (Q : VK) (E : XK) (r : Result) (s' : Shared) : Prop :=
  match r with
  | .ok (.ret u) => CE outer P w H s Q u s'
  | .ok _ => False
  | .error e => CX outer H s E e s'
structure FnOk (P : Program) (w : World) (K : PySem.W.Frag) (mg : Str → Option Value) (base : Heap) (CX : CXT) (k : Nat) (f : Addr) (fd : FuncData) (ps : List Str) (sp : Sp) : Prop where
  len : ∀ vs H Q E, sp vs H Q E → vs.length = ps.length
  run : ∀ (A : Around) (outer : List Env) (s : Shared) (H : Hp) (args : Args) (us : List Value) (vs : List V) (Q : VK) (E : XK), Room k A → Env0 P w K mg base A outer s H → BindsTo s fd args (ps.zip us) → Vals vs us → sp vs H Q E →
    codeAny (model P w) A (.call (.ref f) args) (CR CX outer P w H s Q E) s
theorem FnOk.mono {P : Program} {w : World} {K : PySem.W.Frag} {mg : Str → Option Value} {base : Heap} {CX : CXT} {j k : Nat} {f : Addr} {fd : FuncData} {ps : List Str} {sp : Sp} (F : FnOk P w K mg base CX j f fd ps sp) (h : j ≤ k) :
    FnOk P w K mg base CX k f fd ps sp := ⟨F.len, fun A outer s H args us vs Q E hr => F.run A outer s H args us vs Q E (hr.mono h)⟩
/-- a weaker promise -/
theorem FnOk.imp {P : Program} {w : World} {K : PySem.W.Frag} {mg : Str → Option Value} {base : Heap} {CX : CXT} {k : Nat} {f : Addr} {fd : FuncData} {ps : List Str} {sp sp' : Sp} (F : FnOk P w K mg base CX k f fd ps sp)
    (h : ∀ vs H Q E, sp' vs H Q E → sp vs H Q E) : FnOk P w K mg base CX k f fd ps sp' :=
  ⟨fun vs H Q E q => F.len vs H Q E (h _ _ _ _ q), fun A outer s H args us vs Q E hr he hb hv hs => F.run A outer s H args us vs Q E hr he hb hv (h _ _ _ _ hs)⟩

theorem Env0.make {P : Program} {w : World} {K : PySem.W.Frag} {mg : Str → Option Value} {base : Heap} {A : Around} {outer : List Env} {s : Shared} {H : Hp} (e : Env0 P w K mg base A outer s H) (C : Addr) (us : List Value) (kw : List (Str × Value)) :
    Env0 P w K mg base (A.under (.builtin "type.__call__" ⟨.ref C :: us, kw⟩)) outer s H := ⟨by first | exact e.frames | (simpa [Around.under, Code.envs, Code.isFrame, pushEnvs] using e.frames), e.mod, e.bs, e.bsz, e.funs, e.frf, e.hok, e.bare⟩
theorem Env0.in1 {P : Program} {w : World} {K : PySem.W.Frag} {mg : Str → Option Value} {base : Heap} {A : Around} {outer : List Env} {s : Shared} {H : Hp} (e : Env0 P w K mg base A outer s H) :
    Env0 P w K mg base A.in1 outer s H := ⟨e.frames, e.mod, e.bs, e.bsz, e.funs, e.frf, e.hok, e.bare⟩

section
variable {X : Cx} {pins : List (Addr × Obj)} {σ : St} {H : Hp} {s s' : Shared}
/-- from a body: what a callee wants -/
theorem Inv.env0 (I : Inv X pins σ H s) : Env0 X.prog X.w X.K X.mg X.base X.A X.stack s H :=
  ⟨I.ok.frames, I.ok.mod, I.bs, Nat.le_trans I.ok.bsz I.sz, I.stack, I.stkFree, I.hok, I.bare⟩
/-- behind a call -/
theorem Inv.after {Q : VK} {u : Value} (I : Inv X pins σ H s) (h : CE X.stack X.prog X.w H s Q u s') : EP X pins σ Q u s' := by
  obtain ⟨v, H', os, bare, un, hok, r, q⟩ := h
  obtain ⟨hh, g, d, t, os'⟩ := s'
  obtain rfl : os' = s.os := os
  exact ⟨v, H', I.call (h' := hh) (g' := g) (d' := d) (t' := t) (ch := []) un hok bare (fun b z => absurd z (by simp)), r, q⟩
end

/-! ### calls -/
/-- f(..): the written arguments, then the defaults dvs; E: what is wanted of an exception -/
def tCall (sp : Sp) (dvs : List V) (E : XK) (t : TA) : TE := fun σ H Q => t σ H fun vs H1 => sp (vs ++ dvs) H1 Q E
/-- o.m(..) of an instance of the class at C -/
def tMeth (C : Addr) (m : Str) (sp : Sp) (dvs : List V) (E : XK) (ta : TE) (t : TA) : TE := fun σ H Q => ta σ H fun x H1 => ∃ a dx fs, x = .ref a ∧ H1 a = some (.ins C dx fs) ∧ fs.lookup m = none ∧
  t σ H1 fun vs H2 => sp (x :: (vs ++ dvs)) H2 Q E
/-- C(..): a new instance and its dict, then __init__ -/
def tMake (C : Addr) (sp : Sp) (dvs : List V) (E : XK) (t : TA) : TE := fun σ H Q => t σ H fun vs H1 => ∀ x dx, H1 x = none → H1 dx = none → dx ≠ x →
  sp (.ref x :: (vs ++ dvs)) (upd (upd H1 dx (.own x)) x (.ins C dx [])) (fun v H2 => v = .non ∧ Q (.ref x) H2) E

/-- how the parameters are bound: us the positional arguments, kw the keywords' values by name, ds the defaults that fill up -/
def Binds (K : PySem.W.Frag) (fd : FuncData) (ps : List Str) (ds : List Value) : Prop :=
  ∀ (s : Shared) (us : List Value), K.In s.heap → (us ++ ds).length = ps.length → BindsTo s fd ⟨us, []⟩ (ps.zip (us ++ ds))
/-- every parameter is given -/
theorem Binds.all {K : PySem.W.Frag} {fd : FuncData} {ps : List Str} (h : ∀ us : List Value, us.length = ps.length → bindArgs fd ⟨us, []⟩ = pure (ps.zip us)) : Binds K fd ps [] := fun s us _ hl => by
  rw [List.append_nil] at hl ⊢
  exact .of_eq (h us hl)

/-- an exception of a callee reaches what this body wants of exceptions -/
def Passes (CX : CXT) (X : Cx) (E : XK) : Prop := ∀ (pins : List (Addr × Obj)) (σ : St) (H : Hp) (s : Shared) (e : Value) (s' : Shared), Inv X pins σ H s → CX X.stack H s E e s' → X.xe e s'

section
variable {X : Cx} {CX : CXT} {k : Nat} {f C : Addr} {fd : FuncData} {ps : List Str} {sp : Sp} {dvs : List V} {ds : List Value} {E : XK} {x m : Str} {p pos apos : Pos} {e o : Expr} {es : List Expr} {ta : TE} {t : TA}

/-- the callee runs -/
theorem run_fn {pins : List (Addr × Obj)} {σ : St} {H : Hp} {s : Shared} {Q : VK} {us : List Value} {vs : List V} (F : FnOk X.prog X.w X.K X.mg X.base CX k f fd ps sp) (hr : Room k X.A) (hb : Binds X.K fd ps ds) (hd : Vals dvs ds) (hx : Passes CX X E)
    (I : Inv X pins σ H s) (r : Vals vs us) (h : sp (vs ++ dvs) H Q E) : wpAny (model X.prog X.w) X.A (call (.ref f) us) (EP X pins σ Q) X.xe s := by
  have r2 : Vals (vs ++ dvs) (us ++ ds) := r.append hd
  have hl : (us ++ ds).length = ps.length := by rw [← r2.length]; exact F.len _ _ _ _ h
  refine wpAny_call (codeAny_mono (F.run X.A X.stack s H ⟨us, []⟩ (us ++ ds) (vs ++ dvs) Q E hr I.env0 (hb s us I.kIn hl) r2 h) fun r s' hq => ?_)
  cases r with
  | error e => exact hx pins σ H s e s' I hq
  | ok fl =>
    cases fl with
    | ret u => exact I.after hq
    | next => exact False.elim hq
    | brk => exact False.elim hq
    | cont => exact False.elim hq

theorem pe_call (F : FnOk X.prog X.w X.K X.mg X.base CX k f fd ps sp) (hr : Room k X.A) (hg : Gl X x) (hm : X.mg x = some (.ref f)) (hk : PySem.W.keepIn X.K (.ref f) = true) (hb : Binds X.K fd ps ds) (hd : Vals dvs ds) (hx : Passes CX X E)
    (ha : PA X (e :: es) t) (hdb : (x == ("__debug__" : Str)) = false := by decide) (he : starEach (e :: es) X.env = (false, eval e X.env) :: starEach es X.env := by rfl) (hpl : (backTo pos (starEach es X.env)).any (·.1) = false := by rfl) :
    PE X (.Call (.Name x p) (e :: es) [] pos) (tCall sp dvs E t) := by
  intro pins s σ H Q I h
  refine wpAny_Call_Name_kw (ld_glob I hg hm ?_ hdb)
  refine PySem.W.callWith_K (h₀ := X.base) I.ok.mod.kin hk (thn (ha pos pins s σ H _ I h) fun us s1 ⟨vs, H1, I1, r, q⟩ => ⟨I1.kIn, ?_⟩) he hpl
  exact run_fn F hr hb hd hx I1 r q
/-- o.m(e, ..) -/
theorem pe_meth {pl : Sem Bool} (he : PE X o ta) (c : Cls X.K C) (hm : Meth X.K C m f) (F : FnOk X.prog X.w X.K X.mg X.base CX k f fd ps sp) (hr : Room k X.A) (hb : Binds X.K fd ps ds) (hd : Vals dvs ds) (hx : Passes CX X E) (ha : PA X (e :: es) t)
    (hst : starEach (e :: es) X.env = (false, eval e X.env) :: starEach es X.env := by rfl) (hpl : (backTo pos (starEach es X.env)).any (·.1) = false := by rfl)
    (ht : eval (.Call (.Attribute o m apos) (e :: es) [] pos) X.env = (do
      let ov ← eval o X.env
      standAt apos.atName
      let (f, first) ← holding [ov] (getMethod ov m pl)
      callWith pos f first (backTo pos (starEach (e :: es) X.env)) (backToKw pos (keywordEach [] X.env))) := by rfl) :
    PE X (.Call (.Attribute o m apos) (e :: es) [] pos) (tMeth C m sp dvs E ta t) := by
  intro pins s σ H Q I h
  refine PySem.W.methodCall_KW (pl := pl) (thn (he pins s σ H _ I h) fun u s1 ⟨x, H1, I1, rx, a, dx, fs, ex, ea, l, q⟩ => ?_) ht
  subst ex
  obtain rfl : u = Value.ref a := rx
  refine getmeth_ok I1 ea c hm l ?_
  refine PySem.W.callWith_K (first := [.ref a]) (h₀ := X.base) I.ok.mod.kin hm.kp (thn (ha pos pins s1 σ H1 _ I1 q) fun us s2 ⟨vs, H2, I2, r, q2⟩ => ⟨I2.kIn, ?_⟩) hst hpl
  exact run_fn (us := .ref a :: us) (vs := .ref a :: vs) F hr hb hd hx I2 (.cons rfl r) q2
/-- o.m() -/
theorem pe_meth0 {pl : Sem Bool} (he : PE X o ta) (c : Cls X.K C) (hm : Meth X.K C m f) (F : FnOk X.prog X.w X.K X.mg X.base CX k f fd ps sp) (hr : Room k X.A) (hb : Binds X.K fd ps ds) (hd : Vals dvs ds) (hx : Passes CX X E)
    (ht : eval (.Call (.Attribute o m apos) [] [] pos) X.env = (do
      let ov ← eval o X.env
      standAt apos.atName
      let (f, first) ← holding [ov] (getMethod ov m pl)
      callWith pos f first (backTo pos (starEach [] X.env)) (backToKw pos (keywordEach [] X.env))) := by rfl) :
    PE X (.Call (.Attribute o m apos) [] [] pos) (tMeth C m sp dvs E ta tNil) := by
  intro pins s σ H Q I h
  refine PySem.W.methodCall_KW (pl := pl) (thn (he pins s σ H _ I h) fun u s1 ⟨x, H1, I1, rx, a, dx, fs, ex, ea, l, q⟩ => ?_) ht
  subst ex
  obtain rfl : u = Value.ref a := rx
  refine getmeth_ok I1 ea c hm l ?_
  exact PySem.W.callWith_K0 (first := [.ref a]) I1.kIn hm.kp (run_fn (us := [.ref a]) (vs := [.ref a]) F hr hb hd hx I1 (.cons rfl .nil) q)

/-- what a class must have to be made -/
structure Mk (K : PySem.W.Frag) (C f : Addr) : Prop where
  makes : PySem.W.makesIn K C = true
  init : PySem.W.findIn K (.ref C) "__init__" = some (some (.ref f))
  fn : PySem.W.isFn K (.ref f) = true
  kp : PySem.W.keepIn K (.ref C) = true

theorem run_make {pins : List (Addr × Obj)} {σ : St} {H : Hp} {s : Shared} {Q : VK} {us : List Value} {vs : List V} (M : Mk X.K C f) (F : FnOk X.prog X.w X.K X.mg X.base CX k f fd ps sp) (hr : Room (k + 1) X.A) (hb : Binds X.K fd ps ds) (hd : Vals dvs ds)
    (hx : Passes CX X E) (I : Inv X pins σ H s) (r : Vals vs us)
    (h : ∀ x dx, H x = none → H dx = none → dx ≠ x → sp (.ref x :: (vs ++ dvs)) (upd (upd H dx (.own x)) x (.ins C dx [])) (fun v H2 => v = .non ∧ Q (.ref x) H2) E) :
    wpAny (model X.prog X.w) X.A (call (.ref C) us) (EP X pins σ Q) X.xe s := by
  have hq := h (s.heap.objs.size + 1) s.heap.objs.size (I.hok.fresh (Nat.le_succ _)) (I.hok.fresh (Nat.le_refl _)) (Nat.ne_of_lt (Nat.lt_succ_self _))
  have I2 := Inv.made (C := C) I
  have r2 : Vals (V.ref (s.heap.objs.size + 1) :: (vs ++ dvs)) (Value.ref (s.heap.objs.size + 1) :: (us ++ ds)) := .cons rfl (r.append hd)
  have hl : (Value.ref (s.heap.objs.size + 1) :: us ++ ds).length = ps.length := by
    have e := r2.length
    rw [F.len _ _ _ _ hq] at e
    exact e.symm
  refine wpAny_call (make_map (f := f) I.kIn M.makes M.init (beq_iff_eq.mp M.fn) (codeAny_mono (F.run _ X.stack _ _ ⟨Value.ref (s.heap.objs.size + 1) :: us, []⟩ (Value.ref (s.heap.objs.size + 1) :: (us ++ ds)) _ _ E (hr.make C us [])
    (I2.env0.make C us []) (hb _ (Value.ref (s.heap.objs.size + 1) :: us) I2.kIn hl) r2 hq) fun r s' hq' => ?_))
  cases r with
  | error e => exact hx pins σ _ _ e s' I2 hq'
  | ok fl =>
    cases fl with
    | ret u =>
      obtain ⟨v, H', I3, rv, ev, q3⟩ := I2.after hq'
      subst ev
      exact ⟨rv, ⟨V.ref (s.heap.objs.size + 1), H', I3, rfl, q3⟩⟩
    | next => exact False.elim hq'
    | brk => exact False.elim hq'
    | cont => exact False.elim hq'
theorem pe_make0 (M : Mk X.K C f) (F : FnOk X.prog X.w X.K X.mg X.base CX k f fd ps sp) (hr : Room (k + 1) X.A) (hg : Gl X x) (hm : X.mg x = some (.ref C)) (hb : Binds X.K fd ps ds) (hd : Vals dvs ds) (hx : Passes CX X E)
    (hdb : (x == ("__debug__" : Str)) = false := by decide) : PE X (.Call (.Name x p) [] [] pos) (tMake C sp dvs E tNil) := by
  intro pins s σ H Q I h
  refine wpAny_Call_Name_kw (ld_glob I hg hm ?_ hdb)
  exact PySem.W.callWith_K0 I.kIn M.kp (run_make (us := []) M F hr hb hd hx I .nil h)
end

/-! ### keywords -/
section
variable {X : Cx} {CX : CXT} {k : Nat} {f C : Addr} {fd : FuncData} {ps ks : List Str} {sp : Sp} {E : XK} {x m : Str} {p pos apos kpos : Pos} {e o : Expr} {es : List Expr} {kws : List Keyword} {te ta : TE} {t tk : TA} {nm : Option Str}
/-- how a call with keywords binds: g puts the positional values us and the keywords' values ws (names ks) in the parameters' order, defaults among them -/
structure KBinds (K : PySem.W.Frag) (fd : FuncData) (ps ks : List Str) (g : List Value → List Value → List Value) (gV : List V → List V → List V) : Prop where
  to : ∀ (s : Shared) (us ws : List Value), K.In s.heap → (g us ws).length = ps.length → BindsTo s fd ⟨us, ks.zip ws⟩ (ps.zip (g us ws))
  rel : ∀ {vs : List V} {us : List Value} {zs : List V} {ws : List Value}, Vals vs us → Vals zs ws → Vals (gV vs zs) (g us ws)
variable {g : List Value → List Value → List Value} {gV : List V → List V → List V}
end

/-! ### a def's body keeps its promise -/
/-- names: the parameters first -/
structure FnScope (N P : List Str) (sc : Scope) : Prop where
  kind : sc.kind = .function
  co : sc.isCoroutine = false
  gen : sc.isGenerator = false
  nd : N.Nodup
  pre : N.take P.length = P
  par : ∀ x ∈ P, sc.names.lookup x = some .local ∨ sc.names.lookup x = some .cell
  nofree : ∀ y ∈ sc.names, y.2 ≠ .free

theorem bindL_out {kindOf : Str → Option NameKind} {x : Str} : ∀ {binds : List (Str × Value)} {m : Str → Option Value}, (∀ v, (x, v) ∉ binds) → bindL kindOf binds m x = m x
  | [], _, _ => rfl
  | (n, v) :: r, m, h => by
    unfold bindL
    rw [bindL_out fun w hw => h w (List.mem_cons_of_mem _ hw)]
    split
    · have : x ≠ n := by rintro rfl; exact h v List.mem_cons_self
      simp [this]
    · rfl
theorem bindC_out {kindOf : Str → Option NameKind} {x : Str} : ∀ {binds : List (Str × Value)} {m : Str → Option Value}, (∀ v, (x, v) ∉ binds) → bindC kindOf binds m x = m x
  | [], _, _ => rfl
  | (n, v) :: r, m, h => by
    unfold bindC
    rw [bindC_out fun w hw => h w (List.mem_cons_of_mem _ hw)]
    split
    · rfl
    · have : x ≠ n := by rintro rfl; exact h v List.mem_cons_self
      simp [this]
theorem bindL_get {kindOf : Str → Option NameKind} {x : Str} {v : Value} : ∀ {P : List Str} {vs : List Value} {i : Nat} {m : Str → Option Value}, P.Nodup → P[i]? = some x → vs[i]? = some v → kindOf x = some .local →
    bindL kindOf (P.zip vs) m x = some v
  | [], _, _, _, _, h, _, _ => by simp at h
  | _ :: _, [], _, _, _, _, h, _ => by simp at h
  | p :: P, w :: vs, 0, m, nd, h1, h2, hk => by
    simp at h1 h2; subst h1; subst h2
    show bindL kindOf ((p, w) :: P.zip vs) m p = _
    unfold bindL
    rw [bindL_out fun v hv => (List.nodup_cons.mp nd).1 (List.of_mem_zip hv).1, if_pos hk]
    simp
  | p :: P, w :: vs, i + 1, m, nd, h1, h2, hk => by
    show bindL kindOf ((p, w) :: P.zip vs) m x = _
    unfold bindL
    exact bindL_get (i := i) (List.nodup_cons.mp nd).2 (by simpa using h1) (by simpa using h2) hk
theorem bindC_get {kindOf : Str → Option NameKind} {x : Str} {v : Value} : ∀ {P : List Str} {vs : List Value} {i : Nat} {m : Str → Option Value}, P.Nodup → P[i]? = some x → vs[i]? = some v → kindOf x ≠ some .local →
    bindC kindOf (P.zip vs) m x = some v
  | [], _, _, _, _, h, _, _ => by simp at h
  | _ :: _, [], _, _, _, _, h, _ => by simp at h
  | p :: P, w :: vs, 0, m, nd, h1, h2, hk => by
    simp at h1 h2; subst h1; subst h2
    show bindC kindOf ((p, w) :: P.zip vs) m p = _
    unfold bindC
    rw [bindC_out fun v hv => (List.nodup_cons.mp nd).1 (List.of_mem_zip hv).1, if_neg hk]
    simp
  | p :: P, w :: vs, i + 1, m, nd, h1, h2, hk => by
    show bindC kindOf ((p, w) :: P.zip vs) m x = _
    unfold bindC
    exact bindC_get (i := i) (List.nodup_cons.mp nd).2 (by simpa using h1) (by simpa using h2) hk

/-- the names' values at the entry -/
def start (N : List Str) (vs : List V) : St := vs.map some ++ List.replicate (N.length - vs.length) none

/-- the context of a def's body, at its entry; an exception leaves the frame, then lies as CX says -/
def cxOf (CX : CXT) (P : Program) (w : World) (K : PySem.W.Frag) (mg : Str → Option Value) (base : Heap) (N : List Str) (qual : Str) (scope : Scope) (f : Addr) (cd : Value) (A : Around) (outer : List Env) (s : Shared) (H : Hp) (E : XK) : Cx where
  prog := P
  w := w
  K := K
  mg := mg
  base := base
  A := A.deeper (envOfC qual scope s.heap.objs.size f cd)
  N := N
  s₀ := s
  H₀ := H
  env := envOfC qual scope s.heap.objs.size f cd
  outer := outer
  stack := envOfC qual scope s.heap.objs.size f cd :: outer
  ex := []
  calm := true
  fn := fun _ => true
  pn := []
  xe := fun e s' => wpAny (model P w) (A.deeper (envOfC qual scope s.heap.objs.size f cd)) (leaving (envOfC qual scope s.heap.objs.size f cd) e) (fun _ s'' => CX outer H s E e s'') (fun e' s'' => CX outer H s E e' s'') s'

theorem cell_has {sc : Scope} {n : Nat} {x : Str} (h : sc.names.lookup x = some .cell) : ∃ c, (cellsFrom n sc.names []).lookup x = some c := by
  have q := PySem.W.cellsFrom_some sc.names n [] (.inl h)
  exact Option.isSome_iff_exists.mp q

theorem inv_start {CX : CXT} {P : Program} {w : World} {K : PySem.W.Frag} {mg : Str → Option Value} {base : Heap} {N ps : List Str} {qual : Str} {scope : Scope} {f : Addr} {cd : Value} {A : Around} {outer : List Env} {s s1 : Shared} {H : Hp} {E : XK} {us : List Value} {vs : List V}
    (S : FnScope N ps scope) (hd : A.handled = none) (e0 : Env0 P w K mg base A outer s H) (hl : vs.length = ps.length) (r : Vals vs us)
    (x : InCallC s s.heap.objs.size (bindL (envOfC qual scope s.heap.objs.size f cd).kindOf (ps.zip us) fun _ => none) (cellsFrom (s.heap.objs.size + 1) scope.names []) (bindC (envOfC qual scope s.heap.objs.size f cd).kindOf (ps.zip us) fun _ => none) s1) :
    Inv (cxOf CX P w K mg base N qual scope f cd A outer s H E) [] (start N vs) H s1 := by
  have hpl : ps.length ≤ N.length := by have := congrArg List.length S.pre; rw [List.length_take] at this; omega
  obtain ⟨h1, tk, rfl, hk⟩ := x.done
  have noA : ∀ b : Addr, b ∉ (cxOf CX P w K mg base N qual scope f cd A outer s H E).ex := fun b z => absurd (show b ∈ ([] : List Addr) from z) (by simp)
  refine ⟨⟨e0.mod, S.kind, rfl, rfl, Nat.le_refl _, fun y z c h1 h2 => ?_, fun y hy => ?_, fun y c _ h => ?_, fun _ => hd, Around.frames_deeper e0.frames, .inr ⟨rfl, rfl⟩, fun b z => absurd z (noA b), e0.bs, e0.bsz, fun b _ _ => noA b, fun b z => absurd z (noA b), e0.funs, e0.frf⟩,
    rfl, e0.bare, Un.kept hk, ⟨_, x.toInCall.ns, fun i y v h1 h2 h3 => ?_⟩, fun y c h => ⟨_, x.cell y c h⟩, e0.hok.fresh (Nat.le_refl _), fun y c h => ?_, fun p hp => absurd (show p ∈ ([] : List (Addr × Obj)) from hp) (by simp), e0.hok.kept hk, ?_⟩
  · exact name_of_addr x.apart (PySem.mem_of_lookup h1) (PySem.mem_of_lookup h2)
  · have hy : scope.names.lookup y = some .cell ∨ scope.names.lookup y = some .free := hy
    rcases hy with hy | hy
    · exact cell_has hy
    · exact absurd rfl (S.nofree _ (PySem.mem_of_lookup hy))
  · exact Nat.le_of_lt (x.above y c (PySem.mem_of_lookup h))
  · have hi : i < vs.length := by
      unfold start at h2
      by_cases hi : i < vs.length
      · exact hi
      · rw [List.getElem?_append_right (by simpa using hi)] at h2
        rw [List.getElem?_replicate] at h2
        split at h2 <;> cases h2
    have ha : vs[i]? = some v := by
      unfold start at h2
      rw [List.getElem?_append_left (by simpa using hi), List.getElem?_map] at h2
      cases e : vs[i]? with
      | none => rw [e] at h2; cases h2
      | some a => rw [e] at h2; cases h2; rfl
    obtain ⟨u, hu, rv⟩ := r.get ha
    have hp : ps[i]? = some y := by
      rw [← S.pre, List.getElem?_take_of_lt (by omega)]; exact h1
    have ndP : ps.Nodup := by rw [← S.pre]; exact S.nd.sublist (List.take_sublist _ _)
    refine ⟨u, rv, ?_⟩
    rcases S.par y (List.mem_of_getElem? hp) with k | k
    · exact .inl ⟨k, bindL_get ndP hp hu k⟩
    · obtain ⟨c, e⟩ := cell_has (n := s.heap.objs.size + 1) k
      refine .inr ⟨.inl k, c, e, ?_⟩
      have q := x.cell y c e
      rw [bindC_get ndP hp hu (by show scope.names.lookup y ≠ _; rw [k]; decide)] at q
      exact q
  · exact e0.hok.fresh (Nat.le_of_lt (x.above y c (PySem.mem_of_lookup h)))
  · unfold start
    show _ = N.length
    rw [List.length_append, List.length_map, List.length_replicate]
    omega

/-- THE RULE: a def (or a method) of the text, by its body. The body's reading t is chosen for each entry; it is run at the parameters' values -/
theorem fn_of {CX : CXT} {P : Program} {w : World} {K : PySem.W.Frag} {mg : Str → Option Value} {base : Heap} {k : Nat} {f : Addr} {name qual : Str} {params : Arguments} {body : List Stmt} {scope : Scope} {dV kV doc pm cdv ct oc : Value} {an od : Option Addr}
    {osl : Array (Option Value)} {N ps : List Str} {sp : Sp} (lk : K.lookup f = some ⟨oc, od, .func (PySem.W.fnOf name qual params body scope dV kV doc pm an cdv ct), osl⟩) (hcd : PySem.W.codeIn K cdv qual = true) (S : FnScope N ps scope)
    (len : ∀ vs H Q E, sp vs H Q E → vs.length = ps.length)
    (hbody : ∀ (A : Around) (outer : List Env) (s : Shared) (H : Hp) (vs : List V) (Q : VK) (E : XK), Room k (A.deeper (envOfC qual scope s.heap.objs.size f cdv)) → sp vs H Q E →
      ∃ t, PSs (cxOf CX P w K mg base N qual scope f cdv A outer s H E) body t ∧ t { nx := fun _ H' => Q .non H', rt := Q } (start N vs) H) :
    FnOk P w K mg base CX (k + 1) f (PySem.W.fnOf name qual params body scope dV kV doc pm an cdv ct) ps sp := by
  refine ⟨len, fun A outer s H args us vs Q E hr e0 hb r hsp => ?_⟩
  have hl := len _ _ _ _ hsp
  have KX : K.In s.heap := e0.mod.kin.keeps fun b o e => (e0.bs b o e).1
  have lim : s.heap.NoLimit := e0.mod.nolimit.keeps fun b o e => (e0.bs b o e).1
  have hkind : ∀ y ∈ ps.zip us, scope.names.lookup y.1 = some .local ∨ (scope.names.lookup y.1 = some .cell ∧ ((cellsFrom (s.heap.objs.size + 1) scope.names []).lookup y.1).isSome = true) := fun ⟨n, v⟩ hy => by
    rcases S.par n (List.of_mem_zip hy).1 with q | q
    · exact .inl q
    · exact .inr ⟨q, PySem.W.cellsFrom_some _ _ _ (.inl q)⟩
  refine codeAny_call_function hr.depth (KX _ _ lk) rfl S.co S.gen rfl (PySem.W.codeRec_of KX hcd) (hb _ _ _ _ ?_)
  refine wpAny_newFunctionEnv_cells S.kind hkind fun env he s1 x => ?_
  subst he
  refine ⟨lim.keeps x.toInCall.keep, codeAny_func ?_⟩
  obtain ⟨t, ht, hq⟩ := hbody A outer s H vs Q E (hr.deeper _) hsp
  have I : Inv (cxOf CX P w K mg base N qual scope f cdv A outer s H E) [] (start N vs) H s1 := inv_start S hr.hd e0 hl r x
  refine wpAny_mono (ht [] s1 (start N vs) H _ I hq) (fun fl s' hs => ?_) fun e s' hs => hs
  have fin : ∀ {σ' : St} {H' : Hp} {v : V} {u : Value}, Inv (cxOf CX P w K mg base N qual scope f cdv A outer s H E) [] σ' H' s' → RelV v u → Q v H' → CE outer P w H s Q u s' :=
    fun {σ' H' v u} J rv q => ⟨v, H', J.os, J.bare, J.base, J.hok, rv, q⟩
  cases fl with
  | ret u =>
    obtain ⟨v, σ', H', J, rv, q⟩ := hs
    exact fin J rv q
  | next =>
    obtain ⟨σ', H', J, q⟩ := hs
    exact fin (v := V.non) (u := Value.none) J rfl q
  | brk =>
    obtain ⟨_, _, _, q⟩ := hs
    exact False.elim q
  | cont =>
    obtain ⟨_, _, _, q⟩ := hs
    exact False.elim q
end L2

namespace L2
open PySem PySem.Spec PyProof.Rows
section
variable {X : Cx} {x : Str} {p pos : Pos} {e : Expr} {es : List Expr} {t : TA} {id T : String} {r : List V → Hp → VK → Prop}

def tCB (r : List V → Hp → VK → Prop) (t : TA) : TE := fun σ H Q => t σ H fun vs H1 => r vs H1 Q
/-- f(e, ..), f a built-in function -/
theorem pe_callB (hc : CallR X (.builtin id) r) (hg : Gl X x) (hm : X.mg x = none) (hv : bootBuiltins x = some (.builtin id)) (ha : PA X (e :: es) t) (hn : x ≠ "__name__" := by decide) (hdb : (x == ("__debug__" : Str)) = false := by decide)
    (he : starEach (e :: es) X.env = (false, eval e X.env) :: starEach es X.env := by rfl) (hpl : (backTo pos (starEach es X.env)).any (·.1) = false := by rfl) : PE X (.Call (.Name x p) (e :: es) [] pos) (tCB r t) := by
  intro pins s σ H Q I h
  refine wpAny_Call_Name_kw (ld_blt I hg hm hv ?_ hn hdb)
  exact PyProof.Rows.callWith_builtin1 (thn (ha pos pins s σ H _ I h) fun us s1 ⟨vs, H1, I1, r1, q1⟩ => hc pins s1 σ H1 vs us Q I1 r1 q1) he hpl
/-- T(e, ..), T a built-in type -/
theorem pe_callTy (hc : CallR X (.type T) r) (hg : Gl X x) (hm : X.mg x = none) (hv : bootBuiltins x = some (.type T)) (ha : PA X (e :: es) t) (hn : x ≠ "__name__" := by decide) (hdb : (x == ("__debug__" : Str)) = false := by decide)
    (he : starEach (e :: es) X.env = (false, eval e X.env) :: starEach es X.env := by rfl) (hpl : (backTo pos (starEach es X.env)).any (·.1) = false := by rfl) : PE X (.Call (.Name x p) (e :: es) [] pos) (tCB r t) := by
  intro pins s σ H Q I h
  refine wpAny_Call_Name_kw (ld_blt I hg hm hv ?_ hn hdb)
  exact PyProof.Rows.callWith_type1 (thn (ha pos pins s σ H _ I h) fun us s1 ⟨vs, H1, I1, r1, q1⟩ => hc pins s1 σ H1 vs us Q I1 r1 q1) he hpl
end
end L2

namespace HT
open PySem PyProof.Rows

section
open PySem.SeqAt
open PySem.AutoSeq1 (wpAny_loadPart')
open PySem.MeetsSeq PySem.MeetsSeq2 PySem.MeetsSeq3

end

section
variable {prog : Program} {w : World} {A : Around} {E : Value → Shared → Prop} {s : Shared}

/-! ### t[a:b], not the whole -/
/-- a slice's bound as a place among n (d where it is left out) -/
def sIx (n d : Nat) : Option Int → Nat
  | none => d
  | some v => if v < 0 then (v + (n : Int)).toNat else min v.toNat n
theorem sIx_nat (n d k : Nat) : sIx n d (some (k : Int)) = min k n := by
  show (if (k : Int) < 0 then ((k : Int) + (n : Int)).toNat else min (k : Int).toNat n) = min k n
  rw [if_neg (by omega), Int.toNat_natCast]
theorem sIx_le (n d : Nat) (hd : d ≤ n) (o : Option Int) : sIx n d o ≤ n := by
  cases o with
  | none => exact hd
  | some v =>
    show (if v < 0 then (v + (n : Int)).toNat else min v.toNat n) ≤ n
    by_cases hv : v < 0
    · rw [if_pos hv]; omega
    · rw [if_neg hv]; exact Nat.min_le_right _ _
theorem clip_eq (v : Int) (n d : Nat) : (if v < 0 then max (v + (n : Int)) 0 else min v (n : Int)) = ((sIx n d (some v) : Nat) : Int) := by
  show (if v < 0 then max (v + (n : Int)) 0 else min v (n : Int)) = (((if v < 0 then (v + (n : Int)).toNat else min v.toNat n) : Nat) : Int)
  by_cases hv : v < 0
  · simp only [if_pos hv]; omega
  · simp only [if_neg hv]; omega
theorem adjust_gen (lo hi : Option Int) (n : Nat) : Builtin.Slice.sliceAdjust lo hi 1 (n : Int) = (((sIx n 0 lo : Nat) : Int), ((sIx n n hi : Nat) : Int)) := by
  have h1 : ¬ ((1 : Int) < 0) := by omega
  unfold Builtin.Slice.sliceAdjust
  simp only [h1, if_false]
  refine Prod.ext ?_ ?_
  · cases lo with
    | none => rfl
    | some v => exact clip_eq v n 0
  · cases hi with
    | none => rfl
    | some v => exact clip_eq v n n
theorem places_gen (i j : Nat) : Builtin.Slice.slicePlaces (i : Int) (j : Int) 1 = j - i := by
  unfold Builtin.Slice.slicePlaces
  have h1 : (1 : Int) > 0 := by omega
  simp only [h1, if_true, Int.ediv_one]
  split <;> omega
theorem slicePart_ {v : Value} {o : Option Int} {Q : Option Int → Shared → Prop} (p : IsPart v o) (h : Q o s) : wpAny (model prog w) A (Builtin.Slice.slicePartIndex v) Q E s := by
  cases p with
  | none => exact slicePart_none h
  | int i t => exact slicePart_int h
theorem sliceApplied_gen {sl : Addr} {vl vu : Value} {lo hi : Option Int} {n : Nat} {Q : Int × Int × Nat → Shared → Prop} (hs : s.heap.IsSliceOf sl vl vu .none) (pl : IsPart vl lo) (pu : IsPart vu hi)
    (h : Q (((sIx n 0 lo : Nat) : Int), 1, sIx n n hi - sIx n 0 lo) s) : wpAny (model prog w) A (Builtin.Slice.sliceApplied (.ref sl) (pure (n : Int))) Q E s := by
  obtain ⟨os, hos, hcs, hds⟩ := id hs
  unfold Builtin.Slice.sliceApplied Builtin.Slice.sliceFields
  refine wpAny_bind (wpAny_bind (wpAny_field hos hds (x := vl) rfl (wpAny_bind (wpAny_field hos hds (x := vu) rfl (wpAny_bind (wpAny_field hos hds (x := .none) rfl (wpAny_pure ?_)))))))
  refine wpAny_bind (slicePart_none ?_)
  show wpAny _ _ (if ((1 : Int) == 0) = true then _ else _) _ _ s
  rw [if_neg (by decide)]
  refine wpAny_bind (slicePart_ pl (wpAny_bind (slicePart_ pu (wpAny_bind (wpAny_pure ?_)))))
  show wpAny _ _ (match Builtin.Slice.sliceAdjust lo hi 1 (n : Int) with | (lo, hi) => pure (lo, (1 : Int), Builtin.Slice.slicePlaces lo hi 1)) _ _ s
  rw [adjust_gen lo hi n]
  show wpAny _ _ (pure (((sIx n 0 lo : Nat) : Int), (1 : Int), Builtin.Slice.slicePlaces ((sIx n 0 lo : Nat) : Int) ((sIx n n hi : Nat) : Int) 1)) _ _ s
  rw [places_gen]
  exact wpAny_pure h
theorem pick_gen (xs : Array Value) (i k : Nat) : ((List.range k).filterMap fun (m : Nat) => xs[((i : Int) + (m : Int) * 1).toNat]?).toArray = ((xs.toList.drop i).take k).toArray := by
  have e : (fun (m : Nat) => xs[((i : Int) + (m : Int) * 1).toNat]?) = fun m => xs[i + m]? := by
    funext m
    have : ((i : Int) + (m : Int) * 1).toNat = i + m := by omega
    rw [this]
  rw [e]
  have := pick_run xs i k
  rw [List.filterMap_map] at this
  have e2 : ((fun x => xs[x]?) ∘ fun x => i + x) = fun m => xs[i + m]? := rfl
  rw [e2] at this
  rw [this]

theorem getItem_tuple_cut {t sl : Addr} {items : Array Value} {vl vu : Value} {lo hi : Option Int} {Q : Value → Shared → Prop} (ht : IsTup s.heap t items) (hs : s.heap.IsSliceOf sl vl vu .none) (pl : IsPart vl lo) (pu : IsPart vu hi)
    (hw : ¬ (sIx items.size 0 lo = 0 ∧ sIx items.size items.size hi = items.size))
    (h : Q (.ref s.heap.objs.size) { s with heap := s.heap.push { cls := .type "tuple", data := .seq ((items.toList.drop (sIx items.size 0 lo)).take (sIx items.size items.size hi - sIx items.size 0 lo)).toArray } })
    (hsz : items.size ≤ sizeLine) : wpAny (model prog w) A (getItem (.ref t) (.ref sl)) Q E s := by
  have htake : sizeOk (.seq ((items.toList.drop (sIx items.size 0 lo)).take (sIx items.size items.size hi - sIx items.size 0 lo)).toArray) := by
    show ((items.toList.drop (sIx items.size 0 lo)).take (sIx items.size items.size hi - sIx items.size 0 lo)).toArray.size ≤ sizeLine
    rw [List.size_toArray, List.length_take, List.length_drop, Array.length_toList]
    omega
  have hj : sIx items.size items.size hi ≤ items.size := sIx_le _ _ (Nat.le_refl _) hi
  obtain ⟨os, hos, hcs, hds⟩ := id hs
  have hTs : s.TypeIs (.ref sl) "slice" := ⟨os, hos, hcs⟩
  unfold getItem
  try with_reducible refine wpAny_holding ?_
  first | refine wpAny_bind (wpAny_pure ?_) | skip
  refine wpAny_bind (wpAny_sequenceKey ht.typeIs (by decide) ?_)
  refine wpAny_bind (wpAny_callSpecial?_slot (name := Str.ofString "__getitem__") ht.typeIs PyProof.Rows.slot_tuple_getitem
    (wpAny_call_entry PyProof.Rows.slot_tuple_getitem ht.typeIs entry_tuple_getitem ?_ (args_tuple_getitem _ _)))
  show wpAny _ _ (Builtin.Tuple.tupleItemsOf (.ref t) >>= _) _ _ s
  refine wpAny_bind (tupleItemsOf_ ht ?_)
  refine wpAny_bind (wpAny_typeOf hTs ?_)
  rw [if_pos (by decide)]
  refine wpAny_bind (sliceApplied_gen hs pl pu ?_)
  have hno : ¬ ((((sIx items.size 0 lo : Nat) : Int) == 0 && (1 : Int) == 1 && (sIx items.size items.size hi - sIx items.size 0 lo) == items.size) = true) := by
    intro q
    rw [Bool.and_eq_true, Bool.and_eq_true] at q
    have q1 : ((sIx items.size 0 lo : Nat) : Int) = 0 := eq_of_beq q.1.1
    have q2 : sIx items.size items.size hi - sIx items.size 0 lo = items.size := eq_of_beq q.2
    exact hw ⟨by omega, by omega⟩
  show wpAny _ _ (if (((sIx items.size 0 lo : Nat) : Int) == 0 && (1 : Int) == 1 && (sIx items.size items.size hi - sIx items.size 0 lo) == items.size) = true then _ else _) _ _ s
  rw [if_neg hno, pick_gen]
  first
    | exact wpAny_bind (m := Builtin.Tuple.tupleExact _) (wpAny_newObj_type (wpAny_pure ⟨_, rfl, wpAny_pure h⟩) htake)
    | exact wpAny_bind (m := Builtin.Tuple.tupleExact _) (wpAny_newObj_type (wpAny_bind (wpAny_pure (wpAny_pure ⟨_, rfl, wpAny_pure h⟩))) htake)
    | exact wpAny_bind (wpAny_bind (m := Builtin.Tuple.tupleExact _) (wpAny_newObj_type (wpAny_pure (wpAny_pure ⟨_, rfl, wpAny_pure h⟩)) htake))
    | exact wpAny_bind (wpAny_bind (m := Builtin.Tuple.tupleExact _) (wpAny_newObj_type (wpAny_pure ⟨_, rfl, wpAny_pure h⟩) htake))
end
end HT

namespace L2
open PySem PySem.Spec PyProof.Rows

/-! ### the parts of a slice -/
abbrev TO := St → Hp → (Option Int → Hp → Prop) → Prop
/-- a slice's part (left out, or an int) -/
def PO (X : Cx) (e : Option Expr) (t : TO) : Prop :=
  ∀ (pins : List (Addr × Obj)) (s : Shared) (σ : St) (H : Hp) (Q : Option Int → Hp → Prop), Inv X pins σ H s → t σ H Q →
    wpAny (model X.prog X.w) X.A (evalPart e X.env) (fun u s' => ∃ o H', Inv X pins σ H' s' ∧ IsPart u o ∧ Q o H') X.xe s
def tNoPart : TO := fun _ H Q => Q none H
def tPart (t : TE) : TO := fun σ H Q => t σ H fun x H1 => ∃ i, x = .int i ∧ Q (some i) H1

theorem intsAre_of {ns : List Int} : ∀ {us : List Value}, Vals (ns.map V.int) us → IntsAre us ns := by
  induction ns with
  | nil => intro us r; rw [List.map_nil] at r; cases r; exact .nil
  | cons n ns ih =>
    intro us r
    rw [List.map_cons] at r
    cases r with
    | cons r1 r2 =>
      obtain ⟨t, e⟩ := r1
      subst e
      exact .cons n t (ih r2)

section
variable {X : Cx} {e : Expr} {te : TE} {lo hi : Option Expr} {tl th : TO} {pos p2 : Pos}

theorem po_none : PO X none tNoPart := by
  intro pins s σ H Q I h
  rw [evalPart_none]
  exact wpAny_pure ⟨none, H, I, .none, h⟩
theorem po_some (h : PE X e te) : PO X (some e) (tPart te) := by
  intro pins s σ H Q I hw
  rw [evalPart_some]
  refine thn (h pins s σ H _ I hw) fun u s1 ⟨x, H1, I1, r1, q1⟩ => ?_
  obtain ⟨i, rfl, q⟩ := q1
  obtain ⟨t, rfl⟩ := r1
  exact ⟨some i, H1, I1, .int i t, q⟩

/-- what a slice of a value is, by values: the slice object stands at sl -/
def SlR (X : Cx) (r : V → Option Int → Option Int → Hp → VK → Prop) : Prop :=
  ∀ (pins : List (Addr × Obj)) (s : Shared) (σ : St) (H : Hp) (x : V) (v vl vu : Value) (lo hi : Option Int) (sl : Addr) (Q : VK), Inv X pins σ H s → RelV x v → s.heap.IsSliceOf sl vl vu .none → IsPart vl lo → IsPart vu hi → r x lo hi H Q →
    ∃ T id, typeLookup (.type T) "__getitem__" = pure (some (.builtin id)) ∧ s.TypeIs v T ∧ wpAny (model X.prog X.w) X.A (getItem v (.ref sl)) (EP X pins σ Q) X.xe s
theorem SlR.or {r r' : V → Option Int → Option Int → Hp → VK → Prop} (h : SlR X r) (h' : SlR X r') : SlR X (fun x lo hi H Q => r x lo hi H Q ∨ r' x lo hi H Q) := by
  intro pins s σ H x v vl vu lo hi sl Q I rx hs pl pu q
  rcases q with q | q
  · exact h pins s σ H x v vl vu lo hi sl Q I rx hs pl pu q
  · exact h' pins s σ H x v vl vu lo hi sl Q I rx hs pl pu q
def tSl (r : V → Option Int → Option Int → Hp → VK → Prop) (te : TE) (tl th : TO) : TE := fun σ H Q => te σ H fun x H1 => tl σ H1 fun l H2 => th σ H2 fun u H3 => r x l u H3 Q
/-- a[lo:hi], any a -/
theorem pe_slice {r : V → Option Int → Option Int → Hp → VK → Prop} (hr : SlR X r) (he : PE X e te) (hl : PO X lo tl) (hu : PO X hi th) : PE X (.Subscript e (.Slice lo hi none p2) pos) (tSl r te tl th) := by
  intro pins s σ H Q I h
  refine Subscript_ (thn (he pins s σ H _ I h) fun v s1 ⟨x, H1, I1, r1, q1⟩ => ?_)
  refine wpAny_Slice (thn (hl pins s1 σ H1 _ I1 q1) fun vl s2 ⟨l, H2, I2, pl, q2⟩ => thn (hu pins s2 σ H2 _ I2 q2) fun vu s3 ⟨u, H3, I3, pu, q3⟩ => ?_)
  rw [evalPart_none]
  refine wpAny_pure ?_
  have I4 : Inv X pins σ H3 { s3 with heap := s3.heap.push { cls := .type "slice", data := .fields #[vl, vu, .none] } } := I3.kept (t' := s3.toks) fun b ob q => Heap.get?_push_of_some _ q
  obtain ⟨T, id, hT, ht, hg⟩ := hr pins { s3 with heap := s3.heap.push { cls := .type "slice", data := .fields #[vl, vu, .none] } } σ H3 x v vl vu l u s3.heap.objs.size Q I4 r1 (Heap.IsSliceOf.new ..) pl pu q3
  show wpAny (model X.prog X.w) X.A (subscriptTail e (.Slice lo hi none p2) v (.ref s3.heap.objs.size)) (EP X pins σ Q) X.xe { s3 with heap := s3.heap.push { cls := .type "slice", data := .fields #[vl, vu, .none] } }
  exact tail_any (ops := [.ref s3.heap.objs.size, v]) ht hT hg (by with_unfolding_all rfl)

/-- the items of xs[lo:hi] -/
def cutV (xs : List V) (lo hi : Option Int) : List V := (xs.drop (HT.sIx xs.length 0 lo)).take (HT.sIx xs.length xs.length hi - HT.sIx xs.length 0 lo)
theorem cutV_length (xs : List V) (lo hi : Option Int) : (cutV xs lo hi).length ≤ xs.length := by
  unfold cutV
  rw [List.length_take, List.length_drop]
  omega
/-- t[lo:hi], not the whole of it (the whole would be t itself) -/
def rSlT (K : PySem.W.Frag) : V → Option Int → Option Int → Hp → VK → Prop := fun x lo hi H Q => ∃ a xs, x = .ref a ∧ SqT K H a xs ∧
  ¬ (HT.sIx xs.length 0 lo = 0 ∧ HT.sIx xs.length xs.length hi = xs.length) ∧ ∀ p, H p = none → Q (.ref p) (upd H p (.tup (cutV xs lo hi)))
theorem sl_tup : SlR X (rSlT X.K) := by
  intro pins s σ H x v vl vu lo hi sl Q I rx hs pl pu h
  obtain ⟨a, xs, rfl, hx, hw, q⟩ := h
  cases rx
  obtain ⟨its, r, ht, hz⟩ := I.tuple hx
  have hlen : its.toArray.size = xs.length := by rw [List.size_toArray]; exact r.length.symm
  refine ⟨"tuple", _, PyProof.Rows.slot_tuple_getitem.lookup, ht.typeIs, ?_⟩
  refine HT.getItem_tuple_cut ht hs pl pu (by rw [hlen]; exact hw) ?_ (by rw [hlen]; exact hz)
  rw [hlen]
  refine ⟨.ref s.heap.objs.size, _, I.laid (t' := s.toks) (o := .tup (cutV xs lo hi)) (fun b ob q => Heap.get?_push_of_some _ q) (Nat.le_refl _) ?_, rfl, q _ (I.hok.fresh (Nat.le_refl _))⟩
  exact ⟨Nat.le_trans (cutV_length xs lo hi) hz, _, (r.drop (HT.sIx xs.length 0 lo)).take (HT.sIx xs.length xs.length hi - HT.sIx xs.length 0 lo), IsTup.new _ _⟩

/-! ### t < u, t + u -/
end
end L2

namespace L2
open PySem PySem.Spec PyProof.Rows

/-! ### places -/
/-- the place that an index of any sign means -/
def ixN (n : Nat) (i : Int) : Option Nat := if 0 ≤ i then (if i < n then some i.toNat else none) else if -(n : Int) ≤ i then some (i + n).toNat else none
def atI {α : Type} (xs : List α) (i : Int) : Option α := (ixN xs.length i).bind fun j => xs[j]?
theorem ixN_seq {n : Nat} {i : Int} {j : Nat} (h : ixN n i = some j) : seqIndex? i n = some j ∧ j < n ∧ -(n : Int) ≤ i ∧ i < n := by
  unfold ixN at h
  by_cases h0 : 0 ≤ i
  · rw [if_pos h0] at h
    by_cases h1 : i < n
    · rw [if_pos h1] at h
      have e : i.toNat = j := Option.some.inj h
      exact ⟨by rw [seqIndex_of h0 h1, e], by omega, by omega, h1⟩
    · rw [if_neg h1] at h; cases h
  · rw [if_neg h0] at h
    by_cases h1 : -(n : Int) ≤ i
    · rw [if_pos h1] at h
      have e : (i + n).toNat = j := Option.some.inj h
      exact ⟨by rw [seqIndex_neg (by omega) h1, e], by omega, h1, by omega⟩
    · rw [if_neg h1] at h; cases h
theorem atI_get {α : Type} {xs : List α} {i : Int} {v : α} (h : atI xs i = some v) : ∃ j, seqIndex? i xs.length = some j ∧ xs[j]? = some v ∧ j < xs.length ∧ -(xs.length : Int) ≤ i ∧ i < xs.length := by
  unfold atI at h
  cases e : ixN xs.length i with
  | none => rw [e] at h; cases h
  | some j =>
    rw [e] at h
    obtain ⟨h1, h2, h3, h4⟩ := ixN_seq e
    exact ⟨j, h1, h, h2, h3, h4⟩
theorem atI_nat {α : Type} {xs : List α} {j : Nat} {v : α} (h : xs[j]? = some v) : atI xs (j : Int) = some v := by
  have hj : j < xs.length := (List.getElem?_eq_some_iff.mp h).1
  have e : ixN xs.length (j : Int) = some j := by
    unfold ixN
    rw [if_pos (by omega), if_pos (by omega)]; simp
  unfold atI; rw [e]; exact h
theorem atI_last {α : Type} (xs : List α) (v : α) : atI (xs ++ [v]) (-1) = some v := by
  have hl : (xs ++ [v]).length = xs.length + 1 := by simp
  have e : ixN (xs ++ [v]).length (-1) = some xs.length := by
    unfold ixN
    rw [hl, if_neg (by decide), if_pos (by omega)]
    congr 1
    omega
  unfold atI
  rw [e]
  show (xs ++ [v])[xs.length]? = some v
  simp

/-! ### what may be subscripted -/
/-- what stands as an index of a plain subscript -/
def PlainIx (b : Expr) : Prop := ∀ o i, subscripted b false o i = operate [o, i] (getItem o i)
/-- a subscript by values -/
def IxR (X : Cx) (r : R2) : Prop :=
  ∀ (value slice : Expr) (pins : List (Addr × Obj)) (s : Shared) (σ : St) (H : Hp) (x y : V) (v u : Value) (Q : VK), Inv X pins σ H s → RelV x v → RelV y u → r x y H Q →
    subscripted slice false v u = operate [v, u] (getItem v u) → wpAny (model X.prog X.w) X.A (subscriptTail value slice v u) (EP X pins σ Q) X.xe s
/-- a call of a builtin's method by values: the receiver, the arguments -/
def MtR (X : Cx) (id : String) (r : V → List V → Hp → VK → Prop) : Prop :=
  ∀ (pins : List (Addr × Obj)) (s : Shared) (σ : St) (H : Hp) (x : V) (xs : List V) (v : Value) (us : List Value) (Q : VK), Inv X pins σ H s → RelV x v → Vals xs us → r x xs H Q →
    wpAny (model X.prog X.w) X.A (call (.builtin id) (v :: us)) (EP X pins σ Q) X.xe s
section
variable {X : Cx} {a b : Expr} {ta tb : TE} {pos : Pos}
theorem IxR.or {r r' : R2} (h : IxR X r) (h' : IxR X r') : IxR X (fun x y H Q => r x y H Q ∨ r' x y H Q) := by
  intro value slice pins s σ H x y v u Q I rx ry q hs
  rcases q with q | q
  · exact h value slice pins s σ H x y v u Q I rx ry q hs
  · exact h' value slice pins s σ H x y v u Q I rx ry q hs
theorem MtR.or {id : String} {r r' : V → List V → Hp → VK → Prop} (h : MtR X id r) (h' : MtR X id r') : MtR X id (fun x xs H Q => r x xs H Q ∨ r' x xs H Q) := by
  intro pins s σ H x xs v us Q I rx rs q
  rcases q with q | q
  · exact h pins s σ H x xs v us Q I rx rs q
  · exact h' pins s σ H x xs v us Q I rx rs q
/-- a[b] -/
theorem pe_ix {r : R2} (hr : IxR X r) (ha : PE X a ta) (hb : PE X b tb) (hs : PlainIx b) : PE X (.Subscript a b pos) (tOp r ta tb) := by
  intro pins s σ H Q I h
  exact Subscript_ (binT ha hb I h fun v u s2 x y H2 I2 rx ry q => hr a b pins s2 σ H2 x y v u Q I2 rx ry q (hs _ _))

def rIxL (K : PySem.W.Frag) : R2 := fun x y H Q => ∃ p xs i v, x = .ref p ∧ y = .int i ∧ SqL K H p xs ∧ atI xs i = some v ∧ Q v H
def rIxT (K : PySem.W.Frag) : R2 := fun x y H Q => ∃ p xs i v, x = .ref p ∧ y = .int i ∧ SqT K H p xs ∧ atI xs i = some v ∧ Q v H
theorem ix_list : IxR X (rIxL X.K) := by
  intro value slice pins s σ H x y v u Q I rx ry h hs
  obtain ⟨p, xs, i, z, rfl, rfl, hq, he, q⟩ := h
  cases rx
  obtain ⟨t, rfl⟩ := ry
  obtain ⟨its, r, pl, hz⟩ := I.list hq
  obtain ⟨j, h1, h2, h3, h4, h5⟩ := atI_get he
  obtain ⟨w, ew, rw'⟩ := r.get h2
  have hl := r.length
  have hn := line63
  have fin : EP X pins σ Q w s := ⟨z, H, I, rw', q⟩
  by_cases h0 : 0 ≤ i
  · have hj : i.toNat = j := by
      rw [seqIndex_of h0 h5] at h1
      exact Option.some.inj h1
    exact item_listR pl.isList h0 (by omega) (by rw [hj]; simpa using ew) fin hs
  · have hj : (i + (its.toArray.size : Int)).toNat = j := by
      rw [seqIndex_neg (by omega) h4] at h1
      rw [List.size_toArray, ← hl]
      exact Option.some.inj h1
    exact subscriptTail_builtinR (x := w) pl.isList.typeIs slot_list_getitem.lookup
      (wpAny_getItem_list_neg (Q := fun r s' => r = w ∧ EP X pins σ Q r s') pl.isList (by omega) (by rw [List.size_toArray] <;> omega) (by omega) (by rw [hj]; simpa using ew) ⟨rfl, fin⟩) hs
theorem ix_tup : IxR X (rIxT X.K) := by
  intro value slice pins s σ H x y v u Q I rx ry h hs
  obtain ⟨p, xs, i, z, rfl, rfl, hq, he, q⟩ := h
  cases rx
  obtain ⟨t, rfl⟩ := ry
  obtain ⟨its, r, pl, hz⟩ := I.tuple hq
  obtain ⟨j, h1, h2, h3, h4, h5⟩ := atI_get he
  obtain ⟨w, ew, rw'⟩ := r.get h2
  have hl := r.length
  have hn := line63
  have fin : EP X pins σ Q w s := ⟨z, H, I, rw', q⟩
  exact subscriptTail_builtinR (x := w) pl.typeIs slot_tuple_getitem.lookup
    (getItem_tuple (j := j) (Q := fun r s' => r = w ∧ EP X pins σ Q r s') pl (by omega) (by omega) (by rw [List.size_toArray, ← hl]; exact h1) (by simpa using ew) ⟨rfl, fin⟩) hs
/-! ### xs[i] = v, any sign -/
/-- the list's object behind a store -/
theorem mapSeq_set (its : List Value) (n j : Nat) (u : Value) : Obj.mapSeq (·.setIfInBounds j u) { cls := .type "list", data := .seq its.toArray n } = { cls := .type "list", data := .seq (its.set j u).toArray n } := by
  simp [Obj.mapSeq]
theorem Inv.lst {pins : List (Addr × Obj)} {σ : St} {H : Hp} {s : Shared} {p : Addr} {xs : List V} (I : Inv X pins σ H s) (h : H p = some (.lst xs)) :
    ∃ (its : List Value) (n : Nat), Vals xs its ∧ s.heap.get? p = some { cls := .type "list", data := .seq its.toArray n } ∧ xs.length ≤ sizeLine := by
  obtain ⟨z, its, n, r, e⟩ := I.hok p _ h
  exact ⟨its, n, r, e, z⟩
/-- the list at p is written by an update of its object -/
theorem Inv.lstUpd {pins : List (Addr × Obj)} {σ : St} {H : Hp} {s : Shared} {p : Addr} {xs ys : List V} {its its' : List Value} {n n' : Nat} {f : Obj → Obj} (I : Inv X pins σ H s) (h : H p = some (.lst xs))
    (ho : s.heap.get? p = some { cls := .type "list", data := .seq its.toArray n }) (hf : f { cls := .type "list", data := .seq its.toArray n } = { cls := .type "list", data := .seq its'.toArray n' }) (r : Vals ys its') (hz : ys.length ≤ sizeLine) (t : Nat) :
    Inv X pins σ (upd H p (.lst ys)) { s with heap := s.heap.update p f, toks := t } := by
  have e : (s.heap.update p f).get? p = some { cls := .type "list", data := .seq its'.toArray n' } := by
    rw [Heap.get?_update_self f ho (by rw [hf] <;> rfl), hf]
  refine I.write (x := p) (e := p) (by rw [h]; trivial) (.inl rfl) (fun b u hb q => (Heap.get?_update_other _ _ (Ne.symm hb)).trans q) ⟨_, e⟩ ?_
  exact ⟨hz, its', n', r, e⟩
def rSetL : V → V → V → Hp → (Hp → Prop) → Prop := fun o i v H Q => ∃ p xs k j, o = .ref p ∧ i = .int k ∧ H p = some (.lst xs) ∧ ixN xs.length k = some j ∧ Q (upd H p (.lst (xs.set j v)))
theorem set_list : PSet X rSetL := by
  intro pins s σ H o i v ov iv u Q I ro ri rv h
  obtain ⟨p, xs, k, j, rfl, rfl, hp, hj, q⟩ := h
  cases ro
  obtain ⟨t, rfl⟩ := ri
  obtain ⟨its, n, r, ho, hz⟩ := I.lst hp
  obtain ⟨h1, h2, h3, h4⟩ := ixN_seq hj
  have hl := r.length
  have hn := line63
  have I' : Inv X pins σ (upd H p (.lst (xs.set j v))) { s with heap := s.heap.update p (Obj.mapSeq (·.setIfInBounds j u)) } :=
    I.lstUpd hp ho (mapSeq_set its n j u) (r.set rv j) (by rw [List.length_set]; exact hz) s.toks
  by_cases h0 : 0 ≤ k
  · have hk : k.toNat = j := by
      rw [seqIndex_of h0 h4] at h1
      exact Option.some.inj h1
    exact PySem.W.ki_setAt ho h0 (by omega) (by rw [List.size_toArray, ← hl]; exact h4) (by rw [hk]; exact ⟨_, I', q⟩)
  · have hk : (k + (its.toArray.size : Int)).toNat = j := by
      rw [seqIndex_neg (by omega) h3] at h1
      rw [List.size_toArray, ← hl]
      exact Option.some.inj h1
    exact PySem.W.ki_setBack ho (by omega) (by rw [List.size_toArray, ← hl]; exact h3) (by omega) (by rw [hk]; exact ⟨_, I', q⟩)

/-! ### slices -/
theorem slice_bounds (lo hi : Option Int) (n : Nat) : (sliceBounds lo hi none n).1 = ((HT.sIx n 0 lo : Nat) : Int) ∧ (sliceBounds lo hi none n).2.1 = ((HT.sIx n n hi : Nat) : Int) ∧ (sliceBounds lo hi none n).2.2 = 1 := by
  refine ⟨?_, ?_, rfl⟩
  · cases lo with
    | none => simp [sliceBounds, HT.sIx]
    | some i =>
      simp only [sliceBounds, HT.sIx, Option.getD_none, show (1 : Int) > 0 by decide, if_true]
      by_cases h : i < 0
      · simp only [h, if_true] <;> omega
      · simp only [h, if_false] <;> omega
  · cases hi with
    | none => simp [sliceBounds, HT.sIx]
    | some i =>
      simp only [sliceBounds, HT.sIx, Option.getD_none, show (1 : Int) > 0 by decide, if_true]
      by_cases h : i < 0
      · simp only [h, if_true] <;> omega
      · simp only [h, if_false] <;> omega
theorem slicePick_cut (its : List Value) (lo hi : Option Int) : slicePick its.toArray lo hi none = ((its.drop (HT.sIx its.length 0 lo)).take (HT.sIx its.length its.length hi - HT.sIx its.length 0 lo)).toArray := by
  obtain ⟨h1, h2, h3⟩ := slice_bounds lo hi its.toArray.size
  unfold slicePick
  rw [h1, h2, h3]
  simp only [sliceRange_one, pick_run, List.size_toArray] <;> rfl
/-- xs[lo:hi] of a list: a new list -/
def rSlL (K : PySem.W.Frag) : V → Option Int → Option Int → Hp → VK → Prop := fun x lo hi H Q => ∃ a xs, x = .ref a ∧ SqL K H a xs ∧ ∀ p, H p = none → Q (.ref p) (upd H p (.lst (cutV xs lo hi)))
theorem sl_list : SlR X (rSlL X.K) := by
  intro pins s σ H x v vl vu lo hi sl Q I rx hs pl pu h
  obtain ⟨a, xs, rfl, hx, q⟩ := h
  cases rx
  obtain ⟨its, r, ht, hz⟩ := I.list hx
  have hlen := r.length
  refine ⟨"list", _, slot_list_getitem.lookup, ht.isList.typeIs, ?_⟩
  refine wpAny_getItem_list_slice ht.isList hs pl pu .none (by simp) ?_ (by rw [List.size_toArray] <;> omega)
  rw [slicePick_cut, ← hlen]
  refine ⟨.ref s.heap.objs.size, _, I.laid (t' := s.toks) (o := .lst (cutV xs lo hi)) (fun b ob q => Heap.get?_push_of_some _ q) (Nat.le_refl _) ?_, rfl, q _ (I.hok.fresh (Nat.le_refl _))⟩
  exact ⟨Nat.le_trans (cutV_length xs lo hi) hz, _, 0, (r.drop (HT.sIx xs.length 0 lo)).take (HT.sIx xs.length xs.length hi - HT.sIx xs.length 0 lo), Heap.get?_push_size _ rfl⟩

/-! ### in, not in: flat items -/
/-! ### len, list(x), tuple(x) of any list or tuple that is read -/
theorem call_len_seq : CallR X (.builtin "len") (fun xs H Q => ∃ p ys, xs = [.ref p] ∧ (SqL X.K H p ys ∨ SqT X.K H p ys) ∧ Q (.int ys.length) H) := by
  intro pins s σ H xs us Q I r h
  obtain ⟨p, ys, rfl, hq, q⟩ := h
  obtain ⟨u, rfl, rx⟩ := vals1 r
  cases rx
  have hn := line63
  rcases hq with hq | hq
  · obtain ⟨its, r', pl, hz⟩ := I.list hq
    have hlen := r'.length
    exact Calls.call_len_list pl.isList (by simp only [List.size_toArray] <;> omega) ⟨.int ys.length, H, I.tok _, ⟨s.toks + 1, by rw [List.size_toArray, hlen]⟩, q⟩
  · obtain ⟨its, r', pl, hz⟩ := I.tuple hq
    have hlen := r'.length
    exact len_tuple pl (by simp only [List.size_toArray] <;> omega) ⟨.int ys.length, H, I.tok _, ⟨s.toks + 1, by rw [List.size_toArray, hlen]⟩, q⟩
theorem CallR.or {f : Value} {r r' : List V → Hp → VK → Prop} (h : CallR X f r) (h' : CallR X f r') : CallR X f (fun xs H Q => r xs H Q ∨ r' xs H Q) := by
  intro pins s σ H xs us Q I rs q
  rcases q with q | q
  · exact h pins s σ H xs us Q I rs q
  · exact h' pins s σ H xs us Q I rs q
theorem call_list_of : CallR X (.type "list") (fun xs H Q => ∃ p ys, xs = [.ref p] ∧ (SqL X.K H p ys ∨ SqT X.K H p ys) ∧ ∀ l, H l = none → Q (.ref l) (upd H l (.lst ys))) := by
  intro pins s σ H xs us Q I r h
  obtain ⟨p, ys, rfl, hq, q⟩ := h
  obtain ⟨u, rfl, rx⟩ := vals1 r
  cases rx
  have fin : ∀ (its : List Value), Vals ys its → ys.length ≤ sizeLine → ∀ (h' : Heap) (c' : Nat), (∀ b o', s.heap.get? b = some o' → h'.get? b = some o') →
      h'.get? s.heap.objs.size = some { cls := .type "list", dict := none, data := .seq its.toArray c', slots := #[] } → EP X pins σ Q (.ref s.heap.objs.size) { s with heap := h' } := fun its r' hz h' c' kp e =>
    ⟨.ref s.heap.objs.size, _, I.laid (t' := s.toks) kp (Nat.le_refl _) (show ObjOk X.prog X.w _ h' _ (.lst ys) from ⟨hz, its, c', r', e⟩), rfl, q _ (I.hok.fresh (Nat.le_refl _))⟩
  rcases hq with hq | hq
  · obtain ⟨its, r', pl, hz⟩ := I.list hq
    have hlen := r'.length
    obtain ⟨o, ho, hc, n, hd⟩ := pl.isList
    exact call_list_seq p (.inl rfl) ho hc hd (fun h' c' kp e => fin its r' hz h' c' kp e) (by simp only [List.size_toArray] <;> omega)
  · obtain ⟨its, r', pl, hz⟩ := I.tuple hq
    have hlen := r'.length
    obtain ⟨o, ho, hc, n, hd⟩ := pl
    exact call_list_seq p (.inr rfl) ho hc hd (fun h' c' kp e => fin its r' hz h' c' kp e) (by simp only [List.size_toArray] <;> omega)
/-! ### the call of a builtin's method: o.m(..) -/
/-- the value is of that builtin type -/
def tyV (K : PySem.W.Frag) (T : String) (x : V) (H : Hp) : Prop := match x with
  | .str _ => T = "str"
  | .int _ => T = "int"
  | .ref p => (T = "list" ∧ ∃ xs, SqL K H p xs) ∨ (T = "tuple" ∧ ∃ o, K.lookup p = some o ∧ o.cls = .type "tuple" ∧ o.dict = none) ∨
      (T = "dict" ∧ ((∃ kvs, H p = some (.dK kvs)) ∨ ∃ kvs, H p = some (.dT kvs))) ∨ (T = "set" ∧ ∃ S n, H p = some (.set S n))
  | _ => False
theorem tyV_is {pins : List (Addr × Obj)} {σ : St} {H : Hp} {s : Shared} {T : String} {x : V} {v : Value} (I : Inv X pins σ H s) (r : RelV x v) (ty : tyV X.K T x H) :
    s.TypeIs v T ∧ ∀ a, v = .ref a → ∃ ob, s.heap.get? a = some ob ∧ ob.dict = none := by
  cases x with
  | str z =>
    obtain ⟨t, rfl⟩ := r
    cases (show T = "str" from ty)
    exact ⟨typeIs_str s z t, fun _ e => nomatch e⟩
  | int i =>
    obtain ⟨t, rfl⟩ := r
    cases (show T = "int" from ty)
    exact ⟨typeIs_int s i t, fun _ e => nomatch e⟩
  | ref p =>
    cases r
    rcases ty with ⟨rfl, xs, hq⟩ | ⟨rfl, o, hk, hc, hd⟩ | ⟨rfl, hk⟩ | ⟨rfl, S, n, hk⟩
    · obtain ⟨its, _, pl, _⟩ := I.list hq
      refine ⟨pl.isList.typeIs, fun a e => ?_⟩
      cases e
      obtain ⟨o, n, e, c, hd, _⟩ := pl
      exact ⟨o, e, hd⟩
    · refine ⟨⟨o, I.kIn p o hk, hc⟩, fun a e => ?_⟩
      cases e
      exact ⟨o, I.kIn _ o hk, hd⟩
    · have z : ∃ o, s.heap.get? p = some o ∧ o.ExactDict := by
        rcases hk with ⟨kvs, hk⟩ | ⟨kvs, hk⟩
        · obtain ⟨_, _, _, _, o, _, _, e, ex, _⟩ := I.hok p _ hk
          exact ⟨o, e, ex⟩
        · obtain ⟨_, _, _, _, o, _, _, e, ex, _⟩ := I.hok p _ hk
          exact ⟨o, e, ex⟩
      obtain ⟨o, e, ex⟩ := z
      refine ⟨⟨o, e, ex.1⟩, fun a e2 => ?_⟩
      cases e2
      exact ⟨o, e, ex.2.1⟩
    · obtain ⟨o, _, _, _, e, ex, _⟩ := I.hok p _ hk
      refine ⟨⟨o, e, ex.1⟩, fun a e2 => ?_⟩
      cases e2
      exact ⟨o, e, ex.2.1⟩
  | _ => exact False.elim ty
def tBM0 (K : PySem.W.Frag) (T : String) (r : V → List V → Hp → VK → Prop) (to : TE) : TE := fun σ H Q => to σ H fun x H1 => tyV K T x H1 ∧ r x [] H1 Q
def tBM (K : PySem.W.Frag) (T : String) (r : V → List V → Hp → VK → Prop) (to : TE) (t : TA) : TE := fun σ H Q => to σ H fun x H1 => tyV K T x H1 ∧ t σ H1 fun xs H2 => r x xs H2 Q
variable {o e : Expr} {es : List Expr} {to : TE} {t : TA} {name : Str} {apos cpos : Pos} {T id : String} {r : V → List V → Hp → VK → Prop}
theorem pe_bm0 (pa : PlainAttrs T) (slot : Slot T name id) (hty : typeOf (.builtin id) = pure (.type "method_descriptor")) (hm : MtR X id r) (ho : PE X o to)
    (hbase : attributeBase o name X.env (eval o X.env) = eval o X.env := by rfl) (hline : (apos.endLine == cpos.line) = true := by rfl) : PE X (.Call (.Attribute o name apos) [] [] cpos) (tBM0 X.K T r to) := by
  intro pins s σ H Q I h
  refine wpAny_Call_method0_late hbase hline (thn (ho pins s σ H _ I h) fun v s1 ⟨x, H1, I1, r1, ty, q1⟩ => ?_)
  obtain ⟨h1, h2⟩ := tyV_is I1 r1 ty
  exact ⟨T, id, pa, slot, hty, h1, h2, Calls.callWith_builtin rfl (PySem.evalArgs_none (hm pins s1 σ H1 x [] v [] Q I1 r1 .nil q1))⟩
theorem pe_bm (pa : PlainAttrs T) (slot : Slot T name id) (hty : typeOf (.builtin id) = pure (.type "method_descriptor")) (hm : MtR X id r) (ho : PE X o to) (ha : PA X (e :: es) t)
    (hbase : attributeBase o name X.env (eval o X.env) = eval o X.env := by rfl)
    (hfew : ((backTo cpos (starEach (e :: es) X.env)).all (fun x => !x.1) && (backToKw cpos (keywordEach [] X.env)).all (fun x => x.1.isSome)
      && decide ((e :: es).length + ([] : List Keyword).length + (if ([] : List Keyword).isEmpty then 0 else 1) < 30)) = true := by rfl)
    (hline : (apos.endLine == cpos.line) = true := by rfl) (hs : starEach (e :: es) X.env = (false, eval e X.env) :: starEach es X.env := by rfl) (hplain : (backTo cpos (starEach es X.env)).any (·.1) = false := by rfl) :
    PE X (.Call (.Attribute o name apos) (e :: es) [] cpos) (tBM X.K T r to t) := by
  intro pins s σ H Q I h
  refine wpAny_Call_method_late hbase hfew hline rfl (thn (ho pins s σ H _ I h) fun v s1 ⟨x, H1, I1, r1, ty, q1⟩ => ?_)
  obtain ⟨h1, h2⟩ := tyV_is I1 r1 ty
  refine ⟨T, id, pa, slot, hty, h1, h2, ?_⟩
  have hA := ha cpos pins s1 σ H1 _ I1 q1
  rw [hs] at hA ⊢
  refine Calls.callWith_builtin (by show (false || (backTo cpos (starEach es X.env)).any (·.1)) = false; rw [hplain] <;> rfl) (Calls.evalArgs_plain ?_)
  exact thn hA fun us s2 ⟨vs, H2, I2, r2, q2⟩ => hm pins s2 σ H2 x vs v us Q I2 r1 r2 q2
/- xs.append(e), list.index on a module's tuple .. are MtR facts of 06m -/
end
end L2

namespace L2
open PySem PySem.Spec PyProof.Rows

def MtM (X : Cx) (id : String) (r : V → List V → Hp → VK → Prop) : Prop :=
  ∀ (pins : List (Addr × Obj)) (s : Shared) (σ : St) (H : Hp) (x : V) (xs : List V) (v : Value) (us : List Value) (Q : VK), Inv X pins σ H s → RelV x v → Vals xs us → r x xs H Q →
    wpAny (model X.prog X.w) X.A (call (.builtin id) (v :: us)) (EP X pins σ Q) X.xe s

/-! ### lists of values -/
theorem Vals.one : ∀ {x : V} {us : List Value}, Vals [x] us → ∃ u, us = [u] ∧ RelV x u
  | _, _, .cons r .nil => ⟨_, rfl, r⟩
theorem Vals.two : ∀ {x y : V} {us : List Value}, Vals [x, y] us → ∃ u v, us = [u, v] ∧ RelV x u ∧ RelV y v
  | _, _, _, .cons r (.cons q .nil) => ⟨_, _, rfl, r, q⟩
theorem Vals.zero : ∀ {us : List Value}, Vals [] us → us = []
  | _, .nil => rfl
theorem Vals.dropLast {xs : List V} {us : List Value} (h : Vals xs us) : Vals xs.dropLast us.dropLast := by
  induction h with
  | nil => exact .nil
  | cons r t ih =>
    cases t with
    | nil => exact .nil
    | cons q t' => exact .cons r ih
theorem Vals.eraseIdx : ∀ {xs : List V} {us : List Value} (i : Nat), Vals xs us → Vals (xs.eraseIdx i) (us.eraseIdx i)
  | _, _, _, .nil => .nil
  | _, _, 0, .cons _ t => t
  | _, _, i + 1, .cons r t => .cons r (Vals.eraseIdx i t)
theorem Vals.reverse {xs : List V} {us : List Value} (h : Vals xs us) : Vals xs.reverse us.reverse := by
  induction h with
  | nil => exact .nil
  | cons r t ih => rw [List.reverse_cons, List.reverse_cons]; exact Vals.append ih (.cons r .nil)
theorem Vals.rep {xs : List V} {us : List Value} (h : Vals xs us) : ∀ k : Nat, Vals (List.replicate k xs).flatten (List.replicate k us).flatten
  | 0 => .nil
  | k + 1 => by
    rw [List.replicate_succ, List.replicate_succ, List.flatten_cons, List.flatten_cons]
    exact Vals.append h (Vals.rep h k)
theorem erase_last {α : Type} (l : List α) : l.eraseIdx (l.length - 1) = l.dropLast := by
  induction l with
  | nil => rfl
  | cons a r ih =>
    cases r with
    | nil => rfl
    | cons b r =>
      have e : (a :: b :: r).length - 1 = ((b :: r).length - 1) + 1 := by
        have h1 : (a :: b :: r).length = r.length + 2 := rfl
        have h2 : (b :: r).length = r.length + 1 := rfl
        omega
      rw [e, List.eraseIdx_cons_succ, ih]
      all_goals rfl
theorem len_erase {α : Type} : ∀ (l : List α) (i : Nat), (l.eraseIdx i).length ≤ l.length
  | [], _ => Nat.le_refl _
  | _ :: _, 0 => Nat.le_succ _
  | _ :: r, i + 1 => Nat.succ_le_succ (len_erase r i)
theorem foldl_rep (its : List Value) : ∀ (k : Nat) (acc : List Value),
    List.foldl (fun x1 x2 => x1 ++ x2) acc.toArray (List.replicate k its.toArray) = (acc ++ (List.replicate k its).flatten).toArray
  | 0, acc => by simp
  | k + 1, acc => by
    have e : acc.toArray ++ its.toArray = (acc ++ its).toArray := by simp
    have e2 : (acc ++ its) ++ (List.replicate k its).flatten = acc ++ (List.replicate (k + 1) its).flatten := by
      rw [List.replicate_succ, List.flatten_cons, List.append_assoc]
    rw [← e2, ← foldl_rep its k (acc ++ its), ← e, List.replicate_succ, List.foldl_cons]

section
variable {X : Cx} {pins : List (Addr × Obj)} {σ : St} {H : Hp} {s : Shared} {l b : Addr} {xs ys zs : List V}

/-! ### the two steps: a tracked list is rewritten, a new list is laid -/
theorem Inv.lset {its its' : List Value} {n : Nat} {f : Array Value → Array Value} {t' : Nat} (I : Inv X pins σ H s) (hH : H l = some (.lst xs))
    (e : s.heap.get? l = some { cls := .type "list", data := .seq its.toArray n }) (hf : f its.toArray = its'.toArray) (hv : Vals ys its') (hz : ys.length ≤ sizeLine) :
    Inv X pins σ (upd H l (.lst ys)) { s with heap := s.heap.update l (Obj.mapSeq f), toks := t' } := by
  have q := PySem.IsL.update e f
  rw [hf] at q
  refine I.write (x := l) (e := l) (by rw [hH]; exact trivial) (.inl rfl) (fun b' u hb hu => (Heap.get?_update_other s.heap (Obj.mapSeq f) (Ne.symm hb)).trans hu) ⟨_, q⟩ ?_
  exact ⟨hz, its', _, hv, q⟩
theorem Inv.lnew {its : List Value} {t' : Nat} (I : Inv X pins σ H s) (hv : Vals ys its) (hz : ys.length ≤ sizeLine) :
    Inv X pins σ (upd H s.heap.objs.size (.lst ys)) { s with heap := s.heap.push { cls := .type "list", data := .seq its.toArray }, toks := t' } :=
  I.laid (fun _ _ q => Heap.get?_push_of_some _ q) (Nat.le_refl _) ⟨hz, its, 0, hv, Heap.get?_push_size _ rfl⟩
theorem Inv.fresh (I : Inv X pins σ H s) : H s.heap.objs.size = none := I.hok.fresh (Nat.le_refl _)
theorem Inv.lstM (I : Inv X pins σ H s) (hH : H l = some (.lst xs)) : xs.length ≤ sizeLine ∧ ∃ (its : List Value) (n : Nat), Vals xs its ∧ xs.length = its.length ∧ s.heap.get? l = some { cls := .type "list", data := .seq its.toArray n } := by
  obtain ⟨z, its, n, r, e⟩ := I.hok l _ hH
  exact ⟨z, its, n, r, r.length, e⟩

theorem notLongL {n : Nat} (h : n ≤ sizeLine) : Builtin.List.listTooLong n = false := by
  unfold Builtin.List.listTooLong
  exact decide_eq_false (by omega)
end

section
variable {X : Cx}

/-! ### methods -/
def rAppend : V → List V → Hp → VK → Prop := fun x vs H Q => ∃ l xs y, x = .ref l ∧ vs = [y] ∧ H l = some (.lst xs) ∧ xs.length < sizeLine ∧ Q .non (upd H l (.lst (xs ++ [y])))
theorem mt_append : MtM X "list.append" rAppend := by
  intro pins s σ H x vs v us Q I rx rv h
  obtain ⟨l, xs, y, rfl, rfl, hH, hz, q⟩ := h
  cases rx
  obtain ⟨u, rfl, ru⟩ := rv.one
  obtain ⟨z, its, n, r, hl, e⟩ := I.lstM hH
  refine call_meets F.slot_list_append ⟨_, e, rfl⟩ F.entry_list_append (F.args_list_append_2 _ _) (PySem.list_append l its.toArray n u (by rw [List.size_toArray]; omega)) ⟨e, ?_⟩
  refine ⟨.non, _, I.lset (its' := its ++ [u]) hH e (by simp) (r.append (.cons ru .nil)) ?_, rfl, q⟩
  rw [List.length_append, List.length_singleton]
  omega

def rPop : V → List V → Hp → VK → Prop := fun x vs H Q => ∃ l xs y, x = .ref l ∧ vs = [] ∧ H l = some (.lst xs) ∧ xs[xs.length - 1]? = some y ∧ Q y (upd H l (.lst xs.dropLast))
theorem mt_pop : MtM X "list.pop" rPop := by
  intro pins s σ H x vs v us Q I rx rv h
  obtain ⟨l, xs, y, rfl, rfl, hH, hy, q⟩ := h
  cases rx
  have hus := rv.zero
  subst hus
  obtain ⟨z, its, n, r, hl, e⟩ := I.lstM hH
  obtain ⟨u, hu, ru⟩ := r.get hy
  have hy' : its.toArray[its.toArray.size - 1]? = some u := by
    show its.toArray[its.length - 1]? = some u
    rw [← Array.getElem?_toList, ← hl]
    exact hu
  refine call_meets F.slot_list_pop ⟨_, e, rfl⟩ F.entry_list_pop (F.args_list_pop_1 _) (MeetsSeq.list_pop_last l its.toArray n u hy' (by rw [List.size_toArray]; omega)) ⟨e, ?_⟩
  refine ⟨y, _, I.lset (its' := its.dropLast) hH e ?_ r.dropLast ?_, ru, q⟩
  · show its.toArray.eraseIdxIfInBounds (its.toArray.size - 1) = its.dropLast.toArray
    rw [List.size_toArray, List.eraseIdxIfInBounds_toArray, erase_last]
  · rw [List.length_dropLast]
    omega

def rPopAt : V → List V → Hp → VK → Prop := fun x vs H Q => ∃ l xs i k y, x = .ref l ∧ vs = [.int i] ∧ H l = some (.lst xs) ∧ -(2 ^ 63) ≤ i ∧ i < 2 ^ 63 ∧ seqIndex? i xs.length = some k ∧ xs[k]? = some y ∧ Q y (upd H l (.lst (xs.eraseIdx k)))
theorem mt_popAt : MtM X "list.pop" rPopAt := by
  intro pins s σ H x vs v us Q I rx rv h
  obtain ⟨l, xs, i, k, y, rfl, rfl, hH, h1, h2, hk, hy, q⟩ := h
  cases rx
  obtain ⟨u, rfl, ru⟩ := rv.one
  obtain ⟨t, rfl⟩ := ru
  obtain ⟨z, its, n, r, hl, e⟩ := I.lstM hH
  obtain ⟨w, hw, rw'⟩ := r.get hy
  refine call_meets F.slot_list_pop ⟨_, e, rfl⟩ F.entry_list_pop (F.args_list_pop_2 _ _)
    (MeetsSeq.list_pop_at l its.toArray n i t k w (fitsIndex_both h1 h2) (by rw [List.size_toArray, ← hl]; exact hk) (by rw [← Array.getElem?_toList]; exact hw) (by rw [List.size_toArray]; omega)) ⟨e, ?_⟩
  refine ⟨y, _, I.lset (its' := its.eraseIdx k) hH e ?_ (r.eraseIdx k) ?_, rw', q⟩
  · show its.toArray.eraseIdxIfInBounds k = (its.eraseIdx k).toArray
    rw [List.eraseIdxIfInBounds_toArray]
  · have := len_erase xs k
    omega

/-! ### list + list, list += list, list * int -/
def rCat : R2 := fun x y H Q => ∃ l b xs zs, x = .ref l ∧ y = .ref b ∧ H l = some (.lst xs) ∧ H b = some (.lst zs) ∧ xs.length + zs.length ≤ sizeLine ∧ ∀ p, H p = none → Q (.ref p) (upd H p (.lst (xs ++ zs)))
theorem op_cat : OpR X (binaryOp .Add) rCat := by
  intro pins s σ H x y v u Q I rx ry h
  obtain ⟨l, b, xs, zs, rfl, rfl, hH, hB, hz, q⟩ := h
  cases rx
  cases ry
  obtain ⟨z, its, n, r, hl, e⟩ := I.lstM hH
  obtain ⟨z2, its2, n2, r2, hl2, e2⟩ := I.lstM hB
  refine PySem.P.add_list e e2 ?_ (by rw [List.size_toArray, List.size_toArray]; omega)
  have ea : its.toArray ++ its2.toArray = (its ++ its2).toArray := by simp
  rw [ea]
  exact ⟨.ref _, _, I.lnew (t' := s.toks) (r.append r2) (by rw [List.length_append]; omega), rfl, q _ I.fresh⟩
/-- a list times an int (a negative one is nothing) -/
def rRep : R2 := fun x y H Q => ∃ l k xs, x = .ref l ∧ y = .int k ∧ H l = some (.lst xs) ∧ -(2 ^ 63) ≤ k ∧ k < 2 ^ 63 ∧ xs.length * k.toNat ≤ sizeLine ∧
  ∀ p, H p = none → Q (.ref p) (upd H p (.lst (List.replicate k.toNat xs).flatten))
theorem len_rep {α : Type} (xs : List α) (k : Nat) : (List.replicate k xs).flatten.length = k * xs.length := by
  induction k with
  | zero => simp
  | succ k ih => rw [List.replicate_succ, List.flatten_cons, List.length_append, ih, Nat.succ_mul, Nat.add_comm]
theorem op_rep : OpR X (binaryOp .Mult) rRep := by
  intro pins s σ H x y v u Q I rx ry h
  obtain ⟨l, k, xs, rfl, rfl, hH, h1, h2, hz, q⟩ := h
  cases rx
  obtain ⟨t, rfl⟩ := ry
  obtain ⟨z, its, n, r, hl, e⟩ := I.lstM hH
  have hlen : its.toArray.size * k.toNat ≤ sizeLine := by rw [List.size_toArray, ← hl]; exact hz
  have hcap : ¬ its.toArray.size * k.toNat > (2 ^ 63 - 1) / 8 := by
    have : (sizeLine : Nat) ≤ (2 ^ 63 - 1) / 8 := by decide
    omega
  have hfit : ¬ (!Builtin.List.listFitsIndex k) = true := by
    rw [fitsIndex_both h1 h2]
    exact Bool.false_ne_true
  have hlong : ¬ Builtin.List.listTooLong (its.toArray.size * k.toNat) = true := by
    rw [notLongL hlen]
    exact Bool.false_ne_true
  have hnew : List.foldl (fun x1 x2 => x1 ++ x2) #[] (List.replicate (if its.toArray.isEmpty = true then 0 else k.toNat) its.toArray) = (List.replicate k.toNat its).flatten.toArray := by
    have f0 : ∀ m : Nat, List.foldl (fun x1 x2 => x1 ++ x2) #[] (List.replicate m its.toArray) = (List.replicate m its).flatten.toArray := fun m => by
      have := foldl_rep its m []
      rw [List.nil_append] at this
      exact this
    rw [f0]
    cases its with
    | nil => simp
    | cons a r' => rw [if_neg (by simp)]
  refine wpAny_binaryOp_repeat_ref (T := "list") (U := "int") (by decide) ⟨_, e, rfl⟩ (fun s' => typeIs_int s' k t) noFill_list_mul F.fills_int_mul F.slot_int_rmul repeat_list F.slot_int_index.lookup
    (call_meets F.slot_int_rmul (typeIs_int s k t) F.entry_int_rmul (F.args_int_rmul_2 _ _) (int___rmul___int_list k t l its.toArray n)
      ⟨e, rfl, ⟨_, e, rfl⟩, call_meets F.slot_list_mul ⟨_, e, rfl⟩ F.entry_list_mul (F.args_list_mul_2 _ _) (AutoListH.list___mul___list_int_3 l its.toArray n k t hfit hcap hlong) ⟨e, ?_⟩⟩)
  rw [hnew]
  exact ⟨.ref _, _, I.lnew (t' := s.toks) (r.rep k.toNat) (by rw [len_rep, Nat.mul_comm]; exact hz), rfl, q _ I.fresh⟩

/-! ### del xs[i] -/
end

/-! ### xs[a:b] = ys -/
section
variable {prog : Program} {w : World} {A : Around} {E : Value → Shared → Prop} {s : Shared}
end

section
variable {X : Cx}
end
end L2

namespace Att
open PySem PySem.W PySem.Calls PyProof.Rows

/-! ### the script -/
theorem ints_of_wellAll {P : Params} {h : Heap} : ∀ (ns : List Int) (vs : List Value), WellAll P h vs (ns.map WData.int) → IntsAre vs ns := by
  intro ns
  induction ns with
  | nil =>
    intro vs w
    rw [List.map_nil] at w
    cases w
    exact .nil
  | cons n ns ih =>
    intro vs w
    rw [List.map_cons] at w
    cases w with
    | cons a b =>
      cases a
      exact .cons _ _ (ih _ b)

theorem script_of {l : OpenLaw} {n : Nat} (hn : l.most = some n) {P : Params} {h : Heap} {args : List WData} {vals : List Value}
    (hpre : l.row.toRowW.claim.pre args = true) (hwl : WellAll P h vals args) :
    ∃ a vs ns, vals = [Value.ref a] ∧ args = [WData.list (ns.map WData.int)] ∧ h.get? a = some { cls := .type "list", data := .seq vs.toArray } ∧ IntsAre vs ns ∧ ns.length ≤ n := by
  have hsh : WShape.hasAll [] args [.list .int] = true := (pre_splitW hpre).1
  have hc : l.pre.holds [] { args := args } = true := (pre_splitW hpre).2
  obtain ⟨d, r, rfl, h1, h2⟩ := hasAllW_cons hsh
  obtain rfl := hasAllW_nil h2
  obtain ⟨xs, rfl, h3⟩ := hasW_list h1
  obtain ⟨ns, rfl⟩ := items_int h3
  have hlen : ns.length ≤ n := by
    unfold OpenLaw.pre at hc
    have h4 : (WTm.not (.lt (.lit (.int (n : Int))) (.len (.arg 0)))).holds [] { args := [.list (ns.map .int)] } = true := by
      have h4 := (holds_andW hc).1
      rw [hn] at h4
      exact h4
    have h5 := condW_of h4 (w_not (w_lt w_lit (w_len_list (w_arg rfl))))
    rw [List.length_map] at h5
    refine Nat.le_of_not_lt fun q => ?_
    have q' : (n : Int) < ((ns.length : Nat) : Int) := by omega
    first
      | (rw [decide_eq_true q'] at h5; exact absurd h5 (by decide))
      | (simp at h5; omega)
  cases hwl with
  | cons w1 w2 =>
    cases w2
    cases w1 with
    | list ho hall => exact ⟨_, _, ns, rfl, rfl, ho, ints_of_wellAll ns _ hall, hlen⟩

theorem post_true (l : OpenLaw) (args : List WData) : l.row.toRowW.claim.post args (.bool true) args = true :=
  postW_of (r := l.row.toRowW) (X := (true == true))
    (show WShape.has [] (.bool true) .bool = true by first | rfl | decide | simp [WShape.has, WShape.arms, WShape.armsAll])
    (show (WTm.eq .res (.lit (.bool true))).value [] { args := args, res := some (.bool true), after := args } = some (.bool (true == true)) from w_eq_bool (w_res rfl) w_lit) rfl

/-! ### the attachment: holds_open's last premise (the goal 'hc' behind k_head) from a wpAny of the law's body -/
/-- the same from a codeAny of the CALL (for a layer whose function contracts speak of calls) -/
theorem attach_call {l : OpenLaw} {n : Nat} {q : Program} {loose : List Str} {XP : (Str → Option Value) → Heap → Prop} {YP : World → Heap → Prop} {d : DefRec}
    (hn : l.most = some n) (hdf : d.params.defaults = [])
    (call : ∀ (w : World) (s₀ s₁ : Shared) (mg mb : Str → Option Value) (fa : Addr) (o : Obj) (pm cd doc : Value) (a : Addr) (vs : List Value) (ns : List Int),
      Ground q loose [] XP w s₀ mg mb s₁.heap → YP w s₁.heap →
      s₁.heap.get? fa = some o → o.data = .func (docDef d.name d.params d.body d.scope pm cd doc) → s₁.heap.CodeRec cd d.name → mg d.name = some (.ref fa) →
      s₁.heap.get? a = some { cls := .type "list", data := .seq vs.toArray } → IntsAre vs ns → ns.length ≤ n → s₁.gens = #[] →
      codeAny (model l.prog w) callerA (.call (.ref fa) ⟨[.ref a], []⟩) (fun r s' => r = .ok (.ret (.bool true)) ∧ OldK s₁.heap s'.heap ∧ s'.os = s₁.os ∧ AllBare s'.gens) s₁) :
    WalkO q loose XP YP l.row.toRowW d [] (fun f vs => PySem.call f vs) := by
  intro w s₀ s₁ mg mb G Y fa o pm cd doc dV kV ho hd hcd hD hmg hg args vals as hpre hlay hrd hwl hlo
  obtain rfl : dV = .none := Dflts.none hD hdf
  obtain rfl : kV = .none := Dflts.noKw hD
  obtain ⟨a, vs, ns, rfl, rfl, hobj, hints, hlen⟩ := script_of hn hpre hwl
  refine enter_call (codeAny_mono (call w s₀ s₁ mg mb fa o pm cd doc a vs ns G Y ho (fd_plain hd) hcd hmg hobj hints hlen hg) fun r s' hq => ?_)
  obtain ⟨rfl, h2, h3, h4⟩ := hq
  exact ⟨.inl ⟨.bool true, .bool true, [], rfl, fun _ => rfl, .bool true, post_true l _, fun _ => ⟨List.Pairwise.nil, fun _ hm => (nomatch hm)⟩⟩, h2, h3, h4⟩

/-! ### rules over ANY heap (no ledger) from facts about the written part K: the library's own take a ledger (News) for what they write -/
section
variable {prog : Program} {w : World} {A : Around} {E : Value → Shared → Prop} {s : Shared} {K : Frag}

/-! the whole heap as the ledger: makes every rule that writes through a ledger a rule over any heap -/
def ledger (h : Heap) (L d : Addr) : List (Addr × Obj) := (List.range h.objs.size).filterMap fun a => if a = L ∨ a = d then none else (h.get? a).map fun o => (a, o)
end
end Att

namespace L2
open PySem PySem.Spec PyProof.Rows

theorem vals_ints : ∀ {vs : List Value} {ns : List Int}, IntsAre vs ns → Vals (ns.map V.int) vs
  | _, _, .nil => .nil
  | _, _, .cons n t h => .cons ⟨t, rfl⟩ (vals_ints h)

/-- nothing is tracked but the script, known to the object (or it is an object of the module) -/
def Only (H : Hp) : Prop := ∀ b, H b = none ∨ ∃ o xs, H b = some (.frz o (.lst xs))

/-- THE HEAD: the law's promise, at the heap behind the top. F, the promise of the law's def, may use that base is part of the heap (so K.In base, base.Ns mainGlobals mg stand in Mod) -/
theorem law_call {P : Program} {w : World} {K : PySem.W.Frag} {mg mb : Str → Option Value} {CX : CXT} {k : Nat} {fa a : Addr} {fd : FuncData} {x : Str} {sp : Sp} {s₁ : Shared} {vs : List Value} {ns : List Int}
    (KX : K.In s₁.heap) (hns : s₁.heap.Ns mainGlobals mg) (hb : s₁.heap.Ns builtinsNs mb) (hbb : ∀ x : Str, x ≠ "__name__" → mb x = bootBuiltins x) (hlim : s₁.heap.NoLimit) (hg : s₁.gens = #[])
    (ha : s₁.heap.get? a = some { cls := .type "list", data := .seq vs.toArray }) (hi : IntsAre vs ns) (hl : ns.length ≤ sizeLine) (hr : Room k callerA)
    (F : ∀ base : Heap, K.In base → base.Ns mainGlobals mg → FnOk P w K mg base CX k fa fd [x] sp) (hbind : ∀ (s : Shared) (u : Value), BindsTo s fd ⟨[u], []⟩ [(x, u)])
    (hsp : ∀ H : Hp, Only H → SqL K H a (ns.map V.int) → sp [.ref a] H (fun v _ => v = .bl true) fun _ _ _ => False)
    (hCX : ∀ H e s', CX [] H s₁ (fun _ _ _ => False) e s' → False) :
    codeAny (model P w) callerA (.call (.ref fa) ⟨[.ref a], []⟩) (fun r s' => r = .ok (.ret (.bool true)) ∧ OldK s₁.heap s'.heap ∧ s'.os = s₁.os ∧ AllBare s'.gens) s₁ := by
  have rv := vals_ints hi
  have lenV := hi.length
  -- from an abstract heap in which nothing but the script may be tracked
  have core : ∀ H : Hp, Only H → SqL K H a (ns.map V.int) → HOk P w H s₁.heap → (∀ b, H b ≠ none → b = a) → (H a ≠ none → K.lookup a = none) →
      codeAny (model P w) callerA (.call (.ref fa) ⟨[.ref a], []⟩) (fun r s' => r = .ok (.ret (.bool true)) ∧ OldK s₁.heap s'.heap ∧ s'.os = s₁.os ∧ AllBare s'.gens) s₁ := by
    intro H hO hS hok hA hK
    have base_of : ∀ {b : Addr} {o : Obj}, s₁.heap.get? b = some o → H b = none → (hidT s₁.heap H).get? b = some o := fun e n => hidT_get e n
    have noA : ∀ {b : Addr} {o : Obj} {es : Array DictEntry} {ep : Nat}, s₁.heap.get? b = some o → o.data = .dict es ep → H b = none := fun {b o es ep} e d => by
      cases q : H b with
      | none => rfl
      | some u =>
        have e' : b = a := hA b (by rw [q]; simp)
        subst e'
        rw [ha] at e; cases e
        have d' : Data.seq vs.toArray _ = Data.dict es ep := d
        cases d'
    have nsK : ∀ {b : Addr} {m : Str → Option Value}, s₁.heap.Ns b m → (hidT s₁.heap H).Ns b m := fun {b m} ⟨o, es, ep, e, d, r⟩ => ⟨o, es, ep, base_of e (noA e d), d, r⟩
    have hKb : K.In (hidT s₁.heap H) := fun b o e => base_of (KX b o e) (by
      cases q : H b with
      | none => rfl
      | some u =>
        have e' : b = a := hA b (by rw [q]; simp)
        subst e'
        rw [hK (by rw [q]; simp)] at e; cases e)
    have hM : Mod K mg (hidT s₁.heap H) := ⟨hKb, nsK hns, ⟨mb, nsK hb, hbb⟩, let ⟨mc, h1, h2⟩ := hlim; ⟨mc, nsK h1, h2⟩⟩
    have e0 : Env0 P w K mg (hidT s₁.heap H) callerA [] s₁ H := ⟨rfl, hM, fun b o e => of_hidT e, Nat.le_of_eq (hidT_size _ _), trivial, fun b hb => absurd (show b ∈ ([] : List Addr) from hb) (by simp), hok, .of_eq hg⟩
    refine codeAny_mono ((F _ hKb (nsK hns)).run callerA [] s₁ H ⟨[.ref a], []⟩ [.ref a] [.ref a] _ _ hr e0 (hbind s₁ (.ref a)) (.cons rfl .nil) (hsp H hO hS)) fun r s' h => ?_
    cases r with
    | error e => exact (hCX H e s' h).elim
    | ok fl =>
      cases fl with
      | next => exact False.elim h
      | brk => exact False.elim h
      | cont => exact False.elim h
      | ret u =>
        obtain ⟨v, H', os, bare, un, hok', r', q⟩ := h
        have q' : v = .bl true := q
        subst q'
        obtain rfl : u = Value.bool true := r'
        refine ⟨rfl, OldK.of_keep fun b o e => ?_, os, bare⟩
        cases q : H b with
        | none => exact un.keep b o e q (by intro z; exact absurd (show b ∈ ([] : List Addr) from z) (by simp)) (by simp)
        | some u =>
          rcases hO b with z | ⟨ob, xs, z⟩
          · rw [q] at z; cases z
          · have z2 := un.frzs b ob _ z
            obtain ⟨e1, _⟩ := hok b _ z
            obtain ⟨e2, _⟩ := hok' b _ z2
            rw [e] at e1; cases e1
            exact e2
  cases hk : K.lookup a with
  | some o =>
    -- the script is one of the module's own objects
    have e := KX a o hk
    rw [ha] at e
    cases e
    refine core (fun _ => none) (fun _ => .inl rfl) (.inr ⟨_, vs.toArray, _, hk, rfl, rfl, rfl, by rw [List.size_toArray, lenV]; exact hl, by simpa using rv⟩) (fun b u z => by have z' : (none : Option HO) = some u := z; cases z') (fun b z => absurd rfl z) fun z => absurd rfl z
  | none =>
    refine core (fun b => if b = a then some (.frz { cls := .type "list", data := .seq vs.toArray } (.lst (ns.map V.int))) else none) (fun b => ?_) (.inl (.inr ⟨{ cls := .type "list", data := .seq vs.toArray }, if_pos rfl⟩)) (fun b u z => ?_) (fun b z => ?_) fun _ => hk
    · by_cases hb : b = a
      · exact .inr ⟨_, _, if_pos hb⟩
      · exact .inl (if_neg hb)
    · by_cases hb : b = a
      · have z' := (if_pos hb).symm.trans z
        cases z'
        subst hb
        exact ⟨ha, by rw [List.length_map]; exact hl, vs, _, rv, ha⟩
      · have z' := (if_neg hb).symm.trans z
        cases z'
    · by_cases hb : b = a
      · exact hb
      · exact absurd (if_neg hb) z
end L2

namespace L2
open PySem PySem.Spec PyProof.Rows

abbrev KOf {K : PySem.W.Frag} {h : Heap} (_ : K.In h) : PySem.W.Frag := K

/-- the goal that k_head leaves (case hc), from the law's promise. F gives the function object fd (K's own) once, then the promise over every base -/
theorem walk_of {l : PySem.W.OpenLaw} {n k : Nat} {q : Program} {loose : List Str} {XP : (Str → Option Value) → Heap → Prop} {YP : World → Heap → Prop} {d : DefRec} {K : Params → PySem.W.Frag} {CX : World → CXT} {sp : World → Sp} {x : Str}
    (hn : l.most = some n) (hn2 : n ≤ sizeLine) (hdf : d.params.defaults = []) (hr : Room k callerA)
    (hY : ∀ (w : World) (h : Heap), YP w h → (K w.params).In h)
    (F : ∀ (w : World) (mg : Str → Option Value) (fa : Addr) (h : Heap), (K w.params).In h → h.Ns mainGlobals mg → mg d.name = some (.ref fa) →
      ∃ fd : FuncData, (∀ (s : Shared) (u : Value), BindsTo s fd ⟨[u], []⟩ [(x, u)]) ∧
        ∀ base : Heap, (K w.params).In base → base.Ns mainGlobals mg → FnOk l.prog w (K w.params) mg base (CX w) k fa fd [x] (sp w))
    (hsp : ∀ (w : World) (H : Hp) (a : Addr) (ns : List Int), ns.length ≤ n → Only H → SqL (K w.params) H a (ns.map V.int) → sp w [.ref a] H (fun v _ => v = .bl true) fun _ _ _ => False)
    (hCX : ∀ (w : World) (H : Hp) (s : Shared) (e : Value) (s' : Shared), CX w [] H s (fun _ _ _ => False) e s' → False) :
    PySem.W.WalkO q loose XP YP l.row.toRowW d [] (fun f vs => PySem.call f vs) := by
  refine Att.attach_call hn hdf fun w s₀ s₁ mg mb fa o pm cd doc a vs ns G Y ho hd hcd hmg hobj hints hlen hg => ?_
  have KX := hY w _ Y
  obtain ⟨fd, hb, hF⟩ := F w mg fa _ KX G.T.g hmg
  exact law_call KX G.T.g G.T.b G.T.builtins G.T.nolimit hg hobj hints (Nat.le_trans hlen hn2) hr hF hb (fun H hO hS => hsp w H a ns hlen hO hS) fun H e s' => hCX w H s₁ e s'
end L2

/- THE LAST THEOREM (shape; LID, My.* are yours):
   My.Adr: a structure of the addresses that your layer names (classes, functions); My.Txt K t: a structure (Prop) of the equations over K;
   My.txt_mk : {K} {implicit addresses ..} (e1 : nsIn K mainGlobals "law" = some (some (.ref f))) (e2 : K.lookup f = some ⟨oc, od, .func (fnOf "law" "law" params body scope dV kV doc pm an cdv ct), sl⟩) (e3 : codeIn K cdv "law" = true) .. : ∃ t, My.Txt K t

set_option maxRecDepth 100000 in
set_option maxHeartbeats 0 in
theorem PySem.Challenge.cw_LID_holds : PySem.Challenge.rw_LID.Holds := by
  w_on; o_law; k_head; (case hw => w_witness2)
  k_fill
  refine L2.walk_of (l := PySem.Challenge.rw_LID) (n := 63) (k := 40) (x := "script") (CX := fun w => ..) (sp := fun _ => My.sp_law) rfl (by decide) rfl ⟨rfl, by decide, by decide⟩ (fun w h Y => PySem.W.kIn_of Y) ?F ?S ?C
  case F =>
    intro w mg fa h KX G hmg
    have T : ∃ t, My.Txt (L2.KOf KX) t := by
      dsimp only [L2.KOf]                          -- K must stand as «<heap const> w.params» for k_is
      refine' My.txt_mk ?e1 ?e2 ?e3 ..
      (case e1 => PySem.W.k_is)                    -- in the order: a name -> its address -> its object -> its parts
      (case e2 => PySem.W.k_is)
      ..
    obtain ⟨t, T⟩ := T
    have e0 := hmg.symm.trans (PySem.W.mg_of KX G T.law)
    cases e0                                       -- fa is the law's own address
    exact ⟨_, fun s u => .of_eq rfl, fun base kb nb => My.law_fn T kb nb⟩     -- if «.of_eq rfl» comes too early: refine' ⟨_, ?b, fun base kb nb => My.law_fn T kb nb⟩; exact fun s u => .of_eq rfl
  case S => exact fun w H a ns hl hO hS => ..
  case C => exact ..
(the tactic k_is has no namespace: write k_is) -/

/-! SHORT WORDS over the layer: a def of the text, its body, what a loop and a test want. -/
namespace L2
open PySem PySem.Spec PyProof.Rows

/-! ### the text by places -/
def defArgs (s : Stmt) : Arguments := match s with
  | .FunctionDef _ a _ _ _ _ _ _ _ _ => a
  | _ => { posonlyargs := [], args := [], vararg := none, kwonlyargs := [], kw_defaults := [], kwarg := none, defaults := [] }
def defBody (s : Stmt) : List Stmt := match s with
  | .FunctionDef _ _ b _ _ _ _ _ _ _ => b
  | _ => []
def defScope (s : Stmt) : Scope := match s with
  | .FunctionDef _ _ _ _ _ _ sc _ _ _ => sc
  | _ => { kind := .function, names := [], isGenerator := false, isCoroutine := false }

/-! ### no exception leaves a def -/
abbrev CX0 : CXT := fun _ _ _ _ _ _ => False
abbrev E0 : XK := fun _ _ _ => False
theorem pass0 {X : Cx} : Passes CX0 X E0 := fun _ _ _ _ _ _ _ h => h.elim

/-! ### a def (or method) of the text as it stands behind the top -/
structure Fun (K : PySem.W.Frag) (x qual : Str) (st : Stmt) (f : Addr) (fd : FuncData) : Prop where
  ex : ∃ (oc : Value) (od : Option Addr) (kV doc pm : Value) (an : Option Addr) (cdv ct : Value) (osl : Array (Option Value)),
    fd = PySem.W.fnOf x qual (defArgs st) (defBody st) (defScope st) .none kV doc pm an cdv ct ∧ K.lookup f = some ⟨oc, od, .func fd, osl⟩ ∧ PySem.W.codeIn K cdv qual = true
  kp : PySem.W.keepIn K (.ref f) = true
section
variable {P : Program} {w : World} {K : PySem.W.Frag} {mg : Str → Option Value} {base : Heap}
/-- THE RULE for a def: its body as a term of rules, and the reading of that term -/
theorem Fun.ok {x qual : Str} {st : Stmt} {f : Addr} {fd : FuncData} {N ps : List Str} {k : Nat} {sp : Sp} (F : Fun K x qual st f fd) (S : FnScope N ps (defScope st)) (len : ∀ vs H Q E, sp vs H Q E → vs.length = ps.length)
    (hbody : ∀ (cdv : Value) (A : Around) (outer : List Env) (s : Shared) (H : Hp) (vs : List V) (Q : VK) (E : XK), Room k (A.deeper (envOfC qual (defScope st) s.heap.objs.size f cdv)) → sp vs H Q E →
      ∃ t, PSs (cxOf CX0 P w K mg base N qual (defScope st) f cdv A outer s H E).nox (defBody st) t ∧ t { nx := fun _ H' => Q .non H', rt := Q } (start N vs) H) : FnOk P w K mg base CX0 (k + 1) f fd ps sp := by
  obtain ⟨oc, od, kV, doc, pm, an, cdv, ct, osl, rfl, lk, hcd⟩ := F.ex
  refine fn_of lk hcd S len fun A outer s H vs Q E hr hsp => ?_
  obtain ⟨t, h, q⟩ := hbody cdv A outer s H vs Q E hr hsp
  exact ⟨t, h.nox, q⟩
/-- how its arguments bind (no defaults): h is «fun _ _ _ _ _ _ us hl => match us, hl with | [_, _], _ => rfl», one _ a parameter -/
theorem Fun.binds {x qual : Str} {st : Stmt} {f : Addr} {fd : FuncData} {ps : List Str} (F : Fun K x qual st f fd)
    (h : ∀ (kV doc pm : Value) (an : Option Addr) (cdv ct : Value) (us : List Value), us.length = ps.length → bindArgs (PySem.W.fnOf x qual (defArgs st) (defBody st) (defScope st) .none kV doc pm an cdv ct) ⟨us, []⟩ = pure (ps.zip us)) : Binds K fd ps [] := by
  obtain ⟨oc, od, kV, doc, pm, an, cdv, ct, osl, rfl, lk, hcd⟩ := F.ex
  exact .all (h kV doc pm an cdv ct)
theorem fun_mk {x qual : Str} {st : Stmt} {f : Addr} {oc : Value} {od an : Option Addr} {osl : Array (Option Value)} {kV doc pm cdv ct : Value} (l : K.lookup f = some ⟨oc, od, .func (PySem.W.fnOf x qual (defArgs st) (defBody st) (defScope st) .none kV doc pm an cdv ct), osl⟩)
    (c : PySem.W.codeIn K cdv qual = true) (k : PySem.W.keepIn K (.ref f) = true) : Fun K x qual st f (PySem.W.fnOf x qual (defArgs st) (defBody st) (defScope st) .none kV doc pm an cdv ct) := ⟨⟨oc, od, kV, doc, pm, an, cdv, ct, osl, rfl, l, c⟩, k⟩
end
theorem hu_of {A : Around} {k : Nat} (hr : Room k A) : A.units + 1 < cLine := Nat.lt_of_le_of_lt (Nat.add_le_add_left (by decide : 1 ≤ 64) _) hr.units
/-! ### expressions in short: the name that stands in the i-th slot -/
section
variable {X : Cx}
theorem pv (i : Nat) {x : Str} {pos : Pos} (hN : X.N[i]? = some x := by rfl) (hv : Vis X.env.scope x := by first | exact Or.inl rfl | exact Or.inr (Or.inl rfl) | exact Or.inr (Or.inr rfl)) (hd : (x == ("__debug__" : Str)) = false := by decide)
    (hcd : (x == ("__classdict__" : Str)) = false := by decide) : PE X (.Name x pos) (tVar i) := pe_var hN hv hd hcd
end

/-! ### tests -/
theorem iteF {A B : Prop} (h : B) : if false = true then A else B := by
  rw [if_neg Bool.false_ne_true]
  exact h
theorem iteT {A B : Prop} (h : A) : if true = true then A else B := by
  rw [if_pos rfl]
  exact h
theorem ite2 {c A B : Prop} [Decidable c] (h1 : c → A) (h2 : ¬ c → B) : if c then A else B := by
  by_cases h : c
  · rw [if_pos h]
    exact h1 h
  · rw [if_neg h]
    exact h2 h
theorem iteNS {c A B : Prop} [Decidable c] (hc : c) (h : B) : if (!decide c) = true then A else B := by
  rw [decide_eq_true hc]
  exact iteF h

/-! ### heaps -/
/-- all that was tracked is as it was -/
def Same (H H' : Hp) : Prop := ∀ b o, H b = some o → H' b = some o
theorem Same.refl (H : Hp) : Same H H := fun _ _ h => h
theorem Same.trans {H H1 H2 : Hp} (a : Same H H1) (b : Same H1 H2) : Same H H2 := fun c o h => b c o (a c o h)
theorem Same.free {H H' : Hp} (e : Same H H') {l : Addr} (h : H' l = Option.none) : H l = Option.none := by
  cases q : H l with
  | none => rfl
  | some o =>
    rw [e l o q] at h
    cases h
theorem Same.seq {K : PySem.W.Frag} {H H' : Hp} {a : Addr} {xs : List V} (e : Same H H') (h : SqL K H a xs) : SqL K H' a xs := by
  rcases h with (h | ⟨o, h⟩) | h
  · exact .inl (.inl (e _ _ h))
  · exact .inl (.inr ⟨o, e _ _ h⟩)
  · exact .inr h

end L2

namespace InkX
open PySem PySem.Spec PyProof.Rows L2

/-! ### isinstance, as a call by values -/
section
variable {X : Cx}
theorem call_isinst : CallR X (.builtin "isinstance") (fun xs H Q => ∃ x T t b, xs = [x, .ty T] ∧ TyOf X.K H x t ∧ PySem.W.kitOne X.K t (.type T) = some b ∧ Q (.bl b) H) := by
  intro pins s σ H xs us Q I r h
  obtain ⟨x, T, t, b, rfl, ty, e, q⟩ := h
  obtain ⟨u, v, rfl, rx, rv⟩ := r.two
  cases (show v = Value.type T from rv)
  exact isinst_ok I rx ty e fun tk => ⟨.bl b, H, I.tok tk, rfl, q⟩
/-- a built-in type as a value -/
theorem pe_ty {x : Str} {T : String} {pos : Pos} (hg : Gl X x) (hm : X.mg x = none) (hv : bootBuiltins x = some (.type T)) (hn : x ≠ "__name__" := by decide) (hd : (x == ("__debug__" : Str)) = false := by decide) : PE X (.Name x pos) (tC (.ty T)) :=
  pe_bltn hg hm hv rfl hn hd
end

/-! ### several untracked records of ours have turned -/
theorem turnedN {X : Cx} {pins : List (Addr × Obj)} {σ : L2.St} {H : Hp} {s : Shared} {h' : Heap} {t' : Nat} {ch : List Addr} (I : Inv X pins σ H s) (k : ∀ b o, b ∉ ch → s.heap.get? b = some o → h'.get? b = some o)
    (hf : ∀ b ∈ ch, FpOk X pins H b) : Inv X pins σ H { s with heap := h', toks := t' } := by
  have nit : ∀ b u, H b = some u → b ∉ ch := fun b u e z => by rw [(hf b z).1] at e; cases e
  refine I.step (g' := s.gens) (d' := s.drawn) (ch := ch) (fun b hb => ?_) (fun b o _ _ hc e _ => k b o hc e) (fun b o _ _ hc e _ => ⟨o.slots, k b o hc e⟩) (fun _ _ _ _ n => n)
    (fun b o hc e => ⟨o, k b o hc e⟩) (fun _ _ e => e) (fun _ _ _ e => e) (fun b ps e => ⟨#[], by rw [e]; simp⟩) (fun m hm => ?_) (fun b u e => ?_) I.bare
  · obtain ⟨_, f1, _, f3, f4, f5⟩ := hf b hb
    exact ⟨f3, f1, f4, f5⟩
  · obtain ⟨o, es, ep, ho, r⟩ := hm
    exact ⟨o, es, ep, k _ o (fun z => (hf _ z).2.1 rfl) ho, r⟩
  · refine (I.hok b u e).stay (fun c v hc q => k c v ?_ q) (fun _ q => q) fun _ _ q => q
    rcases hc with z | z
    · rw [z]; exact nit b u e
    · exact nit c _ z
/-- .. and a tuple that stands there untracked is taken up -/
theorem adopt {X : Cx} {pins : List (Addr × Obj)} {σ : L2.St} {H : Hp} {s : Shared} {h' : Heap} {t' : Nat} {ch : List Addr} {p : Addr} {xs : List V} {us : List Value} (I : Inv X pins σ H s) (k : ∀ b o, b ∉ ch → s.heap.get? b = some o → h'.get? b = some o)
    (hf : ∀ b ∈ ch, FpOk X pins H b) (hp : s.heap.objs.size ≤ p) (hz : xs.length ≤ sizeLine) (rv : Vals xs us) (ht : IsTup h' p us.toArray) : Inv X pins σ (upd H p (.tup xs)) { s with heap := h', toks := t' } := by
  have hn : H p = none := I.hok.fresh hp
  have nit : ∀ b u, H b = some u → b ∉ ch := fun b u e z => by rw [(hf b z).1] at e; cases e
  have nep : ∀ b o, s.heap.get? b = some o → b ≠ p := fun b o e z => by subst z; exact absurd (Nat.lt_of_lt_of_le (Heap.lt_size e) hp) (Nat.lt_irrefl _)
  refine I.step (g' := s.gens) (d' := s.drawn) (ch := ch) (fun b hb => ?_) (fun b o _ _ hc e _ => k b o hc e) (fun b o _ _ hc e _ => ⟨o.slots, k b o hc e⟩) (fun b o _ e n => by rw [upd_ne (nep b o e)]; exact n)
    (fun b o hc e => ⟨o, k b o hc e⟩) (fun b ys e => by rw [upd_ne (ne_of_none e hn)]; exact e) (fun b _ _ e => by rw [upd_ne (ne_of_none e hn)]; exact e) (fun b ps e => ⟨#[], by rw [upd_ne (ne_of_none e hn), e]; simp⟩) (fun m hm => ?_) (fun b u e => ?_) I.bare
  · obtain ⟨_, f1, _, f3, f4, f5⟩ := hf b hb
    exact ⟨f3, f1, f4, f5⟩
  · obtain ⟨o, es, ep, ho, r⟩ := hm
    exact ⟨o, es, ep, k _ o (fun z => (hf _ z).2.1 rfl) ho, r⟩
  · by_cases hb : b = p
    · subst hb
      rw [upd_same] at e
      cases e
      exact ⟨hz, us, rv, ht⟩
    · rw [upd_ne hb] at e
      refine (I.hok b u e).stay (fun c v hc q => k c v ?_ q) (fun c q => by rw [upd_ne (ne_of_none q hn)]; exact q) fun c ys q => by rw [upd_ne (ne_of_none q hn)]; exact q
      rcases hc with z | z
      · rw [z]; exact nit b u e
      · exact nit c _ z

/-! ### zip of two lists, or of two tuples -/
/-- k: a list (true) or a tuple (false) -/
def ItA (k : Bool) (h : Heap) (i a : Addr) (n : Nat) : Prop := match k with
  | true => h.IsListIter i a n
  | false => h.IsTupleIter i a n
def SqA (k : Bool) (h : Heap) (a : Addr) (xs : Array Value) : Prop := match k with
  | true => h.IsList a xs
  | false => h.IsTuple a xs
theorem ItA.at {k : Bool} {h h' : Heap} {i a : Addr} {n : Nat} (x : ItA k h i a n) (e : ∀ o, h.get? i = some o → h'.get? i = some o) : ItA k h' i a n := by
  cases k
  · obtain ⟨o, ho, r⟩ := x; exact ⟨o, e o ho, r⟩
  · obtain ⟨o, ho, r⟩ := x; exact ⟨o, e o ho, r⟩
theorem SqA.at {k : Bool} {h h' : Heap} {a : Addr} {xs : Array Value} (x : SqA k h a xs) (e : ∀ o, h.get? a = some o → h'.get? a = some o) : SqA k h' a xs := by
  cases k
  · obtain ⟨o, ho, r⟩ := x; exact ⟨o, e o ho, r⟩
  · obtain ⟨o, ho, r⟩ := x; exact ⟨o, e o ho, r⟩
theorem ItA.obj {k : Bool} {h : Heap} {i a : Addr} {n : Nat} (x : ItA k h i a n) : ∃ o, h.get? i = some o ∧ ∀ v, o.data ≠ .cell v := by
  cases k
  · obtain ⟨o, ho, _, d⟩ := x; exact ⟨o, ho, fun v z => by rw [d] at z; cases z⟩
  · obtain ⟨o, ho, _, d⟩ := x; exact ⟨o, ho, fun v z => by rw [d] at z; cases z⟩
section
variable {prog : Program} {w : World} {A : Around} {E : Value → Shared → Prop} {s : Shared}
theorem drawT_item {it t : Addr} {i : Nat} {items : Array Value} {x : Value} {Q : Value → Shared → Prop} (hit : s.heap.IsTupleIter it t i) (ht : s.heap.IsTuple t items) (hx : items[i]? = some x)
    (hQ : ∀ h', h'.IsTupleIter it t (i + 1) → Heap.SameBut it s.heap h' → Q x { s with heap := h' }) : wpAny (model prog w) A (Builtin.SmallTypes.nextOf (.ref it)) Q E s := by
  obtain ⟨o, ho, hc, hd⟩ := id hit
  obtain ⟨ol, hol, _, nl, hdl⟩ := ht
  unfold Builtin.SmallTypes.nextOf
  refine wpAny_bind (wpAny_callSpecial?_slot (name := Str.ofString "__next__") hit.typeIs F.slot_tuple_iterator_next (wpAny_call_entry F.slot_tuple_iterator_next hit.typeIs F.entry_tuple_iterator_next ?_ (F.args_tuple_iterator_next_1 _)))
  show wpAny _ _ (field (.ref it) 0 >>= _) _ _ s
  refine wpAny_bind (wpAny_field ho hd (x := .ref t) rfl ?_)
  show wpAny _ _ (if (Value.ref t == Value.none) = true then _ else _) _ _ s
  rw [if_neg (show ¬ ((Value.ref t == Value.none) = true) from Bool.false_ne_true)]
  show wpAny _ _ (field (.ref it) 1 >>= _) _ _ s
  refine wpAny_bind (wpAny_field ho hd (x := .int i 0) rfl ?_)
  show wpAny _ _ (seqItems? (.ref t) >>= _) _ _ s
  refine wpAny_bind (wpAny_seqItems hol hdl ?_)
  simp only [Int.toNat_natCast, hx]
  refine wpAny_bind (wpAny_setField ho hd (by simp) (wpAny_pure ⟨x, rfl, wpAny_pure (hQ _ ?_ (Heap.SameBut.update ..))⟩))
  refine ⟨_, Heap.get?_update_self _ ho (Obj.isFreed_of_fields (Obj.data_mapFields hd _)), (Obj.cls_mapFields ..).trans hc, ?_⟩
  rw [Obj.data_mapFields hd]; simp [rawInt]
theorem drawT_end {it t : Addr} {i : Nat} {items : Array Value} {Q : Value → Shared → Prop} (hh : A.handled = none) (hit : s.heap.IsTupleIter it t i) (ht : s.heap.IsTuple t items) (hx : items[i]? = none)
    (hE : ∀ h' e, Heap.ExtBut it s.heap h' → (∃ o, h'.get? e = some o ∧ o.cls = .type "StopIteration") → E (.ref e) { s with heap := h' }) : wpAny (model prog w) A (Builtin.SmallTypes.nextOf (.ref it)) Q E s := by
  obtain ⟨o, ho, hc, hd⟩ := id hit
  obtain ⟨ol, hol, _, nl, hdl⟩ := ht
  unfold Builtin.SmallTypes.nextOf
  refine wpAny_bind (wpAny_callSpecial?_slot (name := Str.ofString "__next__") hit.typeIs F.slot_tuple_iterator_next (wpAny_call_entry F.slot_tuple_iterator_next hit.typeIs F.entry_tuple_iterator_next ?_ (F.args_tuple_iterator_next_1 _)))
  show wpAny _ _ (field (.ref it) 0 >>= _) _ _ s
  refine wpAny_bind (wpAny_field ho hd (x := .ref t) rfl ?_)
  show wpAny _ _ (if (Value.ref t == Value.none) = true then _ else _) _ _ s
  rw [if_neg (show ¬ ((Value.ref t == Value.none) = true) from Bool.false_ne_true)]
  show wpAny _ _ (field (.ref it) 1 >>= _) _ _ s
  refine wpAny_bind (wpAny_field ho hd (x := .int i 0) rfl ?_)
  show wpAny _ _ (seqItems? (.ref t) >>= _) _ _ s
  refine wpAny_bind (wpAny_seqItems hol hdl ?_)
  simp only [Int.toNat_natCast, hx]
  refine wpAny_bind (wpAny_rule (wpAny_bind (wpAny_setField ho hd (by simp) ?_)))
  show wpAny _ _ (newExc (.type "StopIteration") [] >>= _) _ _ _
  refine wpAny_bind ?_
  simp only [newExc, newTuple]
  refine wpAny_bind (wpAny_newObj_type ?_ (by size_fits))
  refine wpAny_bind (m := firstArgMember _ _) (wpAny_of_eq (a := Value.none) (by first | rfl | (simp only [firstArgMember]; rfl)) ?_)
  refine wpAny_newObj_type ?_ (by size_fits)
  simp only [raiseNew]
  refine wpAny_bind (wpAny_handled ?_)
  first | rw [show A.in1.handled = none from hh] | rw [hh]
  refine wpAny_bind (wpAny_pure (wpAny_throw ?_))
  exact hE _ _ (((Heap.SameBut.update ..).extBut.push _).push _) ⟨_, Heap.get?_push_size _ rfl, rfl⟩
theorem drawA_item {k : Bool} {it t : Addr} {i : Nat} {items : Array Value} {x : Value} {Q : Value → Shared → Prop} (hit : ItA k s.heap it t i) (ht : SqA k s.heap t items) (hx : items[i]? = some x)
    (hQ : ∀ h', ItA k h' it t (i + 1) → Heap.SameBut it s.heap h' → Q x { s with heap := h' }) : wpAny (model prog w) A (Builtin.SmallTypes.nextOf (.ref it)) Q E s := by
  cases k
  · exact drawT_item hit ht hx hQ
  · exact wpAny_nextOf_list_item hit ht hx hQ
theorem drawA_end {k : Bool} {it t : Addr} {i : Nat} {items : Array Value} {Q : Value → Shared → Prop} (hh : A.handled = none) (hit : ItA k s.heap it t i) (ht : SqA k s.heap t items) (hx : items[i]? = none)
    (hE : ∀ h' e, Heap.ExtBut it s.heap h' → (∃ o, h'.get? e = some o ∧ o.cls = .type "StopIteration") → E (.ref e) { s with heap := h' }) : wpAny (model prog w) A (Builtin.SmallTypes.nextOf (.ref it)) Q E s := by
  cases k
  · exact drawT_end hh hit ht hx hE
  · exact wpAny_nextOf_list_end hh hit ht hx hE
abbrev itObj (k : Bool) (l : Addr) : Obj := { cls := .type (if k then "list_iterator" else "tuple_iterator"), data := .fields #[.ref l, .int 0 0] }
theorem iterA {k : Bool} {l : Addr} {xs : Array Value} {Q : Value → Shared → Prop} (h : SqA k s.heap l xs) (hQ : Q (.ref s.heap.objs.size) { s with heap := s.heap.push (itObj k l) }) : wpAny (model prog w) A (pyIter (.ref l)) Q E s := by
  cases k
  · exact wpAny_pyIter_tuple h hQ
  · exact wpAny_pyIter_list h hQ

/-- the zip's own records -/
structure ZipSt (k : Bool) (h : Heap) (z TI TO i1 i2 l1 l2 : Addr) (n : Nat) : Prop where
  z : IsZip h z TI TO .none
  ti : IsPair h TI (.ref i1) (.ref i2)
  to : ∃ a b, IsPair h TO a b
  i1 : ItA k h i1 l1 n
  i2 : ItA k h i2 l2 n
theorem zipA_item {k : Bool} {z TI TO i1 i2 l1 l2 : Addr} {n : Nat} {xs ys : Array Value} {x y : Value} {Q : Value → Shared → Prop} (D : ZipApart z TI TO i1 i2 l1 l2) (st : ZipSt k s.heap z TI TO i1 i2 l1 l2 n)
    (hl1 : SqA k s.heap l1 xs) (hl2 : SqA k s.heap l2 ys) (hx : xs[n]? = some x) (hy : ys[n]? = some y)
    (hQ : ∀ h', IsZip h' z TI TO (rawInt s.heap.objs.size) → IsPair h' TO x y → ItA k h' i1 l1 (n + 1) → ItA k h' i2 l2 (n + 1) → IsPair h' s.heap.objs.size x y →
      (∀ c o, c ≠ z → c ≠ TO → c ≠ i1 → c ≠ i2 → s.heap.get? c = some o → h'.get? c = some o) → Q (.ref s.heap.objs.size) { s with heap := h' }) :
    wpAny (model prog w) A (Builtin.«zip.__next__» ⟨[.ref z], []⟩) (fun fin s' => ∃ v, fin = .done (.ret v) ∧ Q v s') E s := by
  obtain ⟨hz, hTI, ⟨a, b, hTO⟩, h1, h2⟩ := st
  show wpAny _ _ (field (.ref z) 2 >>= _) _ _ _
  refine wpAny_bind (wpAny_field hz rfl (x := .bool false) rfl ?_)
  show wpAny _ _ (field (.ref z) 3 >>= _) _ _ _
  refine wpAny_bind (wpAny_field hz rfl (x := .ref TI) rfl (wpAny_bind (wpAny_seqItems hTI rfl ?_)))
  show wpAny _ _ (Builtin.SmallTypes.ownedTupleIsFree (.ref z) >>= _) _ _ _
  refine wpAny_bind ?_
  unfold Builtin.SmallTypes.ownedTupleIsFree
  refine wpAny_bind (wpAny_field hz rfl (x := .none) rfl (wpAny_pure ?_))
  simp only [if_true]
  refine wpAny_bind (wpAny_rule (wpAny_bind (wpAny_field hz rfl (x := .ref TO) rfl (wpAny_bind (wpAny_setField_rec hz (by simp) fun g1 z1 c1 => ?_)))))
  replace z1 : IsZip g1 z TI TO .ellipsis := z1
  refine wpAny_bind ?_
  simp only [List.zipIdx_cons, List.zipIdx_nil, List.forIn_cons, List.forIn_nil]
  refine wpAny_bind (wpAny_bind (wpAny_onRaise ?_))
  show wpAny _ _ (Builtin.SmallTypes.nextOf (.ref i1) >>= _) _ _ _
  refine wpAny_bind (drawA_item (h1.at fun o e => c1.extBut _ _ D.i1z e) (hl1.at fun o e => c1.extBut _ _ D.l1z e) hx fun g2 h12 c2 => wpAny_pure ?_)
  have o2 : IsPair g2 TO a b := c2.extBut _ _ D.TOi1 (c1.extBut _ _ D.TOz hTO)
  refine wpAny_bind (wpAny_seqItems o2 rfl (wpAny_bind (wpAny_updateSeq_pair o2 fun g3 o3 c3 => ?_)))
  replace o3 : IsPair g3 TO x b := o3
  refine wpAny_bind (wpAny_letGo (wpAny_pure (wpAny_bind (wpAny_bind (wpAny_onRaise ?_)))))
  show wpAny _ _ (Builtin.SmallTypes.nextOf (.ref i2) >>= _) _ _ _
  refine wpAny_bind (drawA_item (((h2.at fun o e => c1.extBut _ _ D.i2z e).at fun o e => c2.extBut _ _ D.i12.symm e).at fun o e => c3.extBut _ _ D.TOi2.symm e)
    (((hl2.at fun o e => c1.extBut _ _ D.l2z e).at fun o e => c2.extBut _ _ D.l2i1 e).at fun o e => c3.extBut _ _ D.l2TO e) hy fun g4 h24 c4 => wpAny_pure ?_)
  have o4 : IsPair g4 TO x b := c4.extBut _ _ D.TOi2 o3
  refine wpAny_bind (wpAny_seqItems o4 rfl (wpAny_bind (wpAny_updateSeq_pair o4 fun g5 o5 c5 => ?_)))
  replace o5 : IsPair g5 TO x y := o5
  refine wpAny_bind (wpAny_letGo (wpAny_pure (wpAny_pure (wpAny_bind (wpAny_seqItems o5 rfl (wpAny_bind (wpAny_newTuple ?_)))))))
  have sz : g5.objs.size = s.heap.objs.size := by rw [c5.1, c4.1, c3.1, c2.1, c1.1]
  have z5 : IsZip g5 z TI TO .ellipsis := c5.extBut _ _ D.TOz.symm (c4.extBut _ _ D.i2z.symm (c3.extBut _ _ D.TOz.symm (c2.extBut _ _ D.i1z.symm z1)))
  have k5 : ∀ c o, c ≠ z → c ≠ TO → c ≠ i1 → c ≠ i2 → s.heap.get? c = some o → g5.get? c = some o := fun c o n1 n2 n3 n4 e => c5.extBut _ _ n2 (c4.extBut _ _ n4 (c3.extBut _ _ n2 (c2.extBut _ _ n3 (c1.extBut _ _ n1 e))))
  have h15 : ItA k g5 i1 l1 (n + 1) := ((h12.at fun o e => c3.extBut _ _ D.TOi1.symm e).at fun o e => c4.extBut _ _ D.i12 e).at fun o e => c5.extBut _ _ D.TOi1.symm e
  have h25 : ItA k g5 i2 l2 (n + 1) := h24.at fun o e => c5.extBut _ _ D.TOi2.symm e
  have zlt : z < g5.objs.size := Heap.lt_size z5
  show wpAny _ _ (Builtin.SmallTypes.ownedTupleHandOut (.ref z) (.ref g5.objs.size) >>= _) _ _ _
  refine wpAny_bind ?_
  unfold Builtin.SmallTypes.ownedTupleHandOut
  have z6 : IsZip (g5.push { cls := .type "tuple", data := .seq #[x, y] }) z TI TO .ellipsis := Heap.get?_push_of_some _ z5
  refine wpAny_bind (wpAny_setField_rec z6 (by simp) fun g7 z7 c7 => ?_)
  replace z7 : IsZip g7 z TI TO (rawInt g5.objs.size) := z7
  refine wpAny_setField_rec z7 (by simp) fun g8 z8 c8 => ?_
  replace z8 : IsZip g8 z TI TO (rawInt g5.objs.size) := z8
  have up : ∀ c o, c ≠ z → g5.get? c = some o → g8.get? c = some o := fun c o n1 e => c8.extBut _ _ n1 (c7.extBut _ _ n1 (Heap.get?_push_of_some _ e))
  have t8 : IsPair g8 g5.objs.size x y := c8.extBut _ _ (Nat.ne_of_gt zlt) (c7.extBut _ _ (Nat.ne_of_gt zlt) (Heap.get?_push_size _ rfl))
  rw [sz] at z8 t8
  refine wpAny_pure ⟨_, rfl, ?_⟩
  show Q (.ref g5.objs.size) _
  rw [sz]
  exact hQ g8 z8 (up _ _ D.TOz o5) (h15.at fun o e => up _ o D.i1z e) (h25.at fun o e => up _ o D.i2z e) t8 fun c o n1 n2 n3 n4 e => up c o n1 (k5 c o n1 n2 n3 n4 e)
theorem zipA_end {k : Bool} {z TI TO i1 i2 l1 l2 : Addr} {n : Nat} {xs ys : Array Value} {Q : Fin → Shared → Prop} (hh : A.handled = none) (D : ZipApart z TI TO i1 i2 l1 l2) (st : ZipSt k s.heap z TI TO i1 i2 l1 l2 n)
    (hl1 : SqA k s.heap l1 xs) (hl2 : SqA k s.heap l2 ys) (hend : xs[n]? = none ∨ ys[n]? = none)
    (hE : ∀ h' e, (∀ c o, c ≠ z → c ≠ TO → c ≠ i1 → c ≠ i2 → s.heap.get? c = some o → h'.get? c = some o) → (∃ o, h'.get? e = some o ∧ o.cls = .type "StopIteration") → E (.ref e) { s with heap := h' }) :
    wpAny (model prog w) A (Builtin.«zip.__next__» ⟨[.ref z], []⟩) Q E s := by
  obtain ⟨hz, hTI, ⟨a, b, hTO⟩, h1, h2⟩ := st
  show wpAny _ _ (field (.ref z) 2 >>= _) _ _ _
  refine wpAny_bind (wpAny_field hz rfl (x := .bool false) rfl ?_)
  show wpAny _ _ (field (.ref z) 3 >>= _) _ _ _
  refine wpAny_bind (wpAny_field hz rfl (x := .ref TI) rfl (wpAny_bind (wpAny_seqItems hTI rfl ?_)))
  show wpAny _ _ (Builtin.SmallTypes.ownedTupleIsFree (.ref z) >>= _) _ _ _
  refine wpAny_bind ?_
  unfold Builtin.SmallTypes.ownedTupleIsFree
  refine wpAny_bind (wpAny_field hz rfl (x := .none) rfl (wpAny_pure ?_))
  simp only [if_true]
  refine wpAny_bind (wpAny_rule (wpAny_bind (wpAny_field hz rfl (x := .ref TO) rfl (wpAny_bind (wpAny_setField_rec hz (by simp) fun g1 z1 c1 => ?_)))))
  replace z1 : IsZip g1 z TI TO .ellipsis := z1
  refine wpAny_bind ?_
  simp only [List.zipIdx_cons, List.zipIdx_nil, List.forIn_cons, List.forIn_nil]
  refine wpAny_bind (wpAny_bind (wpAny_onRaise ?_))
  show wpAny _ _ (Builtin.SmallTypes.nextOf (.ref i1) >>= _) _ _ _
  cases hx : xs[n]? with
  | none =>
    refine wpAny_bind (drawA_end hh (h1.at fun o e => c1.extBut _ _ D.i1z e) (hl1.at fun o e => c1.extBut _ _ D.l1z e) hx fun g2 e c2 he => ?_)
    obtain ⟨oe, hoe, hce⟩ := he
    have z2 : IsZip g2 z TI TO .ellipsis := c2 _ _ D.i1z.symm z1
    have hez : e ≠ z := fun x => by subst x; rw [z2] at hoe; cases hoe; simp at hce
    exact wpAny_setField_rec z2 (by simp) fun g3 _ c3 => hE g3 e (fun c o n1 _ n3 _ x => c3.extBut _ _ n1 (c2 _ _ n3 (c1.extBut _ _ n1 x))) ⟨oe, c3.extBut _ _ hez hoe, hce⟩
  | some x =>
    have hy : ys[n]? = none := by rcases hend with h | h; (rw [hx] at h; cases h); exact h
    refine wpAny_bind (drawA_item (h1.at fun o e => c1.extBut _ _ D.i1z e) (hl1.at fun o e => c1.extBut _ _ D.l1z e) hx fun g2 h12 c2 => wpAny_pure ?_)
    have o2 : IsPair g2 TO a b := c2.extBut _ _ D.TOi1 (c1.extBut _ _ D.TOz hTO)
    refine wpAny_bind (wpAny_seqItems o2 rfl (wpAny_bind (wpAny_updateSeq_pair o2 fun g3 o3 c3 => ?_)))
    refine wpAny_bind (wpAny_letGo (wpAny_pure (wpAny_bind (wpAny_bind (wpAny_onRaise ?_)))))
    show wpAny _ _ (Builtin.SmallTypes.nextOf (.ref i2) >>= _) _ _ _
    refine wpAny_bind (drawA_end hh (((h2.at fun o e => c1.extBut _ _ D.i2z e).at fun o e => c2.extBut _ _ D.i12.symm e).at fun o e => c3.extBut _ _ D.TOi2.symm e)
      (((hl2.at fun o e => c1.extBut _ _ D.l2z e).at fun o e => c2.extBut _ _ D.l2i1 e).at fun o e => c3.extBut _ _ D.l2TO e) hy fun g4 e c4 he => ?_)
    obtain ⟨oe, hoe, hce⟩ := he
    have z4 : IsZip g4 z TI TO .ellipsis := c4 _ _ D.i2z.symm (c3.extBut _ _ D.TOz.symm (c2.extBut _ _ D.i1z.symm z1))
    have hez : e ≠ z := fun x => by subst x; rw [z4] at hoe; cases hoe; simp at hce
    exact wpAny_setField_rec z4 (by simp) fun g5 _ c5 => hE g5 e (fun c o n1 n2 n3 n4 x => c5.extBut _ _ n1 (c4 _ _ n4 (c3.extBut _ _ n2 (c2.extBut _ _ n3 (c1.extBut _ _ n1 x))))) ⟨oe, c5.extBut _ _ hez hoe, hce⟩
theorem nextA_item {k : Bool} {z TI TO i1 i2 l1 l2 : Addr} {n : Nat} {xs ys : Array Value} {x y : Value} {Q : Option Value → Shared → Prop} (D : ZipApart z TI TO i1 i2 l1 l2) (st : ZipSt k s.heap z TI TO i1 i2 l1 l2 n)
    (hl1 : SqA k s.heap l1 xs) (hl2 : SqA k s.heap l2 ys) (hx : xs[n]? = some x) (hy : ys[n]? = some y)
    (hQ : ∀ h', IsZip h' z TI TO (rawInt s.heap.objs.size) → IsPair h' TO x y → ItA k h' i1 l1 (n + 1) → ItA k h' i2 l2 (n + 1) → IsPair h' s.heap.objs.size x y →
      (∀ c o, c ≠ z → c ≠ TO → c ≠ i1 → c ≠ i2 → s.heap.get? c = some o → h'.get? c = some o) → Q (some (.ref s.heap.objs.size)) { s with heap := h' }) : wpAny (model prog w) A (pyNext (.ref z)) Q E s := by
  have hT : s.TypeIs (.ref z) "zip" := ⟨_, st.z, rfl⟩
  unfold pyNext
  exact wpAny_bind (wpAny_attempt (wpAny_callSpecial?_slot (name := Str.ofString "__next__") hT F.slot_zip_next (wpAny_call_entry F.slot_zip_next hT F.entry_zip_next
    (zipA_item D st hl1 hl2 hx hy fun h' a1 a2 a3 a4 a5 a7 => wpAny_pure (hQ h' a1 a2 a3 a4 a5 a7)) (F.args_zip_next_1 _))))
theorem nextA_end {k : Bool} {z TI TO i1 i2 l1 l2 : Addr} {n : Nat} {xs ys : Array Value} {Q : Option Value → Shared → Prop} (hh : A.handled = none) (D : ZipApart z TI TO i1 i2 l1 l2) (st : ZipSt k s.heap z TI TO i1 i2 l1 l2 n)
    (hl1 : SqA k s.heap l1 xs) (hl2 : SqA k s.heap l2 ys) (hend : xs[n]? = none ∨ ys[n]? = none)
    (hQ : ∀ h', (∀ c o, c ≠ z → c ≠ TO → c ≠ i1 → c ≠ i2 → s.heap.get? c = some o → h'.get? c = some o) → Q none { s with heap := h' }) : wpAny (model prog w) A (pyNext (.ref z)) Q E s := by
  have hT : s.TypeIs (.ref z) "zip" := ⟨_, st.z, rfl⟩
  unfold pyNext
  refine wpAny_bind (wpAny_attempt (wpAny_callSpecial?_slot (name := Str.ofString "__next__") hT F.slot_zip_next (wpAny_call_entry F.slot_zip_next hT F.entry_zip_next
    (zipA_end hh D st hl1 hl2 hend fun h' e hk he => ?_) (F.args_zip_next_1 _))))
  obtain ⟨o, ho, hc⟩ := he
  exact wpAny_bind (wpAny_isInstance (T := "StopIteration") (b := true) ⟨o, ho, hc⟩ isSubtype_stop (wpAny_pure (hQ _ hk)))
end
abbrev zH1 (k : Bool) (h : Heap) (l1 : Addr) : Heap := h.push (itObj k l1)
abbrev zH2 (k : Bool) (h : Heap) (l1 l2 : Addr) : Heap := (zH1 k h l1).push (itObj k l2)
abbrev zH3 (k : Bool) (h : Heap) (l1 l2 : Addr) : Heap := (zH2 k h l1 l2).push { cls := .type "tuple", data := .seq #[.ref h.objs.size, .ref (zH1 k h l1).objs.size] }
abbrev zH4 (k : Bool) (h : Heap) (l1 l2 : Addr) : Heap := (zH3 k h l1 l2).push { cls := .type "tuple", data := .seq #[.none, .none] }
abbrev zH5 (k : Bool) (h : Heap) (l1 l2 : Addr) : Heap := (zH4 k h l1 l2).push { cls := .type "zip", data := .fields #[.none, .bool false, .bool false, .ref (zH2 k h l1 l2).objs.size, .ref (zH3 k h l1 l2).objs.size] }
theorem meets_zipA (k : Bool) (l1 l2 : Addr) (xs ys : Array Value) :
    Meets (Builtin.«zip.__new__» ⟨[.type "zip", .ref l1, .ref l2], []⟩) (fun _ R s => SqA k s.heap l1 xs ∧ SqA k s.heap l2 ys ∧ R (.ok (.ret (.ref (zH4 k s.heap l1 l2).objs.size))) { s with heap := zH5 k s.heap l1 l2 }) :=
  .of_wp fun prog w A R s h => by
    obtain ⟨hp, g, d, tk, os⟩ := s; obtain ⟨hl1, hl2, h⟩ := h
    have hsub := sub_zip
    have hL1 : SqA k (Shared.heap ⟨hp, g, d, tk, os⟩) l1 xs := hl1
    have hL2 : SqA k (Shared.heap ⟨hp.push (itObj k l1), g, d, tk, os⟩) l2 ys := hl2.at fun o e => Heap.get?_push_of_some _ e
    wp_walk using iterA hL1, iterA hL2
    exact ⟨_, rfl, h⟩
section
variable {prog : Program} {w : World} {A : Around} {E : Value → Shared → Prop} {s : Shared}
theorem call_zipA {k : Bool} {l1 l2 : Addr} {xs ys : Array Value} {Q : Value → Shared → Prop} (hl1 : SqA k s.heap l1 xs) (hl2 : SqA k s.heap l2 ys)
    (h : ∀ h', ZipSt k h' (s.heap.objs.size + 4) (s.heap.objs.size + 2) (s.heap.objs.size + 3) s.heap.objs.size (s.heap.objs.size + 1) l1 l2 0 → (∀ c o, s.heap.get? c = some o → h'.get? c = some o) → Q (.ref (s.heap.objs.size + 4)) { s with heap := h' }) :
    wpAny (model prog w) A (call (.type "zip") [.ref l1, .ref l2]) Q E s := by
  refine callType_new F.called_zip (by decide) (F.typeCall_zip_2 _ _) (F.newCall_zip_2 _ _) (fun obj => F.args_object_init_3 obj _ _) F.entry_zip_new (meets_zipA k l1 l2 xs ys) ⟨hl1, hl2, ?_⟩
  have z1 : (zH1 k s.heap l1).objs.size = s.heap.objs.size + 1 := Heap.size_push ..
  have z2 : (zH2 k s.heap l1 l2).objs.size = s.heap.objs.size + 2 := by rw [Heap.size_push, z1]
  have z3 : (zH3 k s.heap l1 l2).objs.size = s.heap.objs.size + 3 := by rw [Heap.size_push, z2]
  have z4 : (zH4 k s.heap l1 l2).objs.size = s.heap.objs.size + 4 := by rw [Heap.size_push, z3]
  have g5 : (zH5 k s.heap l1 l2).get? (zH4 k s.heap l1 l2).objs.size = some _ := Heap.get?_push_size _ rfl
  have g4 : (zH5 k s.heap l1 l2).get? (zH3 k s.heap l1 l2).objs.size = some _ := Heap.get?_push_of_some _ (Heap.get?_push_size _ rfl)
  have g3 : (zH5 k s.heap l1 l2).get? (zH2 k s.heap l1 l2).objs.size = some _ := Heap.get?_push_of_some _ (Heap.get?_push_of_some _ (Heap.get?_push_size _ rfl))
  have g2 : (zH5 k s.heap l1 l2).get? (zH1 k s.heap l1).objs.size = some (itObj k l2) := Heap.get?_push_of_some _ (Heap.get?_push_of_some _ (Heap.get?_push_of_some _ (Heap.get?_push_size _ rfl)))
  have g1 : (zH5 k s.heap l1 l2).get? s.heap.objs.size = some (itObj k l1) := Heap.get?_push_of_some _ (Heap.get?_push_of_some _ (Heap.get?_push_of_some _ (Heap.get?_push_of_some _ (Heap.get?_push_size _ rfl))))
  show _ ∧ _
  rw [z2, z3, z4] at g5
  rw [z1, z2] at g3
  rw [z3] at g4
  rw [z1] at g2
  rw [z4]
  refine ⟨⟨_, g5, rfl⟩, h _ ⟨g5, g3, ⟨_, _, g4⟩, ?_, ?_⟩ fun c o x => Heap.get?_push_of_some _ (Heap.get?_push_of_some _ (Heap.get?_push_of_some _ (Heap.get?_push_of_some _ (Heap.get?_push_of_some _ x))))⟩
  · cases k
    · exact ⟨_, g1, rfl, rfl⟩
    · exact ⟨_, g1, rfl, rfl⟩
  · cases k
    · exact ⟨_, g2, rfl, rfl⟩
    · exact ⟨_, g2, rfl, rfl⟩
end
/-- a list or a tuple that is read -/
def SqB (K : PySem.W.Frag) (k : Bool) (H : Hp) (a : Addr) (xs : List V) : Prop := match k with
  | true => SqL K H a xs
  | false => SqT K H a xs
theorem sqB_at {X : Cx} {pins : List (Addr × Obj)} {σ : L2.St} {H : Hp} {s : Shared} {k : Bool} {a : Addr} {xs : List V} (I : Inv X pins σ H s) (h : SqB X.K k H a xs) : ∃ its : List Value, Vals xs its ∧ SqA k s.heap a its.toArray ∧ xs.length ≤ sizeLine := by
  cases k
  · obtain ⟨its, r, p, z⟩ := I.tuple h
    exact ⟨its, r, p, z⟩
  · obtain ⟨its, r, p, z⟩ := I.list h
    exact ⟨its, r, p.isList, z⟩
theorem sqB_inj {X : Cx} {pins : List (Addr × Obj)} {σ : L2.St} {H : Hp} {s : Shared} {k : Bool} {a : Addr} {xs ys : List V} (I : Inv X pins σ H s) (h : SqB X.K k H a xs) (h' : SqB X.K k H a ys) : xs = ys := by
  cases k
  · exact I.tuple_inj h h'
  · exact I.list_inj h h'
theorem sqA_lt {k : Bool} {h : Heap} {a : Addr} {xs : Array Value} (x : SqA k h a xs) : a < h.objs.size := by
  cases k
  · obtain ⟨o, ho, _⟩ := x; exact Heap.lt_size ho
  · obtain ⟨o, ho, _⟩ := x; exact Heap.lt_size ho
def Itz (K : PySem.W.Frag) (k : Bool) (a1 a2 : Addr) : It :=
  ⟨fun i H => ∃ xs ys x y, SqB K k H a1 xs ∧ SqB K k H a2 ys ∧ xs[i]? = some x ∧ ys[i]? = some y,
   fun i H v H' => ∃ p x y, H p = none ∧ v = .ref p ∧ H' = upd H p (.tup [x, y]) ∧ (∀ xs, SqB K k H a1 xs → xs[i]? = some x) ∧ ∀ ys, SqB K k H a2 ys → ys[i]? = some y,
   fun i H => ∃ xs ys, SqB K k H a1 xs ∧ SqB K k H a2 ys ∧ (xs.length ≤ i ∨ ys.length ≤ i)⟩
theorem turn_zip {P : Program} {w : World} {K : PySem.W.Frag} {elts : List Expr} {x1 : Nat} {tpos : Pos} {k : Bool} {z TI TO i1 i2 l1 l2 : Addr} (D : ZipApart z TI TO i1 i2 l1 l2) :
    Turn P w K (.Tuple elts x1 tpos) (Itz K k l1 l2) [z, TI, TO, i1, i2] z (fun i h => ZipSt k h z TI TO i1 i2 l1 l2 i) where
  mem := by simp
  obj := fun i h st b hb => by
    obtain ⟨hz, hTI, ⟨a, c, hTO⟩, h1, h2⟩ := st
    simp only [List.mem_cons, List.not_mem_nil, or_false] at hb
    rcases hb with rfl | rfl | rfl | rfl | rfl
    · exact ⟨_, hz, fun v e => by cases e⟩
    · exact ⟨_, hTI, fun v e => by cases e⟩
    · exact ⟨_, hTO, fun v e => by cases e⟩
    · exact h1.obj
    · exact h2.obj
  keep := fun i h h' st kk => by
    obtain ⟨hz, hTI, ⟨a, c, hTO⟩, h1, h2⟩ := st
    exact ⟨kk z (by simp) _ hz, kk TI (by simp) _ hTI, ⟨a, c, kk TO (by simp) _ hTO⟩, h1.at fun o e => kk i1 (by simp) o e, h2.at fun o e => kk i2 (by simp) o e⟩
  item := by
    intro X hP hw hK hc i pins s σ H E I hf st hg
    subst hP hw hK
    obtain ⟨xs, ys, x, y, q1, q2, e1, e2⟩ := hg
    obtain ⟨us, r1, p1, _⟩ := sqB_at I q1
    obtain ⟨vs, r2, p2, _⟩ := sqB_at I q2
    obtain ⟨u, eu, ru⟩ := r1.get e1
    obtain ⟨v, ev, rv⟩ := r2.get e2
    refine nextA_item (x := u) (y := v) D st p1 p2 (by simpa using eu) (by simpa using ev) fun h' g1 g2 g3 g4 g5 g7 => ?_
    refine ⟨_, rfl, wpAny_letOwnedTupleGo_zip g1 fun h2 hz2 c2 => ?_⟩
    have ne : ∀ {b o}, s.heap.get? b = some o → s.heap.objs.size ≠ b := fun e => Nat.ne_of_gt (Heap.lt_size e)
    have k2 : ∀ b o, b ∉ [z, TI, TO, i1, i2] → s.heap.get? b = some o → h2.get? b = some o := fun b o hb e => by
      simp only [List.mem_cons, List.not_mem_nil, or_false, not_or] at hb
      exact c2.extBut _ _ hb.1 (g7 b o hb.1 hb.2.2.1 hb.2.2.2.1 hb.2.2.2.2 e)
    have I2 : Inv X pins σ (upd H s.heap.objs.size (.tup [x, y])) { s with heap := h2, toks := s.toks } :=
      adopt I k2 hf (Nat.le_refl _) (by show 2 ≤ sizeLine; decide) (.cons ru (.cons rv .nil)) ⟨_, c2.extBut _ _ (ne st.z) g5, rfl, _, rfl⟩
    refine ⟨.ref s.heap.objs.size, _, I2, rfl, ⟨_, x, y, I.hok.fresh (Nat.le_refl _), rfl, rfl, fun xs' q => ?_, fun ys' q => ?_⟩, ?_, fun b hb => ?_⟩
    · rw [sqB_inj I q q1]; exact e1
    · rw [sqB_inj I q q2]; exact e2
    · exact ⟨hz2, c2.extBut _ _ D.TIz (g7 _ _ D.TIz D.TITO D.TIi1 D.TIi2 st.ti), ⟨u, v, c2.extBut _ _ D.TOz g2⟩, g3.at fun o e => c2.extBut _ _ D.i1z e, g4.at fun o e => c2.extBut _ _ D.i2z e⟩
    · have hlt : ∃ o, s.heap.get? b = some o := by
        obtain ⟨hz, hTI, ⟨a, c, hTO⟩, h1, h2⟩ := st
        simp only [List.mem_cons, List.not_mem_nil, or_false] at hb
        rcases hb with rfl | rfl | rfl | rfl | rfl
        · exact ⟨_, hz⟩
        · exact ⟨_, hTI⟩
        · exact ⟨_, hTO⟩
        · exact h1.obj.imp fun _ e => e.1
        · exact h2.obj.imp fun _ e => e.1
      obtain ⟨o, e⟩ := hlt
      rw [upd_ne (ne e).symm]
      exact (hf b hb).1
  done := by
    intro X hP hw hK hc i pins s σ H E I hf st hg
    subst hP hw hK
    obtain ⟨xs, ys, q1, q2, e⟩ := hg
    obtain ⟨us, r1, p1, _⟩ := sqB_at I q1
    obtain ⟨vs, r2, p2, _⟩ := sqB_at I q2
    have l1 := r1.length
    have l2 := r2.length
    refine nextA_end (I.ok.hd hc) D st p1 p2 (e.imp (fun e => by simp; omega) (fun e => by simp; omega)) fun h' kk => ⟨rfl, turnedN (t' := s.toks) (ch := [z, TI, TO, i1, i2]) I (fun b o hb e => ?_) hf⟩
    simp only [List.mem_cons, List.not_mem_nil, or_false, not_or] at hb
    exact kk b o hb.1 hb.2.2.1 hb.2.2.2.1 hb.2.2.2.2 e
  self := fun _ _ _ _ _ st h => wpAny_pyIter_zip st.z h
def iZip (K : PySem.W.Frag) (ta : TA) : TI := fun σ H R => ta σ H fun vs H1 => ∃ k a1 a2 xs ys, vs = [.ref a1, .ref a2] ∧ SqB K k H1 a1 xs ∧ SqB K k H1 a2 ys ∧ R (Itz K k a1 a2) H1
theorem pi_zip {X : Cx} {elts : List Expr} {x1 : Nat} {tpos : Pos} {a b : Expr} {ta : TA} {p pos : Pos} (hg : Gl X "zip") (hm : X.mg "zip" = none) (ha : PA X [a, b] ta)
    (hs : starEach [a, b] X.env = [(false, eval a X.env), (false, eval b X.env)] := by rfl) (hs2 : starEach [b] X.env = [(false, eval b X.env)] := by rfl) : PI X (.Tuple elts x1 tpos) (.Call (.Name "zip" p) [a, b] [] pos) (iZip X.K ta) := by
  intro pins s σ H R I h
  refine Call_ (ld_blt I hg hm boot_zip (PyProof.Rows.callWith_type1 (thn (ha pos pins s σ H _ I h) fun us s1 ⟨vs, H1, I1, r1, q1⟩ => ?_) (by rw [hs, hs2]) (by rw [hs2]; rfl)))
  obtain ⟨k, a1, a2, xs, ys, e, q1, q2, q⟩ := q1
  subst e
  obtain ⟨u1, u2, rfl, e1, e2⟩ := r1.two
  cases (show u1 = Value.ref a1 from e1)
  cases (show u2 = Value.ref a2 from e2)
  obtain ⟨us, rr1, p1, _⟩ := sqB_at I1 q1
  obtain ⟨ws, rr2, p2, _⟩ := sqB_at I1 q2
  have b1 := sqA_lt p1
  have b2 := sqA_lt p2
  refine call_zipA p1 p2 fun h' st kk => wpAny_pyIter_zip st.z ?_
  have I2 : Inv X pins σ H1 { s1 with heap := h', toks := s1.toks } := I1.kept kk
  refine ⟨_, _, _, _, H1, rfl, I2, turn_zip (zipApart_new b1 b2), st, fun b hb => ?_, q⟩
  have hb' : s1.heap.objs.size ≤ b := by
    simp only [List.mem_cons, List.not_mem_nil, or_false] at hb
    rcases hb with rfl | rfl | rfl | rfl | rfl
    · exact Nat.le_add_right _ _
    · exact Nat.le_add_right _ _
    · exact Nat.le_add_right _ _
    · exact Nat.le_refl _
    · exact Nat.le_add_right _ _
  exact I1.fpOk hb' (I1.hok.fresh hb')
theorem for_zip {K : PySem.W.Frag} {k : Bool} {a1 a2 : Addr} {xs ys : List V} {g : TG} {tb : TS} {D : Ends} {σ : L2.St} {H : Hp} (Pv : Nat → L2.St → Hp → Prop) (hn : xs.length = ys.length) (h0 : Pv 0 σ H)
    (hl : ∀ i σ H, i ≤ xs.length → Pv i σ H → SqB K k H a1 xs ∧ SqB K k H a2 ys)
    (hs : ∀ i x y p σ H, xs[i]? = some x → ys[i]? = some y → H p = none → Pv i σ H → g (.ref p) σ (upd H p (.tup [x, y])) fun σ2 H2 => tb { D with nx := Pv (i + 1), ct := Pv (i + 1), bk := D.nx } σ2 H2) (hd : ∀ σ H, Pv xs.length σ H → D.nx σ H) :
    ∃ W : Nat → Nat → L2.St → Hp → Prop, (∃ m, W 0 m σ H) ∧ ∀ i m σ H, W i m σ H →
      ((Itz K k a1 a2).stop i H ∧ D.nx σ H) ∨ ((Itz K k a1 a2).go i H ∧ ∃ N : L2.St → Hp → Prop, (∀ σ' H', N σ' H' → ∃ m', m' < m ∧ W (i + 1) m' σ' H') ∧ ∀ x H', (Itz K k a1 a2).yld i H x H' → g x σ H' fun σ2 H2 => tb { D with nx := N, ct := N, bk := D.nx } σ2 H2) := by
  refine ⟨fun i m σ H => m = xs.length - i ∧ i ≤ xs.length ∧ Pv i σ H, ⟨xs.length, by simp, Nat.zero_le _, h0⟩, ?_⟩
  rintro i m σ H ⟨rfl, hi, p⟩
  obtain ⟨q1, q2⟩ := hl i σ H hi p
  by_cases hlt : i < xs.length
  · have hlt2 : i < ys.length := by omega
    refine .inr ⟨⟨xs, ys, xs[i], ys[i], q1, q2, by simp [hlt], by simp [hlt2]⟩, Pv (i + 1), fun σ' H' p' => ⟨xs.length - (i + 1), by omega, rfl, hlt, p'⟩, fun x H' y => ?_⟩
    obtain ⟨a, x', y', hn', rfl, rfl, e1, e2⟩ := y
    exact hs i x' y' a σ _ (e1 xs q1) (e2 ys q2) hn' p
  · have e : i = xs.length := by omega
    subst e
    exact .inl ⟨⟨xs, ys, q1, q2, .inl (Nat.le_refl _)⟩, hd σ H p⟩

/-! ### range(a, b) as a thing, list(range(a, b)) -/
def intsV (lo : Int) (n : Nat) : List V := (List.range n).map fun i : Nat => V.int (lo + i)
section
variable {X : Cx}
theorem call_list_rng (hc : X.calm = true) : CallR X (.type "list") (fun xs H Q => ∃ p i j, xs = [.ref p] ∧ H p = some (.rng i j) ∧ (-(2 ^ 62) ≤ i ∧ i < 2 ^ 62 ∧ -(2 ^ 62) ≤ j ∧ j < 2 ^ 62) ∧ (j - i).toNat ≤ sizeLine ∧
    ∀ l, H l = none → Q (.ref l) (upd H l (.lst (intsV i (j - i).toNat)))) := by
  intro pins s σ H xs us Q I r h
  obtain ⟨p, i, j, rfl, hp, ⟨b1, b2, b3, b4⟩, hz, q⟩ := h
  obtain ⟨u, rfl, rx⟩ := r.one
  cases (show u = Value.ref p from rx)
  obtain ⟨t, u, v, e⟩ := (show ObjOk X.prog X.w H s.heap p (.rng i j) from I.hok p _ hp)
  have e2 : Builtin.Range.rangeSize i j 1 = (((j - i).toNat : Nat) : Int) := by rw [rangeSize_one]; split <;> omega
  have hz' : (j - i).toNat ≤ 2 ^ 24 := by have := sizeLine_eq; omega
  refine call_list_range (I.ok.hd hc) e (small_one b1 b2 b3 b4) e2 hz' fun h' tk acc' c' hk hS hacc => ?_
  refine ⟨.ref s.heap.objs.size, _, I.laid (o := .lst (intsV i (j - i).toNat)) (t' := tk) hk (Nat.le_refl _) ⟨?_, acc'.toList, c', ?_, by simpa using hS⟩, rfl, q _ (I.hok.fresh (Nat.le_refl _))⟩
  · unfold intsV; simpa using hz
  · have hl : acc'.toList.length = (j - i).toNat := by simpa using hacc.1
    have key : ∀ (n : Nat) (us : List Value) (lo : Int), us.length = n → (∀ k v, us[k]? = some v → ∃ t, v = Value.int (lo + (k : Nat) * 1) t) → Vals ((List.range n).map fun i : Nat => V.int (lo + i)) us := by
      intro n
      induction n with
      | zero => intro us lo hl _; cases us with
        | nil => exact .nil
        | cons => simp at hl
      | succ n ih =>
        intro us lo hl hv
        cases us with
        | nil => simp at hl
        | cons u us =>
          rw [List.range_succ_eq_map, List.map_cons, List.map_map]
          refine .cons ?_ ?_
          · obtain ⟨t, e⟩ := hv 0 u rfl
            exact ⟨t, by rw [e]; simp⟩
          · have := ih us (lo + 1) (by simpa using hl) fun k v e => by
              obtain ⟨t, e'⟩ := hv (k + 1) v (by simpa using e)
              refine ⟨t, ?_⟩
              rw [e']
              have : lo + ((k + 1 : Nat) : Int) * 1 = lo + 1 + (k : Int) * 1 := by omega
              rw [this]
            have e3 : ((fun i : Nat => V.int (lo + i)) ∘ Nat.succ) = fun i : Nat => V.int (lo + 1 + i) := by
              funext i
              simp only [Function.comp, Nat.succ_eq_add_one]
              have : lo + ((i + 1 : Nat) : Int) = lo + 1 + (i : Int) := by omega
              rw [this]
            rw [e3]
            exact this
    exact key _ _ i hl fun k v e => hacc.2 k v (by simpa using e)
end

/-! ### // by any divisor of some size; sum of a list of ints -/
section
variable {X : Cx}
theorem log2_big {j : Int} (h0 : 0 < j) (h1 : j < 10 ^ 70) : j.natAbs.log2 < 9000 := by
  have h : j.natAbs < 2 ^ 9000 := Nat.lt_trans (show j.natAbs < 10 ^ 70 by omega) (by decide +kernel)
  exact (Nat.log2_lt (by omega)).mpr h
theorem op_fdivB : OpR X (binaryOp .FloorDiv) (rI (fun _ j => 0 < j ∧ j < 10 ^ 70) fun i j => .int (i / j)) := opI fun i j _ _ _ _ _ hc q => by
  have h1 : (0 : Int) < j := hc.1
  exact floordiv_int (by omega) (by rw [Int.fdiv_eq_ediv_of_nonneg i (by omega)]; exact q) (.inl (PyProof.noPylong_of_log2 (log2_big hc.1 hc.2)))
theorem call_sum (hc : X.calm = true) : CallR X (.builtin "sum") (fun xs H Q => ∃ (p : Addr) (ns : List Int), xs = [.ref p] ∧ SqL X.K H p (ns.map V.int) ∧ Q (.int ns.sum) H) := by
  intro pins s σ H xs us Q I r h
  obtain ⟨p, ns, rfl, hq, q⟩ := h
  obtain ⟨u, rfl, rx⟩ := r.one
  cases (show u = Value.ref p from rx)
  obtain ⟨its, rv, pl, hz⟩ := I.list hq
  have hi : IntsAre its ns := intsAre_of rv
  have hall : AllInts its.toArray := hi.allInts
  obtain ⟨zs, ez⟩ := hall.items
  have hl := pl.isList
  have es : (numsOf its.toArray.toList).sum = ns.sum := by rw [show its.toArray.toList = its from rfl, hi.numsOf]
  rw [ez] at hl es
  rw [nums_intItems] at es
  refine PySem.sum_intListG (I.ok.hd hc) hl fun h' tk t' hk => ⟨.int ns.sum, H, I.kept hk, ⟨t', ?_⟩, q⟩
  rw [preSum_eq, List.take_of_length_le (by simp), es]
end

/-! ### two lists of the very same values compared -/
section
variable {X : Cx}
end
end InkX

namespace Ink
/-- rows: pairs of ints -/
abbrev Row := List (Int × Int)
/-- the last pair grown, or one more -/
def grow (t : Row) (s e : Int) : Row :=
  match t.getLast? with
  | some p => if p.2 = s then t.dropLast ++ [(p.1, e)] else t ++ [(s, e)]
  | none => t ++ [(s, e)]
def plainStep (t : Row) (p : Int × Int) : Row := if p.1 = p.2 then t else grow t p.1 p.2
def plainF (r : Row) : Row := r.foldl plainStep []
/-- s, s+1, .., n of them -/
def run (s : Int) : Nat → List Int
  | 0 => []
  | n + 1 => s :: run (s + 1) n
def span (p : Int × Int) : List Int := run p.1 (p.2 - p.1).toNat
def spell (r : Row) : List Int := r.flatMap span
def rowOf (ns : List Int) : Row := ns.foldl (fun t n => grow t n (n + 1)) []
theorem grow_nil (s e : Int) : grow [] s e = [(s, e)] := rfl
theorem grow_pos (t : Row) {q : Int × Int} {s : Int} {e : Int} (h : q.2 = s) : grow (t ++ [q]) s e = t ++ [(q.1, e)] := by
  simp [grow, h]
theorem grow_neg (t : Row) {q : Int × Int} {s : Int} {e : Int} (h : ¬ q.2 = s) : grow (t ++ [q]) s e = t ++ [q] ++ [(s, e)] := by
  simp [grow, h]
theorem grow_snoc (t : Row) (a s e : Int) : grow (t ++ [(a, s)]) s e = t ++ [(a, e)] := by
  simp [grow]
theorem grow_run (t : Row) (a s : Int) (n : Nat) : (run s n).foldl (fun t n => grow t n (n + 1)) (t ++ [(a, s)]) = t ++ [(a, s + n)] := by
  induction n generalizing s with
  | zero => simp [run]
  | succ n ih =>
    rw [run, List.foldl_cons, grow_snoc, ih]
    have : s + 1 + (n : Int) = s + ((n + 1 : Nat) : Int) := by omega
    rw [this]
theorem step_run (t : Row) (p : Int × Int) (h : p.1 ≤ p.2) : plainStep t p = (span p).foldl (fun t n => grow t n (n + 1)) t := by
  obtain ⟨s, e⟩ := p
  simp only at h
  unfold plainStep span
  by_cases he : s = e
  · subst he; simp [run]
  · obtain ⟨n, hn⟩ : ∃ n : Nat, e = s + 1 + n := ⟨(e - s - 1).toNat, by omega⟩
    subst hn
    rw [if_neg he]
    have h2 : ((s, s + 1 + (n : Int)).2 - (s, s + 1 + (n : Int)).1).toNat = n + 1 := by simp only; omega
    rw [h2, run, List.foldl_cons]
    simp only
    rcases List.eq_nil_or_concat t with rfl | ⟨u, q, rfl⟩
    · rw [grow_nil, grow_nil]
      exact (grow_run [] s (s + 1) n).symm
    · by_cases hq : q.2 = s
      · rw [List.concat_eq_append, grow_pos u hq, grow_pos u hq, grow_run]
      · rw [List.concat_eq_append, grow_neg u hq, grow_neg u hq, grow_run]
theorem foldl_flatMap' {α β γ : Type} (f : γ → β → γ) (g : α → List β) : ∀ (l : List α) (c : γ), (l.flatMap g).foldl f c = l.foldl (fun c a => (g a).foldl f c) c
  | [], _ => rfl
  | a :: l, c => by rw [List.flatMap_cons, List.foldl_append, List.foldl_cons, foldl_flatMap' f g l]
theorem plain_eq (r : Row) (h : ∀ p ∈ r, p.1 ≤ p.2) : plainF r = rowOf (spell r) := by
  unfold plainF rowOf spell
  rw [foldl_flatMap']
  have key : ∀ (r : Row), (∀ p ∈ r, p.1 ≤ p.2) → ∀ t : Row, r.foldl plainStep t = r.foldl (fun c a => (span a).foldl (fun t n => grow t n (n + 1)) c) t := by
    intro r
    induction r with
    | nil => intro _ t; rfl
    | cons p r ih =>
      intro h t
      rw [List.foldl_cons, List.foldl_cons, step_run t p (h p (List.mem_cons_self ..))]
      exact ih (fun q hq => h q (List.mem_cons_of_mem _ hq)) _
  exact key r h []
theorem grow_length (t : Row) (s e : Int) : (grow t s e).length ≤ t.length + 1 := by
  rcases List.eq_nil_or_concat t with rfl | ⟨u, q, rfl⟩
  · rw [grow_nil]; simp
  · by_cases hq : q.2 = s
    · rw [List.concat_eq_append, grow_pos u hq]; simp
    · rw [List.concat_eq_append, grow_neg u hq]; simp
theorem foldl_take_succ {α β : Type} (f : β → α → β) (l : List α) (b : β) (i : Nat) (x : α) (h : l[i]? = some x) : (l.take (i + 1)).foldl f b = f ((l.take i).foldl f b) x := by
  rw [List.take_add_one, h, List.foldl_append]
  rfl
end Ink

namespace Ink
/-! ### sizes and places -/
def tot (r : Row) : Int := (r.map fun p => p.2 - p.1).sum
theorem take_snoc {α : Type} {l : List α} {i : Nat} {x : α} (h : l[i]? = some x) : l.take (i + 1) = l.take i ++ [x] := by rw [List.take_add_one, h]; rfl
end Ink
namespace Ink
theorem run_snoc (s : Int) (n : Nat) : run s (n + 1) = run s n ++ [s + n] := by
  induction n generalizing s with
  | zero => simp [run]
  | succ n ih =>
    rw [run, ih, run]
    have : s + 1 + (n : Int) = s + ((n + 1 : Nat) : Int) := by omega
    rw [this]; rfl
theorem span_more {a n : Int} (h : a ≤ n) : span (a, n + 1) = span (a, n) ++ [n] := by
  unfold span
  have e : ((a, n + 1).2 - (a, n + 1).1).toNat = ((a, n).2 - (a, n).1).toNat + 1 := by simp only; omega
  rw [e, run_snoc]
  have : a + ((((a, n).2 - (a, n).1).toNat : Nat) : Int) = n := by simp only; omega
  simp only at this ⊢
  rw [this]
theorem span_one (n : Int) : span (n, n + 1) = [n] := by
  have := span_more (a := n) (n := n) (Int.le_refl _)
  rw [this]
  have e : span (n, n) = [] := by unfold span; simp [run]
  rw [e]; rfl
theorem spell_append (r q : Row) : spell (r ++ q) = spell r ++ spell q := by unfold spell; rw [List.flatMap_append]
theorem spell_one (p : Int × Int) : spell [p] = span p := by simp [spell]
theorem spell_grow (t : Row) (n : Int) (h : ∀ p ∈ t, p.1 ≤ p.2) : spell (grow t n (n + 1)) = spell t ++ [n] := by
  rcases List.eq_nil_or_concat t with rfl | ⟨u, q, rfl⟩
  · rw [grow_nil, spell_one, span_one]; rfl
  · rw [List.concat_eq_append] at h ⊢
    by_cases hq : q.2 = n
    · obtain ⟨a, b⟩ := q
      simp only at hq
      subst hq
      have hb : a ≤ b := h (a, b) (by simp)
      rw [grow_pos u rfl, spell_append, spell_append, spell_one, spell_one, span_more hb, List.append_assoc]
    · rw [grow_neg u hq, spell_append, spell_one, span_one]
theorem grow_ok (t : Row) (n : Int) (h : ∀ p ∈ t, p.1 ≤ p.2) : ∀ p ∈ grow t n (n + 1), p.1 ≤ p.2 := by
  rcases List.eq_nil_or_concat t with rfl | ⟨u, q, rfl⟩
  · rw [grow_nil]; intro p hp; simp at hp; subst hp; show n ≤ n + 1; omega
  · rw [List.concat_eq_append] at h ⊢
    by_cases hq : q.2 = n
    · rw [grow_pos u hq]
      intro p hp
      rcases List.mem_append.mp hp with z | z
      · exact h p (List.mem_append_left _ z)
      · simp at z; subst z
        have := h q (by simp)
        show q.1 ≤ n + 1
        omega
    · rw [grow_neg u hq]
      intro p hp
      rcases List.mem_append.mp hp with z | z
      · exact h p z
      · simp at z; subst z; show n ≤ n + 1; omega
theorem spell_rowOf (ns : List Int) : spell (rowOf ns) = ns := by
  have key : ∀ (ns : List Int) (t : Row), (∀ p ∈ t, p.1 ≤ p.2) → spell (ns.foldl (fun t n => grow t n (n + 1)) t) = spell t ++ ns := by
    intro ns
    induction ns with
    | nil => intro t _; simp
    | cons n ns ih =>
      intro t h
      rw [List.foldl_cons, ih _ (grow_ok t n h), spell_grow t n h, List.append_assoc]; rfl
  have := key ns [] (fun p hp => by cases hp)
  simpa [rowOf, spell] using this
theorem rowOf_ok (ns : List Int) : ∀ p ∈ rowOf ns, p.1 ≤ p.2 := by
  have key : ∀ (ns : List Int) (t : Row), (∀ p ∈ t, p.1 ≤ p.2) → ∀ p ∈ ns.foldl (fun t n => grow t n (n + 1)) t, p.1 ≤ p.2 := by
    intro ns
    induction ns with
    | nil => intro t h; exact h
    | cons n ns ih => intro t h; exact ih _ (grow_ok t n h)
  exact key ns [] (fun p hp => by cases hp)
end Ink
namespace Ink
end Ink

namespace Ink
open PySem L2 InkX

/-! ### a def of the text, called by its promise -/
structure DefAt (K : PySem.W.Frag) (mg : Str → Option Value) (x : Str) (st : Stmt) (ps : List Str) (a : Addr) (d : FuncData) : Prop where
  F : Fun K x x st a d
  b : Binds K d ps []
  m : mg x = some (.ref a)
section
variable {X : Cx}
theorem pe_def {x : Str} {st : Stmt} {ps : List Str} {f : Addr} {fd : FuncData} {j k : Nat} {sp : Sp} {e : Expr} {es : List Expr} {t : TA} {p pos : Pos} (d : DefAt X.K X.mg x st ps f fd) (G : FnOk X.prog X.w X.K X.mg X.base CX0 k f fd ps sp) (hr : Room j X.A)
    (ha : PA X (e :: es) t) (hjk : k ≤ j := by first | decide | omega) (hg : Gl X x := by rfl) (hdb : (x == ("__debug__" : Str)) = false := by decide) (he : starEach (e :: es) X.env = (false, eval e X.env) :: starEach es X.env := by rfl)
    (hpl : (backTo pos (starEach es X.env)).any (·.1) = false := by rfl) : PE X (.Call (.Name x p) (e :: es) [] pos) (tCall sp [] E0 t) :=
  pe_call G (hr.mono hjk) hg d.m d.F.kp d.b .nil pass0 ha hdb he hpl
theorem ps_imp {st : Stmt} {t t' : TS} (h : PS X st t) (hi : ∀ D σ H, t' D σ H → t D σ H) : PS X st t' := fun pins s σ H D I q => h pins s σ H D I (hi D σ H q)
end

/-! ### heaps -/
/-- all but what stands at l is as it was -/
def Keep (l : Addr) (H H' : Hp) : Prop := ∀ a o, H a = some o → a ≠ l → H' a = some o
theorem Same.keep {l : Addr} {H H' : Hp} (s : Same H H') : Keep l H H' := fun a o e _ => s a o e
theorem Keep.refl (l : Addr) (H : Hp) : Keep l H H := fun _ _ e _ => e
theorem Keep.trans {l : Addr} {H H1 H2 : Hp} (a : Keep l H H1) (b : Keep l H1 H2) : Keep l H H2 := fun c o e n => b c o (a c o e n) n
theorem keep_upd (l : Addr) (H : Hp) (o : HO) : Keep l H (upd H l o) := fun a u e n => by rw [upd_ne n]; exact e
theorem keep_of {l : Addr} {H H1 H2 : Hp} (h : H l = none) (a : Same H H1) (b : Keep l H1 H2) : Same H H2 := fun c o e => b c o (a c o e) (ne_of_none e h)
theorem same_new {H : Hp} {p : Addr} (h : H p = none) (o : HO) : Same H (upd H p o) := fun b u q => by rw [upd_ne (ne_of_none q h)]; exact q
theorem free_keep {l a : Addr} {H H' : Hp} (k : Keep l H H') (n : a ≠ l) (h : H' a = none) : H a = none := by
  cases q : H a with
  | none => rfl
  | some o => rw [k a o q n] at h; cases h
/-! ### the reader of a script: a list of the cells, a place, a rest, a mix -/
def SrcOk (H : Hp) (l c : Addr) : Prop := c ≠ l ∧ ∃ (ns : List Int) (i d r : Int), H l = some (.lst [.ref c, .int i, .int d, .int r]) ∧ H c = some (.lst (ns.map V.int)) ∧ 0 ≤ i ∧ 0 ≤ r ∧ r < 2147483647
theorem SrcOk.same {H H' : Hp} {l c : Addr} (s : SrcOk H l c) (k : Same H H') : SrcOk H' l c := by
  obtain ⟨n, ns, i, d, r, h1, h2, h3⟩ := s
  exact ⟨n, ns, i, d, r, k _ _ h1, k _ _ h2, h3⟩
theorem SrcOk.keep {H H' : Hp} {l c m : Addr} (s : SrcOk H l c) (k : Keep m H H') (h1 : l ≠ m) (h2 : c ≠ m) : SrcOk H' l c := by
  obtain ⟨n, ns, i, d, r, e1, e2, h3⟩ := s
  exact ⟨n, ns, i, d, r, k _ _ e1 h1, k _ _ e2 h2, h3⟩
theorem SrcOk.ne {H : Hp} {l c a : Addr} (s : SrcOk H l c) (h : H a = none) : l ≠ a ∧ c ≠ a := by
  obtain ⟨n, ns, i, d, r, e1, e2, h3⟩ := s
  exact ⟨ne_of_none e1 h, ne_of_none e2 h⟩
theorem SrcOk.has {H : Hp} {l c : Addr} (s : SrcOk H l c) : (∃ o, H l = some o) ∧ ∃ o, H c = some o := by
  obtain ⟨n, ns, i, d, r, e1, e2, h3⟩ := s
  exact ⟨⟨_, e1⟩, ⟨_, e2⟩⟩
theorem at40 {a b c d : V} : atI [a, b, c, d] 0 = some a := rfl
theorem at41 {a b c d : V} : atI [a, b, c, d] 1 = some b := rfl
theorem at42 {a b c d : V} : atI [a, b, c, d] 2 = some c := rfl
theorem at43 {a b c d : V} : atI [a, b, c, d] 3 = some d := rfl
theorem at20 {a b : V} : atI [a, b] 0 = some a := rfl
theorem at21 {a b : V} : atI [a, b] 1 = some b := rfl
/-- the promise of the reader's step: any number below the base -/
def spNext : Sp := fun vs H Q _ => ∃ (l c : Addr) (b : Int), vs = [.ref l, .int b] ∧ SrcOk H l c ∧ 0 < b ∧ b < 10 ^ 70 ∧
  ∀ (v : Int) (H' : Hp), 0 ≤ v → v < b → SrcOk H' l c → (∀ a, a ≠ l → H' a = H a) → Q (.int v) H'
def spSrc (K : PySem.W.Frag) : Sp := fun vs H Q _ => ∃ (a : Addr) (ns : List Int), vs = [.ref a] ∧ SqL K H a (ns.map V.int) ∧
  ∀ (l c : Addr) (H' : Hp), SrcOk H' l c → Same H H' → H l = none → H c = none → Q (.ref l) H'

/-! ### the same things, to a depth -/
def flat : V → Bool
  | .int _ | .bl _ | .str _ | .non => true
  | _ => false
def AtS (k : Bool) (H : Hp) (a : Addr) (xs : List V) : Prop := match k with
  | true => H a = some (.lst xs)
  | false => H a = some (.tup xs)
theorem AtS.same {k : Bool} {H H' : Hp} {a : Addr} {xs : List V} (h : AtS k H a xs) (s : Same H H') : AtS k H' a xs := by
  cases k
  · exact s _ _ h
  · exact s _ _ h
theorem AtS.sq {K : PySem.W.Frag} {k : Bool} {H : Hp} {a : Addr} {xs : List V} (h : AtS k H a xs) : SqB K k H a xs := by
  cases k
  · exact SqT.of h
  · exact SqL.of h
def Eqv (H : Hp) : Nat → V → V → Prop
  | 0, _, _ => False
  | n + 1, x, y => (flat x = true ∧ x = y) ∨ ∃ (k : Bool) (a b : Addr) (xs ys : List V), x = .ref a ∧ y = .ref b ∧ AtS k H a xs ∧ AtS k H b ys ∧ xs.length = ys.length ∧
      ∀ (i : Nat) (u v : V), xs[i]? = some u → ys[i]? = some v → Eqv H n u v
theorem Eqv.same {H H' : Hp} (s : Same H H') : ∀ {n : Nat} {x y : V}, Eqv H n x y → Eqv H' n x y
  | 0, _, _, h => h
  | n + 1, x, y, h => by
    rcases h with h | ⟨k, a, b, xs, ys, e1, e2, h1, h2, hl, hi⟩
    · exact .inl h
    · exact .inr ⟨k, a, b, xs, ys, e1, e2, h1.same s, h2.same s, hl, fun i u v eu ev => Eqv.same s (hi i u v eu ev)⟩
theorem Eqv.int {H : Hp} {n : Nat} (i : Int) : Eqv H (n + 1) (.int i) (.int i) := .inl ⟨rfl, rfl⟩
def spSame (n : Nat) : Sp := fun vs H Q _ => ∃ x y, vs = [x, y] ∧ Eqv H n x y ∧ ∀ H', Same H H' → Q (.bl true) H'
def spWhole : Sp := fun vs H Q _ => ∃ i : Int, vs = [.int i] ∧ Q (.bl true) H
section
variable (K : PySem.W.Frag)
theorem k_bb : PySem.W.kitOne K (.type "bool") (.type "bool") = some true := by rfl
theorem k_ib : PySem.W.kitOne K (.type "int") (.type "bool") = some false := by kernel_rfl
theorem k_ii : PySem.W.kitOne K (.type "int") (.type "int") = some true := by rfl
theorem k_sb : PySem.W.kitOne K (.type "str") (.type "bool") = some false := by kernel_rfl
theorem k_si : PySem.W.kitOne K (.type "str") (.type "int") = some false := by kernel_rfl
theorem k_ss : PySem.W.kitOne K (.type "str") (.type "str") = some true := by rfl
theorem k_lb : PySem.W.kitOne K (.type "list") (.type "bool") = some false := by kernel_rfl
theorem k_li : PySem.W.kitOne K (.type "list") (.type "int") = some false := by kernel_rfl
theorem k_ls : PySem.W.kitOne K (.type "list") (.type "str") = some false := by kernel_rfl
theorem k_ll : PySem.W.kitOne K (.type "list") (.type "list") = some true := by rfl
theorem k_lt : PySem.W.kitOne K (.type "list") (.type "tuple") = some false := by kernel_rfl
theorem k_tb : PySem.W.kitOne K (.type "tuple") (.type "bool") = some false := by kernel_rfl
theorem k_ti : PySem.W.kitOne K (.type "tuple") (.type "int") = some false := by kernel_rfl
theorem k_ts : PySem.W.kitOne K (.type "tuple") (.type "str") = some false := by kernel_rfl
theorem k_tl : PySem.W.kitOne K (.type "tuple") (.type "list") = some false := by kernel_rfl
theorem k_tt : PySem.W.kitOne K (.type "tuple") (.type "tuple") = some true := by rfl
end
def tyS (k : Bool) : Value := .type (if k then "list" else "tuple")
theorem AtS.ty {K : PySem.W.Frag} {k : Bool} {H : Hp} {a : Addr} {xs : List V} (h : AtS k H a xs) : TyOf K H (.ref a) (tyS k) := by
  cases k
  · exact TyOf.tup h
  · exact TyOf.lst h
theorem k_qb (K : PySem.W.Frag) (k : Bool) : PySem.W.kitOne K (tyS k) (.type "bool") = some false := by cases k; exact k_tb K; exact k_lb K
theorem k_qi (K : PySem.W.Frag) (k : Bool) : PySem.W.kitOne K (tyS k) (.type "int") = some false := by cases k; exact k_ti K; exact k_li K
theorem k_qs (K : PySem.W.Frag) (k : Bool) : PySem.W.kitOne K (tyS k) (.type "str") = some false := by cases k; exact k_ts K; exact k_ls K
theorem k_ql (K : PySem.W.Frag) (k : Bool) : PySem.W.kitOne K (tyS k) (.type "list") = some k := by cases k; exact k_tl K; exact k_ll K
theorem k_qt (K : PySem.W.Frag) (k : Bool) : PySem.W.kitOne K (tyS k) (.type "tuple") = some (!k) := by cases k; exact k_tt K; exact k_lt K

/-! ### rows: lists of pairs -/
def PairAt (H : Hp) (a : Addr) (p : Int × Int) : Prop := H a = some (.tup [.int p.1, .int p.2])
abbrev PairsAt (H : Hp) : List Addr → Row → Prop := Paired (PairAt H)
def RowAt (H : Hp) (r : Addr) (row : Row) : Prop := ∃ as : List Addr, H r = some (.lst (as.map V.ref)) ∧ PairsAt H as row
theorem PairsAt.tups {H H' : Hp} {as : List Addr} {row : Row} (h : PairsAt H as row) (t : ∀ a xs, H a = some (.tup xs) → H' a = some (.tup xs)) : PairsAt H' as row := Paired.mapP h fun a p e => t a _ e
theorem PairsAt.same {H H' : Hp} {as : List Addr} {row : Row} (h : PairsAt H as row) (s : Same H H') : PairsAt H' as row := h.tups fun a xs e => s a _ e
theorem RowAt.same {H H' : Hp} {r : Addr} {row : Row} (h : RowAt H r row) (s : Same H H') : RowAt H' r row := by
  obtain ⟨as, h1, h2⟩ := h
  exact ⟨as, s _ _ h1, h2.same s⟩
/-- what stands at l is no tuple -/
theorem PairsAt.keep {H H' : Hp} {as : List Addr} {row : Row} {l : Addr} {xs : List V} (h : PairsAt H as row) (hl : H l = some (.lst xs)) (s : Keep l H H') : PairsAt H' as row :=
  h.tups fun a ys e => s a _ e (ne_of e hl (by intro z; cases z))
theorem RowAt.keep {H H' : Hp} {r : Addr} {row : Row} {l : Addr} {xs : List V} (h : RowAt H r row) (hl : H l = some (.lst xs)) (n : r ≠ l) (s : Keep l H H') : RowAt H' r row := by
  obtain ⟨as, h1, h2⟩ := h
  exact ⟨as, s _ _ h1 n, h2.keep hl s⟩
theorem PairsAt.get {H : Hp} : ∀ {as : List Addr} {row : Row} {i : Nat} {a : Addr}, PairsAt H as row → as[i]? = some a → ∃ p, row[i]? = some p ∧ PairAt H a p
  | _, _, _, _, .nil, e => by simp at e
  | _, _, 0, _, .cons r _, e => by simp at e; subst e; exact ⟨_, rfl, r⟩
  | _, _, i + 1, a, .cons _ t, e => by
    obtain ⟨p, h1, h2⟩ := PairsAt.get (i := i) (a := a) t (by simpa using e)
    exact ⟨p, by simpa using h1, h2⟩
theorem PairsAt.snoc {H : Hp} : ∀ {as : List Addr} {row : Row} {a : Addr} {p : Int × Int}, PairsAt H as row → PairAt H a p → PairsAt H (as ++ [a]) (row ++ [p])
  | _, _, _, _, .nil, e => .cons e .nil
  | _, _, _, _, .cons r t, e => .cons r (PairsAt.snoc t e)
theorem PairsAt.split {H : Hp} : ∀ {as : List Addr} {row : Row} {p : Int × Int}, PairsAt H as (row ++ [p]) → ∃ bs a, as = bs ++ [a] ∧ PairsAt H bs row ∧ PairAt H a p
  | as, [], p, h => by
    cases h with
    | cons r t => cases t; exact ⟨[], _, rfl, .nil, r⟩
  | as, q :: row, p, h => by
    cases h with
    | cons r t =>
      obtain ⟨bs, a, rfl, h1, h2⟩ := PairsAt.split (row := row) (p := p) t
      exact ⟨_ :: bs, a, rfl, .cons r h1, h2⟩
theorem PairsAt.len {H : Hp} {as : List Addr} {row : Row} (h : PairsAt H as row) : as.length = row.length := Paired.length h
theorem RowAt.eqv {H : Hp} {r q : Addr} {row : Row} (h : RowAt H r row) (g : RowAt H q row) (n : Nat) : Eqv H (n + 3) (.ref r) (.ref q) := by
  obtain ⟨as, h1, h2⟩ := h
  obtain ⟨bs, g1, g2⟩ := g
  refine .inr ⟨true, r, q, _, _, rfl, rfl, h1, g1, by rw [List.length_map, List.length_map, h2.len, g2.len], fun i u v eu ev => ?_⟩
  rw [List.getElem?_map] at eu ev
  obtain ⟨a, ea, rfl⟩ := Option.map_eq_some_iff.mp eu
  obtain ⟨b, eb, rfl⟩ := Option.map_eq_some_iff.mp ev
  obtain ⟨p, e1, k1⟩ := h2.get ea
  obtain ⟨p', e2, k2⟩ := g2.get eb
  rw [e1] at e2
  cases e2
  refine .inr ⟨false, a, b, _, _, rfl, rfl, k1, k2, rfl, fun j u v eu ev => ?_⟩
  rw [eu] at ev
  cases ev
  match j, eu with
  | 0, eu => cases eu; exact Eqv.int _
  | 1, eu => cases eu; exact Eqv.int _
theorem atI_neg1 {α : Type} (xs : List α) (v : α) : atI (xs ++ [v]) (-1) = some v := atI_last xs v
theorem ixN_neg1 (n : Nat) : ixN (n + 1) (-1) = some n := by
  unfold ixN
  rw [if_neg (by decide), if_pos (by omega)]
  congr 1
  omega
theorem set_last {α : Type} (xs : List α) (a b : α) : (xs ++ [a]).set xs.length b = xs ++ [b] := by
  simp
theorem intsV_eq (lo : Int) (n : Nat) : intsV lo n = (run lo n).map V.int := by
  unfold intsV
  induction n generalizing lo with
  | zero => rfl
  | succ n ih =>
    rw [List.range_succ_eq_map, List.map_cons, List.map_map, run, List.map_cons, ← ih (lo + 1)]
    congr 1
    · simp
    · apply List.map_congr_left
      intro i _
      simp only [Function.comp, Nat.succ_eq_add_one]
      congr 1
      omega
def spPlain : Sp := fun vs H Q _ => ∃ (r : Addr) (row : Row), vs = [.ref r] ∧ RowAt H r row ∧ row.length ≤ 1000000 ∧
  ∀ (q : Addr) (H' : Hp), RowAt H' q (plainF row) → Same H H' → H q = none → Q (.ref q) H'
def spLaw (K : PySem.W.Frag) : Sp := fun vs H Q _ => ∃ (a : Addr) (ns : List Int), vs = [.ref a] ∧ SqL K H a (ns.map V.int) ∧ ns.length ≤ 63 ∧ ∀ H', Q (.bl true) H'
theorem million {n : Nat} (h : n ≤ 1000001) : n < sizeLine := Nat.lt_of_le_of_lt h (by decide)
end Ink

namespace Ink
open PySem L2 InkX
/-! ### defs that all laws share -/
def nextT1 : TS := fun D σ H => ∃ (l c : Addr) (b : Int), σ = [some (.ref l), some (.int b), none, none] ∧ SrcOk H l c ∧
  ∀ (cell : Option V) (H' : Hp), SrcOk H' l c → (∀ a, a ≠ l → H' a = H a) → D.nx [some (.ref l), some (.int b), cell, none] H'
def nextT2 : TS := fun D σ H => ∃ (l c : Addr) (b : Int), σ = [some (.ref l), some (.int b), some (.int 7), none] ∧ SrcOk H l c ∧
  ∀ (cell : Int) (H' : Hp), SrcOk H' l c → (∀ a, a ≠ l → H' a = H a) → D.nx [some (.ref l), some (.int b), some (.int cell), none] H'
theorem at_ints {ns : List Int} {i : Int} (h0 : 0 ≤ i) (h1 : i < (ns.length : Int)) : ∃ v : Int, atI (ns.map V.int) i = some (.int v) := by
  have hk : i.toNat < ns.length := by omega
  refine ⟨ns[i.toNat], ?_⟩
  have q : atI (ns.map V.int) ((i.toNat : Nat) : Int) = some (.int ns[i.toNat]) := atI_nat (by rw [List.getElem?_map, List.getElem?_eq_getElem hk] <;> rfl)
  have ei : ((i.toNat : Nat) : Int) = i := by omega
  rw [ei] at q
  exact q
theorem cut_ints (ns : List Int) (lo hi : Option Int) : ∃ ms : List Int, cutV (ns.map V.int) lo hi = ms.map V.int := by
  unfold cutV
  refine ⟨(ns.drop (HT.sIx (ns.map V.int).length 0 lo)).take (HT.sIx (ns.map V.int).length (ns.map V.int).length hi - HT.sIx (ns.map V.int).length 0 lo), ?_⟩
  rw [List.map_take, List.map_drop]
theorem tt {p : Prop} [Decidable p] {Q : V → Hp → Prop} {H : Hp} (hp : p) (h : Q (.bl true) H) : Q (.bl (decide p)) H := by
  rw [decide_eq_true hp]
  exact h
theorem AtS.or {K : PySem.W.Frag} {k : Bool} {H : Hp} {a : Addr} {xs : List V} (h : AtS k H a xs) : SqL K H a xs ∨ SqT K H a xs := by
  cases k
  · exact .inr (SqT.of h)
  · exact .inl (SqL.of h)
end Ink

namespace Ink
open PySem L2 InkX
theorem SrcOk.lst {H : Hp} {l c : Addr} (s : SrcOk H l c) : ∃ xs, H l = some (.lst xs) := by
  obtain ⟨n, ns, i, d, r, e1, _⟩ := s
  exact ⟨_, e1⟩
end Ink

namespace InkX
open PySem PySem.Spec PyProof.Rows L2
/-! ### a list made by one clause: [elt for tg in iter if ..]; its own names are local, it names none of the def's -/
/-- the context of the block -/
def cxC (X : Cx) (N : List Str) (scope : Scope) (C : Addr) (s₀ : Shared) (H₀ : Hp) (ex : List Addr) (pn : List (Addr × Obj)) : Cx where
  prog := X.prog
  w := X.w
  K := X.K
  mg := X.mg
  base := X.base
  A := X.A
  N := N
  s₀ := s₀
  H₀ := H₀
  env := newEnv scope C X.env.globals [] X.env.qual none .none (some X.env) X.env.builtins
  outer := X.stack
  stack := X.stack
  ex := ex
  fn := fun _ => true
  calm := X.calm
  pn := pn
  xe := fun _ _ => False
structure CompScope (scope : Scope) : Prop where
  kind : scope.kind = .function
  free : ∀ x ∈ scope.names, x.2 ≠ .free
  cell : ∀ x ∈ scope.names, x.2 ≠ .cell
  names : ∀ x ∈ scope.names, x.2 = .local → scope.names.lookup x.1 = some .local
section
variable {prog : Program} {w : World} {A : Around} {R : Result → Shared → Prop} {s : Shared}
/-- the tests of a clause -/
def testsOf (ifs : List Expr) (env : Env) : Sem Bool := forIn ifs true fun c r => if r = true then do let ok ← isTrue c env (eval c env); pure (ForInStep.yield ok) else pure (ForInStep.yield r)
theorem compLoopG {elt target iter : Expr} {ifs : List Expr} {scope : Scope} {pos : Pos} {it acc : Value} {env : Env} (I : Nat → Shared → Prop)
    (turn : ∀ n s, I n s → wpAny (model prog w) A (pyNext it) (fun r s₁ => match r with
      | none => R (.ok .next) s₁
      | some v => wpAny (model prog w) A (letOwnedTupleGo target it v) (fun _ s₂ => wpAny (model prog w) A (assign target env v) (fun _ s₃ =>
          wpAny (model prog w) A (testsOf ifs env) (fun ok s₄ =>
            if ok = true then wpAny (model prog w) A (eval elt env) (fun x s₅ => wpAny (model prog w) A (call (.builtin "list.append") [acc, x]) (fun _ s₆ => ∃ m, m < n ∧ I m s₆) (fun _ _ => False) s₅) (fun _ _ => False) s₄
            else ∃ m, m < n ∧ I m s₄) (fun _ _ => False) s₃) (fun _ _ => False) s₂) (fun _ _ => False) s₁) (fun _ _ => False) s)
    (n : Nat) (h : I n s) : codeAny (model prog w) A (.compLoop (.ListComp elt [⟨target, iter, ifs, 0⟩] scope pos) 0 it acc env) R s := by
  refine codeAny_loop rfl I (fun n s hI => ?_) n h
  show wpAny _ A ((compTurn (.ListComp elt [⟨target, iter, ifs, 0⟩] scope pos) 0 it acc env).onRaise (fun x => do noteFrame x env; theTreesLotGoes x)) _ _ s
  refine wpAny_noted ?_
  rw [compTurn_list]
  refine wpAny_bind (wpAny_standAt (wpAny_bind (wpAny_mono (turn n s hI) (fun r s₁ h₁ => ?_) fun _ _ h' => h'.elim)))
  cases r with
  | none => exact wpAny_pure h₁
  | some v =>
    refine wpAny_bind (wpAny_mono h₁ (fun _ s₂ h₂ => wpAny_bind (wpAny_mono h₂ (fun _ s₃ h₃ => wpAny_bind (wpAny_mono h₃ (fun ok s₄ h₄ => ?_) fun _ _ h' => h'.elim)) fun _ _ h' => h'.elim)) fun _ _ h' => h'.elim)
    cases ok with
    | false => exact wpAny_pure ⟨rfl, h₄⟩
    | true => exact wpAny_bind (wpAny_bind (wpAny_mono h₄ (fun x s₅ h₅ => wpAny_bind (wpAny_mono h₅ (fun _ s₆ h₆ => wpAny_pure (wpAny_pure ⟨rfl, h₆⟩)) fun _ _ h' => h'.elim)) fun _ _ h' => h'.elim))
end
section
variable {X : Cx} {N : List Str} {scope : Scope}
/-- the block's entry: iterators at fp, the list at acc stands in H already -/
theorem comp_start {pins : List (Addr × Obj)} {σ : L2.St} {H : Hp} {s : Shared} {fp : List Addr} {h₁ : Heap} {t : Nat} (cs : CompScope scope) (I : Inv X pins σ H s) (hf : ∀ b ∈ fp, FpOk X pins H b) (hlt : ∀ b ∈ fp, b < s.heap.objs.size)
    (hns : h₁.Ns s.heap.objs.size fun _ => none) (hk : ∀ b o, s.heap.get? b = some o → h₁.get? b = some o) :
    Inv (cxC X N scope s.heap.objs.size s H fp (X.pn ++ pins)) [] (List.replicate N.length none) H { s with heap := h₁, toks := t } := by
  have nol : ∀ {x c}, (cxC X N scope s.heap.objs.size s H fp (X.pn ++ pins)).env.cells.lookup x = some c → False := fun {x c} e => by
    have e' : (none : Option Addr) = some c := e
    cases e'
  refine ⟨⟨I.ok.mod, cs.kind, I.ok.glob, I.ok.blt, Nat.le_refl _, fun x y c e _ => (nol e).elim, fun x hx => ?_, fun x c _ e => (nol e).elim, I.ok.hd, I.ok.frames, .inl rfl, fun b hb => ⟨Nat.ne_of_lt (hlt b hb), fun x c e => (nol e).elim⟩, I.bs, Nat.le_trans I.ok.bsz I.sz, fun b o e hb => ?_, fun b hb z => ?_, I.stack, I.stkFree⟩,
    rfl, I.bare, Un.kept hk, ⟨_, hns, fun i x v e1 e2 _ => ?_⟩, fun x c e => (nol e).elim, I.hok.fresh (Nat.le_refl _), fun x c e => (nol e).elim, fun p hp => ?_, I.hok.kept hk, by rw [List.length_replicate]; rfl⟩
  · have hx' : scope.names.lookup x = some .cell ∨ scope.names.lookup x = some .free := hx
    rcases hx' with z | z
    · exact absurd rfl (cs.cell _ (PySem.mem_of_lookup z))
    · exact absurd rfl (cs.free _ (PySem.mem_of_lookup z))
  · rcases (hf b hb).2.2.2.1 with z | z
    · exact I.ok.noex b o e z
    · exact absurd (Nat.lt_of_lt_of_le (Heap.lt_size (I.ok.bs b o e).1) z) (Nat.lt_irrefl _)
  · rcases List.mem_cons.mp (I.stkSub b z) with e | e
    · exact (hf b hb).2.1 e
    · exact (hf b hb).2.2.1 e
  · rw [List.getElem?_replicate] at e2
    split at e2 <;> cases e2
  · have hp' : p ∈ X.pn ++ pins := by
      have z : p ∈ (X.pn ++ pins) ++ [] := hp
      simpa using z
    obtain ⟨e, n, nl, nf, d⟩ := I.pin p hp'
    refine ⟨hk _ _ e, n, Nat.ne_of_lt (Heap.lt_size e), fun z => ?_, d⟩
    rcases List.mem_cons.mp (I.stkSub p.1 z) with e | e
    · exact nl e
    · exact nf e
/-- the block's end -/
theorem comp_end {pins : List (Addr × Obj)} {σ σ' : L2.St} {H H' : Hp} {s s' : Shared} {fp : List Addr} {h' : Heap} (I : Inv X pins σ H s) (hf : ∀ b ∈ fp, FpOk X pins H b) (J : Inv (cxC X N scope s.heap.objs.size s H fp (X.pn ++ pins)) [] σ' H' s')
    (hs : Heap.SameBut s.heap.objs.size s'.heap h') : Inv X pins σ H' { s' with heap := h' } := by
  have I4 : Inv X pins σ H' s' := I.call' (ch := fp) J.os J.base J.hok J.bare fun b hb => ⟨(hf b hb).2.2.2.1, (hf b hb).2.1, (hf b hb).2.2.2.2.1, (hf b hb).2.2.2.2.2⟩
  refine I4.turned (t' := s'.toks) (it := s.heap.objs.size) (fun b o hb e => hs.extBut _ _ hb e) J.free (Nat.ne_of_gt I.lt) (.inr I.sz) (fun x c e z => ?_) fun p hp z => ?_
  · obtain ⟨v, o, ho, _⟩ := I.cell x c e
    exact absurd (Heap.lt_size ho) (by rw [z]; exact Nat.lt_irrefl _)
  · exact absurd (Heap.lt_size (I.pin p hp).1) (by rw [z]; exact Nat.lt_irrefl _)

def PTs (X : Cx) (ifs : List Expr) (t : TT) : Prop :=
  ∀ (pins : List (Addr × Obj)) (s : Shared) (σ : L2.St) (H : Hp) (Q : Bool → Hp → Prop), Inv X pins σ H s → t σ H Q → wpAny (model X.prog X.w) X.A (testsOf ifs X.env) (TP X pins σ Q) X.xe s
def tYes : TT := fun _ H Q => Q true H
theorem pts_nil : PTs X [] tYes := fun pins s σ H Q I h => wpAny_tests_nil ⟨H, I, h⟩
theorem pts_one {c : Expr} {t : TT} (h : PT X c t) : PTs X [c] t := fun pins s σ H Q I q => wpAny_tests_one (h pins s σ H Q I q)

/-- the turns of a block -/
def tTurns (J : It) (acc : Addr) (g : TG) (tt : TT) (te : TE) (n : Nat) (H : Hp) (Q : VK) : Prop :=
  ∃ W : Nat → Nat → L2.St → Hp → Prop, (∃ m, W 0 m (List.replicate n none) H) ∧ ∀ i m σ H, W i m σ H →
    (J.stop i H ∧ Q (.ref acc) H) ∨ (J.go i H ∧ ∃ Nx : L2.St → Hp → Prop, (∀ σ' H', Nx σ' H' → ∃ m', m' < m ∧ W (i + 1) m' σ' H') ∧ ∀ x H', J.yld i H x H' → g x σ H' fun σ2 H2 => tt σ2 H2 fun b H3 =>
      if b = true then te σ2 H3 fun v H4 => ∃ xs, H4 acc = some (.lst xs) ∧ xs.length < sizeLine ∧ Nx σ2 (upd H4 acc (.lst (xs ++ [v]))) else Nx σ2 H3)
def tComp (n : Nat) (wi : TI) (g : TG) (tt : TT) (te : TE) : TE := fun σ H Q => wi σ H fun J H1 => ∀ acc, H1 acc = none → tTurns J acc g tt te n (upd H1 acc (.lst [])) Q
theorem pe_comp {elt tg iter : Expr} {ifs : List Expr} {pos : Pos} {wi : TI} {g : TG} {tt : TT} {te : TE} (cs : CompScope scope) (hc : X.calm = true) (hi : PI X tg iter wi)
    (hg : ∀ C s₀ H₀ ex pn, PG (cxC X N scope C s₀ H₀ ex pn) tg g) (ht : ∀ C s₀ H₀ ex pn, PTs (cxC X N scope C s₀ H₀ ex pn) ifs tt) (he : ∀ C s₀ H₀ ex pn, PE (cxC X N scope C s₀ H₀ ex pn) elt te)
    (hs : ∀ x, foldedSetIterable iter X.env x = pure x := by intro _; rfl) : PE X (.ListComp elt [⟨tg, iter, ifs, 0⟩] scope pos) (tComp N.length wi g tt te) := by
  intro pins s σ H Q I h
  refine wpAny_ListComp cs.free cs.kind cs.names (thn (hi pins s σ H _ I h) fun v s1 h1 => thn h1 fun itv s2 h2 => ?_) hs
  obtain ⟨it, fp, tn, J, H2, e, I2, T, st2, f2, q⟩ := h2
  subst e
  refine wpAny_newObj_type (hd := by size_fits) ?_
  have hacc : H2 s2.heap.objs.size = none := I2.hok.fresh (Nat.le_refl _)
  have I3 : Inv X pins σ (upd H2 s2.heap.objs.size (.lst [])) { s2 with heap := s2.heap.push { cls := .type "list", data := .seq ([] : List Value).toArray }, toks := s2.toks } := I2.lnew (ys := []) .nil (Nat.zero_le _)
  have ftn : ∀ b ∈ fp, b < s2.heap.objs.size := fun b hb => by
    obtain ⟨o, ho, _⟩ := T.obj _ _ st2 b hb
    exact Heap.lt_size ho
  have f3 : ∀ b ∈ fp, FpOk X pins (upd H2 s2.heap.objs.size (.lst [])) b := fun b hb => ⟨by rw [upd_ne (Nat.ne_of_lt (ftn b hb))]; exact (f2 b hb).1, (f2 b hb).2⟩
  have k3 : ∀ b o, s2.heap.get? b = some o → (s2.heap.push { cls := .type "list", data := .seq ([] : List Value).toArray }).get? b = some o := fun b o e => Heap.get?_push_of_some _ e
  have q3 := q _ hacc
  generalize hs3 : ({ s2 with heap := s2.heap.push { cls := .type "list", data := .seq ([] : List Value).toArray }, toks := s2.toks } : Shared) = s3 at I3
  generalize hH3 : upd H2 s2.heap.objs.size (.lst []) = H3 at I3 f3 q3
  have hh3 : s3.heap = s2.heap.push { cls := .type "list", data := .seq ([] : List Value).toArray } := by rw [← hs3]
  have ft3 : ∀ b ∈ fp, b < s3.heap.objs.size := fun b hb => by rw [hh3, Heap.size_push]; exact Nat.lt_succ_of_lt (ftn b hb)
  have st3 : tn 0 s3.heap := T.keep _ _ _ st2 fun b _ o e => by rw [hh3]; exact k3 b o e
  show wpAny _ _ _ _ _ s3
  refine wpAny_newFunctionEnv cs.cell (fun y hy => by simp at hy) (fun h₁ hns hsb => ?_) cs.kind
  have kh : ∀ b o, s3.heap.get? b = some o → h₁.get? b = some o := fun b o e => hsb.extBut _ _ (Nat.ne_of_lt (Heap.lt_size e)) (Heap.get?_push_of_some _ e)
  have J0 : Inv (cxC X N scope s3.heap.objs.size s3 H3 fp (X.pn ++ pins)) [] (List.replicate N.length none) H3 { s3 with heap := h₁, toks := s3.toks + ([] : List (Str × Value)).length } := comp_start cs I3 f3 ft3 hns kh
  have st4 : tn 0 h₁ := T.keep _ _ _ st3 fun b _ o e => kh b o e
  obtain ⟨W, ⟨m0, w0⟩, turn⟩ := q3
  have stat : ∀ {H' : Hp}, (∀ b ∈ fp, H' b = none) → ∀ b ∈ fp, FpOk (cxC X N scope s3.heap.objs.size s3 H3 fp (X.pn ++ pins)) [] H' b := fun hn b hb => by
    refine ⟨hn b hb, Nat.ne_of_lt (ft3 b hb), fun z => ?_, .inl hb, fun x c e => ?_, fun p hp => ?_⟩
    · rcases List.mem_cons.mp (I3.stkSub b z) with e | e
      · exact (f3 b hb).2.1 e
      · exact (f3 b hb).2.2.1 e
    · have e' : (none : Option Addr) = some c := e
      cases e'
    · have hp' : p ∈ X.pn ++ pins := by
        have z : p ∈ (X.pn ++ pins) ++ [] := hp
        simpa using z
      exact (f3 b hb).2.2.2.2.2 p hp'
  have loop : ∀ s5 : Shared, s5 = { s3 with heap := h₁, toks := s3.toks + ([] : List (Str × Value)).length } → codeAny (model X.prog X.w) X.A (.compLoop (.ListComp elt [⟨tg, iter, ifs, 0⟩] scope pos) 0 (.ref it) (.ref s2.heap.objs.size) (cxC X N scope s3.heap.objs.size s3 H3 fp (X.pn ++ pins)).env)
      (fun r s' => ∃ m, s'.heap.Ns s3.heap.objs.size m ∧ ∀ h', Heap.SameBut s3.heap.objs.size s'.heap h' → match r with
        | .ok _ => EP X pins σ Q (.ref s2.heap.objs.size) { s' with heap := h' }
        | .error x => wpAny (model X.prog X.w) X.A (passOn "comprehension.variables-let-go" x (cxC X N scope s3.heap.objs.size s3 H3 fp (X.pn ++ pins)).env) (EP X pins σ Q) X.xe { s' with heap := h' }) s5 := by
    rintro s5 rfl
    refine compLoopG (fun n s' => ∃ i σ' H', Inv (cxC X N scope s3.heap.objs.size s3 H3 fp (X.pn ++ pins)) [] σ' H' s' ∧ tn i s'.heap ∧ (∀ b ∈ fp, H' b = none) ∧ W i n σ' H') ?_ m0 ⟨0, _, H3, J0, st4, fun b hb => (f3 b hb).1, w0⟩
    rintro n s6 ⟨i, σ6, H6, I6, st6, fr6, w6⟩
    rcases turn i n σ6 H6 w6 with ⟨stop, qn⟩ | ⟨go, Nx, hN, step⟩
    · refine thn (T.done (cxC X N scope s3.heap.objs.size s3 H3 fp (X.pn ++ pins)) rfl rfl rfl hc i [] s6 σ6 H6 _ I6 (stat fr6) st6 stop) fun r s7 ⟨hr, I7⟩ => ?_
      subst hr
      obtain ⟨m, hm, _⟩ := I7.loc
      exact ⟨m, hm, fun h' hsb' => ⟨.ref s2.heap.objs.size, H6, comp_end I3 f3 I7 hsb', rfl, qn⟩⟩
    · refine thn (T.item (cxC X N scope s3.heap.objs.size s3 H3 fp (X.pn ++ pins)) rfl rfl rfl hc i [] s6 σ6 H6 _ I6 (stat fr6) st6 go) fun r s7 ⟨u, hr, h7⟩ => ?_
      subst hr
      refine thn h7 fun _ s8 ⟨x, H8, I8, r8, y8, st8, fr8⟩ => ?_
      have I8' := I8.pinned (stat fr8) (T.obj _ _ st8)
      refine thn (hg _ _ _ _ _ _ s8 σ6 H8 x u _ I8' r8 (step x H8 y8)) fun _ s9 ⟨σ9, H9, I9, q9⟩ => ?_
      refine thn (ht _ _ _ _ _ _ s9 σ9 H9 _ I9 q9) fun ok s10 ⟨H10, I10, q10⟩ => ?_
      have again : ∀ {σ7 : L2.St} {H7 : Hp} {s11 : Shared}, Inv (cxC X N scope s3.heap.objs.size s3 H3 fp (X.pn ++ pins)) ([] ++ pinsAt fp s8.heap) σ7 H7 s11 → Nx σ7 H7 → ∃ m, m < n ∧ ∃ i σ' H', Inv (cxC X N scope s3.heap.objs.size s3 H3 fp (X.pn ++ pins)) [] σ' H' s11 ∧ tn i s11.heap ∧ (∀ b ∈ fp, H' b = none) ∧ W i m σ' H' := fun {σ7 H7 s11} I7 n7 => by
        obtain ⟨m', hm, w7⟩ := hN σ7 H7 n7
        refine ⟨m', hm, i + 1, σ7, H7, I7.unpinned, T.keep _ _ _ st8 fun b hb o e => (I7.pin (b, o) (List.mem_append_right _ (List.mem_append_right _ (mem_pinsAt hb e)))).1, fun b hb => ?_, w7⟩
        obtain ⟨o, e, d⟩ := T.obj _ _ st8 b hb
        exact (I7.pin (b, o) (List.mem_append_right _ (List.mem_append_right _ (mem_pinsAt hb e)))).2.1
      cases ok with
      | false =>
        rw [if_neg Bool.false_ne_true] at q10
        exact again I10 q10
      | true =>
        rw [if_pos rfl] at q10
        refine thn (he _ _ _ _ _ _ s10 σ9 H10 _ I10 q10) fun v s11 ⟨y, H11, I11, r11, xs, hx, hz, n11⟩ => ?_
        refine thn (mt_append _ s11 σ9 H11 (.ref s2.heap.objs.size) [y] (.ref s2.heap.objs.size) [v] (fun _ H' => Nx σ9 H') I11 rfl (.cons r11 .nil) ⟨_, xs, y, rfl, rfl, hx, hz, n11⟩) fun _ s12 ⟨_, H12, I12, _, n12⟩ => ?_
        exact again I12 n12
  exact codeAny_compStart_list (loop _ rfl) (T.self _ _ _ _ _ st4 (loop _ rfl))
/-- the forms one uses: a list that the block leaves as it is, each item one value -/
theorem comp_list {K : PySem.W.Frag} {a acc : Addr} {xs : List V} {g : TG} {tt : TT} {te : TE} {n : Nat} {H : Hp} {Q : VK} (Pv : Nat → L2.St → Hp → Prop) (h0 : Pv 0 (List.replicate n none) H) (hl : ∀ i σ H, i ≤ xs.length → Pv i σ H → SqL K H a xs)
    (hs : ∀ i x σ H, xs[i]? = some x → Pv i σ H → g x σ H fun σ2 H2 => tt σ2 H2 fun b H3 => if b = true then te σ2 H3 fun v H4 => ∃ ys, H4 acc = some (.lst ys) ∧ ys.length < sizeLine ∧ Pv (i + 1) σ2 (upd H4 acc (.lst (ys ++ [v]))) else Pv (i + 1) σ2 H3)
    (hd : ∀ σ H, Pv xs.length σ H → Q (.ref acc) H) : tTurns (Itl K a) acc g tt te n H Q := by
  refine ⟨fun i m σ H => m = xs.length - i ∧ i ≤ xs.length ∧ Pv i σ H, ⟨xs.length, by simp, Nat.zero_le _, h0⟩, ?_⟩
  rintro i m σ H ⟨rfl, hi, p⟩
  have q := hl i σ H hi p
  by_cases hlt : i < xs.length
  · refine .inr ⟨⟨xs, xs[i], q, by simp [hlt]⟩, Pv (i + 1), fun σ' H' p' => ⟨xs.length - (i + 1), by omega, rfl, hlt, p'⟩, fun x H' y => ?_⟩
    obtain ⟨e, y⟩ := y
    subst e
    exact hs i x σ _ (y xs q) p
  · have e : i = xs.length := by omega
    subst e
    exact .inl ⟨⟨xs, q, Nat.le_refl _⟩, hd σ H p⟩
end
end InkX
namespace InkX
open PySem PySem.Spec PyProof.Rows L2
/-! ### ranges of any bounds -/
section
variable {X : Cx} {tg : Expr}
end
end InkX

namespace InkX
open PySem PySem.Spec PyProof.Rows L2
/-! ### two clauses: [elt for tg in iter for tg2 in iter2 if ..] -/
section
variable {prog : Program} {w : World} {A : Around} {R : Result → Shared → Prop} {s : Shared}
theorem turn_in (elt tg iter tg2 iter2 : Expr) (ifs ifs2 : List Expr) (scope : Scope) (pos : Pos) (it acc : Value) (env : Env) :
    compTurn (.ListComp elt [⟨tg, iter, ifs, 0⟩, ⟨tg2, iter2, ifs2, 0⟩] scope pos) 1 it acc env = (do
      standAt iter2.pos
      match ← pyNext it with
      | none => pure (.done .next)
      | some v =>
        letOwnedTupleGo tg2 it v
        assign tg2 env v
        let ok ← testsOf ifs2 env
        if ok then (do let _ ← call (.builtin "list.append") [acc, ← eval elt env])
        again (.compLoop (.ListComp elt [⟨tg, iter, ifs, 0⟩, ⟨tg2, iter2, ifs2, 0⟩] scope pos) 1 it acc env)) := by rfl
theorem turn_out (elt tg iter tg2 iter2 : Expr) (ifs ifs2 : List Expr) (scope : Scope) (pos : Pos) (it acc : Value) (env : Env) :
    compTurn (.ListComp elt [⟨tg, iter, ifs, 0⟩, ⟨tg2, iter2, ifs2, 0⟩] scope pos) 0 it acc env = (do
      standAt iter.pos
      match ← pyNext it with
      | none => pure (.done .next)
      | some v =>
        letOwnedTupleGo tg it v
        assign tg env v
        let ok ← testsOf ifs env
        if ok then
          let x ← eval iter2 env
          standAt iter2.pos
          let x ← foldedSetIterable iter2 env x
          let _ ← runOwn (.compStart (.ListComp elt [⟨tg, iter, ifs, 0⟩, ⟨tg2, iter2, ifs2, 0⟩] scope pos) 1 (← holding [x] (pyIter x)) acc env) env
        again (.compLoop (.ListComp elt [⟨tg, iter, ifs, 0⟩, ⟨tg2, iter2, ifs2, 0⟩] scope pos) 0 it acc env)) := by rfl
theorem loopIn {elt tg iter tg2 iter2 : Expr} {ifs ifs2 : List Expr} {scope : Scope} {pos : Pos} {it acc : Value} {env : Env} (I : Nat → Shared → Prop)
    (turn : ∀ n s, I n s → wpAny (model prog w) A (pyNext it) (fun r s₁ => match r with
      | none => R (.ok .next) s₁
      | some v => wpAny (model prog w) A (letOwnedTupleGo tg2 it v) (fun _ s₂ => wpAny (model prog w) A (assign tg2 env v) (fun _ s₃ =>
          wpAny (model prog w) A (testsOf ifs2 env) (fun ok s₄ =>
            if ok = true then wpAny (model prog w) A (eval elt env) (fun x s₅ => wpAny (model prog w) A (call (.builtin "list.append") [acc, x]) (fun _ s₆ => ∃ m, m < n ∧ I m s₆) (fun _ _ => False) s₅) (fun _ _ => False) s₄
            else ∃ m, m < n ∧ I m s₄) (fun _ _ => False) s₃) (fun _ _ => False) s₂) (fun _ _ => False) s₁) (fun _ _ => False) s)
    (n : Nat) (h : I n s) : codeAny (model prog w) A (.compLoop (.ListComp elt [⟨tg, iter, ifs, 0⟩, ⟨tg2, iter2, ifs2, 0⟩] scope pos) 1 it acc env) R s := by
  refine codeAny_loop rfl I (fun n s hI => ?_) n h
  show wpAny _ A ((compTurn (.ListComp elt [⟨tg, iter, ifs, 0⟩, ⟨tg2, iter2, ifs2, 0⟩] scope pos) 1 it acc env).onRaise (fun x => do noteFrame x env; theTreesLotGoes x)) _ _ s
  refine wpAny_noted ?_
  rw [turn_in]
  refine wpAny_bind (wpAny_standAt (wpAny_bind (wpAny_mono (turn n s hI) (fun r s₁ h₁ => ?_) fun _ _ h' => h'.elim)))
  cases r with
  | none => exact wpAny_pure h₁
  | some v =>
    refine wpAny_bind (wpAny_mono h₁ (fun _ s₂ h₂ => wpAny_bind (wpAny_mono h₂ (fun _ s₃ h₃ => wpAny_bind (wpAny_mono h₃ (fun ok s₄ h₄ => ?_) fun _ _ h' => h'.elim)) fun _ _ h' => h'.elim)) fun _ _ h' => h'.elim)
    cases ok with
    | false => exact wpAny_pure ⟨rfl, h₄⟩
    | true => exact wpAny_bind (wpAny_bind (wpAny_mono h₄ (fun x s₅ h₅ => wpAny_bind (wpAny_mono h₅ (fun _ s₆ h₆ => wpAny_pure (wpAny_pure ⟨rfl, h₆⟩)) fun _ _ h' => h'.elim)) fun _ _ h' => h'.elim))
theorem startIn {elt tg iter tg2 iter2 : Expr} {ifs ifs2 : List Expr} {scope : Scope} {pos : Pos} {it acc : Value} {env : Env}
    (h0 : codeAny (model prog w) A (.compLoop (.ListComp elt [⟨tg, iter, ifs, 0⟩, ⟨tg2, iter2, ifs2, 0⟩] scope pos) 1 it acc env) R s)
    (h : wpAny (model prog w) A (pyIter it) (fun it' s' => codeAny (model prog w) A (.compLoop (.ListComp elt [⟨tg, iter, ifs, 0⟩, ⟨tg2, iter2, ifs2, 0⟩] scope pos) 1 it' acc env) R s') (fun _ _ => False) s) :
    codeAny (model prog w) A (.compStart (.ListComp elt [⟨tg, iter, ifs, 0⟩, ⟨tg2, iter2, ifs2, 0⟩] scope pos) 1 it acc env) R s := by
  refine codeAny_of_tree ?_
  show wpAny _ _ ((compStart (.ListComp elt [⟨tg, iter, ifs, 0⟩, ⟨tg2, iter2, ifs2, 0⟩] scope pos) 1 it acc env).onRaise (fun x => do noteFrame x env; standAt theWindowsPlace)) _ _ s
  refine wpAny_notedAt ?_
  unfold compStart
  show wpAny _ _ (ask >>= _) _ _ s
  refine wpAny_bind (wpAny_askSetting (wpAny_ite ?_))
  split
  · first
      | exact wpAny_bind (wpAny_pure (wpAny_pure (And.intro rfl h0)))
      | exact wpAny_pure (And.intro rfl h0)
  · first
      | exact wpAny_bind (wpAny_rule (wpAny_bind (wpAny_standAt (wpAny_bind (wpAny_mono h (fun it' s' h' => wpAny_pure (And.intro rfl h')) fun _ _ x => x.elim)))))
      | (refine wpAny_bind (wpAny_rule ?_); show wpAny _ _ (standAt iter2.pos >>= _) _ _ s; exact wpAny_bind (wpAny_standAt (wpAny_bind (wpAny_mono h (fun it' s' h' => wpAny_pure (And.intro rfl h')) fun _ _ x => x.elim))))
theorem loopOut {elt tg iter tg2 iter2 : Expr} {ifs ifs2 : List Expr} {scope : Scope} {pos : Pos} {it acc : Value} {env : Env} (I : Nat → Shared → Prop)
    (hs2 : ∀ x, foldedSetIterable iter2 env x = pure x)
    (turn : ∀ n s, I n s → wpAny (model prog w) A (pyNext it) (fun r s₁ => match r with
      | none => R (.ok .next) s₁
      | some v => wpAny (model prog w) A (letOwnedTupleGo tg it v) (fun _ s₂ => wpAny (model prog w) A (assign tg env v) (fun _ s₃ =>
          wpAny (model prog w) A (testsOf ifs env) (fun ok s₄ =>
            if ok = true then wpAny (model prog w) A (eval iter2 env) (fun x s₅ => wpAny (model prog w) A (pyIter x) (fun it2 s₆ =>
              codeAny (model prog w) A (.compStart (.ListComp elt [⟨tg, iter, ifs, 0⟩, ⟨tg2, iter2, ifs2, 0⟩] scope pos) 1 it2 acc env) (fun r s₇ => (∃ f, r = .ok f) ∧ ∃ m, m < n ∧ I m s₇) s₆) (fun _ _ => False) s₅) (fun _ _ => False) s₄
            else ∃ m, m < n ∧ I m s₄) (fun _ _ => False) s₃) (fun _ _ => False) s₂) (fun _ _ => False) s₁) (fun _ _ => False) s)
    (n : Nat) (h : I n s) : codeAny (model prog w) A (.compLoop (.ListComp elt [⟨tg, iter, ifs, 0⟩, ⟨tg2, iter2, ifs2, 0⟩] scope pos) 0 it acc env) R s := by
  refine codeAny_loop rfl I (fun n s hI => ?_) n h
  show wpAny _ A ((compTurn (.ListComp elt [⟨tg, iter, ifs, 0⟩, ⟨tg2, iter2, ifs2, 0⟩] scope pos) 0 it acc env).onRaise (fun x => do noteFrame x env; theTreesLotGoes x)) _ _ s
  refine wpAny_noted ?_
  rw [turn_out]
  refine wpAny_bind (wpAny_standAt (wpAny_bind (wpAny_mono (turn n s hI) (fun r s₁ h₁ => ?_) fun _ _ h' => h'.elim)))
  cases r with
  | none => exact wpAny_pure h₁
  | some v =>
    refine wpAny_bind (wpAny_mono h₁ (fun _ s₂ h₂ => wpAny_bind (wpAny_mono h₂ (fun _ s₃ h₃ => wpAny_bind (wpAny_mono h₃ (fun ok s₄ h₄ => ?_) fun _ _ h' => h'.elim)) fun _ _ h' => h'.elim)) fun _ _ h' => h'.elim)
    cases ok with
    | false => exact wpAny_pure ⟨rfl, h₄⟩
    | true =>
      refine wpAny_bind (wpAny_mono h₄ (fun x s₅ h₅ => wpAny_bind (wpAny_standAt (wpAny_bind (wpAny_of_eq (hs2 x) (wpAny_bind (wpAny_holding (wpAny_mono h₅ (fun it2 s₆ h₆ => ?_) fun _ _ h' => h'.elim))))))) fun _ _ h' => h'.elim)
      refine wpAny_bind (wpAny_runOwn (codeAny_mono h₆ fun r s₇ ⟨⟨f, hf⟩, hm⟩ => ?_))
      subst hf
      exact wpAny_pure ⟨rfl, hm⟩
end
section
variable {X : Cx} {N : List Str} {scope : Scope}
/-- the inner turns: they end with Nx -/
def tInner (wi : TI) (acc : Addr) (g : TG) (tt : TT) (te : TE) : L2.St → Hp → (L2.St → Hp → Prop) → Prop := fun σ H Nx => wi σ H fun J H1 =>
  ∃ W : Nat → Nat → L2.St → Hp → Prop, (∃ m, W 0 m σ H1) ∧ ∀ i m σ H, W i m σ H →
    (J.stop i H ∧ Nx σ H) ∨ (J.go i H ∧ ∃ N2 : L2.St → Hp → Prop, (∀ σ' H', N2 σ' H' → ∃ m', m' < m ∧ W (i + 1) m' σ' H') ∧ ∀ x H', J.yld i H x H' → g x σ H' fun σ2 H2 => tt σ2 H2 fun b H3 =>
      if b = true then te σ2 H3 fun v H4 => ∃ xs, H4 acc = some (.lst xs) ∧ xs.length < sizeLine ∧ N2 σ2 (upd H4 acc (.lst (xs ++ [v]))) else N2 σ2 H3)
/-- the inner block within a context Y whose frame is the block's -/
theorem inner_run {Y : Cx} {elt tg iter tg2 iter2 : Expr} {ifs ifs2 : List Expr} {pos : Pos} {wi2 : TI} {g2 : TG} {tt2 : TT} {te : TE} {acc : Addr} (hc : Y.calm = true) (hxe : Y.xe = fun _ _ => False) (hi : PI Y tg2 iter2 wi2) (hg : PG Y tg2 g2) (ht : PTs Y ifs2 tt2) (he : PE Y elt te)
    {pins : List (Addr × Obj)} {s : Shared} {σ : L2.St} {H : Hp} {Nx : L2.St → Hp → Prop} (I : Inv Y pins σ H s) (h : tInner wi2 acc g2 tt2 te σ H Nx) :
    wpAny (model Y.prog Y.w) Y.A (eval iter2 Y.env) (fun x s₅ => wpAny (model Y.prog Y.w) Y.A (pyIter x) (fun it2 s₆ =>
      codeAny (model Y.prog Y.w) Y.A (.compStart (.ListComp elt [⟨tg, iter, ifs, 0⟩, ⟨tg2, iter2, ifs2, 0⟩] scope pos) 1 it2 (.ref acc) Y.env) (fun r s₇ => (∃ f, r = .ok f) ∧ ∃ σ' H', Inv Y pins σ' H' s₇ ∧ Nx σ' H') s₆) (fun _ _ => False) s₅) (fun _ _ => False) s := by
  have hi' := hi pins s σ H _ I h
  have hg' := hg
  have ht' := ht
  have he' := he
  unfold PG at hg'
  unfold PTs at ht'
  unfold PE at he'
  rw [hxe] at hi' hg' ht' he'
  refine thn hi' fun v s1 h1 => thn h1 fun itv s2 h2 => ?_
  obtain ⟨it, fp, tn, J, H2, e, I2, T, st2, f2, W, ⟨m0, w0⟩, turn⟩ := h2
  subst e
  have stat : ∀ {H' : Hp}, (∀ b ∈ fp, H' b = none) → ∀ b ∈ fp, FpOk Y pins H' b := fun hn b hb => ⟨hn b hb, (f2 b hb).2⟩
  have loop : codeAny (model Y.prog Y.w) Y.A (.compLoop (.ListComp elt [⟨tg, iter, ifs, 0⟩, ⟨tg2, iter2, ifs2, 0⟩] scope pos) 1 (.ref it) (.ref acc) Y.env) (fun r s₇ => (∃ f, r = .ok f) ∧ ∃ σ' H', Inv Y pins σ' H' s₇ ∧ Nx σ' H') s2 := by
    refine loopIn (fun n s' => ∃ i σ' H', Inv Y pins σ' H' s' ∧ tn i s'.heap ∧ (∀ b ∈ fp, H' b = none) ∧ W i n σ' H') ?_ m0 ⟨0, σ, H2, I2, st2, fun b hb => (f2 b hb).1, w0⟩
    rintro n s6 ⟨i, σ6, H6, I6, st6, fr6, w6⟩
    rcases turn i n σ6 H6 w6 with ⟨stop, qn⟩ | ⟨go, N2, hN, step⟩
    · refine thn (T.done Y rfl rfl rfl hc i pins s6 σ6 H6 _ I6 (stat fr6) st6 stop) fun r s7 ⟨hr, I7⟩ => ?_
      subst hr
      exact ⟨⟨_, rfl⟩, σ6, H6, I7, qn⟩
    · refine thn (T.item Y rfl rfl rfl hc i pins s6 σ6 H6 _ I6 (stat fr6) st6 go) fun r s7 ⟨u, hr, h7⟩ => ?_
      subst hr
      refine thn h7 fun _ s8 ⟨x, H8, I8, r8, y8, st8, fr8⟩ => ?_
      have I8' := I8.pinned (stat fr8) (T.obj _ _ st8)
      refine thn (hg' _ s8 σ6 H8 x u _ I8' r8 (step x H8 y8)) fun _ s9 ⟨σ9, H9, I9, q9⟩ => ?_
      refine thn (ht' _ s9 σ9 H9 _ I9 q9) fun ok s10 ⟨H10, I10, q10⟩ => ?_
      have again : ∀ {σ7 : L2.St} {H7 : Hp} {s11 : Shared}, Inv Y (pins ++ pinsAt fp s8.heap) σ7 H7 s11 → N2 σ7 H7 → ∃ m, m < n ∧ ∃ i σ' H', Inv Y pins σ' H' s11 ∧ tn i s11.heap ∧ (∀ b ∈ fp, H' b = none) ∧ W i m σ' H' := fun {σ7 H7 s11} I7 n7 => by
        obtain ⟨m', hm, w7⟩ := hN σ7 H7 n7
        refine ⟨m', hm, i + 1, σ7, H7, I7.unpinned, T.keep _ _ _ st8 fun b hb o e => (I7.pin (b, o) (List.mem_append_right _ (List.mem_append_right _ (mem_pinsAt hb e)))).1, fun b hb => ?_, w7⟩
        obtain ⟨o, e, d⟩ := T.obj _ _ st8 b hb
        exact (I7.pin (b, o) (List.mem_append_right _ (List.mem_append_right _ (mem_pinsAt hb e)))).2.1
      cases ok with
      | false =>
        rw [if_neg Bool.false_ne_true] at q10
        exact again I10 q10
      | true =>
        rw [if_pos rfl] at q10
        refine thn (he' _ s10 σ9 H10 _ I10 q10) fun v s11 ⟨y, H11, I11, r11, xs, hx, hz, n11⟩ => ?_
        have ap := mt_append _ s11 σ9 H11 (.ref acc) [y] (.ref acc) [v] (fun _ H' => N2 σ9 H') I11 rfl (.cons r11 .nil) ⟨_, xs, y, rfl, rfl, hx, hz, n11⟩
        rw [hxe] at ap
        exact thn ap fun _ s12 ⟨_, H12, I12, _, n12⟩ => again I12 n12
  exact startIn loop (T.self _ _ _ _ _ st2 loop)

end

/-! ### rules that name the written part, within a block -/
theorem yesN {i : Nat} {v : V} {σ : L2.St} {H : Hp} {Q : L2.St → Bool → Hp → Prop} (h : Q (σ.set i (some v)) true H) : gName i v σ H (fun σ2 H2 => tYes σ2 H2 (Q σ2)) := h
theorem yes {σ : L2.St} {H : Hp} {Q : Bool → Hp → Prop} (h : Q true H) : tYes σ H Q := h
section
variable {X : Cx} {N : List Str} {scope : Scope} {C : Addr} {s₀ : Shared} {H₀ : Hp} {ex : List Addr} {pn : List (Addr × Obj)}
theorem pgC_tup {es : List Expr} {k : Nat} {t : TGs} {n : Nat} {pos : Pos} (hc : X.calm = true) (h : PGs (cxC X N scope C s₀ H₀ ex pn) es t)
    (hn : (assignEach es (cxC X N scope C s₀ H₀ ex pn).env).length = n := by rfl) (hst : (assignEach es (cxC X N scope C s₀ H₀ ex pn).env).findIdx? (·.1) = none := by rfl) : PG (cxC X N scope C s₀ H₀ ex pn) (.Tuple es k pos) (gTup X.K n t) := pg_tup (X := cxC X N scope C s₀ H₀ ex pn) hc h hn hst
theorem ixC_tup : IxR (cxC X N scope C s₀ H₀ ex pn) (rIxT X.K) := ix_tup
end
end InkX

namespace Ink
open PySem L2 InkX
/-- one pair more at the end of a list that is ours alone -/
theorem grown {H0 H2 : Hp} {q t : Addr} {bs : List Addr} {row : Row} {st en : Int} (hq0 : H0 q = none) (s : Same H0 H2) (hq2 : H2 q = some (.lst (bs.map V.ref))) (hb : PairsAt H2 bs row) (ht : H2 t = none) :
    (upd (upd H2 t (.tup [.int st, .int en])) q (.lst (bs.map V.ref ++ [.ref t]))) q = some (.lst ((bs ++ [t]).map V.ref)) ∧
    PairsAt (upd (upd H2 t (.tup [.int st, .int en])) q (.lst (bs.map V.ref ++ [.ref t]))) (bs ++ [t]) (row ++ [(st, en)]) ∧ Same H0 (upd (upd H2 t (.tup [.int st, .int en])) q (.lst (bs.map V.ref ++ [.ref t]))) := by
  have ntq : q ≠ t := ne_of_none hq2 ht
  have s1 : Same H2 (upd H2 t (.tup [.int st, .int en])) := same_new ht _
  refine ⟨by rw [upd_same, List.map_append]; rfl, ?_, keep_of hq0 (s.trans s1) (keep_upd q _ _)⟩
  refine PairsAt.snoc ((hb.same s1).keep (s1 _ _ hq2) (keep_upd q _ _)) ?_
  show upd _ q _ t = _
  rw [upd_ne ntq.symm, upd_same]
/-- the last pair changed -/
theorem turned {H0 H2 : Hp} {q t a : Addr} {bs : List Addr} {row : Row} {st en : Int} (hq0 : H0 q = none) (s : Same H0 H2) (hq2 : H2 q = some (.lst (bs.map V.ref ++ [.ref a]))) (hb : PairsAt H2 bs row) (ht : H2 t = none) :
    (upd (upd H2 t (.tup [.int st, .int en])) q (.lst ((bs.map V.ref ++ [V.ref a]).set bs.length (V.ref t)))) q = some (.lst ((bs ++ [t]).map V.ref)) ∧
    PairsAt (upd (upd H2 t (.tup [.int st, .int en])) q (.lst ((bs.map V.ref ++ [V.ref a]).set bs.length (V.ref t)))) (bs ++ [t]) (row ++ [(st, en)]) ∧ Same H0 (upd (upd H2 t (.tup [.int st, .int en])) q (.lst ((bs.map V.ref ++ [V.ref a]).set bs.length (V.ref t)))) := by
  have ntq : q ≠ t := ne_of_none hq2 ht
  have s1 : Same H2 (upd H2 t (.tup [.int st, .int en])) := same_new ht _
  have e : (bs.map V.ref ++ [V.ref a]).set bs.length (V.ref t) = (bs ++ [t]).map V.ref := by
    have z := set_last (bs.map V.ref) (V.ref a) (V.ref t)
    rw [List.length_map] at z
    rw [z, List.map_append]; rfl
  rw [e]
  refine ⟨upd_same, ?_, keep_of hq0 (s.trans s1) (keep_upd q _ _)⟩
  refine PairsAt.snoc ((hb.same s1).keep (s1 _ _ hq2) (keep_upd q _ _)) ?_
  show upd _ q _ t = _
  rw [upd_ne ntq.symm, upd_same]
theorem ixLast (bs : List Addr) (a : Addr) : ixN (bs.map V.ref ++ [V.ref a]).length (-1) = some bs.length := by
  rw [List.length_append, List.length_map, List.length_singleton]
  exact ixN_neg1 _
theorem take_fold {f : Row → Int × Int → Row} {row : Row} {i : Nat} {p : Int × Int} (h : row[i]? = some p) : (row.take (i + 1)).foldl f [] = f ((row.take i).foldl f []) p := foldl_take_succ f row [] i p h
theorem plain_le (row : Row) : ∀ t : Row, (row.foldl plainStep t).length ≤ t.length + row.length := by
  induction row with
  | nil => intro t; simp
  | cons p row ih =>
    intro t
    have h1 := ih (plainStep t p)
    have h2 : (plainStep t p).length ≤ t.length + 1 := by
      unfold plainStep
      split
      · omega
      · exact grow_length _ _ _
    rw [List.foldl_cons, List.length_cons]
    omega
theorem rowOf_le (ns : List Int) : ∀ t : Row, (ns.foldl (fun t n => grow t n (n + 1)) t).length ≤ t.length + ns.length := by
  induction ns with
  | nil => intro t; simp
  | cons n ns ih =>
    intro t
    have h1 := ih (grow t n (n + 1))
    have h2 := grow_length t n (n + 1)
    rw [List.foldl_cons, List.length_cons]
    omega
end Ink

namespace Ink
open PySem PySem.Spec PyProof.Rows L2 InkX
/-! ### rows compared, whatever they tell -/
def spSize : Sp := fun vs H Q _ => ∃ (r : Addr) (row : Row), vs = [.ref r] ∧ RowAt H r row ∧ row.length ≤ 1000000 ∧ ∀ H', Same H H' → Q (.int (tot row)) H'
def Ends (ns : List Int) (row : Row) : Prop := 0 < ns.length → ∃ (r0 : Row) (p0 : Int × Int), row = r0 ++ [p0] ∧ p0.1 < p0.2
end Ink

namespace InkE
open PySem PySem.Spec PyProof.Rows PySem.W L2

/-! ### an exception in the air -/
section
variable {P : Program} {w : World} {H H' : Hp} {h h0 g : Heap} {a T : Addr} {C a0 : Value} {o : HO}
theorem objHere (x : ObjOk P w H h a o) : ∃ u, h.get? a = some u := by
  cases o with
  | lst xs => obtain ⟨_, _, _, _, e⟩ := x; exact ⟨_, e⟩
  | tup xs => obtain ⟨_, _, _, _, e, _⟩ := x; exact ⟨_, e⟩
  | dK kvs => obtain ⟨_, _, _, _, _, _, _, e, _⟩ := x; exact ⟨_, e⟩
  | dT kvs => obtain ⟨_, _, _, _, _, _, _, e, _⟩ := x; exact ⟨_, e⟩
  | set S n => obtain ⟨_, _, _, _, e, _⟩ := x; exact ⟨_, e⟩
  | ins C dx fs => obtain ⟨_, _, _, e, _⟩ := x; exact ⟨_, e⟩
  | own y => exact x
  | xd fs => obtain ⟨_, ⟨_, _, _, e, _⟩, _⟩ := x; exact ⟨_, e⟩
  | rng lo hi => obtain ⟨_, _, _, e⟩ := x; exact ⟨_, e⟩
  | frz ob u => exact ⟨_, x.1⟩
  | tbl ps => exact ⟨_, x⟩
  | met f y => exact ⟨_, x⟩
  | ext φ => exact x.2.1
theorem hokNone (x : HOk P w H h) {b : Addr} (e : h.get? b = none) : H b = none := by
  cases q : H b with
  | none => rfl
  | some u =>
    obtain ⟨z, hz⟩ := objHere (x b u q)
    rw [e] at hz
    cases hz
theorem hide_none {l : List Addr} {b : Addr} (e : (hideAll h l).get? b = none) : b ∈ l ∨ h.get? b = none := by
  by_cases hb : b ∈ l
  · exact .inl hb
  · right
    cases q : h.get? b with
    | none => rfl
    | some u => rw [hideAll_get l q hb] at e; cases e

/-- the object at a of class C (first field a0), its record at T; neither lay in h0, neither is tracked -/
def Fly (h0 : Heap) (H : Hp) (h : Heap) (a T : Addr) (C a0 : Value) : Prop :=
  (∃ oe vs oT ts, h.get? a = some oe ∧ (oe.cls = C ∧ vs[0]? = some a0) ∧ oe.data = .fields vs ∧ vs[1]? = some (.ref T) ∧ T ≠ a ∧ h.get? T = some oT ∧ oT.data = .fields ts ∧ ts[3]? = some .none) ∧ (H a = none ∧ H T = none) ∧ h0.get? a = none ∧ h0.get? T = none

theorem fly_land {fs hd : List Addr} {l' : List Env} (u : Un fs [] H H' h0 h) (hok : HOk P w H' h) (h1 : ∀ b o, h0.get? b = some o → b ∉ fs → b ∉ hd) (h2 : ∀ b ∈ hd, H' b = none)
    (h3 : ∀ b ∈ fs, ∃ o, h.get? b = some o ∧ ∀ vs, o.data ≠ .fields vs) (h4 : ∀ b ∈ hd, h0.get? b = none ∨ ∃ o, h.get? b = some o ∧ ∀ vs, o.data ≠ .fields vs)
    (ha : h0.get? a = none) (ha' : H' a = none) (f : Heap.FlyingW (hideAll h hd) l' a C a0 g) (k : h.UpToSlots g) :
    Un fs [] H H' h0 g ∧ HOk P w H' g ∧ ∃ T, Fly h0 H' g a T C a0 := by
  have nil : ∀ b : Addr, b ∉ ([] : List Addr) := fun b => List.not_mem_nil
  have kp : ∀ b o, h.get? b = some o → b ∉ hd → g.get? b = some o := fun b o e n => f.1 b o (hideAll_get hd e n)
  refine ⟨⟨fun b o e n hb _ => kp b o (u.keep b o e n hb (nil b)) (h1 b o e hb), fun b o e n hb _ => ?_, fun b o e n _ => u.free b o e n (nil b), fun b o e _ => ?_, u.tups, u.frzs, u.tbls⟩, fun b o e => ?_, ?_⟩
  · obtain ⟨sl, e1⟩ := u.slot b o e n hb (nil b)
    obtain ⟨o', e2, nf⟩ := h3 b hb
    obtain ⟨sl', e3⟩ := k b o' e2 nf
    rw [e1] at e2
    cases e2
    exact ⟨sl', e3⟩
  · by_cases hb : b ∈ fs
    · obtain ⟨o', e2, nf⟩ := h3 b hb
      obtain ⟨sl', e3⟩ := k b o' e2 nf
      exact ⟨_, e3⟩
    · obtain ⟨o', e1⟩ := u.there b o e (nil b)
      exact ⟨o', kp b o' e1 (h1 b o e hb)⟩
  · refine (hok b o e).stay (fun c v hc q => kp c v q fun hm => ?_) (fun _ q => q) fun _ _ q => q
    have hn := h2 c hm
    rcases hc with rfl | hc
    · rw [e] at hn; cases hn
    · rw [hc] at hn; cases hn
  · obtain ⟨_, _, _, oe, vs, T, oT, ts, e1, e2, e3, e4, e5, e6, e7, e8, e9⟩ := f
    refine ⟨T, ⟨oe, vs, oT, ts, e1, e2, e3, e4, e6, e7, e8, e9⟩, ⟨ha', ?_⟩, ha, ?_⟩
    · rcases hide_none e5 with hm | hn
      · exact h2 T hm
      · exact hokNone hok hn
    · rcases hide_none e5 with hm | hn
      · rcases h4 T hm with z | ⟨o, eo, nf⟩
        · exact z
        · obtain ⟨sl, eg⟩ := k T o eo nf
          rw [e7] at eg
          cases eg
          exact absurd e8 (nf ts)
      · cases q : h0.get? T with
        | none => rfl
        | some o =>
          obtain ⟨o', eo⟩ := u.there T o q (nil T)
          rw [hn] at eo
          cases eo
theorem fly_ground {base : Heap} {l : List Env} (F : Fly h0 H h a T C a0) (S : h.FunFrames base l) : Heap.FlyingW (hideAll h (a :: T :: frs l)) l a C a0 h := by
  obtain ⟨⟨oe, vs, oT, ts, e1, e2, e3, e4, e5, e6, e7, e8⟩, _, _⟩ := F
  refine ⟨fun b o e => of_hideAll _ e, hideAll_none _ (List.mem_cons_self), funFrames_hide S fun env he b hb => ?_, oe, vs, T, oT, ts, e1, e2, e3, e4, ?_, e5, e6, e7, e8⟩
  · exact List.mem_cons_of_mem _ (List.mem_cons_of_mem _ (List.mem_filterMap.mpr ⟨env, he, hb⟩))
  · exact hideAll_none _ (List.mem_cons_of_mem _ List.mem_cons_self)
end

/-- behind a call that an exception left -/
def CX1 (P : Program) (w : World) : CXT := fun outer H s E e s' => ∃ a T C a0 H', e = .ref a ∧ (s'.os = s.os ∧ AllBare s'.gens) ∧ Un (frs outer) [] H H' s.heap s'.heap ∧ HOk P w H' s'.heap ∧ Fly s.heap H' s'.heap a T C a0 ∧ E C none H'

section
variable {X : Cx} {pins : List (Addr × Obj)} {σ : L2.St} {H H1 : Hp} {s s' : Shared} {a T : Addr} {C a0 : Value}
theorem frs_is (hst : X.stack = X.env :: X.outer) (hf : X.env.frame = some X.env.locals) : frs X.stack = X.env.locals :: X.fs := by
  rw [hst]
  unfold frs
  rw [List.filterMap_cons, hf]
  rfl
/-- what is hidden behind the frames and the two records -/
theorem hid_frame (I : Inv X pins σ H s) : ∀ b ∈ frs X.stack, ∃ o, s.heap.get? b = some o ∧ ∀ vs, o.data ≠ .fields vs := fun b hb => (I.stack.mem hb).2
/-- a call's exception, at the caller: the state goes on as h says -/
theorem fly_here {l' : List Env} {g : Heap} (I : Inv X pins σ H s) (os : s'.os = s.os) (bare : AllBare s'.gens) (u : Un (frs X.stack) [] H H1 s.heap s'.heap) (hok : HOk X.prog X.w H1 s'.heap) (F : Fly s.heap H1 s'.heap a T C a0)
    (f : Heap.FlyingW (hideAll s'.heap (a :: T :: frs X.stack)) l' a C a0 g) (k : s'.heap.UpToSlots g) : Inv X pins σ H1 { s' with heap := g } := by
  have I1 : Inv X pins σ H1 s' := I.call' (ch := []) os u hok bare (fun b z => absurd z (by simp))
  obtain ⟨_, ⟨na, nT⟩, sa, sT⟩ := id F
  have p1 : ∀ b o, s.heap.get? b = some o → b ∉ frs X.stack → b ∉ a :: T :: frs X.stack := fun b o e hb hm => by
    rcases List.mem_cons.mp hm with rfl | hm
    · rw [sa] at e; cases e
    rcases List.mem_cons.mp hm with rfl | hm
    · rw [sT] at e; cases e
    · exact hb hm
  have p2 : ∀ b ∈ a :: T :: frs X.stack, H1 b = none := fun b hm => by
    rcases List.mem_cons.mp hm with rfl | hm
    · exact na
    rcases List.mem_cons.mp hm with rfl | hm
    · exact nT
    · exact I1.stkFree b hm
  have p4 : ∀ b ∈ a :: T :: frs X.stack, s.heap.get? b = none ∨ ∃ o, s'.heap.get? b = some o ∧ ∀ vs, o.data ≠ .fields vs := fun b hm => by
    rcases List.mem_cons.mp hm with rfl | hm
    · exact .inl sa
    rcases List.mem_cons.mp hm with rfl | hm
    · exact .inl sT
    · exact .inr (hid_frame I1 b hm)
  obtain ⟨u', hok', _⟩ := fly_land (hd := a :: T :: frs X.stack) u hok p1 p2 (hid_frame I1) p4 sa na f k
  exact I.call' (s' := { s' with heap := g }) (ch := []) os u' hok' bare (fun b z => absurd z (by simp))
end

/-! ### through a def's frame -/
section
variable {P : Program} {w : World} {K : PySem.W.Frag} {mg : Str → Option Value} {base : Heap} {N : List Str} {qual : Str} {scope : Scope} {f : Addr} {cd : Value} {A : Around} {outer : List Env} {s : Shared} {H : Hp} {E : XK}
abbrev cx1 (P : Program) (w : World) (K : PySem.W.Frag) (mg : Str → Option Value) (base : Heap) (N : List Str) (qual : Str) (scope : Scope) (f : Addr) (cd : Value) (A : Around) (outer : List Env) (s : Shared) (H : Hp) (E : XK) : Cx :=
  cxOf (CX1 P w) P w K mg base N qual scope f cd A outer s H E
theorem passX : Passes (CX1 P w) (cx1 P w K mg base N qual scope f cd A outer s H E) E := by
  intro pins σ H1 s1 e s' I h
  obtain ⟨a, T, C, a0, H', rfl, ⟨os, bare⟩, u, hok, F, q⟩ := h
  have I1 : Inv (cx1 P w K mg base N qual scope f cd A outer s H E) pins σ H' s' := I.call' (ch := []) os u hok bare (fun b z => absurd z (by simp))
  obtain ⟨_, ⟨na, nT⟩, sa, sT⟩ := id F
  have old : ∀ b, s1.heap.get? b = none → s.heap.get? b = none := fun b e => by
    cases z : s.heap.get? b with
    | none => rfl
    | some o =>
      obtain ⟨o', e'⟩ := I.base.there b o z (fun m => absurd (show b ∈ ([] : List Addr) from m) (by simp))
      rw [e] at e'
      cases e'
  refine wpAny_leaves_onW (base := hideAll s'.heap (a :: T :: frs (cx1 P w K mg base N qual scope f cd A outer s H E).stack)) I.ok.frames rfl (fly_ground F I1.stack) fun g fl k => ?_
  have p1 : ∀ b o, s.heap.get? b = some o → b ∉ frs outer → b ∉ a :: T :: frs (cx1 P w K mg base N qual scope f cd A outer s H E).stack := fun b o e hb hm => by
    rcases List.mem_cons.mp hm with rfl | hm
    · rw [old b sa] at e; cases e
    rcases List.mem_cons.mp hm with rfl | hm
    · rw [old b sT] at e; cases e
    · rw [frs_is rfl rfl] at hm
      rcases List.mem_cons.mp hm with rfl | hm
      · exact absurd (Heap.lt_size e) (Nat.not_lt.mpr I.ok.above)
      · exact hb hm
  have p2 : ∀ b ∈ a :: T :: frs (cx1 P w K mg base N qual scope f cd A outer s H E).stack, H' b = none := fun b hm => by
    rcases List.mem_cons.mp hm with rfl | hm
    · exact na
    rcases List.mem_cons.mp hm with rfl | hm
    · exact nT
    · exact I1.stkFree b hm
  have p4 : ∀ b ∈ a :: T :: frs (cx1 P w K mg base N qual scope f cd A outer s H E).stack, s.heap.get? b = none ∨ ∃ o, s'.heap.get? b = some o ∧ ∀ vs, o.data ≠ .fields vs := fun b hm => by
    rcases List.mem_cons.mp hm with rfl | hm
    · exact .inl (old b sa)
    rcases List.mem_cons.mp hm with rfl | hm
    · exact .inl (old b sT)
    · exact .inr (hid_frame I1 b hm)
  obtain ⟨u', hok', T', F'⟩ := fly_land (h0 := s.heap) (fs := frs outer) (hd := a :: T :: frs (cx1 P w K mg base N qual scope f cd A outer s H E).stack) I1.base hok p1 p2 (fun b hb => (I1.funs.mem hb).2) p4 (old a sa) na fl k
  exact ⟨a, T', C, a0, H', rfl, ⟨I1.os, bare⟩, u', hok', F', q⟩

/-- an exception that is raised in this body -/
def Raises (X : Cx) (E : XK) : Prop := ∀ (pins : List (Addr × Obj)) (σ : L2.St) (H : Hp) (s : Shared) (h' : Heap) (e : Addr) (C : Value) (args : List Value), Inv X pins σ H s → Heap.MadeExcOf s.heap h' e C args → E C none H → X.xe (.ref e) { s with heap := h' }
theorem raiseX : Raises (cx1 P w K mg base N qual scope f cd A outer s H E) E := by
  intro pins σ H1 s1 h' e C args I M q
  have old : ∀ b, s1.heap.get? b = none → s.heap.get? b = none := fun b e => by
    cases z : s.heap.get? b with
    | none => rfl
    | some o =>
      obtain ⟨o', e'⟩ := I.base.there b o z (fun m => absurd (show b ∈ ([] : List Addr) from m) (by simp))
      rw [e] at e'
      cases e'
  refine wpAny_leaves_madeW (base := hideAll s1.heap (frs (cx1 P w K mg base N qual scope f cd A outer s H E).stack)) (h := s1.heap) I.ok.frames rfl (fun b o e => of_hideAll _ e) (funFrames_hide I.stack fun env he b hb => List.mem_filterMap.mpr ⟨env, he, hb⟩) M fun g t fl _ _ k => ?_
  have k1 : s1.heap.UpToSlots g := (Heap.UpToSlots.of_keeps M.keeps).trans k
  have p1 : ∀ b o, s.heap.get? b = some o → b ∉ frs outer → b ∉ frs (cx1 P w K mg base N qual scope f cd A outer s H E).stack := fun b o e hb hm => by
    rw [frs_is rfl rfl] at hm
    rcases List.mem_cons.mp hm with rfl | hm
    · exact absurd (Heap.lt_size e) (Nat.not_lt.mpr I.ok.above)
    · exact hb hm
  obtain ⟨u', hok', T', F'⟩ := fly_land (h0 := s.heap) (fs := frs outer) (hd := frs (cx1 P w K mg base N qual scope f cd A outer s H E).stack) I.base I.hok p1 (fun b hm => I.stkFree b hm) (fun b hb => (I.funs.mem hb).2) (fun b hm => .inr (hid_frame I b hm)) (old e M.new) (hokNone I.hok M.new) fl k1
  exact ⟨e, T', C, .ref t, H1, rfl, ⟨I.os, I.bare⟩, u', hok', F', q⟩

/-- a def whose exceptions go on -/
theorem okX {x qual : Str} {st : Stmt} {f : Addr} {fd : FuncData} {N ps : List Str} {k : Nat} {sp : Sp} (F : Fun K x qual st f fd) (S : FnScope N ps (defScope st)) (len : ∀ vs H Q E, sp vs H Q E → vs.length = ps.length)
    (hbody : ∀ (cdv : Value) (A : Around) (outer : List Env) (s : Shared) (H : Hp) (vs : List V) (Q : VK) (E : XK), Room k (A.deeper (envOfC qual (defScope st) s.heap.objs.size f cdv)) → sp vs H Q E →
      ∃ t, PSs (cx1 P w K mg base N qual (defScope st) f cdv A outer s H E) (defBody st) t ∧ t { nx := fun _ H' => Q .non H', rt := Q } (start N vs) H) : FnOk P w K mg base (CX1 P w) (k + 1) f fd ps sp := by
  obtain ⟨oc, od, kV, doc, pm, an, cdv, ct, osl, rfl, lk, hcd⟩ := F.ex
  exact fn_of lk hcd S len fun A outer s H vs Q E hr hsp => hbody cdv A outer s H vs Q E hr hsp
end

/-! ### raise -/
section
variable {X : Cx}
theorem exc_obj {K : Frag} {h : Heap} {C : Addr} {bmB : List Value} {newId : String} {x : Str} {mg : Str → Option Value} (I : K.In h) (m : mg x = some (.ref C)) (q : excIn K C bmB newId = true) : OwnCls x C bmB newId mg h := by
  refine ⟨m, ?_⟩
  unfold excIn at q
  split at q
  case h_2 => cases q
  rename_i dd cd sl ho
  split at q
  case h_2 => cases q
  rename_i c1 bm k0 k1 k2 k3 n k5 hm hs
  simp only [Bool.and_eq_true, beq_iff_eq, Bool.not_eq_true'] at q
  obtain ⟨⟨⟨⟨⟨e1, e2⟩, hdel⟩, ht⟩, hno⟩, hni⟩ := q
  cases e1
  cases e2
  cases cd with
  | mk nm bs mro ns qn hd sn sub ab col del =>
    cases hm
    cases hdel
    cases sl with
    | mk l =>
      have hs' : l = [k0, k1, k2, k3, some (.builtin newId), k5] := hs
      subst hs'
      exact ⟨bm, ns, nm, qn, bs, hd, sn, sub, ab, col, dd, k0, k1, k2, k3, k5, _, I _ _ ho, .of_isNs (isNs_of_in I hno), nsMap_none_of_in I hno hni, tail_of_in I ht⟩

def tRaise (C : Addr) (E : XK) (t : TA) : TS := fun _ σ H => t σ H fun vs H1 => vs.length ≤ sizeLine ∧ E (.ref C) none H1
theorem ps_raise {E : XK} {x : Str} {C : Addr} {bmB : List Value} {newId initId B : String} {e : Expr} {es : List Expr} {t : TA} {np cpos pos : Pos} (FB : ExcBaseFacts B newId initId bmB) (hx : excIn X.K C bmB newId = true) (hm : X.mg x = some (.ref C)) (hc : X.calm = true) (hr : Raises X E)
    (ha : PA X (e :: es) t) (hg : Gl X x := by rfl) (hdb : (x == ("__debug__" : Str)) = false := by decide) (he : starEach (e :: es) X.env = (false, eval e X.env) :: starEach es X.env := by rfl) (hpl : (backTo cpos (starEach es X.env)).any (·.1) = false := by rfl) :
    PS X (.Raise (some (.Call (.Name x np) (e :: es) [] cpos)) none pos) (tRaise C E t) := by
  intro pins s σ H D I h
  obtain ⟨tl, Nd, c1, c2, c3, c4, c5, c6, c7, c8, c9, d0, d1, d2, d3, d5, mN, hC, hN, hni, T⟩ := (exc_obj I.mod.kin hm hx).obj
  refine wpAny_Raise_call_subT (nm := c1) (q := c2) (N := Nd) (bs := c3) (hdct := c4) (sn := c5) (sub := c6) (ab := c7) (col := c8) (dd := c9) (k0 := d0) (k1 := d1) (k2 := d2) (k3 := d3) (k5 := d5) FB (T.hasType FB.hasBase) (I.ok.hd hc) (by rw [he]; show (false || (backTo cpos (starEach es X.env)).any (·.1)) = false; rw [hpl]; rfl) hni (ld_glob I hg hm ⟨rfl, ?_⟩ hdb)
  rw [he]
  have hw := ha cpos pins s σ H _ I h
  rw [he] at hw
  refine Calls.evalArgs_plain (thn hw fun us s1 ⟨vs, H1, I1, r, q1, q2⟩ => ?_)
  exact ⟨rfl, by rw [← r.length]; exact q1, I1.bk _ _ hC, hN.keeps I1.bk, T.keeps I1.bk, fun h' e M => hr pins σ H1 s1 h' e _ _ I1 M q2⟩
end

/-! ### a def that may raise, called -/
section
variable {X : Cx} {x : Str} {st : Stmt} {ps : List Str} {f : Addr} {fd : FuncData} {j k : Nat} {sp : Sp} {e : Expr} {es : List Expr} {t : TA} {p pos : Pos} {E : XK}
end

/-! ### try: one statement with one call, one clause -/
abbrev cxH (X : Cx) (a : Addr) : Cx := { X with A := X.A.mark (some (.ref a)), calm := false, xe := fun _ _ => False }
section
variable {X : Cx} {pins : List (Addr × Obj)} {σ : L2.St} {H : Hp} {s : Shared} {a : Addr}
theorem okH (ok : X.Ok) (a : Addr) : (cxH X a).Ok :=
  { mod := ok.mod, kind := ok.kind, glob := ok.glob, blt := ok.blt, above := ok.above, inj := ok.inj, has := ok.has, cab := ok.cab, hd := fun z => (Bool.false_ne_true z).elim, frames := ok.frames, stk := ok.stk, exf := ok.exf, bs := ok.bs, bsz := ok.bsz, noex := ok.noex, exfs := ok.exfs, funs := ok.funs, frf := ok.frf }
theorem inH (I : Inv X pins σ H s) (a : Addr) : Inv (cxH X a) pins σ H s := { ok := okH I.ok a, os := I.os, bare := I.bare, base := I.base, loc := I.loc, cell := I.cell, free := I.free, freeC := I.freeC, pin := I.pin, hok := I.hok, len := I.len }
theorem outH (ok : X.Ok) (I : Inv (cxH X a) pins σ H s) : Inv X pins σ H s := { ok := ok, os := I.os, bare := I.bare, base := I.base, loc := I.loc, cell := I.cell, free := I.free, freeC := I.freeC, pin := I.pin, hok := I.hok, len := I.len }
theorem spH (ok : X.Ok) {D : Ends} {f : Flow} {s' : Shared} (h : SP (cxH X a) pins D f s') : SP X pins D f s' := by
  cases f with
  | next => obtain ⟨σ', H', I, q⟩ := h; exact ⟨σ', H', outH ok I, q⟩
  | brk => obtain ⟨σ', H', I, q⟩ := h; exact ⟨σ', H', outH ok I, q⟩
  | cont => obtain ⟨σ', H', I, q⟩ := h; exact ⟨σ', H', outH ok I, q⟩
  | ret u => obtain ⟨v, σ', H', I, r, q⟩ := h; exact ⟨v, σ', H', outH ok I, r, q⟩

/-- the clause takes it -/
theorem clause {y : Str} {C Cy : Addr} {b0 : Stmt} {suite : List Stmt} {tb : TS} {np hpos : Pos} {D : Ends} {e : Value} {s' : Shared} (hst : X.stack = X.env :: X.outer) (hf : X.env.frame = some X.env.locals) (hmy : X.mg y = some (.ref Cy)) (hx : exmOne X.K (.ref C) (.ref Cy) = some true)
    (hb : ∀ a, PSs (cxH X a) (b0 :: suite) tb) (hg : Gl X y) (hdb : (y == ("__debug__" : Str)) = false) (I : Inv X pins σ H s) (h : CX1 X.prog X.w X.stack H s (fun c _ H2 => c = .ref C ∧ tb D σ H2) e s') :
    wpAny (model X.prog X.w) X.A (noteFrame e X.env) (fun _ s₂ => wpAny (model X.prog X.w) X.A (setFlight e none) (fun _ s₃ => wpAny (model X.prog X.w) X.A (handleBy e X.env [.ExceptHandler (some (.Name y np)) none (b0 :: suite) hpos]) (SP X pins D) X.xe s₃) X.xe s₂) X.xe s' := by
  obtain ⟨a, T, c, a0, H2, rfl, ⟨os, bare⟩, u, hok, F, rfl, q⟩ := h
  have I1 : Inv X pins σ H2 s' := I.call' (ch := []) os u hok bare (fun b z => absurd z (by simp))
  have G0 := fly_ground F I1.stack
  have G0' : Heap.FlyingW (hideAll s'.heap (a :: T :: frs X.stack)) (X.env :: X.outer) a (.ref C) a0 s'.heap := by
    have z := G0
    rw [hst] at z
    rw [hst]
    exact z
  refine wpAny_looks_onW (I.ok.frames.trans (by rw [hst])) hf G0' fun h4 held k4 => wpAny_landsW held fun h5 fl5 k5 => ?_
  have I5 : Inv X pins σ H2 { s' with heap := h5 } := fly_here I os bare u hok F fl5 (k4.trans k5)
  obtain ⟨ob, hob, hcl⟩ := fl5.there
  have LT : Looks (model X.prog X.w) h5 (typeOf (.ref a)) (.ref C) := hcl ▸ (Looks.ld hob).andThen .now
  refine wpAny_handleBy_cons (codeAny_handlers_test (ld_glob (X := cxH X a) (inH I5 a) hg hmy ?_ hdb)) (by intro z; cases z)
  refine (exm_one (M := model X.prog X.w) I5.kIn LT hx).here ?_
  refine codeAny_handlers_suite (lands_againW fl5 fun h6 fl6 k6 => ?_)
  have I6 : Inv X pins σ H2 { s' with heap := h6 } := fly_here I os bare u hok F fl6 ((k4.trans k5).trans k6)
  exact wpAny_mono (hb a pins _ σ H2 D (inH I6 a) q) (fun fl s2 z => spH I6.ok z) fun _ _ z => False.elim z

variable {x y : Str} {st : Stmt} {ps : List Str} {f : Addr} {fd : FuncData} {j k : Nat} {sp : Sp} {e : Expr} {es : List Expr} {t : TA} {p pos pos1 pos2 pos3 np hpos : Pos} {C Cy : Addr} {b0 : Stmt} {suite : List Stmt} {tb : TS}
end
end InkE

namespace InkE
open PySem PySem.Spec PyProof.Rows L2
/-! ### a text with fields: some text -/
section
variable {X : Cx}
abbrev TJ := L2.St → Hp → (Hp → Prop) → Prop
def PJ (X : Cx) (es : List Expr) (m : Nat) (t : TJ) : Prop := ∀ (pins : List (Addr × Obj)) (s : Shared) (σ : L2.St) (H : Hp) (out : Str) (Q : Hp → Prop), L2.Inv X pins σ H s → t σ H Q → out.length + m ≤ 1000000 →
  wpAny (model X.prog X.w) X.A (joinParts out (evalEach es X.env)) (fun u s' => ∃ x tk H', u = .str x tk ∧ L2.Inv X pins σ H' s' ∧ Q H') X.xe s
theorem pj_nil : PJ X [] 0 (fun _ H Q => Q H) := fun pins s σ H out Q I h hl =>
  joinParts_nil ⟨out, _, H, rfl, I.tok _, h⟩ (Nat.le_of_lt (Nat.lt_of_le_of_lt hl (by decide)))
theorem fit_out {out y : Str} {m n : Nat} (h : out.length + (n + m) ≤ 1000000) (hy : y.length ≤ n) : (out ++ y).length ≤ sizeLine ∧ (out ++ y).length + m ≤ 1000000 := by
  rw [PySem.strLen_append]
  refine ⟨Nat.le_of_lt (Nat.lt_of_le_of_lt (show out.length + y.length ≤ 1000000 by omega) (by decide)), by omega⟩
theorem pj_str {x : Str} {j : Nat} {pos : Pos} {es : List Expr} {m : Nat} {t : TJ} (h : PJ X es m t) : PJ X (.Constant (.str x) j pos :: es) (x.length + m) t := by
  intro pins s σ H out Q I q hl
  refine joinParts_consE (joinParts_cons (Calls.Constant_str ?_))
  have z := fit_out (y := x) hl (Nat.le_refl _)
  exact ⟨z.1, h pins _ σ H _ Q (I.tok _) q z.2⟩
theorem pj_int {e : Expr} {te : TE} {pos : Pos} {es : List Expr} {m : Nat} {t : TJ} (he : PE X e te) (h : PJ X es m t) : PJ X (.FormattedValue e (-1) none pos :: es) (1921 + m) (fun σ H Q => te σ H fun v H1 => ∃ i : Int, v = .int i ∧ i.natAbs.log2 < 1920 ∧ t σ H1 Q) := by
  intro pins s σ H out Q I q hl
  refine joinParts_consE (joinParts_cons (FormattedValue_plain (thn (he pins s σ H _ I q) fun v s1 ⟨x, H1, I1, r1, i, e1, hi, q1⟩ => ?_)))
  subst e1
  obtain ⟨tk, rfl⟩ := r1
  refine formatField_int_small hi ?_
  have z := fit_out (y := Str.ofString (toString i)) hl (int_text_len_1921 hi)
  exact ⟨z.1, h pins _ σ H1 _ Q (I1.tok _) q1 z.2⟩
theorem pe_fstr {v1 v2 : Expr} {rest : List Expr} {pos : Pos} {m : Nat} {t : TJ} (h : PJ X (v1 :: v2 :: rest) m t) (hm : m ≤ 1000000 := by decide +kernel) : PE X (.JoinedStr (v1 :: v2 :: rest) pos) (fun σ H Q => t σ H fun H1 => ∀ x, Q (.str x) H1) := by
  intro pins s σ H Q I q
  refine JoinedStr_many (thn (h pins s σ H Str.empty _ I q (by show 0 + m ≤ _; omega)) fun u s1 ⟨x, tk, H1, e, I1, q1⟩ => ?_)
  subst e
  exact ⟨.str x, H1, I1, ⟨_, rfl⟩, q1 x⟩

/-! ### a op b op c op d -/
end
end InkE
namespace Ink
open PySem L2 InkX InkE
theorem free_same {H H' : Hp} {a : Addr} (s : Same H H') (h : H' a = none) : H a = none := by
  cases q : H a with
  | none => rfl
  | some o => rw [s a o q] at h; cases h
/-! ### parts of a row -/
def Fit (i : Int) : Prop := -(10 ^ 60) < i ∧ i < 10 ^ 60
theorem Fit.log {i : Int} (h : Fit i) : i.natAbs.log2 < 1920 := by
  have h1 : i.natAbs < 2 ^ 1920 := by
    have : i.natAbs < 10 ^ 60 := by
      obtain ⟨a, b⟩ := h
      have e : ((10 : Int) ^ 60) = (((10 : Nat) ^ 60 : Nat) : Int) := by norm_cast
      rw [e] at a b
      omega
    exact Nat.lt_of_lt_of_le this (by decide +kernel)
  by_cases h0 : i.natAbs = 0
  · rw [h0]
    decide
  · exact (Nat.log2_lt h0).mpr h1
/-- one stretch's part -/
def pc1 (a b h : Int) (p : Int × Int) : Row := if max (a - h) 0 < min (b - h) (p.2 - p.1) then [(p.1 + max (a - h) 0, p.1 + min (b - h) (p.2 - p.1))] else []
def pcs (a b : Int) : Int → Row → Row
  | _, [] => []
  | h, p :: r => pc1 a b h p ++ pcs a b (h + (p.2 - p.1)) r
/-- the classes of refusals -/
structure ExcAt (K : PySem.W.Frag) (mg : Str → Option Value) (C : Addr) : Prop where
  m : mg "OutOfPlace" = some (.ref C)
  x : PySem.W.excIn K C [.type "ValueError", .type "Exception", .type "BaseException", .type "object"] "ValueError.__new__" = true
  h : PySem.W.exmOne K (.ref C) (.ref C) = some true
structure ExcAt2 (K : PySem.W.Frag) (mg : Str → Option Value) (C D : Addr) : Prop where
  m : mg "InkError" = some (.ref D)
  h : PySem.W.exmOne K (.ref C) (.ref D) = some true
end Ink

namespace Ink
open PySem L2 InkX InkE
theorem passF {P : Program} {w : World} {X : Cx} : Passes (CX1 P w) X (fun _ _ _ => False) := fun _ _ _ _ _ _ _ h => by
  obtain ⟨_, _, _, _, _, _, _, _, _, _, z⟩ := h
  exact z.elim
end Ink

namespace Ink
open PySem L2 InkX InkE
theorem run_get (s : Int) : ∀ (n k : Nat), k < n → (run s n)[k]? = some (s + k)
  | 0, k, h => by omega
  | n + 1, 0, _ => by simp [run]
  | n + 1, k + 1, h => by
    rw [run, List.getElem?_cons_succ, run_get (s + 1) n k (by omega)]
    congr 1
    omega
end Ink

namespace Ink
open PySem PySem.Spec PyProof.Rows L2 InkX InkE
/-! ### pairs of lists of the very same values compared -/
/-! ### rows joined, put in, cut out -/
theorem PairsAt.append {H : Hp} : ∀ {as bs : List Addr} {r q : Row}, PairsAt H as r → PairsAt H bs q → PairsAt H (as ++ bs) (r ++ q)
  | _, _, _, _, .nil, t => t
  | _, _, _, _, .cons e r, t => .cons e (PairsAt.append r t)
def putF (p : Int) (row other : Row) : Row := pcs 0 p 0 row ++ other ++ pcs p (tot row) 0 row
end Ink

namespace L2
open PySem PySem.Spec PyProof.Rows

/-! ### lists of pairs as tables -/
section
variable {κ : Type} [DecidableEq κ]
def valV (kvs : List (κ × V)) (k : κ) : Option V := (kvs.find? fun kv => decide (kv.1 = k)).map (·.2)
/-- in its place, or at the end -/
def putK (kvs : List (κ × V)) (k : κ) (v : V) : List (κ × V) :=
  if (kvs.any fun kv => decide (kv.1 = k)) = true then kvs.map (fun kv => if kv.1 = k then (kv.1, v) else kv) else kvs ++ [(k, v)]
def dropK (kvs : List (κ × V)) (k : κ) : List (κ × V) := kvs.filter fun kv => decide (kv.1 ≠ k)

theorem valV_pos {p : κ × V} {r : List (κ × V)} {k : κ} (e : p.1 = k) : valV (p :: r) k = some p.2 := by simp [valV, List.find?_cons, e]
theorem valV_neg {p : κ × V} {r : List (κ × V)} {k : κ} (e : ¬ p.1 = k) : valV (p :: r) k = valV r k := by simp [valV, List.find?_cons, e]
theorem valV_any (k : κ) : ∀ kvs : List (κ × V), (kvs.any fun kv => decide (kv.1 = k)) = (valV kvs k).isSome
  | [] => rfl
  | p :: r => by
    rw [List.any_cons]
    by_cases e : p.1 = k
    · simp only [valV_pos e, decide_eq_true e, Bool.true_or, Option.isSome_some]
    · rw [valV_neg e, decide_eq_false e, Bool.false_or]; exact valV_any k r
theorem valV_map (k j : κ) (y : V) : ∀ kvs : List (κ × V), valV (kvs.map fun kv => if kv.1 = k then (kv.1, y) else kv) j = (valV kvs j).map fun x => if j = k then y else x
  | [] => rfl
  | p :: r => by
    have ih := valV_map k j y r
    rw [List.map_cons]
    by_cases h : p.1 = k
    · rw [if_pos h]
      by_cases e : p.1 = j
      · rw [valV_pos (p := (p.1, y)) e, valV_pos e, Option.map_some, if_pos (e.symm.trans h)]
      · rw [valV_neg (p := (p.1, y)) e, valV_neg e, ih]
    · rw [if_neg h]
      by_cases e : p.1 = j
      · rw [valV_pos (p := p) e, valV_pos e, Option.map_some, if_neg (fun z => h (e.trans z))]
      · rw [valV_neg (p := p) e, valV_neg e, ih]
theorem valV_snoc (k j : κ) (y : V) : ∀ kvs : List (κ × V), valV kvs k = none → valV (kvs ++ [(k, y)]) j = if j = k then some y else valV kvs j
  | [], _ => by
    by_cases e : k = j
    · rw [if_pos e.symm]; exact valV_pos (p := (k, y)) e
    · rw [if_neg (fun z => e z.symm)]; exact valV_neg (p := (k, y)) e
  | p :: r, hn => by
    rw [List.cons_append]
    have hk : ¬ p.1 = k := fun z => by rw [valV_pos z] at hn; cases hn
    rw [valV_neg hk] at hn
    have ih := valV_snoc k j y r hn
    by_cases e : p.1 = j
    · rw [valV_pos e, valV_pos e, if_neg (fun z => hk (e.trans z))]
    · rw [valV_neg e, valV_neg e, ih]
theorem valV_put (kvs : List (κ × V)) (k j : κ) (y : V) : valV (putK kvs k y) j = if j = k then some y else valV kvs j := by
  unfold putK
  by_cases a : (kvs.any fun kv => decide (kv.1 = k)) = true
  · rw [if_pos a, valV_map]
    rw [valV_any] at a
    by_cases e : j = k
    · obtain ⟨x, hx⟩ := Option.isSome_iff_exists.mp a
      rw [if_pos e, e, hx, Option.map_some, if_pos rfl]
    · rw [if_neg e]
      cases valV kvs j with
      | none => rfl
      | some x => rw [Option.map_some, if_neg e]
  · rw [if_neg a]
    refine valV_snoc k j y kvs ?_
    rw [valV_any] at a
    cases q : valV kvs k with
    | none => rfl
    | some x => rw [q] at a; exact (a rfl).elim
theorem length_putK (kvs : List (κ × V)) (k : κ) (v : V) : (putK kvs k v).length ≤ kvs.length + 1 := by
  unfold putK
  split
  · rw [List.length_map]; omega
  · rw [List.length_append, List.length_cons, List.length_nil]; omega
theorem putK_new {kvs : List (κ × V)} {k : κ} (v : V) (h : valV kvs k = none) : putK kvs k v = kvs ++ [(k, v)] := by
  unfold putK
  rw [valV_any, h]
  exact if_neg (by decide)

theorem RelO.isSome_eq {o : Option V} {u : Option Value} (r : RelO o u) : o.isSome = u.isSome := by
  cases o with
  | none => cases u with
    | none => rfl
    | some _ => exact (show False from r).elim
  | some _ => cases u with
    | none => exact (show False from r).elim
    | some _ => rfl
theorem RelO.getD {o : Option V} {u : Option Value} {d : V} {d' : Value} (r : RelO o u) (rd : RelV d d') : RelV (o.getD d) (u.getD d') := by
  cases o with
  | none => cases u with
    | none => exact rd
    | some _ => exact (show False from r).elim
  | some _ => cases u with
    | none => exact (show False from r).elim
    | some _ => exact r

/-- raw tables of the same keys -/
theorem KV.val {kvs : List (κ × V)} {vs : List (κ × Value)} (r : KV kvs vs) (k : κ) : RelO (valV kvs k) (valueAt vs k) := by
  unfold KV at r
  induction r with
  | nil => exact True.intro
  | @cons p q ps qs h t ih =>
    obtain ⟨h1, h2⟩ := h
    by_cases e : p.1 = k
    · have e' : q.1 = k := h1.symm.trans e
      have b : valueAt (q :: qs) k = some q.2 := by simp [valueAt, List.find?_cons, e']
      rw [valV_pos e, b]; exact h2
    · have e' : ¬ q.1 = k := fun z => e (h1.trans z)
      have b : valueAt (q :: qs) k = valueAt qs k := by simp [valueAt, List.find?_cons, e']
      rw [valV_neg e, b]; exact ih
theorem KV.any {kvs : List (κ × V)} {vs : List (κ × Value)} (r : KV kvs vs) (k : κ) : (kvs.any fun kv => decide (kv.1 = k)) = vs.any fun kv => decide (kv.1 = k) := by
  unfold KV at r
  induction r with
  | nil => rfl
  | cons h t ih => rw [List.any_cons, List.any_cons, ih, h.1]
theorem KV.repl {kvs : List (κ × V)} {vs : List (κ × Value)} (r : KV kvs vs) (k : κ) {y : V} {u : Value} (ry : RelV y u) :
    KV (kvs.map fun kv => if kv.1 = k then (kv.1, y) else kv) (vs.map fun kv => if kv.1 = k then (kv.1, u) else kv) := by
  unfold KV at r ⊢
  induction r with
  | nil => exact .nil
  | @cons p q ps qs h t ih =>
    rw [List.map_cons, List.map_cons]
    refine .cons ?_ ih
    obtain ⟨h1, h2⟩ := h
    by_cases e : p.1 = k
    · rw [if_pos e, if_pos (h1.symm.trans e)]; exact ⟨h1, ry⟩
    · rw [if_neg e, if_neg (fun z => e (h1.trans z))]; exact ⟨h1, h2⟩
theorem KV.put {kvs : List (κ × V)} {vs : List (κ × Value)} (r : KV kvs vs) (k : κ) {y : V} {u : Value} (ry : RelV y u) : KV (putK kvs k y) (stored vs k u) := by
  unfold putK stored
  rw [r.any k]
  by_cases e : (vs.any fun kv => decide (kv.1 = k)) = true
  · rw [if_pos e, if_pos e]; exact r.repl k ry
  · rw [if_neg e, if_neg e]; exact Paired.snoc r ⟨rfl, ry⟩
theorem KV.drop {kvs : List (κ × V)} {vs : List (κ × Value)} (r : KV kvs vs) (k : κ) : KV (dropK kvs k) (without vs k) := by
  unfold KV at r ⊢
  unfold dropK without
  induction r with
  | nil => exact .nil
  | @cons p q ps qs h t ih =>
    obtain ⟨h1, h2⟩ := h
    rw [List.filter_cons, List.filter_cons]
    by_cases e : p.1 = k
    · have a : ¬ decide (p.1 ≠ k) = true := by simp [e]
      have b : ¬ decide (q.1 ≠ k) = true := by simp [h1.symm.trans e]
      rw [if_neg a, if_neg b]; exact ih
    · have e' : ¬ q.1 = k := fun z => e (h1.trans z)
      have a : decide (p.1 ≠ k) = true := by simp [e]
      have b : decide (q.1 ≠ k) = true := by simp [e']
      rw [if_pos a, if_pos b]; exact .cons ⟨h1, h2⟩ ih
theorem KV.keys {kvs : List (κ × V)} {vs : List (κ × Value)} (r : KV kvs vs) : kvs.map (·.1) = vs.map (·.1) := by
  unfold KV at r
  induction r with
  | nil => rfl
  | cons h t ih => rw [List.map_cons, List.map_cons, ih, h.1]
theorem KV.length {kvs : List (κ × V)} {vs : List (κ × Value)} (r : KV kvs vs) : kvs.length = vs.length := Paired.length r
end


/-! ### a tracked dict, its keys ints and texts or tuples of these -/
theorem kV_is {P : Program} {w : World} {k : Key} {u : Value} (r : RelV (kV k) u) : (mixKind P w).is k u = true := by
  cases k with
  | inl i => obtain ⟨t, e⟩ := (show ∃ t, u = Value.int i t from r); subst e; exact mixKind_int P w i t
  | inr x => obtain ⟨t, e⟩ := (show ∃ t, u = Value.str x t from r); subst e; exact mixKind_str P w x t
theorem items_are {P : Program} {w : World} : ∀ {ks : List Key} {us : List Value}, Vals (ks.map kV) us → ItemsAre (mixKind P w) ks us
  | [], _, r => by rw [List.map_nil] at r; cases r; exact .nil
  | k :: ks, _, r => by
    rw [List.map_cons] at r
    cases r with
    | cons h t => exact .cons (kV_is h) (items_are t)

/-- raw entries of a dict with tuple keys -/
abbrev KT (H : Hp) : List (List Key × V) → List (List Key × Addr × Value) → Prop := Paired fun p q => p.1 = q.1 ∧ H q.2.1 = some (.tup (p.1.map kV)) ∧ RelV p.2 q.2.2
theorem KT.val {H : Hp} {kvs : List (List Key × V)} {xs : List (List Key × Addr × Value)} (r : KT H kvs xs) (k : List Key) : RelO (valV kvs k) ((atKey xs k).map (·.2)) := by
  induction r with
  | nil => exact True.intro
  | @cons p q ps qs h t ih =>
    obtain ⟨h1, _, h2⟩ := h
    by_cases e : p.1 = k
    · have e' : q.1 = k := h1.symm.trans e
      have b : atKey (q :: qs) k = some q.2 := by simp [atKey, List.find?_cons, e']
      rw [valV_pos e, b]; exact h2
    · have e' : ¬ q.1 = k := fun z => e (h1.trans z)
      have b : atKey (q :: qs) k = atKey qs k := by simp [atKey, List.find?_cons, e']
      rw [valV_neg e, b]; exact ih
theorem KT.repl {H : Hp} {kvs : List (List Key × V)} {xs : List (List Key × Addr × Value)} (r : KT H kvs xs) (k : List Key) {y : V} {u : Value} (ry : RelV y u) :
    KT H (kvs.map fun kv => if kv.1 = k then (kv.1, y) else kv) (xs.map (putAt k u)) := by
  induction r with
  | nil => exact .nil
  | @cons p q ps qs h t ih =>
    rw [List.map_cons, List.map_cons]
    refine .cons ?_ ih
    obtain ⟨h1, h2, h3⟩ := h
    unfold putAt
    by_cases e : p.1 = k
    · rw [if_pos e, if_pos (h1.symm.trans e)]; exact ⟨h1, h2, ry⟩
    · rw [if_neg e, if_neg (fun z => e (h1.trans z))]; exact ⟨h1, h2, h3⟩
theorem KT.put {H : Hp} {kvs : List (List Key × V)} {xs : List (List Key × Addr × Value)} (r : KT H kvs xs) (k : List Key) {b : Addr} {y : V} {u : Value} (hb : H b = some (.tup (k.map kV))) (ry : RelV y u) :
    KT H (putK kvs k y) (storedH xs k b u) := by
  have e : (kvs.any fun kv => decide (kv.1 = k)) = (atKey xs k).isSome := by
    rw [valV_any, (r.val k).isSome_eq, Option.isSome_map]
  unfold putK storedH
  rw [e]
  by_cases q : (atKey xs k).isSome = true
  · rw [if_pos q, if_pos q]; exact r.repl k ry
  · rw [if_neg q, if_neg q]; exact Paired.snoc r ⟨rfl, hb, ry⟩
theorem KT.keeps {H H' : Hp} {kvs : List (List Key × V)} {xs : List (List Key × Addr × Value)} (r : KT H kvs xs) (ht : ∀ b ys, H b = some (.tup ys) → H' b = some (.tup ys)) : KT H' kvs xs :=
  Paired.mapP r fun _ _ z => ⟨z.1, ht _ _ z.2.1, z.2.2⟩

section
variable {P : Program} {w : World} {H : Hp} {h : Heap} {a : Addr}
theorem rd_of {u : HO} (ok : HOk P w H h) (e : Rd H a u) : ObjOk P w H h a u := e.ok ok
theorem dk_rd {kvs : List (Key × V)} (ok : HOk P w H h) (e : Rd H a (.dK kvs)) : kvs.length ≤ sizeLine ∧ (a == sysModules) = false ∧ ∃ vs, KV kvs vs ∧ h.DictOf (mixKind P w) a vs :=
  show ObjOk P w H h a (.dK kvs) from rd_of ok e
theorem dk_of {kvs : List (Key × V)} (ok : HOk P w H h) (e : H a = some (.dK kvs)) : kvs.length ≤ sizeLine ∧ (a == sysModules) = false ∧ ∃ vs, KV kvs vs ∧ h.DictOf (mixKind P w) a vs := dk_rd ok (.inl e)
/-- a tracked tuple of ints and texts is a key -/
theorem key_of {ks : List Key} (ok : HOk P w H h) (e : H a = some (.tup (ks.map kV))) : (tupleKind (mixKind P w)).is h ks a := by
  obtain ⟨_, its, r, o, h1, h2, n, h3⟩ := (show ObjOk P w H h a (.tup (ks.map kV)) from ok a _ e)
  exact ⟨o, its.toArray, n, h1, h2, h3, by simpa using items_are r⟩
theorem dt_rd {kvs : List (List Key × V)} (ok : HOk P w H h) (e : Rd H a (.dT kvs)) : kvs.length ≤ sizeLine ∧ (a == sysModules) = false ∧
    ∃ xs, KT H kvs xs ∧ h.DictOfH (tupleKind (mixKind P w)) a xs := by
  obtain ⟨z, y, xs, r, o, es, ep, h1, h2, h3, h4, h5⟩ := (show ObjOk P w H h a (.dT kvs) from rd_of ok e)
  refine ⟨z, y, xs, r, o, es, ep, h1, h2, h3, h4, fun x hx => ?_, h5⟩
  have all : ∀ {l : List (List Key × V)} {m : List (List Key × Addr × Value)}, KT H l m → ∀ x ∈ m, (tupleKind (mixKind P w)).is h x.1 x.2.1 := by
    intro l m q
    induction q with
    | nil => intro x hx; exact nomatch hx
    | @cons p q ps qs hq t ih =>
      intro x hx
      rcases List.mem_cons.mp hx with e | hx
      · subst e
        exact key_of ok (by rw [← hq.1]; exact hq.2.1)
      · exact ih x hx
  exact all r x hx
theorem dt_of {kvs : List (List Key × V)} (ok : HOk P w H h) (e : H a = some (.dT kvs)) : kvs.length ≤ sizeLine ∧ (a == sysModules) = false ∧
    ∃ xs, KT H kvs xs ∧ h.DictOfH (tupleKind (mixKind P w)) a xs := dt_rd ok (.inl e)
end

/-- what the dict at a holds at the key y -/
def DGet (H : Hp) (a : Addr) (y : V) (r : Option V) : Prop :=
  (∃ kvs k, Rd H a (.dK kvs) ∧ y = kV k ∧ r = valV kvs k) ∨ ∃ kvs k b, Rd H a (.dT kvs) ∧ y = .ref b ∧ H b = some (.tup (k.map kV)) ∧ r = valV kvs k
/-- the heap behind a[y] = v -/
def DPut (H : Hp) (a : Addr) (y v : V) (H' : Hp) : Prop :=
  (∃ kvs k, H a = some (.dK kvs) ∧ y = kV k ∧ kvs.length < sizeLine ∧ H' = upd H a (.dK (putK kvs k v))) ∨
  ∃ kvs k b, H a = some (.dT kvs) ∧ y = .ref b ∧ H b = some (.tup (k.map kV)) ∧ kvs.length < sizeLine ∧ H' = upd H a (.dT (putK kvs k v))
theorem DGet.k {H : Hp} {a : Addr} {kvs : List (Key × V)} {k : Key} (e : H a = some (.dK kvs)) : DGet H a (kV k) (valV kvs k) := .inl ⟨kvs, k, .inl e, rfl, rfl⟩
theorem DGet.t {H : Hp} {a b : Addr} {kvs : List (List Key × V)} {k : List Key} (e : H a = some (.dT kvs)) (eb : H b = some (.tup (k.map kV))) : DGet H a (.ref b) (valV kvs k) := .inr ⟨kvs, k, b, .inl e, rfl, eb, rfl⟩
theorem DPut.k {H : Hp} {a : Addr} {kvs : List (Key × V)} {k : Key} {v : V} (e : H a = some (.dK kvs)) (hl : kvs.length < sizeLine) : DPut H a (kV k) v (upd H a (.dK (putK kvs k v))) := .inl ⟨kvs, k, e, rfl, hl, rfl⟩
theorem DPut.t {H : Hp} {a b : Addr} {kvs : List (List Key × V)} {k : List Key} {v : V} (e : H a = some (.dT kvs)) (eb : H b = some (.tup (k.map kV))) (hl : kvs.length < sizeLine) :
    DPut H a (.ref b) v (upd H a (.dT (putK kvs k v))) := .inr ⟨kvs, k, b, e, rfl, eb, hl, rfl⟩


section
variable {X : Cx} {pins : List (Addr × Obj)} {σ : St} {H : Hp} {s : Shared} {a : Addr} {y v : V} {u r : Value} {o : Option V} {A : Around} {E : Value → Shared → Prop}

theorem Inv.big (I : Inv X pins σ H s) : sysModules < s.heap.objs.size := by
  have h : mainGlobals < s.heap.objs.size := (I.mod.glob.keeps I.bk).lt
  exact Nat.lt_trans (by decide) h

/-- d[y], there -/
theorem d_getItem {Q : Value → Shared → Prop} (hu : A.units + 1 < cLine) (I : Inv X pins σ H s) (g : DGet H a y (some v)) (ry : RelV y u) (h : ∀ w' s', Inv X pins σ H s' → RelV v w' → Q w' s') :
    wpAny (model X.prog X.w) A (getItem (.ref a) u) Q E s := by
  rcases g with ⟨kvs, k, e, ey, l⟩ | ⟨kvs, k, b, e, ey, eb, l⟩
  · subst ey
    obtain ⟨z, hd, vs, rel, dd⟩ := dk_rd I.hok e
    obtain ⟨w', hw, rw'⟩ := RelO.some_of (v := v) (o := valueAt vs k) (by rw [l]; exact rel.val k)
    exact wpAny_getItem_of (kV_is ry) dd.mapOf hw (h w' _ (I.tok _) rw')
  · subst ey
    cases (show u = Value.ref b from ry)
    obtain ⟨z, hd, xs, rel, dd⟩ := dt_rd I.hok e
    obtain ⟨w', hw, rw'⟩ := RelO.some_of (v := v) (o := (atKey xs k).map (·.2)) (by rw [l]; exact rel.val k)
    obtain ⟨p, hp, hp2⟩ := Option.map_eq_some_iff.mp hw
    refine wpAny_getItem_heap (tupleKind_room_in1 hu) (key_of I.hok eb) dd hp ?_
    rw [hp2]
    exact h w' _ (I.tok _) rw'
theorem d_notIn {Q : Value → Shared → Prop} (hu : A.units + 1 < cLine) (I : Inv X pins σ H s) (g : DGet H a y o) (ry : RelV y u) (h : ∀ s', Inv X pins σ H s' → Q (.bool (!o.isSome)) s') :
    wpAny (model X.prog X.w) A (compareOp .NotIn u (.ref a)) Q E s := by
  rcases g with ⟨kvs, k, e, ey, l⟩ | ⟨kvs, k, b, e, ey, eb, l⟩
  · subst ey
    obtain ⟨z, hd, vs, rel, dd⟩ := dk_rd I.hok e
    refine wpAny_notIn_of (kV_is ry) hd dd.mapOf ?_
    rw [← (rel.val k).isSome_eq, ← l]
    exact h _ (I.tok _)
  · subst ey
    cases (show u = Value.ref b from ry)
    obtain ⟨z, hd, xs, rel, dd⟩ := dt_rd I.hok e
    refine wpAny_notIn_heap (tupleKind_room_in1 hu) (key_of I.hok eb) hd dd ?_
    have q := (rel.val k).isSome_eq
    rw [Option.isSome_map] at q
    rw [← q, ← l]
    exact h _ (I.tok _)
/-- a dict's object is replaced -/
theorem d_write {h' : Heap} {t' : Nat} {ob : HO} (I : Inv X pins σ H s) (mu : Mut (H a)) (hs : Heap.SameBut a s.heap h') (he : ∃ q, h'.get? a = some q) (new : ObjOk X.prog X.w (upd H a ob) h' a ob) :
    Inv X pins σ (upd H a ob) { s with heap := h', toks := t' } :=
  I.write (x := a) (e := a) mu (.inl rfl) (fun b q hb z => (hs.2 b hb).trans z) he new
theorem dk_new {P : Program} {w : World} {H' : Hp} {h' : Heap} {kvs : List (Key × V)} {vs : List (Key × Value)} (z : kvs.length ≤ sizeLine) (hd : (a == sysModules) = false) (rel : KV kvs vs) (dd : h'.DictOf (mixKind P w) a vs) :
    ObjOk P w H' h' a (.dK kvs) := ⟨z, hd, vs, rel, dd⟩
/-- d[y] = v -/
theorem d_setItem {H' : Hp} {Q : Unit → Shared → Prop} (hu : A.units + 1 < cLine) (I : Inv X pins σ H s) (g : DPut H a y v H') (ry : RelV y u) (rv : RelV v r) (h : ∀ s', Inv X pins σ H' s' → Q () s') :
    wpAny (model X.prog X.w) A (setItem (.ref a) u r) Q E s := by
  rcases g with ⟨kvs, k, e, ey, l, eH⟩ | ⟨kvs, k, b, e, ey, eb, l, eH⟩
  · subst ey eH
    obtain ⟨z, hd, vs, rel, dd⟩ := dk_of I.hok e
    have hz : vs.length ≤ sizeLine := by rw [← rel.length]; exact z
    have hl : (putK kvs k v).length ≤ sizeLine := by have := length_putK kvs k v; omega
    refine wpAny_setItem_pairs (hsz := hz) (kV_is ry) dd fun h' dd' hs => h _ ?_
    have he : ∃ q, h'.get? a = some q := let ⟨q, _, _, hq, _⟩ := dd'; ⟨q, hq⟩
    exact d_write I (by rw [e]; exact True.intro) hs he (dk_new hl hd (rel.put k rv) dd')
  · subst ey eH
    cases (show u = Value.ref b from ry)
    obtain ⟨z, hd, xs, rel, dd⟩ := dt_of I.hok e
    have hz : xs.length ≤ sizeLine := by rw [← Paired.length rel]; exact z
    have hl : (putK kvs k v).length ≤ sizeLine := by have := length_putK kvs k v; omega
    refine wpAny_setItem_heap (hsz := hz) (tupleKind_room_in1 hu) (key_of I.hok eb) dd fun h' dd' hs => h _ ?_
    obtain ⟨q, es, ep, hq, h2, h3, h4, _, h5⟩ := dd'
    refine d_write I (by rw [e]; exact True.intro) hs ⟨q, hq⟩ ⟨hl, hd, _, (rel.put k eb rv).keeps fun c ys ec => ?_, q, es, ep, hq, h2, h3, h4, h5⟩
    rw [upd_ne (ne_of ec e (fun z => nomatch z))]
    exact ec
end

section
variable {X : Cx} {pins : List (Addr × Obj)} {σ : St} {H : Hp} {s : Shared} {a : Addr} {kvs : List (Key × V)} {k : Key} {u : Value} {A : Around} {E : Value → Shared → Prop}
end


/-! ### readings and rules -/
/-- the element of a subscription, not a slice -/
def NoSl (i : Expr) : Prop := ∀ ov iv, subscripted i false ov iv = operate [ov, iv] (getItem ov iv)
theorem subD_of {prog : Program} {w : World} {A : Around} {E : Value → Shared → Prop} {s : Shared} {env : Env} {value slice : Expr} {pos : Pos} {T id : String} {Q : Value → Shared → Prop}
    (hl : typeLookup (.type T) "__getitem__" = pure (some (.builtin id))) (hs : NoSl slice)
    (h : wpAny (model prog w) A (eval value env) (fun o s₁ => wpAny (model prog w) A (eval slice env) (fun i s₂ => s₂.TypeIs o T ∧ wpAny (model prog w) A (getItem o i) Q E s₂) E s₁) E s) :
    wpAny (model prog w) A (eval (.Subscript value slice pos) env) Q E s := by
  refine Subscript_ (wpAny_mono h (fun o s₁ h₁ => wpAny_mono h₁ (fun i s₂ h₂ => ?_) fun _ _ x => x) fun _ _ x => x)
  obtain ⟨hT, h₂⟩ := h₂
  unfold subscriptTail
  refine wpAny_bind ?_
  rw [getitemInPython_of_ne hT.not_modules]
  refine wpAny_bind (wpAny_specialOf hT hl ?_)
  have fin : wpAny (model prog w) A (subscripted slice false o i) (fun r s₃ => wpAny (model prog w) A (letTemporaryGo value o r >>= fun _ => pure r) Q E s₃) E s₂ := by
    rw [hs o i]
    exact wpAny_operating (wpAny_mono h₂ (fun r s₃ h₃ => wpAny_bind (wpAny_letTemporaryGo (wpAny_pure h₃))) fun _ _ x => x)
  first
    | exact wpAny_pure (wpAny_bind fin)
    | exact wpAny_bind (wpAny_pure (wpAny_bind fin))
    | exact wpAny_bind fin

theorem dict_typeIs {X : Cx} {pins : List (Addr × Obj)} {σ : St} {H : Hp} {s : Shared} {a : Addr} {y : V} {o : Option V} (I : Inv X pins σ H s) (g : DGet H a y o) : s.TypeIs (.ref a) "dict" := by
  rcases g with ⟨kvs, k, e, _, _⟩ | ⟨kvs, k, b, e, _, _, _⟩
  · obtain ⟨_, _, vs, _, dd⟩ := dk_rd I.hok e
    exact dd.typeIs
  · obtain ⟨_, _, xs, _, dd⟩ := dt_rd I.hok e
    exact dd.typeIs
/-- d[y] -/
def tDGet (td ty : TE) : TE := fun σ H Q => td σ H fun x H1 => ty σ H1 fun y H2 => ∃ a v, x = .ref a ∧ DGet H2 a y (some v) ∧ Q v H2
def tDNotIn (ty td : TE) : TE := fun σ H Q => ty σ H fun y H1 => td σ H1 fun x H2 => ∃ a o, x = .ref a ∧ DGet H2 a y o ∧ Q (.bl (!o.isSome)) H2
/-- d[y] = v -/
def sDPut (td ty tv : TE) : TS := fun D σ H => tv σ H fun v H1 => td σ H1 fun x H2 => ty σ H2 fun y H3 => ∃ a H4, x = .ref a ∧ DPut H3 a y v H4 ∧ D.nx σ H4
section
variable {X : Cx} {o i e value : Expr} {pos pos' tpos : Pos} {td ty tv : TE}
theorem pe_dget (hu : X.A.units + 1 < cLine) (ho : PE X o td) (hi : PE X i ty) (hs : NoSl i) : PE X (.Subscript o i pos) (tDGet td ty) := by
  intro pins s σ H Q I h
  refine subD_of PySem.F.slot_dict_getitem.lookup hs (thn (ho pins s σ H _ I h) fun u s1 ⟨x, H1, I1, rx, q1⟩ => thn (hi pins s1 σ H1 _ I1 q1) fun iv s2 ⟨y, H2, I2, ry, a, v, ex, g, q2⟩ => ?_)
  subst ex
  obtain rfl : u = Value.ref a := rx
  exact ⟨dict_typeIs I2 g, d_getItem hu I2 g ry fun w' s3 I3 rw' => ⟨v, H2, I3, rw', q2⟩⟩
theorem pc_dnotin (hu : X.A.units + 1 < cLine) (hi : PE X i ty) (ho : PE X o td) : PC X .NotIn i o (tDNotIn ty td) := by
  intro pins s σ H Q I h
  refine thn (hi pins s σ H _ I h) fun iv s1 ⟨y, H1, I1, ry, q1⟩ => thn (ho pins s1 σ H1 _ I1 q1) fun u s2 ⟨x, H2, I2, rx, a, ov, ex, g, q2⟩ => ?_
  subst ex
  obtain rfl : u = Value.ref a := rx
  exact d_notIn hu I2 g ry fun s3 I3 => ⟨.bl (!ov.isSome), H2, I3, rfl, q2⟩
theorem ps_dput (hu : X.A.units + 1 < cLine) (ho : PE X o td) (hi : PE X i ty) (hv : PE X value tv) (hs : swapsWith value (some (.Subscript o i pos')) pos.line X.env = pure false) :
    PS X (.Assign [.Subscript o i pos'] value pos) (sDPut td ty tv) := by
  intro pins s σ H D I h
  refine wpAny_Assign_Subscript (thn (hv pins s σ H _ I h) fun r s1 ⟨v, H1, I1, rv, q1⟩ => thn (ho pins s1 σ H1 _ I1 q1) fun u s2 ⟨x, H2, I2, rx, q2⟩ => thn (hi pins s2 σ H2 _ I2 q2) fun iv s3 ⟨y, H3, I3, ry, a, H4, ex, g, q3⟩ => ?_) hs
  subst ex
  obtain rfl : u = Value.ref a := rx
  exact d_setItem hu I3 g ry rv fun s4 I4 => ⟨σ, H4, I4, q3⟩
end


/-! ### displays -/
theorem dk_empty {P : Program} {w : World} {H : Hp} (h : Heap) (hb : sysModules < h.objs.size) : ObjOk P w H (h.push { cls := .type "dict", data := .dict #[] }) h.objs.size (.dK []) :=
  ⟨Nat.zero_le _, beq_eq_false_iff_ne.mpr (Ne.symm (Nat.ne_of_lt hb)), [], .nil, Heap.DictOf.new h⟩
/-- {}, to be a dict of the kind that is wanted -/
def tDNewK : TE := fun _ H Q => ∀ p, H p = none → Q (.ref p) (upd H p (.dK []))
section
variable {X : Cx} {pos : Pos}
theorem pe_dnewK : PE X (.Dict [] [] pos) tDNewK := fun pins s σ H Q I h =>
  wpAny_Dict_empty ⟨.ref s.heap.objs.size, _, I.laid (a := s.heap.objs.size) (o := .dK []) (t' := s.toks) (fun _ _ q => Heap.get?_push_of_some _ q) (Nat.le_refl _) (dk_empty s.heap I.big), rfl, h _ (I.hok.fresh (Nat.le_refl _))⟩
end

/-! ### methods -/
/-- a method call o.m(e) of a built-in, with one argument: what must be seen of the text -/
structure M1 (X : Cx) (o : Expr) (m : Str) (apos : Pos) (e : Expr) (cpos : Pos) : Prop where
  base : attributeBase o m X.env (eval o X.env) = eval o X.env
  few : ((backTo cpos (starEach [e] X.env)).all (fun x => !x.1) && (backToKw cpos (keywordEach [] X.env)).all (fun x => x.1.isSome)
    && decide (([e] : List Expr).length + ([] : List Keyword).length + (if ([] : List Keyword).isEmpty then 0 else 1) < 30)) = true
  line : (apos.endLine == cpos.line) = true
  trees : backTo cpos (starEach [e] X.env) = [(false, eval e X.env)]
structure M2 (X : Cx) (o : Expr) (m : Str) (apos : Pos) (e f : Expr) (cpos : Pos) : Prop where
  base : attributeBase o m X.env (eval o X.env) = eval o X.env
  few : ((backTo cpos (starEach [e, f] X.env)).all (fun x => !x.1) && (backToKw cpos (keywordEach [] X.env)).all (fun x => x.1.isSome)
    && decide (([e, f] : List Expr).length + ([] : List Keyword).length + (if ([] : List Keyword).isEmpty then 0 else 1) < 30)) = true
  line : (apos.endLine == cpos.line) = true
  trees : backTo cpos (starEach [e, f] X.env) = [(false, eval e X.env), (false, eval f X.env)]

section
variable {X : Cx} {pins : List (Addr × Obj)} {σ : St} {H : Hp} {s : Shared} {a : Addr} {y d : V} {u r : Value} {o : Option V} {A : Around} {E : Value → Shared → Prop}
end

section
variable {X : Cx} {o e f : Expr} {apos cpos : Pos} {td ty tx : TE}
end

/-! ### dict(d): a copy -/
section
variable {X : Cx} {pins : List (Addr × Obj)} {σ : St} {H : Hp} {s : Shared} {a : Addr} {kvs : List (Key × V)} {A : Around} {E : Value → Shared → Prop}
end


section
variable {X : Cx} {pins : List (Addr × Obj)} {σ : St} {H : Hp} {s : Shared} {a : Addr} {y : V} {u : Value} {A : Around} {E : Value → Shared → Prop}
end
end L2


namespace InkX
open PySem PySem.Spec PyProof.Rows L2
/-! ### a list made by one clause whose tests and item may name the def's captured names; kept, or stored under a plain name -/
def cxF (X : Cx) (N : List Str) (scope : Scope) (cl : List (Str × Addr)) (C : Addr) (s₀ : Shared) (H₀ : Hp) (ex : List Addr) (pn : List (Addr × Obj)) : Cx where
  prog := X.prog
  w := X.w
  K := X.K
  mg := X.mg
  base := X.base
  A := X.A
  N := N
  s₀ := s₀
  H₀ := H₀
  env := compEnvC scope cl C X.env
  outer := X.stack
  stack := X.stack
  ex := ex
  fn := fun _ => false
  calm := X.calm
  pn := pn
  xe := fun _ _ => False
structure CompF (X : Cx) (N : List Str) (scope : Scope) (cl : List (Str × Addr)) (jx : List (Option Nat)) : Prop where
  kind : scope.kind = .function
  cell : ∀ x ∈ scope.names, x.2 ≠ .cell
  names : ∀ x ∈ scope.names, x.2 = .local → scope.names.lookup x.1 = some .local
  clos : closureFor scope X.env = pure cl
  sub : ∀ x c, cl.lookup x = some c → X.env.cells.lookup x = some c
  has : ∀ x, ((relabel scope X.env).names.lookup x = some .cell ∨ (relabel scope X.env).names.lookup x = some .free) → ∃ c, cl.lookup x = some c
  len : jx.length = N.length
  free : ∀ (i j : Nat) (x : Str), jx[i]? = some (some j) → N[i]? = some x → X.N[j]? = some x ∧ X.env.scope.names.lookup x = some .cell ∧ (relabel scope X.env).names.lookup x = some .cell
def startF (jx : List (Option Nat)) (σ : L2.St) : L2.St := jx.map fun o => o.bind fun j => (σ[j]?).join
section
variable {X : Cx} {N : List Str} {scope : Scope} {cl : List (Str × Addr)} {jx : List (Option Nat)}
theorem comp_startF {pins : List (Addr × Obj)} {σ : L2.St} {H : Hp} {s : Shared} {fp : List Addr} {h₁ : Heap} {t : Nat} (cs : CompF X N scope cl jx) (I : Inv X pins σ H s) (hf : ∀ b ∈ fp, FpOk X pins H b) (hlt : ∀ b ∈ fp, b < s.heap.objs.size)
    (hns : h₁.Ns s.heap.objs.size fun _ => none) (hk : ∀ b o, s.heap.get? b = some o → h₁.get? b = some o) :
    Inv (cxF X N scope cl s.heap.objs.size s H fp (X.pn ++ pins)) [] (startF jx σ) H { s with heap := h₁, toks := t } := by
  have sub : ∀ {x c}, (cxF X N scope cl s.heap.objs.size s H fp (X.pn ++ pins)).env.cells.lookup x = some c → X.env.cells.lookup x = some c := fun {x c} e => cs.sub x c e
  refine ⟨⟨I.ok.mod, cs.kind, I.ok.glob, I.ok.blt, Nat.le_refl _, fun x y c e e' => I.ok.inj x y c (sub e) (sub e'), fun x hx => cs.has x hx, fun x c z _ => (by cases z), I.ok.hd, I.ok.frames, .inl rfl, fun b hb => ⟨Nat.ne_of_lt (hlt b hb), fun x c e => (hf b hb).2.2.2.2.1 x c (sub e)⟩, I.bs, Nat.le_trans I.ok.bsz I.sz, fun b o e hb => ?_, fun b hb z => ?_, I.stack, I.stkFree⟩,
    rfl, I.bare, Un.kept hk, ⟨_, hns, fun i x v e1 e2 _ => ?_⟩, fun x c e => ?_, I.hok.fresh (Nat.le_refl _), fun x c e => I.freeC x c (sub e), fun p hp => ?_, I.hok.kept hk, by unfold startF; rw [List.length_map]; exact cs.len⟩
  · rcases (hf b hb).2.2.2.1 with z | z
    · exact I.ok.noex b o e z
    · exact absurd (Nat.lt_of_lt_of_le (Heap.lt_size (I.ok.bs b o e).1) z) (Nat.lt_irrefl _)
  · rcases List.mem_cons.mp (I.stkSub b z) with e | e
    · exact (hf b hb).2.1 e
    · exact (hf b hb).2.2.1 e
  · unfold startF at e2
    rw [List.getElem?_map] at e2
    cases ej : jx[i]? with
    | none => rw [ej] at e2; cases e2
    | some o =>
      rw [ej] at e2
      cases o with
      | none => cases e2
      | some j =>
        have e3 : σ[j]? = some (some v) := by
          have z : ((σ[j]?).join) = some v := Option.some.inj e2
          cases hs : σ[j]? with
          | none => rw [hs] at z; cases z
          | some q => rw [hs] at z; exact congrArg some z
        obtain ⟨f1, f2, f3⟩ := cs.free i j x ej e1
        obtain ⟨m, hn, hl⟩ := I.loc
        obtain ⟨u, ru, look⟩ := hl j x v f1 e3 (.inr (.inl f2))
        refine ⟨u, ru, ?_⟩
        rcases look with ⟨k, _⟩ | ⟨_, c, hc, o, ho, hd⟩
        · have k' : X.env.scope.names.lookup x = some .local := k
          rw [f2] at k'
          cases k'
        · obtain ⟨c', hc'⟩ := cs.has x (.inl f3)
          have z := cs.sub x c' hc'
          rw [hc] at z
          cases z
          exact .inr ⟨.inl f3, c, hc', o, hk _ _ ho, hd⟩
  · obtain ⟨v, o, ho, hd⟩ := I.cell x c (sub e)
    exact ⟨v, o, hk _ _ ho, hd⟩
  · have hp' : p ∈ X.pn ++ pins := by
      have z : p ∈ (X.pn ++ pins) ++ [] := hp
      simpa using z
    obtain ⟨e, n, nl, nf, d⟩ := I.pin p hp'
    refine ⟨hk _ _ e, n, Nat.ne_of_lt (Heap.lt_size e), fun z => ?_, d⟩
    rcases List.mem_cons.mp (I.stkSub p.1 z) with e | e
    · exact nl e
    · exact nf e
theorem comp_midF {pins : List (Addr × Obj)} {σ σ' : L2.St} {H H' : Hp} {s s' : Shared} {fp : List Addr} (I : Inv X pins σ H s) (hf : ∀ b ∈ fp, FpOk X pins H b) (J : Inv (cxF X N scope cl s.heap.objs.size s H fp (X.pn ++ pins)) [] σ' H' s') : Inv X pins σ H' s' :=
  I.call' (ch := fp) J.os J.base J.hok J.bare fun b hb => ⟨(hf b hb).2.2.2.1, (hf b hb).2.1, (hf b hb).2.2.2.2.1, (hf b hb).2.2.2.2.2⟩
theorem comp_outF {pins : List (Addr × Obj)} {σ σ2 : L2.St} {H H' : Hp} {s s' : Shared} {h' : Heap} (I : Inv X pins σ H s) (I4 : Inv X pins σ2 H' s') (hfree : H' s.heap.objs.size = none) (hs : Heap.SameBut s.heap.objs.size s'.heap h') : Inv X pins σ2 H' { s' with heap := h' } := by
  refine I4.turned (t' := s'.toks) (it := s.heap.objs.size) (fun b o hb e => hs.extBut _ _ hb e) hfree (Nat.ne_of_gt I.lt) (.inr I.sz) (fun x c e z => ?_) fun p hp z => ?_
  · obtain ⟨v, o, ho, _⟩ := I.cell x c e
    exact absurd (Heap.lt_size ho) (by rw [z]; exact Nat.lt_irrefl _)
  · exact absurd (Heap.lt_size (I.pin p hp).1) (by rw [z]; exact Nat.lt_irrefl _)
def tTurnsF (J : It) (acc : Addr) (g : TG) (tt : TT) (te : TE) (σ0 : L2.St) (H : Hp) (Q : VK) : Prop :=
  ∃ W : Nat → Nat → L2.St → Hp → Prop, (∃ m, W 0 m σ0 H) ∧ ∀ i m σ H, W i m σ H →
    (J.stop i H ∧ Q (.ref acc) H) ∨ (J.go i H ∧ ∃ Nx : L2.St → Hp → Prop, (∀ σ' H', Nx σ' H' → ∃ m', m' < m ∧ W (i + 1) m' σ' H') ∧ ∀ x H', J.yld i H x H' → g x σ H' fun σ2 H2 => tt σ2 H2 fun b H3 =>
      if b = true then te σ2 H3 fun v H4 => ∃ xs, H4 acc = some (.lst xs) ∧ xs.length < sizeLine ∧ Nx σ2 (upd H4 acc (.lst (xs ++ [v]))) else Nx σ2 H3)
def tCompF (jx : List (Option Nat)) (wi : TI) (g : TG) (tt : TT) (te : TE) : TE := fun σ H Q => wi σ H fun J H1 => ∀ acc, H1 acc = none → tTurnsF J acc g tt te (startF jx σ) (upd H1 acc (.lst [])) Q
theorem comp_core {elt tg iter : Expr} {ifs : List Expr} {pos pos' : Pos} {wi : TI} {g : TG} {tt : TT} {te : TE} (cs : CompF X N scope cl jx) (hc : X.calm = true) (hi : PI X tg iter wi)
    (hg : ∀ C s₀ H₀ ex pn, PG (cxF X N scope cl C s₀ H₀ ex pn) tg g) (ht : ∀ C s₀ H₀ ex pn, PTs (cxF X N scope cl C s₀ H₀ ex pn) ifs tt) (he : ∀ C s₀ H₀ ex pn, PE (cxF X N scope cl C s₀ H₀ ex pn) elt te)
    (hs : ∀ x, foldedSetIterable iter X.env x = pure x) {use : Option (Value → Sem Unit)} {Q' : Value → Shared → Prop} {Q : VK} {pins : List (Addr × Obj)} {s : Shared} {σ : L2.St} {H : Hp} (I : Inv X pins σ H s) (h : tCompF jx wi g tt te σ H Q)
    (fin : ∀ (s3 : Shared) (H3 : Hp) (fp : List Addr) (acc : Addr) (σ6 : L2.St) (H6 : Hp) (s7 : Shared), Inv X pins σ H3 s3 → (∀ b ∈ fp, FpOk X pins H3 b) → Inv (cxF X N scope cl s3.heap.objs.size s3 H3 fp (X.pn ++ pins)) [] σ6 H6 s7 → Q (.ref acc) H6 →
      compPost (model X.prog X.w) X.A X.xe use Q' (.ref acc) s3.heap.objs.size (.ok .next) s7) :
    wpAny (model X.prog X.w) X.A (comprehension (.ListComp elt [⟨tg, iter, ifs, 0⟩] scope pos) scope X.env pos' (newList []) false (eval iter X.env) use) Q' X.xe s := by
  refine wpAny_comprehension_free (use := use) rfl hs cs.clos cs.kind cs.names (thn (hi pins s σ H _ I h) fun v s1 h1 => thn h1 fun itv s2 h2 => ?_)
  obtain ⟨it, fp, tn, J, H2, e, I2, T, st2, f2, q⟩ := h2
  subst e
  refine wpAny_newObj_type (hd := by size_fits) ?_
  have hacc : H2 s2.heap.objs.size = none := I2.hok.fresh (Nat.le_refl _)
  have I3 : Inv X pins σ (upd H2 s2.heap.objs.size (.lst [])) { s2 with heap := s2.heap.push { cls := .type "list", data := .seq ([] : List Value).toArray }, toks := s2.toks } := I2.lnew (ys := []) .nil (Nat.zero_le _)
  have ftn : ∀ b ∈ fp, b < s2.heap.objs.size := fun b hb => by
    obtain ⟨o, ho, _⟩ := T.obj _ _ st2 b hb
    exact Heap.lt_size ho
  have f3 : ∀ b ∈ fp, FpOk X pins (upd H2 s2.heap.objs.size (.lst [])) b := fun b hb => ⟨by rw [upd_ne (Nat.ne_of_lt (ftn b hb))]; exact (f2 b hb).1, (f2 b hb).2⟩
  have k3 : ∀ b o, s2.heap.get? b = some o → (s2.heap.push { cls := .type "list", data := .seq ([] : List Value).toArray }).get? b = some o := fun b o e => Heap.get?_push_of_some _ e
  have q3 := q _ hacc
  generalize hs3 : ({ s2 with heap := s2.heap.push { cls := .type "list", data := .seq ([] : List Value).toArray }, toks := s2.toks } : Shared) = s3 at I3
  generalize hH3 : upd H2 s2.heap.objs.size (.lst []) = H3 at I3 f3 q3
  have hh3 : s3.heap = s2.heap.push { cls := .type "list", data := .seq ([] : List Value).toArray } := by rw [← hs3]
  have ft3 : ∀ b ∈ fp, b < s3.heap.objs.size := fun b hb => by rw [hh3, Heap.size_push]; exact Nat.lt_succ_of_lt (ftn b hb)
  have st3 : tn 0 s3.heap := T.keep _ _ _ st2 fun b _ o e => by rw [hh3]; exact k3 b o e
  show wpAny _ _ _ _ _ s3
  refine wpAny_newFunctionEnv cs.cell (fun y hy => by simp at hy) (fun h₁ hns hsb => ?_) cs.kind
  have kh : ∀ b o, s3.heap.get? b = some o → h₁.get? b = some o := fun b o e => hsb.extBut _ _ (Nat.ne_of_lt (Heap.lt_size e)) (Heap.get?_push_of_some _ e)
  have J0 : Inv (cxF X N scope cl s3.heap.objs.size s3 H3 fp (X.pn ++ pins)) [] (startF jx σ) H3 { s3 with heap := h₁, toks := s3.toks + ([] : List (Str × Value)).length } := comp_startF cs I3 f3 ft3 hns kh
  have st4 : tn 0 h₁ := T.keep _ _ _ st3 fun b _ o e => kh b o e
  obtain ⟨W, ⟨m0, w0⟩, turn⟩ := q3
  have stat : ∀ {H' : Hp}, (∀ b ∈ fp, H' b = none) → ∀ b ∈ fp, FpOk (cxF X N scope cl s3.heap.objs.size s3 H3 fp (X.pn ++ pins)) [] H' b := fun hn b hb => by
    refine ⟨hn b hb, Nat.ne_of_lt (ft3 b hb), fun z => ?_, .inl hb, fun x c e => (f3 b hb).2.2.2.2.1 x c (cs.sub x c e), fun p hp => ?_⟩
    · rcases List.mem_cons.mp (I3.stkSub b z) with e | e
      · exact (f3 b hb).2.1 e
      · exact (f3 b hb).2.2.1 e
    · have hp' : p ∈ X.pn ++ pins := by
        have z : p ∈ (X.pn ++ pins) ++ [] := hp
        simpa using z
      exact (f3 b hb).2.2.2.2.2 p hp'
  have loop : ∀ s5 : Shared, s5 = { s3 with heap := h₁, toks := s3.toks + ([] : List (Str × Value)).length } → codeAny (model X.prog X.w) X.A (.compLoop (.ListComp elt [⟨tg, iter, ifs, 0⟩] scope pos) 0 (.ref it) (.ref s2.heap.objs.size) (cxF X N scope cl s3.heap.objs.size s3 H3 fp (X.pn ++ pins)).env)
      (compPost (model X.prog X.w) X.A X.xe use Q' (.ref s2.heap.objs.size) s3.heap.objs.size) s5 := by
    rintro s5 rfl
    refine compLoopG (fun n s' => ∃ i σ' H', Inv (cxF X N scope cl s3.heap.objs.size s3 H3 fp (X.pn ++ pins)) [] σ' H' s' ∧ tn i s'.heap ∧ (∀ b ∈ fp, H' b = none) ∧ W i n σ' H') ?_ m0 ⟨0, _, H3, J0, st4, fun b hb => (f3 b hb).1, w0⟩
    rintro n s6 ⟨i, σ6, H6, I6, st6, fr6, w6⟩
    rcases turn i n σ6 H6 w6 with ⟨stop, qn⟩ | ⟨go, Nx, hN, step⟩
    · refine thn (T.done (cxF X N scope cl s3.heap.objs.size s3 H3 fp (X.pn ++ pins)) rfl rfl rfl hc i [] s6 σ6 H6 _ I6 (stat fr6) st6 stop) fun r s7 ⟨hr, I7⟩ => ?_
      subst hr
      exact fin s3 H3 fp _ σ6 H6 s7 I3 f3 I7 qn
    · refine thn (T.item (cxF X N scope cl s3.heap.objs.size s3 H3 fp (X.pn ++ pins)) rfl rfl rfl hc i [] s6 σ6 H6 _ I6 (stat fr6) st6 go) fun r s7 ⟨u, hr, h7⟩ => ?_
      subst hr
      refine thn h7 fun _ s8 ⟨x, H8, I8, r8, y8, st8, fr8⟩ => ?_
      have I8' := I8.pinned (stat fr8) (T.obj _ _ st8)
      refine thn (hg _ _ _ _ _ _ s8 σ6 H8 x u _ I8' r8 (step x H8 y8)) fun _ s9 ⟨σ9, H9, I9, q9⟩ => ?_
      refine thn (ht _ _ _ _ _ _ s9 σ9 H9 _ I9 q9) fun ok s10 ⟨H10, I10, q10⟩ => ?_
      have again : ∀ {σ7 : L2.St} {H7 : Hp} {s11 : Shared}, Inv (cxF X N scope cl s3.heap.objs.size s3 H3 fp (X.pn ++ pins)) ([] ++ pinsAt fp s8.heap) σ7 H7 s11 → Nx σ7 H7 → ∃ m, m < n ∧ ∃ i σ' H', Inv (cxF X N scope cl s3.heap.objs.size s3 H3 fp (X.pn ++ pins)) [] σ' H' s11 ∧ tn i s11.heap ∧ (∀ b ∈ fp, H' b = none) ∧ W i m σ' H' := fun {σ7 H7 s11} I7 n7 => by
        obtain ⟨m', hm, w7⟩ := hN σ7 H7 n7
        refine ⟨m', hm, i + 1, σ7, H7, I7.unpinned, T.keep _ _ _ st8 fun b hb o e => (I7.pin (b, o) (List.mem_append_right _ (List.mem_append_right _ (mem_pinsAt hb e)))).1, fun b hb => ?_, w7⟩
        obtain ⟨o, e, d⟩ := T.obj _ _ st8 b hb
        exact (I7.pin (b, o) (List.mem_append_right _ (List.mem_append_right _ (mem_pinsAt hb e)))).2.1
      cases ok with
      | false =>
        rw [if_neg Bool.false_ne_true] at q10
        exact again I10 q10
      | true =>
        rw [if_pos rfl] at q10
        refine thn (he _ _ _ _ _ _ s10 σ9 H10 _ I10 q10) fun v s11 ⟨y, H11, I11, r11, xs, hx, hz, n11⟩ => ?_
        refine thn (mt_append _ s11 σ9 H11 (.ref s2.heap.objs.size) [y] (.ref s2.heap.objs.size) [v] (fun _ H' => Nx σ9 H') I11 rfl (.cons r11 .nil) ⟨_, xs, y, rfl, rfl, hx, hz, n11⟩) fun _ s12 ⟨_, H12, I12, _, n12⟩ => ?_
        exact again I12 n12
  exact codeAny_compStart_list (loop _ rfl) (T.self _ _ _ _ _ st4 (loop _ rfl))
theorem pe_compF {elt tg iter : Expr} {ifs : List Expr} {pos : Pos} {wi : TI} {g : TG} {tt : TT} {te : TE} (cs : CompF X N scope cl jx) (hc : X.calm = true) (hi : PI X tg iter wi)
    (hg : ∀ C s₀ H₀ ex pn, PG (cxF X N scope cl C s₀ H₀ ex pn) tg g) (ht : ∀ C s₀ H₀ ex pn, PTs (cxF X N scope cl C s₀ H₀ ex pn) ifs tt) (he : ∀ C s₀ H₀ ex pn, PE (cxF X N scope cl C s₀ H₀ ex pn) elt te)
    (hs : ∀ x, foldedSetIterable iter X.env x = pure x := by intro _; rfl) : PE X (.ListComp elt [⟨tg, iter, ifs, 0⟩] scope pos) (tCompF jx wi g tt te) := by
  intro pins s σ H Q I h
  rw [eval_ListComp]
  refine comp_core (use := none) cs hc hi hg ht he hs I h fun s3 H3 fp acc σ6 H6 s7 I3 f3 I7 qn => ?_
  obtain ⟨m, hm, _⟩ := I7.loc
  exact ⟨m, hm, fun h' hsb => ⟨.ref acc, H6, comp_outF I3 (comp_midF I3 f3 I7) I7.free hsb, rfl, qn⟩⟩
theorem ps_setF {elt tg iter : Expr} {ifs : List Expr} {pos pos' pos2 : Pos} {wi : TI} {g : TG} {tt : TT} {te : TE} {i : Nat} {x : Str} (cs : CompF X N scope cl jx) (hc : X.calm = true) (hN : X.N.Nodup) (hix : X.N[i]? = some x) (hx : X.env.scope.names.lookup x = some .local) (hi : PI X tg iter wi)
    (hg : ∀ C s₀ H₀ ex pn, PG (cxF X N scope cl C s₀ H₀ ex pn) tg g) (ht : ∀ C s₀ H₀ ex pn, PTs (cxF X N scope cl C s₀ H₀ ex pn) ifs tt) (he : ∀ C s₀ H₀ ex pn, PE (cxF X N scope cl C s₀ H₀ ex pn) elt te)
    (hsw : swapsWith (.ListComp elt [⟨tg, iter, ifs, 0⟩] scope pos) (some (.Name x pos')) pos2.line X.env = pure true := by rfl)
    (hs : ∀ x, foldedSetIterable iter X.env x = pure x := by intro _; rfl) : PS X (.Assign [.Name x pos'] (.ListComp elt [⟨tg, iter, ifs, 0⟩] scope pos) pos2) (tAsg (tCompF jx wi g tt te) (gName i)) := by
  intro pins s σ H D I h
  rw [exec_Assign_Name_used _ _ _ _ hsw]
  refine wpAny_bind (wpAny_standAt (wpAny_bind ?_))
  show wpAny _ X.A (do let _ ← comprehension (.ListComp elt [⟨tg, iter, ifs, 0⟩] scope pos) scope X.env _ (newList []) false (eval iter X.env) (some (assign (.Name x pos') X.env))) _ _ s
  have h' : tCompF jx wi g tt te σ H (fun v H' => gName i v σ H' D.nx) := h
  refine wpAny_bind (thn (comp_core (use := some (assign (.Name x pos') X.env)) (Q' := fun _ s' => ∃ σ' H', Inv X pins σ' H' s' ∧ D.nx σ' H') cs hc hi hg ht he hs I h' fun s3 H3 fp acc σ6 H6 s7 I3 f3 I7 qn => ?_) fun _ s' q => ?_)
  · have I4 := comp_midF I3 f3 I7
    obtain ⟨m, hm, _⟩ := I7.loc
    refine wpAny_assign_Name (store_ok2 I4 hN hix (.inl hx) (v := .ref acc) rfl (fun s8 I8 ⟨a, hsb, ha⟩ => ?_) (.inr hx))
    have na : s3.heap.objs.size ≠ a := by
      rcases ha with rfl | ha
      · exact Nat.ne_of_gt I3.lt
      · intro z
        obtain ⟨v, o, ho, _⟩ := I3.cell x a ha
        exact absurd (Heap.lt_size ho) (by rw [z]; exact Nat.lt_irrefl _)
    refine ⟨m, hm.at' fun o e => hsb.extBut _ o na e, fun h' hs' => ⟨_, H6, comp_outF I3 I8 I7.free hs', qn⟩⟩
  · exact wpAny_pure (wpAny_pure q)
/-- no captured names -/
theorem CompF.none (cs : CompScope scope) (N : List Str) : CompF X N scope [] (N.map fun _ => none) where
  kind := cs.kind
  cell := cs.cell
  names := cs.names
  clos := closureFor_none cs.free
  sub := fun x c e => by cases e
  has := fun x hx => by
    have e : relabel scope X.env = scope := by
      unfold relabel
      have z : (scope.names.map fun (n, k) => if (k == NameKind.free && X.env.scope.kind == .function && X.env.kindOf n == some .cell) then (n, NameKind.cell) else (n, k)) = scope.names := by
        have z2 : (scope.names.map fun (n, k) => if (k == NameKind.free && X.env.scope.kind == .function && X.env.kindOf n == some .cell) then (n, NameKind.cell) else (n, k)) = scope.names.map id := List.map_congr_left fun p hp => by
          obtain ⟨n, k⟩ := p
          have q : (k == NameKind.free) = false := by
            have q := cs.free _ hp
            cases k <;> first | rfl | exact absurd rfl q
          simp [q]
        rw [z2, List.map_id]
      rw [z]
    rw [e] at hx
    rcases hx with z | z
    · exact absurd rfl (cs.cell _ (PySem.mem_of_lookup z))
    · exact absurd rfl (cs.free _ (PySem.mem_of_lookup z))
  len := by rw [List.length_map]
  free := fun i j x e _ => by
    rw [List.getElem?_map] at e
    cases h : N[i]? with
    | none => rw [h] at e; cases e
    | some y => rw [h] at e; cases e
theorem compF_list {K : PySem.W.Frag} {a acc : Addr} {xs : List V} {g : TG} {tt : TT} {te : TE} {σ0 : L2.St} {H : Hp} {Q : VK} (Pv : Nat → L2.St → Hp → Prop) (h0 : Pv 0 σ0 H) (hl : ∀ i σ H, i ≤ xs.length → Pv i σ H → SqL K H a xs)
    (hs : ∀ i x σ H, xs[i]? = some x → Pv i σ H → g x σ H fun σ2 H2 => tt σ2 H2 fun b H3 => if b = true then te σ2 H3 fun v H4 => ∃ ys, H4 acc = some (.lst ys) ∧ ys.length < sizeLine ∧ Pv (i + 1) σ2 (upd H4 acc (.lst (ys ++ [v]))) else Pv (i + 1) σ2 H3)
    (hd : ∀ σ H, Pv xs.length σ H → Q (.ref acc) H) : tTurnsF (Itl K a) acc g tt te σ0 H Q := by
  refine ⟨fun i m σ H => m = xs.length - i ∧ i ≤ xs.length ∧ Pv i σ H, ⟨xs.length, by simp, Nat.zero_le _, h0⟩, ?_⟩
  rintro i m σ H ⟨rfl, hi, p⟩
  have q := hl i σ H hi p
  by_cases hlt : i < xs.length
  · refine .inr ⟨⟨xs, xs[i], q, by simp [hlt]⟩, Pv (i + 1), fun σ' H' p' => ⟨xs.length - (i + 1), by omega, rfl, hlt, p'⟩, fun x H' y => ?_⟩
    obtain ⟨e, y⟩ := y
    subst e
    exact hs i x σ _ (y xs q) p
  · have e : i = xs.length := by omega
    subst e
    exact .inl ⟨⟨xs, q, Nat.le_refl _⟩, hd σ H p⟩
end
section
variable {X : Cx} {N : List Str} {scope : Scope} {cl : List (Str × Addr)} {C : Addr} {s₀ : Shared} {H₀ : Hp} {ex : List Addr} {pn : List (Addr × Obj)}
theorem pgF_tup {es : List Expr} {k : Nat} {t : TGs} {n : Nat} {pos : Pos} (hc : X.calm = true) (h : PGs (cxF X N scope cl C s₀ H₀ ex pn) es t)
    (hn : (assignEach es (cxF X N scope cl C s₀ H₀ ex pn).env).length = n := by rfl) (hst : (assignEach es (cxF X N scope cl C s₀ H₀ ex pn).env).findIdx? (·.1) = none := by rfl) : PG (cxF X N scope cl C s₀ H₀ ex pn) (.Tuple es k pos) (gTup X.K n t) := pg_tup (X := cxF X N scope cl C s₀ H₀ ex pn) hc h hn hst
theorem piF_list {tg l : Expr} {tl : TE} (hl : PE (cxF X N scope cl C s₀ H₀ ex pn) l tl) : PI (cxF X N scope cl C s₀ H₀ ex pn) tg l (iList X.K tl) := pi_list hl
end
/-- a range of one bound, as a thing -/
theorem call_range1' {X : Cx} : CallR X (.type "range") (fun xs H Q => ∃ j : Int, xs = [.int j] ∧ ∀ p, H p = none → Q (.ref p) (upd H p (.rng 0 j))) := by
  intro pins s σ H xs us Q I r h
  obtain ⟨j, rfl, q⟩ := h
  obtain ⟨u1, rfl, ⟨t, rfl⟩⟩ := r.one
  refine call_range_1 ⟨.ref s.heap.objs.size, _, I.laid (o := .rng 0 j) (fun b o e => Heap.get?_push_of_some _ e) (Nat.le_refl _) ⟨_, _, _, Heap.get?_push_size _ rfl⟩, rfl, q _ (I.hok.fresh (Nat.le_refl _))⟩
theorem closureFor_cells {scope : Scope} {env : Env} (h : ∀ p ∈ scope.names, p.2 = .free → ∃ c, env.cells.lookup p.1 = some c) :
    ∃ cl, closureFor scope env = pure cl ∧ (∀ x c, cl.lookup x = some c → env.cells.lookup x = some c) ∧ (∀ p ∈ scope.names, p.2 = .free → ∃ c, cl.lookup p.1 = some c) := by
  unfold closureFor
  have key : ∀ (l : List (Str × NameKind)) (cs : List (Str × Addr)), (∀ p ∈ l, p.2 = .free → ∃ c, env.cells.lookup p.1 = some c) → (∀ x c, cs.lookup x = some c → env.cells.lookup x = some c) →
      ∃ cl, (forIn l cs (fun p r => if (p.2 == NameKind.free) = true then do let c ← cellOf env p.1; pure (ForInStep.yield ((p.1, c) :: r)) else pure (ForInStep.yield r)) : Sem (List (Str × Addr))) = pure cl ∧ (∀ x c, cl.lookup x = some c → env.cells.lookup x = some c) ∧ (∀ p ∈ l, p.2 = .free → ∃ c, cl.lookup p.1 = some c) ∧ (∀ x c, cs.lookup x = some c → ∃ c, cl.lookup x = some c) := by
    intro l
    induction l with
    | nil => intro cs _ hcs; exact ⟨cs, rfl, hcs, (fun p hp => by cases hp), fun x c e => ⟨c, e⟩⟩
    | cons p l ih =>
      intro cs hl hcs
      rw [List.forIn_cons]
      by_cases hp : p.2 = .free
      · obtain ⟨c, hc⟩ := hl p List.mem_cons_self hp
        have e1 : (p.2 == NameKind.free) = true := by rw [hp]; rfl
        have e2 : cellOf env p.1 = pure c := by
          unfold cellOf
          rw [hc]
        rw [if_pos e1, e2]
        simp only [pure_bind]
        obtain ⟨cl, h1, h2, h3, h4⟩ := ih ((p.1, c) :: cs) (fun q hq => hl q (List.mem_cons_of_mem _ hq)) (fun x d e => by
          rw [List.lookup_cons] at e
          cases hx : x == p.1 with
          | true =>
            rw [hx] at e
            cases e
            rw [eq_of_beq hx]
            exact hc
          | false =>
            rw [hx] at e
            exact hcs x d e)
        refine ⟨cl, h1, h2, fun q hq hf => ?_, fun x d e => ?_⟩
        · rcases List.mem_cons.mp hq with rfl | hq
          · exact h4 q.1 c (by rw [List.lookup_cons]; simp)
          · exact h3 q hq hf
        · cases hx : x == p.1 with
          | true => exact h4 x c (by rw [List.lookup_cons, hx])
          | false => exact h4 x d (by rw [List.lookup_cons, hx]; exact e)
      · have e1 : ¬ (p.2 == NameKind.free) = true := fun z => hp (eq_of_beq z)
        rw [if_neg e1]
        simp only [pure_bind]
        obtain ⟨cl, h1, h2, h3, h4⟩ := ih cs (fun q hq => hl q (List.mem_cons_of_mem _ hq)) hcs
        refine ⟨cl, h1, h2, fun q hq hf => ?_, h4⟩
        rcases List.mem_cons.mp hq with rfl | hq
        · exact absurd hf hp
        · exact h3 q hq hf
  obtain ⟨cl, h1, h2, h3, _⟩ := key scope.names [] h (fun x c e => by cases e)
  refine ⟨cl, ?_, h2, h3⟩
  rw [← h1]
  simp only [bind_pure]

/-! ### the closure found by the context itself -/
theorem lookup_relabel {env : Env} : ∀ {names : List (Str × NameKind)} {x : Str} {k : NameKind}, names.lookup x = some k →
    (names.map fun (n, k) => if (k == NameKind.free && env.scope.kind == .function && env.kindOf n == some .cell) then (n, NameKind.cell) else (n, k)).lookup x = some (if (k == NameKind.free && env.scope.kind == .function && env.kindOf x == some .cell) then NameKind.cell else k)
  | [], _, _, h => by cases h
  | (n, k') :: r, x, k, h => by
    rw [List.map_cons]
    by_cases hx : (x == n) = true
    · have e : x = n := eq_of_beq hx
      subst e
      rw [List.lookup_cons, hx] at h
      cases h
      by_cases hc : (k' == NameKind.free && env.scope.kind == .function && env.kindOf x == some .cell) = true
      · show List.lookup x ((if (k' == NameKind.free && env.scope.kind == .function && env.kindOf x == some .cell) = true then (x, NameKind.cell) else (x, k')) :: _) = _
        rw [if_pos hc, if_pos hc, List.lookup_cons, hx]
      · show List.lookup x ((if (k' == NameKind.free && env.scope.kind == .function && env.kindOf x == some .cell) = true then (x, NameKind.cell) else (x, k')) :: _) = _
        rw [if_neg hc, if_neg hc, List.lookup_cons, hx]
    · have hf : (x == n) = false := by simpa using hx
      rw [List.lookup_cons, hf] at h
      have ih := lookup_relabel (env := env) h
      show List.lookup x ((if (k' == NameKind.free && env.scope.kind == .function && env.kindOf n == some .cell) = true then (n, NameKind.cell) else (n, k')) :: _) = _
      by_cases hc : (k' == NameKind.free && env.scope.kind == .function && env.kindOf n == some .cell) = true
      · rw [if_pos hc, List.lookup_cons, hf]; exact ih
      · rw [if_neg hc, List.lookup_cons, hf]; exact ih
theorem lookup_relabel_none {env : Env} : ∀ {names : List (Str × NameKind)} {x : Str}, names.lookup x = none →
    (names.map fun (n, k) => if (k == NameKind.free && env.scope.kind == .function && env.kindOf n == some .cell) then (n, NameKind.cell) else (n, k)).lookup x = none
  | [], _, _ => rfl
  | (n, k') :: r, x, h => by
    rw [List.map_cons]
    have hf : (x == n) = false := by
      cases hx : x == n with
      | false => rfl
      | true => rw [List.lookup_cons, hx] at h; cases h
    rw [List.lookup_cons, hf] at h
    have ih := lookup_relabel_none (env := env) h
    show List.lookup x ((if (k' == NameKind.free && env.scope.kind == .function && env.kindOf n == some .cell) = true then (n, NameKind.cell) else (n, k')) :: _) = _
    by_cases hc : (k' == NameKind.free && env.scope.kind == .function && env.kindOf n == some .cell) = true
    · rw [if_pos hc, List.lookup_cons, hf]; exact ih
    · rw [if_neg hc, List.lookup_cons, hf]; exact ih
structure CompG (X : Cx) (N : List Str) (scope : Scope) (jx : List (Option Nat)) : Prop where
  kind : scope.kind = .function
  cell : ∀ x ∈ scope.names, x.2 ≠ .cell
  names : ∀ x ∈ scope.names, x.2 = .local → scope.names.lookup x.1 = some .local
  xk : X.env.scope.kind = .function
  fr : ∀ x ∈ scope.names, x.2 = .free → X.env.scope.names.lookup x.1 = some .cell
  len : jx.length = N.length
  free : ∀ (i j : Nat) (x : Str), jx[i]? = some (some j) → N[i]? = some x → X.N[j]? = some x ∧ scope.names.lookup x = some .free
def freeOk (NX N : List Str) (scope : Scope) (jx : List (Option Nat)) : Bool := (jx.zip N).all fun p => match p.1 with
  | none => true
  | some j => decide (NX[j]? = some p.2) && decide (scope.names.lookup p.2 = some .free)
theorem compG {X : Cx} {N NX : List Str} {scope sc : Scope} {jx : List (Option Nat)} (e1 : X.env.scope = sc) (e2 : X.N = NX) (k : scope.kind = .function) (h1 : ∀ x ∈ scope.names, x.2 ≠ .cell) (h2 : ∀ x ∈ scope.names, x.2 = .local → scope.names.lookup x.1 = some .local)
    (h3 : sc.kind = .function) (h4 : ∀ x ∈ scope.names, x.2 = .free → sc.names.lookup x.1 = some .cell) (h5 : jx.length = N.length) (h6 : freeOk NX N scope jx = true) : CompG X N scope jx := by
  refine ⟨k, h1, h2, by rw [e1]; exact h3, by rw [e1]; exact h4, h5, fun i j x a b => ?_⟩
  rw [e2]
  unfold freeOk at h6
  rw [List.all_eq_true] at h6
  have z := h6 (some j, x) (List.mem_of_getElem? (i := i) (by rw [List.getElem?_zip_eq_some]; exact ⟨a, b⟩))
  simp only [Bool.and_eq_true, decide_eq_true_eq] at z
  exact z
section
variable {X : Cx} {N : List Str} {scope : Scope} {jx : List (Option Nat)}
theorem CompG.toF {pins : List (Addr × Obj)} {σ : L2.St} {H : Hp} {s : Shared} (cg : CompG X N scope jx) (I : Inv X pins σ H s) : ∃ cl, CompF X N scope cl jx := by
  obtain ⟨cl, h1, h2, h3⟩ := closureFor_cells (scope := scope) (env := X.env) fun p hp hf => I.ok.has p.1 (.inl (cg.fr p hp hf))
  have rel : ∀ x, scope.names.lookup x = some .free → (relabel scope X.env).names.lookup x = some .cell := fun x hx => by
    have z := lookup_relabel (env := X.env) hx
    have c : (NameKind.free == NameKind.free && X.env.scope.kind == .function && X.env.kindOf x == some .cell) = true := by
      have q : X.env.kindOf x = some .cell := cg.fr (x, .free) (PySem.mem_of_lookup hx) rfl
      rw [cg.xk, q]
      rfl
    rw [if_pos c] at z
    exact z
  refine ⟨cl, cg.kind, cg.cell, cg.names, h1, h2, fun x hx => ?_, cg.len, fun i j x a b => ?_⟩
  · cases e : scope.names.lookup x with
    | none =>
      have z : (relabel scope X.env).names.lookup x = none := lookup_relabel_none (env := X.env) e
      rw [z] at hx
      rcases hx with q | q <;> cases q
    | some k =>
      by_cases hk : k = .free
      · subst hk
        exact h3 (x, .free) (PySem.mem_of_lookup e) rfl
      · have z : (relabel scope X.env).names.lookup x = some (if (k == NameKind.free && X.env.scope.kind == .function && X.env.kindOf x == some .cell) then NameKind.cell else k) := lookup_relabel (env := X.env) e
        have c : (k == NameKind.free) = false := by
          cases q : k == NameKind.free with
          | false => rfl
          | true => exact absurd (eq_of_beq q) hk
        rw [c] at z
        simp only [Bool.false_and, Bool.false_eq_true, if_false] at z
        rw [z] at hx
        rcases hx with q | q
        · cases q
          exact absurd rfl (cg.cell (x, .cell) (PySem.mem_of_lookup e))
        · cases q
          exact absurd rfl hk
  · obtain ⟨f1, f2⟩ := cg.free i j x a b
    exact ⟨f1, cg.fr (x, .free) (PySem.mem_of_lookup f2) rfl, rel x f2⟩
theorem pe_compG {elt tg iter : Expr} {ifs : List Expr} {pos : Pos} {wi : TI} {g : TG} {tt : TT} {te : TE} (cg : CompG X N scope jx) (hc : X.calm = true) (hi : PI X tg iter wi)
    (hg : ∀ cl C s₀ H₀ ex pn, PG (cxF X N scope cl C s₀ H₀ ex pn) tg g) (ht : ∀ cl C s₀ H₀ ex pn, PTs (cxF X N scope cl C s₀ H₀ ex pn) ifs tt) (he : ∀ cl C s₀ H₀ ex pn, PE (cxF X N scope cl C s₀ H₀ ex pn) elt te)
    (hs : ∀ x, foldedSetIterable iter X.env x = pure x := by intro _; rfl) : PE X (.ListComp elt [⟨tg, iter, ifs, 0⟩] scope pos) (tCompF jx wi g tt te) := by
  intro pins s σ H Q I h
  obtain ⟨cl, cs⟩ := cg.toF I
  exact pe_compF cs hc hi (hg cl) (ht cl) (he cl) hs pins s σ H Q I h
theorem ps_setG {elt tg iter : Expr} {ifs : List Expr} {pos pos' pos2 : Pos} {wi : TI} {g : TG} {tt : TT} {te : TE} {i : Nat} {x : Str} (cg : CompG X N scope jx) (hc : X.calm = true) (hN : X.N.Nodup) (hix : X.N[i]? = some x) (hx : X.env.scope.names.lookup x = some .local) (hi : PI X tg iter wi)
    (hg : ∀ cl C s₀ H₀ ex pn, PG (cxF X N scope cl C s₀ H₀ ex pn) tg g) (ht : ∀ cl C s₀ H₀ ex pn, PTs (cxF X N scope cl C s₀ H₀ ex pn) ifs tt) (he : ∀ cl C s₀ H₀ ex pn, PE (cxF X N scope cl C s₀ H₀ ex pn) elt te)
    (hsw : swapsWith (.ListComp elt [⟨tg, iter, ifs, 0⟩] scope pos) (some (.Name x pos')) pos2.line X.env = pure true := by rfl)
    (hs : ∀ x, foldedSetIterable iter X.env x = pure x := by intro _; rfl) : PS X (.Assign [.Name x pos'] (.ListComp elt [⟨tg, iter, ifs, 0⟩] scope pos) pos2) (tAsg (tCompF jx wi g tt te) (gName i)) := by
  intro pins s σ H D I h
  obtain ⟨cl, cs⟩ := cg.toF I
  exact ps_setF cs hc hN hix hx hi (hg cl) (ht cl) (he cl) hsw hs pins s σ H D I h
end
end InkX

namespace InkX
open PySem PySem.Spec PyProof.Rows L2
/-! ### two clauses, with captured names -/
section
variable {X : Cx} {N : List Str} {scope : Scope} {cl : List (Str × Addr)} {jx : List (Option Nat)}
def tTurnsF2 (J : It) (acc : Addr) (g : TG) (tt : TT) (wi2 : TI) (g2 : TG) (tt2 : TT) (te : TE) (σ0 : L2.St) (H : Hp) (Q : VK) : Prop :=
  ∃ W : Nat → Nat → L2.St → Hp → Prop, (∃ m, W 0 m σ0 H) ∧ ∀ i m σ H, W i m σ H →
    (J.stop i H ∧ Q (.ref acc) H) ∨ (J.go i H ∧ ∃ Nx : L2.St → Hp → Prop, (∀ σ' H', Nx σ' H' → ∃ m', m' < m ∧ W (i + 1) m' σ' H') ∧ ∀ x H', J.yld i H x H' → g x σ H' fun σ2 H2 => tt σ2 H2 fun b H3 =>
      if b = true then tInner wi2 acc g2 tt2 te σ2 H3 Nx else Nx σ2 H3)
def tCompF2 (jx : List (Option Nat)) (wi : TI) (g : TG) (tt : TT) (wi2 : TI) (g2 : TG) (tt2 : TT) (te : TE) : TE := fun σ H Q => wi σ H fun J H1 => ∀ acc, H1 acc = none → tTurnsF2 J acc g tt wi2 g2 tt2 te (startF jx σ) (upd H1 acc (.lst [])) Q
theorem comp_core2 {elt tg iter tg2 iter2 : Expr} {ifs ifs2 : List Expr} {pos pos' : Pos} {wi wi2 : TI} {g g2 : TG} {tt tt2 : TT} {te : TE} (cs : CompF X N scope cl jx) (hc : X.calm = true) (hi : PI X tg iter wi)
    (hg : ∀ C s₀ H₀ ex pn, PG (cxF X N scope cl C s₀ H₀ ex pn) tg g) (ht : ∀ C s₀ H₀ ex pn, PTs (cxF X N scope cl C s₀ H₀ ex pn) ifs tt) (hi2 : ∀ C s₀ H₀ ex pn, PI (cxF X N scope cl C s₀ H₀ ex pn) tg2 iter2 wi2) (hg2 : ∀ C s₀ H₀ ex pn, PG (cxF X N scope cl C s₀ H₀ ex pn) tg2 g2) (ht2 : ∀ C s₀ H₀ ex pn, PTs (cxF X N scope cl C s₀ H₀ ex pn) ifs2 tt2) (he : ∀ C s₀ H₀ ex pn, PE (cxF X N scope cl C s₀ H₀ ex pn) elt te)
    (hs : ∀ x, foldedSetIterable iter X.env x = pure x) (hs2 : ∀ (env : Env) x, foldedSetIterable iter2 env x = pure x) {use : Option (Value → Sem Unit)} {Q' : Value → Shared → Prop} {Q : VK} {pins : List (Addr × Obj)} {s : Shared} {σ : L2.St} {H : Hp} (I : Inv X pins σ H s) (h : tCompF2 jx wi g tt wi2 g2 tt2 te σ H Q)
    (fin : ∀ (s3 : Shared) (H3 : Hp) (fp : List Addr) (acc : Addr) (σ6 : L2.St) (H6 : Hp) (s7 : Shared), Inv X pins σ H3 s3 → (∀ b ∈ fp, FpOk X pins H3 b) → Inv (cxF X N scope cl s3.heap.objs.size s3 H3 fp (X.pn ++ pins)) [] σ6 H6 s7 → Q (.ref acc) H6 →
      compPost (model X.prog X.w) X.A X.xe use Q' (.ref acc) s3.heap.objs.size (.ok .next) s7) :
    wpAny (model X.prog X.w) X.A (comprehension (.ListComp elt [⟨tg, iter, ifs, 0⟩, ⟨tg2, iter2, ifs2, 0⟩] scope pos) scope X.env pos' (newList []) false (eval iter X.env) use) Q' X.xe s := by
  refine wpAny_comprehension_free (use := use) rfl hs cs.clos cs.kind cs.names (thn (hi pins s σ H _ I h) fun v s1 h1 => thn h1 fun itv s2 h2 => ?_)
  obtain ⟨it, fp, tn, J, H2, e, I2, T, st2, f2, q⟩ := h2
  subst e
  refine wpAny_newObj_type (hd := by size_fits) ?_
  have hacc : H2 s2.heap.objs.size = none := I2.hok.fresh (Nat.le_refl _)
  have I3 : Inv X pins σ (upd H2 s2.heap.objs.size (.lst [])) { s2 with heap := s2.heap.push { cls := .type "list", data := .seq ([] : List Value).toArray }, toks := s2.toks } := I2.lnew (ys := []) .nil (Nat.zero_le _)
  have ftn : ∀ b ∈ fp, b < s2.heap.objs.size := fun b hb => by
    obtain ⟨o, ho, _⟩ := T.obj _ _ st2 b hb
    exact Heap.lt_size ho
  have f3 : ∀ b ∈ fp, FpOk X pins (upd H2 s2.heap.objs.size (.lst [])) b := fun b hb => ⟨by rw [upd_ne (Nat.ne_of_lt (ftn b hb))]; exact (f2 b hb).1, (f2 b hb).2⟩
  have k3 : ∀ b o, s2.heap.get? b = some o → (s2.heap.push { cls := .type "list", data := .seq ([] : List Value).toArray }).get? b = some o := fun b o e => Heap.get?_push_of_some _ e
  have q3 := q _ hacc
  generalize hs3 : ({ s2 with heap := s2.heap.push { cls := .type "list", data := .seq ([] : List Value).toArray }, toks := s2.toks } : Shared) = s3 at I3
  generalize hH3 : upd H2 s2.heap.objs.size (.lst []) = H3 at I3 f3 q3
  have hh3 : s3.heap = s2.heap.push { cls := .type "list", data := .seq ([] : List Value).toArray } := by rw [← hs3]
  have ft3 : ∀ b ∈ fp, b < s3.heap.objs.size := fun b hb => by rw [hh3, Heap.size_push]; exact Nat.lt_succ_of_lt (ftn b hb)
  have st3 : tn 0 s3.heap := T.keep _ _ _ st2 fun b _ o e => by rw [hh3]; exact k3 b o e
  show wpAny _ _ _ _ _ s3
  refine wpAny_newFunctionEnv cs.cell (fun y hy => by simp at hy) (fun h₁ hns hsb => ?_) cs.kind
  have kh : ∀ b o, s3.heap.get? b = some o → h₁.get? b = some o := fun b o e => hsb.extBut _ _ (Nat.ne_of_lt (Heap.lt_size e)) (Heap.get?_push_of_some _ e)
  have J0 : Inv (cxF X N scope cl s3.heap.objs.size s3 H3 fp (X.pn ++ pins)) [] (startF jx σ) H3 { s3 with heap := h₁, toks := s3.toks + ([] : List (Str × Value)).length } := comp_startF cs I3 f3 ft3 hns kh
  have st4 : tn 0 h₁ := T.keep _ _ _ st3 fun b _ o e => kh b o e
  obtain ⟨W, ⟨m0, w0⟩, turn⟩ := q3
  have stat : ∀ {H' : Hp}, (∀ b ∈ fp, H' b = none) → ∀ b ∈ fp, FpOk (cxF X N scope cl s3.heap.objs.size s3 H3 fp (X.pn ++ pins)) [] H' b := fun hn b hb => by
    refine ⟨hn b hb, Nat.ne_of_lt (ft3 b hb), fun z => ?_, .inl hb, fun x c e => (f3 b hb).2.2.2.2.1 x c (cs.sub x c e), fun p hp => ?_⟩
    · rcases List.mem_cons.mp (I3.stkSub b z) with e | e
      · exact (f3 b hb).2.1 e
      · exact (f3 b hb).2.2.1 e
    · have hp' : p ∈ X.pn ++ pins := by
        have z : p ∈ (X.pn ++ pins) ++ [] := hp
        simpa using z
      exact (f3 b hb).2.2.2.2.2 p hp'
  have loop : ∀ s5 : Shared, s5 = { s3 with heap := h₁, toks := s3.toks + ([] : List (Str × Value)).length } → codeAny (model X.prog X.w) X.A (.compLoop (.ListComp elt [⟨tg, iter, ifs, 0⟩, ⟨tg2, iter2, ifs2, 0⟩] scope pos) 0 (.ref it) (.ref s2.heap.objs.size) (cxF X N scope cl s3.heap.objs.size s3 H3 fp (X.pn ++ pins)).env)
      (compPost (model X.prog X.w) X.A X.xe use Q' (.ref s2.heap.objs.size) s3.heap.objs.size) s5 := by
    rintro s5 rfl
    refine loopOut (fun n s' => ∃ i σ' H', Inv (cxF X N scope cl s3.heap.objs.size s3 H3 fp (X.pn ++ pins)) [] σ' H' s' ∧ tn i s'.heap ∧ (∀ b ∈ fp, H' b = none) ∧ W i n σ' H') (hs2 _) ?_ m0 ⟨0, _, H3, J0, st4, fun b hb => (f3 b hb).1, w0⟩
    rintro n s6 ⟨i, σ6, H6, I6, st6, fr6, w6⟩
    rcases turn i n σ6 H6 w6 with ⟨stop, qn⟩ | ⟨go, Nx, hN, step⟩
    · refine thn (T.done (cxF X N scope cl s3.heap.objs.size s3 H3 fp (X.pn ++ pins)) rfl rfl rfl hc i [] s6 σ6 H6 _ I6 (stat fr6) st6 stop) fun r s7 ⟨hr, I7⟩ => ?_
      subst hr
      exact fin s3 H3 fp _ σ6 H6 s7 I3 f3 I7 qn
    · refine thn (T.item (cxF X N scope cl s3.heap.objs.size s3 H3 fp (X.pn ++ pins)) rfl rfl rfl hc i [] s6 σ6 H6 _ I6 (stat fr6) st6 go) fun r s7 ⟨u, hr, h7⟩ => ?_
      subst hr
      refine thn h7 fun _ s8 ⟨x, H8, I8, r8, y8, st8, fr8⟩ => ?_
      have I8' := I8.pinned (stat fr8) (T.obj _ _ st8)
      refine thn (hg _ _ _ _ _ _ s8 σ6 H8 x u _ I8' r8 (step x H8 y8)) fun _ s9 ⟨σ9, H9, I9, q9⟩ => ?_
      refine thn (ht _ _ _ _ _ _ s9 σ9 H9 _ I9 q9) fun ok s10 ⟨H10, I10, q10⟩ => ?_
      have again : ∀ {σ7 : L2.St} {H7 : Hp} {s11 : Shared}, Inv (cxF X N scope cl s3.heap.objs.size s3 H3 fp (X.pn ++ pins)) ([] ++ pinsAt fp s8.heap) σ7 H7 s11 → Nx σ7 H7 → ∃ m, m < n ∧ ∃ i σ' H', Inv (cxF X N scope cl s3.heap.objs.size s3 H3 fp (X.pn ++ pins)) [] σ' H' s11 ∧ tn i s11.heap ∧ (∀ b ∈ fp, H' b = none) ∧ W i m σ' H' := fun {σ7 H7 s11} I7 n7 => by
        obtain ⟨m', hm, w7⟩ := hN σ7 H7 n7
        refine ⟨m', hm, i + 1, σ7, H7, I7.unpinned, T.keep _ _ _ st8 fun b hb o e => (I7.pin (b, o) (List.mem_append_right _ (List.mem_append_right _ (mem_pinsAt hb e)))).1, fun b hb => ?_, w7⟩
        obtain ⟨o, e, d⟩ := T.obj _ _ st8 b hb
        exact (I7.pin (b, o) (List.mem_append_right _ (List.mem_append_right _ (mem_pinsAt hb e)))).2.1
      cases ok with
      | false =>
        rw [if_neg Bool.false_ne_true] at q10
        exact again I10 q10
      | true =>
        rw [if_pos rfl] at q10
        refine thn (inner_run (Y := cxF X N scope cl s3.heap.objs.size s3 H3 fp (X.pn ++ pins)) hc rfl (hi2 _ _ _ _ _) (hg2 _ _ _ _ _) (ht2 _ _ _ _ _) (he _ _ _ _ _) I10 q10) fun x s11 h11 => thn h11 fun it2 s12 h12 => codeAny_mono h12 fun r s13 ⟨hr, σ', H', I13, n13⟩ => ⟨hr, again I13 n13⟩
  exact codeAny_compStart_list (loop _ rfl) (T.self _ _ _ _ _ st4 (loop _ rfl))
theorem pe_compG2 {elt tg iter tg2 iter2 : Expr} {ifs ifs2 : List Expr} {pos : Pos} {wi wi2 : TI} {g g2 : TG} {tt tt2 : TT} {te : TE} (cg : CompG X N scope jx) (hc : X.calm = true) (hi : PI X tg iter wi)
    (hg : ∀ cl C s₀ H₀ ex pn, PG (cxF X N scope cl C s₀ H₀ ex pn) tg g) (ht : ∀ cl C s₀ H₀ ex pn, PTs (cxF X N scope cl C s₀ H₀ ex pn) ifs tt)
    (hi2 : ∀ cl C s₀ H₀ ex pn, PI (cxF X N scope cl C s₀ H₀ ex pn) tg2 iter2 wi2) (hg2 : ∀ cl C s₀ H₀ ex pn, PG (cxF X N scope cl C s₀ H₀ ex pn) tg2 g2) (ht2 : ∀ cl C s₀ H₀ ex pn, PTs (cxF X N scope cl C s₀ H₀ ex pn) ifs2 tt2) (he : ∀ cl C s₀ H₀ ex pn, PE (cxF X N scope cl C s₀ H₀ ex pn) elt te)
    (hs : ∀ x, foldedSetIterable iter X.env x = pure x := by intro _; rfl) (hs2 : ∀ (env : Env) x, foldedSetIterable iter2 env x = pure x := by intro _ _; rfl) :
    PE X (.ListComp elt [⟨tg, iter, ifs, 0⟩, ⟨tg2, iter2, ifs2, 0⟩] scope pos) (tCompF2 jx wi g tt wi2 g2 tt2 te) := by
  intro pins s σ H Q I h
  obtain ⟨cl, cs⟩ := cg.toF I
  rw [eval_ListComp]
  refine comp_core2 (use := none) cs hc hi (hg cl) (ht cl) (hi2 cl) (hg2 cl) (ht2 cl) (he cl) hs hs2 I h fun s3 H3 fp acc σ6 H6 s7 I3 f3 I7 qn => ?_
  obtain ⟨m, hm, _⟩ := I7.loc
  exact ⟨m, hm, fun h' hsb => ⟨.ref acc, H6, comp_outF I3 (comp_midF I3 f3 I7) I7.free hsb, rfl, qn⟩⟩
theorem compF2_list {K : PySem.W.Frag} {a acc : Addr} {xs : List V} {g : TG} {tt : TT} {wi2 : TI} {g2 : TG} {tt2 : TT} {te : TE} {σ0 : L2.St} {H : Hp} {Q : VK} (Pv : Nat → L2.St → Hp → Prop) (h0 : Pv 0 σ0 H) (hl : ∀ i σ H, i ≤ xs.length → Pv i σ H → SqL K H a xs)
    (hs : ∀ i x σ H, xs[i]? = some x → Pv i σ H → g x σ H fun σ2 H2 => tt σ2 H2 fun b H3 => if b = true then tInner wi2 acc g2 tt2 te σ2 H3 (Pv (i + 1)) else Pv (i + 1) σ2 H3)
    (hd : ∀ σ H, Pv xs.length σ H → Q (.ref acc) H) : tTurnsF2 (Itl K a) acc g tt wi2 g2 tt2 te σ0 H Q := by
  refine ⟨fun i m σ H => m = xs.length - i ∧ i ≤ xs.length ∧ Pv i σ H, ⟨xs.length, by simp, Nat.zero_le _, h0⟩, ?_⟩
  rintro i m σ H ⟨rfl, hi, p⟩
  have q := hl i σ H hi p
  by_cases hlt : i < xs.length
  · refine .inr ⟨⟨xs, xs[i], q, by simp [hlt]⟩, Pv (i + 1), fun σ' H' p' => ⟨xs.length - (i + 1), by omega, rfl, hlt, p'⟩, fun x H' y => ?_⟩
    obtain ⟨e, y⟩ := y
    subst e
    exact hs i x σ _ (y xs q) p
  · have e : i = xs.length := by omega
    subst e
    exact .inl ⟨⟨xs, q, Nat.le_refl _⟩, hd σ H p⟩
theorem inner_list {K : PySem.W.Frag} {a acc : Addr} {xs : List V} {g : TG} {tt : TT} {te : TE} {σ : L2.St} {H : Hp} {Nx : L2.St → Hp → Prop} (Pv : Nat → L2.St → Hp → Prop) (h0 : Pv 0 σ H) (hl : ∀ i σ H, i ≤ xs.length → Pv i σ H → SqL K H a xs)
    (hs : ∀ i x σ H, xs[i]? = some x → Pv i σ H → g x σ H fun σ2 H2 => tt σ2 H2 fun b H3 => if b = true then te σ2 H3 fun v H4 => ∃ ys, H4 acc = some (.lst ys) ∧ ys.length < sizeLine ∧ Pv (i + 1) σ2 (upd H4 acc (.lst (ys ++ [v]))) else Pv (i + 1) σ2 H3)
    (hd : ∀ σ H, Pv xs.length σ H → Nx σ H) : ∃ W : Nat → Nat → L2.St → Hp → Prop, (∃ m, W 0 m σ H) ∧ ∀ i m σ H, W i m σ H →
    ((Itl K a).stop i H ∧ Nx σ H) ∨ ((Itl K a).go i H ∧ ∃ N2 : L2.St → Hp → Prop, (∀ σ' H', N2 σ' H' → ∃ m', m' < m ∧ W (i + 1) m' σ' H') ∧ ∀ x H', (Itl K a).yld i H x H' → g x σ H' fun σ2 H2 => tt σ2 H2 fun b H3 =>
      if b = true then te σ2 H3 fun v H4 => ∃ xs, H4 acc = some (.lst xs) ∧ xs.length < sizeLine ∧ N2 σ2 (upd H4 acc (.lst (xs ++ [v]))) else N2 σ2 H3) := by
  refine ⟨fun i m σ H => m = xs.length - i ∧ i ≤ xs.length ∧ Pv i σ H, ⟨xs.length, by simp, Nat.zero_le _, h0⟩, ?_⟩
  rintro i m σ H ⟨rfl, hi, p⟩
  have q := hl i σ H hi p
  by_cases hlt : i < xs.length
  · refine .inr ⟨⟨xs, xs[i], q, by simp [hlt]⟩, Pv (i + 1), fun σ' H' p' => ⟨xs.length - (i + 1), by omega, rfl, hlt, p'⟩, fun x H' y => ?_⟩
    obtain ⟨e, y⟩ := y
    subst e
    exact hs i x σ _ (y xs q) p
  · have e : i = xs.length := by omega
    subst e
    exact .inl ⟨⟨xs, q, Nat.le_refl _⟩, hd σ H p⟩
end
end InkX

namespace InkX
open PySem PySem.Spec PyProof.Rows L2
open AutoSeq1 (wpAny_loadPart')
section
variable {prog : Program} {w : World} {A : Around} {E : Value → Shared → Prop} {s : Shared} {κ : Type} [DecidableEq κ] {knd : KeyKind prog w κ}
theorem hint_dict {d : Addr} {Q : Bool → Shared → Prop} (hT : s.TypeIs (.ref d) "dict") (h : Q false s) : wpAny (model prog w) A (Builtin.List.listLengthHint (.ref d)) Q E s := by
  unfold Builtin.List.listLengthHint
  refine wpAny_bind (wpAny_specialOf hT F.slot_dict_len.lookup ?_)
  generalize hid : ("dict.__len__" : String) = id0
  wp_delta
  rw [show splitId id0 = some ("dict", "__len__") by subst hid; decide +kernel]
  subst hid
  refine wpAny_bind (wpAny_isInstance (T := "dict") (b := true) hT (by rw [isSubtype_type]; kernel_rfl) ?_)
  refine wpAny_ite_split (fun q => absurd q (by decide)) fun _ => ?_
  refine wpAny_ite_split (fun _ => ?_) fun q => absurd (by decide +kernel) q
  exact wpAny_bind (wpAny_typeOf hT (wpAny_pure h))
theorem extend_dict {R : Result → Shared → Prop} {d : Addr} {kvs : List (κ × Value)} {ep : Nat} (hh : A.handled = none) (hs : (d == sysModules) = false) (hd : s.heap.DictAt knd d kvs ep) (hlen : kvs.length ≤ sizeLine) (S : Addr) (res : Value) (c₀ : Nat) (hS : s.heap.get? S = some { cls := .type "list", data := .seq #[] c₀ })
    (hR : ∀ h' tk acc' c', (∀ b o, b ≠ S → s.heap.get? b = some o → h'.get? b = some o) → h'.get? S = some { cls := .type "list", dict := none, data := .seq acc' c', slots := #[] } →
      ItemsOf (fun i v => ∃ k x, kvs[i]? = some (k, x) ∧ knd.is k v = true) acc' kvs.length → R (.ok (.ret res)) { s with heap := h', toks := tk }) :
    wpAny (model prog w) A.in1 (Builtin.List.listExtendWith (.ref S) (.ref d) res)
      (fun fin s' => match fin with | .done f => R (.ok f) s' | .again c' => c'.quiet = true ∧ codeAny (model prog w) A c' R s') (fun e s' => R (.error e) s') s := by
  have hT : s.TypeIs (.ref d) "dict" := by
    obtain ⟨o, es, ho, hx, _⟩ := hd
    exact ⟨o, ho, hx.1⟩
  have hSd : S ≠ d := fun e => by
    obtain ⟨o, es, ho, hx, hda, _⟩ := hd
    rw [← e, hS] at ho
    cases ho
    cases hda
  have hSlt : S < s.heap.objs.size := Heap.lt_size hS
  have hdlt : d < s.heap.objs.size := by
    obtain ⟨o, es, ho, _⟩ := hd
    exact Heap.lt_size ho
  have hSI : S ≠ s.heap.objs.size := Nat.ne_of_lt hSlt
  have hdI : d ≠ s.heap.objs.size := Nat.ne_of_lt hdlt
  have W := (Walks.dictKeys (prog := prog) (w := w) (A := A.in1) (knd := knd) hh s.heap.objs.size d hdI kvs ep).toS
  unfold Builtin.List.listExtendWith
  refine wpAny_bind (wpAny_typeOf hT ?_)
  have h1 : Builtin.List.listSameRef (.ref S) (.ref d) = false := by simp [Builtin.List.listSameRef, hSd]
  have h2 : (Value.type "dict" == Value.type "list") = false := by decide
  have h3 : (Value.type "dict" == Value.type "tuple") = false := by decide
  simp only [h1, h2, h3, Bool.or_false, Bool.false_eq_true, if_false]
  refine wpAny_bind (wpAny_pyIter_dict hs hd ?_)
  have hit : (s.heap.push { cls := .type "dict_keyiterator", data := .fields #[.ref d, .int 0 0, .int kvs.length 0, .int ep 0] }).IsKeyIter s.heap.objs.size d 0 kvs.length ep := ⟨_, Heap.get?_push_size _ rfl, rfl, rfl⟩
  have grow : ∀ b o, s.heap.get? b = some o → (s.heap.push { cls := .type "dict_keyiterator", data := .fields #[.ref d, .int 0 0, .int kvs.length 0, .int ep 0] }).get? b = some o := fun b o e => Heap.get?_push_of_some _ e
  generalize s.heap.push { cls := .type "dict_keyiterator", data := .fields #[.ref d, .int 0 0, .int kvs.length 0, .int ep 0] } = g1 at hit grow
  have hT1 : ({ s with heap := g1 } : Shared).TypeIs (.ref d) "dict" := by
    obtain ⟨o, ho, hc⟩ := hT
    exact ⟨o, grow _ _ ho, hc⟩
  refine wpAny_bind (wpAny_holding (hint_dict hT1 ?_))
  refine wpAny_ite_split (fun _ => ?_) fun q => absurd (by decide +kernel) q
  refine wpAny_bind (wpAny_rule (wpAny_bind ?_))
  show wpAny _ A.in1 (updateSeq S (fun z => z.push .none) >>= fun _ => updateSeq S fun z => z.pop) _ _ _
  have g1S := grow _ _ hS
  refine wpAny_bind (wpAny_updateSeq g1S rfl ?_)
  have g2S := Heap.get?_update_self (Obj.mapSeq fun z => z.push Value.none) g1S rfl
  refine wpAny_updateSeq (hz := by seq_fits) g2S rfl ?_
  have g3S := Heap.get?_update_self (Obj.mapSeq fun z => z.pop) g2S rfl
  have oth : ∀ b o, b ≠ S → g1.get? b = some o → ((g1.update S (Obj.mapSeq fun z => z.push Value.none)).update S (Obj.mapSeq fun z => z.pop)).get? b = some o := fun b o nb e =>
    (Heap.get?_update_other _ _ nb.symm).trans ((Heap.get?_update_other _ _ nb.symm).trans e)
  refine wpAny_pure ⟨plainId_quiet F.plain_extend_loop _, codeAny_extend_loopS W hlen S (fun hm => ?_) res kvs.length 0 _ #[] _ rfl (Nat.zero_le _) ⟨hit.at fun o e => oth _ o hSI.symm e, (hd.at' fun o e => oth _ o hSd.symm (grow _ o e))⟩ g3S (ItemsOf.nil _) fun s' acc' c' hm hS' hacc => ?_⟩
  · rcases List.mem_cons.mp hm with e | e
    · exact hSI e
    · exact hSd (List.mem_singleton.mp e)
  · rw [Moved.eq_with hm]
    refine hR s'.heap s'.toks acc' c' (fun b o nb e => hm.heap b o (fun q => ?_) (oth b o nb (grow b o e))) hS' hacc
    rcases List.mem_cons.mp q with z | z
    · exact nb z
    · exact absurd (Heap.lt_size e) (by rw [List.mem_singleton.mp z]; exact Nat.lt_irrefl _)
theorem call_list_dict {Q : Value → Shared → Prop} {d : Addr} {kvs : List (κ × Value)} {ep : Nat} (hh : A.handled = none) (hs : (d == sysModules) = false) (hd : s.heap.DictAt knd d kvs ep) (hlen : kvs.length ≤ sizeLine)
    (hQ : ∀ h' tk acc' c', (∀ b o, s.heap.get? b = some o → h'.get? b = some o) → h'.get? s.heap.objs.size = some { cls := .type "list", dict := none, data := .seq acc' c', slots := #[] } →
      ItemsOf (fun i v => ∃ k x, kvs[i]? = some (k, x) ∧ knd.is k v = true) acc' kvs.length → Q (.ref s.heap.objs.size) { s with heap := h', toks := tk }) :
    wpAny (model prog w) A (call (.type "list") [.ref d]) Q E s := by
  refine callType_codes (Q₁ := fun u s1 => u = .ref s.heap.objs.size ∧ s1 = { s with heap := s.heap.push { cls := .type "list", data := .seq #[] } }) F.called_list (F.typeCall_list_1 _) F.entry_list_init (code_list_new _ ⟨rfl, rfl⟩) fun u s1 e1 => ?_
  obtain ⟨rfl, rfl⟩ := e1
  have hS : (s.heap.push { cls := .type "list", data := .seq #[] }).get? s.heap.objs.size = some { cls := .type "list", data := .seq #[] } := Heap.get?_push_size _ rfl
  have hd1 : (s.heap.push { cls := .type "list", data := .seq #[] }).DictAt knd d kvs ep := hd.at' fun o e => Heap.get?_push_of_some _ e
  have hdn : d ≠ s.heap.objs.size := by
    obtain ⟨o, es, ho, _⟩ := hd
    exact Nat.ne_of_lt (Heap.lt_size ho)
  refine ⟨⟨_, hS, rfl⟩, F.args_list_init_2 _ _, ?_⟩
  show wpAny _ _ (do let old ← Builtin.List.listItems (.ref s.heap.objs.size); Builtin.List.listUpdate (.ref s.heap.objs.size) (fun _ => #[]); letGo old.toList.reverse; Builtin.List.listExtendWith (.ref s.heap.objs.size) (.ref d) .none) _ _ _
  refine wpAny_bind ?_
  unfold Builtin.List.listItems
  refine wpAny_bind (wpAny_seqItems hS rfl (wpAny_pure ?_))
  show wpAny _ _ (updateSeq s.heap.objs.size (fun _ => #[]) >>= fun _ => letGo (#[] : Array Value).toList.reverse >>= fun _ => Builtin.List.listExtendWith (.ref s.heap.objs.size) (.ref d) .none) _ _ _
  refine wpAny_bind (wpAny_updateSeq hS rfl ?_)
  have hS2 := Heap.get?_update_self (Obj.mapSeq fun _ => (#[] : Array Value)) hS rfl
  have oth : ∀ b o, b ≠ s.heap.objs.size → (s.heap.push { cls := .type "list", data := .seq #[] }).get? b = some o → ((s.heap.push { cls := .type "list", data := .seq #[] }).update s.heap.objs.size (Obj.mapSeq fun _ => (#[] : Array Value))).get? b = some o := fun b o nb e => (Heap.get?_update_other _ _ nb.symm).trans e
  refine wpAny_bind (wpAny_letGo ?_)
  refine extend_dict (A := A.in1) (knd := knd) hh hs (hd1.at' fun o e => oth _ o hdn e) hlen s.heap.objs.size .none _ hS2 fun h' tk acc' c' hk hS' hacc => ?_
  exact ⟨rfl, hQ h' tk acc' c' (fun b o e => hk b o (Nat.ne_of_lt (Heap.lt_size e)) (oth b o (Nat.ne_of_lt (Heap.lt_size e)) (Heap.get?_push_of_some _ e))) hS' hacc⟩
end
theorem call_listD {X : Cx} (hc : X.calm = true) : CallR X (.type "list") (fun xs H Q => ∃ (d : Addr) (kvs : List (Key × V)), xs = [.ref d] ∧ H d = some (.dK kvs) ∧ ∀ l, H l = none → Q (.ref l) (upd H l (.lst (kvs.map fun p => kV p.1)))) := by
  intro pins s σ H xs us Q I r h
  obtain ⟨d, kvs, rfl, hd, q⟩ := h
  obtain ⟨u, rfl, rx⟩ := r.one
  cases (show u = Value.ref d from rx)
  obtain ⟨hz, hs, vs, kv, o, es, ep, ho, hx⟩ := (show ObjOk X.prog X.w H s.heap d (.dK kvs) from I.hok d _ hd)
  have len := kv.length
  refine call_list_dict (I.ok.hd hc) hs ⟨o, es, ho, hx⟩ (by omega) fun h' tk acc' c' hk hS hacc => ?_
  refine ⟨.ref s.heap.objs.size, _, I.laid (o := .lst (kvs.map fun p => kV p.1)) (t' := tk) hk (Nat.le_refl _) ⟨by rw [List.length_map]; exact hz, acc'.toList, c', ?_, by simpa using hS⟩, rfl, q _ (I.hok.fresh (Nat.le_refl _))⟩
  have key : ∀ (kvs : List (Key × V)) (vs : List (Key × Value)) (us : List Value), KV kvs vs → us.length = vs.length → (∀ (j : Nat) (v : Value), us[j]? = some v → ∃ k x, vs[j]? = some (k, x) ∧ keyIs k v = true) → Vals (kvs.map fun p => kV p.1) us := by
    intro kvs
    induction kvs with
    | nil =>
      intro vs us kv hl _
      cases kv
      cases us with
      | nil => exact .nil
      | cons => simp at hl
    | cons p r ih =>
      intro vs us kv hl hp
      cases kv with
      | @cons _ q _ vs' h1 h2 =>
      cases us with
      | nil => simp at hl
      | cons u us =>
        obtain ⟨k, x, e1, e2⟩ := hp 0 u rfl
        have e3 : q = (k, x) := by simpa using e1
        subst e3
        refine .cons ?_ (ih vs' us h2 (by simpa using hl) fun j v e => ?_)
        · show L2.RelV (kV p.1) u
          rw [show p.1 = k from h1.1]
          rcases keyIs_shape e2 with ⟨i, t, rfl, rfl⟩ | ⟨i, t, rfl, rfl⟩
          · exact ⟨t, rfl⟩
          · exact ⟨t, rfl⟩
        · obtain ⟨k', x', e4, e5⟩ := hp (j + 1) v (by simpa using e)
          exact ⟨k', x', by simpa using e4, e5⟩
  exact key kvs vs acc'.toList kv (by simpa using hacc.1) fun j v e => hacc.2 j v (by simpa using e)
end InkX

namespace InkF
open PySem PySem.Spec PyProof.Rows L2 InkX Ink
section
variable {X : Cx}
/-! ### list.insert -/
/-! ### deep equality -/
end
end InkF

namespace Ink
open PySem PySem.Spec PyProof.Rows L2 InkX InkE InkF
/-! ### two lists side by side -/
inductive All2 {α β : Type} (R : α → β → Prop) : List α → List β → Prop
  | nil : All2 R [] []
  | cons {a : α} {b : β} {as : List α} {bs : List β} : R a b → All2 R as bs → All2 R (a :: as) (b :: bs)
section
variable {α β : Type} {R R' : α → β → Prop} {as : List α} {bs : List β} {a : α} {b : β}
theorem All2.len : ∀ {as : List α} {bs : List β}, All2 R as bs → as.length = bs.length
  | _, _, .nil => rfl
  | _, _, .cons _ t => by rw [List.length_cons, List.length_cons, t.len]
theorem All2.get : ∀ {as : List α} {bs : List β} {i : Nat}, All2 R as bs → as[i]? = some a → ∃ b, bs[i]? = some b ∧ R a b
  | _, _, _, .nil, h => by simp at h
  | _, _, 0, .cons r _, h => by simp at h; subst h; exact ⟨_, rfl, r⟩
  | _, _, i + 1, .cons _ t, h => by simp at h; simpa using t.get h
theorem All2.get' : ∀ {as : List α} {bs : List β} {i : Nat}, All2 R as bs → bs[i]? = some b → ∃ a, as[i]? = some a ∧ R a b
  | _, _, _, .nil, h => by simp at h
  | _, _, 0, .cons r _, h => by simp at h; subst h; exact ⟨_, rfl, r⟩
  | _, _, i + 1, .cons _ t, h => by simp at h; simpa using t.get' h
theorem All2.snoc : ∀ {as : List α} {bs : List β}, All2 R as bs → R a b → All2 R (as ++ [a]) (bs ++ [b])
  | _, _, .nil, h => .cons h .nil
  | _, _, .cons r t, h => .cons r (t.snoc h)
theorem All2.mono : ∀ {as : List α} {bs : List β}, (∀ a b, R a b → R' a b) → All2 R as bs → All2 R' as bs
  | _, _, _, .nil => .nil
  | _, _, h, .cons r t => .cons (h _ _ r) (t.mono h)
theorem All2.set : ∀ {as : List α} {bs : List β} (i : Nat), All2 R as bs → R a b → All2 R (as.set i a) (bs.set i b)
  | _, _, _, .nil, _ => .nil
  | _, _, 0, .cons _ t, h => .cons h t
  | _, _, i + 1, .cons r t, h => .cons r (t.set i h)
theorem All2.split : ∀ {as : List α} {bs : List β}, All2 R as (bs ++ [b]) → ∃ as' a, as = as' ++ [a] ∧ All2 R as' bs ∧ R a b
  | _, [], .cons r .nil => ⟨[], _, rfl, .nil, r⟩
  | _, c :: bs, .cons r t => by
    obtain ⟨as', a, rfl, t', r'⟩ := t.split
    exact ⟨_ :: as', a, rfl, .cons r t', r'⟩
end
/-! ### items -/
inductive Item where
  | win (n : Int)
  | ink (a b : Int)
def itemVs : Item → List V
  | .win n => [.str "win", .int n]
  | .ink a b => [.str "ink", .int a, .int b]
def ItemAt (H : Hp) (v : V) (it : Item) : Prop := ∃ a, v = .ref a ∧ H a = some (.tup (itemVs it))
theorem ItemAt.same {H H' : Hp} {v : V} {it : Item} (s : Same H H') : ItemAt H v it → ItemAt H' v it := fun ⟨a, e, h⟩ => ⟨a, e, s _ _ h⟩
theorem ItemAt.keep {H H' : Hp} {v : V} {it : Item} {q : Addr} {xs : List V} (hq : H q = some (.lst xs)) (k : Keep q H H') : ItemAt H v it → ItemAt H' v it := fun ⟨a, e, h⟩ => ⟨a, e, k a _ h (by
  intro z
  rw [z, hq] at h
  cases h)⟩
def ItemsAt (H : Hp) (v : V) (its : List Item) : Prop := ∃ a vs, v = .ref a ∧ H a = some (.lst vs) ∧ All2 (ItemAt H) vs its
theorem ItemsAt.same {H H' : Hp} {v : V} {its : List Item} (s : Same H H') : ItemsAt H v its → ItemsAt H' v its := fun ⟨a, vs, e, h, t⟩ => ⟨a, vs, e, s _ _ h, t.mono fun _ _ => ItemAt.same s⟩
def SheetsAt (H : Hp) (r : Addr) (rows : List (List Item)) : Prop := ∃ vs, H r = some (.lst vs) ∧ All2 (ItemsAt H) vs rows
theorem SheetsAt.same {H H' : Hp} {r : Addr} {rows : List (List Item)} (s : Same H H') : SheetsAt H r rows → SheetsAt H' r rows := fun ⟨vs, h, t⟩ => ⟨vs, s _ _ h, t.mono fun _ _ => ItemsAt.same s⟩
theorem ItemAt.eqv {H : Hp} {x y : V} {it : Item} (n : Nat) (h1 : ItemAt H x it) (h2 : ItemAt H y it) : Eqv H (n + 2) x y := by
  obtain ⟨a, rfl, e1⟩ := h1
  obtain ⟨b, rfl, e2⟩ := h2
  refine .inr ⟨false, a, b, _, _, rfl, rfl, e1, e2, rfl, fun i u v eu ev => ?_⟩
  rw [eu] at ev
  cases ev
  cases it with
  | win n =>
    match i, eu with
    | 0, e => cases e; exact .inl ⟨rfl, rfl⟩
    | 1, e => cases e; exact .inl ⟨rfl, rfl⟩
    | k + 2, e => simp [itemVs] at e
  | ink p q =>
    match i, eu with
    | 0, e => cases e; exact .inl ⟨rfl, rfl⟩
    | 1, e => cases e; exact .inl ⟨rfl, rfl⟩
    | 2, e => cases e; exact .inl ⟨rfl, rfl⟩
    | k + 3, e => simp [itemVs] at e
theorem ItemsAt.eqv {H : Hp} {x y : V} {its : List Item} (n : Nat) (h1 : ItemsAt H x its) (h2 : ItemsAt H y its) : Eqv H (n + 3) x y := by
  obtain ⟨a, vs, rfl, e1, t1⟩ := h1
  obtain ⟨b, us, rfl, e2, t2⟩ := h2
  refine .inr ⟨true, a, b, _, _, rfl, rfl, e1, e2, by rw [t1.len, t2.len], fun i u v eu ev => ?_⟩
  obtain ⟨z, ez, r1⟩ := t1.get eu
  obtain ⟨z', ez', r2⟩ := t2.get ev
  rw [ez] at ez'
  cases ez'
  exact r1.eqv n r2
theorem SheetsAt.eqv {H : Hp} {x y : Addr} {rows : List (List Item)} (n : Nat) (h1 : SheetsAt H x rows) (h2 : SheetsAt H y rows) : Eqv H (n + 4) (.ref x) (.ref y) := by
  obtain ⟨vs, e1, t1⟩ := h1
  obtain ⟨us, e2, t2⟩ := h2
  refine .inr ⟨true, x, y, _, _, rfl, rfl, e1, e2, by rw [t1.len, t2.len], fun i u v eu ev => ?_⟩
  obtain ⟨z, ez, r1⟩ := t1.get eu
  obtain ⟨z', ez', r2⟩ := t2.get ev
  rw [ez] at ez'
  cases ez'
  exact r1.eqv n r2
def itemsStep (t : List Item) (e : Int) : List Item :=
  if e < 0 then t ++ [.win (-1 - e)] else
  match t.getLast? with
  | some (.ink a b) => if b = e then t.dropLast ++ [.ink a (e + 1)] else t ++ [.ink e (e + 1)]
  | _ => t ++ [.ink e (e + 1)]
def itemsOf (es : List Int) : List Item := es.foldl itemsStep []
def winsOf (its : List Item) : List Int := its.filterMap fun it => match it with | .win n => some n | .ink _ _ => none
def winsE (es : List Int) : List Int := es.filterMap fun e => if e < 0 then some (-1 - e) else none
theorem winsOf_append (a b : List Item) : winsOf (a ++ b) = winsOf a ++ winsOf b := by unfold winsOf; rw [List.filterMap_append]
theorem wins_step (t : List Item) (e : Int) : winsOf (itemsStep t e) = winsOf t ++ (if e < 0 then [-1 - e] else []) := by
  unfold itemsStep
  by_cases h : e < 0
  · rw [if_pos h, if_pos h, winsOf_append]; rfl
  · rw [if_neg h, if_neg h, List.append_nil]
    rcases List.eq_nil_or_concat t with rfl | ⟨t', l, rfl⟩
    · rfl
    · rw [List.concat_eq_append, List.getLast?_concat]
      cases l with
      | win n => simp [winsOf_append, winsOf]
      | ink a b =>
        show winsOf (if b = e then (t' ++ [Item.ink a b]).dropLast ++ [.ink a (e + 1)] else (t' ++ [Item.ink a b]) ++ [.ink e (e + 1)]) = _
        by_cases hb : b = e
        · rw [if_pos hb, List.dropLast_concat, winsOf_append, winsOf_append]; rfl
        · rw [if_neg hb, winsOf_append, winsOf_append]; simp [winsOf]
theorem wins_fold (es : List Int) : ∀ t : List Item, winsOf (es.foldl itemsStep t) = winsOf t ++ winsE es := by
  induction es with
  | nil => intro t; simp [winsE]
  | cons e es ih =>
    intro t
    rw [List.foldl_cons, ih, wins_step, List.append_assoc]
    unfold winsE
    rw [List.filterMap_cons]
    by_cases h : e < 0
    · simp [h]
    · simp [h]
theorem wins_itemsOf (es : List Int) : winsOf (itemsOf es) = winsE es := by
  unfold itemsOf
  rw [wins_fold]
  rfl
theorem mem_winsE {es : List Int} {y : Int} : y ∈ winsE es ↔ 0 ≤ y ∧ -1 - y ∈ es := by
  unfold winsE
  rw [List.mem_filterMap]
  constructor
  · rintro ⟨e, he, h⟩
    by_cases h0 : e < 0
    · rw [if_pos h0] at h
      cases h
      exact ⟨by omega, by have z : -1 - (-1 - e) = e := by omega
                          rw [z]; exact he⟩
    · rw [if_neg h0] at h
      cases h
  · rintro ⟨h0, h1⟩
    refine ⟨-1 - y, h1, ?_⟩
    rw [if_pos (by omega)]
    congr 1
    omega
theorem items_len (es : List Int) : ∀ t : List Item, (es.foldl itemsStep t).length ≤ t.length + es.length := by
  induction es with
  | nil => intro t; simp
  | cons e es ih =>
    intro t
    rw [List.foldl_cons]
    have z := ih (itemsStep t e)
    have z2 : (itemsStep t e).length ≤ t.length + 1 := by
      unfold itemsStep
      split
      · simp
      · split
        · split
          · rw [List.length_append, List.length_dropLast, List.length_singleton]; omega
          · simp
        · simp
    rw [List.length_cons]
    omega
/-! ### the windows of rows of entries, and where they lead -/
def Nxt (rows : List (List Int)) (x y : Int) : Prop := 0 ≤ x ∧ ∃ es, rows[x.toNat]? = some es ∧ y ∈ winsE es
inductive Reach (E : Int → Int → Prop) (s : Int) : Int → Prop
  | one {y : Int} : E s y → Reach E s y
  | step {y z : Int} : Reach E s y → E y z → Reach E s z
theorem Reach.closed {E : Int → Int → Prop} {s : Int} {S : Int → Prop} (h0 : ∀ y, E s y → S y) (h1 : ∀ x y, S x → E x y → S y) : ∀ {g : Int}, Reach E s g → S g
  | _, .one h => h0 _ h
  | _, .step r h => h1 _ _ (Reach.closed h0 h1 r) h
/-- all windows are upon sheets that are there -/
def Sound (rows : List (List Int)) : Prop := ∀ es ∈ rows, ∀ y ∈ winsE es, y < rows.length
theorem Sound.nxt {rows : List (List Int)} (h : Sound rows) {x y : Int} (e : Nxt rows x y) : 0 ≤ y ∧ y < rows.length := by
  obtain ⟨_, es, he, hy⟩ := e
  exact ⟨(mem_winsE.mp hy).1, h es (List.mem_of_getElem? he) y hy⟩
/-- a walk: from its first sheet on, window by window -/
def Walk (E : Int → Int → Prop) (s : Int) (w : List Int) : Prop := w[0]? = some s ∧ ∀ (i : Nat) (x y : Int), w[i]? = some x → w[i + 1]? = some y → E x y
theorem Walk.one (E : Int → Int → Prop) (s : Int) : Walk E s [s] := ⟨rfl, fun i x y _ h => by simp at h⟩
theorem Walk.snoc {E : Int → Int → Prop} {s e y : Int} {w : List Int} (h : Walk E s w) (hl : w.getLast? = some e) (he : E e y) : Walk E s (w ++ [y]) := by
  obtain ⟨h0, h1⟩ := h
  have hw : w ≠ [] := by intro z; rw [z] at hl; cases hl
  have hpos : 0 < w.length := by cases w with | nil => exact absurd rfl hw | cons _ _ => simp
  refine ⟨by rw [List.getElem?_append_left hpos]; exact h0, fun i x z hx hz => ?_⟩
  by_cases c : i + 1 < w.length
  · rw [List.getElem?_append_left c] at hz
    rw [List.getElem?_append_left (by omega)] at hx
    exact h1 i x z hx hz
  · have c2 : i + 1 = w.length := by
      have : i + 1 < (w ++ [y]).length := by
        rcases Nat.lt_or_ge (i + 1) (w ++ [y]).length with q | q
        · exact q
        · rw [List.getElem?_eq_none q] at hz; cases hz
      rw [List.length_append, List.length_singleton] at this
      omega
    rw [c2, List.getElem?_append_right (Nat.le_refl _), Nat.sub_self] at hz
    rw [List.getElem?_append_left (by omega)] at hx
    rw [List.getLast?_eq_getElem?] at hl
    have : i = w.length - 1 := by omega
    rw [this, hl] at hx
    cases hx
    cases hz
    exact he
theorem Walk.reach {E : Int → Int → Prop} {s : Int} {w : List Int} (h : Walk E s w) : ∀ (i : Nat) (y : Int), w[i + 1]? = some y → Reach E s y := by
  intro i
  induction i with
  | zero => intro y hy; exact .one (h.2 0 s y h.1 hy)
  | succ i ih =>
    intro y hy
    have : ∃ x, w[i + 1]? = some x := by
      rcases Nat.lt_or_ge (i + 1) w.length with q | q
      · exact ⟨w[i + 1], List.getElem?_eq_getElem q⟩
      · rw [List.getElem?_eq_none (by omega)] at hy; cases hy
    obtain ⟨x, hx⟩ := this
    exact .step (ih x hx) (h.2 _ _ _ hx hy)
/-! ### counting what is not seen -/
def cnt (n : Nat) (p : Nat → Bool) : Nat := ((List.range n).filter p).length
theorem cnt_eq (n : Nat) {p q : Nat → Bool} (h : ∀ i, i < n → p i = q i) : cnt n p = cnt n q := by
  unfold cnt
  rw [List.filter_congr fun i hi => h i (List.mem_range.mp hi)]
theorem cnt_succ (n : Nat) (p : Nat → Bool) : cnt (n + 1) p = cnt n p + (if p n = true then 1 else 0) := by
  unfold cnt
  rw [List.range_succ, List.filter_append, List.length_append]
  congr 1
  by_cases h : p n = true
  · rw [if_pos h]; simp [h]
  · rw [if_neg h]; simp [h]
theorem cnt_flip (j : Nat) : ∀ (n : Nat) {p q : Nat → Bool}, j < n → p j = true → (∀ i, q i = (p i && decide (i ≠ j))) → cnt n q + 1 = cnt n p
  | 0, _, _, h, _, _ => by omega
  | n + 1, p, q, h, hj, hq => by
    rw [cnt_succ, cnt_succ]
    by_cases e : j = n
    · subst e
      have z : cnt j q = cnt j p := cnt_eq j fun i hi => by
        rw [hq i]
        have : decide (i ≠ j) = true := by simp; omega
        rw [this, Bool.and_true]
      have z2 : q j = false := by rw [hq j]; simp
      rw [z, z2, if_pos hj]
      simp
    · have ih := cnt_flip j n (p := p) (q := q) (by omega) hj hq
      have z : q n = p n := by
        rw [hq n]
        have : decide (n ≠ j) = true := by simp; omega
        rw [this, Bool.and_true]
      rw [z]
      omega
theorem cnt_le (n : Nat) (p : Nat → Bool) : cnt n p ≤ n := by
  unfold cnt
  have := List.length_filter_le p (List.range n)
  rw [List.length_range] at this
  exact this
/-! ### entries -/
def EntsAt (av : Addr → Prop) (H : Hp) (v : V) (es : List Int) : Prop := ∃ a, v = .ref a ∧ ¬ av a ∧ H a = some (.lst (es.map V.int))
def RowsAt (av : Addr → Prop) (H : Hp) (r : Addr) (rows : List (List Int)) : Prop := ∃ vs, H r = some (.lst vs) ∧ All2 (EntsAt av H) vs rows
theorem EntsAt.keep {av : Addr → Prop} {H H' : Hp} {v : V} {es : List Int} (k : ∀ a o, ¬ av a → H a = some o → H' a = some o) : EntsAt av H v es → EntsAt av H' v es := fun ⟨a, e, n, h⟩ => ⟨a, e, n, k a _ n h⟩
theorem RowsAt.same {av : Addr → Prop} {H H' : Hp} {r : Addr} {rows : List (List Int)} (s : Same H H') : RowsAt av H r rows → RowsAt av H' r rows := fun ⟨vs, h, t⟩ => ⟨vs, s _ _ h, t.mono fun _ _ => EntsAt.keep fun a o _ e => s a o e⟩
theorem RowsAt.get {av : Addr → Prop} {H : Hp} {r : Addr} {rows : List (List Int)} {i : Nat} {es : List Int} (h : RowsAt av H r rows) (e : rows[i]? = some es) : ∃ vs a, H r = some (.lst vs) ∧ vs[i]? = some (.ref a) ∧ H a = some (.lst (es.map V.int)) ∧ vs.length = rows.length := by
  obtain ⟨vs, hr, t⟩ := h
  obtain ⟨v, ev, a, rfl, _, ha⟩ := t.get' e
  exact ⟨vs, a, hr, ev, ha, t.len⟩
/-- the windows go down by some rank -/
def Rkd (rows : List (List Int)) : Prop := ∃ rk : Int → Nat, (∀ x, rk x ≤ 40) ∧ ∀ x y, Nxt rows x y → rk y < rk x
theorem EntsAt.at {av : Addr → Prop} {H : Hp} {v : V} {es : List Int} {q : Addr} (o : HO) (hq : av q) : EntsAt av H v es → EntsAt av (upd H q o) v es := EntsAt.keep fun a u n e => by
  rw [upd_ne (fun z => n (by rw [z]; exact hq))]
  exact e
theorem EntsAt.new {av : Addr → Prop} {H : Hp} {v : V} {es : List Int} {p : Addr} (o : HO) (hp : H p = none) : EntsAt av H v es → EntsAt av (upd H p o) v es := EntsAt.keep fun a u _ e => same_new hp o a u e
theorem EntsAt.same {av : Addr → Prop} {H H' : Hp} {v : V} {es : List Int} (s : Same H H') : EntsAt av H v es → EntsAt av H' v es := EntsAt.keep fun a u _ e => s a u e
def seen (kvs : List (Key × V)) (x : Int) : Prop := (valV kvs (Sum.inl x)).isSome = true
def miss (n : Nat) (kvs : List (Key × V)) : Nat := cnt n fun i => (valV kvs (Sum.inl (i : Int))).isNone
theorem seen_put {kvs : List (Key × V)} {y x : Int} (v : V) : seen (putK kvs (Sum.inl y) v) x ↔ x = y ∨ seen kvs x := by
  unfold seen
  rw [valV_put]
  by_cases h : x = y
  · rw [if_pos (by rw [h]), h]; simp
  · rw [if_neg (fun z => h (Sum.inl.inj z))]; simp [h]
theorem miss_put {n : Nat} {kvs : List (Key × V)} {y : Int} (v : V) (h0 : 0 ≤ y) (h1 : y < n) (hn : valV kvs (Sum.inl y) = none) : miss n (putK kvs (Sum.inl y) v) + 1 = miss n kvs := by
  refine cnt_flip y.toNat n (by omega) ?_ fun i => ?_
  · show (valV kvs (Sum.inl (y.toNat : Int))).isNone = true
    rw [show ((y.toNat : Nat) : Int) = y by omega, hn]
    rfl
  · show (valV (putK kvs (Sum.inl y) v) (Sum.inl (i : Int))).isNone = ((valV kvs (Sum.inl (i : Int))).isNone && decide (i ≠ y.toNat))
    rw [valV_put]
    by_cases h : (i : Int) = y
    · rw [if_pos (by rw [h])]
      have : decide (i ≠ y.toNat) = false := by simp; omega
      rw [this, Bool.and_false]
      rfl
    · rw [if_neg (fun z => h (Sum.inl.inj z))]
      have : decide (i ≠ y.toNat) = true := by simp; omega
      rw [this, Bool.and_true]
theorem run_len (lo : Int) (n : Nat) : (run lo n).length = n := by
  induction n generalizing lo with
  | zero => rfl
  | succ n ih => rw [run, List.length_cons, ih]
theorem run_in : ∀ {n : Nat} {lo y : Int}, y ∈ run lo n → lo ≤ y ∧ y < lo + n
  | 0, _, _, h => by cases h
  | n + 1, lo, y, h => by
    rcases List.mem_cons.mp h with rfl | z
    · omega
    · have := run_in z
      omega
theorem All2.new {H2 : Hp} {q t : Addr} {vs : List V} {its : List Item} {it : Item} {ys : List V} (hq2 : H2 q = some (.lst ys)) (hb : All2 (ItemAt H2) vs its) (ht : H2 t = none) (zs : List V) :
    All2 (ItemAt (upd (upd H2 t (.tup (itemVs it))) q (.lst zs))) (vs ++ [.ref t]) (its ++ [it]) := by
  have ntq : q ≠ t := ne_of_none hq2 ht
  have s1 : Same H2 (upd H2 t (.tup (itemVs it))) := same_new ht _
  refine All2.snoc (hb.mono fun v i h => (h.same s1).keep (s1 _ _ hq2) (keep_upd q _ _)) ⟨t, rfl, ?_⟩
  rw [upd_ne ntq.symm, upd_same]
end Ink

namespace InkP
open PySem PySem.Spec PyProof.Rows L2 InkX
section
variable {M : Model} {A : Around} {E : Value → Shared → Prop} {s : Shared}
theorem inplace_list {a b : Value} {Q : Value → Shared → Prop} (ha : s.TypeIs a "list") (hb : s.TypeIs b "list") (hc : wpAny M A (call (.builtin "list.__iadd__") [a, b]) Q E s) : wpAny M A (inplaceOp .Add a b) Q E s := by
  unfold inplaceOp
  refine wpAny_holding ?_
  have hq : isSeqSlot (some (.builtin "list.__iadd__")) = true := by decide +kernel
  have hfi : fillsInplaceSlot (.type "list") "add" (Operator.Add == .Add) = pure false := by
    unfold fillsInplaceSlot
    show (typeLookup (.type "list") (dunderI "add") >>= fun fi => pure (fi.isSome && !isSeqSlot fi)) = pure false
    rw [PySem.F.slot_list_iadd.lookup, pure_bind, hq]; rfl
  have hsi : seqSlot? (.type "list") (dunderI "add") = pure (some (.builtin "list.__iadd__")) := PySem.seqSlot_of PySem.F.slot_list_iadd.lookup hq
  refine wpAny_bind (wpAny_typeOf ha (wpAny_bind (wpAny_of_eq hfi ?_)))
  show wpAny M A (if false = true then _ else _) Q E s
  rw [if_neg Bool.false_ne_true]
  refine wpAny_bind (binaryOp1_none (nm := "add") ha hb PySem.noFill_list_add ?_)
  refine wpAny_bind (wpAny_of_eq hsi ?_)
  exact wpAny_bind (wpAny_rule hc)
end
section
variable {X : Cx}
/-- xs += zs, in place -/
def rIadd : V → V → Hp → VK → Prop := fun x y H Q => ∃ l b xs zs, x = .ref l ∧ y = .ref b ∧ H l = some (.lst xs) ∧ H b = some (.lst zs) ∧ xs.length + zs.length ≤ sizeLine ∧ Q (.ref l) (upd H l (.lst (xs ++ zs)))
theorem ip_cat : PIp X .Add rIadd := by
  intro pins s σ H x y v u Q I rx ry h
  obtain ⟨l, b, xs, zs, rfl, rfl, hH, hB, hz, q⟩ := h
  cases rx
  cases ry
  obtain ⟨z, its, n, r, hl, e⟩ := I.lstM hH
  obtain ⟨z2, its2, n2, r2, hl2, e2⟩ := I.lstM hB
  have hsz : its.toArray.size + its2.toArray.size ≤ sizeLine := by rw [List.size_toArray, List.size_toArray]; omega
  have hlong : ¬ (!its.toArray.isEmpty && Builtin.List.listTooLong (its.toArray.size + its2.toArray.size)) = true := by
    rw [notLongL hsz, Bool.and_false]
    exact Bool.false_ne_true
  refine inplace_list ⟨_, e, rfl⟩ ⟨_, e2, rfl⟩ ?_
  refine call_meets PySem.F.slot_list_iadd ⟨_, e, rfl⟩ PySem.F.entry_list_iadd (PySem.F.args_list_iadd_2 _ _)
    (AutoSeq1.list___iadd___list_list_0 l its.toArray n b its2.toArray n2 hlong (by rw [List.size_toArray]; omega) (by omega)) ⟨e, e2, ?_⟩
  refine ⟨.ref l, _, I.lset (its' := its ++ its2) hH e (by simp) (r.append r2) ?_, rfl, q⟩
  rw [List.length_append]
  omega
section
variable {N : List Str} {scope : Scope} {cl : List (Str × Addr)} {C : Addr} {s₀ : Shared} {H₀ : Hp} {ex : List Addr} {pn : List (Addr × Obj)}
theorem callF_list : CallR (cxF X N scope cl C s₀ H₀ ex pn) (.type "list") (fun xs H Q => ∃ p ys, xs = [.ref p] ∧ (SqL X.K H p ys ∨ SqT X.K H p ys) ∧ ∀ l, H l = none → Q (.ref l) (upd H l (.lst ys))) := call_list_of
end
theorem in_cat : InOp X .Add rIadd := fun pins s σ H x y u v Q I rx ry h => ip_cat pins s σ H x y u v Q I rx ry h
end
theorem if_andW {p q A B T : Prop} [Decidable p] [Decidable q] (w : p → (if decide q = true then A else B) → T) (h1 : p ∧ q → A) (h2 : ¬ (p ∧ q) → B) : if decide p = true then T else (if false = true then A else B) := by
  by_cases a : p
  · rw [if_pos (decide_eq_true a)]
    by_cases b : q
    · exact w a (by rw [if_pos (decide_eq_true b)]; exact h1 ⟨a, b⟩)
    · exact w a (by rw [decide_eq_false b, if_neg Bool.false_ne_true]; exact h2 fun z => b z.2)
  · rw [decide_eq_false a, if_neg Bool.false_ne_true, if_neg Bool.false_ne_true]
    exact h2 fun z => a z.1
theorem if_and {p q A B T : Prop} [Decidable p] [Decidable q] (w : (if decide q = true then A else B) → T) (h1 : p ∧ q → A) (h2 : ¬ (p ∧ q) → B) : if decide p = true then T else (if false = true then A else B) := if_andW (fun _ => w) h1 h2
end InkP

namespace Ink
open PySem PySem.Spec PyProof.Rows L2 InkX InkE InkF
/-- rows of addresses from nought on -/
def RowNn (r : Row) : Prop := ∀ p ∈ r, 0 ≤ p.1 ∧ p.1 ≤ p.2
def RowPos (r : Row) : Prop := ∀ p ∈ r, 0 ≤ p.1 ∧ p.1 < p.2
theorem RowPos.nn {r : Row} (h : RowPos r) : RowNn r := fun p hp => ⟨(h p hp).1, by have := (h p hp).2; omega⟩
end Ink

namespace InkS
open PySem PySem.Spec PyProof.Rows L2 InkX
/-! ### sorted, of a list of pairs of ints: fewer than 64 of them -/
/-- the order of pairs -/
def Le (p q : Int × Int) : Prop := p.1 < q.1 ∨ (p.1 = q.1 ∧ p.2 ≤ q.2)
instance (p q : Int × Int) : Decidable (Le p q) := by unfold Le; infer_instance
def less (p q : Int × Int) : Bool := decide (¬ Le q p)
/-- what a pair in the heap is -/
def PairIn (h : Heap) (v : Value) (p : Int × Int) : Prop := ∃ a t u, v = .ref a ∧ IsTup h a #[.int p.1 t, .int p.2 u]
/-! the array that is sorted, seen by its keys -/
section
variable {prog : Program} {w : World} {A : Around} {E : Value → Shared → Prop} {s : Shared} {z : Array Keyed} {key : Value → Int × Int}
def kp (key : Value → Int × Int) (xs : Array Keyed) (i : Nat) : Int × Int := (xs[i]?.map fun r => key r.1).getD (0, 0)
theorem kp_of {xs ys : Array Keyed} {i j : Nat} (h : xs[i]? = ys[j]?) : kp key xs i = kp key ys j := by unfold kp; rw [h]
def Up (key : Value → Int × Int) (xs : Array Keyed) (n : Nat) : Prop := ∀ i j, i ≤ j → j < n → Le (kp key xs i) (kp key xs j)
def Dn (key : Value → Int × Int) (xs : Array Keyed) (n : Nat) : Prop := ∀ i j, i ≤ j → j < n → Le (kp key xs j) (kp key xs i)
theorem Le.rfl' (p : Int × Int) : Le p p := .inr ⟨rfl, Int.le_refl _⟩
theorem Le.tr {p q r : Int × Int} (h : Le p q) (g : Le q r) : Le p r := by unfold Le at *; omega
theorem Le.anti {p q : Int × Int} (h : Le p q) (g : Le q p) : p = q := by
  unfold Le at *
  exact Prod.ext (by omega) (by omega)
theorem Le.of_not {p q : Int × Int} (h : ¬ Le p q) : Le q p := by unfold Le at *; omega
theorem less_t {p q : Int × Int} (h : less p q = true) : ¬ Le q p := of_decide_eq_true h
theorem less_f {p q : Int × Int} (h : less p q = false) : Le q p := by
  unfold less at h
  exact Classical.byContradiction fun c => by rw [decide_eq_true c] at h; cases h
/-- what stays as the sort goes on -/
structure Bas (z : Array Keyed) (st : SortSt) : Prop where
  pm : (arrOf st).Perm z
  kd : kindOf st = tuples' true
  fl : failedOf st = none
  pd : pendingOf st = #[]
theorem Bas.sz {st : SortSt} (b : Bas z st) : (arrOf st).size = z.size := b.pm.size_eq
theorem Bas.put {st : SortSt} (b : Bas z st) {xs : Array Keyed} (h : xs.Perm (arrOf st)) : Bas z (setArr st xs) := ⟨h.trans b.pm, b.kd, b.fl, b.pd⟩
/-- two keys of the array may be compared -/
def Can (prog : Program) (w : World) (A : Around) (s : Shared) (key : Value → Int × Int) (z : Array Keyed) : Prop :=
  ∀ r ∈ z.toList, ∀ o ∈ z.toList, ∀ (E : Value → Shared → Prop) (Q : Bool → Shared → Prop), Q (less (key r.1) (key o.1)) s → wpAny (model prog w) A (keyLt' (tuples' true) r.1 o.1) Q E s
theorem Bas.get {st : SortSt} (b : Bas z st) {i : Nat} (hi : i < z.size) : ∃ r ∈ z.toList, (arrOf st)[i]? = some r ∧ kp key (arrOf st) i = key r.1 := by
  have hi2 : i < (arrOf st).size := by rw [b.sz]; exact hi
  refine ⟨(arrOf st)[i], (Array.perm_iff_toList_perm.mp b.pm).mem_iff.mp (by simp), getElem?_pos _ i hi2, ?_⟩
  unfold kp
  rw [getElem?_pos _ i hi2]
  rfl
theorem cmp {st : SortSt} {i j : Nat} {Q : Option Bool → SortSt → Prop} (C : Can prog w A s key z) (b : Bas z st) (hi : i < z.size) (hj : j < z.size)
    (h : Q (some (less (kp key (arrOf st) i) (kp key (arrOf st) j))) st) : wpS (model prog w) A E s (ltAt' i j) Q st := by
  obtain ⟨r, hr, e1, k1⟩ := b.get (key := key) hi
  obtain ⟨o, ho, e2, k2⟩ := b.get (key := key) hj
  rw [k1, k2] at h
  rw [ltAt'_eq]
  refine wpS_bind (wpS_get ?_)
  show wpS _ _ _ _ (do let u ← elem' (arrOf st) i; let v ← elem' (arrOf st) j; lt' u v) Q st
  rw [elem'_eq, elem'_eq, e1, e2]
  refine wpS_bind (wpS_pure (wpS_bind (wpS_pure ?_)))
  rw [lt'_eq]
  refine wpS_bind (wpS_get ?_)
  rw [b.kd]
  refine wpS_bind (wpS_lift (wpAny_attempt (C r hr o ho _ _ ?_)))
  exact ⟨rfl, wpS_pure h⟩
theorem kp_turn {xs : Array Keyed} {i j : Nat} (hj : j ≤ xs.size) (k : Nat) : kp key (mirror xs i j ((j - i) / 2)) k = if i ≤ k ∧ k < j then kp key xs (i + j - 1 - k) else kp key xs k := by
  have e := getElem?_mirror_all (i := i) hj k
  split at e
  · rename_i c; rw [if_pos c]; exact kp_of e
  · rename_i c; rw [if_neg c]; exact kp_of e
/-- alike keys turned about stay alike -/
theorem kp_alike {xs : Array Keyed} {i j : Nat} (hj : j ≤ xs.size) (g : ∀ k, i ≤ k → k < j → kp key xs k = kp key xs (j - 1)) (k : Nat) : kp key (mirror xs i j ((j - i) / 2)) k = kp key xs k := by
  rw [kp_turn hj]
  by_cases c : i ≤ k ∧ k < j
  · rw [if_pos c, g _ (by omega) (by omega), g k c.1 c.2]
  · rw [if_neg c]
theorem Up.more {xs : Array Keyed} {n : Nat} (h : Up key xs n) (g : n = 0 ∨ Le (kp key xs (n - 1)) (kp key xs n)) : Up key xs (n + 1) := by
  intro i j ij hj
  by_cases c : j < n
  · exact h i j ij c
  · have e : j = n := by omega
    subst e
    by_cases d : i = j
    · subst d; exact Le.rfl' _
    · exact (h i (j - 1) (by omega) (by omega)).tr (g.resolve_left (by omega))
theorem Dn.more {xs : Array Keyed} {n : Nat} (h : Dn key xs n) (g : n = 0 ∨ Le (kp key xs n) (kp key xs (n - 1))) : Dn key xs (n + 1) := by
  intro i j ij hj
  by_cases c : j < n
  · exact h i j ij c
  · have e : j = n := by omega
    subst e
    by_cases d : i = j
    · subst d; exact Le.rfl' _
    · exact (g.resolve_left (by omega)).tr (h i (j - 1) (by omega) (by omega))
theorem Dn.eqv {xs ys : Array Keyed} {n : Nat} (h : Dn key xs n) (g : ∀ k, kp key ys k = kp key xs k) : Dn key ys n := fun i j ij hj => by rw [g, g]; exact h i j ij hj
theorem Up.one (xs : Array Keyed) : Up key xs 1 := fun i j ij hj => by
  have : i = j := by omega
  subst this
  exact Le.rfl' _
theorem rising {st : SortSt} {a n : Nat} {Q : AscSt → SortSt → Prop} (C : Can prog w A s key z) (hn : n ≤ z.size) (ha : 1 ≤ a) (an : a ≤ n) (b : Bas z st) (u : Up key (arrOf st) a)
    (h : ∀ m, a ≤ m → m ≤ n → Up key (arrOf st) m → (m = n ∨ ¬ Le (kp key (arrOf st) (m - 1)) (kp key (arrOf st) m)) → Q (none, m) st) : wpS (model prog w) A E s (ascLoop a n) Q st := by
  unfold ascLoop
  refine wpS_forRange (I := fun x c t => t = st ∧ c = (none, x) ∧ Up key (arrOf st) x) ?turn ?out ⟨rfl, rfl, u⟩
  case out =>
    rintro c t ⟨rfl, rfl, u'⟩
    have e : max a n = n := by omega
    rw [e] at u' ⊢
    exact h n an (Nat.le_refl _) u' (.inl rfl)
  case turn =>
    rintro x c t ax xn ⟨rfl, rfl, u'⟩
    dsimp only
    refine wpS_bind (cmp C b (by omega) (by omega) ?_)
    cases e : less (kp key (arrOf t) x) (kp key (arrOf t) (x - 1)) with
    | true =>
      simp only [if_true]
      exact wpS_pure (h x ax (by omega) u' (.inr (less_t e)))
    | false =>
      simp only [Bool.false_eq_true, if_false]
      exact wpS_pure ⟨rfl, rfl, u'.more (.inr (less_f e))⟩
theorem turned {st : SortSt} {m n : Nat} {Q : Option Nat → SortSt → Prop} (C : Can prog w A s key z) (hn : n ≤ z.size) (h1 : 1 ≤ m) (mn : m ≤ n) (b : Bas z st) (d : Dn key (arrOf st) m)
    (h : ∀ k t, Bas z t → 1 ≤ k → k ≤ n → Up key (arrOf t) k → Q (some k) t) : wpS (model prog w) A E s (tail3 m n) Q st := by
  unfold tail3
  have hs : m ≤ (arrOf st).size := by rw [b.sz]; omega
  refine wpS_bind (wpS_reverse ?_)
  have b' := b.put (mirror_perm (arrOf st) 0 m ((m - 0) / 2))
  refine wpS_bind (rising C hn h1 mn b' (fun i j ij hj => ?_) fun k k1 k2 u _ => wpS_pure (h k _ b' (by omega) k2 u))
  show Le (kp key (mirror (arrOf st) 0 m ((m - 0) / 2)) i) (kp key (mirror (arrOf st) 0 m ((m - 0) / 2)) j)
  rw [kp_turn hs, kp_turn hs, if_pos ⟨by omega, by omega⟩, if_pos ⟨by omega, by omega⟩]
  exact d _ _ (by omega) (by omega)
/-- the last e + 1 keys below m are alike -/
def Tail (key : Value → Int × Int) (xs : Array Keyed) (m e : Nat) : Prop := e + 1 ≤ m ∧ ∀ k, m - (e + 1) ≤ k → k < m → kp key xs k = kp key xs (m - 1)
theorem Tail.none {xs : Array Keyed} {m : Nat} (h : 1 ≤ m) : Tail key xs m 0 := ⟨h, fun k a b => by congr 1; omega⟩
theorem falling {st : SortSt} {m n : Nat} {Q : DescSt → SortSt → Prop} (C : Can prog w A s key z) (hn : n ≤ z.size) (h1 : 1 ≤ m) (mn : m ≤ n) (b : Bas z st) (d : Dn key (arrOf st) m)
    (h : ∀ k e t, Bas z t → m ≤ k → k ≤ n → Dn key (arrOf t) k → Tail key (arrOf t) k e → Q (none, k, e) t) : wpS (model prog w) A E s (descLoop m n) Q st := by
  unfold descLoop
  refine wpS_forRange (I := fun x c t => ∃ e, c = (none, x, e) ∧ Bas z t ∧ Dn key (arrOf t) x ∧ Tail key (arrOf t) x e) ?turn ?out ⟨0, rfl, b, d, .none h1⟩
  case out =>
    rintro c t ⟨e, rfl, b', d', g⟩
    have q : max m n = n := by omega
    rw [q] at d' g ⊢
    exact h n e t b' mn (Nat.le_refl _) d' g
  case turn =>
    rintro x c t mx xn ⟨e, rfl, b', d', g⟩
    dsimp only
    have hs : x ≤ (arrOf t).size := by rw [b'.sz]; omega
    refine wpS_bind (cmp C b' (by omega) (by omega) ?_)
    cases q : less (kp key (arrOf t) x) (kp key (arrOf t) (x - 1)) with
    | true =>
      simp only [if_true]
      have d2 : Dn key (arrOf t) (x + 1) := d'.more (.inr (Le.of_not (less_t q)))
      by_cases c : e > 0
      · rw [if_pos c]
        exact wpS_bind (wpS_reverse (wpS_pure ⟨0, rfl, b'.put (mirror_perm _ _ _ _), d2.eqv (kp_alike hs g.2), .none (by omega)⟩))
      · rw [if_neg c]
        exact wpS_pure ⟨0, rfl, b', d2, .none (by omega)⟩
    | false =>
      simp only [Bool.false_eq_true, if_false]
      refine wpS_bind (cmp C b' (by omega) (by omega) ?_)
      cases q2 : less (kp key (arrOf t) (x - 1)) (kp key (arrOf t) x) with
      | true =>
        simp only [if_true]
        exact wpS_pure (h x e t b' mx (by omega) d' g)
      | false =>
        simp only [Bool.false_eq_true, if_false]
        have al : kp key (arrOf t) x = kp key (arrOf t) (x - 1) := Le.anti (less_f q2) (less_f q)
        refine wpS_pure ⟨e + 1, rfl, b', d'.more (.inr (less_f q2)), by have := g.1; omega, fun k a c => ?_⟩
        show kp key (arrOf t) k = kp key (arrOf t) x
        by_cases f : k = x
        · rw [f]
        · rw [al]; exact g.2 k (by omega) (by omega)
theorem down_part {st : SortSt} {m n : Nat} {Q : Option Nat → SortSt → Prop} (C : Can prog w A s key z) (hn : n ≤ z.size) (mn : m + 1 ≤ n) (b : Bas z st) (d : Dn key (arrOf st) (m + 1))
    (h : ∀ k t, Bas z t → 1 ≤ k → k ≤ n → Up key (arrOf t) k → Q (some k) t) : wpS (model prog w) A E s (descPart m n) Q st := by
  unfold descPart
  refine wpS_bind (wpS_lift (wpAny_rule ⟨rfl, ?_⟩))
  refine wpS_bind (falling C hn (by omega) mn b d fun k e t b' mk kn d' g => ?_)
  dsimp only
  have hs : k ≤ (arrOf t).size := by rw [b'.sz]; omega
  by_cases c : e > 0
  · rw [if_pos c]
    exact wpS_bind (wpS_reverse (turned C hn (by omega) kn (b'.put (mirror_perm _ _ _ _)) (d'.eqv (kp_alike hs g.2)) h))
  · rw [if_neg c]
    exact turned C hn (by omega) kn b' d' h
theorem first_run {st : SortSt} {n : Nat} {Q : Option Nat → SortSt → Prop} (C : Can prog w A s key z) (hn : n ≤ z.size) (h1 : 1 ≤ n) (b : Bas z st)
    (h : ∀ k t, Bas z t → 1 ≤ k → k ≤ n → Up key (arrOf t) k → Q (some k) t) : wpS (model prog w) A E s (countRun' 0 n) Q st := by
  rw [countRun0_eq]
  refine wpS_bind (rising C hn (Nat.le_refl 1) h1 b (Up.one _) fun m m1 mn u g => ?_)
  dsimp only
  by_cases c : m = n
  · rw [if_pos (by simpa using c)]
    exact wpS_pure (h m st b m1 mn u)
  · rw [if_neg (by simpa using c)]
    have g' := g.resolve_left c
    by_cases c2 : m > 1
    · rw [if_pos c2]
      refine wpS_bind (cmp C b (by omega) (by omega) ?_)
      cases q : less (kp key (arrOf st) 0) (kp key (arrOf st) (m - 1)) with
      | true =>
        simp only [if_true]
        exact wpS_pure (h m st b m1 mn u)
      | false =>
        simp only [Bool.false_eq_true, if_false]
        have hs : m ≤ (arrOf st).size := by rw [b.sz]; omega
        have al : ∀ k, 0 ≤ k → k < m → kp key (arrOf st) k = kp key (arrOf st) (m - 1) := fun k _ km => Le.anti (u k (m - 1) (by omega) (by omega)) ((less_f q).tr (u 0 k (by omega) km))
        have d : Dn key (arrOf st) m := fun i j ij hj => by rw [al i (by omega) (by omega), al j (by omega) hj]; exact Le.rfl' _
        exact wpS_bind (wpS_reverse (down_part C hn (by omega) (b.put (mirror_perm _ _ _ _)) ((d.more (.inr (Le.of_not g'))).eqv (kp_alike hs al)) h))
    · rw [if_neg c2]
      have e : m = 1 := by omega
      subst e
      exact down_part C hn (by omega) b (Dn.more (fun i j ij hj => by
        have : i = j := by omega
        subst this
        exact Le.rfl' _) (.inr (Le.of_not g'))) h
theorem kp_sink {xs : Array Keyed} {k d : Nat} (hk : k < xs.size) (hd : d ≤ k) (i : Nat) : kp key (bubble xs k d) i = if i = k - d then kp key xs k else if k - d < i ∧ i ≤ k then kp key xs (i - 1) else kp key xs i := by
  have e := getElem?_bubble hk d hd i
  split at e
  · rename_i c; rw [if_pos c]; exact kp_of e
  · rename_i c
    rw [if_neg c]
    split at e
    · rename_i c2; rw [if_pos c2]; exact kp_of e
    · rename_i c2; rw [if_neg c2]; exact kp_of e
/-- where the key of k belongs among the keys ahead of it -/
def Gap (key : Value → Int × Int) (xs : Array Keyed) (k l r : Nat) : Prop := l ≤ r ∧ r ≤ k ∧ (∀ i, i < l → Le (kp key xs i) (kp key xs k)) ∧ ∀ i, r ≤ i → i < k → ¬ Le (kp key xs i) (kp key xs k)
theorem Gap.sunk {xs : Array Keyed} {k l : Nat} (hk : k < xs.size) (u : Up key xs k) (g : Gap key xs k l l) : Up key (bubble xs k (k - l)) (k + 1) := by
  obtain ⟨_, lk, lo, hi⟩ := g
  intro i j ij hj
  rw [kp_sink hk (by omega), kp_sink hk (by omega), show k - (k - l) = l by omega]
  by_cases ci : i = l
  · rw [if_pos ci]
    by_cases cj : j = l
    · rw [if_pos cj]; exact Le.rfl' _
    · rw [if_neg cj, if_pos ⟨by omega, by omega⟩]
      exact Le.of_not (hi _ (by omega) (by omega))
  · rw [if_neg ci]
    by_cases ci2 : l < i ∧ i ≤ k
    · rw [if_pos ci2, if_neg (by omega), if_pos ⟨by omega, by omega⟩]
      exact u _ _ (by omega) (by omega)
    · rw [if_neg ci2]
      by_cases cj : j = l
      · rw [if_pos cj]; exact lo i (by omega)
      · rw [if_neg cj]
        by_cases cj2 : l < j ∧ j ≤ k
        · rw [if_pos cj2]; exact u _ _ (by omega) (by omega)
        · rw [if_neg cj2]; exact u _ _ ij (by omega)
theorem placed {st : SortSt} {n a : Nat} {Q : Bool → SortSt → Prop} (C : Can prog w A s key z) (hn : n ≤ z.size) (an : a ≤ n) (b : Bas z st) (u : Up key (arrOf st) a)
    (h : ∀ t, Bas z t → Up key (arrOf t) n → Q true t) : wpS (model prog w) A E s (binarySort' 0 n a) Q st := by
  rw [binarySort'_eq]
  simp only [Nat.zero_add]
  refine wpS_bind (wpS_mono (wpS_forRange (I := fun k c t => c = (none, ()) ∧ Bas z t ∧ Up key (arrOf t) (min k n)) (Q := fun c t => c = (none, ()) ∧ Bas z t ∧ Up key (arrOf t) n) ?turn ?out ?ini) ?aft)
  case aft =>
    rintro c t ⟨rfl, b', u'⟩
    exact wpS_pure (h t b' u')
  case ini =>
    refine ⟨rfl, b, fun i j ij hj => ?_⟩
    by_cases c : a = 0
    · have : i = j := by omega
      subst this
      exact Le.rfl' _
    · exact u i j ij (by omega)
  case out =>
    rintro c t ⟨e, b', u'⟩
    have q : min (max (max a 1) n) n = n := by omega
    rw [q] at u'
    exact ⟨e, b', u'⟩
  case turn =>
    rintro k c t ak kn ⟨rfl, b', u'⟩
    have q : min k n = k := by omega
    rw [q] at u'
    refine wpS_bind (wpS_mono (wpS_forRange (I := fun x c t' => t' = t ∧ ∃ l r, c = (none, l, r) ∧ Gap key (arrOf t) k l r ∧ r - l ≤ k - x) (Q := fun c t' => t' = t ∧ ∃ l, ∃ r : Nat, c = (none, l, r) ∧ Gap key (arrOf t) k l l) ?turn2 ?out2 ⟨rfl, 0, k, rfl, ⟨by omega, by omega, fun i hi => by omega, fun i h1 h2 => by omega⟩, by omega⟩) ?aft2)
    case out2 =>
      rintro c t' ⟨rfl, l, r, rfl, g, f⟩
      have e : r = l := by have := g.1; omega
      subst e
      exact ⟨rfl, r, r, rfl, g⟩
    case turn2 =>
      rintro x c t' _ xk ⟨rfl, l, r, rfl, g, f⟩
      dsimp only
      have g1 := g.1
      have g2 := g.2.1
      by_cases c : l ≥ r
      · rw [if_pos c]
        have e : r = l := by omega
        subst e
        exact wpS_pure ⟨rfl, r, r, rfl, g⟩
      · rw [if_neg c]
        refine wpS_bind (cmp C b' (by omega) (by omega) ?_)
        cases e : less (kp key (arrOf t') k) (kp key (arrOf t') ((l + r) / 2)) with
        | true =>
          simp only [if_true]
          refine wpS_pure ⟨rfl, l, (l + r) / 2, rfl, ⟨by omega, by omega, g.2.2.1, fun i h1 h2 h3 => ?_⟩, by omega⟩
          exact less_t e ((u' ((l + r) / 2) i h1 h2).tr h3)
        | false =>
          simp only [Bool.false_eq_true, if_false]
          refine wpS_pure ⟨rfl, (l + r) / 2 + 1, r, rfl, ⟨by omega, by omega, fun i hi => ?_, g.2.2.2⟩, by omega⟩
          exact (u' i ((l + r) / 2) (by omega) (by omega)).tr (less_f e)
    case aft2 =>
      rintro c t' ⟨rfl, l, r, rfl, g⟩
      show wpS _ _ _ _ (do moveDown' k l; pure (ForInStep.yield (none, ()))) _ _
      rw [moveDown'_eq]
      refine wpS_bind (wpS_modify (wpS_pure ⟨rfl, b'.put (bubble_perm _ _ _), ?_⟩))
      rw [show min (k + 1) n = k + 1 by omega]
      exact g.sunk (by rw [b'.sz]; omega) u'
/-- all is one run -/
def Fin1 (key : Value → Int × Int) (z : Array Keyed) (st : SortSt) : Prop := (arrOf st).Perm z ∧ failedOf st = none ∧ pendingOf st = #[(0, z.size, 0)] ∧ Up key (arrOf st) z.size
theorem Bas.fin {st : SortSt} (b : Bas z st) (u : Up key (arrOf st) z.size) : Fin1 key z (setPending st ((pendingOf st).push (0, z.size, 0))) := by
  refine ⟨b.pm, b.fl, ?_, u⟩
  show (pendingOf st).push _ = _
  rw [b.pd]
  rfl
theorem runs {st : SortSt} {Q : Unit → SortSt → Prop} (C : Can prog w A s key z) (b : Bas z st) (h2 : 2 ≤ z.size) (h64 : z.size < 64)
    (h : ∀ t, (arrOf t).Perm z → failedOf t = none → Up key (arrOf t) z.size → Q () t) : wpS (model prog w) A E s sortRuns' Q st := by
  rw [sortRuns'_eq]
  refine wpS_bind (wpS_get ?_)
  dsimp only
  have mr : minRun' z.size z.size 0 = z.size := by
    cases e : z.size with
    | zero => omega
    | succ f => rw [minRun'_succ, if_pos (by omega)]
  simp only [b.sz, mr]
  refine wpS_bind (wpS_mono (wpS_forRange (I := fun x c t => (x = 0 ∧ c = (none, 0) ∧ Bas z t) ∨ (1 ≤ x ∧ c = (none, z.size) ∧ Fin1 key z t)) (Q := fun c t => c = (none, z.size) ∧ Fin1 key z t) ?turn ?out (.inl ⟨rfl, rfl, b⟩)) ?aft)
  case out =>
    rintro c t (⟨x0, _, _⟩ | ⟨_, e, f⟩)
    · omega
    · exact ⟨e, f⟩
  case turn =>
    rintro x c t _ xn (⟨rfl, rfl, b'⟩ | ⟨x1, rfl, f⟩)
    · dsimp only
      rw [if_neg (by omega)]
      simp only [Nat.sub_zero, Nat.min_self, Nat.zero_add]
      refine wpS_bind (first_run C (Nat.le_refl _) (by omega) b' fun m t2 b2 m1 mn u2 => ?_)
      dsimp only
      have last : ∀ t3 : SortSt, Bas z t3 → Up key (arrOf t3) z.size → (pendingOf t3).back? = none ∧ Fin1 key z (setPending t3 ((pendingOf t3).push (0, z.size, 0))) := fun t3 b3 u3 => ⟨by rw [b3.pd]; rfl, b3.fin u3⟩
      by_cases c : m < z.size
      · rw [if_pos c]
        refine wpS_bind (wpS_lift (wpAny_rule ⟨rfl, ?_⟩))
        refine wpS_bind (placed C (Nat.le_refl _) mn b2 u2 fun t3 b3 u3 => ?_)
        simp only [Bool.not_true, Bool.false_eq_true, if_false]
        refine wpS_bind (wpS_get ?_)
        rw [(last t3 b3 u3).1]
        dsimp only
        exact wpS_bind (wpS_modify (wpS_pure (.inr ⟨by omega, rfl, (last t3 b3 u3).2⟩)))
      · rw [if_neg c]
        have e : m = z.size := by omega
        subst e
        refine wpS_bind (wpS_get ?_)
        rw [(last t2 b2 u2).1]
        dsimp only
        exact wpS_bind (wpS_modify (wpS_pure (.inr ⟨by omega, rfl, (last t2 b2 u2).2⟩)))
    · dsimp only
      rw [if_pos (Nat.le_refl _)]
      exact wpS_pure ⟨rfl, f⟩
  case aft =>
    rintro c t ⟨rfl, f⟩
    dsimp only
    refine wpS_bind (wpS_mono (wpS_forRange (I := fun _ c t' => t' = t ∧ c = (none, ())) (Q := fun c t' => t' = t ∧ c = (none, ())) ?_ (fun _ _ e => e) ⟨rfl, rfl⟩) ?_)
    · rintro x c t' _ _ ⟨rfl, rfl⟩
      refine wpS_bind (wpS_get ?_)
      rw [if_pos (by rw [f.2.2.1]; exact Nat.le_refl 1)]
      exact wpS_pure ⟨rfl, rfl⟩
    · rintro c t' ⟨rfl, rfl⟩
      exact wpS_pure (h _ f.1 f.2.1 f.2.2.2)
/-! list.sort and sorted -/
/-- values side by side with pairs -/
abbrev Prs (h : Heap) : List Value → List (Int × Int) → Prop := Paired (PairIn h)
theorem PairIn.inj {h : Heap} {v : Value} {p q : Int × Int} (a : PairIn h v p) (b : PairIn h v q) : p = q := by
  obtain ⟨x, t1, t2, rfl, o, h1, _, n, h3⟩ := a
  obtain ⟨y, u1, u2, e, o', g1, _, m, g3⟩ := b
  cases e
  rw [h1] at g1
  cases g1
  rw [h3] at g3
  injection g3 with g4 _
  have g5 := congrArg Array.toList g4
  injection g5 with g6 g7
  injection g7 with g8 _
  injection g6 with g9 _
  injection g8 with g10 _
  exact Prod.ext g9 g10
theorem PairIn.keep {h h' : Heap} {v : Value} {p : Int × Int} (a : PairIn h v p) (k : ∀ b o, o.cls = .type "tuple" → h.get? b = some o → h'.get? b = some o) : PairIn h' v p := by
  obtain ⟨x, t1, t2, e, o, h1, h2, r⟩ := a
  exact ⟨x, t1, t2, e, o, k x o h2 h1, h2, r⟩
theorem Prs.mem {h : Heap} : ∀ {vs : List Value} {ps : List (Int × Int)} {v : Value}, Prs h vs ps → v ∈ vs → ∃ p, PairIn h v p
  | _, _, _, .nil, m => by cases m
  | _, _, _, .cons a r, m => by
    rcases List.mem_cons.mp m with e | e
    · exact ⟨_, by rw [e]; exact a⟩
    · exact Prs.mem r e
end
end InkS

namespace Ink
open PySem PySem.Spec PyProof.Rows L2 InkX InkE InkF InkS
/-! ### sorted of a row, as a call -/
end Ink

namespace Ink
open PySem PySem.Spec PyProof.Rows L2 InkX InkE InkF InkS
/-! ### rows as sets of addresses -/
def In (r : Row) (x : Int) : Prop := ∃ p ∈ r, p.1 ≤ x ∧ x < p.2
def Ok (r : Row) : Prop := ∀ p ∈ r, p.1 ≤ p.2
theorem mem_run : ∀ {n : Nat} {s x : Int}, x ∈ run s n ↔ s ≤ x ∧ x < s + n
  | 0, s, x => by simp [run]
  | n + 1, s, x => by
    rw [run, List.mem_cons, mem_run]
    omega
theorem mem_span {p : Int × Int} {x : Int} : x ∈ span p ↔ p.1 ≤ x ∧ x < p.2 := by
  unfold span
  rw [mem_run]
  omega
theorem mem_spell {r : Row} {x : Int} : x ∈ spell r ↔ In r x := by
  unfold spell In
  rw [List.mem_flatMap]
  exact ⟨fun ⟨p, a, b⟩ => ⟨p, a, mem_span.mp b⟩, fun ⟨p, a, b⟩ => ⟨p, a, mem_span.mpr b⟩⟩
/-- rising, with gaps between -/
def Ris (r : Row) : Prop := r.Pairwise (fun p q => p.2 < q.1) ∧ ∀ p ∈ r, p.1 < p.2
theorem run_rise : ∀ (n : Nat) (s : Int), (run s n).Pairwise (· < ·)
  | 0, _ => .nil
  | n + 1, s => by
    rw [run, List.pairwise_cons]
    exact ⟨fun x hx => by have := mem_run.mp hx; omega, run_rise n (s + 1)⟩
theorem Ris.rise : ∀ {r : Row}, Ris r → (spell r).Pairwise (· < ·)
  | [], _ => .nil
  | p :: r, h => by
    have e : spell (p :: r) = span p ++ spell r := by unfold spell; rw [List.flatMap_cons]
    rw [e, List.pairwise_append]
    obtain ⟨h1, h2⟩ := List.pairwise_cons.mp h.1
    refine ⟨run_rise _ _, Ris.rise ⟨h2, fun q hq => h.2 q (List.mem_cons_of_mem _ hq)⟩, fun x hx y hy => ?_⟩
    obtain ⟨q, hq, a, b⟩ := mem_spell.mp hy
    have := (mem_span.mp hx).2
    have := h1 q hq
    omega
theorem Ris.ok {r : Row} (h : Ris r) : Ok r := fun p hp => Int.le_of_lt (h.2 p hp)
/-! spread -/
end Ink

namespace Ink
open PySem PySem.Spec PyProof.Rows L2 InkX InkE InkF InkS
/-! ### how many addresses two rows have -/
/-! ### a stretch without holes -/
def lo (b : Int) : Int → Row → Row
  | l, [] => [(l, b)]
  | l, p :: r => if p.1 < b then (l, if p.1 > l then p.1 else l) :: lo b (if b < p.2 then b else p.2) r else [(l, b)]
/-- the first hole that stops behind x -/
def Fst (holes : Row) (x : Int) (n : Nat) : Prop := n ≤ holes.length ∧ (∀ i p, holes[i]? = some p → i < n → p.2 ≤ x) ∧ ∀ i p, holes[i]? = some p → n ≤ i → x < p.2
theorem Fst.drop {holes : Row} {x : Int} {n : Nat} (h : Fst holes x n) : (∀ p ∈ holes.drop n, x < p.2) ∧ ∀ y, x ≤ y → (In holes y ↔ In (holes.drop n) y) := by
  refine ⟨fun p hp => ?_, fun y hy => ⟨fun z => ?_, fun z => ?_⟩⟩
  · obtain ⟨i, hi⟩ := List.getElem?_of_mem hp
    rw [List.getElem?_drop] at hi
    exact h.2.2 _ p hi (by omega)
  · obtain ⟨p, hp, a, b⟩ := z
    obtain ⟨i, hi⟩ := List.getElem?_of_mem hp
    by_cases c : i < n
    · have := h.2.1 i p hi c
      omega
    · refine ⟨p, List.mem_of_getElem? (i := i - n) ?_, a, b⟩
      rw [List.getElem?_drop, show n + (i - n) = i by omega]
      exact hi
  · obtain ⟨p, hp, q⟩ := z
    exact ⟨p, List.mem_of_mem_drop hp, q⟩
theorem Ris.drop {r : Row} (h : Ris r) (n : Nat) : Ris (r.drop n) := ⟨h.1.drop, fun p hp => h.2 p (List.mem_of_mem_drop hp)⟩
end Ink

namespace Ink
open PySem PySem.Spec PyProof.Rows L2 InkX InkE InkF InkP
/-! ### the program's classes -/
structure MetAt (K : PySem.W.Frag) (C : Addr) (m qual : Str) (st : Stmt) (ps : List Str) (a : Addr) (d : FuncData) : Prop where
  F : Fun K m qual st a d
  b : Binds K d ps []
  mt : Meth K C m a
structure ClsAt (K : PySem.W.Frag) (mg : Str → Option Value) (x : Str) (C fi : Addr) : Prop where
  cl : Cls K C
  m : mg x = some (.ref C)
  mak : Mk K C fi
theorem RowAt.obj {H H' : Hp} {r x C d : Addr} {row : Row} {fs : List (Str × V)} (h : RowAt H r row) (hx : H x = some (.ins C d fs)) (s : Keep x H H') : RowAt H' r row := by
  obtain ⟨as, h1, h2⟩ := h
  exact ⟨as, s _ _ h1 (ne_of h1 hx (by intro z; cases z)), h2.tups fun a ys e => s a _ e (ne_of e hx (by intro z; cases z))⟩
structure ExcN (K : PySem.W.Frag) (mg : Str → Option Value) (x : Str) (C : Addr) : Prop where
  m : mg x = some (.ref C)
  x : PySem.W.excIn K C [.type "ValueError", .type "Exception", .type "BaseException", .type "object"] "ValueError.__new__" = true
  h : PySem.W.exmOne K (.ref C) (.ref C) = some true
end Ink

namespace InkX
open PySem PySem.Spec PyProof.Rows L2
/-! ### a dict that is walked: its record is known while it is so -/
section
variable {X : Cx} {pins : List (Addr × Obj)} {σ : L2.St} {H : Hp} {s : Shared} {a : Addr} {o : Obj} {kvs : List (Key × V)}
end
section
variable {X : Cx} {tg : Expr}
end
/-! ### sorted of ints -/
/-! ### d.values(), and its sum -/
section
variable {X : Cx} {N : List Str} {scope : Scope} {cl : List (Str × Addr)} {C : Addr} {s₀ : Shared} {H₀ : Hp} {ex : List Addr} {pn : List (Addr × Obj)} {e : Expr} {ta : TE} {f : Str} {pos : Pos}
end
end InkX

namespace InkX
open PySem PySem.Spec PyProof.Rows L2 Ink InkF
/-! ### a list walked with its places -/
/-! ### d.setdefault(k, x) -/
/-! ### tuples that are equal, asked by != -/
end InkX

namespace InkX
open PySem PySem.Spec PyProof.Rows L2
/-! ### tuples of ints, asked by <= -/
section
open PySem.SeqAt
open PySem.AutoSeq1 (wpAny_loadPart')
open PySem.MeetsSeq PySem.MeetsSeq2 PySem.MeetsSeq3
end
end InkX

namespace InkX
open PySem PySem.Spec PyProof.Rows L2 Ink InkF
/-! ### a tuple of ints that is in a list of such -/
end InkX

namespace InkE
open PySem PySem.Spec PyProof.Rows PySem.W L2
/-! ### a method that may raise, called where its exception is met -/
section
variable {X : Cx} {o : Expr} {m : Str} {ps : List Str} {f C : Addr} {fd : FuncData} {k : Nat} {sp : Sp} {e : Expr} {es : List Expr} {ta : TE} {t : TA} {apos pos : Pos} {E : XK} {pl : Sem Bool}
theorem meth_met {pins : List (Addr × Obj)} {σ : L2.St} {H : Hp} {s : Shared} {Q : VK} {E' : Value → Shared → Prop} (ho : PE X.nox o ta) (c : Cls X.K C) (hm : Meth X.K C m f) (hb : Binds X.K fd ps []) (G : FnOk X.prog X.w X.K X.mg X.base (CX1 X.prog X.w) k f fd ps sp) (hr : Room k X.A) (ha : PA X.nox (e :: es) t) (I : Inv X pins σ H s)
    (h : ta σ H fun x H1 => ∃ a dx fs, x = .ref a ∧ H1 a = some (.ins C dx fs) ∧ fs.lookup m = none ∧ t σ H1 fun vs H2 => sp (x :: vs) H2 Q E) (hE : ∀ H1 s1 e s', Inv X pins σ H1 s1 → CX1 X.prog X.w X.stack H1 s1 E e s' → E' e s')
    (he : starEach (e :: es) X.env = (false, eval e X.env) :: starEach es X.env) (hpl : (backTo pos (starEach es X.env)).any (·.1) = false)
    (ht : eval (.Call (.Attribute o m apos) (e :: es) [] pos) X.env = (do
      let ov ← eval o X.env
      standAt apos.atName
      let (f, first) ← holding [ov] (getMethod ov m pl)
      callWith pos f first (backTo pos (starEach (e :: es) X.env)) (backToKw pos (keywordEach [] X.env)))) : wpAny (model X.prog X.w) X.A (eval (.Call (.Attribute o m apos) (e :: es) [] pos) X.env) (EP X pins σ Q) E' s := by
  refine PySem.W.methodCall_KW (pl := pl) (wpAny_mono (ho pins s σ H _ (I.wish _) h) (fun u s1 ⟨x, H1, I1, rx, a, dx, fs, ex, ea, l, q⟩ => ?_) fun _ _ z => False.elim z) ht
  subst ex
  obtain rfl : u = Value.ref a := rx
  have I1 := I1.unwish
  refine getmeth_ok I1 ea c hm l ?_
  refine PySem.W.callWith_K (first := [.ref a]) (h₀ := X.base) I.ok.mod.kin hm.kp (wpAny_mono (ha pos pins s1 σ H1 _ (I1.wish _) q) (fun us s2 ⟨vs, H2, I2, r, q2⟩ => ⟨I2.unwish.kIn, ?_⟩) fun _ _ z => False.elim z) he hpl
  have I2 := I2.unwish
  have r2 : Vals (.ref a :: vs) (Value.ref a :: us) := .cons rfl r
  have hl : ((Value.ref a :: us) ++ []).length = ps.length := by rw [List.append_nil, ← r2.length]; exact G.len _ _ _ _ q2
  have B := hb s2 (.ref a :: us) I2.kIn hl
  rw [List.append_nil] at B
  refine wpAny_call (codeAny_mono (G.run X.A X.stack s2 H2 ⟨.ref a :: us, []⟩ (.ref a :: us) (.ref a :: vs) Q E hr I2.env0 B r2 q2) fun r s' hq => ?_)
  cases r with
  | error e => exact hE H2 s2 e s' I2 hq
  | ok fl =>
    cases fl with
    | ret u => exact I2.after hq
    | next => exact False.elim hq
    | brk => exact False.elim hq
    | cont => exact False.elim hq
end
section
variable {X : Cx} {pins : List (Addr × Obj)} {σ : L2.St} {H : Hp} {s : Shared} {a : Addr}
variable {o : Expr} {m y y2 : Str} {ps : List Str} {f B : Addr} {fd : FuncData} {k : Nat} {sp : Sp} {e : Expr} {es : List Expr} {ta : TE} {t : TA} {apos pos pos1 pos2 pos3 np hpos nq hqos : Pos} {C C1 C2 Cy Cz : Addr} {b0 c0 : Stmt} {suite suite2 : List Stmt} {tb tc : TS} {pl : Sem Bool}
end
end InkE

namespace InkX
open PySem PySem.Spec PyProof.Rows L2 InkE
/-! ### texts and their signs -/
def txt (cs : List Nat) : Str := ⟨cs.toArray⟩
theorem txt_of (x : Str) : txt x.cps.toList = x := by cases x; rfl
theorem txt_len (cs : List Nat) : (txt cs).length = cs.length := by show (cs.toArray).size = _; simp
theorem txt_inj {a b : List Nat} (h : txt a = txt b) : a = b := by
  have e := congrArg (fun x : Str => x.cps.toList) h
  simpa [txt] using e
section
variable {X : Cx}
end
/-! ### a text walked -/
end InkX

namespace InkX
open PySem PySem.Spec PyProof.Rows L2 InkE Ink
/-! ### texts put together; a list turned about -/
section
variable {X : Cx}
theorem txt_app (a b : List Nat) : txt a ++ txt b = txt (a ++ b) := by
  show (⟨a.toArray ++ b.toArray⟩ : Str) = ⟨(a ++ b).toArray⟩
  simp
end
end InkX

namespace InkZ
open PySem
/-! ### the table of a set: places rise -/
theorem below_go {xs : Array Nat} (hr : xs.toList.Pairwise (· < ·)) (j : Nat) : ∀ (fuel lo hi : Nat), lo ≤ hi → hi ≤ xs.size → hi - lo ≤ fuel →
    (∀ a ∈ xs.toList.take lo, a < j) → (∀ a ∈ xs.toList.drop hi, j ≤ a) →
    (∀ a ∈ xs.toList.take (SetTable.below.go xs j fuel lo hi), a < j) ∧ (∀ a ∈ xs.toList.drop (SetTable.below.go xs j fuel lo hi), j ≤ a) := by
  intro fuel
  induction fuel with
  | zero =>
    intro lo hi h1 h2 h3 h4 h5
    obtain rfl : lo = hi := by omega
    exact ⟨h4, h5⟩
  | succ fuel ih =>
    intro lo hi h1 h2 h3 h4 h5
    unfold SetTable.below.go
    by_cases hlt : lo < hi
    · rw [if_pos hlt]
      dsimp only
      have hm : (lo + hi) / 2 < xs.size := by omega
      have hg : xs.getD ((lo + hi) / 2) j = xs.toList[(lo + hi) / 2]'(by simpa using hm) := by simp [Array.getD, hm]
      have hm' : (lo + hi) / 2 < xs.toList.length := by simpa using hm
      by_cases hc : xs.getD ((lo + hi) / 2) j < j
      · rw [if_pos hc]
        refine ih _ _ (by omega) h2 (by omega) (fun a ha => ?_) h5
        rw [List.take_succ_eq_append_getElem hm', List.mem_append] at ha
        rcases ha with ha | ha
        · obtain ⟨i, hi', rfl⟩ := List.mem_iff_getElem.mp ha
          rw [List.length_take] at hi'
          rw [List.getElem_take]
          have := List.pairwise_iff_getElem.mp hr i ((lo + hi) / 2) (by omega) hm' (by omega)
          rw [hg] at hc; omega
        · rw [List.mem_singleton] at ha; subst ha; rw [hg] at hc; exact hc
      · rw [if_neg hc]
        refine ih _ _ (by omega) (by omega) (by omega) h4 (fun a ha => ?_)
        obtain ⟨i, hi', rfl⟩ := List.mem_iff_getElem.mp ha
        rw [List.length_drop] at hi'
        rw [List.getElem_drop]
        rw [hg] at hc
        rcases Nat.eq_zero_or_pos i with rfl | hp
        · simp only [Nat.add_zero]; omega
        · have := List.pairwise_iff_getElem.mp hr ((lo + hi) / 2) ((lo + hi) / 2 + i) hm' (by omega) (by omega)
          omega
    · rw [if_neg hlt]
      obtain rfl : lo = hi := by omega
      exact ⟨h4, h5⟩
theorem below_ok {xs : Array Nat} (hr : xs.toList.Pairwise (· < ·)) (j : Nat) :
    (∀ a ∈ xs.toList.take (SetTable.below xs j), a < j) ∧ (∀ a ∈ xs.toList.drop (SetTable.below xs j), j ≤ a) :=
  below_go hr j xs.size 0 xs.size (Nat.zero_le _) (Nat.le_refl _) (Nat.le_refl _) (fun a ha => by simp at ha) (fun a ha => by rw [List.drop_of_length_le (by simp)] at ha; simp at ha)
theorem rise_put {xs : Array Nat} (hr : xs.toList.Pairwise (· < ·)) {j : Nat} (hj : xs[SetTable.below xs j]? ≠ some j) :
    (SetTable.insertAt xs (SetTable.below xs j) j).toList.Pairwise (· < ·) := by
  obtain ⟨h1, h2⟩ := below_ok hr j
  rw [SetTable.toList_insertAt]
  generalize SetTable.below xs j = p at h1 h2 hj
  have h3 : ∀ a ∈ xs.toList.drop p, j < a := by
    intro a ha
    have hp : p < xs.toList.length := by
      rcases Nat.lt_or_ge p xs.toList.length with h | h
      · exact h
      · rw [List.drop_of_length_le h] at ha; simp at ha
    rw [List.drop_eq_getElem_cons hp] at ha h2
    have hd := h2 _ List.mem_cons_self
    have hne : xs.toList[p] ≠ j := fun e => hj (by
      rw [← Array.getElem?_toList, List.getElem?_eq_getElem hp, e])
    rcases List.mem_cons.mp ha with rfl | ha
    · omega
    · obtain ⟨i, hi', rfl⟩ := List.mem_iff_getElem.mp ha
      rw [List.length_drop] at hi'
      rw [List.getElem_drop]
      have := List.pairwise_iff_getElem.mp hr p (p + 1 + i) hp (by omega) (by omega)
      omega
  rw [List.pairwise_append]
  refine ⟨hr.sublist (List.take_sublist _ _), List.pairwise_cons.mpr ⟨h3, hr.sublist (List.drop_sublist _ _)⟩, fun a ha b hb => ?_⟩
  have := h1 a ha
  rcases List.mem_cons.mp hb with rfl | hb
  · exact this
  · exact Nat.lt_trans this (h3 b hb)
theorem probe_go {t : SetTable} (hd : t.dummies = #[]) (f : Nat → Int) (h : Int) : ∀ (fuel : Nat) (p : SetTable.Probe), p.dummy = none → ∀ j d,
    SetTable.probe.go t f h fuel p = some (.empty j d) → d = none ∧ t.slot j = .empty := by
  intro fuel
  induction fuel with
  | zero => intro p _ j d e; cases e
  | succ fuel ih =>
    intro p hp j d e
    unfold SetTable.probe.go at e
    have adv : ∀ q : SetTable.Probe, (t.advance q).dummy = q.dummy := fun q => by
      unfold SetTable.advance; split <;> rfl
    split at e
    · rename_i hs; cases e; exact ⟨hp, hs⟩
    · rename_i hs
      exfalso
      unfold SetTable.slot at hs
      dsimp only at hs
      split at hs
      · cases hs
      · rw [hd] at hs; simp [SetTable.has] at hs
    · rename_i i hs
      split at e
      · cases e
      · exact ih _ (by rw [adv]; exact hp) j d e
structure TOk (led : Bool) (t : SetTable) : Prop where
  dum : t.dummies = #[]
  led : t.led = led
  rise : t.plain = true → t.place.toList.Pairwise (· < ·)
theorem TOk.stand {led : Bool} {t : SetTable} (T : TOk led t) (n : Nat) : TOk led (t.standIn n) := ⟨rfl, T.led, fun e => by cases e⟩
theorem TOk.off {led : Bool} {t : SetTable} (T : TOk led t) : TOk led { t with plain := false } := ⟨T.dum, T.led, fun e => by cases e⟩
theorem TOk.lay {led : Bool} {t : SetTable} (T : TOk led t) (es : Array (Int × Value)) (h : Int) (x : Value) : TOk led (layNew t es h x).2.1 := by
  unfold layNew
  split
  · rename_i slot was hs
    dsimp only
    unfold SetTable.freeSlot at hs
    split at hs
    · rename_i j d hp
      obtain ⟨rfl, hj⟩ := probe_go T.dum _ h _ _ rfl j d hp
      cases hs
      have hj' : t.place[SetTable.below t.place j]? ≠ some j := by
        intro e
        unfold SetTable.slot at hj
        dsimp only at hj
        rw [e] at hj
        simp at hj
      have hT : TOk led (t.put j).1 := by
        unfold SetTable.put
        refine ⟨?_, T.led, fun e => rise_put (T.rise e) hj'⟩
        dsimp only
        rw [T.dum]; simp [SetTable.has]
      show TOk led (SetTable.orStandIn _ _)
      unfold SetTable.orStandIn
      split
      · exact hT
      · exact hT.stand _
    · cases hs
  · exact T.stand _
end InkZ

namespace InkZ
open PySem PySem.Spec PyProof.Rows
section
variable {prog : Program} {w : World} {A : Around} {E : Value → Shared → Prop} {s : Shared}
def SZ (prog : Program) (w : World) (led : Bool) (h : Heap) (a : Addr) (ms : List Int) : Prop :=
  ∃ (o : Obj) (es : Array (Int × Value)) (ep : Nat) (t : SetTable) (ns : List Int), h.get? a = some o ∧ o.ExactSet ∧ o.data = .set es ep t ∧ ElemsOf (intKind prog w) es.toList ∧
    t.fits es.size = true ∧ TOk led t ∧ IntsAre (es.toList.map (·.2)) ns ∧ ns.Perm ms
theorem SZ.len {led : Bool} {h : Heap} {a : Addr} {ms : List Int} (Z : SZ prog w led h a ms) : ∃ (o : Obj) (es : Array (Int × Value)) (ep : Nat) (t : SetTable), h.get? a = some o ∧ o.data = .set es ep t ∧ es.size = ms.length := by
  obtain ⟨o, es, ep, t, ns, h1, _, h3, _, _, _, h7, h8⟩ := Z
  refine ⟨o, es, ep, t, h1, h3, ?_⟩
  have := h7.length
  rw [List.length_map, Array.length_toList] at this
  rw [this, h8.length_eq]
end
end InkZ

namespace InkZ
open PySem PySem.Spec PyProof.Rows
section
variable {prog : Program} {w : World} {A : Around} {E : Value → Shared → Prop} {s : Shared}
def freshSet (led : Bool) : Obj := { cls := .type "set", dict := none, data := .set #[] 0 (.fresh 0 0 led) }
theorem SZ.fresh {led : Bool} {h : Heap} {a : Addr} (e : h.get? a = some (freshSet led)) : SZ prog w led h a [] :=
  ⟨_, #[], 0, _, [], e, ⟨rfl, rfl, rfl⟩, rfl, fun _ hm => by simp at hm, rfl, ⟨rfl, rfl, fun _ => List.Pairwise.nil⟩, .nil, .rfl⟩
theorem SZ.at {led : Bool} {h h' : Heap} {a : Addr} {ms : List Int} (Z : SZ prog w led h a ms) (k : ∀ o, h.get? a = some o → h'.get? a = some o) : SZ prog w led h' a ms := by
  obtain ⟨o, es, ep, t, ns, h1, r⟩ := Z
  exact ⟨o, es, ep, t, ns, k _ h1, r⟩
def Dist (ms ns : List Int) : Prop := ms.Nodup ∧ ∀ n, n ∈ ms ↔ n ∈ ns
theorem Dist.add {ms ns : List Int} (D : Dist ms ns) (n : Int) : Dist (if n ∈ ms then ms else ms ++ [n]) (ns ++ [n]) := by
  by_cases h : n ∈ ms
  · rw [if_pos h]
    refine ⟨D.1, fun k => ?_⟩
    rw [List.mem_append, List.mem_singleton, D.2 k]
    exact ⟨.inl, fun x => x.elim id fun e => e ▸ (D.2 n).mp h⟩
  · rw [if_neg h]
    refine ⟨List.nodup_append.mpr ⟨D.1, by simp, fun a ha b hb e => ?_⟩, fun k => ?_⟩
    · rw [List.mem_singleton] at hb; subst hb; subst e; exact h ha
    · rw [List.mem_append, List.mem_append, D.2 k]
end
end InkZ

namespace InkZ
open PySem PySem.Spec PyProof.Rows
/-! ### a set walked -/
theorem si_next : Slot "set_iterator" "__next__" "set_iterator.__next__" := .of (owner := "set_iterator") (n := "__next__")
  (by rw [typeLookup_type, builtinLookup_eq_fast]; kernel_rfl) (by decide +kernel) (by decide +kernel) (by decide +kernel) (by first | exact .inl (by decide +kernel) | exact .inr (by decide +kernel))
  (by rw [isSubtype_type]; kernel_rfl)
theorem si_iter : Slot "set_iterator" "__iter__" "set_iterator.__iter__" := .of (owner := "set_iterator") (n := "__iter__")
  (by rw [typeLookup_type, builtinLookup_eq_fast]; kernel_rfl) (by decide +kernel) (by decide +kernel) (by decide +kernel) (by first | exact .inl (by decide +kernel) | exact .inr (by decide +kernel))
  (by rw [isSubtype_type]; kernel_rfl)
theorem en_next : entryFor table "set_iterator.__next__" = some Builtin.«set_iterator.__next__» := entryFor_of_tree (by kernel_rfl)
theorem en_self : entryFor table "set_iterator.__iter__" = some Builtin.«dict_keyiterator.__iter__» :=
  entryFor_alias (id' := "dict_keyiterator.__iter__") (by kernel_rfl) rfl (by decide +kernel) (by kernel_rfl)
theorem ar_next (a : Value) : argsOk "set_iterator.__next__" ⟨[a], []⟩ := by unfold argsOk; kernel_rfl
theorem ar_self (a : Value) : argsOk "set_iterator.__iter__" ⟨[a], []⟩ := by unfold argsOk; kernel_rfl
end InkZ

namespace InkZ
open PySem PySem.Spec PyProof.Rows
section
variable {prog : Program} {w : World} {A : Around} {E : Value → Shared → Prop} {s : Shared}
def IsSI (h : Heap) (it : Addr) (first : Value) (i : Nat) (S : Addr) (n ep : Nat) : Prop :=
  ∃ o, h.get? it = some o ∧ o.cls = .type "set_iterator" ∧ o.data = .fields #[first, .int i 0, .ref S, .int n 0, .int ep 0]
theorem IsSI.ty {it S : Addr} {f : Value} {i n ep : Nat} (x : IsSI s.heap it f i S n ep) : s.TypeIs (.ref it) "set_iterator" := let ⟨o, a, b, _⟩ := x; ⟨o, a, b⟩
theorem IsSI.at {h h' : Heap} {it S : Addr} {f : Value} {i n ep : Nat} (x : IsSI h it f i S n ep) (e : ∀ o, h.get? it = some o → h'.get? it = some o) : IsSI h' it f i S n ep := let ⟨o, a, r⟩ := x; ⟨o, e _ a, r⟩
end
end InkZ

namespace InkZ
open PySem PySem.Spec PyProof.Rows
section
variable {prog : Program} {w : World} {A : Around} {E : Value → Shared → Prop} {s : Shared}
theorem stop_here {α : Type} {Q : α → Shared → Prop} (hh : A.handled = none) (q : ∀ (o1 o2 : Obj), o2.cls = .type "StopIteration" → o2.isFreed = false → E (.ref (s.heap.push o1).objs.size) { s with heap := (s.heap.push o1).push o2 }) :
    wpAny (model prog w) A (newExc (.type "StopIteration") [] >>= raiseNew) Q E s := by
  refine wpAny_bind ?_
  simp only [newExc, newTuple]
  refine wpAny_bind (wpAny_newObj_type ?_ (by size_fits)); refine wpAny_bind (m := firstArgMember _ _) (wpAny_of_eq (a := Value.none) (by first | rfl | (simp only [firstArgMember]; rfl)) ?_)
  refine wpAny_newObj_type ?_ (by size_fits); simp only [raiseNew]
  refine wpAny_bind (wpAny_handled ?_); rw [hh]
  exact wpAny_bind (wpAny_pure (wpAny_throw (q _ _ rfl rfl)))
theorem si_self {it S : Addr} {f : Value} {i n ep : Nat} {Q : Value → Shared → Prop} (x : IsSI s.heap it f i S n ep) (h : Q (.ref it) s) : wpAny (model prog w) A (pyIter (.ref it)) Q E s := by
  refine wpAny_pyIter_slot x.ty si_iter (wpAny_call_entry si_iter x.ty en_self ?_ (ar_self _)); show wpAny _ _ (ret (.ref it)) _ _ s
  exact wpAny_pure ⟨_, rfl, "set_iterator", _, x.ty, si_next.lookup, h⟩
/-! the drawn road: the places lie in a tuple -/
theorem sd_step {it S T : Addr} {o ot : Obj} {es : Array (Int × Value)} {t : SetTable} {i ep nT j : Nat} {tj : Tok} {ps : Array Value} {v : Int × Value} {Q : Option Value → Shared → Prop}
    (x : IsSI s.heap it (.ref T) i S es.size ep) (ho : s.heap.get? S = some o) (hd : o.data = .set es ep t) (hf : t.fits es.size = true) (hT : s.heap.get? T = some ot) (dT : ot.data = .seq ps nT)
    (hp : ps[i]? = some (.int j tj)) (hv : es[j]? = some v)
    (q : ∀ h', IsSI h' it (.ref T) (i + 1) S es.size ep → Heap.SameBut it s.heap h' → Q (some v.2) { s with heap := h' }) : wpAny (model prog w) A (pyNext (.ref it)) Q E s := by
  obtain ⟨oi, h1, h2, h3⟩ := id x
  unfold pyNext
  refine wpAny_bind (wpAny_attempt (wpAny_callSpecial?_slot (name := Str.ofString "__next__") x.ty si_next (wpAny_call_entry si_next x.ty en_next ?_ (ar_next _))))
  show wpAny _ _ (slotArgs "__next__" 0 ⟨[.ref it], []⟩ >>= _) _ _ s
  refine wpAny_bind (wpAny_pure ?_)
  refine wpAny_bind (wpAny_fieldsOf h1 h3 ?_)
  show wpAny _ _ (setEntries S >>= _) _ _ s
  refine wpAny_bind (wpAny_setEntries_of ho hd hf ?_)
  rw [if_neg (by simp)]
  show wpAny _ _ (seqItems? (.ref T) >>= _) _ _ s
  refine wpAny_bind (wpAny_seqItems hT dT ?_)
  simp only [Int.toNat_natCast, hp]
  refine wpAny_bind ?_
  unfold setNextDrawn
  refine wpAny_bind (wpAny_setState_of ho hd hf ?_)
  dsimp only
  rw [if_neg (by simp)]
  obtain ⟨v1, v2⟩ := v
  rw [hv]
  refine wpAny_pure ?_
  refine wpAny_bind (wpAny_setField h1 h3 (by simp) ?_)
  have g1 := Heap.get?_update_self (Obj.mapFields (·.setIfInBounds 1 (rawInt ((i : Int) + 1)))) h1 (Obj.isFreed_of_fields (Obj.data_mapFields h3 _))
  refine wpAny_pure ⟨_, rfl, wpAny_pure (q _ ⟨_, g1, (Obj.cls_mapFields ..).trans h2, ?_⟩ (Heap.SameBut.update ..))⟩
  rw [Obj.data_mapFields h3]; simp [rawInt]
theorem sd_end {it S T : Addr} {o ot : Obj} {es : Array (Int × Value)} {t : SetTable} {i ep nT : Nat} {ps : Array Value} {Q : Option Value → Shared → Prop} (hh : A.handled = none)
    (x : IsSI s.heap it (.ref T) i S es.size ep) (ho : s.heap.get? S = some o) (hd : o.data = .set es ep t) (hf : t.fits es.size = true) (hT : s.heap.get? T = some ot) (dT : ot.data = .seq ps nT) (hp : ps[i]? = none)
    (q : ∀ h', Heap.ExtBut it s.heap h' → Q none { s with heap := h' }) : wpAny (model prog w) A (pyNext (.ref it)) Q E s := by
  obtain ⟨oi, h1, h2, h3⟩ := id x
  unfold pyNext
  refine wpAny_bind (wpAny_attempt (wpAny_callSpecial?_slot (name := Str.ofString "__next__") x.ty si_next (wpAny_call_entry si_next x.ty en_next ?_ (ar_next _))))
  show wpAny _ _ (slotArgs "__next__" 0 ⟨[.ref it], []⟩ >>= _) _ _ s
  refine wpAny_bind (wpAny_pure ?_)
  refine wpAny_bind (wpAny_fieldsOf h1 h3 ?_)
  show wpAny _ _ (setEntries S >>= _) _ _ s
  refine wpAny_bind (wpAny_setEntries_of ho hd hf ?_)
  rw [if_neg (by simp)]
  show wpAny _ _ (seqItems? (.ref T) >>= _) _ _ s
  refine wpAny_bind (wpAny_seqItems hT dT ?_)
  simp only [Int.toNat_natCast, hp]
  refine wpAny_bind (wpAny_setField h1 h3 (by simp) ?_)
  have g1 := Heap.get?_update_self (Obj.mapFields (·.setIfInBounds 0 (rawInt 0))) h1 (Obj.isFreed_of_fields (Obj.data_mapFields h3 _))
  refine wpAny_bind (wpAny_setField g1 (Obj.data_mapFields h3 _) (by simp) ?_)
  refine stop_here hh fun o1 o2 c2 f2 => ?_
  refine wpAny_bind (wpAny_isInstance (T := "StopIteration") (b := true) ⟨_, Heap.get?_push_size _ f2, c2⟩ isSubtype_stop ?_)
  exact wpAny_pure (q _ ((((Heap.SameBut.update ..).trans (Heap.SameBut.update ..)).extBut.push _).push _))
theorem Walks.drawn {it S T : Addr} {o ot : Obj} {es : Array (Int × Value)} {t : SetTable} {ep nT : Nat} {js : List Nat} (hh : A.handled = none) (hn : S ≠ it) (hm : T ≠ it) (hd : o.data = .set es ep t) (hf : t.fits es.size = true)
    (dT : ot.data = .seq (js.map fun j : Nat => rawInt j).toArray nT) (hj : js.Perm (List.range es.size)) :
    Walks prog w A it [it, S, T] [it] es.size (fun i v => ∃ j e, js[i]? = some j ∧ es[j]? = some e ∧ v = e.2) (fun i h => IsSI h it (.ref T) i S es.size ep ∧ h.get? S = some o ∧ h.get? T = some ot) where
  sub := fun b hb => by simp at hb; simp [hb]
  frame := fun _ _ _ st k => ⟨st.1.at fun o e => k it (by simp) o e, k S (by simp) _ st.2.1, k T (by simp) _ st.2.2⟩
  item := fun i s Q E hi st q => by
    have hl : js.length = es.size := by rw [hj.length_eq, List.length_range]
    have ej : js[i]? = some (js[i]'(by omega)) := by simp [hl, hi]
    have lt : js[i]'(by omega) < es.size := List.mem_range.mp (hj.mem_iff.mp (List.getElem_mem _))
    refine sd_step (j := js[i]'(by omega)) (tj := 0) (v := es[js[i]'(by omega)]) st.1 st.2.1 hd hf st.2.2 dT (by rw [List.getElem?_toArray, List.getElem?_map, ej]; rfl) (by simp [lt]) fun h' x sb => ?_
    exact q _ h' s.toks ⟨_, _, ej, by simp [lt], rfl⟩ ⟨x, sb.extBut S _ hn st.2.1, sb.extBut T _ hm st.2.2⟩ fun b o hb e => sb.extBut b o (fun h => hb (by simp [h])) e
  done := fun s Q E st q => sd_end hh st.1 st.2.1 hd hf st.2.2 dT (by rw [List.getElem?_toArray, List.getElem?_map, List.getElem?_eq_none (by rw [hj.length_eq, List.length_range]; exact Nat.le_refl _)]; rfl)
    fun h' x => q h' s.toks fun b o hb e => x b o (fun h => hb (by simp [h])) e
  self := fun _ _ _ _ st q => si_self st.1 q
end
end InkZ

namespace InkZ
open PySem PySem.Spec PyProof.Rows
section
variable {prog : Program} {w : World} {A : Around} {E : Value → Shared → Prop} {s : Shared}
end
end InkZ

namespace InkZ
open PySem PySem.Spec PyProof.Rows L2
section
variable {prog : Program} {w : World} {A : Around} {E : Value → Shared → Prop} {s : Shared}
end
theorem vals_ints : ∀ {us : List Value} {ms : List Int}, IntsAre us ms → Vals (ms.map V.int) us
  | _, _, .nil => .nil
  | _, _, .cons _ t h => .cons ⟨t, rfl⟩ (vals_ints h)
end InkZ

namespace InkY
open PySem PySem.Spec PyProof.Rows L2 InkX PySem.Builtin PySem.Builtin.Str
/-! ### texts as lists of signs -/
theorem txt_cps (cs : List Nat) : (txt cs).cps.toList = cs := by simp [txt]
/-! join and split -/
def jn (c : Nat) : List (List Nat) → List Nat
  | [] => []
  | [x] => x
  | x :: y :: r => x ++ c :: jn c (y :: r)
theorem jn_txt (c : Nat) : ∀ ps : List (List Nat), Str.join ⟨#[c]⟩ (ps.map txt) = txt (jn c ps)
  | [] => rfl
  | [x] => rfl
  | x :: y :: r => by
    show txt x ++ ⟨#[c]⟩ ++ Str.join ⟨#[c]⟩ ((y :: r).map txt) = _
    rw [jn_txt c (y :: r)]
    refine ext_toList ?_
    rw [txt_cps]
    show ((txt x).cps ++ #[c] ++ (txt (jn c (y :: r))).cps).toList = _
    rw [Array.toList_append, Array.toList_append, txt_cps, txt_cps]
    simp [jn]
end InkY

namespace InkY
open PySem PySem.Spec PyProof.Rows L2 InkX PySem.Builtin PySem.Builtin.Str
section
variable {X : Cx}
theorem strs_vals : ∀ {ys : List Str} {us : List Value}, Vals (ys.map V.str) us → StrsAre us ys
  | [], _, .nil => .nil
  | _ :: _, _, .cons r t => by
    obtain ⟨t', rfl⟩ := r
    exact .cons _ t' (strs_vals t)
theorem mt_joinT : MtM X "str.join" (fun x xs H Q => ∃ (l : Addr) (c : Nat) (ps : List (List Nat)), x = .str ⟨#[c]⟩ ∧ xs = [.ref l] ∧ H l = some (.lst (ps.map fun w => V.str (txt w))) ∧ (ps.map List.length).sum + ps.length ≤ 1000000 ∧ Q (.str (txt (jn c ps))) H) := by
  intro pins s σ H x xs v us Q I rx rs h
  obtain ⟨l, c, ps, rfl, rfl, hl, hz, q⟩ := h
  obtain ⟨t, rfl⟩ := rx
  obtain ⟨u, rfl, ru⟩ := rs.one
  cases (show u = Value.ref l from ru)
  obtain ⟨its, rv, pl, _⟩ := I.list (SqL.of (K := X.K) hl)
  have rv' : Vals ((ps.map txt).map V.str) its := by rw [List.map_map]; exact rv
  refine join_list pl.isList (strs_vals rv') ?_ fun t' k => ?_
  · rw [List.map_map, List.length_map]
    have e1 : (⟨#[c]⟩ : Str).length = 1 := rfl
    have e2 : ps.map ((fun x : Str => x.length) ∘ txt) = ps.map List.length := List.map_congr_left fun p _ => txt_len p
    rw [e1, e2]
    omega
  · have e : Txt.join ⟨#[c]⟩ (ps.map txt) = txt (jn c ps) := by
      show glued _ _ = _
      rw [StrLaws.glued_eq_join, jn_txt]
    rw [e]
    exact ⟨.str (txt (jn c ps)), H, I.tok _, ⟨t', rfl⟩, q⟩
/-! a text with fields, told exactly -/
abbrev TJV := L2.St → Hp → Str → (Str → Hp → Prop) → Prop
def PJV (X : Cx) (es : List Expr) (m : Nat) (t : TJV) : Prop := ∀ (pins : List (Addr × Obj)) (s : Shared) (σ : L2.St) (H : Hp) (out : Str) (Q : Str → Hp → Prop), L2.Inv X pins σ H s → t σ H out Q → out.length + m ≤ 1000000 →
  wpAny (model X.prog X.w) X.A (joinParts out (evalEach es X.env)) (fun u s' => ∃ x tk H', u = .str x tk ∧ L2.Inv X pins σ H' s' ∧ Q x H') X.xe s
theorem pjv_nil : PJV X [] 0 (fun _ H out Q => Q out H) := fun pins s σ H out Q I h hl =>
  joinParts_nil ⟨out, _, H, rfl, I.tok _, h⟩ (Nat.le_of_lt (Nat.lt_of_le_of_lt hl (by decide)))
theorem pjv_str {x : Str} {j : Nat} {pos : Pos} {es : List Expr} {m : Nat} {t : TJV} (h : PJV X es m t) : PJV X (.Constant (.str x) j pos :: es) (x.length + m) (fun σ H out Q => t σ H (out ++ x) Q) := by
  intro pins s σ H out Q I q hl
  refine joinParts_consE (joinParts_cons (Calls.Constant_str ?_))
  have z := InkE.fit_out (y := x) hl (Nat.le_refl _)
  exact ⟨z.1, h pins _ σ H _ Q (I.tok _) q z.2⟩
theorem pjv_int {e : Expr} {te : TE} {pos : Pos} {es : List Expr} {m : Nat} {t : TJV} (he : PE X e te) (h : PJV X es m t) : PJV X (.FormattedValue e (-1) none pos :: es) (1921 + m) (fun σ H out Q => te σ H fun v H1 => ∃ i : Int, v = .int i ∧ i.natAbs.log2 < 1920 ∧ t σ H1 (out ++ Str.ofString (toString i)) Q) := by
  intro pins s σ H out Q I q hl
  refine joinParts_consE (joinParts_cons (FormattedValue_plain (thn (he pins s σ H _ I q) fun v s1 ⟨x, H1, I1, r1, i, e1, hi, q1⟩ => ?_)))
  subst e1
  obtain ⟨tk, rfl⟩ := r1
  refine formatField_int_small hi ?_
  have z := InkE.fit_out (y := Str.ofString (toString i)) hl (int_text_len_1921 hi)
  exact ⟨z.1, h pins _ σ H1 _ Q (I1.tok _) q1 z.2⟩
theorem pe_fstrV {v1 v2 : Expr} {rest : List Expr} {pos : Pos} {m : Nat} {t : TJV} (h : PJV X (v1 :: v2 :: rest) m t) (hm : m ≤ 1000000 := by decide +kernel) : PE X (.JoinedStr (v1 :: v2 :: rest) pos) (fun σ H Q => t σ H Str.empty fun x H1 => Q (.str x) H1) := by
  intro pins s σ H Q I q
  refine JoinedStr_many (thn (h pins s σ H Str.empty _ I q (by show 0 + m ≤ _; omega)) fun u s1 ⟨x, tk, H1, e, I1, q1⟩ => ?_)
  subst e
  exact ⟨.str x, H1, I1, ⟨_, rfl⟩, q1⟩
end
end InkY
namespace InkY
open PySem PySem.Spec PyProof.Rows L2 InkX PySem.Builtin PySem.Builtin.Str
/-! slices of a text -/
end InkY

namespace InkY
open PySem PySem.Spec PyProof.Rows L2 InkX PySem.Builtin PySem.Builtin.Str Ink
/-! ### numbers written -/
def dg (n : Int) : List Nat := (Nat.toDigits 10 n.toNat).map Char.toNat
theorem num_txt {n : Int} (h : 0 ≤ n) : Str.ofString (toString n) = txt (dg n) := by
  refine ext_toList ?_
  rw [txt_cps]
  obtain ⟨m, rfl⟩ : ∃ m : Nat, n = (m : Int) := ⟨n.toNat, by omega⟩
  exact PySem.W.KIN.signs_num m
theorem dg_len {n : Int} (h0 : 0 ≤ n) (h1 : n < 10 ^ 60) : (dg n).length ≤ 60 := by
  have := toString_length_le h0 (k := 60) (by decide) h1
  rw [num_txt h0, txt_len] at this
  exact this
end InkY

namespace InkV
open PySem PySem.Spec PyProof.Rows PySem.W L2 InkX InkE
/-! ### an exception that leaves a comprehension -/
section
variable {P : Program} {w : World} {H H' : Hp} {h h0 g : Heap} {a T : Addr} {C a0 fl : Value}
end
section
variable {P : Program} {w : World} {K : PySem.W.Frag} {mg : Str → Option Value} {base : Heap} {N : List Str} {qual : Str} {scope : Scope} {f : Addr} {cd : Value} {A : Around} {outer : List Env} {s : Shared} {H : Hp} {E : XK}
end
section
variable {M : Model} {A : Around} {E : Value → Shared → Prop} {s : Shared} {env : Env}
end
section
variable {prog : Program} {w : World} {A : Around} {R : Result → Shared → Prop} {s : Shared}
end
section
variable {X : Cx} {N : List Str} {scope : Scope} {cl : List (Str × Addr)} {jx : List (Option Nat)} {E : XK}
end
end InkV

namespace InkV
open PySem PySem.Spec PyProof.Rows PySem.W L2 InkX InkE
section
variable {X : Cx} {N : List Str} {scope : Scope} {cl : List (Str × Addr)} {jx : List (Option Nat)} {E : XK}
end
end InkV

namespace InkY
open PySem PySem.Spec PyProof.Rows L2 InkX PySem.Builtin PySem.Builtin.Str Ink
/-! ### signs counted and found; a text again and again; None in a list -/
section
variable {X : Cx}
end
end InkY

namespace InkV
open PySem PySem.Spec PyProof.Rows PySem.W L2 InkX InkE
end InkV

namespace InkU
open PySem PySem.Spec PyProof.Rows L2 InkX InkE Ink
/-! ### name, *words = a list -/
section
variable {X : Cx}
end
end InkU

namespace InkU
open PySem PySem.Spec PyProof.Rows L2 InkX InkE Ink PySem.W PyProof.Rows.KTD
section
variable {X : Cx}
/-! ### a written table of the program, kept at the top -/
def TabK (K : PySem.W.Frag) (a : Addr) (D : List (Str × Int)) : Prop := tabLook (datLooks fun b => List.lookup b K) (fun b => List.lookup b K) a (D.map fun p => (p.1, Dat.flat (.int p.2))) = true
theorem TabK.here {pins : List (Addr × Obj)} {σ : L2.St} {H : Hp} {s : Shared} {a : Addr} {D : List (Str × Int)} (T : TabK X.K a D) (I : Inv X pins σ H s) : Here X.base s.heap a (D.map fun p => (p.1, Dat.flat (.int p.2))) :=
  ⟨text_of_look (fun a o h => I.ok.mod.kin a o h) T, I.bk⟩
/-! ### texts in a list, counted and found -/
/-! ### a text of one field -/
theorem pe_f1 {e : Expr} {te : TE} {pos pos' : Pos} (he : PE X e te) : PE X (.JoinedStr [.FormattedValue e (-1) none pos] pos') (fun σ H Q => te σ H fun v H1 => (∃ i : Int, v = .int i ∧ i.natAbs.log2 < 1920 ∧ Q (.str (Str.ofString (toString i))) H1) ∨ ∃ cs : List Nat, v = .str (txt cs) ∧ cs.length ≤ 100000 ∧ Q (.str (txt cs)) H1) := by
  intro pins s σ H Q I q
  refine JoinedStr_one (FormattedValue_plain (thn (he pins s σ H _ I q) fun v s1 ⟨x, H1, I1, r1, h1⟩ => ?_))
  rcases h1 with ⟨i, rfl, hi, q1⟩ | ⟨cs, rfl, hc, q1⟩
  · obtain ⟨tk, rfl⟩ := r1
    exact formatField_int_small hi ⟨.str _, H1, I1.tok _, ⟨_, rfl⟩, q1⟩
  · obtain ⟨tk, rfl⟩ := r1
    exact formatField_str (fun t' k => ⟨.str _, H1, I1.tok _, ⟨_, rfl⟩, q1⟩) (by rw [txt_len]; exact Nat.le_trans hc (by decide))
end
end InkU

namespace InkU
open PySem PySem.Spec PyProof.Rows L2 InkX InkE Ink InkY PySem.Builtin PySem.Builtin.Str
/-! ### texts put together without a sign between -/
end InkU

namespace InkU
open PySem PySem.Spec PyProof.Rows L2 InkX PySem.Builtin PySem.Builtin.Str Ink
section
variable {X : Cx}
/-! ### where a sign first stands -/
/-! ### a display of texts and numbers -/
abbrev TI := (Str × Nat × Pos) × (Int × Nat × Pos)
/-! ### twelve written texts -/
end
end InkU

namespace InkE
open PySem PySem.Spec PyProof.Rows PySem.W L2
/-! ### try, with any number of clauses; what may raise stands in an expression -/
structure Hd where
  y : Str
  C : Addr
  b0 : Stmt
  bs : List Stmt
  np : Pos
  hp : Pos
  t : TS
abbrev Hd.st (h : Hd) : ExceptHandler := .ExceptHandler (some (.Name h.y h.np)) none (h.b0 :: h.bs) h.hp
structure Hd.Ok (X : Cx) (h : Hd) : Prop where
  m : X.mg h.y = some (.ref h.C)
  g : Gl X h.y
  d : (h.y == ("__debug__" : Str)) = false
  b : ∀ a, PSs (cxH X a) (h.b0 :: h.bs) h.t
/-- the first clause that fits takes it -/
def takes (K : PySem.W.Frag) (c : Value) : List Hd → Ends → L2.St → Hp → Prop
  | [], _, _, _ => False
  | h :: r, D, σ, H => (exmOne K c (.ref h.C) = some true ∧ h.t D σ H) ∨ (exmOne K c (.ref h.C) = some false ∧ takes K c r D σ H)
section
variable {X : Cx} {pins : List (Addr × Obj)} {σ : L2.St} {H : Hp} {s : Shared} {a : Addr}
theorem clauses {hs : List Hd} {D : Ends} {e : Value} {s' : Shared} (hst : X.stack = X.env :: X.outer) (hf : X.env.frame = some X.env.locals) (ok : ∀ h ∈ hs, h.Ok X) (I : Inv X pins σ H s) (h : CX1 X.prog X.w X.stack H s (fun c _ H2 => takes X.K c hs D σ H2) e s') :
    wpAny (model X.prog X.w) X.A (noteFrame e X.env) (fun _ s₂ => wpAny (model X.prog X.w) X.A (setFlight e none) (fun _ s₃ => wpAny (model X.prog X.w) X.A (handleBy e X.env (hs.map Hd.st)) (SP X pins D) X.xe s₃) X.xe s₂) X.xe s' := by
  obtain ⟨a, T, c, a0, H2, rfl, ⟨os, bare⟩, u, hok, F, q⟩ := h
  have I1 : Inv X pins σ H2 s' := I.call' (ch := []) os u hok bare (fun b z => absurd z (by simp))
  have G0 := fly_ground F I1.stack
  have G0' : Heap.FlyingW (hideAll s'.heap (a :: T :: frs X.stack)) (X.env :: X.outer) a c a0 s'.heap := by
    have z := G0
    rw [hst] at z
    rw [hst]
    exact z
  refine wpAny_looks_onW (I.ok.frames.trans (by rw [hst])) hf G0' fun h4 held k4 => wpAny_landsW held fun h5 fl5 k5 => ?_
  have I5 : Inv X pins σ H2 { s' with heap := h5 } := fly_here I os bare u hok F fl5 (k4.trans k5)
  obtain ⟨ob, hob, hcl⟩ := fl5.there
  have LT : Looks (model X.prog X.w) h5 (typeOf (.ref a)) c := hcl ▸ (Looks.ld hob).andThen .now
  clear G0 G0'
  induction hs with
  | nil => exact False.elim q
  | cons h r ih =>
    have o := ok h List.mem_cons_self
    refine wpAny_handleBy_cons (codeAny_handlers_test (ld_glob (X := cxH X a) (inH I5 a) o.g o.m ?_ o.d)) (by intro z; cases z)
    rcases q with ⟨hx, q⟩ | ⟨hn, q⟩
    · refine (exm_one (M := model X.prog X.w) I5.kIn LT hx).here ?_
      refine codeAny_handlers_suite (lands_againW fl5 fun h6 fl6 k6 => ?_)
      have I6 : Inv X pins σ H2 { s' with heap := h6 } := fly_here I os bare u hok F fl6 ((k4.trans k5).trans k6)
      exact wpAny_mono (o.b a pins _ σ H2 D (inH I6 a) q) (fun fl s2 z => spH I6.ok z) fun _ _ z => False.elim z
    · refine (exm_one (M := model X.prog X.w) I5.kIn LT hn).here ?_
      exact ih (fun g hg => ok g (List.mem_cons_of_mem _ hg)) q
/-! ### expressions that may raise -/
abbrev TEx := L2.St → Hp → VK → XK → Prop
def PEx (X : Cx) (e : Expr) (t : TEx) : Prop := ∀ (pins : List (Addr × Obj)) (s : Shared) (σ : L2.St) (H : Hp) (Q : VK) (E : XK), Inv X pins σ H s → t σ H Q E →
  wpAny (model X.prog X.w) X.A (eval e X.env) (EP X pins σ Q) (fun e s' => ∃ H1 s1, Inv X pins σ H1 s1 ∧ CX1 X.prog X.w X.stack H1 s1 E e s') s
variable {x m : Str} {st : Stmt} {ps : List Str} {f C : Addr} {fd : FuncData} {j k : Nat} {sp : Sp} {e o : Expr} {es : List Expr} {ta : TE} {t : TA} {p apos pos : Pos} {pl : Sem Bool}
def tMethX (C : Addr) (m : Str) (sp : Sp) (ta : TE) (t : TA) : TEx := fun σ H Q E => ta σ H fun x H1 => ∃ a dx fs, x = .ref a ∧ H1 a = some (.ins C dx fs) ∧ fs.lookup m = none ∧ t σ H1 fun vs H2 => sp (x :: vs) H2 Q E
theorem px_meth (ho : PE X.nox o ta) (c : Cls X.K C) (hm : Meth X.K C m f) (hb : Binds X.K fd ps []) (G : FnOk X.prog X.w X.K X.mg X.base (CX1 X.prog X.w) k f fd ps sp) (hr : Room k X.A) (ha : PA X.nox (e :: es) t)
    (he : starEach (e :: es) X.env = (false, eval e X.env) :: starEach es X.env := by rfl) (hpl : (backTo pos (starEach es X.env)).any (·.1) = false := by rfl)
    (ht : eval (.Call (.Attribute o m apos) (e :: es) [] pos) X.env = (do
      let ov ← eval o X.env
      standAt apos.atName
      let (f, first) ← holding [ov] (getMethod ov m pl)
      callWith pos f first (backTo pos (starEach (e :: es) X.env)) (backToKw pos (keywordEach [] X.env))) := by rfl) : PEx X (.Call (.Attribute o m apos) (e :: es) [] pos) (tMethX C m sp ta t) := fun pins s σ H Q E I q =>
  meth_met (pl := pl) ho c hm hb G hr ha I q (fun H1 s1 e s' I1 z => ⟨H1, s1, I1, z⟩) he hpl ht
theorem px_meth0 (ho : PE X.nox o ta) (c : Cls X.K C) (hm : Meth X.K C m f) (hb : Binds X.K fd ps []) (G : FnOk X.prog X.w X.K X.mg X.base (CX1 X.prog X.w) k f fd ps sp) (hr : Room k X.A)
    (ht : eval (.Call (.Attribute o m apos) [] [] pos) X.env = (do
      let ov ← eval o X.env
      standAt apos.atName
      let (f, first) ← holding [ov] (getMethod ov m pl)
      callWith pos f first (backTo pos (starEach [] X.env)) (backToKw pos (keywordEach [] X.env))) := by rfl) : PEx X (.Call (.Attribute o m apos) [] [] pos) (tMethX C m sp ta tNil) := by
  intro pins s σ H Q E I h
  refine PySem.W.methodCall_KW (pl := pl) (wpAny_mono (ho pins s σ H _ (I.wish _) h) (fun u s1 ⟨x, H1, I1, rx, a, dx, fs, ex, ea, l, q⟩ => ?_) fun _ _ z => False.elim z) ht
  subst ex
  obtain rfl : u = Value.ref a := rx
  have I1 := I1.unwish
  refine getmeth_ok I1 ea c hm l ?_
  refine PySem.W.callWith_K0 I1.kIn hm.kp ?_
  have r2 : Vals [.ref a] [Value.ref a] := .cons rfl .nil
  have hl : ([Value.ref a] ++ []).length = ps.length := by rw [List.append_nil, ← r2.length]; exact G.len _ _ _ _ q
  have B := hb s1 [.ref a] I1.kIn hl
  rw [List.append_nil] at B
  refine wpAny_call (codeAny_mono (G.run X.A X.stack s1 H1 ⟨[.ref a], []⟩ [.ref a] [.ref a] Q E hr I1.env0 B r2 q) fun r s' hq => ?_)
  cases r with
  | error e => exact ⟨H1, s1, I1, hq⟩
  | ok fl =>
    cases fl with
    | ret u => exact I1.after hq
    | next => exact False.elim hq
    | brk => exact False.elim hq
    | cont => exact False.elim hq
/-! ### one statement that may raise -/
abbrev TSx := Ends → L2.St → Hp → XK → Prop
abbrev XP (X : Cx) (pins : List (Addr × Obj)) (σ : L2.St) (E : XK) : Value → Shared → Prop := fun e s' => ∃ H1 s1, Inv X pins σ H1 s1 ∧ CX1 X.prog X.w X.stack H1 s1 E e s'
def PSx (X : Cx) (st : Stmt) (t : TSx) : Prop := ∀ (pins : List (Addr × Obj)) (s : Shared) (σ : L2.St) (H : Hp) (D : Ends) (E : XK), Inv X pins σ H s → t D σ H E → wpAny (model X.prog X.w) X.A (exec st X.env) (SP X pins D) (XP X pins σ E) s
variable {te : TEx} {i : Nat} {z : Str} {pos' : Pos} {c : Expr} {tc : TT} {tx ty : TSx} {a b : Stmt} {hs : List Hd}
def tSetX (i : Nat) (te : TEx) : TSx := fun D σ H E => te σ H (fun v H1 => D.nx (σ.set i (some v)) H1) E
theorem psx_set (hN : X.N.Nodup) (hi : X.N[i]? = some z) (hz : Loc X.env.scope z) (he : PEx X e te) (hs : swapsWith e (some (.Name z pos')) pos.line X.env = pure false := by rfl) (hf : X.fn z = true ∨ X.env.scope.names.lookup z = some .local := by first | exact .inl rfl | exact .inr rfl | assumption) :
    PSx X (.Assign [.Name z pos'] e pos) (tSetX i te) := by
  intro pins s σ H D E I h
  refine wpAny_Assign_Name (thn (he pins s σ H _ E I h) fun v s1 ⟨y, H1, I1, r1, q1⟩ => ?_) hs
  exact store_ok I1 hN hi hz r1 (fun s2 I2 => ⟨_, H1, I2, q1⟩) hf
def tIfX (tc : TT) (tx ty : TSx) : TSx := fun D σ H E => tc σ H fun b H1 => if b = true then tx D σ H1 E else ty D σ H1 E
theorem psx_if (hc : PT X.nox c tc) (ha : PSx X a tx) (hb : PSx X b ty) : PSx X (.If c [a] [b] pos) (tIfX tc tx ty) := by
  intro pins s σ H D E I h
  refine wpAny_If (wpAny_mono (hc pins s σ H _ (I.wish _) h) (fun d s1 ⟨H1, I1, q1⟩ => ?_) fun _ _ z => False.elim z)
  have I1 := I1.unwish
  cases d with
  | true => exact wpAny_execs_cons (thn (ha pins s1 σ H1 D E I1 q1) fun f s2 z => by cases f <;> first | exact wpAny_execs_nil z | exact z)
  | false => exact wpAny_execs_cons (thn (hb pins s1 σ H1 D E I1 q1) fun f s2 z => by cases f <;> first | exact wpAny_execs_nil z | exact z)
def tTryX (K : PySem.W.Frag) (tx : TSx) (hs : List Hd) : TS := fun D σ H => tx D σ H (fun c _ H2 => takes K c hs D σ H2)
theorem ps_tryX {h0 : Hd} (ha : PSx X a tx) (ok : ∀ h ∈ h0 :: hs, h.Ok X) (hst : X.stack = X.env :: X.outer := by rfl) (hf : X.env.frame = some X.env.locals := by rfl) :
    PS X (.Try [a] (h0.st :: hs.map Hd.st) [] [] pos) (tTryX X.K tx (h0 :: hs)) := by
  intro pins s σ H D I h
  refine wpAny_Try_except (wpAny_execs_cons (wpAny_mono (ha pins s σ H D _ I h) (fun f s1 z => ?_) fun e s' ⟨H1, s1, I1, z⟩ => ?_))
  · cases f with
    | next => exact wpAny_execs_nil (wpAny_execs_nil z)
    | brk => exact z
    | cont => exact z
    | ret u => exact z
  · exact clauses hst hf ok I1 z
def PHs (X : Cx) (hl : List ExceptHandler) (hs : List Hd) : Prop := hl = hs.map Hd.st ∧ ∀ h ∈ hs, h.Ok X
theorem phs_nil : PHs X [] [] := ⟨rfl, fun _ z => by cases z⟩
theorem phs_cons {y : Str} {Cy : Addr} {b0 : Stmt} {bs : List Stmt} {np hp : Pos} {tb : TS} {hl : List ExceptHandler} (hm : X.mg y = some (.ref Cy)) (hb : ∀ a, PSs (cxH X a) (b0 :: bs) tb) (r : PHs X hl hs) (g : Gl X y := by rfl) (d : (y == ("__debug__" : Str)) = false := by decide) :
    PHs X (.ExceptHandler (some (.Name y np)) none (b0 :: bs) hp :: hl) (⟨y, Cy, b0, bs, np, hp, tb⟩ :: hs) := by
  refine ⟨by rw [r.1]; rfl, fun h m => ?_⟩
  rcases List.mem_cons.mp m with z | z
  · rw [z]; exact ⟨hm, g, d, hb⟩
  · exact r.2 h z
theorem ps_tryP {h0 : ExceptHandler} {hl : List ExceptHandler} (ha : PSx X a tx) (r : PHs X (h0 :: hl) hs) (hst : X.stack = X.env :: X.outer := by rfl) (hf : X.env.frame = some X.env.locals := by rfl) : PS X (.Try [a] (h0 :: hl) [] [] pos) (tTryX X.K tx hs) := by
  cases hs with
  | nil => cases r.1
  | cons g gs =>
    have e := r.1
    rw [List.map_cons] at e
    rw [e]
    exact ps_tryX ha r.2 hst hf
/-! ### a def by another of its names -/
theorem pe_defA {y : Str} (d : Ink.DefAt X.K X.mg x st ps f fd) (hm : X.mg y = some (.ref f)) (G : FnOk X.prog X.w X.K X.mg X.base CX0 k f fd ps sp) (hr : Room j X.A)
    (ha : PA X (e :: es) t) (hjk : k ≤ j := by first | decide | omega) (hg : Gl X y := by rfl) (hdb : (y == ("__debug__" : Str)) = false := by decide) (he : starEach (e :: es) X.env = (false, eval e X.env) :: starEach es X.env := by rfl)
    (hpl : (backTo pos (starEach es X.env)).any (·.1) = false := by rfl) : PE X (.Call (.Name y p) (e :: es) [] pos) (tCall sp [] E0 t) :=
  pe_call G (hr.mono hjk) hg hm d.F.kp d.b .nil pass0 ha hdb he hpl
end
end InkE

set_option Elab.async false
set_option linter.all false
set_option maxRecDepth 100000
namespace Ink
open PySem L2 InkX InkE InkF InkP
def top (i : Nat) : Stmt := PySem.Challenge.pw_inkroot_k46_forty_sheets.main.body.getD i (.Pass ⟨0, 0, 0, 0⟩)
def clsBody : Stmt → List Stmt
  | .ClassDef (body := b) .. => b
  | _ => []
def mtop (i j : Nat) : Stmt := (clsBody (top i)).getD j (.Pass ⟨0, 0, 0, 0⟩)
structure Nms (mg : Str → Option Value) : Prop where
  n_len : mg "len" = none
  n_list : mg "list" = none
  n_tuple : mg "tuple" = none
  n_int : mg "int" = none
  n_bool : mg "bool" = none
  n_str : mg "str" = none
  n_range : mg "range" = none
  n_zip : mg "zip" = none
  n_isinstance : mg "isinstance" = none
  n_sum : mg "sum" = none
section
variable {P : Program} {w : World} {K : PySem.W.Frag} {mg : Str → Option Value} {base : Heap}

abbrev s_law_src : Stmt := top 64
theorem sc_law_src : FnScope ["_law_script"] ["_law_script"] (defScope s_law_src) := ⟨rfl, rfl, rfl, by decide +kernel, rfl, by decide +kernel, by decide +kernel⟩
theorem ok_law_src {f : Addr} {fd : FuncData} (F : Fun K "_law_src" "_law_src" s_law_src f fd) (T : Nms mg) : FnOk P w K mg base CX0 1 f fd ["_law_script"] (spSrc K) := by
  refine F.ok sc_law_src (fun vs H Q E h => ?_) (fun cdv A outer s H vs Q E hr h => ?_)
  · obtain ⟨a, ns, rfl, _⟩ := h
    rfl
  obtain ⟨a, ns, rfl, hS, k⟩ := h
  refine ⟨_, (pss_one (ps_ret (pe_lst (pa_cons (pe_callTy call_list_of rfl T.n_list PyProof.Rows.boot_list (pa_cons (pe_slice sl_list (pv 0) po_none (po_some pe_int)) pa_nil)) (pa_cons pe_int (pa_cons pe_int (pa_cons pe_int pa_nil))))))), ?_⟩
  refine ⟨_, rfl, _, rfl, a, _, rfl, hS, fun p hp => ?_⟩
  refine ⟨p, _, rfl, .inl (SqL.of upd_same), fun c hc => ?_⟩
  refine ⟨(by show 4 ≤ sizeLine; decide), fun l hl => ?_⟩
  obtain ⟨ms, em⟩ := cut_ints ns none (some 63)
  have ncl : c ≠ l := ne_of_none (H := upd (upd H p _) c _) upd_same hl
  have s1 : Same H (upd H p (.lst (cutV (ns.map V.int) none (some 63)))) := same_new hp _
  have s2 := s1.trans (same_new hc (.lst (cutV (ns.map V.int) none (some 63))))
  refine k l c _ ⟨ncl, ms, 0, 0, 1, upd_same, ?_, by decide, by decide, by decide⟩ (s2.trans (same_new hl _)) (s2.free hl) (s1.free hc)
  rw [upd_ne ncl, upd_same, em]

abbrev s_law_next : Stmt := top 65
theorem sc_law_next : FnScope ["_law_src_here", "_law_base", "_law_cell", "_law_digit"] ["_law_src_here", "_law_base"] (defScope s_law_next) := ⟨rfl, rfl, rfl, by decide +kernel, rfl, by decide +kernel, by decide +kernel⟩
theorem ok_law_next {f : Addr} {fd : FuncData} (F : Fun K "_law_next" "_law_next" s_law_next f fd) (T : Nms mg) : FnOk P w K mg base CX0 1 f fd ["_law_src_here", "_law_base"] spNext := by
  refine F.ok sc_law_next (fun vs H Q E h => ?_) (fun cdv A outer s H vs Q E hr h => ?_)
  · obtain ⟨l, c, b, rfl, _⟩ := h
    rfl
  obtain ⟨l, c, b, rfl, S, hb0, hb1, k⟩ := h
  refine ⟨_, (pss_cons (ps_imp (t' := nextT1) (ps_if (pt_cmpR op_le (pe_ix ix_list (pv 0) pe_int (fun _ _ => rfl)) pe_int (nomark _))
      (pss_cons (ps_set (i := 2) sc_law_next.nd rfl (Or.inl rfl) pe_int)
      (pss_cons (ps_imp (t' := nextT2) (ps_if (pt_cmpR op_lt (pe_ix ix_list (pv 0) pe_int (fun _ _ => rfl)) (pe_callB call_len_seq rfl T.n_len PySem.boot_len (pa_cons (pe_ix ix_list (pv 0) pe_int (fun _ _ => rfl)) pa_nil)) (nomark _))
      (pss_cons (ps_set (i := 2) sc_law_next.nd rfl (Or.inl rfl) (pe_ix ix_list (pe_ix ix_list (pv 0) pe_int (fun _ _ => rfl)) (pe_ix ix_list (pv 0) pe_int (fun _ _ => rfl)) (fun _ _ => rfl)))
      (pss_one (ps_asg (pe_op op_add (pe_ix ix_list (pv 0) pe_int (fun _ _ => rfl)) pe_int) (pg_sub (pv 0) pe_int set_list))))
      pss_nil) ?b2)
      (pss_cons (ps_asg (pe_op op_mod (pe_op op_add (pe_op op_add (pe_op op_mul (pe_ix ix_list (pv 0) pe_int (fun _ _ => rfl)) pe_int) (pe_op op_mod (pv 2) pe_int)) pe_int) pe_int) (pg_sub (pv 0) pe_int set_list))
      (pss_one (ps_if (pt_cmpR op_ge (pv 2) (pe_op op_pow pe_int pe_int) (nomark _))
      (pss_one (ps_asg (pv 2) (pg_sub (pv 0) pe_int set_list)))
      pss_nil)))))
      pss_nil) ?b1)
      (pss_cons (ps_if (pt_cmpR op_gt (pe_ix ix_list (pv 0) pe_int (fun _ _ => rfl)) pe_int (nomark _))
      (pss_cons (ps_set (i := 3) sc_law_next.nd rfl (Or.inl rfl) (pe_op op_mod (pe_ix ix_list (pv 0) pe_int (fun _ _ => rfl)) (pv 1)))
      (pss_cons (ps_asg (pe_op op_fdivB (pe_ix ix_list (pv 0) pe_int (fun _ _ => rfl)) (pv 1)) (pg_sub (pv 0) pe_int set_list))
      (pss_one (ps_ret (pv 3)))))
      pss_nil)
      (pss_one (ps_ret (pe_op op_mod (pe_op op_fdivB (pe_op op_mod (pe_op op_mul (pe_ix ix_list (pv 0) pe_int (fun _ _ => rfl)) pe_int) pe_int) pe_int) (pv 1)))))), ?_⟩
  case b2 =>
    rintro D σ H ⟨l, c, b, rfl, ⟨ncl, ns, i, d, r, hl, hc, hi, hr0, hr1⟩, k⟩
    refine ⟨_, rfl, l, _, _, _, rfl, rfl, SqL.of hl, at41, _, rfl, l, _, _, _, rfl, rfl, SqL.of hl, at40, c, _, rfl, .inl (SqL.of hc), _, _, rfl, rfl, _, rfl, ?_⟩
    refine ite2 (fun c2 => ?_) (fun c2 => ?_)
    · have c3 : i < (ns.length : Int) := by
        have z := of_decide_eq_true c2
        rwa [List.length_map] at z
      obtain ⟨v, hv⟩ := at_ints hi c3
      refine ⟨_, rfl, l, _, _, _, rfl, rfl, SqL.of hl, at40, _, rfl, l, _, _, _, rfl, rfl, SqL.of hl, at41, c, _, _, _, rfl, rfl, SqL.of hc, hv, ?_⟩
      refine ⟨_, rfl, l, _, _, _, rfl, rfl, SqL.of hl, at41, _, _, rfl, rfl, _, rfl, l, _, _, 1, rfl, rfl, hl, rfl, ?_⟩
      exact k v _ ⟨ncl, ns, i + 1, d, r, upd_same, by rw [upd_ne ncl]; exact hc, by omega, hr0, hr1⟩ fun a ha => upd_ne ha
    · exact k 7 H ⟨ncl, ns, i, d, r, hl, hc, hi, hr0, hr1⟩ fun a _ => rfl
  case b1 =>
    rintro D σ H ⟨l, c, b, rfl, S, k⟩
    obtain ⟨ncl, ns, i, d, r, hl, hc, hi, hr0, hr1⟩ := id S
    refine ⟨_, rfl, l, _, _, _, rfl, rfl, SqL.of hl, at42, _, _, rfl, rfl, _, rfl, ?_⟩
    refine ite2 (fun c1 => ?_) (fun c1 => ?_)
    · refine ⟨l, c, b, rfl, S, fun cell H1 S1 k1 => ?_⟩
      obtain ⟨_, ns1, i1, d1, r1, hl1, hc1, hi1, hr2, hr3⟩ := id S1
      refine ⟨_, rfl, l, _, _, _, rfl, rfl, SqL.of hl1, at43, _, _, rfl, rfl, .inl ⟨by omega, by omega⟩, _, rfl, _, _, rfl, rfl, (by show (0 : Int) < 998244353; decide), _, _, rfl, rfl, _, _, rfl, rfl, _, _, rfl, rfl, (by show (0 : Int) < 2147483647; decide), _, rfl, l, _, _, 3, rfl, rfl, hl1, rfl, ?_⟩
      refine ⟨_, rfl, _, _, rfl, rfl, ⟨by decide, by decide, by decide⟩, _, _, rfl, rfl, _, rfl, ?_⟩
      have b0 : 0 ≤ (r1 * 48271 + cell % 998244353 + 1) % 2147483647 := Int.emod_nonneg _ (by decide)
      have b1 : (r1 * 48271 + cell % 998244353 + 1) % 2147483647 < 2147483647 := Int.emod_lt_of_pos _ (by decide)
      refine ite2 (fun c2 => ?_) (fun c2 => ?_)
      · refine ⟨_, rfl, _, rfl, l, _, _, 2, rfl, rfl, upd_same, rfl, ?_⟩
        refine k _ _ ⟨ncl, ns1, i1, cell, _, upd_same, ?_, hi1, b0, b1⟩ fun a ha => ?_
        · rw [upd_ne ncl, upd_ne ncl]; exact hc1
        · rw [upd_ne ha, upd_ne ha]; exact k1 a ha
      · refine k _ _ ⟨ncl, ns1, i1, d1, _, upd_same, ?_, hi1, b0, b1⟩ fun a ha => ?_
        · rw [upd_ne ncl]; exact hc1
        · rw [upd_ne ha]; exact k1 a ha
    · exact k none H S fun a _ => rfl
  refine ⟨l, c, b, rfl, S, fun cell H1 S1 k1 => ?_⟩
  obtain ⟨ncl, ns, i, d, r, hl, hc, hi, hr0, hr1⟩ := S1
  refine ⟨_, rfl, l, _, _, _, rfl, rfl, SqL.of hl, at42, _, _, rfl, rfl, _, rfl, ?_⟩
  refine ite2 (fun c1 => ?_) (fun c1 => ?_)
  · refine ⟨_, rfl, l, _, _, _, rfl, rfl, SqL.of hl, at42, _, rfl, _, _, rfl, rfl, hb0, ?_⟩
    refine ⟨_, rfl, l, _, _, _, rfl, rfl, SqL.of hl, at42, _, rfl, _, _, rfl, rfl, ⟨hb0, hb1⟩, _, rfl, l, _, _, 2, rfl, rfl, hl, rfl, ?_⟩
    refine ⟨_, rfl, ?_⟩
    refine k (d % b) _ (Int.emod_nonneg _ (by omega)) (Int.emod_lt_of_pos _ hb0) ⟨ncl, ns, i, d / b, r, upd_same, ?_, hi, hr0, hr1⟩ fun a ha => ?_
    · rw [upd_ne ncl]; exact hc
    · rw [upd_ne ha]; exact k1 a ha
  · refine ⟨_, rfl, l, _, _, _, rfl, rfl, SqL.of hl, at43, _, _, rfl, rfl, .inl ⟨by omega, by omega⟩, _, _, rfl, rfl, (by show (0 : Int) < 2147483399; decide), _, _, rfl, rfl, ⟨by decide, by decide⟩, _, rfl, _, _, rfl, rfl, hb0, ?_⟩
    exact k _ _ (Int.emod_nonneg _ (by omega)) (Int.emod_lt_of_pos _ hb0) ⟨ncl, ns, i, d, r, hl, hc, hi, hr0, hr1⟩ k1

abbrev s_law_whole : Stmt := top 66
abbrev s_law_same : Stmt := top 67
theorem sc_law_whole : FnScope ["_law_found"] ["_law_found"] (defScope s_law_whole) := ⟨rfl, rfl, rfl, by decide +kernel, rfl, by decide +kernel, by decide +kernel⟩
theorem sc_law_same : FnScope ["_law_found", "_law_due_here", "_law_one", "_law_other"] ["_law_found", "_law_due_here"] (defScope s_law_same) := ⟨rfl, rfl, rfl, by decide +kernel, rfl, by decide +kernel, by decide +kernel⟩
theorem ok_law_whole {f : Addr} {fd : FuncData} (F : Fun K "_law_whole" "_law_whole" s_law_whole f fd) (T : Nms mg) : FnOk P w K mg base CX0 1 f fd ["_law_found"] spWhole := by
  refine F.ok sc_law_whole (fun vs H Q E h => ?_) (fun cdv A outer s H vs Q E hr h => ?_)
  · obtain ⟨i, rfl, _⟩ := h
    rfl
  obtain ⟨i, rfl, k⟩ := h
  refine ⟨_, (pss_one (ps_ret (pe_and (pe_callB call_isinst rfl T.n_isinstance PyProof.Rows.boot_isinstance (pa_cons (pv 0) (pa_cons (pe_ty rfl T.n_int PyProof.Rows.boot_int) pa_nil))) (pe_one (pe_not (pe_callB call_isinst rfl T.n_isinstance PyProof.Rows.boot_isinstance (pa_cons (pv 0) (pa_cons (pe_ty rfl T.n_bool PyProof.Rows.boot_bool) pa_nil)))))))), ?_⟩
  exact ⟨_, rfl, _, _, _, _, rfl, TyOf.int i, k_ii K, _, rfl, iteT ⟨_, rfl, _, _, _, _, rfl, TyOf.int i, k_ib K, _, rfl, k⟩⟩
theorem step_law_same {f fW : Addr} {fd fdW : FuncData} {n : Nat} (T : Nms mg) (d_law_whole : DefAt K mg "_law_whole" s_law_whole ["_law_found"] fW fdW) (g_law_whole : FnOk P w K mg base CX0 1 fW fdW ["_law_found"] spWhole)
    (d_law_same : DefAt K mg "_law_same" s_law_same ["_law_found", "_law_due_here"] f fd) (g_law_same : FnOk P w K mg base CX0 (n + 1) f fd ["_law_found", "_law_due_here"] (spSame n)) : FnOk P w K mg base CX0 (n + 2) f fd ["_law_found", "_law_due_here"] (spSame (n + 1)) := by
  refine d_law_same.F.ok sc_law_same (fun vs H Q E h => ?_) (fun cdv A outer s H vs Q E hr h => ?_)
  · obtain ⟨x, y, rfl, _⟩ := h
    rfl
  obtain ⟨x, y, rfl, h, k⟩ := h
  refine ⟨_, (pss_cons (ps_if (pt_cmp (pc_isN (pv 1)))
      (pss_one (ps_ret (pe_cmp (pc_isN (pv 0)))))
      pss_nil)
      (pss_cons (ps_if (pt_val (pe_callB call_isinst rfl T.n_isinstance PyProof.Rows.boot_isinstance (pa_cons (pv 1) (pa_cons (pe_ty rfl T.n_bool PyProof.Rows.boot_bool) pa_nil))))
      (pss_one (ps_ret (pe_and (pe_callB call_isinst rfl T.n_isinstance PyProof.Rows.boot_isinstance (pa_cons (pv 0) (pa_cons (pe_ty rfl T.n_bool PyProof.Rows.boot_bool) pa_nil))) (pe_one (pe_cmpR op_eq (pv 0) (pv 1) (nomark _))))))
      pss_nil)
      (pss_cons (ps_if (pt_val (pe_callB call_isinst rfl T.n_isinstance PyProof.Rows.boot_isinstance (pa_cons (pv 1) (pa_cons (pe_ty rfl T.n_int PyProof.Rows.boot_int) pa_nil))))
      (pss_one (ps_ret (pe_and (pe_def d_law_whole g_law_whole hr (pa_cons (pv 0) pa_nil)) (pe_one (pe_cmpR op_eq (pv 0) (pv 1) (nomark _))))))
      pss_nil)
      (pss_cons (ps_if (pt_val (pe_callB call_isinst rfl T.n_isinstance PyProof.Rows.boot_isinstance (pa_cons (pv 1) (pa_cons (pe_ty rfl T.n_str PyProof.Rows.boot_str) pa_nil))))
      (pss_one (ps_ret (pe_and (pe_callB call_isinst rfl T.n_isinstance PyProof.Rows.boot_isinstance (pa_cons (pv 0) (pa_cons (pe_ty rfl T.n_str PyProof.Rows.boot_str) pa_nil))) (pe_one (pe_cmpR op_eq (pv 0) (pv 1) (nomark _))))))
      pss_nil)
      (pss_cons (ps_if (PW.pt (pw_or (pt_cmpR op_ne (pe_callB call_isinst rfl T.n_isinstance PyProof.Rows.boot_isinstance (pa_cons (pv 1) (pa_cons (pe_ty rfl T.n_list PyProof.Rows.boot_list) pa_nil))) (pe_callB call_isinst rfl T.n_isinstance PyProof.Rows.boot_isinstance (pa_cons (pv 0) (pa_cons (pe_ty rfl T.n_list PyProof.Rows.boot_list) pa_nil))) (nomark _)) (pw_or1 (pt_cmpR op_ne (pe_callB call_isinst rfl T.n_isinstance PyProof.Rows.boot_isinstance (pa_cons (pv 1) (pa_cons (pe_ty rfl T.n_tuple PyProof.Rows.boot_tuple) pa_nil))) (pe_callB call_isinst rfl T.n_isinstance PyProof.Rows.boot_isinstance (pa_cons (pv 0) (pa_cons (pe_ty rfl T.n_tuple PyProof.Rows.boot_tuple) pa_nil))) (nomark _)))))
      (pss_one (ps_ret pe_bl))
      pss_nil)
      (pss_cons (ps_if (pt_cmpR op_ne (pe_callB call_len_seq rfl T.n_len PySem.boot_len (pa_cons (pv 0) pa_nil)) (pe_callB call_len_seq rfl T.n_len PySem.boot_len (pa_cons (pv 1) pa_nil)) (nomark _))
      (pss_one (ps_ret pe_bl))
      pss_nil)
      (pss_cons (ps_for PassesOwn.never rfl (pi_zip rfl T.n_zip (pa_cons (pv 0) (pa_cons (pv 1) pa_nil))) (pg_tup (n := 2) rfl (pgs_cons (pg_name (i := 2) sc_law_same.nd rfl (Or.inl rfl)) (pgs_cons (pg_name (i := 3) sc_law_same.nd rfl (Or.inl rfl)) pgs_nil)))
      (pss_one (ps_if (pt_not (pt_val (pe_def d_law_same g_law_same hr (pa_cons (pv 2) (pa_cons (pv 3) pa_nil)))))
      (pss_one (ps_ret pe_bl))
      pss_nil)))
      (pss_one (ps_ret pe_bl))))))))), ?_⟩
  have kk := k H (Same.refl H)
  rcases h with ⟨hf, rfl⟩ | ⟨kd, a, b, xs, ys, rfl, rfl, h1, h2, hl, hi⟩
  · cases x with
    | non =>
      refine ⟨_, rfl, _, rfl, ite2 (fun _ => ?_) (fun c => absurd (decide_eq_true rfl) c)⟩
      exact ⟨_, rfl, tt rfl kk⟩
    | bl v =>
      refine ⟨_, rfl, _, rfl, ite2 (fun c => absurd (of_decide_eq_true c) (fun z => nomatch z)) (fun _ => ?_)⟩
      refine ⟨_, rfl, _, _, _, _, rfl, TyOf.bl v, k_bb K, _, rfl, iteT ?_⟩
      exact ⟨_, rfl, _, _, _, _, rfl, TyOf.bl v, k_bb K, _, rfl, iteT ⟨_, rfl, _, rfl, rfl, tt rfl kk⟩⟩
    | int i =>
      refine ⟨_, rfl, _, rfl, ite2 (fun c => absurd (of_decide_eq_true c) (fun z => nomatch z)) (fun _ => ?_)⟩
      refine ⟨_, rfl, _, _, _, _, rfl, TyOf.int i, k_ib K, _, rfl, iteF ?_⟩
      refine ⟨_, rfl, _, _, _, _, rfl, TyOf.int i, k_ii K, _, rfl, iteT ?_⟩
      exact ⟨_, rfl, i, rfl, _, rfl, iteT ⟨_, rfl, _, rfl, rfl, tt rfl kk⟩⟩
    | str v =>
      refine ⟨_, rfl, _, rfl, ite2 (fun c => absurd (of_decide_eq_true c) (fun z => nomatch z)) (fun _ => ?_)⟩
      refine ⟨_, rfl, _, _, _, _, rfl, TyOf.str v, k_sb K, _, rfl, iteF ?_⟩
      refine ⟨_, rfl, _, _, _, _, rfl, TyOf.str v, k_si K, _, rfl, iteF ?_⟩
      refine ⟨_, rfl, _, _, _, _, rfl, TyOf.str v, k_ss K, _, rfl, iteT ?_⟩
      exact ⟨_, rfl, _, _, _, _, rfl, TyOf.str v, k_ss K, _, rfl, iteT ⟨_, rfl, _, rfl, rfl, tt rfl kk⟩⟩
    | _ => cases hf
  · refine ⟨_, rfl, _, rfl, ite2 (fun c => absurd (of_decide_eq_true c) (fun z => nomatch z)) (fun _ => ?_)⟩
    refine ⟨_, rfl, _, _, _, _, rfl, h2.ty, k_qb K kd, _, rfl, iteF ?_⟩
    refine ⟨_, rfl, _, _, _, _, rfl, h2.ty, k_qi K kd, _, rfl, iteF ?_⟩
    refine ⟨_, rfl, _, _, _, _, rfl, h2.ty, k_qs K kd, _, rfl, iteF ?_⟩
    refine ⟨_, rfl, _, _, _, _, rfl, h2.ty, k_ql K kd, _, rfl, _, _, _, _, rfl, h1.ty, k_ql K kd, rfl, _, rfl, iteNS rfl ?_⟩
    refine ⟨_, rfl, _, _, _, _, rfl, h2.ty, k_qt K kd, _, rfl, _, _, _, _, rfl, h1.ty, k_qt K kd, rfl, _, rfl, iteNS rfl ?_⟩
    refine ⟨_, rfl, a, _, rfl, h1.or, _, rfl, b, _, rfl, h2.or, rfl, _, rfl, iteNS (by rw [hl]) ?_⟩
    refine ⟨_, rfl, _, rfl, kd, a, b, xs, ys, rfl, h1.sq, h2.sq, for_zip (fun i σ H2 => ∃ u v, σ = [some (.ref a), some (.ref b), u, v] ∧ Same H H2) hl ⟨none, none, rfl, Same.refl H⟩ (fun i σ H2 _ ⟨_, _, _, s⟩ => ⟨(h1.same s).sq, (h2.same s).sq⟩) ?_ ?_⟩
    · rintro i u v p σ H2 eu ev hp ⟨_, _, rfl, s⟩
      refine ⟨p, _, rfl, SqT.of upd_same, rfl, u, [v], rfl, v, [], rfl, rfl, ?_⟩
      have s2 := s.trans (same_new hp (.tup [u, v]))
      refine ⟨_, rfl, _, rfl, u, v, rfl, Eqv.same s2 (hi i u v eu ev), fun H4 s4 => ⟨_, rfl, iteF ?_⟩⟩
      exact ⟨_, _, rfl, s2.trans s4⟩
    · rintro σ H2 ⟨_, _, rfl, s⟩
      exact k H2 s
theorem ok_law_same {f fW : Addr} {fd fdW : FuncData} (T : Nms mg) (d_law_whole : DefAt K mg "_law_whole" s_law_whole ["_law_found"] fW fdW) (d_law_same : DefAt K mg "_law_same" s_law_same ["_law_found", "_law_due_here"] f fd) : ∀ n : Nat, FnOk P w K mg base CX0 (n + 1) f fd ["_law_found", "_law_due_here"] (spSame n)
  | 0 => by
    have no : ∀ vs H Q E, ¬ spSame 0 vs H Q E := fun vs H Q E h => by
      obtain ⟨x, y, _, h, _⟩ := h
      exact h
    exact ⟨fun vs H Q E h => absurd h (no vs H Q E), fun A outer s H args us vs Q E _ _ _ _ h => absurd h (no vs H Q E)⟩
  | n + 1 => step_law_same T d_law_whole (ok_law_whole d_law_whole.F T) d_law_same (ok_law_same T d_law_whole d_law_same n)

theorem winsOf_le (its : List Item) : (winsOf its).length ≤ its.length := List.length_filterMap_le _ its
def spWins : Sp := fun vs H Q _ => ∃ (r : Addr) (its : List Item), vs = [.ref r] ∧ ItemsAt H (.ref r) its ∧ its.length ≤ 100000 ∧
  ∀ (o : Addr) (H' : Hp), H' o = some (.lst ((winsOf its).map V.int)) → Same H H' → H o = none → Q (.ref o) H'
abbrev swindows : Stmt := top 30
theorem scwindows : FnScope ["items"] ["items"] (defScope swindows) := ⟨rfl, rfl, rfl, by decide +kernel, rfl, by decide +kernel, by decide +kernel⟩
theorem ok_windows {f : Addr} {fd : FuncData} (F : Fun K "windows" "windows" swindows f fd) (T : Nms mg) : FnOk P w K mg base CX0 1 f fd ["items"] spWins := by
  refine F.ok scwindows (fun vs H Q E h => ?_) (fun cdv A outer s H vs Q E hr h => ?_)
  · obtain ⟨n, ns, rfl, _⟩ := h
    rfl
  obtain ⟨r, its, rfl, ⟨a, vs, e, hr1, hp⟩, hlen, k⟩ := h
  cases e
  refine ⟨_, (pss_one (ps_ret (pe_comp (N := ["item"]) ⟨rfl, by decide +kernel, by decide +kernel, by decide +kernel⟩ rfl (pi_list (pv 0)) (fun _ _ _ _ _ => (pg_name (i := 0) (show List.Nodup (["item"] : List Str) by decide +kernel) rfl (Or.inl rfl))) (fun _ _ _ _ _ => pts_one (pt_cmpR op_eq (pe_ix ixC_tup (pv 0) pe_int (fun _ _ => rfl)) pe_str (nomark _))) (fun _ _ _ _ _ => (pe_ix ixC_tup (pv 0) pe_int (fun _ _ => rfl)))))), ?_⟩
  refine ⟨_, rfl, r, rfl, ⟨_, SqL.of hr1⟩, fun acc hacc => comp_list (K := K) (a := r) (xs := vs) (fun i σ H2 => ∃ u : Option V, σ = [u] ∧ H2 acc = some (.lst ((winsOf (its.take i)).map V.int)) ∧ Same H H2)
    ⟨none, rfl, upd_same, same_new hacc _⟩ (fun i σ H2 _ ⟨_, _, _, s⟩ => SqL.of (s _ _ hr1)) ?_ ?_⟩
  · rintro i x σ H2 hi ⟨u, rfl, ha, s⟩
    obtain ⟨it, ei, b, rfl, hb⟩ := hp.get hi
    have step : winsOf (its.take (i + 1)) = winsOf (its.take i) ++ winsOf [it] := by rw [take_snoc ei, winsOf_append]
    have bl : (winsOf (its.take i)).length ≤ 100000 := by
      have z := winsOf_le (its.take i)
      rw [List.length_take] at z
      omega
    cases it with
    | win n =>
      refine ⟨_, rfl, b, _, _, _, rfl, rfl, SqT.of (s _ _ hb), rfl, rfl, _, rfl, ite2 (fun _ => ?_) (fun z => absurd (by decide) z)⟩
      refine ⟨_, rfl, b, _, _, _, rfl, rfl, SqT.of (s _ _ hb), rfl, _, ha, (by rw [List.length_map]; exact million (by omega)), _, rfl, ?_, keep_of hacc s (keep_upd acc _ _)⟩
      rw [upd_same, step, List.map_append]
      rfl
    | ink p q =>
      refine ⟨_, rfl, b, _, _, _, rfl, rfl, SqT.of (s _ _ hb), rfl, rfl, _, rfl, ite2 (fun z => absurd z (by decide)) (fun _ => ?_)⟩
      refine ⟨_, rfl, ?_, s⟩
      rw [ha, step]
      show _ = some (HO.lst ((winsOf (its.take i) ++ []).map V.int))
      rw [List.append_nil]
  · rintro σ H2 ⟨u, rfl, ha, s⟩
    rw [hp.len, List.take_length] at ha
    exact k acc H2 ha s hacc

structure Topo (rows : List (List Int)) (ks : List Int) : Prop where
  rng : ∀ x ∈ ks, 0 ≤ x ∧ x < rows.length
  dn : ∀ (i : Nat) (x : Int), ks[i]? = some x → ∀ y, Nxt rows x y → y ∈ ks.take i
def spBelow : Sp := fun vs H Q _ => ∃ (r L : Addr) (rows : List (List Int)) (ss : List Int), vs = [.ref r, .ref L] ∧ SheetsAt H r (rows.map itemsOf) ∧ H L = some (.lst (ss.map V.int)) ∧ ss.length ≤ 1000 ∧ rows.length ≤ 1000 ∧ (∀ es ∈ rows, es.length ≤ 1000) ∧ Sound rows ∧ Rkd rows ∧ (∀ s ∈ ss, 0 ≤ s ∧ s < rows.length) ∧
  ∀ (ks : List Int) (o : Addr) (H' : Hp), H' o = some (.lst (ks.map V.int)) → Same H H' → Topo rows ks → (∀ s ∈ ss, s ∈ ks) → ks.length ≤ 1000 → H o = none → Q (.ref o) H'
theorem Topo.snoc {rows : List (List Int)} {ks : List Int} {x : Int} (h : Topo rows ks) (h0 : 0 ≤ x) (h1 : x < rows.length) (hx : ∀ y, Nxt rows x y → y ∈ ks) : Topo rows (ks ++ [x]) := by
  refine ⟨fun y hy => ?_, fun i y hi z hz => ?_⟩
  · rcases List.mem_append.mp hy with q | q
    · exact h.rng y q
    · have : y = x := by simpa using q
      omega
  · by_cases c : i < ks.length
    · rw [List.getElem?_append_left c] at hi
      rw [List.take_append_of_le_length (by omega)]
      exact h.dn i y hi z hz
    · have c2 : i = ks.length := by
        rcases Nat.lt_or_ge i (ks ++ [x]).length with q | q
        · rw [List.length_append, List.length_singleton] at q; omega
        · rw [List.getElem?_eq_none q] at hi; cases hi
      subst c2
      rw [List.getElem?_append_right (Nat.le_refl _), Nat.sub_self] at hi
      cases hi
      rw [List.take_append_of_le_length (Nat.le_refl _), List.take_length]
      exact hx z hz
theorem seen_keys {kvs : List (Key × V)} {ks : List Int} (h : kvs.map (·.1) = ks.map Sum.inl) (x : Int) : seen kvs x ↔ x ∈ ks := by
  unfold seen
  rw [← valV_any, List.any_eq_true]
  constructor
  · rintro ⟨p, hp, e⟩
    have e' : p.1 = Sum.inl x := of_decide_eq_true e
    have : p.1 ∈ ks.map (Sum.inl : Int → Key) := by rw [← h]; exact List.mem_map_of_mem hp
    rw [e', List.mem_map] at this
    obtain ⟨y, hy, ey⟩ := this
    rw [Sum.inl.inj ey] at hy
    exact hy
  · intro hx
    have : (Sum.inl x : Key) ∈ kvs.map (·.1) := by rw [h]; exact List.mem_map_of_mem hx
    obtain ⟨p, hp, e⟩ := List.mem_map.mp this
    exact ⟨p, hp, decide_eq_true e⟩
structure Bel (rows : List (List Int)) (rk : Int → Nat) (H : Hp) (W S : Addr) (ss : List Int) (H2 : Hp) (bs ps ks : List Int) (kvs : List (Key × V)) : Prop where
  hW : H2 W = some (.lst ((bs ++ ps).map V.int))
  hS : H2 S = some (.dK kvs)
  sm : Same H H2
  ky : kvs.map (·.1) = ks.map Sum.inl
  tp : Topo rows ks
  rg : ∀ x ∈ bs ++ ps, 0 ≤ x ∧ x < rows.length
  ns : ∀ x ∈ ps, ¬ seen kvs x
  pw : ps.Pairwise fun a b => rk b < rk a
  rb : ∀ (i : Nat) (x : Int), ps[i]? = some x → rk x + i ≤ 40
  st : ∀ s ∈ ss, s ∈ bs ∨ s ∈ ks
  kl : kvs.length + miss rows.length kvs ≤ rows.length
  bl : bs.length ≤ 1000
theorem keys_putK {kvs : List (Key × V)} {k : Key} (v : V) (h : (valV kvs k).isSome = true) : (putK kvs k v).map (·.1) = kvs.map (·.1) := by
  unfold putK
  rw [if_pos (by rw [valV_any]; exact h), List.map_map]
  refine List.map_congr_left fun p _ => ?_
  show (if p.1 = k then (p.1, v) else p).1 = p.1
  split <;> rfl
theorem rb_len {rk : Int → Nat} {ps : List Int} (rb : ∀ (i : Nat) (x : Int), ps[i]? = some x → rk x + i ≤ 40) : ps.length ≤ 41 := by
  rcases List.eq_nil_or_concat ps with rfl | ⟨p', n, rfl⟩
  · simp
  · rw [List.concat_eq_append] at rb ⊢
    have := rb p'.length n (by rw [List.getElem?_append_right (Nat.le_refl _), Nat.sub_self]; rfl)
    rw [List.length_append, List.length_singleton]
    omega
/-- the top of what waits: pushed, or of the beginning -/
structure Top (rk : Int → Nat) (ss bs ps ks : List Int) (kvs : List (Key × V)) (bs' ps' : List Int) (n : Int) : Prop where
  eq : bs ++ ps = bs' ++ ps' ++ [n]
  ns : ∀ x ∈ ps', ¬ seen kvs x ∧ x ≠ n
  pw : ps'.Pairwise fun a b => rk b < rk a
  rb : ∀ (i : Nat) (x : Int), ps'[i]? = some x → rk x + i ≤ 40
  st : ∀ s ∈ ss, s ∈ bs' ∨ s = n ∨ s ∈ ks
  old : seen kvs n → bs'.length + 50 - ps'.length < bs.length + 50 - ps.length
  le : bs'.length + 50 - ps'.length ≤ bs.length + 51 - ps.length
  bl : bs'.length ≤ bs.length
  up : ∀ y : Int, rk y ≤ 40 → rk y < rk n → (ps ++ [y]).Pairwise (fun a b => rk b < rk a) ∧ ∀ (i : Nat) (x : Int), (ps ++ [y])[i]? = some x → rk x + i ≤ 40
theorem Bel.top {rows : List (List Int)} {rk : Int → Nat} {H : Hp} {W S : Addr} {ss : List Int} {H2 : Hp} {bs ps ks : List Int} {kvs : List (Key × V)} (B : Bel rows rk H W S ss H2 bs ps ks kvs) : bs ++ ps = [] ∨ ∃ bs' ps' n, Top rk ss bs ps ks kvs bs' ps' n := by
  have snocRb : ∀ (qs : List Int) (y : Int), (∀ (i : Nat) (x : Int), qs[i]? = some x → rk x + i ≤ 40) → rk y + qs.length ≤ 40 → ∀ (i : Nat) (x : Int), (qs ++ [y])[i]? = some x → rk x + i ≤ 40 := by
    intro qs y h1 h2 i x hx
    rcases Nat.lt_or_ge i qs.length with q | q
    · rw [List.getElem?_append_left q] at hx
      exact h1 i x hx
    · have qi : i = qs.length := by
        rcases Nat.lt_or_ge i (qs ++ [y]).length with w | w
        · rw [List.length_append, List.length_singleton] at w; omega
        · rw [List.getElem?_eq_none w] at hx; cases hx
      subst qi
      rw [List.getElem?_append_right (Nat.le_refl _), Nat.sub_self] at hx
      cases hx
      exact h2
  rcases List.eq_nil_or_concat ps with rfl | ⟨ps', n, rfl⟩
  · rcases List.eq_nil_or_concat bs with rfl | ⟨bs', n, rfl⟩
    · exact .inl rfl
    · rw [List.concat_eq_append] at B ⊢
      refine .inr ⟨bs', [], n, by simp, by simp, by simp, by simp, fun s hs => ?_, fun _ => ?_, ?_, ?_, fun y h1 h2 => ⟨by simp, snocRb [] y (by simp) (by simpa using h1)⟩⟩
      · rcases B.st s hs with z | z
        · rcases List.mem_append.mp z with z | z
          · exact .inl z
          · exact .inr (.inl (by simpa using z))
        · exact .inr (.inr z)
      · rw [List.length_append, List.length_singleton]; simp only [List.length_nil]; omega
      · rw [List.length_append, List.length_singleton]; simp only [List.length_nil]; omega
      · rw [List.length_append, List.length_singleton]; omega
  · rw [List.concat_eq_append] at B ⊢
    have pwd := List.pairwise_append.mp B.pw
    have rbn := B.rb ps'.length n (by rw [List.getElem?_append_right (Nat.le_refl _), Nat.sub_self]; rfl)
    refine .inr ⟨bs, ps', n, by rw [List.append_assoc], fun x hx => ⟨B.ns x (List.mem_append_left _ hx), fun e => ?_⟩, pwd.1, fun i x hx => ?_, fun s hs => (B.st s hs).elim .inl fun z => .inr (.inr z), fun z => absurd z (B.ns n (by simp)), ?_, Nat.le_refl _, fun y h1 h2 => ⟨?_, snocRb _ y B.rb ?_⟩⟩
    · subst e
      exact Nat.lt_irrefl _ (pwd.2.2 x hx x (by simp))
    · refine B.rb i x ?_
      rw [List.getElem?_append_left]
      · exact hx
      · rcases Nat.lt_or_ge i ps'.length with q | q
        · exact q
        · rw [List.getElem?_eq_none q] at hx; cases hx
    · rw [List.length_append, List.length_singleton]; omega
    · rw [List.pairwise_append]
      refine ⟨B.pw, by simp, fun a ha c hc => ?_⟩
      have : c = y := by simpa using hc
      subst this
      rcases List.mem_append.mp ha with q | q
      · have := pwd.2.2 a q n (by simp)
        omega
      · have : a = n := by simpa using q
        subst this
        exact h2
    · rw [List.length_append, List.length_singleton]; omega
def BelPv (rows : List (List Int)) (rk : Int → Nat) (H : Hp) (r L W S : Addr) (ss : List Int) (m : Nat) (σ : L2.St) (H2 : Hp) : Prop := ∃ (bs ps ks : List Int) (kvs : List (Key × V)) (u v : Option V), σ = [some (.ref r), some (.ref L), some (.ref S), some (.ref W), u, v] ∧ Bel rows rk H W S ss H2 bs ps ks kvs ∧ m = 100 * miss rows.length kvs + (bs.length + 50 - ps.length)
abbrev sbelow : Stmt := top 31
theorem scbelow : FnScope ["rows", "sheets", "told", "waiting", "number", "missing"] ["rows", "sheets"] (defScope sbelow) := ⟨rfl, rfl, rfl, by decide +kernel, rfl, by decide +kernel, by decide +kernel⟩
theorem ok_below {f fI : Addr} {fd fdI : FuncData} (F : Fun K "below" "below" sbelow f fd) (T : Nms mg) (dwindows : DefAt K mg "windows" swindows ["items"] fI fdI) : FnOk P w K mg base CX0 2 f fd ["rows", "sheets"] spBelow := by
  have gwindows : FnOk P w K mg base CX0 1 fI fdI ["items"] spWins := ok_windows dwindows.F T
  refine F.ok scbelow (fun vs H Q E h => ?_) (fun cdv A outer s0 H vs Q E hr h => ?_)
  · obtain ⟨r, L, rows, ss, rfl, _⟩ := h
    rfl
  obtain ⟨r, L, rows, ss, rfl, hR, hL, hsl, hlen, hes, hsd, ⟨rk, hrb, hrk⟩, hin, k⟩ := h
  have hu := hu_of hr
  refine ⟨_, (pss_cons (ps_set (i := 2) scbelow.nd rfl (Or.inr rfl) pe_dnewK)
      (pss_cons (ps_set (i := 3) scbelow.nd rfl (Or.inl rfl) (pe_callTy call_list_of rfl T.n_list PyProof.Rows.boot_list (pa_cons (pv 1) pa_nil)))
      (pss_cons (ps_while PassesOwn.never (pt_truth (pv 3) (fun _ => rfl)) (pss_cons (ps_set (i := 4) scbelow.nd rfl (Or.inl rfl) (pe_ix ix_list (pv 3) (pe_un un_neg pe_int) (fun _ _ => rfl)))
      (pss_cons (ps_setG (N := ["other", "told"]) (i := 5) (compG (sc := defScope sbelow) (NX := ["rows", "sheets", "told", "waiting", "number", "missing"]) (jx := [none, some 2]) rfl rfl rfl (by decide +kernel) (by decide +kernel) rfl (by decide +kernel) rfl (by decide +kernel)) rfl scbelow.nd rfl rfl (pi_list (pe_def dwindows gwindows hr (pa_cons (pe_ix ix_list (pv 0) (pv 4) (fun _ _ => rfl)) pa_nil))) (fun _ _ _ _ _ _ => (pg_name (i := 0) (show List.Nodup (["other", "told"] : List Str) by decide +kernel) rfl (Or.inl rfl))) (fun _ _ _ _ _ _ => pts_one (pt_cmp (pc_dnotin hu (pv 0) (pv 1)))) (fun _ _ _ _ _ _ => (pv 0)))
      (pss_one (ps_if (pt_truth (pv 5) (fun _ => rfl))
      (pss_one (ps_expr (pe_bm PySem.F.plainAttrs_list PySem.F.slot_list_append PySem.F.type_list_append mt_append (pv 3) (pa_cons (pe_ix ix_list (pv 5) pe_int (fun _ _ => rfl)) pa_nil))))
      (pss_cons (ps_dput hu (pv 2) (pv 4) pe_bl rfl)
      (pss_one (ps_expr (pe_bm0 PySem.F.plainAttrs_list PySem.F.slot_list_pop PySem.F.type_list_pop mt_pop (pv 3))))))))))
      (pss_one (ps_ret (pe_callTy (call_listD rfl) rfl T.n_list PyProof.Rows.boot_list (pa_cons (pv 2) pa_nil))))))), ?_⟩
  intro S hS
  have s1 : Same H (upd H S (.dK [])) := same_new hS _
  refine ⟨_, rfl, L, _, rfl, .inl (SqL.of (s1 _ _ hL)), fun W hW => ?_⟩
  have s2 := s1.trans (same_new hW (.lst (ss.map V.int)))
  have H0W : H W = none := by
    cases e : H W with
    | none => rfl
    | some o => exact absurd ((s1 _ _ e).symm.trans hW) (by simp)
  have nWS : W ≠ S := (ne_of_none upd_same hW).symm
  refine ⟨BelPv rows rk H r L W S ss, ⟨_, ss, [], [], [], none, none, rfl, ⟨(by rw [upd_same, List.append_nil]), same_new hW _ _ _ upd_same, s2, rfl, ⟨(fun x hx => by cases hx), fun i x hi => by simp at hi⟩, (fun x hx => hin x (by simpa using hx)), by simp, by simp, by simp, (fun s hs => .inl hs), ?_, hsl⟩, rfl⟩, ?_⟩
  · have := cnt_le rows.length (fun i => (valV ([] : List (Key × V)) (Sum.inl (i : Int))).isNone)
    show 0 + cnt rows.length _ ≤ _
    omega
  rintro m σ H2 ⟨bs, ps, ks, kvs, u, v, rfl, B, rfl⟩
  refine ⟨_, rfl, !((bs ++ ps).map V.int).isEmpty, .inl ⟨_, SqL.of B.hW, rfl⟩, ?_⟩
  rcases B.top with en | ⟨bs', ps', n, t⟩
  · have e2 : (!((bs ++ ps).map V.int).isEmpty) = false := by rw [en]; rfl
    rw [e2]
    refine iteF ?_
    have ek : kvs.map (fun p => kV p.1) = ks.map V.int := by
      have z : kvs.map (fun p => kV p.1) = (kvs.map (·.1)).map kV := by rw [List.map_map]; rfl
      rw [z, B.ky, List.map_map]
      rfl
    have kl : ks.length = kvs.length := by
      have z := congrArg List.length B.ky
      rw [List.length_map, List.length_map] at z
      exact z.symm
    have kll := B.kl
    refine ⟨_, rfl, S, kvs, rfl, B.hS, fun l hl => ?_⟩
    refine k ks l _ (by rw [upd_same, ek]) (B.sm.trans (same_new hl _)) B.tp (fun s hs => (B.st s hs).elim (fun z => ?_) id) (by omega) ?_
    · rw [(List.append_eq_nil_iff.mp en).1] at z
      cases z
    cases e : H l with
    | none => rfl
    | some o => exact absurd ((B.sm _ _ e).symm.trans hl) (by simp)
  have eW := B.hW
  rw [t.eq] at eW
  rw [t.eq]
  refine ite2 (fun _ => ?_) (fun z => absurd (by simp) z)
  refine ⟨fun σ' H' => ∃ m', m' < 100 * miss rows.length kvs + (bs.length + 50 - ps.length) ∧ BelPv rows rk H r L W S ss m' σ' H', fun σ' H' z => z, ?_⟩
  have an : atI ((bs' ++ ps' ++ [n]).map V.int) (-1) = some (.int n) := by rw [List.map_append]; exact atI_neg1 _ _
  obtain ⟨n0, n1⟩ := B.rg n (by rw [t.eq]; simp)
  have tl := t.le
  have tbl := t.bl
  have pl := rb_len B.rb
  have pl' := rb_len t.rb
  have bbl := B.bl
  obtain ⟨es, hes1⟩ : ∃ es, rows[n.toNat]? = some es := ⟨_, List.getElem?_eq_getElem (by omega)⟩
  have hesl := hes es (List.mem_of_getElem? hes1)
  obtain ⟨rvs, hr2, hrall⟩ := hR.same B.sm
  obtain ⟨vi, hvi, hI⟩ := hrall.get' (i := n.toNat) (b := itemsOf es) (by rw [List.getElem?_map, hes1]; rfl)
  obtain ⟨b, ivs, rfl, hb, hit⟩ := id hI
  have hil := items_len es []
  have arow : atI rvs n = some (.ref b) := by
    have z := atI_nat hvi
    rw [show ((n.toNat : Nat) : Int) = n by omega] at z
    exact z
  refine ⟨_, rfl, _, rfl, W, _, _, _, rfl, rfl, SqL.of eW, an, ?_⟩
  refine ⟨_, rfl, _, rfl, r, _, _, _, rfl, rfl, SqL.of hr2, arow, b, itemsOf es, rfl, hI, ?_, fun z H4 hz s4 nz => ?_⟩
  · show (es.foldl itemsStep []).length ≤ _
    simp only [List.length_nil] at hil
    omega
  rw [wins_itemsOf] at hz
  have hwll : (winsE es).length ≤ es.length := List.length_filterMap_le _ es
  have hS4 := s4 _ _ B.hS
  have hW4 := s4 _ _ eW
  refine ⟨z, rfl, ⟨_, SqL.of hz⟩, fun acc hacc => compF_list (K := K) (a := z) (xs := (winsE es).map V.int) (fun i σ H5 => ∃ u : Option V, σ = [u, some (.ref S)] ∧ H5 acc = some (.lst ((((winsE es).take i).filter (fun y => (valV kvs (Sum.inl y)).isNone)).map V.int)) ∧ Same H4 H5) ⟨none, rfl, upd_same, same_new hacc _⟩ (fun i σ H5 _ ⟨_, _, _, s5⟩ => SqL.of (s5 _ _ hz)) ?_ ?_⟩
  · rintro i x σ H5 hi ⟨u, rfl, h5, s5⟩
    rw [List.getElem?_map] at hi
    obtain ⟨y, ey, rfl⟩ := Option.map_eq_some_iff.mp hi
    have st := take_snoc ey
    have bl : (((winsE es).take i).filter (fun y => (valV kvs (Sum.inl y)).isNone)).length ≤ 1000 := by
      have z := List.length_filter_le (fun y => (valV kvs (Sum.inl y)).isNone) ((winsE es).take i)
      rw [List.length_take] at z
      omega
    refine ⟨_, rfl, _, rfl, S, _, rfl, DGet.k (k := Sum.inl y) (s5 _ _ hS4), _, rfl, ?_⟩
    cases ev : valV kvs (Sum.inl y) with
    | none =>
      refine iteT ⟨_, rfl, _, h5, (by rw [List.length_map]; exact million (by omega)), _, rfl, ?_, keep_of hacc s5 (keep_upd acc _ _)⟩
      rw [upd_same, st, List.filter_append, List.filter_cons_of_pos (p := fun y => (valV kvs (Sum.inl y)).isNone) (by rw [ev]; rfl), List.map_append]
      rfl
    | some o =>
      refine iteF ⟨_, rfl, ?_, s5⟩
      rw [st, List.filter_append, List.filter_cons_of_neg (p := fun y => (valV kvs (Sum.inl y)).isNone) (by rw [ev]; exact Bool.false_ne_true), List.filter_nil, List.append_nil]
      exact h5
  rintro σ H5 ⟨u, rfl, h5, s5⟩
  rw [List.length_map, List.take_length] at h5
  have hS5 := s5 _ _ hS4
  have hW5 := s5 _ _ hW4
  have sm5 := B.sm.trans (s4.trans s5)
  have kll := B.kl
  refine ⟨_, rfl, _, .inl ⟨_, SqL.of h5, rfl⟩, ?_⟩
  cases em : (winsE es).filter (fun y => (valV kvs (Sum.inl y)).isNone) with
  | nil =>
    refine iteF ?_
    have allS : ∀ y, Nxt rows n y → y ∈ ks := by
      rintro y ⟨_, es', he', hy⟩
      rw [hes1] at he'
      cases he'
      rw [← seen_keys B.ky]
      have z := List.filter_eq_nil_iff.mp em y hy
      unfold seen
      cases q : valV kvs (Sum.inl y) with
      | none => rw [q] at z; exact absurd rfl z
      | some o => rfl
    refine ⟨_, rfl, _, rfl, S, _, rfl, DPut.k (k := Sum.inl n) hS5 (million (by omega)), ?_⟩
    have hW6 : (upd H5 S (.dK (putK kvs (Sum.inl n) (.bl true)))) W = some (.lst ((bs' ++ ps' ++ [n]).map V.int)) := by rw [upd_ne nWS]; exact hW5
    refine ⟨_, rfl, .inl ⟨rfl, _, SqL.of hW6⟩, W, _, .int n, rfl, rfl, hW6, (by simp), ?_⟩
    have ee : ((bs' ++ ps' ++ [n]).map V.int).dropLast = (bs' ++ ps').map V.int := by rw [List.map_append (l₁ := bs' ++ ps'), List.map_singleton, List.dropLast_concat]
    rw [ee]
    have rg' : ∀ x ∈ bs' ++ ps', 0 ≤ x ∧ x < rows.length := fun x hx => B.rg x (by rw [t.eq]; exact List.mem_append_left _ hx)
    cases en : valV kvs (Sum.inl n) with
    | none =>
      have mp := miss_put (n := rows.length) (.bl true) n0 n1 en
      refine ⟨100 * miss rows.length (putK kvs (Sum.inl n) (.bl true)) + (bs'.length + 50 - ps'.length), by omega, bs', ps', ks ++ [n], putK kvs (Sum.inl n) (.bl true), _, _, rfl, ⟨upd_same, (by rw [upd_ne nWS.symm, upd_same]), keep_of H0W (keep_of hS sm5 (keep_upd S _ _)) (keep_upd W _ _), ?_, B.tp.snoc n0 n1 allS, rg', fun x hx => ?_, t.pw, t.rb, fun s hs => ?_, ?_, by omega⟩, rfl⟩
      · rw [putK_new _ en, List.map_append, B.ky, List.map_append]
        rfl
      · intro q
        rcases (seen_put _).mp q with e | e
        · exact (t.ns x hx).2 e
        · exact (t.ns x hx).1 e
      · rcases t.st s hs with q | q | q
        · exact .inl q
        · exact .inr (by rw [q]; simp)
        · exact .inr (List.mem_append_left _ q)
      · rw [putK_new _ en, List.length_append, List.length_singleton] at *
        omega
    | some o =>
      have sn : seen kvs n := by unfold seen; rw [en]; rfl
      have so := t.old sn
      have sp : ∀ x, seen (putK kvs (Sum.inl n) (.bl true)) x ↔ seen kvs x := fun x => by
        rw [seen_put]
        exact ⟨fun z => z.elim (fun e => by rw [e]; exact sn) id, .inr⟩
      have ms : miss rows.length (putK kvs (Sum.inl n) (.bl true)) = miss rows.length kvs := by
        refine cnt_eq _ fun i _ => ?_
        have z := sp (i : Int)
        unfold seen at z
        cases q1 : valV (putK kvs (Sum.inl n) (.bl true)) (Sum.inl (i : Int)) with
        | none =>
          cases q2 : valV kvs (Sum.inl (i : Int)) with
          | none => rfl
          | some o2 => rw [q1, q2] at z; exact absurd (z.mpr rfl) Bool.false_ne_true
        | some o1 =>
          cases q2 : valV kvs (Sum.inl (i : Int)) with
          | none => rw [q1, q2] at z; exact absurd (z.mp rfl) Bool.false_ne_true
          | some o2 => rfl
      have kn : n ∈ ks := (seen_keys B.ky n).mp sn
      refine ⟨100 * miss rows.length (putK kvs (Sum.inl n) (.bl true)) + (bs'.length + 50 - ps'.length), by rw [ms]; omega, bs', ps', ks, putK kvs (Sum.inl n) (.bl true), _, _, rfl, ⟨upd_same, (by rw [upd_ne nWS.symm, upd_same]), keep_of H0W (keep_of hS sm5 (keep_upd S _ _)) (keep_upd W _ _), ?_, B.tp, rg', fun x hx q => (t.ns x hx).1 ((sp x).mp q), t.pw, t.rb, fun s hs => ?_, ?_, by omega⟩, rfl⟩
      · rw [keys_putK _ (by rw [en]; rfl), B.ky]
      · rcases t.st s hs with q | q | q
        · exact .inl q
        · exact .inr (by rw [q]; exact kn)
        · exact .inr q
      · have z := congrArg List.length (keys_putK (kvs := kvs) (k := Sum.inl n) (.bl true) (by rw [en]; rfl))
        rw [List.length_map, List.length_map] at z
        rw [z, ms]
        exact kll
  | cons y ts =>
    refine iteT ?_
    rw [em] at h5
    have ym : y ∈ (winsE es).filter (fun y => (valV kvs (Sum.inl y)).isNone) := by rw [em]; simp
    obtain ⟨yw, yn⟩ := List.mem_filter.mp ym
    have hyn : Nxt rows n y := ⟨n0, es, hes1, yw⟩
    obtain ⟨y0, y1⟩ := hsd.nxt hyn
    obtain ⟨up1, up2⟩ := t.up y (hrb y) (hrk n y hyn)
    have wl := congrArg List.length t.eq
    rw [List.length_append] at wl
    refine ⟨_, rfl, .inl ⟨rfl, _, SqL.of hW5⟩, _, rfl, acc, _, _, _, rfl, rfl, SqL.of h5, atI_nat (xs := V.int y :: ts.map V.int) (j := 0) rfl, W, _, _, rfl, rfl, hW5, (by rw [List.length_map, ← wl]; exact million (by omega)), ?_⟩
    have pl2 := rb_len up2
    rw [List.length_append, List.length_singleton] at pl2
    refine ⟨100 * miss rows.length kvs + (bs.length + 50 - (ps ++ [y]).length), ?_, bs, ps ++ [y], ks, kvs, _, _, rfl, ⟨(by rw [upd_same, ← List.append_assoc, t.eq, List.map_append (l₁ := bs' ++ ps' ++ [n])]; rfl), (by rw [upd_ne nWS.symm]; exact hS5), keep_of H0W sm5 (keep_upd W _ _), B.ky, B.tp, fun x hx => ?_, fun x hx => ?_, up1, up2, B.st, kll, bbl⟩, rfl⟩
    · rw [List.length_append, List.length_singleton]; omega
    · rw [← List.append_assoc] at hx
      rcases List.mem_append.mp hx with q | q
      · exact B.rg x q
      · have : x = y := by simpa using q
        subst this
        exact ⟨y0, y1⟩
    · rcases List.mem_append.mp hx with q | q
      · exact B.ns x q
      · have : x = y := by simpa using q
        subst this
        intro q
        unfold seen at q
        cases w : valV kvs (Sum.inl x) with
        | none => rw [w] at q; cases q
        | some o => rw [w] at yn; cases yn

structure Bfs (rows : List (List Int)) (H : Hp) (W S : Addr) (s g : Int) (extra : Int → Prop) (H2 : Hp) (vs : List V) (wl : List (List Int)) (kvs : List (Key × V)) : Prop where
  hW : H2 W = some (.lst vs)
  hl : All2 (EntsAt (fun a => a = W ∨ a = S) H2) vs wl
  hS : H2 S = some (.dK kvs)
  sm : Same H H2
  wk : ∀ w ∈ wl, Walk (Nxt rows) s w ∧ w.length ≤ kvs.length + 1 ∧ ∃ e, w.getLast? = some e ∧ 0 ≤ e ∧ e < rows.length
  kl : kvs.length + miss rows.length kvs ≤ rows.length
  cl : ∀ x, (x = s ∨ seen kvs x) → (∃ w ∈ wl, w.getLast? = some x) ∨ extra x ∨ ∀ y, Nxt rows x y → y ≠ g ∧ seen kvs y
def spWay : Sp := fun vs H Q _ => ∃ (r : Addr) (rows : List (List Int)) (s g : Int), vs = [.ref r, .int s, .int g] ∧ SheetsAt H r (rows.map itemsOf) ∧ rows.length ≤ 1000 ∧ (∀ es ∈ rows, es.length ≤ 1000) ∧ Sound rows ∧ 0 ≤ s ∧ s < rows.length ∧
  (∀ (way : List Int) (o : Addr) (H' : Hp), H' o = some (.lst (way.map V.int)) → Same H H' → Walk (Nxt rows) s way → 2 ≤ way.length → way.length ≤ 2000 → way.getLast? = some g → Q (.ref o) H') ∧ (¬ Reach (Nxt rows) s g → ∀ H', Same H H' → Q .non H')
abbrev sway_between : Stmt := top 38
theorem scway_between : FnScope ["rows", "start", "goal", "ways", "seen", "way", "number"] ["rows", "start", "goal"] (defScope sway_between) := ⟨rfl, rfl, rfl, by decide +kernel, rfl, by decide +kernel, by decide +kernel⟩
def muW (n : Nat) (W S : Addr) : L2.St → Hp → Nat := fun _ H => match H W, H S with
  | some (.lst vs), some (.dK kvs) => 2 * miss n kvs + vs.length
  | _, _ => 0
theorem muW_eq {n : Nat} {W S : Addr} {σ : L2.St} {H : Hp} {vs : List V} {kvs : List (Key × V)} (h1 : H W = some (.lst vs)) (h2 : H S = some (.dK kvs)) : muW n W S σ H = 2 * miss n kvs + vs.length := by
  unfold muW
  rw [h1, h2]
def BfsPv (rows : List (List Int)) (H : Hp) (r W S : Addr) (s g : Int) (σ : L2.St) (H2 : Hp) : Prop := ∃ (vs : List V) (wl : List (List Int)) (kvs : List (Key × V)) (u v : Option V), σ = [some (.ref r), some (.int s), some (.int g), some (.ref W), some (.ref S), u, v] ∧ Bfs rows H W S s g (fun _ => False) H2 vs wl kvs ∧ vs.length + 2 * miss rows.length kvs ≤ 2 * rows.length + 1
theorem ok_way_between {f fI : Addr} {fd fdI : FuncData} (F : Fun K "way_between" "way_between" sway_between f fd) (T : Nms mg) (dwindows : DefAt K mg "windows" swindows ["items"] fI fdI) : FnOk P w K mg base CX0 2 f fd ["rows", "start", "goal"] spWay := by
  have gwindows : FnOk P w K mg base CX0 1 fI fdI ["items"] spWins := ok_windows dwindows.F T
  refine F.ok scway_between (fun vs H Q E h => ?_) (fun cdv A outer s0 H vs Q E hr h => ?_)
  · obtain ⟨r, rows, s, g, rfl, _⟩ := h
    rfl
  obtain ⟨r, rows, s, g, rfl, hR, hlen, hes, hsd, h0, h1, kY, kN⟩ := h
  have hu := hu_of hr
  refine ⟨_, (pss_cons (ps_set (i := 3) scway_between.nd rfl (Or.inl rfl) (pe_lst (pa_cons (pe_lst (pa_cons (pv 1) pa_nil)) pa_nil)))
      (pss_cons (ps_set (i := 4) scway_between.nd rfl (Or.inl rfl) pe_dnewK)
      (pss_cons (ps_while PassesOwn.never (pt_truth (pv 3) (fun _ => rfl)) (pss_cons (ps_set (i := 5) scway_between.nd rfl (Or.inl rfl) (pe_bm PySem.F.plainAttrs_list PySem.F.slot_list_pop PySem.F.type_list_pop mt_popAt (pv 3) (pa_cons pe_int pa_nil)))
      (pss_one (ps_for PassesOwn.never rfl (pi_list (pe_def dwindows gwindows hr (pa_cons (pe_ix ix_list (pv 0) (pe_ix ix_list (pv 5) (pe_un un_neg pe_int) (fun _ _ => rfl)) (fun _ _ => rfl)) pa_nil))) (pg_name (i := 6) scway_between.nd rfl (Or.inl rfl))
      (pss_cons (ps_if (pt_cmpR op_eq (pv 6) (pv 2) (nomark _))
      (pss_one (ps_ret (pe_op op_cat (pv 5) (pe_lst (pa_cons (pv 2) pa_nil)))))
      pss_nil)
      (pss_one (ps_if (pt_cmp (pc_dnotin hu (pv 6) (pv 4)))
      (pss_cons (ps_dput hu (pv 4) (pv 6) pe_bl rfl)
      (pss_one (ps_expr (pe_bm PySem.F.plainAttrs_list PySem.F.slot_list_append PySem.F.type_list_append mt_append (pv 3) (pa_cons (pe_op op_cat (pv 5) (pe_lst (pa_cons (pv 6) pa_nil))) pa_nil)))))
      pss_nil)))))))
      (pss_one (ps_ret pe_non))))), ?_⟩
  refine ⟨_, rfl, (by show 1 ≤ sizeLine; decide), fun a0 ha0 => ⟨(by show 1 ≤ sizeLine; decide), fun W hW => ?_⟩⟩
  intro S hS
  have s1 : Same H (upd H a0 (.lst [.int s])) := same_new ha0 _
  have s2 := s1.trans (same_new hW (.lst [.ref a0]))
  have s3 := s2.trans (same_new hS (.dK []))
  have H0W : H W = none := by
    cases e : H W with
    | none => rfl
    | some o => exact absurd ((s1 _ _ e).symm.trans hW) (by simp)
  have H0S : H S = none := by
    cases e : H S with
    | none => rfl
    | some o => exact absurd ((s2 _ _ e).symm.trans hS) (by simp)
  have nWS : W ≠ S := ne_of_none upd_same hS
  have n0W : a0 ≠ W := ne_of_none upd_same hW
  have n0S : a0 ≠ S := ne_of_none (same_new hW _ _ _ upd_same) hS
  refine ⟨fun m σ H2 => m = muW rows.length W S σ H2 ∧ BfsPv rows H r W S s g σ H2, ⟨_, rfl, ?_⟩, ?_⟩
  · have cl := cnt_le rows.length (fun i => (valV ([] : List (Key × V)) (Sum.inl (i : Int))).isNone)
    refine ⟨[.ref a0], [[s]], [], none, none, rfl, ⟨same_new hS _ _ _ upd_same, .cons ⟨a0, rfl, (fun z => z.elim n0W n0S), same_new hS _ _ _ (same_new hW _ _ _ upd_same)⟩ .nil, upd_same, s3, ?_, ?_, ?_⟩, ?_⟩
    · intro w hw
      have : w = [s] := by simpa using hw
      subst this
      exact ⟨Walk.one _ _, by simp, s, rfl, h0, h1⟩
    · show 0 + miss rows.length [] ≤ rows.length
      unfold miss
      omega
    · rintro x (rfl | hx)
      · exact .inl ⟨[x], by simp, rfl⟩
      · cases hx
    · show 1 + 2 * miss rows.length [] ≤ _
      unfold miss
      omega
  · rintro m σ H2 ⟨rfl, vs, wl, kvs, u, v, rfl, B, hml⟩
    rw [muW_eq B.hW B.hS]
    refine ⟨_, rfl, !vs.isEmpty, .inl ⟨vs, SqL.of B.hW, rfl⟩, ?_⟩
    cases vs with
    | nil =>
      refine iteF (kN (fun hreach => ?_) H2 B.sm)
      have hwl := B.hl
      cases hwl
      have base : ∀ x, (x = s ∨ seen kvs x) → ∀ y, Nxt rows x y → y ≠ g ∧ seen kvs y := fun x hx => by
        rcases B.cl x hx with ⟨w, hw, _⟩ | z | z
        · cases hw
        · exact z.elim
        · exact z
      exact (Reach.closed (S := fun y => y ≠ g ∧ seen kvs y) (base s (.inl rfl)) (fun x y hx => base x (.inr hx.2) y) hreach).1 rfl
    | cons v0 vs' =>
      refine iteT ⟨fun σ' H' => BfsPv rows H r W S s g σ' H' ∧ muW rows.length W S σ' H' < 2 * miss rows.length kvs + (v0 :: vs').length, fun σ' H' ⟨p, l⟩ => ⟨_, l, rfl, p⟩, ?_⟩
      obtain ⟨hW2, hl2, hS2, sm2, wk2, kl2, cl2⟩ := id B
      cases hl2 with
      | @cons _ w0 _ wl' hv0 hl2' =>
      obtain ⟨wa, rfl, nwa, hwa⟩ := id hv0
      obtain ⟨wkw, wlw, e, hle, e0, e1⟩ := wk2 w0 (by simp)
      have wal : ∃ w1, w0 = w1 ++ [e] := by
        rw [List.getLast?_eq_some_iff] at hle
        exact hle
      obtain ⟨w1, rfl⟩ := wal
      obtain ⟨es, hes1⟩ : ∃ es, rows[e.toNat]? = some es := ⟨_, List.getElem?_eq_getElem (by omega)⟩
      have hesm : es ∈ rows := List.mem_of_getElem? hes1
      have hesl := hes es hesm
      refine ⟨_, rfl, .inl ⟨rfl, _, SqL.of hW2⟩, W, _, 0, 0, .ref wa, rfl, rfl, hW2, by decide, by decide, (by simp [seqIndex?]), rfl, ?_⟩
      have ee : (V.ref wa :: vs').eraseIdx 0 = vs' := rfl
      rw [ee]
      have ent3 : ∀ {v : V} {ns : List Int}, EntsAt (fun a => a = W ∨ a = S) H2 v ns → EntsAt (fun a => a = W ∨ a = S) (upd H2 W (.lst vs')) v ns := fun h => h.at _ (.inl rfl)
      have sm3 : Same H (upd H2 W (.lst vs')) := keep_of H0W sm2 (keep_upd W _ _)
      obtain ⟨rvs, hr3, hrall⟩ := hR.same sm3
      obtain ⟨vi, hvi, hI⟩ := hrall.get' (i := e.toNat) (b := itemsOf es) (by rw [List.getElem?_map, hes1]; rfl)
      obtain ⟨b, ivs, rfl, hb, hit⟩ := id hI
      have hwa3 : (upd H2 W (.lst vs')) wa = some (.lst (w1.map V.int ++ [.int e])) := by
        rw [upd_ne (fun z => nwa (.inl z)), hwa, List.map_append]
        rfl
      have hil := items_len es []
      refine ⟨_, rfl, _, rfl, _, rfl, wa, _, _, _, rfl, rfl, SqL.of hwa3, atI_neg1 _ _, r, _, _, _, rfl, rfl, SqL.of hr3, ?_, b, itemsOf es, rfl, hI, ?_, fun z H4 hz s4 nz => ?_⟩
      · have z := atI_nat hvi
        rw [show ((e.toNat : Nat) : Int) = e by omega] at z
        exact z
      · show (es.foldl itemsStep []).length ≤ _
        simp only [List.length_nil] at hil
        omega
      rw [wins_itemsOf] at hz
      have hW3 : (upd H2 W (.lst vs')) W = some (.lst vs') := upd_same
      have hS3 : (upd H2 W (.lst vs')) S = some (.dK kvs) := by rw [upd_ne nWS.symm]; exact hS2
      have nzW : z ≠ W := (ne_of_none hW3 nz).symm
      have nzS : z ≠ S := (ne_of_none hS3 nz).symm
      have hwll : (winsE es).length ≤ es.length := List.length_filterMap_le _ es
      refine ⟨z, rfl, ⟨_, SqL.of hz⟩, for_list (K := K) (a := z) (xs := (winsE es).map V.int) (fun i σ H5 => ∃ (vs2 : List V) (wl2 : List (List Int)) (kvs2 : List (Key × V)) (v : Option V), σ = [some (.ref r), some (.int s), some (.int g), some (.ref W), some (.ref S), some (.ref wa), v] ∧
        Bfs rows H W S s g (fun x => x = e) H5 vs2 wl2 kvs2 ∧ EntsAt (fun a => a = W ∨ a = S) H5 (.ref wa) (w1 ++ [e]) ∧ EntsAt (fun a => a = W ∨ a = S) H5 (.ref z) (winsE es) ∧ (∀ y ∈ (winsE es).take i, y ≠ g ∧ seen kvs2 y) ∧ vs2.length + 2 * miss rows.length kvs2 ≤ vs'.length + 2 * miss rows.length kvs ∧ kvs.length ≤ kvs2.length) ?_ ?_ ?_ ?_⟩
      · refine ⟨vs', wl', kvs, _, rfl, ⟨s4 _ _ hW3, hl2'.mono fun _ _ h => (ent3 h).same s4, s4 _ _ hS3, sm3.trans s4, fun w hw => wk2 w (List.mem_cons_of_mem _ hw), kl2, fun x hx => ?_⟩, (ent3 hv0).same s4, ⟨z, rfl, fun q => q.elim nzW nzS, hz⟩, (fun y hy => by simp at hy), Nat.le_refl _, Nat.le_refl _⟩
        rcases cl2 x hx with ⟨w, hw, hwx⟩ | q | q
        · rcases List.mem_cons.mp hw with rfl | hw'
          · refine .inr (.inl ?_)
            rw [hle] at hwx
            exact (Option.some.inj hwx).symm
          · exact .inl ⟨w, hw', hwx⟩
        · exact q.elim
        · exact .inr (.inr q)
      · rintro i σ H5 _ ⟨_, _, _, _, _, _, _, ⟨a, ea, _, ha⟩, _⟩
        cases ea
        exact SqL.of ha
      · rintro i x σ H5 hi ⟨vs2, wl2, kvs2, v, rfl, B5, hwa5, hz5, hdone, hm5, hk5⟩
        rw [List.getElem?_map] at hi
        obtain ⟨y, ey, rfl⟩ := Option.map_eq_some_iff.mp hi
        have hyn : Nxt rows e y := ⟨e0, es, hes1, List.mem_of_getElem? ey⟩
        obtain ⟨y0, y1⟩ := hsd.nxt hyn
        obtain ⟨wa', ewa, nwa5, hwa5'⟩ := id hwa5
        cases ewa
        have wl0 : (w1 ++ [e]).length ≤ 2000 := by have := B5.kl; omega
        refine ⟨_, rfl, _, rfl, rfl, _, rfl, ite2 (fun c => ?_) (fun c => ?_)⟩
        · have eg : y = g := V.int.inj (of_decide_eq_true c)
          subst eg
          refine ⟨_, rfl, _, rfl, (by show 1 ≤ sizeLine; decide), fun b1 hb1 => ⟨wa, b1, _, _, rfl, rfl, same_new hb1 _ _ _ hwa5', upd_same, Nat.le_of_lt (million (by rw [List.length_map]; simp at wl0 ⊢; omega)), fun o ho => ?_⟩⟩
          refine kY (w1 ++ [e] ++ [y]) o _ ?_ ((B5.sm.trans (same_new hb1 _)).trans (same_new ho _)) (wkw.snoc hle hyn) (by simp) (by have := B5.kl; rw [List.length_append, List.length_singleton]; omega) (by simp)
          rw [upd_same, List.map_append (l₁ := w1 ++ [e])]
          rfl
        · have eg : ¬ y = g := fun q => c (decide_eq_true (congrArg V.int q))
          refine ⟨_, rfl, _, rfl, S, _, rfl, DGet.k (k := Sum.inl y) B5.hS, _, rfl, ?_⟩
          have done2 : ∀ kvs3 : List (Key × V), (∀ x, seen kvs2 x → seen kvs3 x) → seen kvs3 y → ∀ y' ∈ (winsE es).take (i + 1), y' ≠ g ∧ seen kvs3 y' := fun kvs3 hmono hy y' hy' => by
            rw [take_snoc ey] at hy'
            rcases List.mem_append.mp hy' with q | q
            · exact ⟨(hdone y' q).1, hmono _ (hdone y' q).2⟩
            · have : y' = y := by simpa using q
              subst this
              exact ⟨eg, hy⟩
          cases ev : valV kvs2 (Sum.inl y) with
          | some o1 =>
            refine iteF ?_
            exact ⟨vs2, wl2, kvs2, _, rfl, B5, hwa5, hz5, done2 kvs2 (fun _ q => q) (by unfold seen; rw [ev]; rfl), hm5, hk5⟩
          | none =>
            refine iteT ?_
            have kll := B5.kl
            refine ⟨_, rfl, _, rfl, S, _, rfl, DPut.k (k := Sum.inl y) B5.hS (million (by omega)), ?_⟩
            have e6 : ∀ {v : V} {ns : List Int}, EntsAt (fun a => a = W ∨ a = S) H5 v ns → EntsAt (fun a => a = W ∨ a = S) (upd H5 S (.dK (putK kvs2 (Sum.inl y) (.bl true)))) v ns := fun h => h.at _ (.inr rfl)
            have s6 : Same H (upd H5 S (.dK (putK kvs2 (Sum.inl y) (.bl true)))) := keep_of H0S B5.sm (keep_upd S _ _)
            have hW6 : (upd H5 S (.dK (putK kvs2 (Sum.inl y) (.bl true)))) W = some (.lst vs2) := by rw [upd_ne nWS]; exact B5.hW
            have hwa6 : (upd H5 S (.dK (putK kvs2 (Sum.inl y) (.bl true)))) wa = some (.lst ((w1 ++ [e]).map V.int)) := by rw [upd_ne (fun q => nwa5 (.inr q))]; exact hwa5'
            have hS6 : (upd H5 S (.dK (putK kvs2 (Sum.inl y) (.bl true)))) S = some (.dK (putK kvs2 (Sum.inl y) (.bl true))) := upd_same
            generalize upd H5 S (.dK (putK kvs2 (Sum.inl y) (.bl true))) = H6 at e6 s6 hW6 hwa6 hS6
            have vl : vs2.length < sizeLine := million (by simp only [List.length_cons] at hml; omega)
            refine ⟨_, rfl, .inl ⟨rfl, _, SqL.of hW6⟩, _, rfl, _, rfl, (by show 1 ≤ sizeLine; decide), fun b1 hb1 => ⟨wa, b1, _, _, rfl, rfl, same_new hb1 _ _ _ hwa6, upd_same, Nat.le_of_lt (million (by rw [List.length_map]; simp at wl0 ⊢; omega)), fun o ho => ⟨W, _, _, rfl, rfl, same_new ho _ _ _ (same_new hb1 _ _ _ hW6), vl, ?_⟩⟩⟩
            have s7 : Same H6 (upd H6 b1 (.lst [.int y])) := same_new hb1 _
            have s8 := s7.trans (same_new ho (.lst ((w1 ++ [e]).map V.int ++ [.int y])))
            have noW : o ≠ W := (ne_of_none (s7 _ _ hW6) ho).symm
            have noS : o ≠ S := (ne_of_none (s7 _ _ hS6) ho).symm
            have e9 : ∀ {v : V} {ns : List Int}, EntsAt (fun a => a = W ∨ a = S) H5 v ns → EntsAt (fun a => a = W ∨ a = S) (upd (upd (upd H6 b1 (.lst [.int y])) o (.lst ((w1 ++ [e]).map V.int ++ [.int y]))) W (.lst (vs2 ++ [.ref o]))) v ns := fun h => ((e6 h).same s8).at _ (.inl rfl)
            have mp := miss_put (n := rows.length) (.bl true) y0 y1 ev
            have pl : (putK kvs2 (Sum.inl y) (.bl true)).length = kvs2.length + 1 := by rw [putK_new _ ev]; simp
            have mono : ∀ x, seen kvs2 x → seen (putK kvs2 (Sum.inl y) (.bl true)) x := fun x q => (seen_put _).mpr (.inr q)
            have sy : seen (putK kvs2 (Sum.inl y) (.bl true)) y := (seen_put _).mpr (.inl rfl)
            refine ⟨vs2 ++ [.ref o], wl2 ++ [w1 ++ [e] ++ [y]], putK kvs2 (Sum.inl y) (.bl true), _, rfl, ⟨upd_same, All2.snoc (B5.hl.mono fun _ _ h => e9 h) ⟨o, rfl, fun q => q.elim noW noS, ?_⟩, ?_, keep_of H0W (s6.trans s8) (keep_upd W _ _), ?_, ?_, ?_⟩, e9 hwa5, e9 hz5, done2 _ mono sy, ?_, ?_⟩
            · rw [upd_ne noW, upd_same, List.map_append (l₁ := w1 ++ [e])]
              rfl
            · rw [upd_ne nWS.symm]
              exact s8 _ _ hS6
            · intro w hw
              rcases List.mem_append.mp hw with q | q
              · obtain ⟨q1, q2, q3⟩ := B5.wk w q
                exact ⟨q1, by omega, q3⟩
              · have : w = w1 ++ [e] ++ [y] := by simpa using q
                subst this
                refine ⟨wkw.snoc hle hyn, ?_, y, by simp, y0, y1⟩
                rw [List.length_append, List.length_singleton, pl]
                omega
            · omega
            · intro x hx
              have old : (x = s ∨ seen kvs2 x) → (∃ w ∈ wl2 ++ [w1 ++ [e] ++ [y]], w.getLast? = some x) ∨ x = e ∨ ∀ y_1, Nxt rows x y_1 → y_1 ≠ g ∧ seen (putK kvs2 (Sum.inl y) (.bl true)) y_1 := fun q => by
                rcases B5.cl x q with ⟨w, hw, hl⟩ | q | q
                · exact .inl ⟨w, List.mem_append_left _ hw, hl⟩
                · exact .inr (.inl q)
                · exact .inr (.inr fun y' hy' => ⟨(q y' hy').1, mono _ (q y' hy').2⟩)
              rcases hx with q | q
              · exact old (.inl q)
              · rcases (seen_put _).mp q with rfl | q'
                · exact .inl ⟨w1 ++ [e] ++ [x], by simp, by simp⟩
                · exact old (.inr q')
            · rw [List.length_append, List.length_singleton]
              omega
            · omega
      · rintro σ H5 ⟨vs2, wl2, kvs2, v, rfl, B5, hwa5, hz5, hdone, hm5, hk5⟩
        rw [List.length_map, List.take_length] at hdone
        have B6 : Bfs rows H W S s g (fun _ => False) H5 vs2 wl2 kvs2 := ⟨B5.hW, B5.hl, B5.hS, B5.sm, B5.wk, B5.kl, fun x hx => by
          rcases B5.cl x hx with q | rfl | q
          · exact .inl q
          · refine .inr (.inr fun y hy => hdone y ?_)
            obtain ⟨_, es', he', hy'⟩ := hy
            rw [hes1] at he'
            cases he'
            exact hy'
          · exact .inr (.inr q)⟩
        simp only [List.length_cons] at hml
        refine ⟨⟨vs2, wl2, kvs2, _, _, rfl, B6, by omega⟩, ?_⟩
        rw [muW_eq B6.hW B6.hS, List.length_cons]
        omega

def spRing : Sp := fun vs H Q E => ∃ (r : Addr) (s : Int), vs = [.ref r, .int s] ∧ spWay [.ref r, .int s, .int s] H Q E
abbrev sring : Stmt := top 39
theorem scring : FnScope ["rows", "sheet"] ["rows", "sheet"] (defScope sring) := ⟨rfl, rfl, rfl, by decide +kernel, rfl, by decide +kernel, by decide +kernel⟩
theorem ok_ring {f fI fJ : Addr} {fd fdI fdJ : FuncData} (F : Fun K "ring" "ring" sring f fd) (T : Nms mg) (dwindows : DefAt K mg "windows" swindows ["items"] fI fdI) (dway_between : DefAt K mg "way_between" sway_between ["rows", "start", "goal"] fJ fdJ) : FnOk P w K mg base CX0 3 f fd ["rows", "sheet"] spRing := by
  have gway_between : FnOk P w K mg base CX0 2 fJ fdJ ["rows", "start", "goal"] spWay := ok_way_between dway_between.F T dwindows
  refine F.ok scring (fun vs H Q E h => ?_) (fun cdv A outer s H vs Q E hr h => ?_)
  · obtain ⟨r, s, rfl, _⟩ := h
    rfl
  obtain ⟨r, s, rfl, h⟩ := h
  refine ⟨_, (pss_one (ps_ret (pe_def dway_between gway_between hr (pa_cons (pv 0) (pa_cons (pv 1) (pa_cons (pv 1) pa_nil)))))), ?_⟩
  refine ⟨_, rfl, _, rfl, _, rfl, ?_⟩
  obtain ⟨r', rows, s', g, e, h1, h2, h3, h4, h5, h6, kY, kN⟩ := h
  cases e
  exact ⟨r, rows, s, s, rfl, h1, h2, h3, h4, h5, h6, kY, kN⟩

/-- what an entry counts, an item counts, where f tells what sheets weigh -/
def entW (f : Int → Int) (es : List Int) : Int := (es.map fun e => if e < 0 then 1 + f (-1 - e) else 1).sum
def itW1 (f : Int → Int) : Item → Int
  | .win n => 1 + f n
  | .ink a b => b - a
def itW (f : Int → Int) (its : List Item) : Int := (its.map (itW1 f)).sum
theorem itW_append (f : Int → Int) (a b : List Item) : itW f (a ++ b) = itW f a + itW f b := by unfold itW; rw [List.map_append, List.sum_append]
theorem itW_step (f : Int → Int) (t : List Item) (e : Int) : itW f (itemsStep t e) = itW f t + (if e < 0 then 1 + f (-1 - e) else 1) := by
  unfold itemsStep
  by_cases h : e < 0
  · rw [if_pos h, if_pos h, itW_append]
    simp [itW, itW1]
  · rw [if_neg h, if_neg h]
    rcases List.eq_nil_or_concat t with rfl | ⟨t', l, rfl⟩
    · simp [itW, itW1]
      omega
    · rw [List.concat_eq_append, List.getLast?_concat]
      cases l with
      | win n =>
        show itW f (t' ++ [Item.win n] ++ [.ink e (e + 1)]) = _
        rw [itW_append]
        simp [itW, itW1]
        omega
      | ink a b =>
        show itW f (if b = e then (t' ++ [Item.ink a b]).dropLast ++ [.ink a (e + 1)] else (t' ++ [Item.ink a b]) ++ [.ink e (e + 1)]) = _
        by_cases hb : b = e
        · rw [if_pos hb, List.dropLast_concat, itW_append, itW_append]
          simp [itW, itW1]
          omega
        · rw [if_neg hb, itW_append]
          simp [itW, itW1]
          omega
theorem itW_items (f : Int → Int) (es : List Int) : itW f (itemsOf es) = entW f es := by
  have z : ∀ t : List Item, itW f (es.foldl itemsStep t) = itW f t + entW f es := by
    induction es with
    | nil => intro t; simp [entW]
    | cons e es ih =>
      intro t
      rw [List.foldl_cons, ih, itW_step]
      unfold entW
      rw [List.map_cons, List.sum_cons]
      omega
  have := z []
  unfold itemsOf
  rw [this]
  simp [itW]
/-- f tells what sheets weigh -/
def Weighs (rows : List (List Int)) (f : Int → Int) : Prop := ∀ (x : Int) (es : List Int), 0 ≤ x → rows[x.toNat]? = some es → f x = entW f es
def spIw : Sp := fun vs H Q _ => ∃ (v : V) (it : Item) (S : Addr) (kvs : List (Key × V)) (f : Int → Int), vs = [v, .ref S] ∧ ItemAt H v it ∧ H S = some (.dK kvs) ∧ (∀ n, it = .win n → valV kvs (Sum.inl n) = some (.int (f n))) ∧ Q (.int (itW1 f it)) H
abbrev sitem_weight : Stmt := top 36
theorem scitem_weight : FnScope ["item", "weights"] ["item", "weights"] (defScope sitem_weight) := ⟨rfl, rfl, rfl, by decide +kernel, rfl, by decide +kernel, by decide +kernel⟩
theorem ok_item_weight {g : Addr} {fd : FuncData} (F : Fun K "item_weight" "item_weight" sitem_weight g fd) (T : Nms mg) : FnOk P w K mg base CX0 1 g fd ["item", "weights"] spIw := by
  refine F.ok scitem_weight (fun vs H Q E h => ?_) (fun cdv A outer s H vs Q E hr h => ?_)
  · obtain ⟨v, it, S, kvs, f, rfl, _⟩ := h
    rfl
  obtain ⟨v, it, S, kvs, f, rfl, ⟨a, rfl, ha⟩, hS, hw, k⟩ := h
  have hu := hu_of hr
  refine ⟨_, (pss_cons (ps_if (pt_cmpR op_eq (pe_ix ix_tup (pv 0) pe_int (fun _ _ => rfl)) pe_str (nomark _))
      (pss_one (ps_ret (pe_op op_add pe_int (pe_dget hu (pv 1) (pe_ix ix_tup (pv 0) pe_int (fun _ _ => rfl)) (fun _ _ => rfl)))))
      pss_nil)
      (pss_one (ps_ret (pe_op op_sub (pe_ix ix_tup (pv 0) pe_int (fun _ _ => rfl)) (pe_ix ix_tup (pv 0) pe_int (fun _ _ => rfl)))))), ?_⟩
  cases it with
  | win n =>
    refine ⟨_, rfl, a, _, _, _, rfl, rfl, SqT.of ha, rfl, rfl, _, rfl, ite2 (fun _ => ?_) (fun z => absurd (by decide) z)⟩
    have z := DGet.k (k := Sum.inl n) hS
    rw [hw n rfl] at z
    exact ⟨_, rfl, _, rfl, a, _, _, _, rfl, rfl, SqT.of ha, rfl, S, _, rfl, z, _, _, rfl, rfl, k⟩
  | ink p q =>
    refine ⟨_, rfl, a, _, _, _, rfl, rfl, SqT.of ha, rfl, rfl, _, rfl, ite2 (fun z => absurd z (by decide)) (fun _ => ?_)⟩
    exact ⟨_, rfl, a, _, _, _, rfl, rfl, SqT.of ha, rfl, _, rfl, a, _, _, _, rfl, rfl, SqT.of ha, rfl, _, _, rfl, rfl, k⟩

def spWeightsB : Sp := fun vs H Q _ => ∃ (r L : Addr) (rows : List (List Int)) (ss : List Int) (f : Int → Int), vs = [.ref r, .ref L] ∧ SheetsAt H r (rows.map itemsOf) ∧ H L = some (.lst (ss.map V.int)) ∧ ss.length ≤ 1000 ∧ rows.length ≤ 1000 ∧ (∀ es ∈ rows, es.length ≤ 1000) ∧ Sound rows ∧ Rkd rows ∧ (∀ s ∈ ss, 0 ≤ s ∧ s < rows.length) ∧ Weighs rows f ∧
  ∀ (S : Addr) (kvs : List (Key × V)) (H' : Hp), H' S = some (.dK kvs) → (∀ s ∈ ss, valV kvs (Sum.inl s) = some (.int (f s))) → Same H H' → H S = none → Q (.ref S) H'
abbrev sweights_below : Stmt := top 37
theorem scweights_below : FnScope ["rows", "sheets", "weights", "number"] ["rows", "sheets"] (defScope sweights_below) := ⟨rfl, rfl, rfl, by decide +kernel, rfl, by decide +kernel, by decide +kernel⟩
theorem ok_weights_below {g fI fB fW : Addr} {fd fdI fdB fdW : FuncData} (F : Fun K "weights_below" "weights_below" sweights_below g fd) (T : Nms mg) (dwindows : DefAt K mg "windows" swindows ["items"] fI fdI) (dbelow : DefAt K mg "below" sbelow ["rows", "sheets"] fB fdB) (ditem_weight : DefAt K mg "item_weight" sitem_weight ["item", "weights"] fW fdW) : FnOk P w K mg base CX0 3 g fd ["rows", "sheets"] spWeightsB := by
  have gbelow : FnOk P w K mg base CX0 2 fB fdB ["rows", "sheets"] spBelow := ok_below dbelow.F T dwindows
  have gitem_weight : FnOk P w K mg base CX0 1 fW fdW ["item", "weights"] spIw := ok_item_weight ditem_weight.F T
  refine F.ok scweights_below (fun vs H Q E h => ?_) (fun cdv A outer s0 H vs Q E hr h => ?_)
  · obtain ⟨r, L, rows, ss, f, rfl, _⟩ := h
    rfl
  obtain ⟨r, L, rows, ss, f, rfl, hR, hL, hsl, hlen, hes, hsd, hrk, hin, hf, k⟩ := h
  have hu := hu_of hr
  refine ⟨_, (pss_cons (ps_set (i := 2) scweights_below.nd rfl (Or.inr rfl) pe_dnewK)
      (pss_cons (ps_for PassesOwn.never rfl (pi_list (pe_def dbelow gbelow hr (pa_cons (pv 0) (pa_cons (pv 1) pa_nil)))) (pg_name (i := 3) scweights_below.nd rfl (Or.inl rfl))
      (pss_one (ps_dput hu (pv 2) (pv 3) (pe_callB (call_sum rfl) rfl T.n_sum PyProof.Rows.boot_sum (pa_cons (pe_compG (N := ["item", "weights"]) (compG (sc := defScope sweights_below) (NX := ["rows", "sheets", "weights", "number"]) (jx := [none, some 2]) rfl rfl rfl (by decide +kernel) (by decide +kernel) rfl (by decide +kernel) rfl (by decide +kernel)) rfl (pi_list (pe_ix ix_list (pv 0) (pv 3) (fun _ _ => rfl))) (fun _ _ _ _ _ _ => (pg_name (i := 0) (show List.Nodup (["item", "weights"] : List Str) by decide +kernel) rfl (Or.inl rfl))) (fun _ _ _ _ _ _ => pts_nil) (fun _ _ _ _ _ _ => (pe_def ditem_weight gitem_weight hr (pa_cons (pv 0) (pa_cons (pv 1) pa_nil))))) pa_nil)) rfl)))
      (pss_one (ps_ret (pv 2))))), ?_⟩
  intro S hS
  have s1 : Same H (upd H S (.dK [])) := same_new hS _
  refine ⟨_, rfl, _, rfl, r, L, rows, ss, rfl, hR.same s1, s1 _ _ hL, hsl, hlen, hes, hsd, hrk, hin, fun ks o H2 ho s2 tp sk kl hno => ?_⟩
  have hS2 := s2 _ _ (upd_same (H := H) (a := S) (o := .dK []))
  have noS : o ≠ S := (ne_of_none upd_same hno).symm
  refine ⟨o, rfl, ⟨_, SqL.of ho⟩, for_list (K := K) (a := o) (xs := ks.map V.int) (fun i σ H3 => ∃ (kvs : List (Key × V)) (u : Option V), σ = [some (.ref r), some (.ref L), some (.ref S), u] ∧ H3 S = some (.dK kvs) ∧ (∀ y ∈ ks.take i, valV kvs (Sum.inl y) = some (.int (f y))) ∧ kvs.length ≤ i ∧ (∀ a ob, a ≠ S → H2 a = some ob → H3 a = some ob)) ⟨[], none, rfl, hS2, (fun y hy => by simp at hy), Nat.le_refl _, fun _ _ _ e => e⟩ ?_ ?_ ?_⟩
  · rintro i σ H3 _ ⟨_, _, _, _, _, _, k3⟩
    exact SqL.of (k3 o _ noS ho)
  · rintro i x σ H3 hi ⟨kvs, u, rfl, hS3, hv3, hk3, k3⟩
    rw [List.getElem?_map] at hi
    obtain ⟨x, ex, rfl⟩ := Option.map_eq_some_iff.mp hi
    obtain ⟨x0, x1⟩ := tp.rng x (List.mem_of_getElem? ex)
    obtain ⟨es, hes1⟩ : ∃ es, rows[x.toNat]? = some es := ⟨_, List.getElem?_eq_getElem (by omega)⟩
    have hesl := hes es (List.mem_of_getElem? hes1)
    have sm3 : Same H H3 := fun a ob e => k3 a ob (ne_of_none e hS) (s2 _ _ (s1 _ _ e))
    obtain ⟨rvs, hr3, hrall⟩ := hR.same sm3
    obtain ⟨vi, hvi, hI⟩ := hrall.get' (i := x.toNat) (b := itemsOf es) (by rw [List.getElem?_map, hes1]; rfl)
    obtain ⟨b, ivs, rfl, hb, hit⟩ := id hI
    have hil := items_len es []
    have hil2 : (itemsOf es).length ≤ 1000 := by
      show (es.foldl itemsStep []).length ≤ _
      simp only [List.length_nil] at hil
      omega
    have arow : atI rvs x = some (.ref b) := by
      have z := atI_nat hvi
      rw [show ((x.toNat : Nat) : Int) = x by omega] at z
      exact z
    refine ⟨_, rfl, _, rfl, r, _, _, _, rfl, rfl, SqL.of hr3, arow, b, rfl, ⟨_, SqL.of hb⟩, fun acc hacc => compF_list (K := K) (a := b) (xs := ivs) (fun j σ H5 => ∃ u : Option V, σ = [u, some (.ref S)] ∧ H5 acc = some (.lst ((((itemsOf es).take j).map (itW1 f)).map V.int)) ∧ Same H3 H5) ⟨none, rfl, upd_same, same_new hacc _⟩ (fun j σ H5 _ ⟨_, _, _, s5⟩ => SqL.of (s5 _ _ hb)) ?_ ?_⟩
    · rintro j v σ H5 hj ⟨u, rfl, h5, s5⟩
      obtain ⟨it, ei, hiv⟩ := hit.get hj
      have st := take_snoc ei
      unfold gName tYes
      refine iteT ⟨_, rfl, _, rfl, v, it, S, kvs, f, rfl, hiv.same s5, s5 _ _ hS3, fun n hn => ?_, ?_⟩
      · subst hn
        refine hv3 n (tp.dn i x ex n ⟨x0, es, hes1, ?_⟩)
        rw [← wins_itemsOf]
        unfold winsOf
        rw [List.mem_filterMap]
        exact ⟨.win n, List.mem_of_getElem? ei, rfl⟩
      · refine ⟨_, h5, (by rw [List.length_map, List.length_map, List.length_take]; exact million (by omega)), _, rfl, ?_, keep_of hacc s5 (keep_upd acc _ _)⟩
        rw [upd_same, st, List.map_append, List.map_append]
        rfl
    · rintro σ H5 ⟨u, rfl, h5, s5⟩
      rw [hit.len, List.take_length] at h5
      have es1 : ((itemsOf es).map (itW1 f)).sum = f x := by rw [hf x es x0 hes1]; exact itW_items f es
      have hS5 := s5 _ _ hS3
      have kvl : i < ks.length := by
        rcases Nat.lt_or_ge i ks.length with q | q
        · exact q
        · rw [List.getElem?_eq_none q] at ex; cases ex
      refine ⟨acc, _, rfl, SqL.of h5, ?_⟩
      rw [es1]
      refine ⟨_, rfl, _, rfl, S, _, rfl, DPut.k (k := Sum.inl x) hS5 (million (by omega)), ?_⟩
      refine ⟨putK kvs (Sum.inl x) (.int (f x)), _, rfl, upd_same, fun y hy => ?_, ?_, fun a ob n e => ?_⟩
      · rw [valV_put]
        rw [take_snoc ex] at hy
        by_cases c : y = x
        · rw [if_pos (by rw [c]), c]
        · rw [if_neg (fun z => c (Sum.inl.inj z))]
          rcases List.mem_append.mp hy with q | q
          · exact hv3 y q
          · exact absurd (by simpa using q) c
      · have := length_putK kvs (Sum.inl x) (V.int (f x))
        omega
      · rw [upd_ne n]
        exact s5 _ _ (k3 a ob n e)
  · rintro σ H3 ⟨kvs, u, rfl, hS3, hv3, hk3, k3⟩
    rw [List.length_map, List.take_length] at hv3
    exact ⟨_, rfl, k S kvs H3 hS3 (fun s hs => hv3 s (sk s hs)) (fun a ob e => k3 a ob (ne_of_none e hS) (s2 _ _ (s1 _ _ e))) hS⟩

abbrev splain : Stmt := top 11
theorem scplain : FnScope ["row", "told", "start", "stop"] ["row"] (defScope splain) := ⟨rfl, rfl, rfl, by decide +kernel, rfl, by decide +kernel, by decide +kernel⟩
theorem ok_plain {f : Addr} {fd : FuncData} (F : Fun K "plain" "plain" splain f fd) : FnOk P w K mg base CX0 1 f fd ["row"] spPlain := by
  refine F.ok scplain (fun vs H Q E h => ?_) (fun cdv A outer s H vs Q E hr h => ?_)
  · obtain ⟨r, row, rfl, _⟩ := h
    rfl
  obtain ⟨r, row, rfl, ⟨as, hr1, hp⟩, hlen, k⟩ := h
  refine ⟨_, (pss_cons (ps_set (i := 1) scplain.nd rfl (Or.inl rfl) (pe_lst pa_nil))
      (pss_cons (ps_for PassesOwn.never rfl (pi_list (pv 0)) (pg_tup (n := 2) rfl (pgs_cons (pg_name (i := 2) scplain.nd rfl (Or.inl rfl)) (pgs_cons (pg_name (i := 3) scplain.nd rfl (Or.inl rfl)) pgs_nil)))
      (pss_cons (ps_if (pt_cmpR op_eq (pv 2) (pv 3) (nomark _))
      (pss_one ps_continue)
      pss_nil)
      (pss_one (ps_if (PW.pt (pw_and (pt_truth (pv 1) (fun _ => rfl)) (pw_and1 (pt_cmpR op_eq (pe_ix ix_tup (pe_ix ix_list (pv 1) (pe_un un_neg pe_int) (fun _ _ => rfl)) pe_int (fun _ _ => rfl)) (pv 2) (nomark _)))))
      (pss_one (ps_asg (pe_tup (pa_cons (pe_ix ix_tup (pe_ix ix_list (pv 1) (pe_un un_neg pe_int) (fun _ _ => rfl)) pe_int (fun _ _ => rfl)) (pa_cons (pv 3) pa_nil))) (pg_sub (pv 1) (pe_un un_neg pe_int) set_list)))
      (pss_one (ps_expr (pe_bm PySem.F.plainAttrs_list PySem.F.slot_list_append PySem.F.type_list_append mt_append (pv 1) (pa_cons (pe_tup (pa_cons (pv 2) (pa_cons (pv 3) pa_nil))) pa_nil))))))))
      (pss_one (ps_ret (pv 1))))), ?_⟩
  refine ⟨(by show 0 ≤ sizeLine; decide), fun q hq => ?_⟩
  have s0 : Same H (upd H q (.lst [])) := same_new hq _
  refine ⟨_, rfl, r, rfl, ⟨_, SqL.of (s0 _ _ hr1)⟩, for_list (K := K) (a := r) (xs := as.map V.ref) (fun i σ H2 => ∃ (bs : List Addr) (u v : Option V), σ = [some (.ref r), some (.ref q), u, v] ∧ H2 q = some (.lst (bs.map V.ref)) ∧ PairsAt H2 bs ((row.take i).foldl plainStep []) ∧ Same H H2)
    ⟨[], none, none, rfl, upd_same, .nil, s0⟩ (fun i σ H2 _ ⟨_, _, _, _, _, _, s⟩ => SqL.of (s _ _ hr1)) ?_ ?_⟩
  · rintro i x σ H2 hi ⟨bs, u, v, rfl, hq2, hb, s⟩
    rw [List.getElem?_map] at hi
    obtain ⟨a, ea, rfl⟩ := Option.map_eq_some_iff.mp hi
    obtain ⟨⟨st, en⟩, ep, ha⟩ := hp.get ea
    have step := take_fold (f := plainStep) ep
    have bl : bs.length < sizeLine := by
      have z := hb.len
      have z2 := plain_le (row.take i) []
      rw [List.length_take] at z2
      exact million (by simp only [List.length_nil] at z2; omega)
    refine ⟨a, _, rfl, SqT.of (s _ _ ha), rfl, _, _, rfl, _, _, rfl, rfl, ?_⟩
    refine ⟨_, rfl, _, rfl, rfl, _, rfl, ite2 (fun c => ?_) (fun c => ?_)⟩
    · have e : st = en := V.int.inj (of_decide_eq_true c)
      refine ⟨bs, _, _, rfl, hq2, ?_, s⟩
      rw [step, plainStep, if_pos e]
      exact hb
    · have e : ¬ st = en := fun z => c (decide_eq_true (congrArg V.int z))
      rw [plainStep, if_neg e] at step
      rcases List.eq_nil_or_concat ((row.take i).foldl plainStep []) with hn | ⟨rw0, q0, hn⟩
      · rw [hn] at hb step
        have hbs : bs = [] := List.eq_nil_of_length_eq_zero hb.len
        subst hbs
        refine ⟨_, rfl, false, .inl ⟨_, SqL.of hq2, rfl⟩, iteF (iteF ?_)⟩
        refine ⟨_, rfl, .inl ⟨rfl, _, SqL.of hq2⟩, _, rfl, _, rfl, (by show 2 ≤ sizeLine; decide), fun t ht => ⟨q, _, _, rfl, rfl, same_new ht _ _ _ hq2, (by show 0 < sizeLine; decide), ?_⟩⟩
        obtain ⟨g1, g2, g3⟩ := grown (st := st) (en := en) hq s hq2 hb ht
        refine ⟨[] ++ [t], _, _, rfl, g1, ?_, g3⟩
        rw [step, grow_nil]
        exact g2
      · rw [List.concat_eq_append] at hn
        rw [hn] at hb step
        obtain ⟨cs, a0, rfl, hc, ha0⟩ := hb.split
        have hq3 : H2 q = some (.lst (cs.map V.ref ++ [.ref a0])) := by rw [hq2, List.map_append]; rfl
        refine ⟨_, rfl, true, .inl ⟨_, SqL.of hq3, by simp⟩, iteT ?_⟩
        refine ⟨_, rfl, _, rfl, q, _, _, _, rfl, rfl, SqL.of hq3, atI_neg1 _ _, a0, _, _, _, rfl, rfl, SqT.of ha0, at21, _, rfl, rfl, _, rfl, ite2 (fun c2 => ?_) (fun c2 => ?_)⟩
        · have e2 : q0.2 = st := V.int.inj (of_decide_eq_true c2)
          refine ⟨_, rfl, _, rfl, q, _, _, _, rfl, rfl, SqL.of hq3, atI_neg1 _ _, a0, _, _, _, rfl, rfl, SqT.of ha0, at20, _, rfl, (by show 2 ≤ sizeLine; decide), fun t ht => ?_⟩
          refine ⟨_, rfl, _, rfl, q, _, _, cs.length, rfl, rfl, same_new ht _ _ _ hq3, ixLast cs a0, ?_⟩
          obtain ⟨g1, g2, g3⟩ := turned (st := q0.1) (en := en) hq s hq3 hc ht
          refine ⟨cs ++ [t], _, _, rfl, g1, ?_, g3⟩
          rw [step, grow_pos _ e2]
          exact g2
        · have e2 : ¬ q0.2 = st := fun z => c2 (decide_eq_true (congrArg V.int z))
          refine ⟨_, rfl, .inl ⟨rfl, _, SqL.of hq2⟩, _, rfl, _, rfl, (by show 2 ≤ sizeLine; decide), fun t ht => ⟨q, _, _, rfl, rfl, same_new ht _ _ _ hq2, (by rw [List.length_map]; exact bl), ?_⟩⟩
          obtain ⟨g1, g2, g3⟩ := grown (st := st) (en := en) hq s hq2 hb ht
          refine ⟨cs ++ [a0] ++ [t], _, _, rfl, g1, ?_, g3⟩
          rw [step, grow_neg _ e2]
          exact g2
  · rintro σ H2 ⟨bs, u, v, rfl, hq2, hb, s⟩
    refine ⟨_, rfl, k q H2 ⟨bs, hq2, ?_⟩ s hq⟩
    rw [List.length_map, hp.len, List.take_length] at hb
    exact hb

def itRow (g : Int → Row) : Item → Row
  | .win n => g n
  | .ink a b => [(a, b)]
/-- what entries show, where sh tells what sheets show -/
def entS (sh : Int → List Int) (e : Int) : List Int := if e < 0 then sh (-1 - e) else [e]
def showE (sh : Int → List Int) (es : List Int) : List Int := es.flatMap (entS sh)
def Shows (rows : List (List Int)) (sh : Int → List Int) : Prop := ∀ (x : Int) (es : List Int), 0 ≤ x → rows[x.toNat]? = some es → sh x = showE sh es
def rowsIt (sh : Int → List Int) (its : List Item) : Row := its.flatMap (itRow fun n => rowOf (sh n))
def InkOk (t : List Item) : Prop := ∀ a b, Item.ink a b ∈ t → a < b
theorem rowsIt_append (sh : Int → List Int) (a b : List Item) : rowsIt sh (a ++ b) = rowsIt sh a ++ rowsIt sh b := by unfold rowsIt; rw [List.flatMap_append]
theorem rowsIt_one (sh : Int → List Int) (it : Item) : rowsIt sh [it] = itRow (fun n => rowOf (sh n)) it := by simp [rowsIt]
theorem step_rows (sh : Int → List Int) (t : List Item) (e : Int) (ok : InkOk t) : spell (rowsIt sh (itemsStep t e)) = spell (rowsIt sh t) ++ entS sh e ∧ InkOk (itemsStep t e) := by
  have add : ∀ it : Item, (∀ a b, it = .ink a b → a < b) → InkOk (t ++ [it]) := fun it h a b hm => by
    rcases List.mem_append.mp hm with z | z
    · exact ok a b z
    · exact h a b (List.mem_singleton.mp z).symm
  unfold itemsStep
  by_cases h : e < 0
  · rw [if_pos h]
    refine ⟨?_, add _ fun a b z => by cases z⟩
    rw [rowsIt_append, spell_append, rowsIt_one]
    show _ ++ spell (rowOf (sh (-1 - e))) = _
    rw [spell_rowOf]
    unfold entS
    rw [if_pos h]
  · rw [if_neg h]
    have one : spell [(e, e + 1)] = [e] := by
      rw [spell_one]
      unfold span
      have : (e + 1 - e).toNat = 1 := by omega
      show run e (e + 1 - e).toNat = _
      rw [this]
      rfl
    have es1 : entS sh e = [e] := by unfold entS; rw [if_neg h]
    have plainAdd : spell (rowsIt sh (t ++ [.ink e (e + 1)])) = spell (rowsIt sh t) ++ entS sh e ∧ InkOk (t ++ [.ink e (e + 1)]) := by
      refine ⟨?_, add _ fun a b z => by cases z; omega⟩
      rw [rowsIt_append, spell_append, rowsIt_one, es1]
      show _ ++ spell [(e, e + 1)] = _
      rw [one]
    rcases List.eq_nil_or_concat t with rfl | ⟨t', l, rfl⟩
    · exact plainAdd
    · rw [List.concat_eq_append] at ok add plainAdd ⊢
      rw [List.getLast?_concat]
      cases l with
      | win n => exact plainAdd
      | ink a b =>
        show spell (rowsIt sh (if b = e then (t' ++ [Item.ink a b]).dropLast ++ [.ink a (e + 1)] else (t' ++ [Item.ink a b]) ++ [.ink e (e + 1)])) = _ ∧ InkOk (if b = e then (t' ++ [Item.ink a b]).dropLast ++ [.ink a (e + 1)] else (t' ++ [Item.ink a b]) ++ [.ink e (e + 1)])
        by_cases hb : b = e
        · subst hb
          have ab := ok a b (by simp)
          rw [if_pos rfl, List.dropLast_concat]
          refine ⟨?_, fun p q hm => ?_⟩
          · rw [rowsIt_append, rowsIt_append, spell_append, spell_append, rowsIt_one, rowsIt_one, es1, List.append_assoc]
            congr 1
            show spell [(a, b + 1)] = spell [(a, b)] ++ [b]
            rw [spell_one, spell_one]
            unfold span
            show run a (b + 1 - a).toNat = run a (b - a).toNat ++ [b]
            have : (b + 1 - a).toNat = (b - a).toNat + 1 := by omega
            rw [this, run_snoc]
            congr 2
            omega
          · rcases List.mem_append.mp hm with z | z
            · exact ok p q (List.mem_append_left _ z)
            · have z' : Item.ink p q = Item.ink a (b + 1) := by simpa using z
              cases z'
              omega
        · rw [if_neg hb]
          exact plainAdd
theorem rows_items (sh : Int → List Int) (es : List Int) : spell (rowsIt sh (itemsOf es)) = showE sh es ∧ InkOk (itemsOf es) := by
  have z : ∀ t : List Item, InkOk t → spell (rowsIt sh (es.foldl itemsStep t)) = spell (rowsIt sh t) ++ showE sh es ∧ InkOk (es.foldl itemsStep t) := by
    induction es with
    | nil => intro t ok; exact ⟨by simp [showE], ok⟩
    | cons e es ih =>
      intro t ok
      obtain ⟨h1, h2⟩ := step_rows sh t e ok
      obtain ⟨h3, h4⟩ := ih _ h2
      refine ⟨?_, h4⟩
      rw [List.foldl_cons, h3, h1, List.append_assoc]
      unfold showE
      rw [List.flatMap_cons]
  have q := z [] (fun a b h => by cases h)
  refine ⟨?_, q.2⟩
  unfold itemsOf
  rw [q.1]
  rfl
theorem itRow_len (sh : Int → List Int) (it : Item) (h : ∀ a b, it = .ink a b → a < b) : (itRow (fun n => rowOf (sh n)) it).length ≤ (spell (itRow (fun n => rowOf (sh n)) it)).length := by
  cases it with
  | win n =>
    show (rowOf (sh n)).length ≤ (spell (rowOf (sh n))).length
    rw [spell_rowOf]
    have z := rowOf_le (sh n) []
    simpa [rowOf] using z
  | ink a b =>
    have ab := h a b rfl
    show 1 ≤ (spell [(a, b)]).length
    rw [spell_one]
    unfold span
    show 1 ≤ (run a (b - a).toNat).length
    rw [run_len]
    omega
theorem rowsIt_len (sh : Int → List Int) : ∀ its : List Item, InkOk its → (rowsIt sh its).length ≤ (spell (rowsIt sh its)).length
  | [], _ => by simp [rowsIt]
  | it :: its, h => by
    have e : rowsIt sh (it :: its) = itRow (fun n => rowOf (sh n)) it ++ rowsIt sh its := by unfold rowsIt; rw [List.flatMap_cons]
    rw [e, spell_append, List.length_append, List.length_append]
    have a := itRow_len sh it (fun a b z => h a b (by rw [← z]; simp))
    have b := rowsIt_len sh its (fun a b z => h a b (List.mem_cons_of_mem _ z))
    omega
theorem rowsIt_ok (sh : Int → List Int) (its : List Item) (h : InkOk its) : ∀ p ∈ rowsIt sh its, p.1 ≤ p.2 := by
  intro p hp
  unfold rowsIt at hp
  obtain ⟨it, hi, hm⟩ := List.mem_flatMap.mp hp
  cases it with
  | win n => exact rowOf_ok _ p hm
  | ink a b =>
    have : p = (a, b) := by simpa [itRow] using hm
    subst this
    have := h a b hi
    show a ≤ b
    omega
def spItemRow : Sp := fun vs H Q _ => ∃ (v : V) (it : Item) (S : Addr) (kvs : List (Key × V)) (g : Int → Row), vs = [v, .ref S] ∧ ItemAt H v it ∧ H S = some (.dK kvs) ∧ (∀ n, it = .win n → ∃ a, valV kvs (Sum.inl n) = some (.ref a) ∧ RowAt H a (g n)) ∧
  ∀ (a : Addr) (H' : Hp), RowAt H' a (itRow g it) → Same H H' → ((∃ n, it = .win n ∧ valV kvs (Sum.inl n) = some (.ref a)) ∨ H a = none) → Q (.ref a) H'
abbrev sitem_row : Stmt := top 32
theorem scitem_row : FnScope ["item", "views"] ["item", "views"] (defScope sitem_row) := ⟨rfl, rfl, rfl, by decide +kernel, rfl, by decide +kernel, by decide +kernel⟩
theorem ok_item_row {f : Addr} {fd : FuncData} (F : Fun K "item_row" "item_row" sitem_row f fd) (T : Nms mg) : FnOk P w K mg base CX0 1 f fd ["item", "views"] spItemRow := by
  refine F.ok scitem_row (fun vs H Q E h => ?_) (fun cdv A outer s H vs Q E hr h => ?_)
  · obtain ⟨v, it, S, kvs, g, rfl, _⟩ := h
    rfl
  obtain ⟨v, it, S, kvs, g, rfl, ⟨a, rfl, ha⟩, hS, hw, k⟩ := h
  have hu := hu_of hr
  refine ⟨_, (pss_cons (ps_if (pt_cmpR op_eq (pe_ix ix_tup (pv 0) pe_int (fun _ _ => rfl)) pe_str (nomark _))
      (pss_one (ps_ret (pe_dget hu (pv 1) (pe_ix ix_tup (pv 0) pe_int (fun _ _ => rfl)) (fun _ _ => rfl))))
      pss_nil)
      (pss_one (ps_ret (pe_lst (pa_cons (pe_tup (pa_cons (pe_ix ix_tup (pv 0) pe_int (fun _ _ => rfl)) (pa_cons (pe_ix ix_tup (pv 0) pe_int (fun _ _ => rfl)) pa_nil))) pa_nil))))), ?_⟩
  cases it with
  | win n =>
    refine ⟨_, rfl, a, _, _, _, rfl, rfl, SqT.of ha, rfl, rfl, _, rfl, ite2 (fun _ => ?_) (fun z => absurd (by decide) z)⟩
    obtain ⟨b, hb, Rb⟩ := hw n rfl
    have z := DGet.k (k := Sum.inl n) hS
    rw [hb] at z
    exact ⟨_, rfl, _, rfl, a, _, _, _, rfl, rfl, SqT.of ha, rfl, S, _, rfl, z, k b H Rb (Same.refl H) (.inl ⟨n, rfl, hb⟩)⟩
  | ink p q =>
    refine ⟨_, rfl, a, _, _, _, rfl, rfl, SqT.of ha, rfl, rfl, _, rfl, ite2 (fun z => absurd z (by decide)) (fun _ => ?_)⟩
    refine ⟨_, rfl, a, _, _, _, rfl, rfl, SqT.of ha, rfl, _, rfl, a, _, _, _, rfl, rfl, SqT.of ha, rfl, (by show 2 ≤ sizeLine; decide), fun t ht => ⟨(by show 1 ≤ sizeLine; decide), fun l hl => ?_⟩⟩
    have s1 : Same H (upd H t (.tup [.int p, .int q])) := same_new ht _
    have s2 := s1.trans (same_new hl (.lst [.ref t]))
    refine k l _ ⟨[t], upd_same, .cons ?_ .nil⟩ s2 (.inr ?_)
    · exact same_new hl _ _ _ upd_same
    · cases e : H l with
      | none => rfl
      | some o => exact absurd ((s1 _ _ e).symm.trans hl) (by simp)

theorem PairsAt.keepD {H H' : Hp} {S : Addr} {kvs : List (Key × V)} (hS : H S = some (.dK kvs)) (k : ∀ a ob, a ≠ S → H a = some ob → H' a = some ob) : ∀ {as : List Addr} {r : Row}, PairsAt H as r → PairsAt H' as r
  | _, _, .nil => .nil
  | _, _, .cons r t => .cons (k _ _ (fun z => by
      have r' := r
      unfold PairAt at r'
      rw [z, hS] at r'
      cases r') r) (PairsAt.keepD hS k t)
theorem RowAt.keepD {H H' : Hp} {S a : Addr} {kvs : List (Key × V)} {row : Row} (hS : H S = some (.dK kvs)) (n : a ≠ S) (k : ∀ a ob, a ≠ S → H a = some ob → H' a = some ob) (R : RowAt H a row) : RowAt H' a row := by
  obtain ⟨as, h, p⟩ := R
  exact ⟨as, k _ _ n h, p.keepD hS k⟩
/-- the views that a dict holds -/
def ViewsAt (H : Hp) (kvs : List (Key × V)) (sh : Int → List Int) (xs : List Int) : Prop := ∀ x ∈ xs, ∃ a, valV kvs (Sum.inl x) = some (.ref a) ∧ RowAt H a (rowOf (sh x))
def spViews : Sp := fun vs H Q _ => ∃ (r L : Addr) (rows : List (List Int)) (ss : List Int) (sh : Int → List Int), vs = [.ref r, .ref L] ∧ SheetsAt H r (rows.map itemsOf) ∧ H L = some (.lst (ss.map V.int)) ∧ ss.length ≤ 1000 ∧ rows.length ≤ 1000 ∧ (∀ es ∈ rows, es.length ≤ 1000) ∧ Sound rows ∧ Rkd rows ∧ (∀ s ∈ ss, 0 ≤ s ∧ s < rows.length) ∧ Shows rows sh ∧ (∀ x : Int, 0 ≤ x → x < rows.length → (sh x).length ≤ 10000) ∧
  ∀ (S : Addr) (kvs : List (Key × V)) (ks : List Int) (H' : Hp), H' S = some (.dK kvs) → ViewsAt H' kvs sh ks → Topo rows ks → (∀ s ∈ ss, s ∈ ks) → (∀ x ∈ ks, ∀ a, valV kvs (Sum.inl x) = some (.ref a) → H a = none) → Same H H' → H S = none → Q (.ref S) H'
abbrev sviews_below : Stmt := top 33
theorem scviews_below : FnScope ["rows", "sheets", "views", "number"] ["rows", "sheets"] (defScope sviews_below) := ⟨rfl, rfl, rfl, by decide +kernel, rfl, by decide +kernel, by decide +kernel⟩
theorem ok_views_below {g fI fB fW fP : Addr} {fd fdI fdB fdW fdP : FuncData} (F : Fun K "views_below" "views_below" sviews_below g fd) (T : Nms mg) (dwindows : DefAt K mg "windows" swindows ["items"] fI fdI) (dbelow : DefAt K mg "below" sbelow ["rows", "sheets"] fB fdB) (ditem_row : DefAt K mg "item_row" sitem_row ["item", "views"] fW fdW) (dplain : DefAt K mg "plain" splain ["row"] fP fdP) : FnOk P w K mg base CX0 3 g fd ["rows", "sheets"] spViews := by
  have gbelow : FnOk P w K mg base CX0 2 fB fdB ["rows", "sheets"] spBelow := ok_below dbelow.F T dwindows
  have gitem_row : FnOk P w K mg base CX0 1 fW fdW ["item", "views"] spItemRow := ok_item_row ditem_row.F T
  have gplain : FnOk P w K mg base CX0 1 fP fdP ["row"] spPlain := ok_plain dplain.F
  refine F.ok scviews_below (fun vs H Q E h => ?_) (fun cdv A outer s0 H vs Q E hr h => ?_)
  · obtain ⟨r, L, rows, ss, sh, rfl, _⟩ := h
    rfl
  obtain ⟨r, L, rows, ss, sh, rfl, hR, hL, hsl, hlen, hes, hsd, hrk, hin, hsh, hbd, k⟩ := h
  have hu := hu_of hr
  refine ⟨_, (pss_cons (ps_set (i := 2) scviews_below.nd rfl (Or.inr rfl) pe_dnewK)
      (pss_cons (ps_for PassesOwn.never rfl (pi_list (pe_def dbelow gbelow hr (pa_cons (pv 0) (pa_cons (pv 1) pa_nil)))) (pg_name (i := 3) scviews_below.nd rfl (Or.inl rfl))
      (pss_one (ps_dput hu (pv 2) (pv 3) (pe_def dplain gplain hr (pa_cons (pe_compG2 (N := ["item", "stretch", "views"]) (compG (sc := defScope sviews_below) (NX := ["rows", "sheets", "views", "number"]) (jx := [none, none, some 2]) rfl rfl rfl (by decide +kernel) (by decide +kernel) rfl (by decide +kernel) rfl (by decide +kernel)) rfl (pi_list (pe_ix ix_list (pv 0) (pv 3) (fun _ _ => rfl))) (fun _ _ _ _ _ _ => (pg_name (i := 0) (show List.Nodup (["item", "stretch", "views"] : List Str) by decide +kernel) rfl (Or.inl rfl))) (fun _ _ _ _ _ _ => pts_nil) (fun _ _ _ _ _ _ => (piF_list (pe_def ditem_row gitem_row hr (pa_cons (pv 0) (pa_cons (pv 2) pa_nil))))) (fun _ _ _ _ _ _ => (pg_name (i := 1) (show List.Nodup (["item", "stretch", "views"] : List Str) by decide +kernel) rfl (Or.inl rfl))) (fun _ _ _ _ _ _ => pts_nil) (fun _ _ _ _ _ _ => (pv 1))) pa_nil)) rfl)))
      (pss_one (ps_ret (pv 2))))), ?_⟩
  intro S hS
  have s1 : Same H (upd H S (.dK [])) := same_new hS _
  refine ⟨_, rfl, _, rfl, r, L, rows, ss, rfl, hR.same s1, s1 _ _ hL, hsl, hlen, hes, hsd, hrk, hin, fun ks o H2 ho s2 tp sk kl hno => ?_⟩
  have hS2 := s2 _ _ (upd_same (H := H) (a := S) (o := .dK []))
  have noS : o ≠ S := (ne_of_none upd_same hno).symm
  refine ⟨o, rfl, ⟨_, SqL.of ho⟩, for_list (K := K) (a := o) (xs := ks.map V.int) (fun i σ H3 => ∃ (kvs : List (Key × V)) (u : Option V), σ = [some (.ref r), some (.ref L), some (.ref S), u] ∧ H3 S = some (.dK kvs) ∧ ViewsAt H3 kvs sh (ks.take i) ∧ kvs.length ≤ i ∧ (∀ x a, valV kvs (Sum.inl x) = some (.ref a) → H a = none ∧ a ≠ S) ∧ (∀ a ob, a ≠ S → H2 a = some ob → H3 a = some ob)) ⟨[], none, rfl, hS2, (fun y hy => by simp at hy), Nat.le_refl _, (fun x a e => by cases e), fun _ _ _ e => e⟩ ?_ ?_ ?_⟩
  · rintro i σ H3 _ ⟨_, _, _, _, _, _, _, k3⟩
    exact SqL.of (k3 o _ noS ho)
  · rintro i x σ H3 hi ⟨kvs, u, rfl, hS3, hv3, hk3, hn3, k3⟩
    rw [List.getElem?_map] at hi
    obtain ⟨x, ex, rfl⟩ := Option.map_eq_some_iff.mp hi
    obtain ⟨x0, x1⟩ := tp.rng x (List.mem_of_getElem? ex)
    obtain ⟨es, hes1⟩ : ∃ es, rows[x.toNat]? = some es := ⟨_, List.getElem?_eq_getElem (by omega)⟩
    have sm3 : Same H H3 := fun a ob e => k3 a ob (ne_of_none e hS) (s2 _ _ (s1 _ _ e))
    obtain ⟨rvs, hr3, hrall⟩ := hR.same sm3
    obtain ⟨vi, hvi, hI⟩ := hrall.get' (i := x.toNat) (b := itemsOf es) (by rw [List.getElem?_map, hes1]; rfl)
    obtain ⟨b, ivs, rfl, hb, hit⟩ := id hI
    obtain ⟨hsp, hok⟩ := rows_items sh es
    have shx := hsh x es x0 hes1
    have tot : (rowsIt sh (itemsOf es)).length ≤ 10000 := by
      have z := rowsIt_len sh (itemsOf es) hok
      rw [hsp, ← shx] at z
      have := hbd x x0 x1
      omega
    have part : ∀ j, (rowsIt sh ((itemsOf es).take j)).length ≤ 10000 := fun j => by
      have e : rowsIt sh (itemsOf es) = rowsIt sh ((itemsOf es).take j) ++ rowsIt sh ((itemsOf es).drop j) := by rw [← rowsIt_append, List.take_append_drop]
      rw [e, List.length_append] at tot
      omega
    have arow : atI rvs x = some (.ref b) := by
      have z := atI_nat hvi
      rw [show ((x.toNat : Nat) : Int) = x by omega] at z
      exact z
    refine ⟨_, rfl, _, rfl, r, _, _, _, rfl, rfl, SqL.of hr3, arow, b, rfl, ⟨_, SqL.of hb⟩, fun acc hacc => compF2_list (K := K) (a := b) (xs := ivs) (fun j σ H5 => ∃ (u v : Option V) (as : List Addr), σ = [u, v, some (.ref S)] ∧ H5 acc = some (.lst (as.map V.ref)) ∧ PairsAt H5 as (rowsIt sh ((itemsOf es).take j)) ∧ Same H3 H5) ⟨none, none, [], rfl, upd_same, .nil, same_new hacc _⟩ (fun j σ H5 _ ⟨_, _, _, _, _, _, s5⟩ => SqL.of (s5 _ _ hb)) ?_ ?_⟩
    · rintro j v σ H5 hj ⟨u, u2, as, rfl, h5, p5, s5⟩
      obtain ⟨it, ei, hiv⟩ := hit.get hj
      have st : rowsIt sh ((itemsOf es).take (j + 1)) = rowsIt sh ((itemsOf es).take j) ++ itRow (fun n => rowOf (sh n)) it := by rw [take_snoc ei, rowsIt_append, rowsIt_one]
      refine yesN ?_
      refine iteT ?_
      refine ⟨_, rfl, _, rfl, v, it, S, kvs, (fun n => rowOf (sh n)), rfl, hiv.same s5, s5 _ _ hS3, fun n hn => ?_, fun a2 H6 R6 s6 hor => ?_⟩
      · subst hn
        obtain ⟨a, ha, Ra⟩ := hv3 n (tp.dn i x ex n ⟨x0, es, hes1, by
          rw [← wins_itemsOf]
          unfold winsOf
          rw [List.mem_filterMap]
          exact ⟨.win n, List.mem_of_getElem? ei, rfl⟩⟩)
        exact ⟨a, ha, Ra.same s5⟩
      obtain ⟨as2, h6a, p6⟩ := id R6
      have na2 : a2 ≠ acc := by
        rcases hor with ⟨n, hn, hv⟩ | hn
        · subst hn
          obtain ⟨a, ha, as0, h0', _⟩ := hv3 n (tp.dn i x ex n ⟨x0, es, hes1, by
            rw [← wins_itemsOf]
            unfold winsOf
            rw [List.mem_filterMap]
            exact ⟨.win n, List.mem_of_getElem? ei, rfl⟩⟩)
          rw [hv] at ha
          cases ha
          exact ne_of_none h0' hacc
        · exact (ne_of_none h5 hn).symm
      have h6 := s6 _ _ h5
      have pl := part (j + 1)
      rw [st, List.length_append] at pl
      have al := p5.len
      have al2 := p6.len
      refine ⟨a2, rfl, ⟨_, SqL.of h6a⟩, inner_list (K := K) (a := a2) (acc := acc) (g := gName 1) (tt := tYes) (te := tVar 1) (xs := as2.map V.ref) (fun l σ H7 => ∃ v2 : Option V, σ = [some v, v2, some (.ref S)] ∧ H7 acc = some (.lst ((as ++ as2.take l).map V.ref)) ∧ PairsAt H7 (as ++ as2.take l) (rowsIt sh ((itemsOf es).take j) ++ (itRow (fun n => rowOf (sh n)) it).take l) ∧ Keep acc H6 H7 ∧ Same H3 H7) ?_ ?_ ?_ ?_⟩
      · exact ⟨u2, rfl, (by simpa using h6), (by simpa using p5.same s6), (fun _ _ e _ => e), s5.trans s6⟩
      · rintro l σ H7 _ ⟨_, _, _, _, K7, _⟩
        exact SqL.of (K7 a2 _ h6a na2)
      · rintro l y σ H7 hl ⟨v2, rfl, h7, p7, K7, s7⟩
        rw [List.getElem?_map] at hl
        obtain ⟨t, et, rfl⟩ := Option.map_eq_some_iff.mp hl
        obtain ⟨pr, epr, hpr⟩ := p6.get et
        have ll : l < as2.length := by
          rcases Nat.lt_or_ge l as2.length with q | q
          · exact q
          · rw [List.getElem?_eq_none q] at et; cases et
        have hpr7 : PairAt H7 t pr := K7 t _ hpr (fun z => by
          have q : H6 acc = some (.tup [.int pr.1, .int pr.2]) := by rw [← z]; exact hpr
          rw [h6] at q
          cases q)
        have K8 : Keep acc H7 (upd H7 acc (.lst ((as ++ as2.take l).map V.ref ++ [.ref t]))) := keep_upd acc _ _
        refine yesN ?_
        refine iteT ?_
        refine ⟨_, rfl, _, h7, ?_, _, rfl, ?_, ?_, ?_, keep_of hacc s7 K8⟩
        · rw [List.length_map, List.length_append, List.length_take]
          exact million (by omega)
        · rw [upd_same, take_snoc et, ← List.append_assoc, List.map_append (l₁ := as ++ as2.take l)]
          rfl
        · rw [take_snoc et, take_snoc epr, ← List.append_assoc, ← List.append_assoc]
          exact PairsAt.snoc (p7.keep h7 K8) (K8 t _ hpr7 (fun z => by
            have q : H7 acc = some (.tup [.int pr.1, .int pr.2]) := by rw [← z]; exact hpr7
            rw [h7] at q
            cases q))
        · exact fun a ob e n => K8 a ob (K7 a ob e n) n
      · rintro σ H7 ⟨v2, rfl, h7, p7, K7, s7⟩
        rw [List.length_map, List.take_length] at h7 p7
        rw [al2, List.take_length] at p7
        exact ⟨_, _, _, rfl, h7, (by rw [st]; exact p7), s7⟩
    · rintro σ H5 ⟨u, u2, as, rfl, h5, p5, s5⟩
      rw [hit.len, List.take_length] at p5
      have kvl : i < ks.length := by
        rcases Nat.lt_or_ge i ks.length with q | q
        · exact q
        · rw [List.getElem?_eq_none q] at ex; cases ex
      refine ⟨acc, _, rfl, ⟨as, h5, p5⟩, by omega, fun q H6 R6 s6 hq => ?_⟩
      have hS6 := s6 _ _ (s5 _ _ hS3)
      have nqS : q ≠ S := (ne_of_none (s5 _ _ hS3) hq).symm
      have er : plainF (rowsIt sh (itemsOf es)) = rowOf (sh x) := by rw [plain_eq _ (rowsIt_ok sh _ hok), hsp, shx]
      rw [er] at R6
      have k7 : ∀ a ob, a ≠ S → H6 a = some ob → upd H6 S (.dK (putK kvs (Sum.inl x) (.ref q))) a = some ob := fun a ob n e => by rw [upd_ne n]; exact e
      refine ⟨_, rfl, _, rfl, S, _, rfl, DPut.k (k := Sum.inl x) hS6 (million (by omega)), ?_⟩
      refine ⟨putK kvs (Sum.inl x) (.ref q), _, rfl, upd_same, fun y hy => ?_, ?_, fun y a e => ?_, fun a ob n e => k7 a ob n (s6 _ _ (s5 _ _ (k3 a ob n e)))⟩
      · rw [valV_put]
        by_cases c : y = x
        · rw [if_pos (by rw [c]), c]
          exact ⟨q, rfl, R6.keepD hS6 nqS k7⟩
        · rw [if_neg (fun z => c (Sum.inl.inj z))]
          rw [take_snoc ex] at hy
          rcases List.mem_append.mp hy with z | z
          · obtain ⟨a, ha, Ra⟩ := hv3 y z
            exact ⟨a, ha, ((Ra.same s5).same s6).keepD hS6 (hn3 y a ha).2 k7⟩
          · exact absurd (by simpa using z) c
      · have := length_putK kvs (Sum.inl x) (V.ref q)
        omega
      · rw [valV_put] at e
        by_cases c : y = x
        · rw [if_pos (by rw [c])] at e
          cases e
          refine ⟨?_, nqS⟩
          cases z : H q with
          | none => rfl
          | some ob => exact absurd ((s5 _ _ (sm3 _ _ z)).symm.trans hq) (by simp)
        · rw [if_neg (fun z => c (Sum.inl.inj z))] at e
          exact hn3 y a e
  · rintro σ H3 ⟨kvs, u, rfl, hS3, hv3, hk3, hn3, k3⟩
    rw [List.length_map, List.take_length] at hv3
    exact ⟨_, rfl, k S kvs ks H3 hS3 hv3 tp sk (fun x _ a e => (hn3 x a e).1) (fun a ob e => k3 a ob (ne_of_none e hS) (s2 _ _ (s1 _ _ e))) hS⟩

def spShown : Sp := fun vs H Q _ => ∃ (r : Addr) (rows : List (List Int)) (s : Int) (sh : Int → List Int), vs = [.ref r, .int s] ∧ SheetsAt H r (rows.map itemsOf) ∧ rows.length ≤ 1000 ∧ (∀ es ∈ rows, es.length ≤ 1000) ∧ Sound rows ∧ Rkd rows ∧ 0 ≤ s ∧ s < rows.length ∧ Shows rows sh ∧ (∀ x : Int, 0 ≤ x → x < rows.length → (sh x).length ≤ 10000) ∧
  ∀ (o : Addr) (H' : Hp), RowAt H' o (rowOf (sh s)) → Same H H' → H o = none → Q (.ref o) H'
abbrev sshown : Stmt := top 34
theorem scshown : FnScope ["rows", "sheet"] ["rows", "sheet"] (defScope sshown) := ⟨rfl, rfl, rfl, by decide +kernel, rfl, by decide +kernel, by decide +kernel⟩
theorem ok_shown {g fI fB fW fP fV : Addr} {fd fdI fdB fdW fdP fdV : FuncData} (F : Fun K "shown" "shown" sshown g fd) (T : Nms mg) (dwindows : DefAt K mg "windows" swindows ["items"] fI fdI) (dbelow : DefAt K mg "below" sbelow ["rows", "sheets"] fB fdB) (ditem_row : DefAt K mg "item_row" sitem_row ["item", "views"] fW fdW) (dplain : DefAt K mg "plain" splain ["row"] fP fdP) (dviews_below : DefAt K mg "views_below" sviews_below ["rows", "sheets"] fV fdV) : FnOk P w K mg base CX0 4 g fd ["rows", "sheet"] spShown := by
  have gviews_below : FnOk P w K mg base CX0 3 fV fdV ["rows", "sheets"] spViews := ok_views_below dviews_below.F T dwindows dbelow ditem_row dplain
  refine F.ok scshown (fun vs H Q E h => ?_) (fun cdv A outer s0 H vs Q E hr h => ?_)
  · obtain ⟨r, rows, s, sh, rfl, _⟩ := h
    rfl
  obtain ⟨r, rows, s, sh, rfl, hR, hlen, hes, hsd, hrk, h0, h1, hsh, hbd, k⟩ := h
  have hu := hu_of hr
  refine ⟨_, (pss_one (ps_ret (pe_dget hu (pe_def dviews_below gviews_below hr (pa_cons (pv 0) (pa_cons (pe_lst (pa_cons (pv 1) pa_nil)) pa_nil))) (pv 1) (fun _ _ => rfl)))), ?_⟩
  refine ⟨_, rfl, _, rfl, (by show 1 ≤ sizeLine; decide), fun L hL => ?_⟩
  have s1 : Same H (upd H L (.lst [.int s])) := same_new hL _
  refine ⟨r, L, rows, [s], sh, rfl, hR.same s1, upd_same, (by simp), hlen, hes, hsd, hrk, (fun x hx => by rw [List.mem_singleton.mp hx]; exact ⟨h0, h1⟩), hsh, hbd, fun S kvs ks H' hS hv tp sk hn s' _ => ?_⟩
  have sk := sk s (by simp)
  obtain ⟨a, ha, Ra⟩ := hv s sk
  have z := DGet.k (k := Sum.inl s) hS
  rw [ha] at z
  exact ⟨_, rfl, S, _, rfl, z, k a H' Ra (s1.trans s') (free_same s1 (hn s sk a ha))⟩

abbrev ssize : Stmt := top 12
theorem scsize : FnScope ["row"] ["row"] (defScope ssize) := ⟨rfl, rfl, rfl, by decide +kernel, rfl, by decide +kernel, by decide +kernel⟩
theorem ok_size {f : Addr} {fd : FuncData} (F : Fun K "size" "size" ssize f fd) (T : Nms mg) : FnOk P w K mg base CX0 1 f fd ["row"] spSize := by
  refine F.ok scsize (fun vs H Q E h => ?_) (fun cdv A outer s H vs Q E hr h => ?_)
  · obtain ⟨n, ns, rfl, _⟩ := h
    rfl
  obtain ⟨r, row, rfl, ⟨as, hr1, hp⟩, hlen, k⟩ := h
  refine ⟨_, (pss_one (ps_ret (pe_callB (call_sum rfl) rfl T.n_sum PyProof.Rows.boot_sum (pa_cons (pe_comp (N := ["start", "stop"]) ⟨rfl, by decide +kernel, by decide +kernel, by decide +kernel⟩ rfl (pi_list (pv 0)) (fun _ _ _ _ _ => (pgC_tup (n := 2) rfl (pgs_cons (pg_name (i := 0) (show List.Nodup (["start", "stop"] : List Str) by decide +kernel) rfl (Or.inl rfl)) (pgs_cons (pg_name (i := 1) (show List.Nodup (["start", "stop"] : List Str) by decide +kernel) rfl (Or.inl rfl)) pgs_nil)))) (fun _ _ _ _ _ => pts_nil) (fun _ _ _ _ _ => (pe_op op_sub (pv 1) (pv 0)))) pa_nil)))), ?_⟩
  refine ⟨_, rfl, r, rfl, ⟨_, SqL.of hr1⟩, fun acc hacc => comp_list (K := K) (a := r) (xs := as.map V.ref) (fun i σ H2 => ∃ u v : Option V, σ = [u, v] ∧ H2 acc = some (.lst (((row.take i).map fun p => p.2 - p.1).map V.int)) ∧ Same H H2)
    ⟨none, none, rfl, upd_same, same_new hacc _⟩ (fun i σ H2 _ ⟨_, _, _, _, s⟩ => SqL.of (s _ _ hr1)) ?_ ?_⟩
  · rintro i x σ H2 hi ⟨u, v, rfl, ha, s⟩
    rw [List.getElem?_map] at hi
    obtain ⟨a, ea, rfl⟩ := Option.map_eq_some_iff.mp hi
    obtain ⟨⟨st, en⟩, ep, hpa⟩ := hp.get ea
    refine ⟨a, _, rfl, SqT.of (s _ _ hpa), rfl, _, _, rfl, _, _, rfl, rfl, yes (iteT ?_)⟩
    refine ⟨_, rfl, _, rfl, _, _, rfl, rfl, _, ha, ?_, _, _, rfl, ?_, keep_of hacc s (keep_upd acc _ _)⟩
    · rw [List.length_map, List.length_map, List.length_take]
      exact million (by omega)
    · rw [upd_same, take_snoc ep, List.map_append, List.map_append]
      rfl
  · rintro σ H2 ⟨u, v, rfl, ha, s⟩
    rw [List.length_map, hp.len, List.take_length] at ha
    exact ⟨acc, _, rfl, SqL.of ha, k H2 s⟩

abbrev wordsL (ws : List (List Nat)) : HO := .lst (ws.map fun w => V.str (txt w))
abbrev NUM : List (Str × Int) := [(Str.ofString "fresh", 0), (Str.ofString "cut", 3), (Str.ofString "move", 4), (Str.ofString "quote", 5), (Str.ofString "window", 3), (Str.ofString "fix", 1), (Str.ofString "back", 2), (Str.ofString "fork", 2), (Str.ofString "untie", 1), (Str.ofString "read", 1)]
abbrev AHD : List (Str × Int) := [(Str.ofString "put", 2), (Str.ofString "strike", 0), (Str.ofString "blot", 1), (Str.ofString "lift", 1)]
def tabAt (D : List (Str × Int)) (n : List Nat) : Option Int := (D.find? fun p => decide (txt n = p.1)).map (·.2)
theorem tab_some {D : List (Str × Int)} {n : List Nat} {i : Int} (h : tabAt D n = some i) : (D.find? fun p => decide (txt n = p.1)) = some (txt n, i) := by
  unfold tabAt at h
  obtain ⟨⟨x, j⟩, e, rfl⟩ := Option.map_eq_some_iff.mp h
  have z := List.find?_some e
  have : txt n = x := of_decide_eq_true z
  rw [e, this]
abbrev tieW : List Nat := [116, 105, 101]
inductive Deed where
  | pour (h : Int) (t : List Nat)
  | tie (a b : Row)
  | plain (n : List Nat) (ns : List Int)
  | rowed (n : List Nat) (ns : List Int) (r : Row)
def Deed.At (H : Hp) (p : Addr) : Deed → Prop
  | .pour h t => H p = some (.tup [.str (Str.ofString "pour"), .int h, .str (txt t)])
  | .tie a b => ∃ q1 q2, H p = some (.tup [.str (Str.ofString "tie"), .ref q1, .ref q2]) ∧ RowAt H q1 a ∧ RowAt H q2 b ∧ q1 ≠ q2
  | .plain n ns => H p = some (.tup (.str (txt n) :: ns.map V.int))
  | .rowed n ns r => ∃ q, H p = some (.tup (.str (txt n) :: ns.map V.int ++ [.ref q])) ∧ RowAt H q r
def FitN (n : Int) : Prop := 0 ≤ n ∧ n < 10 ^ 60
def FitR (r : Row) : Prop := r.length ≤ 29 ∧ ∀ p ∈ r, FitN p.1 ∧ FitN p.2
def Deed.Ok : Deed → Prop
  | .pour h t => FitN h ∧ t.length ≤ 200
  | .tie a b => FitR a ∧ FitR b
  | .plain n ns => tabAt NUM n = some (ns.length : Int) ∧ ∀ x ∈ ns, FitN x
  | .rowed n ns r => tabAt AHD n = some (ns.length : Int) ∧ (∀ x ∈ ns, FitN x) ∧ FitR r
abbrev showP (p : Int × Int) : List Nat := InkY.dg p.1 ++ 45 :: InkY.dg p.2
theorem showP_len {p : Int × Int} (h : FitN p.1 ∧ FitN p.2) : (showP p).length ≤ 121 := by
  rw [List.length_append, List.length_cons]
  have a := InkY.dg_len h.1.1 h.1.2
  have b := InkY.dg_len h.2.1 h.2.2
  omega
theorem log_fit {n : Int} (h : FitN n) : n.natAbs.log2 < 1920 := by
  obtain ⟨h0, h1⟩ := h
  by_cases z : n.natAbs = 0
  · rw [z]; decide
  · rw [Nat.log2_lt z]
    have a : n.natAbs < 10 ^ 60 := by omega
    exact Nat.lt_of_lt_of_le a (Nat.le_trans (show (10 : Nat) ^ 60 ≤ 2 ^ 200 by decide) (Nat.pow_le_pow_right (by decide) (by decide)))
inductive Part where
  | num (x : Int)
  | tx (t : List Nat)
  | row (r : Row)
def Part.At (H : Hp) (v : V) : Part → Prop
  | .num x => v = .int x
  | .tx t => v = .str (txt t)
  | .row r => ∃ q, v = .ref q ∧ RowAt H q r
def Part.Ok : Part → Prop
  | .num x => FitN x
  | .tx t => t.length ≤ 200
  | .row r => FitR r
abbrev strsR (r : Row) : List Nat := r.flatMap fun p => 32 :: showP p
def Part.line : Part → List Nat
  | .num x => 32 :: InkY.dg x
  | .tx t => 32 :: t
  | .row r => strsR r
theorem Part.At.same {H H' : Hp} {v : V} {p : Part} (h : p.At H v) (s : Same H H') : p.At H' v := by
  cases p with
  | num x => exact h
  | tx t => exact h
  | row r => obtain ⟨q, e, z⟩ := h; exact ⟨q, e, z.same s⟩
theorem strs_len {r : Row} (h : FitR r) : (strsR r).length ≤ 4000 := by
  have key : ∀ l : Row, (∀ p ∈ l, FitN p.1 ∧ FitN p.2) → (strsR l).length ≤ 122 * l.length := by
    intro l
    induction l with
    | nil => intro _; exact Nat.le_refl _
    | cons p l ih =>
      intro g
      have z := ih fun q hq => g q (List.mem_cons_of_mem _ hq)
      have z2 := showP_len (g p List.mem_cons_self)
      show ((32 :: showP p) ++ strsR l).length ≤ _
      rw [List.length_append, List.length_cons, List.length_cons]
      omega
  have := key r h.2
  have := h.1
  omega
theorem Part.line_len {p : Part} (h : p.Ok) : p.line.length ≤ 4000 := by
  cases p with
  | num x => have := InkY.dg_len h.1 h.2; show (32 :: InkY.dg x).length ≤ _; rw [List.length_cons]; omega
  | tx t => have h' : t.length ≤ 200 := h; show (32 :: t).length ≤ _; rw [List.length_cons]; omega
  | row r => exact strs_len h
def Deed.nm : Deed → List Nat
  | .pour _ _ => [112, 111, 117, 114]
  | .tie _ _ => tieW
  | .plain n _ => n
  | .rowed n _ _ => n
def Deed.parts : Deed → List Part
  | .pour h t => [.num h, .tx t]
  | .tie _ _ => []
  | .plain _ ns => ns.map .num
  | .rowed _ ns r => ns.map .num ++ [.row r]
def Deed.line : Deed → List Nat
  | .tie a b => tieW ++ strsR a ++ [32, 47] ++ strsR b
  | d => d.nm ++ d.parts.flatMap Part.line
theorem parts_at {H : Hp} {p : Addr} {d : Deed} (h : d.At H p) (nt : ∀ a b, d ≠ .tie a b) : ∃ vs, H p = some (.tup (.str (txt d.nm) :: vs)) ∧ All2 (fun v q => Part.At H v q) vs d.parts := by
  have nums : ∀ ns : List Int, All2 (fun v q => Part.At H v q) (ns.map V.int) (ns.map Part.num) := fun ns => by
    induction ns with
    | nil => exact .nil
    | cons x ns ih => exact .cons rfl ih
  cases d with
  | pour x t => exact ⟨_, by rw [h, show Str.ofString "pour" = txt [112, 111, 117, 114] by decide +kernel]; rfl, .cons rfl (.cons rfl .nil)⟩
  | tie a b => exact absurd rfl (nt a b)
  | plain n ns => exact ⟨_, h, nums ns⟩
  | rowed n ns r =>
    obtain ⟨q, e, z⟩ := h
    exact ⟨ns.map V.int ++ [.ref q], by rw [e]; rfl, (nums ns).snoc ⟨q, rfl, z⟩⟩
theorem parts_ok {d : Deed} (h : d.Ok) : ∀ q ∈ d.parts, q.Ok := by
  cases d with
  | pour x t =>
    intro q hq
    rcases List.mem_cons.mp hq with z | z
    · rw [z]; exact h.1
    · rw [List.mem_singleton.mp z]; exact h.2
  | tie a b => intro q hq; cases hq
  | plain n ns =>
    intro q hq
    obtain ⟨x, hx, rfl⟩ := List.mem_map.mp hq
    exact h.2 x hx
  | rowed n ns r =>
    intro q hq
    rcases List.mem_append.mp hq with z | z
    · obtain ⟨x, hx, rfl⟩ := List.mem_map.mp z
      exact h.2.1 x hx
    · rw [List.mem_singleton.mp z]; exact h.2.2
theorem all2_get {H : Hp} : ∀ {vs : List V} {ps : List Part} {i : Nat} {v : V}, All2 (fun v q => Part.At H v q) vs ps → vs[i]? = some v → ∃ q, ps[i]? = some q ∧ q.At H v
  | _, _, _, _, .nil, h => by simp at h
  | _, _, 0, _, .cons o t, h => by
    have e := Option.some.inj h
    subst e
    exact ⟨_, rfl, o⟩
  | _, _, i + 1, _, .cons o t, h => by
    obtain ⟨q, e, z⟩ := all2_get (i := i) t (by simpa using h)
    exact ⟨q, by simpa using e, z⟩
theorem flat_len {ps : List Part} (h : ∀ q ∈ ps, q.Ok) : (ps.flatMap Part.line).length ≤ 4000 * ps.length := by
  induction ps with
  | nil => exact Nat.zero_le _
  | cons p ps ih =>
    have z := ih fun q hq => h q (List.mem_cons_of_mem _ hq)
    have z2 := Part.line_len (h p List.mem_cons_self)
    rw [List.flatMap_cons, List.length_append, List.length_cons, Nat.mul_add, Nat.mul_one]
    omega
theorem jn_flat (n : List Nat) : ∀ ws : List (List Nat), InkY.jn 32 (n :: ws) = n ++ ws.flatMap (fun w => 32 :: w) := by
  intro ws
  induction ws generalizing n with
  | nil => show n = _; simp
  | cons w ws ih =>
    show n ++ 32 :: InkY.jn 32 (w :: ws) = _
    rw [ih w, List.flatMap_cons]
    simp
theorem tab_free {D : List (Str × Int)} {n : List Nat} {k : Int} (hD : ∀ p ∈ D, 32 ∉ p.1.cps.toList ∧ p.1.cps.toList ≠ [112, 111, 117, 114] ∧ p.1.cps.toList ≠ tieW ∧ p.1.cps.toList.length ≤ 10) (h : tabAt D n = some k) : 32 ∉ n ∧ n ≠ [112, 111, 117, 114] ∧ n ≠ tieW ∧ n.length ≤ 10 := by
  have z := hD _ (List.mem_of_find?_eq_some (tab_some h))
  have e : (txt n).cps.toList = n := InkY.txt_cps n
  rw [show ((txt n, k) : Str × Int).1 = txt n from rfl, e] at z
  exact z
theorem num_free {n : List Nat} {k : Int} (h : tabAt NUM n = some k) : 32 ∉ n ∧ n ≠ [112, 111, 117, 114] ∧ n ≠ tieW ∧ n.length ≤ 10 := tab_free (by decide +kernel) h
theorem ahd_free {n : List Nat} {k : Int} (h : tabAt AHD n = some k) : 32 ∉ n ∧ n ≠ [112, 111, 117, 114] ∧ n ≠ tieW ∧ n.length ≤ 10 := tab_free (by decide +kernel) h
theorem flat_row (r : Row) : strsR r = (r.map showP).flatMap fun w => 32 :: w := by
  induction r with
  | nil => rfl
  | cons x r ih => rw [List.map_cons, List.flatMap_cons, ← ih]; rfl
theorem Deed.At.same {H H' : Hp} {p : Addr} {d : Deed} (h : d.At H p) (s : Same H H') : d.At H' p := by
  cases d with
  | pour x t => exact s _ _ h
  | tie a b => obtain ⟨q1, q2, e, r1, r2, n⟩ := h; exact ⟨q1, q2, s _ _ e, r1.same s, r2.same s, n⟩
  | plain n ns => exact s _ _ h
  | rowed n ns r => obtain ⟨q, e, r1⟩ := h; exact ⟨q, s _ _ e, r1.same s⟩
theorem num_small {n : List Nat} {k : Int} (h : tabAt NUM n = some k) : k ≤ 5 := by
  have z : ∀ p ∈ NUM, p.2 ≤ 5 := by decide +kernel
  exact z _ (List.mem_of_find?_eq_some (tab_some h))
theorem ahd_small {n : List Nat} {k : Int} (h : tabAt AHD n = some k) : k ≤ 5 := by
  have z : ∀ p ∈ AHD, p.2 ≤ 5 := by decide +kernel
  exact z _ (List.mem_of_find?_eq_some (tab_some h))
theorem deed_small {d : Deed} (ok : d.Ok) : (∀ a b, d ≠ .tie a b) → d.nm ≠ tieW ∧ d.nm.length ≤ 10 ∧ d.parts.length ≤ 10 := by
  intro nt
  cases d with
  | pour x t => exact ⟨by show [112, 111, 117, 114] ≠ tieW; decide, by show 4 ≤ 10; decide, by show 2 ≤ 10; decide⟩
  | tie a b => exact absurd rfl (nt a b)
  | plain n ns =>
    obtain ⟨_, _, f3, f4⟩ := num_free ok.1
    have := num_small ok.1
    exact ⟨f3, f4, by show (ns.map Part.num).length ≤ 10; rw [List.length_map]; omega⟩
  | rowed n ns r =>
    obtain ⟨_, _, f3, f4⟩ := ahd_free ok.1
    have := ahd_small ok.1
    exact ⟨f3, f4, by show (ns.map Part.num ++ [Part.row r]).length ≤ 10; rw [List.length_append, List.length_map]; show ns.length + 1 ≤ 10; omega⟩

def spInkWords : Sp := fun vs H Q _ => ∃ (q : Addr) (r : Row), vs = [.ref q] ∧ RowAt H q r ∧ FitR r ∧ ∀ (a : Addr) (H' : Hp), H' a = some (wordsL (r.map showP)) → Same H H' → H a = none → Q (.ref a) H'
abbrev sink_words : Stmt := top 48
theorem scink_words : FnScope ["row"] ["row"] (defScope sink_words) := ⟨rfl, rfl, rfl, by decide +kernel, rfl, by decide +kernel, by decide +kernel⟩
theorem str_pair {a b : Int} (ha : 0 ≤ a) (hb : 0 ≤ b) : (Str.empty ++ Str.ofString (toString a) ++ Str.ofString "-" ++ Str.ofString (toString b)) = txt (showP (a, b)) := by
  rw [InkY.num_txt ha, InkY.num_txt hb, show Str.ofString "-" = txt [45] by decide +kernel, show Str.empty = txt [] from rfl, txt_app, txt_app, txt_app]
  simp
theorem ok_ink_words {f : Addr} {fd : FuncData} (F : Fun K "ink_words" "ink_words" sink_words f fd) (T : Nms mg) : FnOk P w K mg base CX0 1 f fd ["row"] spInkWords := by
  refine F.ok scink_words (fun vs H Q E h => ?_) (fun cdv A outer s H vs Q E hr h => ?_)
  · obtain ⟨q, r, rfl, _⟩ := h
    rfl
  obtain ⟨q, r, rfl, ⟨as, hq, pa⟩, ⟨lr, fr⟩, k⟩ := h
  refine ⟨_, (pss_one (ps_ret (pe_compG (N := ["start", "stop"]) (compG (sc := defScope sink_words) (NX := ["row"]) (jx := [none, none]) rfl rfl rfl (by decide +kernel) (by decide +kernel) rfl (by decide +kernel) rfl (by decide +kernel)) rfl (pi_list (pv 0)) (fun _ _ _ _ _ _ => (pgF_tup (n := 2) rfl (pgs_cons (pg_name (i := 0) (show List.Nodup (["start", "stop"] : List Str) by decide +kernel) rfl (Or.inl rfl)) (pgs_cons (pg_name (i := 1) (show List.Nodup (["start", "stop"] : List Str) by decide +kernel) rfl (Or.inl rfl)) pgs_nil)))) (fun _ _ _ _ _ _ => pts_nil) (fun _ _ _ _ _ _ => (InkY.pe_fstrV (InkY.pjv_int (pv 0) (InkY.pjv_str (InkY.pjv_int (pv 1) InkY.pjv_nil)))))))), ?_⟩
  have lp := Paired.length pa
  refine ⟨_, rfl, q, rfl, ⟨_, SqL.of hq⟩, fun acc hacc => compF_list (K := K) (a := q) (xs := as.map V.ref) (fun i σ H2 => ∃ u0 u1 : Option V, σ = [u0, u1] ∧ H2 acc = some (wordsL ((r.take i).map showP)) ∧ Same H H2) ⟨none, none, rfl, upd_same, same_new hacc _⟩ (fun i σ H2 _ ⟨_, _, _, _, s2⟩ => SqL.of (s2 _ _ hq)) ?_ ?_⟩
  · rintro i y σ H2 hi ⟨u0, u1, rfl, h2, s2⟩
    rw [List.getElem?_map] at hi
    obtain ⟨a, ei, rfl⟩ := Option.map_eq_some_iff.mp hi
    obtain ⟨p, ep, hp⟩ := pa.get ei
    have fp := fr p (List.mem_of_getElem? ep)
    have il := (List.getElem?_eq_some_iff.mp ep).1
    refine ⟨a, _, rfl, SqT.of (s2 _ _ hp), rfl, _, _, rfl, _, _, rfl, rfl, ?_⟩
    refine ⟨_, rfl, _, rfl, log_fit fp.1, _, rfl, _, rfl, log_fit fp.2, _, h2, million (by rw [List.length_map, List.length_map, List.length_take]; omega), _, _, rfl, ?_, keep_of hacc s2 (keep_upd acc _ _)⟩
    rw [upd_same, take_snoc ep, List.map_append, List.map_cons, List.map_nil, str_pair fp.1.1 fp.2.1]
    show some (HO.lst _) = some (HO.lst _)
    rw [List.map_append]
    rfl
  · rintro σ H2 ⟨u0, u1, rfl, h2, s2⟩
    rw [List.length_map, lp, List.take_length] at h2
    exact k acc H2 h2 s2 hacc

def Part.words : Part → List (List Nat)
  | .num x => [InkY.dg x]
  | .tx t => [t]
  | .row r => r.map showP
theorem words_line (ps : List Part) : (ps.flatMap Part.words).flatMap (fun w => 32 :: w) = ps.flatMap Part.line := by
  induction ps with
  | nil => rfl
  | cons p ps ih =>
    rw [List.flatMap_cons, List.flatMap_cons, List.flatMap_append, ih]
    congr 1
    cases p with
    | num x => show (32 :: InkY.dg x) ++ [] = 32 :: InkY.dg x; rw [List.append_nil]
    | tx t => show (32 :: t) ++ [] = 32 :: t; rw [List.append_nil]
    | row r => exact (flat_row r).symm
def spShownD : Sp := fun vs H Q _ => ∃ (p : Addr) (d : Deed), vs = [.ref p] ∧ d.At H p ∧ d.Ok ∧ ((∀ a b, d ≠ .tie a b) → d.nm ≠ tieW ∧ d.nm.length ≤ 10 ∧ d.parts.length ≤ 10) ∧ ∀ H', Same H H' → Q (.str (txt d.line)) H'
abbrev sshown_deed : Stmt := top 49
theorem scshown_deed : FnScope ["deed", "words", "thing"] ["deed"] (defScope sshown_deed) := ⟨rfl, rfl, rfl, by decide +kernel, rfl, by decide +kernel, by decide +kernel⟩
theorem flat_sum (W : List (List Nat)) : (W.map List.length).sum + W.length = (W.flatMap fun w => 32 :: w).length := by
  induction W with
  | nil => rfl
  | cons x W ih =>
    rw [List.map_cons, List.sum_cons, List.length_cons, List.flatMap_cons, List.length_append, List.length_cons, ← ih]
    omega
theorem words_cat (a b : List (List Nat)) : (a.map fun w => V.str (txt w)) ++ (b.map fun w => V.str (txt w)) = (a ++ b).map fun w => V.str (txt w) := List.map_append.symm
set_option maxHeartbeats 4000000 in
theorem ok_shown_deed {f fI : Addr} {fd gI : FuncData} (F : Fun K "shown_deed" "shown_deed" sshown_deed f fd) (T : Nms mg) (dink_words : DefAt K mg "ink_words" sink_words ["row"] fI gI) : FnOk P w K mg base CX0 2 f fd ["deed"] spShownD := by
  have gink_words : FnOk P w K mg base CX0 1 _ _ ["row"] spInkWords := ok_ink_words dink_words.F T
  refine F.ok scshown_deed (fun vs H Q E h => ?_) (fun cdv A outer s H vs Q E hr h => ?_)
  · obtain ⟨p, d, rfl, _⟩ := h
    rfl
  obtain ⟨p, d, rfl, hd, ok, nn, k⟩ := h
  refine ⟨_, (pss_cons (ps_if (pt_cmpR op_eq (pe_ix ix_tup (pv 0) pe_int (fun _ _ => rfl)) pe_str (nomark _))
      (pss_one (ps_ret (pe_bm PySem.F.plainAttrs_str PySem.F.slot_str_join PySem.F.type_str_join InkY.mt_joinT pe_str (pa_cons (pe_op op_cat (pe_op op_cat (pe_op op_cat (pe_lst (pa_cons pe_str pa_nil)) (pe_def dink_words gink_words hr (pa_cons (pe_ix ix_tup (pv 0) pe_int (fun _ _ => rfl)) pa_nil))) (pe_lst (pa_cons pe_str pa_nil))) (pe_def dink_words gink_words hr (pa_cons (pe_ix ix_tup (pv 0) pe_int (fun _ _ => rfl)) pa_nil))) pa_nil))))
      pss_nil)
      (pss_cons (ps_set (i := 1) scshown_deed.nd rfl (Or.inl rfl) (pe_lst (pa_cons (pe_ix ix_tup (pv 0) pe_int (fun _ _ => rfl)) pa_nil)))
      (pss_cons (ps_for PassesOwn.never rfl (pi_tup (pe_slice sl_tup (pv 0) (po_some pe_int) po_none)) (pg_name (i := 2) scshown_deed.nd rfl (Or.inl rfl))
      (pss_one (ps_aug (i := 1) scshown_deed.nd rfl (Or.inl rfl) (pe_ifExp (pt_val (pe_callB call_isinst rfl T.n_isinstance PyProof.Rows.boot_isinstance (pa_cons (pv 2) (pa_cons (pe_ty rfl T.n_list PyProof.Rows.boot_list) pa_nil)))) (pe_def dink_words gink_words hr (pa_cons (pv 2) pa_nil)) (pe_lst (pa_cons (InkU.pe_f1 (pv 2)) pa_nil))) ip_cat)))
      (pss_one (ps_ret (pe_bm PySem.F.plainAttrs_str PySem.F.slot_str_join PySem.F.type_str_join InkY.mt_joinT pe_str (pa_cons (pv 1) pa_nil))))))), ?_⟩
  have tt : Str.ofString "tie" = txt tieW := by decide +kernel
  have kil : PySem.W.kitOne K (.type "int") (.type "list") = some false := by kernel_rfl
  have ksl : PySem.W.kitOne K (.type "str") (.type "list") = some false := by kernel_rfl
  by_cases ht : ∃ a b, d = .tie a b
  · obtain ⟨a, b, rfl⟩ := ht
    obtain ⟨q1, q2, hp, r1, r2, _⟩ := hd
    have la := strs_len ok.1
    have lb := strs_len ok.2
    have ea : (a.map showP).length = a.length := List.length_map _
    have eb : (b.map showP).length = b.length := List.length_map _
    have a29 := ok.1.1
    have b29 := ok.2.1
    refine ⟨_, rfl, p, _, _, _, rfl, rfl, SqT.of hp, atI_nat (j := 0) rfl, ?_⟩
    refine ⟨rfl, _, rfl, ite2 (fun _ => ?_) (fun c => absurd (decide_eq_true rfl) c)⟩
    refine ⟨rfl, (by show 1 ≤ sizeLine; decide), fun t1 f1 => ?_⟩
    have s1 := same_new f1 (.lst [.str (Str.ofString "tie")])
    have h1 : (upd H t1 (.lst [.str (Str.ofString "tie")])) t1 = some (wordsL [tieW]) := by rw [tt]; exact upd_same
    generalize upd H t1 (.lst [.str (Str.ofString "tie")]) = H1 at s1 h1
    refine ⟨_, rfl, p, _, _, _, rfl, rfl, SqT.of (s1 _ _ hp), atI_nat (j := 1) rfl, q1, a, rfl, r1.same s1, ok.1, fun w1 H2 hw1 s2 fw1 => ?_⟩
    refine ⟨t1, w1, _, _, rfl, rfl, s2 _ _ h1, hw1, Nat.le_of_lt (million (by simp only [List.length_map, List.length_cons, List.length_nil]; omega)), fun t2 f2 => ?_⟩
    rw [words_cat]
    have s3 := same_new f2 (wordsL ([tieW] ++ a.map showP))
    have h3 : (upd H2 t2 (wordsL ([tieW] ++ a.map showP))) t2 = some (wordsL ([tieW] ++ a.map showP)) := upd_same
    generalize upd H2 t2 (wordsL ([tieW] ++ a.map showP)) = H3 at s3 h3
    refine ⟨(by show 1 ≤ sizeLine; decide), fun t3 f3 => ?_⟩
    have s4 := same_new f3 (.lst [.str (Str.ofString "/")])
    have h4 : (upd H3 t3 (.lst [.str (Str.ofString "/")])) t3 = some (wordsL [[47]]) := by rw [show Str.ofString "/" = txt [47] by decide +kernel]; exact upd_same
    generalize upd H3 t3 (.lst [.str (Str.ofString "/")]) = H4 at s4 h4
    refine ⟨t2, t3, _, _, rfl, rfl, s4 _ _ h3, h4, Nat.le_of_lt (million (by simp only [List.length_map, List.length_append, List.length_cons, List.length_nil]; omega)), fun t4 f4 => ?_⟩
    rw [words_cat]
    have s5 := same_new f4 (wordsL ([tieW] ++ a.map showP ++ [[47]]))
    have h5 : (upd H4 t4 (wordsL ([tieW] ++ a.map showP ++ [[47]]))) t4 = some (wordsL ([tieW] ++ a.map showP ++ [[47]])) := upd_same
    generalize upd H4 t4 (wordsL ([tieW] ++ a.map showP ++ [[47]])) = H5 at s5 h5
    have s15 : Same H H5 := s1.trans (s2.trans (s3.trans (s4.trans s5)))
    refine ⟨_, rfl, p, _, _, _, rfl, rfl, SqT.of (s15 _ _ hp), atI_nat (j := 2) rfl, q2, b, rfl, r2.same s15, ok.2, fun w2 H6 hw2 s6 fw2 => ?_⟩
    refine ⟨t4, w2, _, _, rfl, rfl, s6 _ _ h5, hw2, Nat.le_of_lt (million (by simp only [List.length_map, List.length_append, List.length_cons, List.length_nil]; omega)), fun t5 f5 => ?_⟩
    rw [words_cat]
    have s7 := same_new f5 (wordsL ([tieW] ++ a.map showP ++ [[47]] ++ b.map showP))
    have e5 : [tieW] ++ a.map showP ++ [[47]] ++ b.map showP = tieW :: (a.map showP ++ [47] :: b.map showP) := by simp
    have el : InkY.jn 32 (tieW :: (a.map showP ++ [47] :: b.map showP)) = (Deed.tie a b).line := by
      rw [jn_flat, List.flatMap_append, List.flatMap_cons, ← flat_row, ← flat_row]
      show _ = tieW ++ strsR a ++ [32, 47] ++ strsR b
      simp
    have fs := flat_sum (a.map showP ++ [47] :: b.map showP)
    rw [List.flatMap_append, List.flatMap_cons, ← flat_row, ← flat_row] at fs
    simp only [List.length_append, List.length_cons, List.length_nil] at fs
    refine ⟨t5, 32, _, by rw [show Str.ofString " " = ⟨#[32]⟩ by decide +kernel], rfl, upd_same, ?_, ?_⟩
    · rw [e5, List.map_cons, List.sum_cons, List.length_cons]
      simp only [List.length_append, List.length_cons, List.length_nil]
      omega
    rw [e5] at s7 ⊢
    rw [el]
    exact k _ (s15.trans (s6.trans s7))
  have nt : ∀ a b, d ≠ .tie a b := fun a b e => ht ⟨a, b, e⟩
  obtain ⟨vs, hp, al⟩ := parts_at hd nt
  obtain ⟨n1, n2, n3⟩ := nn nt
  have pk := parts_ok ok
  have lv := al.len
  have ln : d.line = d.nm ++ d.parts.flatMap Part.line := by
    cases d with
    | tie a b => exact absurd rfl (nt a b)
    | _ => rfl
  refine ⟨_, rfl, p, _, _, _, rfl, rfl, SqT.of hp, atI_nat (j := 0) rfl, ?_⟩
  refine ⟨rfl, _, rfl, ite2 (fun c => absurd (of_decide_eq_true c) (by rw [tt]; intro z; exact n1 (txt_inj (V.str.inj z)))) (fun _ => ?_)⟩
  refine ⟨_, rfl, p, _, _, _, rfl, rfl, SqT.of hp, atI_nat (j := 0) rfl, (by show 1 ≤ sizeLine; decide), fun wl fwl => ?_⟩
  have s0 := same_new fwl (.lst [.str (txt d.nm)])
  have h0 : (upd H wl (.lst [.str (txt d.nm)])) wl = some (wordsL [d.nm]) := upd_same
  refine ⟨_, rfl, _, rfl, p, _, rfl, SqT.of (s0 _ _ hp), ?_, fun tp htp => ?_⟩
  · rintro ⟨z, _⟩
    have e : HT.sIx (V.str (txt d.nm) :: vs).length 0 (some 1) = min 1 (V.str (txt d.nm) :: vs).length := HT.sIx_nat _ _ 1
    have z' : HT.sIx (V.str (txt d.nm) :: vs).length 0 (some 1) = 0 := z
    rw [e, List.length_cons] at z'
    omega
  have ec : cutV (V.str (txt d.nm) :: vs) (some 1) none = vs := by
    unfold cutV
    have e : HT.sIx (V.str (txt d.nm) :: vs).length 0 (some 1) = 1 := (HT.sIx_nat _ _ 1).trans (by rw [List.length_cons]; omega)
    have e2 : HT.sIx (V.str (txt d.nm) :: vs).length (V.str (txt d.nm) :: vs).length none = vs.length + 1 := rfl
    rw [e, e2]
    show vs.take (vs.length + 1 - 1) = vs
    exact List.take_of_length_le (by omega)
  rw [ec]
  change (upd H wl (.lst [.str (txt d.nm)])) tp = none at htp
  have s1' := same_new htp (.tup vs)
  have h1 : (upd (upd H wl (.lst [.str (txt d.nm)])) tp (.tup vs)) tp = some (.tup vs) := upd_same
  have h1w := s1' _ _ h0
  have s1 := s0.trans s1'
  have nwt : wl ≠ tp := ne_of_none h0 htp
  generalize upd (upd H wl (.lst [.str (txt d.nm)])) tp (.tup vs) = H1 at s1 h1 h1w
  refine ⟨tp, rfl, ⟨_, SqT.of h1⟩, for_tup (K := K) (a := tp) (xs := vs) (fun i σ H2 => ∃ u : Option V, σ = [some (.ref p), some (.ref wl), u] ∧ H2 wl = some (wordsL (d.nm :: (d.parts.take i).flatMap Part.words)) ∧ H2 tp = some (.tup vs) ∧ Same H H2) ⟨none, rfl, by rw [List.take_zero, List.flatMap_nil]; exact h1w, h1, s1⟩ (fun i σ H2 _ ⟨_, _, _, h2, _⟩ => SqT.of h2) ?_ ?_⟩
  · rintro i v σ H2 hi ⟨u, rfl, h2, h2t, s2⟩
    obtain ⟨q, eq, hq⟩ := all2_get al hi
    have qk := pk q (List.mem_of_getElem? eq)
    have ql := Part.line_len qk
    have fl := flat_len (ps := d.parts.take i) fun q hq => pk q (List.mem_of_mem_take hq)
    have ft : (d.parts.take i).length ≤ 10 := by rw [List.length_take]; omega
    have fs := flat_sum ((d.parts.take i).flatMap Part.words)
    rw [words_line] at fs
    have nx : d.nm :: (d.parts.take (i + 1)).flatMap Part.words = (d.nm :: (d.parts.take i).flatMap Part.words) ++ q.words := by
      rw [take_snoc eq, List.flatMap_append, List.flatMap_cons, List.flatMap_nil, List.append_nil, List.cons_append]
    have lB : (d.nm :: (d.parts.take i).flatMap Part.words).length ≤ 50000 := by rw [List.length_cons]; omega
    have lq : q.words.length ≤ 29 := by
      cases q with
      | num x => show 1 ≤ 29; decide
      | tx t => show 1 ≤ 29; decide
      | row r => show (r.map showP).length ≤ 29; rw [List.length_map]; exact qk.1
    have fin : ∀ (t : Addr) (H3 : Hp) (v' : V), Same H2 H3 → H2 t = none → H3 t = some (wordsL q.words) → ∃ (l b : Addr) (xs zs : List V), V.ref wl = .ref l ∧ V.ref t = .ref b ∧ H3 l = some (.lst xs) ∧ H3 b = some (.lst zs) ∧ xs.length + zs.length ≤ sizeLine ∧ ∃ u : Option V, ([some (.ref p), some (.ref wl), some v'] : List (Option V)).set 1 (some (.ref l)) = [some (.ref p), some (.ref wl), u] ∧ (upd H3 l (.lst (xs ++ zs))) wl = some (wordsL (d.nm :: (d.parts.take (i + 1)).flatMap Part.words)) ∧ (upd H3 l (.lst (xs ++ zs))) tp = some (.tup vs) ∧ Same H (upd H3 l (.lst (xs ++ zs))) := by
      intro t H3 v' s3 ft3 h3
      refine ⟨wl, t, _, _, rfl, rfl, s3 _ _ h2, h3, Nat.le_of_lt (million (by rw [List.length_map, List.length_map]; omega)), _, rfl, ?_, ?_, ?_⟩
      · rw [words_cat, upd_same, nx]
      · rw [upd_ne nwt.symm]; exact s3 _ _ h2t
      · exact keep_of fwl (s2.trans s3) (keep_upd wl _ _)
    cases q with
    | num x =>
      cases (show v = .int x from hq)
      refine ⟨_, rfl, _, rfl, _, "list", _, _, rfl, .int x, kil, _, rfl, iteF ⟨_, rfl, .inl ⟨x, rfl, log_fit qk, ?_⟩⟩⟩
      rw [InkY.num_txt qk.1]
      exact ⟨(by show 1 ≤ sizeLine; decide), fun t ft3 => fin t _ (.int x) (same_new ft3 _) ft3 upd_same⟩
    | tx t =>
      cases (show v = .str (txt t) from hq)
      have lt : t.length ≤ 200 := qk
      refine ⟨_, rfl, _, rfl, _, "list", _, _, rfl, .str _, ksl, _, rfl, iteF ⟨_, rfl, .inr ⟨t, rfl, by omega, ?_⟩⟩⟩
      exact ⟨(by show 1 ≤ sizeLine; decide), fun t' ft3 => fin t' _ (.str (txt t)) (same_new ft3 _) ft3 upd_same⟩
    | row r =>
      obtain ⟨qa, rfl, hr⟩ := hq
      have hr2 := hr.same s2
      obtain ⟨as, has, _⟩ := id hr2
      refine ⟨_, rfl, _, rfl, _, "list", _, _, rfl, .lst has, k_ll K, _, rfl, iteT ?_⟩
      exact ⟨_, rfl, qa, r, rfl, hr2, qk, fun t H3 h3 s3 ft3 => fin t H3 (.ref qa) s3 ft3 h3⟩
  · rintro σ H2 ⟨u, rfl, h2, h2t, s2⟩
    rw [lv, List.take_length] at h2
    have fs := flat_sum (d.parts.flatMap Part.words)
    rw [words_line] at fs
    have fl := flat_len (ps := d.parts) pk
    refine ⟨rfl, _, rfl, wl, 32, _, by rw [show Str.ofString " " = ⟨#[32]⟩ by decide +kernel], rfl, h2, ?_, ?_⟩
    · rw [List.map_cons, List.sum_cons, List.length_cons]
      omega
    rw [jn_flat, words_line, ← ln]
    exact k H2 s2

/-! the shelf: what stands at each moment -/
structure RwAt (S : Addr → Prop) (H : Hp) (st op r : Addr) (its : List Item) : Prop where
  own : S r
  ne : r ≠ st ∧ r ≠ op
  at' : ItemsAt H (.ref r) its
def StAt (S : Addr → Prop) (H : Hp) (st op a : Addr) (rows : List (List Item)) : Prop := S a ∧ a ≠ st ∧ a ≠ op ∧ ∃ rs : List Addr, H a = some (.lst (rs.map V.ref)) ∧ All2 (RwAt S H st op) rs rows
abbrev Past := List (List (List Item))
structure Opn (past : Past) (ops : List Int) : Prop where
  some' : ∃ last, past.getLast? = some last ∧ ops.length = last.length
  fit : ∀ (s : Nat) (o : Int), ops[s]? = some o → 0 ≤ o ∧ o < past.length ∧ ∀ (m : Nat) (rows : List (List Item)), past[m]? = some rows → (o ≤ m ↔ s < rows.length)
  less : ∀ (m : Nat) (rows : List (List Item)), past[m]? = some rows → rows.length ≤ ops.length
structure Sh (C : Addr) (S : Addr → Prop) (H : Hp) (x d st op : Addr) (past : Past) (ops : List Int) : Prop where
  sx : S x
  ss : S st
  so : S op
  al : ∀ a, S a → ∃ ob, H a = some ob
  hx : H x = some (.ins C d [("states", .ref st), ("openings", .ref op)])
  hs : ∃ as : List Addr, H st = some (.lst (as.map V.ref)) ∧ All2 (StAt S H st op) as past
  ho : H op = some (.lst (ops.map V.int))
  ne : st ≠ op
  opn : Opn past ops
theorem ItemsAt.fr {H H' : Hp} {r : Addr} {its : List Item} (h : ItemsAt H (.ref r) its) (k : ∀ xs, H r = some (.lst xs) → H' r = some (.lst xs)) (t : ∀ a xs, H a = some (.tup xs) → H' a = some (.tup xs)) : ItemsAt H' (.ref r) its := by
  obtain ⟨a, vs, e, h1, h2⟩ := h
  cases e
  exact ⟨r, vs, rfl, k _ h1, h2.mono fun v it ⟨b, e, hb⟩ => ⟨b, e, t _ _ hb⟩⟩
theorem StAt.fr {S S' : Addr → Prop} {H H' : Hp} {st op a : Addr} {rows : List (List Item)} (h : StAt S H st op a rows) (sub : ∀ a, S a → S' a) (k : ∀ a ob, H a = some ob → S a → a ≠ st → a ≠ op → H' a = some ob) (t : ∀ a xs, H a = some (.tup xs) → H' a = some (.tup xs)) : StAt S' H' st op a rows := by
  obtain ⟨sa, n1, n2, rs, hr, al⟩ := h
  exact ⟨sub _ sa, n1, n2, rs, k _ _ hr sa n1 n2, al.mono fun r its q => ⟨sub _ q.own, q.ne, q.at'.fr (fun xs e => k _ _ e q.own q.ne.1 q.ne.2) t⟩⟩
theorem Sh.fr {C : Addr} {S : Addr → Prop} {H H' : Hp} {x d st op : Addr} {past : Past} {ops : List Int} (h : Sh C S H x d st op past ops) (k : ∀ a ob, H a = some ob → S a → H' a = some ob) (t : ∀ a xs, H a = some (.tup xs) → H' a = some (.tup xs)) : Sh C S H' x d st op past ops := by
  obtain ⟨sx, ss, so, al, hx, ⟨as, hs, a2⟩, ho, ne, opn⟩ := h
  refine ⟨sx, ss, so, fun a z => ?_, k _ _ hx sx, ⟨as, k _ _ hs ss, a2.mono fun a rows q => q.fr (fun _ z => z) (fun a ob e z _ _ => k _ _ e z) t⟩, k _ _ ho so, ne, opn⟩
  obtain ⟨ob, e⟩ := al a z
  exact ⟨ob, k _ _ e z⟩
theorem Sh.same {C : Addr} {S : Addr → Prop} {H H' : Hp} {x d st op : Addr} {past : Past} {ops : List Int} (h : Sh C S H x d st op past ops) (k : Same H H') : Sh C S H' x d st op past ops := h.fr (fun a ob e _ => k a ob e) (fun a xs e => k _ _ e)
theorem Sh.keep {C : Addr} {S : Addr → Prop} {H H' : Hp} {x d st op l : Addr} {past : Past} {ops : List Int} {ls : List V} (h : Sh C S H x d st op past ops) (hl : H l = some (.lst ls)) (nl : ¬ S l) (k : Keep l H H') : Sh C S H' x d st op past ops :=
  h.fr (fun a ob e z => k a ob e (fun q => nl (by rw [← q]; exact z))) (fun a xs e => k _ _ e (ne_of e hl (by intro z; cases z)))
theorem refs_inj : ∀ {as bs : List Addr}, as.map V.ref = bs.map V.ref → as = bs
  | [], [], _ => rfl
  | [], _ :: _, h => by cases h
  | _ :: _, [], h => by cases h
  | a :: as, b :: bs, h => by
    rw [List.map_cons, List.map_cons] at h
    injection h with h1 h2
    cases h1
    rw [refs_inj h2]
theorem Sh.last {C : Addr} {S : Addr → Prop} {H : Hp} {x d st op : Addr} {past : Past} {ops : List Int} (h : Sh C S H x d st op past ops) {as : List Addr} (ha : H st = some (.lst (as.map V.ref))) : ∃ as' a, as = as' ++ [a] ∧ ∀ last, past.getLast? = some last → StAt S H st op a last := by
  obtain ⟨bs, hb, a2⟩ := h.hs
  have e : as = bs := by
    rw [ha] at hb
    have := HO.lst.inj (Option.some.inj hb)
    exact refs_inj this
  subst e
  obtain ⟨last, hl, _⟩ := h.opn.some'
  obtain ⟨p', rfl⟩ : ∃ p', past = p' ++ [last] := by
    rcases List.eq_nil_or_concat past with rfl | ⟨p', l, rfl⟩
    · cases hl
    · rw [List.concat_eq_append, List.getLast?_concat] at hl
      cases hl
      exact ⟨p', List.concat_eq_append⟩
  obtain ⟨as', a, rfl, _, r⟩ := a2.split
  refine ⟨as', a, rfl, fun l e => ?_⟩
  rw [hl] at e
  cases e
  exact r
theorem cut_frontS (xs : List V) {p : Int} (h : 0 ≤ p) : cutV xs none (some p) = xs.take p.toNat := by
  unfold cutV
  have e1 : HT.sIx xs.length 0 none = 0 := rfl
  have e2 : HT.sIx xs.length xs.length (some p) = min p.toNat xs.length := by
    show (if p < 0 then (p + (xs.length : Int)).toNat else min p.toNat xs.length) = _
    rw [if_neg (by omega)]
  rw [e1, e2, List.drop_zero, Nat.sub_zero]
  rcases Nat.le_total p.toNat xs.length with z | z
  · rw [Nat.min_eq_left z]
  · rw [Nat.min_eq_right z, List.take_of_length_le (Nat.le_refl _), List.take_of_length_le z]
theorem cut_backS (xs : List V) {p : Int} (h : 0 ≤ p) : cutV xs (some p) none = xs.drop p.toNat := by
  unfold cutV
  have e1 : HT.sIx xs.length xs.length none = xs.length := rfl
  have e2 : HT.sIx xs.length 0 (some p) = min p.toNat xs.length := by
    show (if p < 0 then (p + (xs.length : Int)).toNat else min p.toNat xs.length) = _
    rw [if_neg (by omega)]
  rw [e1, e2]
  rcases Nat.le_total p.toNat xs.length with z | z
  · rw [Nat.min_eq_left z, List.take_of_length_le (by rw [List.length_drop]; omega)]
  · rw [Nat.min_eq_right z, List.drop_of_length_le (Nat.le_refl _), List.drop_of_length_le z]
    simp
def spChanged : Sp := fun vs H Q _ => ∃ (a r : Addr) (rs : List V) (s : Nat), vs = [.ref a, .int (s : Nat), .ref r] ∧ H a = some (.lst rs) ∧ s ≤ rs.length ∧ rs.length ≤ 1000 ∧ ∀ (p : Addr) (H' : Hp), H' p = some (.lst (rs.take s ++ [.ref r] ++ rs.drop (s + 1))) → Same H H' → H p = none → Q (.ref p) H'
def spSInit (C : Addr) : Sp := fun vs H Q _ => ∃ x d : Addr, vs = [.ref x] ∧ H x = some (.ins C d []) ∧ ∀ (st op z : Addr) (H' : Hp), Sh C (fun a => a = x ∨ a = st ∨ a = op ∨ a = z) H' x d st op [[]] [] → Keep x H H' → H st = none → H op = none → H z = none → Q .non H'
def spNow (C : Addr) : Sp := fun vs H Q _ => ∃ (x d st op : Addr) (as : List V), vs = [.ref x] ∧ H x = some (.ins C d [("states", .ref st), ("openings", .ref op)]) ∧ H st = some (.lst as) ∧ Q (.int ((as.length : Nat) - 1)) H
def spMany (C : Addr) : Sp := fun vs H Q _ => ∃ (S : Addr → Prop) (x d st op : Addr) (past : Past) (ops : List Int), vs = [.ref x] ∧ Sh C S H x d st op past ops ∧ Q (.int (ops.length : Nat)) H
abbrev schanged : Stmt := top 51
abbrev sShelf___init__ : Stmt := mtop 52 0
abbrev sShelf_now : Stmt := mtop 52 3
abbrev sShelf_many : Stmt := mtop 52 2
theorem scchanged : FnScope ["state", "sheet", "items"] ["state", "sheet", "items"] (defScope schanged) := ⟨rfl, rfl, rfl, by decide +kernel, rfl, by decide +kernel, by decide +kernel⟩
theorem scShelf___init__ : FnScope ["self"] ["self"] (defScope sShelf___init__) := ⟨rfl, rfl, rfl, by decide +kernel, rfl, by decide +kernel, by decide +kernel⟩
theorem scShelf_now : FnScope ["self"] ["self"] (defScope sShelf_now) := ⟨rfl, rfl, rfl, by decide +kernel, rfl, by decide +kernel, by decide +kernel⟩
theorem scShelf_many : FnScope ["self"] ["self"] (defScope sShelf_many) := ⟨rfl, rfl, rfl, by decide +kernel, rfl, by decide +kernel, by decide +kernel⟩
theorem ok_changed {f : Addr} {fd : FuncData} (F : Fun K "changed" "changed" schanged f fd) (T : Nms mg) : FnOk P w K mg base CX0 1 f fd ["state", "sheet", "items"] spChanged := by
  refine F.ok scchanged (fun vs H Q E h => ?_) (fun cdv A outer s H vs Q E hr h => ?_)
  · obtain ⟨a, r, rs, s, rfl, _⟩ := h
    rfl
  obtain ⟨a, r, rs, s, rfl, ha, sl, l1, k⟩ := h
  refine ⟨_, (pss_cons (ps_if (pt_not (pt_chain op_le op_le pe_int (pv 1) (pe_callB call_len_seq rfl T.n_len PySem.boot_len (pa_cons (pv 0) pa_nil))))
      (pss_one ps_never)
      pss_nil)
      (pss_one (ps_ret (pe_op op_cat (pe_op op_cat (pe_slice sl_list (pv 0) po_none (po_some (pv 1))) (pe_lst (pa_cons (pv 2) pa_nil))) (pe_slice sl_list (pv 0) (po_some (pe_op op_add (pv 1) pe_int)) po_none))))), ?_⟩
  refine ⟨_, rfl, _, _, rfl, rfl, _, rfl, ite2 (fun c0 => ?_) (fun c0 => absurd (decide_eq_true (by omega)) c0)⟩
  refine ⟨_, rfl, a, _, rfl, .inl (SqL.of ha), _, _, rfl, rfl, _, rfl, ?_⟩
  rw [decide_eq_true (show ((s : Nat) : Int) ≤ ((rs.length : Nat) : Int) by omega)]
  refine iteF ?_
  refine ⟨_, rfl, _, rfl, _, rfl, a, _, rfl, SqL.of ha, fun p1 hp1 => ?_⟩
  rw [cut_frontS _ (by omega), Int.toNat_natCast]
  have s1 : Same H (upd H p1 (.lst (rs.take s))) := same_new hp1 _
  have h1 : (upd H p1 (.lst (rs.take s))) p1 = some (.lst (rs.take s)) := upd_same
  generalize upd H p1 (.lst (rs.take s)) = H1 at s1 h1
  refine ⟨_, rfl, (by show 1 ≤ sizeLine; decide), fun p2 hp2 => ?_⟩
  have s2 : Same H1 (upd H1 p2 (.lst [.ref r])) := same_new hp2 _
  have h2 : (upd H1 p2 (.lst [.ref r])) p2 = some (.lst [.ref r]) := upd_same
  generalize upd H1 p2 (.lst [.ref r]) = H2 at s2 h2
  refine ⟨p1, p2, _, _, rfl, rfl, s2 _ _ h1, h2, (by rw [List.length_take]; exact Nat.le_of_lt (million (by simp only [List.length_singleton]; omega))), fun p3 hp3 => ?_⟩
  have s3 : Same H2 (upd H2 p3 (.lst (rs.take s ++ [.ref r]))) := same_new hp3 _
  have h3 : (upd H2 p3 (.lst (rs.take s ++ [.ref r]))) p3 = some (.lst (rs.take s ++ [.ref r])) := upd_same
  generalize upd H2 p3 (.lst (rs.take s ++ [.ref r])) = H3 at s3 h3
  have s03 := s1.trans (s2.trans s3)
  refine ⟨_, rfl, _, rfl, _, _, rfl, rfl, _, rfl, a, _, rfl, SqL.of (s03 _ _ ha), fun p4 hp4 => ?_⟩
  rw [cut_backS _ (by omega), show (((s : Nat) : Int) + 1).toNat = s + 1 by omega]
  have s4 : Same H3 (upd H3 p4 (.lst (rs.drop (s + 1)))) := same_new hp4 _
  have h4 : (upd H3 p4 (.lst (rs.drop (s + 1)))) p4 = some (.lst (rs.drop (s + 1))) := upd_same
  generalize upd H3 p4 (.lst (rs.drop (s + 1))) = H4 at s4 h4
  refine ⟨p3, p4, _, _, rfl, rfl, s4 _ _ h3, h4, (by rw [List.length_append, List.length_take, List.length_drop]; exact Nat.le_of_lt (million (by simp only [List.length_singleton]; omega))), fun p5 hp5 => ?_⟩
  have s04 := s03.trans s4
  exact k p5 _ upd_same (s04.trans (same_new hp5 _)) (free_same s04 hp5)
theorem ok_Shelf___init__ {f C : Addr} {fd : FuncData} (F : Fun K "__init__" "Shelf.__init__" sShelf___init__ f fd) (cl : Cls K C) (n1 : NoAttr K C "states") (n2 : NoAttr K C "openings") : FnOk P w K mg base CX0 1 f fd ["self"] (spSInit C) := by
  refine F.ok scShelf___init__ (fun vs H Q E h => ?_) (fun cdv A outer s H vs Q E hr h => ?_)
  · obtain ⟨x, d, rfl, _⟩ := h
    rfl
  obtain ⟨x, d, rfl, hx, k⟩ := h
  refine ⟨_, (pss_cons (ps_fld (pv 0) (pe_lst (pa_cons (pe_lst pa_nil) pa_nil)) rfl)
      (pss_one (ps_fld (pv 0) (pe_lst pa_nil) rfl))), ?_⟩
  refine ⟨(by show 0 ≤ sizeLine; decide), fun z hz => ?_⟩
  have a0 : Same H (upd H z (.lst [])) := same_new hz _
  have z0 : (upd H z (.lst [])) z = some (.lst []) := upd_same
  generalize upd H z (.lst []) = H0 at a0 z0
  refine ⟨(by show 1 ≤ sizeLine; decide), fun st hst => ?_⟩
  have a1 : Same H0 (upd H0 st (.lst [.ref z])) := same_new hst _
  have b1 : (upd H0 st (.lst [.ref z])) st = some (.lst [.ref z]) := upd_same
  generalize upd H0 st (.lst [.ref z]) = H1 at a1 b1
  have a01 := a0.trans a1
  refine ⟨_, rfl, x, C, d, _, rfl, a01 _ _ hx, cl, n1, by decide, ?_⟩
  have k2 : Keep x H1 (upd H1 x (.ins C d (L2.putF "states" (.ref st) []))) := keep_upd x _ _
  have h2 : (upd H1 x (.ins C d (L2.putF "states" (.ref st) []))) x = some (.ins C d [("states", .ref st)]) := upd_same
  generalize upd H1 x (.ins C d (L2.putF "states" (.ref st) [])) = H2 at k2 h2
  have nsx : st ≠ x := (ne_of_none (a0 _ _ hx) hst).symm
  have nzx : z ≠ x := (ne_of_none hx hz).symm
  have nzs : z ≠ st := ne_of_none z0 hst
  have b2 := k2 _ _ b1 nsx
  have z2 := k2 _ _ (a1 _ _ z0) nzx
  refine ⟨(by show 0 ≤ sizeLine; decide), fun op hop => ?_⟩
  have nox : op ≠ x := (ne_of_none h2 hop).symm
  have nso : st ≠ op := ne_of_none b2 hop
  have nzo : z ≠ op := ne_of_none z2 hop
  refine ⟨_, rfl, x, C, d, _, rfl, same_new hop _ _ _ h2, cl, n2, (by show 1 < 1000; decide), ?_⟩
  have k5 : Keep x H (upd (upd H2 op (.lst [])) x (.ins C d (L2.putF "openings" (.ref op) [("states", .ref st)]))) := fun a ob e n => by
    rw [upd_ne n]
    exact same_new hop _ _ _ (k2 _ _ (a01 _ _ e) n)
  have z5 : (upd (upd H2 op (.lst [])) x (.ins C d (L2.putF "openings" (.ref op) [("states", .ref st)]))) z = some (.lst []) := by rw [upd_ne nzx]; exact same_new hop _ _ _ z2
  have s5 : (upd (upd H2 op (.lst [])) x (.ins C d (L2.putF "openings" (.ref op) [("states", .ref st)]))) st = some (.lst [.ref z]) := by rw [upd_ne nsx]; exact same_new hop _ _ _ b2
  have o5 : (upd (upd H2 op (.lst [])) x (.ins C d (L2.putF "openings" (.ref op) [("states", .ref st)]))) op = some (.lst []) := by rw [upd_ne nox]; exact upd_same
  have x5 : (upd (upd H2 op (.lst [])) x (.ins C d (L2.putF "openings" (.ref op) [("states", .ref st)]))) x = some (.ins C d [("states", .ref st), ("openings", .ref op)]) := upd_same
  generalize upd (upd H2 op (.lst [])) x (.ins C d (L2.putF "openings" (.ref op) [("states", .ref st)])) = H5 at k5 z5 s5 o5 x5
  refine k st op z _ ⟨.inl rfl, .inr (.inl rfl), .inr (.inr (.inl rfl)), fun a w => ?_, x5, ⟨[z], s5, .cons ⟨.inr (.inr (.inr rfl)), nzs, nzo, [], z5, .nil⟩ .nil⟩, o5, nso, ⟨⟨[], rfl, rfl⟩, fun s o e => (by cases s <;> cases e), fun m rows e => ?_⟩⟩ k5 (free_same a0 hst) ?_ hz
  · rcases w with rfl | rfl | rfl | rfl
    · exact ⟨_, x5⟩
    · exact ⟨_, s5⟩
    · exact ⟨_, o5⟩
    · exact ⟨_, z5⟩
  · match m, e with
    | 0, e => cases e; exact Nat.le_refl _
    | m + 1, e => cases e
  · exact free_same a01 (free_keep k2 nox hop)
theorem ok_Shelf_now {f C : Addr} {fd : FuncData} (F : Fun K "now" "Shelf.now" sShelf_now f fd) (T : Nms mg) (cl : Cls K C) (n1 : NoAttr K C "states") : FnOk P w K mg base CX0 1 f fd ["self"] (spNow C) := by
  refine F.ok scShelf_now (fun vs H Q E h => ?_) (fun cdv A outer s H vs Q E hr h => ?_)
  · obtain ⟨x, d, st, op, as, rfl, _⟩ := h
    rfl
  obtain ⟨x, d, st, op, as, rfl, hx, hs, k⟩ := h
  refine ⟨_, (pss_one (ps_ret (pe_op op_sub (pe_callB call_len_seq rfl T.n_len PySem.boot_len (pa_cons (pe_fld (pv 0) rfl) pa_nil)) pe_int))), ?_⟩
  exact ⟨_, rfl, x, C, d, _, .ref st, rfl, hx, cl, n1, rfl, st, _, rfl, .inl (SqL.of hs), _, _, rfl, rfl, k⟩
theorem ok_Shelf_many {f C : Addr} {fd : FuncData} (F : Fun K "many" "Shelf.many" sShelf_many f fd) (T : Nms mg) (cl : Cls K C) (n1 : NoAttr K C "states") : FnOk P w K mg base CX0 1 f fd ["self"] (spMany C) := by
  refine F.ok scShelf_many (fun vs H Q E h => ?_) (fun cdv A outer s H vs Q E hr h => ?_)
  · obtain ⟨S, x, d, st, op, past, ops, rfl, _⟩ := h
    rfl
  obtain ⟨S, x, d, st, op, past, ops, rfl, W, k⟩ := h
  obtain ⟨as, hs, a2⟩ := W.hs
  obtain ⟨last, hl, ol⟩ := W.opn.some'
  refine ⟨_, (pss_one (ps_ret (pe_callB call_len_seq rfl T.n_len PySem.boot_len (pa_cons (pe_ix ix_list (pe_fld (pv 0) rfl) (pe_un un_neg pe_int) (fun _ _ => rfl)) pa_nil)))), ?_⟩
  obtain ⟨as', a, rfl, r⟩ := W.last hs
  refine ⟨_, rfl, x, C, d, _, .ref st, rfl, W.hx, cl, n1, rfl, _, rfl, st, _, _, .ref a, rfl, rfl, SqL.of hs, (by rw [List.map_append]; exact atI_neg1 _ _), ?_⟩
  obtain ⟨_, _, _, rs, ha, al⟩ := r last hl
  refine ⟨a, _, rfl, .inl (SqL.of ha), ?_⟩
  rw [List.length_map, al.len, ← ol]
  exact k




def ap1 (rows : List (List Item)) (ch : Nat × List Item) : List (List Item) := rows.take ch.1 ++ [ch.2] ++ rows.drop (ch.1 + 1)
def apCh (rows : List (List Item)) (chs : List (Nat × List Item)) : List (List Item) := chs.foldl ap1 rows
def okCh (rows : List (List Item)) (chs : List (Nat × List Item)) : Prop := ∀ (i : Nat) (ch : Nat × List Item), chs[i]? = some ch → ch.1 ≤ (apCh rows (chs.take i)).length
theorem ap1_len {rows : List (List Item)} {ch : Nat × List Item} (h : ch.1 ≤ rows.length) : rows.length ≤ (ap1 rows ch).length ∧ (ap1 rows ch).length ≤ rows.length + 1 := by
  unfold ap1
  rw [List.length_append, List.length_append, List.length_take, List.length_drop]
  simp only [List.length_singleton]
  omega
theorem apCh_succ {rows : List (List Item)} {chs : List (Nat × List Item)} {i : Nat} {ch : Nat × List Item} (h : chs[i]? = some ch) : apCh rows (chs.take (i + 1)) = ap1 (apCh rows (chs.take i)) ch := by
  unfold apCh
  rw [take_snoc h, List.foldl_append]
  rfl
theorem apCh_len {rows : List (List Item)} {chs : List (Nat × List Item)} (ok : okCh rows chs) : ∀ i, i ≤ chs.length → rows.length ≤ (apCh rows (chs.take i)).length ∧ (apCh rows (chs.take i)).length ≤ rows.length + i
  | 0, _ => ⟨Nat.le_refl _, Nat.le_refl _⟩
  | i + 1, h => by
    have e : chs[i]? = some chs[i] := List.getElem?_eq_getElem (by omega)
    have a := apCh_len ok i (by omega)
    have b := ap1_len (ok i _ e)
    rw [apCh_succ e]
    omega
theorem Opn.step {past : Past} {ops : List Int} {last rows : List (List Item)} (h : Opn past ops) (hl : past.getLast? = some last) (le : last.length ≤ rows.length) : Opn (past ++ [rows]) (ops ++ List.replicate (rows.length - last.length) ((past.length : Nat) : Int)) := by
  obtain ⟨⟨l', hl', ol⟩, fit, less⟩ := h
  rw [hl] at hl'
  cases hl'
  have get : ∀ (m : Nat) (r : List (List Item)), (past ++ [rows])[m]? = some r → past[m]? = some r ∧ m < past.length ∨ m = past.length ∧ r = rows := fun m r e => by
    by_cases c : m < past.length
    · rw [List.getElem?_append_left c] at e
      exact .inl ⟨e, c⟩
    · rw [List.getElem?_append_right (by omega)] at e
      match hm : m - past.length, e with
      | 0, e => cases e; exact .inr ⟨by omega, rfl⟩
      | k + 1, e => cases e
  refine ⟨⟨rows, List.getLast?_concat, by rw [List.length_append, List.length_replicate]; omega⟩, fun s o e => ?_, fun m r e => ?_⟩
  · by_cases c : s < ops.length
    · rw [List.getElem?_append_left c] at e
      obtain ⟨f0, f1, f2⟩ := fit s o e
      refine ⟨f0, by rw [List.length_append]; simp only [List.length_singleton]; omega, fun m r em => ?_⟩
      rcases get m r em with ⟨q, _⟩ | ⟨rfl, rfl⟩
      · exact f2 m r q
      · constructor
        · intro _; omega
        · intro _; omega
    · rw [List.getElem?_append_right (by omega), List.getElem?_replicate] at e
      split at e
      · cases e
        refine ⟨by omega, by rw [List.length_append]; simp only [List.length_singleton]; omega, fun m r em => ?_⟩
        rcases get m r em with ⟨q, lt⟩ | ⟨rfl, rfl⟩
        · have := less m r q
          constructor
          · intro z; omega
          · intro z; omega
        · constructor
          · intro _; omega
          · intro _; omega
      · cases e
  · rw [List.length_append, List.length_replicate]
    rcases get m r e with ⟨q, _⟩ | ⟨rfl, rfl⟩
    · have := less m r q
      omega
    · omega
theorem All2.app {α β : Type} {R : α → β → Prop} : ∀ {as as' : List α} {bs bs' : List β}, All2 R as bs → All2 R as' bs' → All2 R (as ++ as') (bs ++ bs')
  | _, _, _, _, .nil, t => t
  | _, _, _, _, .cons e r, t => .cons e (r.app t)
theorem All2.take {α β : Type} {R : α → β → Prop} : ∀ {as : List α} {bs : List β} (n : Nat), All2 R as bs → All2 R (as.take n) (bs.take n)
  | _, _, 0, _ => by rw [List.take_zero, List.take_zero]; exact .nil
  | _, _, n + 1, .nil => .nil
  | _, _, n + 1, .cons e r => .cons e (r.take n)
theorem All2.drop {α β : Type} {R : α → β → Prop} : ∀ {as : List α} {bs : List β} (n : Nat), All2 R as bs → All2 R (as.drop n) (bs.drop n)
  | _, _, 0, h => h
  | _, _, n + 1, .nil => .nil
  | _, _, n + 1, .cons _ r => r.drop n
theorem rep_oneS (v : V) : ∀ n : Nat, (List.replicate n [v]).flatten = List.replicate n v
  | 0 => rfl
  | n + 1 => by rw [List.replicate_succ, List.flatten_cons, rep_oneS v n, List.replicate_succ]; rfl
theorem upd_idS {H : Hp} {a : Addr} {ob : HO} (h : H a = some ob) : upd H a ob = H := by
  funext b
  by_cases e : b = a
  · rw [e, upd_same, h]
  · rw [upd_ne e]
/-- the changes handed in: tuples of a number and a list of items -/
def ChAt (H : Hp) (a : Addr) (ch : Nat × List Item) : Prop := ∃ r : Addr, H a = some (.tup [.int (ch.1 : Nat), .ref r]) ∧ ItemsAt H (.ref r) ch.2
theorem ChAt.same {H H' : Hp} {a : Addr} {ch : Nat × List Item} (s : Same H H') : ChAt H a ch → ChAt H' a ch := fun ⟨r, h1, h2⟩ => ⟨r, s _ _ h1, h2.same s⟩
def spShStep (C : Addr) : Sp := fun vs H Q _ => ∃ (S : Addr → Prop) (x d st op c : Addr) (past : Past) (ops : List Int) (cs : List Addr) (chs : List (Nat × List Item)) (last : List (List Item)), vs = [.ref x, .ref c] ∧ Sh C S H x d st op past ops ∧ H c = some (.lst (cs.map V.ref)) ∧ All2 (ChAt H) cs chs ∧ past.getLast? = some last ∧ okCh last chs ∧ chs.length ≤ 200 ∧ last.length ≤ 500 ∧ past.length ≤ 1000 ∧
  ∀ (S' : Addr → Prop) (H' : Hp), Sh C S' H' x d st op (past ++ [apCh last chs]) (ops ++ List.replicate ((apCh last chs).length - last.length) ((past.length : Nat) : Int)) → (∀ a, S' a → S a ∨ H a = none) → (∀ a ob, H a = some ob → ¬ S a → H' a = some ob) → (∀ a xs, H a = some (.tup xs) → H' a = some (.tup xs)) → Q .non H'
abbrev sShelf_step : Stmt := mtop 52 1
theorem scShelf_step : FnScope ["self", "changes", "state", "ahead", "sheet", "items"] ["self", "changes"] (defScope sShelf_step) := ⟨rfl, rfl, rfl, by decide +kernel, rfl, by decide +kernel, by decide +kernel⟩
theorem ok_Shelf_step {f C fi fN fC : Addr} {fd gN gC : FuncData} (F : Fun K "step" "Shelf.step" sShelf_step f fd) (T : Nms mg) (cShelf : ClsAt K mg "Shelf" C fi) (n1 : NoAttr K C "states") (n2 : NoAttr K C "openings") (dchanged : DefAt K mg "changed" schanged ["state", "sheet", "items"] fC gC) (dShelf_now : MetAt K C "now" "Shelf.now" sShelf_now ["self"] fN gN) : FnOk P w K mg base CX0 2 f fd ["self", "changes"] (spShStep C) := by
  have gchanged : FnOk P w K mg base CX0 1 _ _ ["state", "sheet", "items"] spChanged := ok_changed dchanged.F T
  have gShelf_now : FnOk P w K mg base CX0 1 _ _ ["self"] (spNow C) := ok_Shelf_now dShelf_now.F T cShelf.cl n1
  refine F.ok scShelf_step (fun vs H Q E h => ?_) (fun cdv A outer s H vs Q E hr h => ?_)
  · obtain ⟨S, x, d, st, op, c, past, ops, cs, chs, last, rfl, _⟩ := h
    rfl
  obtain ⟨S, x, d, st, op, c, past, ops, cs, chs, last, rfl, W, hc, a2, hl, okc, lc, ll, lp, k⟩ := h
  refine ⟨_, (pss_cons (ps_set (i := 2) scShelf_step.nd rfl (Or.inl rfl) (pe_ix ix_list (pe_fld (pv 0) rfl) (pe_un un_neg pe_int) (fun _ _ => rfl)))
      (pss_cons (ps_set (i := 3) scShelf_step.nd rfl (Or.inl rfl) (pe_callB call_len_seq rfl T.n_len PySem.boot_len (pa_cons (pv 2) pa_nil)))
      (pss_cons (ps_for PassesOwn.never rfl (pi_list (pv 1)) (pg_tup (n := 2) rfl (pgs_cons (pg_name (i := 4) scShelf_step.nd rfl (Or.inl rfl)) (pgs_cons (pg_name (i := 5) scShelf_step.nd rfl (Or.inl rfl)) pgs_nil)))
      (pss_one (ps_set (i := 2) scShelf_step.nd rfl (Or.inl rfl) (pe_def dchanged gchanged hr (pa_cons (pv 2) (pa_cons (pv 4) (pa_cons (pe_callTy call_list_of rfl T.n_list PyProof.Rows.boot_list (pa_cons (pv 5) pa_nil)) pa_nil)))))))
      (pss_cons (ps_expr (pe_bm PySem.F.plainAttrs_list PySem.F.slot_list_append PySem.F.type_list_append mt_append (pe_fld (pv 0) rfl) (pa_cons (pv 2) pa_nil)))
      (pss_one (ps_fldaug (pv 0) (pe_op op_rep (pe_lst (pa_cons (pe_meth0 (pv 0) cShelf.cl dShelf_now.mt gShelf_now (hr.mono (by decide)) dShelf_now.b .nil pass0) pa_nil)) (pe_op op_sub (pe_callB call_len_seq rfl T.n_len PySem.boot_len (pa_cons (pv 2) pa_nil)) (pv 3))) in_cat)))))), ?_⟩
  obtain ⟨as, hs, al⟩ := id W.hs
  obtain ⟨as', a, ea, r⟩ := W.last hs
  obtain ⟨Sa, na1, na2, rs, ha, ar⟩ := r last hl
  have lal := al.len
  refine ⟨_, rfl, x, C, d, _, .ref st, rfl, W.hx, cShelf.cl, n1, rfl, _, rfl, st, _, _, .ref a, rfl, rfl, SqL.of hs, (by rw [ea, List.map_append]; exact atI_neg1 _ _), ?_⟩
  refine ⟨_, rfl, a, _, rfl, .inl (SqL.of ha), ?_⟩
  rw [List.length_map, ar.len]
  have hst : ∀ q, H q = none → q ≠ st ∧ q ≠ op := fun q hq => ⟨fun z => (by rw [z, hs] at hq; cases hq), fun z => (by rw [z, W.ho] at hq; cases hq)⟩
  refine ⟨_, rfl, c, rfl, ⟨_, SqL.of hc⟩, for_list (K := K) (a := c) (xs := cs.map V.ref) (fun i σ H1 => ∃ (u4 u5 : Option V) (S1 : Addr → Prop) (ai : Addr), σ = [some (.ref x), some (.ref c), some (.ref ai), some (.int (last.length : Nat)), u4, u5] ∧ Same H H1 ∧ (∀ q, S q → S1 q) ∧ (∀ q, S1 q → S q ∨ H q = none) ∧ (∀ q, S1 q → ∃ ob, H1 q = some ob) ∧ StAt S1 H1 st op ai (apCh last (chs.take i))) ⟨none, none, S, a, rfl, Same.refl _, fun _ z => z, fun _ z => .inl z, W.al, r last hl⟩ (fun i σ H1 _ ⟨_, _, _, _, _, s, _⟩ => SqL.of (s _ _ hc)) ?_ ?_⟩
  · rintro i y σ H1 hi ⟨u4, u5, S1, ai, rfl, s1, up, sub, al1, sa1⟩
    rw [List.getElem?_map] at hi
    obtain ⟨t, et, rfl⟩ := Option.map_eq_some_iff.mp hi
    obtain ⟨ch, ech, q⟩ := a2.get et
    have il := (List.getElem?_eq_some_iff.mp ech).1
    obtain ⟨ri, ht, hri⟩ := q.same s1
    obtain ⟨b, vs, eb, hb, itb⟩ := id hri
    cases eb
    obtain ⟨Sai, nai1, nai2, rsi, hai, ari⟩ := id sa1
    refine ⟨t, _, rfl, SqT.of ht, rfl, _, _, rfl, _, _, rfl, rfl, ?_⟩
    refine ⟨_, rfl, _, rfl, _, rfl, ri, _, rfl, .inl (SqL.of hb), fun z hz => ?_⟩
    have s2 : Same H1 (upd H1 z (.lst vs)) := same_new hz _
    have z2 : (upd H1 z (.lst vs)) z = some (.lst vs) := upd_same
    generalize upd H1 z (.lst vs) = H2 at s2 z2
    have lens := apCh_len okc i (by omega)
    have okch := okc i ch ech
    have lri := ari.len
    refine ⟨ai, z, _, ch.1, rfl, s2 _ _ hai, by rw [List.length_map, lri]; exact okch, by rw [List.length_map, lri]; omega, fun p H3 hp3 s3 fp => ?_⟩
    have s23 := s2.trans s3
    have fz : H z = none := free_same s1 hz
    have fp' : H p = none := free_same (s1.trans s2) fp
    refine ⟨_, _, fun q => S1 q ∨ q = z ∨ q = p, p, rfl, s1.trans s23, fun q z => .inl (up q z), fun q w => ?_, fun q w => ?_, .inr (.inr rfl), (hst p fp').1, (hst p fp').2, rsi.take ch.1 ++ [z] ++ rsi.drop (ch.1 + 1), ?_, ?_⟩
    · rcases w with w | rfl | rfl
      · exact sub q w
      · exact .inr fz
      · exact .inr fp'
    · rcases w with w | rfl | rfl
      · obtain ⟨ob, e⟩ := al1 q w
        exact ⟨ob, s23 _ _ e⟩
      · exact ⟨_, s3 _ _ z2⟩
      · exact ⟨_, hp3⟩
    · rw [hp3]
      simp only [List.map_append, List.map_take, List.map_drop, List.map_cons, List.map_nil]
    · rw [apCh_succ ech]
      have mv : All2 (RwAt (fun q => S1 q ∨ q = z ∨ q = p) H3 st op) rsi (apCh last (chs.take i)) := ari.mono fun r its q => ⟨.inl q.own, q.ne, q.at'.same s23⟩
      refine ((mv.take ch.1).app (.cons ⟨.inr (.inl rfl), hst z fz, ⟨z, vs, rfl, s3 _ _ z2, itb.mono fun v it q => q.same s23⟩⟩ .nil)).app (mv.drop (ch.1 + 1))
  · rintro σ H1 ⟨u4, u5, S1, ai, rfl, s1, up, sub, al1, sa1⟩
    have lcs : (cs.map V.ref).length = chs.length := by rw [List.length_map, a2.len]
    rw [lcs, List.take_length] at sa1
    have lens := apCh_len okc chs.length (Nat.le_refl _)
    rw [List.take_length] at lens
    obtain ⟨Sai, nai1, nai2, rsi, hai, ari⟩ := id sa1
    have lri := ari.len
    have W1 := W.same s1
    have hs1 := s1 _ _ hs
    refine ⟨_, rfl, x, C, d, _, .ref st, rfl, W1.hx, cShelf.cl, n1, rfl, .inl ⟨rfl, _, SqL.of hs1⟩, _, rfl, st, _, _, rfl, rfl, hs1, (by rw [List.length_map]; exact million (by omega)), ?_⟩
    rw [show as.map V.ref ++ [.ref ai] = (as ++ [ai]).map V.ref by rw [List.map_append]; rfl]
    have k2 : Keep st H1 (upd H1 st (.lst ((as ++ [ai]).map V.ref))) := keep_upd st _ _
    have st2 : (upd H1 st (.lst ((as ++ [ai]).map V.ref))) st = some (.lst ((as ++ [ai]).map V.ref)) := upd_same
    generalize upd H1 st (.lst ((as ++ [ai]).map V.ref)) = H2 at k2 st2
    have nxs : x ≠ st := ne_of W1.hx hs1 (by intro z; cases z)
    have nxo : x ≠ op := ne_of W1.hx W1.ho (by intro z; cases z)
    have x2 := k2 _ _ W1.hx nxs
    have o2 := k2 _ _ W1.ho W.ne.symm
    have ai2 := k2 _ _ hai nai1
    have lmn : (((as ++ [ai]).map V.ref).length : Int) - 1 = ((past.length : Nat) : Int) := by
      rw [List.length_map, List.length_append, lal]
      simp only [List.length_singleton]
      omega
    refine ⟨_, rfl, x, C, d, _, .ref op, rfl, x2, cShelf.cl, n2, rfl, _, rfl, x, d, _, rfl, x2, rfl, x, d, st, op, _, rfl, x2, st2, ?_⟩
    rw [lmn]
    refine ⟨(by show 1 ≤ sizeLine; decide), fun t2 ht2 => ?_⟩
    have s3 : Same H2 (upd H2 t2 (.lst [.int (past.length : Nat)])) := same_new ht2 _
    have b3 : (upd H2 t2 (.lst [.int (past.length : Nat)])) t2 = some (.lst [.int (past.length : Nat)]) := upd_same
    generalize upd H2 t2 (.lst [.int (past.length : Nat)]) = H3 at s3 b3
    refine ⟨_, rfl, ai, _, rfl, .inl (SqL.of (s3 _ _ ai2)), _, rfl, _, _, rfl, rfl, ?_⟩
    rw [List.length_map, lri]
    have ek : (((apCh last chs).length : Nat) : Int) - ((last.length : Nat) : Int) = (((apCh last chs).length - last.length : Nat) : Int) := by omega
    show rRep _ (V.int ((((apCh last chs).length : Nat) : Int) - ((last.length : Nat) : Int))) _ _
    rw [ek]
    refine ⟨t2, _, _, rfl, rfl, b3, by omega, by omega, (by simp only [List.length_singleton]; exact Nat.le_of_lt (million (by omega))), fun t3 ht3 => ?_⟩
    rw [Int.toNat_natCast, rep_oneS]
    generalize hk : (apCh last chs).length - last.length = kk
    have s4 : Same H3 (upd H3 t3 (.lst (List.replicate kk (V.int (past.length : Nat))))) := same_new ht3 _
    have b4 : (upd H3 t3 (.lst (List.replicate kk (V.int (past.length : Nat))))) t3 = some (.lst (List.replicate kk (V.int (past.length : Nat)))) := upd_same
    generalize upd H3 t3 (.lst (List.replicate kk (V.int (past.length : Nat)))) = H4 at s4 b4
    have s24 := s3.trans s4
    have lo : ops.length ≤ 700 := by
      obtain ⟨l', hl', ol⟩ := W.opn.some'
      rw [hl] at hl'
      cases hl'
      omega
    refine ⟨op, t3, _, _, rfl, rfl, s24 _ _ o2, b4, (by rw [List.length_map, List.length_replicate]; exact Nat.le_of_lt (million (by omega))), ?_⟩
    rw [show ops.map V.int ++ List.replicate kk (V.int (past.length : Nat)) = (ops ++ List.replicate kk ((past.length : Nat) : Int)).map V.int by rw [List.map_append, List.map_replicate]]
    have k5 : Keep op H4 (upd H4 op (.lst ((ops ++ List.replicate kk ((past.length : Nat) : Int)).map V.int))) := keep_upd op _ _
    have o5 : (upd H4 op (.lst ((ops ++ List.replicate kk ((past.length : Nat) : Int)).map V.int))) op = some (.lst ((ops ++ List.replicate kk ((past.length : Nat) : Int)).map V.int)) := upd_same
    generalize upd H4 op (.lst ((ops ++ List.replicate kk ((past.length : Nat) : Int)).map V.int)) = H5 at k5 o5
    have x5 := k5 _ _ (s24 _ _ x2) nxo
    refine ⟨d, _, x5, (by show 2 < 1000; decide), ?_⟩
    have e5 : upd H5 x (.ins C d (L2.putF "openings" (.ref op) ([("states", .ref st), ("openings", .ref op)] : List (Str × V)))) = H5 := upd_idS x5
    rw [e5]
    have k15 : ∀ q ob, H1 q = some ob → q ≠ st → q ≠ op → H5 q = some ob := fun q ob e m1 m2 => k5 _ _ (s24 _ _ (k2 _ _ e m1)) m2
    have t15 : ∀ q xs, H1 q = some (.tup xs) → H5 q = some (.tup xs) := fun q xs e => k15 _ _ e (ne_of e hs1 (by intro z; cases z)) (ne_of e W1.ho (by intro z; cases z))
    have st5 := k5 _ _ (s24 _ _ st2) W.ne
    refine k S1 H5 ⟨up _ W.sx, up _ W.ss, up _ W.so, fun q w => ?_, x5, ⟨as ++ [ai], st5, ?_⟩, by rw [hk]; exact o5, W.ne, W.opn.step hl lens.1⟩ sub (fun q ob e n => ?_) (fun q xs e => t15 _ _ (s1 _ _ e))
    · by_cases z1 : q = st
      · rw [z1]; exact ⟨_, st5⟩
      by_cases z2 : q = op
      · rw [z2]; exact ⟨_, o5⟩
      obtain ⟨ob, e⟩ := al1 q w
      exact ⟨ob, k15 _ _ e z1 z2⟩
    · refine (All2.mono (fun a rows q => ?_) al).app (.cons (sa1.fr (fun _ z => z) (fun q ob e _ m1 m2 => k15 _ _ e m1 m2) t15) .nil)
      exact q.fr up (fun q ob e _ m1 m2 => k15 _ _ (s1 _ _ e) m1 m2) (fun q xs e => t15 _ _ (s1 _ _ e))
    · exact k15 _ _ (s1 _ _ e) (fun z => n (by rw [z]; exact W.ss)) (fun z => n (by rw [z]; exact W.so))

def InN (n : Nat) (a : Int) : Prop := 0 ≤ a ∧ a < (n : Nat)
theorem InN.get {n : Nat} {a : Int} (h : InN n a) : ∃ j : Nat, a = j ∧ j < n := by
  obtain ⟨h0, h1⟩ := h
  exact ⟨a.toNat, by omega, by omega⟩
def ShOk (past : Past) (ops : List Int) : Prop := past.length ≤ 1000 ∧ ops.length ≤ 1000
def spCheckS (C XS : Addr) : Sp := fun vs H Q E => ∃ (S : Addr → Prop) (x d st op : Addr) (past : Past) (ops : List Int) (s : Int), vs = [.ref x, .int s] ∧ Sh C S H x d st op past ops ∧ ShOk past ops ∧ Fit s ∧ (InN ops.length s → Q .non H) ∧ (¬ InN ops.length s → E (.ref XS) none H)
def spCheckM (C XM : Addr) : Sp := fun vs H Q E => ∃ (S : Addr → Prop) (x d st op : Addr) (past : Past) (ops : List Int) (m : Int), vs = [.ref x, .int m] ∧ Sh C S H x d st op past ops ∧ ShOk past ops ∧ Fit m ∧ (InN past.length m → Q .non H) ∧ (¬ InN past.length m → E (.ref XM) none H)
def spThen (C XS XM : Addr) : Sp := fun vs H Q E => ∃ (S : Addr → Prop) (x d st op : Addr) (past : Past) (ops : List Int) (s m : Int), vs = [.ref x, .int s, .int m] ∧ Sh C S H x d st op past ops ∧ ShOk past ops ∧ Fit s ∧ Fit m ∧ (¬ InN ops.length s → E (.ref XS) none H) ∧ (InN ops.length s → ¬ InN past.length m → E (.ref XM) none H) ∧
  ∀ (si mi : Nat) (rows : List (List Item)), s = si → m = mi → si < ops.length → past[mi]? = some rows → (rows.length ≤ si → E (.ref XS) none H) ∧ (si < rows.length → Q .non H)
def Told (H : Hp) (its : List Item) (Q : V → Hp → Prop) : Prop := ∀ (q : Addr) (H' : Hp), ItemsAt H' (.ref q) its → Same H H' → H q = none → Q (.ref q) H'
def spRowThen (C XS XM : Addr) : Sp := fun vs H Q E => ∃ (S : Addr → Prop) (x d st op : Addr) (past : Past) (ops : List Int) (s m : Int), vs = [.ref x, .int s, .int m] ∧ Sh C S H x d st op past ops ∧ ShOk past ops ∧ Fit s ∧ Fit m ∧ (¬ InN ops.length s → E (.ref XS) none H) ∧ (InN ops.length s → ¬ InN past.length m → E (.ref XM) none H) ∧
  ∀ (si mi : Nat) (rows : List (List Item)), s = si → m = mi → si < ops.length → past[mi]? = some rows → (rows.length ≤ si → E (.ref XS) none H) ∧ (∀ its, rows[si]? = some its → Told H its Q)
/-- rows told: a new list of new lists -/
def FrSh (H H' : Hp) (q : Addr) (rows : List (List Item)) : Prop := H q = none ∧ ∃ rs : List Addr, H' q = some (.lst (rs.map V.ref)) ∧ All2 (fun r its => H r = none ∧ r ≠ q ∧ ItemsAt H' (.ref r) its) rs rows
def spRowsThen (C XM : Addr) : Sp := fun vs H Q E => ∃ (S : Addr → Prop) (x d st op : Addr) (past : Past) (ops : List Int) (m : Int), vs = [.ref x, .int m] ∧ Sh C S H x d st op past ops ∧ ShOk past ops ∧ Fit m ∧ (∀ (mi : Nat) (rows : List (List Item)), m = mi → past[mi]? = some rows → ∀ (q : Addr) (H' : Hp), FrSh H H' q rows → Same H H' → Q (.ref q) H') ∧ (¬ InN past.length m → E (.ref XM) none H)
def spRows (C : Addr) : Sp := fun vs H Q _ => ∃ (S : Addr → Prop) (x d st op : Addr) (past : Past) (ops : List Int), vs = [.ref x] ∧ Sh C S H x d st op past ops ∧ ShOk past ops ∧ (∀ (rows : List (List Item)), past.getLast? = some rows → ∀ (q : Addr) (H' : Hp), FrSh H H' q rows → Same H H' → Q (.ref q) H')
abbrev sShelf_check_sheet : Stmt := mtop 52 4
abbrev sShelf_check_moment : Stmt := mtop 52 5
abbrev sShelf_check_then : Stmt := mtop 52 6
abbrev sShelf_row_then : Stmt := mtop 52 8
abbrev sShelf_rows_then : Stmt := mtop 52 10
abbrev sShelf_rows : Stmt := mtop 52 9
theorem scShelf_check_sheet : FnScope ["self", "sheet"] ["self", "sheet"] (defScope sShelf_check_sheet) := ⟨rfl, rfl, rfl, by decide +kernel, rfl, by decide +kernel, by decide +kernel⟩
theorem scShelf_check_moment : FnScope ["self", "moment"] ["self", "moment"] (defScope sShelf_check_moment) := ⟨rfl, rfl, rfl, by decide +kernel, rfl, by decide +kernel, by decide +kernel⟩
theorem scShelf_check_then : FnScope ["self", "sheet", "moment"] ["self", "sheet", "moment"] (defScope sShelf_check_then) := ⟨rfl, rfl, rfl, by decide +kernel, rfl, by decide +kernel, by decide +kernel⟩
theorem scShelf_row_then : FnScope ["self", "sheet", "moment"] ["self", "sheet", "moment"] (defScope sShelf_row_then) := ⟨rfl, rfl, rfl, by decide +kernel, rfl, by decide +kernel, by decide +kernel⟩
theorem scShelf_rows_then : FnScope ["self", "moment"] ["self", "moment"] (defScope sShelf_rows_then) := ⟨rfl, rfl, rfl, by decide +kernel, rfl, by decide +kernel, by decide +kernel⟩
theorem scShelf_rows : FnScope ["self"] ["self"] (defScope sShelf_rows) := ⟨rfl, rfl, rfl, by decide +kernel, rfl, by decide +kernel, by decide +kernel⟩
/-- the class and its methods -/
structure ShM (K : PySem.W.Frag) (mg : Str → Option Value) (C XS XM : Addr) : Prop where
  T : Nms mg
  c : ∃ fi, ClsAt K mg "Shelf" C fi
  n1 : NoAttr K C "states"
  n2 : NoAttr K C "openings"
  zs : ExcN K mg "NoSheet" XS
  zm : ExcN K mg "NoMoment" XM
theorem ok_Shelf_check_sheet {f C XS XM fM : Addr} {fd gM : FuncData} (F : Fun K "check_sheet" "Shelf.check_sheet" sShelf_check_sheet f fd) (M : ShM K mg C XS XM) (dShelf_many : MetAt K C "many" "Shelf.many" sShelf_many ["self"] fM gM) : FnOk P w K mg base (CX1 P w) 2 f fd ["self", "sheet"] (spCheckS C XS) := by
  obtain ⟨T, ⟨fi, cShelf⟩, n1, n2, ZNoSheet, ZNoMoment⟩ := M
  have gShelf_many : FnOk P w K mg base CX0 1 _ _ ["self"] (spMany C) := ok_Shelf_many dShelf_many.F T cShelf.cl n1
  refine okX F scShelf_check_sheet (fun vs H Q E h => ?_) (fun cdv A outer s H vs Q E hr h => ?_)
  · obtain ⟨S, x, d, st, op, past, ops, a, rfl, _⟩ := h
    rfl
  obtain ⟨S, x, d, st, op, past, ops, a, rfl, W, ok, fa, k1, k2⟩ := h
  refine ⟨_, (pss_one (ps_if (pt_not (pt_chain op_le op_lt pe_int (pv 1) (pe_meth0 (pv 0) cShelf.cl dShelf_many.mt gShelf_many (hr.mono (by decide)) dShelf_many.b .nil pass0)))
      (pss_one (ps_raise PySem.F.excBase_ValueError ZNoSheet.x ZNoSheet.m rfl raiseX (pa_cons (pe_fstr (pj_str (pj_int (pv 1) (pj_str (pj_int (pe_meth0 (pv 0) cShelf.cl dShelf_many.mt gShelf_many (hr.mono (by decide)) dShelf_many.b .nil pass0) pj_nil))))) pa_nil)))
      pss_nil)), ?_⟩
  have fl : Fit ((ops.length : Nat) : Int) := ⟨by have := ok.2; omega, by have := ok.2; omega⟩
  refine ⟨_, rfl, _, _, rfl, rfl, _, rfl, ite2 (fun c0 => ?_) (fun c0 => ⟨_, rfl, iteT ⟨_, rfl, a, rfl, fa.log, _, rfl, x, d, _, rfl, W.hx, rfl, S, x, d, st, op, past, ops, rfl, W, _, rfl, fl.log, fun y => ⟨(by show 1 ≤ sizeLine; decide), k2 fun iw => c0 (decide_eq_true iw.1)⟩⟩⟩)⟩
  refine ⟨_, rfl, x, d, _, rfl, W.hx, rfl, S, x, d, st, op, past, ops, rfl, W, _, _, rfl, rfl, _, rfl, ?_⟩
  by_cases iw : InN ops.length a
  · rw [decide_eq_true iw.2]
    exact iteF (k1 iw)
  · rw [decide_eq_false (fun z => iw ⟨of_decide_eq_true c0, z⟩)]
    exact iteT ⟨_, rfl, a, rfl, fa.log, _, rfl, x, d, _, rfl, W.hx, rfl, S, x, d, st, op, past, ops, rfl, W, _, rfl, fl.log, fun y => ⟨(by show 1 ≤ sizeLine; decide), k2 iw⟩⟩
theorem ok_Shelf_check_moment {f C XS XM fN : Addr} {fd gN : FuncData} (F : Fun K "check_moment" "Shelf.check_moment" sShelf_check_moment f fd) (M : ShM K mg C XS XM) (dShelf_now : MetAt K C "now" "Shelf.now" sShelf_now ["self"] fN gN) : FnOk P w K mg base (CX1 P w) 2 f fd ["self", "moment"] (spCheckM C XM) := by
  obtain ⟨T, ⟨fi, cShelf⟩, n1, n2, ZNoSheet, ZNoMoment⟩ := M
  have gShelf_now : FnOk P w K mg base CX0 1 _ _ ["self"] (spNow C) := ok_Shelf_now dShelf_now.F T cShelf.cl n1
  refine okX F scShelf_check_moment (fun vs H Q E h => ?_) (fun cdv A outer s H vs Q E hr h => ?_)
  · obtain ⟨S, x, d, st, op, past, ops, a, rfl, _⟩ := h
    rfl
  obtain ⟨S, x, d, st, op, past, ops, a, rfl, W, ok, fa, k1, k2⟩ := h
  obtain ⟨as, hs, al⟩ := W.hs
  have la : (as.map V.ref).length = past.length := by rw [List.length_map, al.len]
  refine ⟨_, (pss_one (ps_if (pt_not (pt_chain op_le op_le pe_int (pv 1) (pe_meth0 (pv 0) cShelf.cl dShelf_now.mt gShelf_now (hr.mono (by decide)) dShelf_now.b .nil pass0)))
      (pss_one (ps_raise PySem.F.excBase_ValueError ZNoMoment.x ZNoMoment.m rfl raiseX (pa_cons (pe_fstr (pj_str (pj_int (pv 1) (pj_str (pj_int (pe_meth0 (pv 0) cShelf.cl dShelf_now.mt gShelf_now (hr.mono (by decide)) dShelf_now.b .nil pass0) pj_nil))))) pa_nil)))
      pss_nil)), ?_⟩
  have fl : Fit (((as.map V.ref).length : Int) - 1) := ⟨by rw [la]; have := ok.1; omega, by rw [la]; have := ok.1; omega⟩
  refine ⟨_, rfl, _, _, rfl, rfl, _, rfl, ite2 (fun c0 => ?_) (fun c0 => ⟨_, rfl, iteT ⟨_, rfl, a, rfl, fa.log, _, rfl, x, d, _, rfl, W.hx, rfl, x, d, st, op, _, rfl, W.hx, hs, _, rfl, fl.log, fun y => ⟨(by show 1 ≤ sizeLine; decide), k2 fun iw => c0 (decide_eq_true iw.1)⟩⟩⟩)⟩
  refine ⟨_, rfl, x, d, _, rfl, W.hx, rfl, x, d, st, op, _, rfl, W.hx, hs, _, _, rfl, rfl, _, rfl, ?_⟩
  by_cases iw : InN past.length a
  · rw [decide_eq_true (show a ≤ ((as.map V.ref).length : Int) - 1 by rw [la]; have := iw.2; omega)]
    exact iteF (k1 iw)
  · rw [decide_eq_false (show ¬ a ≤ ((as.map V.ref).length : Int) - 1 by rw [la]; exact fun z => iw ⟨of_decide_eq_true c0, by omega⟩)]
    exact iteT ⟨_, rfl, a, rfl, fa.log, _, rfl, x, d, _, rfl, W.hx, rfl, x, d, st, op, _, rfl, W.hx, hs, _, rfl, fl.log, fun y => ⟨(by show 1 ≤ sizeLine; decide), k2 iw⟩⟩
theorem ok_Shelf_check_then {f C XS XM fM fN fs fm : Addr} {fd gM gN gs gm : FuncData} (F : Fun K "check_then" "Shelf.check_then" sShelf_check_then f fd) (M : ShM K mg C XS XM) (dShelf_many : MetAt K C "many" "Shelf.many" sShelf_many ["self"] fM gM) (dShelf_now : MetAt K C "now" "Shelf.now" sShelf_now ["self"] fN gN) (dShelf_check_sheet : MetAt K C "check_sheet" "Shelf.check_sheet" sShelf_check_sheet ["self", "sheet"] fs gs) (dShelf_check_moment : MetAt K C "check_moment" "Shelf.check_moment" sShelf_check_moment ["self", "moment"] fm gm) : FnOk P w K mg base (CX1 P w) 3 f fd ["self", "sheet", "moment"] (spThen C XS XM) := by
  have gShelf_check_sheet : FnOk P w K mg base (CX1 P w) 2 _ _ ["self", "sheet"] (spCheckS C XS) := ok_Shelf_check_sheet dShelf_check_sheet.F M dShelf_many
  have gShelf_check_moment : FnOk P w K mg base (CX1 P w) 2 _ _ ["self", "moment"] (spCheckM C XM) := ok_Shelf_check_moment dShelf_check_moment.F M dShelf_now
  obtain ⟨T, ⟨fi, cShelf⟩, n1, n2, ZNoSheet, ZNoMoment⟩ := M
  refine okX F scShelf_check_then (fun vs H Q E h => ?_) (fun cdv A outer s H vs Q E hr h => ?_)
  · obtain ⟨S, x, d, st, op, past, ops, a, m, rfl, _⟩ := h
    rfl
  obtain ⟨S, x, d, st, op, past, ops, a, m, rfl, W, ok, fa, fm, k1, k2, k3⟩ := h
  refine ⟨_, (pss_cons (ps_expr (pe_meth (pv 0) cShelf.cl dShelf_check_sheet.mt gShelf_check_sheet (hr.mono (by decide)) dShelf_check_sheet.b .nil passX (pa_cons (pv 1) pa_nil)))
      (pss_cons (ps_expr (pe_meth (pv 0) cShelf.cl dShelf_check_moment.mt gShelf_check_moment (hr.mono (by decide)) dShelf_check_moment.b .nil passX (pa_cons (pv 2) pa_nil)))
      (pss_one (ps_if (pt_cmpR op_lt (pv 2) (pe_ix ix_list (pe_fld (pv 0) rfl) (pv 1) (fun _ _ => rfl)) (nomark _))
      (pss_one (ps_raise PySem.F.excBase_ValueError ZNoSheet.x ZNoSheet.m rfl raiseX (pa_cons (pe_fstr (pj_str (pj_int (pv 1) (pj_str (pj_int (pv 2) pj_nil))))) pa_nil)))
      pss_nil)))), ?_⟩
  refine ⟨_, rfl, x, d, _, rfl, W.hx, rfl, _, rfl, S, x, d, st, op, past, ops, a, rfl, W, ok, fa, fun ia => ?_, k1⟩
  refine ⟨_, rfl, x, d, _, rfl, W.hx, rfl, _, rfl, S, x, d, st, op, past, ops, m, rfl, W, ok, fm, fun im => ?_, fun nm => k2 ia nm⟩
  obtain ⟨j, rfl, jl⟩ := ia.get
  obtain ⟨i, rfl, il⟩ := im.get
  have eo : ops[j]? = some ops[j] := List.getElem?_eq_getElem jl
  have er : past[i]? = some past[i] := List.getElem?_eq_getElem il
  obtain ⟨_, _, fit⟩ := W.opn.fit j _ eo
  have iff := fit i _ er
  obtain ⟨k4, k5⟩ := k3 j i _ rfl rfl jl er
  refine ⟨_, rfl, _, rfl, x, C, d, _, .ref op, rfl, W.hx, cShelf.cl, n2, rfl, _, rfl, op, _, _, _, rfl, rfl, SqL.of W.ho, atI_nat (by rw [List.getElem?_map, eo]; rfl), _, _, rfl, rfl, _, rfl, ite2 (fun c0 => ?_) (fun c0 => ?_)⟩
  · have c1 : ((i : Nat) : Int) < ops[j] := of_decide_eq_true c0
    exact ⟨_, rfl, _, rfl, fa.log, _, rfl, _, rfl, fm.log, fun y => ⟨(by show 1 ≤ sizeLine; decide), k4 (by omega)⟩⟩
  · have c1 : ¬ ((i : Nat) : Int) < ops[j] := fun z => c0 (decide_eq_true z)
    exact k5 (by omega)
/-- the row of a sheet at a moment -/
theorem Sh.at' {C : Addr} {S : Addr → Prop} {H : Hp} {x d st op : Addr} {past : Past} {ops : List Int} (h : Sh C S H x d st op past ops) {as : List Addr} (ha : H st = some (.lst (as.map V.ref))) {i : Nat} {rows : List (List Item)} (e : past[i]? = some rows) : ∃ a, as[i]? = some a ∧ StAt S H st op a rows := by
  obtain ⟨bs, hb, a2⟩ := h.hs
  have e' : as = bs := by
    rw [ha] at hb
    exact refs_inj (HO.lst.inj (Option.some.inj hb))
  subst e'
  exact a2.get' e
theorem Sh.lastE {C : Addr} {S : Addr → Prop} {H : Hp} {x d st op : Addr} {past : Past} {ops : List Int} (h : Sh C S H x d st op past ops) : ∃ last, past.getLast? = some last ∧ past[past.length - 1]? = some last ∧ ops.length = last.length := by
  obtain ⟨last, hl, ol⟩ := h.opn.some'
  refine ⟨last, hl, ?_, ol⟩
  rw [List.getLast?_eq_getElem?] at hl
  exact hl
theorem ok_Shelf_row_then {f C XS XM fM fN fs fm ft : Addr} {fd gM gN gs gm gt : FuncData} (F : Fun K "row_then" "Shelf.row_then" sShelf_row_then f fd) (M : ShM K mg C XS XM) (dShelf_many : MetAt K C "many" "Shelf.many" sShelf_many ["self"] fM gM) (dShelf_now : MetAt K C "now" "Shelf.now" sShelf_now ["self"] fN gN) (dShelf_check_sheet : MetAt K C "check_sheet" "Shelf.check_sheet" sShelf_check_sheet ["self", "sheet"] fs gs) (dShelf_check_moment : MetAt K C "check_moment" "Shelf.check_moment" sShelf_check_moment ["self", "moment"] fm gm) (dShelf_check_then : MetAt K C "check_then" "Shelf.check_then" sShelf_check_then ["self", "sheet", "moment"] ft gt) : FnOk P w K mg base (CX1 P w) 4 f fd ["self", "sheet", "moment"] (spRowThen C XS XM) := by
  have gShelf_check_then : FnOk P w K mg base (CX1 P w) 3 _ _ ["self", "sheet", "moment"] (spThen C XS XM) := ok_Shelf_check_then dShelf_check_then.F M dShelf_many dShelf_now dShelf_check_sheet dShelf_check_moment
  obtain ⟨T, ⟨fi, cShelf⟩, n1, n2, ZNoSheet, ZNoMoment⟩ := M
  refine okX F scShelf_row_then (fun vs H Q E h => ?_) (fun cdv A outer s H vs Q E hr h => ?_)
  · obtain ⟨S, x, d, st, op, past, ops, a, m, rfl, _⟩ := h
    rfl
  obtain ⟨S, x, d, st, op, past, ops, a, m, rfl, W, ok, fa, fm, k1, k2, k3⟩ := h
  obtain ⟨as, hs, al⟩ := id W.hs
  refine ⟨_, (pss_cons (ps_expr (pe_meth (pv 0) cShelf.cl dShelf_check_then.mt gShelf_check_then (hr.mono (by decide)) dShelf_check_then.b .nil passX (pa_cons (pv 1) (pa_cons (pv 2) pa_nil))))
      (pss_one (ps_ret (pe_callTy call_list_of rfl T.n_list PyProof.Rows.boot_list (pa_cons (pe_ix ix_list (pe_ix ix_list (pe_fld (pv 0) rfl) (pv 2) (fun _ _ => rfl)) (pv 1) (fun _ _ => rfl)) pa_nil))))), ?_⟩
  refine ⟨_, rfl, x, d, _, rfl, W.hx, rfl, _, rfl, _, rfl, S, x, d, st, op, past, ops, a, m, rfl, W, ok, fa, fm, k1, k2, fun j i rows ej ei jl er => ⟨(k3 j i rows ej ei jl er).1, fun jr => ?_⟩⟩
  subst ej ei
  obtain ⟨b, eb, _, _, _, rs, hb, ar⟩ := W.at' hs er
  have el : rows[j]? = some rows[j] := List.getElem?_eq_getElem jr
  obtain ⟨ri, eri, rw'⟩ := ar.get' el
  obtain ⟨c, vs, ec, hc, it⟩ := rw'.at'
  cases ec
  refine ⟨_, rfl, x, C, d, _, .ref st, rfl, W.hx, cShelf.cl, n1, rfl, _, rfl, st, _, _, .ref b, rfl, rfl, SqL.of hs, atI_nat (by rw [List.getElem?_map, eb]; rfl), _, rfl, b, _, _, .ref ri, rfl, rfl, SqL.of hb, atI_nat (by rw [List.getElem?_map, eri]; rfl), ri, _, rfl, .inl (SqL.of hc), fun q hq => ?_⟩
  exact (k3 j i rows rfl rfl jl er).2 _ el q _ ⟨q, vs, rfl, upd_same, it.mono fun v i z => z.same (same_new hq _)⟩ (same_new hq _) hq
theorem ok_Shelf_rows_then {f C XS XM fN fm : Addr} {fd gN gm : FuncData} (F : Fun K "rows_then" "Shelf.rows_then" sShelf_rows_then f fd) (M : ShM K mg C XS XM) (dShelf_now : MetAt K C "now" "Shelf.now" sShelf_now ["self"] fN gN) (dShelf_check_moment : MetAt K C "check_moment" "Shelf.check_moment" sShelf_check_moment ["self", "moment"] fm gm) : FnOk P w K mg base (CX1 P w) 3 f fd ["self", "moment"] (spRowsThen C XM) := by
  have gShelf_check_moment : FnOk P w K mg base (CX1 P w) 2 _ _ ["self", "moment"] (spCheckM C XM) := ok_Shelf_check_moment dShelf_check_moment.F M dShelf_now
  obtain ⟨T, ⟨fi, cShelf⟩, n1, n2, ZNoSheet, ZNoMoment⟩ := M
  refine okX F scShelf_rows_then (fun vs H Q E h => ?_) (fun cdv A outer s H vs Q E hr h => ?_)
  · obtain ⟨S, x, d, st, op, past, ops, m, rfl, _⟩ := h
    rfl
  obtain ⟨S, x, d, st, op, past, ops, m, rfl, W, ok, fm, k1, k2⟩ := h
  obtain ⟨as, hs, al⟩ := id W.hs
  refine ⟨_, (pss_cons (ps_expr (pe_meth (pv 0) cShelf.cl dShelf_check_moment.mt gShelf_check_moment (hr.mono (by decide)) dShelf_check_moment.b .nil passX (pa_cons (pv 1) pa_nil)))
      (pss_one (ps_ret (pe_compG (N := ["items"]) (compG (sc := defScope sShelf_rows_then) (NX := ["self", "moment"]) (jx := [none]) rfl rfl rfl (by decide +kernel) (by decide +kernel) rfl (by decide +kernel) rfl (by decide +kernel)) rfl (pi_list (pe_ix ix_list (pe_fld (pv 0) rfl) (pv 1) (fun _ _ => rfl))) (fun _ _ _ _ _ _ => (pg_name (i := 0) (show List.Nodup (["items"] : List Str) by decide +kernel) rfl (Or.inl rfl))) (fun _ _ _ _ _ _ => pts_nil) (fun _ _ _ _ _ _ => (pe_callTy callF_list rfl T.n_list PyProof.Rows.boot_list (pa_cons (pv 0) pa_nil))))))), ?_⟩
  refine ⟨_, rfl, x, d, _, rfl, W.hx, rfl, _, rfl, S, x, d, st, op, past, ops, m, rfl, W, ok, fm, fun im => ?_, k2⟩
  obtain ⟨i, rfl, il⟩ := im.get
  have er : past[i]? = some past[i] := List.getElem?_eq_getElem il
  generalize past[i] = rows at er
  obtain ⟨b, eb, _, _, _, rs, hb, ar⟩ := W.at' hs er
  have lr := ar.len
  have lo := W.opn.less i rows er
  have ok2 := ok.2
  refine ⟨_, rfl, x, C, d, _, .ref st, rfl, W.hx, cShelf.cl, n1, rfl, _, rfl, st, _, _, .ref b, rfl, rfl, SqL.of hs, atI_nat (by rw [List.getElem?_map, eb]; rfl), ?_⟩
  refine ⟨b, rfl, ⟨_, SqL.of hb⟩, fun acc hacc => compF_list (K := K) (a := b) (xs := rs.map V.ref) (fun j σ H1 => ∃ (u : Option V) (qs : List Addr), σ = [u] ∧ H1 acc = some (.lst (qs.map V.ref)) ∧ Same H H1 ∧ All2 (fun r its => H r = none ∧ r ≠ acc ∧ ItemsAt H1 (.ref r) its) qs (rows.take j)) ⟨none, [], rfl, upd_same, same_new hacc _, by rw [List.take_zero]; exact .nil⟩ (fun j σ H1 _ ⟨_, _, _, _, s, _⟩ => SqL.of (s _ _ hb)) ?_ ?_⟩
  · rintro j y σ H1 hj ⟨u, qs, rfl, ha, s1, aq⟩
    rw [List.getElem?_map] at hj
    obtain ⟨ri, eri, rfl⟩ := Option.map_eq_some_iff.mp hj
    obtain ⟨its, eits, rw'⟩ := ar.get eri
    obtain ⟨c, vs, ec, hc, it⟩ := rw'.at'
    cases ec
    refine ⟨_, rfl, ri, _, rfl, .inl (SqL.of (s1 _ _ hc)), fun z hz => ⟨_, same_new hz _ _ _ ha, ?_, _, qs ++ [z], rfl, ?_, ?_, ?_⟩⟩
    · have := aq.len
      rw [List.length_take] at this
      rw [List.length_map]
      exact million (by omega)
    · rw [upd_same, List.map_append]
      rfl
    · intro q ob e
      rw [upd_ne (ne_of_none e hacc)]
      exact same_new hz _ _ _ (s1 _ _ e)
    · have nza : z ≠ acc := (ne_of_none ha hz).symm
      have fr : ∀ q ob, H1 q = some ob → q ≠ acc → (upd (upd H1 z (.lst vs)) acc (.lst (qs.map V.ref ++ [.ref z]))) q = some ob := fun q ob e n => by
        rw [upd_ne n]
        exact same_new hz _ _ _ e
      have tu : ∀ q xs, H1 q = some (.tup xs) → (upd (upd H1 z (.lst vs)) acc (.lst (qs.map V.ref ++ [.ref z]))) q = some (.tup xs) := fun q xs e => fr _ _ e (ne_of e ha (by intro w; cases w))
      rw [take_snoc eits]
      refine All2.snoc (aq.mono fun r its ⟨h1, h2, h3⟩ => ⟨h1, h2, h3.fr (fun xs e => fr _ _ e h2) tu⟩) ⟨free_same s1 hz, nza, z, vs, rfl, ?_, it.mono fun v i ⟨q, e, hq⟩ => ⟨q, e, tu _ _ (s1 _ _ hq)⟩⟩
      rw [upd_ne nza]
      exact upd_same
  · rintro σ H1 ⟨u, qs, rfl, ha, s1, aq⟩
    rw [List.length_map, lr, List.take_length] at aq
    exact k1 i rows rfl er acc H1 ⟨hacc, qs, ha, aq⟩ s1
theorem ok_Shelf_rows {f C XS XM fN fm fr : Addr} {fd gN gm gr : FuncData} (F : Fun K "rows" "Shelf.rows" sShelf_rows f fd) (M : ShM K mg C XS XM) (dShelf_now : MetAt K C "now" "Shelf.now" sShelf_now ["self"] fN gN) (dShelf_check_moment : MetAt K C "check_moment" "Shelf.check_moment" sShelf_check_moment ["self", "moment"] fm gm) (dShelf_rows_then : MetAt K C "rows_then" "Shelf.rows_then" sShelf_rows_then ["self", "moment"] fr gr) : FnOk P w K mg base CX0 4 f fd ["self"] (spRows C) := by
  have gShelf_rows_then : FnOk P w K mg base (CX1 P w) 3 _ _ ["self", "moment"] (spRowsThen C XM) := ok_Shelf_rows_then dShelf_rows_then.F M dShelf_now dShelf_check_moment
  obtain ⟨T, ⟨fi, cShelf⟩, n1, n2, ZNoSheet, ZNoMoment⟩ := M
  have gShelf_now : FnOk P w K mg base CX0 1 _ _ ["self"] (spNow C) := ok_Shelf_now dShelf_now.F T cShelf.cl n1
  refine F.ok scShelf_rows (fun vs H Q E h => ?_) (fun cdv A outer s H vs Q E hr h => ?_)
  · obtain ⟨S, x, d, st, op, past, ops, rfl, _⟩ := h
    rfl
  obtain ⟨S, x, d, st, op, past, ops, rfl, W, ok, k⟩ := h
  obtain ⟨as, hs, al⟩ := id W.hs
  obtain ⟨last, hl, hl2, _⟩ := W.lastE
  have lp : past.length - 1 < past.length := (List.getElem?_eq_some_iff.mp hl2).1
  have ok1 := ok.1
  have la : (((as.map V.ref).length : Nat) : Int) - 1 = ((past.length - 1 : Nat) : Int) := by rw [List.length_map, al.len]; omega
  refine ⟨_, (pss_one (ps_ret (pe_meth (pv 0) cShelf.cl dShelf_rows_then.mt gShelf_rows_then (hr.mono (by decide)) dShelf_rows_then.b .nil passF (pa_cons (pe_meth0 (pv 0) cShelf.cl dShelf_now.mt gShelf_now (hr.mono (by decide)) dShelf_now.b .nil pass0) pa_nil)))), ?_⟩
  refine ⟨_, rfl, x, d, _, rfl, W.hx, rfl, _, rfl, x, d, _, rfl, W.hx, rfl, x, d, st, op, _, rfl, W.hx, hs, ?_⟩
  rw [la]
  refine ⟨S, x, d, st, op, past, ops, _, rfl, W, ok, ⟨by omega, by omega⟩, fun mi rows em er q H1 fs s1 => ?_, fun nm => absurd ⟨by omega, by omega⟩ nm⟩
  have : mi = past.length - 1 := by omega
  subst this
  rw [hl2] at er
  cases er
  exact k last hl q H1 fs s1






def spInit0 (C : Addr) : Sp := fun vs H Q _ => ∃ x d : Addr, vs = [.ref x] ∧ H x = some (.ins C d []) ∧ ∀ (fs : List (Str × V)) (H' : Hp), H' x = some (.ins C d fs) → Keep x H H' → Q .non H'
abbrev sWell___init__ : Stmt := mtop 56 0
abbrev sBlots___init__ : Stmt := mtop 26 0
abbrev sTies___init__ : Stmt := mtop 54 0
abbrev sDues___init__ : Stmt := mtop 28 0
theorem scWell___init__ : FnScope ["self"] ["self"] (defScope sWell___init__) := ⟨rfl, rfl, rfl, by decide +kernel, rfl, by decide +kernel, by decide +kernel⟩
theorem scBlots___init__ : FnScope ["self"] ["self"] (defScope sBlots___init__) := ⟨rfl, rfl, rfl, by decide +kernel, rfl, by decide +kernel, by decide +kernel⟩
theorem scTies___init__ : FnScope ["self"] ["self"] (defScope sTies___init__) := ⟨rfl, rfl, rfl, by decide +kernel, rfl, by decide +kernel, by decide +kernel⟩
theorem scDues___init__ : FnScope ["self"] ["self"] (defScope sDues___init__) := ⟨rfl, rfl, rfl, by decide +kernel, rfl, by decide +kernel, by decide +kernel⟩
theorem keep_put {x z : Addr} {H : Hp} {o o' : HO} (hz : H z = none) : Keep x H (upd (upd H z o) x o') := fun a ob e n => by
  rw [upd_ne n]
  exact same_new hz o a ob e
theorem ok_Blots___init__ {f C : Addr} {fd : FuncData} (F : Fun K "__init__" "Blots.__init__" sBlots___init__ f fd) (cl : Cls K C) (n1 : NoAttr K C "stains") : FnOk P w K mg base CX0 1 f fd ["self"] (spInit0 C) := by
  refine F.ok scBlots___init__ (fun vs H Q E h => ?_) (fun cdv A outer s H vs Q E hr h => ?_)
  · obtain ⟨x, d, rfl, _⟩ := h
    rfl
  obtain ⟨x, d, rfl, hx, k⟩ := h
  refine ⟨_, (pss_one (ps_fld (pv 0) (pe_lst pa_nil) rfl)), ?_⟩
  exact ⟨(by show 0 ≤ sizeLine; decide), fun z hz => ⟨_, rfl, x, C, d, _, rfl, same_new hz _ _ _ hx, cl, n1, by decide, k _ _ upd_same (keep_put hz)⟩⟩
theorem ok_Dues___init__ {f C : Addr} {fd : FuncData} (F : Fun K "__init__" "Dues.__init__" sDues___init__ f fd) (cl : Cls K C) (n1 : NoAttr K C "sums") : FnOk P w K mg base CX0 1 f fd ["self"] (spInit0 C) := by
  refine F.ok scDues___init__ (fun vs H Q E h => ?_) (fun cdv A outer s H vs Q E hr h => ?_)
  · obtain ⟨x, d, rfl, _⟩ := h
    rfl
  obtain ⟨x, d, rfl, hx, k⟩ := h
  refine ⟨_, (pss_one (ps_fld (pv 0) pe_dnewK rfl)), ?_⟩
  intro z hz
  exact ⟨_, rfl, x, C, d, _, rfl, same_new hz _ _ _ hx, cl, n1, by decide, k _ _ upd_same (keep_put hz)⟩
theorem ok_Ties___init__ {f C : Addr} {fd : FuncData} (F : Fun K "__init__" "Ties.__init__" sTies___init__ f fd) (cl : Cls K C) (n1 : NoAttr K C "given") (n2 : NoAttr K C "pairs") : FnOk P w K mg base CX0 1 f fd ["self"] (spInit0 C) := by
  refine F.ok scTies___init__ (fun vs H Q E h => ?_) (fun cdv A outer s H vs Q E hr h => ?_)
  · obtain ⟨x, d, rfl, _⟩ := h
    rfl
  obtain ⟨x, d, rfl, hx, k⟩ := h
  refine ⟨_, (pss_cons (ps_fld (pv 0) pe_int rfl)
      (pss_one (ps_fld (pv 0) pe_dnewK rfl))), ?_⟩
  refine ⟨_, rfl, x, C, d, _, rfl, hx, cl, n1, by decide, ?_⟩
  have k1 : Keep x H (upd H x (.ins C d (L2.putF "given" (.int 0) []))) := keep_upd x _ _
  have h1 : (upd H x (.ins C d (L2.putF "given" (.int 0) []))) x = some (.ins C d (L2.putF "given" (.int 0) [])) := upd_same
  generalize upd H x (.ins C d (L2.putF "given" (.int 0) [])) = H1 at k1 h1
  intro z hz
  exact ⟨_, rfl, x, C, d, _, rfl, same_new hz _ _ _ h1, cl, n2, (by show 1 < 1000; decide), k _ _ upd_same (k1.trans (keep_put hz))⟩
theorem ok_Well___init__ {f C : Addr} {fd : FuncData} (F : Fun K "__init__" "Well.__init__" sWell___init__ f fd) (cl : Cls K C) (n1 : NoAttr K C "signs") (n2 : NoAttr K C "owners") (n3 : NoAttr K C "pourings") : FnOk P w K mg base CX0 1 f fd ["self"] (spInit0 C) := by
  refine F.ok scWell___init__ (fun vs H Q E h => ?_) (fun cdv A outer s H vs Q E hr h => ?_)
  · obtain ⟨x, d, rfl, _⟩ := h
    rfl
  obtain ⟨x, d, rfl, hx, k⟩ := h
  refine ⟨_, (pss_cons (ps_fld (pv 0) (pe_lst pa_nil) rfl)
      (pss_cons (ps_fld (pv 0) (pe_lst pa_nil) rfl)
      (pss_one (ps_fld (pv 0) pe_dnewK rfl)))), ?_⟩
  refine ⟨(by show 0 ≤ sizeLine; decide), fun z hz => ⟨_, rfl, x, C, d, _, rfl, same_new hz _ _ _ hx, cl, n1, by decide, ?_⟩⟩
  have k1 : Keep x H (upd (upd H z (.lst [])) x (.ins C d (L2.putF "signs" (.ref z) []))) := keep_put hz
  have h1 : (upd (upd H z (.lst [])) x (.ins C d (L2.putF "signs" (.ref z) []))) x = some (.ins C d (L2.putF "signs" (.ref z) [])) := upd_same
  generalize upd (upd H z (.lst [])) x (.ins C d (L2.putF "signs" (.ref z) [])) = H1 at k1 h1
  refine ⟨(by show 0 ≤ sizeLine; decide), fun z2 hz2 => ⟨_, rfl, x, C, d, _, rfl, same_new hz2 _ _ _ h1, cl, n2, (by show 1 < 1000; decide), ?_⟩⟩
  have k2 : Keep x H1 (upd (upd H1 z2 (.lst [])) x (.ins C d (L2.putF "owners" (.ref z2) (L2.putF "signs" (.ref z) [])))) := keep_put hz2
  have h2 : (upd (upd H1 z2 (.lst [])) x (.ins C d (L2.putF "owners" (.ref z2) (L2.putF "signs" (.ref z) [])))) x = some (.ins C d (L2.putF "owners" (.ref z2) (L2.putF "signs" (.ref z) []))) := upd_same
  generalize upd (upd H1 z2 (.lst [])) x (.ins C d (L2.putF "owners" (.ref z2) (L2.putF "signs" (.ref z) []))) = H2 at k2 h2
  intro z3 hz3
  exact ⟨_, rfl, x, C, d, _, rfl, same_new hz3 _ _ _ h2, cl, n3, (by show 2 < 1000; decide), k _ _ upd_same ((k1.trans k2).trans (keep_put hz3))⟩




structure Gbs (mg : Str → Option Value) : Prop where
  s : ∃ t, mg "MOST_SHEETS" = some (.int 40 t)
  w : ∃ t, mg "MOST_WEIGHT" = some (.int 200 t)
theorem Rkd.irr {rows : List (List Int)} (h : Rkd rows) {s : Int} : ¬ Reach (Nxt rows) s s := by
  obtain ⟨rk, _, hr⟩ := h
  have key : ∀ g, Reach (Nxt rows) s g → rk g < rk s := by
    intro g r
    induction r with
    | one e => exact hr _ _ e
    | step _ e ih => exact Nat.lt_trans (hr _ _ e) ih
  exact fun z => Nat.lt_irrefl _ (key s z)
theorem Rkd.walk {rows : List (List Int)} (h : Rkd rows) {s : Int} {way : List Int} (w : Walk (Nxt rows) s way) (l : 2 ≤ way.length) (e : way.getLast? = some s) : False := by
  rw [List.getLast?_eq_getElem?] at e
  exact h.irr (w.reach (way.length - 2) s (by rw [show way.length - 2 + 1 = way.length - 1 by omega]; exact e))
/-- rows that the weave bears -/
structure Bears (rows : List (List Int)) (f : Int → Int) : Prop where
  len : rows.length ≤ 100
  es : ∀ es ∈ rows, es.length ≤ 1000
  sd : Sound rows
  rk : Rkd rows
  wt : Weighs rows f
  most : ∀ x : Int, 0 ≤ x → x < rows.length → f x ≤ 200
def spCheckW : Sp := fun vs H Q _ => ∃ (r : Addr) (rows : List (List Int)) (s : Int) (f : Int → Int), vs = [.ref r, .int s] ∧ SheetsAt H r (rows.map itemsOf) ∧ Bears rows f ∧ 0 ≤ s ∧ s < rows.length ∧ ∀ H', Same H H' → Q .non H'
abbrev scheck_weave : Stmt := top 61
theorem sccheck_weave : FnScope ["rows", "sheet", "way", "weights", "number"] ["rows", "sheet"] (defScope scheck_weave) := ⟨rfl, rfl, rfl, by decide +kernel, rfl, by decide +kernel, by decide +kernel⟩
theorem ok_check_weave {g fI fB fW fV fY fR : Addr} {fd fdI fdB fdW fdV fdY fdR : FuncData} (F : Fun K "check_weave" "check_weave" scheck_weave g fd) (T : Nms mg) (G : Gbs mg) (dwindows : DefAt K mg "windows" swindows ["items"] fI fdI) (dbelow : DefAt K mg "below" sbelow ["rows", "sheets"] fB fdB) (ditem_weight : DefAt K mg "item_weight" sitem_weight ["item", "weights"] fW fdW) (dweights_below : DefAt K mg "weights_below" sweights_below ["rows", "sheets"] fV fdV) (dway_between : DefAt K mg "way_between" sway_between ["rows", "start", "goal"] fY fdY) (dring : DefAt K mg "ring" sring ["rows", "sheet"] fR fdR) : FnOk P w K mg base CX0 4 g fd ["rows", "sheet"] spCheckW := by
  have gweights_below : FnOk P w K mg base CX0 3 fV fdV ["rows", "sheets"] spWeightsB := ok_weights_below dweights_below.F T dwindows dbelow ditem_weight
  have gring : FnOk P w K mg base CX0 3 fR fdR ["rows", "sheet"] spRing := ok_ring dring.F T dwindows dway_between
  refine F.ok sccheck_weave (fun vs H Q E h => ?_) (fun cdv A outer s0 H vs Q E hr h => ?_)
  · obtain ⟨r, rows, s, f, rfl, _⟩ := h
    rfl
  obtain ⟨r, rows, s, f, rfl, hR, B, h0, h1, k⟩ := h
  have hu := hu_of hr
  obtain ⟨tMOST_WEIGHT, hMOST_WEIGHT⟩ := G.w
  have bl := B.len
  refine ⟨_, (pss_cons (ps_set (i := 2) sccheck_weave.nd rfl (Or.inl rfl) (pe_def dring gring hr (pa_cons (pv 0) (pa_cons (pv 1) pa_nil))))
      (pss_cons (ps_if (pt_cmp (pc_notN (pv 2)))
      (pss_one ps_never)
      pss_nil)
      (pss_cons (ps_set (i := 3) sccheck_weave.nd rfl (Or.inl rfl) (pe_def dweights_below gweights_below hr (pa_cons (pv 0) (pa_cons (pe_callTy (call_list_rng rfl) rfl T.n_list PyProof.Rows.boot_list (pa_cons (pe_callTy call_range1' rfl T.n_range PyProof.Rows.boot_range (pa_cons (pe_callB call_len_seq rfl T.n_len PySem.boot_len (pa_cons (pv 0) pa_nil)) pa_nil)) pa_nil)) pa_nil))))
      (pss_one (ps_for PassesOwn.never rfl (pi_range1 rfl T.n_range (pa_cons (pe_callB call_len_seq rfl T.n_len PySem.boot_len (pa_cons (pv 0) pa_nil)) pa_nil)) (pg_name (i := 4) sccheck_weave.nd rfl (Or.inl rfl))
      (pss_one (ps_if (pt_cmpR op_gt (pe_dget hu (pv 3) (pv 4) (fun _ _ => rfl)) (pe_glob (v := .int 200) rfl hMOST_WEIGHT ⟨tMOST_WEIGHT, rfl⟩) (nomark _))
      (pss_one ps_never)
      pss_nil))))))), ?_⟩
  refine ⟨_, rfl, _, rfl, r, s, rfl, r, rows, s, s, rfl, hR, by omega, B.es, B.sd, h0, h1, fun way o H' _ _ wk l2 _ eg => (B.rk.walk wk l2 eg).elim, fun _ H1 s1 => ?_⟩
  refine ⟨_, rfl, false, rfl, iteF ?_⟩
  have hR1 := hR.same s1
  obtain ⟨vs, hr1, al⟩ := id hR1
  have lv : vs.length = rows.length := by rw [al.len, List.length_map]
  refine ⟨_, rfl, _, rfl, r, _, rfl, .inl (SqL.of hr1), _, rfl, fun p1 hp1 => ⟨p1, _, _, rfl, upd_same, ⟨by omega, by omega, by omega, by omega⟩, Nat.le_of_lt (million (by omega)), fun L hL => ?_⟩⟩
  rw [intsV_eq, lv, show ((rows.length : Int) - 0).toNat = rows.length by omega]
  rw [lv] at hL
  have s2 := s1.trans ((same_new hp1 (.rng 0 ((rows.length : Nat) : Int))).trans (same_new hL (.lst ((run 0 rows.length).map V.int))))
  have hL2 : (upd (upd H1 p1 (.rng 0 ((rows.length : Nat) : Int))) L (.lst ((run 0 rows.length).map V.int))) L = some (.lst ((run 0 rows.length).map V.int)) := upd_same
  generalize upd (upd H1 p1 (.rng 0 ((rows.length : Nat) : Int))) L (.lst ((run 0 rows.length).map V.int)) = H2 at s2 hL2
  refine ⟨r, L, rows, run 0 rows.length, f, rfl, hR.same s2, hL2, by rw [run_len]; omega, by omega, B.es, B.sd, B.rk, (fun x hx => by have := run_in hx; omega), B.wt, fun S kvs H3 hS hv s3 _ => ?_⟩
  have s03 := s2.trans s3
  obtain ⟨vs3, hr3, al3⟩ := hR.same s03
  have lv3 : vs3.length = rows.length := by rw [al3.len, List.length_map]
  refine ⟨_, rfl, r, _, rfl, .inl (SqL.of hr3), _, rfl, by omega, by omega, ?_⟩
  refine for_range (lo := 0) (n := ((vs3.length : Nat) : Int).toNat) (fun i σ H4 => ∃ u : Option V, σ = [some (.ref r), some (.int s), some .non, some (.ref S), u] ∧ Same H H4 ∧ H4 S = some (.dK kvs)) ⟨none, rfl, s03, hS⟩ ?_ ?_
  · rintro i σ H4 hi ⟨u, rfl, s4, hS4⟩
    have il : i < rows.length := by omega
    have z := DGet.k (k := Sum.inl (0 + (i : Int))) hS4
    rw [hv (0 + (i : Int)) (by rw [show (0 : Int) + (i : Int) = 0 + i from rfl]; exact List.mem_of_getElem? (run_get 0 rows.length i il))] at z
    refine ⟨_, rfl, _, rfl, S, _, rfl, z, _, _, rfl, rfl, _, rfl, ?_⟩
    rw [decide_eq_false (show ¬ f (0 + (i : Int)) > 200 from fun y => by have := B.most (0 + (i : Int)) (by omega) (by omega); omega)]
    exact iteF ⟨_, rfl, s4, hS4⟩
  · rintro σ H4 ⟨u, rfl, s4, _⟩
    exact k H4 s4

/-! the library: its shelf and its book; what else it owns is kept by the frame -/
structure LibAt (C CS : Addr) (S : Addr → Prop) (H : Hp) (x d wl sh bl kn du bk dS st op : Addr) (past : Past) (ops : List Int) (lines : List (List Nat)) : Prop where
  hx : H x = some (.ins C d [("well", .ref wl), ("shelf", .ref sh), ("blots", .ref bl), ("knots", .ref kn), ("dues", .ref du), ("book", .ref bk)])
  W : Sh CS S H sh dS st op past ops
  hb : H bk = some (wordsL lines)
  nx : ¬ S x
  nb : ¬ S bk
structure LibM (K : PySem.W.Frag) (mg : Str → Option Value) (C CS XS XM XT : Addr) : Prop where
  M : ShM K mg CS XS XM
  c : ∃ fi, ClsAt K mg "Library" C fi
  nw : NoAttr K C "well"
  ns : NoAttr K C "shelf"
  nbl : NoAttr K C "blots"
  nk : NoAttr K C "knots"
  nd : NoAttr K C "dues"
  nbk : NoAttr K C "book"
  zt : ExcN K mg "TooMany" XT
  G : Gbs mg
/-- what a deed that is entered may change: the shelf's own and the book -/
def Fr (S S' : Addr → Prop) (bk : Addr) (H H' : Hp) : Prop := (∀ a, S' a → S a ∨ H a = none) ∧ (∀ a ob, H a = some ob → ¬ S a → a ≠ bk → H' a = some ob) ∧ ∀ a xs, H a = some (.tup xs) → H' a = some (.tup xs)
theorem Fr.same {S S' : Addr → Prop} {bk : Addr} {H0 H H' : Hp} (s : Same H0 H) (f : Fr S S' bk H H') : Fr S S' bk H0 H' :=
  ⟨fun a z => (f.1 a z).imp id fun y => free_same s y, fun a ob e n1 n2 => f.2.1 a ob (s _ _ e) n1 n2, fun a xs e => f.2.2 a xs (s _ _ e)⟩
theorem LibAt.same {C CS : Addr} {S : Addr → Prop} {H H' : Hp} {x d wl sh bl kn du bk dS st op : Addr} {past : Past} {ops : List Int} {lines : List (List Nat)} (L : LibAt C CS S H x d wl sh bl kn du bk dS st op past ops lines) (s : Same H H') : LibAt C CS S H' x d wl sh bl kn du bk dS st op past ops lines :=
  ⟨s _ _ L.hx, L.W.same s, s _ _ L.hb, L.nx, L.nb⟩
theorem LibAt.neb {C CS : Addr} {S : Addr → Prop} {H : Hp} {x d wl sh bl kn du bk dS st op : Addr} {past : Past} {ops : List Int} {lines : List (List Nat)} (L : LibAt C CS S H x d wl sh bl kn du bk dS st op past ops lines) : x ≠ bk := fun e => by
  have z := L.hx
  rw [e, L.hb] at z
  cases z
def spLMany (C CS : Addr) : Sp := fun vs H Q _ => ∃ (S : Addr → Prop) (x d wl sh bl kn du bk dS st op : Addr) (past : Past) (ops : List Int) (lines : List (List Nat)), vs = [.ref x] ∧ LibAt C CS S H x d wl sh bl kn du bk dS st op past ops lines ∧ Q (.int (ops.length : Nat)) H
def spLNow (C CS : Addr) : Sp := fun vs H Q _ => ∃ (S : Addr → Prop) (x d wl sh bl kn du bk dS st op : Addr) (past : Past) (ops : List Int) (lines : List (List Nat)), vs = [.ref x] ∧ LibAt C CS S H x d wl sh bl kn du bk dS st op past ops lines ∧ Q (.int ((past.length : Nat) - 1)) H
def spEnter (C CS : Addr) : Sp := fun vs H Q _ => ∃ (S : Addr → Prop) (x d wl sh bl kn du bk dS st op : Addr) (past : Past) (ops : List Int) (lines : List (List Nat)) (dd c : Addr) (e : Deed) (cs : List Addr) (chs : List (Nat × List Item)) (last : List (List Item)), vs = [.ref x, .ref dd, .ref c] ∧ LibAt C CS S H x d wl sh bl kn du bk dS st op past ops lines ∧ e.At H dd ∧ e.Ok ∧ H c = some (.lst (cs.map V.ref)) ∧ c ≠ bk ∧ All2 (ChAt H) cs chs ∧ (∀ a ∈ cs, ∀ (s : Int) (r : Addr), H a = some (.tup [.int s, .ref r]) → r ≠ bk) ∧ past.getLast? = some last ∧ okCh last chs ∧ chs.length ≤ 200 ∧ last.length ≤ 500 ∧ past.length ≤ 1000 ∧ lines.length ≤ 1000 ∧
  ∀ (S' : Addr → Prop) (H' : Hp), LibAt C CS S' H' x d wl sh bl kn du bk dS st op (past ++ [apCh last chs]) (ops ++ List.replicate ((apCh last chs).length - last.length) ((past.length : Nat) : Int)) (lines ++ [e.line]) → Fr S S' bk H H' → Q .non H'
abbrev sLibrary_enter : Stmt := mtop 62 1
abbrev sLibrary_many : Stmt := mtop 62 26
abbrev sLibrary_now : Stmt := mtop 62 25
theorem scLibrary_enter : FnScope ["self", "deed", "changes"] ["self", "deed", "changes"] (defScope sLibrary_enter) := ⟨rfl, rfl, rfl, by decide +kernel, rfl, by decide +kernel, by decide +kernel⟩
theorem scLibrary_many : FnScope ["self"] ["self"] (defScope sLibrary_many) := ⟨rfl, rfl, rfl, by decide +kernel, rfl, by decide +kernel, by decide +kernel⟩
theorem scLibrary_now : FnScope ["self"] ["self"] (defScope sLibrary_now) := ⟨rfl, rfl, rfl, by decide +kernel, rfl, by decide +kernel, by decide +kernel⟩
theorem ok_Library_many {f C CS XS XM XT fM : Addr} {fd gM : FuncData} (F : Fun K "many" "Library.many" sLibrary_many f fd) (L : LibM K mg C CS XS XM XT) (dShelf_many : MetAt K CS "many" "Shelf.many" sShelf_many ["self"] fM gM) : FnOk P w K mg base CX0 2 f fd ["self"] (spLMany C CS) := by
  obtain ⟨M, ⟨fi, cLibrary⟩, nw, ns, nbl, nk, nd, nbk, ZTooMany, G⟩ := L
  obtain ⟨T, ⟨fj, cShelf⟩, n1, n2, ZNoSheet, ZNoMoment⟩ := M
  have gShelf_many : FnOk P w K mg base CX0 1 _ _ ["self"] (spMany CS) := ok_Shelf_many dShelf_many.F T cShelf.cl n1
  refine F.ok scLibrary_many (fun vs H Q E h => ?_) (fun cdv A outer s H vs Q E hr h => ?_)
  · obtain ⟨S, x, d, wl, sh, bl, kn, du, bk, dS, st, op, past, ops, lines, rfl, _⟩ := h
    rfl
  obtain ⟨S, x, d, wl, sh, bl, kn, du, bk, dS, st, op, past, ops, lines, rfl, L, k⟩ := h
  refine ⟨_, (pss_one (ps_ret (pe_meth0 (pe_fld (pv 0) rfl) cShelf.cl dShelf_many.mt gShelf_many (hr.mono (by decide)) dShelf_many.b .nil pass0))), ?_⟩
  exact ⟨_, rfl, x, C, d, _, .ref sh, rfl, L.hx, cLibrary.cl, ns, rfl, sh, dS, _, rfl, L.W.hx, rfl, S, sh, dS, st, op, past, ops, rfl, L.W, k⟩
theorem ok_Library_now {f C CS XS XM XT fM : Addr} {fd gM : FuncData} (F : Fun K "now" "Library.now" sLibrary_now f fd) (L : LibM K mg C CS XS XM XT) (dShelf_now : MetAt K CS "now" "Shelf.now" sShelf_now ["self"] fM gM) : FnOk P w K mg base CX0 2 f fd ["self"] (spLNow C CS) := by
  obtain ⟨M, ⟨fi, cLibrary⟩, nw, ns, nbl, nk, nd, nbk, ZTooMany, G⟩ := L
  obtain ⟨T, ⟨fj, cShelf⟩, n1, n2, ZNoSheet, ZNoMoment⟩ := M
  have gShelf_now : FnOk P w K mg base CX0 1 _ _ ["self"] (spNow CS) := ok_Shelf_now dShelf_now.F T cShelf.cl n1
  refine F.ok scLibrary_now (fun vs H Q E h => ?_) (fun cdv A outer s H vs Q E hr h => ?_)
  · obtain ⟨S, x, d, wl, sh, bl, kn, du, bk, dS, st, op, past, ops, lines, rfl, _⟩ := h
    rfl
  obtain ⟨S, x, d, wl, sh, bl, kn, du, bk, dS, st, op, past, ops, lines, rfl, L, k⟩ := h
  obtain ⟨as, hs, al⟩ := L.W.hs
  refine ⟨_, (pss_one (ps_ret (pe_meth0 (pe_fld (pv 0) rfl) cShelf.cl dShelf_now.mt gShelf_now (hr.mono (by decide)) dShelf_now.b .nil pass0))), ?_⟩
  refine ⟨_, rfl, x, C, d, _, .ref sh, rfl, L.hx, cLibrary.cl, ns, rfl, sh, dS, _, rfl, L.W.hx, rfl, sh, dS, st, op, _, rfl, L.W.hx, hs, ?_⟩
  rw [List.length_map, al.len]
  exact k
theorem ok_Library_enter {f C CS XS XM XT fI fD fN fC fT : Addr} {fd gI gD gN gC gT : FuncData} (F : Fun K "enter" "Library.enter" sLibrary_enter f fd) (L : LibM K mg C CS XS XM XT) (dink_words : DefAt K mg "ink_words" sink_words ["row"] fI gI) (dshown_deed : DefAt K mg "shown_deed" sshown_deed ["deed"] fD gD) (dchanged : DefAt K mg "changed" schanged ["state", "sheet", "items"] fC gC) (dShelf_now : MetAt K CS "now" "Shelf.now" sShelf_now ["self"] fN gN) (dShelf_step : MetAt K CS "step" "Shelf.step" sShelf_step ["self", "changes"] fT gT) : FnOk P w K mg base CX0 3 f fd ["self", "deed", "changes"] (spEnter C CS) := by
  obtain ⟨M, ⟨fi, cLibrary⟩, nw, ns, nbl, nk, nd, nbk, ZTooMany, G⟩ := L
  obtain ⟨T, ⟨fj, cShelf⟩, n1, n2, ZNoSheet, ZNoMoment⟩ := M
  have gshown_deed : FnOk P w K mg base CX0 2 _ _ ["deed"] spShownD := ok_shown_deed dshown_deed.F T dink_words
  have gShelf_step : FnOk P w K mg base CX0 2 _ _ ["self", "changes"] (spShStep CS) := ok_Shelf_step dShelf_step.F T cShelf n1 n2 dchanged dShelf_now
  refine F.ok scLibrary_enter (fun vs H Q E h => ?_) (fun cdv A outer s H vs Q E hr h => ?_)
  · obtain ⟨S, x, d, wl, sh, bl, kn, du, bk, dS, st, op, past, ops, lines, dd, c, e, cs, chs, last, rfl, _⟩ := h
    rfl
  obtain ⟨S, x, d, wl, sh, bl, kn, du, bk, dS, st, op, past, ops, lines, dd, c, e, cs, chs, last, rfl, L, de, ok, hc, ncb, al, nr, hl, oc, l1, l2, l3, l4, k⟩ := h
  refine ⟨_, (pss_cons (ps_expr (pe_bm PySem.F.plainAttrs_list PySem.F.slot_list_append PySem.F.type_list_append mt_append (pe_fld (pv 0) rfl) (pa_cons (pe_def dshown_deed gshown_deed hr (pa_cons (pv 1) pa_nil)) pa_nil)))
      (pss_one (ps_expr (pe_meth (pe_fld (pv 0) rfl) cShelf.cl dShelf_step.mt gShelf_step (hr.mono (by decide)) dShelf_step.b .nil pass0 (pa_cons (pv 2) pa_nil))))), ?_⟩
  refine ⟨_, rfl, x, C, d, _, .ref bk, rfl, L.hx, cLibrary.cl, nbk, rfl, .inl ⟨rfl, _, SqL.of L.hb⟩, _, rfl, dd, e, rfl, de, ok, deed_small ok, fun H1 s1 => ?_⟩
  refine ⟨bk, _, _, rfl, rfl, s1 _ _ L.hb, million (by rw [List.length_map]; omega), ?_⟩
  have e2 : (lines.map fun w => V.str (txt w)) ++ [V.str (txt e.line)] = (lines ++ [e.line]).map fun w => V.str (txt w) := by rw [List.map_append]; rfl
  rw [e2]
  have k2 : Keep bk H (upd H1 bk (wordsL (lines ++ [e.line]))) := fun a o q n => by
    rw [upd_ne n]
    exact s1 _ _ q
  have hb2 : (upd H1 bk (wordsL (lines ++ [e.line]))) bk = some (wordsL (lines ++ [e.line])) := upd_same
  have fr2 : ∀ a, (upd H1 bk (wordsL (lines ++ [e.line]))) a = none → H a = none := fun a q => by
    by_cases z : a = bk
    · rw [z, upd_same] at q; cases q
    · rw [upd_ne z] at q; exact free_same s1 q
  generalize upd H1 bk (wordsL (lines ++ [e.line])) = H2 at k2 hb2 fr2
  have t2 : ∀ a xs, H a = some (.tup xs) → H2 a = some (.tup xs) := fun a xs q => k2 _ _ q (ne_of q L.hb (by intro z; cases z))
  have W2 : Sh CS S H2 sh dS st op past ops := L.W.keep L.hb L.nb k2
  have x2 := k2 _ _ L.hx L.neb
  refine ⟨_, rfl, x, C, d, _, .ref sh, rfl, x2, cLibrary.cl, ns, rfl, sh, dS, _, rfl, W2.hx, rfl, _, rfl, S, sh, dS, st, op, c, past, ops, cs, chs, last, rfl, W2, k2 _ _ hc ncb, ?_, hl, oc, l1, l2, l3, fun S' H3 W3 sub fr tp => ?_⟩
  · have key : ∀ {as : List Addr} {ds : List (Nat × List Item)}, All2 (ChAt H) as ds → (∀ a ∈ as, a ∈ cs) → All2 (ChAt H2) as ds := by
      intro as ds q
      induction q with
      | nil => intro _; exact .nil
      | cons o t ih =>
        intro sub
        refine .cons ?_ (ih fun a ha => sub a (List.mem_cons_of_mem _ ha))
        obtain ⟨r, ha, it⟩ := o
        have nrb := nr _ (sub _ List.mem_cons_self) _ r ha
        exact ⟨r, t2 _ _ ha, it.fr (fun xs q => k2 _ _ q nrb) t2⟩
    exact key al fun _ z => z
  · refine k S' H3 ⟨fr _ _ x2 L.nx, W3, fr _ _ hb2 L.nb, fun z => ?_, fun z => ?_⟩ ⟨fun a z => (sub a z).imp id fun q => fr2 a q, fun a ob q n n' => fr _ _ (k2 _ _ q n') n, fun a xs q => tp _ _ (t2 _ _ q)⟩
    · rcases sub _ z with q | q
      · exact L.nx q
      · rw [x2] at q; cases q
    · rcases sub _ z with q | q
      · exact L.nb q
      · rw [hb2] at q; cases q
/-- entries behind a moment -/
abbrev toP (pe : List (List (List Int))) : Past := pe.map fun rows => rows.map itemsOf
def putR (rows : List (List Int)) (s : Nat) (es : List Int) : List (List Int) := rows.take s ++ [es] ++ rows.drop (s + 1)
theorem putR_ap (rows : List (List Int)) (s : Nat) (es : List Int) : apCh (rows.map itemsOf) [(s, itemsOf es)] = (putR rows s es).map itemsOf := by
  show (rows.map itemsOf).take s ++ [itemsOf es] ++ (rows.map itemsOf).drop (s + 1) = _
  unfold putR
  rw [List.map_append, List.map_append, List.map_take, List.map_drop]
  rfl
theorem putR_len {rows : List (List Int)} {s : Nat} {es : List Int} (h : s ≤ rows.length) : (putR rows s es).length = if s = rows.length then rows.length + 1 else rows.length := by
  unfold putR
  rw [List.length_append, List.length_append, List.length_take, List.length_drop]
  show min s rows.length + 1 + _ = _
  split <;> omega
def opsR (ops : List Int) (n s m : Nat) : List Int := ops ++ if s = n then [(m : Int)] else []
theorem ops_ap {rows : List (List Int)} {s : Nat} {es : List Int} {ops : List Int} {m : Nat} (h : s ≤ rows.length) : ops ++ List.replicate (((putR rows s es).map itemsOf).length - (rows.map itemsOf).length) (m : Int) = opsR ops rows.length s m := by
  rw [List.length_map, List.length_map, putR_len h]
  unfold opsR
  by_cases c : s = rows.length
  · rw [if_pos c, if_pos c, show rows.length + 1 - rows.length = 1 by omega]
    rfl
  · rw [if_neg c, if_neg c, Nat.sub_self]
    rfl
def spChange (C CS : Addr) : Sp := fun vs H Q _ => ∃ (S : Addr → Prop) (x d wl sh bl kn du bk dS st op : Addr) (pe : List (List (List Int))) (ops : List Int) (lines : List (List Nat)) (dd r : Addr) (e : Deed) (s : Nat) (es : List Int) (rows : List (List Int)) (f : Int → Int), vs = [.ref x, .ref dd, .int (s : Nat), .ref r] ∧ LibAt C CS S H x d wl sh bl kn du bk dS st op (toP pe) ops lines ∧ e.At H dd ∧ e.Ok ∧ ItemsAt H (.ref r) (itemsOf es) ∧ r ≠ bk ∧ pe.getLast? = some rows ∧ s ≤ rows.length ∧ rows.length ≤ 50 ∧ pe.length ≤ 900 ∧ lines.length ≤ 900 ∧ Bears (putR rows s es) f ∧
  ∀ (S' : Addr → Prop) (H' : Hp), LibAt C CS S' H' x d wl sh bl kn du bk dS st op (toP (pe ++ [putR rows s es])) (opsR ops rows.length s pe.length) (lines ++ [e.line]) → Fr S S' bk H H' → Q .non H'
abbrev sLibrary_change : Stmt := mtop 62 2
theorem scLibrary_change : FnScope ["self", "deed", "sheet", "items"] ["self", "deed", "sheet", "items"] (defScope sLibrary_change) := ⟨rfl, rfl, rfl, by decide +kernel, rfl, by decide +kernel, by decide +kernel⟩
structure ShF (K : PySem.W.Frag) (mg : Str → Option Value) (CS : Addr) : Prop where
  many : ∃ f g, MetAt K CS "many" "Shelf.many" sShelf_many ["self"] f g
  now : ∃ f g, MetAt K CS "now" "Shelf.now" sShelf_now ["self"] f g
  cs : ∃ f g, MetAt K CS "check_sheet" "Shelf.check_sheet" sShelf_check_sheet ["self", "sheet"] f g
  cm : ∃ f g, MetAt K CS "check_moment" "Shelf.check_moment" sShelf_check_moment ["self", "moment"] f g
  rst : ∃ f g, MetAt K CS "rows_then" "Shelf.rows_then" sShelf_rows_then ["self", "moment"] f g
  rs : ∃ f g, MetAt K CS "rows" "Shelf.rows" sShelf_rows ["self"] f g
  stp : ∃ f g, MetAt K CS "step" "Shelf.step" sShelf_step ["self", "changes"] f g
structure WvF (K : PySem.W.Frag) (mg : Str → Option Value) : Prop where
  win : ∃ f g, DefAt K mg "windows" swindows ["items"] f g
  bel : ∃ f g, DefAt K mg "below" sbelow ["rows", "sheets"] f g
  iw : ∃ f g, DefAt K mg "item_weight" sitem_weight ["item", "weights"] f g
  wb : ∃ f g, DefAt K mg "weights_below" sweights_below ["rows", "sheets"] f g
  wy : ∃ f g, DefAt K mg "way_between" sway_between ["rows", "start", "goal"] f g
  rg : ∃ f g, DefAt K mg "ring" sring ["rows", "sheet"] f g
  cw : ∃ f g, DefAt K mg "check_weave" scheck_weave ["rows", "sheet"] f g
  ch : ∃ f g, DefAt K mg "changed" schanged ["state", "sheet", "items"] f g
  ik : ∃ f g, DefAt K mg "ink_words" sink_words ["row"] f g
  sd : ∃ f g, DefAt K mg "shown_deed" sshown_deed ["deed"] f g
theorem getLast_toP {pe : List (List (List Int))} {rows : List (List Int)} (h : pe.getLast? = some rows) : (toP pe).getLast? = some (rows.map itemsOf) := by
  rw [List.getLast?_map, h]
  rfl
theorem all2_put {H H' : Hp} {rs : List Addr} {rows : List (List Item)} {r : Addr} {its : List Item} {s : Nat} (al : All2 (fun q i => ItemsAt H' (.ref q) i) rs rows) (it : ItemsAt H' (.ref r) its) : All2 (ItemsAt H') ((rs.map V.ref).take s ++ [.ref r] ++ (rs.map V.ref).drop (s + 1)) (rows.take s ++ [its] ++ rows.drop (s + 1)) := by
  have key : All2 (ItemsAt H') (rs.map V.ref) rows := by
    induction al with
    | nil => exact .nil
    | cons o t ih => exact .cons o ih
  exact ((key.take s).app (.cons it .nil)).app (key.drop (s + 1))
theorem ok_Library_change {f C CS XS XM XT fE : Addr} {fd gE : FuncData} (F : Fun K "change" "Library.change" sLibrary_change f fd) (L : LibM K mg C CS XS XM XT) (A1 : ShF K mg CS) (A2 : WvF K mg) (dLibrary_enter : MetAt K C "enter" "Library.enter" sLibrary_enter ["self", "deed", "changes"] fE gE) : FnOk P w K mg base CX0 5 f fd ["self", "deed", "sheet", "items"] (spChange C CS) := by
  obtain ⟨⟨_, _, d1⟩, ⟨_, _, d2⟩, ⟨_, _, d3⟩, ⟨_, _, d4⟩, ⟨_, _, d7⟩, ⟨_, _, dShelf_rows⟩, ⟨_, _, d9⟩⟩ := A1
  obtain ⟨⟨_, _, w1⟩, ⟨_, _, w2⟩, ⟨_, _, w3⟩, ⟨_, _, w4⟩, ⟨_, _, w5⟩, ⟨_, _, w6⟩, ⟨_, _, dcheck_weave⟩, ⟨_, _, dchanged⟩, ⟨_, _, w9⟩, ⟨_, _, w10⟩⟩ := A2
  have gLibrary_enter : FnOk P w K mg base CX0 3 _ _ ["self", "deed", "changes"] (spEnter C CS) := ok_Library_enter dLibrary_enter.F L w9 w10 dchanged d2 d9
  obtain ⟨M, ⟨fi, cLibrary⟩, nw, ns, nbl, nk, nd, nbk, ZTooMany, G⟩ := L
  have gShelf_rows : FnOk P w K mg base CX0 4 _ _ ["self"] (spRows CS) := ok_Shelf_rows dShelf_rows.F M d2 d4 d7
  obtain ⟨T, ⟨fj, cShelf⟩, n1, n2, ZNoSheet, ZNoMoment⟩ := M
  have gchanged : FnOk P w K mg base CX0 1 _ _ ["state", "sheet", "items"] spChanged := ok_changed dchanged.F T
  have gcheck_weave : FnOk P w K mg base CX0 4 _ _ ["rows", "sheet"] spCheckW := ok_check_weave dcheck_weave.F T G w1 w2 w3 w4 w5 w6
  refine F.ok scLibrary_change (fun vs H Q E h => ?_) (fun cdv A outer s H vs Q E hr h => ?_)
  · obtain ⟨S, x, d, wl, sh, bl, kn, du, bk, dS, st, op, pe, ops, lines, dd, r, e, s, es, rows, f, rfl, _⟩ := h
    rfl
  obtain ⟨S, x, d, wl, sh, bl, kn, du, bk, dS, st, op, pe, ops, lines, dd, r, e, s, es, rows, f, rfl, L, de, ok, hi, nrb, hl, sl, l1, l2, l3, B, k⟩ := h
  have hl' := getLast_toP hl
  have lp : (toP pe).length = pe.length := List.length_map _
  have lo : ops.length = rows.length := by
    obtain ⟨last, z1, z2⟩ := L.W.opn.some'
    rw [hl'] at z1
    cases z1
    rw [z2, List.length_map]
  refine ⟨_, (pss_cons (ps_expr (pe_def dcheck_weave gcheck_weave hr (pa_cons (pe_def dchanged gchanged hr (pa_cons (pe_meth0 (pe_fld (pv 0) rfl) cShelf.cl dShelf_rows.mt gShelf_rows (hr.mono (by decide)) dShelf_rows.b .nil pass0) (pa_cons (pv 2) (pa_cons (pv 3) pa_nil)))) (pa_cons (pv 2) pa_nil))))
      (pss_one (ps_expr (pe_meth (pv 0) cLibrary.cl dLibrary_enter.mt gLibrary_enter (hr.mono (by decide)) dLibrary_enter.b .nil pass0 (pa_cons (pv 1) (pa_cons (pe_lst (pa_cons (pe_tup (pa_cons (pv 2) (pa_cons (pv 3) pa_nil))) pa_nil)) pa_nil)))))), ?_⟩
  refine ⟨_, rfl, x, C, d, _, .ref sh, rfl, L.hx, cLibrary.cl, ns, rfl, sh, dS, _, rfl, L.W.hx, rfl, S, sh, dS, st, op, toP pe, ops, rfl, L.W, ⟨by omega, by omega⟩, fun rws el q H1 fs s1 => ?_⟩
  rw [hl'] at el
  cases el
  obtain ⟨fq, rs, hq, al⟩ := fs
  have lr : rs.length = rows.length := by rw [al.len, List.length_map]
  have hi1 := hi.same s1
  have L1 := L.same s1
  refine ⟨_, rfl, _, rfl, q, r, _, s, rfl, hq, by rw [List.length_map, lr]; exact sl, by rw [List.length_map, lr]; omega, fun p2 H2 hp2 s2 f2 => ?_⟩
  refine ⟨_, rfl, p2, putR rows s es, (s : Int), f, rfl, ⟨_, hp2, ?_⟩, B, by omega, by rw [putR_len sl]; split <;> omega, fun H3 s3 => ?_⟩
  · have z := all2_put (H := H) (H' := H2) (s := s) (al.mono fun q' i' w' => (w'.2.2).same s2) (hi1.same s2)
    have e' : (rows.map itemsOf).take s ++ [itemsOf es] ++ (rows.map itemsOf).drop (s + 1) = (putR rows s es).map itemsOf := by
      unfold putR
      rw [List.map_append, List.map_append, List.map_take, List.map_drop]
      rfl
    rw [e'] at z
    exact z
  have s13 := s1.trans (s2.trans s3)
  have L3 := L.same s13
  refine ⟨_, rfl, x, d, _, rfl, L3.hx, rfl, _, rfl, _, rfl, _, rfl, (by show 2 ≤ sizeLine; decide), fun t ht => ⟨(by show 1 ≤ sizeLine; decide), fun c hc => ?_⟩⟩
  have s4 : Same H3 (upd (upd H3 t (.tup [.int (s : Nat), .ref r])) c (.lst [.ref t])) := (same_new ht _).trans (same_new hc _)
  have ht4 : (upd (upd H3 t (.tup [.int (s : Nat), .ref r])) c (.lst [.ref t])) t = some (.tup [.int (s : Nat), .ref r]) := same_new hc _ _ _ upd_same
  have hc4 : (upd (upd H3 t (.tup [.int (s : Nat), .ref r])) c (.lst [.ref t])) c = some (.lst ([t].map V.ref)) := upd_same
  have nc : c ≠ bk := fun z => by
    have := same_new ht (.tup [.int (s : Nat), .ref r]) _ _ L3.hb
    rw [← z, hc] at this
    cases this
  generalize upd (upd H3 t (.tup [.int (s : Nat), .ref r])) c (.lst [.ref t]) = H4 at s4 ht4 hc4
  have s14 := s13.trans s4
  refine ⟨S, x, d, wl, sh, bl, kn, du, bk, dS, st, op, toP pe, ops, lines, dd, c, e, [t], [(s, itemsOf es)], rows.map itemsOf, rfl, L.same s14, de.same s14, ok, hc4, nc, .cons ⟨r, ht4, hi.same s14⟩ .nil, ?_, hl', ?_, (by show 1 ≤ 200; decide), by rw [List.length_map]; omega, by omega, by omega, fun S' H' L' fr => ?_⟩
  · intro a ha s' r' e'
    rw [List.mem_singleton.mp ha, ht4] at e'
    cases e'
    exact nrb
  · intro i ch ei
    match i, ei with
    | 0, ei =>
      cases ei
      show s ≤ (rows.map itemsOf).length
      rw [List.length_map]
      exact sl
    | i + 1, ei => cases ei
  · rw [putR_ap, ops_ap sl, lp] at L'
    refine k S' H' ?_ (fr.same s14)
    have ep : toP (pe ++ [putR rows s es]) = toP pe ++ [(putR rows s es).map itemsOf] := by
      show (pe ++ [putR rows s es]).map _ = _
      rw [List.map_append]
      rfl
    rw [ep]
    exact L'
theorem fit_nat {n : Nat} (h : n ≤ 1000) : Fit ((n : Nat) : Int) := ⟨by omega, by omega⟩
def spBegin (C CS XT : Addr) : Sp := fun vs H Q E => ∃ (S : Addr → Prop) (x d wl sh bl kn du bk dS st op : Addr) (pe : List (List (List Int))) (ops : List Int) (lines : List (List Nat)) (dd r : Addr) (e : Deed) (es : List Int) (rows : List (List Int)), vs = [.ref x, .ref dd, .ref r] ∧ LibAt C CS S H x d wl sh bl kn du bk dS st op (toP pe) ops lines ∧ e.At H dd ∧ e.Ok ∧ ItemsAt H (.ref r) (itemsOf es) ∧ r ≠ bk ∧ pe.getLast? = some rows ∧ rows.length ≤ 50 ∧ pe.length ≤ 900 ∧ lines.length ≤ 900 ∧
  (40 ≤ rows.length → E (.ref XT) none H) ∧ (rows.length < 40 → (∃ f, Bears (rows ++ [es]) f) ∧ ∀ (S' : Addr → Prop) (H' : Hp), LibAt C CS S' H' x d wl sh bl kn du bk dS st op (toP (pe ++ [rows ++ [es]])) (ops ++ [((pe.length : Nat) : Int)]) (lines ++ [e.line]) → Fr S S' bk H H' → Q (.int (rows.length : Nat)) H')
abbrev sLibrary_begin : Stmt := mtop 62 3
theorem scLibrary_begin : FnScope ["self", "deed", "items", "sheet"] ["self", "deed", "items"] (defScope sLibrary_begin) := ⟨rfl, rfl, rfl, by decide +kernel, rfl, by decide +kernel, by decide +kernel⟩
theorem putR_end (rows : List (List Int)) (es : List Int) : putR rows rows.length es = rows ++ [es] := by
  unfold putR
  rw [List.take_length, List.drop_of_length_le (by omega), List.append_nil]
structure LbF (K : PySem.W.Frag) (mg : Str → Option Value) (C : Addr) : Prop where
  en : ∃ f g, MetAt K C "enter" "Library.enter" sLibrary_enter ["self", "deed", "changes"] f g
  ch : ∃ f g, MetAt K C "change" "Library.change" sLibrary_change ["self", "deed", "sheet", "items"] f g
  many : ∃ f g, MetAt K C "many" "Library.many" sLibrary_many ["self"] f g
  bg : ∃ f g, MetAt K C "begin" "Library.begin" sLibrary_begin ["self", "deed", "items"] f g
theorem lib_len {C CS : Addr} {S : Addr → Prop} {H : Hp} {x d wl sh bl kn du bk dS st op : Addr} {pe : List (List (List Int))} {ops : List Int} {lines : List (List Nat)} {rows : List (List Int)} (L : LibAt C CS S H x d wl sh bl kn du bk dS st op (toP pe) ops lines) (hl : pe.getLast? = some rows) : ops.length = rows.length := by
  obtain ⟨last, z1, z2⟩ := L.W.opn.some'
  rw [getLast_toP hl] at z1
  cases z1
  rw [z2, List.length_map]
theorem ok_Library_begin {f C CS XS XM XT : Addr} {fd : FuncData} (F : Fun K "begin" "Library.begin" sLibrary_begin f fd) (L : LibM K mg C CS XS XM XT) (A1 : ShF K mg CS) (A2 : WvF K mg) (A3 : LbF K mg C) : FnOk P w K mg base (CX1 P w) 6 f fd ["self", "deed", "items"] (spBegin C CS XT) := by
  obtain ⟨⟨_, _, e1⟩, ⟨_, _, dLibrary_change⟩, ⟨_, _, dLibrary_many⟩, _⟩ := A3
  have gLibrary_change : FnOk P w K mg base CX0 5 _ _ ["self", "deed", "sheet", "items"] (spChange C CS) := ok_Library_change dLibrary_change.F L A1 A2 e1
  obtain ⟨⟨_, _, d1⟩, _⟩ := A1
  have gLibrary_many : FnOk P w K mg base CX0 2 _ _ ["self"] (spLMany C CS) := ok_Library_many dLibrary_many.F L d1
  obtain ⟨M, ⟨fi, cLibrary⟩, nw, ns, nbl, nk, nd, nbk, ZTooMany, G⟩ := L
  obtain ⟨tMOST_SHEETS, hMOST_SHEETS⟩ := G.s
  refine okX F scLibrary_begin (fun vs H Q E h => ?_) (fun cdv A outer s H vs Q E hr h => ?_)
  · obtain ⟨S, x, d, wl, sh, bl, kn, du, bk, dS, st, op, pe, ops, lines, dd, r, e, es, rows, rfl, _⟩ := h
    rfl
  obtain ⟨S, x, d, wl, sh, bl, kn, du, bk, dS, st, op, pe, ops, lines, dd, r, e, es, rows, rfl, L, de, ok, hi, nrb, hl, l1, l2, l3, k1, k2⟩ := h
  have lo := lib_len L hl
  refine ⟨_, (pss_cons (ps_set (i := 3) scLibrary_begin.nd rfl (Or.inl rfl) (pe_meth0 (pv 0) cLibrary.cl dLibrary_many.mt gLibrary_many (hr.mono (by decide)) dLibrary_many.b .nil pass0))
      (pss_cons (ps_if (pt_cmpR op_ge (pv 3) (pe_glob (v := .int 40) rfl hMOST_SHEETS ⟨tMOST_SHEETS, rfl⟩) (nomark _))
      (pss_one (ps_raise PySem.F.excBase_ValueError ZTooMany.x ZTooMany.m rfl raiseX (pa_cons (pe_fstr (pj_str (pj_int (pv 3) (pj_str pj_nil)))) pa_nil)))
      pss_nil)
      (pss_cons (ps_expr (pe_meth (pv 0) cLibrary.cl dLibrary_change.mt gLibrary_change (hr.mono (by decide)) dLibrary_change.b .nil pass0 (pa_cons (pv 1) (pa_cons (pv 3) (pa_cons (pv 2) pa_nil)))))
      (pss_one (ps_ret (pv 3)))))), ?_⟩
  refine ⟨_, rfl, x, d, _, rfl, L.hx, rfl, S, x, d, wl, sh, bl, kn, du, bk, dS, st, op, toP pe, ops, lines, rfl, L, ?_⟩
  rw [lo]
  refine ⟨_, rfl, _, _, rfl, rfl, _, rfl, ite2 (fun c => ?_) (fun c => ?_)⟩
  · have c' := of_decide_eq_true c
    exact ⟨_, rfl, _, rfl, (fit_nat (by omega)).log, fun y => ⟨(by show 1 ≤ sizeLine; decide), k1 (by omega)⟩⟩
  · have c' : ¬ ((rows.length : Nat) : Int) ≥ 40 := fun z => c (decide_eq_true z)
    obtain ⟨⟨f, B⟩, k3⟩ := k2 (by omega)
    refine ⟨_, rfl, x, d, _, rfl, L.hx, rfl, _, rfl, _, rfl, _, rfl, S, x, d, wl, sh, bl, kn, du, bk, dS, st, op, pe, ops, lines, dd, r, e, rows.length, es, rows, f, rfl, L, de, ok, hi, nrb, hl, Nat.le_refl _, l1, l2, l3, by rw [putR_end]; exact B, fun S' H' L' fr => ?_⟩
    rw [putR_end] at L'
    have eo : opsR ops rows.length rows.length pe.length = ops ++ [((pe.length : Nat) : Int)] := by unfold opsR; rw [if_pos rfl]
    rw [eo] at L'
    exact ⟨_, rfl, k3 S' H' L' fr⟩
abbrev frW : List Nat := (Str.ofString "fresh").cps.toList
theorem ok_fresh : (Deed.plain frW []).Ok := ⟨by decide +kernel, fun _ z => by cases z⟩
def spFresh (C CS XT : Addr) : Sp := fun vs H Q E => ∃ (S : Addr → Prop) (x d wl sh bl kn du bk dS st op : Addr) (pe : List (List (List Int))) (ops : List Int) (lines : List (List Nat)) (rows : List (List Int)), vs = [.ref x] ∧ LibAt C CS S H x d wl sh bl kn du bk dS st op (toP pe) ops lines ∧ pe.getLast? = some rows ∧ rows.length ≤ 50 ∧ pe.length ≤ 900 ∧ lines.length ≤ 900 ∧
  (40 ≤ rows.length → ∀ H', Same H H' → E (.ref XT) none H') ∧ (rows.length < 40 → (∃ f, Bears (rows ++ [[]]) f) ∧ ∀ (S' : Addr → Prop) (H' : Hp), LibAt C CS S' H' x d wl sh bl kn du bk dS st op (toP (pe ++ [rows ++ [[]]])) (ops ++ [((pe.length : Nat) : Int)]) (lines ++ [(Deed.plain frW []).line]) → Fr S S' bk H H' → Q (.int (rows.length : Nat)) H')
abbrev sLibrary_fresh : Stmt := mtop 62 7
theorem scLibrary_fresh : FnScope ["self"] ["self"] (defScope sLibrary_fresh) := ⟨rfl, rfl, rfl, by decide +kernel, rfl, by decide +kernel, by decide +kernel⟩
theorem ok_Library_fresh {f C CS XS XM XT : Addr} {fd : FuncData} (F : Fun K "fresh" "Library.fresh" sLibrary_fresh f fd) (L : LibM K mg C CS XS XM XT) (A1 : ShF K mg CS) (A2 : WvF K mg) (A3 : LbF K mg C) : FnOk P w K mg base (CX1 P w) 7 f fd ["self"] (spFresh C CS XT) := by
  obtain ⟨_, _, dLibrary_begin⟩ := A3.bg
  have gLibrary_begin : FnOk P w K mg base (CX1 P w) 6 _ _ ["self", "deed", "items"] (spBegin C CS XT) := ok_Library_begin dLibrary_begin.F L A1 A2 A3
  obtain ⟨M, ⟨fi, cLibrary⟩, nw, ns, nbl, nk, nd, nbk, ZTooMany, G⟩ := L
  refine okX F scLibrary_fresh (fun vs H Q E h => ?_) (fun cdv A outer s H vs Q E hr h => ?_)
  · obtain ⟨S, x, d, wl, sh, bl, kn, du, bk, dS, st, op, pe, ops, lines, rows, rfl, _⟩ := h
    rfl
  obtain ⟨S, x, d, wl, sh, bl, kn, du, bk, dS, st, op, pe, ops, lines, rows, rfl, L, hl, l1, l2, l3, k1, k2⟩ := h
  refine ⟨_, (pss_one (ps_ret (pe_meth (pv 0) cLibrary.cl dLibrary_begin.mt gLibrary_begin (hr.mono (by decide)) dLibrary_begin.b .nil passX (pa_cons (pe_tup (pa_cons pe_str pa_nil)) (pa_cons (pe_lst pa_nil) pa_nil))))), ?_⟩
  refine ⟨_, rfl, x, d, _, rfl, L.hx, rfl, (by show 1 ≤ sizeLine; decide), fun t ht => ⟨(by show 0 ≤ sizeLine; decide), fun r hr0 => ?_⟩⟩
  have s1 : Same H (upd (upd H t (.tup [.str (Str.ofString "fresh")])) r (.lst [])) := (same_new ht _).trans (same_new hr0 _)
  have ht1 : (upd (upd H t (.tup [.str (Str.ofString "fresh")])) r (.lst [])) t = some (.tup [.str (Str.ofString "fresh")]) := same_new hr0 _ _ _ upd_same
  have hr1 : (upd (upd H t (.tup [.str (Str.ofString "fresh")])) r (.lst [])) r = some (.lst []) := upd_same
  have nr : r ≠ bk := fun z => by
    have := same_new ht (.tup [.str (Str.ofString "fresh")]) _ _ L.hb
    rw [← z, hr0] at this
    cases this
  generalize upd (upd H t (.tup [.str (Str.ofString "fresh")])) r (.lst []) = H1 at s1 ht1 hr1
  refine ⟨S, x, d, wl, sh, bl, kn, du, bk, dS, st, op, pe, ops, lines, t, r, .plain frW [], [], rows, rfl, L.same s1, by show H1 t = _; rw [ht1, txt_of]; rfl, ok_fresh, ⟨r, [], rfl, hr1, .nil⟩, nr, hl, l1, l2, l3, fun c => k1 c H1 s1, fun c => ?_⟩
  obtain ⟨B, k3⟩ := k2 c
  exact ⟨B, fun S' H' L' fr => k3 S' H' L' (fr.same s1)⟩
theorem make_same {H H1 : Hp} {xw dw : Addr} {o : HO} (h1 : H xw = none) (h2 : H dw = none) (k : Keep xw (upd (upd H dw (.own xw)) xw o) H1) : Same H H1 := fun a ob e => k a ob (by rw [upd_ne (ne_of_none e h1), upd_ne (ne_of_none e h2)]; exact e) (ne_of_none e h1)
theorem Sh.keepI {C C' : Addr} {S : Addr → Prop} {H H' : Hp} {x d st op l d' : Addr} {past : Past} {ops : List Int} {fs : List (Str × V)} (h : Sh C S H x d st op past ops) (hl : H l = some (.ins C' d' fs)) (nl : ¬ S l) (k : Keep l H H') : Sh C S H' x d st op past ops :=
  h.fr (fun a ob e z => k a ob e (fun q => nl (by rw [← q]; exact z))) (fun a xs e => k _ _ e (ne_of e hl (by intro z; cases z)))
def spLRowThen (C CS XS XM : Addr) : Sp := fun vs H Q E => ∃ (S : Addr → Prop) (x d wl sh bl kn du bk dS st op : Addr) (past : Past) (ops : List Int) (lines : List (List Nat)) (s m : Int), vs = [.ref x, .int s, .int m] ∧ LibAt C CS S H x d wl sh bl kn du bk dS st op past ops lines ∧ ShOk past ops ∧ Fit s ∧ Fit m ∧ (¬ InN ops.length s → E (.ref XS) none H) ∧ (InN ops.length s → ¬ InN past.length m → E (.ref XM) none H) ∧
  ∀ (si mi : Nat) (rows : List (List Item)), s = si → m = mi → si < ops.length → past[mi]? = some rows → (rows.length ≤ si → E (.ref XS) none H) ∧ (∀ its, rows[si]? = some its → Told H its Q)
abbrev sLibrary_row_then : Stmt := mtop 62 29
theorem scLibrary_row_then : FnScope ["self", "sheet", "moment"] ["self", "sheet", "moment"] (defScope sLibrary_row_then) := ⟨rfl, rfl, rfl, by decide +kernel, rfl, by decide +kernel, by decide +kernel⟩
theorem ok_Library_row_then {f C CS XS XM XT fM fN fs fm ft fr : Addr} {fd gM gN gs gm gt gr : FuncData} (F : Fun K "row_then" "Library.row_then" sLibrary_row_then f fd) (L : LibM K mg C CS XS XM XT) (dShelf_many : MetAt K CS "many" "Shelf.many" sShelf_many ["self"] fM gM) (dShelf_now : MetAt K CS "now" "Shelf.now" sShelf_now ["self"] fN gN) (dShelf_check_sheet : MetAt K CS "check_sheet" "Shelf.check_sheet" sShelf_check_sheet ["self", "sheet"] fs gs) (dShelf_check_moment : MetAt K CS "check_moment" "Shelf.check_moment" sShelf_check_moment ["self", "moment"] fm gm) (dShelf_check_then : MetAt K CS "check_then" "Shelf.check_then" sShelf_check_then ["self", "sheet", "moment"] ft gt) (dShelf_row_then : MetAt K CS "row_then" "Shelf.row_then" sShelf_row_then ["self", "sheet", "moment"] fr gr) : FnOk P w K mg base (CX1 P w) 5 f fd ["self", "sheet", "moment"] (spLRowThen C CS XS XM) := by
  obtain ⟨M, ⟨fi, cLibrary⟩, nw, ns, nbl, nk, nd, nbk, ZTooMany, G⟩ := L
  have gShelf_row_then : FnOk P w K mg base (CX1 P w) 4 _ _ ["self", "sheet", "moment"] (spRowThen CS XS XM) := ok_Shelf_row_then dShelf_row_then.F M dShelf_many dShelf_now dShelf_check_sheet dShelf_check_moment dShelf_check_then
  obtain ⟨T, ⟨fj, cShelf⟩, n1, n2, ZNoSheet, ZNoMoment⟩ := M
  refine okX F scLibrary_row_then (fun vs H Q E h => ?_) (fun cdv A outer s H vs Q E hr h => ?_)
  · obtain ⟨S, x, d, wl, sh, bl, kn, du, bk, dS, st, op, past, ops, lines, a, m, rfl, _⟩ := h
    rfl
  obtain ⟨S, x, d, wl, sh, bl, kn, du, bk, dS, st, op, past, ops, lines, a, m, rfl, L, ok, fa, fm, k1, k2, k3⟩ := h
  refine ⟨_, (pss_one (ps_ret (pe_meth (pe_fld (pv 0) rfl) cShelf.cl dShelf_row_then.mt gShelf_row_then (hr.mono (by decide)) dShelf_row_then.b .nil passX (pa_cons (pv 1) (pa_cons (pv 2) pa_nil))))), ?_⟩
  exact ⟨_, rfl, x, C, d, _, .ref sh, rfl, L.hx, cLibrary.cl, ns, rfl, sh, dS, _, rfl, L.W.hx, rfl, _, rfl, _, rfl, S, sh, dS, st, op, past, ops, a, m, rfl, L.W, ok, fa, fm, k1, k2, k3⟩
abbrev fkW : List Nat := (Str.ofString "fork").cps.toList
theorem ok_fork {s m : Int} (h0 : 0 ≤ s) (h1 : s < 10 ^ 60) (g0 : 0 ≤ m) (g1 : m < 10 ^ 60) : (Deed.plain fkW [s, m]).Ok := by
  refine ⟨(by show tabAt NUM fkW = some 2; decide +kernel), fun x hx => ?_⟩
  rcases List.mem_cons.mp hx with z | z
  · rw [z]; exact ⟨h0, h1⟩
  · rw [List.mem_singleton.mp z]; exact ⟨g0, g1⟩
def spFork (C CS XS XM XT : Addr) : Sp := fun vs H Q E => ∃ (S : Addr → Prop) (x d wl sh bl kn du bk dS st op : Addr) (pe : List (List (List Int))) (ops : List Int) (lines : List (List Nat)) (rows : List (List Int)) (s m : Int), vs = [.ref x, .int s, .int m] ∧ LibAt C CS S H x d wl sh bl kn du bk dS st op (toP pe) ops lines ∧ pe.getLast? = some rows ∧ rows.length ≤ 50 ∧ pe.length ≤ 900 ∧ lines.length ≤ 900 ∧ Fit s ∧ Fit m ∧
  (¬ InN rows.length s → ∀ H', Same H H' → E (.ref XS) none H') ∧ (InN rows.length s → ¬ InN pe.length m → ∀ H', Same H H' → E (.ref XM) none H') ∧
  ∀ (si mi : Nat) (rws : List (List Int)), s = si → m = mi → si < rows.length → pe[mi]? = some rws → (rws.length ≤ si → ∀ H', Same H H' → E (.ref XS) none H') ∧ ∀ es, rws[si]? = some es →
    (40 ≤ rows.length → ∀ H', Same H H' → E (.ref XT) none H') ∧ (rows.length < 40 → (∃ f, Bears (rows ++ [es]) f) ∧ ∀ (S' : Addr → Prop) (H' : Hp), LibAt C CS S' H' x d wl sh bl kn du bk dS st op (toP (pe ++ [rows ++ [es]])) (ops ++ [((pe.length : Nat) : Int)]) (lines ++ [(Deed.plain fkW [s, m]).line]) → Fr S S' bk H H' → Q (.int (rows.length : Nat)) H')
abbrev sLibrary_fork : Stmt := mtop 62 15
theorem scLibrary_fork : FnScope ["self", "sheet", "moment"] ["self", "sheet", "moment"] (defScope sLibrary_fork) := ⟨rfl, rfl, rfl, by decide +kernel, rfl, by decide +kernel, by decide +kernel⟩
theorem Fit.big {s : Int} (h : Fit s) : s < 10 ^ 60 := by
  obtain ⟨_, h1⟩ := h
  omega
theorem ok_Library_fork {f C CS XS XM XT : Addr} {fd : FuncData} (F : Fun K "fork" "Library.fork" sLibrary_fork f fd) (L : LibM K mg C CS XS XM XT) (A1 : ShF K mg CS) (A2 : WvF K mg) (A3 : LbF K mg C) {fRt f5 f6 : Addr} {gRt g5 g6 : FuncData} (d5 : MetAt K CS "check_then" "Shelf.check_then" sShelf_check_then ["self", "sheet", "moment"] f5 g5) (d6 : MetAt K CS "row_then" "Shelf.row_then" sShelf_row_then ["self", "sheet", "moment"] f6 g6) (dLibrary_row_then : MetAt K C "row_then" "Library.row_then" sLibrary_row_then ["self", "sheet", "moment"] fRt gRt) : FnOk P w K mg base (CX1 P w) 7 f fd ["self", "sheet", "moment"] (spFork C CS XS XM XT) := by
  obtain ⟨_, _, dLibrary_begin⟩ := A3.bg
  have gLibrary_begin : FnOk P w K mg base (CX1 P w) 6 _ _ ["self", "deed", "items"] (spBegin C CS XT) := ok_Library_begin dLibrary_begin.F L A1 A2 A3
  have gLibrary_row_then : FnOk P w K mg base (CX1 P w) 5 fRt gRt ["self", "sheet", "moment"] (spLRowThen C CS XS XM) := by
    obtain ⟨⟨_, _, d1⟩, ⟨_, _, d2⟩, ⟨_, _, d3⟩, ⟨_, _, d4⟩, _⟩ := A1
    exact ok_Library_row_then dLibrary_row_then.F L d1 d2 d3 d4 d5 d6
  obtain ⟨M, ⟨fi, cLibrary⟩, nw, ns, nbl, nk, nd, nbk, ZTooMany, G⟩ := L
  refine okX F scLibrary_fork (fun vs H Q E h => ?_) (fun cdv A outer s H vs Q E hr h => ?_)
  · obtain ⟨S, x, d, wl, sh, bl, kn, du, bk, dS, st, op, pe, ops, lines, rows, s, m, rfl, _⟩ := h
    rfl
  obtain ⟨S, x, d, wl, sh, bl, kn, du, bk, dS, st, op, pe, ops, lines, rows, s, m, rfl, L, hl, l1, l2, l3, fs, fm, k1, k2, k3⟩ := h
  have lo := lib_len L hl
  have lp : (toP pe).length = pe.length := List.length_map _
  refine ⟨_, (pss_one (ps_ret (pe_meth (pv 0) cLibrary.cl dLibrary_begin.mt gLibrary_begin (hr.mono (by decide)) dLibrary_begin.b .nil passX (pa_cons (pe_tup (pa_cons pe_str (pa_cons (pv 1) (pa_cons (pv 2) pa_nil)))) (pa_cons (pe_meth (pv 0) cLibrary.cl dLibrary_row_then.mt gLibrary_row_then (hr.mono (by decide)) dLibrary_row_then.b .nil passX (pa_cons (pv 1) (pa_cons (pv 2) pa_nil))) pa_nil))))), ?_⟩
  refine ⟨_, rfl, x, d, _, rfl, L.hx, rfl, _, rfl, _, rfl, (by show 3 ≤ sizeLine; decide), fun t ht => ?_⟩
  have s1 := same_new ht (.tup [.str (Str.ofString "fork"), .int s, .int m])
  have ht1 : (upd H t (.tup [.str (Str.ofString "fork"), .int s, .int m])) t = some (.tup [.str (Str.ofString "fork"), .int s, .int m]) := upd_same
  generalize upd H t (.tup [.str (Str.ofString "fork"), .int s, .int m]) = H1 at s1 ht1
  have L1 := L.same s1
  refine ⟨_, rfl, x, d, _, rfl, L1.hx, rfl, _, rfl, _, rfl, S, x, d, wl, sh, bl, kn, du, bk, dS, st, op, toP pe, ops, lines, s, m, rfl, L1, ⟨by omega, by omega⟩, fs, fm, fun z => k1 (by rw [← lo]; exact z) H1 s1, fun z1 z2 => k2 (by rw [← lo]; exact z1) (by rw [← lp]; exact z2) H1 s1, fun si mi rws es em sl er => ?_⟩
  rw [List.getElem?_map] at er
  obtain ⟨rw0, er0, rfl⟩ := Option.map_eq_some_iff.mp er
  obtain ⟨k4, k5⟩ := k3 si mi rw0 es em (by omega) er0
  refine ⟨fun z => k4 (by rw [List.length_map] at z; exact z) H1 s1, fun its ei q H2 hq s2 fq => ?_⟩
  rw [List.getElem?_map] at ei
  obtain ⟨es0, ei0, rfl⟩ := Option.map_eq_some_iff.mp ei
  obtain ⟨k6, k7⟩ := k5 es0 ei0
  have s12 := s1.trans s2
  refine ⟨S, x, d, wl, sh, bl, kn, du, bk, dS, st, op, pe, ops, lines, t, q, .plain fkW [s, m], es0, rows, rfl, L.same s12, by show H2 t = _; rw [s2 _ _ ht1, txt_of]; rfl, ok_fork (by omega) fs.big (by omega) fm.big, hq, fun z => ?_, hl, l1, l2, l3, fun c => k6 c H2 s12, fun c => ?_⟩
  · rw [z, L1.hb] at fq
    cases fq
  · obtain ⟨B, k8⟩ := k7 c
    exact ⟨B, fun S' H' L' fr => k8 S' H' L' (fr.same s12)⟩
structure SnF (K : PySem.W.Frag) (mg : Str → Option Value) (fS fZ : Addr) : Prop where
  win : ∃ f g, DefAt K mg "windows" swindows ["items"] f g
  bel : ∃ f g, DefAt K mg "below" sbelow ["rows", "sheets"] f g
  ir : ∃ f g, DefAt K mg "item_row" sitem_row ["item", "views"] f g
  pl : ∃ f g, DefAt K mg "plain" splain ["row"] f g
  vb : ∃ f g, DefAt K mg "views_below" sviews_below ["rows", "sheets"] f g
  sh : ∃ g, DefAt K mg "shown" sshown ["rows", "sheet"] fS g
  sz : ∃ g, DefAt K mg "size" ssize ["row"] fZ g
  as : mg "shown_weave" = some (.ref fS)
  az : mg "size_spans" = some (.ref fZ)
/-- what the sheets show is reckoned -/
structure Seen (rows : List (List Int)) (sh : Int → List Int) : Prop where
  es : ∀ es ∈ rows, es.length ≤ 1000
  sd : Sound rows
  rk : Rkd rows
  ss : Shows rows sh
  ln : ∀ x : Int, 0 ≤ x → x < rows.length → (sh x).length ≤ 10000
def spLShown (C CS XS : Addr) : Sp := fun vs H Q E => ∃ (S : Addr → Prop) (x d wl sh bl kn du bk dS st op : Addr) (pe : List (List (List Int))) (ops : List Int) (lines : List (List Nat)) (rows : List (List Int)) (s : Int), vs = [.ref x, .int s] ∧ LibAt C CS S H x d wl sh bl kn du bk dS st op (toP pe) ops lines ∧ pe.getLast? = some rows ∧ rows.length ≤ 50 ∧ pe.length ≤ 900 ∧ Fit s ∧
  (¬ InN rows.length s → E (.ref XS) none H) ∧ (InN rows.length s → ∃ f, Seen rows f ∧ ∀ (o : Addr) (H' : Hp), RowAt H' o (rowOf (f s)) → Same H H' → H o = none → Q (.ref o) H')
def spLSize (C CS XS : Addr) : Sp := fun vs H Q E => ∃ (S : Addr → Prop) (x d wl sh bl kn du bk dS st op : Addr) (pe : List (List (List Int))) (ops : List Int) (lines : List (List Nat)) (rows : List (List Int)) (s : Int), vs = [.ref x, .int s] ∧ LibAt C CS S H x d wl sh bl kn du bk dS st op (toP pe) ops lines ∧ pe.getLast? = some rows ∧ rows.length ≤ 50 ∧ pe.length ≤ 900 ∧ Fit s ∧
  (¬ InN rows.length s → E (.ref XS) none H) ∧ (InN rows.length s → ∃ f, Seen rows f ∧ (rowOf (f s)).length ≤ 1000000 ∧ ∀ H', Same H H' → Q (.int (tot (rowOf (f s)))) H')
abbrev sLibrary_shown : Stmt := mtop 62 30
abbrev sLibrary_size : Stmt := mtop 62 34
theorem scLibrary_shown : FnScope ["self", "sheet"] ["self", "sheet"] (defScope sLibrary_shown) := ⟨rfl, rfl, rfl, by decide +kernel, rfl, by decide +kernel, by decide +kernel⟩
theorem scLibrary_size : FnScope ["self", "sheet"] ["self", "sheet"] (defScope sLibrary_size) := ⟨rfl, rfl, rfl, by decide +kernel, rfl, by decide +kernel, by decide +kernel⟩
theorem ok_Library_shown {f C CS XS XM XT fS fZ : Addr} {fd : FuncData} (F : Fun K "shown" "Library.shown" sLibrary_shown f fd) (L : LibM K mg C CS XS XM XT) (A1 : ShF K mg CS) (A4 : SnF K mg fS fZ) : FnOk P w K mg base (CX1 P w) 5 f fd ["self", "sheet"] (spLShown C CS XS) := by
  obtain ⟨⟨_, _, d1⟩, ⟨_, _, d2⟩, ⟨_, _, dShelf_check_sheet⟩, ⟨_, _, d4⟩, ⟨_, _, d7⟩, ⟨_, _, dShelf_rows⟩, _⟩ := A1
  obtain ⟨⟨_, _, w1⟩, ⟨_, _, w2⟩, ⟨_, _, w3⟩, ⟨_, _, w4⟩, ⟨_, _, w5⟩, ⟨_, dshown⟩, _, alshown_weave, _⟩ := A4
  obtain ⟨M, ⟨fi, cLibrary⟩, nw, ns, nbl, nk, nd, nbk, ZTooMany, G⟩ := L
  have gShelf_rows : FnOk P w K mg base CX0 4 _ _ ["self"] (spRows CS) := ok_Shelf_rows dShelf_rows.F M d2 d4 d7
  have gShelf_check_sheet : FnOk P w K mg base (CX1 P w) 2 _ _ ["self", "sheet"] (spCheckS CS XS) := ok_Shelf_check_sheet dShelf_check_sheet.F M d1
  obtain ⟨T, ⟨fj, cShelf⟩, n1, n2, ZNoSheet, ZNoMoment⟩ := M
  have gshown : FnOk P w K mg base CX0 4 _ _ ["rows", "sheet"] spShown := ok_shown dshown.F T w1 w2 w3 w4 w5
  refine okX F scLibrary_shown (fun vs H Q E h => ?_) (fun cdv A outer s H vs Q E hr h => ?_)
  · obtain ⟨S, x, d, wl, sh, bl, kn, du, bk, dS, st, op, pe, ops, lines, rows, s, rfl, _⟩ := h
    rfl
  obtain ⟨S, x, d, wl, sh, bl, kn, du, bk, dS, st, op, pe, ops, lines, rows, s, rfl, L, hl, l1, l2, fs, k1, k2⟩ := h
  have lo := lib_len L hl
  have lp : (toP pe).length = pe.length := List.length_map _
  have hl' := getLast_toP hl
  refine ⟨_, (pss_cons (ps_expr (pe_meth (pe_fld (pv 0) rfl) cShelf.cl dShelf_check_sheet.mt gShelf_check_sheet (hr.mono (by decide)) dShelf_check_sheet.b .nil passX (pa_cons (pv 1) pa_nil)))
      (pss_one (ps_ret (InkE.pe_defA dshown alshown_weave gshown hr (pa_cons (pe_meth0 (pe_fld (pv 0) rfl) cShelf.cl dShelf_rows.mt gShelf_rows (hr.mono (by decide)) dShelf_rows.b .nil pass0) (pa_cons (pv 1) pa_nil)))))), ?_⟩
  refine ⟨_, rfl, x, C, d, _, .ref sh, rfl, L.hx, cLibrary.cl, ns, rfl, sh, dS, _, rfl, L.W.hx, rfl, _, rfl, S, sh, dS, st, op, toP pe, ops, s, rfl, L.W, ⟨by omega, by omega⟩, fs, fun ia => ?_, fun z => k1 (by rw [← lo]; exact z)⟩
  rw [lo] at ia
  obtain ⟨f0, sn, k3⟩ := k2 ia
  refine ⟨_, rfl, x, C, d, _, .ref sh, rfl, L.hx, cLibrary.cl, ns, rfl, sh, dS, _, rfl, L.W.hx, rfl, S, sh, dS, st, op, toP pe, ops, rfl, L.W, ⟨by omega, by omega⟩, fun rws el q H1 fs1 s1 => ?_⟩
  rw [hl'] at el
  cases el
  obtain ⟨fq, rs, hq, al⟩ := fs1
  have hR : SheetsAt H1 q (rows.map itemsOf) := by
    refine ⟨rs.map V.ref, hq, ?_⟩
    have key : ∀ {as : List Addr} {ds : List (List Item)}, All2 (fun r its => H r = none ∧ r ≠ q ∧ ItemsAt H1 (.ref r) its) as ds → All2 (ItemsAt H1) (as.map V.ref) ds := by
      intro as ds z
      induction z with
      | nil => exact .nil
      | cons o t ih => exact .cons o.2.2 ih
    exact key al
  exact ⟨_, rfl, q, rows, s, f0, rfl, hR, by omega, sn.es, sn.sd, sn.rk, ia.1, ia.2, sn.ss, sn.ln, fun o H2 ho s2 fo => k3 o H2 ho (s1.trans s2) (free_same s1 fo)⟩
theorem ok_Library_size {f C CS XS XM XT fS fZ fL : Addr} {fd gL : FuncData} (F : Fun K "size" "Library.size" sLibrary_size f fd) (L : LibM K mg C CS XS XM XT) (A1 : ShF K mg CS) (A4 : SnF K mg fS fZ) (dLibrary_shown : MetAt K C "shown" "Library.shown" sLibrary_shown ["self", "sheet"] fL gL) : FnOk P w K mg base (CX1 P w) 6 f fd ["self", "sheet"] (spLSize C CS XS) := by
  have gLibrary_shown : FnOk P w K mg base (CX1 P w) 5 _ _ ["self", "sheet"] (spLShown C CS XS) := ok_Library_shown dLibrary_shown.F L A1 A4
  obtain ⟨_, _, _, _, _, _, ⟨_, dsize⟩, _, alsize_spans⟩ := A4
  obtain ⟨M, ⟨fi, cLibrary⟩, nw, ns, nbl, nk, nd, nbk, ZTooMany, G⟩ := L
  obtain ⟨T, ⟨fj, cShelf⟩, n1, n2, ZNoSheet, ZNoMoment⟩ := M
  have gsize : FnOk P w K mg base CX0 1 _ _ ["row"] spSize := ok_size dsize.F T
  refine okX F scLibrary_size (fun vs H Q E h => ?_) (fun cdv A outer s H vs Q E hr h => ?_)
  · obtain ⟨S, x, d, wl, sh, bl, kn, du, bk, dS, st, op, pe, ops, lines, rows, s, rfl, _⟩ := h
    rfl
  obtain ⟨S, x, d, wl, sh, bl, kn, du, bk, dS, st, op, pe, ops, lines, rows, s, rfl, L, hl, l1, l2, fs, k1, k2⟩ := h
  refine ⟨_, (pss_one (ps_ret (InkE.pe_defA dsize alsize_spans gsize hr (pa_cons (pe_meth (pv 0) cLibrary.cl dLibrary_shown.mt gLibrary_shown (hr.mono (by decide)) dLibrary_shown.b .nil passX (pa_cons (pv 1) pa_nil)) pa_nil)))), ?_⟩
  refine ⟨_, rfl, x, d, _, rfl, L.hx, rfl, _, rfl, S, x, d, wl, sh, bl, kn, du, bk, dS, st, op, pe, ops, lines, rows, s, rfl, L, hl, l1, l2, fs, k1, fun ia => ?_⟩
  obtain ⟨f0, sn, lf, k3⟩ := k2 ia
  exact ⟨f0, sn, fun o H' ho s' _ => ⟨o, _, rfl, ho, lf, fun H2 s2 => k3 H2 (s'.trans s2)⟩⟩
def spLInit (C CS : Addr) : Sp := fun vs H Q _ => ∃ x d : Addr, vs = [.ref x] ∧ H x = some (.ins C d []) ∧ ∀ (S : Addr → Prop) (wl sh bl kn du bk dS st op : Addr) (H' : Hp), LibAt C CS S H' x d wl sh bl kn du bk dS st op (toP [[]]) [] [] → (∀ a, S a → H a = none) → H bk = none → Keep x H H' → Q .non H'
abbrev sLibrary___init__ : Stmt := mtop 62 0
theorem scLibrary___init__ : FnScope ["self"] ["self"] (defScope sLibrary___init__) := ⟨rfl, rfl, rfl, by decide +kernel, rfl, by decide +kernel, by decide +kernel⟩
theorem ok_Library___init__ {f C CS XS XM XT CW CB CT CD f1 f2 f3 f4 f5 : Addr} {fd g1 g2 g3 g4 g5 : FuncData} (F : Fun K "__init__" "Library.__init__" sLibrary___init__ f fd) (L : LibM K mg C CS XS XM XT) (cShelf : ClsAt K mg "Shelf" CS f1) (dShelf___init__ : MetAt K CS "__init__" "Shelf.__init__" sShelf___init__ ["self"] f1 g1)
    (cWell : ClsAt K mg "Well" CW f2) (dWell___init__ : MetAt K CW "__init__" "Well.__init__" sWell___init__ ["self"] f2 g2) (w1 : NoAttr K CW "signs") (w2 : NoAttr K CW "owners") (w3 : NoAttr K CW "pourings")
    (cBlots : ClsAt K mg "Blots" CB f3) (dBlots___init__ : MetAt K CB "__init__" "Blots.__init__" sBlots___init__ ["self"] f3 g3) (b1 : NoAttr K CB "stains")
    (cTies : ClsAt K mg "Ties" CT f4) (dTies___init__ : MetAt K CT "__init__" "Ties.__init__" sTies___init__ ["self"] f4 g4) (t1 : NoAttr K CT "given") (t2 : NoAttr K CT "pairs")
    (cDues : ClsAt K mg "Dues" CD f5) (dDues___init__ : MetAt K CD "__init__" "Dues.__init__" sDues___init__ ["self"] f5 g5) (u1 : NoAttr K CD "sums") : FnOk P w K mg base CX0 3 f fd ["self"] (spLInit C CS) := by
  obtain ⟨M, ⟨fi, cLibrary⟩, nw, ns, nbl, nk, nd, nbk, ZTooMany, G⟩ := L
  obtain ⟨T, _, n1, n2, ZNoSheet, ZNoMoment⟩ := M
  have gShelf___init__ : FnOk P w K mg base CX0 1 _ _ ["self"] (spSInit CS) := ok_Shelf___init__ dShelf___init__.F cShelf.cl n1 n2
  have gWell___init__ : FnOk P w K mg base CX0 1 _ _ ["self"] (spInit0 CW) := ok_Well___init__ dWell___init__.F cWell.cl w1 w2 w3
  have gBlots___init__ : FnOk P w K mg base CX0 1 _ _ ["self"] (spInit0 CB) := ok_Blots___init__ dBlots___init__.F cBlots.cl b1
  have gTies___init__ : FnOk P w K mg base CX0 1 _ _ ["self"] (spInit0 CT) := ok_Ties___init__ dTies___init__.F cTies.cl t1 t2
  have gDues___init__ : FnOk P w K mg base CX0 1 _ _ ["self"] (spInit0 CD) := ok_Dues___init__ dDues___init__.F cDues.cl u1
  refine F.ok scLibrary___init__ (fun vs H Q E h => ?_) (fun cdv A outer s H vs Q E hr h => ?_)
  · obtain ⟨x, d, rfl, _⟩ := h
    rfl
  obtain ⟨x, d, rfl, hx, k⟩ := h
  refine ⟨_, (pss_cons (ps_fld (pv 0) (pe_make0 cWell.mak gWell___init__ (hr.mono (by decide)) rfl cWell.m dWell___init__.b .nil pass0) rfl)
      (pss_cons (ps_fld (pv 0) (pe_make0 cShelf.mak gShelf___init__ (hr.mono (by decide)) rfl cShelf.m dShelf___init__.b .nil pass0) rfl)
      (pss_cons (ps_fld (pv 0) (pe_make0 cBlots.mak gBlots___init__ (hr.mono (by decide)) rfl cBlots.m dBlots___init__.b .nil pass0) rfl)
      (pss_cons (ps_fld (pv 0) (pe_make0 cTies.mak gTies___init__ (hr.mono (by decide)) rfl cTies.m dTies___init__.b .nil pass0) rfl)
      (pss_cons (ps_fld (pv 0) (pe_make0 cDues.mak gDues___init__ (hr.mono (by decide)) rfl cDues.m dDues___init__.b .nil pass0) rfl)
      (pss_one (ps_fld (pv 0) (pe_lst pa_nil) rfl))))))), ?_⟩
  intro wl dw hw1 hw2 _
  refine ⟨wl, dw, rfl, upd_same, fun fs1 H1 _ k1 => ⟨rfl, ?_⟩⟩
  have s1 := make_same hw1 hw2 k1
  refine ⟨_, rfl, x, C, d, _, rfl, s1 _ _ hx, cLibrary.cl, nw, by decide, ?_⟩
  have q2 : Keep x H (upd H1 x (.ins C d (L2.putF "well" (.ref wl) []))) := Keep.trans (Ink.Same.keep s1) (keep_upd x _ _)
  have x2 : (upd H1 x (.ins C d (L2.putF "well" (.ref wl) []))) x = some (.ins C d [("well", .ref wl)]) := upd_same
  generalize upd H1 x (.ins C d (L2.putF "well" (.ref wl) [])) = H2 at q2 x2
  intro sh dS hs1 hs2 _
  refine ⟨sh, dS, rfl, upd_same, fun st op z H3 W3 k3 fst fop fz => ⟨rfl, ?_⟩⟩
  have s3 := make_same hs1 hs2 k3
  have up : ∀ a, (upd (upd H2 dS (.own sh)) sh (.ins CS dS [])) a = none → H2 a = none := fun a e => by
    by_cases z1 : a = sh
    · rw [z1, upd_same] at e; cases e
    rw [upd_ne z1] at e
    by_cases z2 : a = dS
    · rw [z2, upd_same] at e; cases e
    rw [upd_ne z2] at e
    exact e
  have fS : ∀ a, (a = sh ∨ a = st ∨ a = op ∨ a = z) → H2 a = none := fun a e => by
    rcases e with rfl | rfl | rfl | rfl
    · exact hs1
    · exact up _ fst
    · exact up _ fop
    · exact up _ fz
  have nSx : ¬ (x = sh ∨ x = st ∨ x = op ∨ x = z) := fun e => by
    have := fS x e
    rw [x2] at this
    cases this
  have x3 := s3 _ _ x2
  refine ⟨_, rfl, x, C, d, _, rfl, x3, cLibrary.cl, ns, (by show 1 < 1000; decide), ?_⟩
  have k4 : Keep x H3 (upd H3 x (.ins C d (L2.putF "shelf" (.ref sh) [("well", .ref wl)]))) := keep_upd x _ _
  have x4 : (upd H3 x (.ins C d (L2.putF "shelf" (.ref sh) [("well", .ref wl)]))) x = some (.ins C d [("well", .ref wl), ("shelf", .ref sh)]) := upd_same
  generalize upd H3 x (.ins C d (L2.putF "shelf" (.ref sh) [("well", .ref wl)])) = H4 at k4 x4
  have W4 := W3.keepI x3 nSx k4
  have q4 : Keep x H H4 := (q2.trans (Ink.Same.keep s3)).trans k4
  intro bl db hb1 hb2 _
  refine ⟨bl, db, rfl, upd_same, fun fs5 H5 _ k5 => ⟨rfl, ?_⟩⟩
  have s5 := make_same hb1 hb2 k5
  have x5 := s5 _ _ x4
  have W5 := W4.same s5
  refine ⟨_, rfl, x, C, d, _, rfl, x5, cLibrary.cl, nbl, (by show 2 < 1000; decide), ?_⟩
  have k6 : Keep x H5 (upd H5 x (.ins C d (L2.putF "blots" (.ref bl) [("well", .ref wl), ("shelf", .ref sh)]))) := keep_upd x _ _
  have x6 : (upd H5 x (.ins C d (L2.putF "blots" (.ref bl) [("well", .ref wl), ("shelf", .ref sh)]))) x = some (.ins C d [("well", .ref wl), ("shelf", .ref sh), ("blots", .ref bl)]) := upd_same
  generalize upd H5 x (.ins C d (L2.putF "blots" (.ref bl) [("well", .ref wl), ("shelf", .ref sh)])) = H6 at k6 x6
  have W6 := W5.keepI x5 nSx k6
  have q6 : Keep x H H6 := (q4.trans (Ink.Same.keep s5)).trans k6
  intro kn dk hk1 hk2 _
  refine ⟨kn, dk, rfl, upd_same, fun fs7 H7 _ k7 => ⟨rfl, ?_⟩⟩
  have s7 := make_same hk1 hk2 k7
  have x7 := s7 _ _ x6
  have W7 := W6.same s7
  refine ⟨_, rfl, x, C, d, _, rfl, x7, cLibrary.cl, nk, (by show 3 < 1000; decide), ?_⟩
  have k8 : Keep x H7 (upd H7 x (.ins C d (L2.putF "knots" (.ref kn) [("well", .ref wl), ("shelf", .ref sh), ("blots", .ref bl)]))) := keep_upd x _ _
  have x8 : (upd H7 x (.ins C d (L2.putF "knots" (.ref kn) [("well", .ref wl), ("shelf", .ref sh), ("blots", .ref bl)]))) x = some (.ins C d [("well", .ref wl), ("shelf", .ref sh), ("blots", .ref bl), ("knots", .ref kn)]) := upd_same
  generalize upd H7 x (.ins C d (L2.putF "knots" (.ref kn) [("well", .ref wl), ("shelf", .ref sh), ("blots", .ref bl)])) = H8 at k8 x8
  have W8 := W7.keepI x7 nSx k8
  have q8 : Keep x H H8 := (q6.trans (Ink.Same.keep s7)).trans k8
  intro du dd hd1 hd2 _
  refine ⟨du, dd, rfl, upd_same, fun fs9 H9 _ k9 => ⟨rfl, ?_⟩⟩
  have s9 := make_same hd1 hd2 k9
  have x9 := s9 _ _ x8
  have W9 := W8.same s9
  refine ⟨_, rfl, x, C, d, _, rfl, x9, cLibrary.cl, nd, (by show 4 < 1000; decide), ?_⟩
  have k10 : Keep x H9 (upd H9 x (.ins C d (L2.putF "dues" (.ref du) [("well", .ref wl), ("shelf", .ref sh), ("blots", .ref bl), ("knots", .ref kn)]))) := keep_upd x _ _
  have x10 : (upd H9 x (.ins C d (L2.putF "dues" (.ref du) [("well", .ref wl), ("shelf", .ref sh), ("blots", .ref bl), ("knots", .ref kn)]))) x = some (.ins C d [("well", .ref wl), ("shelf", .ref sh), ("blots", .ref bl), ("knots", .ref kn), ("dues", .ref du)]) := upd_same
  generalize upd H9 x (.ins C d (L2.putF "dues" (.ref du) [("well", .ref wl), ("shelf", .ref sh), ("blots", .ref bl), ("knots", .ref kn)])) = H10 at k10 x10
  have W10 := W9.keepI x9 nSx k10
  have q10 : Keep x H H10 := (q8.trans (Ink.Same.keep s9)).trans k10
  refine ⟨(by show 0 ≤ sizeLine; decide), fun bk hbk => ⟨_, rfl, x, C, d, _, rfl, same_new hbk _ _ _ x10, cLibrary.cl, nbk, (by show 5 < 1000; decide), ?_⟩⟩
  have nbx : bk ≠ x := (ne_of_none x10 hbk).symm
  have nSb : ¬ (bk = sh ∨ bk = st ∨ bk = op ∨ bk = z) := fun e => by
    obtain ⟨ob, w⟩ := W10.al bk e
    rw [hbk] at w
    cases w
  have s11 := same_new hbk (.lst [])
  have k12 : Keep x (upd H10 bk (.lst [])) (upd (upd H10 bk (.lst [])) x (.ins C d (L2.putF "book" (.ref bk) [("well", .ref wl), ("shelf", .ref sh), ("blots", .ref bl), ("knots", .ref kn), ("dues", .ref du)]))) := keep_upd x _ _
  have W12 := (W10.same s11).keepI (s11 _ _ x10) nSx k12
  refine k _ wl sh bl kn du bk dS st op _ ⟨upd_same, W12, ?_, nSx, nSb⟩ (fun a e => ?_) ?_ ((q10.trans (Ink.Same.keep s11)).trans k12)
  · rw [upd_ne nbx]
    exact upd_same
  · exact free_keep q2 (fun e' => by rw [e'] at e; exact nSx e) (fS a e)
  · exact free_keep q10 nbx hbk











abbrev e0 (n : Nat) : List (List Int) := List.replicate n []
abbrev pe46 (n : Nat) : List (List (List Int)) := (List.range (n + 1)).map e0
theorem pe46_succ (n : Nat) : pe46 (n + 1) = pe46 n ++ [e0 (n + 1)] := by
  unfold pe46
  rw [List.range_succ, List.map_append]
  rfl
theorem pe46_last (n : Nat) : (pe46 n).getLast? = some (e0 n) := by
  unfold pe46
  rw [List.range_succ, List.map_append]
  exact List.getLast?_concat
theorem pe46_get {n mi : Nat} {rws : List (List Int)} (h : (pe46 n)[mi]? = some rws) : mi ≤ n ∧ rws = e0 mi := by
  unfold pe46 at h
  rw [List.getElem?_map] at h
  obtain ⟨j, hj, rfl⟩ := Option.map_eq_some_iff.mp h
  have hl := (List.getElem?_eq_some_iff.mp hj).1
  rw [List.length_range] at hl
  rw [List.getElem?_range hl] at hj
  cases hj
  exact ⟨by omega, rfl⟩
theorem e0_succ (n : Nat) : e0 n ++ [[]] = e0 (n + 1) := (List.replicate_succ').symm
theorem e0_nil {n : Nat} {es : List Int} (h : es ∈ e0 n) : es = [] := (List.mem_replicate.mp h).2
theorem e0_nxt {n : Nat} {x y : Int} : ¬ Nxt (e0 n) x y := fun ⟨_, es, he, hy⟩ => by
  rw [e0_nil (List.mem_of_getElem? he)] at hy
  cases hy
theorem e0_sound (n : Nat) : Sound (e0 n) := fun es he y hy => by
  rw [e0_nil he] at hy
  cases hy
theorem e0_rkd (n : Nat) : Rkd (e0 n) := ⟨fun _ => 0, fun _ => Nat.zero_le _, fun _ _ z => absurd z e0_nxt⟩
theorem e0_bears {n : Nat} (h : n ≤ 100) : Bears (e0 n) fun _ => 0 := by
  refine ⟨by rw [List.length_replicate]; exact h, fun es he => by rw [e0_nil he]; exact Nat.zero_le _, e0_sound n, e0_rkd n, fun x es _ he => ?_, fun _ _ _ => by decide⟩
  rw [e0_nil (List.mem_of_getElem? he)]
  rfl
theorem e0_seen (n : Nat) : Seen (e0 n) fun _ => [] := by
  refine ⟨fun es he => by rw [e0_nil he]; exact Nat.zero_le _, e0_sound n, e0_rkd n, fun x es _ he => ?_, fun _ _ _ => Nat.zero_le _⟩
  rw [e0_nil (List.mem_of_getElem? he)]
  rfl
/-- a library with n sheets, opened one behind the other, all empty; what it owns is U -/
def L46 (C CS : Addr) (U : Addr → Prop) (H : Hp) (x : Addr) (n : Nat) : Prop := ∃ (S : Addr → Prop) (d wl sh bl kn du bk dS st op : Addr) (ops : List Int) (lines : List (List Nat)), LibAt C CS S H x d wl sh bl kn du bk dS st op (toP (pe46 n)) ops lines ∧ lines.length = n ∧ ∀ a, U a ↔ S a ∨ a = bk ∨ a = x
theorem L46.same {C CS : Addr} {U : Addr → Prop} {H H' : Hp} {x : Addr} {n : Nat} (h : L46 C CS U H x n) (s : Same H H') : L46 C CS U H' x n := by
  obtain ⟨S, d, wl, sh, bl, kn, du, bk, dS, st, op, ops, lines, L, ll, hU⟩ := h
  exact ⟨S, d, wl, sh, bl, kn, du, bk, dS, st, op, ops, lines, L.same s, ll, hU⟩
theorem L46.al {C CS : Addr} {U : Addr → Prop} {H : Hp} {x : Addr} {n : Nat} (h : L46 C CS U H x n) {a : Addr} (u : U a) : ∃ ob, H a = some ob := by
  obtain ⟨S, d, wl, sh, bl, kn, du, bk, dS, st, op, ops, lines, L, ll, hU⟩ := h
  rcases (hU a).mp u with z | z | z
  · exact L.W.al a z
  · rw [z]; exact ⟨_, L.hb⟩
  · rw [z]; exact ⟨_, L.hx⟩
theorem L46.fr {C CS : Addr} {U : Addr → Prop} {H H' : Hp} {x : Addr} {n : Nat} (h : L46 C CS U H x n) (k : ∀ a ob, H a = some ob → U a → H' a = some ob) (t : ∀ a xs, H a = some (.tup xs) → H' a = some (.tup xs)) : L46 C CS U H' x n := by
  obtain ⟨S, d, wl, sh, bl, kn, du, bk, dS, st, op, ops, lines, L, ll, hU⟩ := h
  exact ⟨S, d, wl, sh, bl, kn, du, bk, dS, st, op, ops, lines, ⟨k _ _ L.hx ((hU _).mpr (.inr (.inr rfl))), L.W.fr (fun a ob e z => k a ob e ((hU a).mpr (.inl z))) t, k _ _ L.hb ((hU _).mpr (.inr (.inl rfl))), L.nx, L.nb⟩, ll, hU⟩
def FrU (U U' : Addr → Prop) (H H' : Hp) : Prop := (∀ a, U' a → U a ∨ H a = none) ∧ (∀ a ob, H a = some ob → ¬ U a → H' a = some ob) ∧ ∀ a xs, H a = some (.tup xs) → H' a = some (.tup xs)
theorem FrU.same {U : Addr → Prop} {H H' : Hp} (s : Same H H') : FrU U U H H' := ⟨fun _ z => .inl z, fun a ob e _ => s a ob e, fun a xs e => s _ _ e⟩
abbrev wS : V := .str (Str.ofString "sheet")
abbrev wM : V := .str (Str.ofString "moment")
abbrev wT : V := .str (Str.ofString "many")
def dueV (n : Nat) (s m : Int) : V := if s ≥ n then wS else if s ≥ 0 ∧ m > n then wM else if s ≥ 0 ∧ m < s + 1 then wS else if n = 40 then wT else .int n
def nextN (n : Nat) (s m : Int) : Nat := if dueV n s m = .int n then n + 1 else n
def spOpened46 (C CS : Addr) : Sp := fun vs H Q _ => ∃ (U : Addr → Prop) (x : Addr) (n : Nat) (s m : Int), vs = [.ref x, .int s, .int m] ∧ L46 C CS U H x n ∧ n ≤ 40 ∧ -1 ≤ s ∧ s ≤ 100 ∧ 0 ≤ m ∧ m ≤ 100 ∧ ∀ (U' : Addr → Prop) (H' : Hp), L46 C CS U' H' x (nextN n s m) → FrU U U' H H' → Q (dueV n s m) H'
abbrev s_law_opened : Stmt := top 68
theorem sc_law_opened : FnScope ["_law_house", "_law_sheet", "_law_moment", "_law_told"] ["_law_house", "_law_sheet", "_law_moment"] (defScope s_law_opened) := ⟨rfl, rfl, rfl, by decide +kernel, rfl, by decide +kernel, by decide +kernel⟩
theorem L46.next {C CS : Addr} {U S S' : Addr → Prop} {H H' : Hp} {x d wl sh bl kn du bk dS st op : Addr} {n : Nat} {ops ops' : List Int} {lines lines' : List (List Nat)} (L : LibAt C CS S H x d wl sh bl kn du bk dS st op (toP (pe46 n)) ops lines) (hU : ∀ a, U a ↔ S a ∨ a = bk ∨ a = x) (L' : LibAt C CS S' H' x d wl sh bl kn du bk dS st op (toP (pe46 n ++ [e0 n ++ [[]]])) ops' lines') (ll : lines'.length = n + 1) (fr : Fr S S' bk H H') : L46 C CS (fun a => S' a ∨ a = bk ∨ a = x) H' x (n + 1) ∧ FrU U (fun a => S' a ∨ a = bk ∨ a = x) H H' := by
  rw [e0_succ, ← pe46_succ] at L'
  refine ⟨⟨S', d, wl, sh, bl, kn, du, bk, dS, st, op, ops', lines', L', ll, fun a => Iff.rfl⟩, fun a z => ?_, fun a ob e nu => ?_, fr.2.2⟩
  · rcases z with z | z | z
    · exact (fr.1 a z).imp (fun y => (hU a).mpr (.inl y)) id
    · exact .inl ((hU a).mpr (.inr (.inl z)))
    · exact .inl ((hU a).mpr (.inr (.inr z)))
  · exact fr.2.1 a ob e (fun z => nu ((hU a).mpr (.inl z))) (fun z => nu ((hU a).mpr (.inr (.inl z))))
theorem ok_law_opened {f C CS XS XM XT f1 f2 : Addr} {fd g1 g2 : FuncData} (F : Fun K "_law_opened" "_law_opened" s_law_opened f fd) (L : LibM K mg C CS XS XM XT) (A1 : ShF K mg CS) (A2 : WvF K mg) (A3 : LbF K mg C) (Zn : PySem.W.exmOne K (.ref XM) (.ref XS) = some false) (Zn1 : PySem.W.exmOne K (.ref XT) (.ref XS) = some false) (Zn2 : PySem.W.exmOne K (.ref XT) (.ref XM) = some false) (dLibrary_fresh : MetAt K C "fresh" "Library.fresh" sLibrary_fresh ["self"] f1 g1) (dLibrary_fork : MetAt K C "fork" "Library.fork" sLibrary_fork ["self", "sheet", "moment"] f2 g2) {fRt f5 f6 : Addr} {gRt g5 g6 : FuncData} (d5 : MetAt K CS "check_then" "Shelf.check_then" sShelf_check_then ["self", "sheet", "moment"] f5 g5) (d6 : MetAt K CS "row_then" "Shelf.row_then" sShelf_row_then ["self", "sheet", "moment"] f6 g6) (dLibrary_row_then : MetAt K C "row_then" "Library.row_then" sLibrary_row_then ["self", "sheet", "moment"] fRt gRt) : FnOk P w K mg base CX0 8 f fd ["_law_house", "_law_sheet", "_law_moment"] (spOpened46 C CS) := by
  have gLibrary_fresh : FnOk P w K mg base (CX1 P w) 7 _ _ ["self"] (spFresh C CS XT) := ok_Library_fresh dLibrary_fresh.F L A1 A2 A3
  have gLibrary_fork : FnOk P w K mg base (CX1 P w) 7 _ _ ["self", "sheet", "moment"] (spFork C CS XS XM XT) := ok_Library_fork dLibrary_fork.F L A1 A2 A3 d5 d6 dLibrary_row_then
  obtain ⟨M, ⟨fi, cLibrary⟩, nw, ns, nbl, nk, nd, nbk, ZTooMany, G⟩ := L
  obtain ⟨T, ⟨fj, cShelf⟩, n1, n2, ZNoSheet, ZNoMoment⟩ := M
  refine F.ok sc_law_opened (fun vs H Q E h => ?_) (fun cdv A outer s H vs Q E hr h => ?_)
  · obtain ⟨U, x, n, s, m, rfl, _⟩ := h
    rfl
  obtain ⟨U, x, n, s, m, rfl, hL, n40, s0, s1, m0, m1, k⟩ := h
  refine ⟨_, (pss_cons (ps_set (i := 3) sc_law_opened.nd rfl (Or.inl rfl) pe_non)
      (pss_cons (InkE.ps_tryP (InkE.psx_if (pt_cmpR op_lt (pv 1) pe_int (nomark _)) (InkE.psx_set (i := 3) sc_law_opened.nd rfl (Or.inl rfl) (InkE.px_meth0 (pv 0) cLibrary.cl dLibrary_fresh.mt dLibrary_fresh.b gLibrary_fresh (hr.mono (by decide)))) (InkE.psx_set (i := 3) sc_law_opened.nd rfl (Or.inl rfl) (InkE.px_meth (pv 0) cLibrary.cl dLibrary_fork.mt dLibrary_fork.b gLibrary_fork (hr.mono (by decide)) (pa_cons (pv 1) (pa_cons (pv 2) pa_nil)))))
      (InkE.phs_cons ZNoSheet.m (fun _ => (pss_one (ps_set (i := 3) sc_law_opened.nd rfl (Or.inl rfl) pe_str))) (InkE.phs_cons ZNoMoment.m (fun _ => (pss_one (ps_set (i := 3) sc_law_opened.nd rfl (Or.inl rfl) pe_str))) (InkE.phs_cons ZTooMany.m (fun _ => (pss_one (ps_set (i := 3) sc_law_opened.nd rfl (Or.inl rfl) pe_str))) InkE.phs_nil))))
      (pss_one (ps_ret (pv 3))))), ?_⟩
  obtain ⟨S, d, wl, sh, bl, kn, du, bk, dS, st, op, ops, lines, L, ll, hU⟩ := id hL
  have lr : (e0 n).length = n := List.length_replicate
  have lpe : (pe46 n).length = n + 1 := by unfold pe46; rw [List.length_map, List.length_range]
  have same : ∀ H', Same H H' → dueV n s m ≠ .int n → Q (dueV n s m) H' := fun H' s' ne => k U H' (by unfold nextN; rw [if_neg ne]; exact hL.same s') (FrU.same s')
  refine ⟨_, rfl, _, _, rfl, rfl, _, rfl, ite2 (fun c => ?_) (fun c => ?_)⟩
  · have c' := of_decide_eq_true c
    have e1 : dueV n s m = if n = 40 then wT else .int n := by
      unfold dueV
      rw [if_neg (by omega), if_neg (by omega), if_neg (by omega)]
    refine ⟨_, rfl, x, d, _, rfl, L.hx, rfl, S, x, d, wl, sh, bl, kn, du, bk, dS, st, op, pe46 n, ops, lines, e0 n, rfl, L, pe46_last n, by omega, by omega, by omega, fun z H' s' => ?_, fun z => ?_⟩
    · have e40 : n = 40 := by omega
      rw [if_pos e40] at e1
      refine .inr ⟨Zn1, .inr ⟨Zn2, .inl ⟨ZTooMany.h, ?_⟩⟩⟩
      have := same H' s' (by rw [e1]; intro y; cases y)
      rw [e1] at this
      exact ⟨_, rfl, this⟩
    · rw [if_neg (by omega)] at e1
      refine ⟨⟨_, by rw [e0_succ]; exact e0_bears (by omega)⟩, fun S' H' L' fr => ?_⟩
      obtain ⟨q1, q2⟩ := L46.next L hU L' (by rw [List.length_append, ll]; rfl) fr
      have := k _ H' (by unfold nextN; rw [if_pos e1]; exact q1) q2
      rw [e1] at this
      rw [lr]
      exact ⟨_, rfl, this⟩
  · have c' : ¬ s < 0 := fun z => c (decide_eq_true z)
    have sh1 : n ≤ s → ∀ H', Same H H' → Q wS H' := fun z H' s' => by
      have e1 : dueV n s m = wS := by unfold dueV; rw [if_pos (by omega)]
      have := same H' s' (by rw [e1]; intro y; cases y)
      rw [e1] at this
      exact this
    have sh2 : s < n → m ≤ n → m ≤ s → ∀ H', Same H H' → Q wS H' := fun z1 z2 z3 H' s' => by
      have e1 : dueV n s m = wS := by unfold dueV; rw [if_neg (by omega), if_neg (by omega), if_pos (by omega)]
      have := same H' s' (by rw [e1]; intro y; cases y)
      rw [e1] at this
      exact this
    refine ⟨_, rfl, x, d, _, rfl, L.hx, rfl, _, rfl, _, rfl, S, x, d, wl, sh, bl, kn, du, bk, dS, st, op, pe46 n, ops, lines, e0 n, s, m, rfl, L, pe46_last n, by omega, by omega, by omega, ⟨by omega, by omega⟩, ⟨by omega, by omega⟩, fun z H' s' => ?_, fun z1 z2 H' s' => ?_, fun si mi rws es em sl er => ⟨fun z H' s' => ?_, fun es0 ee => ⟨fun z H' s' => ?_, fun z => ?_⟩⟩⟩
    · rw [lr] at z
      exact .inl ⟨ZNoSheet.h, _, rfl, sh1 (by unfold InN at z; omega) H' s'⟩
    · rw [lr] at z1
      rw [lpe] at z2
      have z1' := z1.2
      have e1 : dueV n s m = wM := by unfold dueV; rw [if_neg (by omega), if_pos ⟨by omega, by unfold InN at z2; omega⟩]
      have := same H' s' (by rw [e1]; intro y; cases y)
      rw [e1] at this
      exact .inr ⟨Zn, .inl ⟨ZNoMoment.h, _, rfl, this⟩⟩
    · rw [lr] at sl
      obtain ⟨hm, er'⟩ := pe46_get er
      rw [er', List.length_replicate] at z
      exact .inl ⟨ZNoSheet.h, _, rfl, sh2 (by omega) (by omega) (by omega) H' s'⟩
    all_goals
      rw [lr] at sl z
      obtain ⟨hm, er'⟩ := pe46_get er
      rw [er'] at ee
      have es1 := e0_nil (List.mem_of_getElem? ee)
      have es2 : si < mi := by have := (List.getElem?_eq_some_iff.mp ee).1; rw [List.length_replicate] at this; exact this
      have e1 : dueV n s m = if n = 40 then wT else .int n := by
        unfold dueV
        rw [if_neg (by omega), if_neg (by omega), if_neg (by omega)]
    · rw [if_pos (show n = 40 by omega)] at e1
      have := same H' s' (by rw [e1]; intro y; cases y)
      rw [e1] at this
      exact .inr ⟨Zn1, .inr ⟨Zn2, .inl ⟨ZTooMany.h, _, rfl, this⟩⟩⟩
    · rw [if_neg (show ¬ n = 40 by omega)] at e1
      rw [es1]
      refine ⟨⟨_, by rw [e0_succ]; exact e0_bears (by omega)⟩, fun S' H' L' fr => ?_⟩
      obtain ⟨q1, q2⟩ := L46.next L hU L' (by rw [List.length_append, ll]; rfl) fr
      have := k _ H' (by unfold nextN; rw [if_pos e1]; exact q1) q2
      rw [e1] at this
      rw [lr]
      exact ⟨_, rfl, this⟩

def spDue46 : Sp := fun vs H Q _ => ∃ (n : Nat) (s m : Int), vs = [.int (n : Nat), .int s, .int m] ∧ n ≤ 40 ∧ Q (dueV n s m) H
abbrev s_law_due : Stmt := top 69
theorem sc_law_due : FnScope ["_law_many", "_law_sheet", "_law_moment"] ["_law_many", "_law_sheet", "_law_moment"] (defScope s_law_due) := ⟨rfl, rfl, rfl, by decide +kernel, rfl, by decide +kernel, by decide +kernel⟩
theorem ok_law_due {f : Addr} {fd : FuncData} (F : Fun K "_law_due" "_law_due" s_law_due f fd) : FnOk P w K mg base CX0 1 f fd ["_law_many", "_law_sheet", "_law_moment"] spDue46 := by
  refine F.ok sc_law_due (fun vs H Q E h => ?_) (fun cdv A outer s H vs Q E hr h => ?_)
  · obtain ⟨n, s, m, rfl, _⟩ := h
    rfl
  obtain ⟨n, s, m, rfl, n40, k⟩ := h
  refine ⟨_, (pss_cons (ps_if (pt_cmpR op_ge (pv 1) (pv 0) (nomark _))
      (pss_one (ps_ret pe_str))
      pss_nil)
      (pss_cons (ps_if (PW.pt (pw_and (pt_cmpR op_ge (pv 1) pe_int (nomark _)) (pw_and1 (pt_cmpR op_gt (pv 2) (pv 0) (nomark _)))))
      (pss_one (ps_ret pe_str))
      pss_nil)
      (pss_cons (ps_if (PW.pt (pw_and (pt_cmpR op_ge (pv 1) pe_int (nomark _)) (pw_and1 (pt_cmpR op_lt (pv 2) (pe_op op_add (pv 1) pe_int) (nomark _)))))
      (pss_one (ps_ret pe_str))
      pss_nil)
      (pss_cons (ps_if (pt_cmpR op_eq (pv 0) pe_int (nomark _))
      (pss_one (ps_ret pe_str))
      pss_nil)
      (pss_one (ps_ret (pv 0))))))), ?_⟩
  unfold dueV at k
  refine ⟨_, rfl, _, rfl, _, _, rfl, rfl, _, rfl, ite2 (fun c => ?_) (fun c => ?_)⟩
  · rw [if_pos (of_decide_eq_true c)] at k
    exact k
  have c0 : ¬ s ≥ n := fun z => c (decide_eq_true z)
  rw [if_neg c0] at k
  refine ⟨_, rfl, _, _, rfl, rfl, _, rfl, ?_⟩
  refine if_and (p := s ≥ 0) (q := m > n) (fun z => ⟨_, rfl, _, rfl, _, _, rfl, rfl, _, rfl, z⟩) (fun c1 => ?_) (fun c1 => ?_)
  · rw [if_pos c1] at k
    exact k
  rw [if_neg c1] at k
  refine ⟨_, rfl, _, _, rfl, rfl, _, rfl, ?_⟩
  refine if_and (p := s ≥ 0) (q := m < s + 1) (fun z => ⟨_, rfl, _, rfl, _, _, rfl, rfl, _, _, rfl, rfl, _, rfl, z⟩) (fun c2 => ?_) (fun c2 => ?_)
  · rw [if_pos c2] at k
    exact k
  rw [if_neg c2] at k
  refine ⟨_, rfl, rfl, _, rfl, ite2 (fun c3 => ?_) (fun c3 => ?_)⟩
  · have c4 : n = 40 := by have := V.int.inj (of_decide_eq_true c3); omega
    rw [if_pos c4] at k
    exact k
  · have c4 : ¬ n = 40 := fun z => c3 (decide_eq_true (by rw [z]; rfl))
    rw [if_neg c4] at k
    exact ⟨_, rfl, k⟩

def k46T : TS := fun D σ H => ∃ (a l c x : Addr) (n : Nat) (b : Bool) (u5 u8 : Option V), σ = [some (.ref a), some (.ref l), some (.ref x), some (.int (n : Nat)), some (.bl b), u5, some (.int (-1)), some (.int 0), u8] ∧ SrcOk H l c ∧ n ≤ 40 ∧ ∀ (s m : Int) (H' : Hp), -1 ≤ s → s ≤ n → 0 ≤ m → m ≤ n + 1 → SrcOk H' l c → (∀ a, a ≠ l → H' a = H a) → D.nx [some (.ref a), some (.ref l), some (.ref x), some (.int (n : Nat)), some (.bl b), u5, some (.int s), some (.int m), u8] H'
def k46E : TS := fun D σ H => ∃ (a l x : Addr) (n : Nat) (s m : Int) (b : Bool) (u5 : Option V), σ = [some (.ref a), some (.ref l), some (.ref x), some (.int (n : Nat)), some (.bl b), u5, some (.int s), some (.int m), some (dueV n s m)] ∧ D.nx [some (.ref a), some (.ref l), some (.ref x), some (.int (nextN n s m : Nat)), some (.bl b), u5, some (.int s), some (.int m), some (dueV n s m)] H
theorem SrcOk.fru {U U' : Addr → Prop} {H H' : Hp} {l c : Addr} (S : SrcOk H l c) (fr : FrU U U' H H') (nl : ¬ U l) (nc : ¬ U c) : SrcOk H' l c := by
  obtain ⟨n, ns, i, d, r, e1, e2, h3⟩ := S
  exact ⟨n, ns, i, d, r, fr.2.1 _ _ e1 nl, fr.2.1 _ _ e2 nc, h3⟩
theorem L46.off {C CS : Addr} {U : Addr → Prop} {H H' : Hp} {x l : Addr} {ls : List V} {n : Nat} (h : L46 C CS U H x n) (hl : H l = some (.lst ls)) (nl : ¬ U l) (k : ∀ a, a ≠ l → H' a = H a) : L46 C CS U H' x n :=
  h.fr (fun a ob e u => by rw [k a (fun z => nl (z ▸ u))]; exact e) (fun a xs e => by rw [k a (fun z => by rw [z, hl] at e; cases e)]; exact e)
theorem dueV_scal {n k : Nat} {s m : Int} : scal (dueV n s m) (.int (k : Nat)) = true := by
  unfold dueV
  (repeat' split) <;> rfl
theorem dueV_flat {n : Nat} {s m : Int} : flat (dueV n s m) = true := by
  unfold dueV
  (repeat' split) <;> rfl
theorem nextN_le {n : Nat} {s m : Int} (h : n ≤ 40) : nextN n s m ≤ 40 := by
  unfold nextN
  split
  · rename_i e
    have : n ≠ 40 := fun z => by
      unfold dueV at e
      rw [if_pos z] at e
      (repeat' split at e) <;> cases e
    omega
  · exact h
theorem pick_any {α : Type} {xs : List α} {v : Int} (v0 : 0 ≤ v) (v1 : v < xs.length) : ∃ x ∈ xs, atI xs v = some x := by
  obtain ⟨j, rfl⟩ : ∃ j : Nat, v = j := ⟨v.toNat, by omega⟩
  have hj : j < xs.length := by omega
  exact ⟨xs[j], List.getElem_mem hj, atI_nat (List.getElem?_eq_getElem hj)⟩
abbrev slaw : Stmt := top 70
theorem sclaw : FnScope ["_law_script", "_law_src_here", "_law_house", "_law_many", "_law_rush", "_law_k", "_law_sheet", "_law_moment", "_law_due_here"] ["_law_script"] (defScope slaw) := ⟨rfl, rfl, rfl, by decide +kernel, rfl, by decide +kernel, by decide +kernel⟩
set_option maxHeartbeats 4000000 in
theorem ok_law {f x0 x1 x2 x3 x4 x5 x6 x7 x8 x9 x10 x11 x12 x13 x14 x15 x16 x17 x18 x19 x20 x21 x22 x23 x24 x25 x26 x27 x28 x29 x30 x31 x32 x33 x34 x35 x36 x37 x38 x39 x40 x41 x42 x43 x44 x45 : Addr} {fd y0 y1 y2 y3 y4 y5 y6 y7 y8 y9 y10 y11 y12 y13 y14 y15 y16 y17 y18 y19 y20 y21 y22 y23 y24 y25 y26 y27 y28 y29 y30 y31 y32 y33 y34 y35 y36 y37 y38 y39 y40 y41 y42 y43 y44 y45 : FuncData} {CShelf : Addr} {CWell : Addr} {CBlots : Addr} {CTies : Addr} {CDues : Addr} {CLibrary : Addr} (F : Fun K "law" "law" slaw f fd) (T : Nms mg) (G : Gbs mg) {XNoSheet : Addr} {XNoMoment : Addr} {XTooMany : Addr} (ZNoSheet : ExcN K mg "NoSheet" XNoSheet) (ZNoMoment : ExcN K mg "NoMoment" XNoMoment) (ZTooMany : ExcN K mg "TooMany" XTooMany) (Zn : PySem.W.exmOne K (.ref XNoMoment) (.ref XNoSheet) = some false) (Zn1 : PySem.W.exmOne K (.ref XTooMany) (.ref XNoSheet) = some false) (Zn2 : PySem.W.exmOne K (.ref XTooMany) (.ref XNoMoment) = some false) (alsize_spans : mg "size_spans" = some (.ref x14)) (alshown_weave : mg "shown_weave" = some (.ref x13)) (d_law_src : DefAt K mg "_law_src" s_law_src ["_law_script"] x0 y0)
    (d_law_next : DefAt K mg "_law_next" s_law_next ["_law_src_here", "_law_base"] x1 y1)
    (d_law_whole : DefAt K mg "_law_whole" s_law_whole ["_law_found"] x2 y2)
    (d_law_same : DefAt K mg "_law_same" s_law_same ["_law_found", "_law_due_here"] x3 y3)
    (dwindows : DefAt K mg "windows" swindows ["items"] x4 y4)
    (dbelow : DefAt K mg "below" sbelow ["rows", "sheets"] x5 y5)
    (dway_between : DefAt K mg "way_between" sway_between ["rows", "start", "goal"] x6 y6)
    (dring : DefAt K mg "ring" sring ["rows", "sheet"] x7 y7)
    (ditem_weight : DefAt K mg "item_weight" sitem_weight ["item", "weights"] x8 y8)
    (dweights_below : DefAt K mg "weights_below" sweights_below ["rows", "sheets"] x9 y9)
    (dplain : DefAt K mg "plain" splain ["row"] x10 y10)
    (ditem_row : DefAt K mg "item_row" sitem_row ["item", "views"] x11 y11)
    (dviews_below : DefAt K mg "views_below" sviews_below ["rows", "sheets"] x12 y12)
    (dshown : DefAt K mg "shown" sshown ["rows", "sheet"] x13 y13)
    (dsize : DefAt K mg "size" ssize ["row"] x14 y14)
    (dink_words : DefAt K mg "ink_words" sink_words ["row"] x15 y15)
    (dshown_deed : DefAt K mg "shown_deed" sshown_deed ["deed"] x16 y16)
    (dchanged : DefAt K mg "changed" schanged ["state", "sheet", "items"] x17 y17)
    (dShelf___init__ : MetAt K CShelf "__init__" "Shelf.__init__" sShelf___init__ ["self"] x18 y18)
    (dShelf_now : MetAt K CShelf "now" "Shelf.now" sShelf_now ["self"] x19 y19)
    (dShelf_many : MetAt K CShelf "many" "Shelf.many" sShelf_many ["self"] x20 y20)
    (dShelf_step : MetAt K CShelf "step" "Shelf.step" sShelf_step ["self", "changes"] x21 y21)
    (dShelf_check_sheet : MetAt K CShelf "check_sheet" "Shelf.check_sheet" sShelf_check_sheet ["self", "sheet"] x22 y22)
    (dShelf_check_moment : MetAt K CShelf "check_moment" "Shelf.check_moment" sShelf_check_moment ["self", "moment"] x23 y23)
    (dShelf_check_then : MetAt K CShelf "check_then" "Shelf.check_then" sShelf_check_then ["self", "sheet", "moment"] x24 y24)
    (dShelf_row_then : MetAt K CShelf "row_then" "Shelf.row_then" sShelf_row_then ["self", "sheet", "moment"] x25 y25)
    (dShelf_rows_then : MetAt K CShelf "rows_then" "Shelf.rows_then" sShelf_rows_then ["self", "moment"] x26 y26)
    (dShelf_rows : MetAt K CShelf "rows" "Shelf.rows" sShelf_rows ["self"] x27 y27)
    (dWell___init__ : MetAt K CWell "__init__" "Well.__init__" sWell___init__ ["self"] x28 y28)
    (dBlots___init__ : MetAt K CBlots "__init__" "Blots.__init__" sBlots___init__ ["self"] x29 y29)
    (dTies___init__ : MetAt K CTies "__init__" "Ties.__init__" sTies___init__ ["self"] x30 y30)
    (dDues___init__ : MetAt K CDues "__init__" "Dues.__init__" sDues___init__ ["self"] x31 y31)
    (dcheck_weave : DefAt K mg "check_weave" scheck_weave ["rows", "sheet"] x32 y32)
    (dLibrary___init__ : MetAt K CLibrary "__init__" "Library.__init__" sLibrary___init__ ["self"] x33 y33)
    (dLibrary_enter : MetAt K CLibrary "enter" "Library.enter" sLibrary_enter ["self", "deed", "changes"] x34 y34)
    (dLibrary_change : MetAt K CLibrary "change" "Library.change" sLibrary_change ["self", "deed", "sheet", "items"] x35 y35)
    (dLibrary_many : MetAt K CLibrary "many" "Library.many" sLibrary_many ["self"] x36 y36)
    (dLibrary_now : MetAt K CLibrary "now" "Library.now" sLibrary_now ["self"] x37 y37)
    (dLibrary_begin : MetAt K CLibrary "begin" "Library.begin" sLibrary_begin ["self", "deed", "items"] x38 y38)
    (dLibrary_fresh : MetAt K CLibrary "fresh" "Library.fresh" sLibrary_fresh ["self"] x39 y39)
    (dLibrary_row_then : MetAt K CLibrary "row_then" "Library.row_then" sLibrary_row_then ["self", "sheet", "moment"] x40 y40)
    (dLibrary_fork : MetAt K CLibrary "fork" "Library.fork" sLibrary_fork ["self", "sheet", "moment"] x41 y41)
    (dLibrary_shown : MetAt K CLibrary "shown" "Library.shown" sLibrary_shown ["self", "sheet"] x42 y42)
    (dLibrary_size : MetAt K CLibrary "size" "Library.size" sLibrary_size ["self", "sheet"] x43 y43)
    (d_law_opened : DefAt K mg "_law_opened" s_law_opened ["_law_house", "_law_sheet", "_law_moment"] x44 y44)
    (d_law_due : DefAt K mg "_law_due" s_law_due ["_law_many", "_law_sheet", "_law_moment"] x45 y45) (cShelf : ClsAt K mg "Shelf" CShelf x18) (nstates : NoAttr K CShelf "states") (nopenings : NoAttr K CShelf "openings") (cWell : ClsAt K mg "Well" CWell x28) (nsigns : NoAttr K CWell "signs") (nowners : NoAttr K CWell "owners") (npourings : NoAttr K CWell "pourings") (cBlots : ClsAt K mg "Blots" CBlots x29) (nstains : NoAttr K CBlots "stains") (cTies : ClsAt K mg "Ties" CTies x30) (ngiven : NoAttr K CTies "given") (npairs : NoAttr K CTies "pairs") (cDues : ClsAt K mg "Dues" CDues x31) (nsums : NoAttr K CDues "sums") (cLibrary : ClsAt K mg "Library" CLibrary x33) (nwell : NoAttr K CLibrary "well") (nshelf : NoAttr K CLibrary "shelf") (nblots : NoAttr K CLibrary "blots") (nknots : NoAttr K CLibrary "knots") (ndues : NoAttr K CLibrary "dues") (nbook : NoAttr K CLibrary "book") : FnOk P w K mg base CX0 12 f fd ["_law_script"] (spLaw K) := by
  have g_law_src : FnOk P w K mg base CX0 1 _ _ ["_law_script"] (spSrc K) := ok_law_src d_law_src.F T
  have g_law_next : FnOk P w K mg base CX0 1 _ _ ["_law_src_here", "_law_base"] spNext := ok_law_next d_law_next.F T
  have g_law_same : FnOk P w K mg base CX0 3 _ _ ["_law_found", "_law_due_here"] (spSame 2) := ok_law_same T d_law_whole d_law_same 2
  have LM : LibM K mg CLibrary CShelf XNoSheet XNoMoment XTooMany := ⟨⟨T, ⟨_, cShelf⟩, nstates, nopenings, ZNoSheet, ZNoMoment⟩, ⟨_, cLibrary⟩, nwell, nshelf, nblots, nknots, ndues, nbook, ZTooMany, G⟩
  have A1 : ShF K mg CShelf := ⟨⟨_, _, dShelf_many⟩, ⟨_, _, dShelf_now⟩, ⟨_, _, dShelf_check_sheet⟩, ⟨_, _, dShelf_check_moment⟩, ⟨_, _, dShelf_rows_then⟩, ⟨_, _, dShelf_rows⟩, ⟨_, _, dShelf_step⟩⟩
  have A2 : WvF K mg := ⟨⟨_, _, dwindows⟩, ⟨_, _, dbelow⟩, ⟨_, _, ditem_weight⟩, ⟨_, _, dweights_below⟩, ⟨_, _, dway_between⟩, ⟨_, _, dring⟩, ⟨_, _, dcheck_weave⟩, ⟨_, _, dchanged⟩, ⟨_, _, dink_words⟩, ⟨_, _, dshown_deed⟩⟩
  have A3 : LbF K mg CLibrary := ⟨⟨_, _, dLibrary_enter⟩, ⟨_, _, dLibrary_change⟩, ⟨_, _, dLibrary_many⟩, ⟨_, _, dLibrary_begin⟩⟩
  have A4 : SnF K mg _ _ := ⟨⟨_, _, dwindows⟩, ⟨_, _, dbelow⟩, ⟨_, _, ditem_row⟩, ⟨_, _, dplain⟩, ⟨_, _, dviews_below⟩, ⟨_, dshown⟩, ⟨_, dsize⟩, alshown_weave, alsize_spans⟩
  have gLibrary___init__ : FnOk P w K mg base CX0 3 _ _ ["self"] (spLInit CLibrary CShelf) := ok_Library___init__ dLibrary___init__.F LM cShelf dShelf___init__ cWell dWell___init__ nsigns nowners npourings cBlots dBlots___init__ nstains cTies dTies___init__ ngiven npairs cDues dDues___init__ nsums
  have gLibrary_many : FnOk P w K mg base CX0 2 _ _ ["self"] (spLMany CLibrary CShelf) := ok_Library_many dLibrary_many.F LM dShelf_many
  have gLibrary_now : FnOk P w K mg base CX0 2 _ _ ["self"] (spLNow CLibrary CShelf) := ok_Library_now dLibrary_now.F LM dShelf_now
  have gLibrary_row_then : FnOk P w K mg base (CX1 P w) 5 _ _ ["self", "sheet", "moment"] (spLRowThen CLibrary CShelf XNoSheet XNoMoment) := ok_Library_row_then dLibrary_row_then.F LM dShelf_many dShelf_now dShelf_check_sheet dShelf_check_moment dShelf_check_then dShelf_row_then
  have gLibrary_size : FnOk P w K mg base (CX1 P w) 6 _ _ ["self", "sheet"] (spLSize CLibrary CShelf XNoSheet) := ok_Library_size dLibrary_size.F LM A1 A4 dLibrary_shown
  have g_law_opened : FnOk P w K mg base CX0 8 _ _ ["_law_house", "_law_sheet", "_law_moment"] (spOpened46 CLibrary CShelf) := ok_law_opened d_law_opened.F LM A1 A2 A3 Zn Zn1 Zn2 dLibrary_fresh dLibrary_fork dShelf_check_then dShelf_row_then dLibrary_row_then
  have g_law_due : FnOk P w K mg base CX0 1 _ _ ["_law_many", "_law_sheet", "_law_moment"] spDue46 := ok_law_due d_law_due.F
  refine F.ok sclaw (fun vs H Q E h => ?_) (fun cdv A outer s H vs Q E hr h => ?_)
  · obtain ⟨a, ns, rfl, _⟩ := h
    rfl
  obtain ⟨a, ns, rfl, hS, h63, k⟩ := h
  refine ⟨_, (pss_cons (ps_set (i := 1) sclaw.nd rfl (Or.inl rfl) (pe_def d_law_src g_law_src hr (pa_cons (pv 0) pa_nil)))
      (pss_cons (ps_set (i := 2) sclaw.nd rfl (Or.inl rfl) (pe_make0 cLibrary.mak gLibrary___init__ (hr.mono (by decide)) rfl cLibrary.m dLibrary___init__.b .nil pass0))
      (pss_cons (ps_set (i := 3) sclaw.nd rfl (Or.inl rfl) pe_int)
      (pss_cons (ps_set (i := 4) sclaw.nd rfl (Or.inl rfl) (pe_cmpR op_eq (pe_def d_law_next g_law_next hr (pa_cons (pv 1) (pa_cons pe_int pa_nil))) pe_int (nomark _)))
      (pss_cons (ps_for PassesOwn.never rfl (pi_range1 rfl T.n_range (pa_cons (pe_ix ix_list (pe_lst (pa_cons pe_int (pa_cons pe_int pa_nil))) (pe_def d_law_next g_law_next hr (pa_cons (pv 1) (pa_cons pe_int pa_nil))) (fun _ _ => rfl)) pa_nil)) (pg_name (i := 5) sclaw.nd rfl (Or.inl rfl))
      (pss_cons (ps_set (i := 6) sclaw.nd rfl (Or.inl rfl) (pe_un un_neg pe_int))
      (pss_cons (ps_set (i := 7) sclaw.nd rfl (Or.inl rfl) pe_int)
      (pss_cons (ps_imp (t' := k46T) (ps_if (PW.pt (pw_and (pt_cmpR op_eq (pe_def d_law_next g_law_next hr (pa_cons (pv 1) (pa_cons pe_int pa_nil))) pe_int (nomark _)) (pw_and1 (pt_not (PW.pt (pw_and (pt_truth (pv 4) (fun _ => rfl)) (pw_and1 (pt_cmpR op_lt (pv 3) pe_int (nomark _)))))))))
      (pss_cons (ps_set (i := 6) sclaw.nd rfl (Or.inl rfl) (pe_def d_law_next g_law_next hr (pa_cons (pv 1) (pa_cons (pe_op op_add (pv 3) pe_int) pa_nil))))
      (pss_one (ps_set (i := 7) sclaw.nd rfl (Or.inl rfl) (pe_def d_law_next g_law_next hr (pa_cons (pv 1) (pa_cons (pe_op op_add (pv 3) pe_int) pa_nil))))))
      pss_nil) ?b2)
      (pss_cons (ps_set (i := 8) sclaw.nd rfl (Or.inl rfl) (pe_def d_law_due g_law_due hr (pa_cons (pv 3) (pa_cons (pv 6) (pa_cons (pv 7) pa_nil)))))
      (pss_cons (ps_if (pt_not (pt_val (pe_def d_law_same g_law_same hr (pa_cons (pe_def d_law_opened g_law_opened hr (pa_cons (pv 2) (pa_cons (pv 6) (pa_cons (pv 7) pa_nil)))) (pa_cons (pv 8) pa_nil)))))
      (pss_one (ps_ret pe_bl))
      pss_nil)
      (pss_cons (ps_imp (t' := k46E) (ps_if (pt_cmpR op_eq (pv 8) (pv 3) (nomark _))
      (pss_one (ps_set (i := 3) sclaw.nd rfl (Or.inl rfl) (pe_op op_add (pv 3) pe_int)))
      pss_nil) ?b5)
      (pss_one (ps_if (PW.pt (pw_or (pt_not (pt_val (pe_def d_law_same g_law_same hr (pa_cons (pe_meth0 (pv 2) cLibrary.cl dLibrary_many.mt gLibrary_many (hr.mono (by decide)) dLibrary_many.b .nil pass0) (pa_cons (pv 3) pa_nil))))) (pw_or1 (pt_not (pt_val (pe_def d_law_same g_law_same hr (pa_cons (pe_meth0 (pv 2) cLibrary.cl dLibrary_now.mt gLibrary_now (hr.mono (by decide)) dLibrary_now.b .nil pass0) (pa_cons (pv 3) pa_nil))))))))
      (pss_one (ps_ret pe_bl))
      pss_nil)))))))))
      (pss_cons (ps_for PassesOwn.never rfl (pi_range1 rfl T.n_range (pa_cons (pv 3) pa_nil)) (pg_name (i := 6) sclaw.nd rfl (Or.inl rfl))
      (pss_one (ps_if (PW.pt (pw_or (pt_not (pt_val (pe_def d_law_same g_law_same hr (pa_cons (pe_meth (pv 2) cLibrary.cl dLibrary_row_then.mt gLibrary_row_then (hr.mono (by decide)) dLibrary_row_then.b .nil passF (pa_cons (pv 6) (pa_cons (pe_op op_add (pv 6) pe_int) pa_nil))) (pa_cons (pe_lst pa_nil) pa_nil))))) (pw_or1 (pt_not (pt_val (pe_def d_law_same g_law_same hr (pa_cons (pe_meth (pv 2) cLibrary.cl dLibrary_size.mt gLibrary_size (hr.mono (by decide)) dLibrary_size.b .nil passF (pa_cons (pv 6) pa_nil)) (pa_cons pe_int pa_nil))))))))
      (pss_one (ps_ret pe_bl))
      pss_nil)))
      (pss_one (ps_ret pe_bl)))))))), ?_⟩
  case b2 =>
    rintro D σ H ⟨a, l, c, x, n, b, u5, u8, rfl, S, n40, k⟩
    refine ⟨_, rfl, l, c, 3, rfl, S, by decide, by decide, fun v H1 v0 v1 S1 k1 => ⟨rfl, _, rfl, ite2 (fun _ => ?_) (fun _ => iteF (k (-1) 0 H1 (by omega) (by omega) (by omega) (by omega) S1 k1))⟩⟩
    cases b with
    | false =>
      refine ⟨_, rfl, false, rfl, iteF (iteT ?_)⟩
      refine ⟨_, rfl, _, rfl, _, _, rfl, rfl, l, c, _, rfl, S1, by omega, by omega, fun s H2 q0 q1 S2 k2 => ?_⟩
      exact ⟨_, rfl, _, rfl, _, _, rfl, rfl, l, c, _, rfl, S2, by omega, by omega, fun m H3 r0 r1 S3 k3 => k s m H3 (by omega) (by omega) r0 (by omega) S3 fun y hy => (k3 y hy).trans ((k2 y hy).trans (k1 y hy))⟩
    | true =>
      refine ⟨_, rfl, true, rfl, iteT ⟨_, rfl, _, _, rfl, rfl, _, rfl, ?_⟩⟩
      by_cases c38 : ((n : Nat) : Int) < 38
      · rw [decide_eq_true c38]
        exact iteF (k (-1) 0 H1 (by omega) (by omega) (by omega) (by omega) S1 k1)
      · rw [decide_eq_false c38]
        refine iteT ?_
        refine ⟨_, rfl, _, rfl, _, _, rfl, rfl, l, c, _, rfl, S1, by omega, by omega, fun s H2 q0 q1 S2 k2 => ?_⟩
        exact ⟨_, rfl, _, rfl, _, _, rfl, rfl, l, c, _, rfl, S2, by omega, by omega, fun m H3 r0 r1 S3 k3 => k s m H3 (by omega) (by omega) r0 (by omega) S3 fun y hy => (k3 y hy).trans ((k2 y hy).trans (k1 y hy))⟩
  case b5 =>
    rintro D σ H ⟨a, l, x, n, s, m, b, u5, rfl, k⟩
    unfold nextN at k
    refine ⟨_, rfl, _, rfl, dueV_scal, _, rfl, ?_⟩
    by_cases e : dueV n s m = .int (n : Nat)
    · rw [if_pos e] at k
      rw [decide_eq_true e]
      exact iteT ⟨_, rfl, _, _, rfl, rfl, k⟩
    · rw [if_neg e] at k
      rw [decide_eq_false e]
      exact iteF k
  refine ⟨_, rfl, a, ns, rfl, hS, fun l c H1 S1 s1 _ _ => ?_⟩
  intro x dx fx fdx _
  refine ⟨x, dx, rfl, upd_same, fun S wl sh bl kn du bk dS st op H2 L2 fS fb k2 => ⟨rfl, ?_⟩⟩
  have up : ∀ a, (upd (upd H1 dx (.own x)) x (.ins CLibrary dx [])) a = none → H1 a = none := fun a e => by
    by_cases z1 : a = x
    · rw [z1, upd_same] at e; cases e
    rw [upd_ne z1] at e
    by_cases z2 : a = dx
    · rw [z2, upd_same] at e; cases e
    rw [upd_ne z2] at e
    exact e
  have s2 := make_same fx fdx k2
  have S2 := S1.same s2
  have hL2 : L46 CLibrary CShelf (fun a => S a ∨ a = bk ∨ a = x) H2 x 0 := ⟨S, dx, wl, sh, bl, kn, du, bk, dS, st, op, [], [], L2, rfl, fun _ => Iff.rfl⟩
  have nU : ∀ y o, H1 y = some o → ¬ (S y ∨ y = bk ∨ y = x) := fun y o e z => by
    rcases z with z | z | z
    · rw [up _ (fS y z)] at e; cases e
    · rw [z, up _ fb] at e; cases e
    · rw [z, fx] at e; cases e
  obtain ⟨⟨o1, hl1⟩, ⟨o2, hc1⟩⟩ := S1.has
  have nl2 := nU l _ hl1
  have nc2 := nU c _ hc1
  refine ⟨_, rfl, l, c, 2, rfl, S2, by decide, by decide, fun v H3 v0 v1 S3 k3 => ⟨rfl, ?_⟩⟩
  obtain ⟨ls2, hls2⟩ := S2.lst
  have hL3 := hL2.off hls2 nl2 k3
  obtain ⟨U0, hU0⟩ : ∃ U0 : Addr → Prop, U0 = fun a => S a ∨ a = bk ∨ a = x := ⟨_, rfl⟩
  rw [← hU0] at hL3
  have nl2 : ¬ U0 l := by rw [hU0]; exact nl2
  have nc2 : ¬ U0 c := by rw [hU0]; exact nc2
  refine ⟨(by show 2 ≤ sizeLine; decide), fun t ht => ?_⟩
  have s4 := same_new ht (.lst [.int 46, .int 12])
  have h4 : (upd H3 t (.lst [.int 46, .int 12])) t = some (.lst [.int 46, .int 12]) := upd_same
  have S4 := S3.same s4
  have hL4 := hL3.same s4
  have nt := S3.ne ht
  generalize upd H3 t (.lst [.int 46, .int 12]) = H4 at s4 h4 S4 hL4
  refine ⟨_, rfl, l, c, 2, rfl, S4, by decide, by decide, fun i H5 i0 i1 S5 k5 => ?_⟩
  obtain ⟨ls4, hls4⟩ := S4.lst
  have hL5 := hL4.off hls4 nl2 k5
  obtain ⟨z, hz, ez⟩ := pick_any (xs := [V.int 46, .int 12]) i0 (by show i < 2; omega)
  obtain ⟨tn, rfl, tn0, tn1⟩ : ∃ j : Int, z = .int j ∧ 0 ≤ j ∧ j ≤ 46 := by
    rcases List.mem_cons.mp hz with q | q
    · exact ⟨46, q, by decide, by decide⟩
    · exact ⟨12, List.mem_singleton.mp q, by decide, by decide⟩
  refine ⟨t, _, _, _, rfl, rfl, SqL.of ((k5 t nt.1.symm).trans h4), ez, _, rfl, by omega, by omega, ?_⟩
  refine for_range (lo := 0) (n := tn.toNat) (fun j σ H6 => ∃ (U : Addr → Prop) (n : Nat) (b : Bool) (u5 u6 u7 u8 : Option V), σ = [some (.ref a), some (.ref l), some (.ref x), some (.int (n : Nat)), some (.bl b), u5, u6, u7, u8] ∧ SrcOk H6 l c ∧ L46 CLibrary CShelf U H6 x n ∧ n ≤ 40 ∧ ¬ U l ∧ ¬ U c) ⟨U0, 0, _, none, none, none, none, rfl, S5, hL5, by decide, nl2, nc2⟩ ?_ ?_
  · rintro j σ H6 hj ⟨U, n, b, u5, u6, u7, u8, rfl, S6, hL6, n40, nl, nc⟩
    refine ⟨1, rfl, ?_⟩
    refine ⟨a, l, c, x, n, b, _, _, rfl, S6, n40, fun s m H7 p0 p1 q0 q1 S7 k7 => ?_⟩
    obtain ⟨ls6, hls6⟩ := S6.lst
    have hL7 := hL6.off hls6 nl k7
    refine ⟨_, rfl, _, rfl, _, rfl, n, s, m, rfl, n40, ?_⟩
    refine ⟨_, rfl, _, rfl, _, rfl, U, x, n, s, m, rfl, hL7, n40, p0, by omega, q0, by omega, fun U' H8 hL8 fr => ?_⟩
    have S8 := S7.fru fr nl nc
    have nl8 : ¬ U' l := fun z => by
      rcases fr.1 l z with y | y
      · exact nl y
      · obtain ⟨ls7, hls7⟩ := S7.lst
        rw [hls7] at y; cases y
    have nc8 : ¬ U' c := fun z => by
      rcases fr.1 c z with y | y
      · exact nc y
      · obtain ⟨_, ⟨o, ho⟩⟩ := S7.has
        rw [ho] at y; cases y
    refine ⟨_, rfl, _, _, rfl, .inl ⟨dueV_flat, rfl⟩, fun H9 s9 => ⟨true, rfl, iteF ?_⟩⟩
    have hL9 := hL8.same s9
    refine ⟨a, l, x, n, s, m, b, _, rfl, ?_⟩
    have n40' := nextN_le (s := s) (m := m) n40
    generalize nextN n s m = n' at hL9 n40'
    obtain ⟨S', d', wl', sh', bl', kn', du', bk', dS', st', op', ops', lines', L', ll', hU'⟩ := id hL9
    have lo := lib_len L' (pe46_last n')
    rw [List.length_replicate] at lo
    refine ⟨_, rfl, x, d', _, rfl, L'.hx, rfl, S', x, d', wl', sh', bl', kn', du', bk', dS', st', op', _, ops', lines', rfl, L', ?_⟩
    rw [lo]
    refine ⟨_, rfl, _, _, rfl, Eqv.int _, fun H10 s10 => ⟨true, rfl, iteF ?_⟩⟩
    have L10 := L'.same s10
    refine ⟨_, rfl, x, d', _, rfl, L10.hx, rfl, S', x, d', wl', sh', bl', kn', du', bk', dS', st', op', _, ops', lines', rfl, L10, ?_⟩
    have lp : ((((toP (pe46 n')).length : Nat) : Int) - 1) = ((n' : Nat) : Int) := by
      unfold toP pe46
      rw [List.length_map, List.length_map, List.length_range]
      omega
    rw [lp]
    refine ⟨_, rfl, _, _, rfl, Eqv.int _, fun H11 s11 => ⟨true, rfl, iteF ?_⟩⟩
    exact ⟨U', n', b, _, _, _, _, rfl, (S8.same s9).same (s10.trans s11), hL9.same (s10.trans s11), n40', nl8, nc8⟩
  · rintro σ H6 ⟨U, n, b, u5, u6, u7, u8, rfl, S6, hL6, n40, nl, nc⟩
    refine ⟨_, rfl, _, rfl, by omega, by omega, ?_⟩
    refine for_range (lo := 0) (n := ((n : Nat) : Int).toNat) (fun j σ H7 => ∃ u6 : Option V, σ = [some (.ref a), some (.ref l), some (.ref x), some (.int (n : Nat)), some (.bl b), u5, u6, u7, u8] ∧ L46 CLibrary CShelf U H7 x n) ⟨u6, rfl, hL6⟩ ?_ ?_
    · rintro j σ H7 hj ⟨u6, rfl, hL7⟩
      have jn : j < n := by omega
      obtain ⟨S', d', wl', sh', bl', kn', du', bk', dS', st', op', ops', lines', L', ll', hU'⟩ := id hL7
      have lo := lib_len L' (pe46_last n)
      rw [List.length_replicate] at lo
      have lp : (toP (pe46 n)).length = n + 1 := by
        unfold toP pe46
        rw [List.length_map, List.length_map, List.length_range]
      refine ⟨_, rfl, x, d', _, rfl, L'.hx, rfl, _, rfl, _, rfl, _, _, rfl, rfl, S', x, d', wl', sh', bl', kn', du', bk', dS', st', op', _, ops', lines', 0 + (j : Int), 0 + (j : Int) + 1, rfl, L', ⟨by omega, by omega⟩, ⟨by omega, by omega⟩, ⟨by omega, by omega⟩, fun z => absurd ⟨by omega, by omega⟩ z, fun _ z => absurd ⟨by omega, by omega⟩ z, fun si mi rws es em sl er => ?_⟩
      rw [List.getElem?_map] at er
      obtain ⟨rw0, er0, rfl⟩ := Option.map_eq_some_iff.mp er
      obtain ⟨hm, rfl⟩ := pe46_get er0
      refine ⟨fun z => ?_, fun its ei q H8 hq s8 fq => ?_⟩
      · rw [List.length_map, List.length_replicate] at z
        omega
      rw [List.getElem?_map] at ei
      obtain ⟨es0, ei0, rfl⟩ := Option.map_eq_some_iff.mp ei
      rw [e0_nil (List.mem_of_getElem? ei0)] at hq
      obtain ⟨q', vs, eq, hq', al⟩ := hq
      cases eq
      cases (show vs = [] by cases al; rfl)
      refine ⟨(by show 0 ≤ sizeLine; decide), fun t2 ht2 => ?_⟩
      have s9 := same_new ht2 (.lst [])
      refine ⟨_, _, rfl, .inr ⟨true, q, t2, [], [], rfl, rfl, s9 _ _ hq', upd_same, rfl, fun i u v e => by cases e⟩, fun H10 s10 => ⟨true, rfl, iteF ?_⟩⟩
      have s710 := s8.trans (s9.trans s10)
      have L10 := L'.same s710
      refine ⟨_, rfl, x, d', _, rfl, L10.hx, rfl, _, rfl, S', x, d', wl', sh', bl', kn', du', bk', dS', st', op', pe46 n, ops', lines', e0 n, 0 + (j : Int), rfl, L10, pe46_last n, by rw [List.length_replicate]; omega, by unfold pe46; rw [List.length_map, List.length_range]; omega, ⟨by omega, by omega⟩, fun z => absurd ⟨by omega, by rw [List.length_replicate]; omega⟩ z, fun _ => ⟨fun _ => [], e0_seen n, (by show 0 ≤ 1000000; decide), fun H11 s11 => ?_⟩⟩
      refine ⟨_, _, rfl, Eqv.int _, fun H12 s12 => ⟨true, rfl, iteF ⟨_, rfl, hL7.same (s710.trans (s11.trans s12))⟩⟩⟩
    · rintro σ H7 ⟨u6, rfl, hL7⟩
      exact k H7
end

end Ink
namespace Ink
open PySem L2 InkX InkE InkF InkP
set_option maxHeartbeats 4000000 in
theorem all_mk {l : PySem.W.OpenLaw} {w : World} {K : PySem.W.Frag} {h : Heap} {mg : Str → Option Value} {fa : Addr} (X : K.In h) (G : h.Ns mainGlobals mg) (hfa : mg "law" = some (.ref fa))
    {f0 f1 f2 f3 f4 f5 f6 f7 f8 f9 f10 f11 f12 f13 f14 f15 f16 f17 f18 f19 f20 f21 f22 f23 f24 f25 f26 f27 f28 f29 f30 f31 f32 f33 f34 f35 f36 f37 f38 f39 f40 f41 f42 f43 f44 f45 f46 : Addr} {od0 an0 od1 an1 od2 an2 od3 an3 od4 an4 od5 an5 od6 an6 od7 an7 od8 an8 od9 an9 od10 an10 od11 an11 od12 an12 od13 an13 od14 an14 od15 an15 od16 an16 od17 an17 od18 an18 od19 an19 od20 an20 od21 an21 od22 an22 od23 an23 od24 an24 od25 an25 od26 an26 od27 an27 od28 an28 od29 an29 od30 an30 od31 an31 od32 an32 od33 an33 od34 an34 od35 an35 od36 an36 od37 an37 od38 an38 od39 an39 od40 an40 od41 an41 od42 an42 od43 an43 od44 an44 od45 an45 od46 an46 : Option Addr} {sl0 sl1 sl2 sl3 sl4 sl5 sl6 sl7 sl8 sl9 sl10 sl11 sl12 sl13 sl14 sl15 sl16 sl17 sl18 sl19 sl20 sl21 sl22 sl23 sl24 sl25 sl26 sl27 sl28 sl29 sl30 sl31 sl32 sl33 sl34 sl35 sl36 sl37 sl38 sl39 sl40 sl41 sl42 sl43 sl44 sl45 sl46 : Array (Option Value)} {oc0 kV0 dc0 pm0 cd0 ct0 oc1 kV1 dc1 pm1 cd1 ct1 oc2 kV2 dc2 pm2 cd2 ct2 oc3 kV3 dc3 pm3 cd3 ct3 oc4 kV4 dc4 pm4 cd4 ct4 oc5 kV5 dc5 pm5 cd5 ct5 oc6 kV6 dc6 pm6 cd6 ct6 oc7 kV7 dc7 pm7 cd7 ct7 oc8 kV8 dc8 pm8 cd8 ct8 oc9 kV9 dc9 pm9 cd9 ct9 oc10 kV10 dc10 pm10 cd10 ct10 oc11 kV11 dc11 pm11 cd11 ct11 oc12 kV12 dc12 pm12 cd12 ct12 oc13 kV13 dc13 pm13 cd13 ct13 oc14 kV14 dc14 pm14 cd14 ct14 oc15 kV15 dc15 pm15 cd15 ct15 oc16 kV16 dc16 pm16 cd16 ct16 oc17 kV17 dc17 pm17 cd17 ct17 oc18 kV18 dc18 pm18 cd18 ct18 oc19 kV19 dc19 pm19 cd19 ct19 oc20 kV20 dc20 pm20 cd20 ct20 oc21 kV21 dc21 pm21 cd21 ct21 oc22 kV22 dc22 pm22 cd22 ct22 oc23 kV23 dc23 pm23 cd23 ct23 oc24 kV24 dc24 pm24 cd24 ct24 oc25 kV25 dc25 pm25 cd25 ct25 oc26 kV26 dc26 pm26 cd26 ct26 oc27 kV27 dc27 pm27 cd27 ct27 oc28 kV28 dc28 pm28 cd28 ct28 oc29 kV29 dc29 pm29 cd29 ct29 oc30 kV30 dc30 pm30 cd30 ct30 oc31 kV31 dc31 pm31 cd31 ct31 oc32 kV32 dc32 pm32 cd32 ct32 oc33 kV33 dc33 pm33 cd33 ct33 oc34 kV34 dc34 pm34 cd34 ct34 oc35 kV35 dc35 pm35 cd35 ct35 oc36 kV36 dc36 pm36 cd36 ct36 oc37 kV37 dc37 pm37 cd37 ct37 oc38 kV38 dc38 pm38 cd38 ct38 oc39 kV39 dc39 pm39 cd39 ct39 oc40 kV40 dc40 pm40 cd40 ct40 oc41 kV41 dc41 pm41 cd41 ct41 oc42 kV42 dc42 pm42 cd42 ct42 oc43 kV43 dc43 pm43 cd43 ct43 oc44 kV44 dc44 pm44 cd44 ct44 oc45 kV45 dc45 pm45 cd45 ct45 oc46 kV46 dc46 pm46 cd46 ct46 : Value} {CShelf : Addr} {CWell : Addr} {CBlots : Addr} {CTies : Addr} {CDues : Addr} {CLibrary : Addr} {XNoSheet : Addr} {XNoMoment : Addr} {XTooMany : Addr} {tkMOST_SHEETS : Tok} {tkMOST_WEIGHT : Tok}
    (aCShelf : PySem.W.nsIn K mainGlobals "Shelf" = some (some (.ref CShelf))) (pgShelf : PySem.W.plainGet K CShelf Str.empty = true) (hdShelf : PySem.W.hasDictIn K CShelf = true) (poShelf : PySem.W.plainOver K CShelf = true) (saShelf : PySem.W.findIn K (.ref CShelf) "__setattr__" = some (some (.builtin "object.__setattr__"))) (mkShelf : PySem.W.makesIn K CShelf = true) (kcShelf : PySem.W.keepIn K (.ref CShelf) = true) (noShelfstates : PySem.W.findIn K (.ref CShelf) "states" = some none) (noShelfopenings : PySem.W.findIn K (.ref CShelf) "openings" = some none)
    (aCWell : PySem.W.nsIn K mainGlobals "Well" = some (some (.ref CWell))) (pgWell : PySem.W.plainGet K CWell Str.empty = true) (hdWell : PySem.W.hasDictIn K CWell = true) (poWell : PySem.W.plainOver K CWell = true) (saWell : PySem.W.findIn K (.ref CWell) "__setattr__" = some (some (.builtin "object.__setattr__"))) (mkWell : PySem.W.makesIn K CWell = true) (kcWell : PySem.W.keepIn K (.ref CWell) = true) (noWellsigns : PySem.W.findIn K (.ref CWell) "signs" = some none) (noWellowners : PySem.W.findIn K (.ref CWell) "owners" = some none) (noWellpourings : PySem.W.findIn K (.ref CWell) "pourings" = some none)
    (aCBlots : PySem.W.nsIn K mainGlobals "Blots" = some (some (.ref CBlots))) (pgBlots : PySem.W.plainGet K CBlots Str.empty = true) (hdBlots : PySem.W.hasDictIn K CBlots = true) (poBlots : PySem.W.plainOver K CBlots = true) (saBlots : PySem.W.findIn K (.ref CBlots) "__setattr__" = some (some (.builtin "object.__setattr__"))) (mkBlots : PySem.W.makesIn K CBlots = true) (kcBlots : PySem.W.keepIn K (.ref CBlots) = true) (noBlotsstains : PySem.W.findIn K (.ref CBlots) "stains" = some none)
    (aCTies : PySem.W.nsIn K mainGlobals "Ties" = some (some (.ref CTies))) (pgTies : PySem.W.plainGet K CTies Str.empty = true) (hdTies : PySem.W.hasDictIn K CTies = true) (poTies : PySem.W.plainOver K CTies = true) (saTies : PySem.W.findIn K (.ref CTies) "__setattr__" = some (some (.builtin "object.__setattr__"))) (mkTies : PySem.W.makesIn K CTies = true) (kcTies : PySem.W.keepIn K (.ref CTies) = true) (noTiesgiven : PySem.W.findIn K (.ref CTies) "given" = some none) (noTiespairs : PySem.W.findIn K (.ref CTies) "pairs" = some none)
    (aCDues : PySem.W.nsIn K mainGlobals "Dues" = some (some (.ref CDues))) (pgDues : PySem.W.plainGet K CDues Str.empty = true) (hdDues : PySem.W.hasDictIn K CDues = true) (poDues : PySem.W.plainOver K CDues = true) (saDues : PySem.W.findIn K (.ref CDues) "__setattr__" = some (some (.builtin "object.__setattr__"))) (mkDues : PySem.W.makesIn K CDues = true) (kcDues : PySem.W.keepIn K (.ref CDues) = true) (noDuessums : PySem.W.findIn K (.ref CDues) "sums" = some none)
    (aCLibrary : PySem.W.nsIn K mainGlobals "Library" = some (some (.ref CLibrary))) (pgLibrary : PySem.W.plainGet K CLibrary Str.empty = true) (hdLibrary : PySem.W.hasDictIn K CLibrary = true) (poLibrary : PySem.W.plainOver K CLibrary = true) (saLibrary : PySem.W.findIn K (.ref CLibrary) "__setattr__" = some (some (.builtin "object.__setattr__"))) (mkLibrary : PySem.W.makesIn K CLibrary = true) (kcLibrary : PySem.W.keepIn K (.ref CLibrary) = true) (noLibrarywell : PySem.W.findIn K (.ref CLibrary) "well" = some none) (noLibraryshelf : PySem.W.findIn K (.ref CLibrary) "shelf" = some none) (noLibraryblots : PySem.W.findIn K (.ref CLibrary) "blots" = some none) (noLibraryknots : PySem.W.findIn K (.ref CLibrary) "knots" = some none) (noLibrarydues : PySem.W.findIn K (.ref CLibrary) "dues" = some none) (noLibrarybook : PySem.W.findIn K (.ref CLibrary) "book" = some none)
    (a0 : PySem.W.nsIn K mainGlobals "_law_src" = some (some (.ref f0))) (l0 : K.lookup f0 = some ⟨oc0, od0, .func (PySem.W.fnOf "_law_src" "_law_src" (defArgs s_law_src) (defBody s_law_src) (defScope s_law_src) .none kV0 dc0 pm0 an0 cd0 ct0), sl0⟩) (c0 : PySem.W.codeIn K cd0 "_law_src" = true) (k0 : PySem.W.keepIn K (.ref f0) = true)
    (a1 : PySem.W.nsIn K mainGlobals "_law_next" = some (some (.ref f1))) (l1 : K.lookup f1 = some ⟨oc1, od1, .func (PySem.W.fnOf "_law_next" "_law_next" (defArgs s_law_next) (defBody s_law_next) (defScope s_law_next) .none kV1 dc1 pm1 an1 cd1 ct1), sl1⟩) (c1 : PySem.W.codeIn K cd1 "_law_next" = true) (k1 : PySem.W.keepIn K (.ref f1) = true)
    (a2 : PySem.W.nsIn K mainGlobals "_law_whole" = some (some (.ref f2))) (l2 : K.lookup f2 = some ⟨oc2, od2, .func (PySem.W.fnOf "_law_whole" "_law_whole" (defArgs s_law_whole) (defBody s_law_whole) (defScope s_law_whole) .none kV2 dc2 pm2 an2 cd2 ct2), sl2⟩) (c2 : PySem.W.codeIn K cd2 "_law_whole" = true) (k2 : PySem.W.keepIn K (.ref f2) = true)
    (a3 : PySem.W.nsIn K mainGlobals "_law_same" = some (some (.ref f3))) (l3 : K.lookup f3 = some ⟨oc3, od3, .func (PySem.W.fnOf "_law_same" "_law_same" (defArgs s_law_same) (defBody s_law_same) (defScope s_law_same) .none kV3 dc3 pm3 an3 cd3 ct3), sl3⟩) (c3 : PySem.W.codeIn K cd3 "_law_same" = true) (k3 : PySem.W.keepIn K (.ref f3) = true)
    (a4 : PySem.W.nsIn K mainGlobals "windows" = some (some (.ref f4))) (l4 : K.lookup f4 = some ⟨oc4, od4, .func (PySem.W.fnOf "windows" "windows" (defArgs swindows) (defBody swindows) (defScope swindows) .none kV4 dc4 pm4 an4 cd4 ct4), sl4⟩) (c4 : PySem.W.codeIn K cd4 "windows" = true) (k4 : PySem.W.keepIn K (.ref f4) = true)
    (a5 : PySem.W.nsIn K mainGlobals "below" = some (some (.ref f5))) (l5 : K.lookup f5 = some ⟨oc5, od5, .func (PySem.W.fnOf "below" "below" (defArgs sbelow) (defBody sbelow) (defScope sbelow) .none kV5 dc5 pm5 an5 cd5 ct5), sl5⟩) (c5 : PySem.W.codeIn K cd5 "below" = true) (k5 : PySem.W.keepIn K (.ref f5) = true)
    (a6 : PySem.W.nsIn K mainGlobals "way_between" = some (some (.ref f6))) (l6 : K.lookup f6 = some ⟨oc6, od6, .func (PySem.W.fnOf "way_between" "way_between" (defArgs sway_between) (defBody sway_between) (defScope sway_between) .none kV6 dc6 pm6 an6 cd6 ct6), sl6⟩) (c6 : PySem.W.codeIn K cd6 "way_between" = true) (k6 : PySem.W.keepIn K (.ref f6) = true)
    (a7 : PySem.W.nsIn K mainGlobals "ring" = some (some (.ref f7))) (l7 : K.lookup f7 = some ⟨oc7, od7, .func (PySem.W.fnOf "ring" "ring" (defArgs sring) (defBody sring) (defScope sring) .none kV7 dc7 pm7 an7 cd7 ct7), sl7⟩) (c7 : PySem.W.codeIn K cd7 "ring" = true) (k7 : PySem.W.keepIn K (.ref f7) = true)
    (a8 : PySem.W.nsIn K mainGlobals "item_weight" = some (some (.ref f8))) (l8 : K.lookup f8 = some ⟨oc8, od8, .func (PySem.W.fnOf "item_weight" "item_weight" (defArgs sitem_weight) (defBody sitem_weight) (defScope sitem_weight) .none kV8 dc8 pm8 an8 cd8 ct8), sl8⟩) (c8 : PySem.W.codeIn K cd8 "item_weight" = true) (k8 : PySem.W.keepIn K (.ref f8) = true)
    (a9 : PySem.W.nsIn K mainGlobals "weights_below" = some (some (.ref f9))) (l9 : K.lookup f9 = some ⟨oc9, od9, .func (PySem.W.fnOf "weights_below" "weights_below" (defArgs sweights_below) (defBody sweights_below) (defScope sweights_below) .none kV9 dc9 pm9 an9 cd9 ct9), sl9⟩) (c9 : PySem.W.codeIn K cd9 "weights_below" = true) (k9 : PySem.W.keepIn K (.ref f9) = true)
    (a10 : PySem.W.nsIn K mainGlobals "plain" = some (some (.ref f10))) (l10 : K.lookup f10 = some ⟨oc10, od10, .func (PySem.W.fnOf "plain" "plain" (defArgs splain) (defBody splain) (defScope splain) .none kV10 dc10 pm10 an10 cd10 ct10), sl10⟩) (c10 : PySem.W.codeIn K cd10 "plain" = true) (k10 : PySem.W.keepIn K (.ref f10) = true)
    (a11 : PySem.W.nsIn K mainGlobals "item_row" = some (some (.ref f11))) (l11 : K.lookup f11 = some ⟨oc11, od11, .func (PySem.W.fnOf "item_row" "item_row" (defArgs sitem_row) (defBody sitem_row) (defScope sitem_row) .none kV11 dc11 pm11 an11 cd11 ct11), sl11⟩) (c11 : PySem.W.codeIn K cd11 "item_row" = true) (k11 : PySem.W.keepIn K (.ref f11) = true)
    (a12 : PySem.W.nsIn K mainGlobals "views_below" = some (some (.ref f12))) (l12 : K.lookup f12 = some ⟨oc12, od12, .func (PySem.W.fnOf "views_below" "views_below" (defArgs sviews_below) (defBody sviews_below) (defScope sviews_below) .none kV12 dc12 pm12 an12 cd12 ct12), sl12⟩) (c12 : PySem.W.codeIn K cd12 "views_below" = true) (k12 : PySem.W.keepIn K (.ref f12) = true)
    (a13 : PySem.W.nsIn K mainGlobals "shown" = some (some (.ref f13))) (l13 : K.lookup f13 = some ⟨oc13, od13, .func (PySem.W.fnOf "shown" "shown" (defArgs sshown) (defBody sshown) (defScope sshown) .none kV13 dc13 pm13 an13 cd13 ct13), sl13⟩) (c13 : PySem.W.codeIn K cd13 "shown" = true) (k13 : PySem.W.keepIn K (.ref f13) = true)
    (a14 : PySem.W.nsIn K mainGlobals "size" = some (some (.ref f14))) (l14 : K.lookup f14 = some ⟨oc14, od14, .func (PySem.W.fnOf "size" "size" (defArgs ssize) (defBody ssize) (defScope ssize) .none kV14 dc14 pm14 an14 cd14 ct14), sl14⟩) (c14 : PySem.W.codeIn K cd14 "size" = true) (k14 : PySem.W.keepIn K (.ref f14) = true)
    (a15 : PySem.W.nsIn K mainGlobals "ink_words" = some (some (.ref f15))) (l15 : K.lookup f15 = some ⟨oc15, od15, .func (PySem.W.fnOf "ink_words" "ink_words" (defArgs sink_words) (defBody sink_words) (defScope sink_words) .none kV15 dc15 pm15 an15 cd15 ct15), sl15⟩) (c15 : PySem.W.codeIn K cd15 "ink_words" = true) (k15 : PySem.W.keepIn K (.ref f15) = true)
    (a16 : PySem.W.nsIn K mainGlobals "shown_deed" = some (some (.ref f16))) (l16 : K.lookup f16 = some ⟨oc16, od16, .func (PySem.W.fnOf "shown_deed" "shown_deed" (defArgs sshown_deed) (defBody sshown_deed) (defScope sshown_deed) .none kV16 dc16 pm16 an16 cd16 ct16), sl16⟩) (c16 : PySem.W.codeIn K cd16 "shown_deed" = true) (k16 : PySem.W.keepIn K (.ref f16) = true)
    (a17 : PySem.W.nsIn K mainGlobals "changed" = some (some (.ref f17))) (l17 : K.lookup f17 = some ⟨oc17, od17, .func (PySem.W.fnOf "changed" "changed" (defArgs schanged) (defBody schanged) (defScope schanged) .none kV17 dc17 pm17 an17 cd17 ct17), sl17⟩) (c17 : PySem.W.codeIn K cd17 "changed" = true) (k17 : PySem.W.keepIn K (.ref f17) = true)
    (a18 : PySem.W.findIn K (.ref CShelf) "__init__" = some (some (.ref f18))) (i18 : PySem.W.isFn K (.ref f18) = true) (l18 : K.lookup f18 = some ⟨oc18, od18, .func (PySem.W.fnOf "__init__" "Shelf.__init__" (defArgs sShelf___init__) (defBody sShelf___init__) (defScope sShelf___init__) .none kV18 dc18 pm18 an18 cd18 ct18), sl18⟩) (c18 : PySem.W.codeIn K cd18 "Shelf.__init__" = true) (k18 : PySem.W.keepIn K (.ref f18) = true)
    (a19 : PySem.W.findIn K (.ref CShelf) "now" = some (some (.ref f19))) (i19 : PySem.W.isFn K (.ref f19) = true) (l19 : K.lookup f19 = some ⟨oc19, od19, .func (PySem.W.fnOf "now" "Shelf.now" (defArgs sShelf_now) (defBody sShelf_now) (defScope sShelf_now) .none kV19 dc19 pm19 an19 cd19 ct19), sl19⟩) (c19 : PySem.W.codeIn K cd19 "Shelf.now" = true) (k19 : PySem.W.keepIn K (.ref f19) = true)
    (a20 : PySem.W.findIn K (.ref CShelf) "many" = some (some (.ref f20))) (i20 : PySem.W.isFn K (.ref f20) = true) (l20 : K.lookup f20 = some ⟨oc20, od20, .func (PySem.W.fnOf "many" "Shelf.many" (defArgs sShelf_many) (defBody sShelf_many) (defScope sShelf_many) .none kV20 dc20 pm20 an20 cd20 ct20), sl20⟩) (c20 : PySem.W.codeIn K cd20 "Shelf.many" = true) (k20 : PySem.W.keepIn K (.ref f20) = true)
    (a21 : PySem.W.findIn K (.ref CShelf) "step" = some (some (.ref f21))) (i21 : PySem.W.isFn K (.ref f21) = true) (l21 : K.lookup f21 = some ⟨oc21, od21, .func (PySem.W.fnOf "step" "Shelf.step" (defArgs sShelf_step) (defBody sShelf_step) (defScope sShelf_step) .none kV21 dc21 pm21 an21 cd21 ct21), sl21⟩) (c21 : PySem.W.codeIn K cd21 "Shelf.step" = true) (k21 : PySem.W.keepIn K (.ref f21) = true)
    (a22 : PySem.W.findIn K (.ref CShelf) "check_sheet" = some (some (.ref f22))) (i22 : PySem.W.isFn K (.ref f22) = true) (l22 : K.lookup f22 = some ⟨oc22, od22, .func (PySem.W.fnOf "check_sheet" "Shelf.check_sheet" (defArgs sShelf_check_sheet) (defBody sShelf_check_sheet) (defScope sShelf_check_sheet) .none kV22 dc22 pm22 an22 cd22 ct22), sl22⟩) (c22 : PySem.W.codeIn K cd22 "Shelf.check_sheet" = true) (k22 : PySem.W.keepIn K (.ref f22) = true)
    (a23 : PySem.W.findIn K (.ref CShelf) "check_moment" = some (some (.ref f23))) (i23 : PySem.W.isFn K (.ref f23) = true) (l23 : K.lookup f23 = some ⟨oc23, od23, .func (PySem.W.fnOf "check_moment" "Shelf.check_moment" (defArgs sShelf_check_moment) (defBody sShelf_check_moment) (defScope sShelf_check_moment) .none kV23 dc23 pm23 an23 cd23 ct23), sl23⟩) (c23 : PySem.W.codeIn K cd23 "Shelf.check_moment" = true) (k23 : PySem.W.keepIn K (.ref f23) = true)
    (a24 : PySem.W.findIn K (.ref CShelf) "check_then" = some (some (.ref f24))) (i24 : PySem.W.isFn K (.ref f24) = true) (l24 : K.lookup f24 = some ⟨oc24, od24, .func (PySem.W.fnOf "check_then" "Shelf.check_then" (defArgs sShelf_check_then) (defBody sShelf_check_then) (defScope sShelf_check_then) .none kV24 dc24 pm24 an24 cd24 ct24), sl24⟩) (c24 : PySem.W.codeIn K cd24 "Shelf.check_then" = true) (k24 : PySem.W.keepIn K (.ref f24) = true)
    (a25 : PySem.W.findIn K (.ref CShelf) "row_then" = some (some (.ref f25))) (i25 : PySem.W.isFn K (.ref f25) = true) (l25 : K.lookup f25 = some ⟨oc25, od25, .func (PySem.W.fnOf "row_then" "Shelf.row_then" (defArgs sShelf_row_then) (defBody sShelf_row_then) (defScope sShelf_row_then) .none kV25 dc25 pm25 an25 cd25 ct25), sl25⟩) (c25 : PySem.W.codeIn K cd25 "Shelf.row_then" = true) (k25 : PySem.W.keepIn K (.ref f25) = true)
    (a26 : PySem.W.findIn K (.ref CShelf) "rows_then" = some (some (.ref f26))) (i26 : PySem.W.isFn K (.ref f26) = true) (l26 : K.lookup f26 = some ⟨oc26, od26, .func (PySem.W.fnOf "rows_then" "Shelf.rows_then" (defArgs sShelf_rows_then) (defBody sShelf_rows_then) (defScope sShelf_rows_then) .none kV26 dc26 pm26 an26 cd26 ct26), sl26⟩) (c26 : PySem.W.codeIn K cd26 "Shelf.rows_then" = true) (k26 : PySem.W.keepIn K (.ref f26) = true)
    (a27 : PySem.W.findIn K (.ref CShelf) "rows" = some (some (.ref f27))) (i27 : PySem.W.isFn K (.ref f27) = true) (l27 : K.lookup f27 = some ⟨oc27, od27, .func (PySem.W.fnOf "rows" "Shelf.rows" (defArgs sShelf_rows) (defBody sShelf_rows) (defScope sShelf_rows) .none kV27 dc27 pm27 an27 cd27 ct27), sl27⟩) (c27 : PySem.W.codeIn K cd27 "Shelf.rows" = true) (k27 : PySem.W.keepIn K (.ref f27) = true)
    (a28 : PySem.W.findIn K (.ref CWell) "__init__" = some (some (.ref f28))) (i28 : PySem.W.isFn K (.ref f28) = true) (l28 : K.lookup f28 = some ⟨oc28, od28, .func (PySem.W.fnOf "__init__" "Well.__init__" (defArgs sWell___init__) (defBody sWell___init__) (defScope sWell___init__) .none kV28 dc28 pm28 an28 cd28 ct28), sl28⟩) (c28 : PySem.W.codeIn K cd28 "Well.__init__" = true) (k28 : PySem.W.keepIn K (.ref f28) = true)
    (a29 : PySem.W.findIn K (.ref CBlots) "__init__" = some (some (.ref f29))) (i29 : PySem.W.isFn K (.ref f29) = true) (l29 : K.lookup f29 = some ⟨oc29, od29, .func (PySem.W.fnOf "__init__" "Blots.__init__" (defArgs sBlots___init__) (defBody sBlots___init__) (defScope sBlots___init__) .none kV29 dc29 pm29 an29 cd29 ct29), sl29⟩) (c29 : PySem.W.codeIn K cd29 "Blots.__init__" = true) (k29 : PySem.W.keepIn K (.ref f29) = true)
    (a30 : PySem.W.findIn K (.ref CTies) "__init__" = some (some (.ref f30))) (i30 : PySem.W.isFn K (.ref f30) = true) (l30 : K.lookup f30 = some ⟨oc30, od30, .func (PySem.W.fnOf "__init__" "Ties.__init__" (defArgs sTies___init__) (defBody sTies___init__) (defScope sTies___init__) .none kV30 dc30 pm30 an30 cd30 ct30), sl30⟩) (c30 : PySem.W.codeIn K cd30 "Ties.__init__" = true) (k30 : PySem.W.keepIn K (.ref f30) = true)
    (a31 : PySem.W.findIn K (.ref CDues) "__init__" = some (some (.ref f31))) (i31 : PySem.W.isFn K (.ref f31) = true) (l31 : K.lookup f31 = some ⟨oc31, od31, .func (PySem.W.fnOf "__init__" "Dues.__init__" (defArgs sDues___init__) (defBody sDues___init__) (defScope sDues___init__) .none kV31 dc31 pm31 an31 cd31 ct31), sl31⟩) (c31 : PySem.W.codeIn K cd31 "Dues.__init__" = true) (k31 : PySem.W.keepIn K (.ref f31) = true)
    (a32 : PySem.W.nsIn K mainGlobals "check_weave" = some (some (.ref f32))) (l32 : K.lookup f32 = some ⟨oc32, od32, .func (PySem.W.fnOf "check_weave" "check_weave" (defArgs scheck_weave) (defBody scheck_weave) (defScope scheck_weave) .none kV32 dc32 pm32 an32 cd32 ct32), sl32⟩) (c32 : PySem.W.codeIn K cd32 "check_weave" = true) (k32 : PySem.W.keepIn K (.ref f32) = true)
    (a33 : PySem.W.findIn K (.ref CLibrary) "__init__" = some (some (.ref f33))) (i33 : PySem.W.isFn K (.ref f33) = true) (l33 : K.lookup f33 = some ⟨oc33, od33, .func (PySem.W.fnOf "__init__" "Library.__init__" (defArgs sLibrary___init__) (defBody sLibrary___init__) (defScope sLibrary___init__) .none kV33 dc33 pm33 an33 cd33 ct33), sl33⟩) (c33 : PySem.W.codeIn K cd33 "Library.__init__" = true) (k33 : PySem.W.keepIn K (.ref f33) = true)
    (a34 : PySem.W.findIn K (.ref CLibrary) "enter" = some (some (.ref f34))) (i34 : PySem.W.isFn K (.ref f34) = true) (l34 : K.lookup f34 = some ⟨oc34, od34, .func (PySem.W.fnOf "enter" "Library.enter" (defArgs sLibrary_enter) (defBody sLibrary_enter) (defScope sLibrary_enter) .none kV34 dc34 pm34 an34 cd34 ct34), sl34⟩) (c34 : PySem.W.codeIn K cd34 "Library.enter" = true) (k34 : PySem.W.keepIn K (.ref f34) = true)
    (a35 : PySem.W.findIn K (.ref CLibrary) "change" = some (some (.ref f35))) (i35 : PySem.W.isFn K (.ref f35) = true) (l35 : K.lookup f35 = some ⟨oc35, od35, .func (PySem.W.fnOf "change" "Library.change" (defArgs sLibrary_change) (defBody sLibrary_change) (defScope sLibrary_change) .none kV35 dc35 pm35 an35 cd35 ct35), sl35⟩) (c35 : PySem.W.codeIn K cd35 "Library.change" = true) (k35 : PySem.W.keepIn K (.ref f35) = true)
    (a36 : PySem.W.findIn K (.ref CLibrary) "many" = some (some (.ref f36))) (i36 : PySem.W.isFn K (.ref f36) = true) (l36 : K.lookup f36 = some ⟨oc36, od36, .func (PySem.W.fnOf "many" "Library.many" (defArgs sLibrary_many) (defBody sLibrary_many) (defScope sLibrary_many) .none kV36 dc36 pm36 an36 cd36 ct36), sl36⟩) (c36 : PySem.W.codeIn K cd36 "Library.many" = true) (k36 : PySem.W.keepIn K (.ref f36) = true)
    (a37 : PySem.W.findIn K (.ref CLibrary) "now" = some (some (.ref f37))) (i37 : PySem.W.isFn K (.ref f37) = true) (l37 : K.lookup f37 = some ⟨oc37, od37, .func (PySem.W.fnOf "now" "Library.now" (defArgs sLibrary_now) (defBody sLibrary_now) (defScope sLibrary_now) .none kV37 dc37 pm37 an37 cd37 ct37), sl37⟩) (c37 : PySem.W.codeIn K cd37 "Library.now" = true) (k37 : PySem.W.keepIn K (.ref f37) = true)
    (a38 : PySem.W.findIn K (.ref CLibrary) "begin" = some (some (.ref f38))) (i38 : PySem.W.isFn K (.ref f38) = true) (l38 : K.lookup f38 = some ⟨oc38, od38, .func (PySem.W.fnOf "begin" "Library.begin" (defArgs sLibrary_begin) (defBody sLibrary_begin) (defScope sLibrary_begin) .none kV38 dc38 pm38 an38 cd38 ct38), sl38⟩) (c38 : PySem.W.codeIn K cd38 "Library.begin" = true) (k38 : PySem.W.keepIn K (.ref f38) = true)
    (a39 : PySem.W.findIn K (.ref CLibrary) "fresh" = some (some (.ref f39))) (i39 : PySem.W.isFn K (.ref f39) = true) (l39 : K.lookup f39 = some ⟨oc39, od39, .func (PySem.W.fnOf "fresh" "Library.fresh" (defArgs sLibrary_fresh) (defBody sLibrary_fresh) (defScope sLibrary_fresh) .none kV39 dc39 pm39 an39 cd39 ct39), sl39⟩) (c39 : PySem.W.codeIn K cd39 "Library.fresh" = true) (k39 : PySem.W.keepIn K (.ref f39) = true)
    (a40 : PySem.W.findIn K (.ref CLibrary) "row_then" = some (some (.ref f40))) (i40 : PySem.W.isFn K (.ref f40) = true) (l40 : K.lookup f40 = some ⟨oc40, od40, .func (PySem.W.fnOf "row_then" "Library.row_then" (defArgs sLibrary_row_then) (defBody sLibrary_row_then) (defScope sLibrary_row_then) .none kV40 dc40 pm40 an40 cd40 ct40), sl40⟩) (c40 : PySem.W.codeIn K cd40 "Library.row_then" = true) (k40 : PySem.W.keepIn K (.ref f40) = true)
    (a41 : PySem.W.findIn K (.ref CLibrary) "fork" = some (some (.ref f41))) (i41 : PySem.W.isFn K (.ref f41) = true) (l41 : K.lookup f41 = some ⟨oc41, od41, .func (PySem.W.fnOf "fork" "Library.fork" (defArgs sLibrary_fork) (defBody sLibrary_fork) (defScope sLibrary_fork) .none kV41 dc41 pm41 an41 cd41 ct41), sl41⟩) (c41 : PySem.W.codeIn K cd41 "Library.fork" = true) (k41 : PySem.W.keepIn K (.ref f41) = true)
    (a42 : PySem.W.findIn K (.ref CLibrary) "shown" = some (some (.ref f42))) (i42 : PySem.W.isFn K (.ref f42) = true) (l42 : K.lookup f42 = some ⟨oc42, od42, .func (PySem.W.fnOf "shown" "Library.shown" (defArgs sLibrary_shown) (defBody sLibrary_shown) (defScope sLibrary_shown) .none kV42 dc42 pm42 an42 cd42 ct42), sl42⟩) (c42 : PySem.W.codeIn K cd42 "Library.shown" = true) (k42 : PySem.W.keepIn K (.ref f42) = true)
    (a43 : PySem.W.findIn K (.ref CLibrary) "size" = some (some (.ref f43))) (i43 : PySem.W.isFn K (.ref f43) = true) (l43 : K.lookup f43 = some ⟨oc43, od43, .func (PySem.W.fnOf "size" "Library.size" (defArgs sLibrary_size) (defBody sLibrary_size) (defScope sLibrary_size) .none kV43 dc43 pm43 an43 cd43 ct43), sl43⟩) (c43 : PySem.W.codeIn K cd43 "Library.size" = true) (k43 : PySem.W.keepIn K (.ref f43) = true)
    (a44 : PySem.W.nsIn K mainGlobals "_law_opened" = some (some (.ref f44))) (l44 : K.lookup f44 = some ⟨oc44, od44, .func (PySem.W.fnOf "_law_opened" "_law_opened" (defArgs s_law_opened) (defBody s_law_opened) (defScope s_law_opened) .none kV44 dc44 pm44 an44 cd44 ct44), sl44⟩) (c44 : PySem.W.codeIn K cd44 "_law_opened" = true) (k44 : PySem.W.keepIn K (.ref f44) = true)
    (a45 : PySem.W.nsIn K mainGlobals "_law_due" = some (some (.ref f45))) (l45 : K.lookup f45 = some ⟨oc45, od45, .func (PySem.W.fnOf "_law_due" "_law_due" (defArgs s_law_due) (defBody s_law_due) (defScope s_law_due) .none kV45 dc45 pm45 an45 cd45 ct45), sl45⟩) (c45 : PySem.W.codeIn K cd45 "_law_due" = true) (k45 : PySem.W.keepIn K (.ref f45) = true)
    (a46 : PySem.W.nsIn K mainGlobals "law" = some (some (.ref f46))) (l46 : K.lookup f46 = some ⟨oc46, od46, .func (PySem.W.fnOf "law" "law" (defArgs slaw) (defBody slaw) (defScope slaw) .none kV46 dc46 pm46 an46 cd46 ct46), sl46⟩) (c46 : PySem.W.codeIn K cd46 "law" = true) (k46 : PySem.W.keepIn K (.ref f46) = true)
    (z0 : PySem.W.nsIn K mainGlobals "len" = some none)
    (z1 : PySem.W.nsIn K mainGlobals "list" = some none)
    (z2 : PySem.W.nsIn K mainGlobals "tuple" = some none)
    (z3 : PySem.W.nsIn K mainGlobals "int" = some none)
    (z4 : PySem.W.nsIn K mainGlobals "bool" = some none)
    (z5 : PySem.W.nsIn K mainGlobals "str" = some none)
    (z6 : PySem.W.nsIn K mainGlobals "range" = some none)
    (z7 : PySem.W.nsIn K mainGlobals "zip" = some none)
    (z8 : PySem.W.nsIn K mainGlobals "isinstance" = some none)
    (z9 : PySem.W.nsIn K mainGlobals "sum" = some none)
    (xmNoSheet : PySem.W.nsIn K mainGlobals "NoSheet" = some (some (.ref XNoSheet))) (xxNoSheet : PySem.W.excIn K XNoSheet [.type "ValueError", .type "Exception", .type "BaseException", .type "object"] "ValueError.__new__" = true) (xhNoSheet : PySem.W.exmOne K (.ref XNoSheet) (.ref XNoSheet) = some true)
    (xmNoMoment : PySem.W.nsIn K mainGlobals "NoMoment" = some (some (.ref XNoMoment))) (xxNoMoment : PySem.W.excIn K XNoMoment [.type "ValueError", .type "Exception", .type "BaseException", .type "object"] "ValueError.__new__" = true) (xhNoMoment : PySem.W.exmOne K (.ref XNoMoment) (.ref XNoMoment) = some true)
    (xmTooMany : PySem.W.nsIn K mainGlobals "TooMany" = some (some (.ref XTooMany))) (xxTooMany : PySem.W.excIn K XTooMany [.type "ValueError", .type "Exception", .type "BaseException", .type "object"] "ValueError.__new__" = true) (xhTooMany : PySem.W.exmOne K (.ref XTooMany) (.ref XTooMany) = some true)
    (gvMOST_SHEETS : PySem.W.nsIn K mainGlobals "MOST_SHEETS" = some (some (.int 40 tkMOST_SHEETS)))
    (gvMOST_WEIGHT : PySem.W.nsIn K mainGlobals "MOST_WEIGHT" = some (some (.int 200 tkMOST_WEIGHT)))
    (amsize_spans : PySem.W.nsIn K mainGlobals "size_spans" = some (some (.ref f14)))
    (amshown_weave : PySem.W.nsIn K mainGlobals "shown_weave" = some (some (.ref f13)))
    (xn0 : PySem.W.exmOne K (.ref XNoMoment) (.ref XNoSheet) = some false)
    (xn1 : PySem.W.exmOne K (.ref XTooMany) (.ref XNoSheet) = some false)
    (xn2 : PySem.W.exmOne K (.ref XTooMany) (.ref XNoMoment) = some false) :
    ∃ fd : FuncData, (∀ (s : Shared) (v : Value), BindsTo s fd ⟨[v], []⟩ [("_law_script", v)]) ∧ ∀ base : Heap, K.In base → base.Ns mainGlobals mg → FnOk l.prog w K mg base CX0 12 fa fd ["_law_script"] (spLaw K) := by
  have e := hfa.symm.trans (PySem.W.mg_of X G a46)
  cases e
  have T : Nms mg := ⟨PySem.W.mg_none_of X G z0, PySem.W.mg_none_of X G z1, PySem.W.mg_none_of X G z2, PySem.W.mg_none_of X G z3, PySem.W.mg_none_of X G z4, PySem.W.mg_none_of X G z5, PySem.W.mg_none_of X G z6, PySem.W.mg_none_of X G z7, PySem.W.mg_none_of X G z8, PySem.W.mg_none_of X G z9⟩
  have Gb : Gbs mg := ⟨⟨_, PySem.W.mg_of X G gvMOST_SHEETS⟩, ⟨_, PySem.W.mg_of X G gvMOST_WEIGHT⟩⟩
  have ZNoSheet : ExcN K mg "NoSheet" XNoSheet := ⟨PySem.W.mg_of X G xmNoSheet, xxNoSheet, xhNoSheet⟩
  have ZNoMoment : ExcN K mg "NoMoment" XNoMoment := ⟨PySem.W.mg_of X G xmNoMoment, xxNoMoment, xhNoMoment⟩
  have ZTooMany : ExcN K mg "TooMany" XTooMany := ⟨PySem.W.mg_of X G xmTooMany, xxTooMany, xhTooMany⟩
  have F0 := fun_mk (st := s_law_src) l0 c0 k0
  have D0 : DefAt K mg "_law_src" s_law_src ["_law_script"] f0 _ := ⟨F0, F0.binds (ps := ["_law_script"]) (fun _ _ _ _ _ _ us hl => match us, hl with | [_], _ => rfl), PySem.W.mg_of X G a0⟩
  have F1 := fun_mk (st := s_law_next) l1 c1 k1
  have D1 : DefAt K mg "_law_next" s_law_next ["_law_src_here", "_law_base"] f1 _ := ⟨F1, F1.binds (ps := ["_law_src_here", "_law_base"]) (fun _ _ _ _ _ _ us hl => match us, hl with | [_, _], _ => rfl), PySem.W.mg_of X G a1⟩
  have F2 := fun_mk (st := s_law_whole) l2 c2 k2
  have D2 : DefAt K mg "_law_whole" s_law_whole ["_law_found"] f2 _ := ⟨F2, F2.binds (ps := ["_law_found"]) (fun _ _ _ _ _ _ us hl => match us, hl with | [_], _ => rfl), PySem.W.mg_of X G a2⟩
  have F3 := fun_mk (st := s_law_same) l3 c3 k3
  have D3 : DefAt K mg "_law_same" s_law_same ["_law_found", "_law_due_here"] f3 _ := ⟨F3, F3.binds (ps := ["_law_found", "_law_due_here"]) (fun _ _ _ _ _ _ us hl => match us, hl with | [_, _], _ => rfl), PySem.W.mg_of X G a3⟩
  have F4 := fun_mk (st := swindows) l4 c4 k4
  have D4 : DefAt K mg "windows" swindows ["items"] f4 _ := ⟨F4, F4.binds (ps := ["items"]) (fun _ _ _ _ _ _ us hl => match us, hl with | [_], _ => rfl), PySem.W.mg_of X G a4⟩
  have F5 := fun_mk (st := sbelow) l5 c5 k5
  have D5 : DefAt K mg "below" sbelow ["rows", "sheets"] f5 _ := ⟨F5, F5.binds (ps := ["rows", "sheets"]) (fun _ _ _ _ _ _ us hl => match us, hl with | [_, _], _ => rfl), PySem.W.mg_of X G a5⟩
  have F6 := fun_mk (st := sway_between) l6 c6 k6
  have D6 : DefAt K mg "way_between" sway_between ["rows", "start", "goal"] f6 _ := ⟨F6, F6.binds (ps := ["rows", "start", "goal"]) (fun _ _ _ _ _ _ us hl => match us, hl with | [_, _, _], _ => rfl), PySem.W.mg_of X G a6⟩
  have F7 := fun_mk (st := sring) l7 c7 k7
  have D7 : DefAt K mg "ring" sring ["rows", "sheet"] f7 _ := ⟨F7, F7.binds (ps := ["rows", "sheet"]) (fun _ _ _ _ _ _ us hl => match us, hl with | [_, _], _ => rfl), PySem.W.mg_of X G a7⟩
  have F8 := fun_mk (st := sitem_weight) l8 c8 k8
  have D8 : DefAt K mg "item_weight" sitem_weight ["item", "weights"] f8 _ := ⟨F8, F8.binds (ps := ["item", "weights"]) (fun _ _ _ _ _ _ us hl => match us, hl with | [_, _], _ => rfl), PySem.W.mg_of X G a8⟩
  have F9 := fun_mk (st := sweights_below) l9 c9 k9
  have D9 : DefAt K mg "weights_below" sweights_below ["rows", "sheets"] f9 _ := ⟨F9, F9.binds (ps := ["rows", "sheets"]) (fun _ _ _ _ _ _ us hl => match us, hl with | [_, _], _ => rfl), PySem.W.mg_of X G a9⟩
  have F10 := fun_mk (st := splain) l10 c10 k10
  have D10 : DefAt K mg "plain" splain ["row"] f10 _ := ⟨F10, F10.binds (ps := ["row"]) (fun _ _ _ _ _ _ us hl => match us, hl with | [_], _ => rfl), PySem.W.mg_of X G a10⟩
  have F11 := fun_mk (st := sitem_row) l11 c11 k11
  have D11 : DefAt K mg "item_row" sitem_row ["item", "views"] f11 _ := ⟨F11, F11.binds (ps := ["item", "views"]) (fun _ _ _ _ _ _ us hl => match us, hl with | [_, _], _ => rfl), PySem.W.mg_of X G a11⟩
  have F12 := fun_mk (st := sviews_below) l12 c12 k12
  have D12 : DefAt K mg "views_below" sviews_below ["rows", "sheets"] f12 _ := ⟨F12, F12.binds (ps := ["rows", "sheets"]) (fun _ _ _ _ _ _ us hl => match us, hl with | [_, _], _ => rfl), PySem.W.mg_of X G a12⟩
  have F13 := fun_mk (st := sshown) l13 c13 k13
  have D13 : DefAt K mg "shown" sshown ["rows", "sheet"] f13 _ := ⟨F13, F13.binds (ps := ["rows", "sheet"]) (fun _ _ _ _ _ _ us hl => match us, hl with | [_, _], _ => rfl), PySem.W.mg_of X G a13⟩
  have F14 := fun_mk (st := ssize) l14 c14 k14
  have D14 : DefAt K mg "size" ssize ["row"] f14 _ := ⟨F14, F14.binds (ps := ["row"]) (fun _ _ _ _ _ _ us hl => match us, hl with | [_], _ => rfl), PySem.W.mg_of X G a14⟩
  have F15 := fun_mk (st := sink_words) l15 c15 k15
  have D15 : DefAt K mg "ink_words" sink_words ["row"] f15 _ := ⟨F15, F15.binds (ps := ["row"]) (fun _ _ _ _ _ _ us hl => match us, hl with | [_], _ => rfl), PySem.W.mg_of X G a15⟩
  have F16 := fun_mk (st := sshown_deed) l16 c16 k16
  have D16 : DefAt K mg "shown_deed" sshown_deed ["deed"] f16 _ := ⟨F16, F16.binds (ps := ["deed"]) (fun _ _ _ _ _ _ us hl => match us, hl with | [_], _ => rfl), PySem.W.mg_of X G a16⟩
  have F17 := fun_mk (st := schanged) l17 c17 k17
  have D17 : DefAt K mg "changed" schanged ["state", "sheet", "items"] f17 _ := ⟨F17, F17.binds (ps := ["state", "sheet", "items"]) (fun _ _ _ _ _ _ us hl => match us, hl with | [_, _, _], _ => rfl), PySem.W.mg_of X G a17⟩
  have F18 := fun_mk (st := sShelf___init__) l18 c18 k18
  have D18 : MetAt K CShelf "__init__" "Shelf.__init__" sShelf___init__ ["self"] f18 _ := ⟨F18, F18.binds (ps := ["self"]) (fun _ _ _ _ _ _ us hl => match us, hl with | [_], _ => rfl), ⟨a18, i18, k18⟩⟩
  have F19 := fun_mk (st := sShelf_now) l19 c19 k19
  have D19 : MetAt K CShelf "now" "Shelf.now" sShelf_now ["self"] f19 _ := ⟨F19, F19.binds (ps := ["self"]) (fun _ _ _ _ _ _ us hl => match us, hl with | [_], _ => rfl), ⟨a19, i19, k19⟩⟩
  have F20 := fun_mk (st := sShelf_many) l20 c20 k20
  have D20 : MetAt K CShelf "many" "Shelf.many" sShelf_many ["self"] f20 _ := ⟨F20, F20.binds (ps := ["self"]) (fun _ _ _ _ _ _ us hl => match us, hl with | [_], _ => rfl), ⟨a20, i20, k20⟩⟩
  have F21 := fun_mk (st := sShelf_step) l21 c21 k21
  have D21 : MetAt K CShelf "step" "Shelf.step" sShelf_step ["self", "changes"] f21 _ := ⟨F21, F21.binds (ps := ["self", "changes"]) (fun _ _ _ _ _ _ us hl => match us, hl with | [_, _], _ => rfl), ⟨a21, i21, k21⟩⟩
  have F22 := fun_mk (st := sShelf_check_sheet) l22 c22 k22
  have D22 : MetAt K CShelf "check_sheet" "Shelf.check_sheet" sShelf_check_sheet ["self", "sheet"] f22 _ := ⟨F22, F22.binds (ps := ["self", "sheet"]) (fun _ _ _ _ _ _ us hl => match us, hl with | [_, _], _ => rfl), ⟨a22, i22, k22⟩⟩
  have F23 := fun_mk (st := sShelf_check_moment) l23 c23 k23
  have D23 : MetAt K CShelf "check_moment" "Shelf.check_moment" sShelf_check_moment ["self", "moment"] f23 _ := ⟨F23, F23.binds (ps := ["self", "moment"]) (fun _ _ _ _ _ _ us hl => match us, hl with | [_, _], _ => rfl), ⟨a23, i23, k23⟩⟩
  have F24 := fun_mk (st := sShelf_check_then) l24 c24 k24
  have D24 : MetAt K CShelf "check_then" "Shelf.check_then" sShelf_check_then ["self", "sheet", "moment"] f24 _ := ⟨F24, F24.binds (ps := ["self", "sheet", "moment"]) (fun _ _ _ _ _ _ us hl => match us, hl with | [_, _, _], _ => rfl), ⟨a24, i24, k24⟩⟩
  have F25 := fun_mk (st := sShelf_row_then) l25 c25 k25
  have D25 : MetAt K CShelf "row_then" "Shelf.row_then" sShelf_row_then ["self", "sheet", "moment"] f25 _ := ⟨F25, F25.binds (ps := ["self", "sheet", "moment"]) (fun _ _ _ _ _ _ us hl => match us, hl with | [_, _, _], _ => rfl), ⟨a25, i25, k25⟩⟩
  have F26 := fun_mk (st := sShelf_rows_then) l26 c26 k26
  have D26 : MetAt K CShelf "rows_then" "Shelf.rows_then" sShelf_rows_then ["self", "moment"] f26 _ := ⟨F26, F26.binds (ps := ["self", "moment"]) (fun _ _ _ _ _ _ us hl => match us, hl with | [_, _], _ => rfl), ⟨a26, i26, k26⟩⟩
  have F27 := fun_mk (st := sShelf_rows) l27 c27 k27
  have D27 : MetAt K CShelf "rows" "Shelf.rows" sShelf_rows ["self"] f27 _ := ⟨F27, F27.binds (ps := ["self"]) (fun _ _ _ _ _ _ us hl => match us, hl with | [_], _ => rfl), ⟨a27, i27, k27⟩⟩
  have F28 := fun_mk (st := sWell___init__) l28 c28 k28
  have D28 : MetAt K CWell "__init__" "Well.__init__" sWell___init__ ["self"] f28 _ := ⟨F28, F28.binds (ps := ["self"]) (fun _ _ _ _ _ _ us hl => match us, hl with | [_], _ => rfl), ⟨a28, i28, k28⟩⟩
  have F29 := fun_mk (st := sBlots___init__) l29 c29 k29
  have D29 : MetAt K CBlots "__init__" "Blots.__init__" sBlots___init__ ["self"] f29 _ := ⟨F29, F29.binds (ps := ["self"]) (fun _ _ _ _ _ _ us hl => match us, hl with | [_], _ => rfl), ⟨a29, i29, k29⟩⟩
  have F30 := fun_mk (st := sTies___init__) l30 c30 k30
  have D30 : MetAt K CTies "__init__" "Ties.__init__" sTies___init__ ["self"] f30 _ := ⟨F30, F30.binds (ps := ["self"]) (fun _ _ _ _ _ _ us hl => match us, hl with | [_], _ => rfl), ⟨a30, i30, k30⟩⟩
  have F31 := fun_mk (st := sDues___init__) l31 c31 k31
  have D31 : MetAt K CDues "__init__" "Dues.__init__" sDues___init__ ["self"] f31 _ := ⟨F31, F31.binds (ps := ["self"]) (fun _ _ _ _ _ _ us hl => match us, hl with | [_], _ => rfl), ⟨a31, i31, k31⟩⟩
  have F32 := fun_mk (st := scheck_weave) l32 c32 k32
  have D32 : DefAt K mg "check_weave" scheck_weave ["rows", "sheet"] f32 _ := ⟨F32, F32.binds (ps := ["rows", "sheet"]) (fun _ _ _ _ _ _ us hl => match us, hl with | [_, _], _ => rfl), PySem.W.mg_of X G a32⟩
  have F33 := fun_mk (st := sLibrary___init__) l33 c33 k33
  have D33 : MetAt K CLibrary "__init__" "Library.__init__" sLibrary___init__ ["self"] f33 _ := ⟨F33, F33.binds (ps := ["self"]) (fun _ _ _ _ _ _ us hl => match us, hl with | [_], _ => rfl), ⟨a33, i33, k33⟩⟩
  have F34 := fun_mk (st := sLibrary_enter) l34 c34 k34
  have D34 : MetAt K CLibrary "enter" "Library.enter" sLibrary_enter ["self", "deed", "changes"] f34 _ := ⟨F34, F34.binds (ps := ["self", "deed", "changes"]) (fun _ _ _ _ _ _ us hl => match us, hl with | [_, _, _], _ => rfl), ⟨a34, i34, k34⟩⟩
  have F35 := fun_mk (st := sLibrary_change) l35 c35 k35
  have D35 : MetAt K CLibrary "change" "Library.change" sLibrary_change ["self", "deed", "sheet", "items"] f35 _ := ⟨F35, F35.binds (ps := ["self", "deed", "sheet", "items"]) (fun _ _ _ _ _ _ us hl => match us, hl with | [_, _, _, _], _ => rfl), ⟨a35, i35, k35⟩⟩
  have F36 := fun_mk (st := sLibrary_many) l36 c36 k36
  have D36 : MetAt K CLibrary "many" "Library.many" sLibrary_many ["self"] f36 _ := ⟨F36, F36.binds (ps := ["self"]) (fun _ _ _ _ _ _ us hl => match us, hl with | [_], _ => rfl), ⟨a36, i36, k36⟩⟩
  have F37 := fun_mk (st := sLibrary_now) l37 c37 k37
  have D37 : MetAt K CLibrary "now" "Library.now" sLibrary_now ["self"] f37 _ := ⟨F37, F37.binds (ps := ["self"]) (fun _ _ _ _ _ _ us hl => match us, hl with | [_], _ => rfl), ⟨a37, i37, k37⟩⟩
  have F38 := fun_mk (st := sLibrary_begin) l38 c38 k38
  have D38 : MetAt K CLibrary "begin" "Library.begin" sLibrary_begin ["self", "deed", "items"] f38 _ := ⟨F38, F38.binds (ps := ["self", "deed", "items"]) (fun _ _ _ _ _ _ us hl => match us, hl with | [_, _, _], _ => rfl), ⟨a38, i38, k38⟩⟩
  have F39 := fun_mk (st := sLibrary_fresh) l39 c39 k39
  have D39 : MetAt K CLibrary "fresh" "Library.fresh" sLibrary_fresh ["self"] f39 _ := ⟨F39, F39.binds (ps := ["self"]) (fun _ _ _ _ _ _ us hl => match us, hl with | [_], _ => rfl), ⟨a39, i39, k39⟩⟩
  have F40 := fun_mk (st := sLibrary_row_then) l40 c40 k40
  have D40 : MetAt K CLibrary "row_then" "Library.row_then" sLibrary_row_then ["self", "sheet", "moment"] f40 _ := ⟨F40, F40.binds (ps := ["self", "sheet", "moment"]) (fun _ _ _ _ _ _ us hl => match us, hl with | [_, _, _], _ => rfl), ⟨a40, i40, k40⟩⟩
  have F41 := fun_mk (st := sLibrary_fork) l41 c41 k41
  have D41 : MetAt K CLibrary "fork" "Library.fork" sLibrary_fork ["self", "sheet", "moment"] f41 _ := ⟨F41, F41.binds (ps := ["self", "sheet", "moment"]) (fun _ _ _ _ _ _ us hl => match us, hl with | [_, _, _], _ => rfl), ⟨a41, i41, k41⟩⟩
  have F42 := fun_mk (st := sLibrary_shown) l42 c42 k42
  have D42 : MetAt K CLibrary "shown" "Library.shown" sLibrary_shown ["self", "sheet"] f42 _ := ⟨F42, F42.binds (ps := ["self", "sheet"]) (fun _ _ _ _ _ _ us hl => match us, hl with | [_, _], _ => rfl), ⟨a42, i42, k42⟩⟩
  have F43 := fun_mk (st := sLibrary_size) l43 c43 k43
  have D43 : MetAt K CLibrary "size" "Library.size" sLibrary_size ["self", "sheet"] f43 _ := ⟨F43, F43.binds (ps := ["self", "sheet"]) (fun _ _ _ _ _ _ us hl => match us, hl with | [_, _], _ => rfl), ⟨a43, i43, k43⟩⟩
  have F44 := fun_mk (st := s_law_opened) l44 c44 k44
  have D44 : DefAt K mg "_law_opened" s_law_opened ["_law_house", "_law_sheet", "_law_moment"] f44 _ := ⟨F44, F44.binds (ps := ["_law_house", "_law_sheet", "_law_moment"]) (fun _ _ _ _ _ _ us hl => match us, hl with | [_, _, _], _ => rfl), PySem.W.mg_of X G a44⟩
  have F45 := fun_mk (st := s_law_due) l45 c45 k45
  have D45 : DefAt K mg "_law_due" s_law_due ["_law_many", "_law_sheet", "_law_moment"] f45 _ := ⟨F45, F45.binds (ps := ["_law_many", "_law_sheet", "_law_moment"]) (fun _ _ _ _ _ _ us hl => match us, hl with | [_, _, _], _ => rfl), PySem.W.mg_of X G a45⟩
  have F46 := fun_mk (st := slaw) l46 c46 k46
  have CLShelf : ClsAt K mg "Shelf" CShelf f18 := ⟨⟨pgShelf, hdShelf, poShelf, saShelf⟩, PySem.W.mg_of X G aCShelf, ⟨mkShelf, a18, i18, kcShelf⟩⟩
  have CLWell : ClsAt K mg "Well" CWell f28 := ⟨⟨pgWell, hdWell, poWell, saWell⟩, PySem.W.mg_of X G aCWell, ⟨mkWell, a28, i28, kcWell⟩⟩
  have CLBlots : ClsAt K mg "Blots" CBlots f29 := ⟨⟨pgBlots, hdBlots, poBlots, saBlots⟩, PySem.W.mg_of X G aCBlots, ⟨mkBlots, a29, i29, kcBlots⟩⟩
  have CLTies : ClsAt K mg "Ties" CTies f30 := ⟨⟨pgTies, hdTies, poTies, saTies⟩, PySem.W.mg_of X G aCTies, ⟨mkTies, a30, i30, kcTies⟩⟩
  have CLDues : ClsAt K mg "Dues" CDues f31 := ⟨⟨pgDues, hdDues, poDues, saDues⟩, PySem.W.mg_of X G aCDues, ⟨mkDues, a31, i31, kcDues⟩⟩
  have CLLibrary : ClsAt K mg "Library" CLibrary f33 := ⟨⟨pgLibrary, hdLibrary, poLibrary, saLibrary⟩, PySem.W.mg_of X G aCLibrary, ⟨mkLibrary, a33, i33, kcLibrary⟩⟩
  exact ⟨PySem.W.fnOf "law" "law" (defArgs slaw) (defBody slaw) (defScope slaw) .none kV46 dc46 pm46 an46 cd46 ct46, fun s v => .of_eq rfl, fun base _ _ => ok_law F46 T Gb ZNoSheet ZNoMoment ZTooMany xn0 xn1 xn2 (PySem.W.mg_of X G amsize_spans) (PySem.W.mg_of X G amshown_weave) D0 D1 D2 D3 D4 D5 D6 D7 D8 D9 D10 D11 D12 D13 D14 D15 D16 D17 D18 D19 D20 D21 D22 D23 D24 D25 D26 D27 D28 D29 D30 D31 D32 D33 D34 D35 D36 D37 D38 D39 D40 D41 D42 D43 D44 D45 CLShelf noShelfstates noShelfopenings CLWell noWellsigns noWellowners noWellpourings CLBlots noBlotsstains CLTies noTiesgiven noTiespairs CLDues noDuessums CLLibrary noLibrarywell noLibraryshelf noLibraryblots noLibraryknots noLibrarydues noLibrarybook⟩
theorem walk {l : PySem.W.OpenLaw} {q : Program} {loose : List Str} {XP : (Str → Option Value) → Heap → Prop} {YP : World → Heap → Prop} {d : DefRec} {K : Params → PySem.W.Frag} (hn : l.most = some 63) (hdf : d.params.defaults = [])
    (hY : ∀ (w : World) (h : Heap), YP w h → (K w.params).In h)
    (F : ∀ (w : World) (mg : Str → Option Value) (fa : Addr) (h : Heap), (K w.params).In h → h.Ns mainGlobals mg → mg d.name = some (.ref fa) →
      ∃ fd : FuncData, (∀ (s : Shared) (u : Value), BindsTo s fd ⟨[u], []⟩ [("_law_script", u)]) ∧ ∀ base : Heap, (K w.params).In base → base.Ns mainGlobals mg → FnOk l.prog w (K w.params) mg base CX0 12 fa fd ["_law_script"] (spLaw (K w.params))) :
    PySem.W.WalkO q loose XP YP l.row.toRowW d [] (fun f vs => PySem.call f vs) :=
  L2.walk_of (n := 63) (k := 12) (x := "_law_script") (CX := fun _ => CX0) (sp := fun w => spLaw (K w.params)) hn (by decide) hdf ⟨rfl, by decide, by decide⟩ hY F (fun _ _ a ns hl _ hS => ⟨a, ns, rfl, hS, hl, fun _ => rfl⟩) fun _ _ _ _ _ z => z
end Ink
open PySem PySem.W PyProof.Rows
theorem PySem.W.Fast.tw10207953140824560972 : True := trivial
theorem PySem.W.Fast.tw1543973222172516097 : True := trivial
theorem PySem.W.Fast.tw16222517357955545394 : True := trivial
theorem PySem.W.Fast.tw12710434566732614937 : True := trivial
theorem PySem.W.Fast.tw16975710826438087609 : True := trivial
theorem PySem.W.Fast.tw9075589544644045880 : True := trivial
theorem PySem.W.Fast.tw12019554343075661728 : True := trivial
theorem PySem.W.Fast.tw152680186457172842 : True := trivial
theorem PySem.W.Fast.tw8701792133199909101 : True := trivial
theorem PySem.W.Fast.tw3464043236729943504 : True := trivial
theorem PySem.W.Fast.tw11419679763448052450 : True := trivial
theorem PySem.W.Fast.tw12519106124640852738 : True := trivial
theorem PySem.W.Fast.tw5553945768778766362 : True := trivial
theorem PySem.W.Fast.tw6021174352280090228 : True := trivial
theorem PySem.W.Fast.tw17056027193748913661 : True := trivial
theorem PySem.W.Fast.tw5145918551264001466 : True := trivial
theorem PySem.W.Fast.tw6276787828372872891 : True := trivial
theorem PySem.W.Fast.tw11537685562005056134 : True := trivial
theorem PySem.W.Fast.tw11188329843575581135 : True := trivial
theorem PySem.W.Fast.tw5762931557753748910 : True := trivial
theorem PySem.W.Fast.tw1834257780285431046 : True := trivial
theorem PySem.W.Fast.tw10661038428402951209 : True := trivial
theorem PySem.W.Fast.tw9790487217672636010 : True := trivial
theorem PySem.W.Fast.tw13563581120728935723 : True := trivial
theorem PySem.W.Fast.tw6020616609829492600 : True := trivial
theorem PySem.W.Fast.tw5614878436843673835 : True := trivial
theorem PySem.W.Fast.tw14259242207409921596 : True := trivial
theorem PySem.W.Fast.tw13580764007874652075 : True := trivial
theorem PySem.W.Fast.tw7896511737794685239 : True := trivial
theorem PySem.W.Fast.tw4923337588482594483 : True := trivial
theorem PySem.W.Fast.tw1637376215640346980 : True := trivial
theorem PySem.W.Fast.tw3351016841492800801 : True := trivial
theorem PySem.W.Fast.tw18407094104855205766 : True := trivial
theorem PySem.W.Fast.tw4332156311738136219 : True := trivial
theorem PySem.W.Fast.tw15826338909567445877 : True := trivial
theorem PySem.W.Fast.tw9053410249779666724 : True := trivial
theorem PySem.W.Fast.tw17002271007005606898 : True := trivial
theorem PySem.W.Fast.tw4570472901707620954 : True := trivial
theorem PySem.W.Fast.tw1877677757508468393 : True := trivial
theorem PySem.W.Fast.tw12757991170726784910 : True := trivial
theorem PySem.W.Fast.tw3844910102329748207 : True := trivial
theorem PySem.W.Fast.tw1300219178918568585 : True := trivial
theorem PySem.W.Fast.tw15825852626459300034 : True := trivial
theorem PySem.W.Fast.tw4502087577579867112 : True := trivial
theorem PySem.W.Fast.tw14097124940163178073 : True := trivial
theorem PySem.W.Fast.tw11237943363911468114 : True := trivial
theorem PySem.W.Fast.tw9435834674617721188 : True := trivial
theorem PySem.W.Fast.tw10113630589033042948 : True := trivial
theorem PySem.W.Fast.tw11704646689537655397 : True := trivial
theorem PySem.W.Fast.tw7421361587977753452 : True := trivial
theorem PySem.W.Fast.tw13684509405673540611 : True := trivial
theorem PySem.W.Fast.tw8087244971198451923 : True := trivial
theorem PySem.W.Fast.tw3650830106897317082 : True := trivial
theorem PySem.W.Fast.tw11743145143975429456 : True := trivial
theorem PySem.W.Fast.tw11036205245148117372 : True := trivial
theorem PySem.W.Fast.tw11877379710682328991 : True := trivial
theorem PySem.W.Fast.tw3683560024834826735 : True := trivial
theorem PySem.W.Fast.tw9550272633947516109 : True := trivial
theorem PySem.W.Fast.tw18349036997779538113 : True := trivial
theorem PySem.W.Fast.tw15075996191103404304 : True := trivial
theorem PySem.W.Fast.tw10578060222302024355 : True := trivial
theorem PySem.W.Fast.tw9351629089002251048 : True := trivial
theorem PySem.W.Fast.tw8560231188015699853 : True := trivial
theorem PySem.W.Fast.tw1026990541533606928 : True := trivial
theorem PySem.W.Fast.tw8544692114256395342 : True := trivial
theorem PySem.W.Fast.tw3177398914257859516 : True := trivial
theorem PySem.W.Fast.tw2668210865793142963 : True := trivial
theorem PySem.W.Fast.tw13260178318625711845 : True := trivial
theorem PySem.W.Fast.tw12790848490050301954 : True := trivial
theorem PySem.W.Fast.tw16020583114273124031 : True := trivial
theorem PySem.W.Fast.tw17149317272427029872 : True := trivial
theorem PySem.W.Fast.tw17928177812633908950 : True := trivial
theorem PySem.W.Fast.tw17825079567940142382 : True := trivial
theorem PySem.W.Fast.tw2019529681187317444 : True := trivial
theorem PySem.W.Fast.tw15724265493474357752 : True := trivial
theorem PySem.W.Fast.tw2897700488543933405 : True := trivial
theorem PySem.W.Fast.tw12127240274579749334 : True := trivial
theorem PySem.W.Fast.tw8288567633057623071 : True := trivial
theorem PySem.W.Fast.tw15338820812774759159 : True := trivial
theorem PySem.W.Fast.tw11039005291000352058 : True := trivial
theorem PySem.W.Fast.tw9665306291481131417 : True := trivial
theorem PySem.W.Fast.tw4382521786939610780 : True := trivial
theorem PySem.W.Fast.tw9731898910996990697 : True := trivial
theorem PySem.W.Fast.tw116620976522329664 : True := trivial
theorem PySem.W.Fast.tw10176009183475977953 : True := trivial
theorem PySem.W.Fast.tw1497050106312502266 : True := trivial
theorem PySem.W.Fast.tw14269536925742735036 : True := trivial
theorem PySem.W.Fast.tw10340766059537586334 : True := trivial
theorem PySem.W.Fast.tw10654440753849228256 : True := trivial
theorem PySem.W.Fast.tw6842492932866384497 : True := trivial
theorem PySem.W.Fast.tw12117621321544996551 : True := trivial
theorem PySem.W.Fast.tw3389051341893872445 : True := trivial
theorem PySem.W.Fast.tw3056474374799812080 : True := trivial
theorem PySem.W.Fast.tw9826692954824438763 : True := trivial
theorem PySem.W.Fast.tw5561056083419448339 : True := trivial
theorem PySem.W.Fast.tw6417939267505397745 : True := trivial
theorem PySem.W.Fast.tw1707916703851695044 : True := trivial
theorem PySem.W.Fast.tw6077024148536806129 : True := trivial
theorem PySem.W.Fast.tw3656599194068176052 : True := trivial
theorem PySem.W.Fast.tw9595465128984835195 : True := trivial
theorem PySem.W.Fast.tw11998373961582509370 : True := trivial
theorem PySem.W.Fast.tw13108457249885728513 : True := trivial
theorem PySem.W.Fast.tw6233168061303023996 : True := trivial
theorem PySem.W.Fast.tw12898170983793309343 : True := trivial
theorem PySem.W.Fast.tw13532371012093493199 : True := trivial
theorem PySem.W.Fast.tw884027877220269961 : True := trivial
theorem PySem.W.Fast.tw9121684508727527160 : True := trivial
theorem PySem.W.Fast.tw16647983943311360988 : True := trivial
theorem PySem.W.Fast.tw9720235432248548370 : True := trivial
theorem PySem.W.Fast.tw11193929236686236807 : True := trivial
theorem PySem.W.Fast.tw11814944142182679371 : True := trivial
theorem PySem.W.Fast.tw10290245544904003533 : True := trivial
theorem PySem.W.Fast.tw14867737133459847382 : True := trivial
theorem PySem.W.Fast.tw14752146053272719214 : True := trivial
theorem PySem.W.Fast.tw9492170791652125485 : True := trivial
theorem PySem.W.Fast.tw6933425748152897350 : True := trivial
theorem PySem.W.Fast.tw14793307320963236153 : True := trivial
theorem PySem.W.Fast.tw3005202102313372645 : True := trivial
theorem PySem.W.Fast.tw15703869564447655853 : True := trivial
theorem PySem.W.Fast.tw12343127315622481927 : True := trivial
theorem PySem.W.Fast.tw14362588671842248105 : True := trivial
theorem PySem.W.Fast.tw17186894574626560262 : True := trivial
theorem PySem.W.Fast.tw15764231076005771899 : True := trivial
theorem PySem.W.Fast.tw15250943716428278778 : True := trivial
theorem PySem.W.Fast.tw2092750365975200005 : True := trivial
theorem PySem.W.Fast.tw9300360147340219000 : True := trivial
theorem PySem.W.Fast.tw17396200034747061057 : True := trivial
theorem PySem.W.Fast.tw5024611453055505854 : True := trivial
theorem PySem.W.Fast.tw5440631957753762329 : True := trivial
theorem PySem.W.Fast.tw14274680223858414881 : True := trivial
theorem PySem.W.Fast.tw1269293188994319576 : True := trivial
theorem PySem.W.Fast.tw9751490683152721505 : True := trivial
theorem PySem.W.Fast.tw15819230656970157175 : True := trivial
theorem PySem.W.Fast.tw2888101813280133612 : True := trivial
theorem PySem.W.Fast.tw5522572070448662710 : True := trivial
theorem PySem.W.Fast.tw17780474563615441708 : True := trivial
theorem PySem.W.Fast.tw11282398571065597329 : True := trivial
theorem PySem.W.Fast.tw9173653958093217855 : True := trivial
theorem PySem.W.Fast.tw12442497683912612066 : True := trivial
theorem PySem.W.Fast.tw3526229610622583714 : True := trivial
theorem PySem.W.Fast.tw11422886687546623361 : True := trivial
theorem PySem.W.Fast.tw13964880725043097125 : True := trivial
theorem PySem.W.Fast.tw1689889682047244315 : True := trivial
theorem PySem.W.Fast.tw16308238245981994589 : True := trivial
theorem PySem.W.Fast.tw15207338616498602874 : True := trivial
theorem PySem.W.Fast.tw14137971063442554598 : True := trivial
theorem PySem.W.Fast.tw8868801038213144248 : True := trivial
theorem PySem.W.Fast.tw17534933442178642560 : True := trivial
theorem PySem.W.Fast.tw3817007541258947673 : True := trivial
theorem PySem.W.Fast.tw7159152777243530222 : True := trivial
theorem PySem.W.Fast.tw16614133899960958386 : True := trivial
theorem PySem.W.Fast.tw15351408189127880683 : True := trivial
theorem PySem.W.Fast.tw8116675714586948726 : True := trivial
theorem PySem.W.Fast.tw353807318777991972 : True := trivial
theorem PySem.W.Fast.tw15077434619971416344 : True := trivial
theorem PySem.W.Fast.tw4799247863218919371 : True := trivial
theorem PySem.W.Fast.tw3654791403635571593 : True := trivial
theorem PySem.W.Fast.tw2373952146410387450 : True := trivial
theorem PySem.W.Fast.tw7777446323532157752 : True := trivial
theorem PySem.W.Fast.tw16111172698565250566 : True := trivial
theorem PySem.W.Fast.tw3675715697063173254 : True := trivial
theorem PySem.W.Fast.tw2728026658534062546 : True := trivial
theorem PySem.W.Fast.tw12233370862760544150 : True := trivial
theorem PySem.W.Fast.tw3427470798277769475 : True := trivial
theorem PySem.W.Fast.tw12326347043840699867 : True := trivial
theorem PySem.W.Fast.tw5215962971126845423 : True := trivial
theorem PySem.W.Fast.tw15231020280159392203 : True := trivial
theorem PySem.W.Fast.tw4947888297697723716 : True := trivial
theorem PySem.W.Fast.tw11674422456574206273 : True := trivial
theorem PySem.W.Fast.tw2788094189659976692 : True := trivial
theorem PySem.W.Fast.tw5792857043759288541 : True := trivial
theorem PySem.W.Fast.tw18014527273521823745 : True := trivial
theorem PySem.W.Fast.tw16322341744543692596 : True := trivial
theorem PySem.W.Fast.tw9663405666981429909 : True := trivial
theorem PySem.W.Fast.tw11488970782713644186 : True := trivial
theorem PySem.W.Fast.tw14497937395846943692 : True := trivial
theorem PySem.W.Fast.tw2076302833724353306 : True := trivial
theorem PySem.W.Fast.tw11685014872760345653 : True := trivial
theorem PySem.W.Fast.tw12271453653494051546 : True := trivial
theorem PySem.W.Fast.tw6205365698341439955 : True := trivial
theorem PySem.W.Fast.tw12746447082093852113 : True := trivial
theorem PySem.W.Fast.tw11015052641078719672 : True := trivial
theorem PySem.W.Fast.tw4888052018107968089 : True := trivial
theorem PySem.W.Fast.tw12685976622234353055 : True := trivial
theorem PySem.W.Fast.tw14142823024948134925 : True := trivial
theorem PySem.W.Fast.tw624859879286165 : True := trivial
theorem PySem.W.Fast.tw13237563296326209552 : True := trivial
theorem PySem.W.Fast.tw12016871591065965598 : True := trivial
theorem PySem.W.Fast.tw6437804606358715605 : True := trivial
theorem PySem.W.Fast.tw1604462987372550486 : True := trivial
theorem PySem.W.Fast.tw946394915884330329 : True := trivial
theorem PySem.W.Fast.tw11726868355675021917 : True := trivial
theorem PySem.W.Fast.tw7268538834856846984 : True := trivial
theorem PySem.W.Fast.tw9388360002502067079 : True := trivial
theorem PySem.W.Fast.tw3431679717522338447 : True := trivial
theorem PySem.W.Fast.tw4198706415124276762 : True := trivial
theorem PySem.W.Fast.tw7838044899462812222 : True := trivial
theorem PySem.W.Fast.tw2062606429503760420 : True := trivial
theorem PySem.W.Fast.tw13043458881854717614 : True := trivial
theorem PySem.W.Fast.tw18054410135397419735 : True := trivial
theorem PySem.W.Fast.tw5886432798003175501 : True := trivial
theorem PySem.W.Fast.tw6460479864002938514 : True := trivial
theorem PySem.W.Fast.tw7108430804061713164 : True := trivial
theorem PySem.W.Fast.tw11023882175056498950 : True := trivial
theorem PySem.W.Fast.tw7522834537582537508 : True := trivial
theorem PySem.W.Fast.tw11314162549549484195 : True := trivial
theorem PySem.W.Fast.tw16105806800764807663 : True := trivial
theorem PySem.W.Fast.tw3676319669915793629 : True := trivial
theorem PySem.W.Fast.tw13307648275597637018 : True := trivial
theorem PySem.W.Fast.tw14994348199053087055 : True := trivial
theorem PySem.W.Fast.tw15676882188416309271 : True := trivial
theorem PySem.W.Fast.tw1112284441950652880 : True := trivial
theorem PySem.W.Fast.tw10388946210016466561 : True := trivial
theorem PySem.W.Fast.tw9994573406962550161 : True := trivial
theorem PySem.W.Fast.tw4052841175602402447 : True := trivial
theorem PySem.W.Fast.tw3527408986282500655 : True := trivial
theorem PySem.W.Fast.tw2187144124069712045 : True := trivial
set_option maxRecDepth 100000 in
set_option maxHeartbeats 0 in
theorem PySem.Challenge.cw_inkroot_k46_forty_sheets_holds : PySem.Challenge.rw_inkroot_k46_forty_sheets.Holds := by
  w_on; o_law; k_head; (case hw => w_witness2)
  k_fill
  refine Ink.walk (l := PySem.Challenge.rw_inkroot_k46_forty_sheets) rfl rfl (fun w h Y => PySem.W.kIn_of Y) ?F
  case F =>
    intro w mg fa h KX G hmg
    refine' Ink.all_mk KX G hmg ?aCShelf ?pgShelf ?hdShelf ?poShelf ?saShelf ?mkShelf ?kcShelf ?noShelfstates ?noShelfopenings ?aCWell ?pgWell ?hdWell ?poWell ?saWell ?mkWell ?kcWell ?noWellsigns ?noWellowners ?noWellpourings ?aCBlots ?pgBlots ?hdBlots ?poBlots ?saBlots ?mkBlots ?kcBlots ?noBlotsstains ?aCTies ?pgTies ?hdTies ?poTies ?saTies ?mkTies ?kcTies ?noTiesgiven ?noTiespairs ?aCDues ?pgDues ?hdDues ?poDues ?saDues ?mkDues ?kcDues ?noDuessums ?aCLibrary ?pgLibrary ?hdLibrary ?poLibrary ?saLibrary ?mkLibrary ?kcLibrary ?noLibrarywell ?noLibraryshelf ?noLibraryblots ?noLibraryknots ?noLibrarydues ?noLibrarybook ?a0 ?l0 ?c0 ?k0 ?a1 ?l1 ?c1 ?k1 ?a2 ?l2 ?c2 ?k2 ?a3 ?l3 ?c3 ?k3 ?a4 ?l4 ?c4 ?k4 ?a5 ?l5 ?c5 ?k5 ?a6 ?l6 ?c6 ?k6 ?a7 ?l7 ?c7 ?k7 ?a8 ?l8 ?c8 ?k8 ?a9 ?l9 ?c9 ?k9 ?a10 ?l10 ?c10 ?k10 ?a11 ?l11 ?c11 ?k11 ?a12 ?l12 ?c12 ?k12 ?a13 ?l13 ?c13 ?k13 ?a14 ?l14 ?c14 ?k14 ?a15 ?l15 ?c15 ?k15 ?a16 ?l16 ?c16 ?k16 ?a17 ?l17 ?c17 ?k17 ?a18 ?i18 ?l18 ?c18 ?k18 ?a19 ?i19 ?l19 ?c19 ?k19 ?a20 ?i20 ?l20 ?c20 ?k20 ?a21 ?i21 ?l21 ?c21 ?k21 ?a22 ?i22 ?l22 ?c22 ?k22 ?a23 ?i23 ?l23 ?c23 ?k23 ?a24 ?i24 ?l24 ?c24 ?k24 ?a25 ?i25 ?l25 ?c25 ?k25 ?a26 ?i26 ?l26 ?c26 ?k26 ?a27 ?i27 ?l27 ?c27 ?k27 ?a28 ?i28 ?l28 ?c28 ?k28 ?a29 ?i29 ?l29 ?c29 ?k29 ?a30 ?i30 ?l30 ?c30 ?k30 ?a31 ?i31 ?l31 ?c31 ?k31 ?a32 ?l32 ?c32 ?k32 ?a33 ?i33 ?l33 ?c33 ?k33 ?a34 ?i34 ?l34 ?c34 ?k34 ?a35 ?i35 ?l35 ?c35 ?k35 ?a36 ?i36 ?l36 ?c36 ?k36 ?a37 ?i37 ?l37 ?c37 ?k37 ?a38 ?i38 ?l38 ?c38 ?k38 ?a39 ?i39 ?l39 ?c39 ?k39 ?a40 ?i40 ?l40 ?c40 ?k40 ?a41 ?i41 ?l41 ?c41 ?k41 ?a42 ?i42 ?l42 ?c42 ?k42 ?a43 ?i43 ?l43 ?c43 ?k43 ?a44 ?l44 ?c44 ?k44 ?a45 ?l45 ?c45 ?k45 ?a46 ?l46 ?c46 ?k46 ?z0 ?z1 ?z2 ?z3 ?z4 ?z5 ?z6 ?z7 ?z8 ?z9 ?xmNoSheet ?xxNoSheet ?xhNoSheet ?xmNoMoment ?xxNoMoment ?xhNoMoment ?xmTooMany ?xxTooMany ?xhTooMany ?gvMOST_SHEETS ?gvMOST_WEIGHT ?amsize_spans ?amshown_weave ?xn0 ?xn1 ?xn2
    (case aCShelf => k_is)
    (case pgShelf => k_is)
    (case hdShelf => k_is)
    (case poShelf => k_is)
    (case saShelf => k_is)
    (case mkShelf => k_is)
    (case kcShelf => k_is)
    (case noShelfstates => k_is)
    (case noShelfopenings => k_is)
    (case aCWell => k_is)
    (case pgWell => k_is)
    (case hdWell => k_is)
    (case poWell => k_is)
    (case saWell => k_is)
    (case mkWell => k_is)
    (case kcWell => k_is)
    (case noWellsigns => k_is)
    (case noWellowners => k_is)
    (case noWellpourings => k_is)
    (case aCBlots => k_is)
    (case pgBlots => k_is)
    (case hdBlots => k_is)
    (case poBlots => k_is)
    (case saBlots => k_is)
    (case mkBlots => k_is)
    (case kcBlots => k_is)
    (case noBlotsstains => k_is)
    (case aCTies => k_is)
    (case pgTies => k_is)
    (case hdTies => k_is)
    (case poTies => k_is)
    (case saTies => k_is)
    (case mkTies => k_is)
    (case kcTies => k_is)
    (case noTiesgiven => k_is)
    (case noTiespairs => k_is)
    (case aCDues => k_is)
    (case pgDues => k_is)
    (case hdDues => k_is)
    (case poDues => k_is)
    (case saDues => k_is)
    (case mkDues => k_is)
    (case kcDues => k_is)
    (case noDuessums => k_is)
    (case aCLibrary => k_is)
    (case pgLibrary => k_is)
    (case hdLibrary => k_is)
    (case poLibrary => k_is)
    (case saLibrary => k_is)
    (case mkLibrary => k_is)
    (case kcLibrary => k_is)
    (case noLibrarywell => k_is)
    (case noLibraryshelf => k_is)
    (case noLibraryblots => k_is)
    (case noLibraryknots => k_is)
    (case noLibrarydues => k_is)
    (case noLibrarybook => k_is)
    (case a0 => k_is)
    (case l0 => k_is)
    (case c0 => k_is)
    (case k0 => k_is)
    (case a1 => k_is)
    (case l1 => k_is)
    (case c1 => k_is)
    (case k1 => k_is)
    (case a2 => k_is)
    (case l2 => k_is)
    (case c2 => k_is)
    (case k2 => k_is)
    (case a3 => k_is)
    (case l3 => k_is)
    (case c3 => k_is)
    (case k3 => k_is)
    (case a4 => k_is)
    (case l4 => k_is)
    (case c4 => k_is)
    (case k4 => k_is)
    (case a5 => k_is)
    (case l5 => k_is)
    (case c5 => k_is)
    (case k5 => k_is)
    (case a6 => k_is)
    (case l6 => k_is)
    (case c6 => k_is)
    (case k6 => k_is)
    (case a7 => k_is)
    (case l7 => k_is)
    (case c7 => k_is)
    (case k7 => k_is)
    (case a8 => k_is)
    (case l8 => k_is)
    (case c8 => k_is)
    (case k8 => k_is)
    (case a9 => k_is)
    (case l9 => k_is)
    (case c9 => k_is)
    (case k9 => k_is)
    (case a10 => k_is)
    (case l10 => k_is)
    (case c10 => k_is)
    (case k10 => k_is)
    (case a11 => k_is)
    (case l11 => k_is)
    (case c11 => k_is)
    (case k11 => k_is)
    (case a12 => k_is)
    (case l12 => k_is)
    (case c12 => k_is)
    (case k12 => k_is)
    (case a13 => k_is)
    (case l13 => k_is)
    (case c13 => k_is)
    (case k13 => k_is)
    (case a14 => k_is)
    (case l14 => k_is)
    (case c14 => k_is)
    (case k14 => k_is)
    (case a15 => k_is)
    (case l15 => k_is)
    (case c15 => k_is)
    (case k15 => k_is)
    (case a16 => k_is)
    (case l16 => k_is)
    (case c16 => k_is)
    (case k16 => k_is)
    (case a17 => k_is)
    (case l17 => k_is)
    (case c17 => k_is)
    (case k17 => k_is)
    (case a18 => k_is)
    (case i18 => k_is)
    (case l18 => k_is)
    (case c18 => k_is)
    (case k18 => k_is)
    (case a19 => k_is)
    (case i19 => k_is)
    (case l19 => k_is)
    (case c19 => k_is)
    (case k19 => k_is)
    (case a20 => k_is)
    (case i20 => k_is)
    (case l20 => k_is)
    (case c20 => k_is)
    (case k20 => k_is)
    (case a21 => k_is)
    (case i21 => k_is)
    (case l21 => k_is)
    (case c21 => k_is)
    (case k21 => k_is)
    (case a22 => k_is)
    (case i22 => k_is)
    (case l22 => k_is)
    (case c22 => k_is)
    (case k22 => k_is)
    (case a23 => k_is)
    (case i23 => k_is)
    (case l23 => k_is)
    (case c23 => k_is)
    (case k23 => k_is)
    (case a24 => k_is)
    (case i24 => k_is)
    (case l24 => k_is)
    (case c24 => k_is)
    (case k24 => k_is)
    (case a25 => k_is)
    (case i25 => k_is)
    (case l25 => k_is)
    (case c25 => k_is)
    (case k25 => k_is)
    (case a26 => k_is)
    (case i26 => k_is)
    (case l26 => k_is)
    (case c26 => k_is)
    (case k26 => k_is)
    (case a27 => k_is)
    (case i27 => k_is)
    (case l27 => k_is)
    (case c27 => k_is)
    (case k27 => k_is)
    (case a28 => k_is)
    (case i28 => k_is)
    (case l28 => k_is)
    (case c28 => k_is)
    (case k28 => k_is)
    (case a29 => k_is)
    (case i29 => k_is)
    (case l29 => k_is)
    (case c29 => k_is)
    (case k29 => k_is)
    (case a30 => k_is)
    (case i30 => k_is)
    (case l30 => k_is)
    (case c30 => k_is)
    (case k30 => k_is)
    (case a31 => k_is)
    (case i31 => k_is)
    (case l31 => k_is)
    (case c31 => k_is)
    (case k31 => k_is)
    (case a32 => k_is)
    (case l32 => k_is)
    (case c32 => k_is)
    (case k32 => k_is)
    (case a33 => k_is)
    (case i33 => k_is)
    (case l33 => k_is)
    (case c33 => k_is)
    (case k33 => k_is)
    (case a34 => k_is)
    (case i34 => k_is)
    (case l34 => k_is)
    (case c34 => k_is)
    (case k34 => k_is)
    (case a35 => k_is)
    (case i35 => k_is)
    (case l35 => k_is)
    (case c35 => k_is)
    (case k35 => k_is)
    (case a36 => k_is)
    (case i36 => k_is)
    (case l36 => k_is)
    (case c36 => k_is)
    (case k36 => k_is)
    (case a37 => k_is)
    (case i37 => k_is)
    (case l37 => k_is)
    (case c37 => k_is)
    (case k37 => k_is)
    (case a38 => k_is)
    (case i38 => k_is)
    (case l38 => k_is)
    (case c38 => k_is)
    (case k38 => k_is)
    (case a39 => k_is)
    (case i39 => k_is)
    (case l39 => k_is)
    (case c39 => k_is)
    (case k39 => k_is)
    (case a40 => k_is)
    (case i40 => k_is)
    (case l40 => k_is)
    (case c40 => k_is)
    (case k40 => k_is)
    (case a41 => k_is)
    (case i41 => k_is)
    (case l41 => k_is)
    (case c41 => k_is)
    (case k41 => k_is)
    (case a42 => k_is)
    (case i42 => k_is)
    (case l42 => k_is)
    (case c42 => k_is)
    (case k42 => k_is)
    (case a43 => k_is)
    (case i43 => k_is)
    (case l43 => k_is)
    (case c43 => k_is)
    (case k43 => k_is)
    (case a44 => k_is)
    (case l44 => k_is)
    (case c44 => k_is)
    (case k44 => k_is)
    (case a45 => k_is)
    (case l45 => k_is)
    (case c45 => k_is)
    (case k45 => k_is)
    (case a46 => k_is)
    (case l46 => k_is)
    (case c46 => k_is)
    (case k46 => k_is)
    (case z0 => k_is)
    (case z1 => k_is)
    (case z2 => k_is)
    (case z3 => k_is)
    (case z4 => k_is)
    (case z5 => k_is)
    (case z6 => k_is)
    (case z7 => k_is)
    (case z8 => k_is)
    (case z9 => k_is)
    (case xmNoSheet => k_is)
    (case xxNoSheet => k_exc)
    (case xhNoSheet => kts_exm)
    (case xmNoMoment => k_is)
    (case xxNoMoment => k_exc)
    (case xhNoMoment => kts_exm)
    (case xmTooMany => k_is)
    (case xxTooMany => k_exc)
    (case xhTooMany => kts_exm)
    (case gvMOST_SHEETS => k_is)
    (case gvMOST_WEIGHT => k_is)
    (case amsize_spans => k_is)
    (case amshown_weave => k_is)
    (case xn0 => kts_exm)
    (case xn1 => kts_exm)
    (case xn2 => kts_exm)
